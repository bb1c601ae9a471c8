/- The document's own tracker: an access that is nobody's. -/
import Derived.Test.YtfmmmiiohaaegaaRacc
import Derived.BigRegion
namespace Go.Proofs.Ytfmmmiiohaaegaa
open Go.RowKit Go.Maps
set_option linter.unusedVariables false

theorem RSat.looked {w w' : World} {q qt : Nat} {v : Value} {M : Nat → Prop} {c : Cf} {t : Tr} {es : List En} (h : RSat w q qt v M c t) (r : RT w' qt (fun g => (M g ∧ g ≠ q ∧ g ≠ qt) ∨ w.heap.size ≤ g) c.size c.life es) (o : Only (fun k => k = qt) w w') :
    RSat w' q qt v (fun g => M g ∨ (w.heap.size ≤ g ∧ g < w'.heap.size)) c ⟨t.ss, es, t.uses, t.begun⟩ := by
  have lq := h.row.lt
  have lt := h.tab.lt
  have zz := o.size
  refine ⟨o.row h.row h.ne, ⟨(h.own.keep' o (fun g hg => h.gt hg)).1, fun g hg => .inl (h.own.2 g hg)⟩, r.mono (fun g _ k => ?_) (fun k => ?_) (fun g hg => .inr hg), .inl h.mt, .inl h.mq, h.ne, fun g hg => ?_⟩
  · rcases k with k | k
    · exact .inl ⟨.inl k.1, k.2⟩
    · by_cases e : g < w'.heap.size
      · exact .inl ⟨.inr ⟨k, e⟩, by omega, by omega⟩
      · exact .inr (by omega)
  · rcases k with k | k
    · exact k.2.2 rfl
    · omega
  · rcases hg with hg | hg
    · exact Nat.lt_of_lt_of_le (h.lt g hg) zz
    · exact hg.2

set_option maxRecDepth 100000 in
set_option maxHeartbeats 4000000 in
theorem racc_none {q : Nat} {M : Nat → Prop} {c : Cf} {t : Tr} (f n : Int) (w : World) (h : RS w q M c t) (hf : Fine10 c t) (hu : t.uses ≤ 900) (hm : mayAcc c.blk f n = true) (ht : topOf t.ss f = none) (hb : lookB c.size c.life t.es f n = false) :
    Calls Try.prog 13 #[.pointer (some ⟨q, 0, none⟩), .int .i64 f, .int .i64 n] w fun e w' => raccTwo c t f n e w q M w' := by
  have hn : 1 ≤ n ∧ n ≤ 8 ∧ 0 ≤ f ∧ f + n ≤ c.blk := mayAcc_iff.1 hm
  have B := hf.ok.b256
  have few := hf.few
  have m16 := hf.ok.m16
  have hbu := hf.beg
  obtain ⟨qt, v, h⟩ := h
  obtain ⟨A0, cap0, rfl, hold0, ha0⟩ := h.own.form
  have H0 := Lib.hid (h.keep (S := none_) ((Only.refl none_ w).alloc (.cells #[.int .i64 0, .int .i64 0, .int .i64 0] 38)) (fun _ _ s => s))
  have RX := Lib.hid (Row.fresh w 38 #[.int .i64 0, .int .i64 0, .int .i64 0])
  have oa := Lib.hid ((Only.refl M w).alloc (.cells #[.int .i64 0, .int .i64 0, .int .i64 0] 38))
  have ML := Lib.hid h.lt
  have c6 : (w.alloc (.cells #[.int .i64 0, .int .i64 0, .int .i64 0] 38)).cell? ⟨q, 6, none⟩ = some (.int .i64 c.blk) := by rw [H0.out.row.cell]; rfl
  have c2 : (w.alloc (.cells #[.int .i64 0, .int .i64 0, .int .i64 0] 38)).cell? ⟨q, 2, none⟩ = some (.int .i64 t.uses) := by rw [H0.out.row.cell]; rfl
  have z2 : (w.alloc (.cells #[.int .i64 0, .int .i64 0, .int .i64 0] 38)).frozen? ⟨q, 2, none⟩ = false := H0.out.row.frozen 2
  have d0 : decide (n < 1) = false := by simp; omega
  have d1 : decide (8 < n) = false := by simp; omega
  have d2 : decide (f < 0) = false := by simp; omega
  have d3 : decide ((c.blk : Int) ≤ f) = false := by simp; omega
  have hw : IntKind.i64.wrap (f + n) = f + n := by rw [IntKind.wrap_i64]; omega
  have d4 : decide ((c.blk : Int) < f + n) = false := by simp; omega
  have hw2 : IntKind.i64.wrap ((t.uses : Int) + 1) = (t.uses : Int) + 1 := by rw [IntKind.wrap_i64]; omega
  have hll : t.ss.length ≤ 16 := by omega
  have HM := Lib.hid hm
  have HF := Lib.hid hf
  have HN := Lib.hid hn
  have lq0 := Lib.hid (Nat.lt_of_lt_of_le h.row.lt (oa.out.size))
  clear h hf hm hn hold0
  go_enter Try.func13, Try.ntmps13
  go_wp2_with fail
  obtain ⟨x0, hx0⟩ : ∃ x0, w.heap.size = x0 := ⟨_, rfl⟩
  rw [hx0] at RX ML ⊢
  have LX := Lib.hid hx0
  have H1 := Lib.hid H0.out.more
  have O1 := Lib.hid (oa.out.into H0.out.mq 2 (.int .i64 ((t.uses : Int) + 1)))
  have nq : x0 ≠ q := fun e => by have := ML.out q H0.out.mq; omega
  have RX1 := Lib.hid (RX.out.far (p := ⟨q, 2, none⟩) nq (.int .i64 ((t.uses : Int) + 1)))
  clear hx0 c6 c2 z2 H0 RX oa d0 d1 d2 d3 d4 hw hw2 lq0
  generalize (w.alloc (.cells #[.int .i64 0, .int .i64 0, .int .i64 0] 38)).setCell ⟨q, 2, none⟩ (.int .i64 ((t.uses : Int) + 1)) = w1 at *
  have HC := Lib.hid (fun w' (o : Only none_ w1 w') => (show w'.cell? ⟨q, 0, none⟩ = some (.slice A0 t.ss.length cap0) from by rw [(o.still H1.out.row).cell]; rfl))
  have HS := Lib.hid (fun w' (o : Only none_ w1 w') => OwnsSm.form (OwnsSm.still H1.out.own o))
  go_loopw [8, 9] (fun a i wr => ∃ (k : Nat) (av gv : Int), k ≤ t.ss.length ∧ i = .int .i64 k ∧ a = .int .i64 av ∧ Best (fun s => s.used) (fits f) t.ss k av gv ∧ Only none_ w1 wr) (fun _ i _ => t.ss.length - (intOf i).toNat)
  case atStart => exact ⟨0, -1, 0, Nat.zero_le _, rfl, rfl, Best.start _ _ _, Only.refl _ _⟩
  case round =>
    obtain ⟨k, av, gv, hk, rfl, rfl, hb, ho⟩ := hrel
    have HB := Lib.hid hb
    have OO := Lib.hid ho
    clear hb ho
    have s0 := HC.out _ OO.out
    by_cases hlt : k < t.ss.length
    · obtain ⟨y, hy⟩ : ∃ y, t.ss[k]? = some y := ⟨_, List.getElem?_eq_getElem hlt⟩
      obtain ⟨A', cap', hv', hh, ha⟩ := HS.out _ OO.out
      obtain ⟨g, hA, lg, hcap, hmx, hMg⟩ := ha (fun e => by rw [e] at hlt; exact absurd hlt (Nat.not_lt_zero _))
      injection hv' with hv1 hv2 hv3
      subst hA hv3
      subst hv1
      have OW : Owns wr 0 59 6 Sm.cells (.slice (some ⟨g, 0, none⟩) t.ss.length cap0) t.ss := H1.out.own.1.still OO.out
      obtain ⟨_, y1, _, _, _, y5⟩ := OW.six10 hy
      have HY := Lib.hid hy
      by_cases e0 : y.f.n = f
      · have t0 : (y.f.n == f) = true := by simp [e0]
        have hfit : fits f y = true := t0
        rcases HB.out with ⟨h1, h2⟩ | ⟨j, z, h1, h2, h3, h4, h5, h6, h7⟩
        · have d1 : decide (av < 0) = true := by simp; omega
          have NX := Lib.hid (HB.out.more HY.out hfit (.inl h1))
          clear hy hh ha h1 h2 OW e0 hfit hv2 HB
          go_wp2_with fail
          go_quiet (fail)
          go_wp2_with fail
          go_roundw
          case rel => exact ⟨k + 1, k, y.used, by omega, by go_num, rfl, NX.out, OO.out.drewN _⟩
          case measure => simp [intOf]; omega
        · have d1 : decide (av < 0) = false := by simp; omega
          obtain ⟨_, _, _, _, _, z5⟩ := OW.six10 h3
          subst h1
          have hav : ((j : Int) ≠ -1) := by omega
          by_cases hg : z.used < y.used
          · have d2 : decide ((z.used : Int) < (y.used : Int)) = true := by simp; omega
            have NX := Lib.hid (HB.out.more HY.out hfit (.inr (by rw [h4]; exact Int.ofNat_lt.2 hg)))
            clear hy hh ha h3 h4 h5 h6 h7 OW e0 hfit hv2 HB hav
            go_wp2_with fail
            go_quiet (fail)
            go_wp2_with fail
            go_roundw
            case rel => exact ⟨k + 1, k, y.used, by omega, by go_num, rfl, NX.out, OO.out.drewN _⟩
            case measure => simp [intOf]; omega
          · have d2 : decide ((z.used : Int) < (y.used : Int)) = false := by simp; omega
            have NX := Lib.hid (HB.out.less HY.out hav (by rw [h4]; exact Int.ofNat_le.2 (Nat.le_of_not_lt hg)))
            clear hy hh ha h3 h4 h5 h6 h7 OW e0 hfit hv2 HB hav
            go_wp2_with fail
            go_quiet (fail)
            go_wp2_with fail
            go_roundw
            case rel => exact ⟨k + 1, j, gv, by omega, by go_num, rfl, NX.out, OO.out.drewN _⟩
            case measure => simp [intOf]; omega
      · have t0 : (y.f.n == f) = false := by simp [e0]
        have NX := Lib.hid (HB.out.no HY.out t0)
        clear hy hh ha OW e0 hv2 HB
        go_wp2_with fail
        go_quiet (fail)
        go_wp2_with fail
        go_roundw
        case rel => exact ⟨k + 1, av, gv, by omega, by go_num, rfl, NX.out, OO.out.drewN _⟩
        case measure => simp [intOf]; omega
    · have e : k = t.ss.length := by omega
      subst e
      have AV := Lib.hid (best_top HF.out.rank.apart HB.out)
      have HT := Lib.hid (H1.out.keep OO.out (fun _ _ s => s))
      have RXT := Lib.hid (OO.out.still RX1.out)
      have OT := Lib.hid (O1.out.idle OO.out)
      obtain ⟨wt, hwt⟩ : ∃ wt, wt = wr := ⟨_, rfl⟩
      rw [← hwt] at HT RXT OT s0 ⊢
      clear hwt OO HB HC HS H1 O1 RX1 hk hlt
      rw [ht] at AV
      obtain rfl := AV.out
      simp only [placeI]
      have LK := Lib.hid (rlook_any qt c.size c.life _ t.es f n wt HT.out.tab HF.out.tab)
      rw [hb] at LK
      have q1 : wt.cell? ⟨q, 1, none⟩ = some (.pointer (some ⟨qt, 0, none⟩)) := by rw [HT.out.row.cell]; rfl
      clear AV
      go_wp2_with fail
      (with_reducible refine LK.out.mono ?_)
      rintro e w2 ⟨rfl, hr2, o2⟩
      have H2 := Lib.hid (HT.out.looked hr2 o2)
      have O2 := Lib.hid (OT.out.trans o2 (fun j _ e => by subst e; exact HT.out.mt))
      have lx := RXT.out.lt
      have NX0 := Lib.hid (show ¬ M x0 from fun k => by have := ML.out x0 k; omega)
      have RX2 := Lib.hid (o2.row RXT.out (fun e => NX0.out (e ▸ HT.out.mt)))
      have ZT := Lib.hid OT.out.size
      obtain ⟨M2, hM2⟩ : ∃ M2, M2 = fun g => M g ∨ (wt.heap.size ≤ g ∧ g < w2.heap.size) := ⟨_, rfl⟩
      rw [← hM2] at H2
      have NX2 := Lib.hid (show ¬ M2 x0 from fun k => by rw [hM2] at k; rcases k with k | k; exact NX0.out k; omega)
      have MM2 := Lib.hid (show ∀ g, M2 g → M g ∨ w.heap.size ≤ g from fun g k => by rw [hM2] at k; have := ZT.out; rcases k with k | k; exact .inl k; exact .inr (by omega))
      have MU2 := Lib.hid (show ∀ g, M g → M2 g from fun g k => by rw [hM2]; exact .inl k)
      clear hr2 o2 LK q1 lx s0 HT OT RXT hM2
      obtain ⟨x1, x2, x3⟩ := RX2.out.three
      have zx := fun j => RX2.out.frozen j
      have A := Lib.hid (show accI c t f n = 0 ∧ accR c t f n = ⟨0, 0⟩ ∧ accC c.blk f n = 0 ∧ accS c t f n = ⟨t.ss, lookT c.size c.life t.es f n, t.uses + 1, t.begun⟩ from by
        unfold accI accR accC accS; rw [if_pos HM.out, if_pos HM.out, if_pos HM.out, if_pos HM.out, ht]; dsimp only; rw [hb]; exact ⟨rfl, rfl, rfl, rfl⟩)
      clear ht hb
      go_wp2_with fail
      have E4 := Lib.hid (((RX2.out.put 0 (.int .i64 0)).put 1 (.int .i64 0)).put 2 (.int .i64 0))
      have OX := (((Only.refl (fun j => j = x0) w2).into rfl 0 (.int .i64 0)).into rfl 1 (.int .i64 0)).into rfl 2 (.int .i64 0)
      have H4 := Lib.hid (H2.out.keep OX (fun j hj e => NX2.out (e ▸ hj)))
      have O4 := Lib.hid (O2.out.trans OX (fun j hj e => by have := LX.out; omega))
      clear OX H2 O2 RX2 x1 x2 x3 zx
      generalize ((w2.setCell ⟨x0, 0, none⟩ (.int .i64 0)).setCell ⟨x0, 1, none⟩ (.int .i64 0)).setCell ⟨x0, 2, none⟩ (.int .i64 0) = w4 at *
      obtain ⟨y1, y2, y3⟩ := (show Row w4 x0 38 #[.int .i64 0, .int .i64 0, .int .i64 0] from E4.out).three
      refine bodyPost_ret (v := .tuple #[.agg #[.int .i64 0, .int .i64 0, .int .i64 0], .int .i64 0]) (by simp [results, Try.results13, go_sem, y1, y2, y3]) rfl ⟨by unfold Acc; rw [A.out.1, A.out.2.1, A.out.2.2.1]; rfl, ?_⟩
      rw [A.out.2.2.2]
      exact ⟨⟨M2, ⟨qt, _, H4.out⟩, MM2.out⟩, O4.out⟩
end Go.Proofs.Ytfmmmiiohaaegaa
