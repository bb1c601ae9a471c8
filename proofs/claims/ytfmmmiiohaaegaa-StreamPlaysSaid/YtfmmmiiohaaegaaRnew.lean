/- The document's own tracker: a new stream, where there is room. -/
import Derived.Test.YtfmmmiiohaaegaaRnone
import Derived.BigRegion
import Derived.Deep.RegionLaw
import Derived.Test.YtfmmmiiohaaegaaR23
namespace Go.Proofs.Ytfmmmiiohaaegaa
open Go.RowKit Go.Maps
set_option linter.unusedVariables false

theorem RSat.block {w : World} {q qt : Nat} {v : Value} {M : Nat → Prop} {c : Cf} {t : Tr} (h : RSat w q qt v M c t) (hv : v ≠ .slice none 0 0) : ∃ g n cap, v = .slice (some ⟨g, 0, none⟩) n cap ∧ M g := by
  rcases h.own.1.2 with ⟨hv', _⟩ | ⟨g, cap, cur, hv', _⟩
  · exact absurd hv' hv
  · exact ⟨g, _, cap, hv', h.own.2 g (by rw [hv']; rfl)⟩

set_option maxRecDepth 100000 in
set_option maxHeartbeats 4000000 in
theorem racc_new {q : Nat} {M : Nat → Prop} {c : Cf} {t : Tr} (f n : Int) (w : World) (h : RS w q M c t) (hf : Fine10 c t) (hu : t.uses ≤ 900) (hm : mayAcc c.blk f n = true) (ht : topOf t.ss f = none) (hb : lookB c.size c.life t.es f n = true) (hno : ¬ c.most ≤ t.ss.length) (hv : ∀ qt v, RSat w q qt v M c t → v ≠ .slice none 0 0) :
    Calls Try.prog 13 #[.pointer (some ⟨q, 0, none⟩), .int .i64 f, .int .i64 n] w fun e w' => raccTwo c t f n e w q M w' := by
  have hn : 1 ≤ n ∧ n ≤ 8 ∧ 0 ≤ f ∧ f + n ≤ c.blk := mayAcc_iff.1 hm
  have B := hf.ok.b256
  have few := hf.few
  have m16 := hf.ok.m16
  have hbu := hf.beg
  obtain ⟨qt, v, h⟩ := h
  have hv0 := Lib.hid (hv _ _ h)
  obtain ⟨A0, cap0, rfl, hold0, ha0⟩ := h.own.form
  have H0 := Lib.hid (h.keep (S := none_) ((Only.refl none_ w).alloc (.cells #[.int .i64 0, .int .i64 0, .int .i64 0] 38)) (fun _ _ s => s))
  have RX := Lib.hid (Row.fresh w 38 #[.int .i64 0, .int .i64 0, .int .i64 0])
  have oa := Lib.hid ((Only.refl M w).alloc (.cells #[.int .i64 0, .int .i64 0, .int .i64 0] 38))
  have ML := Lib.hid h.lt
  have c6 : (w.alloc (.cells #[.int .i64 0, .int .i64 0, .int .i64 0] 38)).cell? ⟨q, 6, none⟩ = some (.int .i64 c.blk) := by rw [H0.out.row.cell]; rfl
  have c2 : (w.alloc (.cells #[.int .i64 0, .int .i64 0, .int .i64 0] 38)).cell? ⟨q, 2, none⟩ = some (.int .i64 t.uses) := by rw [H0.out.row.cell]; rfl
  have z2 : (w.alloc (.cells #[.int .i64 0, .int .i64 0, .int .i64 0] 38)).frozen? ⟨q, 2, none⟩ = false := H0.out.row.frozen 2
  have d0 : decide (n < 1) = false := by simp; omega
  have d1 : decide (8 < n) = false := by simp; omega
  have d2 : decide (f < 0) = false := by simp; omega
  have d3 : decide ((c.blk : Int) ≤ f) = false := by simp; omega
  have hw : IntKind.i64.wrap (f + n) = f + n := by rw [IntKind.wrap_i64]; omega
  have d4 : decide ((c.blk : Int) < f + n) = false := by simp; omega
  have hw2 : IntKind.i64.wrap ((t.uses : Int) + 1) = (t.uses : Int) + 1 := by rw [IntKind.wrap_i64]; omega
  have hll : t.ss.length ≤ 16 := by omega
  have HM := Lib.hid hm
  have HF := Lib.hid hf
  have HN := Lib.hid hn
  have lq0 := Lib.hid (Nat.lt_of_lt_of_le h.row.lt (oa.out.size))
  clear h hf hm hn hold0
  go_enter Try.func13, Try.ntmps13
  go_wp2_with fail
  obtain ⟨x0, hx0⟩ : ∃ x0, w.heap.size = x0 := ⟨_, rfl⟩
  rw [hx0] at RX ML ⊢
  have LX := Lib.hid hx0
  have H1 := Lib.hid H0.out.more
  have O1 := Lib.hid (oa.out.into H0.out.mq 2 (.int .i64 ((t.uses : Int) + 1)))
  have nq : x0 ≠ q := fun e => by have := ML.out q H0.out.mq; omega
  have RX1 := Lib.hid (RX.out.far (p := ⟨q, 2, none⟩) nq (.int .i64 ((t.uses : Int) + 1)))
  clear hx0 c6 c2 z2 H0 RX oa d0 d1 d2 d3 d4 hw hw2 lq0
  generalize (w.alloc (.cells #[.int .i64 0, .int .i64 0, .int .i64 0] 38)).setCell ⟨q, 2, none⟩ (.int .i64 ((t.uses : Int) + 1)) = w1 at *
  have HC := Lib.hid (fun w' (o : Only none_ w1 w') => (show w'.cell? ⟨q, 0, none⟩ = some (.slice A0 t.ss.length cap0) from by rw [(o.still H1.out.row).cell]; rfl))
  have HS := Lib.hid (fun w' (o : Only none_ w1 w') => OwnsSm.form (OwnsSm.still H1.out.own o))
  go_loopw [8, 9] (fun a i wr => ∃ (k : Nat) (av gv : Int), k ≤ t.ss.length ∧ i = .int .i64 k ∧ a = .int .i64 av ∧ Best (fun s => s.used) (fits f) t.ss k av gv ∧ Only none_ w1 wr) (fun _ i _ => t.ss.length - (intOf i).toNat)
  case atStart => exact ⟨0, -1, 0, Nat.zero_le _, rfl, rfl, Best.start _ _ _, Only.refl _ _⟩
  case round =>
    obtain ⟨k, av, gv, hk, rfl, rfl, hb, ho⟩ := hrel
    have HB := Lib.hid hb
    have OO := Lib.hid ho
    clear hb ho
    have s0 := HC.out _ OO.out
    by_cases hlt : k < t.ss.length
    · obtain ⟨y, hy⟩ : ∃ y, t.ss[k]? = some y := ⟨_, List.getElem?_eq_getElem hlt⟩
      obtain ⟨A', cap', hv', hh, ha⟩ := HS.out _ OO.out
      obtain ⟨g, hA, lg, hcap, hmx, hMg⟩ := ha (fun e => by rw [e] at hlt; exact absurd hlt (Nat.not_lt_zero _))
      injection hv' with hv1 hv2 hv3
      subst hA hv3
      subst hv1
      have OW : Owns wr 0 59 6 Sm.cells (.slice (some ⟨g, 0, none⟩) t.ss.length cap0) t.ss := H1.out.own.1.still OO.out
      obtain ⟨_, y1, _, _, _, y5⟩ := OW.six10 hy
      have HY := Lib.hid hy
      by_cases e0 : y.f.n = f
      · have t0 : (y.f.n == f) = true := by simp [e0]
        have hfit : fits f y = true := t0
        rcases HB.out with ⟨h1, h2⟩ | ⟨j, z, h1, h2, h3, h4, h5, h6, h7⟩
        · have d1 : decide (av < 0) = true := by simp; omega
          have NX := Lib.hid (HB.out.more HY.out hfit (.inl h1))
          clear hy hh ha h1 h2 OW e0 hfit hv2 HB
          go_wp2_with fail
          go_quiet (fail)
          go_wp2_with fail
          go_roundw
          case rel => exact ⟨k + 1, k, y.used, by omega, by go_num, rfl, NX.out, OO.out.drewN _⟩
          case measure => simp [intOf]; omega
        · have d1 : decide (av < 0) = false := by simp; omega
          obtain ⟨_, _, _, _, _, z5⟩ := OW.six10 h3
          subst h1
          have hav : ((j : Int) ≠ -1) := by omega
          by_cases hg : z.used < y.used
          · have d2 : decide ((z.used : Int) < (y.used : Int)) = true := by simp; omega
            have NX := Lib.hid (HB.out.more HY.out hfit (.inr (by rw [h4]; exact Int.ofNat_lt.2 hg)))
            clear hy hh ha h3 h4 h5 h6 h7 OW e0 hfit hv2 HB hav
            go_wp2_with fail
            go_quiet (fail)
            go_wp2_with fail
            go_roundw
            case rel => exact ⟨k + 1, k, y.used, by omega, by go_num, rfl, NX.out, OO.out.drewN _⟩
            case measure => simp [intOf]; omega
          · have d2 : decide ((z.used : Int) < (y.used : Int)) = false := by simp; omega
            have NX := Lib.hid (HB.out.less HY.out hav (by rw [h4]; exact Int.ofNat_le.2 (Nat.le_of_not_lt hg)))
            clear hy hh ha h3 h4 h5 h6 h7 OW e0 hfit hv2 HB hav
            go_wp2_with fail
            go_quiet (fail)
            go_wp2_with fail
            go_roundw
            case rel => exact ⟨k + 1, j, gv, by omega, by go_num, rfl, NX.out, OO.out.drewN _⟩
            case measure => simp [intOf]; omega
      · have t0 : (y.f.n == f) = false := by simp [e0]
        have NX := Lib.hid (HB.out.no HY.out t0)
        clear hy hh ha OW e0 hv2 HB
        go_wp2_with fail
        go_quiet (fail)
        go_wp2_with fail
        go_roundw
        case rel => exact ⟨k + 1, av, gv, by omega, by go_num, rfl, NX.out, OO.out.drewN _⟩
        case measure => simp [intOf]; omega
    · have e : k = t.ss.length := by omega
      subst e
      have AV := Lib.hid (best_top HF.out.rank.apart HB.out)
      have HT := Lib.hid (H1.out.keep OO.out (fun _ _ s => s))
      have RXT := Lib.hid (OO.out.still RX1.out)
      have OT := Lib.hid (O1.out.idle OO.out)
      obtain ⟨wt, hwt⟩ : ∃ wt, wt = wr := ⟨_, rfl⟩
      rw [← hwt] at HT RXT OT s0 ⊢
      clear hwt OO HB HC HS H1 O1 RX1 hk hlt
      obtain ⟨g, n', cap', hvv, hMg⟩ := HT.out.block hv0.out
      injection hvv with e1 e2 e3
      subst e1
      have QM := Lib.hid (show M q from HT.out.mq)
      clear hv0 hv e2 e3
      rw [ht] at AV
      obtain rfl := AV.out
      simp only [placeI]
      have LK := Lib.hid (rlook_any qt c.size c.life _ t.es f n wt HT.out.tab HF.out.tab)
      rw [hb] at LK
      have q1 : wt.cell? ⟨q, 1, none⟩ = some (.pointer (some ⟨qt, 0, none⟩)) := by rw [HT.out.row.cell]; rfl
      clear AV
      go_wp2_with fail
      (with_reducible refine LK.out.mono ?_)
      rintro e w2 ⟨rfl, hr2, o2⟩
      have H2 := Lib.hid (HT.out.looked hr2 o2)
      have O2 := Lib.hid (OT.out.trans o2 (fun j _ e => by subst e; exact HT.out.mt))
      have lx := RXT.out.lt
      have NX0 := Lib.hid (show ¬ M x0 from fun k => by have := ML.out x0 k; omega)
      have RX2 := Lib.hid (o2.row RXT.out (fun e => NX0.out (e ▸ HT.out.mt)))
      have ZT := Lib.hid OT.out.size
      obtain ⟨M2, hM2⟩ : ∃ M2, M2 = fun g => M g ∨ (wt.heap.size ≤ g ∧ g < w2.heap.size) := ⟨_, rfl⟩
      rw [← hM2] at H2
      have NX2 := Lib.hid (show ¬ M2 x0 from fun k => by rw [hM2] at k; rcases k with k | k; exact NX0.out k; omega)
      have MM2 := Lib.hid (show ∀ g, M2 g → M g ∨ w.heap.size ≤ g from fun g k => by rw [hM2] at k; have := ZT.out; rcases k with k | k; exact .inl k; exact .inr (by omega))
      have MU2 := Lib.hid (show ∀ g, M g → M2 g from fun g k => by rw [hM2]; exact .inl k)
      clear hr2 o2 LK q1 lx s0 HT OT RXT hM2
      obtain ⟨fs, hfs⟩ : ∃ fs, fs = t.ss := ⟨_, rfl⟩
      have hnf : ¬ c.most ≤ t.ss.length := hno
      have nf1 : decide ((c.most : Int) ≤ (t.ss.length : Int)) = false := by simp; omega
      have FS := Lib.hid (show fewer c.most t.ss = fs from by unfold fewer; rw [if_neg hnf, hfs])
      rw [← hfs] at nf1 hnf H2 ⊢
      have q0 : w2.cell? ⟨q, 0, none⟩ = some (.slice (some ⟨g, 0, none⟩) fs.length cap0) := by rw [H2.out.row.cell, hfs]; rfl
      have q4 : w2.cell? ⟨q, 4, none⟩ = some (.int .i64 c.most) := by rw [H2.out.row.cell]; rfl
      have fl : fs.length ≤ 16 := by rw [hfs]; exact hll
      have A := Lib.hid (show accI c t f n = t.begun + 1 ∧ accR c t f n = (Fl.start f).readR n c.deg c.blk ∧ accC c.blk f n = 0 ∧ accS c t f n = ⟨fs ++ [usedBy c ⟨t.begun + 1, Fl.start f, 0⟩ n (t.uses + 1)], lookT c.size c.life t.es f n, t.uses + 1, t.begun + 1⟩ from by
        unfold accI accR accC accS; rw [if_pos HM.out, if_pos HM.out, if_pos HM.out, if_pos HM.out, ht]; dsimp only; rw [hb, FS.out]; exact ⟨rfl, rfl, rfl, rfl⟩)
      have H3 := Lib.hid (show RSat w2 q qt (.slice (some ⟨g, 0, none⟩) fs.length cap0) M2 c ⟨fs, lookT c.size c.life t.es f n, t.uses + 1, t.begun⟩ from by rw [hfs]; rw [hfs] at H2; exact H2.out)
      clear hfs ht hb H2 ha0 hno
      go_wp2_with fail
      go_quiet (fail)
      obtain ⟨w3, hw3⟩ : ∃ w3, w3 = w2.drewN nq := ⟨_, rfl⟩
      have N3 := Lib.hid (show Only none_ w2 w3 from by rw [hw3]; exact (Only.refl none_ w2).drewN _)
      rw [← hw3]
      have H4 := Lib.hid (H3.out.keep N3.out (fun _ _ s => s))
      have O3 := Lib.hid (O2.out.idle N3.out)
      have RX3 := Lib.hid (N3.out.still RX2.out)
      have q3 : w3.cell? ⟨q, 3, none⟩ = some (.int .i64 t.begun) := by rw [H4.out.row.cell]; rfl
      have z3 : w3.frozen? ⟨q, 3, none⟩ = false := H4.out.row.frozen 3
      clear hw3 N3 H3 O2 RX2 q0 q4 nf1 hnf
      have hw5 : IntKind.i64.wrap ((t.begun : Int) + 1) = (t.begun : Int) + 1 := by rw [IntKind.wrap_i64]; omega
      have H5 := Lib.hid H4.out.greater
      have O5 := Lib.hid (O3.out.trans ((Only.refl (fun j => j = q) w3).into rfl 3 (.int .i64 ((t.begun : Int) + 1))) (fun j _ e => by subst e; exact QM.out))
      have RX5 := Lib.hid (RX3.out.far (p := ⟨q, 3, none⟩) (fun e => NX2.out (e ▸ H4.out.mq)) (.int .i64 ((t.begun : Int) + 1)))
      go_wp2_with fail
      clear q3 z3 H4 O3 RX3 hw5
      generalize w3.setCell ⟨q, 3, none⟩ (.int .i64 ((t.begun : Int) + 1)) = w4 at *
      refine wp_of_postN (region23 (fs := fs) (bg := t.begun) f w4 H5.out fl _ (by kernel_rfl) _ _ _ _ _ _ _ _ _ _ _ _ _ _ _ _ _ _ _ _ _ _ _ _ _ _ _ _ _ _ _ _ _ _ _ _ _ _ _ _ _ _ _ _ _ _ _ _ _ _ _ _ _ _ _ _ _ _ _ _ _ _ _ _ _ _ _ _ _ _ _ _ _ _ _ _ _ _ _ _ _ _ _ _ _ _ _ _ _ _ _ _ _ _ _ _ _ _ _ _ _ _ _ _ _ _ _ _ _ _ _ _ _ _ _ _ _ _ _ _ _ _ _ _ _ _ _ _ _ _ _ _ _ _ _ _ _ _ _ _ _ _ _ _ _ _ _ _ _ _ _ _ _ _ _ _ _ _ _ _ _ _ _ _ _ _ _ _ _ _ _ _ _ _ _ _ _ _ _ _ _ _ _ _ _ _ _ _ _ _ _ _ _ _ _ _ _ _ _ _ _ _ _ _ _ _ _ _ _ _ _ _ _ _ _ _ _ _ _ _ _ _ _ _ _ _ _ _ _ _ _ _ _ _ _ _ _ _ _ _ _ _ _ _ _ _ _ _ _) ?_
      rintro a' w' ⟨w6, a6, n6, k6, r175, r176, r177, r178, r179, r180, r181, r182, r183, r184, r185, r186, r187, r188, r189, r190, r191, r192, r193, rfl, rfl, ow6, o6⟩
      simp only [Exit.then]
      obtain ⟨gs, hgs⟩ : ∃ gs, gs = fs ++ [⟨t.begun + 1, Fl.start f, 0⟩] := ⟨_, rfl⟩
      obtain ⟨s, hs⟩ : ∃ s, s = Sm.mk (t.begun + 1) (Fl.start f) 0 := ⟨_, rfl⟩
      obtain ⟨i, hi⟩ : ∃ i, i = fs.length := ⟨_, rfl⟩
      have A' := Lib.hid (show accI c t f n = s.id ∧ accR c t f n = s.f.readR n c.deg c.blk ∧ accC c.blk f n = 0 ∧ accS c t f n = ⟨gs.set i (usedBy c s n (t.uses + 1)), lookT c.size c.life t.es f n, t.uses + 1, t.begun + 1⟩ from by
        rw [hgs, hs, hi, set_last]; exact A.out)
      clear A
      have A := A'
      clear A'
      have HI := Lib.hid (show gs[i]? = some s from by rw [hgs, hs, hi]; simp)
      have hwi : IntKind.i64.wrap ((gs.length : Int) - 1) = (i : Int) := by rw [IntKind.wrap_i64, hgs, hi]; simp; omega
      have hwi2 : IntKind.i64.wrap ((fs.length : Int)) = (i : Int) := by rw [IntKind.wrap_i64, hi]; omega
      have gl : gs.length ≤ 17 := by rw [hgs]; simp; omega
      rw [← hgs] at ow6
      obtain ⟨g6, cap6, hv6, lg6, lg7, hc6, hm6⟩ := ow6.form (by rw [hgs]; simp)
      have L6 := Lib.hid lg6
      have zz := Lib.hid o6.size
      have Z5 := Lib.hid O5.out.size
      obtain ⟨M', hM'⟩ : ∃ M', M' = fun j => M2 j ∨ (w4.heap.size ≤ j ∧ j < w6.heap.size) := ⟨_, rfl⟩
      have hMg6 : M' g6 := by rw [hM']; exact .inr ⟨lg6, lg7⟩
      have ow0 : Owns w6 0 59 6 Sm.cells (.slice a6 n6 k6) gs := ⟨ow6.1, ow6.2.imp id (fun ⟨g, cap, cur, hv, _, r⟩ => ⟨g, cap, cur, hv, Nat.zero_le _, r⟩)⟩
      have H6 := H5.out.other (M' := M') (v' := .slice a6 n6 k6) (fs := gs) o6 ⟨ow0, fun j hj => by
        rw [hv6] at hj
        have hj : some g6 = some j := hj
        injection hj with hj
        rw [← hj]; exact hMg6⟩ (fun j hj => by rw [hM']; exact .inl hj) (fun j hj => by
        rw [hM'] at hj
        rcases hj with hj | hj
        · have := H5.out.lt j hj; have := zz.out; omega
        · exact hj.2)
      injection hv6 with e1 e2 e3
      subst e1 e2 e3
      have NXM := Lib.hid (show ¬ M' x0 from fun k => by
        rw [hM'] at k
        have := RX5.out.lt
        rcases k with k | k
        · exact NX2.out k
        · omega)
      have MMF := Lib.hid (show ∀ j, M' j → M j ∨ w.heap.size ≤ j from fun j k => by
        rw [hM'] at k
        have := Z5.out
        rcases k with k | k
        · exact MM2.out j k
        · exact .inr (by omega))
      have HT := Lib.hid H6
      have RXT := Lib.hid ((o6.still RX5.out).far (p := ⟨q, 0, none⟩) (fun e => NX2.out (e ▸ H5.out.mq)) (.slice (some ⟨g6, 0, none⟩) gs.length k6))
      have OT := Lib.hid ((O5.out.idle o6).into QM.out 0 (.slice (some ⟨g6, 0, none⟩) gs.length k6))
      have q0 : (w6.setCell ⟨q, 0, none⟩ (.slice (some ⟨g6, 0, none⟩) gs.length k6)).cell? ⟨q, 0, none⟩ = some (.slice (some ⟨g6, 0, none⟩) gs.length k6) := by rw [HT.out.row.cell]; rfl
      have GB := Lib.hid (show w.heap.size ≤ g6 from by have := Z5.out; have := L6.out; omega)
      have s0 := True.intro
      clear H6 ow0 ow6 o6 hgs hs hi hM' L6 zz H5 O5 RX5 NX2 MM2 MU2 lg6 lg7 hc6 hm6 ML Z5 FS HF HM HN NX0 ZT
      generalize w6.setCell ⟨q, 0, none⟩ (.slice (some ⟨g6, 0, none⟩) gs.length k6) = wt at *
      clear w6
      obtain ⟨g, hg⟩ : ∃ g, g = g6 := ⟨_, rfl⟩
      rw [← hg] at HT q0 GB hMg6
      have hMg := hMg6
      clear hMg6
      obtain ⟨cap0, hcap⟩ : ∃ cap0, cap0 = k6 := ⟨_, rfl⟩
      rw [← hcap] at HT q0
      clear hg hcap
      go_wp2_with fail
      clear q0 hwi hwi2
      have hil := lt_of_get HI.out
      have RD' := Lib.hid (fun w => rread_any s.f n c.deg c.blk w)
      unfold Fl.val Rn.val at RD'
      generalize hK : s.f.readF n c.deg c.blk = k at *
      generalize hR : s.f.readR n c.deg c.blk = r at *
      generalize hC : s.f.readC n c.deg c.blk = cc at *
      have HK := Lib.hid hK
      have HR := Lib.hid hR
      clear hK hR hC s0
      go_cut [14, 15, 16] from 200 to 221 (fun s14_ s15_ s16_ wx => ∃ p p', s14_ = .pointer (some ⟨p, 0, none⟩) ∧ s15_ = .pointer (some ⟨p', 0, none⟩) ∧ s16_ = .int .i64 cc ∧ wt.heap.size ≤ p ∧ wt.heap.size ≤ p' ∧ Row wx p 57 #[.int .i64 k.n, .int .i64 k.a, .int .i64 k.p, .int .i64 k.g] ∧ Row wx p' 36 #[.int .i64 r.f, .int .i64 r.c] ∧ Only none_ wt wx)
      case first =>
        have N0 := Lib.hid (Only.refl none_ wt)
        have le0 : wt.heap.size ≤ wt.heap.size := Nat.le_refl _
        have le1 : wt.heap.size ≤ wt.heap.size + 1 := Nat.le_succ _
        have ND := Lib.hid (Only.refl none_ wt).drew
        have KK := Lib.hid (fun (w' : World) (o : Only none_ wt w') => (show w'.cell? ⟨q, 0, none⟩ = some (.slice (some ⟨g, 0, none⟩) gs.length cap0) ∧ w'.cell? ⟨g, i * 6 + 1, none⟩ = some (.int .i64 s.f.n) ∧ w'.cell? ⟨g, i * 6 + 2, none⟩ = some (.int .i64 s.f.a) ∧ w'.cell? ⟨g, i * 6 + 3, none⟩ = some (.int .i64 s.f.p) ∧ w'.cell? ⟨g, i * 6 + 4, none⟩ = some (.int .i64 s.f.g) ∧ w'.cell? ⟨q, 5, none⟩ = some (.int .i64 c.deg) ∧ w'.cell? ⟨q, 6, none⟩ = some (.int .i64 c.blk) from by
          have K := HT.out.keep o (fun _ _ s => s)
          obtain ⟨_, c1, c2, c3, c4, _⟩ := K.own.1.six10 HI.out
          exact ⟨by rw [K.row.cell]; rfl, c1, c2, c3, c4, by rw [K.row.cell]; rfl, by rw [K.row.cell]; rfl⟩))
        obtain ⟨c0, c1, c2, c3, c4, c5, c6⟩ := KK.out _ ND.out
        go_region_held3 (fun w' => w'.cell? ⟨q, 0, none⟩ = some (.slice (some ⟨g, 0, none⟩) gs.length cap0) ∧ w'.cell? ⟨g, i * 6 + 1, none⟩ = some (.int .i64 s.f.n) ∧ w'.cell? ⟨g, i * 6 + 2, none⟩ = some (.int .i64 s.f.a) ∧ w'.cell? ⟨g, i * 6 + 3, none⟩ = some (.int .i64 s.f.p) ∧ w'.cell? ⟨g, i * 6 + 4, none⟩ = some (.int .i64 s.f.g) ∧ w'.cell? ⟨q, 5, none⟩ = some (.int .i64 c.deg) ∧ w'.cell? ⟨q, 6, none⟩ = some (.int .i64 c.blk))
          (first
            | (with_reducible exact KK.out _ ND.out)
            | (with_reducible exact KK.out _ (Only.drew (Only.alloc N0.out _)))
            | (with_reducible exact KK.out _ (Only.drew (Only.alloc (Only.alloc N0.out _) _)))
            | (with_reducible exact KK.out _ O1.out)
            | (with_reducible refine KK.out _ ?_; (repeat (first | (with_reducible refine Only.alloc ?_ _) | (with_reducible refine Only.new ?_ le0 _ _) | (with_reducible refine Only.new ?_ le1 _ _))); with_reducible exact O1.out)
            | fail)
          (first
            | (go_at_call 32; (with_reducible refine (RD'.out _).mono ?_); rintro e u1 ⟨rfl, o1⟩; first | (have o2 : Only none_ (wt.drew) u1 := (by with_reducible exact o1); have O1 := Lib.hid (ND.out.same o2); clear o1 o2) | (have o2 : Only none_ ((wt.alloc (.cells #[.int .i64 0, .int .i64 0, .int .i64 0, .int .i64 0] 57)).drew) u1 := (by with_reducible exact o1); have O1 := Lib.hid ((Only.drew (Only.alloc N0.out _)).same o2); have far := o2.still (Row.drew (Row.fresh wt 57 #[.int .i64 0, .int .i64 0, .int .i64 0, .int .i64 0])); obtain ⟨fa0, fa1, fa2, fa3⟩ := far.four; have faz := far.frozen; have fal := far.lt; have FAR := Lib.hid far; clear far; clear o1 o2) | (have o2 : Only none_ ((wt.alloc (.cells #[.int .i64 0, .int .i64 0] 36)).drew) u1 := (by with_reducible exact o1); have O1 := Lib.hid ((Only.drew (Only.alloc N0.out _)).same o2); have fbr := o2.still (Row.drew (Row.fresh wt 36 #[.int .i64 0, .int .i64 0])); obtain ⟨fb0, fb1⟩ := fbr.two; have fbz := fbr.frozen; have fbl := fbr.lt; have FBR := Lib.hid fbr; clear fbr; clear o1 o2) | (have o2 : Only none_ (((wt.alloc (.cells #[.int .i64 0, .int .i64 0, .int .i64 0, .int .i64 0] 57)).alloc (.cells #[.int .i64 0, .int .i64 0] 36)).drew) u1 := (by with_reducible exact o1); have O1 := Lib.hid ((Only.drew (Only.alloc (Only.alloc N0.out _) _)).same o2); have far := o2.still (Row.drew ((Row.fresh wt 57 #[.int .i64 0, .int .i64 0, .int .i64 0, .int .i64 0]).alloc (.cells #[.int .i64 0, .int .i64 0] 36))); obtain ⟨fa0, fa1, fa2, fa3⟩ := far.four; have faz := far.frozen; have fal := far.lt; have FAR := Lib.hid far; clear far; have fbr := o2.still (Row.drew (fresh_at (wt.alloc (.cells #[.int .i64 0, .int .i64 0, .int .i64 0, .int .i64 0] 57)) 36 #[.int .i64 0, .int .i64 0] (wt.heap.size + 1) (by simp))); obtain ⟨fb0, fb1⟩ := fbr.two; have fbz := fbr.frozen; have fbl := fbr.lt; have FBR := Lib.hid fbr; clear fbr; clear o1 o2) | (have o2 : Only none_ (((wt.alloc (.cells #[.int .i64 0, .int .i64 0] 36)).alloc (.cells #[.int .i64 0, .int .i64 0, .int .i64 0, .int .i64 0] 57)).drew) u1 := (by with_reducible exact o1); have O1 := Lib.hid ((Only.drew (Only.alloc (Only.alloc N0.out _) _)).same o2); have fbr := o2.still (Row.drew ((Row.fresh wt 36 #[.int .i64 0, .int .i64 0]).alloc (.cells #[.int .i64 0, .int .i64 0, .int .i64 0, .int .i64 0] 57))); obtain ⟨fb0, fb1⟩ := fbr.two; have fbz := fbr.frozen; have fbl := fbr.lt; have FBR := Lib.hid fbr; clear fbr; have far := o2.still (Row.drew (fresh_at (wt.alloc (.cells #[.int .i64 0, .int .i64 0] 36)) 57 #[.int .i64 0, .int .i64 0, .int .i64 0, .int .i64 0] (wt.heap.size + 1) (by simp))); obtain ⟨fa0, fa1, fa2, fa3⟩ := far.four; have faz := far.frozen; have fal := far.lt; have FAR := Lib.hid far; clear far; clear o1 o2) | fail)
            | fail)
        · have X1 := Lib.hid ((Row.fresh u1 57 #[.int .i64 k.n, .int .i64 k.a, .int .i64 k.p, .int .i64 k.g]).alloc (.cells #[.int .i64 r.f, .int .i64 r.c] 36))
          have X2 := Lib.hid (fresh_at (u1.alloc (.cells #[.int .i64 k.n, .int .i64 k.a, .int .i64 k.p, .int .i64 k.g] 57)) 36 #[.int .i64 r.f, .int .i64 r.c] (u1.heap.size + 1) (by simp))
          have X3 := Lib.hid ((O1.out.alloc (.cells #[.int .i64 k.n, .int .i64 k.a, .int .i64 k.p, .int .i64 k.g] 57)).alloc (.cells #[.int .i64 r.f, .int .i64 r.c] 36))
          go_wp2_with fail
          go_meet
          case rel => exact ⟨u1.heap.size, u1.heap.size + 1, rfl, rfl, rfl, O1.out.size, Nat.le_succ_of_le O1.out.size, X1.out, X2.out, X3.out⟩
        · have X1 := Lib.hid (fresh_at (u1.alloc (.cells #[.int .i64 r.f, .int .i64 r.c] 36)) 57 #[.int .i64 k.n, .int .i64 k.a, .int .i64 k.p, .int .i64 k.g] (u1.heap.size + 1) (by simp))
          have X2 := Lib.hid ((Row.fresh u1 36 #[.int .i64 r.f, .int .i64 r.c]).alloc (.cells #[.int .i64 k.n, .int .i64 k.a, .int .i64 k.p, .int .i64 k.g] 57))
          have X3 := Lib.hid ((O1.out.alloc (.cells #[.int .i64 r.f, .int .i64 r.c] 36)).alloc (.cells #[.int .i64 k.n, .int .i64 k.a, .int .i64 k.p, .int .i64 k.g] 57))
          go_wp2_with fail
          go_meet
          case rel => exact ⟨u1.heap.size + 1, u1.heap.size, rfl, rfl, rfl, Nat.le_succ_of_le O1.out.size, O1.out.size, X1.out, X2.out, X3.out⟩
        · have X1 := Lib.hid (show Row (((((u1.setCell ⟨wt.heap.size, 0, none⟩ (.int .i64 k.n)).setCell ⟨wt.heap.size, 1, none⟩ (.int .i64 k.a)).setCell ⟨wt.heap.size, 2, none⟩ (.int .i64 k.p)).setCell ⟨wt.heap.size, 3, none⟩ (.int .i64 k.g)).alloc (.cells #[.int .i64 r.f, .int .i64 r.c] 36)) wt.heap.size 57 #[.int .i64 k.n, .int .i64 k.a, .int .i64 k.p, .int .i64 k.g] from ((((FAR.out.put 0 (.int .i64 k.n)).put 1 (.int .i64 k.a)).put 2 (.int .i64 k.p)).put 3 (.int .i64 k.g)).alloc (.cells #[.int .i64 r.f, .int .i64 r.c] 36))
          have X2 := Lib.hid (fresh_at ((((u1.setCell ⟨wt.heap.size, 0, none⟩ (.int .i64 k.n)).setCell ⟨wt.heap.size, 1, none⟩ (.int .i64 k.a)).setCell ⟨wt.heap.size, 2, none⟩ (.int .i64 k.p)).setCell ⟨wt.heap.size, 3, none⟩ (.int .i64 k.g)) 36 #[.int .i64 r.f, .int .i64 r.c] u1.heap.size (by simp [World.setCell]))
          have X3 := Lib.hid (((((O1.out.new le0 0 (.int .i64 k.n)).new le0 1 (.int .i64 k.a)).new le0 2 (.int .i64 k.p)).new le0 3 (.int .i64 k.g)).alloc (.cells #[.int .i64 r.f, .int .i64 r.c] 36))
          go_wp2_with fail
          go_meet
          case rel => exact ⟨wt.heap.size, u1.heap.size, rfl, rfl, rfl, le0, O1.out.size, X1.out, X2.out, X3.out⟩
        · have X1 := Lib.hid (show Row ((((((u1.setCell ⟨wt.heap.size, 0, none⟩ (.int .i64 k.n)).setCell ⟨wt.heap.size, 1, none⟩ (.int .i64 k.a)).setCell ⟨wt.heap.size, 2, none⟩ (.int .i64 k.p)).setCell ⟨wt.heap.size, 3, none⟩ (.int .i64 k.g)).setCell ⟨(wt.heap.size + 1), 0, none⟩ (.int .i64 r.f)).setCell ⟨(wt.heap.size + 1), 1, none⟩ (.int .i64 r.c)) wt.heap.size 57 #[.int .i64 k.n, .int .i64 k.a, .int .i64 k.p, .int .i64 k.g] from ((((((FAR.out.put 0 (.int .i64 k.n)).put 1 (.int .i64 k.a)).put 2 (.int .i64 k.p)).put 3 (.int .i64 k.g)).far (p := ⟨(wt.heap.size + 1), 0, none⟩) (show wt.heap.size ≠ wt.heap.size + 1 by omega) (.int .i64 r.f)).far (p := ⟨(wt.heap.size + 1), 1, none⟩) (show wt.heap.size ≠ wt.heap.size + 1 by omega) (.int .i64 r.c)))
          have X2 := Lib.hid (show Row ((((((u1.setCell ⟨wt.heap.size, 0, none⟩ (.int .i64 k.n)).setCell ⟨wt.heap.size, 1, none⟩ (.int .i64 k.a)).setCell ⟨wt.heap.size, 2, none⟩ (.int .i64 k.p)).setCell ⟨wt.heap.size, 3, none⟩ (.int .i64 k.g)).setCell ⟨(wt.heap.size + 1), 0, none⟩ (.int .i64 r.f)).setCell ⟨(wt.heap.size + 1), 1, none⟩ (.int .i64 r.c)) (wt.heap.size + 1) 36 #[.int .i64 r.f, .int .i64 r.c] from ((((((FBR.out.far (p := ⟨wt.heap.size, 0, none⟩) (show wt.heap.size + 1 ≠ wt.heap.size by omega) (.int .i64 k.n)).far (p := ⟨wt.heap.size, 1, none⟩) (show wt.heap.size + 1 ≠ wt.heap.size by omega) (.int .i64 k.a)).far (p := ⟨wt.heap.size, 2, none⟩) (show wt.heap.size + 1 ≠ wt.heap.size by omega) (.int .i64 k.p)).far (p := ⟨wt.heap.size, 3, none⟩) (show wt.heap.size + 1 ≠ wt.heap.size by omega) (.int .i64 k.g)).put 0 (.int .i64 r.f)).put 1 (.int .i64 r.c)))
          have X3 := Lib.hid ((((((O1.out.new le0 0 (.int .i64 k.n)).new le0 1 (.int .i64 k.a)).new le0 2 (.int .i64 k.p)).new le0 3 (.int .i64 k.g)).new le1 0 (.int .i64 r.f)).new le1 1 (.int .i64 r.c))
          go_wp2_with fail
          go_meet
          case rel => exact ⟨wt.heap.size, (wt.heap.size + 1), rfl, rfl, rfl, le0, le1, X1.out, X2.out, X3.out⟩
        · have X1 := Lib.hid (fresh_at ((u1.setCell ⟨wt.heap.size, 0, none⟩ (.int .i64 r.f)).setCell ⟨wt.heap.size, 1, none⟩ (.int .i64 r.c)) 57 #[.int .i64 k.n, .int .i64 k.a, .int .i64 k.p, .int .i64 k.g] u1.heap.size (by simp [World.setCell]))
          have X2 := Lib.hid (show Row (((u1.setCell ⟨wt.heap.size, 0, none⟩ (.int .i64 r.f)).setCell ⟨wt.heap.size, 1, none⟩ (.int .i64 r.c)).alloc (.cells #[.int .i64 k.n, .int .i64 k.a, .int .i64 k.p, .int .i64 k.g] 57)) wt.heap.size 36 #[.int .i64 r.f, .int .i64 r.c] from ((FBR.out.put 0 (.int .i64 r.f)).put 1 (.int .i64 r.c)).alloc (.cells #[.int .i64 k.n, .int .i64 k.a, .int .i64 k.p, .int .i64 k.g] 57))
          have X3 := Lib.hid (((O1.out.new le0 0 (.int .i64 r.f)).new le0 1 (.int .i64 r.c)).alloc (.cells #[.int .i64 k.n, .int .i64 k.a, .int .i64 k.p, .int .i64 k.g] 57))
          go_wp2_with fail
          go_meet
          case rel => exact ⟨u1.heap.size, wt.heap.size, rfl, rfl, rfl, O1.out.size, le0, X1.out, X2.out, X3.out⟩
        · have X1 := Lib.hid (show Row ((((((u1.setCell ⟨(wt.heap.size + 1), 0, none⟩ (.int .i64 k.n)).setCell ⟨(wt.heap.size + 1), 1, none⟩ (.int .i64 k.a)).setCell ⟨(wt.heap.size + 1), 2, none⟩ (.int .i64 k.p)).setCell ⟨(wt.heap.size + 1), 3, none⟩ (.int .i64 k.g)).setCell ⟨wt.heap.size, 0, none⟩ (.int .i64 r.f)).setCell ⟨wt.heap.size, 1, none⟩ (.int .i64 r.c)) (wt.heap.size + 1) 57 #[.int .i64 k.n, .int .i64 k.a, .int .i64 k.p, .int .i64 k.g] from ((((((FAR.out.put 0 (.int .i64 k.n)).put 1 (.int .i64 k.a)).put 2 (.int .i64 k.p)).put 3 (.int .i64 k.g)).far (p := ⟨wt.heap.size, 0, none⟩) (show wt.heap.size + 1 ≠ wt.heap.size by omega) (.int .i64 r.f)).far (p := ⟨wt.heap.size, 1, none⟩) (show wt.heap.size + 1 ≠ wt.heap.size by omega) (.int .i64 r.c)))
          have X2 := Lib.hid (show Row ((((((u1.setCell ⟨(wt.heap.size + 1), 0, none⟩ (.int .i64 k.n)).setCell ⟨(wt.heap.size + 1), 1, none⟩ (.int .i64 k.a)).setCell ⟨(wt.heap.size + 1), 2, none⟩ (.int .i64 k.p)).setCell ⟨(wt.heap.size + 1), 3, none⟩ (.int .i64 k.g)).setCell ⟨wt.heap.size, 0, none⟩ (.int .i64 r.f)).setCell ⟨wt.heap.size, 1, none⟩ (.int .i64 r.c)) wt.heap.size 36 #[.int .i64 r.f, .int .i64 r.c] from ((((((FBR.out.far (p := ⟨(wt.heap.size + 1), 0, none⟩) (show wt.heap.size ≠ wt.heap.size + 1 by omega) (.int .i64 k.n)).far (p := ⟨(wt.heap.size + 1), 1, none⟩) (show wt.heap.size ≠ wt.heap.size + 1 by omega) (.int .i64 k.a)).far (p := ⟨(wt.heap.size + 1), 2, none⟩) (show wt.heap.size ≠ wt.heap.size + 1 by omega) (.int .i64 k.p)).far (p := ⟨(wt.heap.size + 1), 3, none⟩) (show wt.heap.size ≠ wt.heap.size + 1 by omega) (.int .i64 k.g)).put 0 (.int .i64 r.f)).put 1 (.int .i64 r.c)))
          have X3 := Lib.hid ((((((O1.out.new le1 0 (.int .i64 k.n)).new le1 1 (.int .i64 k.a)).new le1 2 (.int .i64 k.p)).new le1 3 (.int .i64 k.g)).new le0 0 (.int .i64 r.f)).new le0 1 (.int .i64 r.c))
          go_wp2_with fail
          go_meet
          case rel => exact ⟨(wt.heap.size + 1), wt.heap.size, rfl, rfl, rfl, le1, le0, X1.out, X2.out, X3.out⟩
      case rest =>
        obtain ⟨p1, p2, rfl, rfl, rfl, lp, lp', rp, rp', o⟩ := hcut
        have H2 := Lib.hid (HT.out.keep o (fun _ _ s => s))
        have RX2 := Lib.hid (o.still RXT.out)
        have O2 := Lib.hid (OT.out.idle o)
        have P1 := Lib.hid rp
        have P2 := Lib.hid rp'
        have lx0 := RXT.out.lt
        have lg1 : g < wt.heap.size := HT.out.lt g hMg
        have lq1 : q < wt.heap.size := HT.out.lt q HT.out.mq
        have n1 : g ≠ q := H2.out.gq rfl
        have n2 : q ≠ g := fun e => n1 e.symm
        have n3 : g ≠ p1 := by omega
        have n4 : p1 ≠ g := by omega
        have n5 : g ≠ p2 := by omega
        have n6 : p2 ≠ g := by omega
        have nx : g ≠ x0 := fun e => NXM.out (e ▸ hMg)
        have nx' : x0 ≠ g := fun e => nx e.symm
        have nx2 : x0 ≠ p2 := by omega
        have nx3 : x0 ≠ q := fun e => NXM.out (e ▸ HT.out.mq)
        have nx4 : p2 ≠ x0 := by omega
        have q0 : wc.cell? ⟨q, 0, none⟩ = some (.slice (some ⟨g, 0, none⟩) gs.length cap0) := by rw [H2.out.row.cell]; rfl
        obtain ⟨a0, a1, a2, a3⟩ := rp.four
        obtain ⟨g0, g1, g2, g3, g4, g5⟩ := H2.out.own.1.six10 HI.out
        have zg := fun j => H2.out.own.1.frozen j
        clear lp lp' rp rp' o lx0 lg1 lq1 HT OT RXT
        go_wp2_with fail
        go_region
        have OG := Lib.hid ((((((Only.refl (fun j => j = g) wc).into rfl (i * 6 + 1) (.int .i64 k.n)).into rfl (i * 6 + 1 + 1) (.int .i64 k.a)).into rfl (i * 6 + 1 + 2) (.int .i64 k.p)).into rfl (i * 6 + 1 + 3) (.int .i64 k.g)).drew)
        have HO : Owns (((((wc.setCell ⟨g, i * 6 + 1, none⟩ (.int .i64 k.n)).setCell ⟨g, i * 6 + 1 + 1, none⟩ (.int .i64 k.a)).setCell ⟨g, i * 6 + 1 + 2, none⟩ (.int .i64 k.p)).setCell ⟨g, i * 6 + 1 + 3, none⟩ (.int .i64 k.g)).drew) 0 59 6 Sm.cells (.slice (some ⟨g, 0, none⟩) gs.length cap0) (gs.set i ⟨s.id, k, s.used⟩) := H2.out.own.1.flow10 HI.out k
        have H3 := Lib.hid (H2.out.same_row OG.out HO)
        have O3 := Lib.hid (O2.out.trans OG.out (fun j _ e => by subst e; exact (by have := GB.out; omega)))
        have RX3 := Lib.hid (OG.out.row RX2.out nx')
        have P3 := Lib.hid (OG.out.row P2.out n6)
        clear a0 a1 a2 a3 g0 g1 g2 g3 g4 g5 q0 zg HO OG P1 P2 RX2 O2 H2
        generalize ((((wc.setCell ⟨g, i * 6 + 1, none⟩ (.int .i64 k.n)).setCell ⟨g, i * 6 + 1 + 1, none⟩ (.int .i64 k.a)).setCell ⟨g, i * 6 + 1 + 2, none⟩ (.int .i64 k.p)).setCell ⟨g, i * 6 + 1 + 3, none⟩ (.int .i64 k.g)).drew = w3 at *
        have HI3 := Lib.hid (show (gs.set i ⟨s.id, k, s.used⟩)[i]? = some ⟨s.id, k, s.used⟩ by simp [lt_of_get HI.out])
        obtain ⟨g0, g1, g2, g3, g4, g5⟩ := H3.out.own.1.six10 HI3.out
        have g5' : w3.cell? ⟨g, i * 6 + 5, none⟩ = some (.int .i64 s.used) := g5
        have zg := fun j => H3.out.own.1.frozen j
        have q0 : w3.cell? ⟨q, 0, none⟩ = some (.slice (some ⟨g, 0, none⟩) gs.length cap0) := by rw [H3.out.row.cell]; rfl
        have q2 : w3.cell? ⟨q, 2, none⟩ = some (.int .i64 ((t.uses + 1 : Nat) : Int)) := by rw [H3.out.row.cell]; rfl
        generalize hUU : ((t.uses + 1 : Nat) : Int) = uu at *
        have UU := Lib.hid hUU
        clear g0 g1 g2 g3 g4 g5 hUU
        go_wp2_with fail
        go_region
        have OG := Lib.hid (((Only.refl (fun j => j = g) w3).into rfl (i * 6 + 5) (.int .i64 uu)).drew)
        have HO : Owns ((w3.setCell ⟨g, i * 6 + 5, none⟩ (.int .i64 uu)).drew) 0 59 6 Sm.cells (.slice (some ⟨g, 0, none⟩) gs.length cap0) (gs.set i ⟨s.id, k, t.uses + 1⟩) := by
          have h1 := H3.out.own.1.used10 HI3.out (t.uses + 1)
          rw [set_set, UU.out] at h1
          exact h1
        have H4 := Lib.hid (H3.out.same_row OG.out HO)
        have O4 := Lib.hid (O3.out.trans OG.out (fun j _ e => by subst e; exact (by have := GB.out; omega)))
        have RX4 := Lib.hid (OG.out.row RX3.out nx')
        have P4 := Lib.hid (OG.out.row P3.out n6)
        clear g5' zg q0 q2 HO OG P3 RX3 O3 H3 HI3
        generalize (w3.setCell ⟨g, i * 6 + 5, none⟩ (.int .i64 uu)).drew = w4 at *
        obtain ⟨b0, b1⟩ := P4.out.two
        obtain ⟨x1, x2, x3⟩ := RX4.out.three
        have zx := fun j => RX4.out.frozen j
        have g0 := (H4.out.own.1.six10 (k := i) (s := ⟨s.id, k, t.uses + 1⟩) (by simp [lt_of_get HI.out])).1
        have g0' : w4.cell? ⟨g, i * 6, none⟩ = some (.int .i64 s.id) := g0
        have q0 : w4.cell? ⟨q, 0, none⟩ = some (.slice (some ⟨g, 0, none⟩) gs.length cap0) := by rw [H4.out.row.cell]; rfl
        clear g0
        go_wp2_with fail
        go_region
        have E5 := Lib.hid (((RX4.out.put 0 (.int .i64 s.id)).put 1 (.int .i64 r.f)).put 2 (.int .i64 r.c)).drew
        have OX := ((((Only.refl (fun j => j = x0) w4).into rfl 0 (.int .i64 s.id)).into rfl 1 (.int .i64 r.f)).into rfl 2 (.int .i64 r.c)).drew
        have H5 := Lib.hid (H4.out.keep OX (fun j hj e => NXM.out (e ▸ hj)))
        have O5 := Lib.hid (O4.out.trans OX (fun j hj e => by have := LX.out; omega))
        clear OX b0 b1 x1 x2 x3 zx g0' q0 O4 H4 RX4 P4
        generalize (((w4.setCell ⟨x0, 0, none⟩ (.int .i64 s.id)).setCell ⟨x0, 1, none⟩ (.int .i64 r.f)).setCell ⟨x0, 2, none⟩ (.int .i64 r.c)).drew = w5 at *
        obtain ⟨x1, x2, x3⟩ := (show Row w5 x0 38 #[.int .i64 s.id, .int .i64 r.f, .int .i64 r.c] from E5.out).three
        go_wp2_with fail
        refine bodyPost_ret (v := .tuple #[.agg #[.int .i64 s.id, .int .i64 r.f, .int .i64 r.c], .int .i64 0]) (by simp [results, Try.results13, go_sem, x1, x2, x3]) rfl ⟨by unfold Acc; rw [A.out.1, A.out.2.1, A.out.2.2.1], ?_⟩
        rw [A.out.2.2.2]
        unfold usedBy
        rw [HK.out]
        exact ⟨⟨M', ⟨qt, _, H5.out⟩, MMF.out⟩, O5.out⟩
end Go.Proofs.Ytfmmmiiohaaegaa
