/- Package stream: an access. -/
import Derived.Test.YtfmmmiiohaaegaaStBegin
import Derived.Test.YtfmmmiiohaaegaaStTune
namespace Go.Proofs.Ytfmmmiiohaaegaa
open Go.RowKit Go.Maps
set_option linter.unusedVariables false

theorem uses_fine {c : Cf} {t : Tr} (h : Fine10 c t) : Fine10 c ⟨t.ss, t.es, t.uses + 1, t.begun⟩ :=
  ⟨h.ok, h.rank, h.ids, fun s hs => ⟨(h.uses s hs).1, Nat.le_succ_of_le (h.uses s hs).2⟩, h.may, h.few, h.tab, Nat.le_succ_of_le h.beg⟩
theorem look_fine {c : Cf} {t : Tr} (h : Fine10 c t) (f n : Int) : Fine10 c ⟨t.ss, lookT c.size c.life t.es f n, t.uses, t.begun⟩ :=
  ⟨h.ok, h.rank, h.ids, h.uses, h.may, h.few, lookT_fine h.tab, h.beg⟩
theorem StAt.more {w : World} {q p b L : Nat} {v : Value} {M : Nat → Prop} {c : Cf} {t : Tr} (h : StAt w q p b L v M c t) : StAt (w.setCell ⟨q, 6, none⟩ (.int .i64 ((t.uses : Int) + 1))) q p b L v M c ⟨t.ss, t.es, t.uses + 1, t.begun⟩ := by
  have o := (Only.refl (fun k => k = q) w).into rfl 6 (.int .i64 ((t.uses : Int) + 1))
  have e : (((t.uses + 1 : Nat) : Int)) = (t.uses : Int) + 1 := by omega
  refine ⟨?_, h.own.keep' o (fun g hg => h.gq hg), h.tab.keep o (fun k => h.qp k.symm) (fun k => h.qb k.symm), Nat.le_succ_of_le h.le, h.mq, h.mp, h.mb, fun g hg => Nat.lt_of_lt_of_le (h.lt g hg) o.size⟩
  have r := h.row.put 6 (.int .i64 ((t.uses : Int) + 1))
  rw [← e] at r ⊢
  exact r
theorem set_last {α : Type} (l : List α) (a b : α) : (l ++ [a]).set l.length b = l ++ [b] := by simp
/-- what an access answers, and leaves -/
def Acc (c : Cf) (t : Tr) (f n : Int) (e : Ending) : Prop := e = .returned (.tuple #[.agg #[.int .i64 (accI c t f n), .int .i64 (accR c t f n).f, .int .i64 (accR c t f n).c], .int .i64 (accC c.blk f n)])
def accTwo (c : Cf) (t : Tr) (f n : Int) (e : Ending) (w : World) (q : Nat) (M : Nat → Prop) (w' : World) : Prop := Acc c t f n e ∧ STto w q M c (accS c t f n) w'

set_option maxHeartbeats 1000000 in
theorem acc_no {q : Nat} {M : Nat → Prop} {c : Cf} {t : Tr} (f n : Int) (w : World) (h : ST w q M c t) (hf : Fine10 c t) (hm : mayAcc c.blk f n = false) :
    Calls Try.prog 12 #[.pointer (some ⟨q, 0, none⟩), .int .i64 f, .int .i64 n] w fun e w' => accTwo c t f n e w q M w' := by
  have hn : ¬ (1 ≤ n ∧ n ≤ 8 ∧ 0 ≤ f ∧ f + n ≤ c.blk) := of_decide_eq_false hm
  have A := Lib.hid (show accI c t f n = 0 ∧ accR c t f n = ⟨0, 0⟩ ∧ accC c.blk f n = 1 ∧ accS c t f n = t from by
    unfold accI accR accC accS; rw [hm]; exact ⟨rfl, rfl, rfl, rfl⟩)
  have H := Lib.hid h
  have B := hf.ok.b256
  obtain ⟨p, b, L, v, h⟩ := h
  have oa := Lib.hid ((Only.refl none_ w).alloc (.cells #[.int .i64 0, .int .i64 0, .int .i64 0] 38))
  have c2 : (w.alloc (.cells #[.int .i64 0, .int .i64 0, .int .i64 0] 38)).cell? ⟨q, 2, none⟩ = some (.int .i64 c.blk) := by rw [(h.still oa.out).row.cell]; rfl
  clear h hm
  have FIN : ∀ w', Only none_ w w' → STto w q M c t w' := fun w' o => ⟨⟨M, H.out.still o, fun g hg => .inl hg⟩, o.up⟩
  have FI := Lib.hid FIN
  clear FIN
  by_cases h0 : n < 1
  · have d0 : decide (n < 1) = true := by simpa using h0
    clear hn B h0
    go_enter Try.func12, Try.ntmps12
    go_wp2_with fail
    exact bodyPost_ret (v := .tuple #[.agg #[.int .i64 0, .int .i64 0, .int .i64 0], .int .i64 1]) (by simp [results, Try.results12, go_sem]) rfl ⟨by unfold Acc; rw [A.out.1, A.out.2.1, A.out.2.2.1]; rfl, by rw [A.out.2.2.2]; exact FI.out _ oa.out⟩
  · have d0 : decide (n < 1) = false := by simpa using h0
    by_cases h1 : 8 < n
    · have d1 : decide (8 < n) = true := by simpa using h1
      clear hn B h0 h1
      go_enter Try.func12, Try.ntmps12
      go_wp2_with fail
      exact bodyPost_ret (v := .tuple #[.agg #[.int .i64 0, .int .i64 0, .int .i64 0], .int .i64 1]) (by simp [results, Try.results12, go_sem]) rfl ⟨by unfold Acc; rw [A.out.1, A.out.2.1, A.out.2.2.1]; rfl, by rw [A.out.2.2.2]; exact FI.out _ oa.out⟩
    · have d1 : decide (8 < n) = false := by simpa using h1
      by_cases h2 : f < 0
      · have d2 : decide (f < 0) = true := by simpa using h2
        clear hn B h0 h1 h2
        go_enter Try.func12, Try.ntmps12
        go_wp2_with fail
        exact bodyPost_ret (v := .tuple #[.agg #[.int .i64 0, .int .i64 0, .int .i64 0], .int .i64 1]) (by simp [results, Try.results12, go_sem]) rfl ⟨by unfold Acc; rw [A.out.1, A.out.2.1, A.out.2.2.1]; rfl, by rw [A.out.2.2.2]; exact FI.out _ oa.out⟩
      · have d2 : decide (f < 0) = false := by simpa using h2
        have hw : IntKind.i64.wrap ((c.blk : Int) - n) = (c.blk : Int) - n := by rw [IntKind.wrap_i64]; omega
        have d3 : decide ((c.blk : Int) - n < f) = true := by simp; omega
        clear hn B h0 h1 h2
        go_enter Try.func12, Try.ntmps12
        go_wp2_with fail
        exact bodyPost_ret (v := .tuple #[.agg #[.int .i64 0, .int .i64 0, .int .i64 0], .int .i64 1]) (by simp [results, Try.results12, go_sem]) rfl ⟨by unfold Acc; rw [A.out.1, A.out.2.1, A.out.2.2.1]; rfl, by rw [A.out.2.2.2]; exact FI.out _ oa.out⟩
set_option maxRecDepth 100000 in
set_option maxHeartbeats 2000000 in
theorem acc_yes {q : Nat} {M : Nat → Prop} {c : Cf} {t : Tr} (f n : Int) (w : World) (h : ST w q M c t) (hf : Fine10 c t) (hu : t.uses ≤ 900) (hm : mayAcc c.blk f n = true) :
    Calls Try.prog 12 #[.pointer (some ⟨q, 0, none⟩), .int .i64 f, .int .i64 n] w fun e w' => accTwo c t f n e w q M w' := by
  have hn : 1 ≤ n ∧ n ≤ 8 ∧ 0 ≤ f ∧ f + n ≤ c.blk := mayAcc_iff.1 hm
  have B := hf.ok.b256
  have few := hf.few
  have m16 := hf.ok.m16
  obtain ⟨p, b, L, v, h⟩ := h
  obtain ⟨A0, n0, cap0, rfl⟩ := own_form10 h.own.1
  have H0 := Lib.hid (h.still ((Only.refl none_ w).alloc (.cells #[.int .i64 0, .int .i64 0, .int .i64 0] 38)))
  have RX := Lib.hid (Row.fresh w 38 #[.int .i64 0, .int .i64 0, .int .i64 0])
  have oa := Lib.hid ((Only.refl M w).alloc (.cells #[.int .i64 0, .int .i64 0, .int .i64 0] 38))
  have ML := Lib.hid h.lt
  have HLE := Lib.hid h.le
  have c2 : (w.alloc (.cells #[.int .i64 0, .int .i64 0, .int .i64 0] 38)).cell? ⟨q, 2, none⟩ = some (.int .i64 c.blk) := by rw [H0.out.row.cell]; rfl
  have c6 : (w.alloc (.cells #[.int .i64 0, .int .i64 0, .int .i64 0] 38)).cell? ⟨q, 6, none⟩ = some (.int .i64 t.uses) := by rw [H0.out.row.cell]; rfl
  have z6 : (w.alloc (.cells #[.int .i64 0, .int .i64 0, .int .i64 0] 38)).frozen? ⟨q, 6, none⟩ = false := H0.out.row.frozen 6
  have d0 : decide (n < 1) = false := by simp; omega
  have d1 : decide (8 < n) = false := by simp; omega
  have d2 : decide (f < 0) = false := by simp; omega
  have hw : IntKind.i64.wrap ((c.blk : Int) - n) = (c.blk : Int) - n := by rw [IntKind.wrap_i64]; omega
  have d3 : decide ((c.blk : Int) - n < f) = false := by simp; omega
  have hw2 : IntKind.i64.wrap ((t.uses : Int) + 1) = (t.uses : Int) + 1 := by rw [IntKind.wrap_i64]; omega
  have HM := Lib.hid hm
  have HF := Lib.hid (uses_fine hf)
  have HF0 := Lib.hid hf
  have HN := Lib.hid hn
  have RD := Lib.hid (fun w hh => reader_any (q := q) (p := p) (b := b) (L := L) (v := .slice A0 n0 cap0) (M := M) f w hh HF.out (by show t.uses + 1 ≤ 1000; omega))
  clear h hf hm hn
  go_enter Try.func12, Try.ntmps12
  go_wp2_with fail
  obtain ⟨x0, hx0⟩ : ∃ x0, w.heap.size = x0 := ⟨_, rfl⟩
  rw [hx0] at RX ML ⊢
  have LX := Lib.hid hx0
  have H1 := Lib.hid H0.out.more
  have O1 := Lib.hid (oa.out.into H0.out.mq 6 (.int .i64 ((t.uses : Int) + 1)))
  have nq : x0 ≠ q := fun e => by have := ML.out q H0.out.mq; omega
  have RX1 := Lib.hid (RX.out.far (p := ⟨q, 6, none⟩) nq (.int .i64 ((t.uses : Int) + 1)))
  clear hx0 c2 c6 z6 H0 RX oa d0 d1 d2 d3 hw hw2
  generalize (w.alloc (.cells #[.int .i64 0, .int .i64 0, .int .i64 0] 38)).setCell ⟨q, 6, none⟩ (.int .i64 ((t.uses : Int) + 1)) = w1 at *
  (with_reducible refine (RD.out _ H1.out).mono ?_)
  rintro e w2 ⟨rfl, o2⟩
  have H2 := Lib.hid (H1.out.still o2)
  have O2 := Lib.hid (O1.out.idle o2)
  have RX2 := Lib.hid (o2.still RX1.out)
  clear o2 H1 O1 RX1 RD
  dsimp only
  cases ht : topOf t.ss f with
  | some i =>
    obtain ⟨s, hs, _⟩ := top_of ht
    have A := Lib.hid (show accI c t f n = s.id ∧ accR c t f n = s.f.readR n c.deg c.blk ∧ accC c.blk f n = 0 ∧ accS c t f n = ⟨t.ss.set i (usedBy c s n (t.uses + 1)), t.es, t.uses + 1, t.begun⟩ from by
      unfold accI accR accC accS; rw [if_pos HM.out, if_pos HM.out, if_pos HM.out, if_pos HM.out, ht]; dsimp only; rw [hs]; exact ⟨rfl, rfl, rfl, rfl⟩)
    have U := Lib.hid (use_any (t := ⟨t.ss, t.es, t.uses + 1, t.begun⟩) i s n w2 H2.out hs (by show t.uses + 1 ≤ 1000; omega) (by show t.ss.length ≤ 1000; omega))
    have dn : ((i : Int) == -1) = false := by simp
    simp only [placeI]
    clear ht hs
    generalize s.f.readR n c.deg c.blk = r at *
    go_wp2_with fail
    (with_reducible refine U.out.mono ?_)
    rintro e w3 ⟨rfl, h3, o3⟩
    have H3 := Lib.hid h3
    have nx : ¬ M x0 := fun k => by have := ML.out x0 k; omega
    have RX3 := Lib.hid (o3.row RX2.out nx)
    have O3 := Lib.hid (O2.out.same o3)
    clear h3 o3 H2 O2 U RX2
    obtain ⟨x1, x2, x3⟩ := RX3.out.three
    have zx := fun j => RX3.out.frozen j
    go_wp2_with fail
    have E4 := Lib.hid (((RX3.out.put 0 (.int .i64 s.id)).put 1 (.int .i64 r.f)).put 2 (.int .i64 r.c))
    have OX := (((Only.refl (fun j => j = x0) w3).into rfl 0 (.int .i64 s.id)).into rfl 1 (.int .i64 r.f)).into rfl 2 (.int .i64 r.c)
    have H4 := Lib.hid (H3.out.keep OX (fun j hj e => nx (e ▸ hj)))
    have O4 := Lib.hid (O3.out.trans OX (fun j hj e => by have := LX.out; omega))
    clear OX H3 O3 RX3 x1 x2 x3 zx
    generalize ((w3.setCell ⟨x0, 0, none⟩ (.int .i64 s.id)).setCell ⟨x0, 1, none⟩ (.int .i64 r.f)).setCell ⟨x0, 2, none⟩ (.int .i64 r.c) = w4 at *
    obtain ⟨y1, y2, y3⟩ := (show Row w4 x0 38 #[.int .i64 s.id, .int .i64 r.f, .int .i64 r.c] from E4.out).three
    refine bodyPost_ret (v := .tuple #[.agg #[.int .i64 s.id, .int .i64 r.f, .int .i64 r.c], .int .i64 0]) (by simp [results, Try.results12, go_sem, y1, y2, y3]) rfl ⟨by unfold Acc; rw [A.out.1, A.out.2.1, A.out.2.2.1], ?_⟩
    rw [A.out.2.2.2]
    exact ⟨⟨M, ⟨p, b, L, _, H4.out⟩, fun g hg => .inl hg⟩, O4.out⟩
  | none =>
    have EX := Lib.hid (expects_any (t := ⟨t.ss, t.es, t.uses + 1, t.begun⟩) f n w2 H2.out (by show t.uses + 1 ≤ 1000; omega) (by show L + 1 ≤ t.uses + 1; have := HLE.out; omega))
    cases hb : lookB c.size c.life t.es f n with
    | false =>
      have A := Lib.hid (show accI c t f n = 0 ∧ accR c t f n = ⟨0, 0⟩ ∧ accC c.blk f n = 0 ∧ accS c t f n = ⟨t.ss, lookT c.size c.life t.es f n, t.uses + 1, t.begun⟩ from by
        unfold accI accR accC accS; rw [if_pos HM.out, if_pos HM.out, if_pos HM.out, if_pos HM.out, ht]; dsimp only; rw [hb]; exact ⟨rfl, rfl, rfl, rfl⟩)
      rw [hb] at EX
      simp only [placeI]
      clear ht hb
      go_wp2_with fail
      (with_reducible refine EX.out.mono ?_)
      rintro e w3 ⟨rfl, ⟨L', h3⟩, o3⟩
      have H3 := Lib.hid h3
      have nx : ¬ M x0 := fun k => by have := ML.out x0 k; omega
      have RX3 := Lib.hid (o3.row RX2.out nx)
      have O3 := Lib.hid (O2.out.same o3)
      clear h3 o3 H2 O2 RX2 EX
      obtain ⟨x1, x2, x3⟩ := RX3.out.three
      have zx := fun j => RX3.out.frozen j
      go_wp2_with fail
      have E4 := Lib.hid (((RX3.out.put 0 (.int .i64 0)).put 1 (.int .i64 0)).put 2 (.int .i64 0))
      have OX := (((Only.refl (fun j => j = x0) w3).into rfl 0 (.int .i64 0)).into rfl 1 (.int .i64 0)).into rfl 2 (.int .i64 0)
      have H4 := Lib.hid (H3.out.keep OX (fun j hj e => nx (e ▸ hj)))
      have O4 := Lib.hid (O3.out.trans OX (fun j hj e => by have := LX.out; omega))
      clear OX H3 O3 RX3 x1 x2 x3 zx
      generalize ((w3.setCell ⟨x0, 0, none⟩ (.int .i64 0)).setCell ⟨x0, 1, none⟩ (.int .i64 0)).setCell ⟨x0, 2, none⟩ (.int .i64 0) = w4 at *
      obtain ⟨y1, y2, y3⟩ := (show Row w4 x0 38 #[.int .i64 0, .int .i64 0, .int .i64 0] from E4.out).three
      refine bodyPost_ret (v := .tuple #[.agg #[.int .i64 0, .int .i64 0, .int .i64 0], .int .i64 0]) (by simp [results, Try.results12, go_sem, y1, y2, y3]) rfl ⟨by unfold Acc; rw [A.out.1, A.out.2.1, A.out.2.2.1]; rfl, ?_⟩
      rw [A.out.2.2.2]
      exact ⟨⟨M, ⟨p, b, L', _, H4.out⟩, fun g hg => .inl hg⟩, O4.out⟩
    | true =>
      obtain ⟨fs, hfs⟩ : ∃ fs, fs = fewer c.most t.ss := ⟨_, rfl⟩
      have A := Lib.hid (show accI c t f n = t.begun + 1 ∧ accR c t f n = (Fl.start f).readR n c.deg c.blk ∧ accC c.blk f n = 0 ∧ accS c t f n = ⟨fs ++ [usedBy c ⟨t.begun + 1, Fl.start f, 0⟩ n (t.uses + 1)], lookT c.size c.life t.es f n, t.uses + 1, t.begun + 1⟩ from by
        unfold accI accR accC accS; rw [if_pos HM.out, if_pos HM.out, if_pos HM.out, if_pos HM.out, ht]; dsimp only; rw [hb, hfs]; exact ⟨rfl, rfl, rfl, rfl⟩)
      rw [hb] at EX
      have BG := Lib.hid (fun w v L' hh => begin_any (q := q) (p := p) (b := b) (L := L') (v := v) (M := M) (t := ⟨t.ss, lookT c.size c.life t.es f n, t.uses + 1, t.begun⟩) f w hh (look_fine HF.out f n) (by show t.uses + 1 ≤ 1000; omega))
      simp only [← hfs] at BG
      have fl : fs.length ≤ 16 := by have := (fewer_sub c.most t.ss).length_le; rw [hfs]; omega
      clear hfs
      simp only [placeI]
      clear ht hb
      go_wp2_with fail
      (with_reducible refine EX.out.mono ?_)
      rintro e w3 ⟨rfl, ⟨L', h3⟩, o3⟩
      have H3 := Lib.hid h3
      have nx0 : ¬ M x0 := fun k => by have := ML.out x0 k; omega
      have RX3' := Lib.hid (o3.row RX2.out nx0)
      have O3' := Lib.hid (O2.out.same o3)
      clear h3 o3 H2 O2 RX2 EX
      go_wp2_with fail
      (with_reducible refine (BG.out _ _ _ H3.out).mono ?_)
      rintro e w5 ⟨rfl, ⟨v', M', h5, hm5⟩, o5⟩
      have H5 := Lib.hid h5
      have HM5 := Lib.hid hm5
      have RX5 := Lib.hid (o5.row RX3'.out nx0)
      have lx := RX3'.out.lt
      have O5 := Lib.hid (O3'.out.same o5)
      have Z3 := Lib.hid O3'.out.size
      have U := Lib.hid (use_any fs.length ⟨t.begun + 1, Fl.start f, 0⟩ n w5 h5 (by simp) (by show t.uses + 1 ≤ 1000; omega) (by simp; omega))
      have nx : ¬ M' x0 := fun k => by rcases hm5 x0 k with k | k; exact nx0 k; omega
      have dn : ((fs.length : Int) == -1) = false := by simp
      clear h5 hm5 o5 BG H3 RX3' O3' lx
      generalize hr : (Fl.start f).readR n c.deg c.blk = r at *
      have HR := Lib.hid hr
      clear hr
      go_wp2_with fail
      (with_reducible refine U.out.mono ?_)
      rintro e w3 ⟨rfl, h3, o3⟩
      have H3 := Lib.hid h3
      have RX3 := Lib.hid (o3.row RX5.out nx)
      have O3 := Lib.hid (O5.out.trans o3 (fun j hj k => (HM5.out j k).elim id (fun k => by have := Z3.out; omega)))
      clear h3 o3 H5 O5 U RX5
      obtain ⟨x1, x2, x3⟩ := RX3.out.three
      have zx := fun j => RX3.out.frozen j
      go_wp2_with fail
      have E4 := Lib.hid (((RX3.out.put 0 (.int .i64 ((t.begun : Int) + 1))).put 1 (.int .i64 r.f)).put 2 (.int .i64 r.c))
      have OX := (((Only.refl (fun j => j = x0) w3).into rfl 0 (.int .i64 ((t.begun : Int) + 1))).into rfl 1 (.int .i64 r.f)).into rfl 2 (.int .i64 r.c)
      have H4 := Lib.hid (H3.out.keep OX (fun j hj e => nx (e ▸ hj)))
      have O4 := Lib.hid (O3.out.trans OX (fun j hj e => by have := LX.out; omega))
      clear OX H3 O3 RX3 x1 x2 x3 zx
      generalize ((w3.setCell ⟨x0, 0, none⟩ (.int .i64 ((t.begun : Int) + 1))).setCell ⟨x0, 1, none⟩ (.int .i64 r.f)).setCell ⟨x0, 2, none⟩ (.int .i64 r.c) = w4 at *
      obtain ⟨y1, y2, y3⟩ := (show Row w4 x0 38 #[.int .i64 ((t.begun : Int) + 1), .int .i64 r.f, .int .i64 r.c] from E4.out).three
      refine bodyPost_ret (v := .tuple #[.agg #[.int .i64 ((t.begun : Int) + 1), .int .i64 r.f, .int .i64 r.c], .int .i64 0]) (by simp [results, Try.results12, go_sem, y1, y2, y3]) rfl ⟨by unfold Acc; rw [A.out.1, A.out.2.1, A.out.2.2.1]; rfl, ?_⟩
      rw [A.out.2.2.2]
      exact ⟨⟨M', ⟨p, b, L', _, set_last fs _ _ ▸ H4.out⟩, fun g hg => (HM5.out g hg).imp id (fun k => by have := Z3.out; omega)⟩, O4.out⟩
theorem acc_any {q : Nat} {M : Nat → Prop} {c : Cf} {t : Tr} (f n : Int) (w : World) (h : ST w q M c t) (hf : Fine10 c t) (hu : t.uses ≤ 900) :
    Calls Try.prog 12 #[.pointer (some ⟨q, 0, none⟩), .int .i64 f, .int .i64 n] w fun e w' => accTwo c t f n e w q M w' := by
  cases hm : mayAcc c.blk f n with
  | false => exact acc_no f n w h hf hm
  | true => exact acc_yes f n w h hf hu hm
end Go.Proofs.Ytfmmmiiohaaegaa
