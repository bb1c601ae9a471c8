/- Package fetch's New: an engine without tickets. -/
import Derived.Test.YtfbpjobobdidiaaGreatDoorGrpO
import Derived.Test.YtfbpjobobdidiaaGreatDoorGrpC
import Derived.Test.YtfbpjobobdidiaaGreatDoorGrpK
import Derived.Test.YtfbpjobobdidiaaGreatDoorGrpL
namespace Go.Proofs.YtfbpjobobdidiaaGreatDoor
open Go.RowKit Go.Maps
set_option linter.unusedVariables false
set_option maxRecDepth 100000
def E0 (o : Opt) : Eng := ⟨o, [], [], [], [], 0, 0⟩
section
variable {w : World} {pl pt bq pg n m nd na rw_ : Nat} {M1 M2 : Nat → Prop}
open Classical in
noncomputable def col0 (M1 M2 : Nat → Prop) (pt bq a3 : Nat) (g : Nat) : Nat := if g = a3 + 2 then 1 else if g = a3 + 1 then 7 else if g = a3 then 5 else if M2 g then 4 else if g = pt ∨ g = bq then 3 else if M1 g then 2 else 0
theorem col0_cases (M1 M2 : Nat → Prop) (pt bq a3 g : Nat) : (g = a3 + 2 ∧ col0 M1 M2 pt bq a3 g = 1) ∨ (g = a3 + 1 ∧ col0 M1 M2 pt bq a3 g = 7) ∨ (g = a3 ∧ col0 M1 M2 pt bq a3 g = 5) ∨ (M2 g ∧ col0 M1 M2 pt bq a3 g = 4) ∨ ((g = pt ∨ g = bq) ∧ col0 M1 M2 pt bq a3 g = 3) ∨ (M1 g ∧ col0 M1 M2 pt bq a3 g = 2) ∨ (¬ M1 g ∧ ¬ M2 g ∧ g ≠ pt ∧ g ≠ bq ∧ g ≠ a3 ∧ g ≠ a3 + 1 ∧ g ≠ a3 + 2 ∧ col0 M1 M2 pt bq a3 g = 0) := by
  unfold col0
  by_cases h1 : g = a3 + 2
  · exact .inl ⟨h1, if_pos h1⟩
  rw [if_neg h1]
  by_cases h2 : g = a3 + 1
  · exact .inr (.inl ⟨h2, if_pos h2⟩)
  rw [if_neg h2]
  by_cases h3 : g = a3
  · exact .inr (.inr (.inl ⟨h3, if_pos h3⟩))
  rw [if_neg h3]
  by_cases h4 : M2 g
  · exact .inr (.inr (.inr (.inl ⟨h4, if_pos h4⟩)))
  rw [if_neg h4]
  by_cases h5 : g = pt ∨ g = bq
  · exact .inr (.inr (.inr (.inr (.inl ⟨h5, if_pos h5⟩))))
  rw [if_neg h5]
  by_cases h6 : M1 g
  · exact .inr (.inr (.inr (.inr (.inr (.inl ⟨h6, if_pos h6⟩)))))
  rw [if_neg h6]
  exact .inr (.inr (.inr (.inr (.inr (.inr ⟨h6, h4, fun e => h5 (.inl e), fun e => h5 (.inr e), h3, h2, h1, rfl⟩)))))
theorem EO.start {o : Opt} {a0 a1 a2 a3 : Nat} {A : Int → Nat} {B : Int → Value × Value × Value} (hl : Ln w pl M1 o.b0.toNat (o.b3 + o.b4).toNat []) (l1 : ∀ g, M1 g → a0 ≤ g ∧ g < a1) (ht : TnAt w pt bq o.b3.toNat o.b4.toNat 0 []) (t1 : a1 ≤ pt ∧ pt < a2 ∧ a1 ≤ bq ∧ bq < a2) (hw : WG w pg M2 o.b9.toNat 0 []) (w1 : ∀ g, M2 g → a2 ≤ g ∧ g < a3) (ord : a0 ≤ a1 ∧ a1 ≤ a2 ∧ a2 ≤ a3)
    (mt : Mg w a3 []) (mm : Mg w (a3 + 1) []) (row : Row w (a3 + 2) 99 (engCells ⟨pl, pt, bq, pg, a3, a3 + 1, A, B⟩ o 0 0)) :
    EO w (a3 + 2) (col0 M1 M2 pt bq a3) ⟨pl, pt, bq, pg, a3, a3 + 1, A, B⟩ 0 0 o 0 0 [] [] [] [] [] [] [] ∧ ∀ g, col0 M1 M2 pt bq a3 g ≠ 0 → a0 ≤ g := by
  have cs := col0_cases M1 M2 pt bq a3
  have e2 : (fun g => col0 M1 M2 pt bq a3 g = 2) = M1 := by
    funext g
    apply propext
    rcases cs g with ⟨h, e⟩ | ⟨h, e⟩ | ⟨h, e⟩ | ⟨h, e⟩ | ⟨h, e⟩ | ⟨h, e⟩ | ⟨h, _, _, _, _, _, _, e⟩
    all_goals rw [e]
    · exact ⟨(fun q => by cases q), fun q => by have := l1 g q; omega⟩
    · exact ⟨(fun q => by cases q), fun q => by have := l1 g q; omega⟩
    · exact ⟨(fun q => by cases q), fun q => by have := l1 g q; omega⟩
    · exact ⟨(fun q => by cases q), fun q => by have := l1 g q; have := w1 g h; omega⟩
    · exact ⟨(fun q => by cases q), fun q => by have := l1 g q; omega⟩
    · exact ⟨fun _ => h, fun _ => rfl⟩
    · exact ⟨(fun q => by cases q), fun q => absurd q h⟩
  have e4 : (fun g => col0 M1 M2 pt bq a3 g = 4) = M2 := by
    funext g
    apply propext
    rcases cs g with ⟨h, e⟩ | ⟨h, e⟩ | ⟨h, e⟩ | ⟨h, e⟩ | ⟨h, e⟩ | ⟨h, e⟩ | ⟨_, h, _, _, _, _, _, e⟩
    all_goals rw [e]
    · exact ⟨(fun q => by cases q), fun q => by have := w1 g q; omega⟩
    · exact ⟨(fun q => by cases q), fun q => by have := w1 g q; omega⟩
    · exact ⟨(fun q => by cases q), fun q => by have := w1 g q; omega⟩
    · exact ⟨fun _ => h, fun _ => rfl⟩
    · exact ⟨(fun q => by cases q), fun q => by have := w1 g q; omega⟩
    · exact ⟨(fun q => by cases q), fun q => by have := w1 g q; have := l1 g h; omega⟩
    · exact ⟨(fun q => by cases q), fun q => absurd q h⟩
  have c3 : ∀ g, (g = pt ∨ g = bq) → col0 M1 M2 pt bq a3 g = 3 := fun g hg => by
    rcases cs g with ⟨h, e⟩ | ⟨h, e⟩ | ⟨h, e⟩ | ⟨h, e⟩ | ⟨h, e⟩ | ⟨h, e⟩ | ⟨_, _, h1, h2, _, _, _, e⟩
    · omega
    · omega
    · omega
    · have := w1 g h; omega
    · exact e
    · have := l1 g h; omega
    · omega
  refine ⟨{ row := row, cp := if_pos rfl, ln := by rw [e2]; exact hl, tn := ⟨0, [], ht, rfl, Nat.le_refl _⟩, ct := ⟨c3 _ (.inl rfl), c3 _ (.inr rfl)⟩, wg := by rw [e4]; exact hw, tm := mt, cb := ?_, tk := fun t h => (by cases h), inj := fun s h => (by cases h), mm := mm, cm := ?_, mv := fun t h => (by cases h), ma := fun t h => (by cases h), lt := fun g hg => ?_ }, fun g hg => ?_⟩
  · show col0 M1 M2 pt bq a3 a3 = 5
    unfold col0
    rw [if_neg (by omega), if_neg (by omega), if_pos rfl]
  · show col0 M1 M2 pt bq a3 (a3 + 1) = 7
    unfold col0
    rw [if_neg (by omega), if_pos rfl]
  · have lr := row.lt
    rcases cs g with ⟨h, e⟩ | ⟨h, e⟩ | ⟨h, e⟩ | ⟨h, e⟩ | ⟨h, e⟩ | ⟨h, e⟩ | ⟨_, _, _, _, _, _, _, e⟩
    · omega
    · omega
    · omega
    · have := w1 g h; omega
    · omega
    · have := l1 g h; omega
    · exact absurd e hg
  · rcases cs g with ⟨h, e⟩ | ⟨h, e⟩ | ⟨h, e⟩ | ⟨h, e⟩ | ⟨h, e⟩ | ⟨h, e⟩ | ⟨_, _, _, _, _, _, _, e⟩
    · omega
    · omega
    · omega
    · have := w1 g h; omega
    · omega
    · exact (l1 g h).1
    · exact absurd e hg
end
theorem Inv.start {o : Opt} (h : o.MayC) : Inv (E0 o) := by
  have m := h
  unfold Opt.MayC at m
  exact { may := h, ids := List.Pairwise.nil, idr := fun t h => (by cases h), blk := fun t h => (by cases h), kin := fun t h => (by cases h), tri := fun t h => (by cases h), once := List.Pairwise.nil, qs1 := fun t h => (by cases h), qs2 := fun t h => (by cases h), fewd := (by show (0 : Int) ≤ o.b3; omega), fewa := (by show (0 : Int) ≤ o.b4; omega), good := good_nil (by show 1 ≤ o.b9.toNat; omega) (by show o.b9.toNat ≤ 64; omega), g1 := fun t h => (by cases h), wr := fun t h => (by cases h), hd := fun t h => (by cases h), tags := List.Pairwise.nil, tagr := fun t h => (by cases h), mlen := (by show (0 : Int) ≤ o.b5; omega), mok := fun t h => (by cases h), mt := fun t h => (by cases h), rt := fun t h => (by cases h), nd := List.Pairwise.nil, all := fun t h => (by cases h) }
theorem EP.start {w : World} {p : Nat} {o : Opt} {c : Nat → Nat} {X : Loc} (h : EO w p c X 0 0 o 0 0 [] [] [] [] [] [] []) (hm : o.MayC) : EP w p c X 0 0 [] (E0 o) :=
  { eo := h, sub := fun t h => (by cases h), may := hm, idr := fun t h => (by cases h), tag := fun t h => (by cases h), few := Nat.zero_le _, mfew := Nat.zero_le _, ntH := Nat.le_refl _, ngH := Nat.le_refl _, hF := by decide, hH := by decide }
set_option maxHeartbeats 4000000 in
theorem enew_yes (o : Opt) (w : World) (hb : Bd w) (hm : o.MayC) :
    Calls Tryz.prog 11 #[o.val] w fun e w' => ∃ p, e = .returned (.tuple #[ptrTo p, .int .i64 0]) ∧ (∃ c X, EP w' p c X 0 0 [] (E0 o) ∧ ∀ g, c g ≠ 0 → w.heap.size ≤ g) ∧ Only none_ w w' := by
  have m := hm
  unfold Opt.MayC at m
  have hmm := @run_makeMap Tryz.prog
  obtain ⟨W0, hW0⟩ : ∃ W, W = w.alloc (.cells o.cells 23) := ⟨_, rfl⟩
  have o0 : Only none_ w W0 := by rw [hW0]; exact (Only.refl _ _).alloc _
  have r0 : Row W0 w.heap.size 23 o.cells := by rw [hW0]; exact Row.fresh _ _ _
  have OP := opt_may o W0 (hb.still o0)
  rw [if_pos (show o.mayB = true from decide_eq_true hm)] at OP
  have L1 : (o.b0.toNat : Int) = o.b0 := by omega
  have L2 : ((o.b3 + o.b4).toNat : Int) = o.b3 + o.b4 := by omega
  have L3 : (o.b3.toNat : Int) = o.b3 := by omega
  have L4 : (o.b4.toNat : Int) = o.b4 := by omega
  have L5 : (o.b9.toNat : Int) = o.b9 := by omega
  have LN := Lib.hid (fun w => by have := lnew_yes o.b0.toNat (o.b3 + o.b4).toNat w (by omega) (by omega) (by omega) (by omega); rw [L1, L2] at this; exact this)
  have TN := Lib.hid (fun w => by have := tnew_yes o.b3.toNat o.b4.toNat w (by omega) (by omega) (by omega); rw [L3, L4] at this; exact this)
  have WN := Lib.hid (fun w => by have := wnew_yes o.b9.toNat w (by omega) (by omega); rw [L5] at this; exact this)
  have v1 : IntKind.i64.wrap (o.b3 + o.b4) = o.b3 + o.b4 := by rw [IntKind.wrap_i64]; omega
  have HM := Lib.hid hm
  have O0 := Lib.hid o0
  have R0 := Lib.hid r0
  unfold Opt.val at OP ⊢
  unfold Opt.cells at hW0 r0
  have OP := Lib.hid OP
  have KC := Lib.hid (fun (w' : World) (h : Only none_ W0 w') (i : Nat) => (h.still R0.out).cell i)
  have q0 : W0.cell? ⟨w.heap.size, 0, none⟩ = some (.int .i64 o.b0) := r0.cell 0
  have q1 : W0.cell? ⟨w.heap.size, 1, none⟩ = some (.int .i64 o.b1) := r0.cell 1
  have q2 : W0.cell? ⟨w.heap.size, 2, none⟩ = some (.int .i64 o.b2) := r0.cell 2
  have q3 : W0.cell? ⟨w.heap.size, 3, none⟩ = some (.int .i64 o.b3) := r0.cell 3
  have q4 : W0.cell? ⟨w.heap.size, 4, none⟩ = some (.int .i64 o.b4) := r0.cell 4
  have q5 : W0.cell? ⟨w.heap.size, 5, none⟩ = some (.int .i64 o.b5) := r0.cell 5
  have q6 : W0.cell? ⟨w.heap.size, 6, none⟩ = some (.int .i64 o.b6) := r0.cell 6
  have q7 : W0.cell? ⟨w.heap.size, 7, none⟩ = some (.int .i64 o.b7) := r0.cell 7
  have q8 : W0.cell? ⟨w.heap.size, 8, none⟩ = some (.int .i64 o.b8) := r0.cell 8
  have q9 : W0.cell? ⟨w.heap.size, 9, none⟩ = some (.int .i64 o.b9) := r0.cell 9
  have q10 : W0.cell? ⟨w.heap.size, 10, none⟩ = some (.int .i64 o.b10) := r0.cell 10
  have q11 : W0.cell? ⟨w.heap.size, 11, none⟩ = some (.int .i64 o.b11) := r0.cell 11
  have q12 : W0.cell? ⟨w.heap.size, 12, none⟩ = some (.int .i64 o.b12) := r0.cell 12
  have q13 : W0.cell? ⟨w.heap.size, 13, none⟩ = some (.int .i64 o.b13) := r0.cell 13
  clear m hm o0 r0 hb L1 L2 L3 L4 L5
  go_enter Tryz.func11, Tryz.ntmps11
  go_upto_region 1 with fail
  rw [← hW0]
  clear hW0
  go_wp2_with fail
  (with_reducible refine OP.out.mono ?_)
  rintro e w1 ⟨rfl, o1⟩
  have O1 := Lib.hid o1
  have y0 : w1.cell? ⟨w.heap.size, 0, none⟩ = some (.int .i64 o.b0) := KC.out _ o1 0
  have y3 : w1.cell? ⟨w.heap.size, 3, none⟩ = some (.int .i64 o.b3) := KC.out _ o1 3
  have y4 : w1.cell? ⟨w.heap.size, 4, none⟩ = some (.int .i64 o.b4) := KC.out _ o1 4
  clear q0 q1 q2 q3 q4 q5 q6 q7 q8 q9 q10 q11 q12 q13 o1 OP
  go_wp2_with fail
  (with_reducible refine (LN.out _).mono ?_)
  rintro e w2 ⟨pl, rfl, ⟨M1, hl, l1⟩, o2⟩
  have O2 := Lib.hid (O1.out.same o2)
  have HL := Lib.hid hl
  have HL1 := Lib.hid l1
  have SZ2 := Lib.hid o2.size
  have z3 : w2.cell? ⟨w.heap.size, 3, none⟩ = some (.int .i64 o.b3) := KC.out _ O2.out 3
  have z4 : w2.cell? ⟨w.heap.size, 4, none⟩ = some (.int .i64 o.b4) := KC.out _ O2.out 4
  clear y0 y3 y4 hl l1 o2
  go_wp2_with fail
  (with_reducible refine (TN.out _).mono ?_)
  rintro e w3 ⟨pt, bq, rfl, ht, t1, t2, o3⟩
  have O3 := Lib.hid (O2.out.same o3)
  have HT := Lib.hid ht
  have HT1 := Lib.hid (show w2.heap.size ≤ pt ∧ w2.heap.size ≤ bq from ⟨t1, t2⟩)
  have OO3 := Lib.hid o3
  have y9 : w3.cell? ⟨w.heap.size, 9, none⟩ = some (.int .i64 o.b9) := KC.out _ O3.out 9
  clear z3 z4 ht t1 t2 o3
  go_wp2_with fail
  (with_reducible refine (WN.out _).mono ?_)
  rintro e w4 ⟨pg, rfl, ⟨M2, hw, hw1⟩, o4⟩
  have O4 := Lib.hid (O3.out.same o4)
  have HW := Lib.hid hw
  have HW1 := Lib.hid hw1
  have OO4 := Lib.hid o4
  have q0 : w4.cell? ⟨w.heap.size, 0, none⟩ = some (.int .i64 o.b0) := KC.out _ O4.out 0
  have q1 : w4.cell? ⟨w.heap.size, 1, none⟩ = some (.int .i64 o.b1) := KC.out _ O4.out 1
  have q2 : w4.cell? ⟨w.heap.size, 2, none⟩ = some (.int .i64 o.b2) := KC.out _ O4.out 2
  have q3 : w4.cell? ⟨w.heap.size, 3, none⟩ = some (.int .i64 o.b3) := KC.out _ O4.out 3
  have q4 : w4.cell? ⟨w.heap.size, 4, none⟩ = some (.int .i64 o.b4) := KC.out _ O4.out 4
  have q5 : w4.cell? ⟨w.heap.size, 5, none⟩ = some (.int .i64 o.b5) := KC.out _ O4.out 5
  have q6 : w4.cell? ⟨w.heap.size, 6, none⟩ = some (.int .i64 o.b6) := KC.out _ O4.out 6
  have q7 : w4.cell? ⟨w.heap.size, 7, none⟩ = some (.int .i64 o.b7) := KC.out _ O4.out 7
  have q8 : w4.cell? ⟨w.heap.size, 8, none⟩ = some (.int .i64 o.b8) := KC.out _ O4.out 8
  have q9 : w4.cell? ⟨w.heap.size, 9, none⟩ = some (.int .i64 o.b9) := KC.out _ O4.out 9
  have q10 : w4.cell? ⟨w.heap.size, 10, none⟩ = some (.int .i64 o.b10) := KC.out _ O4.out 10
  have q11 : w4.cell? ⟨w.heap.size, 11, none⟩ = some (.int .i64 o.b11) := KC.out _ O4.out 11
  have q12 : w4.cell? ⟨w.heap.size, 12, none⟩ = some (.int .i64 o.b12) := KC.out _ O4.out 12
  have q13 : w4.cell? ⟨w.heap.size, 13, none⟩ = some (.int .i64 o.b13) := KC.out _ O4.out 13
  clear y9 hw hw1 o4
  go_wp2
  go_ret2
  have m0 := Mg.made w4
  have a1 : Only none_ w4 (w4.alloc (.map #[] 0)) := (Only.refl _ _).alloc _
  have m1 := Mg.made (w4.alloc (.map #[] 0))
  have a2 : Only none_ (w4.alloc (.map #[] 0)) ((w4.alloc (.map #[] 0)).alloc (.map #[] 0)) := (Only.refl _ _).alloc _
  have a3 := ((Only.refl none_ ((w4.alloc (.map #[] 0)).alloc (.map #[] 0))).alloc (.cells (engCells ⟨pl, pt, bq, pg, w4.heap.size, w4.heap.size + 1, fun _ => 0, fun _ => (.slice none 0 0, .slice none 0 0, .slice none 0 0)⟩ o 0 0) 99))
  have r3 := Row.fresh ((w4.alloc (.map #[] 0)).alloc (.map #[] 0)) 99 (engCells ⟨pl, pt, bq, pg, w4.heap.size, w4.heap.size + 1, fun _ => 0, fun _ => (.slice none 0 0, .slice none 0 0, .slice none 0 0)⟩ o 0 0)
  have s1 := SZ2.out
  have s2 := OO3.out.size
  have s3 := OO4.out.size
  have s0 := O1.out.size
  have ss := O0.out.size
  have a13 := (a1.same a2).same a3
  have ee := EO.start (o := o) (a0 := w1.heap.size) (a1 := w2.heap.size) (a2 := w3.heap.size) (a3 := w4.heap.size) ((((HL.out.still OO3.out).still OO4.out)).still a13) (fun g hg => ⟨HL1.out g hg, (by obtain ⟨r, b, vs, ll⟩ := HL.out; exact ll.lt g hg)⟩)
    ((HT.out.still OO4.out).still a13) ⟨HT1.out.1, HT.out.row.lt, HT1.out.2, HT.out.md.lt⟩ (HW.out.still a13) (fun g hg => ⟨HW1.out g hg, HW.out.lt g hg⟩) ⟨s1, s2, s3⟩ (m0.still (a2.same a3)) (by have := m1.still a3; simpa using this) (by simpa using r3)
  exact ⟨w4.heap.size + 2, rfl, ⟨_, _, EP.start ee.1 HM.out, fun g hg => by have := ee.2 g hg; have := O0.out.size; omega⟩, (O0.out.same O4.out).same a13⟩
theorem enew_no (o : Opt) (w : World) (hb : Bd w) (hm : o.mayB = false) :
    Calls Tryz.prog 11 #[o.val] w fun e w' => e = .returned (.tuple #[.pointer none, .int .i64 1]) ∧ Only none_ w w' := by
  obtain ⟨W0, hW0⟩ : ∃ W, W = w.alloc (.cells o.cells 23) := ⟨_, rfl⟩
  have o0 : Only none_ w W0 := by rw [hW0]; exact (Only.refl _ _).alloc _
  have r0 : Row W0 w.heap.size 23 o.cells := by rw [hW0]; exact Row.fresh _ _ _
  have OP := opt_may o W0 (hb.still o0)
  rw [if_neg (show ¬ o.mayB = true from by rw [hm]; decide)] at OP
  have O0 := Lib.hid o0
  unfold Opt.val at OP ⊢
  unfold Opt.cells at hW0 r0
  have OP := Lib.hid OP
  have q0 : W0.cell? ⟨w.heap.size, 0, none⟩ = some (.int .i64 o.b0) := r0.cell 0
  have q1 : W0.cell? ⟨w.heap.size, 1, none⟩ = some (.int .i64 o.b1) := r0.cell 1
  have q2 : W0.cell? ⟨w.heap.size, 2, none⟩ = some (.int .i64 o.b2) := r0.cell 2
  have q3 : W0.cell? ⟨w.heap.size, 3, none⟩ = some (.int .i64 o.b3) := r0.cell 3
  have q4 : W0.cell? ⟨w.heap.size, 4, none⟩ = some (.int .i64 o.b4) := r0.cell 4
  have q5 : W0.cell? ⟨w.heap.size, 5, none⟩ = some (.int .i64 o.b5) := r0.cell 5
  have q6 : W0.cell? ⟨w.heap.size, 6, none⟩ = some (.int .i64 o.b6) := r0.cell 6
  have q7 : W0.cell? ⟨w.heap.size, 7, none⟩ = some (.int .i64 o.b7) := r0.cell 7
  have q8 : W0.cell? ⟨w.heap.size, 8, none⟩ = some (.int .i64 o.b8) := r0.cell 8
  have q9 : W0.cell? ⟨w.heap.size, 9, none⟩ = some (.int .i64 o.b9) := r0.cell 9
  have q10 : W0.cell? ⟨w.heap.size, 10, none⟩ = some (.int .i64 o.b10) := r0.cell 10
  have q11 : W0.cell? ⟨w.heap.size, 11, none⟩ = some (.int .i64 o.b11) := r0.cell 11
  have q12 : W0.cell? ⟨w.heap.size, 12, none⟩ = some (.int .i64 o.b12) := r0.cell 12
  have q13 : W0.cell? ⟨w.heap.size, 13, none⟩ = some (.int .i64 o.b13) := r0.cell 13
  clear o0 r0 hb hm
  go_enter Tryz.func11, Tryz.ntmps11
  go_upto_region 1 with fail
  rw [← hW0]
  clear hW0
  go_wp2_with fail
  (with_reducible refine OP.out.mono ?_)
  rintro e w1 ⟨rfl, o1⟩
  have O1 := Lib.hid o1
  clear o1 OP
  go_wp2_with fail
  go_ret2
  exact ⟨rfl, O0.out.same O1.out⟩
end Go.Proofs.YtfbpjobobdidiaaGreatDoor
