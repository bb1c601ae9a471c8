/- Arguments of the laws of layer 15: options, and an operation, that came in. No condition but what each says. -/
import Derived.Test.YtnhcgnmanonmaaaDoorAw
import Derived.OpenShut
import Derived.Lib.SmallJoins
namespace Go.Proofs.YtnhcgnmanonmaaaDoor
open Go.RowKit Go.ChangeShapes Go.WideShapes Go.Deep
set_option linter.unusedVariables false

theorem Only.to_below {a b : World} (h : Only none_ a b) : Below a.heap.size a b := h.below (Nat.le_refl _) (fun _ _ s => s)
theorem bd_i64 {a : Int} (h : (Lit.int .i64 a).wf = true) : -9223372036854775808 ≤ a ∧ a ≤ 9223372036854775807 := by
  simp only [Lit.wf, Bool.and_eq_true, decide_eq_true_eq] at h
  exact h
theorem bd_u8 {a : Int} (h : (Lit.int .u8 a).wf = true) : 0 ≤ a ∧ a ≤ 255 := by
  simp only [Lit.wf, Bool.and_eq_true, decide_eq_true_eq] at h
  exact h
theorem cellsOpt : Tryd.prog.cellsOf 23 = 14 := by kernel_rfl
theorem cellsOp : Tryd.prog.cellsOf 34 = 6 := by kernel_rfl
set_option maxRecDepth 100000 in
theorem open_opt (W : World) (base : Nat) (H : Type) (enc : TypeId × Value → H) (v : Value) (d : DataW H) (p : List MemPlace) (o : Value.okWide Tryd.prog W .any base 23 v) (h : DataW.Trod enc Tryd.prog W 0 (fun _ => true) true 23 v d p) :
    ∃ f : Opt, v = f.val ∧ True := by
  simp only [Value.okWide, Tryd.underlying23] at o
  obtain ⟨cs, rfl, hsz, _⟩ := o
  rw [cellsOpt] at hsz
  obtain ⟨fuel, hf⟩ := h
  simp only [Value.cells] at hf
  obtain ⟨hl, m, hx⟩ := open_fields Tryd.underlying23 (by kernel_rfl) cellsOpt hf
  obtain ⟨v0, y0, e0, t0⟩ := hx 0 _ rfl
  obtain ⟨a0, q0, _, w0⟩ := DataW.trod_int Tryd.underlying3 t0
  obtain ⟨v1, y1, e1, t1⟩ := hx 1 _ rfl
  obtain ⟨a1, q1, _, w1⟩ := DataW.trod_int Tryd.underlying3 t1
  obtain ⟨v2, y2, e2, t2⟩ := hx 2 _ rfl
  obtain ⟨a2, q2, _, w2⟩ := DataW.trod_int Tryd.underlying3 t2
  obtain ⟨v3, y3, e3, t3⟩ := hx 3 _ rfl
  obtain ⟨a3, q3, _, w3⟩ := DataW.trod_int Tryd.underlying3 t3
  obtain ⟨v4, y4, e4, t4⟩ := hx 4 _ rfl
  obtain ⟨a4, q4, _, w4⟩ := DataW.trod_int Tryd.underlying3 t4
  obtain ⟨v5, y5, e5, t5⟩ := hx 5 _ rfl
  obtain ⟨a5, q5, _, w5⟩ := DataW.trod_int Tryd.underlying3 t5
  obtain ⟨v6, y6, e6, t6⟩ := hx 6 _ rfl
  obtain ⟨a6, q6, _, w6⟩ := DataW.trod_int Tryd.underlying3 t6
  obtain ⟨v7, y7, e7, t7⟩ := hx 7 _ rfl
  obtain ⟨a7, q7, _, w7⟩ := DataW.trod_int Tryd.underlying3 t7
  obtain ⟨v8, y8, e8, t8⟩ := hx 8 _ rfl
  obtain ⟨a8, q8, _, w8⟩ := DataW.trod_int Tryd.underlying3 t8
  obtain ⟨v9, y9, e9, t9⟩ := hx 9 _ rfl
  obtain ⟨a9, q9, _, w9⟩ := DataW.trod_int Tryd.underlying3 t9
  obtain ⟨v10, y10, e10, t10⟩ := hx 10 _ rfl
  obtain ⟨a10, q10, _, w10⟩ := DataW.trod_int Tryd.underlying3 t10
  obtain ⟨v11, y11, e11, t11⟩ := hx 11 _ rfl
  obtain ⟨a11, q11, _, w11⟩ := DataW.trod_int Tryd.underlying3 t11
  obtain ⟨v12, y12, e12, t12⟩ := hx 12 _ rfl
  obtain ⟨a12, q12, _, w12⟩ := DataW.trod_int Tryd.underlying3 t12
  obtain ⟨v13, y13, e13, t13⟩ := hx 13 _ rfl
  obtain ⟨a13, q13, _, w13⟩ := DataW.trod_int Tryd.underlying3 t13
  simp only [List.cons.injEq, and_true] at q0 q1 q2 q3 q4 q5 q6 q7 q8 q9 q10 q11 q12 q13
  subst q0 q1 q2 q3 q4 q5 q6 q7 q8 q9 q10 q11 q12 q13
  have hcs : cs = Opt.cells ⟨a0, a1, a2, a3, a4, a5, a6, a7, a8, a9, a10, a11, a12, a13⟩ := by
    apply Array.toList_inj.1
    apply List.ext_getElem?
    intro j
    match j with
    | 0 => exact e0
    | 1 => exact e1
    | 2 => exact e2
    | 3 => exact e3
    | 4 => exact e4
    | 5 => exact e5
    | 6 => exact e6
    | 7 => exact e7
    | 8 => exact e8
    | 9 => exact e9
    | 10 => exact e10
    | 11 => exact e11
    | 12 => exact e12
    | 13 => exact e13
    | j + 14 => rw [List.getElem?_eq_none (by rw [hl]; show 14 ≤ j + 14; omega), List.getElem?_eq_none (by show 14 ≤ j + 14; omega)]
  subst hcs
  exact ⟨⟨a0, a1, a2, a3, a4, a5, a6, a7, a8, a9, a10, a11, a12, a13⟩, rfl, trivial⟩
def Opn.Wf (o : Opn) : Prop := (-9223372036854775808 ≤ o.first ∧ o.first ≤ 9223372036854775807) ∧ o.len ≤ 9223372036854775807 ∧ (-9223372036854775808 ≤ o.count ∧ o.count ≤ 9223372036854775807)
theorem cell_slice {H : Type} {enc : TypeId × Value → H} {W : World} {fuel : Nat} {v : Value} {y : DataW H × List MemPlace} (h : DataW.trod enc Tryd.prog W 0 (fun _ => true) true fuel 32 [v] = some y) :
    ∃ A len cap, v = .slice A len cap ∧ len ≤ 9223372036854775807 := by
  have hm : maxLen ≤ 9223372036854775807 := by decide
  rcases DataW.trod_slice Tryd.underlying32 h with ⟨e, _⟩ | ⟨a, len, cap, elems, rest, n, _, e, _, _, hl, hc, _⟩
  · exact ⟨none, 0, 0, by simpa using e, by decide⟩
  · exact ⟨some a, len, cap, by simpa using e, by omega⟩
set_option maxRecDepth 100000 in
theorem open_opn (W : World) (base : Nat) (H : Type) (enc : TypeId × Value → H) (v : Value) (d : DataW H) (p : List MemPlace) (o : Value.okWide Tryd.prog W .any base 34 v) (h : DataW.Trod enc Tryd.prog W 0 (fun _ => true) true 34 v d p) :
    ∃ f : Opn, v = f.val ∧ f.Wf := by
  simp only [Value.okWide, Tryd.underlying34] at o
  obtain ⟨cs, rfl, hsz, _⟩ := o
  rw [cellsOp] at hsz
  obtain ⟨fuel, hf⟩ := h
  simp only [Value.cells] at hf
  obtain ⟨hl, m, hx⟩ := open_fields Tryd.underlying34 (by kernel_rfl) cellsOp hf
  obtain ⟨v0, y0, e0, t0⟩ := hx 0 _ rfl
  obtain ⟨a0, q0, _, w0⟩ := DataW.trod_int Tryd.underlying3 t0
  obtain ⟨v1, y1, e1, t1⟩ := hx 1 _ rfl
  obtain ⟨a1, q1, _, w1⟩ := DataW.trod_int Tryd.underlying3 t1
  obtain ⟨v2, y2, e2, t2⟩ := hx 2 _ rfl
  obtain ⟨a2, q2, _, w2⟩ := DataW.trod_int Tryd.underlying3 t2
  obtain ⟨v3, y3, e3, t3⟩ := hx 3 _ rfl
  obtain ⟨a3, q3, _, w3⟩ := DataW.trod_int Tryd.underlying3 t3
  obtain ⟨v4, y4, e4, t4⟩ := hx 4 _ rfl
  obtain ⟨A, len, cap, rfl, hlen⟩ := cell_slice t4
  obtain ⟨v5, y5, e5, t5⟩ := hx 5 _ rfl
  obtain ⟨b, q5, _⟩ := DataW.trod_bool Tryd.underlying4 t5
  simp only [List.cons.injEq, and_true] at q0 q1 q2 q3 q5
  subst q0 q1 q2 q3 q5
  have hcs : cs = Opn.cells ⟨a0, a1, a2, a3, A, len, cap, b⟩ := by
    apply Array.toList_inj.1
    apply List.ext_getElem?
    intro j
    match j with
    | 0 => exact e0
    | 1 => exact e1
    | 2 => exact e2
    | 3 => exact e3
    | 4 => exact e4
    | 5 => exact e5
    | j + 6 => rw [List.getElem?_eq_none (by rw [hl]; show 6 ≤ j + 6; omega), List.getElem?_eq_none (by show 6 ≤ j + 6; omega)]
  subst hcs
  exact ⟨⟨a0, a1, a2, a3, A, len, cap, b⟩, rfl, bd_i64 w2, hlen, bd_i64 w3⟩
theorem Row.fourteen {w : World} {g : Nat} {t : TypeId} {b0 b1 b2 b3 b4 b5 b6 b7 b8 b9 b10 b11 b12 b13 : Int} (h : Row w g t (Opt.cells ⟨b0, b1, b2, b3, b4, b5, b6, b7, b8, b9, b10, b11, b12, b13⟩)) :
    w.cell? ⟨g, 0, none⟩ = some (.int .i64 b0) ∧ w.cell? ⟨g, 1, none⟩ = some (.int .i64 b1) ∧ w.cell? ⟨g, 2, none⟩ = some (.int .i64 b2) ∧ w.cell? ⟨g, 3, none⟩ = some (.int .i64 b3) ∧ w.cell? ⟨g, 4, none⟩ = some (.int .i64 b4) ∧ w.cell? ⟨g, 5, none⟩ = some (.int .i64 b5) ∧ w.cell? ⟨g, 6, none⟩ = some (.int .i64 b6) ∧ w.cell? ⟨g, 7, none⟩ = some (.int .i64 b7) ∧ w.cell? ⟨g, 8, none⟩ = some (.int .i64 b8) ∧ w.cell? ⟨g, 9, none⟩ = some (.int .i64 b9) ∧ w.cell? ⟨g, 10, none⟩ = some (.int .i64 b10) ∧ w.cell? ⟨g, 11, none⟩ = some (.int .i64 b11) ∧ w.cell? ⟨g, 12, none⟩ = some (.int .i64 b12) ∧ w.cell? ⟨g, 13, none⟩ = some (.int .i64 b13) := by
  refine ⟨?_, ?_, ?_, ?_, ?_, ?_, ?_, ?_, ?_, ?_, ?_, ?_, ?_, ?_⟩ <;> (rw [h.cell]; rfl)
theorem eq_rn (r s : Rn) (w : World) : (Op.equalIn 10000 37 (.agg #[.int .i64 r.f, .int .i64 r.c]) (.agg #[.int .i64 s.f, .int .i64 s.c])).run Tryd.prog w = .ok (decide (r = s)) w := by
  have h : decide (r = s) = (r.f == s.f && r.c == s.c) := by
    obtain ⟨a, b⟩ := r
    obtain ⟨a', b'⟩ := s
    rw [Bool.eq_iff_iff]
    simp
  rw [h]
  simp [go_sem]
  by_cases h1 : r.f = s.f <;> by_cases h2 : r.c = s.c <;> simp [h1, h2]
theorem eq_usual (b : Int) (w : World) : (Op.equalIn 10000 23 (usual b).val (usual b).val).run Tryd.prog w = .ok true w := by
  simp [usual, Opt.val, go_sem]
theorem eq_nought (w : World) : (Op.equalIn 10000 23 nought.val nought.val).run Tryd.prog w = .ok true w := by
  kernel_rfl
end Go.Proofs.YtnhcgnmanonmaaaDoor
