/- What the laws of layer 9 share: a pace that came in, pairs, rows of beats; awake answers true. -/
import Derived.Test.YtfmmmiiohaaegaaAmpRr
import Derived.Test.YtfmmmiiohaaegaaArgs
import Derived.OpenShut
import Derived.Lib.SmallJoins
namespace Go.Proofs.Ytfmmmiiohaaegaa
open Go.RowKit Go.ChangeShapes Go.WideShapes Go.Deep
set_option linter.unusedVariables false

theorem rread_any (f : Fl) (c d b : Int) (w : World) :
    Calls Try.prog 32 #[f.val, .int .i64 c, .int .i64 d, .int .i64 b] w fun e w' => e = .returned (.tuple #[(f.readF c d b).val, (f.readR c d b).val, .int .i64 (f.readC c d b)]) ∧ Only none_ w w' := by
  by_cases h : f.readC c d b = 0
  · have q : (f.May d b ∧ 1 ≤ c ∧ c ≤ 8) ∧ f.n + c ≤ b := by
      unfold Fl.readC at h
      by_cases q : f.May d b ∧ 1 ≤ c ∧ c ≤ 8
      · rw [if_pos q] at h
        by_cases k : f.n + c ≤ b
        · exact ⟨q, k⟩
        · rw [if_neg k] at h; cases h
      · rw [if_neg q] at h; cases h
    rw [show f.readF c d b = (f.moved c d).askF b from by unfold Fl.readF; rw [if_pos h], show f.readR c d b = (f.moved c d).askR b from by unfold Fl.readR; rw [if_pos h], h]
    exact rread_yes f c d b w q.1.1 q.1.2.1 q.1.2.2 q.2
  · rw [show f.readF c d b = ⟨0, 0, 0, 0⟩ from by unfold Fl.readF; rw [if_neg h], show f.readR c d b = ⟨0, 0⟩ from by unfold Fl.readR; rw [if_neg h]]
    exact rread_no f c d b w h

theorem Only.to_below9 {a b : World} (h : Only none_ a b) : Below a.heap.size a b := h.below (Nat.le_refl _) (fun _ _ s => s)
theorem below_on9 {w w1 w2 : World} (h : Below w.heap.size w w1) (o : Only none_ w1 w2) : Below w.heap.size w w2 := Only.below_to h o (Nat.le_refl _) (fun _ _ s => s)
theorem bd_u8 {a : Int} (h : (Lit.int .u8 a).wf = true) : 0 ≤ a ∧ a ≤ 255 := by
  simp only [Lit.wf, Bool.and_eq_true, decide_eq_true_eq] at h
  exact h
theorem bd_i64 {a : Int} (h : (Lit.int .i64 a).wf = true) : -9223372036854775808 ≤ a ∧ a ≤ 9223372036854775807 := by
  simp only [Lit.wf, Bool.and_eq_true, decide_eq_true_eq] at h
  exact h

theorem eq_rn (r s : Rn) (w : World) : (Op.equalIn 10000 36 (.agg #[.int .i64 r.f, .int .i64 r.c]) (.agg #[.int .i64 s.f, .int .i64 s.c])).run Try.prog w = .ok (decide (r = s)) w := by
  have h : decide (r = s) = (r.f == s.f && r.c == s.c) := by
    obtain ⟨a, b⟩ := r
    obtain ⟨a', b'⟩ := s
    rw [Bool.eq_iff_iff]
    simp
  rw [h]
  simp [go_sem]
  by_cases h1 : r.f = s.f <;> by_cases h2 : r.c = s.c <;> simp [h1, h2]

theorem cellsFlow : Try.prog.cellsOf 57 = 4 := by kernel_rfl
set_option maxRecDepth 100000 in
theorem open_flow (W : World) (base : Nat) (H : Type) (enc : TypeId × Value → H) (v : Value) (d : DataW H) (p : List MemPlace) (o : Value.okWide Try.prog W .any base 57 v) (h : DataW.Trod enc Try.prog W 0 (fun _ => true) true 57 v d p) :
    ∃ f : Fl, v = f.val ∧ f.Wf := by
  simp only [Value.okWide, Try.underlying57] at o
  obtain ⟨cs, rfl, hsz, _⟩ := o
  rw [cellsFlow] at hsz
  obtain ⟨fuel, hf⟩ := h
  simp only [Value.cells] at hf
  obtain ⟨hl, m, hx⟩ := open_fields Try.underlying57 (by kernel_rfl) cellsFlow hf
  obtain ⟨v0, y0, e0, t0⟩ := hx 0 _ rfl
  obtain ⟨v1, y1, e1, t1⟩ := hx 1 _ rfl
  obtain ⟨v2, y2, e2, t2⟩ := hx 2 _ rfl
  obtain ⟨v3, y3, e3, t3⟩ := hx 3 _ rfl
  obtain ⟨a0, q0, _, w0⟩ := DataW.trod_int Try.underlying3 t0
  obtain ⟨a1, q1, _, w1⟩ := DataW.trod_int Try.underlying3 t1
  obtain ⟨a2, q2, _, w2⟩ := DataW.trod_int Try.underlying3 t2
  obtain ⟨a3, q3, _, w3⟩ := DataW.trod_int Try.underlying3 t3
  simp only [List.cons.injEq, and_true] at q0 q1 q2 q3
  subst q0 q1 q2 q3
  have hcs : cs = #[.int .i64 a0, .int .i64 a1, .int .i64 a2, .int .i64 a3] := by
    apply Array.toList_inj.1
    apply List.ext_getElem?
    intro j
    match j with
    | 0 => exact e0
    | 1 => exact e1
    | 2 => exact e2
    | 3 => exact e3
    | j + 4 => rw [List.getElem?_eq_none (by rw [hl]; show 4 ≤ j + 4; omega), List.getElem?_eq_none (by show 4 ≤ j + 4; omega)]
  subst hcs
  have b0 := bd_i64 w0
  have b1 := bd_i64 w1
  have b2 := bd_i64 w2
  have b3 := bd_i64 w3
  exact ⟨⟨a0, a1, a2, a3⟩, rfl, b0.1, b0.2, b1.1, b1.2, b2.1, b2.2, b3.1, b3.2⟩

theorem cellsI : Try.prog.cellsOf 3 = 1 := by kernel_rfl
theorem cellsB8 : Try.prog.cellsOf 5 = 1 := by kernel_rfl
structure Beat1 where
  kind : Int
  count : Int
def Beat1.cells (a : Beat1) : List Value := [.int .i64 a.kind, .int .i64 a.count]
instance : Inhabited Beat1 := ⟨⟨0, 0⟩⟩
theorem beat_at {w w' : World} {A : Option Addr} {xs : List Beat1} (h : Holds w A 2 Beat1.cells xs) (hb : Below w.heap.size w w') {i : Nat} {a : Beat1} (hi : xs[i]? = some a) :
    ∃ b o, A = some ⟨b, o, none⟩ ∧ b < w.heap.size ∧ w'.cell? ⟨b, o + i * 2, none⟩ = some (.int .i64 a.kind) ∧ w'.cell? ⟨b, o + i * 2 + 1, none⟩ = some (.int .i64 a.count) := by
  obtain ⟨b, o, e, hlt, hc⟩ := h.at_ hb hi
  exact ⟨b, o, e, hlt, by rw [show o + i * 2 = o + (i * 2 + 0) from rfl]; exact hc 0 _ rfl, by rw [Nat.add_assoc]; exact hc 1 _ rfl⟩

end Go.Proofs.Ytfmmmiiohaaegaa
