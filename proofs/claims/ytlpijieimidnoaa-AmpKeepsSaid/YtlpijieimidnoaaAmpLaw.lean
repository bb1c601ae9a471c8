/- What the laws of layer 9 share: a pace that came in, pairs, rows of beats; awake answers true. -/
import Derived.Test.YtlpijieimidnoaaAmpRr
import Derived.Test.YtlpijieimidnoaaArgs
import Derived.OpenShut
import Derived.Lib.SmallJoins
namespace Go.Proofs.Ytlpijieimidnoaa
open Go.RowKit Go.ChangeShapes Go.WideShapes Go.Deep
set_option linter.unusedVariables false

theorem rread_any (f : Fl) (c d b : Int) (w : World) :
    Calls Try.prog 11 #[f.val, .int .i64 c, .int .i64 d, .int .i64 b] w fun e w' => e = .returned (.tuple #[(f.readF c d b).val, (f.readR c d b).val, .int .i64 (f.readC c d b)]) ∧ Only none_ w w' := by
  by_cases h : f.readC c d b = 0
  · have q : (f.May d b ∧ 1 ≤ c ∧ c ≤ 8) ∧ f.n + c ≤ b := by
      unfold Fl.readC at h
      by_cases q : f.May d b ∧ 1 ≤ c ∧ c ≤ 8
      · rw [if_pos q] at h
        by_cases k : f.n + c ≤ b
        · exact ⟨q, k⟩
        · rw [if_neg k] at h; cases h
      · rw [if_neg q] at h; cases h
    rw [show f.readF c d b = (f.moved c d).askF b from by unfold Fl.readF; rw [if_pos h], show f.readR c d b = (f.moved c d).askR b from by unfold Fl.readR; rw [if_pos h], h]
    exact rread_yes f c d b w q.1.1 q.1.2.1 q.1.2.2 q.2
  · rw [show f.readF c d b = ⟨0, 0, 0, 0⟩ from by unfold Fl.readF; rw [if_neg h], show f.readR c d b = ⟨0, 0⟩ from by unfold Fl.readR; rw [if_neg h]]
    exact rread_no f c d b w h

theorem Only.to_below9 {a b : World} (h : Only none_ a b) : Below a.heap.size a b := h.below (Nat.le_refl _) (fun _ _ s => s)
theorem below_on9 {w w1 w2 : World} (h : Below w.heap.size w w1) (o : Only none_ w1 w2) : Below w.heap.size w w2 := Only.below_to h o (Nat.le_refl _) (fun _ _ s => s)
theorem bd_u8 {a : Int} (h : (Lit.int .u8 a).wf = true) : 0 ≤ a ∧ a ≤ 255 := by
  simp only [Lit.wf, Bool.and_eq_true, decide_eq_true_eq] at h
  exact h
theorem bd_i64 {a : Int} (h : (Lit.int .i64 a).wf = true) : -9223372036854775808 ≤ a ∧ a ≤ 9223372036854775807 := by
  simp only [Lit.wf, Bool.and_eq_true, decide_eq_true_eq] at h
  exact h

theorem eq_rn (r s : Rn) (w : World) : (Op.equalIn 10000 27 (.agg #[.int .i64 r.f, .int .i64 r.c]) (.agg #[.int .i64 s.f, .int .i64 s.c])).run Try.prog w = .ok (decide (r = s)) w := by
  have h : decide (r = s) = (r.f == s.f && r.c == s.c) := by
    obtain ⟨a, b⟩ := r
    obtain ⟨a', b'⟩ := s
    rw [Bool.eq_iff_iff]
    simp
  rw [h]
  simp [go_sem]
  by_cases h1 : r.f = s.f <;> by_cases h2 : r.c = s.c <;> simp [h1, h2]

theorem cellsFlow : Try.prog.cellsOf 23 = 4 := by kernel_rfl
set_option maxRecDepth 100000 in
theorem open_flow (W : World) (base : Nat) (H : Type) (enc : TypeId × Value → H) (v : Value) (d : DataW H) (p : List MemPlace) (o : Value.okWide Try.prog W .any base 23 v) (h : DataW.Trod enc Try.prog W 0 (fun _ => true) true 23 v d p) :
    ∃ f : Fl, v = f.val ∧ f.Wf := by
  simp only [Value.okWide, Try.underlying23] at o
  obtain ⟨cs, rfl, hsz, _⟩ := o
  rw [cellsFlow] at hsz
  obtain ⟨fuel, hf⟩ := h
  simp only [Value.cells] at hf
  obtain ⟨hl, m, hx⟩ := open_fields Try.underlying23 (by kernel_rfl) cellsFlow hf
  obtain ⟨v0, y0, e0, t0⟩ := hx 0 _ rfl
  obtain ⟨v1, y1, e1, t1⟩ := hx 1 _ rfl
  obtain ⟨v2, y2, e2, t2⟩ := hx 2 _ rfl
  obtain ⟨v3, y3, e3, t3⟩ := hx 3 _ rfl
  obtain ⟨a0, q0, _, w0⟩ := DataW.trod_int Try.underlying3 t0
  obtain ⟨a1, q1, _, w1⟩ := DataW.trod_int Try.underlying3 t1
  obtain ⟨a2, q2, _, w2⟩ := DataW.trod_int Try.underlying3 t2
  obtain ⟨a3, q3, _, w3⟩ := DataW.trod_int Try.underlying3 t3
  simp only [List.cons.injEq, and_true] at q0 q1 q2 q3
  subst q0 q1 q2 q3
  have hcs : cs = #[.int .i64 a0, .int .i64 a1, .int .i64 a2, .int .i64 a3] := by
    apply Array.toList_inj.1
    apply List.ext_getElem?
    intro j
    match j with
    | 0 => exact e0
    | 1 => exact e1
    | 2 => exact e2
    | 3 => exact e3
    | j + 4 => rw [List.getElem?_eq_none (by rw [hl]; show 4 ≤ j + 4; omega), List.getElem?_eq_none (by show 4 ≤ j + 4; omega)]
  subst hcs
  have b0 := bd_i64 w0
  have b1 := bd_i64 w1
  have b2 := bd_i64 w2
  have b3 := bd_i64 w3
  exact ⟨⟨a0, a1, a2, a3⟩, rfl, b0.1, b0.2, b1.1, b1.2, b2.1, b2.2, b3.1, b3.2⟩

theorem cellsPairI : Try.prog.cellsOf 24 = 2 := by kernel_rfl
theorem cellsI : Try.prog.cellsOf 3 = 1 := by kernel_rfl
set_option maxRecDepth 100000 in
theorem open_pairI (W : World) (base : Nat) (H : Type) (enc : TypeId × Value → H) (v : Value) (d : DataW H) (p : List MemPlace) (o : Value.okWide Try.prog W .any base 24 v) (h : DataW.Trod enc Try.prog W 0 (fun _ => true) true 24 v d p) :
    ∃ a b : Int, v = .agg #[.int .i64 a, .int .i64 b] ∧ (Lit.int .i64 a).wf = true ∧ (Lit.int .i64 b).wf = true := by
  simp only [Value.okWide, Try.underlying24] at o
  obtain ⟨cs, rfl, hsz, _⟩ := o
  rw [cellsPairI] at hsz
  obtain ⟨c0, c1, rfl⟩ := Joins.array2 hsz
  obtain ⟨fuel, hf⟩ := h
  simp only [Value.cells] at hf
  obtain ⟨xs, m, _, _, _, hl, hx⟩ := DataW.trod_array Try.underlying24 hf
  match xs, hl with
  | [y0, y1], _ =>
    have k0 := hx 0 (by omega)
    have k1 := hx 1 (by omega)
    simp [cellsI] at k0 k1
    obtain ⟨a, ea, _, wa⟩ := DataW.trod_int Try.underlying3 k0
    obtain ⟨b, eb, _, wb⟩ := DataW.trod_int Try.underlying3 k1
    simp only [List.cons.injEq, and_true] at ea eb
    subst ea; subst eb
    exact ⟨a, b, rfl, wa, wb⟩
theorem cellsPair8 : Try.prog.cellsOf 37 = 2 := by kernel_rfl
theorem cellsB8 : Try.prog.cellsOf 5 = 1 := by kernel_rfl
set_option maxRecDepth 100000 in
theorem open_pair8 (W : World) (base : Nat) (H : Type) (enc : TypeId × Value → H) (v : Value) (d : DataW H) (p : List MemPlace) (o : Value.okWide Try.prog W .any base 37 v) (h : DataW.Trod enc Try.prog W 0 (fun _ => true) true 37 v d p) :
    ∃ a b : Int, v = .agg #[.int .u8 a, .int .u8 b] ∧ (Lit.int .u8 a).wf = true ∧ (Lit.int .u8 b).wf = true := by
  simp only [Value.okWide, Try.underlying37] at o
  obtain ⟨cs, rfl, hsz, _⟩ := o
  rw [cellsPair8] at hsz
  obtain ⟨c0, c1, rfl⟩ := Joins.array2 hsz
  obtain ⟨fuel, hf⟩ := h
  simp only [Value.cells] at hf
  obtain ⟨xs, m, _, _, _, hl, hx⟩ := DataW.trod_array Try.underlying37 hf
  match xs, hl with
  | [y0, y1], _ =>
    have k0 := hx 0 (by omega)
    have k1 := hx 1 (by omega)
    simp [cellsB8] at k0 k1
    obtain ⟨a, ea, _, wa⟩ := DataW.trod_int Try.underlying5 k0
    obtain ⟨b, eb, _, wb⟩ := DataW.trod_int Try.underlying5 k1
    simp only [List.cons.injEq, and_true] at ea eb
    subst ea; subst eb
    exact ⟨a, b, rfl, wa, wb⟩

structure Beat1 where
  kind : Int
  count : Int
def Beat1.cells (a : Beat1) : List Value := [.int .i64 a.kind, .int .i64 a.count]
instance : Inhabited Beat1 := ⟨⟨0, 0⟩⟩
theorem cellsBeat : Try.prog.cellsOf 40 = 2 := by kernel_rfl
theorem open_beats {H : Type} {enc : TypeId × Value → H} {W : World} {fuel : Nat} {A : Option Addr} {len cap : Nat} {x : DataW H × List MemPlace} (h : DataW.trod enc Try.prog W 0 (fun _ => true) true fuel 38 [.slice A len cap] = some x) :
    len ≤ maxLen ∧ ∃ xs : List Beat1, xs.length = len ∧ Holds W A 2 Beat1.cells xs ∧ ∀ a ∈ xs, True := by
  refine open_rows (c := Beat1.cells) (wf := fun _ => True) Try.underlying38 cellsBeat (by decide) (fun _ => rfl) ?_ h
  intro n cs x hx
  obtain ⟨hl, m, hf⟩ := open_fields Try.underlying40 (by kernel_rfl) cellsBeat hx
  obtain ⟨v0, y0, e0, t0⟩ := hf 0 _ rfl
  obtain ⟨v1, y1, e1, t1⟩ := hf 1 _ rfl
  obtain ⟨a0, q0, _, _⟩ := DataW.trod_int Try.underlying3 t0
  obtain ⟨a1, q1, _, _⟩ := DataW.trod_int Try.underlying3 t1
  simp only [List.cons.injEq, and_true] at q0 q1
  subst q0 q1
  refine ⟨⟨a0, a1⟩, ?_, trivial⟩
  apply List.ext_getElem?
  intro j
  match j with
  | 0 => exact e0
  | 1 => exact e1
  | j + 2 => rw [List.getElem?_eq_none (by rw [hl]; show 2 ≤ j + 2; omega), List.getElem?_eq_none (by show 2 ≤ j + 2; omega)]
theorem beat_at {w w' : World} {A : Option Addr} {xs : List Beat1} (h : Holds w A 2 Beat1.cells xs) (hb : Below w.heap.size w w') {i : Nat} {a : Beat1} (hi : xs[i]? = some a) :
    ∃ b o, A = some ⟨b, o, none⟩ ∧ b < w.heap.size ∧ w'.cell? ⟨b, o + i * 2, none⟩ = some (.int .i64 a.kind) ∧ w'.cell? ⟨b, o + i * 2 + 1, none⟩ = some (.int .i64 a.count) := by
  obtain ⟨b, o, e, hlt, hc⟩ := h.at_ hb hi
  exact ⟨b, o, e, hlt, by rw [show o + i * 2 = o + (i * 2 + 0) from rfl]; exact hc 0 _ rfl, by rw [Nat.add_assoc]; exact hc 1 _ rfl⟩

theorem field_p (x0 x1 x2 x3 : Value) (w : World) : (Instr.field 23 (.agg #[x0, x1, x2, x3]) 2).run Try.prog w = .ok x2 w := by kernel_rfl
theorem field_g (x0 x1 x2 x3 : Value) (w : World) : (Instr.field 23 (.agg #[x0, x1, x2, x3]) 3).run Try.prog w = .ok x3 w := by kernel_rfl
section
variable (w : World)
theorem k_start : Calls Try.prog 19 #[.int .i64 10] w fun e w' => e = .returned (.agg #[.int .i64 10, .int .i64 10, .int .i64 1, .int .i64 0]) ∧ Only none_ w w' := start_any 10 w
theorem k_read (n a p g c d b n' a' p' g' f' c' q : Int) (h1 : (Fl.mk n a p g).readF c d b = ⟨n', a', p', g'⟩) (h2 : (Fl.mk n a p g).readR c d b = ⟨f', c'⟩) (h3 : (Fl.mk n a p g).readC c d b = q) :
    Calls Try.prog 10 #[.agg #[.int .i64 n, .int .i64 a, .int .i64 p, .int .i64 g], .int .i64 c, .int .i64 d, .int .i64 b] w fun e w' => e = .returned (.tuple #[.agg #[.int .i64 n', .int .i64 a', .int .i64 p', .int .i64 g'], .agg #[.int .i64 f', .int .i64 c'], .int .i64 q]) ∧ Only none_ w w' := by
  have := read_any ⟨n, a, p, g⟩ c d b w
  rw [h1, h2, h3] at this
  exact this
theorem k_r1 : Calls Try.prog 10 #[.agg #[.int .i64 10, .int .i64 10, .int .i64 1, .int .i64 0], .int .i64 1, .int .i64 4, .int .i64 100] w fun e w' => e = .returned (.tuple #[.agg #[.int .i64 11, .int .i64 12, .int .i64 1, .int .i64 0], .agg #[.int .i64 11, .int .i64 1], .int .i64 0]) ∧ Only none_ w w' :=
  k_read w 10 10 1 0 1 4 100 11 12 1 0 11 1 0 (by decide +kernel) (by decide +kernel) (by decide +kernel)
theorem k_r2 : Calls Try.prog 10 #[.agg #[.int .i64 11, .int .i64 12, .int .i64 1, .int .i64 0], .int .i64 1, .int .i64 4, .int .i64 100] w fun e w' => e = .returned (.tuple #[.agg #[.int .i64 12, .int .i64 14, .int .i64 2, .int .i64 0], .agg #[.int .i64 12, .int .i64 2], .int .i64 0]) ∧ Only none_ w w' :=
  k_read w 11 12 1 0 1 4 100 12 14 2 0 12 2 0 (by decide +kernel) (by decide +kernel) (by decide +kernel)
theorem k_r3 : Calls Try.prog 10 #[.agg #[.int .i64 10, .int .i64 10, .int .i64 1, .int .i64 0], .int .i64 0, .int .i64 4, .int .i64 100] w fun e w' => e = .returned (.tuple #[.agg #[.int .i64 0, .int .i64 0, .int .i64 0, .int .i64 0], .agg #[.int .i64 0, .int .i64 0], .int .i64 1]) ∧ Only none_ w w' :=
  k_read w 10 10 1 0 0 4 100 0 0 0 0 0 0 1 (by decide +kernel) (by decide +kernel) (by decide +kernel)
theorem k_r4 : Calls Try.prog 10 #[.agg #[.int .i64 10, .int .i64 10, .int .i64 1, .int .i64 0], .int .i64 8, .int .i64 4, .int .i64 17] w fun e w' => e = .returned (.tuple #[.agg #[.int .i64 0, .int .i64 0, .int .i64 0, .int .i64 0], .agg #[.int .i64 0, .int .i64 0], .int .i64 6]) ∧ Only none_ w w' :=
  k_read w 10 10 1 0 8 4 17 0 0 0 0 0 0 6 (by decide +kernel) (by decide +kernel) (by decide +kernel)
theorem wf_k : (Fl.mk 12 14 2 0).Wf := by constructor <;> decide
theorem k_late : Calls Try.prog 14 #[.agg #[.int .i64 12, .int .i64 14, .int .i64 2, .int .i64 0]] w fun e w' => e = .returned (.agg #[.int .i64 12, .int .i64 14, .int .i64 2, .int .i64 1]) ∧ Only none_ w w' := by
  have := late_any ⟨12, 14, 2, 0⟩ w wf_k
  rw [show (Fl.mk 12 14 2 0).late = ⟨12, 14, 2, 1⟩ from by decide +kernel] at this
  exact this
theorem k_waste : Calls Try.prog 16 #[.agg #[.int .i64 12, .int .i64 14, .int .i64 2, .int .i64 0]] w fun e w' => e = .returned (.agg #[.int .i64 12, .int .i64 14, .int .i64 1, .int .i64 0]) ∧ Only none_ w w' := by
  have := waste_any ⟨12, 14, 2, 0⟩ w wf_k
  rw [show (Fl.mk 12 14 2 0).waste = ⟨12, 14, 1, 0⟩ from by decide +kernel] at this
  exact this
theorem k_trig : Calls Try.prog 18 #[.agg #[.int .i64 12, .int .i64 14, .int .i64 2, .int .i64 0]] w fun e w' => e = .returned (.int .i64 13) ∧ Only none_ w w' := by
  have := trigger_any ⟨12, 14, 2, 0⟩ w wf_k
  rw [show (Fl.mk 12 14 2 0).trigger = 13 from by decide +kernel] at this
  exact this
theorem k_may4 : Calls Try.prog 12 #[.agg #[.int .i64 12, .int .i64 14, .int .i64 2, .int .i64 0], .int .i64 4, .int .i64 100] w fun e w' => e = .returned (.bool true) ∧ Only none_ w w' := by
  have := may_any ⟨12, 14, 2, 0⟩ 4 100 w
  rw [show decide ((Fl.mk 12 14 2 0).May 4 100) = true from by decide +kernel] at this
  exact this
theorem k_may1 : Calls Try.prog 12 #[.agg #[.int .i64 12, .int .i64 14, .int .i64 2, .int .i64 0], .int .i64 1, .int .i64 100] w fun e w' => e = .returned (.bool false) ∧ Only none_ w w' := by
  have := may_any ⟨12, 14, 2, 0⟩ 1 100 w
  rw [show decide ((Fl.mk 12 14 2 0).May 1 100) = false from by decide +kernel] at this
  exact this
end
end Go.Proofs.Ytlpijieimidnoaa
