/- What came in, opened: a tally, a note, rows of notes, a pair of counts; a count is more, whatever its number. -/
import Derived.Test.YtofmbipedljdkaaAw18
import Derived.Test.YtofmbipedljdkaaArgs
import Derived.OpenShut
import Derived.Lib.SmallJoins
namespace Go.Proofs.Ytofmbipedljdkaa
open Go.RowKit Go.ChangeShapes Go.WideShapes Go.Deep
set_option linter.unusedVariables false

theorem bd_u64 {a : Int} (h : (Lit.int .u64 a).wf = true) : 0 ≤ a ∧ a < 18446744073709551616 := by
  simp only [Lit.wf, Bool.and_eq_true, decide_eq_true_eq] at h
  exact ⟨h.1, by have := h.2; simp only [IntKind.max, IntKind.bits] at this; omega⟩
theorem nat_u64 {a : Int} (h : (Lit.int .u64 a).wf = true) : ∃ n : Nat, a = n ∧ n < 18446744073709551616 := ⟨a.toNat, by have := bd_u64 h; omega, by have := bd_u64 h; omega⟩

/-- a note: a number, how much -/
structure No where
  k : Int
  n : Nat
abbrev No.val (x : No) : Value := .agg #[.int .i64 x.k, .int .u64 x.n]
abbrev No.cells (x : No) : List Value := [.int .i64 x.k, .int .u64 x.n]
def No.Wf (x : No) : Prop := x.n < 18446744073709551616
instance : Inhabited No := ⟨⟨0, 0⟩⟩

theorem cellsTally : Try.prog.cellsOf 24 = 10 := by kernel_rfl
theorem cellsNote : Try.prog.cellsOf 26 = 2 := by kernel_rfl
theorem cellsPairU : Try.prog.cellsOf 35 = 2 := by kernel_rfl
theorem cellsU : Try.prog.cellsOf 22 = 1 := by kernel_rfl

set_option maxRecDepth 100000 in
theorem open_tally (W : World) (base : Nat) (H : Type) (enc : TypeId × Value → H) (v : Value) (d : DataW H) (p : List MemPlace) (o : Value.okWide Try.prog W .any base 24 v) (h : DataW.Trod enc Try.prog W 0 (fun _ => true) true 24 v d p) :
    ∃ f : Ta, v = f.val ∧ f.Wf := by
  simp only [Value.okWide, Try.underlying24] at o
  obtain ⟨cs, rfl, hsz, _⟩ := o
  rw [cellsTally] at hsz
  obtain ⟨fuel, hf⟩ := h
  simp only [Value.cells] at hf
  obtain ⟨hl, m, hx⟩ := open_fields Try.underlying24 (by kernel_rfl) cellsTally hf
  obtain ⟨v0, y0, e0, t0⟩ := hx 0 _ rfl
  obtain ⟨v1, y1, e1, t1⟩ := hx 1 _ rfl
  obtain ⟨v2, y2, e2, t2⟩ := hx 2 _ rfl
  obtain ⟨v3, y3, e3, t3⟩ := hx 3 _ rfl
  obtain ⟨v4, y4, e4, t4⟩ := hx 4 _ rfl
  obtain ⟨v5, y5, e5, t5⟩ := hx 5 _ rfl
  obtain ⟨v6, y6, e6, t6⟩ := hx 6 _ rfl
  obtain ⟨v7, y7, e7, t7⟩ := hx 7 _ rfl
  obtain ⟨v8, y8, e8, t8⟩ := hx 8 _ rfl
  obtain ⟨v9, y9, e9, t9⟩ := hx 9 _ rfl
  obtain ⟨a0, q0, _, w0⟩ := DataW.trod_int Try.underlying22 t0
  obtain ⟨a1, q1, _, w1⟩ := DataW.trod_int Try.underlying22 t1
  obtain ⟨a2, q2, _, w2⟩ := DataW.trod_int Try.underlying22 t2
  obtain ⟨a3, q3, _, w3⟩ := DataW.trod_int Try.underlying22 t3
  obtain ⟨a4, q4, _, w4⟩ := DataW.trod_int Try.underlying22 t4
  obtain ⟨a5, q5, _, w5⟩ := DataW.trod_int Try.underlying22 t5
  obtain ⟨a6, q6, _, w6⟩ := DataW.trod_int Try.underlying22 t6
  obtain ⟨a7, q7, _, w7⟩ := DataW.trod_int Try.underlying22 t7
  obtain ⟨a8, q8, _, w8⟩ := DataW.trod_int Try.underlying22 t8
  obtain ⟨a9, q9, _, w9⟩ := DataW.trod_int Try.underlying22 t9
  simp only [List.cons.injEq, and_true] at q0 q1 q2 q3 q4 q5 q6 q7 q8 q9
  subst q0 q1 q2 q3 q4 q5 q6 q7 q8 q9
  obtain ⟨b0, rfl, z0⟩ := nat_u64 w0
  obtain ⟨b1, rfl, z1⟩ := nat_u64 w1
  obtain ⟨b2, rfl, z2⟩ := nat_u64 w2
  obtain ⟨b3, rfl, z3⟩ := nat_u64 w3
  obtain ⟨b4, rfl, z4⟩ := nat_u64 w4
  obtain ⟨b5, rfl, z5⟩ := nat_u64 w5
  obtain ⟨b6, rfl, z6⟩ := nat_u64 w6
  obtain ⟨b7, rfl, z7⟩ := nat_u64 w7
  obtain ⟨b8, rfl, z8⟩ := nat_u64 w8
  obtain ⟨b9, rfl, z9⟩ := nat_u64 w9
  have hcs : cs = #[.int .u64 (b0 : Nat), .int .u64 (b1 : Nat), .int .u64 (b2 : Nat), .int .u64 (b3 : Nat), .int .u64 (b4 : Nat), .int .u64 (b5 : Nat), .int .u64 (b6 : Nat), .int .u64 (b7 : Nat), .int .u64 (b8 : Nat), .int .u64 (b9 : Nat)] := by
    apply Array.toList_inj.1
    apply List.ext_getElem?
    intro j
    match j with
    | 0 => exact e0
    | 1 => exact e1
    | 2 => exact e2
    | 3 => exact e3
    | 4 => exact e4
    | 5 => exact e5
    | 6 => exact e6
    | 7 => exact e7
    | 8 => exact e8
    | 9 => exact e9
    | j + 10 => rw [List.getElem?_eq_none (by rw [hl]; show 10 ≤ j + 10; omega), List.getElem?_eq_none (by show 10 ≤ j + 10; omega)]
  subst hcs
  exact ⟨Ta.of [b0, b1, b2, b3, b4, b5, b6, b7, b8, b9], rfl, Ta.of_wf (by simp; omega)⟩
set_option maxRecDepth 100000 in
theorem note_cells {H : Type} {enc : TypeId × Value → H} {W : World} {n : Nat} {cs : List Value} {x : DataW H × List MemPlace} (hx : DataW.trod enc Try.prog W 0 (fun _ => true) true n 26 cs = some x) : ∃ a : No, cs = a.cells ∧ a.Wf := by
  obtain ⟨hl, m, hf⟩ := open_fields Try.underlying26 (by kernel_rfl) cellsNote hx
  obtain ⟨v0, y0, e0, t0⟩ := hf 0 _ rfl
  obtain ⟨v1, y1, e1, t1⟩ := hf 1 _ rfl
  obtain ⟨a0, q0, _, _⟩ := DataW.trod_int Try.underlying3 t0
  obtain ⟨a1, q1, _, w1⟩ := DataW.trod_int Try.underlying22 t1
  simp only [List.cons.injEq, and_true] at q0 q1
  subst q0 q1
  obtain ⟨b1, rfl, z1⟩ := nat_u64 w1
  refine ⟨⟨a0, b1⟩, ?_, z1⟩
  apply List.ext_getElem?
  intro j
  match j with
  | 0 => exact e0
  | 1 => exact e1
  | j + 2 => rw [List.getElem?_eq_none (by rw [hl]; show 2 ≤ j + 2; omega), List.getElem?_eq_none (by show 2 ≤ j + 2; omega)]
set_option maxRecDepth 100000 in
theorem open_note (W : World) (base : Nat) (H : Type) (enc : TypeId × Value → H) (v : Value) (d : DataW H) (p : List MemPlace) (o : Value.okWide Try.prog W .any base 26 v) (h : DataW.Trod enc Try.prog W 0 (fun _ => true) true 26 v d p) :
    ∃ f : No, v = f.val ∧ f.Wf := by
  simp only [Value.okWide, Try.underlying26] at o
  obtain ⟨cs, rfl, hsz, _⟩ := o
  obtain ⟨fuel, hf⟩ := h
  simp only [Value.cells] at hf
  obtain ⟨a, e, hw⟩ := note_cells hf
  refine ⟨a, ?_, hw⟩
  have hcs : cs = #[.int .i64 a.k, .int .u64 a.n] := Array.toList_inj.1 e
  rw [hcs]
theorem open_notes {H : Type} {enc : TypeId × Value → H} {W : World} {fuel : Nat} {A : Option Addr} {len cap : Nat} {x : DataW H × List MemPlace} (h : DataW.trod enc Try.prog W 0 (fun _ => true) true fuel 40 [.slice A len cap] = some x) :
    len ≤ maxLen ∧ ∃ xs : List No, xs.length = len ∧ Holds W A 2 No.cells xs ∧ ∀ a ∈ xs, a.Wf :=
  open_rows (c := No.cells) (wf := No.Wf) Try.underlying40 cellsNote (by decide) (fun _ => rfl) (fun n cs x hx => note_cells hx) h
theorem note_at {w w' : World} {A : Option Addr} {xs : List No} (h : Holds w A 2 No.cells xs) (hb : Below w.heap.size w w') {i : Nat} {a : No} (hi : xs[i]? = some a) :
    ∃ b o, A = some ⟨b, o, none⟩ ∧ b < w.heap.size ∧ w'.cell? ⟨b, o + i * 2, none⟩ = some (.int .i64 a.k) ∧ w'.cell? ⟨b, o + i * 2 + 1, none⟩ = some (.int .u64 a.n) := by
  obtain ⟨b, o, e, hlt, hc⟩ := h.at_ hb hi
  exact ⟨b, o, e, hlt, by rw [show o + i * 2 = o + (i * 2 + 0) from rfl]; exact hc 0 _ rfl, by rw [Nat.add_assoc]; exact hc 1 _ rfl⟩
set_option maxRecDepth 100000 in
theorem open_pairU (W : World) (base : Nat) (H : Type) (enc : TypeId × Value → H) (v : Value) (d : DataW H) (p : List MemPlace) (o : Value.okWide Try.prog W .any base 35 v) (h : DataW.Trod enc Try.prog W 0 (fun _ => true) true 35 v d p) :
    ∃ a b : Int, v = .agg #[.int .u64 a, .int .u64 b] ∧ (Lit.int .u64 a).wf = true ∧ (Lit.int .u64 b).wf = true := by
  simp only [Value.okWide, Try.underlying35] at o
  obtain ⟨cs, rfl, hsz, _⟩ := o
  rw [cellsPairU] at hsz
  obtain ⟨c0, c1, rfl⟩ := Joins.array2 hsz
  obtain ⟨fuel, hf⟩ := h
  simp only [Value.cells] at hf
  obtain ⟨xs, m, _, _, _, hl, hx⟩ := DataW.trod_array Try.underlying35 hf
  match xs, hl with
  | [y0, y1], _ =>
    have k0 := hx 0 (by omega)
    have k1 := hx 1 (by omega)
    simp [cellsU] at k0 k1
    obtain ⟨a, ea, _, wa⟩ := DataW.trod_int Try.underlying22 k0
    obtain ⟨b, eb, _, wb⟩ := DataW.trod_int Try.underlying22 k1
    simp only [List.cons.injEq, and_true] at ea eb
    subst ea; subst eb
    exact ⟨a, b, rfl, wa, wb⟩

theorem Only.to_below {a b : World} (h : Only none_ a b) : Below a.heap.size a b := h.below (Nat.le_refl _) (fun _ _ s => s)

/-- n more of the count of a number, whatever that is; the answer's code -/
def Ta.more (t : Ta) (k : Int) (n : Nat) : Ta := if 0 ≤ k ∧ k < 10 then t.sum (.one k.toNat n) else t
def codeA (k : Int) : Int := if 0 ≤ k ∧ k < 10 then 0 else 1
theorem Ta.more_wf {t : Ta} (ht : t.Wf) (k : Int) (n : Nat) : (t.more k n).Wf := by
  unfold Ta.more
  split
  · exact Ta.sum_wf _ _
  · exact ht
theorem Ta.plus_sum {t : Ta} (ht : t.Wf) (k n : Nat) : t.plus k n = t.sum (.one k n) := by
  unfold Ta.plus Ta.sum Ta.one
  congr 1
  funext i
  show (if i = k then held (t.n i + n) else t.n i) = held (t.n i + if i = k then n else 0)
  split
  · rfl
  · rw [Nat.add_zero, held_of_lt (ht i)]
theorem Ta.sum_comm (a b : Ta) : a.sum b = b.sum a := by
  unfold Ta.sum
  congr 1
  funext i
  rw [Nat.add_comm]
theorem held_assoc (a b c : Nat) : held (held (a + b) + c) = held (a + held (b + c)) := by
  unfold held
  split <;> split <;> (try split) <;> (try split) <;> omega
theorem Ta.sum_assoc (a b c : Ta) : (a.sum b).sum c = a.sum (b.sum c) := by
  unfold Ta.sum
  congr 1
  funext i
  exact held_assoc _ _ _
theorem Ta.sum_nil {t : Ta} (ht : t.Wf) : t.sum ⟨fun _ => 0⟩ = t := by
  obtain ⟨f⟩ := t
  unfold Ta.sum
  congr 1
  funext i
  exact held_of_lt (ht i)
theorem Ta.one_nil (k : Nat) : Ta.one k 0 = ⟨fun _ => 0⟩ := by
  unfold Ta.one
  congr 1
  funext i
  split <;> rfl
theorem Ta.more_nil {t : Ta} (ht : t.Wf) (k : Int) : t.more k 0 = t := by
  unfold Ta.more
  split
  · rw [Ta.one_nil, Ta.sum_nil ht]
  · rfl
theorem Ta.more_comm (t : Ta) (j k : Int) (m n : Nat) : (t.more j m).more k n = (t.more k n).more j m := by
  unfold Ta.more
  split <;> split <;> first | rfl | rw [Ta.sum_assoc, Ta.sum_comm (Ta.one _ _), ← Ta.sum_assoc]
theorem Ta.one_twice (k m n : Nat) : (Ta.one k m).sum (.one k n) = .one k (held (m + n)) := by
  unfold Ta.one Ta.sum
  congr 1
  funext i
  show held ((if i = k then m else 0) + if i = k then n else 0) = if i = k then held (m + n) else 0
  split <;> rfl
theorem Ta.more_twice (t : Ta) (k : Int) (m n : Nat) : (t.more k m).more k n = t.more k (held (m + n)) := by
  unfold Ta.more
  split
  · rw [Ta.sum_assoc, Ta.one_twice]
  · rfl
theorem Ta.upto_next {t : Ta} (ht : t.Wf) (k : Nat) (hk : k < 10) : (t.upto k).more k (t.n k) = t.upto (k + 1) := by
  unfold Ta.more
  rw [if_pos (by omega)]
  unfold Ta.upto Ta.one Ta.sum
  congr 1
  funext i
  show held ((if i < k then t.n i else 0) + if i = ((k : Nat) : Int).toNat then t.n k else 0) = if i < k + 1 then t.n i else 0
  rw [Int.toNat_natCast]
  by_cases h : i = k
  · subst h
    rw [if_neg (by omega), if_pos rfl, if_pos (by omega), Nat.zero_add, held_of_lt (ht i)]
  · by_cases h2 : i < k
    · rw [if_pos h2, if_neg h, if_pos (by omega), Nat.add_zero, held_of_lt (ht i)]
    · rw [if_neg h2, if_neg h, if_neg (by omega)]; rfl
theorem Ta.upto_wf {t : Ta} (ht : t.Wf) (k : Nat) : (t.upto k).Wf := fun i => by
  show (if i < k then t.n i else 0) < _
  split
  · exact ht i
  · omega
theorem addk_any (t : Ta) (ht : t.Wf) (k : Int) (n : Nat) (hn : n < 18446744073709551616) (w : World) : Calls Try.prog 9 #[t.val, .int .i64 k, .int .u64 n] w fun e w' => e = .returned (.tuple #[(t.more k n).val, .int .i64 (codeA k)]) ∧ Only none_ w w' := by
  by_cases h : 0 ≤ k ∧ k < 10
  · have a := add_in t ht k.toNat n (by omega) hn w
    unfold Ta.more codeA
    rw [if_pos h, if_pos h]
    rw [show ((k.toNat : Nat) : Int) = k by omega] at a
    exact a
  · unfold Ta.more codeA
    rw [if_neg h, if_neg h]
    exact add_out t k n (by omega) w
theorem raddk_any (t : Ta) (ht : t.Wf) (k : Int) (n : Nat) (hn : n < 18446744073709551616) (w : World) : Calls Try.prog 10 #[t.val, .int .i64 k, .int .u64 n] w fun e w' => e = .returned (.tuple #[(t.more k n).val, .int .i64 (codeA k)]) ∧ Only none_ w w' := by
  by_cases h : 0 ≤ k ∧ k < 10
  · have a := radd_in t ht k.toNat n (by omega) hn w
    unfold Ta.more codeA
    rw [if_pos h, if_pos h, ← Ta.plus_sum ht]
    rw [show ((k.toNat : Nat) : Int) = k by omega] at a
    exact a
  · unfold Ta.more codeA
    rw [if_neg h, if_neg h]
    exact radd_out t k n (by omega) w
end Go.Proofs.Ytofmbipedljdkaa
