/- Plain facts of turns that TurnCounts asks: how many tickets up to a number have a place in a row. No condition but what each says. -/
import Derived.Test.YtmihinpbgppjlaaKeep12
import Derived.OpenShut
import Derived.Lib.SmallJoins
namespace Go.Proofs.Ytmihinpbgppjlaa
open Go.RowKit Go.Maps Go.ChangeShapes Go.WideShapes
set_option linter.unusedVariables false

def cnt (a : Bool) (ss : List Sl) (k : Nat) : Nat := (ss.filter (fun s : Sl => s.a == a && decide (s.k ≤ (k : Int)))).length
theorem cnt_split (a : Bool) (k : Nat) : ∀ ss : List Sl, cnt a ss (k + 1) = cnt a ss k + (ss.filter (fun s => s.a == a && (s.k == ((k + 1 : Nat) : Int)))).length
  | [] => rfl
  | s :: r => by
    have ih := cnt_split a k r
    unfold cnt at ih ⊢
    rw [List.filter_cons, List.filter_cons, List.filter_cons]
    by_cases ha : s.a = a
    · have e1 : (s.a == a) = true := by simp [ha]
      rw [e1, Bool.true_and, Bool.true_and, Bool.true_and]
      by_cases h1 : s.k ≤ k
      · have t1 : decide (s.k ≤ ((k + 1 : Nat) : Int)) = true := by simp; omega
        have t2 : decide (s.k ≤ (k : Int)) = true := by simpa using h1
        have t3 : (s.k == ((k + 1 : Nat) : Int)) = false := by simp; omega
        rw [t1, t2, t3]
        simp only [if_true, List.length_cons, Bool.false_eq_true, if_false]
        omega
      · have t2 : decide (s.k ≤ (k : Int)) = false := by simpa using h1
        by_cases h2 : s.k = ((k + 1 : Nat) : Int)
        · have t1 : decide (s.k ≤ ((k + 1 : Nat) : Int)) = true := by simp; omega
          have t3 : (s.k == ((k + 1 : Nat) : Int)) = true := by simpa using h2
          rw [t1, t2, t3]
          simp only [if_true, List.length_cons, Bool.false_eq_true, if_false]
          omega
        · have t1 : decide (s.k ≤ ((k + 1 : Nat) : Int)) = false := by simp; omega
          have t3 : (s.k == ((k + 1 : Nat) : Int)) = false := by simpa using h2
          rw [t1, t2, t3]
          simp only [Bool.false_eq_true, if_false]
          omega
    · have e1 : (s.a == a) = false := by simp [ha]
      rw [e1, Bool.false_and, Bool.false_and, Bool.false_and]
      simp only [Bool.false_eq_true, if_false]
      omega
theorem filt_one {a : Bool} {x : Int} : ∀ {ss : List Sl}, OnceL ss → (ss.filter (fun s => s.a == a && (s.k == x))).length = if hasL ss x = true ∧ (atL ss x).a = a then 1 else 0
  | [], _ => by simp [hasL]
  | s :: r, o => by
    have h' := List.pairwise_cons.1 o
    have ih := filt_one (a := a) (x := x) (ss := r) h'.2
    by_cases hk : s.k = x
    · have none_r : r.filter (fun s => s.a == a && (s.k == x)) = [] := by
        rw [List.filter_eq_nil_iff]
        intro b hb e
        simp at e
        exact h'.1 b hb (by rw [hk, e.2])
      have e1 : hasL (s :: r) x = true := hasL_iff.2 ⟨s, by simp, hk⟩
      have e2 : atL (s :: r) x = s := by rw [← hk]; exact atL_of o (by simp)
      rw [List.filter_cons, none_r, e1, e2]
      by_cases ha : s.a = a
      · simp [ha, hk]
      · simp [ha]
    · have e1 : hasL (s :: r) x = hasL r x := by
        unfold hasL
        rw [List.any_cons]
        simp [hk]
      have e2 : atL (s :: r) x = atL r x := by
        unfold atL
        have hf : (s.k == x) = false := by simp [hk]
        rw [List.find?_cons, hf]
      rw [List.filter_cons, e1, e2, ← ih]
      simp [hk]
theorem cnt_step {a : Bool} {ss : List Sl} (o : OnceL ss) (k : Nat) : cnt a ss (k + 1) = cnt a ss k + (if hasL ss ((k + 1 : Nat) : Int) = true ∧ (atL ss ((k + 1 : Nat) : Int)).a = a then 1 else 0) := by
  rw [cnt_split, filt_one o]
theorem cnt_zero {a : Bool} {ss : List Sl} (h : ∀ s ∈ ss, 1 ≤ s.k ∧ s.k ≤ 40) : cnt a ss 0 = 0 := by
  unfold cnt
  rw [List.filter_eq_nil_iff.2 (fun s hs e => by
    simp at e
    have := (h s hs).1
    omega)]
  rfl
theorem cnt_all {a : Bool} {ss : List Sl} (h : ∀ s ∈ ss, 1 ≤ s.k ∧ s.k ≤ 40) : cnt a ss 40 = (rowL a ss).length := by
  unfold cnt rowL
  congr 1
  apply List.filter_congr
  intro s hs
  have := (h s hs).2
  have t : decide (s.k ≤ ((40 : Nat) : Int)) = true := by simp; omega
  rw [t, Bool.and_true]
theorem cnt_le (a : Bool) (ss : List Sl) (k : Nat) : cnt a ss k ≤ ss.length := List.length_filter_le _ _
theorem step_in {nd na : Nat} {ss : List Sl} {act : Act1} {P : Int → Prop} (h : ∀ s ∈ ss, P s.k) (ha : P act.k) : ∀ s ∈ stepS nd na ss act, P s.k := by
  intro s hs
  have wait_ : ∀ v, s ∈ waitS ss act.k v → P s.k := fun v hv => by
    obtain ⟨b, hb, rfl⟩ := List.mem_map.1 hv
    by_cases e : b.k = act.k
    · rw [if_pos e]; exact h b hb
    · rw [if_neg e]; exact h b hb
  unfold stepS at hs
  split at hs
  · unfold putS at hs
    split at hs
    · rcases List.mem_append.1 hs with q | q
      · exact h s q
      · rw [List.mem_singleton.1 q]; exact ha
    · exact h s hs
  · split at hs
    · exact wait_ _ hs
    · split at hs
      · exact wait_ _ hs
      · split at hs
        · unfold promS at hs
          split at hs
          · rcases List.mem_append.1 hs with q | q
            · exact h s (List.mem_filter.1 q).1
            · rw [List.mem_singleton.1 q]; exact ha
          · exact h s hs
        · split at hs
          · exact h s (List.mem_filter.1 hs).1
          · exact h s hs
theorem cellsPair : Try.prog.cellsOf 48 = 2 := by kernel_rfl
theorem cellsB2 : Try.prog.cellsOf 5 = 1 := by kernel_rfl
set_option maxRecDepth 100000 in
theorem open_pair (W : World) (base : Nat) (H : Type) (enc : TypeId × Value → H) (v : Value) (d : DataW H) (p : List MemPlace) (o : Value.okWide Try.prog W .any base 48 v) (h : DataW.Trod enc Try.prog W 0 (fun _ => true) true 48 v d p) :
    ∃ a b : Int, v = .agg #[.int .u8 a, .int .u8 b] ∧ (Lit.int .u8 a).wf = true ∧ (Lit.int .u8 b).wf = true := by
  simp only [Value.okWide, Try.underlying48] at o
  obtain ⟨cs, rfl, hsz, _⟩ := o
  rw [cellsPair] at hsz
  obtain ⟨c0, c1, rfl⟩ := Joins.array2 hsz
  obtain ⟨fuel, hf⟩ := h
  simp only [Value.cells] at hf
  obtain ⟨xs, m, _, _, _, hl, hx⟩ := DataW.trod_array Try.underlying48 hf
  match xs, hl with
  | [y0, y1], _ =>
    have k0 := hx 0 (by omega)
    have k1 := hx 1 (by omega)
    simp [cellsB2] at k0 k1
    obtain ⟨a, ea, _, wa⟩ := DataW.trod_int Try.underlying5 k0
    obtain ⟨b, eb, _, wb⟩ := DataW.trod_int Try.underlying5 k1
    simp only [List.cons.injEq, and_true] at ea eb
    subst ea; subst eb
    exact ⟨a, b, rfl, wa, wb⟩

theorem n_of (a : Int) (h : 0 ≤ a) : ∃ N : Nat, 1 + a % 64 = (N : Int) ∧ 1 ≤ N ∧ N ≤ 64 := ⟨(1 + a % 64).toNat, by omega, by omega, by omega⟩
theorem m_of (a : Int) (h : 0 ≤ a) : ∃ N : Nat, a % 65 = (N : Int) ∧ N ≤ 64 := ⟨(a % 65).toNat, by omega, by omega⟩
end Go.Proofs.Ytmihinpbgppjlaa
