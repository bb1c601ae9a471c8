/- What the calls of package tally answer: total, Counts, Sum, Add, Held, Sound. No condition but that the counts fit 64 bits. -/
import Derived.Test.YtofmbipedljdkaaLx18
import Derived.Deep.RegionHeld3
import Derived.StillTailTactics
namespace Go.Proofs.Ytofmbipedljdkaa
open Go.RowKit
def intOf : Value → Int
  | .int _ i => i
  | _ => 0
set_option linter.unusedVariables false

theorem Row.ten {w : World} {g : Nat} {t : TypeId} {a0 a1 a2 a3 a4 a5 a6 a7 a8 a9 : Value} (h : Row w g t #[a0, a1, a2, a3, a4, a5, a6, a7, a8, a9]) :
    w.cell? ⟨g, 0, none⟩ = some a0 ∧ w.cell? ⟨g, 1, none⟩ = some a1 ∧ w.cell? ⟨g, 2, none⟩ = some a2 ∧ w.cell? ⟨g, 3, none⟩ = some a3 ∧ w.cell? ⟨g, 4, none⟩ = some a4 ∧ w.cell? ⟨g, 5, none⟩ = some a5 ∧ w.cell? ⟨g, 6, none⟩ = some a6 ∧ w.cell? ⟨g, 7, none⟩ = some a7 ∧ w.cell? ⟨g, 8, none⟩ = some a8 ∧ w.cell? ⟨g, 9, none⟩ = some a9 := by
  refine ⟨?_, ?_, ?_, ?_, ?_, ?_, ?_, ?_, ?_, ?_⟩ <;> (rw [h.cell]; rfl)

/-- the sum of some counts, from the left, held -/
def Ta.tot (t : Ta) (ks : List Nat) : Nat := ks.foldl (fun s k => held (s + t.n k)) 0
theorem Ta.tot_more (t : Ta) (ks : List Nat) (i : Nat) (k : Nat) (h : ks[i]? = some k) : t.tot (ks.take (i + 1)) = held (t.tot (ks.take i) + t.n k) := by
  unfold Ta.tot
  rw [List.take_add_one, h]
  simp
theorem Ta.tot_lt (t : Ta) (ks : List Nat) : t.tot ks < 18446744073709551616 := by
  rcases List.eq_nil_or_concat ks with rfl | ⟨l, k, rfl⟩
  · show (0 : Nat) < _; omega
  · unfold Ta.tot
    simp only [List.concat_eq_append, List.foldl_append, List.foldl_cons, List.foldl_nil]
    exact held_lt _

abbrev finder (t : Ta) : Value := .func (.func 22) #[t.val] #[]

set_option maxHeartbeats 1000000 in
theorem total_any (t : Ta) (ht : t.Wf) (ks : List Nat) (hk : ∀ k ∈ ks, k < 10) (hl : ks.length ≤ 100) (g : Nat) (w : World) (r : Row w g 3 (ks.map fun k => Value.int .i64 (k : Nat)).toArray) :
    Calls Try.prog 23 #[finder t, .slice (some ⟨g, 0, none⟩) ks.length ks.length] w fun e w' => e = .returned (.int .u64 (t.tot ks)) ∧ Only none_ w w' := by
  have HT := Lib.hid ht
  have HK := Lib.hid hk
  have R := Lib.hid r
  clear ht hk r
  have lg := R.out.lt
  go_enter Try.func23, Try.ntmps23
  go_wp2_with fail
  go_loopw [4, 6, 9] (fun s _ i wr => ∃ k : Nat, k ≤ ks.length ∧ i = .int .i64 k ∧ s = .int .u64 (t.tot (ks.take k)) ∧ Only none_ w wr) (fun _ _ i _ => ks.length - (intOf i).toNat)
  case atStart => exact ⟨0, Nat.zero_le _, rfl, rfl, Only.refl _ _⟩
  case round =>
    obtain ⟨k, hk, rfl, rfl, o⟩ := hrel
    have O := Lib.hid o
    clear o
    by_cases hlt : k < ks.length
    · obtain ⟨x, hx⟩ : ∃ x, ks[k]? = some x := ⟨_, List.getElem?_eq_getElem hlt⟩
      have lx := HK.out x (List.mem_of_getElem? hx)
      have c0 : wr.cell? ⟨g, k, none⟩ = some (.int .i64 x) := by
        rw [(O.out.still R.out).cell]
        simp [hx]
      have AT := Lib.hid (fun w => find_any t x lx w)
      have AD := Lib.hid (fun w => add_any (t.tot (ks.take k)) (t.n x) (t.tot_lt _) (HT.out x) w)
      have M := Lib.hid (t.tot_more ks k x hx)
      clear hx
      generalize t.tot (ks.take k) = s at *
      go_wp2_with fail
      go_wp2_with fail
      (with_reducible refine (AT.out _).mono ?_)
      rintro e w2 ⟨rfl, o2⟩
      have O2 := Lib.hid (O.out.same o2)
      clear o2 AT
      go_wp2_with fail
      (with_reducible refine (AD.out _).mono ?_)
      rintro e w3 ⟨rfl, rfl⟩
      go_wp2_with fail
      go_roundw
      case rel => exact ⟨k + 1, by omega, by go_num, by rw [M.out], O2.out⟩
      case measure => simp [intOf]; omega
    · have e : k = ks.length := by omega
      subst e
      rw [List.take_length]
      have hlt' : ¬ ks.length < ks.length := hlt
      go_wp2_with fail
      go_ret
      exact ⟨rfl, O.out⟩

abbrev noughts : Array Value := #[.int .u64 0, .int .u64 0, .int .u64 0, .int .u64 0, .int .u64 0, .int .u64 0, .int .u64 0, .int .u64 0, .int .u64 0, .int .u64 0]
theorem only_ten (w2 : World) (b : Nat) (x0 x1 x2 x3 x4 x5 x6 x7 x8 x9 : Int) : Only (fun k => k = b) w2 ((((((((((w2.setCell ⟨b, 0, none⟩ (.int .u64 x0)).setCell ⟨b, 1, none⟩ (.int .u64 x1)).setCell ⟨b, 2, none⟩ (.int .u64 x2)).setCell ⟨b, 3, none⟩ (.int .u64 x3)).setCell ⟨b, 4, none⟩ (.int .u64 x4)).setCell ⟨b, 5, none⟩ (.int .u64 x5)).setCell ⟨b, 6, none⟩ (.int .u64 x6)).setCell ⟨b, 7, none⟩ (.int .u64 x7)).setCell ⟨b, 8, none⟩ (.int .u64 x8)).setCell ⟨b, 9, none⟩ (.int .u64 x9)) :=
  have st : ∀ (w' : World) (i : Nat) (v : Value), Only (fun k => k = b) w2 w' → Only (fun k => k = b) w2 (w'.setCell ⟨b, i, none⟩ v) := fun w' i v h => h.into rfl i v
  st _ _ _ (st _ _ _ (st _ _ _ (st _ _ _ (st _ _ _ (st _ _ _ (st _ _ _ (st _ _ _ (st _ _ _ (st _ _ _ (Only.refl _ _))))))))))
theorem Row.put_ten {w : World} {g : Nat} {t : TypeId} {a0 a1 a2 a3 a4 a5 a6 a7 a8 a9 : Value} (h : Row w g t #[a0, a1, a2, a3, a4, a5, a6, a7, a8, a9]) (x0 x1 x2 x3 x4 x5 x6 x7 x8 x9 : Value) :
    Row ((((((((((w.setCell ⟨g, 0, none⟩ (x0)).setCell ⟨g, 1, none⟩ (x1)).setCell ⟨g, 2, none⟩ (x2)).setCell ⟨g, 3, none⟩ (x3)).setCell ⟨g, 4, none⟩ (x4)).setCell ⟨g, 5, none⟩ (x5)).setCell ⟨g, 6, none⟩ (x6)).setCell ⟨g, 7, none⟩ (x7)).setCell ⟨g, 8, none⟩ (x8)).setCell ⟨g, 9, none⟩ (x9)) g t #[x0, x1, x2, x3, x4, x5, x6, x7, x8, x9] := by
  have k := (((((((((h.put 0 x0).put 1 x1).put 2 x2).put 3 x3).put 4 x4).put 5 x5).put 6 x6).put 7 x7).put 8 x8).put 9 x9
  simpa using k
set_option maxHeartbeats 1000000 in
theorem counts_raw (x0 x1 x2 x3 x4 x5 x6 x7 x8 x9 : Int) (w : World) : Calls Try.prog 11 #[.agg #[.int .u64 x0, .int .u64 x1, .int .u64 x2, .int .u64 x3, .int .u64 x4, .int .u64 x5, .int .u64 x6, .int .u64 x7, .int .u64 x8, .int .u64 x9]] w fun e w' => e = .returned (.agg #[.int .u64 x0, .int .u64 x1, .int .u64 x2, .int .u64 x3, .int .u64 x4, .int .u64 x5, .int .u64 x6, .int .u64 x7, .int .u64 x8, .int .u64 x9]) ∧ Only none_ w w' := by
  have H := Lib.hid (fun w => of_raw x0 x1 x2 x3 x4 x5 x6 x7 x8 x9 w)
  go_enter Try.func11, Try.ntmps11
  go_wp2_with fail
  (with_reducible refine (H.out _).mono ?_)
  rintro e w2 ⟨rfl, o⟩
  have O := Lib.hid ((((Only.refl none_ w).alloc _).alloc _).same o)
  have r := o.still (Row.fresh _ 31 noughts)
  obtain ⟨c0, c1, c2, c3, c4, c5, c6, c7, c8, c9⟩ := r.ten
  have z := r.frozen
  have hb : (w.alloc (.cells #[.int .u64 x0, .int .u64 x1, .int .u64 x2, .int .u64 x3, .int .u64 x4, .int .u64 x5, .int .u64 x6, .int .u64 x7, .int .u64 x8, .int .u64 x9] 24)).heap.size = w.heap.size + 1 := by simp
  rw [hb] at c0 c1 c2 c3 c4 c5 c6 c7 c8 c9 z
  have hn : w.heap.size ≤ w.heap.size + 1 := by omega
  have hb2 := r
  rw [hb] at hb2
  generalize w.heap.size + 1 = b at *
  have r := (hb2 : Row w2 b _ _)
  have R3 := r.put_ten (.int .u64 x0) (.int .u64 x1) (.int .u64 x2) (.int .u64 x3) (.int .u64 x4) (.int .u64 x5) (.int .u64 x6) (.int .u64 x7) (.int .u64 x8) (.int .u64 x9)
  have O3 := only_ten w2 b x0 x1 x2 x3 x4 x5 x6 x7 x8 x9
  have hN : w2.heap.size ≤ ((((((((((w2.setCell ⟨b, 0, none⟩ (.int .u64 x0)).setCell ⟨b, 1, none⟩ (.int .u64 x1)).setCell ⟨b, 2, none⟩ (.int .u64 x2)).setCell ⟨b, 3, none⟩ (.int .u64 x3)).setCell ⟨b, 4, none⟩ (.int .u64 x4)).setCell ⟨b, 5, none⟩ (.int .u64 x5)).setCell ⟨b, 6, none⟩ (.int .u64 x6)).setCell ⟨b, 7, none⟩ (.int .u64 x7)).setCell ⟨b, 8, none⟩ (.int .u64 x8)).setCell ⟨b, 9, none⟩ (.int .u64 x9)).heap.size := O3.size
  have O4 := Lib.hid (O.out.trans (O3.more (S' := fun k => w.heap.size ≤ k) (fun _ _ e => by rw [e]; exact hn)) (fun i hi s => absurd hi (by omega)))
  clear o r hb H O3 hN
  go_wp2_with fail
  generalize ((((((((((w2.setCell ⟨b, 0, none⟩ (.int .u64 x0)).setCell ⟨b, 1, none⟩ (.int .u64 x1)).setCell ⟨b, 2, none⟩ (.int .u64 x2)).setCell ⟨b, 3, none⟩ (.int .u64 x3)).setCell ⟨b, 4, none⟩ (.int .u64 x4)).setCell ⟨b, 5, none⟩ (.int .u64 x5)).setCell ⟨b, 6, none⟩ (.int .u64 x6)).setCell ⟨b, 7, none⟩ (.int .u64 x7)).setCell ⟨b, 8, none⟩ (.int .u64 x8)).setCell ⟨b, 9, none⟩ (.int .u64 x9)) = w3 at *
  obtain ⟨d0, d1, d2, d3, d4, d5, d6, d7, d8, d9⟩ := R3.ten
  exact bodyPost_ret (v := .agg #[.int .u64 x0, .int .u64 x1, .int .u64 x2, .int .u64 x3, .int .u64 x4, .int .u64 x5, .int .u64 x6, .int .u64 x7, .int .u64 x8, .int .u64 x9]) (by simp [results, Try.results11, go_sem, d0, d1, d2, d3, d4, d5, d6, d7, d8, d9]) rfl ⟨rfl, O4.out⟩
theorem counts_any (t : Ta) (w : World) : Calls Try.prog 11 #[t.val] w fun e w' => e = .returned t.val ∧ Only none_ w w' := counts_raw _ _ _ _ _ _ _ _ _ _ w
end Go.Proofs.Ytofmbipedljdkaa
