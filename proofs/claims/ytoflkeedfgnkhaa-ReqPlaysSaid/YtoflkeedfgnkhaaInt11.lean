/- Slices of integers: such as the call itself has made, such as are read; whether two have the same. -/
import Derived.Test.YtoflkeedfgnkhaaOwn
import Derived.Test.YtoflkeedfgnkhaaChecked
import Derived.BigRegion
namespace Go.Proofs.Ytoflkeedfgnkhaa
open Go.RowKit
set_option linter.unusedVariables false
set_option maxRecDepth 100000

def one (x : Int) : List Value := [.int .i64 x]
theorem one1 (x : Int) : (one x).length = 1 := rfl
theorem one_one : ∀ y : Int, ∀ u ∈ one y, u.oneCell' = true := by
  intro y u hu
  simp only [one, List.mem_cons, List.not_mem_nil, or_false] at hu
  rcases hu with rfl; rfl
theorem one_map (xs : List Int) : xs.flatMap one = xs.map (Value.int .i64) := by
  induction xs with
  | nil => rfl
  | cons x xs ih => rw [List.flatMap_cons, ih]; rfl
theorem info_int8 : (Try.prog.info? 3).map (fun i => (i.zero, i.size, i.bytes)) = some (some (.int .i64 0), 1, 8) := by kernel_rfl

/-- a slice of integers of the call's own -/
abbrev OwnsInts (w : World) (base : Nat) (v : Value) (xs : List Int) : Prop := Owns w base 3 1 one v xs

/-- a slice that reads so -/
def Reads (w : World) (v : Value) (xs : List Int) : Prop := ∃ a cap, v = .slice a xs.length cap ∧ ∀ (i : Nat) (x : Int), xs[i]? = some x → ∃ g o, a = some ⟨g, o, none⟩ ∧ w.cell? ⟨g, o + i, none⟩ = some (.int .i64 x)
theorem Reads.of_owns {w : World} {base : Nat} {v : Value} {xs : List Int} (h : OwnsInts w base v xs) : Reads w v xs := by
  rcases h.2 with ⟨hv, h2⟩ | ⟨g, cap, cur, hv, hg, hh, h3, h4, _⟩
  · have : xs = [] := List.eq_nil_of_length_eq_zero h2
    subst this
    exact ⟨none, 0, hv, fun i x hx => by simp at hx⟩
  · subst hv
    refine ⟨_, cap, rfl, fun i x hx => ⟨g, 0, rfl, ?_⟩⟩
    have := Owns.cell h one1 hx (j := 0) (by decide)
    rw [Nat.zero_add]
    simpa [one] using this
theorem Reads.keep {w w' : World} {v : Value} {xs : List Int} (h : Reads w v xs) {S : Nat → Prop} (o : Only S w w') (hn : ∀ g, v.ownBlock = some g → ¬ S g) (hv : ∀ a n c, v = .slice (some a) n c → a.off = 0) : Reads w' v xs := by
  obtain ⟨a, cap, rfl, hc⟩ := h
  refine ⟨a, cap, rfl, fun i x hx => ?_⟩
  obtain ⟨g, o', rfl, hcell⟩ := hc i x hx
  have := hv _ _ _ rfl
  simp only at this
  subst this
  exact ⟨g, 0, rfl, o.cell hcell (hn g rfl)⟩
theorem Reads.still {w w' : World} {v : Value} {xs : List Int} (h : Reads w v xs) (o : Only none_ w w') : Reads w' v xs := by
  obtain ⟨a, cap, rfl, hc⟩ := h
  refine ⟨a, cap, rfl, fun i x hx => ?_⟩
  obtain ⟨g, o', rfl, hcell⟩ := hc i x hx
  exact ⟨g, o', rfl, o.cell hcell (fun s => s)⟩

theorem eq_upto {xs ys : List Int} (hl : xs.length = ys.length) (h : ∀ j, j < xs.length → xs[j]? = ys[j]?) : xs = ys := by
  apply List.ext_getElem?
  intro j
  rcases Nat.lt_or_ge j xs.length with c | c
  · exact h j c
  · rw [List.getElem?_eq_none c, List.getElem?_eq_none (by omega)]

set_option maxHeartbeats 2000000 in
theorem ints_any (v u : Value) (xs ys : List Int) (w : World) (hx : Reads w v xs) (hy : Reads w u ys) (hm : xs.length ≤ 1000000) (hm2 : ys.length ≤ 1000000) :
    Calls Try.prog 12 #[v, u] w fun e w' => e = .returned (.bool (decide (xs = ys))) ∧ Only none_ w w' := by
  obtain ⟨a, ca, rfl, ha⟩ := hx
  obtain ⟨b, cb, rfl, hb⟩ := hy
  by_cases hl : xs.length = ys.length
  · have HA := Lib.hid ha
    have HB := Lib.hid hb
    have t : ((xs.length : Int) != (ys.length : Int)) = false := by simp [hl]
    have HL := Lib.hid hl
    clear ha hb
    have hl' : xs.length ≤ ys.length := by omega
    clear hl
    go_enter Try.func12, Try.ntmps12
    go_wp2_with fail
    go_loopw [5] (fun i wr => ∃ k : Nat, k ≤ xs.length ∧ i = .int .i64 k ∧ Only none_ w wr ∧ ∀ j, j < k → xs[j]? = ys[j]?) (fun i _ => xs.length - (intOf i).toNat)
    case atStart => exact ⟨0, Nat.zero_le _, rfl, Only.refl _ _, fun j hj => by omega⟩
    case round =>
      obtain ⟨k, hk, rfl, o, eq⟩ := hrel
      have O := Lib.hid o
      have EQ := Lib.hid eq
      clear o eq
      by_cases hlt : k < xs.length
      · obtain ⟨x, hx⟩ : ∃ x, xs[k]? = some x := ⟨_, List.getElem?_eq_getElem hlt⟩
        have hlt2 : k < ys.length := by omega
        obtain ⟨y, hy⟩ : ∃ y, ys[k]? = some y := ⟨_, List.getElem?_eq_getElem hlt2⟩
        obtain ⟨g1, o1, rfl, c1⟩ := HA.out k x hx
        obtain ⟨g2, o2, rfl, c2⟩ := HB.out k y hy
        have d1 := O.out.cell c1 (fun s => s)
        have d2 := O.out.cell c2 (fun s => s)
        have HX := Lib.hid hx
        have HY := Lib.hid hy
        clear hx hy c1 c2 HA HB
        by_cases e : x = y
        · have t2 : (x != y) = false := by simp [e]
          have E2 := Lib.hid e
          clear e
          go_wp2_with fail
          go_quiet (fail)
          go_wp2_with fail
          go_roundw
          case rel => exact ⟨k + 1, by omega, by go_num, O.out.drewN _, fun j hj => by
            rcases Nat.lt_or_ge j k with c | c
            · exact EQ.out j c
            · obtain rfl : j = k := by omega
              rw [HX.out, HY.out, E2.out]⟩
          case measure => simp [intOf]; omega
        · have t2 : (x != y) = true := by simpa using e
          have NE := Lib.hid (show decide (xs = ys) = false from by
            have : ¬ xs = ys := fun q => by
              have := HX.out
              rw [q, HY.out] at this
              injection this with this
              exact e this.symm
            simpa using this)
          clear e
          go_wp2_with fail
          go_quiet (fail)
          go_wp2_with fail
          go_ret
          exact ⟨by rw [NE.out]; rfl, O.out.drewN _⟩
      · have YE := Lib.hid (show decide (xs = ys) = true from by
          have : xs = ys := eq_upto HL.out (fun j hj => EQ.out j (by omega))
          simpa using this)
        have hge : xs.length ≤ k := by omega
        go_wp2_with fail
        go_ret
        exact ⟨by rw [YE.out]; rfl, O.out⟩
  · have t : ((xs.length : Int) != (ys.length : Int)) = true := by simp; omega
    have NE := Lib.hid (show decide (xs = ys) = false from by
      have : ¬ xs = ys := fun q => hl (by rw [q])
      simpa using this)
    clear ha hb hl
    go_enter Try.func12, Try.ntmps12
    go_wp2_with fail
    go_ret
    exact ⟨by rw [NE.out]; rfl, Only.refl _ _⟩
end Go.Proofs.Ytoflkeedfgnkhaa
