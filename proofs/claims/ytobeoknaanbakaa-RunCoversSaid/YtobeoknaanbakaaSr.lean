/- Are two rows of runs the same. -/
import Derived.Test.YtobeoknaanbakaaCv
namespace Go.Proofs.Ytobeoknaanbakaa
open Go.RowKit
set_option linter.unusedVariables false

/-- a slice that reads as these runs -/
def ReadsR (w : World) (v : Value) (xs : List Rn) : Prop := ∃ a cap, v = .slice a xs.length cap ∧ ∀ (i : Nat) (r : Rn), xs[i]? = some r → ∃ g o, a = some ⟨g, o, none⟩ ∧ w.cell? ⟨g, o + i * 2, none⟩ = some (.int .i64 r.f) ∧ w.cell? ⟨g, o + i * 2 + 1, none⟩ = some (.int .i64 r.c)
theorem ReadsR.of_owns {w : World} {base : Nat} {v : Value} {xs : List Rn} (h : OwnsRuns w base v xs) : ReadsR w v xs := by
  rcases h.2 with ⟨hv, h2⟩ | ⟨g, cap, cur, hv, hg, hh, h3, h4, _⟩
  · have : xs = [] := List.eq_nil_of_length_eq_zero h2
    subst this
    exact ⟨none, 0, hv, fun i x hx => by simp at hx⟩
  · subst hv
    refine ⟨_, cap, rfl, fun i r hx => ⟨g, 0, rfl, ?_, ?_⟩⟩
    · have := Owns.cell h rn2 hx (j := 0) (by decide)
      rw [Nat.zero_add]
      simpa [Rn.cells] using this
    · have := Owns.cell h rn2 hx (j := 1) (by decide)
      rw [Nat.zero_add]
      simpa [Rn.cells] using this
theorem ReadsR.still {w w' : World} {v : Value} {xs : List Rn} (h : ReadsR w v xs) (o : Only none_ w w') : ReadsR w' v xs := by
  obtain ⟨a, cap, rfl, hc⟩ := h
  refine ⟨a, cap, rfl, fun i x hx => ?_⟩
  obtain ⟨g, o', rfl, h1, h2⟩ := hc i x hx
  exact ⟨g, o', rfl, o.cell h1 (fun s => s), o.cell h2 (fun s => s)⟩
theorem rn_upto {xs ys : List Rn} (hl : xs.length = ys.length) (h : ∀ j, j < xs.length → xs[j]? = ys[j]?) : xs = ys := by
  apply List.ext_getElem?
  intro j
  rcases Nat.lt_or_ge j xs.length with c | c
  · exact h j c
  · rw [List.getElem?_eq_none c, List.getElem?_eq_none (by omega)]
theorem eq_rn (r s : Rn) (w : World) : (Op.equalIn 10000 27 (.agg #[.int .i64 r.f, .int .i64 r.c]) (.agg #[.int .i64 s.f, .int .i64 s.c])).run Try.prog w = .ok (decide (r = s)) w := by
  have h : decide (r = s) = (r.f == s.f && r.c == s.c) := by
    obtain ⟨a, b⟩ := r
    obtain ⟨a', b'⟩ := s
    rw [Bool.eq_iff_iff]
    simp
  rw [h]
  simp [go_sem]
  by_cases h1 : r.f = s.f <;> by_cases h2 : r.c = s.c <;> simp [h1, h2]

set_option maxHeartbeats 2000000 in
theorem same_any (v u : Value) (xs ys : List Rn) (w : World) (hx : ReadsR w v xs) (hy : ReadsR w u ys) (hm : xs.length ≤ 1000000) (hm2 : ys.length ≤ 1000000) :
    Calls Try.prog 12 #[v, u] w fun e w' => e = .returned (.bool (decide (xs = ys))) ∧ Only none_ w w' := by
  obtain ⟨a, ca, rfl, ha⟩ := hx
  obtain ⟨b, cb, rfl, hb⟩ := hy
  by_cases hl : xs.length = ys.length
  · have HA := Lib.hid ha
    have HB := Lib.hid hb
    have t : ((xs.length : Int) != (ys.length : Int)) = false := by simp [hl]
    have HL := Lib.hid hl
    clear ha hb
    have hl' : xs.length ≤ ys.length := by omega
    clear hl
    go_enter Try.func12, Try.ntmps12
    go_wp2_with fail
    go_loopw [5] (fun i wr => ∃ k : Nat, k ≤ xs.length ∧ i = .int .i64 k ∧ Only none_ w wr ∧ ∀ j, j < k → xs[j]? = ys[j]?) (fun i _ => xs.length - (intOf i).toNat)
    case atStart => exact ⟨0, Nat.zero_le _, rfl, Only.refl _ _, fun j hj => by omega⟩
    case round =>
      obtain ⟨k, hk, rfl, o, eq⟩ := hrel
      have O := Lib.hid o
      have EQ := Lib.hid eq
      clear o eq
      by_cases hlt : k < xs.length
      · obtain ⟨x, hx⟩ : ∃ x, xs[k]? = some x := ⟨_, List.getElem?_eq_getElem hlt⟩
        have hlt2 : k < ys.length := by omega
        obtain ⟨y, hy⟩ : ∃ y, ys[k]? = some y := ⟨_, List.getElem?_eq_getElem hlt2⟩
        obtain ⟨g1, o1, rfl, c1, c2⟩ := HA.out k x hx
        obtain ⟨g2, o2, rfl, c3, c4⟩ := HB.out k y hy
        have d1 := O.out.cell c1 (fun s => s)
        have d2 := O.out.cell c2 (fun s => s)
        have d3 := O.out.cell c3 (fun s => s)
        have d4 := O.out.cell c4 (fun s => s)
        have HX := Lib.hid hx
        have HY := Lib.hid hy
        have er := fun w => eq_rn x y w
        clear hx hy c1 c2 c3 c4 HA HB
        by_cases e : x = y
        · rw [decide_eq_true e] at er
          have E2 := Lib.hid e
          clear e
          go_wp2_with fail
          go_quiet (fail)
          go_wp2_with fail
          go_roundw
          case rel => exact ⟨k + 1, by omega, by go_num, O.out.drewN _, fun j hj => by
            rcases Nat.lt_or_ge j k with c | c
            · exact EQ.out j c
            · obtain rfl : j = k := by omega
              rw [HX.out, HY.out, E2.out]⟩
          case measure => simp [intOf]; omega
        · rw [decide_eq_false e] at er
          have NE := Lib.hid (show decide (xs = ys) = false from by
            have : ¬ xs = ys := fun q => by
              have := HX.out
              rw [q, HY.out] at this
              injection this with this
              exact e this.symm
            simpa using this)
          clear e
          go_wp2_with fail
          go_quiet (fail)
          go_wp2_with fail
          go_ret
          exact ⟨by rw [NE.out]; rfl, O.out.drewN _⟩
      · have YE := Lib.hid (show decide (xs = ys) = true from by
          have : xs = ys := rn_upto HL.out (fun j hj => EQ.out j (by omega))
          simpa using this)
        have hge : xs.length ≤ k := by omega
        go_wp2_with fail
        go_ret
        exact ⟨by rw [YE.out]; rfl, O.out⟩
  · have t : ((xs.length : Int) != (ys.length : Int)) = true := by simp; omega
    have NE := Lib.hid (show decide (xs = ys) = false from by
      have : ¬ xs = ys := fun q => hl (by rw [q])
      simpa using this)
    clear ha hb hl
    go_enter Try.func12, Try.ntmps12
    go_wp2_with fail
    go_ret
    exact ⟨by rw [NE.out]; rfl, Only.refl _ _⟩
end Go.Proofs.Ytobeoknaanbakaa
