/- Whether two slices have the same entries. -/
import Derived.Test.YtfmmmiiohaaegaaTpList
import Derived.Laws.StructEq
import Derived.BigRegion
namespace Go.Proofs.Ytfmmmiiohaaegaa
open Go.RowKit
set_option linter.unusedVariables false

theorem same_len_no {es fs : List En} (h : es.length ≠ fs.length) : decide (es = fs) = false := by
  simp
  intro e
  exact h (by rw [e])
theorem same_no {es fs : List En} {k : Nat} {y z : En} (hy : es[k]? = some y) (hz : fs[k]? = some z) (h : y ≠ z) : decide (es = fs) = false := by
  simp
  intro e
  rw [e, hz] at hy
  injection hy with hy
  exact h hy.symm
theorem same_yes {es fs : List En} (hl : es.length = fs.length) (h : ∀ j, j < es.length → es[j]? = fs[j]?) : decide (es = fs) = true := by
  simp
  apply List.ext_getElem?
  intro j
  rcases Nat.lt_or_ge j es.length with q | q
  · exact h j q
  · rw [List.getElem?_eq_none q, List.getElem?_eq_none (by omega)]

set_option maxHeartbeats 1000000 in
theorem same8_any (A B : Option Addr) (ca cb : Nat) (es fs : List En) (w : World) (ha : Holds w A 2 En.cells es) (hb : Holds w B 2 En.cells fs) (le : es.length ≤ 1000) (lf : fs.length ≤ 1000) :
    Calls Try.prog 19 #[.slice A es.length ca, .slice B fs.length cb] w fun e w' => e = .returned (.bool (decide (es = fs))) ∧ Only none_ w w' := by
  have HA := Lib.hid ha
  have HB := Lib.hid hb
  clear ha hb
  by_cases hl : es.length = fs.length
  · have d1 : ((es.length : Int) != (fs.length : Int)) = false := by simp; omega
    have HLL := Lib.hid hl
    clear hl
    go_enter Try.func19, Try.ntmps19
    go_wp2_with fail
    go_loopw [5] (fun i wr => ∃ k : Nat, k ≤ es.length ∧ i = .int .i64 k ∧ (∀ j, j < k → es[j]? = fs[j]?) ∧ Only none_ w wr) (fun i _ => es.length - (intOf i).toNat)
    case atStart => exact ⟨0, Nat.zero_le _, rfl, fun j hj => by omega, Only.refl _ _⟩
    case round =>
      obtain ⟨k, hk, rfl, hn, ho⟩ := hrel
      have HN := Lib.hid hn
      have OO := Lib.hid ho
      clear hn ho
      by_cases hlt : k < es.length
      · obtain ⟨y, hy⟩ : ∃ y, es[k]? = some y := ⟨_, List.getElem?_eq_getElem hlt⟩
        obtain ⟨z, hz⟩ : ∃ z, fs[k]? = some z := ⟨_, List.getElem?_eq_getElem (by have := HLL.out; omega)⟩
        obtain ⟨ag, ao, rfl, _, c1⟩ := HA.out k y hy
        obtain ⟨bg, bo, rfl, _, c2⟩ := HB.out k z hz
        have a0 : wr.drew.cell? ⟨ag, ao + k * 2, none⟩ = some (.int .i64 y.next) := OO.out.cell (c1 0 _ rfl) (fun s => s)
        have a1 : wr.drew.cell? ⟨ag, ao + k * 2 + 1, none⟩ = some (.int .i64 y.age) := OO.out.cell (c1 1 _ rfl) (fun s => s)
        have b0 : wr.drew.cell? ⟨bg, bo + k * 2, none⟩ = some (.int .i64 z.next) := OO.out.cell (c2 0 _ rfl) (fun s => s)
        have b1 : wr.drew.cell? ⟨bg, bo + k * 2 + 1, none⟩ = some (.int .i64 z.age) := OO.out.cell (c2 1 _ rfl) (fun s => s)
        have HY := Lib.hid hy
        have HZ := Lib.hid hz
        have lk : k < fs.length := by have := HLL.out; omega
        clear hy hz c1 c2
        by_cases e0 : y.next = z.next
        · have t0 : (y.next == z.next) = true := by simp [e0]
          by_cases e1 : y.age = z.age
          · have t1 : ((y.age : Int) == (z.age : Int)) = true := by simp [e1]
            have EQ := Lib.hid (show ∀ j, j < k + 1 → es[j]? = fs[j]? from fun j hj => by
              by_cases q : j = k
              · subst q; rw [HY.out, HZ.out]; cases y; cases z; simp at e0 e1; rw [e0, e1]
              · exact HN.out j (by omega))
            clear e0 e1
            go_wp2_with fail
            go_region
            all_goals
              go_wp2_with fail
              go_roundw
              case rel => exact ⟨k + 1, by omega, by go_num, EQ.out, OO.out.drew⟩
              case measure => simp [intOf]; omega
          · have t1 : ((y.age : Int) == (z.age : Int)) = false := by simp; omega
            have SN := Lib.hid (same_no HY.out HZ.out (fun q => e1 (by rw [q])))
            clear e0 e1
            go_wp2_with fail
            go_region
            all_goals
              go_wp2_with fail
              go_ret
              exact ⟨by rw [SN.out]; rfl, OO.out.drew⟩
        · have t0 : (y.next == z.next) = false := by simp [e0]
          have SN := Lib.hid (same_no HY.out HZ.out (fun q => e0 (by rw [q])))
          clear e0
          go_wp2_with fail
          go_region
          all_goals
            go_wp2_with fail
            go_ret
            exact ⟨by rw [SN.out]; rfl, OO.out.drew⟩
      · have SN := Lib.hid (same_yes HLL.out (fun j hj => HN.out j (by omega)))
        go_wp2_with fail
        go_ret
        exact ⟨by rw [SN.out]; rfl, OO.out⟩
  · have d1 : ((es.length : Int) != (fs.length : Int)) = true := by simp; omega
    have SN := Lib.hid (same_len_no hl)
    clear hl
    go_enter Try.func19, Try.ntmps19
    go_wp2_with fail
    go_ret
    exact ⟨by rw [SN.out]; rfl, Only.refl _ _⟩
end Go.Proofs.Ytfmmmiiohaaegaa
