/- Whether two slices have the same streams. -/
import Derived.Test.YtfmmmiiohaaegaaRs
import Derived.Deep.RegionHeld3
namespace Go.Proofs.Ytfmmmiiohaaegaa
open Go.RowKit
set_option linter.unusedVariables false

theorem sm_eq (s t : Sm) : decide (s = t) = ((s.id : Int) == t.id && (s.f.n == t.f.n && (s.f.a == t.f.a && (s.f.p == t.f.p && (s.f.g == t.f.g && (s.used : Int) == t.used))))) := by
  obtain ⟨a, ⟨b, c, d, e⟩, u⟩ := s
  obtain ⟨a', ⟨b', c', d', e'⟩, u'⟩ := t
  rw [Bool.eq_iff_iff]
  simp
  omega
theorem eq_sm (s t : Sm) (w : World) : (Op.equalIn 10000 59 (.agg #[.int .i64 s.id, .int .i64 s.f.n, .int .i64 s.f.a, .int .i64 s.f.p, .int .i64 s.f.g, .int .i64 s.used]) (.agg #[.int .i64 t.id, .int .i64 t.f.n, .int .i64 t.f.a, .int .i64 t.f.p, .int .i64 t.f.g, .int .i64 t.used])).run Try.prog w = .ok (decide (s = t)) w := by
  rw [sm_eq]
  generalize (s.id : Int) = x0
  generalize (t.id : Int) = y0
  generalize (s.used : Int) = x5
  generalize (t.used : Int) = y5
  simp [go_sem]
  by_cases h0 : x0 = y0 <;> by_cases h1 : s.f.n = t.f.n <;> by_cases h2 : s.f.a = t.f.a <;> by_cases h3 : s.f.p = t.f.p <;> by_cases h4 : s.f.g = t.f.g <;> by_cases h5 : x5 = y5 <;> simp [h0, h1, h2, h3, h4, h5]
theorem slen_no {ss ts : List Sm} (h : ss.length ≠ ts.length) : decide (ss = ts) = false := by
  simp
  intro e
  exact h (by rw [e])
theorem sm_no {ss ts : List Sm} {k : Nat} {y z : Sm} (hy : ss[k]? = some y) (hz : ts[k]? = some z) (h : y ≠ z) : decide (ss = ts) = false := by
  simp
  intro e
  rw [e, hz] at hy
  injection hy with hy
  exact h hy.symm
theorem sm_yes {ss ts : List Sm} (hl : ss.length = ts.length) (h : ∀ j, j < ss.length → ss[j]? = ts[j]?) : decide (ss = ts) = true := by
  simp
  apply List.ext_getElem?
  intro j
  rcases Nat.lt_or_ge j ss.length with q | q
  · exact h j q
  · rw [List.getElem?_eq_none q, List.getElem?_eq_none (by omega)]

set_option maxHeartbeats 1000000 in
theorem same10_any (A B : Option Addr) (ca cb : Nat) (ss ts : List Sm) (w : World) (ha : Holds w A 6 Sm.cells ss) (hb : Holds w B 6 Sm.cells ts) (le : ss.length ≤ 1000) (lf : ts.length ≤ 1000) :
    Calls Try.prog 17 #[.slice A ss.length ca, .slice B ts.length cb] w fun e w' => e = .returned (.bool (decide (ss = ts))) ∧ Only none_ w w' := by
  have HA := Lib.hid ha
  have HB := Lib.hid hb
  clear ha hb
  by_cases hl : ss.length = ts.length
  · have d1 : ((ss.length : Int) != (ts.length : Int)) = false := by simp; omega
    have HLL := Lib.hid hl
    clear hl
    go_enter Try.func17, Try.ntmps17
    go_wp2_with fail
    go_loopw [5] (fun i wr => ∃ k : Nat, k ≤ ss.length ∧ i = .int .i64 k ∧ (∀ j, j < k → ss[j]? = ts[j]?) ∧ Only none_ w wr) (fun i _ => ss.length - (intOf i).toNat)
    case atStart => exact ⟨0, Nat.zero_le _, rfl, fun j hj => by omega, Only.refl _ _⟩
    case round =>
      obtain ⟨k, hk, rfl, hn, ho⟩ := hrel
      have HN := Lib.hid hn
      have OO := Lib.hid ho
      clear hn ho
      by_cases hlt : k < ss.length
      · obtain ⟨y, hy⟩ : ∃ y, ss[k]? = some y := ⟨_, List.getElem?_eq_getElem hlt⟩
        obtain ⟨z, hz⟩ : ∃ z, ts[k]? = some z := ⟨_, List.getElem?_eq_getElem (by have := HLL.out; omega)⟩
        obtain ⟨ag, ao, rfl, _, c1⟩ := HA.out k y hy
        obtain ⟨bg, bo, rfl, _, c2⟩ := HB.out k z hz
        have a0 : wr.drew.cell? ⟨ag, ao + k * 6, none⟩ = some (.int .i64 y.id) := OO.out.cell (c1 0 _ rfl) (fun s => s)
        have a1 : wr.drew.cell? ⟨ag, ao + k * 6 + 1, none⟩ = some (.int .i64 y.f.n) := OO.out.cell (c1 1 _ rfl) (fun s => s)
        have a2 : wr.drew.cell? ⟨ag, ao + k * 6 + 2, none⟩ = some (.int .i64 y.f.a) := OO.out.cell (c1 2 _ rfl) (fun s => s)
        have a3 : wr.drew.cell? ⟨ag, ao + k * 6 + 3, none⟩ = some (.int .i64 y.f.p) := OO.out.cell (c1 3 _ rfl) (fun s => s)
        have a4 : wr.drew.cell? ⟨ag, ao + k * 6 + 4, none⟩ = some (.int .i64 y.f.g) := OO.out.cell (c1 4 _ rfl) (fun s => s)
        have a5 : wr.drew.cell? ⟨ag, ao + k * 6 + 5, none⟩ = some (.int .i64 y.used) := OO.out.cell (c1 5 _ rfl) (fun s => s)
        have b0 : wr.drew.cell? ⟨bg, bo + k * 6, none⟩ = some (.int .i64 z.id) := OO.out.cell (c2 0 _ rfl) (fun s => s)
        have b1 : wr.drew.cell? ⟨bg, bo + k * 6 + 1, none⟩ = some (.int .i64 z.f.n) := OO.out.cell (c2 1 _ rfl) (fun s => s)
        have b2 : wr.drew.cell? ⟨bg, bo + k * 6 + 2, none⟩ = some (.int .i64 z.f.a) := OO.out.cell (c2 2 _ rfl) (fun s => s)
        have b3 : wr.drew.cell? ⟨bg, bo + k * 6 + 3, none⟩ = some (.int .i64 z.f.p) := OO.out.cell (c2 3 _ rfl) (fun s => s)
        have b4 : wr.drew.cell? ⟨bg, bo + k * 6 + 4, none⟩ = some (.int .i64 z.f.g) := OO.out.cell (c2 4 _ rfl) (fun s => s)
        have b5 : wr.drew.cell? ⟨bg, bo + k * 6 + 5, none⟩ = some (.int .i64 z.used) := OO.out.cell (c2 5 _ rfl) (fun s => s)
        have EQ := fun w => eq_sm y z w
        have HY := Lib.hid hy
        have HZ := Lib.hid hz
        have lk : k < ts.length := by have := HLL.out; omega
        clear hy hz c1 c2
        by_cases e0 : y = z
        · have t0 : decide (y = z) = true := by simp [e0]
          have EQ2 := Lib.hid (show ∀ j, j < k + 1 → ss[j]? = ts[j]? from fun j hj => by
            by_cases q : j = k
            · subst q; rw [HY.out, HZ.out, e0]
            · exact HN.out j (by omega))
          rw [t0] at EQ
          clear e0 t0
          go_wp2_with fail
          go_region
          all_goals
            go_wp2_with fail
            go_roundw
            case rel => exact ⟨k + 1, by omega, by go_num, EQ2.out, OO.out.drew⟩
            case measure => simp [intOf]; omega
        · have t0 : decide (y = z) = false := by simp [e0]
          have SN := Lib.hid (sm_no HY.out HZ.out e0)
          rw [t0] at EQ
          clear e0 t0
          go_wp2_with fail
          go_region
          all_goals
            go_wp2_with fail
            go_ret
            exact ⟨by rw [SN.out]; rfl, OO.out.drew⟩
      · have SN := Lib.hid (sm_yes HLL.out (fun j hj => HN.out j (by omega)))
        go_wp2_with fail
        go_ret
        exact ⟨by rw [SN.out]; rfl, OO.out⟩
  · have d1 : ((ss.length : Int) != (ts.length : Int)) = true := by simp; omega
    have SN := Lib.hid (slen_no hl)
    clear hl
    go_enter Try.func17, Try.ntmps17
    go_wp2_with fail
    go_ret
    exact ⟨by rw [SN.out]; rfl, Only.refl _ _⟩
end Go.Proofs.Ytfmmmiiohaaegaa
