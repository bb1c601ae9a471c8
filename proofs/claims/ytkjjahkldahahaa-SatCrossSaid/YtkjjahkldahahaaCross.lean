/- What the document's own answer on two products is: Cross. -/
import Derived.Test.YtkjjahkldahahaaRef2
namespace Go.Proofs.Ytkjjahkldahahaa
open Go.RowKit Nums

set_option maxRecDepth 100000 in
set_option maxHeartbeats 16000000 in
theorem cross_ref (a b c d : Nat) (ha : a < 18446744073709551616) (hb : b < 18446744073709551616) (hc : c < 18446744073709551616) (hd : d < 18446744073709551616) (w : World) :
    Calls Try.prog 20 #[.int .u64 a, .int .u64 b, .int .u64 c, .int .u64 d] w (Kept (.int .i64 (side ((a * b : Nat) : Int) ((c * d : Nat) : Int))) w) := by
  have P := Lib.hid (product_any a b ha hb)
  have Q := Lib.hid (product_any c d hc hd)
  generalize a * b = n at *
  generalize c * d = m at *
  go_enter Try.func20, Try.ntmps20
  go_wp2_with fail
  (with_reducible refine (P.out _).mono ?_)
  rintro e w1 ⟨v, hv, rfl, hb1⟩
  obtain ⟨x0, x1, x2, x3, x4, x5, x6, x7, rfl, bx0, bx1, bx2, bx3, bx4, bx5, bx6, bx7, hn⟩ := hv
  go_wp2_with fail
  (with_reducible refine (Q.out _).mono ?_)
  rintro e w2 ⟨v, hv, rfl, hb2⟩
  obtain ⟨y0, y1, y2, y3, y4, y5, y6, y7, rfl, by0, by1, by2, by3, by4, by5, by6, by7, hm⟩ := hv
  have hz : w1.heap.size < w2.heap.size := by have := hb2.size; simp at this; omega
  have hcell := fun o => hb2.cell (p := ⟨w1.heap.size, o, none⟩) (by simp)
  have k0 := hcell 0
  have k1 := hcell 1
  have k2 := hcell 2
  have k3 := hcell 3
  have k4 := hcell 4
  have k5 := hcell 5
  have k6 := hcell 6
  have k7 := hcell 7
  simp [go_sem] at k0 k1 k2 k3 k4 k5 k6 k7
  have HB := Lib.hid ((hb1.alloc (by simpa using hb1.size) (.cells #[.int .u64 x0, .int .u64 x1, .int .u64 x2, .int .u64 x3, .int .u64 x4, .int .u64 x5, .int .u64 x6, .int .u64 x7] 38)).trans (hb2.mono (by have := hb1.size; simp; omega)))
  have HN := Lib.hid hn
  have HM := Lib.hid hm
  have HS : w.heap.size ≤ w2.heap.size := HB.out.size
  clear hn hm hcell hb1 hb2 P Q
  go_wp2
  refine wp_loop_rounds 9 ?_
  rcases Nat.lt_trichotomy x7 y7 with h | h | h
  · have hs : side (n : Int) (m : Int) = -1 := by
      have := HN.out; have := HM.out; unfold side; rw [if_pos (by omega)]
    rw [hs]
    clear hs
    rw [rounds_succ]; go_wp2; go_quiet (fail); go_wp2
    go_ret
    exact ⟨rfl, by (repeat refine below_drewN ?_ _); exact HB.out.alloc HS _⟩
  rotate_left
  · have hs : side (n : Int) (m : Int) = 1 := by
      have := HN.out; have := HM.out; unfold side; rw [if_neg (by omega), if_pos (by omega)]
    rw [hs]
    clear hs
    rw [rounds_succ]; go_wp2; go_quiet (fail); go_wp2; go_quiet (fail); go_wp2
    go_ret
    exact ⟨rfl, by (repeat refine below_drewN ?_ _); exact HB.out.alloc HS _⟩
  subst h
  rw [rounds_succ]; go_wp2; go_quiet (fail); go_wp2; go_quiet (fail); go_wp2
  rcases Nat.lt_trichotomy x6 y6 with h | h | h
  · have hs : side (n : Int) (m : Int) = -1 := by
      have := HN.out; have := HM.out; unfold side; rw [if_pos (by omega)]
    rw [hs]
    clear hs
    rw [rounds_succ]; go_wp2; go_quiet (fail); go_wp2
    go_ret
    exact ⟨rfl, by (repeat refine below_drewN ?_ _); exact HB.out.alloc HS _⟩
  rotate_left
  · have hs : side (n : Int) (m : Int) = 1 := by
      have := HN.out; have := HM.out; unfold side; rw [if_neg (by omega), if_pos (by omega)]
    rw [hs]
    clear hs
    rw [rounds_succ]; go_wp2; go_quiet (fail); go_wp2; go_quiet (fail); go_wp2
    go_ret
    exact ⟨rfl, by (repeat refine below_drewN ?_ _); exact HB.out.alloc HS _⟩
  subst h
  rw [rounds_succ]; go_wp2; go_quiet (fail); go_wp2; go_quiet (fail); go_wp2
  rcases Nat.lt_trichotomy x5 y5 with h | h | h
  · have hs : side (n : Int) (m : Int) = -1 := by
      have := HN.out; have := HM.out; unfold side; rw [if_pos (by omega)]
    rw [hs]
    clear hs
    rw [rounds_succ]; go_wp2; go_quiet (fail); go_wp2
    go_ret
    exact ⟨rfl, by (repeat refine below_drewN ?_ _); exact HB.out.alloc HS _⟩
  rotate_left
  · have hs : side (n : Int) (m : Int) = 1 := by
      have := HN.out; have := HM.out; unfold side; rw [if_neg (by omega), if_pos (by omega)]
    rw [hs]
    clear hs
    rw [rounds_succ]; go_wp2; go_quiet (fail); go_wp2; go_quiet (fail); go_wp2
    go_ret
    exact ⟨rfl, by (repeat refine below_drewN ?_ _); exact HB.out.alloc HS _⟩
  subst h
  rw [rounds_succ]; go_wp2; go_quiet (fail); go_wp2; go_quiet (fail); go_wp2
  rcases Nat.lt_trichotomy x4 y4 with h | h | h
  · have hs : side (n : Int) (m : Int) = -1 := by
      have := HN.out; have := HM.out; unfold side; rw [if_pos (by omega)]
    rw [hs]
    clear hs
    rw [rounds_succ]; go_wp2; go_quiet (fail); go_wp2
    go_ret
    exact ⟨rfl, by (repeat refine below_drewN ?_ _); exact HB.out.alloc HS _⟩
  rotate_left
  · have hs : side (n : Int) (m : Int) = 1 := by
      have := HN.out; have := HM.out; unfold side; rw [if_neg (by omega), if_pos (by omega)]
    rw [hs]
    clear hs
    rw [rounds_succ]; go_wp2; go_quiet (fail); go_wp2; go_quiet (fail); go_wp2
    go_ret
    exact ⟨rfl, by (repeat refine below_drewN ?_ _); exact HB.out.alloc HS _⟩
  subst h
  rw [rounds_succ]; go_wp2; go_quiet (fail); go_wp2; go_quiet (fail); go_wp2
  rcases Nat.lt_trichotomy x3 y3 with h | h | h
  · have hs : side (n : Int) (m : Int) = -1 := by
      have := HN.out; have := HM.out; unfold side; rw [if_pos (by omega)]
    rw [hs]
    clear hs
    rw [rounds_succ]; go_wp2; go_quiet (fail); go_wp2
    go_ret
    exact ⟨rfl, by (repeat refine below_drewN ?_ _); exact HB.out.alloc HS _⟩
  rotate_left
  · have hs : side (n : Int) (m : Int) = 1 := by
      have := HN.out; have := HM.out; unfold side; rw [if_neg (by omega), if_pos (by omega)]
    rw [hs]
    clear hs
    rw [rounds_succ]; go_wp2; go_quiet (fail); go_wp2; go_quiet (fail); go_wp2
    go_ret
    exact ⟨rfl, by (repeat refine below_drewN ?_ _); exact HB.out.alloc HS _⟩
  subst h
  rw [rounds_succ]; go_wp2; go_quiet (fail); go_wp2; go_quiet (fail); go_wp2
  rcases Nat.lt_trichotomy x2 y2 with h | h | h
  · have hs : side (n : Int) (m : Int) = -1 := by
      have := HN.out; have := HM.out; unfold side; rw [if_pos (by omega)]
    rw [hs]
    clear hs
    rw [rounds_succ]; go_wp2; go_quiet (fail); go_wp2
    go_ret
    exact ⟨rfl, by (repeat refine below_drewN ?_ _); exact HB.out.alloc HS _⟩
  rotate_left
  · have hs : side (n : Int) (m : Int) = 1 := by
      have := HN.out; have := HM.out; unfold side; rw [if_neg (by omega), if_pos (by omega)]
    rw [hs]
    clear hs
    rw [rounds_succ]; go_wp2; go_quiet (fail); go_wp2; go_quiet (fail); go_wp2
    go_ret
    exact ⟨rfl, by (repeat refine below_drewN ?_ _); exact HB.out.alloc HS _⟩
  subst h
  rw [rounds_succ]; go_wp2; go_quiet (fail); go_wp2; go_quiet (fail); go_wp2
  rcases Nat.lt_trichotomy x1 y1 with h | h | h
  · have hs : side (n : Int) (m : Int) = -1 := by
      have := HN.out; have := HM.out; unfold side; rw [if_pos (by omega)]
    rw [hs]
    clear hs
    rw [rounds_succ]; go_wp2; go_quiet (fail); go_wp2
    go_ret
    exact ⟨rfl, by (repeat refine below_drewN ?_ _); exact HB.out.alloc HS _⟩
  rotate_left
  · have hs : side (n : Int) (m : Int) = 1 := by
      have := HN.out; have := HM.out; unfold side; rw [if_neg (by omega), if_pos (by omega)]
    rw [hs]
    clear hs
    rw [rounds_succ]; go_wp2; go_quiet (fail); go_wp2; go_quiet (fail); go_wp2
    go_ret
    exact ⟨rfl, by (repeat refine below_drewN ?_ _); exact HB.out.alloc HS _⟩
  subst h
  rw [rounds_succ]; go_wp2; go_quiet (fail); go_wp2; go_quiet (fail); go_wp2
  rcases Nat.lt_trichotomy x0 y0 with h | h | h
  · have hs : side (n : Int) (m : Int) = -1 := by
      have := HN.out; have := HM.out; unfold side; rw [if_pos (by omega)]
    rw [hs]
    clear hs
    rw [rounds_succ]; go_wp2; go_quiet (fail); go_wp2
    go_ret
    exact ⟨rfl, by (repeat refine below_drewN ?_ _); exact HB.out.alloc HS _⟩
  rotate_left
  · have hs : side (n : Int) (m : Int) = 1 := by
      have := HN.out; have := HM.out; unfold side; rw [if_neg (by omega), if_pos (by omega)]
    rw [hs]
    clear hs
    rw [rounds_succ]; go_wp2; go_quiet (fail); go_wp2; go_quiet (fail); go_wp2
    go_ret
    exact ⟨rfl, by (repeat refine below_drewN ?_ _); exact HB.out.alloc HS _⟩
  subst h
  rw [rounds_succ]; go_wp2; go_quiet (fail); go_wp2; go_quiet (fail); go_wp2
  have hs : side (n : Int) (m : Int) = 0 := by
    have := HN.out; have := HM.out; unfold side; rw [if_neg (by omega), if_neg (by omega)]
  have HZ := Lib.hid hs
  clear hs
  rw [rounds_succ]; go_wp2
  go_ret
  exact ⟨ret_int HZ.out.symm, by (repeat refine below_drewN ?_ _); exact HB.out.alloc HS _⟩
end Go.Proofs.Ytkjjahkldahahaa
