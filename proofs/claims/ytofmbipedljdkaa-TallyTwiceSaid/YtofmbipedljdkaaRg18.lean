/- The document's own sum of two tallies, whether a count is the greatest, whether a tally adds up. No condition but that the counts fit 64 bits. -/
import Derived.Test.YtofmbipedljdkaaRf18
namespace Go.Proofs.Ytofmbipedljdkaa
open Go.RowKit
set_option linter.unusedVariables false

/-- the counts below k are summed -/
def Ta.half (a b : Ta) (k : Nat) : Ta := ⟨fun i => if i < k then held (a.n i + b.n i) else a.n i⟩
theorem Ta.half_nil (a b : Ta) : a.half b 0 = a := by simp [Ta.half]
theorem Ta.half_all (a b : Ta) : (a.half b 10).val = (a.sum b).val := Ta.val_congr fun i hi => by simp [Ta.half, Ta.sum, hi]
theorem Ta.half_more (a b : Ta) (k : Nat) : (a.half b k).plus k (b.n k) = a.half b (k + 1) := by
  unfold Ta.half Ta.plus
  congr 1
  funext i
  show (if i = k then held ((if i < k then held (a.n i + b.n i) else a.n i) + b.n k) else (if i < k then held (a.n i + b.n i) else a.n i)) = if i < k + 1 then held (a.n i + b.n i) else a.n i
  by_cases h : i = k
  · subst h; simp
  · by_cases h2 : i < k
    · rw [if_neg h, if_pos h2, if_pos (by omega)]
    · rw [if_neg h, if_neg h2, if_neg (by omega)]
theorem Ta.half_wf {a b : Ta} (ha : a.Wf) (k : Nat) : (a.half b k).Wf := fun i => by
  show (if i < k then held (a.n i + b.n i) else a.n i) < _
  split
  · exact held_lt _
  · exact ha i

set_option maxHeartbeats 2000000 in
theorem rsum_any (a b : Ta) (ha : a.Wf) (hb : b.Wf) (w : World) : Calls Try.prog 18 #[a.val, b.val] w fun e w' => e = .returned (a.sum b).val ∧ Only none_ w w' := by
  obtain ⟨w0, hw0⟩ : ∃ w0, w0 = ((w.alloc (.cells a.cs 24)).alloc (.cells b.cs 24)).alloc (.cells noughts 24) := ⟨_, rfl⟩
  have o0 : Only none_ w w0 := by rw [hw0]; exact (((Only.refl none_ w).alloc _).alloc _).alloc _
  have ra : Row w0 w.heap.size 24 a.cs := by rw [hw0]; exact ((Row.fresh w _ _).alloc _).alloc _
  have rb : Row w0 (w.heap.size + 1) 24 b.cs := by rw [hw0]; have h := (Row.fresh (w.alloc (.cells a.cs 24)) 24 b.cs).alloc (.cells noughts 24); rw [World.size_alloc] at h; exact h
  have rz : Row w0 (w.heap.size + 1 + 1) 24 noughts := by rw [hw0]; have h := Row.fresh ((w.alloc (.cells a.cs 24)).alloc (.cells b.cs 24)) 24 noughts; rw [World.size_alloc, World.size_alloc] at h; exact h
  have CO := Lib.hid (fun w => rcounts_any b w)
  have O0 := Lib.hid o0
  have RA := Lib.hid ra
  have RB := Lib.hid rb
  have RZ := Lib.hid rz
  obtain ⟨b0, b1, b2, b3, b4, b5, b6, b7, b8, b9⟩ := rb.ten
  clear o0 ra rb rz
  generalize hz : w.heap.size + 1 + 1 = z at *
  have nz : w.heap.size ≤ z := by omega
  have nz2 : w.heap.size ≠ z := by omega
  go_enter Try.func18, Try.ntmps18
  go_upto_region 1 with fail
  rw [← hw0]
  clear hw0
  try rw [hz]
  clear hz
  go_wp2_with fail
  go_wp2_with fail
  (with_reducible refine (CO.out _).mono ?_)
  rintro e w1 ⟨rfl, o1⟩
  have O1 := Lib.hid (O0.out.same o1)
  have RA1 := Lib.hid (o1.still RA.out)
  have RZ1 := Lib.hid (o1.still RZ.out)
  clear b0 b1 b2 b3 b4 b5 b6 b7 b8 b9 CO RA RB RZ O0 o1
  have L1 := Lib.hid O1.out.size
  go_wp2_with fail
  go_loopw [6] (fun i wr => ∃ k : Nat, k ≤ 10 ∧ i = .int .i64 k ∧ Only none_ w wr ∧ Row wr w.heap.size 24 (a.half b k).cs ∧ Row wr z 24 noughts ∧ Row wr w1.heap.size 31 b.cs) (fun i _ => 10 - (intOf i).toNat)
  case atStart => exact ⟨0, by omega, rfl, O1.out.alloc _, by rw [Ta.half_nil]; exact RA1.out.alloc _, RZ1.out.alloc _, Row.fresh _ _ _⟩
  case round =>
    obtain ⟨k, hk, rfl, o, ra, rz, rc⟩ := hrel
    have O := Lib.hid o
    have RA := Lib.hid ra
    have RZ := Lib.hid rz
    have RC := Lib.hid rc
    clear o ra rz rc RA1 RZ1
    by_cases hlt : k < 10
    · have AP := Lib.hid (show w1.heap.size ≠ w.heap.size from fun e => by
        have h := RC.out.one (e ▸ RA.out)
        exact absurd h.1 (by decide))
      have lw := RC.out.lt
      have M := Lib.hid (a.half_more b k)
      have AD := Lib.hid (fun w => radd_in (a.half b k) (Ta.half_wf ha k) k (b.n k) hlt (hb k) w)
      rw [M.out] at AD
      generalize hq : a.half b k = q at *
      generalize hq' : a.half b (k + 1) = q' at *
      obtain ⟨c0, c1, c2, c3, c4, c5, c6, c7, c8, c9⟩ := RA.out.ten
      have cb := (RC.out.cell k).trans (Ta.cs_get b k hlt)
      have Od := Lib.hid ((Only.refl none_ wr).drew)
      go_wp2_with fail
      go_region_with (first
        | (go_at_call 10; (with_reducible refine (AD.out _).mono ?_); rintro e w4 ⟨rfl, o4⟩; have O4 := Lib.hid (Od.out.same o4); have R4 := Lib.hid (O4.out.still RA.out); obtain ⟨d0, d1, d2, d3, d4, d5, d6, d7, d8, d9⟩ := R4.out.ten; have zf := R4.out.frozen)
        | fail)
      all_goals
        have R6 := Lib.hid (R4.out.put_ten (.int .u64 (q'.n 0)) (.int .u64 (q'.n 1)) (.int .u64 (q'.n 2)) (.int .u64 (q'.n 3)) (.int .u64 (q'.n 4)) (.int .u64 (q'.n 5)) (.int .u64 (q'.n 6)) (.int .u64 (q'.n 7)) (.int .u64 (q'.n 8)) (.int .u64 (q'.n 9)))
        have O6 := only_ten w4 w.heap.size (q'.n 0) (q'.n 1) (q'.n 2) (q'.n 3) (q'.n 4) (q'.n 5) (q'.n 6) (q'.n 7) (q'.n 8) (q'.n 9)
        have RZ6 := Lib.hid (O6.row (O4.out.still RZ.out) (fun e => absurd (show z = w.heap.size from e) (by omega)))
        have RC6 := Lib.hid (O6.row (O4.out.still RC.out) (fun e => AP.out e))
        have O7 := Lib.hid ((O.out.same O4.out).trans (O6.more (S' := fun k => w.heap.size ≤ k) (fun _ _ e => by rw [e]; exact Nat.le_refl _)) (fun i hi s => absurd hi (by omega)))
        clear O6 d0 d1 d2 d3 d4 d5 d6 d7 d8 d9 zf c0 c1 c2 c3 c4 c5 c6 c7 c8 c9 cb
        generalize ((((((((((w4.setCell ⟨w.heap.size, 0, none⟩ (.int .u64 (q'.n 0))).setCell ⟨w.heap.size, 1, none⟩ (.int .u64 (q'.n 1))).setCell ⟨w.heap.size, 2, none⟩ (.int .u64 (q'.n 2))).setCell ⟨w.heap.size, 3, none⟩ (.int .u64 (q'.n 3))).setCell ⟨w.heap.size, 4, none⟩ (.int .u64 (q'.n 4))).setCell ⟨w.heap.size, 5, none⟩ (.int .u64 (q'.n 5))).setCell ⟨w.heap.size, 6, none⟩ (.int .u64 (q'.n 6))).setCell ⟨w.heap.size, 7, none⟩ (.int .u64 (q'.n 7))).setCell ⟨w.heap.size, 8, none⟩ (.int .u64 (q'.n 8))).setCell ⟨w.heap.size, 9, none⟩ (.int .u64 (q'.n 9))) = w5 at *
        go_wp2_with fail
        go_roundw
        case rel => exact ⟨k + 1, by omega, by go_num, O7.out, by rw [hq']; exact R6.out, RZ6.out, RC6.out⟩
        case measure => simp [intOf]; omega
    · have e : k = 10 := by omega
      subst e
      have E := Lib.hid (a.half_all b)
      generalize a.half b 10 = s at *
      obtain ⟨c0, c1, c2, c3, c4, c5, c6, c7, c8, c9⟩ := RA.out.ten
      obtain ⟨d0, d1, d2, d3, d4, d5, d6, d7, d8, d9⟩ := RZ.out.ten
      have zf := RZ.out.frozen
      go_wp2_with fail
      have R6 := RZ.out.put_ten (.int .u64 (s.n 0)) (.int .u64 (s.n 1)) (.int .u64 (s.n 2)) (.int .u64 (s.n 3)) (.int .u64 (s.n 4)) (.int .u64 (s.n 5)) (.int .u64 (s.n 6)) (.int .u64 (s.n 7)) (.int .u64 (s.n 8)) (.int .u64 (s.n 9))
      have O6 := only_ten wr z (s.n 0) (s.n 1) (s.n 2) (s.n 3) (s.n 4) (s.n 5) (s.n 6) (s.n 7) (s.n 8) (s.n 9)
      have O7 := Lib.hid (O.out.trans (O6.more (S' := fun k => w.heap.size ≤ k) (fun _ _ e => by rw [e]; exact nz)) (fun i hi s => absurd hi (by omega)))
      clear O6
      generalize ((((((((((wr.setCell ⟨z, 0, none⟩ (.int .u64 (s.n 0))).setCell ⟨z, 1, none⟩ (.int .u64 (s.n 1))).setCell ⟨z, 2, none⟩ (.int .u64 (s.n 2))).setCell ⟨z, 3, none⟩ (.int .u64 (s.n 3))).setCell ⟨z, 4, none⟩ (.int .u64 (s.n 4))).setCell ⟨z, 5, none⟩ (.int .u64 (s.n 5))).setCell ⟨z, 6, none⟩ (.int .u64 (s.n 6))).setCell ⟨z, 7, none⟩ (.int .u64 (s.n 7))).setCell ⟨z, 8, none⟩ (.int .u64 (s.n 8))).setCell ⟨z, 9, none⟩ (.int .u64 (s.n 9))) = w6 at *
      obtain ⟨g0, g1, g2, g3, g4, g5, g6, g7, g8, g9⟩ := R6.ten
      exact bodyPost_ret (v := s.val) (by simp [results, Try.results18, go_sem, g0, g1, g2, g3, g4, g5, g6, g7, g8, g9]) rfl ⟨by rw [E.out], O7.out⟩


set_option maxHeartbeats 1000000 in
theorem risheld_any (t : Ta) (w : World) : Calls Try.prog 14 #[t.val] w fun e w' => e = .returned (.bool t.isHeld) ∧ Only none_ w w' := by
  have OF := Lib.hid (fun w => rcounts_any t w)
  go_enter Try.func14, Try.ntmps14
  go_wp2_with fail
  go_wp2_with fail
  (with_reducible refine (OF.out _).mono ?_)
  rintro e w1 ⟨rfl, o1⟩
  have O1 := Lib.hid (((Only.refl none_ w).alloc _).same o1)
  clear o1 OF
  go_wp2_with fail
  go_loopw [4] (fun i wr => ∃ k : Nat, k ≤ 10 ∧ i = .int .i64 k ∧ Only none_ w wr ∧ Row wr w1.heap.size 31 t.cs ∧ ∀ j, j < k → t.n j ≠ 18446744073709551615) (fun i _ => 10 - (intOf i).toNat)
  case atStart => exact ⟨0, by omega, rfl, O1.out.alloc _, Row.fresh _ _ _, fun j hj => absurd hj (by omega)⟩
  case round =>
    obtain ⟨k, hk, rfl, o, rc, hn⟩ := hrel
    have O := Lib.hid o
    have RC := Lib.hid rc
    have N := Lib.hid hn
    clear o hn rc
    by_cases hlt : k < 10
    · have Y := Lib.hid (fun h => Ta.held_yes (t := t) hlt h)
      have cb := (RC.out.cell k).trans (Ta.cs_get t k hlt)
      have lw := RC.out.lt
      generalize hx : t.n k = x at *
      by_cases hm : x = 18446744073709551615
      · have H := Lib.hid (Y.out hm)
        subst hm
        clear Y
        go_wp2_with fail
        go_ret
        exact ⟨by rw [H.out]; rfl, O.out⟩
      · have hm' : ¬ (x : Int) = 18446744073709551615 := by omega
        clear Y
        go_wp2_with fail
        go_roundw
        case rel => exact ⟨k + 1, by omega, by go_num, O.out, RC.out, fun j hj => by
          by_cases e : j = k
          · rw [e, hx]; exact hm
          · exact N.out j (by omega)⟩
        case measure => simp [intOf]; omega
    · have e : k = 10 := by omega
      subst e
      have H := Lib.hid (Ta.held_not N.out)
      go_wp2_with fail
      go_ret
      exact ⟨by rw [H.out]; rfl, O.out⟩

end Go.Proofs.Ytofmbipedljdkaa
