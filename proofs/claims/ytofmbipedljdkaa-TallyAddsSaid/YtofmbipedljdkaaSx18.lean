/- A count is more, of a number that there is. -/
import Derived.Test.YtofmbipedljdkaaSw18
import Derived.Deep.MidRow
namespace Go.Proofs.Ytofmbipedljdkaa
open Go.RowKit
set_option linter.unusedVariables false

theorem range_ten {w : World} {g : Nat} {t : TypeId} {l : List Value} (h : Row w g t l.toArray) : w.rangeAt g 0 l := fun j v hv => by
  rw [Nat.zero_add, h.cell]
  simpa using hv
set_option maxHeartbeats 2000000 in
theorem add_in (t : Ta) (ht : t.Wf) (k : Nat) (n : Nat) (hk : k < 10) (hn : n < 18446744073709551616) (w : World) : Calls Try.prog 9 #[t.val, .int .i64 k, .int .u64 n] w fun e w' => e = .returned (.tuple #[(t.sum (.one k n)).val, .int .i64 0]) ∧ Only none_ w w' := by
  obtain ⟨w0, hw0⟩ : ∃ w0, w0 = ((w.alloc (.cells t.cs 24)).alloc (.cells noughts 24)).alloc (.cells noughts 45) := ⟨_, rfl⟩
  have o0 : Only none_ w w0 := by rw [hw0]; exact (((Only.refl none_ w).alloc _).alloc _).alloc _
  have ra : Row w0 w.heap.size 24 t.cs := by rw [hw0]; exact ((Row.fresh w _ _).alloc _).alloc _
  have rz : Row w0 (w.heap.size + 1) 24 noughts := by rw [hw0]; have h := (Row.fresh (w.alloc (.cells t.cs 24)) 24 noughts).alloc (.cells noughts 45); rw [World.size_alloc] at h; exact h
  have rc : Row w0 (w.heap.size + 1 + 1) 45 noughts := by rw [hw0]; have h := Row.fresh ((w.alloc (.cells t.cs 24)).alloc (.cells noughts 24)) 45 noughts; rw [World.size_alloc, World.size_alloc] at h; exact h
  have cz := rc.cell k
  rw [noughts_get k hk] at cz
  have zf := rc.frozen k
  have rc := rc.put k (.int .u64 n)
  rw [Ta.one_cs k n hk] at rc
  have ra := ra.far (p := ⟨w.heap.size + 1 + 1, k, none⟩) (fun e => absurd (show w.heap.size = w.heap.size + 1 + 1 from e) (by omega)) (.int .u64 n)
  have rz := rz.far (p := ⟨w.heap.size + 1 + 1, k, none⟩) (fun e => absurd (show w.heap.size + 1 = w.heap.size + 1 + 1 from e) (by omega)) (.int .u64 n)
  have o0 := o0.new (b := w.heap.size + 1 + 1) (by omega) k (.int .u64 n)
  have nz : w.heap.size ≤ w.heap.size + 1 := by omega
  have h0 : ¬ (k : Int) < 0 := by omega
  have TW := Lib.hid ht
  have OW := Lib.hid (Ta.one_wf (k := k) hn)
  go_enter Try.func9, Try.ntmps9
  go_upto_region 4 with fail
  rw [← hw0]
  clear hw0
  go_upto_region 5 with fail
  generalize w0.setCell ⟨w.heap.size + 1 + 1, k, none⟩ (.int .u64 n) = w1 at *
  clear cz zf
  have O0 := Lib.hid o0
  have RA := Lib.hid ra
  have RZ := Lib.hid rz
  have RC := Lib.hid rc
  clear o0 ra rz rc
  have K := Lib.hid (fun (w' : World) (o : Only none_ w1 w') => And.intro (o.still RA.out).ten (range_ten (o.still RC.out)))
  have Od := Lib.hid ((Only.refl none_ w1).drew)
  have U1 := Try.underlying24
  have U2 := Try.underlying45
  have I1 : (Try.prog.info? 24).map (·.size) = some 10 := by kernel_rfl
  have I2 : (Try.prog.info? 45).map (·.size) = some 10 := by kernel_rfl
  generalize hs : Ta.one k n = s at *
  generalize hz : w.heap.size + 1 = z at *
  go_region_held3 (fun w' => (w'.cell? ⟨w.heap.size, 0, none⟩ = some (.int .u64 (t.n 0)) ∧ w'.cell? ⟨w.heap.size, 1, none⟩ = some (.int .u64 (t.n 1)) ∧ w'.cell? ⟨w.heap.size, 2, none⟩ = some (.int .u64 (t.n 2)) ∧ w'.cell? ⟨w.heap.size, 3, none⟩ = some (.int .u64 (t.n 3)) ∧ w'.cell? ⟨w.heap.size, 4, none⟩ = some (.int .u64 (t.n 4)) ∧ w'.cell? ⟨w.heap.size, 5, none⟩ = some (.int .u64 (t.n 5)) ∧ w'.cell? ⟨w.heap.size, 6, none⟩ = some (.int .u64 (t.n 6)) ∧ w'.cell? ⟨w.heap.size, 7, none⟩ = some (.int .u64 (t.n 7)) ∧ w'.cell? ⟨w.heap.size, 8, none⟩ = some (.int .u64 (t.n 8)) ∧ w'.cell? ⟨w.heap.size, 9, none⟩ = some (.int .u64 (t.n 9))) ∧ w'.rangeAt (z + 1) 0 [.int .u64 (s.n 0), .int .u64 (s.n 1), .int .u64 (s.n 2), .int .u64 (s.n 3), .int .u64 (s.n 4), .int .u64 (s.n 5), .int .u64 (s.n 6), .int .u64 (s.n 7), .int .u64 (s.n 8), .int .u64 (s.n 9)])
    (first
      | (with_reducible exact KX.out)
      | (with_reducible exact K.out _ O3.out)
      | (with_reducible exact K.out _ O2.out)
      | (with_reducible exact K.out _ Od.out)
      | fail)
    (first
      | (go_at_call 20; (with_reducible refine (tally_any s _).mono ?_); rintro e w2 ⟨rfl, o2⟩; have O2 := Lib.hid (Od.out.same o2))
      | (go_at_call 17; (with_reducible refine (sum_any t s TW.out OW.out _).mono ?_); rintro e w3 ⟨rfl, o3⟩; have O3 := Lib.hid (O2.out.same o3); have r3 := O3.out.still RZ.out; obtain ⟨d0, d1, d2, d3, d4, d5, d6, d7, d8, d9⟩ := r3.ten; have zf := r3.frozen; have O6 := only_ten w3 z ((t.sum s).n 0) ((t.sum s).n 1) ((t.sum s).n 2) ((t.sum s).n 3) ((t.sum s).n 4) ((t.sum s).n 5) ((t.sum s).n 6) ((t.sum s).n 7) ((t.sum s).n 8) ((t.sum s).n 9); have KX := Lib.hid (And.intro (O6.row (O3.out.still RA.out) (fun e => absurd (show w.heap.size = z from e) (by omega))).ten (range_ten (O6.row (O3.out.still RC.out) (fun e => absurd (show z + 1 = z from e) (by omega)))))) 
      | fail)
  all_goals (
    rename_i hHeld
    clear hHeld
    generalize hq : t.sum s = q at *
    have O8 := Lib.hid (O0.out.same O3.out)
    go_wp2_with fail
    have R6 := r3.put_ten (.int .u64 (q.n 0)) (.int .u64 (q.n 1)) (.int .u64 (q.n 2)) (.int .u64 (q.n 3)) (.int .u64 (q.n 4)) (.int .u64 (q.n 5)) (.int .u64 (q.n 6)) (.int .u64 (q.n 7)) (.int .u64 (q.n 8)) (.int .u64 (q.n 9))
    have O6 := only_ten w3 z (q.n 0) (q.n 1) (q.n 2) (q.n 3) (q.n 4) (q.n 5) (q.n 6) (q.n 7) (q.n 8) (q.n 9)
    have O7 := Lib.hid (O8.out.trans (O6.more (S' := fun k => w.heap.size ≤ k) (fun _ _ e => by rw [e]; exact nz)) (fun i hi s => absurd hi (by omega)))
    clear O6
    generalize ((((((((((w3.setCell ⟨z, 0, none⟩ (.int .u64 (q.n 0))).setCell ⟨z, 1, none⟩ (.int .u64 (q.n 1))).setCell ⟨z, 2, none⟩ (.int .u64 (q.n 2))).setCell ⟨z, 3, none⟩ (.int .u64 (q.n 3))).setCell ⟨z, 4, none⟩ (.int .u64 (q.n 4))).setCell ⟨z, 5, none⟩ (.int .u64 (q.n 5))).setCell ⟨z, 6, none⟩ (.int .u64 (q.n 6))).setCell ⟨z, 7, none⟩ (.int .u64 (q.n 7))).setCell ⟨z, 8, none⟩ (.int .u64 (q.n 8))).setCell ⟨z, 9, none⟩ (.int .u64 (q.n 9))) = w6 at *
    obtain ⟨g0, g1, g2, g3, g4, g5, g6, g7, g8, g9⟩ := R6.ten
    exact bodyPost_ret (v := .tuple #[q.val, .int .i64 0]) (by simp [results, Try.results9, go_sem, g0, g1, g2, g3, g4, g5, g6, g7, g8, g9]) rfl ⟨by rw [hs, hq], O7.out⟩)
end Go.Proofs.Ytofmbipedljdkaa
