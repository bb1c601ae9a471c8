/- A count is more: the code's. No condition but that the counts fit 64 bits. -/
import Derived.Test.YtofmbipedljdkaaSv18
import Derived.Deep.Cut
import Derived.Deep.DeepCutAuto
namespace Go.Proofs.Ytofmbipedljdkaa
open Go.RowKit
set_option linter.unusedVariables false

/-- n of the count of a number, nothing of the others -/
def Ta.one (k n : Nat) : Ta := ⟨fun i => if i = k then n else 0⟩
theorem Ta.one_cs (k n : Nat) (hk : k < 10) : noughts.setIfInBounds k (.int .u64 (n : Nat)) = (Ta.one k n).cs := by
  match k, hk with
  | 0, _ => simp [Ta.one]
  | 1, _ => simp [Ta.one]
  | 2, _ => simp [Ta.one]
  | 3, _ => simp [Ta.one]
  | 4, _ => simp [Ta.one]
  | 5, _ => simp [Ta.one]
  | 6, _ => simp [Ta.one]
  | 7, _ => simp [Ta.one]
  | 8, _ => simp [Ta.one]
  | 9, _ => simp [Ta.one]
theorem noughts_get (k : Nat) (hk : k < 10) : noughts[k]? = some (.int .u64 0) := by
  match k, hk with
  | 0, _ => rfl
  | 1, _ => rfl
  | 2, _ => rfl
  | 3, _ => rfl
  | 4, _ => rfl
  | 5, _ => rfl
  | 6, _ => rfl
  | 7, _ => rfl
  | 8, _ => rfl
  | 9, _ => rfl
theorem Ta.one_wf {k n : Nat} (hn : n < 18446744073709551616) : (Ta.one k n).Wf := fun i => by
  show (if i = k then n else 0) < _
  split <;> omega

set_option maxHeartbeats 2000000 in
theorem add_out (t : Ta) (k : Int) (n : Nat) (hk : k < 0 ∨ 10 ≤ k) (w : World) : Calls Try.prog 9 #[t.val, .int .i64 k, .int .u64 n] w fun e w' => e = .returned (.tuple #[t.val, .int .i64 1]) ∧ Only none_ w w' := by
  obtain ⟨w0, hw0⟩ : ∃ w0, w0 = (w.alloc (.cells t.cs 24)).alloc (.cells noughts 24) := ⟨_, rfl⟩
  have O5 := Lib.hid (show Only none_ w w0 by rw [hw0]; exact ((Only.refl none_ w).alloc _).alloc _)
  have ra : Row w0 w.heap.size 24 t.cs := by rw [hw0]; exact (Row.fresh w _ _).alloc _
  have rz : Row w0 (w.heap.size + 1) 24 noughts := by rw [hw0]; have h := Row.fresh (w.alloc (.cells t.cs 24)) 24 noughts; rw [World.size_alloc] at h; exact h
  have RZ := Lib.hid rz
  obtain ⟨c0, c1, c2, c3, c4, c5, c6, c7, c8, c9⟩ := ra.ten
  obtain ⟨d0, d1, d2, d3, d4, d5, d6, d7, d8, d9⟩ := rz.ten
  have zf := rz.frozen
  have nz : w.heap.size ≤ w.heap.size + 1 := by omega
  clear ra rz
  by_cases hk0 : k < 0
  · clear hk
    go_enter Try.func9, Try.ntmps9
    go_upto_region 1 with fail
    rw [← hw0]
    clear hw0
    generalize w.heap.size + 1 = z at *
    go_wp2_with fail
    have R6 := RZ.out.put_ten (.int .u64 (t.n 0)) (.int .u64 (t.n 1)) (.int .u64 (t.n 2)) (.int .u64 (t.n 3)) (.int .u64 (t.n 4)) (.int .u64 (t.n 5)) (.int .u64 (t.n 6)) (.int .u64 (t.n 7)) (.int .u64 (t.n 8)) (.int .u64 (t.n 9))
    have O6 := only_ten w0 z (t.n 0) (t.n 1) (t.n 2) (t.n 3) (t.n 4) (t.n 5) (t.n 6) (t.n 7) (t.n 8) (t.n 9)
    have O7 := Lib.hid (O5.out.trans (O6.more (S' := fun k => w.heap.size ≤ k) (fun _ _ e => by rw [e]; exact nz)) (fun i hi s => absurd hi (by omega)))
    clear O6
    generalize ((((((((((w0.setCell ⟨z, 0, none⟩ (.int .u64 (t.n 0))).setCell ⟨z, 1, none⟩ (.int .u64 (t.n 1))).setCell ⟨z, 2, none⟩ (.int .u64 (t.n 2))).setCell ⟨z, 3, none⟩ (.int .u64 (t.n 3))).setCell ⟨z, 4, none⟩ (.int .u64 (t.n 4))).setCell ⟨z, 5, none⟩ (.int .u64 (t.n 5))).setCell ⟨z, 6, none⟩ (.int .u64 (t.n 6))).setCell ⟨z, 7, none⟩ (.int .u64 (t.n 7))).setCell ⟨z, 8, none⟩ (.int .u64 (t.n 8))).setCell ⟨z, 9, none⟩ (.int .u64 (t.n 9))) = w6 at *
    obtain ⟨g0, g1, g2, g3, g4, g5, g6, g7, g8, g9⟩ := R6.ten
    exact bodyPost_ret (v := .tuple #[t.val, .int .i64 1]) (by simp [results, Try.results9, go_sem, g0, g1, g2, g3, g4, g5, g6, g7, g8, g9]) rfl ⟨rfl, O7.out⟩
  · have hk : ¬ k < 10 := by omega
    go_enter Try.func9, Try.ntmps9
    go_upto_region 1 with fail
    rw [← hw0]
    clear hw0
    generalize w.heap.size + 1 = z at *
    go_wp2_with fail
    have R6 := RZ.out.put_ten (.int .u64 (t.n 0)) (.int .u64 (t.n 1)) (.int .u64 (t.n 2)) (.int .u64 (t.n 3)) (.int .u64 (t.n 4)) (.int .u64 (t.n 5)) (.int .u64 (t.n 6)) (.int .u64 (t.n 7)) (.int .u64 (t.n 8)) (.int .u64 (t.n 9))
    have O6 := only_ten w0 z (t.n 0) (t.n 1) (t.n 2) (t.n 3) (t.n 4) (t.n 5) (t.n 6) (t.n 7) (t.n 8) (t.n 9)
    have O7 := Lib.hid (O5.out.trans (O6.more (S' := fun k => w.heap.size ≤ k) (fun _ _ e => by rw [e]; exact nz)) (fun i hi s => absurd hi (by omega)))
    clear O6
    generalize ((((((((((w0.setCell ⟨z, 0, none⟩ (.int .u64 (t.n 0))).setCell ⟨z, 1, none⟩ (.int .u64 (t.n 1))).setCell ⟨z, 2, none⟩ (.int .u64 (t.n 2))).setCell ⟨z, 3, none⟩ (.int .u64 (t.n 3))).setCell ⟨z, 4, none⟩ (.int .u64 (t.n 4))).setCell ⟨z, 5, none⟩ (.int .u64 (t.n 5))).setCell ⟨z, 6, none⟩ (.int .u64 (t.n 6))).setCell ⟨z, 7, none⟩ (.int .u64 (t.n 7))).setCell ⟨z, 8, none⟩ (.int .u64 (t.n 8))).setCell ⟨z, 9, none⟩ (.int .u64 (t.n 9))) = w6 at *
    obtain ⟨g0, g1, g2, g3, g4, g5, g6, g7, g8, g9⟩ := R6.ten
    exact bodyPost_ret (v := .tuple #[t.val, .int .i64 1]) (by simp [results, Try.results9, go_sem, g0, g1, g2, g3, g4, g5, g6, g7, g8, g9]) rfl ⟨rfl, O7.out⟩

end Go.Proofs.Ytofmbipedljdkaa
