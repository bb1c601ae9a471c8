/- The sum of two tallies: the code's. No condition but that the counts fit 64 bits. -/
import Derived.Test.YtofmbipedljdkaaSu18
namespace Go.Proofs.Ytofmbipedljdkaa
open Go.RowKit
set_option linter.unusedVariables false

def Ta.sum (a b : Ta) : Ta := ⟨fun i => held (a.n i + b.n i)⟩
theorem Ta.sum_wf (a b : Ta) : (a.sum b).Wf := fun i => held_lt _
theorem Ta.val_congr {a b : Ta} (h : ∀ i, i < 10 → a.n i = b.n i) : a.val = b.val := by
  simp only [Ta.val, h 0 (by omega), h 1 (by omega), h 2 (by omega), h 3 (by omega), h 4 (by omega), h 5 (by omega), h 6 (by omega), h 7 (by omega), h 8 (by omega), h 9 (by omega)]
/-- the counts below k as they are, nothing above -/
def Ta.upto (t : Ta) (k : Nat) : Ta := ⟨fun i => if i < k then t.n i else 0⟩
abbrev Ta.cs (t : Ta) : Array Value := #[.int .u64 (t.n 0), .int .u64 (t.n 1), .int .u64 (t.n 2), .int .u64 (t.n 3), .int .u64 (t.n 4), .int .u64 (t.n 5), .int .u64 (t.n 6), .int .u64 (t.n 7), .int .u64 (t.n 8), .int .u64 (t.n 9)]
theorem Ta.upto_nil (t : Ta) : (t.upto 0).cs = noughts := by simp [Ta.upto]
theorem Ta.upto_all (t : Ta) : (t.upto 10).cs = t.cs := by simp [Ta.upto]
theorem Ta.upto_more (t : Ta) (k : Nat) (hk : k < 10) : (t.upto k).cs.setIfInBounds k (.int .u64 (t.n k)) = (t.upto (k + 1)).cs := by
  match k, hk with
  | 0, _ => simp [Ta.upto]
  | 1, _ => simp [Ta.upto]
  | 2, _ => simp [Ta.upto]
  | 3, _ => simp [Ta.upto]
  | 4, _ => simp [Ta.upto]
  | 5, _ => simp [Ta.upto]
  | 6, _ => simp [Ta.upto]
  | 7, _ => simp [Ta.upto]
  | 8, _ => simp [Ta.upto]
  | 9, _ => simp [Ta.upto]
theorem Ta.cs_get (t : Ta) (k : Nat) (hk : k < 10) : t.cs[k]? = some (.int .u64 (t.n k)) := by
  match k, hk with
  | 0, _ => rfl
  | 1, _ => rfl
  | 2, _ => rfl
  | 3, _ => rfl
  | 4, _ => rfl
  | 5, _ => rfl
  | 6, _ => rfl
  | 7, _ => rfl
  | 8, _ => rfl
  | 9, _ => rfl

set_option maxHeartbeats 2000000 in
theorem sum_any (a b : Ta) (ha : a.Wf) (hb : b.Wf) (w : World) : Calls Try.prog 17 #[a.val, b.val] w fun e w' => e = .returned (a.sum b).val ∧ Only none_ w w' := by
  have hmf : ∀ (fn : Fn) (first cap : Array Value) (w : World), (Instr.makeFunc fn first cap).run Try.prog w = .ok (.func fn first cap) w := fun _ _ _ _ => rfl
  obtain ⟨w0, hw0⟩ : ∃ w0, w0 = ((w.alloc (.cells a.cs 24)).alloc (.cells b.cs 24)).alloc (.cells noughts 24) := ⟨_, rfl⟩
  have o0 : Only none_ w w0 := by rw [hw0]; exact (((Only.refl none_ w).alloc _).alloc _).alloc _
  have ra : Row w0 w.heap.size 24 a.cs := by rw [hw0]; exact ((Row.fresh w _ _).alloc _).alloc _
  have rb : Row w0 (w.heap.size + 1) 24 b.cs := by rw [hw0]; have h := (Row.fresh (w.alloc (.cells a.cs 24)) 24 b.cs).alloc (.cells noughts 24); rw [World.size_alloc] at h; exact h
  have rz : Row w0 (w.heap.size + 1 + 1) 24 noughts := by rw [hw0]; have h := Row.fresh ((w.alloc (.cells a.cs 24)).alloc (.cells b.cs 24)) 24 noughts; rw [World.size_alloc, World.size_alloc] at h; exact h
  have CA := Lib.hid (fun i : After w0 => (i.only.still ra).ten)
  have CB := Lib.hid (fun i : After w0 => (i.only.still rb).ten)
  have OFA := Lib.hid (fun i : After w0 => Calls.after i (of_any a i.val))
  have OFB := Lib.hid (fun i : After w0 => Calls.after i (of_any b i.val))
  have O0 := Lib.hid o0
  have RZ := Lib.hid rz
  clear o0 ra rb rz
  go_enter Try.func17, Try.ntmps17
  go_wp2_with fail
  rw [← hw0]
  clear hw0
  obtain ⟨a0, a1, a2, a3, a4, a5, a6, a7, a8, a9⟩ := (⟨fun i => (CA.out i).1, fun i => (CA.out i).2.1, fun i => (CA.out i).2.2.1, fun i => (CA.out i).2.2.2.1, fun i => (CA.out i).2.2.2.2.1, fun i => (CA.out i).2.2.2.2.2.1, fun i => (CA.out i).2.2.2.2.2.2.1, fun i => (CA.out i).2.2.2.2.2.2.2.1, fun i => (CA.out i).2.2.2.2.2.2.2.2.1, fun i => (CA.out i).2.2.2.2.2.2.2.2.2⟩ : (∀ i : After w0, _) ∧ (∀ i : After w0, _) ∧ (∀ i : After w0, _) ∧ (∀ i : After w0, _) ∧ (∀ i : After w0, _) ∧ (∀ i : After w0, _) ∧ (∀ i : After w0, _) ∧ (∀ i : After w0, _) ∧ (∀ i : After w0, _) ∧ (∀ i : After w0, _))
  obtain ⟨b0, b1, b2, b3, b4, b5, b6, b7, b8, b9⟩ := (⟨fun i => (CB.out i).1, fun i => (CB.out i).2.1, fun i => (CB.out i).2.2.1, fun i => (CB.out i).2.2.2.1, fun i => (CB.out i).2.2.2.2.1, fun i => (CB.out i).2.2.2.2.2.1, fun i => (CB.out i).2.2.2.2.2.2.1, fun i => (CB.out i).2.2.2.2.2.2.2.1, fun i => (CB.out i).2.2.2.2.2.2.2.2.1, fun i => (CB.out i).2.2.2.2.2.2.2.2.2⟩ : (∀ i : After w0, _) ∧ (∀ i : After w0, _) ∧ (∀ i : After w0, _) ∧ (∀ i : After w0, _) ∧ (∀ i : After w0, _) ∧ (∀ i : After w0, _) ∧ (∀ i : After w0, _) ∧ (∀ i : After w0, _) ∧ (∀ i : After w0, _) ∧ (∀ i : After w0, _))
  refine wp_region_after (w0 := w0) (by kernel_rfl) (lex_from lexSum (by kernel_rfl)) (Only.refl _ _) ?_
  repeat (go_big_quiet_step (first | (with_reducible exact OFA.out _) | (with_reducible exact OFB.out _)))
  refine wpQuiet_nil ?_
  intro w1 hw'
  obtain ⟨i1, e1⟩ := hw'
  have o1 := i1.only
  rw [← e1] at o1
  clear e1 i1
  have O1 := Lib.hid (O0.out.same o1)
  have RZ1 := Lib.hid (o1.still RZ.out)
  have L1 := Lib.hid o1.size
  have L0 := Lib.hid O0.out.size
  clear CA CB OFA OFB a0 a1 a2 a3 a4 a5 a6 a7 a8 a9 b0 b1 b2 b3 b4 b5 b6 b7 b8 b9 RZ o1
  generalize hz : w.heap.size + 1 + 1 = z at *
  have nz : w.heap.size ≤ z := by omega
  clear hz
  go_wp2_with fail
  go_loopw [8, 15] (fun _ i wr => ∃ k : Nat, k ≤ 10 ∧ i = .int .i64 k ∧ Only none_ w wr ∧ Row wr z 24 noughts ∧ Row wr w1.heap.size 45 ((a.sum b).upto k).cs) (fun _ i _ => 10 - (intOf i).toNat)
  case atStart => exact ⟨0, by omega, rfl, O1.out.alloc _, RZ1.out.alloc _, by rw [Ta.upto_nil]; exact Row.fresh _ _ _⟩
  case round =>
    obtain ⟨k, hk, rfl, o, rz, rc⟩ := hrel
    have O := Lib.hid o
    have R := Lib.hid rz
    have RC := Lib.hid rc
    clear o rz rc
    by_cases hlt : k < 10
    · have FA := Lib.hid (fun w => find_any a k hlt w)
      have FB := Lib.hid (fun w => find_any b k hlt w)
      have AD := Lib.hid (fun w => add_any (a.n k) (b.n k) (ha k) (hb k) w)
      have M := Lib.hid ((a.sum b).upto_more k hlt)
      have lw := RC.out.lt
      have apart : z ≠ w1.heap.size := fun e => by
        have h := R.out.one (e ▸ RC.out)
        exact absurd h.1 (by decide)
      have AP := Lib.hid apart
      clear apart
      go_wp2_with fail
      go_wp2_with fail
      (with_reducible refine (FA.out _).mono ?_)
      rintro e w2 ⟨rfl, o2⟩
      have O2 := Lib.hid o2
      clear o2
      go_wp2_with fail
      (with_reducible refine (FB.out _).mono ?_)
      rintro e w3 ⟨rfl, o3⟩
      have O3 := Lib.hid (O2.out.same o3)
      have RC3 := Lib.hid (O3.out.still RC.out)
      clear o3 O2
      have c0 := RC3.out.cell k
      rw [Ta.cs_get _ _ hlt] at c0
      have zf := RC3.out.frozen k
      go_wp2_with fail
      (with_reducible refine (AD.out _).mono ?_)
      rintro e w4 ⟨rfl, rfl⟩
      go_wp2_with fail
      go_roundw
      case rel =>
        refine ⟨k + 1, by omega, by go_num, (O.out.same O3.out).new (Nat.le_trans L0.out L1.out) _ _, (O3.out.still R.out).far (fun e => AP.out e) _, ?_⟩
        have r := RC3.out.put k (.int .u64 ((a.sum b).n k : Nat))
        rw [M.out] at r
        exact r
      case measure => simp [intOf]; omega
    · have e : k = 10 := by omega
      subst e
      have R2 := RC.out
      rw [Ta.upto_all] at R2
      obtain ⟨c0, c1, c2, c3, c4, c5, c6, c7, c8, c9⟩ := R2.ten
      have TA := Lib.hid (fun w => tally_any (a.sum b) w)
      clear R2
      generalize hs : (a.sum b) = s at *
      go_wp2_with fail
      go_wp2_with fail
      (with_reducible refine (TA.out _).mono ?_)
      rintro e w5 ⟨rfl, o5⟩
      have r5 := o5.still R.out
      obtain ⟨d0, d1, d2, d3, d4, d5, d6, d7, d8, d9⟩ := r5.ten
      have zf := r5.frozen
      have O5 := Lib.hid (O.out.same o5)
      clear o5
      go_wp2_with fail
      have R6 := r5.put_ten (.int .u64 (s.n 0)) (.int .u64 (s.n 1)) (.int .u64 (s.n 2)) (.int .u64 (s.n 3)) (.int .u64 (s.n 4)) (.int .u64 (s.n 5)) (.int .u64 (s.n 6)) (.int .u64 (s.n 7)) (.int .u64 (s.n 8)) (.int .u64 (s.n 9))
      have O6 := only_ten w5 z (s.n 0) (s.n 1) (s.n 2) (s.n 3) (s.n 4) (s.n 5) (s.n 6) (s.n 7) (s.n 8) (s.n 9)
      have O7 := Lib.hid (O5.out.trans (O6.more (S' := fun k => w.heap.size ≤ k) (fun _ _ e => by rw [e]; exact nz)) (fun i hi s => absurd hi (by omega)))
      clear O6
      generalize ((((((((((w5.setCell ⟨z, 0, none⟩ (.int .u64 (s.n 0))).setCell ⟨z, 1, none⟩ (.int .u64 (s.n 1))).setCell ⟨z, 2, none⟩ (.int .u64 (s.n 2))).setCell ⟨z, 3, none⟩ (.int .u64 (s.n 3))).setCell ⟨z, 4, none⟩ (.int .u64 (s.n 4))).setCell ⟨z, 5, none⟩ (.int .u64 (s.n 5))).setCell ⟨z, 6, none⟩ (.int .u64 (s.n 6))).setCell ⟨z, 7, none⟩ (.int .u64 (s.n 7))).setCell ⟨z, 8, none⟩ (.int .u64 (s.n 8))).setCell ⟨z, 9, none⟩ (.int .u64 (s.n 9))) = w6 at *
      obtain ⟨g0, g1, g2, g3, g4, g5, g6, g7, g8, g9⟩ := R6.ten
      exact bodyPost_ret (v := s.val) (by simp [results, Try.results17, go_sem, g0, g1, g2, g3, g4, g5, g6, g7, g8, g9]) rfl ⟨by rw [hs], O7.out⟩
end Go.Proofs.Ytofmbipedljdkaa
