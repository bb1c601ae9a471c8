/- Run of package ask, and the document's own Count. No condition but what each says. -/
import Derived.Test.YtnhcgnmanonmaaaDoorAq
namespace Go.Proofs.YtnhcgnmanonmaaaDoor
open Go.RowKit
set_option linter.unusedVariables false

theorem opc_m {b : Int} {o : Opn} (h : opC b o = 0) : (1 ≤ b ∧ b ≤ 256 ∧ o.M) ∧ ¬ o.R b := by
  unfold opC at h
  by_cases q : 1 ≤ b ∧ b ≤ 256 ∧ o.M
  · rw [if_pos q] at h
    by_cases k : o.R b
    · rw [if_pos k] at h; cases h
    · exact ⟨q, k⟩
  · rw [if_neg q] at h; cases h
set_option maxHeartbeats 2000000 in
theorem run_any (o : Opn) (w : World) (hf : -9223372036854775808 ≤ o.first ∧ o.first ≤ 9223372036854775807) :
    Calls Tryd.prog 15 #[o.val] w fun e w' => e = .returned (runV o).val ∧ Only none_ w w' := by
  have OA := Lib.hid (fun w' => op_any 256 o w' hf)
  have BA := Lib.hid (fun (h : opC 256 o = 0) w' => blocks_any o w' (m_bd (opc_m h).1.2.2))
  have VY := Lib.hid (fun (h : opC 256 o = 0) => show runV o = o.rn from if_pos h)
  have VN := Lib.hid (fun (h : ¬ opC 256 o = 0) => show runV o = ⟨0, 0⟩ from if_neg h)
  clear hf
  revert OA BA VY VN
  generalize runV o = v
  generalize opC 256 o = z
  obtain ⟨k, i, f, c, A, l, p, bl⟩ := o
  intro OA BA VY VN
  unfold Opn.val Opn.rn at *
  unfold Rn.val at BA
  dsimp only at *
  obtain ⟨q0, q1, o⟩ : Row ((w.alloc (.cells #[.int .i64 k, .int .i64 i, .int .i64 f, .int .i64 c, .slice A l p, .bool bl] 34)).alloc (.cells #[.int .i64 0, .int .i64 0] 37)) w.heap.size 34 #[.int .i64 k, .int .i64 i, .int .i64 f, .int .i64 c, .slice A l p, .bool bl] ∧
      Row ((w.alloc (.cells #[.int .i64 k, .int .i64 i, .int .i64 f, .int .i64 c, .slice A l p, .bool bl] 34)).alloc (.cells #[.int .i64 0, .int .i64 0] 37)) (w.heap.size + 1) 37 #[.int .i64 0, .int .i64 0] ∧
      Only none_ w ((w.alloc (.cells #[.int .i64 k, .int .i64 i, .int .i64 f, .int .i64 c, .slice A l p, .bool bl] 34)).alloc (.cells #[.int .i64 0, .int .i64 0] 37)) := by
    have r1 := Row.fresh (w.alloc (.cells #[.int .i64 k, .int .i64 i, .int .i64 f, .int .i64 c, .slice A l p, .bool bl] 34)) 37 #[.int .i64 0, .int .i64 0]
    simp only [World.size_alloc] at r1
    exact ⟨(Row.fresh w _ _).alloc _, r1, ((Only.refl none_ w).alloc _).alloc _⟩
  have Q0 := Lib.hid q0
  have Q1 := Lib.hid q1
  have O1 := Lib.hid o
  clear q0 q1 o
  go_enter Tryd.func15, Tryd.ntmps15
  go_wp2_with fail
  (with_reducible refine (OA.out _).mono ?_)
  rintro e w2 ⟨rfl, o⟩
  have P0 := Lib.hid (o.still Q0.out)
  have P1 := Lib.hid (o.still Q1.out)
  have O2 := Lib.hid (O1.out.same o)
  clear o Q0 Q1 O1 OA
  obtain ⟨c0, c1, c2, c3, c4, c5⟩ := P0.out.six
  obtain ⟨r0, r1⟩ := P1.out.two
  have fz0 := P1.out.frozen 0
  have fz1 := P1.out.frozen 1
  by_cases hz : z = 0
  · subst hz
    have V := Lib.hid (VY.out rfl)
    have B := Lib.hid (BA.out rfl)
    clear VY VN BA
    go_wp2_with fail
    (with_reducible refine (B.out _).mono ?_)
    rintro e w3 ⟨rfl, o⟩
    have P3 := Lib.hid (o.still P1.out)
    have O3 := Lib.hid (O2.out.same o)
    clear o P0 P1 O2 B c0 c1 c2 c3 c4 c5 r0 r1 fz0 fz1
    obtain ⟨r0, r1⟩ := P3.out.two
    have fz0 := P3.out.frozen 0
    have fz1 := P3.out.frozen 1
    go_wp2_with fail
    rw [V.out]
    exact bodyPost_ret (results_run rfl _ _ (w.heap.size + 1) ⟨f, c + l⟩ rfl ((P3.out.put 0 _).put 1 _)) rfl ⟨rfl, (O3.out.new (by omega) _ _).new (by omega) _ _⟩
  · have V := Lib.hid (VN.out hz)
    have e0 : (z == 0) = false := by simpa using hz
    clear VY VN BA hz
    go_wp2_with fail
    rw [V.out]
    exact bodyPost_ret (results_run rfl _ _ (w.heap.size + 1) ⟨0, 0⟩ rfl ((P1.out.put 0 _).put 1 _)) rfl ⟨rfl, (O2.out.new (by omega) _ _).new (by omega) _ _⟩
def Opn.n (o : Opn) : Int := if o.kind = 2 then o.len else if o.kind = 1 ∨ o.kind = 3 then o.count else 0
theorem rcount_any (o : Opn) (w : World) (h : o.kind = 1 ∨ o.kind = 2 ∨ o.kind = 3) :
    Calls Tryd.prog 21 #[o.val] w fun e w' => e = .returned (.int .i64 o.n) ∧ Only none_ w w' := by
  obtain ⟨k, i, f, c, A, l, p, bl⟩ := o
  unfold Opn.val
  dsimp only at h ⊢
  rcases h with rfl | rfl | rfl
  all_goals
    go_enter Tryd.func21, Tryd.ntmps21
    go_wp2
    go_ret
    exact ⟨rfl, (Only.refl none_ w).alloc _⟩
end Go.Proofs.YtnhcgnmanonmaaaDoor
