/- The document's own Run. No condition but what each says. -/
import Derived.Test.YtnhcgnmanonmaaaDoorAs
import Derived.Deep.RegionHeld3
namespace Go.Proofs.YtnhcgnmanonmaaaDoor
open Go.RowKit
set_option linter.unusedVariables false

theorem n_rn {o : Opn} (h : o.M) (h3 : o.kind ≤ 3) : (o.kind = 1 ∨ o.kind = 2 ∨ o.kind = 3) ∧ o.n = o.count + o.len := by
  unfold Opn.M at h
  unfold Opn.n
  rcases h with h | h | h | h | h
  · obtain ⟨h1, h2, h4, h5, h6, h7⟩ := h
    rw [h1, h6]
    simp
  · obtain ⟨h1, h2, h4, h5, h6, h7⟩ := h
    rw [h1, h4]
    simp
  · obtain ⟨h1, h2, h4, h5, h6, h7⟩ := h
    rw [h1, h6]
    simp
  · omega
  · omega
theorem rn_big {o : Opn} (h : o.M) (h3 : 3 < o.kind) : o.rn = ⟨0, 0⟩ := by
  unfold Opn.M at h
  unfold Opn.rn
  rcases h with h | h | h | h | h
  · omega
  · omega
  · omega
  · obtain ⟨h1, h2, h4, h5, h6, h7⟩ := h
    rw [h4, h5, h6]
    rfl
  · obtain ⟨h1, h2, h4, h5, h6⟩ := h
    rw [h4, h5, h6]
    rfl
set_option maxHeartbeats 2000000 in
theorem rrun_any (o : Opn) (w : World) (hf : -9223372036854775808 ≤ o.first ∧ o.first ≤ 9223372036854775807) :
    Calls Tryd.prog 16 #[o.val] w fun e w' => e = .returned (runV o).val ∧ Only none_ w w' := by
  have OA := Lib.hid (fun w' => rop_any 256 o w' hf)
  have BA := Lib.hid (fun (h : opC 256 o = 0) (k : o.kind ≤ 3) w' => by
    have q := n_rn (opc_m h).1.2.2 k
    have := rcount_any o w' q.1
    rw [q.2] at this
    exact this)
  have VY := Lib.hid (fun (h : opC 256 o = 0) => show runV o = o.rn from if_pos h)
  have VB := Lib.hid (fun (h : opC 256 o = 0) (k : 3 < o.kind) => show runV o = ⟨0, 0⟩ from (if_pos h).trans (rn_big (opc_m h).1.2.2 k))
  have VN := Lib.hid (fun (h : ¬ opC 256 o = 0) => show runV o = ⟨0, 0⟩ from if_neg h)
  clear hf
  revert OA BA VY VN VB
  generalize runV o = v
  generalize opC 256 o = z
  obtain ⟨k, i, f, c, A, l, p, bl⟩ := o
  intro OA BA VY VB VN
  unfold Opn.val Opn.rn at *
  dsimp only at *
  obtain ⟨q0, q1, o⟩ : Row ((w.alloc (.cells #[.int .i64 k, .int .i64 i, .int .i64 f, .int .i64 c, .slice A l p, .bool bl] 34)).alloc (.cells #[.int .i64 0, .int .i64 0] 37)) w.heap.size 34 #[.int .i64 k, .int .i64 i, .int .i64 f, .int .i64 c, .slice A l p, .bool bl] ∧
      Row ((w.alloc (.cells #[.int .i64 k, .int .i64 i, .int .i64 f, .int .i64 c, .slice A l p, .bool bl] 34)).alloc (.cells #[.int .i64 0, .int .i64 0] 37)) (w.heap.size + 1) 37 #[.int .i64 0, .int .i64 0] ∧
      Only none_ w ((w.alloc (.cells #[.int .i64 k, .int .i64 i, .int .i64 f, .int .i64 c, .slice A l p, .bool bl] 34)).alloc (.cells #[.int .i64 0, .int .i64 0] 37)) := by
    have r1 := Row.fresh (w.alloc (.cells #[.int .i64 k, .int .i64 i, .int .i64 f, .int .i64 c, .slice A l p, .bool bl] 34)) 37 #[.int .i64 0, .int .i64 0]
    simp only [World.size_alloc] at r1
    exact ⟨(Row.fresh w _ _).alloc _, r1, ((Only.refl none_ w).alloc _).alloc _⟩
  have Q0 := Lib.hid q0
  have Q1 := Lib.hid q1
  have O1 := Lib.hid o
  clear q0 q1 o
  go_enter Tryd.func16, Tryd.ntmps16
  go_wp2_with fail
  (with_reducible refine (OA.out _).mono ?_)
  rintro e w2 ⟨rfl, o⟩
  have P0 := Lib.hid (o.still Q0.out)
  have P1 := Lib.hid (o.still Q1.out)
  have O2 := Lib.hid (O1.out.same o)
  clear o Q0 Q1 O1 OA
  obtain ⟨c0, c1, c2, c3, c4, c5⟩ := P0.out.six
  obtain ⟨r0, r1⟩ := P1.out.two
  have fz0 := P1.out.frozen 0
  have fz1 := P1.out.frozen 1
  by_cases hz : z = 0
  · subst hz
    by_cases h3 : k ≤ 3
    · have V := Lib.hid (VY.out rfl)
      have B := Lib.hid (BA.out rfl h3)
      clear VY VN BA VB
      go_wp2_with fail
      clear c0 c1 c2 c3 c4 c5 r0 r1 fz0 fz1
      have D := Lib.hid ((Only.refl none_ w2).drew)
      have SS := Lib.hid (fun (w' : World) (o : Only none_ w2 w') => (o.still P0.out).six)
      have SF := Lib.hid (fun (w' : World) (x y : Value) (o : Only none_ w2 w') => show _ ∧ _ from (((o.still P0.out).far (p := ⟨w.heap.size + 1, 0, none⟩) (by show w.heap.size ≠ w.heap.size + 1; omega) x).far (p := ⟨w.heap.size + 1, 1, none⟩) (by show w.heap.size ≠ w.heap.size + 1; omega) y).six)
      obtain ⟨c0, c1, c2, c3, c4, c5⟩ := SS.out _ D.out
      go_region_held3 (fun w' => w'.cell? ⟨w.heap.size, 0, none⟩ = some (.int .i64 k) ∧ w'.cell? ⟨w.heap.size, 1, none⟩ = some (.int .i64 i) ∧ w'.cell? ⟨w.heap.size, 2, none⟩ = some (.int .i64 f) ∧ w'.cell? ⟨w.heap.size, 3, none⟩ = some (.int .i64 c) ∧ w'.cell? ⟨w.heap.size, 4, none⟩ = some (.slice A l p) ∧ w'.cell? ⟨w.heap.size, 5, none⟩ = some (.bool bl))
        (first
          | (with_reducible exact SS.out _ Q3.out)
          | (with_reducible exact SS.out _ D.out)
          | (with_reducible exact SF.out _ _ _ Q3.out)
          | fail)
        (first
          | (go_at_call 21; (with_reducible refine (B.out _).mono ?_); rintro e u1 ⟨rfl, o1⟩; have Q3 := Lib.hid (D.out.same o1); obtain ⟨r0, r1⟩ := (Q3.out.still P1.out).two; have fz0 := (Q3.out.still P1.out).frozen 0; have fz1 := (Q3.out.still P1.out).frozen 1)
          | fail)
      all_goals
        go_wp2_with fail
      all_goals
        rw [V.out]
        exact bodyPost_ret (results_run rfl _ _ (w.heap.size + 1) ⟨f, c + l⟩ rfl (((Q3.out.still P1.out).put 0 _).put 1 _)) rfl ⟨rfl, ((O2.out.same Q3.out).new (by omega) _ _).new (by omega) _ _⟩
    · have V := Lib.hid (VB.out rfl (by omega))
      clear VY VN BA VB
      go_wp2_with fail
      rw [V.out]
      exact bodyPost_ret (results_run rfl _ _ (w.heap.size + 1) ⟨0, 0⟩ rfl ((P1.out.put 0 _).put 1 _)) rfl ⟨rfl, (O2.out.new (by omega) _ _).new (by omega) _ _⟩
  · have V := Lib.hid (VN.out hz)
    have e0 : (z != 0) = true := by simpa using hz
    clear VY VN BA VB hz
    go_wp2_with fail
    rw [V.out]
    exact bodyPost_ret (results_run rfl _ _ (w.heap.size + 1) ⟨0, 0⟩ rfl ((P1.out.put 0 _).put 1 _)) rfl ⟨rfl, (O2.out.new (by omega) _ _).new (by omega) _ _⟩
end Go.Proofs.YtnhcgnmanonmaaaDoor
