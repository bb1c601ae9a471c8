/- The usual options: both answers. No condition but what each says. -/
import Derived.Test.YtnhcgnmanonmaaaDoorAm
namespace Go.Proofs.YtnhcgnmanonmaaaDoor
open Go.RowKit
set_option linter.unusedVariables false

/-- a whole row into its block -/
theorem Row.whole {w : World} {g : Nat} {t : TypeId} {cs : Array Value} (h : Row w g t cs) (ds : Array Value) : Row (w.setRow g ds) g t ds := setRow_heap w g cs ds t (0, 0) h
theorem Only.whole {S : Nat → Prop} {a w : World} (h : Only S a w) {g : Nat} (hg : g < a.heap.size → S g) (cs : Array Value) : Only S a (w.setRow g cs) :=
  h.trans (S' := fun k => k = g) ⟨rfl, rfl, rfl, by simp, fun k _ hn => setRow_other _ _ _ _ hn⟩ (fun i hi s => by subst s; exact hg hi)
def usual (b : Int) : Opt := ⟨b, 8, 2, 16, 8, 4, 4, 3, 8, 32, 4, 8, 16, 4⟩
def nought : Opt := ⟨0, 0, 0, 0, 0, 0, 0, 0, 0, 0, 0, 0, 0, 0⟩
theorem usual_may (b : Int) (h1 : 1 ≤ b) (h2 : b ≤ 256) : (usual b).mayB = true := decide_eq_true (by simp only [usual, Opt.MayC]; omega)
theorem usual_not (b : Int) (h : b < 1 ∨ 256 < b) : (usual b).mayB = false := decide_eq_false (by simp only [usual, Opt.MayC]; omega)
theorem rusual_any (b : Int) (w : World) : Calls Tryd.prog 12 #[.int .i64 b] w fun e w' => e = .returned (usual b).val ∧ Only none_ w w' := by
  go_enter Tryd.func12, Tryd.ntmps12
  go_wp2
  exact bodyPost_ret (results_opt rfl _ _ w.heap.size (usual b) rfl (Row.fresh w 23 (usual b).cells)) rfl ⟨rfl, (Only.refl none_ w).alloc _⟩
theorem usual_yes (b : Int) (w : World) (hb : Bd w) (h1 : 1 ≤ b) (h2 : b ≤ 256) :
    Calls Tryd.prog 10 #[.int .i64 b] w fun e w' => e = .returned (.tuple #[(usual b).val, .int .i64 0]) ∧ Only none_ w w' := by
  have OM := Lib.hid (fun (w' : World) (o : Bd w') => show Calls Tryd.prog 11 #[(usual b).val] w' (fun e w'' => e = .returned (.int .i64 0) ∧ Only none_ w' w'') from by
    have := opt_may (usual b) w' o
    rw [usual_may b h1 h2] at this
    exact this)
  have HB := Lib.hid hb
  clear hb h1 h2
  unfold usual Opt.val at OM
  dsimp only at OM
  go_enter Tryd.func10, Tryd.ntmps10
  go_wp2_with fail
  obtain ⟨q0, q1, o⟩ : Row ((w.alloc (.cells nought.cells 23)).alloc (.cells (usual b).cells 23)) w.heap.size 23 nought.cells ∧ Row ((w.alloc (.cells nought.cells 23)).alloc (.cells (usual b).cells 23)) (w.heap.size + 1) 23 (usual b).cells ∧ Only none_ w ((w.alloc (.cells nought.cells 23)).alloc (.cells (usual b).cells 23)) := by
    have r1 := Row.fresh (w.alloc (.cells nought.cells 23)) 23 (usual b).cells
    simp only [World.size_alloc] at r1
    exact ⟨(Row.fresh w 23 nought.cells).alloc _, r1, ((Only.refl none_ w).alloc _).alloc _⟩
  simp only [nought, usual, Opt.cells] at q0 q1 o
  have Q0 := Lib.hid q0
  have Q1 := Lib.hid q1
  have O1 := Lib.hid o
  clear q0 q1 o
  (with_reducible refine (OM.out _ (HB.out.still O1.out)).mono ?_)
  rintro e w2 ⟨rfl, o⟩
  have P0 := Lib.hid (o.still Q0.out)
  have P1 := Lib.hid (o.still Q1.out)
  have O2 := Lib.hid (O1.out.same o)
  clear o Q0 Q1 O1 OM HB
  go_wp2_with (first | (refine wpList_load_row rfl 23 _ rfl (w.heap.size + 1) rfl 23 #[.int .i64 b, .int .i64 8, .int .i64 2, .int .i64 16, .int .i64 8, .int .i64 4, .int .i64 4, .int .i64 3, .int .i64 8, .int .i64 32, .int .i64 4, .int .i64 8, .int .i64 16, .int .i64 4] (0, 0) _ P1.out Tryd.underlying23 rfl info_opt ?_) | (refine wpList_store_row rfl 23 _ _ rfl w.heap.size #[.int .i64 b, .int .i64 8, .int .i64 2, .int .i64 16, .int .i64 8, .int .i64 4, .int .i64 4, .int .i64 3, .int .i64 8, .int .i64 32, .int .i64 4, .int .i64 8, .int .i64 16, .int .i64 4] rfl rfl 23 #[.int .i64 0, .int .i64 0, .int .i64 0, .int .i64 0, .int .i64 0, .int .i64 0, .int .i64 0, .int .i64 0, .int .i64 0, .int .i64 0, .int .i64 0, .int .i64 0, .int .i64 0, .int .i64 0] P0.out info_opt rfl (by kernel_rfl) ?_) | fail)
  exact bodyPost_ret (results_opt2 rfl _ _ w.heap.size (usual b) rfl (Row.whole P0.out (usual b).cells)) rfl ⟨rfl, O2.out.whole (fun k => absurd k (Nat.lt_irrefl _)) _⟩
theorem usual_no (b : Int) (w : World) (hb : Bd w) (h : b < 1 ∨ 256 < b) :
    Calls Tryd.prog 10 #[.int .i64 b] w fun e w' => e = .returned (.tuple #[nought.val, .int .i64 1]) ∧ Only none_ w w' := by
  have OM := Lib.hid (fun (w' : World) (o : Bd w') => show Calls Tryd.prog 11 #[(usual b).val] w' (fun e w'' => e = .returned (.int .i64 1) ∧ Only none_ w' w'') from by
    have := opt_may (usual b) w' o
    rw [usual_not b h] at this
    exact this)
  have HB := Lib.hid hb
  clear hb h
  unfold usual Opt.val at OM
  dsimp only at OM
  go_enter Tryd.func10, Tryd.ntmps10
  go_wp2_with fail
  obtain ⟨q0, q1, o⟩ : Row ((w.alloc (.cells nought.cells 23)).alloc (.cells (usual b).cells 23)) w.heap.size 23 nought.cells ∧ Row ((w.alloc (.cells nought.cells 23)).alloc (.cells (usual b).cells 23)) (w.heap.size + 1) 23 (usual b).cells ∧ Only none_ w ((w.alloc (.cells nought.cells 23)).alloc (.cells (usual b).cells 23)) := by
    have r1 := Row.fresh (w.alloc (.cells nought.cells 23)) 23 (usual b).cells
    simp only [World.size_alloc] at r1
    exact ⟨(Row.fresh w 23 nought.cells).alloc _, r1, ((Only.refl none_ w).alloc _).alloc _⟩
  simp only [nought, usual, Opt.cells] at q0 q1 o
  have Q0 := Lib.hid q0
  have O1 := Lib.hid o
  clear q0 q1 o
  (with_reducible refine (OM.out _ (HB.out.still O1.out)).mono ?_)
  rintro e w2 ⟨rfl, o⟩
  have P0 := Lib.hid (o.still Q0.out)
  have O2 := Lib.hid (O1.out.same o)
  clear o Q0 O1 OM HB
  go_wp2_with (first | (refine wpList_store_row rfl 23 _ _ rfl w.heap.size #[.int .i64 0, .int .i64 0, .int .i64 0, .int .i64 0, .int .i64 0, .int .i64 0, .int .i64 0, .int .i64 0, .int .i64 0, .int .i64 0, .int .i64 0, .int .i64 0, .int .i64 0, .int .i64 0] rfl rfl 23 #[.int .i64 0, .int .i64 0, .int .i64 0, .int .i64 0, .int .i64 0, .int .i64 0, .int .i64 0, .int .i64 0, .int .i64 0, .int .i64 0, .int .i64 0, .int .i64 0, .int .i64 0, .int .i64 0] P0.out info_opt rfl (by kernel_rfl) ?_) | fail)
  exact bodyPost_ret (results_opt2 rfl _ _ w.heap.size nought rfl (Row.whole P0.out nought.cells)) rfl ⟨rfl, O2.out.whole (fun k => absurd k (Nat.lt_irrefl _)) _⟩
end Go.Proofs.YtnhcgnmanonmaaaDoor
