/- What taking a frame comes to. -/
import Derived.Test.YtllbdkjbcadeoaaPoolC
namespace Go.Proofs.Ytllbdkjbcadeoaa
open Go.RowKit
set_option linter.unusedVariables false

/-- the least free frame; as many as there are, if none is -/
def least : List Fr → Nat
  | [] => 0
  | f :: fs => if f.st = 0 then 0 else least fs + 1
theorem ret_int {k : IntKind} {a b : Int} (h : a = b) : Ending.returned (.int k a) = .returned (.int k b) := by rw [h]
theorem least_le (fs : List Fr) : least fs ≤ fs.length := by
  induction fs with
  | nil => exact Nat.le_refl _
  | cons f fs ih => unfold least; simp only [List.length_cons]; split <;> omega
theorem least_is (fs : List Fr) : ∀ i, i < least fs → ∀ f, fs[i]? = some f → ¬ f.st = 0 := by
  induction fs with
  | nil => intro i h; simp [least] at h
  | cons f fs ih =>
    intro i h g hg
    unfold least at h
    split at h
    · omega
    · cases i with
      | zero => simp at hg; subst hg; assumption
      | succ i => simp at hg; exact ih i (by omega) g hg
theorem least_free (fs : List Fr) (f : Fr) (h : fs[least fs]? = some f) : f.st = 0 := by
  induction fs with
  | nil => simp at h
  | cons g fs ih =>
    unfold least at h
    split at h
    · simp at h; subst h; assumption
    · simp at h; exact ih h

/-- what is told of where the least free frame is -/
def found (fs : List Fr) : Int := if least fs < fs.length then (least fs : Int) else -1

set_option maxHeartbeats 1000000 in
theorem index_any (p b : Nat) (fs : List Fr) (w : World) (h : PoolIs w p b fs) :
    Calls Try.prog 32 #[.slice (some ⟨b, 0, none⟩) fs.length fs.length, .func (.func 33) #[] #[]] w fun e w' =>
      e = .returned (.int .i64 (found fs)) ∧ Only none_ w w' := by
  have few := h.few
  have le := least_le fs
  have H := Lib.hid h
  clear h
  go_enter Try.func32, Try.ntmps32
  go_wp2_with fail
  go_loopw [5, 8] (fun j i wr => ∃ k : Nat, k ≤ least fs ∧ i = .int .i64 k ∧ Only none_ w wr) (fun _ i _ => fs.length - (intOf i).toNat)
  case atStart => exact ⟨0, Nat.zero_le _, rfl, Only.refl _ _⟩
  case round =>
    obtain ⟨k, hk, rfl, o⟩ := hrel
    have O := Lib.hid o
    clear o
    by_cases hlt : k < fs.length
    · obtain ⟨f, hf⟩ : ∃ f, fs[k]? = some f := ⟨_, List.getElem?_eq_getElem hlt⟩
      obtain ⟨c0, c1, c2, c3, c4⟩ := (H.out.still O.out).at_ hf
      by_cases hz : f.st = 0
      · have e : k = least fs := by
          rcases Nat.lt_or_ge k (least fs) with q | q
          · exact absurd hz (least_is fs k q f hf)
          · omega
        have ee : found fs = (k : Int) := by unfold found; rw [← e, if_pos hlt]
        have EE := Lib.hid ee
        have B := free_any f wr
        unfold Fr.agg at B
        rw [show (f.st == 0) = true by simpa using hz] at B
        have B := Lib.hid B
        clear hf hz e ee hk le
        go_wp2_with fail
        (with_reducible refine (B.out).mono ?_)
        rintro e w1 ⟨rfl, o1⟩
        have O1 := Lib.hid (O.out.same o1)
        clear o1
        go_wp2_with fail
        go_ret
        exact ⟨ret_int EE.out.symm, O1.out⟩
      · have hk' : k + 1 ≤ least fs := by
          rcases Nat.lt_or_ge k (least fs) with q | q
          · exact q
          · have e : k = least fs := by omega
            subst e
            exact absurd (least_free fs f hf) hz
        have B := free_any f wr
        unfold Fr.agg at B
        rw [show (f.st == 0) = false by simpa using hz] at B
        have B := Lib.hid B
        clear hf hz hk le
        go_wp2_with fail
        (with_reducible refine (B.out).mono ?_)
        rintro e w1 ⟨rfl, o1⟩
        have O1 := Lib.hid (O.out.same o1)
        clear o1
        go_wp2_with fail
        go_roundw
        case rel => exact ⟨k + 1, hk', by go_num, O1.out⟩
        case measure => simp [intOf]; omega
    · have e : k = fs.length := by omega
      have ee : found fs = -1 := by unfold found; rw [if_neg (by omega)]
      have EE := Lib.hid ee
      subst e
      clear ee
      go_wp2_with fail
      go_ret
      exact ⟨ret_int EE.out.symm, O.out⟩

theorem take1_arg (p b q r s : Nat) (n : Int) (w : World) (hr : Var w r (.int .i64 n)) (hn : n < 0) :
    Calls Try.prog 31 #[.pointer (some ⟨r, 0, none⟩), .pointer (some ⟨q, 0, none⟩), .pointer (some ⟨s, 0, none⟩)] w fun e w' => e = left 1 ∧ w = w' := by
  have t : decide (0 ≤ n) = false := by simpa using hn
  clear hn
  go_enter Try.func31, Try.ntmps31
  go_wp2_with fail
  (with_reducible refine (unless_no _ _).mono ?_)
  rintro e w' ⟨rfl, rfl⟩
  go_wp2_with fail
  exact ⟨rfl, rfl, rfl⟩
theorem take1_full (p b q r s : Nat) (fs : List Fr) (n : Int) (w : World) (h : PoolIs w p b fs) (hq : Var w q (.pointer (some ⟨p, 0, none⟩))) (hr : Var w r (.int .i64 n)) (hn : 0 ≤ n) (hl : least fs = fs.length) :
    Calls Try.prog 31 #[.pointer (some ⟨r, 0, none⟩), .pointer (some ⟨q, 0, none⟩), .pointer (some ⟨s, 0, none⟩)] w fun e w' => e = left 2 ∧ Only none_ w w' := by
  have t : decide (0 ≤ n) = true := by simpa using hn
  have c := h.hd
  have A := index_any p b fs w h
  rw [show found fs = -1 by unfold found; rw [if_neg (by omega)]] at A
  have A := Lib.hid A
  clear hn hl h
  go_enter Try.func31, Try.ntmps31
  go_wp2_with fail
  (with_reducible refine (unless_yes _ _).mono ?_)
  rintro e w' ⟨rfl, rfl⟩
  go_wp2_with fail
  (with_reducible refine (A.out).mono ?_)
  rintro e w1 ⟨rfl, o1⟩
  have O := Lib.hid o1
  clear o1
  go_wp2_with fail
  go_wp2_with fail
  (with_reducible refine (unless_no _ _).mono ?_)
  rintro e w' ⟨rfl, rfl⟩
  go_wp2_with fail
  exact ⟨rfl, rfl, O.out⟩
theorem take1_yes (p b q r s : Nat) (fs : List Fr) (n : Int) (f : Fr) (w : World) (h : PoolIs w p b fs) (hq : Var w q (.pointer (some ⟨p, 0, none⟩))) (hr : Var w r (.int .i64 n)) (hs : Row w s 3 #[.int .i64 0]) (hsb : s ≠ b) (hsp : s ≠ p) (hn : 0 ≤ n) (hf : fs[least fs]? = some f) (hg0 : 0 ≤ f.gen) (hg1 : f.gen ≤ 1000000) :
    Calls Try.prog 31 #[.pointer (some ⟨r, 0, none⟩), .pointer (some ⟨q, 0, none⟩), .pointer (some ⟨s, 0, none⟩)] w fun e w' => e = .returned (.tuple #[]) ∧ PoolIs w' p b (fs.set (least fs) ⟨1, n, f.gen + 1, 0, 0⟩) ∧ Row w' s 3 #[.int .i64 (least fs)] ∧ Only (fun k => k = b ∨ k = s) w w' := by
  have t : decide (0 ≤ n) = true := by simpa using hn
  have lt := lt_of_get hf
  have c := h.hd
  have A := index_any p b fs w h
  rw [show found fs = (least fs : Int) by unfold found; rw [if_pos lt]] at A
  have few := h.few
  generalize least fs = i at *
  have A := Lib.hid A
  have HF := Lib.hid hf
  have H := Lib.hid h
  have HS := Lib.hid hs
  clear hf h hn hs
  go_enter Try.func31, Try.ntmps31
  go_wp2_with fail
  (with_reducible refine (unless_yes _ _).mono ?_)
  rintro e w' ⟨rfl, rfl⟩
  go_wp2_with fail
  (with_reducible refine (A.out).mono ?_)
  rintro e w1 ⟨rfl, o1⟩
  have hq1 := o1.cell hq (fun s => s)
  have hr1 := o1.cell hr (fun s => s)
  clear hq hr c
  have H1 := Lib.hid (H.out.still o1)
  have HS1 := Lib.hid (o1.still HS.out)
  have c := H1.out.hd
  obtain ⟨c0, c1, c2, c3, c4⟩ := H1.out.at_ HF.out
  have z := H1.out.fz
  have O := Lib.hid o1
  clear o1
  go_wp2_with fail
  (with_reducible refine (unless_yes _ _).mono ?_)
  rintro e w' ⟨rfl, rfl⟩
  go_wp2_with fail
  have d0 : w1.cell? ⟨s, 0, none⟩ = some (.int .i64 0) := by rw [HS1.out.cell]; rfl
  have d1 := HS1.out.frozen 0
  have hbs : b ≠ s := fun e => hsb e.symm
  go_region
  go_wp2_with fail
  go_end0
  have hs5 := (((((HS1.out.far (p := ⟨b, i * 5, none⟩) hsb (.int .i64 1)).far (p := ⟨b, i * 5 + 1, none⟩) hsb (.int .i64 n)).far (p := ⟨b, i * 5 + 2, none⟩) hsb (.int .i64 (f.gen + 1))).far (p := ⟨b, i * 5 + 3, none⟩) hsb (.int .i64 0)).far (p := ⟨b, i * 5 + 4, none⟩) hsb (.int .u64 0)).put 0 (.int .i64 i)
  have h5 := (H1.out.store HF.out ⟨1, n, f.gen + 1, 0, 0⟩).far (a := ⟨s, 0, none⟩) (fun e => hsp e.symm) hbs (.int .i64 i)
  refine ⟨rfl, h5.drew, hs5.drew, ?_⟩
  refine Only.drew ?_
  iterate 6 refine Only.into ?_ (by simp) _ _
  exact O.out.more (fun _ _ s => s.elim)
end Go.Proofs.Ytllbdkjbcadeoaa
