/- What the document's own pool answers. -/
import Derived.Test.YtllbdkjbcadeoaaPoolL
namespace Go.Proofs.Ytllbdkjbcadeoaa
open Go.RowKit
set_option linter.unusedVariables false

theorem refNew (n : Nat) (w : World) (h64 : n ≤ 64) :
    Calls Try.prog 10 #[.int .i64 n] w fun e w' => e = .returned (.pointer (some ⟨w.heap.size + 1, 0, none⟩)) ∧ RefIs w' (w.heap.size + 1) w.heap.size (fresh n) ∧ Only none_ w w' := by
  obtain ⟨i0, hi, hz0, hz1, hz2⟩ := info_parts info_frame
  have hmk := fun w => run_make_flat (P := Try.prog) (c := Fr.cells) ⟨0, 0, 0, 0, 0⟩ fr5 (by decide) 41 38 i0 _ Try.underlying41 hi hz0 hz1 rfl .i64 .i64 n (by rw [hz2]; omega) (by omega) w
  clear hi hz0 hz1 hz2
  go_enter Try.func10, Try.ntmps10
  go_wp2_with fail
  go_ret
  have a1 := Row.fresh w 38 (flat Fr.cells (fresh n))
  have a2 := Row.fresh (w.alloc (.cells (flat Fr.cells (fresh n)) 38)) 43 #[.slice (some ⟨w.heap.size, 0, none⟩) n n]
  simp only [World.size_alloc] at a1 a2
  refine ⟨rfl, ⟨?_, a1.alloc _, ?_, by omega⟩, ((Only.refl _ _).alloc _).alloc _⟩
  · rw [show (fresh n).length = n by simp [fresh]]
    exact a2
  · simpa [fresh] using h64

theorem refHeld_out (p b : Nat) (fs : List Fr) (i g : Int) (w : World) (h : RefIs w p b fs) (hi : i < 0 ∨ (fs.length : Int) ≤ i) :
    Calls Try.prog 43 #[.pointer (some ⟨p, 0, none⟩), .int .i64 i, .int .i64 g] w fun e w' => e = .returned (.int .i64 1) ∧ w = w' := by
  have c := h.hd
  have few := h.few
  by_cases k : i < 0
  · have k' : decide (i < 0) = true := by simpa using k
    clear hi
    go_enter Try.func43, Try.ntmps43
    go_wp2
    go_ret
    exact ⟨rfl, rfl⟩
  · have k' : decide (i < 0) = false := by simpa using k
    have k1 : 0 ≤ i := by omega
    have k2 : (fs.length : Int) ≤ i := by omega
    clear hi k
    go_enter Try.func43, Try.ntmps43
    go_wp2
    go_ret
    exact ⟨rfl, rfl⟩
theorem refHeld_in (p b : Nat) (fs : List Fr) (i : Nat) (f : Fr) (g : Int) (w : World) (h : RefIs w p b fs) (hf : fs[i]? = some f) (r : Int) (hr : r = if f.st = 0 ∨ f.gen ≠ g then 3 else 0) :
    Calls Try.prog 43 #[.pointer (some ⟨p, 0, none⟩), .int .i64 i, .int .i64 g] w fun e w' => e = .returned (.int .i64 r) ∧ w = w' := by
  have c := h.hd
  have few := h.few
  have lt := lt_of_get hf
  obtain ⟨c0, c1, c2, c3, c4⟩ := h.at_ hf
  clear h hf
  have k' : decide ((i : Int) < 0) = false := by simp
  by_cases h0 : f.st = 0
  · rw [if_pos (.inl h0)] at hr
    have t : (f.st == 0) = true := by simpa using h0
    subst hr
    clear h0
    go_enter Try.func43, Try.ntmps43
    go_wp2
    go_ret
    exact ⟨rfl, rfl⟩
  · have t : (f.st == 0) = false := by simpa using h0
    by_cases hg : f.gen = g
    · rw [if_neg (by rintro (e | e); exact h0 e; exact e hg)] at hr
      have t2 : (f.gen != g) = false := by simpa using hg
      subst hr
      clear h0 hg
      go_enter Try.func43, Try.ntmps43
      go_wp2
      go_ret
      exact ⟨rfl, rfl⟩
    · rw [if_pos (.inr hg)] at hr
      have t2 : (f.gen != g) = true := by simpa using hg
      subst hr
      clear h0 hg
      go_enter Try.func43, Try.ntmps43
      go_wp2
      go_ret
      exact ⟨rfl, rfl⟩
theorem refFree (p b : Nat) (fs : List Fr) (i : Nat) (f : Fr) (w : World) (h : RefIs w p b fs) (hf : fs[i]? = some f) :
    Calls Try.prog 44 #[.pointer (some ⟨p, 0, none⟩), .int .i64 i] w fun e w' => e = .returned (.tuple #[]) ∧ RefIs w' p b (fs.set i f.freed) ∧ Only (fun k => k = b) w w' := by
  have c := h.hd
  have few := h.few
  have lt := lt_of_get hf
  have z := h.fz
  obtain ⟨c0, c1, c2, c3, c4⟩ := h.at_ hf
  have H := Lib.hid h
  have HF := Lib.hid hf
  clear h hf
  go_enter Try.func44, Try.ntmps44
  go_wp2_with fail
  go_region
  go_end0
  have h5 := H.out.store HF.out f.freed
  refine ⟨rfl, h5.drew, ?_⟩
  refine Only.drew ?_
  iterate 5 refine Only.into (S := fun k => k = b) ?_ rfl _ _
  exact Only.refl _ _

theorem refPin (p b : Nat) (fs : List Fr) (i g : Int) (w : World) (h : RefIs w p b fs) (hF : Fine 1000000 fs) :
    Calls Try.prog 27 #[.pointer (some ⟨p, 0, none⟩), .int .i64 i, .int .i64 g] w fun e w' => e = .returned (.int .i64 (pinS fs i g).1) ∧ RefIs w' p b (pinS fs i g).2 ∧ Only (fun k => k = b) w w' := by
  have c := h.hd
  have few := h.few
  unfold pinS
  cases hf : at? fs i with
  | none =>
    have A := Lib.hid (refHeld_out p b fs i g w h (at_none hf))
    have H := Lib.hid h
    clear h hF hf
    go_enter Try.func27, Try.ntmps27
    go_wp2_with fail
    (with_reducible refine (A.out).mono ?_)
    rintro e w' ⟨rfl, rfl⟩
    go_wp2_with fail
    go_ret
    exact ⟨rfl, H.out, Only.refl _ _⟩
  | some f =>
    obtain ⟨k, rfl, hk⟩ := at_some hf
    have ff := hF f (List.mem_of_getElem? hk)
    have p0 := ff.p0
    have p1 := ff.p1
    have s0 := ff.s0
    have s1 := ff.s1
    have lt := lt_of_get hk
    obtain ⟨c0, c1, c2, c3, c4⟩ := h.at_ hk
    have z := h.fz
    have H := Lib.hid h
    have HK := Lib.hid hk
    simp only [Int.toNat_natCast]
    by_cases n : f.st = 0 ∨ f.gen ≠ g
    · have A := Lib.hid (refHeld_in p b fs k f g w h hk 3 (by rw [if_pos n]))
      rw [if_pos n]
      clear h hF hf ff hk n
      go_enter Try.func27, Try.ntmps27
      go_wp2_with fail
      (with_reducible refine (A.out).mono ?_)
      rintro e w' ⟨rfl, rfl⟩
      go_wp2_with fail
      go_ret
      exact ⟨rfl, H.out, Only.refl _ _⟩
    · have A := Lib.hid (refHeld_in p b fs k f g w h hk 0 (by rw [if_neg n]))
      rw [if_neg n]
      by_cases e : f.st = 3
      · have t : (f.st == 3) = true := by simpa using e
        rw [if_neg (by rw [e]; decide)]
        clear h hF hf ff hk n e
        go_enter Try.func27, Try.ntmps27
        go_wp2_with fail
        (with_reducible refine (A.out).mono ?_)
        rintro e w' ⟨rfl, rfl⟩
        go_wp2_with fail
        go_ret
        exact ⟨rfl, H.out, Only.refl _ _⟩
      · have t : (f.st == 3) = false := by simpa using e
        have n1 : ¬ f.st = 0 := fun e => n (.inl e)
        rw [if_pos (by simp; omega)]
        clear h hF hf ff hk n e n1
        go_enter Try.func27, Try.ntmps27
        go_wp2_with fail
        (with_reducible refine (A.out).mono ?_)
        rintro e w' ⟨rfl, rfl⟩
        go_wp2_with fail
        go_ret
        exact ⟨rfl, H.out.set (j := 3) HK.out (by decide) rfl, (Only.refl (fun k => k = b) w).into rfl _ _⟩

theorem refUnpin (p b : Nat) (fs : List Fr) (i g : Int) (w : World) (h : RefIs w p b fs) (hF : Fine 1000000 fs) :
    Calls Try.prog 28 #[.pointer (some ⟨p, 0, none⟩), .int .i64 i, .int .i64 g] w fun e w' => e = .returned (.int .i64 (unpinS fs i g).1) ∧ RefIs w' p b (unpinS fs i g).2 ∧ Only (fun k => k = b) w w' := by
  have c := h.hd
  have few := h.few
  unfold unpinS
  cases hf : at? fs i with
  | none =>
    have A := Lib.hid (refHeld_out p b fs i g w h (at_none hf))
    have H := Lib.hid h
    clear h hF hf
    go_enter Try.func28, Try.ntmps28
    go_wp2_with fail
    (with_reducible refine (A.out).mono ?_)
    rintro e w' ⟨rfl, rfl⟩
    go_wp2_with fail
    go_ret
    exact ⟨rfl, H.out, Only.refl _ _⟩
  | some f =>
    obtain ⟨k, rfl, hk⟩ := at_some hf
    have ff := hF f (List.mem_of_getElem? hk)
    have p0 := ff.p0
    have p1 := ff.p1
    have lt := lt_of_get hk
    obtain ⟨c0, c1, c2, c3, c4⟩ := h.at_ hk
    have z := h.fz
    have H := Lib.hid h
    have HK := Lib.hid hk
    simp only [Int.toNat_natCast]
    by_cases n : f.st = 0 ∨ f.gen ≠ g
    · have A := Lib.hid (refHeld_in p b fs k f g w h hk 3 (by rw [if_pos n]))
      rw [if_pos n]
      clear h hF hf ff hk n
      go_enter Try.func28, Try.ntmps28
      go_wp2_with fail
      (with_reducible refine (A.out).mono ?_)
      rintro e w' ⟨rfl, rfl⟩
      go_wp2_with fail
      go_ret
      exact ⟨rfl, H.out, Only.refl _ _⟩
    · have A := Lib.hid (refHeld_in p b fs k f g w h hk 0 (by rw [if_neg n]))
      rw [if_neg n]
      by_cases e : f.pins = 0
      · have t : (f.pins == 0) = true := by simpa using e
        rw [if_neg (by omega)]
        clear h hF hf ff hk n e
        go_enter Try.func28, Try.ntmps28
        go_wp2_with fail
        (with_reducible refine (A.out).mono ?_)
        rintro e w' ⟨rfl, rfl⟩
        go_wp2_with fail
        go_ret
        exact ⟨rfl, H.out, Only.refl _ _⟩
      · have t : (f.pins == 0) = false := by simpa using e
        rw [if_pos (by omega)]
        have q0 : 0 < f.pins := by omega
        have H2 := Lib.hid (H.out.set (j := 3) (v := .int .i64 (f.pins - 1)) (f' := { f with pins := f.pins - 1 }) HK.out (by decide) rfl)
        have O2 := Lib.hid ((Only.refl (fun k => k = b) w).into rfl (k * 5 + 3) (.int .i64 (f.pins - 1)))
        by_cases u : f.st = 3 ∧ f.pins = 1
        · have t2 : (f.pins - 1 == 0) = true := by simp; omega
          have t3 : (f.st == 3) = true := by simpa using u.1
          have L := refFree p b _ k { f with pins := f.pins - 1 } _ H2.out (get_set HK.out)
          rw [List.set_set] at L
          have L := Lib.hid L
          have U := Lib.hid (show f.unpinned = f.freed by unfold Fr.unpinned; rw [if_pos u])
          clear h hF hf ff hk n e u
          go_enter Try.func28, Try.ntmps28
          go_wp2_with fail
          (with_reducible refine (A.out).mono ?_)
          rintro e w' ⟨rfl, rfl⟩
          go_wp2_with fail
          (with_reducible refine (L.out).mono ?_)
          rintro e w1 ⟨rfl, h1, o1⟩
          have H3 := Lib.hid h1
          have O3 := Lib.hid (O2.out.same o1)
          clear h1 o1
          go_wp2_with fail
          go_ret
          exact ⟨rfl, by rw [U.out]; exact H3.out, O3.out⟩
        · have U := Lib.hid (show f.unpinned = { f with pins := f.pins - 1 } by unfold Fr.unpinned; rw [if_neg u])
          by_cases v : f.pins = 1
          · have t2 : (f.pins - 1 == 0) = true := by simp; omega
            have t3 : (f.st == 3) = false := by simpa using fun e => u ⟨e, v⟩
            clear h hF hf ff hk n e u v
            go_enter Try.func28, Try.ntmps28
            go_wp2_with fail
            (with_reducible refine (A.out).mono ?_)
            rintro e w' ⟨rfl, rfl⟩
            go_wp2_with fail
            go_ret
            exact ⟨rfl, by rw [U.out]; exact H2.out, O2.out⟩
          · have t2 : (f.pins - 1 == 0) = false := by simp; omega
            clear h hF hf ff hk n e u v
            go_enter Try.func28, Try.ntmps28
            go_wp2_with fail
            (with_reducible refine (A.out).mono ?_)
            rintro e w' ⟨rfl, rfl⟩
            go_wp2_with fail
            go_ret
            exact ⟨rfl, by rw [U.out]; exact H2.out, O2.out⟩
end Go.Proofs.Ytllbdkjbcadeoaa
