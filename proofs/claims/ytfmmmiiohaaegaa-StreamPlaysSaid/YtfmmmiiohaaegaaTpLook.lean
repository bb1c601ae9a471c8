/- A table of what is expected: a look; all are forgotten. -/
import Derived.Test.YtfmmmiiohaaegaaTpNote
namespace Go.Proofs.Ytfmmmiiohaaegaa
open Go.RowKit Go.Maps
set_option linter.unusedVariables false

/-- behind a look: the count of looks may be one more -/
def Looks8 (p b L size life : Nat) (es : List En) (f c : Int) (w w' : World) : Prop := (∃ L', L ≤ L' ∧ L' ≤ L + 1 ∧ Tb w' p b L' size life (lookT size life es f c)) ∧ Only (two8 p b) w w'

theorem look_no (p b L size life : Nat) (es : List En) (f c : Int) (w : World) (h : Tb w p b L size life es) (hm : mayLook f c = false) :
    Calls Try.prog 45 #[.pointer (some ⟨p, 0, none⟩), .int .i64 f, .int .i64 c] w fun e w' => e = .returned (.tuple #[.bool false, .int .i64 1]) ∧ w = w' := by
  have hm : ¬ (0 ≤ f ∧ f ≤ 1048576 ∧ 1 ≤ c ∧ c ≤ 8) := of_decide_eq_false hm
  clear h
  by_cases h1 : f < 0
  · have d1 : decide (f < 0) = true := by simpa using h1
    clear hm h1
    go_enter Try.func45, Try.ntmps45
    go_wp2
    go_ret2
    exact ⟨rfl, rfl⟩
  · have d1 : decide (f < 0) = false := by simpa using h1
    by_cases h2 : 1048576 < f
    · have d2 : decide (1048576 < f) = true := by simpa using h2
      clear hm h1 h2
      go_enter Try.func45, Try.ntmps45
      go_wp2
      go_ret2
      exact ⟨rfl, rfl⟩
    · have d2 : decide (1048576 < f) = false := by simpa using h2
      by_cases h3 : c < 1
      · have d3 : decide (c < 1) = true := by simpa using h3
        clear hm h1 h2 h3
        go_enter Try.func45, Try.ntmps45
        go_wp2
        go_ret2
        exact ⟨rfl, rfl⟩
      · have d3 : decide (c < 1) = false := by simpa using h3
        have d4 : decide (8 < c) = true := by simp; omega
        clear hm h1 h2 h3
        go_enter Try.func45, Try.ntmps45
        go_wp2
        go_ret2
        exact ⟨rfl, rfl⟩

set_option maxHeartbeats 1000000 in
theorem look_any (p b L size life : Nat) (es : List En) (f c : Int) (w : World) (h : Tb w p b L size life es) (hL : L < 900000) :
    Calls Try.prog 45 #[.pointer (some ⟨p, 0, none⟩), .int .i64 f, .int .i64 c] w fun e w' => e = .returned (.tuple #[.bool (lookB size life es f c), .int .i64 (lookC f c)]) ∧ Looks8 p b L size life es f c w w' := by
  cases hm : mayLook f c with
  | false =>
    refine (look_no p b L size life es f c w h hm).mono ?_
    rintro e w' ⟨rfl, rfl⟩
    refine ⟨by unfold lookB lookC; rw [hm]; rfl, ⟨L, Nat.le_refl _, by omega, ?_⟩, Only.refl _ _⟩
    unfold lookT
    rw [hm]
    exact h
  | true =>
    have hm2 := mayLook_iff.1 hm
    have d1 : decide (f < 0) = false := by simp; omega
    have d2 : decide (1048576 < f) = false := by simp; omega
    have d3 : decide (c < 1) = false := by simp; omega
    have d4 : decide (8 < c) = false := by simp; omega
    have eC : lookC f c = 0 := by unfold lookC; rw [hm]; rfl
    have eT : lookT size life es f c = (lookE size life es f c).1 := by unfold lookT; rw [hm]; rfl
    have eB : lookB size life es f c = (lookE size life es f c).2 := by unfold lookB; rw [hm]; rfl
    have G := Lib.hid (grow_any p b L size life es w h (by omega))
    have ne := h.ne
    have hkey := keyOf_int_mk Try.underlying3 (wf_i f (by omega))
    have fc : wrap64 (f + c) = f + c := by unfold wrap64; omega
    have FC := Lib.hid (show 0 ≤ f + c ∧ f + c ≤ 1048584 by omega)
    rw [eC, eB]
    unfold Looks8
    rw [eT]
    cases hh : hasE (older life es) f with
    | true =>
      have e1 : lookE size life es f c = (cut (older life es) f, true) := by unfold lookE; rw [hh]; rfl
      rw [e1]
      have HH := Lib.hid hh
      clear h hm hm2 eC eT eB hh e1
      go_enter Try.func45, Try.ntmps45
      go_wp2_with fail
      (with_reducible refine (G.out).mono ?_)
      rintro e w1 ⟨rfl, h1, o1⟩
      have O1 := Lib.hid o1
      obtain ⟨r, ⟨D0, hown, hr0⟩, fi⟩ := h1
      have c3 : w1.cell? ⟨p, 3, none⟩ = some (.map (some b)) := by rw [r.cell]; rfl
      have OW := Lib.hid hown
      have HR0 := Lib.hid hr0
      have FI := Lib.hid fi
      have R1 := Lib.hid r
      have q := hr0.1 f
      rw [HH.out] at q
      clear r hown hr0 fi o1
      go_wp2_with (first
        | (at_lookup; refine wpList_lookup_own_ok_int _ rfl _ _ 86 rfl 3 3 .i64 lawI Try.underlying86 Try.underlying3 (zeroI _) b _ D0 rfl OW.out _ _ rfl hkey ?_; intro c1 hat hwc)
        | (at_delete; refine wpList_delete_own _ rfl _ _ 86 3 rfl 3 lawI Try.underlying86 _ b _ D0 rfl OW.out _ _ rfl hkey ?_; intro w2 own2 turn2)
        | go_in)
      go_ret2
      have O2 := only_turned turn2
      refine ⟨rfl, ⟨L + 1, by omega, by omega, O2.row R1.out ne, ?_, cut_fine f FI.out⟩, O1.out.trans O2 (fun i hi q => .inr q)⟩
      exact Md.of own2 (HR0.out.del f) (cut_fine f FI.out).apart
    | false =>
      have e1 : lookE size life es f c = (noteE size (older life es) (f + c), false) := by unfold lookE; rw [hh]; rfl
      rw [e1]
      have HH := Lib.hid hh
      clear h hm hm2 eC eT eB hh e1
      go_enter Try.func45, Try.ntmps45
      go_wp2_with fail
      (with_reducible refine (G.out).mono ?_)
      rintro e w1 ⟨rfl, h1, o1⟩
      have O1 := Lib.hid o1
      have N1 := Lib.hid (note_any p b (L + 1) size life (older life es) (f + c) w1 h1 (by omega) older_pos FC.out)
      obtain ⟨r, ⟨D0, hown, hr0⟩, fi⟩ := h1
      have c3 : w1.cell? ⟨p, 3, none⟩ = some (.map (some b)) := by rw [r.cell]; rfl
      have OW := Lib.hid hown
      have q := hr0.1 f
      rw [HH.out] at q
      clear r hown hr0 fi o1
      go_wp2_with (first
        | (at_lookup; refine wpList_lookup_own_ok_int _ rfl _ _ 86 rfl 3 3 .i64 lawI Try.underlying86 Try.underlying3 (zeroI _) b _ D0 rfl OW.out _ _ rfl hkey ?_; intro c1 hat hwc)
        | (go_at_call 60; refine (N1.out).mono ?_; rintro e w2 ⟨rfl, h2, o2⟩
           have H2 := Lib.hid h2
           have O2 := Lib.hid o2
           clear h2 o2)
        | go_in)
      go_ret2
      exact ⟨rfl, ⟨L + 1, by omega, by omega, H2.out⟩, O1.out.trans O2.out (fun i hi q => .inr q)⟩

end Go.Proofs.Ytfmmmiiohaaegaa
