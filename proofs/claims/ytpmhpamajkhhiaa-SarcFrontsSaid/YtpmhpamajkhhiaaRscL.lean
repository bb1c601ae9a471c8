/- The document's own policy: when a frame was used last; how many frames could go. -/
import Derived.Test.YtpmhpamajkhhiaaRscH
namespace Go.Proofs.Ytpmhpamajkhhiaa
open Go.RowKit
set_option linter.unusedVariables false

theorem RRaw.uses {w : World} {r q hb : Nat} {ro : Nat → Prop} {c : Sc} (h : RRaw w r q hb ro c) : ∃ a k, w.cell? ⟨r, 4, none⟩ = some (.slice a c.us.length k) ∧ Reads w (.slice a c.us.length k) (ints c.us) := by
  obtain ⟨⟨vu, rw_, o, s⟩, _⟩ := h
  obtain ⟨a, k, rfl, hc⟩ := Reads.of_owns o.1
  rw [ints_len] at rw_
  exact ⟨a, k, (rw_.cell 4).trans rfl, ⟨a, k, by rw [ints_len], hc⟩⟩

set_option maxHeartbeats 400000 in
theorem slast_ref (r q hb : Nat) (ro : Nat → Prop) (c : Sc) (f : Nat) (w : World) (h : RRaw w r q hb ro c) (hu : c.us.length < 1000000) :
    Calls Try.prog 57 #[.pointer (some ⟨r, 0, none⟩), .int .i64 f] w fun e w' => e = .returned (.int .i64 ((lastU c.us f : Int) - 1)) ∧ Only none_ w w' := by
  obtain ⟨a, k, c4, rd⟩ := h.uses
  obtain ⟨a', k', e0, hc⟩ := rd
  injection e0 with ea en ek
  clear en
  subst ea ek
  have HC := Lib.hid hc
  have L0 := Lib.hid (fun i (h1 : c.us[i]? = some f) h2 => lastU_at (us := c.us) (i := i) (f := f) h1 h2)
  have L1 := Lib.hid (fun h => lastU_no (us := c.us) (f := f) h)
  generalize lastU c.us f = lu at *
  generalize c.us = us at *
  have ln : us.length ≤ 1000000 := by omega
  clear h hc hu
  go_enter Try.func57, Try.ntmps57
  go_wp2_with fail
  go_loopw [5] (fun i wr => ∃ m : Nat, m ≤ us.length ∧ i = .int .i64 ((m : Int) - 1) ∧ f ∉ us.drop m ∧ Only none_ w wr) (fun i _ => (intOf i + 1).toNat)
  case atStart => exact ⟨us.length, Nat.le_refl _, rfl, by simp, Only.refl _ _⟩
  case round =>
    obtain ⟨m, hm, rfl, hn, ho⟩ := hrel
    have HN := Lib.hid hn
    have HO := Lib.hid ho
    clear hn ho
    rcases m with _ | m
    · have LN := Lib.hid (L1.out (by simpa using HN.out))
      go_wp2_with fail
      go_ret
      exact ⟨by rw [LN.out]; rfl, HO.out⟩
    · obtain ⟨x, hx⟩ : ∃ x, us[m]? = some x := ⟨_, List.getElem?_eq_getElem (by omega)⟩
      obtain ⟨g, o, rfl, cx⟩ := HC.out m x (by unfold ints; rw [List.getElem?_map, hx]; rfl)
      have cx2 := HO.out.cell cx (fun s => s)
      have c42 := HO.out.cell c4 (fun s => s)
      have HX := Lib.hid hx
      have qe : ((m + 1 : Nat) : Int) - 1 = (m : Int) := by omega
      have bm : (m : Int) < (us.length : Int) := by omega
      have b0 : decide (0 ≤ m) = true := by simp
      clear hx cx
      rw [qe]
      by_cases e : x = f
      · have LA := Lib.hid (L0.out m (HX.out.trans (by rw [e])) HN.out)
        have t : ((x : Int) == (f : Int)) = true := by simp [e]
        clear e qe
        go_wp2_with fail
        go_ret
        exact ⟨by rw [LA.out]; simp, HO.out⟩
      · have t : ((x : Int) == (f : Int)) = false := by simp; omega
        have NN := Lib.hid (show f ∉ us.drop m from by
          rw [List.drop_eq_getElem_cons (by omega)]
          have h1 := HX.out
          rw [List.getElem?_eq_getElem (by omega)] at h1
          injection h1 with h1
          rw [h1, List.mem_cons, not_or]
          exact ⟨fun q => e q.symm, HN.out⟩)
        clear e qe
        go_wp2_with fail
        go_roundw
        case rel => exact ⟨m, by omega, by go_num, NN.out, HO.out⟩
        case measure => simp [intOf]
end Go.Proofs.Ytpmhpamajkhhiaa
