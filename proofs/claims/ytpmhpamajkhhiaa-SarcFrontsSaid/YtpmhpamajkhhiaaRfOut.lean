/- The document's own shelf: a node is taken out of its list. -/
import Derived.Test.YtpmhpamajkhhiaaRf
namespace Go.Proofs.Ytpmhpamajkhhiaa
open Go.RowKit
set_option linter.unusedVariables false

theorem erase_take {l : List Nat} {j : Nat} (h : j ∈ l) : l.erase j = l.take (l.idxOf j) ++ l.drop (l.idxOf j + 1) := by
  rw [List.erase_eq_eraseIdx_of_idxOf (i := l.idxOf j) rfl, List.eraseIdx_eq_take_drop_succ]
theorem ints_cut (l : List Nat) (k : Nat) : (ints l).take k ++ (ints l).drop (k + 1) = ints (l.take k ++ l.drop (k + 1)) := by
  unfold ints
  rw [List.map_append, List.map_take, List.map_drop]
theorem findI_in {l : List Nat} {j : Nat} (h : j ∈ l) : findI (ints l) j = (l.idxOf j : Nat) := by
  unfold findI
  rw [if_pos (mem_ints.2 h), idx_ints]

theorem own_form {w : World} {base : Nat} {v : Value} {xs : List Int} (h : OwnsInts w base v xs) : ∃ a n c, v = .slice a n c := by
  rcases h.2 with ⟨h0, _⟩ | ⟨g, cap, cur, hv, _⟩
  · exact ⟨none, 0, 0, h0⟩
  · exact ⟨_, _, _, hv⟩
set_option maxHeartbeats 4000000 in
theorem out_ref (p hb : Nat) (ok : Nat → Prop) (s : Sh) (j : Nat) (w : World) (h : RSh w p hb ok s) :
    Calls Try.prog 68 #[.pointer (some ⟨p, 0, none⟩), .int .i64 j] w fun e w' => e = .returned (.tuple #[]) ∧ RSh w' p hb ok (s.out j) ∧ Only (fun k => k = p) w w' := by
  have L := Lib.hid (list_ref p hb ok s j w h)
  rw [lstI_nat] at L
  have H := Lib.hid h
  obtain ⟨f, ⟨v0, v1, r, o0, o1⟩, hr, ne, l1, l2, l3⟩ := h
  by_cases k0 : j ∈ s.l0
  · have e : s.lst j = 0 := by unfold Sh.lst; rw [if_pos k0]
    rw [e] at L
    have c0 : w.drew.cell? ⟨p, 2, none⟩ = some v0 := by show w.cell? _ = _; rw [r.cell]; rfl
    have F0 := Lib.hid (find_any v0 _ j w.drew (Reads.of_owns (o0.1.still (Only.refl none_ w).drew)) (by rw [ints_len]; have := fine_len0 f; omega))
    rw [findI_in k0] at F0
    have hix : s.l0.idxOf j < s.l0.length := List.idxOf_lt_length_of_mem k0
    have W0 := Lib.hid (without_any v0 (ints s.l0) (s.l0.idxOf j) 0 w.drew (o0.1.still (Only.refl none_ w).drew) (by rw [ints_len]; have := fine_len0 f; omega) (by rw [ints_len]; exact hix))
    rw [ints_cut, ← erase_take k0] at W0
    have x64 : s.l0.idxOf j ≤ 64 := by have := fine_len0 f; omega
    have R := Lib.hid r
    have z := r.frozen
    have O1 := Lib.hid o1
    have HR := Lib.hid hr
    have FO := Lib.hid (f.out j)
    have NI := Lib.hid (erase_not (f.apart j k0))
    clear f r o0 o1 hr e k0 hix
    generalize s.l0.idxOf j = ix at *
    go_enter Try.func68, Try.ntmps68
    go_wp2_with fail
    (with_reducible refine (L.out).mono ?_)
    rintro e w' ⟨rfl, rfl⟩
    go_wp2_with fail
    go_region_with (first
      | (go_at_call 19; refine (F0.out).mono ?_; rintro e w3 ⟨rfl, rfl⟩)
      | (go_at_call 24; refine (W0.out).mono ?_; rintro e w4 ⟨v4, rfl, h4, o4⟩
         obtain ⟨a4, n4, k4, rfl⟩ := own_form h4
         have O4 := Lib.hid (show Only none_ w w4 from ((Only.refl none_ w).drew).idle o4)
         have r4 := O4.out.still R.out
         have z4 := r4.frozen
         have c4 : w4.cell? ⟨p, 2, none⟩ = some v0 := by rw [r4.cell]; rfl
         have lt4 := r4.lt
         have H4 := Lib.hid h4
         have R4 := Lib.hid r4
         clear h4 o4 r4))
    all_goals
      go_wp2
      go_end0
      have rp := R4.out.put 2 (.slice a4 n4 k4)
      have OP := (Only.refl (fun k => k = p) w4).into rfl 2 (.slice a4 n4 k4)
      have gp : ∀ {v : Value} {xs : List Int}, OwnsOk w4 ok v xs → OwnsOk (w4.setCell ⟨p, 2, none⟩ (.slice a4 n4 k4)) ok v xs := fun h => h.keep OP (fun g hg q => l1 (q ▸ hg))
      have ew : w.heap.size ≤ w4.heap.size := O4.out.size
      refine ⟨rfl, ⟨FO.out, ⟨_, v1, rp, gp (OwnsOk.new H4.out l3), ?_⟩, (O4.out.still HR.out).far (p := ⟨p, 2, none⟩) (Ne.symm ne) _, ne, l1, l2, fun g hg => l3 g (by simp [World.setCell] at hg; omega)⟩, O4.out.then_ OP⟩
      show OwnsOk _ _ _ (ints (s.l1.erase j))
      rw [NI.out]
      exact gp (O1.out.still O4.out)
  · by_cases k1 : j ∈ s.l1
    · have e : s.lst j = 1 := by unfold Sh.lst; rw [if_neg k0, if_pos k1]
      rw [e] at L
      have c0 : w.drew.cell? ⟨p, 3, none⟩ = some v1 := by show w.cell? _ = _; rw [r.cell]; rfl
      have F0 := Lib.hid (find_any v1 _ j w.drew (Reads.of_owns (o1.1.still (Only.refl none_ w).drew)) (by rw [ints_len]; have := fine_len1 f; omega))
      rw [findI_in k1] at F0
      have hix : s.l1.idxOf j < s.l1.length := List.idxOf_lt_length_of_mem k1
      have W0 := Lib.hid (without_any v1 (ints s.l1) (s.l1.idxOf j) 0 w.drew (o1.1.still (Only.refl none_ w).drew) (by rw [ints_len]; have := fine_len1 f; omega) (by rw [ints_len]; exact hix))
      rw [ints_cut, ← erase_take k1] at W0
      have x64 : s.l1.idxOf j ≤ 64 := by have := fine_len1 f; omega
      have R := Lib.hid r
      have z := r.frozen
      have O1 := Lib.hid o0
      have HR := Lib.hid hr
      have FO := Lib.hid (f.out j)
      have NI := Lib.hid (erase_not k0)
      clear f r o0 o1 hr e k0 k1 hix
      generalize s.l1.idxOf j = ix at *
      go_enter Try.func68, Try.ntmps68
      go_wp2_with fail
      (with_reducible refine (L.out).mono ?_)
      rintro e w' ⟨rfl, rfl⟩
      go_wp2_with fail
      go_region_with (first
        | (go_at_call 19; refine (F0.out).mono ?_; rintro e w3 ⟨rfl, rfl⟩)
        | (go_at_call 24; refine (W0.out).mono ?_; rintro e w4 ⟨v4, rfl, h4, o4⟩
           obtain ⟨a4, n4, k4, rfl⟩ := own_form h4
           have O4 := Lib.hid (show Only none_ w w4 from ((Only.refl none_ w).drew).idle o4)
           have r4 := O4.out.still R.out
           have z4 := r4.frozen
           have c4 : w4.cell? ⟨p, 3, none⟩ = some v1 := by rw [r4.cell]; rfl
           have lt4 := r4.lt
           have H4 := Lib.hid h4
           have R4 := Lib.hid r4
           clear h4 o4 r4))
      all_goals
        go_wp2
        go_end0
        have rp := R4.out.put 3 (.slice a4 n4 k4)
        have OP := (Only.refl (fun k => k = p) w4).into rfl 3 (.slice a4 n4 k4)
        have gp : ∀ {v : Value} {xs : List Int}, OwnsOk w4 ok v xs → OwnsOk (w4.setCell ⟨p, 3, none⟩ (.slice a4 n4 k4)) ok v xs := fun h => h.keep OP (fun g hg q => l1 (q ▸ hg))
        have ew : w.heap.size ≤ w4.heap.size := O4.out.size
        refine ⟨rfl, ⟨FO.out, ⟨v0, _, rp, ?_, gp (OwnsOk.new H4.out l3)⟩, (O4.out.still HR.out).far (p := ⟨p, 3, none⟩) (Ne.symm ne) _, ne, l1, l2, fun g hg => l3 g (by simp [World.setCell] at hg; omega)⟩, O4.out.then_ OP⟩
        show OwnsOk _ _ _ (ints (s.l0.erase j))
        rw [NI.out]
        exact gp (O1.out.still O4.out)
    · have e : s.lst j = -1 := by unfold Sh.lst; rw [if_neg k0, if_neg k1]
      rw [e] at L
      have e2 : s.out j = s := by unfold Sh.out; rw [erase_not k0, erase_not k1]
      rw [e2]
      clear f r o0 o1 hr e k0 k1 e2
      go_enter Try.func68, Try.ntmps68
      go_wp2_with fail
      (with_reducible refine (L.out).mono ?_)
      rintro e w' ⟨rfl, rfl⟩
      go_wp2
      go_end0
      exact ⟨rfl, H.out, Only.refl _ _⟩
end Go.Proofs.Ytpmhpamajkhhiaa
