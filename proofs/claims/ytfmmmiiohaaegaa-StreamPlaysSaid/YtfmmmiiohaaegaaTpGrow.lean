/- A table of what is expected: one look on. -/
import Derived.Test.YtfmmmiiohaaegaaTp
namespace Go.Proofs.Ytfmmmiiohaaegaa
open Go.RowKit Go.Maps
set_option linter.unusedVariables false

theorem key_eq (x y : Int) : (Lit.int .i64 x).sameKey (.int .i64 y) = (x == y) := by
  by_cases k : x = y
  · subst k
    rw [WideAt.sameKey_self (keyI x)]
    simp
  · rw [sameKey_ne (lit_ne k)]
    simp [k]
/-- who is there while the range is under way -/
def stay (life : Nat) (left : Lit → Bool) (e : En) : Bool := left (.int .i64 e.next) || decide (e.age + 1 ≤ life)
abbrev strike (left : Lit → Bool) (x : Int) : Lit → Bool := fun z => left z && !z.sameKey (.int .i64 x)

theorem stay_start {D : DataW Unit} {L : Int} {es : List En} (life : Nat) (h : Reads8 D L es) : es.filter (stay life (has D)) = es := by
  rw [List.filter_eq_self]
  intro e he
  unfold stay
  rw [h.1, hasE_iff.2 ⟨e, he, rfl⟩]
  rfl
theorem stay_end {left : Lit → Bool} (life : Nat) (es : List En) (h : ∀ kl, left kl = false) : es.filter (stay life left) = es.filter (fun e => decide (e.age + 1 ≤ life)) := by
  apply List.filter_congr
  intro e _
  unfold stay
  rw [h]
  rfl
theorem stay_keep {left : Lit → Bool} {life : Nat} {es : List En} {e : En} (hn : es.Pairwise (fun a b => a.next ≠ b.next)) (he : e ∈ es) (hy : e.age + 1 ≤ life) : es.filter (stay life (strike left e.next)) = es.filter (stay life left) := by
  apply List.filter_congr
  intro a ha
  unfold stay strike
  rw [key_eq]
  by_cases k : a.next = e.next
  · have := next_inj hn ha he k
    subst this
    simp [hy]
  · have kf : (a.next == e.next) = false := by simp [k]
    simp [kf]
theorem stay_cut {left : Lit → Bool} {life : Nat} {es : List En} {e : En} (hn : es.Pairwise (fun a b => a.next ≠ b.next)) (he : e ∈ es) (hy : ¬ e.age + 1 ≤ life) : es.filter (stay life (strike left e.next)) = cut (es.filter (stay life left)) e.next := by
  unfold cut
  rw [List.filter_filter]
  apply List.filter_congr
  intro a ha
  unfold stay strike
  rw [key_eq]
  by_cases k : a.next = e.next
  · have := next_inj hn ha he k
    subst this
    simp; omega
  · have kf : (a.next == e.next) = false := by simp [k]
    simp [kf]
/-- what the step hands out is an entry -/
theorem entry_of {D : DataW Unit} {L : Int} {es : List En} {x c : Int} (h : Reads8 D L es) (hat : ∀ zd, D.atKey (.int .i64 x) zd = .lit (.int .i64 c)) : ∃ e ∈ es, e.next = x ∧ c = L - e.age := by
  have := has_true_of_atKey hat
  rw [h.1] at this
  obtain ⟨e, he, rfl⟩ := hasE_iff.1 this
  refine ⟨e, he, rfl, ?_⟩
  have h2 := h.2 e he (.nil)
  rw [hat] at h2
  injection h2 with h2
  injection h2

theorem ranges_keep {w w' : World} {b r n : Nat} {D : DataW Unit} {left : Lit → Bool} {cnt : Nat} (h : w.ranges Try.prog 3 (plainElem Try.prog 3) b r n D left cnt) {S : Nat → Prop} (o : Only S w w') (hb : ¬ S b) (hr : ¬ S r) : w'.ranges Try.prog 3 (plainElem Try.prog 3) b r n D left cnt := by
  have l1 := h.owns.lt
  have l2 := h.lt
  obtain ⟨es, clock, since, seen, c0, h1, F, hs, hD, h2, rest⟩ := h
  exact ⟨es, clock, since, seen, c0, (o.block b l1 hb).trans h1, F, hs, hD, (o.block r l2 hr).trans h2, rest⟩

set_option maxHeartbeats 1000000 in
theorem grow_any (p b L size life : Nat) (es : List En) (w : World) (h : Tb w p b L size life es) (hL : L < 1000000) :
    Calls Try.prog 59 #[.pointer (some ⟨p, 0, none⟩)] w fun e w' => e = .returned (.tuple #[]) ∧ Tb w' p b (L + 1) size life (older life es) ∧ Only (two8 p b) w w' := by
  have F1 := Lib.hid h.fine
  have ne := h.ne
  obtain ⟨lp, lb⟩ := h.lt
  obtain ⟨r, ⟨D0, hown, hr0⟩, f⟩ := h
  have l64 := f.l64
  have c2 : w.cell? ⟨p, 2, none⟩ = some (.int .i64 L) := by rw [r.cell]; rfl
  have c3 : w.cell? ⟨p, 3, none⟩ = some (.map (some b)) := by rw [r.cell]; rfl
  have z := r.frozen
  have R1 := Lib.hid (r.put 2 (.int .i64 ((L : Int) + 1)))
  have OW := Lib.hid (show (w.setCell ⟨p, 2, none⟩ (.int .i64 ((L : Int) + 1))).ownsMap Try.prog 3 (plainElem Try.prog 3) b es.length D0 from owns_keep hown ((Only.refl (fun k => k = p) w).into rfl 2 _) (fun e => ne e.symm))
  have O1 := Lib.hid ((Only.refl (two8 p b) w).into (.inl rfl) 2 (.int .i64 ((L : Int) + 1)))
  have c3' : (w.setCell ⟨p, 2, none⟩ (.int .i64 ((L : Int) + 1))).cell? ⟨p, 3, none⟩ = some (.map (some b)) := by rw [R1.out.cell]; rfl
  have SZ := Lib.hid (show (w.setCell ⟨p, 2, none⟩ (.int .i64 ((L : Int) + 1))).heap.size = w.heap.size by simp [World.setCell])
  have HR0 := Lib.hid hr0
  have HN := Lib.hid f.apart
  have e1 : wrap64 ((L : Int) + 1) = ((L : Int) + 1) := by unfold wrap64; omega
  clear r hown hr0 f c3
  generalize hW : w.setCell ⟨p, 2, none⟩ (.int .i64 ((L : Int) + 1)) = W at *
  go_enter Try.func59, Try.ntmps59
  go_wp2_with (first
    | (at_range; refine wpList_range_own _ rfl _ 86 rfl 3 3 lawI Try.underlying86 _ b es.length D0 rfl (by first | exact OW.out | (rw [hW]; exact OW.out)) ?_; intro w0 hrg0 hg0 hs0)
    | go_in)
  have HG0 := Lib.hid hrg0
  have G0 := Lib.hid (show Only none_ W w0 from (Only.of_grown hg0).more (fun _ _ e => by cases e))
  clear hrg0 hg0
  have HS0 := Lib.hid hs0
  clear hs0
  go_frame
  go_loopw [2] (fun _ wr => ∃ (left : Lit → Bool) (cnt : Nat) (D : DataW Unit), wr.ranges Try.prog 3 (plainElem Try.prog 3) b W.heap.size es.length D left cnt ∧ Reads8 D L (es.filter (stay life left)) ∧ Row wr p 88 #[.int .i64 size, .int .i64 life, .int .i64 ((L : Int) + 1), .map (some b)] ∧ Only (two8 p b) w wr)
    (fun _ wr => wr.rangeLeft b W.heap.size)
  case atStart =>
    refine ⟨_, _, D0, HG0.out, ?_, G0.out.still R1.out, O1.out.idle G0.out⟩
    rw [stay_start life HR0.out]
    exact HR0.out
  case round =>
    obtain ⟨left, cnt, D, hrg, hrd, rw_, ow⟩ := hrel
    have RG := Lib.hid hrg
    have RD := Lib.hid hrd
    have RW := Lib.hid rw_
    have OO := Lib.hid ow
    clear hrd rw_ ow
    go_wp2_with (first
      | (at_next; refine wpList_next_ranges_ii _ rfl _ rfl 3 3 .i64 .i64 lawI Try.underlying3 Try.underlying3 b W.heap.size es.length _ _ _ rfl hrg ?_ ?_)
      | go_in)
    · intro _ hl0
      go_wp2
      go_end0
      have q := stay_end life es hl0
      rw [show ((L : Int) + 1) = ((L + 1 : Nat) : Int) by omega] at RW
      refine ⟨rfl, ⟨RW.out, ?_, older_fine F1.out⟩, OO.out⟩
      rw [show ((L + 1 : Nat) : Int) = (L : Int) + 1 by omega]
      have RD2 := RD.out
      rw [q] at RD2
      exact Md.of RG.out.owns RD2.older (older_good F1.out.toGood8).apart
    · intro x c w1 cnt1 hwx hwc hlx hat hrg1 hlt hg1 hs1 hen
      obtain ⟨e, he, rfl, rfl⟩ := entry_of RD.out hat
      have he' := (List.mem_filter.1 he).1
      have yo := F1.out.young e he'
      have G1 := Lib.hid (Only.of_grown hg1)
      have sz := SZ.out
      have ner : p ≠ W.heap.size := by omega
      have RW1 := Lib.hid (G1.out.row RW.out (fun q => ner (Option.some.inj q)))
      have O3 := Lib.hid (OO.out.trans G1.out (fun i hi q => by have := Option.some.inj q; omega))
      clear sz ner
      have A := Lib.hid (fun m => (age_any p b size life ((L : Int) + 1) ((L : Int) - e.age) (w1.drewN m) (RW1.out.drewN m)).mono (fun e w'' h => And.intro h.1 h.2.symm))
      rw [show wrap64 ((L : Int) + 1 - ((L : Int) - e.age)) = ((e.age + 1 : Nat) : Int) by unfold wrap64; omega] at A
      have c1 : w1.cell? ⟨p, 1, none⟩ = some (.int .i64 life) := by rw [RW1.out.cell]; rfl
      have c3 : w1.cell? ⟨p, 3, none⟩ = some (.map (some b)) := by rw [RW1.out.cell]; rfl
      have RG1 := Lib.hid (fun m => (show (w1.drewN m).ranges Try.prog 3 (plainElem Try.prog 3) b W.heap.size es.length D (strike left e.next) cnt1 from hrg1))
      have K1 := Lib.hid (fun hy => stay_keep (left := left) (life := life) F1.out.apart he' hy)
      have K2 := Lib.hid (fun hy => stay_cut (left := left) (life := life) F1.out.apart he' hy)
      clear hat he he' hlx G1
      generalize ha : e.age = ag at *
      generalize hn : e.next = nx at *
      by_cases hy : ag + 1 ≤ life
      · have d1 : decide ((life : Int) < (ag : Int) + 1) = false := by simp; omega
        clear hrg1
        go_wp2_with fail
        go_quiet ((go_at_call 53; exact Calls.quiet_of_same (A.out _)))
        go_wp2
        have K := K1.out hy
        go_roundw
        case rel => exact ⟨strike left nx, cnt1, D, RG1.out _, by rw [K]; exact RD.out, RW1.out.drewN _, O3.out.drewN _⟩
        case measure => rw [World.ranges.left_eq (RG1.out _), RG.out.left_eq]; exact hlt
      · have d1 : decide ((life : Int) < (ag : Int) + 1) = true := by simp; omega
        clear hrg1
        have K := K2.out hy
        go_wp2_with fail
        go_quiet ((go_at_call 53; exact Calls.quiet_of_same (A.out _)))
        go_wp2_with (first
          | (at_delete; refine wpList_delete_ranges _ rfl _ _ 86 3 rfl 3 lawI Try.underlying86 _ b W.heap.size es.length _ _ _ rfl (RG1.out _) _ _ rfl (keyOf_int_mk Try.underlying3 hwx) ?_; intro w2 cnt2 hrg2 hle hturn; go_frame)
          | go_in)
        rw [strike_twice] at hrg2
        have O4 := (O3.out.drewN _).trans (only_turned hturn) (fun i hi q => .inr q)
        have RW2 := (only_turned hturn).row (RW1.out.drewN _) ne
        go_roundw
        case rel => exact ⟨strike left nx, cnt2, _, hrg2, by rw [K]; exact RD.out.del nx, RW2, O4⟩
        case measure => rw [hrg2.left_eq, RG.out.left_eq]; omega
end Go.Proofs.Ytfmmmiiohaaegaa
