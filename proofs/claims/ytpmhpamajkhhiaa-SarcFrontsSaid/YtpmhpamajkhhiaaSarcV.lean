/- What shrinks, Victim, Room, Policy and New answer, of any policy that lies in memory. -/
import Derived.Test.YtpmhpamajkhhiaaSarcH
namespace Go.Proofs.Ytpmhpamajkhhiaa
open Go.RowKit
set_option linter.unusedVariables false

/-- which list's last one goes -/
def Sc.shr (c : Sc) (a b : Nat) : Nat :=
  if c.s.l0.length < c.s.bot ∨ c.s.l1.length < c.s.bot then if lastU c.us a < lastU c.us b then 0 else 1
  else if c.want < c.s.l0.length then 0 else 1
theorem shr_pick (c : Sc) (a b : Nat) : (c.shr a b = 0 ∧ c.pick a b = a) ∨ (c.shr a b = 1 ∧ c.pick a b = b) := by
  unfold Sc.shr Sc.pick
  split
  · split
    · exact .inl ⟨rfl, rfl⟩
    · exact .inr ⟨rfl, rfl⟩
  · split
    · exact .inl ⟨rfl, rfl⟩
    · exact .inr ⟨rfl, rfl⟩
theorem len0_any (p b : Nat) (s : Sh) (w : World) (h : Lies w p b s) :
    Calls Try.prog 38 #[.pointer (some ⟨p, 0, none⟩), .int .i64 0] w fun e w' => e = .returned (.int .i64 s.l0.length) ∧ Below w.heap.size w w' := by
  have := (callsIn_wide (n := 5)).1 (len_in p b s 0 w h)
  rwa [show s.revL 0 = s.l0.reverse from rfl, List.length_reverse] at this
theorem len1_any (p b : Nat) (s : Sh) (w : World) (h : Lies w p b s) :
    Calls Try.prog 38 #[.pointer (some ⟨p, 0, none⟩), .int .i64 1] w fun e w' => e = .returned (.int .i64 s.l1.length) ∧ Below w.heap.size w w' := by
  have := (callsIn_wide (n := 5)).1 (len_in p b s 1 w h)
  rwa [show s.revL 1 = s.l1.reverse from rfl, List.length_reverse] at this

set_option maxRecDepth 100000 in
set_option maxHeartbeats 4000000 in
theorem shrinks_any (P p b : Nat) (c : Sc) (x y : Nat) (w : World) (h : SLies w P p b c) (hx : x < c.s.n) (hy : y < c.s.n) (hu : c.us.length < 1000000) :
    Calls Try.prog 41 #[.pointer (some ⟨P, 0, none⟩), .agg #[.int .i64 x, .int .i64 y]] w fun e w' => e = .returned (.int .i64 (c.shr x y)) ∧ Only none_ w w' := by
  have H := Lib.hid h
  have n64 := h.fine.s.n64
  have bn := h.fine.s.botn
  have l0 := fine_len0 h.fine.s
  have l1 := fine_len1 h.fine.s
  have L0 := Lib.hid (fun w' (o : Only none_ w w') => len0_any p b c.s w' (h.raw.still o).shelf)
  have L1 := Lib.hid (fun w' (o : Only none_ w w') => len1_any p b c.s w' (h.raw.still o).shelf)
  have lp := h.raw.row.lt
  clear h
  go_enter Try.func41, Try.ntmps41
  go_wp2_with fail
  have oa := ((Only.refl none_ w).alloc (.cells #[.int .i64 x, .int .i64 y] 74))
  have ra := Row.fresh w 74 #[.int .i64 x, .int .i64 y]
  generalize (w.alloc (.cells #[.int .i64 x, .int .i64 y] 74)) = w0 at *
  have OD := Lib.hid oa.drew
  have RD := Lib.hid ra.drew
  have HD := Lib.hid (H.out.still OD.out)
  have c0 := HD.out.raw.c0
  have c2 := HD.out.raw.c2
  clear oa ra
  go_region_held3 (fun w' => w'.cell? ⟨P, 0, none⟩ = some (.pointer (some ⟨p, 0, none⟩)) ∧ w'.cell? ⟨P, 2, none⟩ = some (.int .i64 c.s.bot))
    (first
      | (go_keep; done)
      | (go_split_ands; exact ⟨HS2.out.raw.c0, HS2.out.raw.c2⟩)
      | (go_split_ands; exact ⟨HS1.out.raw.c0, HS1.out.raw.c2⟩))
    (first
      | (go_at_call 38; (with_reducible refine (L0.out _ OD.out).mono ?_); rintro e w1 ⟨rfl, o1⟩; have O1 := Lib.hid (OD.out.same (below_only o1)); have RD1 := Lib.hid ((below_only o1).still RD.out); have HS1 := Lib.hid (H.out.still O1.out))
      | (go_at_call 38; (with_reducible refine (L1.out _ O1.out).mono ?_); rintro e w2 ⟨rfl, o2⟩; have O2 := Lib.hid (O1.out.same (below_only o2)); have RD2 := Lib.hid ((below_only o2).still RD1.out); have HS2 := Lib.hid (H.out.still O2.out)))
  have d : decide (min (c.s.l0.length : Int) (c.s.l1.length : Int) < (c.s.bot : Int)) = decide (c.s.l0.length < c.s.bot ∨ c.s.l1.length < c.s.bot) := by
    by_cases q : c.s.l0.length < c.s.bot ∨ c.s.l1.length < c.s.bot
    · rw [decide_eq_true q]; exact decide_eq_true (by omega)
    · rw [decide_eq_false q]; exact decide_eq_false (by omega)
  rw [d]
  have SH := Lib.hid (show c.shr x y = if c.s.l0.length < c.s.bot ∨ c.s.l1.length < c.s.bot then if lastU c.us x < lastU c.us y then 0 else 1 else if c.want < c.s.l0.length then 0 else 1 from rfl)
  rename_i hHeld
  clear hHeld d
  clear o1 o2 c0 c2 HD OD RD O1 RD1 HS1 L1
  obtain ⟨t, ht⟩ : ∃ t, decide (c.s.l0.length < c.s.bot ∨ c.s.l1.length < c.s.bot) = t := ⟨_, rfl⟩
  rw [ht]
  cases t with
  | true =>
    have SH := SH.out
    rw [if_pos (of_decide_eq_true ht)] at SH
    have cl0 : w2.cell? ⟨w.heap.size, 0, none⟩ = some (.int .i64 x) := by rw [RD2.out.cell]; rfl
    have cl1 : w2.cell? ⟨w.heap.size, 1, none⟩ = some (.int .i64 y) := by rw [RD2.out.cell]; rfl
    have cx := HS2.out.raw.cu (f := x) (by omega)
    have cy := HS2.out.raw.cu (f := y) (by omega)
    have bx : (x : Int) < 64 := by omega
    have b_y : (y : Int) < 64 := by omega
    have ux : lastU c.us x < 1000000 + 1 := by have := lastU_le c.us x; omega
    have uy : lastU c.us y < 1000000 + 1 := by have := lastU_le c.us y; omega
    generalize lastU c.us x = ax at *
    generalize lastU c.us y = ay at *
    obtain ⟨t2, ht2⟩ : ∃ t2, decide (ax < ay) = t2 := ⟨_, rfl⟩
    have d2 : decide ((ax : Int) < (ay : Int)) = t2 := by
      rw [← ht2]
      by_cases q : ax < ay
      · rw [decide_eq_true q]; exact decide_eq_true (by omega)
      · rw [decide_eq_false q]; exact decide_eq_false (by omega)
    clear ht
    cases t2 with
    | true =>
      rw [if_pos (of_decide_eq_true ht2)] at SH
      replace SH := Lib.hid SH
      clear d2
      go_wp2_with fail
      go_quiet (fail)
      go_wp2_with fail
      go_ret
      rw [SH.out]
      exact ⟨rfl, O2.out.drewN _⟩
    | false =>
      rw [if_neg (of_decide_eq_false ht2)] at SH
      replace SH := Lib.hid SH
      clear d2
      go_wp2_with fail
      go_quiet (fail)
      go_wp2_with fail
      go_ret
      rw [SH.out]
      exact ⟨rfl, O2.out.drewN _⟩
  | false =>
    have SH := SH.out
    rw [if_neg (of_decide_eq_false ht)] at SH
    clear ht
    replace SH := Lib.hid SH
    go_wp2_with fail
    go_quiet (fail)
    go_wp2_with fail
    generalize hq : w2.drewN _ = w3 at *
    have O3 := Lib.hid (show Only none_ w w3 from hq ▸ O2.out.drewN _)
    clear hq
    have OD := Lib.hid O3.out.drew
    have HD := Lib.hid (H.out.still OD.out)
    have c0 := HD.out.raw.c0
    have c68 := HD.out.raw.c68
    go_region_held3 (fun w' => w'.cell? ⟨P, 0, none⟩ = some (.pointer (some ⟨p, 0, none⟩)) ∧ w'.cell? ⟨P, 68, none⟩ = some (.int .i64 c.want))
      (first
        | (go_keep; done)
        | (go_split_ands; exact ⟨HS4.out.raw.c0, HS4.out.raw.c68⟩))
      (first
        | (go_at_call 38; (with_reducible refine (L0.out _ OD.out).mono ?_); rintro e w4 ⟨rfl, o4⟩; have O4 := Lib.hid (OD.out.same (below_only o4)); have HS4 := Lib.hid (H.out.still O4.out)))
    rename_i hHeld
    clear hHeld o4 OD HD c0 c68
    obtain ⟨t2, ht2⟩ : ∃ t2, decide (c.want < c.s.l0.length) = t2 := ⟨_, rfl⟩
    simp only [ht2]
    replace SH := SH.out
    cases t2 with
    | true =>
      rw [if_pos (of_decide_eq_true ht2)] at SH
      replace SH := Lib.hid SH
      go_wp2_with fail
      go_ret
      rw [SH.out]
      exact ⟨rfl, O4.out⟩
    | false =>
      rw [if_neg (of_decide_eq_false ht2)] at SH
      replace SH := Lib.hid SH
      go_wp2_with fail
      go_ret
      rw [SH.out]
      exact ⟨rfl, O4.out⟩
end Go.Proofs.Ytpmhpamajkhhiaa
