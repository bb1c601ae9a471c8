/- What the laws of layer 14 share: a register made behind a world; awake answers true. -/
import Derived.Test.YtgngaimbpnlkjaaWc14
namespace Go.Proofs.Ytgngaimbpnlkjaa
open Go.RowKit
set_option linter.unusedVariables false

/-- a register that was made behind a world, of which nothing has turned -/
structure LW (w0 w : World) (p : Nat) (M : Nat → Prop) (room L : Nat) (ss : List Sx) : Prop where
  wg : WG w p M room L ss
  new : ∀ g, M g → w0.heap.size ≤ g
  only : Only none_ w0 w
theorem LW.still {w0 w w' : World} {p : Nat} {M : Nat → Prop} {room L : Nat} {ss : List Sx} (h : LW w0 w p M room L ss) (o : Only none_ w w') : LW w0 w' p M room L ss := ⟨h.wg.still o, h.new, h.only.same o⟩
theorem LW.up {w0 w : World} {p : Nat} {M : Nat → Prop} {room L : Nat} {ss : List Sx} (h : LW w0 w p M room L ss) {L' : Nat} (k : L ≤ L') : LW w0 w p M room L' ss := ⟨h.wg.up k, h.new, h.only⟩
theorem LW.call {w0 w w' : World} {p : Nat} {M : Nat → Prop} {room L L' : Nat} {ss fs : List Sx} (h : LW w0 w p M room L ss) (k : WGto w p M room L' fs w') :
    ∃ M' : Nat → Prop, LW w0 w' p M' room L' fs ∧ (∀ g, M' g → M g ∨ w.heap.size ≤ g) ∧ Only M w w' := by
  obtain ⟨⟨M', hm, hM⟩, o⟩ := k
  refine ⟨M', ⟨hm, fun g hg => ?_, h.only.trans o (fun i hi s => absurd (h.new i s) (Nat.not_le.2 hi))⟩, hM, o⟩
  rcases hM g hg with z | z
  · exact h.new g z
  · exact Nat.le_trans h.only.size z
theorem LW.callV {w0 w w' : World} {p : Nat} {M : Nat → Prop} {room L L' : Nat} {ss fs : List Sx} {v : Value} (h : LW w0 w p M room L ss) (k : WGtoV w p M room L' fs v w') :
    ∃ M' : Nat → Prop, LW w0 w' p M' room L' fs ∧ (∀ g, M' g → M g ∨ w.heap.size ≤ g) ∧ (∀ g, v.ownBlock = some g → ¬ M' g) ∧ Only M w w' := by
  obtain ⟨⟨M', hm, hM, hv⟩, o⟩ := k
  refine ⟨M', ⟨hm, fun g hg => ?_, h.only.trans o (fun i hi s => absurd (h.new i s) (Nat.not_le.2 hi))⟩, hM, hv, o⟩
  rcases hM g hg with z | z
  · exact h.new g z
  · exact Nat.le_trans h.only.size z
theorem LW.start {w0 w w' : World} {p : Nat} {room : Nat} (o : Only none_ w0 w) (h : (∃ M : Nat → Prop, WG w' p M room 0 [] ∧ ∀ g, M g → w.heap.size ≤ g) ∧ Only none_ w w') : ∃ M : Nat → Prop, LW w0 w' p M room 0 [] := by
  obtain ⟨⟨M, hm, hn⟩, o2⟩ := h
  exact ⟨M, hm, fun g hg => Nat.le_trans o.size (hn g hg), o.same o2⟩
theorem reads_row14 {w : World} {g : Nat} {l : List Int} (h : Row w g 3 (l.map (Value.int .i64)).toArray) : Reads w (.slice (some ⟨g, 0, none⟩) l.length l.length) l := by
  refine ⟨_, l.length, rfl, fun i x hx => ⟨g, 0, rfl, ?_⟩⟩
  rw [Nat.zero_add, h.cell, List.getElem?_toArray, List.getElem?_map, hx]
  rfl
theorem readsW_row {w : World} {g : Nat} {l : List Wt} (h : Row w g 31 (flat Wt.cells l)) : ReadsW w (.slice (some ⟨g, 0, none⟩) l.length l.length) l := by
  refine ⟨_, l.length, rfl, fun i r hx => ⟨g, 0, rfl, ?_, ?_⟩⟩
  · rw [Nat.zero_add, h.cell]
    exact flat_get wt2 hx (j := 0) (by decide)
  · rw [Nat.zero_add, h.cell]
    exact flat_get wt2 hx (j := 1) (by decide)
theorem kadd {w0 w : World} {p : Nat} {M : Nat → Prop} {room L : Nat} {ss : List Sx} (t r b c : Int) (fs : List Sx) (h : LW w0 w p M room L ss) (h1 : addI room ss t ⟨r, b⟩ = c) (h2 : addS room ss t ⟨r, b⟩ = fs) (hw : wfW ⟨r, b⟩) (hL : L < 1000000) :
    Calls Try.prog 11 #[.pointer (some ⟨p, 0, none⟩), .int .i64 t, .agg #[.int .i64 r, .int .i64 b]] w fun e w' => e = .returned (.int .i64 c) ∧ ∃ M', LW w0 w' p M' room (L + 1) fs := by
  refine (wadd_any t ⟨r, b⟩ w h.wg hw hL).mono (fun e w' k => ?_)
  rw [h1, h2] at k
  obtain ⟨M', hm, _⟩ := h.call k.2
  exact ⟨k.1, M', hm⟩
theorem new_four (w : World) : Calls Try.prog 9 #[.int .i64 4] w fun e w' => ∃ p, e = .returned (.tuple #[.pointer (some ⟨p, 0, none⟩), .int .i64 0]) ∧ (∃ M, WG w' p M 4 0 [] ∧ ∀ g, M g → w.heap.size ≤ g) ∧ Only none_ w w' := wnew_yes 4 w (by decide) (by decide)
theorem new_64 (w : World) : Calls Try.prog 9 #[.int .i64 64] w fun e w' => ∃ p, e = .returned (.tuple #[.pointer (some ⟨p, 0, none⟩), .int .i64 0]) ∧ (∃ M, WG w' p M 64 0 [] ∧ ∀ g, M g → w.heap.size ≤ g) ∧ Only none_ w w' := wnew_yes 64 w (by decide) (by decide)
theorem len_of {α : Type} {w : World} {base : Nat} {e : TypeId} {k : Nat} {c : α → List Value} {v : Value} {xs : List α} (h : Owns w base e k c v xs) : ∃ a cap, v = .slice a xs.length cap := by
  rcases h.2 with ⟨h0, h2⟩ | ⟨g, cap, cur, hv, _⟩
  · exact ⟨none, 0, by rw [h0, h2]⟩
  · exact ⟨_, _, hv⟩
set_option maxHeartbeats 1000000 in
theorem awake14_any (w : World) : Calls Try.prog 8 #[] w fun e w' => e = .returned (.bool true) ∧ Only none_ w w' := by
  go_enter Try.func8, Try.ntmps8
  go_wp2_with fail
  (with_reducible refine (new_four w).mono ?_)
  rintro e w1 ⟨p, rfl, h⟩
  obtain ⟨M1, hm⟩ := LW.start (Only.refl none_ w) h
  have H := Lib.hid hm
  clear h hm
  go_wp2_with fail
  (with_reducible refine (wnew_no 65 w1 (by decide)).mono ?_)
  rintro e w2 ⟨rfl, o⟩
  replace H := Lib.hid (H.out.still o)
  clear o
  have K1 := Lib.hid (kadd 5 1 0 0 [⟨5, ⟨1, 0⟩⟩] H.out (by decide +kernel) (by decide +kernel) ⟨by decide, by decide⟩ (by decide))
  go_wp2_with fail
  (with_reducible refine K1.out.mono ?_)
  rintro e w3 ⟨rfl, M3, h⟩
  replace H := Lib.hid h
  have K1 := Lib.hid (kadd 5 2 0 0 [⟨5, ⟨1, 0⟩⟩, ⟨5, ⟨2, 0⟩⟩] h (by decide +kernel) (by decide +kernel) ⟨by decide, by decide⟩ (by decide))
  clear h
  go_wp2_with fail
  (with_reducible refine K1.out.mono ?_)
  rintro e w4 ⟨rfl, M4, h⟩
  replace H := Lib.hid h
  have K1 := Lib.hid (kadd 6 1 1 0 [⟨5, ⟨1, 0⟩⟩, ⟨5, ⟨2, 0⟩⟩, ⟨6, ⟨1, 1⟩⟩] h (by decide +kernel) (by decide +kernel) ⟨by decide, by decide⟩ (by decide))
  clear h
  go_wp2_with fail
  (with_reducible refine K1.out.mono ?_)
  rintro e w5 ⟨rfl, M5, h⟩
  replace H := Lib.hid h
  have K1 := Lib.hid (kadd 7 2 0 4 [⟨5, ⟨1, 0⟩⟩, ⟨5, ⟨2, 0⟩⟩, ⟨6, ⟨1, 1⟩⟩] h (by decide +kernel) (by decide +kernel) ⟨by decide, by decide⟩ (by decide))
  clear h
  go_wp2_with fail
  (with_reducible refine K1.out.mono ?_)
  rintro e w6 ⟨rfl, M6, h⟩
  replace H := Lib.hid h
  have QU := Lib.hid (wquit_any 1 w6 h.wg)
  rw [show quitI [⟨5, ⟨1, 0⟩⟩, ⟨5, ⟨2, 0⟩⟩, ⟨6, ⟨1, 1⟩⟩] 1 = [5, 6] from by decide +kernel, show leftR [⟨5, ⟨1, 0⟩⟩, ⟨5, ⟨2, 0⟩⟩, ⟨6, ⟨1, 1⟩⟩] 1 = [⟨5, ⟨2, 0⟩⟩] from by decide +kernel] at QU
  clear h
  go_wp2_with fail
  (with_reducible refine QU.out.mono ?_)
  rintro e w7 ⟨vq, rfl, hq, k⟩
  obtain ⟨M7, h, _⟩ := H.out.call k.to
  replace H := Lib.hid h
  have RQ := Lib.hid (Reads.of_owns hq)
  clear h hq k QU
  have R2 := Lib.hid (RQ.out.still ((Only.refl none_ w7).alloc (.cells #[.int .i64 5, .int .i64 6] 3)))
  have IN := Lib.hid (show Calls Try.prog 16 #[vq, .slice (some ⟨w7.heap.size, 0, none⟩) 2 2] (w7.alloc (.cells #[.int .i64 5, .int .i64 6] 3)) (fun e w' => e = .returned (.bool true) ∧ Only none_ (w7.alloc (.cells #[.int .i64 5, .int .i64 6] 3)) w') from
    ints_any _ _ [5, 6] [5, 6] _ R2.out (reads_row14 (l := [5, 6]) (Row.fresh _ _ _)) (by decide) (by decide))
  replace H := Lib.hid (H.out.still ((Only.refl none_ w7).alloc (.cells #[.int .i64 5, .int .i64 6] 3)))
  go_wp2_with fail
  (with_reducible refine IN.out.mono ?_)
  rintro e w8 ⟨rfl, o⟩
  replace H := Lib.hid (H.out.still o)
  have OF := Lib.hid (wof_any 5 w8 H.out.wg)
  rw [show ofL [⟨5, ⟨2, 0⟩⟩] 5 = [⟨2, 0⟩] from by decide +kernel] at OF
  clear o IN R2 RQ
  go_wp2_with fail
  (with_reducible refine OF.out.mono ?_)
  rintro e w9 ⟨vo, rfl, ho, o⟩
  have RO := Lib.hid (ho.reads.still ((Only.refl none_ w9).alloc (.cells #[.int .i64 2, .int .i64 0] 31)))
  have SA := Lib.hid (show Calls Try.prog 13 #[vo, .slice (some ⟨w9.heap.size, 0, none⟩) 1 1] (w9.alloc (.cells #[.int .i64 2, .int .i64 0] 31)) (fun e w' => e = .returned (.bool true) ∧ Only none_ (w9.alloc (.cells #[.int .i64 2, .int .i64 0] 31)) w') from
    same14_any _ _ [⟨2, 0⟩] [⟨2, 0⟩] _ RO.out (readsW_row (l := [⟨2, 0⟩]) (Row.fresh _ _ _)) (by decide) (by decide))
  replace H := Lib.hid ((H.out.still o).still ((Only.refl none_ w9).alloc (.cells #[.int .i64 2, .int .i64 0] 31)))
  clear ho o OF
  go_wp2_with fail
  (with_reducible refine SA.out.mono ?_)
  rintro e w10 ⟨rfl, o⟩
  replace H := Lib.hid (H.out.still o)
  have FR := Lib.hid (show Calls Try.prog 23 #[.pointer (some ⟨p, 0, none⟩)] w10 (fun e w' => e = .returned (.int .i64 3) ∧ Only none_ w10 w') from wfree_any w10 H.out.wg)
  clear o SA RO
  go_wp2_with fail
  (with_reducible refine FR.out.mono ?_)
  rintro e w11 ⟨rfl, o⟩
  replace H := Lib.hid (H.out.still o)
  have TA := Lib.hid (wtake_any 5 w11 H.out.wg)
  rw [show ofL [⟨5, ⟨2, 0⟩⟩] 5 = [⟨2, 0⟩] from by decide +kernel, show leftT [⟨5, ⟨2, 0⟩⟩] 5 = [] from by decide +kernel] at TA
  clear o FR
  go_wp2_with fail
  (with_reducible refine TA.out.mono ?_)
  rintro e w12 ⟨vt, rfl, ht, k⟩
  obtain ⟨M8, h, _⟩ := H.out.call k.to
  obtain ⟨at_, ct, rfl, _⟩ := ht.reads
  replace H := Lib.hid h
  have FR := Lib.hid (show Calls Try.prog 23 #[.pointer (some ⟨p, 0, none⟩)] w12 (fun e w' => e = .returned (.int .i64 4) ∧ Only none_ w12 w') from wfree_any w12 H.out.wg)
  clear h ht k TA
  go_wp2_with fail
  (with_reducible refine FR.out.mono ?_)
  rintro e w13 ⟨rfl, o⟩
  replace H := Lib.hid (H.out.still o)
  have K1 := Lib.hid (kadd 0 1 0 1 [] H.out (by decide +kernel) (by decide +kernel) ⟨by decide, by decide⟩ (by decide))
  clear o FR
  go_wp2_with fail
  (with_reducible refine K1.out.mono ?_)
  rintro e w14 ⟨rfl, M9, h⟩
  replace H := Lib.hid h
  clear h
  go_wp2_with fail
  go_ret
  exact ⟨rfl, H.out.only⟩
end Go.Proofs.Ytgngaimbpnlkjaa
