/- awake of layer 12 answers true, and turns nothing that was there. -/
import Derived.Test.YtmihinpbgppjlaaTnStep
namespace Go.Proofs.Ytmihinpbgppjlaa
open Go.RowKit Go.Maps
set_option linter.unusedVariables false

abbrev z0 : List Sl := []
abbrev z1 : List Sl := [⟨1, true, true⟩]
abbrev z2 : List Sl := [⟨1, true, true⟩, ⟨2, false, true⟩]
abbrev z3 : List Sl := [⟨1, true, true⟩, ⟨2, false, true⟩, ⟨3, true, true⟩]
abbrev z4 : List Sl := [⟨1, true, true⟩, ⟨2, false, true⟩, ⟨3, false, true⟩]
abbrev z5 : List Sl := [⟨1, true, true⟩, ⟨2, false, false⟩, ⟨3, false, true⟩]
abbrev z6 : List Sl := [⟨1, true, true⟩, ⟨3, false, true⟩]
theorem wfd (x : Int) (h : -100 ≤ x ∧ x ≤ 100) : (Lit.int .i64 x).wf = true := wf_i x (by omega)
theorem kput {p c : Nat} {ss : List Sl} (x : Int) (a : Bool) (r : Int) (fs : List Sl) {w0 w : World} {B : Asr} (h : Sg w0 w ((AT p 2 2 c ss).and B)) (hx : (Lit.int .i64 x).wf = true) (hc : c < 100000000) (e : putC 2 2 ss x a = r ∧ putS 2 2 ss x a = fs) :
    Calls Try.prog 21 #[.pointer (some ⟨p, 0, none⟩), .int .i64 x, .bool a] w fun e w' => e = .returned (.int .i64 r) ∧ Sg w0 w' ((AT p 2 2 (c + 1) fs).and B) := by
  have := sg_put x a h hx hc
  rw [e.1, e.2] at this
  exact this
theorem kpromote {p c : Nat} {ss : List Sl} (x : Int) (r : Int) (fs : List Sl) {w0 w : World} {B : Asr} (h : Sg w0 w ((AT p 2 2 c ss).and B)) (hx : (Lit.int .i64 x).wf = true) (hc : c < 100000000) (e : promC 2 ss x = r ∧ promS 2 ss x = fs) :
    Calls Try.prog 22 #[.pointer (some ⟨p, 0, none⟩), .int .i64 x] w fun e w' => e = .returned (.int .i64 r) ∧ Sg w0 w' ((AT p 2 2 (c + 1) fs).and B) := by
  have := sg_promote x h hx hc
  rw [e.1, e.2] at this
  exact this
theorem kstart {p c : Nat} {ss : List Sl} (x : Int) (r : Int) (fs : List Sl) {w0 w : World} {B : Asr} (h : Sg w0 w ((AT p 2 2 c ss).and B)) (hx : (Lit.int .i64 x).wf = true) (hc : c < 100000000) (e : waitC ss x false = r ∧ waitS ss x false = fs) :
    Calls Try.prog 19 #[.pointer (some ⟨p, 0, none⟩), .int .i64 x] w fun e w' => e = .returned (.int .i64 r) ∧ Sg w0 w' ((AT p 2 2 (c + 1) fs).and B) := by
  have := sg_start x h hx 
  rw [e.1, e.2] at this
  exact this
theorem kagain {p c : Nat} {ss : List Sl} (x : Int) (r : Int) (fs : List Sl) {w0 w : World} {B : Asr} (h : Sg w0 w ((AT p 2 2 c ss).and B)) (hx : (Lit.int .i64 x).wf = true) (hc : c < 100000000) (e : waitC ss x true = r ∧ waitS ss x true = fs) :
    Calls Try.prog 20 #[.pointer (some ⟨p, 0, none⟩), .int .i64 x] w fun e w' => e = .returned (.int .i64 r) ∧ Sg w0 w' ((AT p 2 2 (c + 1) fs).and B) := by
  have := sg_again x h hx 
  rw [e.1, e.2] at this
  exact this
theorem kend {p c : Nat} {ss : List Sl} (x : Int) (r : Int) (fs : List Sl) {w0 w : World} {B : Asr} (h : Sg w0 w ((AT p 2 2 c ss).and B)) (hx : (Lit.int .i64 x).wf = true) (hc : c < 100000000) (e : endC ss x = r ∧ cutL ss x = fs) :
    Calls Try.prog 23 #[.pointer (some ⟨p, 0, none⟩), .int .i64 x] w fun e w' => e = .returned (.int .i64 r) ∧ Sg w0 w' ((AT p 2 2 (c + 1) fs).and B) := by
  have := sg_end x h hx 
  rw [e.1, e.2] at this
  exact this
theorem knew (nd na : Nat) (w : World) (h1 : 1 ≤ nd) (h2 : nd ≤ 64) (h3 : na ≤ 64) :
    Calls Try.prog 9 #[.int .i64 nd, .int .i64 na] w fun e w' => ∃ p, e = .returned (.tuple #[.pointer (some ⟨p, 0, none⟩), .int .i64 0]) ∧ Sg w w' ((AT p nd na 0 []).and Asr.none) :=
  (sg_new nd na w w (B := Asr.none) ⟨⟨fun _ => False, fun _ s => s, fun _ s => s.elim⟩, Only.refl _ _⟩ h1 h2 h3).mono (fun _ _ ⟨p, e, h, _⟩ => ⟨p, e, h⟩)
theorem knew22 (w : World) : Calls Try.prog 9 #[.int .i64 2, .int .i64 2] w fun e w' => ∃ p, e = .returned (.tuple #[.pointer (some ⟨p, 0, none⟩), .int .i64 0]) ∧ Sg w w' ((AT p 2 2 0 []).and Asr.none) := knew 2 2 w (by decide) (by decide) (by decide)
theorem a1 : putC 2 2 z0 1 true = 0 ∧ putS 2 2 z0 1 true = z1 := by decide
theorem a2 : putC 2 2 z1 2 false = 0 ∧ putS 2 2 z1 2 false = z2 := by decide
theorem a3 : putC 2 2 z2 3 true = 0 ∧ putS 2 2 z2 3 true = z3 := by decide
theorem a4 : putC 2 2 z3 4 true = 2 ∧ putS 2 2 z3 4 true = z3 := by decide
theorem a5 : waitL z3 = [2, 1, 3] := by decide
theorem a6 : promC 2 z3 3 = 0 ∧ promS 2 z3 3 = z4 := by decide
theorem a7 : waitL z4 = [2, 3, 1] := by decide
theorem a8 : promC 2 z4 1 = 2 ∧ promS 2 z4 1 = z4 := by decide
theorem a9 : freeI 2 false z4 = 0 ∧ freeI 2 true z4 = 1 := by decide
theorem a10 : promC 2 z4 2 = 5 ∧ promS 2 z4 2 = z4 := by decide
theorem a11 : waitC z4 2 false = 0 ∧ waitS z4 2 false = z5 := by decide
theorem a12 : waitC z5 2 false = 5 ∧ waitS z5 2 false = z5 := by decide
theorem a13 : waitC z5 2 true = 0 ∧ waitS z5 2 true = z4 := by decide
theorem a14 : endC z4 2 = 0 ∧ cutL z4 2 = z6 := by decide
theorem a15 : endC z6 2 = 3 ∧ cutL z6 2 = z6 := by decide
theorem a16 : putC 2 2 z6 0 true = 1 ∧ putS 2 2 z6 0 true = z6 := by decide
theorem reads_three (w : World) (a b c : Int) : Reads (w.alloc (.cells #[.int .i64 a, .int .i64 b, .int .i64 c] 3)) (.slice (some ⟨w.heap.size, 0, none⟩) 3 3) [a, b, c] := ⟨_, 3, rfl, fun i x hx => ⟨w.heap.size, 0, rfl, by
    rw [Nat.zero_add, (Row.fresh w 3 #[.int .i64 a, .int .i64 b, .int .i64 c]).cell]
    match i, hx with
    | 0, hx => injection hx with hx; subst hx; rfl
    | 1, hx => injection hx with hx; subst hx; rfl
    | 2, hx => injection hx with hx; subst hx; rfl
    | i + 3, hx => simp at hx⟩⟩
set_option maxRecDepth 100000 in
set_option maxHeartbeats 4000000 in
theorem awake12_any (w : World) : Calls Try.prog 8 #[] w fun e w' => e = .returned (.bool true) ∧ Only none_ w w' := by
  have N1 := Lib.hid (knew22 w)
  have N2 := Lib.hid (fun w => tnew_no 0 2 w (by decide))
  go_enter Try.func8, Try.ntmps8
  go_wp2_with fail
  (with_reducible refine (N1.out).mono ?_)
  rintro e w1 ⟨p, rfl, h⟩
  have H := Lib.hid h
  clear h
  go_wp2_with fail
  (with_reducible refine ((N2.out _)).mono ?_)
  rintro e w2 ⟨rfl, o⟩
  replace H := Lib.hid (H.out.still o)
  clear o
  go_wp2_with fail
  (with_reducible refine ((kput 1 true 0 z1 H.out (wfd _ (by decide)) (by decide) a1)).mono ?_)
  rintro e w3 ⟨rfl, h⟩
  replace H := Lib.hid h
  clear h
  go_wp2_with fail
  (with_reducible refine ((kput 2 false 0 z2 H.out (wfd _ (by decide)) (by decide) a2)).mono ?_)
  rintro e w4 ⟨rfl, h⟩
  replace H := Lib.hid h
  clear h
  go_wp2_with fail
  (with_reducible refine ((kput 3 true 0 z3 H.out (wfd _ (by decide)) (by decide) a3)).mono ?_)
  rintro e w5 ⟨rfl, h⟩
  replace H := Lib.hid h
  clear h
  go_wp2_with fail
  (with_reducible refine ((kput 4 true 2 z3 H.out (wfd _ (by decide)) (by decide) a4)).mono ?_)
  rintro e w6 ⟨rfl, h⟩
  replace H := Lib.hid h
  clear h
  have HD7 := Lib.hid (sg_waiting H.out.fst (by decide))
  rw [a5] at HD7
  go_wp2_with fail
  (with_reducible refine (HD7.out).mono ?_)
  rintro e w7 ⟨a, cap, rfl, ho, o⟩
  replace H := Lib.hid (H.out.still o)
  have o2 := (Only.refl none_ w7).alloc (.cells #[.int .i64 2, .int .i64 1, .int .i64 3] 3)
  have R1 := Lib.hid ((Reads.of_owns ho).still o2)
  have R2 := Lib.hid (reads_three w7 2 1 3)
  replace H := Lib.hid (H.out.still o2)
  have IN := Lib.hid (show Calls Try.prog 16 #[.slice a 3 cap, .slice (some ⟨w7.heap.size, 0, none⟩) 3 3] (w7.alloc (.cells #[.int .i64 2, .int .i64 1, .int .i64 3] 3)) (fun e w' => e = .returned (.bool true) ∧ Only none_ (w7.alloc (.cells #[.int .i64 2, .int .i64 1, .int .i64 3] 3)) w') from ints_any _ _ [2, 1, 3] [2, 1, 3] _ R1.out R2.out (by decide) (by decide))
  clear ho o o2
  go_wp2_with fail
  (with_reducible refine (IN.out).mono ?_)
  rintro e w8 ⟨rfl, o⟩
  replace H := Lib.hid (H.out.still o)
  clear o IN R1 R2 HD7
  go_wp2_with fail
  (with_reducible refine ((kpromote 3 0 z4 H.out (wfd _ (by decide)) (by decide) a6)).mono ?_)
  rintro e w9 ⟨rfl, h⟩
  replace H := Lib.hid h
  clear h
  have HD10 := Lib.hid (sg_waiting H.out.fst (by decide))
  rw [a7] at HD10
  go_wp2_with fail
  (with_reducible refine (HD10.out).mono ?_)
  rintro e w10 ⟨a, cap, rfl, ho, o⟩
  replace H := Lib.hid (H.out.still o)
  have o2 := (Only.refl none_ w10).alloc (.cells #[.int .i64 2, .int .i64 3, .int .i64 1] 3)
  have R1 := Lib.hid ((Reads.of_owns ho).still o2)
  have R2 := Lib.hid (reads_three w10 2 3 1)
  replace H := Lib.hid (H.out.still o2)
  have IN := Lib.hid (show Calls Try.prog 16 #[.slice a 3 cap, .slice (some ⟨w10.heap.size, 0, none⟩) 3 3] (w10.alloc (.cells #[.int .i64 2, .int .i64 3, .int .i64 1] 3)) (fun e w' => e = .returned (.bool true) ∧ Only none_ (w10.alloc (.cells #[.int .i64 2, .int .i64 3, .int .i64 1] 3)) w') from ints_any _ _ [2, 3, 1] [2, 3, 1] _ R1.out R2.out (by decide) (by decide))
  clear ho o o2
  go_wp2_with fail
  (with_reducible refine (IN.out).mono ?_)
  rintro e w11 ⟨rfl, o⟩
  replace H := Lib.hid (H.out.still o)
  clear o IN R1 R2 HD10
  go_wp2_with fail
  (with_reducible refine ((kpromote 1 2 z4 H.out (wfd _ (by decide)) (by decide) a8)).mono ?_)
  rintro e w12 ⟨rfl, h⟩
  replace H := Lib.hid h
  clear h
  have FR := Lib.hid (sg_free H.out.fst)
  rw [a9.1, a9.2] at FR
  go_wp2_with fail
  (with_reducible refine (FR.out).mono ?_)
  rintro e w13 ⟨rfl, o⟩
  replace H := Lib.hid (H.out.still o)
  clear o FR
  go_wp2_with fail
  (with_reducible refine ((kpromote 2 5 z4 H.out (wfd _ (by decide)) (by decide) a10)).mono ?_)
  rintro e w14 ⟨rfl, h⟩
  replace H := Lib.hid h
  clear h
  go_wp2_with fail
  (with_reducible refine ((kstart 2 0 z5 H.out (wfd _ (by decide)) (by decide) a11)).mono ?_)
  rintro e w15 ⟨rfl, h⟩
  replace H := Lib.hid h
  clear h
  go_wp2_with fail
  (with_reducible refine ((kstart 2 5 z5 H.out (wfd _ (by decide)) (by decide) a12)).mono ?_)
  rintro e w16 ⟨rfl, h⟩
  replace H := Lib.hid h
  clear h
  go_wp2_with fail
  (with_reducible refine ((kagain 2 0 z4 H.out (wfd _ (by decide)) (by decide) a13)).mono ?_)
  rintro e w17 ⟨rfl, h⟩
  replace H := Lib.hid h
  clear h
  go_wp2_with fail
  (with_reducible refine ((kend 2 0 z6 H.out (wfd _ (by decide)) (by decide) a14)).mono ?_)
  rintro e w18 ⟨rfl, h⟩
  replace H := Lib.hid h
  clear h
  go_wp2_with fail
  (with_reducible refine ((kend 2 3 z6 H.out (wfd _ (by decide)) (by decide) a15)).mono ?_)
  rintro e w19 ⟨rfl, h⟩
  replace H := Lib.hid h
  clear h
  go_wp2_with fail
  (with_reducible refine ((kput 0 true 1 z6 H.out (wfd _ (by decide)) (by decide) a16)).mono ?_)
  rintro e w20 ⟨rfl, h⟩
  replace H := Lib.hid h
  clear h
  go_wp2_with fail
  go_ret
  exact ⟨rfl, H.out.only⟩
end Go.Proofs.Ytmihinpbgppjlaa
