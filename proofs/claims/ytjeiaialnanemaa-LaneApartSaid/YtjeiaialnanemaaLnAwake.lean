/- awake of layer 11 answers true, and turns nothing that was there. -/
import Derived.Test.YtjeiaialnanemaaLnLaw
namespace Go.Proofs.Ytjeiaialnanemaa
open Go.RowKit Go.Maps
set_option linter.unusedVariables false

abbrev z1 : List Sd := [⟨3, 1⟩]
abbrev z2 : List Sd := [⟨3, 1⟩, ⟨3, 2⟩]
abbrev z3 : List Sd := [⟨3, 1⟩, ⟨3, 2⟩, ⟨0, 9⟩]
abbrev z4 : List Sd := [⟨3, 2⟩, ⟨0, 9⟩]
theorem kpush {p : Nat} {ss : List Sd} (b x c : Int) (fs : List Sd) {w0 w : World} {B : Asr} (h : Sg w0 w ((AL p 4 3 ss).and B)) (hl : ss.length ≤ 3) (hx : (Lit.int .i64 x).wf = true) (e : pushC 4 3 ss b x = c ∧ pushS 4 3 ss b x = fs) :
    Calls Try.prog 12 #[.pointer (some ⟨p, 0, none⟩), .int .i64 b, .int .i64 x] w fun e w' => e = .returned (.int .i64 c) ∧ Sg w0 w' ((AL p 4 3 fs).and B) := by
  have := sg_push b x h (by decide) hl (by decide) hx
  rw [e.1, e.2] at this
  exact this
theorem kpull {p : Nat} {ss : List Sd} (x b c : Int) (fs : List Sd) {w0 w : World} {B : Asr} (h : Sg w0 w ((AL p 4 3 ss).and B)) (hl : ss.length ≤ 3) (hx : (Lit.int .i64 x).wf = true) (e : blockI ss x = b ∧ pullC ss x = c ∧ pullS ss x = fs) :
    Calls Try.prog 14 #[.pointer (some ⟨p, 0, none⟩), .int .i64 x] w fun e w' => e = .returned (.tuple #[.int .i64 b, .int .i64 c]) ∧ Sg w0 w' ((AL p 4 3 fs).and B) := by
  have := sg_pull x h (by decide) (by omega) hx
  rw [e.1, e.2.1, e.2.2] at this
  exact this
theorem knew (n room : Nat) (w : World) (h1 : 1 ≤ n) (h2 : n ≤ 256) (h3 : 1 ≤ room) (h4 : room ≤ 128) :
    Calls Try.prog 9 #[.int .i64 n, .int .i64 room] w fun e w' => ∃ p, e = .returned (.tuple #[.pointer (some ⟨p, 0, none⟩), .int .i64 0]) ∧ Sg w w' ((AL p n room []).and Asr.none) :=
  (sg_new n room w w (B := Asr.none) ⟨⟨fun _ => False, fun _ s => s, fun _ s => s.elim⟩, Only.refl _ _⟩ h1 h2 h3 h4).mono (fun _ _ ⟨p, e, h, _⟩ => ⟨p, e, h⟩)
theorem knew43 (w : World) : Calls Try.prog 9 #[.int .i64 4, .int .i64 3] w fun e w' => ∃ p, e = .returned (.tuple #[.pointer (some ⟨p, 0, none⟩), .int .i64 0]) ∧ Sg w w' ((AL p 4 3 []).and Asr.none) := knew 4 3 w (by decide) (by decide) (by decide) (by decide)
theorem p1 : pushC 4 3 [] 3 1 = 0 ∧ pushS 4 3 [] 3 1 = z1 := by decide
theorem p2 : pushC 4 3 z1 3 2 = 0 ∧ pushS 4 3 z1 3 2 = z2 := by decide
theorem p3 : pushC 4 3 z2 0 9 = 0 ∧ pushS 4 3 z2 0 9 = z3 := by decide
theorem p4 : pushC 4 3 z3 1 7 = 2 ∧ pushS 4 3 z3 1 7 = z3 := by decide
theorem p5 : headsL z3 4 = [9, 1] := by decide
theorem p6 : blockI z3 1 = 3 ∧ pullC z3 1 = 0 ∧ pullS z3 1 = z4 := by decide
theorem p7 : blockI z4 1 = 0 ∧ pullC z4 1 = 3 ∧ pullS z4 1 = z4 := by decide
theorem p8 : headI (laneL z4 3) = 2 ∧ someB (laneL z4 3) = true := by decide
theorem p9 : pushC 4 3 z4 0 2 = 4 ∧ pushS 4 3 z4 0 2 = z4 := by decide
theorem p10 : pushC 4 3 z4 4 5 = 1 ∧ pushS 4 3 z4 4 5 = z4 := by decide
theorem wfd (x : Int) (h : -100 ≤ x ∧ x ≤ 100) : (Lit.int .i64 x).wf = true := wf_i x (by omega)
set_option maxRecDepth 100000 in
set_option maxHeartbeats 4000000 in
theorem awake11_any (w : World) : Calls Try.prog 8 #[] w fun e w' => e = .returned (.bool true) ∧ Only none_ w w' := by
  have N1 := Lib.hid (knew43 w)
  have N2 := Lib.hid (fun w => lnew_no 0 3 w (by decide))
  go_enter Try.func8, Try.ntmps8
  go_wp2_with fail
  (with_reducible refine (N1.out).mono ?_)
  rintro e w1 ⟨p, rfl, h⟩
  have H := Lib.hid h
  clear h
  go_wp2_with fail
  (with_reducible refine ((N2.out _)).mono ?_)
  rintro e w' ⟨rfl, rfl⟩
  go_wp2_with fail
  (with_reducible refine ((kpush 3 1 0 z1 H.out (by decide) (wfd _ (by decide)) p1)).mono ?_)
  rintro e w2 ⟨rfl, h⟩
  replace H := Lib.hid h
  clear h
  go_wp2_with fail
  (with_reducible refine ((kpush 3 2 0 z2 H.out (by decide) (wfd _ (by decide)) p2)).mono ?_)
  rintro e w3 ⟨rfl, h⟩
  replace H := Lib.hid h
  clear h
  go_wp2_with fail
  (with_reducible refine ((kpush 0 9 0 z3 H.out (by decide) (wfd _ (by decide)) p3)).mono ?_)
  rintro e w4 ⟨rfl, h⟩
  replace H := Lib.hid h
  clear h
  go_wp2_with fail
  (with_reducible refine ((kpush 1 7 2 z3 H.out (by decide) (wfd _ (by decide)) p4)).mono ?_)
  rintro e w5 ⟨rfl, h⟩
  replace H := Lib.hid h
  clear h
  have HD := Lib.hid (sg_heads H.out.fst (by decide) (by decide))
  rw [p5] at HD
  go_wp2_with fail
  (with_reducible refine (HD.out).mono ?_)
  rintro e w6 ⟨a, cap, rfl, ho, o⟩
  replace H := Lib.hid (H.out.still o)
  have o2 := (Only.refl none_ w6).alloc (.cells #[.int .i64 9, .int .i64 1] 3)
  have rr := Row.fresh w6 3 #[.int .i64 9, .int .i64 1]
  have R1 := Lib.hid ((Reads.of_owns ho).still o2)
  have R2 := Lib.hid (show Reads (w6.alloc (.cells #[.int .i64 9, .int .i64 1] 3)) (.slice (some ⟨w6.heap.size, 0, none⟩) 2 2) [9, 1] from ⟨_, 2, rfl, fun i x hx => ⟨w6.heap.size, 0, rfl, by
    rw [Nat.zero_add, rr.cell]
    match i, hx with
    | 0, hx => injection hx with hx; subst hx; rfl
    | 1, hx => injection hx with hx; subst hx; rfl
    | i + 2, hx => simp at hx⟩⟩)
  replace H := Lib.hid (H.out.still o2)
  have IN := Lib.hid (show Calls Try.prog 23 #[.slice a 2 cap, .slice (some ⟨w6.heap.size, 0, none⟩) 2 2] (w6.alloc (.cells #[.int .i64 9, .int .i64 1] 3)) (fun e w' => e = .returned (.bool true) ∧ Only none_ (w6.alloc (.cells #[.int .i64 9, .int .i64 1] 3)) w') from ints_any _ _ [9, 1] [9, 1] _ R1.out R2.out (by decide) (by decide))
  clear ho o o2 rr
  go_wp2_with fail
  (with_reducible refine (IN.out).mono ?_)
  rintro e w7 ⟨rfl, o⟩
  replace H := Lib.hid (H.out.still o)
  clear o IN R1 R2 HD
  go_wp2_with fail
  (with_reducible refine ((kpull 1 3 0 z4 H.out (by decide) (wfd _ (by decide)) p6)).mono ?_)
  rintro e w8 ⟨rfl, h⟩
  replace H := Lib.hid h
  clear h
  go_wp2_with fail
  (with_reducible refine ((kpull 1 0 3 z4 H.out (by decide) (wfd _ (by decide)) p7)).mono ?_)
  rintro e w9 ⟨rfl, h⟩
  replace H := Lib.hid h
  clear h
  have HE := Lib.hid (sg_head 3 H.out.fst (by decide) (by decide))
  rw [p8.1, p8.2] at HE
  go_wp2_with fail
  (with_reducible refine (HE.out).mono ?_)
  rintro e w' ⟨rfl, rfl⟩
  have LE := Lib.hid (sg_len H.out.fst)
  have K1 := Lib.hid (kpush 0 2 4 z4 H.out (by decide) (wfd _ (by decide)) p9)
  go_wp2_with fail
  (with_reducible refine (LE.out).mono ?_)
  rintro e w' ⟨rfl, rfl⟩
  go_wp2_with fail
  (with_reducible refine K1.out.mono ?_)
  rintro e w10 ⟨rfl, h⟩
  replace H := Lib.hid h
  clear h
  go_wp2_with fail
  (with_reducible refine ((kpush 4 5 1 z4 H.out (by decide) (wfd _ (by decide)) p10)).mono ?_)
  rintro e w11 ⟨rfl, h⟩
  replace H := Lib.hid h
  clear h
  go_wp2_with fail
  go_ret
  exact ⟨rfl, H.out.only⟩
end Go.Proofs.Ytjeiaialnanemaa
