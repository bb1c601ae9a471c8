/- Layer 17: awake answers true. -/
import Derived.Test.YtoflkeedfgnkhaaLw17
namespace Go.Proofs.Ytoflkeedfgnkhaa
open Go.RowKit Go.Maps
set_option linter.unusedVariables false
set_option maxRecDepth 100000

section
variable {w0 w w' : World} {p : Nat} {c : Nat → Nat} {room L : Nat} {t : Tq}
theorem kopen (x k n r : Int) (rs : List Rq) (h : LT w0 w p c room L t) (wx : (Lit.int .i64 x).wf = true) (e1 : openI room t.rs x k n = r) (e2 : openS room t.rs x k n = rs) :
    Calls Try.prog 22 #[.pointer (some ⟨p, 0, none⟩), .int .i64 x, .int .i64 k, .int .i64 n] w fun e w' => e = .returned (.int .i64 r) ∧ ∃ c', LT w0 w' p c' room (L + 1) ⟨rs, t.kept⟩ := by
  refine (lopen x k n h wx).mono ?_
  rw [e1, e2]
  rintro e w' ⟨h1, c', h2, _⟩
  exact ⟨h1, c', h2⟩
theorem kgive (x q v r : Int) (t' : Tq) (h : LT w0 w p c room L t) (wx : (Lit.int .i64 x).wf = true) (hL : L < 1000000) (e1 : putI t.rs x q = r) (e2 : (putS t x q 1 v).rs = t'.rs) (e3 : (putS t x q 1 v).kept = t'.kept) :
    Calls Try.prog 23 #[.pointer (some ⟨p, 0, none⟩), .int .i64 x, .int .i64 q, .int .u64 v] w fun e w' => e = .returned (.int .i64 r) ∧ ∃ c', LT w0 w' p c' room (L + 1) t' := by
  refine (lgive x q v h wx hL).mono ?_
  have e : putS t x q 1 v = t' := by
    cases hq : putS t x q 1 v; cases t'
    rw [hq] at e2 e3
    simp_all
  rw [e1, e]
  rintro e w' ⟨h1, c', h2, _⟩
  exact ⟨h1, c', h2⟩
theorem klose (x q r : Int) (t' : Tq) (h : LT w0 w p c room L t) (wx : (Lit.int .i64 x).wf = true) (hL : L < 1000000) (e1 : putI t.rs x q = r) (e2 : (putS t x q 2 0).rs = t'.rs) (e3 : (putS t x q 2 0).kept = t'.kept) :
    Calls Try.prog 24 #[.pointer (some ⟨p, 0, none⟩), .int .i64 x, .int .i64 q] w fun e w' => e = .returned (.int .i64 r) ∧ ∃ c', LT w0 w' p c' room (L + 1) t' := by
  refine (llose x q h wx hL).mono ?_
  have e : putS t x q 2 0 = t' := by
    cases hq : putS t x q 2 0; cases t'
    rw [hq] at e2 e3
    simp_all
  rw [e1, e]
  rintro e w' ⟨h1, c', h2, _⟩
  exact ⟨h1, c', h2⟩
theorem kcancel_no (x : Int) (h : LT w0 w p c room L t) (wx : (Lit.int .i64 x).wf = true) (hL : L < 1000000) (e : hasQ t.rs x = false) :
    Calls Try.prog 25 #[.pointer (some ⟨p, 0, none⟩), .int .i64 x] w fun e w' => e = .returned (.int .i64 3) ∧ ∃ c', LT w0 w' p c' room (L + 1) t := by
  refine (lcancel x h wx hL).mono ?_
  rw [show cancelI t.rs x = 3 from by unfold cancelI; rw [e]; rfl, show cancelS t x = t from by unfold cancelS; rw [e]; rfl]
  rintro e w' ⟨h1, c', h2, _⟩
  exact ⟨h1, c', h2⟩
end
set_option maxHeartbeats 2000000 in
theorem awake17_any (w : World) : Calls Try.prog 8 #[] w fun e w' => e = .returned (.bool true) ∧ Only none_ w w' := by
  go_enter Try.func8, Try.ntmps8
  go_wp2_with fail
  (with_reducible refine (new_two17' w).mono ?_)
  rintro e w1 ⟨p, rfl, h⟩
  obtain ⟨c1, hm, _⟩ := LT.start (Only.refl none_ w) h
  have H := Lib.hid hm
  clear h hm
  go_wp2_with fail
  (with_reducible refine (tnew_no 17 w1 (by decide)).mono ?_)
  rintro e w2 ⟨rfl, o⟩
  replace H := Lib.hid (H.out.still o)
  clear o
  skip
  have K1 := Lib.hid (kopen 5 1 2 0 [⟨5, 1, [0, 0], [0, 0]⟩] H.out rfl (by decide +kernel) (by decide +kernel))
  skip
  go_wp2_with fail
  (with_reducible refine K1.out.mono ?_)
  rintro e w3 ⟨rfl, c3, h⟩
  replace H := Lib.hid h
  clear K1
  have K1 := Lib.hid (kopen 6 2 1 0 [⟨5, 1, [0, 0], [0, 0]⟩, ⟨6, 2, [0], [0]⟩] H.out rfl (by decide +kernel) (by decide +kernel))
  clear h
  go_wp2_with fail
  (with_reducible refine K1.out.mono ?_)
  rintro e w4 ⟨rfl, c4, h⟩
  replace H := Lib.hid h
  clear K1
  have K1 := Lib.hid (kopen 7 1 1 2 [⟨5, 1, [0, 0], [0, 0]⟩, ⟨6, 2, [0], [0]⟩] H.out rfl (by decide +kernel) (by decide +kernel))
  clear h
  go_wp2_with fail
  (with_reducible refine K1.out.mono ?_)
  rintro e w5 ⟨rfl, c5, h⟩
  replace H := Lib.hid h
  clear K1
  have K1 := Lib.hid (kgive 5 1 9 0 ⟨[⟨5, 1, [0, 1], [0, 9]⟩, ⟨6, 2, [0], [0]⟩], []⟩ H.out rfl (by decide) (by decide +kernel) (by decide +kernel) (by decide +kernel))
  clear h
  go_wp2_with fail
  (with_reducible refine K1.out.mono ?_)
  rintro e w6 ⟨rfl, c6, h⟩
  replace H := Lib.hid h
  clear h
  have TA := Lib.hid (fun (w' : World) (o : Only none_ w6 w') => show Calls Try.prog 15 #[.pointer (some ⟨p, 0, none⟩), .int .i64 5] w' (fun e w'' => e = .returned (.bool true) ∧ Only none_ w' w'') from ltouched 5 (H.out.still o) rfl)
  have TC := Lib.hid (fun (w' : World) (o : Only none_ w6 w') => show Calls Try.prog 15 #[.pointer (some ⟨p, 0, none⟩), .int .i64 6] w' (fun e w'' => e = .returned (.bool false) ∧ Only none_ w' w'') from ltouched 6 (H.out.still o) rfl)
  have KA := Lib.hid (fun (w' : World) (o : Only none_ w6 w') => show Calls Try.prog 17 #[.pointer (some ⟨p, 0, none⟩), .int .i64 6] w' (fun e w'' => e = .returned (.int .i64 2) ∧ Only none_ w' w'') from lkind 6 (H.out.still o) rfl)
  have KC := Lib.hid (fun (w' : World) (o : Only none_ w6 w') => show Calls Try.prog 17 #[.pointer (some ⟨p, 0, none⟩), .int .i64 7] w' (fun e w'' => e = .returned (.int .i64 0) ∧ Only none_ w' w'') from lkind 7 (H.out.still o) rfl)
  go_wp2_with fail
  (with_reducible refine (TA.out w6 (Only.refl _ _)).mono ?_)
  rintro e a1 ⟨rfl, o⟩
  have OA := Lib.hid o
  clear o
  go_wp2_with fail
  (with_reducible refine (TC.out a1 OA.out).mono ?_)
  rintro e a2 ⟨rfl, o⟩
  have OB := Lib.hid (OA.out.same o)
  clear o
  go_wp2_with fail
  (with_reducible refine (KA.out a2 OB.out).mono ?_)
  rintro e a3 ⟨rfl, o⟩
  have OC := Lib.hid (OB.out.same o)
  clear o
  go_wp2_with fail
  (with_reducible refine (KC.out a3 OC.out).mono ?_)
  rintro e a4 ⟨rfl, o⟩
  have OE := Lib.hid (OC.out.same o)
  clear o
  replace H := Lib.hid (H.out.still OE.out)
  clear TA TC KA KC
  clear K1
  have K1 := Lib.hid (kgive 5 0 7 0 ⟨[⟨6, 2, [0], [0]⟩], [⟨5, 0, [7, 9]⟩]⟩ H.out rfl (by decide) (by decide +kernel) (by decide +kernel) (by decide +kernel))
  skip
  go_wp2_with fail
  (with_reducible refine K1.out.mono ?_)
  rintro e w9 ⟨rfl, c9, h⟩
  replace H := Lib.hid h
  clear K1
  have K1 := Lib.hid (klose 6 0 0 ⟨[], [⟨5, 0, [7, 9]⟩, ⟨6, 7, []⟩]⟩ H.out rfl (by decide) (by decide +kernel) (by decide +kernel) (by decide +kernel))
  clear h
  go_wp2_with fail
  (with_reducible refine K1.out.mono ?_)
  rintro e w10 ⟨rfl, c10, h⟩
  replace H := Lib.hid h
  have TK := Lib.hid (ltake h)
  clear h K1
  go_wp2_with fail
  (with_reducible refine TK.out.mono ?_)
  rintro e w11 ⟨v11, rfl, c11, h, hv, _, _⟩
  replace H := Lib.hid h
  obtain ⟨va, vc, hve⟩ := hv.len
  subst hve
  obtain ⟨W12, hW12⟩ : ∃ W, W = (w11.alloc (.cells #[.int .u64 7, .int .u64 9] 30)).alloc (.cells #[.int .i64 5, .int .i64 0, .slice (some ⟨w11.heap.size, 0, none⟩) 2 2, .int .i64 6, .int .i64 7, .slice none 0 0] 49) := ⟨_, rfl⟩
  obtain ⟨ra, rb, oo⟩ := two_new17 w11 30 49 #[.int .u64 7, .int .u64 9] #[.int .i64 5, .int .i64 0, .slice (some ⟨w11.heap.size, 0, none⟩) 2 2, .int .i64 6, .int .i64 7, .slice none 0 0]
  rw [← hW12] at ra rb oo
  have AL : AR W12 (fun _ => True) (.slice (some ⟨w11.heap.size + 1, 0, none⟩) 2 2) [⟨5, 0, [7, 9]⟩, ⟨6, 7, []⟩] := AR.row (ks := [⟨5, 0, .slice (some ⟨w11.heap.size, 0, none⟩) 2 2⟩, ⟨6, 7, .slice none 0 0⟩]) (ns := [⟨5, 0, [7, 9]⟩, ⟨6, 7, []⟩]) rb
    (((KeptAt.nil W12 _).push (a := ⟨5, 0, .slice (some ⟨w11.heap.size, 0, none⟩) 2 2⟩) (n := ⟨5, 0, [7, 9]⟩) ⟨rfl, rfl, VR.row (l := [7, 9]) ra⟩).push (a := ⟨6, 7, .slice none 0 0⟩) (n := ⟨6, 7, []⟩) ⟨rfl, rfl, VR.none _ _⟩)
  have AN := Lib.hid (show Calls Try.prog 19 #[.slice va 2 vc, .slice (some ⟨w11.heap.size + 1, 0, none⟩) 2 2] W12 (fun e w' => e = .returned (.bool true) ∧ Only none_ W12 w') from
    answers_any _ _ [⟨5, 0, [7, 9]⟩, ⟨6, 7, []⟩] [⟨5, 0, [7, 9]⟩, ⟨6, 7, []⟩] _ _ W12 (hv.still oo) AL (by decide) (by decide) (by decide) (by decide))
  replace H := Lib.hid (H.out.still oo)
  clear h hv AL ra rb oo
  go_wp2_with (go_at_call 19; rw [← hW12]; (with_reducible refine AN.out.mono ?_); rintro e w13 ⟨rfl, o⟩)
  replace H := Lib.hid (H.out.still o)
  clear o AN
  have TK := Lib.hid (ltake H.out)
  go_wp2_with fail
  (with_reducible refine TK.out.mono ?_)
  rintro e w14 ⟨v14, rfl, c14, h, hv, _, _⟩
  replace H := Lib.hid h
  obtain ⟨vb, vd, hve⟩ := hv.len
  subst hve
  have PE := Lib.hid (lpending h)
  clear h hv TK
  go_wp2_with fail
  (with_reducible refine PE.out.mono ?_)
  rintro e w15 ⟨v15, rfl, hv, o⟩
  obtain ⟨vf, vg, hve⟩ := owns_form hv
  rw [sortI_len] at hve
  subst hve
  replace H := Lib.hid (H.out.still o)
  clear hv o PE
  have K1 := Lib.hid (kcancel_no 5 H.out rfl (by decide) rfl)
  go_wp2_with fail
  (with_reducible refine K1.out.mono ?_)
  rintro e w16 ⟨rfl, c16, h⟩
  replace H := Lib.hid h
  clear h K1
  have K1 := Lib.hid (kopen 0 1 1 1 [] H.out rfl (by decide +kernel) (by decide +kernel))
  go_wp2_with fail
  (with_reducible refine K1.out.mono ?_)
  rintro e w17 ⟨rfl, c17, h⟩
  replace H := Lib.hid h
  clear h K1
  go_wp2_with fail
  go_ret
  exact ⟨rfl, H.out.only⟩
end Go.Proofs.Ytoflkeedfgnkhaa
