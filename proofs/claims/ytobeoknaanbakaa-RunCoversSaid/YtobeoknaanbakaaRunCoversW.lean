/- The walk through RunCovers's own text. -/
import Derived.WalkKit
import Derived.ProofKit
import Derived.OpenShut
import Derived.Below
import Derived.Test.YtobeoknaanbakaaArgs
import Derived.Test.YtobeoknaanbakaaRunAw
import Derived.Test.YtobeoknaanbakaaRc
import Derived.Test.YtobeoknaanbakaaRmM
import Derived.Test.YtobeoknaanbakaaActs13
import Derived.Deep.RegionHeld3
namespace Go.Proofs.Ytobeoknaanbakaa.runCovers
open Go.ChangeShapes Go.WideShapes Go.ChangeAt Go.RowKit
set_option linter.unusedVariables false


theorem coverL_le (xs : List Int) (most : Int) : (coverL xs most).length ≤ 256 := by
  unfold coverL
  by_cases h : mayMost most ∧ allB xs
  · rw [if_pos h]; exact (cov_bd (hasB xs) most 256).2
  · rw [if_neg h]; exact Nat.zero_le _
theorem blocks_le (r : Rn) : (blocksOf r).length ≤ 256 := by
  have := below_le r 256
  rwa [below_all] at this
theorem four_ {w : World} {g : Nat} {t : TypeId} {a b c d : Value} (h : Row w g t #[a, b, c, d]) : w.cell? ⟨g, 0, none⟩ = some a ∧ w.cell? ⟨g, 1, none⟩ = some b ∧ w.cell? ⟨g, 2, none⟩ = some c ∧ w.cell? ⟨g, 3, none⟩ = some d := h.four
set_option maxHeartbeats 1000000 in
set_option maxRecDepth 100000 in
theorem walk (w : World) (ad0 : Option Addr) (len0 cap0 : Nat) (xs0 : List Int) (max0 : len0 ≤ maxLen) (el0 : xs0.length = len0) (hold0 : Holds w ad0 1 one xs0) (wf0 : ∀ x ∈ xs0, True) (most : Int) (wm : (Lit.int .i64 most).wf = true) (t : Two1) (wt : t.Wf) :
    Calls Try.prog 4 #[.slice ad0 len0 cap0, .int .i64 most, t.val] w fun e w' => e = .returned (.bool true) ∧ Below w.heap.size w w' := by
  subst el0
  have RX := Lib.hid (Reads.of_holds (cap := cap0) hold0)
  clear hold0 wf0 max0 wm wt
  by_cases h0 : 300 < xs0.length
  · have t0 : decide ((300 : Int) < (xs0.length : Int)) = true := decide_eq_true (by omega)
    have t0' : decide (300 < xs0.length) = true := decide_eq_true h0
    clear h0
    go_enter Try.func4, Try.ntmps4
    go_wp2_with fail
    have O0 := Lib.hid ((Only.refl none_ w).alloc (.cells #[.int .i64 t.a.f, .int .i64 t.a.c, .int .i64 t.b.f, .int .i64 t.b.c] 32))
    (with_reducible refine (awake_any _).mono ?_)
    rintro e w1 ⟨rfl, o⟩
    have O1 := Lib.hid (O0.out.same o)
    clear o O0
    go_wp2_with fail
    go_ret
    exact ⟨rfl, O1.out.to_below13⟩
  have t0 : decide ((300 : Int) < (xs0.length : Int)) = false := decide_eq_false (by omega)
  have t0' : decide (300 < xs0.length) = false := decide_eq_false h0
  have CA := Lib.hid (fun (w' : World) (o : Only none_ w w') => cover_any _ xs0 most w' (RX.out.still o) (by omega))
  have RA := Lib.hid (fun (w' : World) (o : Only none_ w w') => rcover_any _ xs0 most w' (RX.out.still o) (by omega))
  have LL := Lib.hid (coverL_le xs0 most)
  generalize coverL xs0 most = L at *
  generalize coverC xs0 most = C at *
  obtain ⟨a, b⟩ := t
  dsimp only [Two1.val]
  have MA := Lib.hid (fun w' => meet_any a b w')
  have MB := Lib.hid (fun w' => rmeet_any a b w')
  generalize meet a b = m at *
  have BA := Lib.hid (fun w' => blocks_any a w')
  have BB := Lib.hid (fun w' => rblocks_any a w')
  have BL := Lib.hid (blocks_le a)
  generalize blocksOf a = bl at *
  unfold Rn.val at MA MB BA BB
  have er := fun w => eq_rn m m w
  simp only [decide_true] at er
  have cc : (C == C) = true := by simp
  clear h0
  go_enter Try.func4, Try.ntmps4
  go_wp2_with fail
  have X0 := Lib.hid (Row.fresh w 32 #[.int .i64 a.f, .int .i64 a.c, .int .i64 b.f, .int .i64 b.c])
  have O0 := Lib.hid ((Only.refl none_ w).alloc (.cells #[.int .i64 a.f, .int .i64 a.c, .int .i64 b.f, .int .i64 b.c] 32))
  revert X0 O0
  generalize w.alloc (.cells #[.int .i64 a.f, .int .i64 a.c, .int .i64 b.f, .int .i64 b.c] 32) = W1
  generalize hg : w.heap.size = g
  intro X0 O0
  have GW := Lib.hid hg
  clear hg
  (with_reducible refine (awake_any _).mono ?_)
  rintro e w1 ⟨rfl, o⟩
  have X1 := Lib.hid (o.still X0.out)
  have O1 := Lib.hid (O0.out.same o)
  clear o X0 O0
  go_wp2_with fail
  (with_reducible refine (CA.out _ O1.out).mono ?_)
  rintro e w2 ⟨v1, rfl, h1, o⟩
  have X2 := Lib.hid (o.still X1.out)
  have V2 := Lib.hid (ReadsR.of_owns h1)
  have O2 := Lib.hid (O1.out.same o)
  clear o X1 O1 h1
  go_wp2_with fail
  (with_reducible refine (RA.out _ O2.out).mono ?_)
  rintro e w3 ⟨v2, rfl, h2, o⟩
  have X3 := Lib.hid (o.still X2.out)
  have V3 := Lib.hid (V2.out.still o)
  have U3 := Lib.hid (ReadsR.of_owns h2)
  have O3 := Lib.hid (O2.out.same o)
  clear o X2 O2 h2 V2
  go_wp2_with fail
  have ND := Lib.hid (Only.refl none_ w3).drew
  have KK := Lib.hid (fun (w' : World) (o : Only none_ w3 w') => (o.still X3.out).four)
  obtain ⟨x0, x1, x2, x3⟩ := KK.out _ ND.out
  have SA := Lib.hid (fun (w' : World) (o : Only none_ w3 w') => by
    have := same_any v1 v2 L L w' (V3.out.still o) (U3.out.still o) (by have := LL.out; omega) (by have := LL.out; omega)
    rw [decide_eq_true rfl] at this
    exact this)
  have IA := Lib.hid (fun (v u : Value) (w' : World) (h : Reads w' v bl) (k : Reads w' u bl) => by
    have := ints_any v u bl bl w' h k (by have := BL.out; omega) (by have := BL.out; omega)
    rw [decide_eq_true rfl] at this
    exact this)
  clear CA RA RX
  go_region_held3 (fun w' => w'.cell? ⟨g, 0, none⟩ = some (.int .i64 a.f) ∧ w'.cell? ⟨g, 1, none⟩ = some (.int .i64 a.c) ∧ w'.cell? ⟨g, 2, none⟩ = some (.int .i64 b.f) ∧ w'.cell? ⟨g, 3, none⟩ = some (.int .i64 b.c))
    (first
      | (with_reducible exact KK.out _ Q6.out)
      | (with_reducible exact KK.out _ Q5.out)
      | (with_reducible exact KK.out _ Q4.out)
      | (with_reducible exact KK.out _ Q3.out)
      | (with_reducible exact KK.out _ Q2.out)
      | (with_reducible exact KK.out _ Q1.out)
      | (with_reducible exact KK.out _ ND.out)
      | fail)
    (first
      | (go_at_call 12; (with_reducible refine (SA.out _ ND.out).mono ?_); rintro e u1 ⟨rfl, o1⟩; have Q1 := Lib.hid (ND.out.same o1))
      | (go_at_call 13; (with_reducible refine (MA.out _).mono ?_); rintro e u2 ⟨rfl, o2⟩; have Q2 := Lib.hid (Q1.out.same o2))
      | (go_at_call 14; (with_reducible refine (MB.out _).mono ?_); rintro e u3 ⟨rfl, o3⟩; have Q3 := Lib.hid (Q2.out.same o3))
      | (go_at_call 16; (with_reducible refine (BA.out _).mono ?_); rintro e u4 ⟨va, rfl, ra, o4⟩; have Q4 := Lib.hid (Q3.out.same o4); have PA := Lib.hid (Reads.of_owns ra))
      | (go_at_call 17; (with_reducible refine (BB.out _).mono ?_); rintro e u5 ⟨vb, rfl, rb, o5⟩; have Q5 := Lib.hid (Q4.out.same o5); have PB := Lib.hid (Reads.of_owns rb); have PC := Lib.hid (PA.out.still o5))
      | (go_at_call 15; (with_reducible refine (IA.out _ _ _ PC.out PB.out).mono ?_); rintro e u6 ⟨rfl, o6⟩; have Q6 := Lib.hid (Q5.out.same o6))
      | fail)
  all_goals
    go_wp2_with fail
    go_ret
    exact ⟨rfl, (O3.out.same Q6.out).to_below13⟩



end Go.Proofs.Ytobeoknaanbakaa.runCovers
