/- The walk through TallyGrows's own text. -/
import Derived.WalkKit
import Derived.ProofKit
import Derived.OpenShut
import Derived.Below
import Derived.Test.YtofmbipedljdkaaArgs
import Derived.Test.YtofmbipedljdkaaGr18
import Derived.Deep.Cut
import Derived.Deep.DeepCutAuto
import Derived.Deep.RegionHeld3
namespace Go.Proofs.Ytofmbipedljdkaa.tallyGrows
open Go.ChangeShapes Go.WideShapes Go.ChangeAt Go.RowKit
set_option linter.unusedVariables false


set_option maxHeartbeats 2000000 in
set_option maxRecDepth 100000 in
theorem walk (w : World) (ad0 : Option Addr) (len0 cap0 : Nat) (xs0 : List No) (max0 : len0 ≤ maxLen) (el0 : xs0.length = len0) (hold0 : Holds w ad0 2 No.cells xs0) (wf0 : ∀ x ∈ xs0, x.Wf) :
    Calls Try.prog 5 #[.slice ad0 len0 cap0] w fun e w' => e = .returned (.bool true) ∧ Below w.heap.size w w' := by
  subst el0
  have HX := Lib.hid hold0
  have WX := Lib.hid wf0
  clear hold0 wf0
  go_enter Try.func5, Try.ntmps5
  go_wp2_with fail
  (with_reducible refine (awake_any _).mono ?_)
  rintro e w1 ⟨rfl, o1⟩
  have O1 := Lib.hid o1
  have L1 := Lib.hid o1.size
  clear o1
  go_wp2_with fail
  go_loopw [4] (fun i wr => ∃ (k : Nat) (t : Ta), i = .int .i64 k ∧ k ≤ xs0.length ∧ k ≤ 200 ∧ t.Wf ∧ t.Sums ∧ Only none_ w wr ∧ Row wr w1.heap.size 24 t.cs) (fun i _ => 200 - (intOf i).toNat)
  case atStart => exact ⟨0, ⟨fun _ => 0⟩, rfl, by omega, by omega, fun _ => by show (0 : Nat) < _; omega, Ta.zero_sums, O1.out.alloc _, Row.fresh _ _ _⟩
  case round =>
    obtain ⟨k, t, rfl, hk, h2, ht, hs, o, r⟩ := hrel
    have O := Lib.hid o
    have R := Lib.hid r
    have HT := Lib.hid ht
    have HS := Lib.hid hs
    clear o r ht hs
    have END_ : True := trivial
    by_cases h200 : k < 200
    · have t2 : decide ((k : Int) < 200) = true := decide_eq_true (by omega)
      by_cases hlt : k < xs0.length
      · have t1 : decide (k < xs0.length) = true := decide_eq_true hlt
        obtain ⟨x, hx⟩ : ∃ x, xs0[k]? = some x := ⟨_, List.getElem?_eq_getElem hlt⟩
        obtain ⟨b, o, rfl, hbl, c0, c1⟩ := note_at HX.out (O.out.below (Nat.le_refl _) (fun _ _ s => s)) hx
        have wx := Lib.hid (WX.out x (List.mem_of_getElem? hx))
        clear hx
        go_upto_region 8 with fail
        have O2 := Lib.hid (O.out.alloc (.cells #[.int .i64 x.k, .int .u64 x.n] 26))
        have R2 := Lib.hid (R.out.alloc (.cells #[.int .i64 x.k, .int .u64 x.n] 26))
        have X2 := Lib.hid (Row.fresh wr 26 #[.int .i64 x.k, .int .u64 x.n])
        clear O R c0 c1 hbl
        have wx' : x.n < 18446744073709551616 := wx.out
        clear wx
        generalize wr.alloc (.cells #[.int .i64 x.k, .int .u64 x.n] 26) = wa at *
        generalize wr.heap.size = nx at *
        generalize x.k = kx at *
        generalize x.n = n at *
        obtain ⟨d0, d1⟩ := X2.out.two
        by_cases k1 : kx < 1
        · go_wp2_with fail
          go_roundw
          case rel => exact ⟨k + 1, t, by go_num, by omega, by omega, HT.out, HS.out, O2.out, R2.out⟩
          case measure => simp [intOf]; omega
        by_cases k9 : 9 < kx
        · go_wp2_with fail
          go_roundw
          case rel => exact ⟨k + 1, t, by go_num, by omega, by omega, HT.out, HS.out, O2.out, R2.out⟩
          case measure => simp [intOf]; omega
        by_cases k5 : kx = 5
        · go_wp2_with fail
          go_roundw
          case rel => exact ⟨k + 1, t, by go_num, by omega, by omega, HT.out, HS.out, O2.out, R2.out⟩
          case measure => simp [intOf]; omega
        obtain ⟨q, rfl⟩ : ∃ q : Nat, kx = q := ⟨kx.toNat, by omega⟩
        have q1 : 1 ≤ q := by omega
        have q9 : q ≤ 9 := by omega
        have q5 : q ≠ 5 := by omega
        have GR := Lib.hid (grows HT.out HS.out (n := n) q1 q9 q5)
        have A1 := fun w => addk_any t HT.out q n wx' w
        have A2 := fun w => addk_any (t.more q n) (Ta.more_wf HT.out _ _) (headOf q : Nat) n wx' w
        have hv := Ta.more_wf (Ta.more_wf HT.out q n) (headOf q : Nat) n
        rw [show codeA q = 0 by unfold codeA; rw [if_pos (by omega)]] at A1
        rw [show codeA (headOf q : Nat) = 0 by unfold codeA headOf; rw [if_pos (by split <;> omega)]] at A2
        obtain ⟨hd, z, eh, ez, hh⟩ : ∃ (h : Nat) (z : Int), headOf q = h ∧ (h : Int) = z ∧ (5 < q ∧ z = 5 ∨ ¬ 5 < q ∧ z = 0) := ⟨headOf q, _, rfl, rfl, by unfold headOf; by_cases c : 5 < q <;> simp [c]⟩
        rw [eh, ez] at A2 GR hv
        have CT := Lib.hid (fun w => counts_any t w)
        generalize t.more q n = m at *
        generalize hvv : m.more z n = v at *
        have CV := Lib.hid (fun w => counts_any v w)
        have HE := Lib.hid (fun w => isheld_any v w)
        have SO : ∀ w, Calls Try.prog 15 #[v.val, .int .u64 0, .int .u64 0] w fun e w' => e = .returned (.tuple #[.bool v.adds, .bool (v.gone 0 0)]) ∧ Only none_ w w' := fun w => sound_any v hv 0 0 (by omega) (by omega) w
        have HV := Lib.hid hv
        have SO := Lib.hid SO
        clear hv hvv
        rcases hh with ⟨hq, rfl⟩ | ⟨hq, rfl⟩
        all_goals
          have A1 := Lib.hid A1
          have A2 := Lib.hid A2
          obtain ⟨c0, c1, c2, c3, c4, c5, c6, c7, c8, c9⟩ := R2.out.ten
          go_upto_region 13 with fail
          go_wp2_with fail
          (with_reducible refine (CT.out _).mono ?_)
          rintro e w2 ⟨rfl, o⟩
          have O3 := Lib.hid ((O2.out.same o).alloc (.cells #[.int .u64 (t.n 0), .int .u64 (t.n 1), .int .u64 (t.n 2), .int .u64 (t.n 3), .int .u64 (t.n 4), .int .u64 (t.n 5), .int .u64 (t.n 6), .int .u64 (t.n 7), .int .u64 (t.n 8), .int .u64 (t.n 9)] 31))
          have R3 := Lib.hid ((o.still R2.out).alloc (.cells #[.int .u64 (t.n 0), .int .u64 (t.n 1), .int .u64 (t.n 2), .int .u64 (t.n 3), .int .u64 (t.n 4), .int .u64 (t.n 5), .int .u64 (t.n 6), .int .u64 (t.n 7), .int .u64 (t.n 8), .int .u64 (t.n 9)] 31))
          have X3 := Lib.hid ((o.still X2.out).alloc (.cells #[.int .u64 (t.n 0), .int .u64 (t.n 1), .int .u64 (t.n 2), .int .u64 (t.n 3), .int .u64 (t.n 4), .int .u64 (t.n 5), .int .u64 (t.n 6), .int .u64 (t.n 7), .int .u64 (t.n 8), .int .u64 (t.n 9)] 31))
          have P3 := Lib.hid (Row.fresh w2 31 #[.int .u64 (t.n 0), .int .u64 (t.n 1), .int .u64 (t.n 2), .int .u64 (t.n 3), .int .u64 (t.n 4), .int .u64 (t.n 5), .int .u64 (t.n 6), .int .u64 (t.n 7), .int .u64 (t.n 8), .int .u64 (t.n 9)])
          clear o O2 R2 X2 d0 d1 c0 c1 c2 c3 c4 c5 c6 c7 c8 c9 CT
          go_upto_region 14 with fail
          generalize w2.alloc (.cells #[.int .u64 (t.n 0), .int .u64 (t.n 1), .int .u64 (t.n 2), .int .u64 (t.n 3), .int .u64 (t.n 4), .int .u64 (t.n 5), .int .u64 (t.n 6), .int .u64 (t.n 7), .int .u64 (t.n 8), .int .u64 (t.n 9)] 31) = w3 at *
          generalize w2.heap.size = n8 at *
          obtain ⟨c0, c1, c2, c3, c4, c5, c6, c7, c8, c9⟩ := R3.out.ten
          obtain ⟨d0, d1⟩ := X3.out.two
          go_wp2_with fail
          (with_reducible refine (A1.out _).mono ?_)
          rintro e w4 ⟨rfl, o⟩
          have O4 := Lib.hid ((O3.out.same o).alloc (.cells #[.int .u64 (m.n 0), .int .u64 (m.n 1), .int .u64 (m.n 2), .int .u64 (m.n 3), .int .u64 (m.n 4), .int .u64 (m.n 5), .int .u64 (m.n 6), .int .u64 (m.n 7), .int .u64 (m.n 8), .int .u64 (m.n 9)] 24))
          have R4 := Lib.hid ((o.still R3.out).alloc (.cells #[.int .u64 (m.n 0), .int .u64 (m.n 1), .int .u64 (m.n 2), .int .u64 (m.n 3), .int .u64 (m.n 4), .int .u64 (m.n 5), .int .u64 (m.n 6), .int .u64 (m.n 7), .int .u64 (m.n 8), .int .u64 (m.n 9)] 24))
          have X4 := Lib.hid ((o.still X3.out).alloc (.cells #[.int .u64 (m.n 0), .int .u64 (m.n 1), .int .u64 (m.n 2), .int .u64 (m.n 3), .int .u64 (m.n 4), .int .u64 (m.n 5), .int .u64 (m.n 6), .int .u64 (m.n 7), .int .u64 (m.n 8), .int .u64 (m.n 9)] 24))
          have P4 := Lib.hid ((o.still P3.out).alloc (.cells #[.int .u64 (m.n 0), .int .u64 (m.n 1), .int .u64 (m.n 2), .int .u64 (m.n 3), .int .u64 (m.n 4), .int .u64 (m.n 5), .int .u64 (m.n 6), .int .u64 (m.n 7), .int .u64 (m.n 8), .int .u64 (m.n 9)] 24))
          have M4 := Lib.hid (Row.fresh w4 24 #[.int .u64 (m.n 0), .int .u64 (m.n 1), .int .u64 (m.n 2), .int .u64 (m.n 3), .int .u64 (m.n 4), .int .u64 (m.n 5), .int .u64 (m.n 6), .int .u64 (m.n 7), .int .u64 (m.n 8), .int .u64 (m.n 9)])
          clear o O3 R3 X3 P3 d0 d1 c0 c1 c2 c3 c4 c5 c6 c7 c8 c9 A1
          go_upto_region 15 with fail
          generalize w4.alloc (.cells #[.int .u64 (m.n 0), .int .u64 (m.n 1), .int .u64 (m.n 2), .int .u64 (m.n 3), .int .u64 (m.n 4), .int .u64 (m.n 5), .int .u64 (m.n 6), .int .u64 (m.n 7), .int .u64 (m.n 8), .int .u64 (m.n 9)] 24) = w5 at *
          generalize w4.heap.size = n9 at *
          obtain ⟨c0, c1, c2, c3, c4, c5, c6, c7, c8, c9⟩ := M4.out.ten
          obtain ⟨d0, d1⟩ := X4.out.two
          go_wp2_with fail
          (with_reducible refine (A2.out _).mono ?_)
          rintro e w6 ⟨rfl, o⟩
          have O5 := Lib.hid ((O4.out.same o).alloc (.cells #[.int .u64 (v.n 0), .int .u64 (v.n 1), .int .u64 (v.n 2), .int .u64 (v.n 3), .int .u64 (v.n 4), .int .u64 (v.n 5), .int .u64 (v.n 6), .int .u64 (v.n 7), .int .u64 (v.n 8), .int .u64 (v.n 9)] 24))
          have R5 := Lib.hid ((o.still R4.out).alloc (.cells #[.int .u64 (v.n 0), .int .u64 (v.n 1), .int .u64 (v.n 2), .int .u64 (v.n 3), .int .u64 (v.n 4), .int .u64 (v.n 5), .int .u64 (v.n 6), .int .u64 (v.n 7), .int .u64 (v.n 8), .int .u64 (v.n 9)] 24))
          have P5 := Lib.hid ((o.still P4.out).alloc (.cells #[.int .u64 (v.n 0), .int .u64 (v.n 1), .int .u64 (v.n 2), .int .u64 (v.n 3), .int .u64 (v.n 4), .int .u64 (v.n 5), .int .u64 (v.n 6), .int .u64 (v.n 7), .int .u64 (v.n 8), .int .u64 (v.n 9)] 24))
          have V5 := Lib.hid (Row.fresh w6 24 #[.int .u64 (v.n 0), .int .u64 (v.n 1), .int .u64 (v.n 2), .int .u64 (v.n 3), .int .u64 (v.n 4), .int .u64 (v.n 5), .int .u64 (v.n 6), .int .u64 (v.n 7), .int .u64 (v.n 8), .int .u64 (v.n 9)])
          have lt5 := Lib.hid (show w1.heap.size < w6.heap.size from (o.still R4.out).lt)
          clear o O4 R4 X4 P4 M4 d0 d1 c0 c1 c2 c3 c4 c5 c6 c7 c8 c9 A2
          go_upto_region 16 with fail
          generalize w6.alloc (.cells #[.int .u64 (v.n 0), .int .u64 (v.n 1), .int .u64 (v.n 2), .int .u64 (v.n 3), .int .u64 (v.n 4), .int .u64 (v.n 5), .int .u64 (v.n 6), .int .u64 (v.n 7), .int .u64 (v.n 8), .int .u64 (v.n 9)] 24) = w7 at *
          generalize w6.heap.size = n11 at *
          obtain ⟨c0, c1, c2, c3, c4, c5, c6, c7, c8, c9⟩ := V5.out.ten
          go_wp2_with fail
          (with_reducible refine (HE.out _).mono ?_)
          rintro e w8 ⟨rfl, o⟩
          have O6 := Lib.hid (O5.out.same o)
          have R6 := Lib.hid (o.still R5.out)
          have P6 := Lib.hid (o.still P5.out)
          have V6 := Lib.hid (o.still V5.out)
          clear o O5 R5 P5 V5 c0 c1 c2 c3 c4 c5 c6 c7 c8 c9 HE
          obtain ⟨bh, hb⟩ : ∃ bh, v.isHeld = bh := ⟨_, rfl⟩
          rw [hb]
          have GB := Lib.hid (fun e : bh = false => GR.out (hb.trans e))
          clear hb GR
          cases bh
          case true =>
            go_wp2_with fail
            go_ret
            exact ⟨rfl, O6.out.to_below⟩
          case false =>
            have G := Lib.hid (GB.out rfl)
            clear GB
            have SO := SO.out
            rw [G.out.adds, G.out.gone] at SO
            have SO := Lib.hid SO
            obtain ⟨c0, c1, c2, c3, c4, c5, c6, c7, c8, c9⟩ := V6.out.ten
            go_wp2_with fail
            (with_reducible refine (CV.out _).mono ?_)
            rintro e w9 ⟨rfl, o⟩
            have O7 := Lib.hid ((O6.out.same o).alloc (.cells #[.int .u64 (v.n 0), .int .u64 (v.n 1), .int .u64 (v.n 2), .int .u64 (v.n 3), .int .u64 (v.n 4), .int .u64 (v.n 5), .int .u64 (v.n 6), .int .u64 (v.n 7), .int .u64 (v.n 8), .int .u64 (v.n 9)] 31))
            have R7 := Lib.hid ((o.still R6.out).alloc (.cells #[.int .u64 (v.n 0), .int .u64 (v.n 1), .int .u64 (v.n 2), .int .u64 (v.n 3), .int .u64 (v.n 4), .int .u64 (v.n 5), .int .u64 (v.n 6), .int .u64 (v.n 7), .int .u64 (v.n 8), .int .u64 (v.n 9)] 31))
            have P7 := Lib.hid ((o.still P6.out).alloc (.cells #[.int .u64 (v.n 0), .int .u64 (v.n 1), .int .u64 (v.n 2), .int .u64 (v.n 3), .int .u64 (v.n 4), .int .u64 (v.n 5), .int .u64 (v.n 6), .int .u64 (v.n 7), .int .u64 (v.n 8), .int .u64 (v.n 9)] 31))
            have V7 := Lib.hid ((o.still V6.out).alloc (.cells #[.int .u64 (v.n 0), .int .u64 (v.n 1), .int .u64 (v.n 2), .int .u64 (v.n 3), .int .u64 (v.n 4), .int .u64 (v.n 5), .int .u64 (v.n 6), .int .u64 (v.n 7), .int .u64 (v.n 8), .int .u64 (v.n 9)] 31))
            have C7 := Lib.hid (Row.fresh w9 31 #[.int .u64 (v.n 0), .int .u64 (v.n 1), .int .u64 (v.n 2), .int .u64 (v.n 3), .int .u64 (v.n 4), .int .u64 (v.n 5), .int .u64 (v.n 6), .int .u64 (v.n 7), .int .u64 (v.n 8), .int .u64 (v.n 9)])
            clear o O6 R6 P6 V6 c0 c1 c2 c3 c4 c5 c6 c7 c8 c9 CV
            go_upto_region 21 with fail
            generalize w9.alloc (.cells #[.int .u64 (v.n 0), .int .u64 (v.n 1), .int .u64 (v.n 2), .int .u64 (v.n 3), .int .u64 (v.n 4), .int .u64 (v.n 5), .int .u64 (v.n 6), .int .u64 (v.n 7), .int .u64 (v.n 8), .int .u64 (v.n 9)] 31) = w10 at *
            generalize w9.heap.size = n13 at *
            go_wp2_with fail
            go_loopw [14] (fun i wr => ∃ j : Nat, i = .int .i64 j ∧ j ≤ 10 ∧ Only none_ w wr ∧ Row wr w1.heap.size 24 t.cs ∧ Row wr n8 31 t.cs ∧ Row wr n11 24 v.cs ∧ Row wr n13 31 v.cs) (fun i _ => 10 - (intOf i).toNat)
            case atStart => exact ⟨0, rfl, by omega, O7.out, R7.out, P7.out, V7.out, C7.out⟩
            case round =>
              obtain ⟨j, rfl, hj, oj, rj, pj, vj, cj⟩ := hrel
              have OJ := Lib.hid oj
              have RJ := Lib.hid rj
              have PJ := Lib.hid pj
              have VJ := Lib.hid vj
              have CJ := Lib.hid cj
              clear oj rj pj vj cj O7 R7 P7 V7 C7
              by_cases hlt : j < 10
              · have up := G.out.up j hlt
                have sm := G.out.same j hlt
                have cn := (CJ.out.cell j).trans (Ta.cs_get v j hlt)
                have cw := (PJ.out.cell j).trans (Ta.cs_get t j hlt)
                have l13 := CJ.out.lt
                have l8 := PJ.out.lt
                generalize v.n j = nj at *
                generalize t.n j = tj at *
                have cn' : ∀ i : After wr, i.val.cell? ⟨n13, j, none⟩ = some (.int .u64 nj) := fun i => i.only.cell cn (fun s => s)
                have cw' : ∀ i : After wr, i.val.cell? ⟨n8, j, none⟩ = some (.int .u64 tj) := fun i => i.only.cell cw (fun s => s)
                clear cn cw
                by_cases e : nj = tj
                · subst e
                  clear up sm
                  go_upto_region 24 with fail
                  refine wp_region_after (w0 := wr) (by kernel_rfl) (lex_from lexGrows (by kernel_rfl)) (Only.refl _ _) ?_
                  repeat (go_big_quiet_step (fail))
                  refine wpQuiet_nil ?_
                  intro wz hw'
                  obtain ⟨i1, e1⟩ := hw'
                  have oz := i1.only
                  rw [← e1] at oz
                  clear e1 i1 cn' cw'
                  go_wp2_with fail
                  go_roundw
                  case rel => exact ⟨j + 1, by go_num, by omega, OJ.out.same oz, oz.still RJ.out, oz.still PJ.out, oz.still VJ.out, oz.still CJ.out⟩
                  case measure => simp [intOf]; omega
                · have nlt : decide ((nj : Int) < tj) = false := decide_eq_false (by omega)
                  have nne : ((nj : Int) == tj) = false := by simpa using (show ¬ (nj : Int) = tj by omega)
                  have nn2 : ¬ (nj : Int) = tj := by omega
                  have nl2 : ¬ nj < tj := by omega
                  have nn3 : ((nj : Int) != tj) = true := by rw [bne, nne]; rfl
                  have nn4 : (nj == tj) = false := by simpa using e
                  have nn5 : (nj != tj) = true := by rw [bne, nn4]; rfl
                  have nn6 : decide ((nj : Int) = tj) = false := decide_eq_false nn2
                  have nn7 : decide (nj = tj) = false := decide_eq_false e
                  have nl3 : ¬ (nj : Int) < tj := by omega
                  have nl4 : tj ≤ nj := by omega
                  by_cases jq : j = q
                  · subst jq
                    clear sm up
                    go_upto_region 24 with fail
                    refine wp_region_after (w0 := wr) (by kernel_rfl) (lex_from lexGrows (by kernel_rfl)) (Only.refl _ _) ?_
                    repeat (go_big_quiet_step (fail))
                    refine wpQuiet_nil ?_
                    intro wz hw'
                    obtain ⟨i1, e1⟩ := hw'
                    have oz := i1.only
                    rw [← e1] at oz
                    clear e1 i1 cn' cw'
                    go_wp2_with fail
                    go_roundw
                    case rel => exact ⟨j + 1, by go_num, by omega, OJ.out.same oz, oz.still RJ.out, oz.still PJ.out, oz.still VJ.out, oz.still CJ.out⟩
                    case measure => simp [intOf]; omega
                  · have jh : j = headOf q := Decidable.byContradiction fun h => e (sm jq h)
                    have jq' : ¬ (j : Int) = q := by omega
                    unfold headOf at jh
                    first
                      | (have jn : j = 5 := by split at jh <;> omega
                         have m3 : ¬ (5 : Int) = q := by omega
                         have m1 : ((5 : Int) == (q : Int)) = false := by simpa using m3
                         have m2 : ((5 : Int) != (q : Int)) = true := by rw [bne, m1]; rfl
                         have m4 : ¬ 5 = q := by omega
                         have m5 : (5 == q) = false := by simpa using m4
                         have m6 : (5 != q) = true := by rw [bne, m5]; rfl)
                      | (have jn : j = 0 := by split at jh <;> omega
                         have m3 : ¬ (0 : Int) = q := by omega
                         have m1 : ((0 : Int) == (q : Int)) = false := by simpa using m3
                         have m2 : ((0 : Int) != (q : Int)) = true := by rw [bne, m1]; rfl
                         have m4 : ¬ 0 = q := by omega
                         have m5 : (0 == q) = false := by simpa using m4
                         have m6 : (0 != q) = true := by rw [bne, m5]; rfl)
                    clear sm up jq jh
                    subst jn
                    go_upto_region 24 with fail
                    refine wp_region_after (w0 := wr) (by kernel_rfl) (lex_from lexGrows (by kernel_rfl)) (Only.refl _ _) ?_
                    repeat (go_big_quiet_step (fail))
                    refine wpQuiet_nil ?_
                    intro wz hw'
                    obtain ⟨i1, e1⟩ := hw'
                    have oz := i1.only
                    rw [← e1] at oz
                    clear e1 i1 cn' cw'
                    go_wp2_with fail
                    go_roundw
                    case rel => first | exact ⟨6, by go_num, by omega, OJ.out.same oz, oz.still RJ.out, oz.still PJ.out, oz.still VJ.out, oz.still CJ.out⟩ | exact ⟨1, by go_num, by omega, OJ.out.same oz, oz.still RJ.out, oz.still PJ.out, oz.still VJ.out, oz.still CJ.out⟩
                    case measure => simp [intOf] <;> omega
              · have ej : j = 10 := by omega
                subst ej
                obtain ⟨c0, c1, c2, c3, c4, c5, c6, c7, c8, c9⟩ := VJ.out.ten
                go_wp2_with fail
                (with_reducible refine (SO.out _).mono ?_)
                rintro e w12 ⟨rfl, o⟩
                have O8 := Lib.hid (OJ.out.same o)
                have R8 := Lib.hid (o.still RJ.out)
                have V8 := Lib.hid (o.still VJ.out)
                clear c0 c1 c2 c3 c4 c5 c6 c7 c8 c9 o OJ RJ PJ VJ CJ SO
                obtain ⟨c0, c1, c2, c3, c4, c5, c6, c7, c8, c9⟩ := V8.out.ten
                obtain ⟨d0, d1, d2, d3, d4, d5, d6, d7, d8, d9⟩ := R8.out.ten
                have zf := R8.out.frozen
                go_upto_region 6 with fail
                have oo := only_ten w12 w1.heap.size (v.n 0) (v.n 1) (v.n 2) (v.n 3) (v.n 4) (v.n 5) (v.n 6) (v.n 7) (v.n 8) (v.n 9)
                have R9 := Lib.hid (R8.out.put_ten (.int .u64 (v.n 0)) (.int .u64 (v.n 1)) (.int .u64 (v.n 2)) (.int .u64 (v.n 3)) (.int .u64 (v.n 4)) (.int .u64 (v.n 5)) (.int .u64 (v.n 6)) (.int .u64 (v.n 7)) (.int .u64 (v.n 8)) (.int .u64 (v.n 9)))
                have O9 := Lib.hid (O8.out.trans (oo.more (S' := fun k => w.heap.size ≤ k) (fun _ _ e => by rw [e]; exact L1.out)) (fun i hi s => absurd hi (by omega)))
                clear oo zf c0 c1 c2 c3 c4 c5 c6 c7 c8 c9 d0 d1 d2 d3 d4 d5 d6 d7 d8 d9
                generalize ((((((((((w12.setCell ⟨w1.heap.size, 0, none⟩ (.int .u64 (v.n 0))).setCell ⟨w1.heap.size, 1, none⟩ (.int .u64 (v.n 1))).setCell ⟨w1.heap.size, 2, none⟩ (.int .u64 (v.n 2))).setCell ⟨w1.heap.size, 3, none⟩ (.int .u64 (v.n 3))).setCell ⟨w1.heap.size, 4, none⟩ (.int .u64 (v.n 4))).setCell ⟨w1.heap.size, 5, none⟩ (.int .u64 (v.n 5))).setCell ⟨w1.heap.size, 6, none⟩ (.int .u64 (v.n 6))).setCell ⟨w1.heap.size, 7, none⟩ (.int .u64 (v.n 7))).setCell ⟨w1.heap.size, 8, none⟩ (.int .u64 (v.n 8))).setCell ⟨w1.heap.size, 9, none⟩ (.int .u64 (v.n 9))) = w13 at *
                go_wp2_with fail
                go_roundw
                case rel => exact ⟨k + 1, v, by go_num, by omega, by omega, HV.out, G.out.sums, O9.out, R9.out⟩
                case measure => simp [intOf]; omega
      · have t1 : decide (k < xs0.length) = false := decide_eq_false hlt
        go_wp2_with fail
        go_ret
        exact ⟨rfl, O.out.to_below⟩
    · have t2 : decide ((k : Int) < 200) = false := decide_eq_false (by omega)
      by_cases hlt : k < xs0.length
      · have t1 : decide (k < xs0.length) = true := decide_eq_true hlt
        go_wp2_with fail
        go_ret
        exact ⟨rfl, O.out.to_below⟩
      · have t1 : decide (k < xs0.length) = false := decide_eq_false hlt
        go_wp2_with fail
        go_ret
        exact ⟨rfl, O.out.to_below⟩



end Go.Proofs.Ytofmbipedljdkaa.tallyGrows
