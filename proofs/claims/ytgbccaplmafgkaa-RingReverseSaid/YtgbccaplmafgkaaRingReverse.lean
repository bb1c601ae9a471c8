/- Proved: the statement RingReverse of layer 6, for every count of nodes and every order, on no condition. -/
import Derived.Test.YtgbccaplmafgkaaRows
import Derived.WalkKit
import Derived.ProofKit
import Derived.OpenShut
import Derived.Below
import Derived.Test.YtgbccaplmafgkaaArgs
import Derived.Test.YtgbccaplmafgkaaLaw6
namespace Go.Proofs.Ytgbccaplmafgkaa.ringReverse
open Go.ChangeShapes Go.WideShapes Go.ChangeAt Go.RowKit
set_option linter.unusedVariables false

theorem own : ownKnob Try.prog.godebug = none := by kernel_rfl
theorem laidOut : laidOutB Try.prog = true := by kernel_rfl

set_option maxHeartbeats 16000000 in
set_option maxRecDepth 100000 in
theorem walk (w : World) (a : Int) (wa : (Lit.int .u8 a).wf = true) (A : Option Addr) (len cap : Nat) (xs : List Int) (hmax : len ≤ maxLen) (hlen : xs.length = len) (hold : Holds w A 1 byteC xs) (hwf : ∀ a ∈ xs, (0 ≤ a ∧ a ≤ 255)) :
    Calls Try.prog 5 #[.int .u8 a, .slice A len cap] w fun e w' => e = .returned (.bool true) ∧ Below w.heap.size w w' := by
  obtain ⟨la, ua⟩ := bd_u8 wa
  clear wa
  unfold maxLen at hmax
  have HL := Lib.hid hlen
  have HO := Lib.hid hold
  have HF := Lib.hid hwf
  clear hlen hold hwf
  obtain ⟨N, hN, n1, n64⟩ := count_of a la
  obtain ⟨i0, hy0, hz0, hz1, hz2⟩ := info_parts info_int8
  have I0 := Lib.hid hy0
  have I1 := Lib.hid hz0
  have I2 := Lib.hid hz1
  have I3 := Lib.hid hz2
  clear hy0 hz0 hz1 hz2
  go_enter Try.func5, Try.ntmps5
  go_wp2_with fail
  (with_reducible refine (awake_any _).mono ?_)
  rintro e w1 ⟨rfl, b1⟩
  have B1 := Lib.hid b1
  clear b1
  go_wp2_with fail
  (with_reducible refine (new_one N _ n1 n64).mono ?_)
  rintro e w2 ⟨p, b, rfl, h, kp, kb, o⟩
  have H2 := Lib.hid (show Lies w2 p b (sec N []) from h)
  have B2 := Lib.hid (Only.below_to B1.out o (Nat.le_refl _) (fun _ _ s => s))
  have kb' : w.heap.size ≤ b := Nat.le_trans B1.out.size kb
  have bb : b < w2.heap.size := h.lt.2
  clear h o kp kb B1
  go_wp2_with fail
  go_loopw [8, 9] (fun v0 i wr => ∃ (j : Nat) (L : List Nat) (v : Value), j ≤ len ∧ j ≤ 200 ∧ i = .int .i64 j ∧ v = v0 ∧ Lies wr p b (sec N L) ∧ OwnsInts wr w2.heap.size v (ints L) ∧ w2.heap.size ≤ wr.heap.size ∧ Below w.heap.size w wr) (fun _ i _ => len - (intOf i).toNat)
  case atStart => exact ⟨0, [], _, Nat.zero_le _, Nat.zero_le _, rfl, rfl, H2.out, Owns.start _ _ _ _ _, Nat.le_refl _, B2.out⟩
  case round =>
    obtain ⟨j, L, v, hj, hj2, rfl, rfl, h, hv, hz, bl⟩ := hrel
    clear H2 B2
    have H := Lib.hid h
    have B := Lib.hid bl
    have V := Lib.hid hv
    have L64 : L.length ≤ 64 := by have := fine_len1 h.fine; exact this
    clear h bl hv
    have t12 : (j < len ∧ j < 200) ∨ (j < len ∧ 200 ≤ j) ∨ len ≤ j := by omega
    rcases t12 with ⟨t1, t2⟩ | t1
    · obtain ⟨x, hx⟩ : ∃ x, xs[j]? = some x := ⟨_, List.getElem?_eq_getElem (by rw [HL.out]; exact t1)⟩
      obtain ⟨sb, so, hA, hsb, c0⟩ := byte_at HO.out B.out hx
      obtain ⟨x0, x255⟩ := HF.out x (List.mem_of_getElem? hx)
      subst hA
      obtain ⟨k, hk, kN⟩ := node_of x N x0 n1
      have nz : ((N : Int) == 0) = false := by simp; omega
      have nz2 : (N : Int) ≠ 0 := by omega
      have nz3 : ¬ N = 0 := by omega
      have FR := Lib.hid (front_one p b N k L wr H.out kN)
      clear hx
      go_wp2_with fail
      rw [hk]
      clear hk x0 x255 c0
      (with_reducible refine (FR.out).mono ?_)
      rintro e w3 ⟨rfl, h3, o3⟩
      have V3 := Lib.hid (V.out.keep o3 (fun g hg q => by have := (V.out.base_le hg).1; omega))
      have H3 := Lib.hid h3
      have B3 := Lib.hid (below_put B.out o3 kb')
      have hz3 : w2.heap.size ≤ w3.heap.size := Nat.le_trans hz o3.size
      have FD := Lib.hid (find_any v _ k w3 (Reads.of_owns V3.out) (by rw [ints_len]; omega))
      clear h3 o3 FR H B V hz
      by_cases hm : k ∈ L
      · have fe := findI_in hm
        rw [fe] at FD
        have hix : L.idxOf k < L.length := List.idxOf_lt_length_of_mem hm
        have W0 := Lib.hid (without_any v (ints L) (L.idxOf k) _ w3 V3.out (by rw [ints_len]; omega) (by rw [ints_len]; exact hix))
        rw [ints_cut, ← erase_take hm] at W0
        have d0 : decide ((0 : Int) ≤ ((L.idxOf k : Nat) : Int)) = true := by simp
        have d1 : decide (0 ≤ L.idxOf k) = true := by simp
        have lx : L.idxOf k ≤ 64 := by omega
        clear fe hm hix
        generalize L.idxOf k = ix at *
        go_wp2_with fail
        (with_reducible refine (FD.out).mono ?_)
        rintro e w' ⟨rfl, rfl⟩
        go_wp2_with fail
        (with_reducible refine (FD.out).mono ?_)
        rintro e w' ⟨rfl, rfl⟩
        go_wp2_with fail
        (with_reducible refine (W0.out).mono ?_)
        rintro e w4 ⟨u, rfl, hu, o4⟩
        have V4 := Lib.hid (hu.lower hz3)
        have H4 := Lib.hid (H3.out.still o4)
        have B4 := Lib.hid (Only.below_to B3.out o4 (Nat.le_refl _) (fun _ _ s => s))
        have hz4 : w2.heap.size ≤ w4.heap.size := Nat.le_trans hz3 o4.size
        have ML := Lib.hid (show (ints (L.erase k)).length ≤ 1000000 by rw [ints_len]; have := List.length_erase_le (a := k) (l := L); omega)
        clear hu o4 W0 FD B3 H3 V3
        rcases own_cases V4.out with ⟨rfl, eq⟩ | ⟨g, cp, rfl, hg, hg2, hcell⟩
        · have O5 := (Only.refl none_ w4).alloc (.cells #[.int .i64 k] 3)
          have RF := Row.fresh w4 3 #[.int .i64 k]
          have V5 := Lib.hid (show OwnsInts (w4.alloc (.cells #[.int .i64 k] 3)) w2.heap.size (.slice (some ⟨w4.heap.size, 0, none⟩) 1 1) (ints (k :: L.erase k)) from by
            rw [ints_cons, eq]
            exact (own_one RF).lower hz4)
          have H5 := Lib.hid (H4.out.still O5)
          have B5 := Lib.hid (Only.below_to B4.out O5 (Nat.le_refl _) (fun _ _ s => s))
          have hz5 : w2.heap.size ≤ (w4.alloc (.cells #[.int .i64 k] 3)).heap.size := Nat.le_trans hz4 O5.size
          clear O5 RF eq ML
          go_wp2_with fail
          go_roundw
          case rel => exact ⟨j + 1, k :: L.erase k, _, by omega, by omega, by go_num, rfl, H5.out, V5.out, hz5, B5.out⟩
          case measure => simp [intOf]; omega
        · have O5 := Lib.hid ((Only.refl none_ w4).alloc (.cells #[.int .i64 k] 3))
          have RF := Lib.hid (Row.fresh w4 3 #[.int .i64 k])
          have HC := Lib.hid (fun a u (ha : ((ints (L.erase k)).map (Value.int .i64))[a]? = some u) => O5.out.cell (hcell a u ha) (fun s => s))
          clear hcell
          go_wp2_with (at_builtin; go_loud (refine wpList_append_front rfl (.tmp 54) (.tmp 55) 36 rfl i0 _ Try.underlying36 I0.out I1.out I2.out I3.out rfl rfl RF.out rfl HC.out ML.out ?_; intro v6 w6 hown6 hO6))
          have O6 := O5.out.trans hO6 (S := none_) (fun i hi q => absurd hi (by omega))
          have V6 := Lib.hid (show OwnsInts w6 w2.heap.size v6 (ints (k :: L.erase k)) from hown6.lower hz4)
          have H6 := Lib.hid (H4.out.still O6)
          have B6 := Lib.hid (Only.below_to B4.out O6 (Nat.le_refl _) (fun _ _ s => s))
          have hz6 : w2.heap.size ≤ w6.heap.size := Nat.le_trans hz4 O6.size
          clear hown6 hO6 O6
          go_wp2_with fail
          go_roundw
          case rel => exact ⟨j + 1, k :: L.erase k, _, by omega, by omega, by go_num, rfl, H6.out, V6.out, hz6, B6.out⟩
          case measure => simp [intOf]; omega
      · have fe := findI_no (fun q => hm (mem_ints.1 q))
        rw [fe] at FD
        have V4 := Lib.hid (show OwnsInts w3 w2.heap.size v (ints (L.erase k)) by rw [erase_not hm]; exact V3.out)
        have ML := Lib.hid (show (ints (L.erase k)).length ≤ 1000000 by rw [ints_len]; have := List.length_erase_le (a := k) (l := L); omega)
        have H4 := H3
        have B4 := B3
        have hz4 := hz3
        clear fe hm
        go_wp2_with fail
        (with_reducible refine (FD.out).mono ?_)
        rintro e w' ⟨rfl, rfl⟩
        clear FD B3 H3 V3
        rcases own_cases V4.out with ⟨rfl, eq⟩ | ⟨g, cp, rfl, hg, hg2, hcell⟩
        · have O5 := (Only.refl none_ w3).alloc (.cells #[.int .i64 k] 3)
          have RF := Row.fresh w3 3 #[.int .i64 k]
          have V5 := Lib.hid (show OwnsInts (w3.alloc (.cells #[.int .i64 k] 3)) w2.heap.size (.slice (some ⟨w3.heap.size, 0, none⟩) 1 1) (ints (k :: L.erase k)) from by
            rw [ints_cons, eq]
            exact (own_one RF).lower hz4)
          have H5 := Lib.hid (H4.out.still O5)
          have B5 := Lib.hid (Only.below_to B4.out O5 (Nat.le_refl _) (fun _ _ s => s))
          have hz5 : w2.heap.size ≤ (w3.alloc (.cells #[.int .i64 k] 3)).heap.size := Nat.le_trans hz4 O5.size
          clear O5 RF eq ML
          go_wp2_with fail
          go_roundw
          case rel => exact ⟨j + 1, k :: L.erase k, _, by omega, by omega, by go_num, rfl, H5.out, V5.out, hz5, B5.out⟩
          case measure => simp [intOf]; omega
        · have O5 := Lib.hid ((Only.refl none_ w3).alloc (.cells #[.int .i64 k] 3))
          have RF := Lib.hid (Row.fresh w3 3 #[.int .i64 k])
          have HC := Lib.hid (fun a u (ha : ((ints (L.erase k)).map (Value.int .i64))[a]? = some u) => O5.out.cell (hcell a u ha) (fun s => s))
          clear hcell
          go_wp2_with (at_builtin; go_loud (refine wpList_append_front rfl (.tmp 54) (.tmp 55) 36 rfl i0 _ Try.underlying36 I0.out I1.out I2.out I3.out rfl rfl RF.out rfl HC.out ML.out ?_; intro v6 w6 hown6 hO6))
          have O6 := O5.out.trans hO6 (S := none_) (fun i hi q => absurd hi (by omega))
          have V6 := Lib.hid (show OwnsInts w6 w2.heap.size v6 (ints (k :: L.erase k)) from hown6.lower hz4)
          have H6 := Lib.hid (H4.out.still O6)
          have B6 := Lib.hid (Only.below_to B4.out O6 (Nat.le_refl _) (fun _ _ s => s))
          have hz6 : w2.heap.size ≤ w6.heap.size := Nat.le_trans hz4 O6.size
          clear hown6 hO6 O6
          go_wp2_with fail
          go_roundw
          case rel => exact ⟨j + 1, k :: L.erase k, _, by omega, by omega, by go_num, rfl, H6.out, V6.out, hz6, B6.out⟩
          case measure => simp [intOf]; omega
    · have LI := list_any p b (sec N L) 1 wr H.out
      rw [show (sec N L).listOf 1 = L from rfl] at LI
      have LI := Lib.hid LI
      have LN := Lib.hid (fun w' (o : Only none_ wr w') => (callsIn_wide (n := 5)).1 (len_in p b (sec N L) 1 w' (H.out.still o)))
      have LL := Lib.hid (show ((sec N L).revL 1).length = L.length from by rw [revL_listOf]; rfl)
      have L0 := Lib.hid (fun w' (o : Only none_ wr w') => list_any p b (sec N L) 0 w' (H.out.still o))
      have IL := Lib.hid (ints_len L)
      obtain ⟨av, nv, kv, rfl⟩ := own_form V.out
      obtain ⟨_, _, er, _⟩ := Reads.of_owns V.out
      have env : nv = L.length := by
        injection er with _ e2 _
        rw [e2, ints_len]
      subst env
      clear er
      have teq : (L.length == L.length) = true := by simp
      have teq2 : ((L.length : Int) == (L.length : Int)) = true := by simp
      rcases t1 with ⟨t1, t2⟩ | t1
      all_goals
        go_wp2_with fail
        (with_reducible refine (LI.out).mono ?_)
        rintro e w3 ⟨v3, rfl, hv3, o3⟩
        have O3 := Lib.hid (as_only o3)
        have IN := Lib.hid (ints_any v3 _ _ _ w3 (Reads.of_owns hv3) (Reads.of_owns (V.out.still (as_only o3))) (by rw [IL.out]; omega) (by rw [IL.out]; omega))
        rw [dec_same] at IN
        clear hv3 o3
        go_wp2_with fail
        (with_reducible refine (IN.out).mono ?_)
        rintro e w4 ⟨rfl, o4⟩
        have O4 := Lib.hid (O3.out.same o4)
        have LN2 := LN.out _ O4.out
        rw [LL.out] at LN2
        have LN2 := Lib.hid LN2
        clear o4
        go_wp2_with fail
        (with_reducible refine (LN2.out).mono ?_)
        rintro e w5 ⟨rfl, o5⟩
        have O5 := Lib.hid (O4.out.same (as_only o5))
        have L02 := L0.out _ O5.out
        rw [show (sec N L).listOf 0 = [] from rfl] at L02
        have L02 := Lib.hid L02
        clear o5 LN2
        go_wp2_with fail
        (with_reducible refine (L02.out).mono ?_)
        rintro e w6 ⟨v6, rfl, hv6, o6⟩
        obtain ⟨a6, c6, rfl, _⟩ := Reads.of_owns hv6
        have B6 := Lib.hid (below_on B.out (O5.out.same (as_only o6)).to_below)
        clear o6 hv6 L02
        rw [show (ints []).length = 0 from rfl]
        go_wp2_with fail
        go_ret
        exact ⟨rfl, B6.out⟩

set_option maxRecDepth 100000 in
theorem lifted (os : Os) (started : os.Started) (H : Type) (enc : TypeId × Value → H) :
    ReturnsInHanded {} Try.checked os 5 .any (Rows.ringReverseSpec.pre6 enc Try.prog Try.f5 Rows.ringReverseRow.domain false) (Rows.ringReverseSpec.post enc Try.prog Try.f5 false true false false) := by
  refine returnsInHanded_of_change (C := Try.checked) own started (by kernel_rfl) Try.func5
    (ChangeSpec.witness6 (enc := enc) (C := Try.checked) false ⟨#[], #[.int .u8 0, .slice none 0 0], []⟩ 8 (by kernel_rfl) (by kernel_rfl) (by kernel_rfl) (by kernel_rfl)) ?_
  intro W base args ds gs before hval0 hW hcnd _
  have hval : ∀ (j : Nat) t v, Try.f5.params[j]? = some t → args[j]? = some v → Value.okWide Try.prog W .any base t v := hval0
  have hW' := hW
  obtain ⟨p, q, hA0, hV, rfl, hfz, hnd⟩ := hW
  have hA : DataW.TrodAll enc Try.prog W 0 (fun _ => true) true Try.f5.params.toList args.toList ds p := hA0
  rw [Try.params5] at hA hval
  obtain ⟨v0, vs0, d0, ds0, p0, q0, hargs, rfl, rfl, h0, r0⟩ := trodAll_cons hA
  obtain ⟨v1, vs1, d1, ds1, p1, q1, rfl, rfl, rfl, h1, r1⟩ := trodAll_cons r0
  obtain ⟨rfl, rfl, rfl⟩ := trodAll_nil r1
  obtain rfl : args = #[v0, v1] := by cases args; simp_all
  obtain ⟨rfl, rfl⟩ := trodVars_none hV
  obtain ⟨a0, rfl, rfl, rfl, w0⟩ := open_int Try.underlying5 (hval 0 5 v0 rfl rfl) h0
  have k1 := h1
  have lt1 : ∀ x ∈ p1, x.block < W.heap.size := by obtain ⟨m, hm⟩ := k1; exact DataW.trod_lt m _ _ _ hm
  obtain ⟨ad1, len1, cap1, rfl⟩ := okWide_slice Try.underlying46 (hval 1 46 v1 rfl rfl)
  obtain ⟨fuel1, hf1⟩ := h1
  obtain ⟨max1, xs1, el1, hold1, wf1⟩ := open_bytes hf1
  have shut : ∀ W', Below W.heap.size W W' → DataW.TrodAll enc Try.prog W' 0 (fun b => decide (b < W.heap.size)) true [5, 46] [.int .u8 a0, .slice ad1 len1 cap1] [.lit (.int .u8 a0), d1] ([] ++ (p1 ++ [])) := fun W' bel =>
    (trodAll_cons_mk (shut_int Try.underlying5 w0) (trodAll_cons_mk (Below.trod laidOut (by kernel_rfl) (of_decide_eq_true (by kernel_rfl)) k1 bel lt1) trodAll_mk0))
  clear hA0 hval0
  refine (walk W a0 w0 ad1 len1 cap1 xs1 max1 el1 hold1 wf1).mono fun e W' ⟨he, bel⟩ => ?_
  subst he
  exact ⟨_, rfl, _, _, _, [], _, [], hW', trodAll_mk1 (shut_bool Try.underlying4 _), shut W' bel, rfl, bel.frame _, fun h => by cases h⟩

theorem over : Rows.ringReverseRow.holds Try.pinned (OpenSpec.ofChange Rows.ringReverseSpec) :=
  OpenClaim.holds_of_wide 5 Try.f5 rfl rfl rfl rfl rfl rfl rfl ⟨rfl, rfl, rfl, rfl, rfl⟩ rfl rfl rfl rfl rfl (by kernel_rfl) Try.func5 (by kernel_rfl)
    (of_decide_eq_true (by kernel_rfl)) (by unfold Func.isWrapper; first | (rw [if_pos (by decide +kernel)]; kernel_rfl) | (rw [if_neg (by decide +kernel)]; exact ⟨rfl, rfl⟩))
    (fun os started H enc _ => lifted os started H enc)

theorem ringReverse_holds : Rows.RingReverseSaid := over
#print axioms ringReverse_holds
end Go.Proofs.Ytgbccaplmafgkaa.ringReverse
