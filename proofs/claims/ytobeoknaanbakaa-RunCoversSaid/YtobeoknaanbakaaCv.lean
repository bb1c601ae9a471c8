/- The runs that have some blocks: the code's own. -/
import Derived.Test.YtobeoknaanbakaaAr
namespace Go.Proofs.Ytobeoknaanbakaa
open Go.RowKit
set_option linter.unusedVariables false

abbrev OwnsRuns (w : World) (base : Nat) (v : Value) (d : List Rn) : Prop := Owns w base 27 2 Rn.cells v d
theorem OwnsRuns.len {w : World} {base : Nat} {v : Value} {d : List Rn} (h : OwnsRuns w base v d) : ∃ a cap, v = .slice a d.length cap := by
  rcases h.2 with ⟨h0, h2⟩ | ⟨g, cap, cur, hv, _⟩
  · exact ⟨none, 0, by rw [h0, h2]⟩
  · exact ⟨_, _, hv⟩
theorem info_run8 : (Try.prog.info? 27).map (fun i => (i.zero, i.size, i.bytes)) = some (some (.agg #[.int .i64 0, .int .i64 0]), 2, 16) := by kernel_rfl
theorem Owns.put1 {α : Type} {w : World} {base g n cap : Nat} {e : TypeId} {k : Nat} {c : α → List Value} {xs : List α} (h : Owns w base e k c (.slice (some ⟨g, 0, none⟩) n cap) xs) (hk : ∀ a, (c a).length = k) {i : Nat} {a a' : α} (hi : xs[i]? = some a) {j : Nat} (hj : j < k) {v : Value} (hv : c a' = (c a).set j v) :
    Owns (w.setCell ⟨g, i * k + j, none⟩ v) base e k c (.slice (some ⟨g, 0, none⟩) n cap) (xs.set i a') := by
  have e1 := flat_set hk xs i a a' j v hi hj hv
  obtain ⟨h1, h2⟩ := h
  refine ⟨?_, ?_⟩
  · rw [← e1, List.length_set, List.length_set]
    exact h1
  · rcases h2 with ⟨q, _⟩ | ⟨g', cap', cur, q, hg, hb, h3, h4, h5, h6⟩
    · cases q
    · simp only [Value.slice.injEq, Option.some.injEq, Addr.mk.injEq, and_true] at q
      obtain ⟨rfl, q2, rfl⟩ := q
      refine .inr ⟨g, cap, cur.setIfInBounds (i * k + j) v, by rw [List.length_set, ← q2], hg, ?_, by rw [List.length_set]; exact h3, h4, by rw [Array.size_setIfInBounds]; exact h5, ?_⟩
      · have r : Row w g e cur := hb
        exact r.put _ _
      · rw [List.length_set, ← e1, ← h6, Array.toList_setIfInBounds, List.take_set]

set_option maxHeartbeats 2000000 in
theorem cover_any (v : Value) (xs : List Int) (most : Int) (w : World) (hv : Reads w v xs) (hx : xs.length ≤ 1000000) :
    Calls Try.prog 10 #[v, .int .i64 most] w fun e w' => ∃ v', e = .returned (.tuple #[v', .int .i64 (coverC xs most)]) ∧ OwnsRuns w' w.heap.size v' (coverL xs most) ∧ Only none_ w w' := by
  have SX := Lib.hid (fun (w' : World) (o : Only none_ w w') => setOf_any v xs w' (hv.still o) hx)
  have MM := Lib.hid (fun w => may_any most w)
  have ZS := zero_set
  have CA := Lib.hid (fun (h : mayMost most ∧ allB xs) => (And.intro (show coverC xs most = 0 from if_pos h) (show coverL xs most = cov (hasB xs) most 256 from if_pos h)))
  have CN := Lib.hid (fun (h : ¬ (mayMost most ∧ allB xs)) => (And.intro (show coverC xs most = 1 from if_neg h) (show coverL xs most = [] from if_neg h)))
  obtain ⟨i0, hi0, hz0, hz1, hz2⟩ := info_parts info_run8
  have I0 := Lib.hid hi0
  have I1 := Lib.hid hz0
  have I2 := Lib.hid hz1
  have I3 := Lib.hid hz2
  clear hi0 hz0 hz1 hz2
  generalize coverC xs most = C at *
  generalize coverL xs most = L at *
  clear hv hx
  go_enter Try.func10, Try.ntmps10
  go_wp2_with fail
  (with_reducible refine (SX.out _ (Only.refl _ _)).mono ?_)
  rintro e w2 ⟨rfl, o⟩
  have O2 := Lib.hid o
  clear o SX
  generalize hq : decide (allB xs) = q
  have HQ := Lib.hid hq
  clear hq
  go_wp2_with (refine wpList_store_row rfl 46 _ _ rfl _ (bits (hasB xs)) rfl rfl 46 (bits fun x => false) (Row.fresh _ _ _) (size_set _) (by rw [bits_size, bits_size]) (bits_one _) ?_)
  have S4 := Lib.hid (show SetAt ((w2.alloc (.cells (bits fun x => false) 46)).setRow w2.heap.size (bits (hasB xs))) w2.heap.size (hasB xs) from SetAt.store (p := fun _ => false) (Row.fresh _ _ _) _)
  have O4 := Lib.hid (show Only none_ w ((w2.alloc (.cells (bits fun x => false) 46)).setRow w2.heap.size (bits (hasB xs))) from (O2.out.alloc _).whole (fun q => by have := O2.out.size; omega) _)
  have G4 := Lib.hid (show w.heap.size ≤ w2.heap.size from O2.out.size)
  clear O2 ZS
  revert S4 O4 G4
  generalize (w2.alloc (.cells (bits fun x => false) 46)).setRow w2.heap.size (bits (hasB xs)) = W4
  generalize w2.heap.size = g
  intro S4 O4 G4
  by_cases q1 : mayMost most
  · rw [decide_eq_true q1] at MM
    (with_reducible refine (MM.out _).mono ?_)
    rintro e w5 ⟨rfl, o⟩
    have S5 := Lib.hid (S4.out.still o)
    have O5 := Lib.hid (O4.out.same o)
    clear o S4 O4 MM
    cases q with
    | false =>
      obtain ⟨rfl, rfl⟩ := CN.out (fun h => by have := HQ.out; rw [decide_eq_true h.2] at this; cases this)
      go_wp2_with fail
      exact bodyPost_ret (results_tmp2 rfl _ _ _) rfl ⟨_, rfl, Owns.start _ _ _ _ _, O5.out⟩
    | true =>
      have hc := CA.out ⟨q1, of_decide_eq_true HQ.out⟩
      obtain ⟨rfl, hL⟩ := hc
      have HL := Lib.hid hL
      have HM := Lib.hid q1
      clear hL q1 CA CN HQ
      go_wp2_with fail
      go_loopw [23, 8] (fun i v wr => ∃ k : Nat, k ≤ 256 ∧ i = .int .i64 k ∧ OwnsRuns wr (g + 1) v (cov (hasB xs) most k) ∧ SetAt wr g (hasB xs) ∧ Only none_ w wr) (fun i _ _ => 256 - (intOf i).toNat)
      case atStart => exact ⟨0, Nat.zero_le _, rfl, Owns.start _ _ _ _ _, S5.out, O5.out⟩
      case round =>
        obtain ⟨k, hk, rfl, hv, hs, ho⟩ := hrel
        have V := Lib.hid hv
        have S := Lib.hid hs
        have O := Lib.hid ho
        clear S5 O5 hv hs ho
        by_cases hlt : k < 256
        · have t0 : decide ((k : Int) < 256) = true := decide_eq_true (by omega)
          have HK := Lib.hid hlt
          have HB : k ≤ 1000000 := by omega
          have BD := Lib.hid (cov_bd (hasB xs) most k)
          have HS := Lib.hid (hasq_set g xs (k : Int) wr S.out)
          clear hk hlt
          obtain ⟨a, cap, rfl⟩ := V.out.len
          cases qp : hasB xs (k : Int) with
          | false =>
            rw [qp] at HS
            have MORE := Lib.hid (show cov (hasB xs) most (k + 1) = cov (hasB xs) most k from step_no qp)
            clear qp
            go_wp2_with fail
            (with_reducible refine HS.out.mono ?_)
            rintro e w6 ⟨rfl, rfl⟩
            go_wp2_with fail
            go_roundw
            case rel => exact ⟨k + 1, HK.out, by go_num, by rw [MORE.out]; exact V.out, S.out, O.out⟩
            case measure => have := HK.out; simp [intOf]; omega
          | true =>
            rw [qp] at HS
            have QP := Lib.hid qp
            clear qp
            go_wp2_with fail
            (with_reducible refine HS.out.mono ?_)
            rintro e w6 ⟨rfl, rfl⟩
            clear HS
            rcases Nat.eq_zero_or_pos (cov (hasB xs) most k).length with hz | hz
            · have hnil := List.eq_nil_of_length_eq_zero hz
              have MORE := Lib.hid (show cov (hasB xs) most (k + 1) = cov (hasB xs) most k ++ [⟨k, 1⟩] from step_new QP.out (fun r h => by rw [hnil] at h; cases h))
              rw [hnil] at V MORE
              rw [hz]
              clear hz hnil BD
              have RF := Lib.hid (Row.fresh w6 27 #[.int .i64 (k : Int), .int .i64 1])
              have V2 := Lib.hid (V.out.still ((Only.refl none_ w6).alloc (.cells #[.int .i64 (k : Int), .int .i64 1] 27)))
              have O2 := Lib.hid (O.out.alloc (.cells #[.int .i64 (k : Int), .int .i64 1] 27))
              have S2 := Lib.hid (show SetAt (w6.alloc (.cells #[.int .i64 (k : Int), .int .i64 1] 27)) g (hasB xs) from Row.alloc S.out _)
              have sz : g + 1 ≤ (w6.alloc (.cells #[.int .i64 (k : Int), .int .i64 1] 27)).heap.size := Row.lt S2.out
              have l1 := Lib.hid (show (([] : List Rn)).length < 9223372036854775807 from by decide)
              have l2 := Lib.hid (show ((([] : List Rn)).length + 1) * 16 ≤ 140737488355328 from by decide)
              go_wp2_with (at_builtin; go_loud (refine wpList_append_one rfl (.tmp 60) (.tmp 63) 33 rfl (c := Rn.cells) i0 _ 16 Try.underlying33 I0.out I1.out I2.out I3.out rfl (by decide) rn2 rn_one rfl V2.out (y := ⟨k, 1⟩) rfl RF.out l1.out l2.out sz ?_; intro v5 w8 hown5 hO5))
              rw [← MORE.out] at hown5
              have O8 := Lib.hid (O2.out.trans hO5 (fun i hi q => by have := G4.out; omega))
              have S8 := Lib.hid (show SetAt w8 g (hasB xs) from hO5.row S2.out (by omega))
              have V8 := Lib.hid hown5
              clear hown5 hO5
              go_wp2_with fail
              go_roundw
              case rel => exact ⟨k + 1, HK.out, by go_num, V8.out, S8.out, O8.out⟩
              case measure => have := HK.out; simp [intOf]; omega
            · have hne : cov (hasB xs) most k ≠ [] := fun e => by rw [e] at hz; cases hz
              obtain ⟨r, hr⟩ : ∃ r, (cov (hasB xs) most k).getLast? = some r := ⟨_, List.getLast?_eq_some_getLast hne⟩
              obtain ⟨l, hl⟩ := last_split hr
              obtain ⟨gs, cp, hvv, hgs, hgl, hcp, hcm⟩ := V.out.form hne
              have bd := BD.out.1 r (by rw [hl]; simp)
              have bl := BD.out.2
              simp only [Value.slice.injEq, true_and] at hvv
              obtain ⟨rfl, rfl⟩ := hvv
              have HR := Lib.hid hr
              rw [hl] at V bl hcp
              rw [hl]
              have HL2 := Lib.hid hl
              clear hz hne hr hl hgl hcm
              rw [List.length_append, List.length_singleton] at V bl hcp ⊢
              have V1 := Lib.hid (show OwnsRuns w6 (g + 1) (.slice (some ⟨gs, 0, none⟩) (l ++ [r]).length cap) (l ++ [r]) from by rw [List.length_append, List.length_singleton]; exact V.out)
              have hi : (l ++ [r])[l.length]? = some r := by simp
              have c0 : w6.cell? ⟨gs, l.length * 2, none⟩ = some (.int .i64 r.f) := Owns.cell V1.out rn2 hi (j := 0) (by decide)
              have c1 : w6.cell? ⟨gs, l.length * 2 + 1, none⟩ = some (.int .i64 r.c) := Owns.cell V1.out rn2 hi (j := 1) (by decide)
              have EN := Lib.hid (fun w => end_any r w (by omega))
              unfold Rn.val at EN
              have v1 : IntKind.i64.wrap (((l.length + 1 : Nat) : Int) - 1) = (l.length : Int) := by rw [IntKind.wrap_i64]; omega
              have bl2 : l.length ≤ 256 := by have := HK.out; omega
              have BDR := Lib.hid bd
              clear bd bl hi BD V1 hcp
              by_cases q2 : r.f + r.c = (k : Int)
              · by_cases q3 : r.c < most
                · have t2 : (r.f + r.c == (k : Int)) = true := by simpa using q2
                  have t3 : decide (r.c < most) = true := decide_eq_true q3
                  have MORE := Lib.hid (show cov (hasB xs) most (k + 1) = l ++ [⟨r.f, r.c + 1⟩] from by
                    show stepC (hasB xs) most (cov (hasB xs) most k) k = _
                    rw [HL2.out]
                    exact step_more QP.out q2 q3)
                  have v2 : IntKind.i64.wrap (r.c + 1) = r.c + 1 := by have := BDR.out; have := HK.out; rw [IntKind.wrap_i64]; omega
                  clear q2 q3
                  go_wp2_with fail
                  (with_reducible refine (EN.out _).mono ?_)
                  rintro e w7 ⟨rfl, o⟩
                  have S7 := Lib.hid (S.out.still o)
                  have V7 := Lib.hid (V.out.still o)
                  have O7 := Lib.hid (O.out.same o)
                  have d0 := o.cell c0 (fun s => s)
                  have d1 := o.cell c1 (fun s => s)
                  clear o c0 c1 S V O
                  have fz := Owns.frozen V7.out (l.length * 2 + 1)
                  go_wp2_with fail
                  go_roundw
                  case rel =>
                    refine ⟨k + 1, HK.out, by go_num, ?_, Row.far S7.out (by show g ≠ gs; omega) _, O7.out.new (by have := G4.out; omega) _ _⟩
                    rw [MORE.out]
                    have V8 := Lib.hid (show OwnsRuns w7 (g + 1) (.slice (some ⟨gs, 0, none⟩) (l ++ [r]).length cap) (l ++ [r]) from by rw [List.length_append, List.length_singleton]; exact V7.out)
                    have p := Owns.put1 V8.out rn2 (i := l.length) (a := r) (a' := ⟨r.f, r.c + 1⟩) (by simp) (j := 1) (by decide) (v := .int .i64 (r.c + 1)) rfl
                    rw [List.length_append, List.length_singleton] at p
                    rw [show (l ++ [r]).set l.length ⟨r.f, r.c + 1⟩ = l ++ [⟨r.f, r.c + 1⟩] by simp] at p
                    exact p
                  case measure => have := HK.out; simp [intOf]; omega
                · have t2 : (r.f + r.c == (k : Int)) = true := by simpa using q2
                  have t3 : decide (r.c < most) = false := decide_eq_false q3
                  have MORE := Lib.hid (show cov (hasB xs) most (k + 1) = (l ++ [r]) ++ [⟨k, 1⟩] from by
                    show stepC (hasB xs) most (cov (hasB xs) most k) k = _
                    rw [← HL2.out]
                    refine step_new QP.out (fun r' h => ?_)
                    rw [HR.out] at h
                    injection h with h
                    subst h
                    exact fun z => q3 z.2)
                  clear q2 q3
                  go_wp2_with fail
                  (with_reducible refine (EN.out _).mono ?_)
                  rintro e w7 ⟨rfl, o⟩
                  have S7 := Lib.hid (S.out.still o)
                  have V7 := Lib.hid (V.out.still o)
                  have O7 := Lib.hid (O.out.same o)
                  have d0 := o.cell c0 (fun s => s)
                  have d1 := o.cell c1 (fun s => s)
                  clear o c0 c1 S V O
                  have V9 := Lib.hid (show OwnsRuns w7 (g + 1) (.slice (some ⟨gs, 0, none⟩) (l.length + 1) cap) (l ++ [r]) from V7.out)
                  have RF := Lib.hid (Row.fresh w7 27 #[.int .i64 (k : Int), .int .i64 1])
                  have V2 := Lib.hid (V9.out.still ((Only.refl none_ w7).alloc (.cells #[.int .i64 (k : Int), .int .i64 1] 27)))
                  have O2 := Lib.hid (O7.out.alloc (.cells #[.int .i64 (k : Int), .int .i64 1] 27))
                  have S2 := Lib.hid (show SetAt (w7.alloc (.cells #[.int .i64 (k : Int), .int .i64 1] 27)) g (hasB xs) from Row.alloc S7.out _)
                  have sz : g + 1 ≤ (w7.alloc (.cells #[.int .i64 (k : Int), .int .i64 1] 27)).heap.size := Row.lt S2.out
                  have l1 := Lib.hid (show (l ++ [r]).length < 9223372036854775807 from by rw [List.length_append, List.length_singleton]; omega)
                  have l2 := Lib.hid (show ((l ++ [r]).length + 1) * 16 ≤ 140737488355328 from by rw [List.length_append, List.length_singleton]; omega)
                  go_wp2_with (at_builtin; go_loud (refine wpList_append_one rfl (.tmp 60) (.tmp 63) 33 rfl (c := Rn.cells) i0 _ 16 Try.underlying33 I0.out I1.out I2.out I3.out rfl (by decide) rn2 rn_one rfl V2.out (y := ⟨k, 1⟩) rfl RF.out l1.out l2.out sz ?_; intro v5 w8 hown5 hO5))
                  rw [← MORE.out] at hown5
                  have O8 := Lib.hid (O2.out.trans hO5 (fun i hi q => by have := G4.out; omega))
                  have S8 := Lib.hid (show SetAt w8 g (hasB xs) from hO5.row S2.out (by omega))
                  have V8 := Lib.hid hown5
                  clear hown5 hO5
                  go_wp2_with fail
                  go_roundw
                  case rel => exact ⟨k + 1, HK.out, by go_num, V8.out, S8.out, O8.out⟩
                  case measure => have := HK.out; simp [intOf]; omega
              · have t2 : (r.f + r.c == (k : Int)) = false := by simpa using q2
                have MORE := Lib.hid (show cov (hasB xs) most (k + 1) = (l ++ [r]) ++ [⟨k, 1⟩] from by
                  show stepC (hasB xs) most (cov (hasB xs) most k) k = _
                  rw [← HL2.out]
                  refine step_new QP.out (fun r' h => ?_)
                  rw [HR.out] at h
                  injection h with h
                  subst h
                  exact fun z => q2 z.1)
                clear q2
                go_wp2_with fail
                (with_reducible refine (EN.out _).mono ?_)
                rintro e w7 ⟨rfl, o⟩
                have S7 := Lib.hid (S.out.still o)
                have V7 := Lib.hid (V.out.still o)
                have O7 := Lib.hid (O.out.same o)
                have d0 := o.cell c0 (fun s => s)
                have d1 := o.cell c1 (fun s => s)
                clear o c0 c1 S V O
                have V9 := Lib.hid (show OwnsRuns w7 (g + 1) (.slice (some ⟨gs, 0, none⟩) (l.length + 1) cap) (l ++ [r]) from V7.out)
                have RF := Lib.hid (Row.fresh w7 27 #[.int .i64 (k : Int), .int .i64 1])
                have V2 := Lib.hid (V9.out.still ((Only.refl none_ w7).alloc (.cells #[.int .i64 (k : Int), .int .i64 1] 27)))
                have O2 := Lib.hid (O7.out.alloc (.cells #[.int .i64 (k : Int), .int .i64 1] 27))
                have S2 := Lib.hid (show SetAt (w7.alloc (.cells #[.int .i64 (k : Int), .int .i64 1] 27)) g (hasB xs) from Row.alloc S7.out _)
                have sz : g + 1 ≤ (w7.alloc (.cells #[.int .i64 (k : Int), .int .i64 1] 27)).heap.size := Row.lt S2.out
                have l1 := Lib.hid (show (l ++ [r]).length < 9223372036854775807 from by rw [List.length_append, List.length_singleton]; omega)
                have l2 := Lib.hid (show ((l ++ [r]).length + 1) * 16 ≤ 140737488355328 from by rw [List.length_append, List.length_singleton]; omega)
                go_wp2_with (at_builtin; go_loud (refine wpList_append_one rfl (.tmp 60) (.tmp 63) 33 rfl (c := Rn.cells) i0 _ 16 Try.underlying33 I0.out I1.out I2.out I3.out rfl (by decide) rn2 rn_one rfl V2.out (y := ⟨k, 1⟩) rfl RF.out l1.out l2.out sz ?_; intro v5 w8 hown5 hO5))
                rw [← MORE.out] at hown5
                have O8 := Lib.hid (O2.out.trans hO5 (fun i hi q => by have := G4.out; omega))
                have S8 := Lib.hid (show SetAt w8 g (hasB xs) from hO5.row S2.out (by omega))
                have V8 := Lib.hid hown5
                clear hown5 hO5
                go_wp2_with fail
                go_roundw
                case rel => exact ⟨k + 1, HK.out, by go_num, V8.out, S8.out, O8.out⟩
                case measure => have := HK.out; simp [intOf]; omega
        · have e : k = 256 := by omega
          subst e
          have t0 : decide ((256 : Int) < 256) = false := by decide
          rw [← HL.out] at V
          go_wp2_with fail
          exact bodyPost_ret (results_tmp2 rfl _ _ _) rfl ⟨_, rfl, V.out.lower (by have := G4.out; omega), O.out⟩
  · rw [decide_eq_false q1] at MM
    obtain ⟨rfl, rfl⟩ := CN.out (fun h => q1 h.1)
    (with_reducible refine (MM.out _).mono ?_)
    rintro e w5 ⟨rfl, o⟩
    have O5 := Lib.hid (O4.out.same o)
    clear o S4 O4 MM q1
    go_wp2_with fail
    exact bodyPost_ret (results_tmp2 rfl _ _ _) rfl ⟨_, rfl, Owns.start _ _ _ _ _, O5.out⟩
end Go.Proofs.Ytobeoknaanbakaa
