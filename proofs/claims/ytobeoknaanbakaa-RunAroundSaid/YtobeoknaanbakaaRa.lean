/- The run around a block: the document's own. -/
import Derived.Test.YtobeoknaanbakaaCv
import Derived.Deep.Cut
import Derived.Deep.CutBlock
import Derived.Deep.DeepCutAuto
namespace Go.Proofs.Ytobeoknaanbakaa
open Go.RowKit
set_option linter.unusedVariables false

/-- the first tests, one behind the other -/
theorem arg_ways (xs : List Int) (b most room : Int) :
    (argB xs b most room ∧ ((decide (most < 1) = true) ∨ (decide (most < 1) = false ∧ decide (8 < most) = true) ∨ (decide (most < 1) = false ∧ decide (8 < most) = false ∧ decide (room < 0) = true) ∨
      (decide (most < 1) = false ∧ decide (8 < most) = false ∧ decide (room < 0) = false ∧ decide (b < 0) = true) ∨ (decide (most < 1) = false ∧ decide (8 < most) = false ∧ decide (room < 0) = false ∧ decide (b < 0) = false ∧ decide (255 < b) = true))) ∨
    (decide (most < 1) = false ∧ decide (8 < most) = false ∧ decide (room < 0) = false ∧ decide (b < 0) = false ∧ decide (255 < b) = false ∧ (0 ≤ b ∧ b < 256) ∧ (1 ≤ most ∧ most ≤ 8) ∧ 0 ≤ room ∧ (argB xs b most room ↔ hasB xs b = false)) := by
  have out : ¬ (0 ≤ b ∧ b < 256) → hasB xs b = false := fun h => by
    cases q : hasB xs b
    · rfl
    · have := hasB_yes q
      exact absurd ⟨this.1, this.2.1⟩ h
  by_cases h1 : most < 1
  · exact .inl ⟨.inl (fun q => by unfold mayMost at q; omega), .inl (decide_eq_true h1)⟩
  by_cases h2 : 8 < most
  · exact .inl ⟨.inl (fun q => by unfold mayMost at q; omega), .inr (.inl ⟨decide_eq_false h1, decide_eq_true h2⟩)⟩
  by_cases h3 : room < 0
  · exact .inl ⟨.inr (.inl h3), .inr (.inr (.inl ⟨decide_eq_false h1, decide_eq_false h2, decide_eq_true h3⟩))⟩
  by_cases h4 : b < 0
  · exact .inl ⟨.inr (.inr (out (by omega))), .inr (.inr (.inr (.inl ⟨decide_eq_false h1, decide_eq_false h2, decide_eq_false h3, decide_eq_true h4⟩)))⟩
  by_cases h5 : 255 < b
  · exact .inl ⟨.inr (.inr (out (by omega))), .inr (.inr (.inr (.inr ⟨decide_eq_false h1, decide_eq_false h2, decide_eq_false h3, decide_eq_false h4, decide_eq_true h5⟩)))⟩
  refine .inr ⟨decide_eq_false h1, decide_eq_false h2, decide_eq_false h3, decide_eq_false h4, decide_eq_false h5, by omega, by omega, by omega, ?_, ?_⟩
  · intro q
    rcases q with q | q | q
    · exact absurd (show mayMost most by unfold mayMost; omega) q
    · omega
    · exact q
  · exact fun q => .inr (.inr q)

set_option maxHeartbeats 4000000 in
theorem raround_any (v u : Value) (xs ys : List Int) (b most room : Int) (w : World) (hv : Reads w v xs) (hu : Reads w u ys) (hx : xs.length ≤ 1000000) (hy : ys.length ≤ 1000000) (hr : room ≤ 9223372036854775807) :
    Calls Try.prog 9 #[v, u, .int .i64 b, .int .i64 most, .int .i64 room] w fun e w' => e = .returned (.tuple #[(aroundR xs ys b most room).val, .int .i64 (aroundC xs ys b most room)]) ∧ Only none_ w w' := by
  have IX := Lib.hid (fun (x : Int) (w' : World) (o : Only none_ w w') => in_q v xs x w' (hv.still o) hx)
  have IY := Lib.hid (fun (x : Int) (w' : World) (o : Only none_ w w') => in_q u ys x w' (hu.still o) hy)
  have AA := Lib.hid (fun (h : argB xs b most room) => around_arg (ys := ys) h)
  have AF := Lib.hid (fun (h : ¬ argB xs b most room) (k : room < costB (hasB ys) b) => around_full h k)
  have AO := Lib.hid (fun (h : ¬ argB xs b most room) (k : costB (hasB ys) b ≤ room) => around_ok h k)
  generalize aroundR xs ys b most room = R at *
  generalize aroundC xs ys b most room = C at *
  clear hv hu hx hy
  have HR := Lib.hid hr
  clear hr
  rcases arg_ways xs b most room with ⟨ha, q⟩ | ⟨h1, h2, h3, h4, h5, hb, hm, hr0, hi⟩
  · obtain ⟨rfl, rfl⟩ := AA.out ha
    clear ha
    rcases q with h1 | ⟨h1, h2⟩ | ⟨h1, h2, h3⟩ | ⟨h1, h2, h3, h4⟩ | ⟨h1, h2, h3, h4, h5⟩
    all_goals
      go_enter Try.func9, Try.ntmps9
      go_wp2_with fail
      exact bodyPost_ret (results_run2 rfl _ _ w.heap.size ⟨0, 0⟩ rfl (Row.fresh _ _ _)) rfl ⟨rfl, (Only.refl none_ w).alloc _⟩
  · have HB := Lib.hid hb
    have HM := Lib.hid hm
    have H0 := Lib.hid hr0
    have HI := Lib.hid hi
    have IB := Lib.hid (fun (w' : World) (o : Only none_ w w') => IX.out b w' o)
    have JB := Lib.hid (fun (w' : World) (o : Only none_ w w') => IY.out b w' o)
    rw [← hasB_in hb.1 hb.2] at IB JB
    clear hb hm hr0 hi
    go_enter Try.func9, Try.ntmps9
    go_wp2_with fail
    have C0 := Lib.hid (Row.fresh w 27 #[.int .i64 0, .int .i64 0])
    have O0 := Lib.hid ((Only.refl none_ w).alloc (.cells #[.int .i64 0, .int .i64 0] 27))
    revert C0 O0
    generalize w.alloc (.cells #[.int .i64 0, .int .i64 0] 27) = W1
    generalize hg : w.heap.size = g
    intro C0 O0
    have GW := Lib.hid hg
    clear hg
    cases qb : hasB xs b with
    | false =>
      rw [qb] at IB
      obtain ⟨rfl, rfl⟩ := AA.out (HI.out.2 qb)
      clear qb
      (with_reducible refine (IB.out _ O0.out).mono ?_)
      rintro e w' ⟨rfl, rfl⟩
      have f0 := C0.out.frozen 0
      have f1 := C0.out.frozen 1
      obtain ⟨c0, c1⟩ := C0.out.two
      go_wp2_with fail
      exact bodyPost_ret (results_run2 rfl _ _ g ⟨0, 0⟩ rfl ((C0.out.put 0 _).put 1 _)) rfl ⟨rfl, (O0.out.new (by have := GW.out; omega) _ _).new (by have := GW.out; omega) _ _⟩
    | true =>
      rw [qb] at IB
      have NA := Lib.hid (show ¬ argB xs b most room from fun h => by rw [HI.out.1 h] at qb; cases qb)
      clear qb HI AA
      (with_reducible refine (IB.out _ O0.out).mono ?_)
      rintro e w' ⟨rfl, rfl⟩
      clear h1 h2 h3 h4 h5 IB
      go_wp2_with fail
      cases qn : hasB ys b with
      | true =>
        rw [qn] at JB
        have CB := Lib.hid (show costB (hasB ys) b = 1 from by unfold costB; rw [qn]; rfl)
        clear qn
        (with_reducible refine (JB.out _ O0.out).mono ?_)
        rintro e w'' ⟨rfl, rfl⟩
        by_cases hz : room = 0
        · obtain ⟨rfl, rfl⟩ := AF.out NA.out (by rw [CB.out]; omega)
          have t : (room == 0) = true := by simpa using hz
          clear hz
          have f0 := C0.out.frozen 0
          have f1 := C0.out.frozen 1
          obtain ⟨c0, c1⟩ := C0.out.two
          go_wp2_with fail
          exact bodyPost_ret (results_run2 rfl _ _ g ⟨0, 0⟩ rfl ((C0.out.put 0 _).put 1 _)) rfl ⟨rfl, (O0.out.new (by have := GW.out; omega) _ _).new (by have := GW.out; omega) _ _⟩
        · obtain ⟨rfl, hR⟩ := AO.out NA.out (by rw [CB.out]; have := H0.out; omega)
          have t : (room == 0) = false := by simpa using hz
          unfold growTo at hR
          rw [CB.out] at hR
          have RB := Lib.hid (show 0 ≤ room - 1 ∧ room - 1 ≤ 9223372036854775807 from by have := H0.out; have := HR.out; omega)
          obtain ⟨rm, hrm⟩ : ∃ rm, rm = room - 1 := ⟨_, rfl⟩
          have v1 : IntKind.i64.wrap (room - 1) = rm := by have := H0.out; have := HR.out; rw [hrm, IntKind.wrap_i64]; omega
          rw [← hrm] at hR RB
          clear hrm hz
          go_upto_block 0 with fail
          have HG := Lib.hid (show ∃ G, grow (hasB xs) (hasB ys) (most - 1).toNat b b rm = G from ⟨_, rfl⟩)
          obtain ⟨G, hG⟩ := HG.out
          rw [hG] at hR
          have GG := Lib.hid hG
          have RR := Lib.hid hR
          clear hG hR HG JB AF AO
          go_cut [13, 4] (fun h r wx => wx = w'' ∧ ∃ (hi rm : Int) (k : Nat), h = .int .i64 hi ∧ r = .int .i64 rm ∧ (grow (hasB xs) (hasB ys) k b hi rm = G ∧ b ≤ hi ∧ hi ≤ 255 ∧ 0 ≤ rm ∧ rm ≤ 9223372036854775807 ∧ (k : Int) + (hi - b + 1) = most) ∧ (k = 0 ∨ okB (hasB xs) (hasB ys) (hi + 1) rm = false))
          case first =>
            go_wp2_with fail
            go_loopw [13, 4] (fun h r wr => wr = w'' ∧ ∃ (hi rm : Int) (k : Nat), h = .int .i64 hi ∧ r = .int .i64 rm ∧ (grow (hasB xs) (hasB ys) k b hi rm = G ∧ b ≤ hi ∧ hi ≤ 255 ∧ 0 ≤ rm ∧ rm ≤ 9223372036854775807 ∧ (k : Int) + (hi - b + 1) = most)) (fun h _ _ => (256 - intOf h).toNat)
            case atStart =>
              have h1 := RB.out
              have h2 := HM.out
              have h3 := HB.out
              exact ⟨rfl, b, rm, (most - 1).toNat, rfl, rfl, GG.out, by omega, by omega, by omega, by omega, by omega⟩
            case round =>
              obtain ⟨hw, hi, rm, k, rfl, rfl, f⟩ := hrel
              subst hw
              have F := Lib.hid f
              clear f GG RB
              have hb := HB.out
              have HBM := Lib.hid hb
              clear hb
              have v1 : IntKind.i64.wrap (hi - b) = hi - b := by have := F.out; have := HB.out; have := HM.out; rw [IntKind.wrap_i64]; omega
              have v2 : IntKind.i64.wrap (hi - b + 1) = hi - b + 1 := by have := F.out; have := HB.out; have := HM.out; rw [IntKind.wrap_i64]; omega
              cases k with
              | zero =>
                have t1 : decide (hi - b + 1 < most) = false := decide_eq_false (by have := F.out; have := HB.out; have := HM.out; omega)
                go_wp2_with fail
                go_meet
                exact ⟨rfl, hi, rm, 0, rfl, rfl, F.out, .inl rfl⟩
              | succ k =>
                have t1 : decide (hi - b + 1 < most) = true := decide_eq_true (by have := F.out; have := HB.out; have := HM.out; omega)
                by_cases hE : hi < 255
                · have t2 : decide (hi < 255) = true := decide_eq_true hE
                  obtain ⟨x, hx⟩ : ∃ x, x = hi + 1 := ⟨_, rfl⟩
                  have v3 : IntKind.i64.wrap (hi + 1) = x := by have := F.out; have := HB.out; have := HM.out; rw [hx, IntKind.wrap_i64]; omega
                  have HX := Lib.hid hx
                  have XR := Lib.hid (show 0 ≤ x ∧ x < 256 from by have := F.out; have := HB.out; have := HM.out; omega)
                  have IQ := IX.out x _ O0.out
                  have JQ := IY.out x _ O0.out
                  rw [← hasB_in XR.out.1 XR.out.2] at IQ JQ
                  have IQ := Lib.hid IQ
                  have JQ := Lib.hid JQ
                  have CC := Lib.hid (costB_cases (hasB ys) x)
                  clear hx hE
                  cases qr : hasB xs x with
                  | false =>
                    rw [qr] at IQ
                    have OKN := Lib.hid (show okB (hasB xs) (hasB ys) (hi + 1) rm = false from by rw [← HX.out]; unfold okB; rw [qr, Bool.false_and])
                    clear qr
                    go_wp2_with fail
                    (with_reducible refine IQ.out.mono ?_)
                    rintro e w2 ⟨rfl, rfl⟩
                    go_wp2_with fail
                    go_meet
                    exact ⟨rfl, hi, rm, k + 1, rfl, rfl, F.out, .inr OKN.out⟩
                  | true =>
                    rw [qr] at IQ
                    by_cases hz : 0 < rm
                    · have T3 := Lib.hid (show 0 < rm from hz)
                      have t3 : decide (0 < rm) = true := decide_eq_true hz
                      have GS := Lib.hid (show grow (hasB xs) (hasB ys) (k + 1) b hi rm = grow (hasB xs) (hasB ys) k b x (rm - costB (hasB ys) x) from by
                        rw [HX.out]
                        refine grow_up ?_
                        rw [← HX.out]
                        unfold okB
                        rw [qr, decide_eq_true (show costB (hasB ys) x ≤ rm by have := CC.out; omega)]
                        rfl)
                      have v4 : IntKind.i64.wrap (rm - 1) = rm - 1 := by have := F.out; have := HB.out; have := HM.out; rw [IntKind.wrap_i64]; omega
                      clear qr hz
                      go_wp2_with fail
                      (with_reducible refine IQ.out.mono ?_)
                      rintro e w2 ⟨rfl, rfl⟩
                      go_wp2_with fail
                      cases qn : hasB ys x with
                      | true =>
                        rw [qn] at JQ
                        have CV := Lib.hid (show costB (hasB ys) x = 1 from by unfold costB; rw [qn]; rfl)
                        clear qn
                        (with_reducible refine JQ.out.mono ?_)
                        rintro e w3 ⟨rfl, rfl⟩
                        go_wp2_with fail
                        go_roundw
                        case rel =>
                          refine ⟨by trivial, x, rm - 1, k, rfl, rfl, ?_⟩
                          have h1 := F.out
                          have h2 := HX.out
                          have h3 := XR.out
                          have h4 := T3.out
                          refine ⟨by rw [← h1.1, GS.out, CV.out], by omega, by omega, by omega, by omega, by omega⟩
                        case measure => have h1 := F.out; have h2 := HX.out; have h3 := XR.out; simp [intOf]; omega
                      | false =>
                        rw [qn] at JQ
                        have CV := Lib.hid (show costB (hasB ys) x = 0 from by unfold costB; rw [qn]; rfl)
                        clear qn
                        (with_reducible refine JQ.out.mono ?_)
                        rintro e w3 ⟨rfl, rfl⟩
                        go_wp2_with fail
                        go_roundw
                        case rel =>
                          refine ⟨by trivial, x, rm, k, rfl, rfl, ?_⟩
                          have h1 := F.out
                          have h2 := HX.out
                          have h3 := XR.out
                          have h4 := T3.out
                          refine ⟨by rw [← h1.1, GS.out, CV.out]; simp, by omega, by omega, by omega, by omega, by omega⟩
                        case measure => have h1 := F.out; have h2 := HX.out; have h3 := XR.out; simp [intOf]; omega
                    · have t3 : decide (0 < rm) = false := decide_eq_false hz
                      have RZ := Lib.hid (show rm = 0 from by have := F.out; have := HB.out; have := HM.out; omega)
                      cases qn : hasB ys x with
                      | true =>
                        rw [qn] at JQ
                        have OKN := Lib.hid (show okB (hasB xs) (hasB ys) (hi + 1) rm = false from by rw [← HX.out]; unfold okB costB; rw [qr, qn, RZ.out]; decide)
                        clear qr qn hz
                        go_wp2_with fail
                        (with_reducible refine IQ.out.mono ?_)
                        rintro e w2 ⟨rfl, rfl⟩
                        go_wp2_with fail
                        (with_reducible refine JQ.out.mono ?_)
                        rintro e w3 ⟨rfl, rfl⟩
                        go_wp2_with fail
                        go_meet
                        exact ⟨rfl, hi, rm, k + 1, rfl, rfl, F.out, .inr OKN.out⟩
                      | false =>
                        rw [qn] at JQ
                        have CV := Lib.hid (show costB (hasB ys) x = 0 from by unfold costB; rw [qn]; rfl)
                        have GS := Lib.hid (show grow (hasB xs) (hasB ys) (k + 1) b hi rm = grow (hasB xs) (hasB ys) k b x (rm - costB (hasB ys) x) from by
                          rw [HX.out]
                          refine grow_up ?_
                          rw [← HX.out]
                          unfold okB
                          rw [qr, CV.out, RZ.out]
                          decide)
                        clear qr qn hz
                        go_wp2_with fail
                        (with_reducible refine IQ.out.mono ?_)
                        rintro e w2 ⟨rfl, rfl⟩
                        go_wp2_with fail
                        (with_reducible refine JQ.out.mono ?_)
                        rintro e w3 ⟨rfl, rfl⟩
                        go_wp2_with fail
                        (with_reducible refine JQ.out.mono ?_)
                        rintro e w4 ⟨rfl, rfl⟩
                        go_wp2_with fail
                        go_roundw
                        case rel =>
                          refine ⟨by trivial, x, rm, k, rfl, rfl, ?_⟩
                          have h1 := F.out
                          have h2 := HX.out
                          have h3 := XR.out
                          refine ⟨by rw [← h1.1, GS.out, CV.out]; simp, by omega, by omega, by omega, by omega, by omega⟩
                        case measure => have h1 := F.out; have h2 := HX.out; have h3 := XR.out; simp [intOf]; omega
                · have t2 : decide (hi < 255) = false := decide_eq_false hE
                  have OKN := Lib.hid (show okB (hasB xs) (hasB ys) (hi + 1) rm = false from by unfold okB; rw [show hasB xs (hi + 1) = false from by cases q : hasB xs (hi + 1) with | false => rfl | true => (have := hasB_yes q; have := F.out; have := HB.out; have := HM.out; omega), Bool.false_and])
                  clear hE
                  go_wp2_with fail
                  go_meet
                  exact ⟨rfl, hi, rm, k + 1, rfl, rfl, F.out, .inr OKN.out⟩
          case rest =>
            obtain ⟨rfl, hi, rm, k, rfl, rfl, f, nok⟩ := hcut
            have F0 := Lib.hid f
            have N0 := Lib.hid nok
            clear f nok GG RB
            go_wp2_with fail
            go_loopw [12, 4] (fun l r wr => wr = wc ∧ ∃ (lo rm : Int) (k : Nat), l = .int .i64 lo ∧ r = .int .i64 rm ∧ (grow (hasB xs) (hasB ys) k lo hi rm = G ∧ (k = 0 ∨ okB (hasB xs) (hasB ys) (hi + 1) rm = false) ∧ 0 ≤ lo ∧ lo ≤ hi ∧ hi ≤ 255 ∧ 0 ≤ rm ∧ rm ≤ 9223372036854775807 ∧ (k : Int) + (hi - lo + 1) = most)) (fun l _ _ => (intOf l).toNat)
            case atStart =>
              have h1 := F0.out
              have h2 := HM.out
              have h3 := HB.out
              exact ⟨rfl, b, rm, k, rfl, rfl, h1.1, N0.out, by omega, by omega, by omega, by omega, by omega, by omega⟩
            case round =>
              obtain ⟨hw, lo, rm, k, rfl, rfl, f⟩ := hrel
              subst hw
              have F := Lib.hid f
              clear f F0 N0
              have v1 : IntKind.i64.wrap (hi - lo) = hi - lo := by have := F.out; rw [IntKind.wrap_i64]; omega
              have v2 : IntKind.i64.wrap (hi - lo + 1) = hi - lo + 1 := by have := F.out; rw [IntKind.wrap_i64]; omega
              cases k with
              | zero =>
                have t1 : decide (hi - lo + 1 < most) = false := decide_eq_false (by have := F.out; omega)
                have GE := Lib.hid (show (lo, hi) = G from F.out.1)
                have f0 := C0.out.frozen 0
                have f1 := C0.out.frozen 1
                obtain ⟨c0, c1⟩ := C0.out.two
                have ge := GE.out
                subst ge
                have rr := RR.out
                dsimp only at rr
                subst rr
                clear GE RR
                go_wp2_with fail
                exact bodyPost_ret (results_run2 rfl _ _ g ⟨lo, hi - lo + 1⟩ rfl ((C0.out.put 0 _).put 1 _)) rfl ⟨rfl, (O0.out.new (by have := GW.out; omega) _ _).new (by have := GW.out; omega) _ _⟩
              | succ k =>
                have t1 : decide (hi - lo + 1 < most) = true := decide_eq_true (by have := F.out; omega)
                have NOK := Lib.hid (show okB (hasB xs) (hasB ys) (hi + 1) rm = false from by
                  rcases F.out.2.1 with q | q
                  · cases q
                  · exact q)
                by_cases hE : 0 < lo
                · have t2 : decide (0 < lo) = true := decide_eq_true hE
                  obtain ⟨x, hx⟩ : ∃ x, x = lo - 1 := ⟨_, rfl⟩
                  have v3 : IntKind.i64.wrap (lo - 1) = x := by have := F.out; rw [hx, IntKind.wrap_i64]; omega
                  have HX := Lib.hid hx
                  have XR := Lib.hid (show 0 ≤ x ∧ x < 256 from by have := F.out; omega)
                  have IQ := IX.out x _ O0.out
                  have JQ := IY.out x _ O0.out
                  rw [← hasB_in XR.out.1 XR.out.2] at IQ JQ
                  have IQ := Lib.hid IQ
                  have JQ := Lib.hid JQ
                  have CC := Lib.hid (costB_cases (hasB ys) x)
                  clear hx hE
                  cases qr : hasB xs x with
                  | false =>
                    rw [qr] at IQ
                    have OKN := Lib.hid (show okB (hasB xs) (hasB ys) (lo - 1) rm = false from by rw [← HX.out]; unfold okB; rw [qr, Bool.false_and])
                    clear qr
                    go_wp2_with fail
                    (with_reducible refine IQ.out.mono ?_)
                    rintro e w2 ⟨rfl, rfl⟩
                    have GE := Lib.hid (show (lo, hi) = G from by rw [← F.out.1]; exact (grow_end NOK.out OKN.out).symm)
                    have f0 := C0.out.frozen 0
                    have f1 := C0.out.frozen 1
                    obtain ⟨c0, c1⟩ := C0.out.two
                    have ge := GE.out
                    subst ge
                    have rr := RR.out
                    dsimp only at rr
                    subst rr
                    clear GE RR
                    go_wp2_with fail
                    exact bodyPost_ret (results_run2 rfl _ _ g ⟨lo, hi - lo + 1⟩ rfl ((C0.out.put 0 _).put 1 _)) rfl ⟨rfl, (O0.out.new (by have := GW.out; omega) _ _).new (by have := GW.out; omega) _ _⟩
                  | true =>
                    rw [qr] at IQ
                    by_cases hz : 0 < rm
                    · have T3 := Lib.hid (show 0 < rm from hz)
                      have t3 : decide (0 < rm) = true := decide_eq_true hz
                      have GS := Lib.hid (show grow (hasB xs) (hasB ys) (k + 1) lo hi rm = grow (hasB xs) (hasB ys) k x hi (rm - costB (hasB ys) x) from by
                        rw [HX.out]
                        refine grow_down NOK.out ?_
                        rw [← HX.out]
                        unfold okB
                        rw [qr, decide_eq_true (show costB (hasB ys) x ≤ rm by have := CC.out; omega)]
                        rfl)
                      have v4 : IntKind.i64.wrap (rm - 1) = rm - 1 := by have := F.out; rw [IntKind.wrap_i64]; omega
                      clear qr hz
                      go_wp2_with fail
                      (with_reducible refine IQ.out.mono ?_)
                      rintro e w2 ⟨rfl, rfl⟩
                      go_wp2_with fail
                      cases qn : hasB ys x with
                      | true =>
                        rw [qn] at JQ
                        have CV := Lib.hid (show costB (hasB ys) x = 1 from by unfold costB; rw [qn]; rfl)
                        clear qn
                        (with_reducible refine JQ.out.mono ?_)
                        rintro e w3 ⟨rfl, rfl⟩
                        go_wp2_with fail
                        go_roundw
                        case rel =>
                          refine ⟨by trivial, x, rm - 1, k, rfl, rfl, ?_⟩
                          have h1 := F.out
                          have h2 := HX.out
                          have h3 := XR.out
                          have h4 := T3.out
                          refine ⟨by rw [← h1.1, GS.out, CV.out], .inr (okB_less NOK.out (by omega)), by omega, by omega, by omega, by omega, by omega, by omega⟩
                        case measure => have h1 := F.out; have h2 := HX.out; have h3 := XR.out; simp [intOf]; omega
                      | false =>
                        rw [qn] at JQ
                        have CV := Lib.hid (show costB (hasB ys) x = 0 from by unfold costB; rw [qn]; rfl)
                        clear qn
                        (with_reducible refine JQ.out.mono ?_)
                        rintro e w3 ⟨rfl, rfl⟩
                        go_wp2_with fail
                        go_roundw
                        case rel =>
                          refine ⟨by trivial, x, rm, k, rfl, rfl, ?_⟩
                          have h1 := F.out
                          have h2 := HX.out
                          have h3 := XR.out
                          have h4 := T3.out
                          refine ⟨by rw [← h1.1, GS.out, CV.out]; simp, .inr (okB_less NOK.out (by omega)), by omega, by omega, by omega, by omega, by omega, by omega⟩
                        case measure => have h1 := F.out; have h2 := HX.out; have h3 := XR.out; simp [intOf]; omega
                    · have t3 : decide (0 < rm) = false := decide_eq_false hz
                      have RZ := Lib.hid (show rm = 0 from by have := F.out; omega)
                      cases qn : hasB ys x with
                      | true =>
                        rw [qn] at JQ
                        have OKN := Lib.hid (show okB (hasB xs) (hasB ys) (lo - 1) rm = false from by rw [← HX.out]; unfold okB costB; rw [qr, qn, RZ.out]; decide)
                        clear qr qn hz
                        go_wp2_with fail
                        (with_reducible refine IQ.out.mono ?_)
                        rintro e w2 ⟨rfl, rfl⟩
                        go_wp2_with fail
                        (with_reducible refine JQ.out.mono ?_)
                        rintro e w3 ⟨rfl, rfl⟩
                        have GE := Lib.hid (show (lo, hi) = G from by rw [← F.out.1]; exact (grow_end NOK.out OKN.out).symm)
                        have f0 := C0.out.frozen 0
                        have f1 := C0.out.frozen 1
                        obtain ⟨c0, c1⟩ := C0.out.two
                        have ge := GE.out
                        subst ge
                        have rr := RR.out
                        dsimp only at rr
                        subst rr
                        clear GE RR
                        go_wp2_with fail
                        exact bodyPost_ret (results_run2 rfl _ _ g ⟨lo, hi - lo + 1⟩ rfl ((C0.out.put 0 _).put 1 _)) rfl ⟨rfl, (O0.out.new (by have := GW.out; omega) _ _).new (by have := GW.out; omega) _ _⟩
                      | false =>
                        rw [qn] at JQ
                        have CV := Lib.hid (show costB (hasB ys) x = 0 from by unfold costB; rw [qn]; rfl)
                        have GS := Lib.hid (show grow (hasB xs) (hasB ys) (k + 1) lo hi rm = grow (hasB xs) (hasB ys) k x hi (rm - costB (hasB ys) x) from by
                          rw [HX.out]
                          refine grow_down NOK.out ?_
                          rw [← HX.out]
                          unfold okB
                          rw [qr, CV.out, RZ.out]
                          decide)
                        clear qr qn hz
                        go_wp2_with fail
                        (with_reducible refine IQ.out.mono ?_)
                        rintro e w2 ⟨rfl, rfl⟩
                        go_wp2_with fail
                        (with_reducible refine JQ.out.mono ?_)
                        rintro e w3 ⟨rfl, rfl⟩
                        go_wp2_with fail
                        (with_reducible refine JQ.out.mono ?_)
                        rintro e w4 ⟨rfl, rfl⟩
                        go_wp2_with fail
                        go_roundw
                        case rel =>
                          refine ⟨by trivial, x, rm, k, rfl, rfl, ?_⟩
                          have h1 := F.out
                          have h2 := HX.out
                          have h3 := XR.out
                          refine ⟨by rw [← h1.1, GS.out, CV.out]; simp, .inr (okB_less NOK.out (by omega)), by omega, by omega, by omega, by omega, by omega, by omega⟩
                        case measure => have h1 := F.out; have h2 := HX.out; have h3 := XR.out; simp [intOf]; omega
                · have t2 : decide (0 < lo) = false := decide_eq_false hE
                  have OKN := Lib.hid (show okB (hasB xs) (hasB ys) (lo - 1) rm = false from by unfold okB; rw [show hasB xs (lo - 1) = false from by cases q : hasB xs (lo - 1) with | false => rfl | true => (have := hasB_yes q; have := F.out; omega), Bool.false_and])
                  clear hE
                  have GE := Lib.hid (show (lo, hi) = G from by rw [← F.out.1]; exact (grow_end NOK.out OKN.out).symm)
                  have f0 := C0.out.frozen 0
                  have f1 := C0.out.frozen 1
                  obtain ⟨c0, c1⟩ := C0.out.two
                  have ge := GE.out
                  subst ge
                  have rr := RR.out
                  dsimp only at rr
                  subst rr
                  clear GE RR
                  go_wp2_with fail
                  exact bodyPost_ret (results_run2 rfl _ _ g ⟨lo, hi - lo + 1⟩ rfl ((C0.out.put 0 _).put 1 _)) rfl ⟨rfl, (O0.out.new (by have := GW.out; omega) _ _).new (by have := GW.out; omega) _ _⟩
      | false =>
        rw [qn] at JB
        have CB := Lib.hid (show costB (hasB ys) b = 0 from by unfold costB; rw [qn]; rfl)
        clear qn
        (with_reducible refine (JB.out _ O0.out).mono ?_)
        rintro e w'' ⟨rfl, rfl⟩
        obtain ⟨rfl, hR⟩ := AO.out NA.out (by rw [CB.out]; have := H0.out; omega)
        unfold growTo at hR
        rw [CB.out] at hR
        have RB := Lib.hid (show 0 ≤ room ∧ room ≤ 9223372036854775807 from by have := H0.out; have := HR.out; omega)
        rw [show room - 0 = room by omega] at hR
        generalize hrm : room = rm at *
        clear hrm
        go_upto_block 0 with fail
        have HG := Lib.hid (show ∃ G, grow (hasB xs) (hasB ys) (most - 1).toNat b b rm = G from ⟨_, rfl⟩)
        obtain ⟨G, hG⟩ := HG.out
        rw [hG] at hR
        have GG := Lib.hid hG
        have RR := Lib.hid hR
        clear hG hR HG JB AF AO
        go_cut [13, 4] (fun h r wx => wx = w'' ∧ ∃ (hi rm : Int) (k : Nat), h = .int .i64 hi ∧ r = .int .i64 rm ∧ (grow (hasB xs) (hasB ys) k b hi rm = G ∧ b ≤ hi ∧ hi ≤ 255 ∧ 0 ≤ rm ∧ rm ≤ 9223372036854775807 ∧ (k : Int) + (hi - b + 1) = most) ∧ (k = 0 ∨ okB (hasB xs) (hasB ys) (hi + 1) rm = false))
        case first =>
          go_wp2_with fail
          go_loopw [13, 4] (fun h r wr => wr = w'' ∧ ∃ (hi rm : Int) (k : Nat), h = .int .i64 hi ∧ r = .int .i64 rm ∧ (grow (hasB xs) (hasB ys) k b hi rm = G ∧ b ≤ hi ∧ hi ≤ 255 ∧ 0 ≤ rm ∧ rm ≤ 9223372036854775807 ∧ (k : Int) + (hi - b + 1) = most)) (fun h _ _ => (256 - intOf h).toNat)
          case atStart =>
            have h1 := RB.out
            have h2 := HM.out
            have h3 := HB.out
            exact ⟨rfl, b, rm, (most - 1).toNat, rfl, rfl, GG.out, by omega, by omega, by omega, by omega, by omega⟩
          case round =>
            obtain ⟨hw, hi, rm, k, rfl, rfl, f⟩ := hrel
            subst hw
            have F := Lib.hid f
            clear f GG RB
            have hb := HB.out
            have HBM := Lib.hid hb
            clear hb
            have v1 : IntKind.i64.wrap (hi - b) = hi - b := by have := F.out; have := HB.out; have := HM.out; rw [IntKind.wrap_i64]; omega
            have v2 : IntKind.i64.wrap (hi - b + 1) = hi - b + 1 := by have := F.out; have := HB.out; have := HM.out; rw [IntKind.wrap_i64]; omega
            cases k with
            | zero =>
              have t1 : decide (hi - b + 1 < most) = false := decide_eq_false (by have := F.out; have := HB.out; have := HM.out; omega)
              go_wp2_with fail
              go_meet
              exact ⟨rfl, hi, rm, 0, rfl, rfl, F.out, .inl rfl⟩
            | succ k =>
              have t1 : decide (hi - b + 1 < most) = true := decide_eq_true (by have := F.out; have := HB.out; have := HM.out; omega)
              by_cases hE : hi < 255
              · have t2 : decide (hi < 255) = true := decide_eq_true hE
                obtain ⟨x, hx⟩ : ∃ x, x = hi + 1 := ⟨_, rfl⟩
                have v3 : IntKind.i64.wrap (hi + 1) = x := by have := F.out; have := HB.out; have := HM.out; rw [hx, IntKind.wrap_i64]; omega
                have HX := Lib.hid hx
                have XR := Lib.hid (show 0 ≤ x ∧ x < 256 from by have := F.out; have := HB.out; have := HM.out; omega)
                have IQ := IX.out x _ O0.out
                have JQ := IY.out x _ O0.out
                rw [← hasB_in XR.out.1 XR.out.2] at IQ JQ
                have IQ := Lib.hid IQ
                have JQ := Lib.hid JQ
                have CC := Lib.hid (costB_cases (hasB ys) x)
                clear hx hE
                cases qr : hasB xs x with
                | false =>
                  rw [qr] at IQ
                  have OKN := Lib.hid (show okB (hasB xs) (hasB ys) (hi + 1) rm = false from by rw [← HX.out]; unfold okB; rw [qr, Bool.false_and])
                  clear qr
                  go_wp2_with fail
                  (with_reducible refine IQ.out.mono ?_)
                  rintro e w2 ⟨rfl, rfl⟩
                  go_wp2_with fail
                  go_meet
                  exact ⟨rfl, hi, rm, k + 1, rfl, rfl, F.out, .inr OKN.out⟩
                | true =>
                  rw [qr] at IQ
                  by_cases hz : 0 < rm
                  · have T3 := Lib.hid (show 0 < rm from hz)
                    have t3 : decide (0 < rm) = true := decide_eq_true hz
                    have GS := Lib.hid (show grow (hasB xs) (hasB ys) (k + 1) b hi rm = grow (hasB xs) (hasB ys) k b x (rm - costB (hasB ys) x) from by
                      rw [HX.out]
                      refine grow_up ?_
                      rw [← HX.out]
                      unfold okB
                      rw [qr, decide_eq_true (show costB (hasB ys) x ≤ rm by have := CC.out; omega)]
                      rfl)
                    have v4 : IntKind.i64.wrap (rm - 1) = rm - 1 := by have := F.out; have := HB.out; have := HM.out; rw [IntKind.wrap_i64]; omega
                    clear qr hz
                    go_wp2_with fail
                    (with_reducible refine IQ.out.mono ?_)
                    rintro e w2 ⟨rfl, rfl⟩
                    go_wp2_with fail
                    cases qn : hasB ys x with
                    | true =>
                      rw [qn] at JQ
                      have CV := Lib.hid (show costB (hasB ys) x = 1 from by unfold costB; rw [qn]; rfl)
                      clear qn
                      (with_reducible refine JQ.out.mono ?_)
                      rintro e w3 ⟨rfl, rfl⟩
                      go_wp2_with fail
                      go_roundw
                      case rel =>
                        refine ⟨by trivial, x, rm - 1, k, rfl, rfl, ?_⟩
                        have h1 := F.out
                        have h2 := HX.out
                        have h3 := XR.out
                        have h4 := T3.out
                        refine ⟨by rw [← h1.1, GS.out, CV.out], by omega, by omega, by omega, by omega, by omega⟩
                      case measure => have h1 := F.out; have h2 := HX.out; have h3 := XR.out; simp [intOf]; omega
                    | false =>
                      rw [qn] at JQ
                      have CV := Lib.hid (show costB (hasB ys) x = 0 from by unfold costB; rw [qn]; rfl)
                      clear qn
                      (with_reducible refine JQ.out.mono ?_)
                      rintro e w3 ⟨rfl, rfl⟩
                      go_wp2_with fail
                      go_roundw
                      case rel =>
                        refine ⟨by trivial, x, rm, k, rfl, rfl, ?_⟩
                        have h1 := F.out
                        have h2 := HX.out
                        have h3 := XR.out
                        have h4 := T3.out
                        refine ⟨by rw [← h1.1, GS.out, CV.out]; simp, by omega, by omega, by omega, by omega, by omega⟩
                      case measure => have h1 := F.out; have h2 := HX.out; have h3 := XR.out; simp [intOf]; omega
                  · have t3 : decide (0 < rm) = false := decide_eq_false hz
                    have RZ := Lib.hid (show rm = 0 from by have := F.out; have := HB.out; have := HM.out; omega)
                    cases qn : hasB ys x with
                    | true =>
                      rw [qn] at JQ
                      have OKN := Lib.hid (show okB (hasB xs) (hasB ys) (hi + 1) rm = false from by rw [← HX.out]; unfold okB costB; rw [qr, qn, RZ.out]; decide)
                      clear qr qn hz
                      go_wp2_with fail
                      (with_reducible refine IQ.out.mono ?_)
                      rintro e w2 ⟨rfl, rfl⟩
                      go_wp2_with fail
                      (with_reducible refine JQ.out.mono ?_)
                      rintro e w3 ⟨rfl, rfl⟩
                      go_wp2_with fail
                      go_meet
                      exact ⟨rfl, hi, rm, k + 1, rfl, rfl, F.out, .inr OKN.out⟩
                    | false =>
                      rw [qn] at JQ
                      have CV := Lib.hid (show costB (hasB ys) x = 0 from by unfold costB; rw [qn]; rfl)
                      have GS := Lib.hid (show grow (hasB xs) (hasB ys) (k + 1) b hi rm = grow (hasB xs) (hasB ys) k b x (rm - costB (hasB ys) x) from by
                        rw [HX.out]
                        refine grow_up ?_
                        rw [← HX.out]
                        unfold okB
                        rw [qr, CV.out, RZ.out]
                        decide)
                      clear qr qn hz
                      go_wp2_with fail
                      (with_reducible refine IQ.out.mono ?_)
                      rintro e w2 ⟨rfl, rfl⟩
                      go_wp2_with fail
                      (with_reducible refine JQ.out.mono ?_)
                      rintro e w3 ⟨rfl, rfl⟩
                      go_wp2_with fail
                      (with_reducible refine JQ.out.mono ?_)
                      rintro e w4 ⟨rfl, rfl⟩
                      go_wp2_with fail
                      go_roundw
                      case rel =>
                        refine ⟨by trivial, x, rm, k, rfl, rfl, ?_⟩
                        have h1 := F.out
                        have h2 := HX.out
                        have h3 := XR.out
                        refine ⟨by rw [← h1.1, GS.out, CV.out]; simp, by omega, by omega, by omega, by omega, by omega⟩
                      case measure => have h1 := F.out; have h2 := HX.out; have h3 := XR.out; simp [intOf]; omega
              · have t2 : decide (hi < 255) = false := decide_eq_false hE
                have OKN := Lib.hid (show okB (hasB xs) (hasB ys) (hi + 1) rm = false from by unfold okB; rw [show hasB xs (hi + 1) = false from by cases q : hasB xs (hi + 1) with | false => rfl | true => (have := hasB_yes q; have := F.out; have := HB.out; have := HM.out; omega), Bool.false_and])
                clear hE
                go_wp2_with fail
                go_meet
                exact ⟨rfl, hi, rm, k + 1, rfl, rfl, F.out, .inr OKN.out⟩
        case rest =>
          obtain ⟨rfl, hi, rm, k, rfl, rfl, f, nok⟩ := hcut
          have F0 := Lib.hid f
          have N0 := Lib.hid nok
          clear f nok GG RB
          go_wp2_with fail
          go_loopw [12, 4] (fun l r wr => wr = wc ∧ ∃ (lo rm : Int) (k : Nat), l = .int .i64 lo ∧ r = .int .i64 rm ∧ (grow (hasB xs) (hasB ys) k lo hi rm = G ∧ (k = 0 ∨ okB (hasB xs) (hasB ys) (hi + 1) rm = false) ∧ 0 ≤ lo ∧ lo ≤ hi ∧ hi ≤ 255 ∧ 0 ≤ rm ∧ rm ≤ 9223372036854775807 ∧ (k : Int) + (hi - lo + 1) = most)) (fun l _ _ => (intOf l).toNat)
          case atStart =>
            have h1 := F0.out
            have h2 := HM.out
            have h3 := HB.out
            exact ⟨rfl, b, rm, k, rfl, rfl, h1.1, N0.out, by omega, by omega, by omega, by omega, by omega, by omega⟩
          case round =>
            obtain ⟨hw, lo, rm, k, rfl, rfl, f⟩ := hrel
            subst hw
            have F := Lib.hid f
            clear f F0 N0
            have v1 : IntKind.i64.wrap (hi - lo) = hi - lo := by have := F.out; rw [IntKind.wrap_i64]; omega
            have v2 : IntKind.i64.wrap (hi - lo + 1) = hi - lo + 1 := by have := F.out; rw [IntKind.wrap_i64]; omega
            cases k with
            | zero =>
              have t1 : decide (hi - lo + 1 < most) = false := decide_eq_false (by have := F.out; omega)
              have GE := Lib.hid (show (lo, hi) = G from F.out.1)
              have f0 := C0.out.frozen 0
              have f1 := C0.out.frozen 1
              obtain ⟨c0, c1⟩ := C0.out.two
              have ge := GE.out
              subst ge
              have rr := RR.out
              dsimp only at rr
              subst rr
              clear GE RR
              go_wp2_with fail
              exact bodyPost_ret (results_run2 rfl _ _ g ⟨lo, hi - lo + 1⟩ rfl ((C0.out.put 0 _).put 1 _)) rfl ⟨rfl, (O0.out.new (by have := GW.out; omega) _ _).new (by have := GW.out; omega) _ _⟩
            | succ k =>
              have t1 : decide (hi - lo + 1 < most) = true := decide_eq_true (by have := F.out; omega)
              have NOK := Lib.hid (show okB (hasB xs) (hasB ys) (hi + 1) rm = false from by
                rcases F.out.2.1 with q | q
                · cases q
                · exact q)
              by_cases hE : 0 < lo
              · have t2 : decide (0 < lo) = true := decide_eq_true hE
                obtain ⟨x, hx⟩ : ∃ x, x = lo - 1 := ⟨_, rfl⟩
                have v3 : IntKind.i64.wrap (lo - 1) = x := by have := F.out; rw [hx, IntKind.wrap_i64]; omega
                have HX := Lib.hid hx
                have XR := Lib.hid (show 0 ≤ x ∧ x < 256 from by have := F.out; omega)
                have IQ := IX.out x _ O0.out
                have JQ := IY.out x _ O0.out
                rw [← hasB_in XR.out.1 XR.out.2] at IQ JQ
                have IQ := Lib.hid IQ
                have JQ := Lib.hid JQ
                have CC := Lib.hid (costB_cases (hasB ys) x)
                clear hx hE
                cases qr : hasB xs x with
                | false =>
                  rw [qr] at IQ
                  have OKN := Lib.hid (show okB (hasB xs) (hasB ys) (lo - 1) rm = false from by rw [← HX.out]; unfold okB; rw [qr, Bool.false_and])
                  clear qr
                  go_wp2_with fail
                  (with_reducible refine IQ.out.mono ?_)
                  rintro e w2 ⟨rfl, rfl⟩
                  have GE := Lib.hid (show (lo, hi) = G from by rw [← F.out.1]; exact (grow_end NOK.out OKN.out).symm)
                  have f0 := C0.out.frozen 0
                  have f1 := C0.out.frozen 1
                  obtain ⟨c0, c1⟩ := C0.out.two
                  have ge := GE.out
                  subst ge
                  have rr := RR.out
                  dsimp only at rr
                  subst rr
                  clear GE RR
                  go_wp2_with fail
                  exact bodyPost_ret (results_run2 rfl _ _ g ⟨lo, hi - lo + 1⟩ rfl ((C0.out.put 0 _).put 1 _)) rfl ⟨rfl, (O0.out.new (by have := GW.out; omega) _ _).new (by have := GW.out; omega) _ _⟩
                | true =>
                  rw [qr] at IQ
                  by_cases hz : 0 < rm
                  · have T3 := Lib.hid (show 0 < rm from hz)
                    have t3 : decide (0 < rm) = true := decide_eq_true hz
                    have GS := Lib.hid (show grow (hasB xs) (hasB ys) (k + 1) lo hi rm = grow (hasB xs) (hasB ys) k x hi (rm - costB (hasB ys) x) from by
                      rw [HX.out]
                      refine grow_down NOK.out ?_
                      rw [← HX.out]
                      unfold okB
                      rw [qr, decide_eq_true (show costB (hasB ys) x ≤ rm by have := CC.out; omega)]
                      rfl)
                    have v4 : IntKind.i64.wrap (rm - 1) = rm - 1 := by have := F.out; rw [IntKind.wrap_i64]; omega
                    clear qr hz
                    go_wp2_with fail
                    (with_reducible refine IQ.out.mono ?_)
                    rintro e w2 ⟨rfl, rfl⟩
                    go_wp2_with fail
                    cases qn : hasB ys x with
                    | true =>
                      rw [qn] at JQ
                      have CV := Lib.hid (show costB (hasB ys) x = 1 from by unfold costB; rw [qn]; rfl)
                      clear qn
                      (with_reducible refine JQ.out.mono ?_)
                      rintro e w3 ⟨rfl, rfl⟩
                      go_wp2_with fail
                      go_roundw
                      case rel =>
                        refine ⟨by trivial, x, rm - 1, k, rfl, rfl, ?_⟩
                        have h1 := F.out
                        have h2 := HX.out
                        have h3 := XR.out
                        have h4 := T3.out
                        refine ⟨by rw [← h1.1, GS.out, CV.out], .inr (okB_less NOK.out (by omega)), by omega, by omega, by omega, by omega, by omega, by omega⟩
                      case measure => have h1 := F.out; have h2 := HX.out; have h3 := XR.out; simp [intOf]; omega
                    | false =>
                      rw [qn] at JQ
                      have CV := Lib.hid (show costB (hasB ys) x = 0 from by unfold costB; rw [qn]; rfl)
                      clear qn
                      (with_reducible refine JQ.out.mono ?_)
                      rintro e w3 ⟨rfl, rfl⟩
                      go_wp2_with fail
                      go_roundw
                      case rel =>
                        refine ⟨by trivial, x, rm, k, rfl, rfl, ?_⟩
                        have h1 := F.out
                        have h2 := HX.out
                        have h3 := XR.out
                        have h4 := T3.out
                        refine ⟨by rw [← h1.1, GS.out, CV.out]; simp, .inr (okB_less NOK.out (by omega)), by omega, by omega, by omega, by omega, by omega, by omega⟩
                      case measure => have h1 := F.out; have h2 := HX.out; have h3 := XR.out; simp [intOf]; omega
                  · have t3 : decide (0 < rm) = false := decide_eq_false hz
                    have RZ := Lib.hid (show rm = 0 from by have := F.out; omega)
                    cases qn : hasB ys x with
                    | true =>
                      rw [qn] at JQ
                      have OKN := Lib.hid (show okB (hasB xs) (hasB ys) (lo - 1) rm = false from by rw [← HX.out]; unfold okB costB; rw [qr, qn, RZ.out]; decide)
                      clear qr qn hz
                      go_wp2_with fail
                      (with_reducible refine IQ.out.mono ?_)
                      rintro e w2 ⟨rfl, rfl⟩
                      go_wp2_with fail
                      (with_reducible refine JQ.out.mono ?_)
                      rintro e w3 ⟨rfl, rfl⟩
                      have GE := Lib.hid (show (lo, hi) = G from by rw [← F.out.1]; exact (grow_end NOK.out OKN.out).symm)
                      have f0 := C0.out.frozen 0
                      have f1 := C0.out.frozen 1
                      obtain ⟨c0, c1⟩ := C0.out.two
                      have ge := GE.out
                      subst ge
                      have rr := RR.out
                      dsimp only at rr
                      subst rr
                      clear GE RR
                      go_wp2_with fail
                      exact bodyPost_ret (results_run2 rfl _ _ g ⟨lo, hi - lo + 1⟩ rfl ((C0.out.put 0 _).put 1 _)) rfl ⟨rfl, (O0.out.new (by have := GW.out; omega) _ _).new (by have := GW.out; omega) _ _⟩
                    | false =>
                      rw [qn] at JQ
                      have CV := Lib.hid (show costB (hasB ys) x = 0 from by unfold costB; rw [qn]; rfl)
                      have GS := Lib.hid (show grow (hasB xs) (hasB ys) (k + 1) lo hi rm = grow (hasB xs) (hasB ys) k x hi (rm - costB (hasB ys) x) from by
                        rw [HX.out]
                        refine grow_down NOK.out ?_
                        rw [← HX.out]
                        unfold okB
                        rw [qr, CV.out, RZ.out]
                        decide)
                      clear qr qn hz
                      go_wp2_with fail
                      (with_reducible refine IQ.out.mono ?_)
                      rintro e w2 ⟨rfl, rfl⟩
                      go_wp2_with fail
                      (with_reducible refine JQ.out.mono ?_)
                      rintro e w3 ⟨rfl, rfl⟩
                      go_wp2_with fail
                      (with_reducible refine JQ.out.mono ?_)
                      rintro e w4 ⟨rfl, rfl⟩
                      go_wp2_with fail
                      go_roundw
                      case rel =>
                        refine ⟨by trivial, x, rm, k, rfl, rfl, ?_⟩
                        have h1 := F.out
                        have h2 := HX.out
                        have h3 := XR.out
                        refine ⟨by rw [← h1.1, GS.out, CV.out]; simp, .inr (okB_less NOK.out (by omega)), by omega, by omega, by omega, by omega, by omega, by omega⟩
                      case measure => have h1 := F.out; have h2 := HX.out; have h3 := XR.out; simp [intOf]; omega
              · have t2 : decide (0 < lo) = false := decide_eq_false hE
                have OKN := Lib.hid (show okB (hasB xs) (hasB ys) (lo - 1) rm = false from by unfold okB; rw [show hasB xs (lo - 1) = false from by cases q : hasB xs (lo - 1) with | false => rfl | true => (have := hasB_yes q; have := F.out; omega), Bool.false_and])
                clear hE
                have GE := Lib.hid (show (lo, hi) = G from by rw [← F.out.1]; exact (grow_end NOK.out OKN.out).symm)
                have f0 := C0.out.frozen 0
                have f1 := C0.out.frozen 1
                obtain ⟨c0, c1⟩ := C0.out.two
                have ge := GE.out
                subst ge
                have rr := RR.out
                dsimp only at rr
                subst rr
                clear GE RR
                go_wp2_with fail
                exact bodyPost_ret (results_run2 rfl _ _ g ⟨lo, hi - lo + 1⟩ rfl ((C0.out.put 0 _).put 1 _)) rfl ⟨rfl, (O0.out.new (by have := GW.out; omega) _ _).new (by have := GW.out; omega) _ _⟩
end Go.Proofs.Ytobeoknaanbakaa
