/- The run that is grown around a block: the code's own. -/
import Derived.Test.YtobeoknaanbakaaRkB
import Derived.WalkMore
import Derived.LoopN
namespace Go.Proofs.Ytobeoknaanbakaa
open Go.RowKit
set_option linter.unusedVariables false

/-- what lies in memory while a run grows -/
structure GrAt (w0 w : World) (g : Nat) (xs ys : List Int) (lo c : Int) : Prop where
  sx : SetAt w g (hasB xs)
  sy : SetAt w (g + 1) (hasB ys)
  rc : Row w (g + 1 + 1) 27 #[.int .i64 0, .int .i64 0]
  rr : Row w (g + 1 + 1 + 1) 27 #[.int .i64 lo, .int .i64 c]
  only : Only none_ w0 w
  at_ : w0.heap.size = g
theorem GrAt.still {w0 w w' : World} {g : Nat} {xs ys : List Int} {lo c : Int} (h : GrAt w0 w g xs ys lo c) (o : Only none_ w w') : GrAt w0 w' g xs ys lo c :=
  ⟨h.sx.still o, h.sy.still o, o.still h.rc, o.still h.rr, h.only.same o, h.at_⟩
theorem GrAt.put {w0 w : World} {g : Nat} {xs ys : List Int} {lo c : Int} (h : GrAt w0 w g xs ys lo c) (lo' c' : Int) :
    GrAt w0 ((w.setCell ⟨g + 1 + 1 + 1, 0, none⟩ (.int .i64 lo')).setCell ⟨g + 1 + 1 + 1, 1, none⟩ (.int .i64 c')) g xs ys lo' c' := by
  have e := h.at_
  exact ⟨(Row.far h.sx (by show g ≠ _; simp only; omega) _).far (by show g ≠ _; simp only; omega) _, (Row.far h.sy (by show g + 1 ≠ _; simp only; omega) _).far (by show g + 1 ≠ _; simp only; omega) _,
    (h.rc.far (by show g + 1 + 1 ≠ _; simp only; omega) _).far (by show g + 1 + 1 ≠ _; simp only; omega) _, (h.rr.put 0 _).put 1 _, (h.only.new (by omega) _ _).new (by omega) _ _, e⟩

theorem index0 (x y : Value) (w : World) : (Instr.index 54 (.agg #[x, y]) (.int .i64 0)).run Try.prog w = .ok x w := by kernel_rfl
theorem index1 (x y : Value) (w : World) : (Instr.index 54 (.agg #[x, y]) (.int .i64 1)).run Try.prog w = .ok y w := by kernel_rfl
set_option maxHeartbeats 2000000 in
theorem grown_any (xs ys : List Int) (b most room : Int) (w : World) (hb : hasB xs b = true) (hm : 1 ≤ most ∧ most ≤ 8) (hr : 0 ≤ room ∧ room ≤ 9223372036854775807) :
    Calls Try.prog 25 #[.agg (bits (hasB xs)), .agg (bits (hasB ys)), .int .i64 b, .int .i64 most, .int .i64 room] w fun e w' =>
      e = .returned (Rn.mk (grow (hasB xs) (hasB ys) (most - 1).toNat b b room).1 ((grow (hasB xs) (hasB ys) (most - 1).toNat b b room).2 - (grow (hasB xs) (hasB ys) (most - 1).toNat b b room).1 + 1)).val ∧ Only none_ w w' := by
  have v1 : IntKind.i64.wrap (most - 1) = most - 1 := by rw [IntKind.wrap_i64]; omega
  unfold Rn.val
  generalize hG : grow (hasB xs) (hasB ys) (most - 1).toNat b b room = G
  obtain ⟨n, hn⟩ := Int.eq_ofNat_of_zero_le (show 0 ≤ most - 1 by omega)
  rw [hn] at v1 hG
  rw [Int.toNat_natCast] at hG
  have HB := Lib.hid (hasB_yes hb)
  have HR := Lib.hid hr
  have HG := Lib.hid hG
  have HN := Lib.hid (show n ≤ 7 from by omega)
  clear hb hm hr hG
  have I0 := index0
  have I1 := index1
  go_enter Try.func25, Try.ntmps25
  go_wp2_with fail
  go_step3
  go_wp2_with fail
  go_step3
  go_wp2_with fail
  obtain ⟨q0, q1, q2, q3, q4⟩ := four_new w 46 46 27 27 (bits (hasB xs)) (bits (hasB ys)) #[.int .i64 0, .int .i64 0] #[.int .i64 b, .int .i64 1]
  have A0 := Lib.hid (show GrAt w ((((w.alloc (.cells (bits (hasB xs)) 46)).alloc (.cells (bits (hasB ys)) 46)).alloc (.cells #[.int .i64 0, .int .i64 0] 27)).alloc (.cells #[.int .i64 b, .int .i64 1] 27)) w.heap.size xs ys b 1 from ⟨q0, q1, q2, q3, q4, rfl⟩)
  clear q0 q1 q2 q3 q4 v1
  revert A0
  generalize (((w.alloc (.cells (bits (hasB xs)) 46)).alloc (.cells (bits (hasB ys)) 46)).alloc (.cells #[.int .i64 0, .int .i64 0] 27)).alloc (.cells #[.int .i64 b, .int .i64 1] 27) = W1
  generalize w.heap.size = g
  intro A0
  generalize bits (hasB xs) = bx
  generalize bits (hasB ys) = by_
  clear hn
  go_loopw [18, 4] (fun i ro wr => ∃ (k : Nat) (lo c rm : Int), k ≤ n ∧ i = .int .i64 k ∧ ro = .int .i64 rm ∧ GrAt w wr g xs ys lo c ∧ (grow (hasB xs) (hasB ys) (n - k) lo (lo + c - 1) rm = G ∧ 1 ≤ c ∧ c ≤ k + 1 ∧ 0 ≤ lo ∧ lo + c ≤ 256 ∧ 0 ≤ rm ∧ rm ≤ 9223372036854775807)) (fun i _ _ => n - (intOf i).toNat)
  case atStart =>
    have h1 := HB.out
    have h2 := HR.out
    exact ⟨0, b, 1, room, Nat.zero_le _, rfl, rfl, A0.out, by rw [← HG.out, show b + 1 - 1 = b by omega]; rfl, by omega, by omega, by omega, by omega, by omega, by omega⟩
  case round =>
    obtain ⟨k, lo, c, rm, hk, rfl, rfl, ha, hx⟩ := hrel
    have A := Lib.hid ha
    have X := Lib.hid hx
    clear A0 ha HB HR HG
    have hkb : k ≤ 7 := by have := HN.out; omega
    by_cases hlt : k < n
    · have EN := Lib.hid (fun w => end_any ⟨lo, c⟩ w (by have := hx; dsimp only; omega))
      obtain ⟨u, hu⟩ : ∃ u, u = lo + c := ⟨_, rfl⟩
      obtain ⟨d, hd⟩ : ∃ d, d = lo - 1 := ⟨_, rfl⟩
      have v1 : IntKind.i64.wrap (lo - 1) = d := by rw [hd, IntKind.wrap_i64]; omega
      unfold Rn.val at EN
      dsimp only at EN
      rw [← hu] at EN
      have HU := Lib.hid hu
      have HD := Lib.hid hd
      clear hx hu hd
      have ND := Lib.hid (Only.refl none_ wr).drew
      have KK := Lib.hid (fun (w' : World) (o : Only none_ wr w') => (o.still A.out.rr).two)
      obtain ⟨r0, r1⟩ := KK.out _ ND.out
      go_wp2_with fail
      go_region_held3 (fun w' => w'.cell? ⟨g + 1 + 1 + 1, 0, none⟩ = some (.int .i64 lo) ∧ w'.cell? ⟨g + 1 + 1 + 1, 1, none⟩ = some (.int .i64 c))
        (first
          | (with_reducible exact KK.out _ Q1.out)
          | (with_reducible exact KK.out _ ND.out)
          | fail)
        (first
          | ((with_reducible refine (EN.out _).mono ?_); rintro e u1 ⟨rfl, o1⟩; have Q1 := Lib.hid (ND.out.same o1))
          | fail)
      have A1 := Lib.hid (A.out.still Q1.out)
      clear r0 r1 Q1 ND KK A EN o1
      go_wp2_with fail
      refine wp_loop_rounds 3 ?_
      rw [rounds_succ]
      go_wp2_with fail
      have HS_u := Lib.hid (fun (w' : World) (h : SetAt w' g (hasB xs)) => has_set g xs u w' h)
      have CS_u := Lib.hid (fun (w' : World) (h : SetAt w' (g + 1) (hasB ys)) => cost_set (g + 1) ys u w' h)
      have CC_u := costB_cases (hasB ys) u
      cases q1 : hasB xs u with
      | true =>
        rw [q1] at HS_u
        obtain ⟨cv, qc⟩ : ∃ cv, costB (hasB ys) u = cv := ⟨_, rfl⟩
        have QC := Lib.hid qc
        clear qc
        rw [QC.out] at CS_u CC_u
        have hcv : 0 ≤ cv ∧ cv ≤ 1 := by omega
        by_cases q2 : cv ≤ rm
        · have v2 : IntKind.i64.wrap (rm - cv) = rm - cv := by rw [IntKind.wrap_i64]; have X2 := X.out.2; omega
          have v3 : IntKind.i64.wrap (c + 1) = c + 1 := by rw [IntKind.wrap_i64]; have X2 := X.out.2; omega
          have mn : min lo u = lo := by have hu := HU.out; have hd := HD.out; have X2 := X.out.2; omega
          have t2 : decide (cv ≤ rm) = true := decide_eq_true q2
          have NX := Lib.hid (show grow (hasB xs) (hasB ys) (n - (k + 1)) lo (lo + (c + 1) - 1) (rm - cv) = G ∧ 1 ≤ c + 1 ∧ c + 1 ≤ ((k + 1 : Nat) : Int) + 1 ∧ 0 ≤ lo ∧ lo + (c + 1) ≤ 256 ∧ 0 ≤ rm - cv ∧ rm - cv ≤ 9223372036854775807 from by
            have hu := HU.out
            have hd := HD.out
            obtain ⟨X1, X2⟩ := X.out
            have rg := hasB_yes q1
            refine ⟨?_, by omega, by omega, by omega, by omega, by omega, by omega⟩
            rw [← X1, show n - k = (n - (k + 1)) + 1 by omega, grow_up (by rw [show lo + c - 1 + 1 = u by omega]; unfold okB; rw [q1, QC.out, decide_eq_true q2]; rfl), show lo + c - 1 + 1 = u by omega, QC.out]
            congr 1
            omega)
          clear q1 q2 hcv CC_u X HU HD
          go_wp2_with fail
          (with_reducible refine (HS_u.out _ A1.out.sx).mono ?_)
          rintro e w2 ⟨rfl, o2⟩
          have A2 := Lib.hid (A1.out.still o2)
          clear o2 A1
          go_wp2_with fail
          (with_reducible refine (CS_u.out _ A2.out.sy).mono ?_)
          rintro e w3 ⟨rfl, o3⟩
          have A3 := Lib.hid (A2.out.still o3)
          clear o3 A2
          go_wp2_with fail
          (with_reducible refine (CS_u.out _ A3.out.sy).mono ?_)
          rintro e w4 ⟨rfl, o4⟩
          have A4 := Lib.hid (A3.out.still o4)
          clear o4 A3
          obtain ⟨r0, r1⟩ := A4.out.rr.two
          have f0 := A4.out.rr.frozen 0
          have f1 := A4.out.rr.frozen 1
          go_wp2_with fail
          go_roundw
          case rel =>
            refine ⟨k + 1, lo, c + 1, rm - cv, by omega, by go_num, rfl, A4.out.put lo (c + 1), ?_⟩
            exact NX.out
          case measure => simp [intOf]; omega
        · have t2 : decide (cv ≤ rm) = false := decide_eq_false q2
          have OKN := Lib.hid (show okB (hasB xs) (hasB ys) u rm = false from by unfold okB; rw [QC.out, decide_eq_false q2, Bool.and_false])
          clear q1 q2 hcv CC_u
          go_wp2_with fail
          (with_reducible refine (HS_u.out _ A1.out.sx).mono ?_)
          rintro e w2 ⟨rfl, o2⟩
          have A2 := Lib.hid (A1.out.still o2)
          clear o2 A1
          go_wp2_with fail
          (with_reducible refine (CS_u.out _ A2.out.sy).mono ?_)
          rintro e w3 ⟨rfl, o3⟩
          have A3 := Lib.hid (A2.out.still o3)
          clear o3 A2
          go_wp2_with fail
          rw [rounds_succ]
          clear t2
          have OKU := Lib.hid (show okB (hasB xs) (hasB ys) (lo + c - 1 + 1) rm = false from by have hu := HU.out; rw [show lo + c - 1 + 1 = u by omega]; exact OKN.out)
          clear OKN
          go_wp2_with fail
          have HS_d := Lib.hid (fun (w' : World) (h : SetAt w' g (hasB xs)) => has_set g xs d w' h)
          have CS_d := Lib.hid (fun (w' : World) (h : SetAt w' (g + 1) (hasB ys)) => cost_set (g + 1) ys d w' h)
          have CC_d := costB_cases (hasB ys) d
          cases q1 : hasB xs d with
          | true =>
            rw [q1] at HS_d
            obtain ⟨cv, qc⟩ : ∃ cv, costB (hasB ys) d = cv := ⟨_, rfl⟩
            have QC := Lib.hid qc
            clear qc
            rw [QC.out] at CS_d CC_d
            have hcv : 0 ≤ cv ∧ cv ≤ 1 := by omega
            by_cases q2 : cv ≤ rm
            · have v2 : IntKind.i64.wrap (rm - cv) = rm - cv := by rw [IntKind.wrap_i64]; have X2 := X.out.2; omega
              have v3 : IntKind.i64.wrap (c + 1) = c + 1 := by rw [IntKind.wrap_i64]; have X2 := X.out.2; omega
              have mn : min lo d = d := by have hu := HU.out; have hd := HD.out; have X2 := X.out.2; omega
              have t2 : decide (cv ≤ rm) = true := decide_eq_true q2
              have NX := Lib.hid (show grow (hasB xs) (hasB ys) (n - (k + 1)) d (d + (c + 1) - 1) (rm - cv) = G ∧ 1 ≤ c + 1 ∧ c + 1 ≤ ((k + 1 : Nat) : Int) + 1 ∧ 0 ≤ d ∧ d + (c + 1) ≤ 256 ∧ 0 ≤ rm - cv ∧ rm - cv ≤ 9223372036854775807 from by
                have hu := HU.out
                have hd := HD.out
                obtain ⟨X1, X2⟩ := X.out
                have rg := hasB_yes q1
                refine ⟨?_, by omega, by omega, by omega, by omega, by omega, by omega⟩
                rw [← X1, show n - k = (n - (k + 1)) + 1 by omega, grow_down OKU.out (by rw [show lo - 1 = d by omega]; unfold okB; rw [q1, QC.out, decide_eq_true q2]; rfl), show lo - 1 = d by omega, QC.out]
                congr 1
                omega)
              clear q1 q2 hcv CC_d X HU HD
              go_wp2_with fail
              (with_reducible refine (HS_d.out _ A3.out.sx).mono ?_)
              rintro e w4 ⟨rfl, o4⟩
              have A4 := Lib.hid (A3.out.still o4)
              clear o4 A3
              go_wp2_with fail
              (with_reducible refine (CS_d.out _ A4.out.sy).mono ?_)
              rintro e w5 ⟨rfl, o5⟩
              have A5 := Lib.hid (A4.out.still o5)
              clear o5 A4
              go_wp2_with fail
              (with_reducible refine (CS_d.out _ A5.out.sy).mono ?_)
              rintro e w6 ⟨rfl, o6⟩
              have A6 := Lib.hid (A5.out.still o6)
              clear o6 A5
              obtain ⟨r0, r1⟩ := A6.out.rr.two
              have f0 := A6.out.rr.frozen 0
              have f1 := A6.out.rr.frozen 1
              go_wp2_with fail
              go_roundw
              case rel =>
                refine ⟨k + 1, d, c + 1, rm - cv, by omega, by go_num, rfl, A6.out.put d (c + 1), ?_⟩
                exact NX.out
              case measure => simp [intOf]; omega
            · have t2 : decide (cv ≤ rm) = false := decide_eq_false q2
              have OKN := Lib.hid (show okB (hasB xs) (hasB ys) d rm = false from by unfold okB; rw [QC.out, decide_eq_false q2, Bool.and_false])
              clear q1 q2 hcv CC_d
              go_wp2_with fail
              (with_reducible refine (HS_d.out _ A3.out.sx).mono ?_)
              rintro e w4 ⟨rfl, o4⟩
              have A4 := Lib.hid (A3.out.still o4)
              clear o4 A3
              go_wp2_with fail
              (with_reducible refine (CS_d.out _ A4.out.sy).mono ?_)
              rintro e w5 ⟨rfl, o5⟩
              have A5 := Lib.hid (A4.out.still o5)
              clear o5 A4
              go_wp2_with fail
              rw [rounds_succ]
              clear t2
              have GE := Lib.hid (show (lo, lo + c - 1) = G from by have hu := HU.out; have hd := HD.out; obtain ⟨X1, X2⟩ := X.out; rw [← X1, grow_end OKU.out (by rw [show lo - 1 = d by omega]; exact OKN.out)])
              clear X HU HD OKN OKU
              have f0 := A5.out.rc.frozen 0
              have f1 := A5.out.rc.frozen 1
              obtain ⟨c0, c1⟩ := A5.out.rc.two
              obtain ⟨r0, r1⟩ := A5.out.rr.two
              go_wp2_with fail
              have hat := A5.out.at_
              simp only [Exit.noGoto]
              refine bodyPost_ret (results_run rfl _ _ (g + 1 + 1) ⟨lo, c⟩ rfl ((A5.out.rc.put 0 _).put 1 _)) rfl ⟨?_, (A5.out.only.new (by omega) _ _).new (by omega) _ _⟩
              rw [← GE.out]
              show _ = Ending.returned (Value.agg #[.int .i64 lo, .int .i64 (lo + c - 1 - lo + 1)])
              rw [show lo + c - 1 - lo + 1 = c by omega]
              rfl
          | false =>
            rw [q1] at HS_d
            have OKN := Lib.hid (show okB (hasB xs) (hasB ys) d rm = false from by unfold okB; rw [q1, Bool.false_and])
            clear q1 CC_d CS_d
            go_wp2_with fail
            (with_reducible refine (HS_d.out _ A3.out.sx).mono ?_)
            rintro e w4 ⟨rfl, o4⟩
            have A4 := Lib.hid (A3.out.still o4)
            clear o4 A3
            go_wp2_with fail
            rw [rounds_succ]
            have GE := Lib.hid (show (lo, lo + c - 1) = G from by have hu := HU.out; have hd := HD.out; obtain ⟨X1, X2⟩ := X.out; rw [← X1, grow_end OKU.out (by rw [show lo - 1 = d by omega]; exact OKN.out)])
            clear X HU HD OKN OKU
            have f0 := A4.out.rc.frozen 0
            have f1 := A4.out.rc.frozen 1
            obtain ⟨c0, c1⟩ := A4.out.rc.two
            obtain ⟨r0, r1⟩ := A4.out.rr.two
            go_wp2_with fail
            have hat := A4.out.at_
            simp only [Exit.noGoto]
            refine bodyPost_ret (results_run rfl _ _ (g + 1 + 1) ⟨lo, c⟩ rfl ((A4.out.rc.put 0 _).put 1 _)) rfl ⟨?_, (A4.out.only.new (by omega) _ _).new (by omega) _ _⟩
            rw [← GE.out]
            show _ = Ending.returned (Value.agg #[.int .i64 lo, .int .i64 (lo + c - 1 - lo + 1)])
            rw [show lo + c - 1 - lo + 1 = c by omega]
            rfl
      | false =>
        rw [q1] at HS_u
        have OKN := Lib.hid (show okB (hasB xs) (hasB ys) u rm = false from by unfold okB; rw [q1, Bool.false_and])
        clear q1 CC_u CS_u
        go_wp2_with fail
        (with_reducible refine (HS_u.out _ A1.out.sx).mono ?_)
        rintro e w2 ⟨rfl, o2⟩
        have A2 := Lib.hid (A1.out.still o2)
        clear o2 A1
        go_wp2_with fail
        rw [rounds_succ]
        have OKU := Lib.hid (show okB (hasB xs) (hasB ys) (lo + c - 1 + 1) rm = false from by have hu := HU.out; rw [show lo + c - 1 + 1 = u by omega]; exact OKN.out)
        clear OKN
        go_wp2_with fail
        have HS_d := Lib.hid (fun (w' : World) (h : SetAt w' g (hasB xs)) => has_set g xs d w' h)
        have CS_d := Lib.hid (fun (w' : World) (h : SetAt w' (g + 1) (hasB ys)) => cost_set (g + 1) ys d w' h)
        have CC_d := costB_cases (hasB ys) d
        cases q1 : hasB xs d with
        | true =>
          rw [q1] at HS_d
          obtain ⟨cv, qc⟩ : ∃ cv, costB (hasB ys) d = cv := ⟨_, rfl⟩
          have QC := Lib.hid qc
          clear qc
          rw [QC.out] at CS_d CC_d
          have hcv : 0 ≤ cv ∧ cv ≤ 1 := by omega
          by_cases q2 : cv ≤ rm
          · have v2 : IntKind.i64.wrap (rm - cv) = rm - cv := by rw [IntKind.wrap_i64]; have X2 := X.out.2; omega
            have v3 : IntKind.i64.wrap (c + 1) = c + 1 := by rw [IntKind.wrap_i64]; have X2 := X.out.2; omega
            have mn : min lo d = d := by have hu := HU.out; have hd := HD.out; have X2 := X.out.2; omega
            have t2 : decide (cv ≤ rm) = true := decide_eq_true q2
            have NX := Lib.hid (show grow (hasB xs) (hasB ys) (n - (k + 1)) d (d + (c + 1) - 1) (rm - cv) = G ∧ 1 ≤ c + 1 ∧ c + 1 ≤ ((k + 1 : Nat) : Int) + 1 ∧ 0 ≤ d ∧ d + (c + 1) ≤ 256 ∧ 0 ≤ rm - cv ∧ rm - cv ≤ 9223372036854775807 from by
              have hu := HU.out
              have hd := HD.out
              obtain ⟨X1, X2⟩ := X.out
              have rg := hasB_yes q1
              refine ⟨?_, by omega, by omega, by omega, by omega, by omega, by omega⟩
              rw [← X1, show n - k = (n - (k + 1)) + 1 by omega, grow_down OKU.out (by rw [show lo - 1 = d by omega]; unfold okB; rw [q1, QC.out, decide_eq_true q2]; rfl), show lo - 1 = d by omega, QC.out]
              congr 1
              omega)
            clear q1 q2 hcv CC_d X HU HD
            go_wp2_with fail
            (with_reducible refine (HS_d.out _ A2.out.sx).mono ?_)
            rintro e w3 ⟨rfl, o3⟩
            have A3 := Lib.hid (A2.out.still o3)
            clear o3 A2
            go_wp2_with fail
            (with_reducible refine (CS_d.out _ A3.out.sy).mono ?_)
            rintro e w4 ⟨rfl, o4⟩
            have A4 := Lib.hid (A3.out.still o4)
            clear o4 A3
            go_wp2_with fail
            (with_reducible refine (CS_d.out _ A4.out.sy).mono ?_)
            rintro e w5 ⟨rfl, o5⟩
            have A5 := Lib.hid (A4.out.still o5)
            clear o5 A4
            obtain ⟨r0, r1⟩ := A5.out.rr.two
            have f0 := A5.out.rr.frozen 0
            have f1 := A5.out.rr.frozen 1
            go_wp2_with fail
            go_roundw
            case rel =>
              refine ⟨k + 1, d, c + 1, rm - cv, by omega, by go_num, rfl, A5.out.put d (c + 1), ?_⟩
              exact NX.out
            case measure => simp [intOf]; omega
          · have t2 : decide (cv ≤ rm) = false := decide_eq_false q2
            have OKN := Lib.hid (show okB (hasB xs) (hasB ys) d rm = false from by unfold okB; rw [QC.out, decide_eq_false q2, Bool.and_false])
            clear q1 q2 hcv CC_d
            go_wp2_with fail
            (with_reducible refine (HS_d.out _ A2.out.sx).mono ?_)
            rintro e w3 ⟨rfl, o3⟩
            have A3 := Lib.hid (A2.out.still o3)
            clear o3 A2
            go_wp2_with fail
            (with_reducible refine (CS_d.out _ A3.out.sy).mono ?_)
            rintro e w4 ⟨rfl, o4⟩
            have A4 := Lib.hid (A3.out.still o4)
            clear o4 A3
            go_wp2_with fail
            rw [rounds_succ]
            clear t2
            have GE := Lib.hid (show (lo, lo + c - 1) = G from by have hu := HU.out; have hd := HD.out; obtain ⟨X1, X2⟩ := X.out; rw [← X1, grow_end OKU.out (by rw [show lo - 1 = d by omega]; exact OKN.out)])
            clear X HU HD OKN OKU
            have f0 := A4.out.rc.frozen 0
            have f1 := A4.out.rc.frozen 1
            obtain ⟨c0, c1⟩ := A4.out.rc.two
            obtain ⟨r0, r1⟩ := A4.out.rr.two
            go_wp2_with fail
            have hat := A4.out.at_
            simp only [Exit.noGoto]
            refine bodyPost_ret (results_run rfl _ _ (g + 1 + 1) ⟨lo, c⟩ rfl ((A4.out.rc.put 0 _).put 1 _)) rfl ⟨?_, (A4.out.only.new (by omega) _ _).new (by omega) _ _⟩
            rw [← GE.out]
            show _ = Ending.returned (Value.agg #[.int .i64 lo, .int .i64 (lo + c - 1 - lo + 1)])
            rw [show lo + c - 1 - lo + 1 = c by omega]
            rfl
        | false =>
          rw [q1] at HS_d
          have OKN := Lib.hid (show okB (hasB xs) (hasB ys) d rm = false from by unfold okB; rw [q1, Bool.false_and])
          clear q1 CC_d CS_d
          go_wp2_with fail
          (with_reducible refine (HS_d.out _ A2.out.sx).mono ?_)
          rintro e w3 ⟨rfl, o3⟩
          have A3 := Lib.hid (A2.out.still o3)
          clear o3 A2
          go_wp2_with fail
          rw [rounds_succ]
          have GE := Lib.hid (show (lo, lo + c - 1) = G from by have hu := HU.out; have hd := HD.out; obtain ⟨X1, X2⟩ := X.out; rw [← X1, grow_end OKU.out (by rw [show lo - 1 = d by omega]; exact OKN.out)])
          clear X HU HD OKN OKU
          have f0 := A3.out.rc.frozen 0
          have f1 := A3.out.rc.frozen 1
          obtain ⟨c0, c1⟩ := A3.out.rc.two
          obtain ⟨r0, r1⟩ := A3.out.rr.two
          go_wp2_with fail
          have hat := A3.out.at_
          simp only [Exit.noGoto]
          refine bodyPost_ret (results_run rfl _ _ (g + 1 + 1) ⟨lo, c⟩ rfl ((A3.out.rc.put 0 _).put 1 _)) rfl ⟨?_, (A3.out.only.new (by omega) _ _).new (by omega) _ _⟩
          rw [← GE.out]
          show _ = Ending.returned (Value.agg #[.int .i64 lo, .int .i64 (lo + c - 1 - lo + 1)])
          rw [show lo + c - 1 - lo + 1 = c by omega]
          rfl
    · have e : k = n := by omega
      have GE := Lib.hid (show (lo, lo + c - 1) = G from by rw [← hx.1, show n - k = 0 by omega]; rfl)
      clear hx X
      have f0 := A.out.rc.frozen 0
      have f1 := A.out.rc.frozen 1
      obtain ⟨c0, c1⟩ := A.out.rc.two
      obtain ⟨r0, r1⟩ := A.out.rr.two
      go_wp2_with fail
      have hat := A.out.at_
      simp only [Exit.noGoto]
      refine bodyPost_ret (results_run rfl _ _ (g + 1 + 1) ⟨lo, c⟩ rfl ((A.out.rc.put 0 _).put 1 _)) rfl ⟨?_, (A.out.only.new (by omega) _ _).new (by omega) _ _⟩
      rw [← GE.out]
      show _ = Ending.returned (Value.agg #[.int .i64 lo, .int .i64 (lo + c - 1 - lo + 1)])
      rw [show lo + c - 1 - lo + 1 = c by omega]
      rfl
end Go.Proofs.Ytobeoknaanbakaa
