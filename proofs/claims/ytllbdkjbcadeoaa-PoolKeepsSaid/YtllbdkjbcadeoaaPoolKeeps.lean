/- Proved: the statement PoolKeeps of layer 4, for every number and row of steps, on no condition. -/
import Derived.Test.YtllbdkjbcadeoaaRows
import Derived.WalkKit
import Derived.ProofKit
import Derived.OpenShut
import Derived.Below
import Derived.Test.YtllbdkjbcadeoaaArgs
import Derived.Test.YtllbdkjbcadeoaaActs
import Derived.Test.YtllbdkjbcadeoaaOwn
namespace Go.Proofs.Ytllbdkjbcadeoaa.poolKeeps
open Go.ChangeShapes Go.WideShapes Go.ChangeAt Go.RowKit
set_option linter.unusedVariables false

theorem own : ownKnob Try.prog.godebug = none := by kernel_rfl
theorem laidOut : laidOutB Try.prog = true := by kernel_rfl

theorem fr_one (y : Fr) : ∀ u ∈ y.cells, u.oneCell' = true := by
  intro u hu
  simp only [Fr.cells, List.mem_cons, List.not_mem_nil, or_false] at hu
  rcases hu with rfl | rfl | rfl | rfl | rfl <;> rfl
set_option maxHeartbeats 8000000 in
set_option maxRecDepth 100000 in
theorem walk (w : World) (a : Int) (wa : (Lit.int .u8 a).wf = true) (A : Option Addr) (len cap : Nat) (xs : List Act1) (hmax : len ≤ maxLen) (hlen : xs.length = len) (hold : Holds w A 4 Act1.cells xs) (_ : ∀ a ∈ xs, True) :
    Calls Try.prog 4 #[.int .u8 a, .slice A len cap] w fun e w' => e = .returned (.bool true) ∧ Below w.heap.size w w' := by
  obtain ⟨la, ua⟩ := bounds_u8 wa
  clear wa
  obtain ⟨k, hk, k1, k64⟩ : ∃ k : Nat, 1 + a % 64 = k ∧ 1 ≤ k ∧ k ≤ 64 := ⟨(1 + a % 64).toNat, by omega, by omega, by omega⟩
  unfold maxLen at hmax
  obtain ⟨i0, hi, hz0, hz1, hz2⟩ := info_parts info_frame
  have HI := Lib.hid hi
  have HZ0 := Lib.hid hz0
  have HZ1 := Lib.hid hz1
  have HZ2 := Lib.hid hz2
  have HL := Lib.hid hlen
  have HO := Lib.hid hold
  clear hlen hold hi hz0 hz1 hz2
  go_enter Try.func4, Try.ntmps4
  go_wp2_with fail
  (with_reducible refine (awake_any _).mono ?_)
  rintro e w1 ⟨rfl, b1⟩
  have B1 := Lib.hid b1
  clear b1
  go_wp2_with fail
  (with_reducible refine (new_yes k _ k1 k64).mono ?_)
  rintro e w2 ⟨p, b, rfl, h, kp, kb, o⟩
  have H2 := Lib.hid h
  have B2 := Lib.hid (Only.below_to B1.out o (Nat.le_refl _) (fun _ _ s => s))
  have kb' : w.heap.size ≤ b := Nat.le_trans B1.out.size kb
  clear h o kp kb B1
  go_wp2_with fail
  go_loopw [8] (fun i wr => ∃ (j : Nat) (fs : List Fr), j ≤ len ∧ j ≤ 100 ∧ i = .int .i64 j ∧ PoolIs wr p b fs ∧ Fine j fs ∧ fs.length = k ∧ Below w.heap.size w wr) (fun i _ => len - (intOf i).toNat)
  case atStart => exact ⟨0, fresh k, Nat.zero_le _, Nat.zero_le _, rfl, H2.out, fresh_fine k, fresh_len k, B2.out⟩
  case round =>
    obtain ⟨j, fs, hj, hj2, rfl, h, hF, hn, bl⟩ := hrel
    have H := Lib.hid h
    have HF := Lib.hid hF
    have HN := Lib.hid hn
    have B := Lib.hid bl
    clear h bl hF hn
    have t12 : (j < len ∧ j < 100) ∨ (j < len ∧ 100 ≤ j) ∨ len ≤ j := by omega
    rcases t12 with ⟨h1, h2⟩ | ⟨h1, h2⟩ | h1
    · have t1 : decide ((j : Int) < (len : Int)) = true := by simp; omega
      have t2 : decide ((j : Int) < 100) = true := by simp; omega
      have pb0 := H.out.pl
      have bb0 := H.out.bl
      have sz0 := B.out.size
      generalize wr = wo at *
      go_wp2_with fail
      go_loopw [9, 10, 11, 12] (fun v i _ _ wx => ∃ q : Nat, q ≤ k ∧ i = .int .i64 q ∧ PoolIs wx p b fs ∧ Below w.heap.size w wx ∧ wo.heap.size ≤ wx.heap.size ∧ Owns wx wo.heap.size 38 5 Fr.cells v (fs.take q)) (fun _ i _ _ _ => k - (intOf i).toNat)
      case atStart => exact ⟨0, Nat.zero_le _, rfl, H.out, B.out, Nat.le_refl _, Owns.start _ _ _ _ _⟩
      case round =>
        obtain ⟨q, hq, rfl, h, bl, sz, ow⟩ := hrel
        have H3 := Lib.hid h
        have B3 := Lib.hid bl
        have W3 := Lib.hid ow
        clear h bl ow
        by_cases hlt : q < k
        · obtain ⟨f, hf⟩ : ∃ f, fs[q]? = some f := ⟨_, List.getElem?_eq_getElem (by rw [HN.out]; exact hlt)⟩
          have HT := Lib.hid (take_more hf)
          obtain ⟨gs, gk, gg, gp, gv⟩ := f
          have HG := Lib.hid hf
          have LT := Lib.hid (show (fs.take q).length = q by rw [List.length_take, HN.out]; omega)
          clear hf
          go_wp2_with fail
          (with_reducible refine (frame_eq HG.out _ H3.out).mono ?_)
          rintro e w4 ⟨rfl, o⟩
          have O4 := Lib.hid (((o.alloc (.cells #[.int .i64 gs, .int .i64 gk, .int .i64 gg, .int .i64 gp, .int .u64 gv] 38))).alloc (.cells #[.int .i64 gs, .int .i64 gk, .int .i64 gg, .int .i64 gp, .int .u64 gv] 38))
          clear o
          have hsz : wo.heap.size ≤ ((w4.alloc (.cells #[.int .i64 gs, .int .i64 gk, .int .i64 gg, .int .i64 gp, .int .u64 gv] 38)).alloc (.cells #[.int .i64 gs, .int .i64 gk, .int .i64 gg, .int .i64 gp, .int .u64 gv] 38)).heap.size := Nat.le_trans sz O4.out.size
          have RF := Row.fresh (w4.alloc (.cells #[.int .i64 gs, .int .i64 gk, .int .i64 gg, .int .i64 gp, .int .u64 gv] 38)) 38 #[.int .i64 gs, .int .i64 gk, .int .i64 gg, .int .i64 gp, .int .u64 gv]
          simp only [World.size_alloc] at RF
          have RF := Lib.hid RF
          go_wp2_with (at_builtin; go_loud (refine wpList_append_one rfl (.tmp 51) (.tmp 53) 41 rfl (c := Fr.cells) i0 _ 40 Try.underlying41 HI.out HZ0.out HZ1.out HZ2.out rfl (by decide) fr5 fr_one rfl (W3.out.still O4.out) (y := ⟨gs, gk, gg, gp, gv⟩) rfl RF.out (by rw [LT.out]; omega) (by rw [LT.out]; omega) hsz ?_); intro v5 w5 hown5 hO5)
          have O5 := Lib.hid hO5
          have W5 := Lib.hid hown5
          clear hO5 hown5
          rw [← HT.out] at W5
          have H5 := Lib.hid ((H3.out.still O4.out).keep O5.out (by omega) (by omega))
          have B5 := Lib.hid (Only.below_to (Only.below_to B3.out O4.out (Nat.le_refl _) (fun _ _ s => s)) O5.out (Nat.le_refl _) (fun i hi => by omega))
          have s5 := Nat.le_trans hsz O5.out.size
          clear O4 O5 HT
          go_wp2_with fail
          go_roundw
          case rel => exact ⟨q + 1, by omega, by go_num, H5.out, B5.out, s5, W5.out⟩
          case measure => simp [intOf]; omega
        · obtain rfl : q = k := by omega
          have W4 := W3.out
          rw [show fs.take q = fs by rw [← HN.out, List.take_length]] at W4
          obtain ⟨g, cw, hv, hg1, hg2, hg3, hg4⟩ := W4.form (by intro e; rw [e] at HN; have := HN.out; simp at this; omega)
          rw [hv] at W4
          have W4 := Lib.hid W4
          have HVV := Lib.hid hv
          obtain ⟨act, hact⟩ : ∃ act, xs[j]? = some act := ⟨_, List.getElem?_eq_getElem (by rw [HL.out]; exact h1)⟩
          obtain ⟨sb, so, hA, hsb, c0, c1, c2, c3⟩ := act_at HO.out B3.out hact
          have F6 := Lib.hid (HF.out.mono (show (j : Int) ≤ 1000000 by omega))
          have G6 := Lib.hid ((fresh_fine q).mono (show (0 : Int) ≤ 1000000 by decide))
          have l1 : fs.length ≤ q := by rw [HN.out]; exact Nat.le_refl _
          have l2 : q ≤ fs.length := by rw [HN.out]; exact Nat.le_refl _
          have HD := Lib.hid (H3.out.still (Only.refl none_ wr).drew)
          have BD := Lib.hid B3.out.drew
          have WD := Lib.hid (W4.out.still (Only.refl none_ wr).drew)
          have kb2 : w.heap.size ≤ wr.drew.heap.size := B3.out.size
          have gd : g < wr.drew.heap.size := hg2
          have gb : ¬ g = b := by omega
          subst hA
          clear hact W3 W4
          subst hv
          go_wp2_with fail
          go_region_held3 (fun w' => w'.cell? ⟨sb, so + j * 4, none⟩ = some (.int .i64 act.kind) ∧ w'.cell? ⟨sb, so + j * 4 + 1, none⟩ = some (.int .i64 act.i) ∧ w'.cell? ⟨sb, so + j * 4 + 2, none⟩ = some (.int .i64 act.n) ∧ w'.cell? ⟨sb, so + j * 4 + 3, none⟩ = some (.int .u64 act.v))
            (first
              | (go_keep; done)
              | (exact acts_keep (w := wr.drew) ⟨c0, c1, c2, c3⟩ o3 (fun s => s))
              | (exact acts_keep (acts_keep (w := wr.drew) ⟨c0, c1, c2, c3⟩ o3 (fun s => s)) o4 (by rintro (e | e) <;> omega)))
            (first
              | (go_at_call 10; refine (refNew q _ k64).mono ?_; rintro e w3 ⟨rfl, h3, o3⟩; have HB := Lib.hid (Both.fresh_ HD.out h3 o3))
              | (go_at_call 11; refine (step_call p b _ _ fs (fresh q) act _ HB.out F6.out G6.out).mono ?_; rintro e w4 ⟨r, rfl, _, hb4, o4⟩))
          have B4 := Lib.hid (Only.below_to BD.out (o3.then_ o4) (Nat.le_refl _) (fun i hi e => by rcases e with e | e <;> omega))
          have H4 := Lib.hid hb4.one
          have W5 := Lib.hid (WD.out.keep (o3.then_ o4) (fun g' e s => by
            simp [Value.ownBlock] at e
            subst e
            rcases s with s | s <;> omega))
          have KE := Lib.hid (fun t f g => step_keeps (fs := fs) act HF.out (j := t) (f := f) (g := g))
          have HL2 := Lib.hid ((step_len act HF.out).trans HN.out)
          have HF2 := Lib.hid (step_fine act HF.out)
          clear o3 o4 hb4 h3 c0 c1 c2 c3 HD BD WD
          generalize stepS fs act = gs_ at *
          go_wp2_with fail
          go_loopw [13, 14, 15, 16] (fun i _ _ _ wx => ∃ t : Nat, t ≤ q ∧ i = .int .i64 t ∧ PoolIs wx p b gs_ ∧ Below w.heap.size w wx ∧ Owns wx wo.heap.size 38 5 Fr.cells (.slice (some ⟨g, 0, none⟩) fs.length cw) fs) (fun i _ _ _ _ => q - (intOf i).toNat)
          case atStart => exact ⟨0, Nat.zero_le _, rfl, H4.out, B4.out, W5.out⟩
          case round =>
            obtain ⟨t, ht, rfl, h, bl, ow⟩ := hrel
            have H6 := Lib.hid h
            have B6 := Lib.hid bl
            have W6 := Lib.hid ow
            clear h bl ow
            by_cases hlt : t < q
            · obtain ⟨f, hf⟩ : ∃ f, fs[t]? = some f := ⟨_, List.getElem?_eq_getElem (by omega)⟩
              obtain ⟨f', hf'⟩ : ∃ f, gs_[t]? = some f := ⟨_, List.getElem?_eq_getElem (by rw [HL2.out]; omega)⟩
              have kp := KE.out t f f' hf hf'
              have cc := keeps_cases kp (HF.out f (List.mem_of_getElem? hf))
              obtain ⟨u0, u1, u2, u3, u4_⟩ := f
              obtain ⟨gs, gk, gg, gp, gv⟩ := f'
              have HFt := Lib.hid hf
              have HG := Lib.hid hf'
              simp only at cc
              clear hf hf' kp
              go_wp2_with fail
              (with_reducible refine (frame_eq HG.out _ H6.out).mono ?_)
              rintro e w8 ⟨rfl, o⟩
              have H8 := Lib.hid ((H6.out.still o).still ((Only.refl none_ w8).alloc (.cells #[.int .i64 gs, .int .i64 gk, .int .i64 gg, .int .i64 gp, .int .u64 gv] 38)))
              have B8 := Lib.hid ((Only.below_to B6.out o (Nat.le_refl _) (fun _ _ s => s)).alloc (Nat.le_trans B6.out.size o.size) (.cells #[.int .i64 gs, .int .i64 gk, .int .i64 gg, .int .i64 gp, .int .u64 gv] 38))
              have W8 := Lib.hid ((W6.out.still o).still ((Only.refl none_ w8).alloc (.cells #[.int .i64 gs, .int .i64 gk, .int .i64 gg, .int .i64 gp, .int .u64 gv] 38)))
              have R8 := Lib.hid (Row.fresh w8 38 #[.int .i64 gs, .int .i64 gk, .int .i64 gg, .int .i64 gp, .int .u64 gv])
              clear o
              go_wp2_with fail
              generalize w8.alloc (.cells #[.int .i64 gs, .int .i64 gk, .int .i64 gg, .int .i64 gp, .int .u64 gv] 38) = w9 at *
              generalize w8.heap.size = nf at *
              obtain ⟨r0, r1, r2, r3, r4⟩ := R8.out.five
              have d0 := W8.out.cell fr5 HFt.out (j := 0) (by decide)
              have d1 := W8.out.cell fr5 HFt.out (j := 1) (by decide)
              have d2 := W8.out.cell fr5 HFt.out (j := 2) (by decide)
              have d3 := W8.out.cell fr5 HFt.out (j := 3) (by decide)
              simp only [Fr.cells, Nat.add_zero, List.getElem?_cons_zero, List.getElem?_cons_succ] at d0 d1 d2 d3
              have ff := HF.out _ (List.mem_of_getElem? HFt.out)
              have g0 : 0 ≤ u2 := ff.g0
              have g1 : u2 ≤ 1000 := by have : u2 ≤ (j : Int) := ff.g1; omega
              have ix1 : (t : Int) < (fs.length : Int) := by omega
              have ix2 : t < fs.length := by omega
              have z1 : decide (u2 + 1 < u2) = false := by simp; omega
              have z2 : decide (u2 < u2 + 1) = true := by simp; omega
              have wr1 : IntKind.i64.wrap (u2 + 1) = u2 + 1 := IntWalk.i64_in _ (by omega)
              clear ff R8
              rcases cc with ⟨e1, e2, e3⟩ | ⟨e1, e2⟩ | ⟨e1, e2, e3, e4⟩ | ⟨e1, e2, e3, e4⟩ | ⟨e1, e2, e3, e4⟩ | ⟨e1, e2, e3, e4⟩
              · subst e1
                subst e2
                have a1 : decide (0 < u3) = false := by simp; try omega
                have a2 : decide (1 < u3) = false := by simp; try omega
                go_quiet (fail)
                go_wp2_with fail
                go_quiet (fail)
                clear wr1
                go_wp2_with fail
                exact ⟨⟨t + 1, by omega, by go_num, H8.out.still ((Only.refl none_ _).drewN _), below_n B8.out _, W8.out.still ((Only.refl none_ _).drewN _)⟩, by simp [intOf]; omega⟩
              · subst e1
                have a1 : decide (0 < u3) = false := by simp; try omega
                have a2 : decide (1 < u3) = false := by simp; try omega
                go_quiet (fail)
                go_wp2_with fail
                go_quiet (fail)
                clear wr1
                go_wp2_with fail
                exact ⟨⟨t + 1, by omega, by go_num, H8.out.still ((Only.refl none_ _).drewN _), below_n B8.out _, W8.out.still ((Only.refl none_ _).drewN _)⟩, by simp [intOf]; omega⟩
              · subst e1
                subst e2
                subst e4
                have a3 : (gs == 0) = false := by simp; try omega
                have a4 : (gs != 0) = true := by simp; try omega
                go_quiet (fail)
                go_wp2_with fail
                go_quiet (fail)
                clear wr1
                go_wp2_with fail
                exact ⟨⟨t + 1, by omega, by go_num, H8.out.still ((Only.refl none_ _).drewN _), below_n B8.out _, W8.out.still ((Only.refl none_ _).drewN _)⟩, by simp [intOf]; omega⟩
              · subst e1
                subst e2
                subst e3
                subst e4
                go_quiet (fail)
                go_wp2_with fail
                go_quiet (fail)
                clear wr1
                go_wp2_with fail
                exact ⟨⟨t + 1, by omega, by go_num, H8.out.still ((Only.refl none_ _).drewN _), below_n B8.out _, W8.out.still ((Only.refl none_ _).drewN _)⟩, by simp [intOf]; omega⟩
              · subst e1
                subst e2
                subst e3
                have a3 : (gk != u1) = true := by simp; try omega
                go_quiet (fail)
                go_wp2_with fail
                go_quiet (fail)
                clear wr1
                go_wp2_with fail
                exact ⟨⟨t + 1, by omega, by go_num, H8.out.still ((Only.refl none_ _).drewN _), below_n B8.out _, W8.out.still ((Only.refl none_ _).drewN _)⟩, by simp [intOf]; omega⟩
              · subst e1
                subst e4
                have a1 : decide (0 < u3) = true := by simp; try omega
                have a2 : decide (1 < u3) = true := by simp; try omega
                have a3 : (gs == 0) = false := by simp; try omega
                have a4 : (gs != 0) = true := by simp; try omega
                go_quiet (fail)
                go_wp2_with fail
                go_quiet (fail)
                clear wr1
                go_wp2_with fail
                exact ⟨⟨t + 1, by omega, by go_num, H8.out.still ((Only.refl none_ _).drewN _), below_n B8.out _, W8.out.still ((Only.refl none_ _).drewN _)⟩, by simp [intOf]; omega⟩
            · have : t = q := by omega
              subst this
              go_wp2_with fail
              go_roundw
              case rel => exact ⟨j + 1, gs_, by omega, by omega, by go_num, H6.out, HF2.out, HL2.out, B6.out⟩
              case measure => simp [intOf]; omega
    · go_wp2_with fail
      go_ret
      exact ⟨rfl, B.out⟩
    · go_wp2_with fail
      go_ret
      exact ⟨rfl, B.out⟩


set_option maxRecDepth 100000 in
theorem lifted (os : Os) (started : os.Started) (H : Type) (enc : TypeId × Value → H) :
    ReturnsInHanded {} Try.checked os 4 .any (Rows.poolKeepsSpec.pre6 enc Try.prog Try.f4 Rows.poolKeepsRow.domain false) (Rows.poolKeepsSpec.post enc Try.prog Try.f4 false true false false) := by
  refine returnsInHanded_of_change (C := Try.checked) own started (by kernel_rfl) Try.func4
    (ChangeSpec.witness6 (enc := enc) (C := Try.checked) false ⟨#[], #[.int .u8 0, .slice none 0 0], []⟩ 8 (by kernel_rfl) (by kernel_rfl) (by kernel_rfl) (by kernel_rfl)) ?_
  intro W base args ds gs before hval0 hW hcnd _
  have hval : ∀ (j : Nat) t v, Try.f4.params[j]? = some t → args[j]? = some v → Value.okWide Try.prog W .any base t v := hval0
  have hW' := hW
  obtain ⟨p, q, hA0, hV, rfl, hfz, hnd⟩ := hW
  have hA : DataW.TrodAll enc Try.prog W 0 (fun _ => true) true Try.f4.params.toList args.toList ds p := hA0
  rw [Try.params4] at hA hval
  obtain ⟨v0, vs0, d0, ds0, p0, q0, hargs, rfl, rfl, h0, r0⟩ := trodAll_cons hA
  obtain ⟨v1, vs1, d1, ds1, p1, q1, rfl, rfl, rfl, h1, r1⟩ := trodAll_cons r0
  obtain ⟨rfl, rfl, rfl⟩ := trodAll_nil r1
  obtain rfl : args = #[v0, v1] := by cases args; simp_all
  obtain ⟨rfl, rfl⟩ := trodVars_none hV
  obtain ⟨a0, rfl, rfl, rfl, w0⟩ := open_int Try.underlying5 (hval 0 5 v0 rfl rfl) h0
  have k1 := h1
  have lt1 : ∀ x ∈ p1, x.block < W.heap.size := by obtain ⟨m, hm⟩ := k1; exact DataW.trod_lt m _ _ _ hm
  obtain ⟨ad1, len1, cap1, rfl⟩ := okWide_slice Try.underlying22 (hval 1 22 v1 rfl rfl)
  obtain ⟨fuel1, hf1⟩ := h1
  obtain ⟨max1, xs1, el1, hold1, wf1⟩ := open_acts hf1
  have shut : ∀ W', Below W.heap.size W W' → DataW.TrodAll enc Try.prog W' 0 (fun b => decide (b < W.heap.size)) true [5, 22] [.int .u8 a0, .slice ad1 len1 cap1] [.lit (.int .u8 a0), d1] ([] ++ (p1 ++ [])) := fun W' bel =>
    (trodAll_cons_mk (shut_int Try.underlying5 w0) (trodAll_cons_mk (Below.trod laidOut (by kernel_rfl) (of_decide_eq_true (by kernel_rfl)) k1 bel lt1) trodAll_mk0))
  clear hA0 hval0
  refine (walk W a0 w0 ad1 len1 cap1 xs1 max1 el1 hold1 wf1).mono fun e W' ⟨he, bel⟩ => ?_
  subst he
  exact ⟨_, rfl, _, _, _, [], _, [], hW', trodAll_mk1 (shut_bool Try.underlying4 _), shut W' bel, rfl, bel.frame _, fun h => by cases h⟩

theorem over : Rows.poolKeepsRow.holds Try.pinned (OpenSpec.ofChange Rows.poolKeepsSpec) :=
  OpenClaim.holds_of_wide 4 Try.f4 rfl rfl rfl rfl rfl rfl rfl ⟨rfl, rfl, rfl, rfl, rfl⟩ rfl rfl rfl rfl rfl (by kernel_rfl) Try.func4 (by kernel_rfl)
    (of_decide_eq_true (by kernel_rfl)) (by unfold Func.isWrapper; first | (rw [if_pos (by decide +kernel)]; kernel_rfl) | (rw [if_neg (by decide +kernel)]; exact ⟨rfl, rfl⟩))
    (fun os started H enc _ => lifted os started H enc)

theorem poolKeeps_holds : Rows.PoolKeepsSaid := over
#print axioms poolKeeps_holds
end Go.Proofs.Ytllbdkjbcadeoaa.poolKeeps
