/- Proved: the statement PoolLeast of layer 4, for every number, row of steps, and block, on no condition. -/
import Derived.Test.YtllbdkjbcadeoaaRows
import Derived.WalkKit
import Derived.ProofKit
import Derived.OpenShut
import Derived.Below
import Derived.Test.YtllbdkjbcadeoaaArgs
import Derived.Test.YtllbdkjbcadeoaaActs
namespace Go.Proofs.Ytllbdkjbcadeoaa.poolLeast
open Go.ChangeShapes Go.WideShapes Go.ChangeAt Go.RowKit
set_option linter.unusedVariables false

theorem own : ownKnob Try.prog.godebug = none := by kernel_rfl
theorem laidOut : laidOutB Try.prog = true := by kernel_rfl

set_option maxHeartbeats 8000000 in
set_option maxRecDepth 100000 in
theorem walk (w : World) (a : Int) (wa : (Lit.int .u8 a).wf = true) (A : Option Addr) (len cap : Nat) (xs : List Act1) (hmax : len ≤ maxLen) (hlen : xs.length = len) (hold : Holds w A 4 Act1.cells xs) (_ : ∀ a ∈ xs, True) (c : Int) (wc : (Lit.int .u16 c).wf = true) :
    Calls Try.prog 5 #[.int .u8 a, .slice A len cap, .int .u16 c] w fun e w' => e = .returned (.bool true) ∧ Below w.heap.size w w' := by
  obtain ⟨la, ua⟩ := bounds_u8 wa
  obtain ⟨lc, uc⟩ := bounds_u16 wc
  clear wa wc
  obtain ⟨k, hk, k1, k64⟩ : ∃ k : Nat, 1 + a % 64 = k ∧ 1 ≤ k ∧ k ≤ 64 := ⟨(1 + a % 64).toNat, by omega, by omega, by omega⟩
  unfold maxLen at hmax
  have HL := Lib.hid hlen
  have HO := Lib.hid hold
  clear hlen hold
  go_enter Try.func5, Try.ntmps5
  go_wp2_with fail
  (with_reducible refine (awake_any _).mono ?_)
  rintro e w1 ⟨rfl, b1⟩
  have B1 := Lib.hid b1
  clear b1
  go_wp2_with fail
  (with_reducible refine (new_yes k _ k1 k64).mono ?_)
  rintro e w2 ⟨p, b, rfl, h, kp, kb, o⟩
  have H2 := Lib.hid h
  have B2 := Lib.hid (Only.below_to B1.out o (Nat.le_refl _) (fun _ _ s => s))
  have kb' : w.heap.size ≤ b := Nat.le_trans B1.out.size kb
  clear h o kp kb B1
  go_wp2_with fail
  go_loopw [10] (fun i wr => ∃ (j : Nat) (fs : List Fr), j ≤ len ∧ j ≤ 100 ∧ i = .int .i64 j ∧ PoolIs wr p b fs ∧ Fine j fs ∧ fs.length = k ∧ Below w.heap.size w wr) (fun i _ => len - (intOf i).toNat)
  case atStart => exact ⟨0, fresh k, Nat.zero_le _, Nat.zero_le _, rfl, H2.out, fresh_fine k, fresh_len k, B2.out⟩
  case round =>
    obtain ⟨j, fs, hj, hj2, rfl, h, hF, hn, bl⟩ := hrel
    have H := Lib.hid h
    have HF := Lib.hid hF
    have HN := Lib.hid hn
    have B := Lib.hid bl
    clear h bl hF hn
    by_cases hlt : j < len ∧ j < 100
    · obtain ⟨h1, h2⟩ := hlt
      have t1 : decide ((j : Int) < (len : Int)) = true := by simp; omega
      have t2 : decide ((j : Int) < 100) = true := by simp; omega
      obtain ⟨act, hact⟩ : ∃ act, xs[j]? = some act := ⟨_, List.getElem?_eq_getElem (by rw [HL.out]; exact h1)⟩
      obtain ⟨sb, so, hA, hsb, c0, c1, c2, c3⟩ := act_at HO.out B.out hact
      have F6 := Lib.hid (HF.out.mono (show (j : Int) ≤ 1000000 by omega))
      have G6 := Lib.hid ((fresh_fine k).mono (show (0 : Int) ≤ 1000000 by decide))
      subst hA
      have HD := Lib.hid (H.out.still (Only.refl none_ wr).drew)
      have BD := Lib.hid B.out.drew
      have kb2 : w.heap.size ≤ wr.drew.heap.size := B.out.size
      go_wp2_with fail
      go_region_held3 (fun w' => w'.cell? ⟨sb, so + j * 4, none⟩ = some (.int .i64 act.kind) ∧ w'.cell? ⟨sb, so + j * 4 + 1, none⟩ = some (.int .i64 act.i) ∧ w'.cell? ⟨sb, so + j * 4 + 2, none⟩ = some (.int .i64 act.n) ∧ w'.cell? ⟨sb, so + j * 4 + 3, none⟩ = some (.int .u64 act.v))
        (first
          | (go_keep; done)
          | (exact acts_keep (w := wr.drew) ⟨c0, c1, c2, c3⟩ o3 (fun s => s))
          | (exact acts_keep (acts_keep (w := wr.drew) ⟨c0, c1, c2, c3⟩ o3 (fun s => s)) o4 (by rintro (e | e) <;> omega)))
        (first
          | (go_at_call 10; refine (refNew k _ k64).mono ?_; rintro e w3 ⟨rfl, h3, o3⟩; have HB := Lib.hid (Both.fresh_ HD.out h3 o3))
          | (go_at_call 11; refine (step_call p b _ _ fs (fresh k) act _ HB.out F6.out G6.out).mono ?_; rintro e w4 ⟨r, rfl, _, hb4, o4⟩))
      have B4 := Lib.hid (Only.below_to BD.out (o3.then_ o4) (Nat.le_refl _) (fun i hi e => by rcases e with e | e <;> omega))
      have H4 := Lib.hid hb4.one
      clear o3 o4 hb4 h3 c0 c1 c2 c3
      go_wp2_with fail
      go_roundw
      case rel => exact ⟨j + 1, stepS fs act, by omega, by omega, by go_num, H4.out, (step_fine act HF.out).mono (by omega), (step_len act HF.out).trans HN.out, B4.out⟩
      case measure => simp [intOf]; omega
    · have kp := H.out.pl
      have Z6 := Lib.hid (Row.fresh wr 38 #[.int .i64 0, .int .i64 0, .int .i64 0, .int .i64 0, .int .u64 0])
      have H6 := Lib.hid (H.out.still ((Only.refl none_ wr).alloc (.cells #[.int .i64 0, .int .i64 0, .int .i64 0, .int .i64 0, .int .u64 0] 38)))
      have B6 := Lib.hid (B.out.alloc B.out.size (.cells #[.int .i64 0, .int .i64 0, .int .i64 0, .int .i64 0, .int .u64 0] 38))
      have bl := H.out.bl
      have kbr := B.out.size
      have t12 : (j < len ∧ 100 ≤ j) ∨ len ≤ j := by omega
      have F6 := Lib.hid (HF.out.mono (show (j : Int) ≤ 1000000 by omega))
      clear hlt
      rcases t12 with ⟨t1, t2⟩ | t1
      all_goals
        go_wp2_with fail
        generalize wr.alloc (.cells #[.int .i64 0, .int .i64 0, .int .i64 0, .int .i64 0, .int .u64 0] 38) = w6 at *
        generalize wr.heap.size = nw at *
        have nb : ¬ nw = b := by omega
        have kbn : w.heap.size ≤ nw := by omega
        go_loopw [11, 13, 14, 15] (fun l i _ _ wx => ∃ (q : Nat) (L : Int) (f : Fr), q ≤ k ∧ i = .int .i64 ((q : Int) - 1) ∧ l = .int .i64 L ∧ Lowest fs q L f ∧ PoolIs wx p b fs ∧ Below w.heap.size w wx ∧ Row wx nw 38 #[.int .i64 f.st, .int .i64 f.blk, .int .i64 f.gen, .int .i64 f.pins, .int .u64 f.val]) (fun _ i _ _ _ => (intOf i + 1).toNat)
        case atStart => exact ⟨k, -1, ⟨0, 0, 0, 0, 0⟩, Nat.le_refl _, rfl, rfl, Lowest.start fs HN.out, H6.out, B6.out, Z6.out⟩
        case round =>
          obtain ⟨q, L, f, hq, rfl, rfl, hL, h, bl, rw_⟩ := hrel
          have H7 := Lib.hid h
          have B7 := Lib.hid bl
          have R7 := Lib.hid rw_
          have LL := Lib.hid hL
          clear h bl rw_ hL
          by_cases hz : 0 < q
          · obtain ⟨t, rfl⟩ : ∃ t, q = t + 1 := ⟨q - 1, by omega⟩
            obtain ⟨g, hg⟩ : ∃ g, fs[t]? = some g := ⟨_, List.getElem?_eq_getElem (by rw [HN.out]; omega)⟩
            rw [show (((t + 1 : Nat) : Int) - 1) = (t : Int) by omega]
            obtain ⟨gs, gk, gg, gp, gv⟩ := g
            have HG := Lib.hid hg
            clear hg hz
            go_wp2_with fail
            (with_reducible refine (frame_eq HG.out _ H7.out).mono ?_)
            rintro e w8 ⟨rfl, o⟩
            have H8 := Lib.hid ((H7.out.still o).still ((Only.refl none_ w8).alloc (.cells #[.int .i64 gs, .int .i64 gk, .int .i64 gg, .int .i64 gp, .int .u64 gv] 38)))
            have B8 := Lib.hid ((Only.below_to B7.out o (Nat.le_refl _) (fun _ _ s => s)).alloc (Nat.le_trans B7.out.size o.size) (.cells #[.int .i64 gs, .int .i64 gk, .int .i64 gg, .int .i64 gp, .int .u64 gv] 38))
            have R8 := Lib.hid (o.still R7.out)
            have cz := fun o i => (R8.out.alloc o).frozen i
            have q0 := fun o => (R8.out.alloc o).five.1
            have q1 := fun o => (R8.out.alloc o).five.2.1
            have q2 := fun o => (R8.out.alloc o).five.2.2.1
            have q3 := fun o => (R8.out.alloc o).five.2.2.2.1
            have q4 := fun o => (R8.out.alloc o).five.2.2.2.2
            have sz : w.heap.size ≤ nw := kbn
            clear o
            by_cases gz : gs = 0
            · have tz : (gs == 0) = true := by simpa using gz
              have LH := Lib.hid (Lowest.hit HG.out gz)
              clear gz
              have O5 := only5 (w8.alloc (.cells #[.int .i64 gs, .int .i64 gk, .int .i64 gg, .int .i64 gp, .int .u64 gv] 38)) nw (.int .i64 gs) (.int .i64 gk) (.int .i64 gg) (.int .i64 gp) (.int .u64 gv)
              have R9 := Lib.hid ((R8.out.alloc (.cells #[.int .i64 gs, .int .i64 gk, .int .i64 gg, .int .i64 gp, .int .u64 gv] 38)).put5 (.int .i64 gs) (.int .i64 gk) (.int .i64 gg) (.int .i64 gp) (.int .u64 gv))
              have H9 := Lib.hid (H8.out.keep O5 (by omega) (by omega))
              have B9 := Lib.hid (Only.below_to B8.out O5 (Nat.le_refl _) (fun i hi => by omega))
              clear O5
              go_wp2_with fail
              exact ⟨⟨t, t, ⟨gs, gk, gg, gp, gv⟩, by omega, rfl, rfl, LH.out, H9.out, B9.out, R9.out⟩, by simp [intOf]⟩
            · have tz : (gs == 0) = false := by simpa using gz
              have LM := Lib.hid (LL.out.miss HG.out gz)
              clear gz
              go_wp2_with fail
              exact ⟨⟨t, L, f, by omega, rfl, rfl, LM.out, H8.out, B8.out, R8.out.alloc _⟩, by simp [intOf]⟩
          · obtain rfl : q = 0 := by omega
            rw [show (((0 : Nat) : Int) - 1) = -1 by omega]
            rcases LL.out.take (n := c) lc with ⟨e1, e2⟩ | ⟨m, e1, e3, e2⟩
            · have E2 := Lib.hid e2
              subst e1
              clear e2
              go_wp2_with fail
              (with_reducible refine (take_eq F6.out E2.out _ H7.out).mono ?_)
              rintro e w9 ⟨rfl, h, o⟩
              have B9 := Lib.hid (Only.below_to B7.out o (Nat.le_refl _) (fun i hi => by omega))
              clear o h
              go_wp2_with fail
              go_ret
              exact ⟨rfl, B9.out⟩
            · have E2 := Lib.hid e2
              have ff := F6.out f (List.mem_of_getElem? e3)
              have g0 := ff.g0
              have g1 := ff.g1
              have E3 := Lib.hid (show (fs.set m ⟨1, c, f.gen + 1, 0, 0⟩)[m]? = some ⟨1, c, f.gen + 1, 0, 0⟩ from get_set e3)
              subst e1
              clear e2 e3 ff
              go_wp2_with fail
              (with_reducible refine (take_eq F6.out E2.out _ H7.out).mono ?_)
              rintro e w9 ⟨rfl, h, o⟩
              have H9 := Lib.hid h
              have B9 := Lib.hid (Only.below_to B7.out o (Nat.le_refl _) (fun i hi => by omega))
              have R9 := Lib.hid (o.row R7.out (by omega))
              clear o h
              go_wp2_with fail
              (with_reducible refine (frame_eq E3.out _ H9.out).mono ?_)
              rintro e w10 ⟨rfl, o⟩
              have B10 := Lib.hid (Only.below_to B9.out o (Nat.le_refl _) (fun _ _ s => s))
              have q2 := fun ob => ((o.still R9.out).alloc ob).five.2.2.1
              clear o
              go_wp2_with fail
              go_ret
              exact ⟨by simp, B10.out.alloc B10.out.size _⟩


set_option maxRecDepth 100000 in
theorem lifted (os : Os) (started : os.Started) (H : Type) (enc : TypeId × Value → H) :
    ReturnsInHanded {} Try.checked os 5 .any (Rows.poolLeastSpec.pre6 enc Try.prog Try.f5 Rows.poolLeastRow.domain false) (Rows.poolLeastSpec.post enc Try.prog Try.f5 false true false false) := by
  refine returnsInHanded_of_change (C := Try.checked) own started (by kernel_rfl) Try.func5
    (ChangeSpec.witness6 (enc := enc) (C := Try.checked) false ⟨#[], #[.int .u8 0, .slice none 0 0, .int .u16 0], []⟩ 8 (by kernel_rfl) (by kernel_rfl) (by kernel_rfl) (by kernel_rfl)) ?_
  intro W base args ds gs before hval0 hW hcnd _
  have hval : ∀ (j : Nat) t v, Try.f5.params[j]? = some t → args[j]? = some v → Value.okWide Try.prog W .any base t v := hval0
  have hW' := hW
  obtain ⟨p, q, hA0, hV, rfl, hfz, hnd⟩ := hW
  have hA : DataW.TrodAll enc Try.prog W 0 (fun _ => true) true Try.f5.params.toList args.toList ds p := hA0
  rw [Try.params5] at hA hval
  obtain ⟨v0, vs0, d0, ds0, p0, q0, hargs, rfl, rfl, h0, r0⟩ := trodAll_cons hA
  obtain ⟨v1, vs1, d1, ds1, p1, q1, rfl, rfl, rfl, h1, r1⟩ := trodAll_cons r0
  obtain ⟨v2, vs2, d2, ds2, p2, q2, rfl, rfl, rfl, h2, r2⟩ := trodAll_cons r1
  obtain ⟨rfl, rfl, rfl⟩ := trodAll_nil r2
  obtain rfl : args = #[v0, v1, v2] := by cases args; simp_all
  obtain ⟨rfl, rfl⟩ := trodVars_none hV
  obtain ⟨a0, rfl, rfl, rfl, w0⟩ := open_int Try.underlying5 (hval 0 5 v0 rfl rfl) h0
  have k1 := h1
  have lt1 : ∀ x ∈ p1, x.block < W.heap.size := by obtain ⟨m, hm⟩ := k1; exact DataW.trod_lt m _ _ _ hm
  obtain ⟨ad1, len1, cap1, rfl⟩ := okWide_slice Try.underlying22 (hval 1 22 v1 rfl rfl)
  obtain ⟨fuel1, hf1⟩ := h1
  obtain ⟨max1, xs1, el1, hold1, wf1⟩ := open_acts hf1
  obtain ⟨a2, rfl, rfl, rfl, w2⟩ := open_int Try.underlying46 (hval 2 46 v2 rfl rfl) h2
  have shut : ∀ W', Below W.heap.size W W' → DataW.TrodAll enc Try.prog W' 0 (fun b => decide (b < W.heap.size)) true [5, 22, 46] [.int .u8 a0, .slice ad1 len1 cap1, .int .u16 a2] [.lit (.int .u8 a0), d1, .lit (.int .u16 a2)] ([] ++ (p1 ++ ([] ++ []))) := fun W' bel =>
    (trodAll_cons_mk (shut_int Try.underlying5 w0) (trodAll_cons_mk (Below.trod laidOut (by kernel_rfl) (of_decide_eq_true (by kernel_rfl)) k1 bel lt1) (trodAll_cons_mk (shut_int Try.underlying46 w2) trodAll_mk0)))
  clear hA0 hval0
  refine (walk W a0 w0 ad1 len1 cap1 xs1 max1 el1 hold1 wf1 a2 w2).mono fun e W' ⟨he, bel⟩ => ?_
  subst he
  exact ⟨_, rfl, _, _, _, [], _, [], hW', trodAll_mk1 (shut_bool Try.underlying4 _), shut W' bel, rfl, bel.frame _, fun h => by cases h⟩

theorem over : Rows.poolLeastRow.holds Try.pinned (OpenSpec.ofChange Rows.poolLeastSpec) :=
  OpenClaim.holds_of_wide 5 Try.f5 rfl rfl rfl rfl rfl rfl rfl ⟨rfl, rfl, rfl, rfl, rfl⟩ rfl rfl rfl rfl rfl (by kernel_rfl) Try.func5 (by kernel_rfl)
    (of_decide_eq_true (by kernel_rfl)) (by unfold Func.isWrapper; first | (rw [if_pos (by decide +kernel)]; kernel_rfl) | (rw [if_neg (by decide +kernel)]; exact ⟨rfl, rfl⟩))
    (fun os started H enc _ => lifted os started H enc)

theorem poolLeast_holds : Rows.PoolLeastSaid := over
#print axioms poolLeast_holds
end Go.Proofs.Ytllbdkjbcadeoaa.poolLeast
