/- Proved: the statement TapAges of layer 8, for every size, every life and every row of looks, on no condition. -/
import Derived.Test.YtpplhgnelbddbaaRows
import Derived.WalkKit
import Derived.ProofKit
import Derived.OpenShut
import Derived.Below
import Derived.Test.YtpplhgnelbddbaaArgs
import Derived.Test.YtpplhgnelbddbaaPair8
import Derived.Deep.RegionHeld3
namespace Go.Proofs.Ytpplhgnelbddbaa.tapAges
open Go.ChangeShapes Go.WideShapes Go.ChangeAt Go.RowKit
set_option linter.unusedVariables false

theorem own : ownKnob Try.prog.godebug = none := by kernel_rfl
theorem laidOut : laidOutB Try.prog = true := by kernel_rfl

set_option maxHeartbeats 1000000 in
set_option maxRecDepth 100000 in
theorem walk (w : World) (pa : Int) (wpa : (Lit.int .u8 pa).wf = true) (pb : Int) (wpb : (Lit.int .u8 pb).wf = true) (A : Option Addr) (len cap : Nat) (xs : List Look1) (hmax : len ≤ maxLen) (hlen : xs.length = len) (hold : Holds w A 2 Look1.cells xs) (_ : ∀ a ∈ xs, True) :
    Calls Try.prog 4 #[.agg #[.int .u8 pa, .int .u8 pb], .slice A len cap] w fun e w' => e = .returned (.bool true) ∧ Below w.heap.size w w' := by
  obtain ⟨lpa, upa⟩ := bd_u8 wpa
  obtain ⟨lpb, upb⟩ := bd_u8 wpb
  clear wpa wpb
  unfold maxLen at hmax
  have HL := Lib.hid hlen
  have HO := Lib.hid hold
  clear hlen hold
  obtain ⟨S, hS, s1, s32⟩ := size_of pa lpa
  obtain ⟨T, hT, t1, t64⟩ := life_of pb lpb
  have NW := Lib.hid (fun w => new8_yes S T w s1 s32 t1 t64)
  go_enter Try.func4, Try.ntmps4
  go_wp2_with fail
  have oa0 := (Only.refl none_ w).alloc (.cells #[.int .u8 pa, .int .u8 pb] 41)
  have ra0 := Row.fresh w 41 #[.int .u8 pa, .int .u8 pb]
  generalize w.alloc (.cells #[.int .u8 pa, .int .u8 pb] 41) = w0 at *
  have B0 := Lib.hid (oa0.to_below8)
  have R0 := Lib.hid ra0
  clear oa0 ra0
  (with_reducible refine (awake_any _).mono ?_)
  rintro e w1 ⟨rfl, b1⟩
  have B1 := Lib.hid (B0.out.trans (b1.mono B0.out.size))
  have R1 := Lib.hid ((below_only8 b1).still R0.out)
  have pc0 : w1.cell? ⟨w.heap.size, 0, none⟩ = some (.int .u8 pa) := (R1.out.cell 0).trans rfl
  have pc1 : w1.cell? ⟨w.heap.size, 1, none⟩ = some (.int .u8 pb) := (R1.out.cell 1).trans rfl
  clear b1
  go_wp2_with fail
  (with_reducible refine (NW.out _).mono ?_)
  rintro e w2 ⟨p, b, rfl, h, lp, lb, o⟩
  have H2 := Lib.hid h
  have B2 := Lib.hid (below_on8 B1.out o)
  have lp' : w.heap.size ≤ p := Nat.le_trans B1.out.size lp
  have lb' : w.heap.size ≤ b := Nat.le_trans B1.out.size lb
  clear h o lp lb B1 R1 R0 B0 pc0 pc1
  go_wp2_with fail
  go_loopw [9] (fun i wr => ∃ (j L : Nat) (es : List En), j ≤ len ∧ j ≤ 150 ∧ L ≤ j ∧ i = .int .i64 j ∧ Tb wr p b L S T es ∧ Below w.heap.size w wr) (fun i _ => len - (intOf i).toNat)
  case atStart => exact ⟨0, 0, [], Nat.zero_le _, Nat.zero_le _, Nat.le_refl _, rfl, H2.out, B2.out⟩
  case round =>
    obtain ⟨j, L, es, hj, hj2, hL, rfl, h, bl⟩ := hrel
    clear H2 B2
    have H := Lib.hid h
    have B := Lib.hid bl
    clear h bl
    have t12 : (j < len ∧ j < 150) ∨ (j < len ∧ 150 ≤ j) ∨ len ≤ j := by omega
    rcases t12 with ⟨q1, q2⟩ | q1
    · obtain ⟨act, hact⟩ : ∃ act, xs[j]? = some act := ⟨_, List.getElem?_eq_getElem (by rw [HL.out]; exact q1)⟩
      obtain ⟨sb, so, hA, hsb, _, _⟩ := look_at HO.out B.out hact
      subst hA
      have LM := Lib.hid (look_more HO.out hact)
      clear hact
      have OD := Lib.hid (Only.refl none_ wr).drew
      have Bd := Lib.hid (below_on8 B.out OD.out)
      have Hd := Lib.hid (H.out.still OD.out)
      have l9 : L < 900000 := by omega
      have K0 := Lib.hid (fun (w' : World) (o : Only (two8 p b) wr.drew w') => LM.out w' (below_two Bd.out o lp' lb'))
      have Od := Lib.hid (Only.refl (two8 p b) wr.drew)
      clear H B
      go_wp2_with fail
      go_region_held3 (fun w' => w'.cell? ⟨sb, so + j * 2, none⟩ = some (.int .i64 act.first) ∧ w'.cell? ⟨sb, so + j * 2 + 1, none⟩ = some (.int .i64 act.count))
        (first
          | (with_reducible exact K0.out _ O4.out)
          | (with_reducible exact K0.out _ Od.out)
          | fail)
        (first
          | (go_at_call 10; (with_reducible refine (look_any p b L S T es act.first act.count _ Hd.out l9).mono ?_); rintro e w4 ⟨rfl, ⟨L', l1, l2, h4⟩, o4⟩; have O4 := Lib.hid o4; have H4 := Lib.hid h4)
          | fail)
      rename_i hHeld
      have B4 := Lib.hid (below_two Bd.out O4.out lp' lb')
      clear hHeld h4 o4 K0 Od O4 Hd Bd OD
      generalize lookT S T es act.first act.count = fs at *
      generalize lookB S T es act.first act.count = lb0 at *
      generalize lookC act.first act.count = lc at *
      have FF := Lib.hid H4.out.fine
      have few := H4.out.fine.few
      have l10 : L' < 1000000 := by omega
      have LS := Lib.hid (list_any p b L' S T fs _ H4.out l10)
      have d1 : decide ((S : Int) < (fs.length : Int)) = false := by simp; omega
      have d1' : decide (S < fs.length) = false := by simp; omega
      have f32 : fs.length ≤ 32 := Nat.le_trans few s32
      go_wp2_with fail
      (with_reducible refine (LS.out).mono ?_)
      rintro e w5 ⟨A5, cap5, rfl, h5, _, o5⟩
      have HH := Lib.hid h5
      have H5 := Lib.hid (H4.out.still o5)
      have B5 := Lib.hid (below_on8 B4.out o5)
      clear h5 o5 H4 B4 LS
      go_wp2_with fail
      go_loopw [11] (fun k wk => ∃ m : Nat, m ≤ fs.length ∧ k = .int .i64 m ∧ Only none_ w5 wk) (fun k _ => fs.length - (intOf k).toNat)
      case atStart => exact ⟨0, Nat.zero_le _, rfl, Only.refl _ _⟩
      case round =>
        obtain ⟨m, hm, rfl, ho⟩ := hrel
        have OO := Lib.hid ho
        clear ho
        by_cases hlt : m < fs.length
        · obtain ⟨y, hy⟩ : ∃ y, fs[m]? = some y := ⟨_, List.getElem?_eq_getElem hlt⟩
          obtain ⟨ag, ao, rfl, _, c1⟩ := HH.out m y hy
          have C1 := Lib.hid c1
          have HY := Lib.hid hy
          have a1 : ∀ k, (wr.drewN k).cell? ⟨ag, ao + m * 2 + 1, none⟩ = some (.int .i64 y.age) := fun k => OO.out.cell (c1 1 _ rfl) (fun s => s)
          have yo := FF.out.young y (List.mem_of_getElem? hy)
          have e1 : decide ((y.age : Int) < 0) = false := by simp
          have e2 : decide ((T : Int) < (y.age : Int)) = false := by simp; omega
          have e2' : decide (T < y.age) = false := by simp; omega
          clear c1 hy
          rcases Nat.eq_zero_or_pos m with m0 | m0
          · have e3 : decide (0 < m) = false := by simp; omega
            have e4 : decide ((0 : Int) < (m : Int)) = false := by simp; omega
            have M0 := Lib.hid m0
            clear m0
            go_wp2_with fail
            go_quiet (fail)
            go_wp2_with fail
            go_loopw [12] (fun n wn => ∃ n' : Nat, n' ≤ m ∧ n = .int .i64 n' ∧ Only none_ w5 wn) (fun n _ => m - (intOf n).toNat)
            case atStart => exact ⟨0, Nat.zero_le _, rfl, OO.out.drewN _⟩
            case round =>
              obtain ⟨n, hn, rfl, hon⟩ := hrel
              have ON := Lib.hid hon
              clear hon
              by_cases hnm : n < m
              · obtain ⟨z, hz⟩ : ∃ z, fs[n]? = some z := ⟨_, List.getElem?_eq_getElem (by omega)⟩
                obtain ⟨_, _, e2, _, c2⟩ := HH.out n z hz
                injection e2 with e2
                injection e2 with e2 e3
                subst e2 e3
                have n0 : ∀ k, (wr.drewN k).cell? ⟨ag, ao + n * 2, none⟩ = some (.int .i64 z.next) := fun k => ON.out.cell (c2 0 _ rfl) (fun s => s)
                have n1 : ∀ k, (wr.drewN k).cell? ⟨ag, ao + m * 2, none⟩ = some (.int .i64 y.next) := fun k => ON.out.cell (C1.out 0 _ rfl) (fun s => s)
                have t0 : (z.next == y.next) = false := next_apart FF.out.apart hz HY.out hnm
                have ln : n < fs.length := by omega
                clear hz c2
                go_wp2_with fail
                go_quiet (fail)
                go_wp2_with fail
                go_roundw
                case rel => exact ⟨n + 1, by omega, by go_num, ON.out.drewN _⟩
                case measure => simp [intOf]; omega
              · go_wp2_with fail
                go_roundw
                case rel => exact ⟨m + 1, by omega, by go_num, ON.out⟩
                case measure => simp [intOf]; omega
          · have e3 : decide (0 < m) = true := by simp; omega
            have e4 : decide ((0 : Int) < (m : Int)) = true := by simp; omega
            obtain ⟨x, hx⟩ : ∃ x, fs[m - 1]? = some x := ⟨_, List.getElem?_eq_getElem (by omega)⟩
            obtain ⟨_, _, q2, _, c2⟩ := HH.out (m - 1) x hx
            injection q2 with q2
            injection q2 with q2 q3
            subst q2 q3
            have b1 : ∀ k, (wr.drewN k).cell? ⟨ag, ao + (m - 1) * 2 + 1, none⟩ = some (.int .i64 x.age) := fun k => OO.out.cell (c2 1 _ rfl) (fun s => s)
            have lt := age_apart FF.out.rise hx HY.out (by omega)
            have e5 : decide ((y.age : Int) ≤ (x.age : Int)) = false := by simp; omega
            have e5' : decide (y.age ≤ x.age) = false := by simp; omega
            have lm : m - 1 < fs.length := by omega
            clear hx c2 lt
            go_wp2_with fail
            go_quiet (fail)
            go_wp2_with fail
            go_loopw [12] (fun n wn => ∃ n' : Nat, n' ≤ m ∧ n = .int .i64 n' ∧ Only none_ w5 wn) (fun n _ => m - (intOf n).toNat)
            case atStart => exact ⟨0, Nat.zero_le _, rfl, OO.out.drewN _⟩
            case round =>
              obtain ⟨n, hn, rfl, hon⟩ := hrel
              have ON := Lib.hid hon
              clear hon
              by_cases hnm : n < m
              · obtain ⟨z, hz⟩ : ∃ z, fs[n]? = some z := ⟨_, List.getElem?_eq_getElem (by omega)⟩
                obtain ⟨_, _, e2, _, c2⟩ := HH.out n z hz
                injection e2 with e2
                injection e2 with e2 e3
                subst e2 e3
                have n0 : ∀ k, (wr.drewN k).cell? ⟨ag, ao + n * 2, none⟩ = some (.int .i64 z.next) := fun k => ON.out.cell (c2 0 _ rfl) (fun s => s)
                have n1 : ∀ k, (wr.drewN k).cell? ⟨ag, ao + m * 2, none⟩ = some (.int .i64 y.next) := fun k => ON.out.cell (C1.out 0 _ rfl) (fun s => s)
                have t0 : (z.next == y.next) = false := next_apart FF.out.apart hz HY.out hnm
                have ln : n < fs.length := by omega
                clear hz c2
                go_wp2_with fail
                go_quiet (fail)
                go_wp2_with fail
                go_roundw
                case rel => exact ⟨n + 1, by omega, by go_num, ON.out.drewN _⟩
                case measure => simp [intOf]; omega
              · go_wp2_with fail
                go_roundw
                case rel => exact ⟨m + 1, by omega, by go_num, ON.out⟩
                case measure => simp [intOf]; omega
        · go_wp2_with fail
          go_roundw
          case rel => exact ⟨j + 1, L', fs, by omega, by omega, by omega, by go_num, H5.out.still OO.out, below_on8 B5.out OO.out⟩
          case measure => simp [intOf]; omega
    · rcases q1 with ⟨q1, q2⟩ | q1
      all_goals
        go_wp2_with fail
        go_ret
        exact ⟨rfl, B.out⟩

set_option maxRecDepth 100000 in
theorem lifted (os : Os) (started : os.Started) (H : Type) (enc : TypeId × Value → H) :
    ReturnsInHanded {} Try.checked os 4 .any (Rows.tapAgesSpec.pre6 enc Try.prog Try.f4 Rows.tapAgesRow.domain false) (Rows.tapAgesSpec.post enc Try.prog Try.f4 false true false false) := by
  refine returnsInHanded_of_change (C := Try.checked) own started (by kernel_rfl) Try.func4
    (ChangeSpec.witness6 (enc := enc) (C := Try.checked) false ⟨#[], #[.agg #[.int .u8 0, .int .u8 0], .slice none 0 0], []⟩ 8 (by kernel_rfl) (by kernel_rfl) (by kernel_rfl) (by kernel_rfl)) ?_
  intro W base args ds gs before hval0 hW hcnd _
  have hval : ∀ (j : Nat) t v, Try.f4.params[j]? = some t → args[j]? = some v → Value.okWide Try.prog W .any base t v := hval0
  have hW' := hW
  obtain ⟨p, q, hA0, hV, rfl, hfz, hnd⟩ := hW
  have hA : DataW.TrodAll enc Try.prog W 0 (fun _ => true) true Try.f4.params.toList args.toList ds p := hA0
  rw [Try.params4] at hA hval
  obtain ⟨v0, vs0, d0, ds0, p0, q0, hargs, rfl, rfl, h0, r0⟩ := trodAll_cons hA
  obtain ⟨v1, vs1, d1, ds1, p1, q1, rfl, rfl, rfl, h1, r1⟩ := trodAll_cons r0
  obtain ⟨rfl, rfl, rfl⟩ := trodAll_nil r1
  obtain rfl : args = #[v0, v1] := by cases args; simp_all
  obtain ⟨rfl, rfl⟩ := trodVars_none hV
  have o0 := hval 0 41 v0 rfl rfl
  have k0 := h0
  have lt0 : ∀ x ∈ p0, x.block < W.heap.size := by obtain ⟨m, hm⟩ := k0; exact DataW.trod_lt m _ _ _ hm
  obtain ⟨a0, b0, rfl, wa0, wb0⟩ := open_pair W base H enc v0 d0 p0 o0 h0
  have k1 := h1
  have lt1 : ∀ x ∈ p1, x.block < W.heap.size := by obtain ⟨m, hm⟩ := k1; exact DataW.trod_lt m _ _ _ hm
  obtain ⟨ad1, len1, cap1, rfl⟩ := okWide_slice Try.underlying22 (hval 1 22 v1 rfl rfl)
  obtain ⟨fuel1, hf1⟩ := h1
  obtain ⟨max1, xs1, el1, hold1, wf1⟩ := open_looks hf1
  have shut : ∀ W', Below W.heap.size W W' → DataW.TrodAll enc Try.prog W' 0 (fun b => decide (b < W.heap.size)) true [41, 22] [.agg #[.int .u8 a0, .int .u8 b0], .slice ad1 len1 cap1] [d0, d1] (p0 ++ (p1 ++ [])) := fun W' bel =>
    (trodAll_cons_mk (Below.trod laidOut (by kernel_rfl) (of_decide_eq_true (by kernel_rfl)) k0 bel lt0) (trodAll_cons_mk (Below.trod laidOut (by kernel_rfl) (of_decide_eq_true (by kernel_rfl)) k1 bel lt1) trodAll_mk0))
  clear hA0 hval0
  refine (walk W a0 wa0 b0 wb0 ad1 len1 cap1 xs1 max1 el1 hold1 wf1).mono fun e W' ⟨he, bel⟩ => ?_
  subst he
  exact ⟨_, rfl, _, _, _, [], _, [], hW', trodAll_mk1 (shut_bool Try.underlying4 _), shut W' bel, rfl, bel.frame _, fun h => by cases h⟩

theorem over : Rows.tapAgesRow.holds Try.pinned (OpenSpec.ofChange Rows.tapAgesSpec) :=
  OpenClaim.holds_of_wide 4 Try.f4 rfl rfl rfl rfl rfl rfl rfl ⟨rfl, rfl, rfl, rfl, rfl⟩ rfl rfl rfl rfl rfl (by kernel_rfl) Try.func4 (by kernel_rfl)
    (of_decide_eq_true (by kernel_rfl)) (by unfold Func.isWrapper; first | (rw [if_pos (by decide +kernel)]; kernel_rfl) | (rw [if_neg (by decide +kernel)]; exact ⟨rfl, rfl⟩))
    (fun os started H enc _ => lifted os started H enc)

theorem tapAges_holds : Rows.TapAgesSaid := over
#print axioms tapAges_holds
end Go.Proofs.Ytpplhgnelbddbaa.tapAges
