/- Proved: the statement IndexHome of layer 5, for every size, first key and key that is deleted, on no condition. -/
import Derived.Test.YtajphhalneaihaaRows
import Derived.WalkKit
import Derived.ProofKit
import Derived.OpenShut
import Derived.Below
import Derived.Test.YtajphhalneaihaaArgs
import Derived.Test.YtajphhalneaihaaActs5
import Derived.Test.YtajphhalneaihaaChain
namespace Go.Proofs.Ytajphhalneaihaa.indexHome
open Go.ChangeShapes Go.WideShapes Go.ChangeAt Go.RowKit
set_option linter.unusedVariables false

theorem own : ownKnob Try.prog.godebug = none := by kernel_rfl
theorem laidOut : laidOutB Try.prog = true := by kernel_rfl

set_option maxHeartbeats 8000000 in
set_option maxRecDepth 100000 in
theorem walk (w : World) (a : Int) (wa : (Lit.int .u8 a).wf = true) (f : Int) (wf : (Lit.int .u16 f).wf = true) (d : Int) (wd : (Lit.int .u8 d).wf = true) :
    Calls Try.prog 7 #[.int .u8 a, .int .u16 f, .int .u8 d] w fun e w' => e = .returned (.bool true) ∧ Below w.heap.size w w' := by
  obtain ⟨la, ua⟩ := bd_u8 wa
  obtain ⟨lf, uf⟩ := bd_u16 wf
  obtain ⟨ld, ud⟩ := bd_u8 wd
  clear wa wf wd
  obtain ⟨P, hP, pw, p4⟩ := size_of7 a la
  obtain ⟨p2, p256⟩ := pw.le
  obtain ⟨k, hK, k1⟩ : ∃ k : Nat, d % ((P : Int) - 1) = k ∧ k + 1 < P := by
    have h1 := Int.emod_nonneg d (show (P : Int) - 1 ≠ 0 by omega)
    have h2 := Int.emod_lt_of_pos d (show (0 : Int) < (P : Int) - 1 by omega)
    exact ⟨(d % ((P : Int) - 1)).toNat, by omega, by omega⟩
  go_enter Try.func7, Try.ntmps7
  go_wp2_with fail
  (with_reducible refine (awake_any _).mono ?_)
  rintro e w1 ⟨rfl, b1⟩
  have B1 := Lib.hid b1
  clear b1
  go_wp2_with fail
  rw [hP]
  clear hP
  (with_reducible refine (new_yes P _ pw).mono ?_)
  rintro e w2 ⟨p, b, rfl, h, kp, kb, o⟩
  have H2 := Lib.hid h
  have B2 := Lib.hid (Only.below_to B1.out o (Nat.le_refl _) (fun _ _ s => s))
  have kb' : w.heap.size ≤ b := Nat.le_trans B1.out.size kb
  have kp' : w.heap.size ≤ p := Nat.le_trans B1.out.size kp
  clear h o kp kb B1
  obtain ⟨hh, hf⟩ : ∃ hh, hm P f = hh := ⟨_, rfl⟩
  have hl : hh < P := by rw [← hf]; exact hm_lt (by omega) f
  have HF := Lib.hid hf
  clear hf
  go_wp2_with fail
  go_loopw [11] (fun i wr => ∃ (j : Nat) (ps : List Pl), j + 1 ≤ P ∧ i = .int .i64 j ∧ Ix wr p b ps ∧ Chain ps P hh (LL P f j) ∧ Below w.heap.size w wr) (fun i _ => P - (intOf i).toNat)
  case atStart => exact ⟨0, fresh P, by omega, rfl, H2.out, Chain.start hl, B2.out⟩
  case round =>
    obtain ⟨j, ps, hj, rfl, h, hC, bl⟩ := hrel
    have H := Lib.hid h
    have C := Lib.hid hC
    have B := Lib.hid bl
    clear h hC bl H2 B2
    obtain ⟨m0, m1⟩ := home_bd (k := j) (P := P) (by omega) (by omega)
    by_cases hlt : j + 1 < P
    · have t1 : (j : Int) < (P : Int) - 1 := by omega
      obtain ⟨e1, c1, f1⟩ := LL_put C.out HF.out hlt (by omega)
      have PA := put_any p b ps (f + (j : Int) * P) j wr H.out C.out.good
      rw [e1] at PA
      have PA := Lib.hid PA
      have C1 := Lib.hid c1
      have FA := fun W (h : Ix W p b (putP ps (f + (j : Int) * P) j).1) => far_any p b _ (f + (j : Int) * P) W h c1.good
      rw [f1] at FA
      have FA := Lib.hid FA
      clear e1 c1 f1
      generalize (putP ps (f + (j : Int) * P) j).1 = qs at *
      go_wp2_with fail
      (with_reducible refine (PA.out).mono ?_)
      rintro e w3 ⟨rfl, h3, o3⟩
      have H3 := Lib.hid h3
      have B3 := Lib.hid (Only.below_to B.out o3 (Nat.le_refl _) (fun i hi q => by rcases q with q | q <;> omega))
      clear h3 o3
      go_wp2_with fail
      (with_reducible refine (FA.out _ H3.out).mono ?_)
      rintro e w' ⟨rfl, rfl⟩
      go_wp2_with fail
      go_roundw
      case rel => exact ⟨j + 1, qs, by omega, by go_num, H3.out, C1.out, B3.out⟩
      case measure => simp [intOf]; omega
    · have ej : ((j : Nat) : Int) = (P : Int) - 1 := by omega
      have J1 := Lib.hid (show j + 1 = P by omega)
      have t1 : decide ((j : Int) < (P : Int) - 1) = false := by simp; omega
      have kj : k < j := by omega
      obtain ⟨n0, n1⟩ := home_bd (k := k) (P := P) (by omega) (by omega)
      obtain ⟨d1, cd⟩ := C.out.del (LL_at (N := P) (f := f) kj)
      simp only at d1 cd
      have DA := del_any p b ps (f + (k : Int) * P) wr H.out C.out.good
      rw [d1] at DA
      have DA := Lib.hid DA
      have lf := LL_gone (by omega) HF.out kj cd (i := k) kj
      rw [if_pos rfl] at lf
      have hn : hasP (delP ps (f + (k : Int) * P)) (f + (k : Int) * P) = false := by
        cases c : hasP (delP ps (f + (k : Int) * P)) (f + (k : Int) * P) with
        | false => rfl
        | true => have := (far_bound cd.good c).1; omega
      have ed : delP (delP ps (f + (k : Int) * P)) (f + (k : Int) * P) = delP ps (f + (k : Int) * P) := del_none hn
      have DB := fun W (h : Ix W p b (delP ps (f + (k : Int) * P))) => del_any p b _ (f + (k : Int) * P) W h cd.good
      rw [hn, ed] at DB
      have DB := Lib.hid DB
      have CD := Lib.hid cd
      have LC := Lib.hid (show (cnt (delP ps (f + (k : Int) * P)) : Int) = (P : Int) - 1 - 1 by rw [cd.cnt, List.length_append, List.length_take, List.length_drop, LL_len]; omega)
      clear lf hn ed d1 cd ej hlt hj
      generalize delP ps (f + (k : Int) * P) = qs at *
      go_wp2_with fail
      (with_reducible refine (DA.out).mono ?_)
      rintro e w3 ⟨rfl, h3, o3⟩
      have H3 := Lib.hid h3
      have B3 := Lib.hid (Only.below_to B.out o3 (Nat.le_refl _) (fun i hi q => by rcases q with q | q <;> omega))
      clear h3 o3
      go_wp2_with fail
      (with_reducible refine (DB.out _ H3.out).mono ?_)
      rintro e w4 ⟨rfl, h4, o4⟩
      have H4 := Lib.hid h4
      have B4 := Lib.hid (Only.below_to B3.out o4 (Nat.le_refl _) (fun i hi q => by rcases q with q | q <;> omega))
      clear h4 o4 H3 B3 DA DB H B
      go_wp2_with fail
      go_loopw [13, 14] (fun i _ wr => ∃ i' : Nat, i' + 1 ≤ P ∧ i = .int .i64 i' ∧ Ix wr p b qs ∧ Below w.heap.size w wr) (fun i _ _ => P - (intOf i).toNat)
      case atStart => exact ⟨0, by omega, rfl, H4.out, B4.out⟩
      case round =>
        obtain ⟨i, hi, rfl, h, bl⟩ := hrel
        have H5 := Lib.hid h
        have B5 := Lib.hid bl
        clear h bl H4 B4
        obtain ⟨q0, q1⟩ := home_bd (k := i) (P := P) (by omega) (by omega)
        by_cases hlt : i + 1 < P
        · have t2 : (i : Int) < (P : Int) - 1 := by omega
          have FA := far_any p b qs (f + (i : Int) * P) wr H5.out CD.out.good
          rw [LL_gone (by omega) HF.out kj CD.out (by have := J1.out; omega)] at FA
          rcases Nat.lt_trichotomy i k with c | c | c
          · rw [if_neg (by omega), if_neg (by omega)] at FA
            have FA := Lib.hid FA
            have s1 : ((i : Int) == (k : Int)) = false := by simp; omega
            have s2 : decide ((k : Int) < (i : Int)) = false := by simp; omega
            go_wp2_with fail
            (with_reducible refine (FA.out).mono ?_)
            rintro e w' ⟨rfl, rfl⟩
            go_wp2_with fail
            go_roundw
            case rel => exact ⟨i + 1, by omega, by go_num, H5.out, B5.out⟩
            case measure => simp [intOf]; omega
          · rw [if_pos c] at FA
            have FA := Lib.hid FA
            have s1 : ((i : Int) == (k : Int)) = true := by simp; omega
            clear c
            go_wp2_with fail
            (with_reducible refine (FA.out).mono ?_)
            rintro e w' ⟨rfl, rfl⟩
            go_wp2_with fail
            go_roundw
            case rel => exact ⟨i + 1, by omega, by go_num, H5.out, B5.out⟩
            case measure => simp [intOf]; omega
          · rw [if_neg (by omega), if_pos c] at FA
            have FA := Lib.hid FA
            have s1 : ((i : Int) == (k : Int)) = false := by simp; omega
            have s2 : decide ((k : Int) < (i : Int)) = true := by simp; omega
            go_wp2_with fail
            (with_reducible refine (FA.out).mono ?_)
            rintro e w' ⟨rfl, rfl⟩
            go_wp2_with fail
            go_roundw
            case rel => exact ⟨i + 1, by omega, by go_num, H5.out, B5.out⟩
            case measure => simp [intOf]; omega
        · have t2 : decide ((i : Int) < (P : Int) - 1) = false := by simp; omega
          have LA := len_any p b qs wr H5.out
          rw [LC.out] at LA
          have LA := Lib.hid LA
          go_wp2_with fail
          (with_reducible refine (LA.out).mono ?_)
          rintro e w' ⟨rfl, rfl⟩
          go_wp2_with fail
          go_ret
          exact ⟨rfl, B5.out⟩


set_option maxRecDepth 100000 in
theorem lifted (os : Os) (started : os.Started) (H : Type) (enc : TypeId × Value → H) :
    ReturnsInHanded {} Try.checked os 7 .any (Rows.indexHomeSpec.pre6 enc Try.prog Try.f7 Rows.indexHomeRow.domain false) (Rows.indexHomeSpec.post enc Try.prog Try.f7 false true false false) := by
  refine returnsInHanded_of_change (C := Try.checked) own started (by kernel_rfl) Try.func7
    (ChangeSpec.witness6 (enc := enc) (C := Try.checked) false ⟨#[], #[.int .u8 0, .int .u16 0, .int .u8 0], []⟩ 8 (by kernel_rfl) (by kernel_rfl) (by kernel_rfl) (by kernel_rfl)) ?_
  intro W base args ds gs before hval0 hW hcnd _
  have hval : ∀ (j : Nat) t v, Try.f7.params[j]? = some t → args[j]? = some v → Value.okWide Try.prog W .any base t v := hval0
  have hW' := hW
  obtain ⟨p, q, hA0, hV, rfl, hfz, hnd⟩ := hW
  have hA : DataW.TrodAll enc Try.prog W 0 (fun _ => true) true Try.f7.params.toList args.toList ds p := hA0
  rw [Try.params7] at hA hval
  obtain ⟨v0, vs0, d0, ds0, p0, q0, hargs, rfl, rfl, h0, r0⟩ := trodAll_cons hA
  obtain ⟨v1, vs1, d1, ds1, p1, q1, rfl, rfl, rfl, h1, r1⟩ := trodAll_cons r0
  obtain ⟨v2, vs2, d2, ds2, p2, q2, rfl, rfl, rfl, h2, r2⟩ := trodAll_cons r1
  obtain ⟨rfl, rfl, rfl⟩ := trodAll_nil r2
  obtain rfl : args = #[v0, v1, v2] := by cases args; simp_all
  obtain ⟨rfl, rfl⟩ := trodVars_none hV
  obtain ⟨a0, rfl, rfl, rfl, w0⟩ := open_int Try.underlying5 (hval 0 5 v0 rfl rfl) h0
  obtain ⟨a1, rfl, rfl, rfl, w1⟩ := open_int Try.underlying44 (hval 1 44 v1 rfl rfl) h1
  obtain ⟨a2, rfl, rfl, rfl, w2⟩ := open_int Try.underlying5 (hval 2 5 v2 rfl rfl) h2
  have shut : ∀ W', Below W.heap.size W W' → DataW.TrodAll enc Try.prog W' 0 (fun b => decide (b < W.heap.size)) true [5, 44, 5] [.int .u8 a0, .int .u16 a1, .int .u8 a2] [.lit (.int .u8 a0), .lit (.int .u16 a1), .lit (.int .u8 a2)] ([] ++ ([] ++ ([] ++ []))) := fun W' bel =>
    (trodAll_cons_mk (shut_int Try.underlying5 w0) (trodAll_cons_mk (shut_int Try.underlying44 w1) (trodAll_cons_mk (shut_int Try.underlying5 w2) trodAll_mk0)))
  clear hA0 hval0
  refine (walk W a0 w0 a1 w1 a2 w2).mono fun e W' ⟨he, bel⟩ => ?_
  subst he
  simp only [List.append_nil] at hW' shut
  exact ⟨_, rfl, _, _, _, [], [], [], hW', trodAll_mk1 (shut_bool Try.underlying4 _), shut W' bel, rfl, bel.frame _, fun h => by cases h⟩

theorem over : Rows.indexHomeRow.holds Try.pinned (OpenSpec.ofChange Rows.indexHomeSpec) :=
  OpenClaim.holds_of_wide 7 Try.f7 rfl rfl rfl rfl rfl rfl rfl ⟨rfl, rfl, rfl, rfl, rfl⟩ rfl rfl rfl rfl rfl (by kernel_rfl) Try.func7 (by kernel_rfl)
    (of_decide_eq_true (by kernel_rfl)) (by unfold Func.isWrapper; first | (rw [if_pos (by decide +kernel)]; kernel_rfl) | (rw [if_neg (by decide +kernel)]; exact ⟨rfl, rfl⟩))
    (fun os started H enc _ => lifted os started H enc)

theorem indexHome_holds : Rows.IndexHomeSaid := over
#print axioms indexHome_holds
end Go.Proofs.Ytajphhalneaihaa.indexHome
