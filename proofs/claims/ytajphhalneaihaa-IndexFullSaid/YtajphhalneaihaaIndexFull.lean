/- Proved: the statement IndexFull of layer 5, for every size, first key and step, on no condition. -/
import Derived.Test.YtajphhalneaihaaRows
import Derived.WalkKit
import Derived.ProofKit
import Derived.OpenShut
import Derived.Below
import Derived.Test.YtajphhalneaihaaArgs
import Derived.Test.YtajphhalneaihaaActs5
namespace Go.Proofs.Ytajphhalneaihaa.indexFull
open Go.ChangeShapes Go.WideShapes Go.ChangeAt Go.RowKit
set_option linter.unusedVariables false

theorem own : ownKnob Try.prog.godebug = none := by kernel_rfl
theorem laidOut : laidOutB Try.prog = true := by kernel_rfl

/-- m keys lie there, each step by step behind the other, with these numbers -/
structure FullAt (ps : List Pl) (N m : Nat) (f B : Int) (v : Nat → Int) : Prop where
  good : Good ps
  len : ps.length = N
  cnt : cnt ps = m
  mem : ∀ q : Pl, q.taken = true → (q ∈ ps ↔ ∃ j : Nat, j < m ∧ q.key = f + j * B ∧ q.n = v j)
theorem inj_ {f B : Int} (hB : 1 ≤ B) {i j : Nat} (h : f + i * B = f + j * B) : i = j := by
  have : (i : Int) * B = j * B := by omega
  have := Int.eq_of_mul_eq_mul_right (by omega) this
  omega
theorem FullAt.start {N : Nat} (h : 0 < N) (f B : Int) (v : Nat → Int) : FullAt (fresh N) N 0 f B v :=
  ⟨good_fresh h, fresh_len N, cnt_fresh N, fun q hq => ⟨(fun m => by
    obtain ⟨i, hi, e⟩ := mem_at.1 m
    rw [at_fresh] at e
    rw [← e] at hq
    cases hq), (fun ⟨j, hj, _⟩ => by omega)⟩⟩
theorem FullAt.has {ps : List Pl} {N m : Nat} {f B : Int} {v : Nat → Int} (h : FullAt ps N m f B v) (hB : 1 ≤ B) {j : Nat} (hj : j < m) : hasP ps (f + j * B) = true ∧ numP ps (f + j * B) = v j :=
  (h.good.get _).2.2 (v j) ((h.mem ⟨true, f + j * B, v j⟩ rfl).2 ⟨j, hj, rfl, rfl⟩)
theorem FullAt.hasnt {ps : List Pl} {N m : Nat} {f B : Int} {v : Nat → Int} (h : FullAt ps N m f B v) (hB : 1 ≤ B) {j : Nat} (hj : m ≤ j) : hasP ps (f + j * B) = false := by
  cases e : hasP ps (f + j * B) with
  | false => rfl
  | true =>
    obtain ⟨i, hi, e1, _⟩ := (h.mem _ rfl).1 ((h.good.get _).1 e)
    have := inj_ hB e1
    omega
theorem FullAt.put {ps : List Pl} {N m : Nat} {f B : Int} {v : Nat → Int} (h : FullAt ps N m f B v) (hB : 1 ≤ B) {j : Nat} (hj : j ≤ m) (hm : j = m → m + 1 < N) (n : Int) (h0 : 0 ≤ f + j * B) (h1 : f + j * B ≤ 1048576) :
    (putP ps (f + j * B) n).2 = 0 ∧ FullAt (putP ps (f + j * B) n).1 N (if j = m then m + 1 else m) f B (fun i => if i = j then n else v i) := by
  obtain ⟨g, mm⟩ := good_put h.good (f + j * B) n
  have e : putP ps (f + j * B) n = (ps.set (findP ps (f + j * B)) ⟨true, f + j * B, n⟩, 0) := by
    unfold putP
    rw [if_neg (by omega), if_neg ?_]
    rintro ⟨t, c⟩
    rw [h.cnt, h.len] at c
    by_cases q : j = m
    · have := hm q
      omega
    · have := (h.has hB (show j < m by omega)).1
      unfold hasP at this
      rw [this] at t
      cases t
  have e2 : (putP ps (f + j * B) n).2 = 0 := by rw [e]
  refine ⟨e2, g, by rw [put_len, h.len], ?_, fun q hq => ?_⟩
  · rw [e]
    have lt := findP_lt (f + j * B) h.good.gap
    by_cases q : j = m
    · rw [if_pos q, cnt_new lt (by have := h.hasnt hB (show m ≤ j by omega); exact this) rfl, h.cnt]
    · rw [if_neg q, cnt_over lt (h.has hB (show j < m by omega)).1 rfl, h.cnt]
  · rw [mm q hq, h.mem q hq, e2]
    constructor
    · rintro (⟨_, rfl⟩ | ⟨⟨i, hi, e3, e4⟩, ne⟩)
      · exact ⟨j, by split <;> omega, rfl, by simp⟩
      · have : i ≠ j := fun c => ne (by rw [e3, c])
        exact ⟨i, by split <;> omega, e3, by rw [if_neg this]; exact e4⟩
    · rintro ⟨i, hi, e3, e4⟩
      by_cases c : i = j
      · subst c
        rw [if_pos rfl] at e4
        refine .inl ⟨rfl, ?_⟩
        obtain ⟨x, y, z⟩ := q
        simp only at hq e3 e4
        rw [hq, e3, e4]
      · rw [if_neg c] at e4
        refine .inr ⟨⟨i, ?_, e3, e4⟩, fun e5 => c (inj_ hB (e3.symm.trans e5))⟩
        split at hi <;> omega
theorem FullAt.no {ps : List Pl} {N m : Nat} {f B : Int} {v : Nat → Int} (h : FullAt ps N m f B v) (hB : 1 ≤ B) (hm : m + 1 = N) (n : Int) (h0 : 0 ≤ f + m * B) (h1 : f + m * B ≤ 1048576) :
    putP ps (f + m * B) n = (ps, 2) := by
  unfold putP
  rw [if_neg (by omega), if_pos ⟨h.hasnt hB (Nat.le_refl _), by rw [h.cnt, h.len]; exact hm⟩]
theorem FullAt.same {ps : List Pl} {N m : Nat} {f B : Int} {v u : Nat → Int} (h : FullAt ps N m f B v) (e : ∀ j, j < m → v j = u j) : FullAt ps N m f B u :=
  ⟨h.good, h.len, h.cnt, fun q hq => (h.mem q hq).trans ⟨fun ⟨j, hj, a, b⟩ => ⟨j, hj, a, by rw [← e j hj]; exact b⟩, fun ⟨j, hj, a, b⟩ => ⟨j, hj, a, by rw [e j hj]; exact b⟩⟩⟩
theorem mul_bd {k : Nat} {B : Int} (hk : k ≤ 256) (h1 : 1 ≤ B) (h2 : B ≤ 256) : 0 ≤ (k : Int) * B ∧ (k : Int) * B ≤ 65536 := by
  refine ⟨Int.mul_nonneg (by omega) (by omega), ?_⟩
  have a1 : (k : Int) * B ≤ 256 * B := Int.mul_le_mul_of_nonneg_right (by omega) (by omega)
  omega

set_option maxHeartbeats 8000000 in
set_option maxRecDepth 100000 in
theorem walk (w : World) (a : Int) (wa : (Lit.int .u8 a).wf = true) (f : Int) (wf : (Lit.int .u16 f).wf = true) (s : Int) (ws : (Lit.int .u8 s).wf = true) :
    Calls Try.prog 5 #[.int .u8 a, .int .u16 f, .int .u8 s] w fun e w' => e = .returned (.bool true) ∧ Below w.heap.size w w' := by
  obtain ⟨la, ua⟩ := bd_u8 wa
  obtain ⟨lf, uf⟩ := bd_u16 wf
  obtain ⟨ls, us⟩ := bd_u8 ws
  clear wa wf ws
  obtain ⟨P, hP, pw⟩ := size_of a la
  obtain ⟨p2, p256⟩ := pw.le
  go_enter Try.func5, Try.ntmps5
  go_wp2_with fail
  (with_reducible refine (awake_any _).mono ?_)
  rintro e w1 ⟨rfl, b1⟩
  have B1 := Lib.hid b1
  clear b1
  go_wp2_with fail
  rw [hP]
  clear hP
  (with_reducible refine (new_yes P _ pw).mono ?_)
  rintro e w2 ⟨p, b, rfl, h, kp, kb, o⟩
  have H2 := Lib.hid h
  have B2 := Lib.hid (Only.below_to B1.out o (Nat.le_refl _) (fun _ _ s => s))
  have kb' : w.heap.size ≤ b := Nat.le_trans B1.out.size kb
  have kp' : w.heap.size ≤ p := Nat.le_trans B1.out.size kp
  clear h o kp kb B1
  go_wp2_with fail
  go_loopw [11] (fun i wr => ∃ (k : Nat) (ps : List Pl), k + 1 ≤ P ∧ i = .int .i64 k ∧ Ix wr p b ps ∧ FullAt ps P k f (1 + s) (fun j => j) ∧ Below w.heap.size w wr) (fun i _ => P - (intOf i).toNat)
  case atStart => exact ⟨0, fresh P, by omega, rfl, H2.out, FullAt.start (by omega) _ _ _, B2.out⟩
  case round =>
    obtain ⟨k, ps, hk, rfl, h, hF, bl⟩ := hrel
    have H := Lib.hid h
    have HF := Lib.hid hF
    have B := Lib.hid bl
    clear h hF bl
    obtain ⟨m0, m1⟩ := mul_bd (k := k) (B := 1 + s) (by omega) (by omega) (by omega)
    by_cases hlt : k < P - 1
    · have t1 : (k : Int) < (P : Int) - 1 := by omega
      obtain ⟨e1, F1⟩ := HF.out.put (j := k) (by omega) (Nat.le_refl _) (fun _ => by omega) k (by omega) (by omega)
      have PA := put_any p b ps (f + k * (1 + s)) k wr H.out HF.out.good
      rw [e1] at PA
      have PA := Lib.hid PA
      rw [if_pos rfl] at F1
      have F1 := Lib.hid F1
      clear e1
      go_wp2_with fail
      (with_reducible refine (PA.out).mono ?_)
      rintro e w3 ⟨rfl, h3, o3⟩
      go_wp2_with fail
      go_roundw
      case rel => exact ⟨k + 1, _, by omega, by go_num, h3, F1.out.same (fun j hj => by split <;> rename_i c <;> simp [c]), Only.below_to B.out o3 (Nat.le_refl _) (fun i hi q => by rcases q with q | q <;> omega)⟩
      case measure => simp [intOf]; omega
    · have ek : ((k : Nat) : Int) = (P : Int) - 1 := by omega
      have e1 := HF.out.no (by omega) (by omega) 1 (by omega) (by omega)
      have PA := put_any p b ps (f + k * (1 + s)) 1 wr H.out HF.out.good
      rw [e1] at PA
      have KN := Lib.hid (show k + 1 = P by omega)
      have HN := Lib.hid (HF.out.hasnt (by omega) (Nat.le_refl _))
      have GA := fun W (h : Ix W p b ps) => get_any p b ps (f + k * (1 + s)) W h HF.out.good
      rw [ek] at PA m0 m1
      have PA := Lib.hid PA
      have t1 : decide ((k : Int) < (P : Int) - 1) = false := by simp; omega
      have t2 : (((k : Nat) : Int) != (P : Int) - 1) = false := by simp; omega
      clear e1 hlt hk GA
      have EK := Lib.hid ek
      clear ek
      go_wp2_with fail
      (with_reducible refine (PA.out).mono ?_)
      rintro e w3 ⟨rfl, h3, o3⟩
      have H3 := Lib.hid h3
      have B3 := Lib.hid (Only.below_to B.out o3 (Nat.le_refl _) (fun i hi q => by rcases q with q | q <;> omega))
      have LA := len_any p b ps w3 h3
      rw [HF.out.cnt] at LA
      have LA := Lib.hid LA
      clear h3 o3 H B
      go_wp2_with fail
      (with_reducible refine (LA.out).mono ?_)
      rintro e w' ⟨rfl, rfl⟩
      go_wp2_with fail
      go_loopw [12] (fun i wr => ∃ (j : Nat) (qs : List Pl), j ≤ k ∧ i = .int .i64 j ∧ Ix wr p b qs ∧ FullAt qs P k f (1 + s) (fun i => if i < j then (i : Int) + 7 else i) ∧ Below w.heap.size w wr) (fun i _ => P - (intOf i).toNat)
      case atStart => exact ⟨0, ps, Nat.zero_le _, rfl, H3.out, HF.out.same (fun j hj => by simp), B3.out⟩
      case round =>
        obtain ⟨j, qs, hj, rfl, h, hG, bl⟩ := hrel
        have H4 := Lib.hid h
        have HG := Lib.hid hG
        have B4 := Lib.hid bl
        clear h hG bl H3 B3 LA PA HF
        obtain ⟨n0, n1⟩ := mul_bd (k := j) (B := 1 + s) (by have := KN.out; omega) (by omega) (by omega)
        have kn := KN.out
        by_cases hlt : j < k
        · have t3 : (j : Int) < (P : Int) - 1 := by omega
          have gn := HG.out.has (by omega) hlt
          have GA := get_any p b qs (f + j * (1 + s)) wr H4.out HG.out.good
          rw [gn.1, gn.2, if_neg (by omega)] at GA
          have GA := Lib.hid GA
          obtain ⟨e1, F1⟩ := HG.out.put (j := j) (by omega) (by omega) (fun q => by omega) ((j : Int) + 7) (by omega) (by omega)
          have PA := fun W (h : Ix W p b qs) => put_any p b qs (f + j * (1 + s)) ((j : Int) + 7) W h HG.out.good
          rw [e1] at PA
          have PA := Lib.hid PA
          rw [if_neg (by omega)] at F1
          have F1 := Lib.hid F1
          clear e1 gn kn
          go_wp2_with fail
          (with_reducible refine (GA.out).mono ?_)
          rintro e w5 ⟨rfl, o5⟩
          have H5 := Lib.hid (H4.out.still o5)
          have B5 := Lib.hid (Only.below_to B4.out o5 (Nat.le_refl _) (fun _ _ s => s))
          clear o5 H4 B4
          go_wp2_with fail
          (with_reducible refine (PA.out _ H5.out).mono ?_)
          rintro e w6 ⟨rfl, h6, o6⟩
          go_wp2_with fail
          go_roundw
          case rel => exact ⟨j + 1, _, by omega, by go_num, h6, F1.out.same (fun i hi => by
            by_cases c : i = j
            · subst c; simp
            · rw [if_neg c]
              by_cases d : i < j
              · rw [if_pos d, if_pos (by omega)]
              · rw [if_neg d, if_neg (by omega)]), Only.below_to B5.out o6 (Nat.le_refl _) (fun i hi q => by rcases q with q | q <;> omega)⟩
          case measure => simp [intOf]; omega
        · have ej : j = k := by omega
          subst ej
          have t3 : decide ((j : Int) < (P : Int) - 1) = false := by simp; omega
          have gn := HG.out.has (by omega) (show 0 < j by omega)
          have GA := get_any p b qs f wr H4.out HG.out.good
          simp only [Int.natCast_zero, Int.zero_mul, Int.add_zero] at gn
          rw [gn.1, gn.2, if_pos (by omega)] at GA
          have GA := Lib.hid GA
          have hn := HG.out.hasnt (by omega) (Nat.le_refl j)
          have hz : numP qs (f + j * (1 + s)) = 0 := (HG.out.good.get _).2.1 hn
          have GB := fun W (h : Ix W p b qs) => get_any p b qs (f + j * (1 + s)) W h HG.out.good
          rw [hn, hz, EK.out] at GB
          have GB := Lib.hid GB
          clear gn hn hz hlt kn t1
          go_wp2_with fail
          (with_reducible refine (GA.out).mono ?_)
          rintro e w5 ⟨rfl, o5⟩
          have H5 := Lib.hid (H4.out.still o5)
          have B5 := Lib.hid (Only.below_to B4.out o5 (Nat.le_refl _) (fun _ _ s => s))
          clear o5 H4 B4
          go_wp2_with fail
          (with_reducible refine (GB.out _ H5.out).mono ?_)
          rintro e w6 ⟨rfl, o6⟩
          go_wp2_with fail
          go_ret
          exact ⟨rfl, Only.below_to B5.out o6 (Nat.le_refl _) (fun _ _ s => s)⟩


set_option maxRecDepth 100000 in
theorem lifted (os : Os) (started : os.Started) (H : Type) (enc : TypeId × Value → H) :
    ReturnsInHanded {} Try.checked os 5 .any (Rows.indexFullSpec.pre6 enc Try.prog Try.f5 Rows.indexFullRow.domain false) (Rows.indexFullSpec.post enc Try.prog Try.f5 false true false false) := by
  refine returnsInHanded_of_change (C := Try.checked) own started (by kernel_rfl) Try.func5
    (ChangeSpec.witness6 (enc := enc) (C := Try.checked) false ⟨#[], #[.int .u8 0, .int .u16 0, .int .u8 0], []⟩ 8 (by kernel_rfl) (by kernel_rfl) (by kernel_rfl) (by kernel_rfl)) ?_
  intro W base args ds gs before hval0 hW hcnd _
  have hval : ∀ (j : Nat) t v, Try.f5.params[j]? = some t → args[j]? = some v → Value.okWide Try.prog W .any base t v := hval0
  have hW' := hW
  obtain ⟨p, q, hA0, hV, rfl, hfz, hnd⟩ := hW
  have hA : DataW.TrodAll enc Try.prog W 0 (fun _ => true) true Try.f5.params.toList args.toList ds p := hA0
  rw [Try.params5] at hA hval
  obtain ⟨v0, vs0, d0, ds0, p0, q0, hargs, rfl, rfl, h0, r0⟩ := trodAll_cons hA
  obtain ⟨v1, vs1, d1, ds1, p1, q1, rfl, rfl, rfl, h1, r1⟩ := trodAll_cons r0
  obtain ⟨v2, vs2, d2, ds2, p2, q2, rfl, rfl, rfl, h2, r2⟩ := trodAll_cons r1
  obtain ⟨rfl, rfl, rfl⟩ := trodAll_nil r2
  obtain rfl : args = #[v0, v1, v2] := by cases args; simp_all
  obtain ⟨rfl, rfl⟩ := trodVars_none hV
  obtain ⟨a0, rfl, rfl, rfl, w0⟩ := open_int Try.underlying5 (hval 0 5 v0 rfl rfl) h0
  obtain ⟨a1, rfl, rfl, rfl, w1⟩ := open_int Try.underlying44 (hval 1 44 v1 rfl rfl) h1
  obtain ⟨a2, rfl, rfl, rfl, w2⟩ := open_int Try.underlying5 (hval 2 5 v2 rfl rfl) h2
  have shut : ∀ W', Below W.heap.size W W' → DataW.TrodAll enc Try.prog W' 0 (fun b => decide (b < W.heap.size)) true [5, 44, 5] [.int .u8 a0, .int .u16 a1, .int .u8 a2] [.lit (.int .u8 a0), .lit (.int .u16 a1), .lit (.int .u8 a2)] ([] ++ ([] ++ ([] ++ []))) := fun W' bel =>
    (trodAll_cons_mk (shut_int Try.underlying5 w0) (trodAll_cons_mk (shut_int Try.underlying44 w1) (trodAll_cons_mk (shut_int Try.underlying5 w2) trodAll_mk0)))
  clear hA0 hval0
  refine (walk W a0 w0 a1 w1 a2 w2).mono fun e W' ⟨he, bel⟩ => ?_
  subst he
  simp only [List.append_nil] at hW' shut
  exact ⟨_, rfl, _, _, _, [], [], [], hW', trodAll_mk1 (shut_bool Try.underlying4 _), shut W' bel, rfl, bel.frame _, fun h => by cases h⟩

theorem over : Rows.indexFullRow.holds Try.pinned (OpenSpec.ofChange Rows.indexFullSpec) :=
  OpenClaim.holds_of_wide 5 Try.f5 rfl rfl rfl rfl rfl rfl rfl ⟨rfl, rfl, rfl, rfl, rfl⟩ rfl rfl rfl rfl rfl (by kernel_rfl) Try.func5 (by kernel_rfl)
    (of_decide_eq_true (by kernel_rfl)) (by unfold Func.isWrapper; first | (rw [if_pos (by decide +kernel)]; kernel_rfl) | (rw [if_neg (by decide +kernel)]; exact ⟨rfl, rfl⟩))
    (fun os started H enc _ => lifted os started H enc)

theorem indexFull_holds : Rows.IndexFullSaid := over
#print axioms indexFull_holds
end Go.Proofs.Ytajphhalneaihaa.indexFull
