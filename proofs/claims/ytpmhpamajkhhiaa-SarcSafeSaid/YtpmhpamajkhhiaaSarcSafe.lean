/- Proved: the statement SarcSafe of layer 7, for every count of frames, every bottom and row of steps, on no condition. -/
import Derived.Test.YtpmhpamajkhhiaaRows
import Derived.WalkKit
import Derived.ProofKit
import Derived.OpenShut
import Derived.Below
import Derived.Test.YtpmhpamajkhhiaaArgs
import Derived.Test.YtpmhpamajkhhiaaSafe7
namespace Go.Proofs.Ytpmhpamajkhhiaa.sarcSafe
open Go.ChangeShapes Go.WideShapes Go.ChangeAt Go.RowKit
set_option linter.unusedVariables false

theorem own : ownKnob Try.prog.godebug = none := by kernel_rfl
theorem laidOut : laidOutB Try.prog = true := by kernel_rfl

set_option maxHeartbeats 4000000 in
set_option maxRecDepth 100000 in
theorem walk (w : World) (a : Int) (wa : (Lit.int .u8 a).wf = true) (bo : Int) (wb : (Lit.int .u8 bo).wf = true) (A : Option Addr) (len cap : Nat) (xs : List Act1) (hmax : len ≤ maxLen) (hlen : xs.length = len) (hold : Holds w A 3 Act1.cells xs) (_ : ∀ a ∈ xs, True) :
    Calls Try.prog 4 #[.int .u8 a, .int .u8 bo, .slice A len cap] w fun e w' => e = .returned (.bool true) ∧ Below w.heap.size w w' := by
  obtain ⟨la, ua⟩ := bd_u8 wa
  obtain ⟨lb0, ub0⟩ := bd_u8 wb
  clear wa wb
  unfold maxLen at hmax
  have HL := Lib.hid hlen
  have HO := Lib.hid hold
  clear hlen hold
  obtain ⟨N, hN, n1, n64⟩ := count_of a la
  obtain ⟨T, hT, t1, tN⟩ := bot_of bo N lb0 n1
  have nz : ((N : Int) == 0) = false := by simp; omega
  have nz2 : (N : Int) ≠ 0 := by omega
  have nz3 : ¬ N = 0 := by omega
  have NW := Lib.hid (fun w => snew_yes N T w t1 tN n64)
  go_enter Try.func4, Try.ntmps4
  go_wp2_with fail
  (with_reducible refine (awake_any _).mono ?_)
  rintro e w1 ⟨rfl, b1⟩
  have B1 := Lib.hid b1
  clear b1
  go_wp2_with fail
  (with_reducible refine (NW.out _).mono ?_)
  rintro e w2 ⟨P, p, b, rfl, h, lP, lp, lb, o⟩
  have H2 := Lib.hid h
  have B2 := Lib.hid (Only.below_to B1.out o (Nat.le_refl _) (fun _ _ s => s))
  have lP' : w.heap.size ≤ P := Nat.le_trans B1.out.size lP
  have lb' : w.heap.size ≤ b := Nat.le_trans B1.out.size lb
  clear h o lP lp lb B1
  go_wp2_with fail
  go_loopw [10] (fun i wr => ∃ (j : Nat) (c : Sc), j ≤ len ∧ j ≤ 150 ∧ i = .int .i64 j ∧ SLies wr P p b c ∧ c.s.n = N ∧ c.us.length ≤ j ∧ Below w.heap.size w wr) (fun i _ => len - (intOf i).toNat)
  case atStart => exact ⟨0, newSc N T, Nat.zero_le _, Nat.zero_le _, rfl, H2.out, rfl, Nat.zero_le _, B2.out⟩
  case round =>
    obtain ⟨j, c, hj, hj2, rfl, h, cn, us, bl⟩ := hrel
    clear H2 B2
    have H := Lib.hid h
    have B := Lib.hid bl
    have CN := Lib.hid cn
    clear h bl cn
    have us1 : c.us.length < 1000000 := by omega
    have t12 : (j < len ∧ j < 150) ∨ (j < len ∧ 150 ≤ j) ∨ len ≤ j := by omega
    rcases t12 with ⟨t1, t2⟩ | t1
    · obtain ⟨act, hact⟩ : ∃ act, xs[j]? = some act := ⟨_, List.getElem?_eq_getElem (by rw [HL.out]; exact t1)⟩
      obtain ⟨sb, so, hA, hsb, c0, c1, c2⟩ := act_at HO.out B.out hact
      subst hA
      have AC := Lib.hid (act_more HO.out hact)
      obtain ⟨d, hd⟩ : ∃ d, stepS c act = d := ⟨_, rfl⟩
      have DF := Lib.hid (show d.Fine from hd ▸ stepS_fine H.out.fine act)
      have DN := Lib.hid (show d.s.n = N from hd ▸ (stepS_n H.out.fine act).1.trans CN.out)
      have us2 : d.us.length ≤ c.us.length + 1 := hd ▸ stepS_us H.out.fine act
      have PO := Lib.hid (pol_any P p b c wr H.out)
      have lt0 := H.out.raw.lt
      clear hact c0 c1 c2
      go_wp2_with fail
      (with_reducible refine (PO.out).mono ?_)
      rintro e w4 ⟨a0, n0, k0, a1, n1', k1, a2, n2', k2, rfl, s0, s1, s2, o4⟩
      have B4 := Lib.hid (below_on7 B.out o4)
      have H4 := Lib.hid (H.out.on o4)
      have e0 := own_len s0
      have e1 := own_len s1
      have e2 := own_len s2
      rw [ints_len] at e0 e1 e2
      subst e0 e1 e2
      have S0 := Lib.hid s0
      have S1 := Lib.hid s1
      have S2 := Lib.hid s2
      obtain ⟨c0, c1, c2⟩ := AC.out _ (Only.below_to B4.out ((Only.refl none_ w4).alloc (.cells #[.slice a0 c.s.l0.length k0, .slice a1 c.s.l1.length k1, .slice a2 c.s.heldL.length k2, .int .i64 c.want, .int .u64 c.miss, .int .u64 c.hits] 39)) (Nat.le_refl _) (fun _ _ s => s))
      have f4 := all_le H.out.fine.s
      rw [CN.out] at f4
      have f5 := held_len7 H.out.fine.s
      have g1 : w4.heap.size ≤ w4.heap.size + 1 := Nat.le_succ _
      have lw := o4.size
      clear s0 s1 s2 o4 PO
      have oa := ((Only.refl none_ w4).alloc (.cells #[.slice a0 c.s.l0.length k0, .slice a1 c.s.l1.length k1, .slice a2 c.s.heldL.length k2, .int .i64 c.want, .int .u64 c.miss, .int .u64 c.hits] 39)).alloc (.cells #[.int .i64 act.kind, .int .i64 act.frame, .int .i64 act.list] 33)
      have rp := (Row.fresh w4 39 #[.slice a0 c.s.l0.length k0, .slice a1 c.s.l1.length k1, .slice a2 c.s.heldL.length k2, .int .i64 c.want, .int .u64 c.miss, .int .u64 c.hits]).alloc (.cells #[.int .i64 act.kind, .int .i64 act.frame, .int .i64 act.list] 33)
      have rc := Row.fresh (w4.alloc (.cells #[.slice a0 c.s.l0.length k0, .slice a1 c.s.l1.length k1, .slice a2 c.s.heldL.length k2, .int .i64 c.want, .int .u64 c.miss, .int .u64 c.hits] 39)) 33 #[.int .i64 act.kind, .int .i64 act.frame, .int .i64 act.list]
      simp only [World.size_alloc] at rc
      have RP := Lib.hid rp
      have RC := Lib.hid rc
      have OA := Lib.hid oa
      clear rp rc oa
      by_cases hk : act.kind = 5
      · obtain ⟨kd, fr, li⟩ := act
        simp only at hk
        subst hk
        have hd2 : c.victimS = d := hd
        have V0 := Lib.hid (fun W (hW : SLies W P p b c) => victim_any P p b c W hW us1)
        have LVI := Lib.hid (fun x e => victim_finds H.out.fine (x := x) e)
        have LVS := Lib.hid (fun x e => victim_some H.out.fine (x := x) e)
        have LVN := Lib.hid (fun e => victim_none H.out.fine e)
        simp only [hd2] at V0
        clear hd hd2
        cases hv : c.victim with
        | none =>
          rw [hv] at V0
          have ln := LVN.out hv
          have dl : decide ((c.s.heldL.length : Int) < (c.s.l0.length : Int) + (c.s.l1.length : Int)) = false := decide_eq_false (by omega)
          simp only [show lastV none = .tuple #[.int .i64 0, .bool false] from rfl] at V0
          clear hv LVI LVS LVN
          go_wp2_with fail
          (with_reducible refine (V0.out _ (H4.out.still OA.out)).mono ?_)
          rintro e v3 ⟨rfl, h3, o3⟩
          have H3 := Lib.hid h3
          have B3 := Lib.hid (below_set (Only.below_to B4.out OA.out (Nat.le_refl _) (fun _ _ s => s)) o3 lP' lb')
          have rp := o3.row RP.out (by unfold two; omega)
          have q0 : v3.cell? ⟨w4.heap.size, 0, none⟩ = some (.slice a0 c.s.l0.length k0) := (rp.cell 0).trans rfl
          have q1 : v3.cell? ⟨w4.heap.size, 1, none⟩ = some (.slice a1 c.s.l1.length k1) := (rp.cell 1).trans rfl
          have q2 : v3.cell? ⟨w4.heap.size, 2, none⟩ = some (.slice a2 c.s.heldL.length k2) := (rp.cell 2).trans rfl
          clear h3 o3 rp c0 c1 c2
          have PT := Lib.hid (pol_any P p b d _ H3.out)
          have RMT := Lib.hid (fun W (hW : SLies W P p b d) => room_any P p b d W hW)
          have RE : (d.room : Int) = (d.s.l0.length : Int) + (d.s.l1.length : Int) - (d.s.heldL.length : Int) := by
            have := held_room DF.out
            unfold Sc.room
            omega
          have f1 := DF.out.want
          have f2 := DF.out.miss
          have f3 := DF.out.hits
          have f4 := all_le DF.out.s
          have f5 := held_room DF.out
          rw [DN.out] at f1 f4
          go_wp2_with fail
          (with_reducible refine (PT.out).mono ?_)
          rintro e v5 ⟨a0', n0', k0', a1', n1', k1', a2', n2', k2', rfl, s0, s1, s2, o5⟩
          have e0 := own_len s0
          have e1 := own_len s1
          have e2 := own_len s2
          rw [ints_len] at e0 e1 e2
          subst e0 e1 e2
          have B5 := Lib.hid (below_on7 B3.out o5)
          have H5 := Lib.hid (H3.out.on o5)
          clear s0 s1 s2 o5 PT
          obtain ⟨rm, erm⟩ : ∃ rm : Nat, d.room = rm := ⟨_, rfl⟩
          rw [erm] at RE
          simp only [erm] at RMT
          clear erm
          generalize d.want = xw at *
          generalize d.miss = xm at *
          generalize d.hits = xx at *
          generalize d.s.l0.length = x0 at *
          generalize d.s.l1.length = x1 at *
          generalize d.s.heldL.length = xh at *
          have oa := (Only.refl none_ v5).alloc (.cells #[.slice a0' x0 k0', .slice a1' x1 k1', .slice a2' xh k2', .int .i64 xw, .int .u64 xm, .int .u64 xx] 39)
          have ra := Row.fresh v5 39 #[.slice a0' x0 k0', .slice a1' x1 k1', .slice a2' xh k2', .int .i64 xw, .int .u64 xm, .int .u64 xx]
          go_wp2_with fail
          generalize (v5.alloc (.cells #[.slice a0' x0 k0', .slice a1' x1 k1', .slice a2' xh k2', .int .i64 xw, .int .u64 xm, .int .u64 xx] 39)) = v6 at *
          have B6 := Lib.hid (Only.below_to B5.out oa (Nat.le_refl _) (fun _ _ s => s))
          have H6' := Lib.hid (H5.out.still oa)
          have KS := Lib.hid (show ∀ w', Only none_ v6 w' → w'.cell? ⟨v5.heap.size, 0, none⟩ = some (.slice a0' x0 k0') ∧ w'.cell? ⟨v5.heap.size, 1, none⟩ = some (.slice a1' x1 k1') ∧ w'.cell? ⟨v5.heap.size, 2, none⟩ = some (.slice a2' xh k2') ∧ w'.cell? ⟨v5.heap.size, 3, none⟩ = some (.int .i64 xw) ∧ w'.cell? ⟨v5.heap.size, 4, none⟩ = some (.int .u64 xm) ∧ w'.cell? ⟨v5.heap.size, 5, none⟩ = some (.int .u64 xx) from fun w' o => And.intro (o.cell ((ra.cell 0).trans rfl) (fun s => s)) (And.intro (o.cell ((ra.cell 1).trans rfl) (fun s => s)) (And.intro (o.cell ((ra.cell 2).trans rfl) (fun s => s)) (And.intro (o.cell ((ra.cell 3).trans rfl) (fun s => s)) (And.intro (o.cell ((ra.cell 4).trans rfl) (fun s => s)) (o.cell ((ra.cell 5).trans rfl) (fun s => s)))))))
          have OD := Lib.hid ((Only.refl none_ v6).drew)
          have d1 : decide ((xw : Int) < 0) = false := decide_eq_false (by omega)
          have d2 : decide ((N : Int) < (xw : Int)) = false := decide_eq_false (by omega)
          have d3 : decide ((64 : Int) ≤ (xm : Int)) = false := decide_eq_false (by omega)
          have d4 : decide ((64 : Int) ≤ (xx : Int)) = false := decide_eq_false (by omega)
          have v1 : IntKind.i64.wrap ((x0 : Int) + (x1 : Int)) = (x0 : Int) + (x1 : Int) := by rw [IntKind.wrap_i64]; omega
          have v2 : IntKind.i64.wrap ((x0 : Int) + (x1 : Int) - (xh : Int)) = (x0 : Int) + (x1 : Int) - (xh : Int) := by rw [IntKind.wrap_i64]; omega
          have d5 : decide ((N : Int) < (x0 : Int) + (x1 : Int)) = false := decide_eq_false (by omega)
          have dn2 : decide (N < xw) = false := decide_eq_false (by omega)
          have dn3 : decide (64 ≤ xm) = false := decide_eq_false (by omega)
          have dn4 : decide (64 ≤ xx) = false := decide_eq_false (by omega)
          have dn5 : decide (N < x0 + x1) = false := decide_eq_false (by omega)
          have d6 : ((rm : Int) != (x0 : Int) + (x1 : Int) - (xh : Int)) = false := by simp; omega
          clear oa ra
          go_region_held3 (fun w' => w'.cell? ⟨v5.heap.size, 0, none⟩ = some (.slice a0' x0 k0') ∧ w'.cell? ⟨v5.heap.size, 1, none⟩ = some (.slice a1' x1 k1') ∧ w'.cell? ⟨v5.heap.size, 2, none⟩ = some (.slice a2' xh k2') ∧ w'.cell? ⟨v5.heap.size, 3, none⟩ = some (.int .i64 xw) ∧ w'.cell? ⟨v5.heap.size, 4, none⟩ = some (.int .u64 xm) ∧ w'.cell? ⟨v5.heap.size, 5, none⟩ = some (.int .u64 xx))
            (first
              | (with_reducible exact KS.out _ OB1.out)
              | (with_reducible exact KS.out _ OD.out)
              | fail)
            (first
              | (go_at_call 16; (with_reducible refine (RMT.out _ (H6'.out.still OD.out)).mono ?_); rintro e v7 ⟨rfl, p1⟩; have OB1 := Lib.hid (OD.out.same (below_only p1)))
              | fail)
          have B7 := Lib.hid (Only.below_to B6.out OB1.out (Nat.le_refl _) (fun _ _ s => s))
          have H7 := Lib.hid (H6'.out.still OB1.out)
          rename_i hHeld
          clear hHeld p1 KS OD RMT d1 d2 d3 d4 d5 dn2 dn3 dn4 dn5 v1 v2
          go_wp2_with fail
          go_roundw
          case rel => exact ⟨j + 1, d, by omega, by omega, by go_num, H7.out, DN.out, by omega, B7.out⟩
          case measure => simp [intOf]; omega
        | some x =>
          rw [hv] at V0
          have ln := LVS.out x hv
          obtain ⟨i1, i2⟩ := LVI.out x hv
          have dl : decide ((c.s.heldL.length : Int) < (c.s.l0.length : Int) + (c.s.l1.length : Int)) = true := decide_eq_true (by omega)
          simp only [show lastV (some x) = .tuple #[.int .i64 x, .bool true] from rfl] at V0
          clear hv LVI LVS LVN
          go_wp2_with fail
          (with_reducible refine (V0.out _ (H4.out.still OA.out)).mono ?_)
          rintro e v3 ⟨rfl, h3, o3⟩
          have H3 := Lib.hid h3
          have B3 := Lib.hid (below_set (Only.below_to B4.out OA.out (Nat.le_refl _) (fun _ _ s => s)) o3 lP' lb')
          have rp := o3.row RP.out (by unfold two; omega)
          have q0 : v3.cell? ⟨w4.heap.size, 0, none⟩ = some (.slice a0 c.s.l0.length k0) := (rp.cell 0).trans rfl
          have q1 : v3.cell? ⟨w4.heap.size, 1, none⟩ = some (.slice a1 c.s.l1.length k1) := (rp.cell 1).trans rfl
          have q2 : v3.cell? ⟨w4.heap.size, 2, none⟩ = some (.slice a2 c.s.heldL.length k2) := (rp.cell 2).trans rfl
          have lb1 := fine_len0 H.out.fine.s
          have lb2 := fine_len1 H.out.fine.s
          have K0 := (S0.out.still OA.out).keep o3 (fun g hg e => by have := (S0.out.base_le hg).1; unfold two at e; omega)
          have K1 := (S1.out.still OA.out).keep o3 (fun g hg e => by have := (S1.out.base_le hg).1; unfold two at e; omega)
          have K2 := (S2.out.still OA.out).keep o3 (fun g hg e => by have := (S2.out.base_le hg).1; unfold two at e; omega)
          have F2 := find_any _ _ (x : Int) v3 (Reads.of_owns K2) (by rw [ints_len]; omega)
          rw [i1] at F2
          replace F2 := Lib.hid F2
          have F0 := Lib.hid (find_any _ _ (x : Int) v3 (Reads.of_owns K0) (by rw [ints_len]; omega))
          have F1 := Lib.hid (find_any _ _ (x : Int) v3 (Reads.of_owns K1) (by rw [ints_len]; omega))
          generalize findI (ints c.s.l0) (x : Int) = y0 at *
          generalize findI (ints c.s.l1) (x : Int) = y1 at *
          clear h3 o3 rp c0 c1 c2 K0 K1 K2 i1
          have i3 : 0 ≤ y0 ∨ (y0 < 0 ∧ 0 ≤ y1) := by omega
          rcases i3 with i3 | ⟨i3, i4⟩
          · have dy : decide (y0 < 0) = false := decide_eq_false (by omega)
            go_wp2_with fail
            (with_reducible refine (F2.out).mono ?_)
            rintro e w' ⟨rfl, rfl⟩
            go_wp2_with fail
            (with_reducible refine (F0.out).mono ?_)
            rintro e w' ⟨rfl, rfl⟩
            have PT := Lib.hid (pol_any P p b d _ H3.out)
            have RMT := Lib.hid (fun W (hW : SLies W P p b d) => room_any P p b d W hW)
            have RE : (d.room : Int) = (d.s.l0.length : Int) + (d.s.l1.length : Int) - (d.s.heldL.length : Int) := by
              have := held_room DF.out
              unfold Sc.room
              omega
            have f1 := DF.out.want
            have f2 := DF.out.miss
            have f3 := DF.out.hits
            have f4 := all_le DF.out.s
            have f5 := held_room DF.out
            rw [DN.out] at f1 f4
            go_wp2_with fail
            (with_reducible refine (PT.out).mono ?_)
            rintro e v5 ⟨a0', n0', k0', a1', n1', k1', a2', n2', k2', rfl, s0, s1, s2, o5⟩
            have e0 := own_len s0
            have e1 := own_len s1
            have e2 := own_len s2
            rw [ints_len] at e0 e1 e2
            subst e0 e1 e2
            have B5 := Lib.hid (below_on7 B3.out o5)
            have H5 := Lib.hid (H3.out.on o5)
            clear s0 s1 s2 o5 PT
            obtain ⟨rm, erm⟩ : ∃ rm : Nat, d.room = rm := ⟨_, rfl⟩
            rw [erm] at RE
            simp only [erm] at RMT
            clear erm
            generalize d.want = xw at *
            generalize d.miss = xm at *
            generalize d.hits = xx at *
            generalize d.s.l0.length = x0 at *
            generalize d.s.l1.length = x1 at *
            generalize d.s.heldL.length = xh at *
            have oa := (Only.refl none_ v5).alloc (.cells #[.slice a0' x0 k0', .slice a1' x1 k1', .slice a2' xh k2', .int .i64 xw, .int .u64 xm, .int .u64 xx] 39)
            have ra := Row.fresh v5 39 #[.slice a0' x0 k0', .slice a1' x1 k1', .slice a2' xh k2', .int .i64 xw, .int .u64 xm, .int .u64 xx]
            go_wp2_with fail
            generalize (v5.alloc (.cells #[.slice a0' x0 k0', .slice a1' x1 k1', .slice a2' xh k2', .int .i64 xw, .int .u64 xm, .int .u64 xx] 39)) = v6 at *
            have B6 := Lib.hid (Only.below_to B5.out oa (Nat.le_refl _) (fun _ _ s => s))
            have H6' := Lib.hid (H5.out.still oa)
            have KS := Lib.hid (show ∀ w', Only none_ v6 w' → w'.cell? ⟨v5.heap.size, 0, none⟩ = some (.slice a0' x0 k0') ∧ w'.cell? ⟨v5.heap.size, 1, none⟩ = some (.slice a1' x1 k1') ∧ w'.cell? ⟨v5.heap.size, 2, none⟩ = some (.slice a2' xh k2') ∧ w'.cell? ⟨v5.heap.size, 3, none⟩ = some (.int .i64 xw) ∧ w'.cell? ⟨v5.heap.size, 4, none⟩ = some (.int .u64 xm) ∧ w'.cell? ⟨v5.heap.size, 5, none⟩ = some (.int .u64 xx) from fun w' o => And.intro (o.cell ((ra.cell 0).trans rfl) (fun s => s)) (And.intro (o.cell ((ra.cell 1).trans rfl) (fun s => s)) (And.intro (o.cell ((ra.cell 2).trans rfl) (fun s => s)) (And.intro (o.cell ((ra.cell 3).trans rfl) (fun s => s)) (And.intro (o.cell ((ra.cell 4).trans rfl) (fun s => s)) (o.cell ((ra.cell 5).trans rfl) (fun s => s)))))))
            have OD := Lib.hid ((Only.refl none_ v6).drew)
            have d1 : decide ((xw : Int) < 0) = false := decide_eq_false (by omega)
            have d2 : decide ((N : Int) < (xw : Int)) = false := decide_eq_false (by omega)
            have d3 : decide ((64 : Int) ≤ (xm : Int)) = false := decide_eq_false (by omega)
            have d4 : decide ((64 : Int) ≤ (xx : Int)) = false := decide_eq_false (by omega)
            have v1 : IntKind.i64.wrap ((x0 : Int) + (x1 : Int)) = (x0 : Int) + (x1 : Int) := by rw [IntKind.wrap_i64]; omega
            have v2 : IntKind.i64.wrap ((x0 : Int) + (x1 : Int) - (xh : Int)) = (x0 : Int) + (x1 : Int) - (xh : Int) := by rw [IntKind.wrap_i64]; omega
            have d5 : decide ((N : Int) < (x0 : Int) + (x1 : Int)) = false := decide_eq_false (by omega)
            have dn2 : decide (N < xw) = false := decide_eq_false (by omega)
            have dn3 : decide (64 ≤ xm) = false := decide_eq_false (by omega)
            have dn4 : decide (64 ≤ xx) = false := decide_eq_false (by omega)
            have dn5 : decide (N < x0 + x1) = false := decide_eq_false (by omega)
            have d6 : ((rm : Int) != (x0 : Int) + (x1 : Int) - (xh : Int)) = false := by simp; omega
            clear oa ra
            go_region_held3 (fun w' => w'.cell? ⟨v5.heap.size, 0, none⟩ = some (.slice a0' x0 k0') ∧ w'.cell? ⟨v5.heap.size, 1, none⟩ = some (.slice a1' x1 k1') ∧ w'.cell? ⟨v5.heap.size, 2, none⟩ = some (.slice a2' xh k2') ∧ w'.cell? ⟨v5.heap.size, 3, none⟩ = some (.int .i64 xw) ∧ w'.cell? ⟨v5.heap.size, 4, none⟩ = some (.int .u64 xm) ∧ w'.cell? ⟨v5.heap.size, 5, none⟩ = some (.int .u64 xx))
              (first
                | (with_reducible exact KS.out _ OB1.out)
                | (with_reducible exact KS.out _ OD.out)
                | fail)
              (first
                | (go_at_call 16; (with_reducible refine (RMT.out _ (H6'.out.still OD.out)).mono ?_); rintro e v7 ⟨rfl, p1⟩; have OB1 := Lib.hid (OD.out.same (below_only p1)))
                | fail)
            have B7 := Lib.hid (Only.below_to B6.out OB1.out (Nat.le_refl _) (fun _ _ s => s))
            have H7 := Lib.hid (H6'.out.still OB1.out)
            rename_i hHeld
            clear hHeld p1 KS OD RMT d1 d2 d3 d4 d5 dn2 dn3 dn4 dn5 v1 v2
            go_wp2_with fail
            go_roundw
            case rel => exact ⟨j + 1, d, by omega, by omega, by go_num, H7.out, DN.out, by omega, B7.out⟩
            case measure => simp [intOf]; omega
          · have dy : decide (y0 < 0) = true := decide_eq_true (by omega)
            have dy1 : decide (y1 < 0) = false := decide_eq_false (by omega)
            go_wp2_with fail
            (with_reducible refine (F2.out).mono ?_)
            rintro e w' ⟨rfl, rfl⟩
            go_wp2_with fail
            (with_reducible refine (F0.out).mono ?_)
            rintro e w' ⟨rfl, rfl⟩
            go_wp2_with fail
            (with_reducible refine (F1.out).mono ?_)
            rintro e w' ⟨rfl, rfl⟩
            have PT := Lib.hid (pol_any P p b d _ H3.out)
            have RMT := Lib.hid (fun W (hW : SLies W P p b d) => room_any P p b d W hW)
            have RE : (d.room : Int) = (d.s.l0.length : Int) + (d.s.l1.length : Int) - (d.s.heldL.length : Int) := by
              have := held_room DF.out
              unfold Sc.room
              omega
            have f1 := DF.out.want
            have f2 := DF.out.miss
            have f3 := DF.out.hits
            have f4 := all_le DF.out.s
            have f5 := held_room DF.out
            rw [DN.out] at f1 f4
            go_wp2_with fail
            (with_reducible refine (PT.out).mono ?_)
            rintro e v5 ⟨a0', n0', k0', a1', n1', k1', a2', n2', k2', rfl, s0, s1, s2, o5⟩
            have e0 := own_len s0
            have e1 := own_len s1
            have e2 := own_len s2
            rw [ints_len] at e0 e1 e2
            subst e0 e1 e2
            have B5 := Lib.hid (below_on7 B3.out o5)
            have H5 := Lib.hid (H3.out.on o5)
            clear s0 s1 s2 o5 PT
            obtain ⟨rm, erm⟩ : ∃ rm : Nat, d.room = rm := ⟨_, rfl⟩
            rw [erm] at RE
            simp only [erm] at RMT
            clear erm
            generalize d.want = xw at *
            generalize d.miss = xm at *
            generalize d.hits = xx at *
            generalize d.s.l0.length = x0 at *
            generalize d.s.l1.length = x1 at *
            generalize d.s.heldL.length = xh at *
            have oa := (Only.refl none_ v5).alloc (.cells #[.slice a0' x0 k0', .slice a1' x1 k1', .slice a2' xh k2', .int .i64 xw, .int .u64 xm, .int .u64 xx] 39)
            have ra := Row.fresh v5 39 #[.slice a0' x0 k0', .slice a1' x1 k1', .slice a2' xh k2', .int .i64 xw, .int .u64 xm, .int .u64 xx]
            go_wp2_with fail
            generalize (v5.alloc (.cells #[.slice a0' x0 k0', .slice a1' x1 k1', .slice a2' xh k2', .int .i64 xw, .int .u64 xm, .int .u64 xx] 39)) = v6 at *
            have B6 := Lib.hid (Only.below_to B5.out oa (Nat.le_refl _) (fun _ _ s => s))
            have H6' := Lib.hid (H5.out.still oa)
            have KS := Lib.hid (show ∀ w', Only none_ v6 w' → w'.cell? ⟨v5.heap.size, 0, none⟩ = some (.slice a0' x0 k0') ∧ w'.cell? ⟨v5.heap.size, 1, none⟩ = some (.slice a1' x1 k1') ∧ w'.cell? ⟨v5.heap.size, 2, none⟩ = some (.slice a2' xh k2') ∧ w'.cell? ⟨v5.heap.size, 3, none⟩ = some (.int .i64 xw) ∧ w'.cell? ⟨v5.heap.size, 4, none⟩ = some (.int .u64 xm) ∧ w'.cell? ⟨v5.heap.size, 5, none⟩ = some (.int .u64 xx) from fun w' o => And.intro (o.cell ((ra.cell 0).trans rfl) (fun s => s)) (And.intro (o.cell ((ra.cell 1).trans rfl) (fun s => s)) (And.intro (o.cell ((ra.cell 2).trans rfl) (fun s => s)) (And.intro (o.cell ((ra.cell 3).trans rfl) (fun s => s)) (And.intro (o.cell ((ra.cell 4).trans rfl) (fun s => s)) (o.cell ((ra.cell 5).trans rfl) (fun s => s)))))))
            have OD := Lib.hid ((Only.refl none_ v6).drew)
            have d1 : decide ((xw : Int) < 0) = false := decide_eq_false (by omega)
            have d2 : decide ((N : Int) < (xw : Int)) = false := decide_eq_false (by omega)
            have d3 : decide ((64 : Int) ≤ (xm : Int)) = false := decide_eq_false (by omega)
            have d4 : decide ((64 : Int) ≤ (xx : Int)) = false := decide_eq_false (by omega)
            have v1 : IntKind.i64.wrap ((x0 : Int) + (x1 : Int)) = (x0 : Int) + (x1 : Int) := by rw [IntKind.wrap_i64]; omega
            have v2 : IntKind.i64.wrap ((x0 : Int) + (x1 : Int) - (xh : Int)) = (x0 : Int) + (x1 : Int) - (xh : Int) := by rw [IntKind.wrap_i64]; omega
            have d5 : decide ((N : Int) < (x0 : Int) + (x1 : Int)) = false := decide_eq_false (by omega)
            have dn2 : decide (N < xw) = false := decide_eq_false (by omega)
            have dn3 : decide (64 ≤ xm) = false := decide_eq_false (by omega)
            have dn4 : decide (64 ≤ xx) = false := decide_eq_false (by omega)
            have dn5 : decide (N < x0 + x1) = false := decide_eq_false (by omega)
            have d6 : ((rm : Int) != (x0 : Int) + (x1 : Int) - (xh : Int)) = false := by simp; omega
            clear oa ra
            go_region_held3 (fun w' => w'.cell? ⟨v5.heap.size, 0, none⟩ = some (.slice a0' x0 k0') ∧ w'.cell? ⟨v5.heap.size, 1, none⟩ = some (.slice a1' x1 k1') ∧ w'.cell? ⟨v5.heap.size, 2, none⟩ = some (.slice a2' xh k2') ∧ w'.cell? ⟨v5.heap.size, 3, none⟩ = some (.int .i64 xw) ∧ w'.cell? ⟨v5.heap.size, 4, none⟩ = some (.int .u64 xm) ∧ w'.cell? ⟨v5.heap.size, 5, none⟩ = some (.int .u64 xx))
              (first
                | (with_reducible exact KS.out _ OB1.out)
                | (with_reducible exact KS.out _ OD.out)
                | fail)
              (first
                | (go_at_call 16; (with_reducible refine (RMT.out _ (H6'.out.still OD.out)).mono ?_); rintro e v7 ⟨rfl, p1⟩; have OB1 := Lib.hid (OD.out.same (below_only p1)))
                | fail)
            have B7 := Lib.hid (Only.below_to B6.out OB1.out (Nat.le_refl _) (fun _ _ s => s))
            have H7 := Lib.hid (H6'.out.still OB1.out)
            rename_i hHeld
            clear hHeld p1 KS OD RMT d1 d2 d3 d4 d5 dn2 dn3 dn4 dn5 v1 v2
            go_wp2_with fail
            go_roundw
            case rel => exact ⟨j + 1, d, by omega, by omega, by go_num, H7.out, DN.out, by omega, B7.out⟩
            case measure => simp [intOf]; omega
      · have dk : (act.kind == 5) = false := by simpa using hk
        go_wp2_with fail
        generalize ((w4.alloc (.cells #[.slice a0 c.s.l0.length k0, .slice a1 c.s.l1.length k1, .slice a2 c.s.heldL.length k2, .int .i64 c.want, .int .u64 c.miss, .int .u64 c.hits] 39)).alloc (.cells #[.int .i64 act.kind, .int .i64 act.frame, .int .i64 act.list] 33)) = w5 at *
        have OD := Lib.hid ((Only.refl none_ w5).drew)
        have HD := Lib.hid ((H4.out.still OA.out).still OD.out)
        have BD := Lib.hid (Only.below_to B4.out OA.out (Nat.le_refl _) (fun _ _ s => s))
        have z5 := BD.out.size
        have U0 : (newSc N 1).us.length < 1000000 := by show 0 < 1000000; decide
        have KR := Lib.hid (show ∀ (w' : World) (S : Nat → Prop), Only S w5 w' → ¬ S (w4.heap.size + 1) → w'.cell? ⟨w4.heap.size + 1, 0, none⟩ = some (.int .i64 act.kind) ∧ w'.cell? ⟨w4.heap.size + 1, 1, none⟩ = some (.int .i64 act.frame) ∧ w'.cell? ⟨w4.heap.size + 1, 2, none⟩ = some (.int .i64 act.list) from fun w' S o n => And.intro (((o.row RC.out n).cell 0).trans rfl) (And.intro (((o.row RC.out n).cell 1).trans rfl) (((o.row RC.out n).cell 2).trans rfl)))
        have RN := Lib.hid (fun w => snew_one_ref N w n1 n64)
        have lt4 := RC.out.lt
        have ltH := (H4.out.still OA.out).raw.lt
        have ltP := H4.out.raw.lt
        clear c0 c1 c2
        go_region_held3 (fun w' => w'.cell? ⟨w4.heap.size + 1, 0, none⟩ = some (.int .i64 act.kind) ∧ w'.cell? ⟨w4.heap.size + 1, 1, none⟩ = some (.int .i64 act.frame) ∧ w'.cell? ⟨w4.heap.size + 1, 2, none⟩ = some (.int .i64 act.list))
          (first
            | (with_reducible exact KR.out _ _ OS.out NS)
            | (with_reducible exact KR.out _ _ ON.out (fun s => s))
            | (with_reducible exact KR.out _ _ OD.out (fun s => s))
            | fail)
          (first
            | (go_at_call 12; (with_reducible refine (RN.out _).mono ?_); rintro e w6 ⟨r, q, hb, base, rfl, hr, lr, lq, lh, lba, k1', k2', k3', k4', o6⟩; have ON := Lib.hid (OD.out.same o6); have HB := Lib.hid (Both.made HD.out hr lr lq lh lba o6); have GT := Lib.hid (show w5.heap.size ≤ r ∧ w5.heap.size ≤ q ∧ w5.heap.size ≤ hb ∧ w5.heap.size ≤ base from And.intro lr (And.intro lq (And.intro lh lba))))
            | (go_at_call 13; (with_reducible refine (step_any P p b r q hb _ c (newSc N 1) act _ HB.out us1 U0).mono ?_); rintro e w7 ⟨t, rfl, _, h7, o7⟩; have OS := Lib.hid ((ON.out.up (S := six P b r q hb (fun g => base ≤ g))).same o7); have NS : ¬ six P b r q hb (fun g => base ≤ g) (w4.heap.size + 1) := (by have := GT.out; unfold six two rset; omega); have HS7 := Lib.hid h7.one)
            | fail)
        have B7 := Lib.hid (Only.below_to BD.out OS.out (Nat.le_refl _) (fun i hi e => by have := GT.out; unfold six two rset at e; omega))
        rw [hd] at HS7
        rename_i hHeld
        clear hHeld KR RN ON HB GT NS OS o6 o7 h7 hr
        have PT := Lib.hid (pol_any P p b d _ HS7.out)
        have RMT := Lib.hid (fun W (hW : SLies W P p b d) => room_any P p b d W hW)
        have RE : (d.room : Int) = (d.s.l0.length : Int) + (d.s.l1.length : Int) - (d.s.heldL.length : Int) := by
          have := held_room DF.out
          unfold Sc.room
          omega
        have f1 := DF.out.want
        have f2 := DF.out.miss
        have f3 := DF.out.hits
        have f4 := all_le DF.out.s
        have f5 := held_room DF.out
        rw [DN.out] at f1 f4
        go_wp2_with fail
        (with_reducible refine (PT.out).mono ?_)
        rintro e v5 ⟨a0', n0', k0', a1', n1', k1', a2', n2', k2', rfl, s0, s1, s2, o5⟩
        have e0 := own_len s0
        have e1 := own_len s1
        have e2 := own_len s2
        rw [ints_len] at e0 e1 e2
        subst e0 e1 e2
        have B5 := Lib.hid (below_on7 B7.out o5)
        have H5 := Lib.hid (HS7.out.on o5)
        clear s0 s1 s2 o5 PT
        obtain ⟨rm, erm⟩ : ∃ rm : Nat, d.room = rm := ⟨_, rfl⟩
        rw [erm] at RE
        simp only [erm] at RMT
        clear erm
        generalize d.want = xw at *
        generalize d.miss = xm at *
        generalize d.hits = xx at *
        generalize d.s.l0.length = x0 at *
        generalize d.s.l1.length = x1 at *
        generalize d.s.heldL.length = xh at *
        have oa := (Only.refl none_ v5).alloc (.cells #[.slice a0' x0 k0', .slice a1' x1 k1', .slice a2' xh k2', .int .i64 xw, .int .u64 xm, .int .u64 xx] 39)
        have ra := Row.fresh v5 39 #[.slice a0' x0 k0', .slice a1' x1 k1', .slice a2' xh k2', .int .i64 xw, .int .u64 xm, .int .u64 xx]
        go_wp2_with fail
        generalize (v5.alloc (.cells #[.slice a0' x0 k0', .slice a1' x1 k1', .slice a2' xh k2', .int .i64 xw, .int .u64 xm, .int .u64 xx] 39)) = v6 at *
        have B6 := Lib.hid (Only.below_to B5.out oa (Nat.le_refl _) (fun _ _ s => s))
        have H6' := Lib.hid (H5.out.still oa)
        have KS := Lib.hid (show ∀ w', Only none_ v6 w' → w'.cell? ⟨v5.heap.size, 0, none⟩ = some (.slice a0' x0 k0') ∧ w'.cell? ⟨v5.heap.size, 1, none⟩ = some (.slice a1' x1 k1') ∧ w'.cell? ⟨v5.heap.size, 2, none⟩ = some (.slice a2' xh k2') ∧ w'.cell? ⟨v5.heap.size, 3, none⟩ = some (.int .i64 xw) ∧ w'.cell? ⟨v5.heap.size, 4, none⟩ = some (.int .u64 xm) ∧ w'.cell? ⟨v5.heap.size, 5, none⟩ = some (.int .u64 xx) from fun w' o => And.intro (o.cell ((ra.cell 0).trans rfl) (fun s => s)) (And.intro (o.cell ((ra.cell 1).trans rfl) (fun s => s)) (And.intro (o.cell ((ra.cell 2).trans rfl) (fun s => s)) (And.intro (o.cell ((ra.cell 3).trans rfl) (fun s => s)) (And.intro (o.cell ((ra.cell 4).trans rfl) (fun s => s)) (o.cell ((ra.cell 5).trans rfl) (fun s => s)))))))
        have OD := Lib.hid ((Only.refl none_ v6).drew)
        have d1 : decide ((xw : Int) < 0) = false := decide_eq_false (by omega)
        have d2 : decide ((N : Int) < (xw : Int)) = false := decide_eq_false (by omega)
        have d3 : decide ((64 : Int) ≤ (xm : Int)) = false := decide_eq_false (by omega)
        have d4 : decide ((64 : Int) ≤ (xx : Int)) = false := decide_eq_false (by omega)
        have v1 : IntKind.i64.wrap ((x0 : Int) + (x1 : Int)) = (x0 : Int) + (x1 : Int) := by rw [IntKind.wrap_i64]; omega
        have v2 : IntKind.i64.wrap ((x0 : Int) + (x1 : Int) - (xh : Int)) = (x0 : Int) + (x1 : Int) - (xh : Int) := by rw [IntKind.wrap_i64]; omega
        have d5 : decide ((N : Int) < (x0 : Int) + (x1 : Int)) = false := decide_eq_false (by omega)
        have dn2 : decide (N < xw) = false := decide_eq_false (by omega)
        have dn3 : decide (64 ≤ xm) = false := decide_eq_false (by omega)
        have dn4 : decide (64 ≤ xx) = false := decide_eq_false (by omega)
        have dn5 : decide (N < x0 + x1) = false := decide_eq_false (by omega)
        have d6 : ((rm : Int) != (x0 : Int) + (x1 : Int) - (xh : Int)) = false := by simp; omega
        clear oa ra
        go_region_held3 (fun w' => w'.cell? ⟨v5.heap.size, 0, none⟩ = some (.slice a0' x0 k0') ∧ w'.cell? ⟨v5.heap.size, 1, none⟩ = some (.slice a1' x1 k1') ∧ w'.cell? ⟨v5.heap.size, 2, none⟩ = some (.slice a2' xh k2') ∧ w'.cell? ⟨v5.heap.size, 3, none⟩ = some (.int .i64 xw) ∧ w'.cell? ⟨v5.heap.size, 4, none⟩ = some (.int .u64 xm) ∧ w'.cell? ⟨v5.heap.size, 5, none⟩ = some (.int .u64 xx))
          (first
            | (with_reducible exact KS.out _ OB1.out)
            | (with_reducible exact KS.out _ OD.out)
            | fail)
          (first
            | (go_at_call 16; (with_reducible refine (RMT.out _ (H6'.out.still OD.out)).mono ?_); rintro e v7 ⟨rfl, p1⟩; have OB1 := Lib.hid (OD.out.same (below_only p1)))
            | fail)
        have B9 := Lib.hid (Only.below_to B6.out OB1.out (Nat.le_refl _) (fun _ _ s => s))
        have H7 := Lib.hid (H6'.out.still OB1.out)
        rename_i hHeld
        clear hHeld p1 KS OD RMT d1 d2 d3 d4 d5 dn2 dn3 dn4 dn5 v1 v2
        go_wp2_with fail
        go_roundw
        case rel => exact ⟨j + 1, d, by omega, by omega, by go_num, H7.out, DN.out, by omega, B9.out⟩
        case measure => simp [intOf]; omega
    · rcases t1 with ⟨t1, t2⟩ | t1
      all_goals
        go_wp2_with fail
        go_ret
        exact ⟨rfl, B.out⟩

set_option maxRecDepth 100000 in
theorem lifted (os : Os) (started : os.Started) (H : Type) (enc : TypeId × Value → H) :
    ReturnsInHanded {} Try.checked os 4 .any (Rows.sarcSafeSpec.pre6 enc Try.prog Try.f4 Rows.sarcSafeRow.domain false) (Rows.sarcSafeSpec.post enc Try.prog Try.f4 false true false false) := by
  refine returnsInHanded_of_change (C := Try.checked) own started (by kernel_rfl) Try.func4
    (ChangeSpec.witness6 (enc := enc) (C := Try.checked) false ⟨#[], #[.int .u8 0, .int .u8 0, .slice none 0 0], []⟩ 8 (by kernel_rfl) (by kernel_rfl) (by kernel_rfl) (by kernel_rfl)) ?_
  intro W base args ds gs before hval0 hW hcnd _
  have hval : ∀ (j : Nat) t v, Try.f4.params[j]? = some t → args[j]? = some v → Value.okWide Try.prog W .any base t v := hval0
  have hW' := hW
  obtain ⟨p, q, hA0, hV, rfl, hfz, hnd⟩ := hW
  have hA : DataW.TrodAll enc Try.prog W 0 (fun _ => true) true Try.f4.params.toList args.toList ds p := hA0
  rw [Try.params4] at hA hval
  obtain ⟨v0, vs0, d0, ds0, p0, q0, hargs, rfl, rfl, h0, r0⟩ := trodAll_cons hA
  obtain ⟨v1, vs1, d1, ds1, p1, q1, rfl, rfl, rfl, h1, r1⟩ := trodAll_cons r0
  obtain ⟨v2, vs2, d2, ds2, p2, q2, rfl, rfl, rfl, h2, r2⟩ := trodAll_cons r1
  obtain ⟨rfl, rfl, rfl⟩ := trodAll_nil r2
  obtain rfl : args = #[v0, v1, v2] := by cases args; simp_all
  obtain ⟨rfl, rfl⟩ := trodVars_none hV
  obtain ⟨a0, rfl, rfl, rfl, w0⟩ := open_int Try.underlying5 (hval 0 5 v0 rfl rfl) h0
  obtain ⟨a1, rfl, rfl, rfl, w1⟩ := open_int Try.underlying5 (hval 1 5 v1 rfl rfl) h1
  have k2 := h2
  have lt2 : ∀ x ∈ p2, x.block < W.heap.size := by obtain ⟨m, hm⟩ := k2; exact DataW.trod_lt m _ _ _ hm
  obtain ⟨ad2, len2, cap2, rfl⟩ := okWide_slice Try.underlying22 (hval 2 22 v2 rfl rfl)
  obtain ⟨fuel2, hf2⟩ := h2
  obtain ⟨max2, xs2, el2, hold2, wf2⟩ := open_acts hf2
  have shut : ∀ W', Below W.heap.size W W' → DataW.TrodAll enc Try.prog W' 0 (fun b => decide (b < W.heap.size)) true [5, 5, 22] [.int .u8 a0, .int .u8 a1, .slice ad2 len2 cap2] [.lit (.int .u8 a0), .lit (.int .u8 a1), d2] ([] ++ ([] ++ (p2 ++ []))) := fun W' bel =>
    (trodAll_cons_mk (shut_int Try.underlying5 w0) (trodAll_cons_mk (shut_int Try.underlying5 w1) (trodAll_cons_mk (Below.trod laidOut (by kernel_rfl) (of_decide_eq_true (by kernel_rfl)) k2 bel lt2) trodAll_mk0)))
  clear hA0 hval0
  refine (walk W a0 w0 a1 w1 ad2 len2 cap2 xs2 max2 el2 hold2 wf2).mono fun e W' ⟨he, bel⟩ => ?_
  subst he
  exact ⟨_, rfl, _, _, _, [], _, [], hW', trodAll_mk1 (shut_bool Try.underlying4 _), shut W' bel, rfl, bel.frame _, fun h => by cases h⟩

theorem over : Rows.sarcSafeRow.holds Try.pinned (OpenSpec.ofChange Rows.sarcSafeSpec) :=
  OpenClaim.holds_of_wide 4 Try.f4 rfl rfl rfl rfl rfl rfl rfl ⟨rfl, rfl, rfl, rfl, rfl⟩ rfl rfl rfl rfl rfl (by kernel_rfl) Try.func4 (by kernel_rfl)
    (of_decide_eq_true (by kernel_rfl)) (by unfold Func.isWrapper; first | (rw [if_pos (by decide +kernel)]; kernel_rfl) | (rw [if_neg (by decide +kernel)]; exact ⟨rfl, rfl⟩))
    (fun os started H enc _ => lifted os started H enc)

theorem sarcSafe_holds : Rows.SarcSafeSaid := over
#print axioms sarcSafe_holds
end Go.Proofs.Ytpmhpamajkhhiaa.sarcSafe
