/- Texts of the layers below, one behind the other. -/
import Derived.Test.YtlfnncahhbbmpaaGreatDoorQO
import Derived.Deep.CutRange
import Derived.Deep.RegionHeld3
import Derived.Test.YtlfnncahhbbmpaaGreatDoorQH
namespace Go.Proofs.YtlfnncahhbbmpaaGreatDoor
open Go.RowKit Go.Maps
set_option linter.unusedVariables false
set_option maxRecDepth 100000
section
variable {p : Nat} {K : Nat → Nat} {X : Loc19} {ss : List Sd} {c : Sc} {L : Nat} {m : Mo}
theorem tracker_at {w : World} (h : MA w p K X ss c L m) : w.cell? ⟨p, 15, none⟩ = some (.pointer (some ⟨X.q, 0, none⟩)) := h.cell 15
theorem MA.tracked {w w' : World} (h : MA w p K X ss c L m) {t' : Tr} {L' : Nat} (s : ST w' X.q (fun g => K g = 3) m.cf t') (o : Only (fun g => K g = 3) w w') (f : Mo.Fine ⟨m.o, m.ca, t', m.f⟩ L') : MW w p K L' ⟨m.o, m.ca, t', m.f⟩ w' := by
  have nk : ∀ g, K g ≠ 3 → ¬ K g = 3 := fun g hg q => hg q
  refine ⟨⟨K, ⟨X, ss, c, ?_⟩, Gn.refl w K⟩, o.more fun g _ q => by rw [q]; decide⟩
  exact { row := o.row h.row (nk p (by rw [h.kp]; decide)), pol := h.pol.keep o (nk _ (by rw [h.kP]; decide)) (nk _ (by rw [h.kpp]; decide)) (nk _ (by rw [h.kb]; decide)), trk := s, mg := h.mg.keep o (nk _ (by rw [h.kbm]; decide)),
          bm := h.bm, fine := f, kp := h.kp, kP := h.kP, kpp := h.kpp, kb := h.kb, kbm := h.kbm, lt := fun g hg => Nat.lt_of_lt_of_le (h.lt g hg) o.size }
set_option maxHeartbeats 1000000 in
theorem late19_any (e : Evn) (w : World) (h : MA w p K X ss c L m) (hL : L ≤ 1000) :
    Calls Tryz.prog 55 #[.pointer (some ⟨p, 0, none⟩), e.val] w (Post19 w p K (L + 1) (decide (1 ≤ e.s)) ⟨m.o, m.ca, tuneS m.t e.s true, m.f⟩) := by
  have oa := (Only.refl none_ w).alloc (.cells (evArr e) 35)
  have ra := Row.fresh w 35 (evArr e)
  have x4 : (w.alloc (.cells (evArr e) 35)).cell? ⟨w.heap.size, 4, none⟩ = some (.int .i64 e.s) := ra.cell 4
  have y4 : (w.alloc (.cells (evArr e) 35)).drew.cell? ⟨w.heap.size, 4, none⟩ = some (.int .i64 e.s) := ra.cell 4
  have HA := Lib.hid (h.still oa)
  have OA := Lib.hid oa
  have HB := Lib.hid (HA.out.still (Only.refl none_ _).drew)
  have c15 := tracker_at HB.out
  have RY := Lib.hid (late10_any e.s _ HB.out.trk HB.out.fine.t (by have := HB.out.fine.uses; omega))
  have FM := Lib.hid (HB.out.fine.tune e.s true)
  unfold Evn.val
  unfold evArr at *
  clear h oa ra
  by_cases q : 1 ≤ e.s
  · have d1 : decide (1 ≤ e.s) = true := decide_eq_true q
    have RB := Lib.hid d1
    clear q
    go_enter Tryz.func55, Tryz.ntmps55
    go_upto_region 1 with fail
    generalize w.alloc (.cells #[.int .i64 e.k, .int .i64 e.b, .int .i64 e.l, .int .i64 e.n, .int .i64 e.s] 35) = wa at *
    generalize w.heap.size = xa at *
    go_wp2_with fail
    (with_reducible refine (canbe_yes _).mono ?_)
    rintro e3 w3 ⟨rfl, rfl⟩
    go_upto_region 2 with fail
    refine wp_tail 6 (by kernel_rfl) (by kernel_rfl) ?_
    simp only [List.take_succ_cons, List.take_zero, List.drop_succ_cons, List.drop_zero]
    repeat (go_big_quiet_step (fail))
    refine wpQuiet_nil ?_
    go_wp2_with fail
    (with_reducible refine RY.out.mono ?_)
    rintro e2 w2 ⟨rfl, s2, o2⟩
    have S2 := Lib.hid s2
    have O2 := Lib.hid o2
    clear s2 o2
    go_wp2_with fail
    go_end0
    exact Post19.yes (by first | exact RB.out | rfl | exact d1 | (rw [d1]; rfl)) ((HB.out.tracked S2.out O2.out FM.out).back (OA.out.same (Only.refl none_ _).drew))
  · have d1 : decide (1 ≤ e.s) = false := decide_eq_false q
    have RB := Lib.hid d1
    clear q
    go_enter Tryz.func55, Tryz.ntmps55
    go_upto_region 1 with fail
    generalize w.alloc (.cells #[.int .i64 e.k, .int .i64 e.b, .int .i64 e.l, .int .i64 e.n, .int .i64 e.s] 35) = wa at *
    generalize w.heap.size = xa at *
    go_wp2_with fail
    (with_reducible refine (canbe_no _).mono ?_)
    rintro e3 w3 ⟨rfl, rfl⟩
    go_wp2_with fail
    exact ⟨rfl, Post19.no (by first | exact RB.out | rfl | exact d1 | (rw [d1]; rfl)) (HA.out.broke (Only.refl _ _) |>.back OA.out)⟩
set_option maxHeartbeats 1000000 in
theorem waste19_any (e : Evn) (w : World) (h : MA w p K X ss c L m) (hL : L ≤ 1000) :
    Calls Tryz.prog 56 #[.pointer (some ⟨p, 0, none⟩), e.val] w (Post19 w p K (L + 1) (decide (1 ≤ e.s)) ⟨m.o, m.ca, tuneS m.t e.s false, m.f⟩) := by
  have oa := (Only.refl none_ w).alloc (.cells (evArr e) 35)
  have ra := Row.fresh w 35 (evArr e)
  have x4 : (w.alloc (.cells (evArr e) 35)).cell? ⟨w.heap.size, 4, none⟩ = some (.int .i64 e.s) := ra.cell 4
  have y4 : (w.alloc (.cells (evArr e) 35)).drew.cell? ⟨w.heap.size, 4, none⟩ = some (.int .i64 e.s) := ra.cell 4
  have HA := Lib.hid (h.still oa)
  have OA := Lib.hid oa
  have HB := Lib.hid (HA.out.still (Only.refl none_ _).drew)
  have c15 := tracker_at HB.out
  have RY := Lib.hid (waste10_any e.s _ HB.out.trk HB.out.fine.t (by have := HB.out.fine.uses; omega))
  have FM := Lib.hid (HB.out.fine.tune e.s false)
  unfold Evn.val
  unfold evArr at *
  clear h oa ra
  by_cases q : 1 ≤ e.s
  · have d1 : decide (1 ≤ e.s) = true := decide_eq_true q
    have RB := Lib.hid d1
    clear q
    go_enter Tryz.func56, Tryz.ntmps56
    go_upto_region 1 with fail
    generalize w.alloc (.cells #[.int .i64 e.k, .int .i64 e.b, .int .i64 e.l, .int .i64 e.n, .int .i64 e.s] 35) = wa at *
    generalize w.heap.size = xa at *
    go_wp2_with fail
    (with_reducible refine (canbe_yes _).mono ?_)
    rintro e3 w3 ⟨rfl, rfl⟩
    go_upto_region 2 with fail
    refine wp_tail 6 (by kernel_rfl) (by kernel_rfl) ?_
    simp only [List.take_succ_cons, List.take_zero, List.drop_succ_cons, List.drop_zero]
    repeat (go_big_quiet_step (fail))
    refine wpQuiet_nil ?_
    go_wp2_with fail
    (with_reducible refine RY.out.mono ?_)
    rintro e2 w2 ⟨rfl, s2, o2⟩
    have S2 := Lib.hid s2
    have O2 := Lib.hid o2
    clear s2 o2
    go_wp2_with fail
    go_end0
    exact Post19.yes (by first | exact RB.out | rfl | exact d1 | (rw [d1]; rfl)) ((HB.out.tracked S2.out O2.out FM.out).back (OA.out.same (Only.refl none_ _).drew))
  · have d1 : decide (1 ≤ e.s) = false := decide_eq_false q
    have RB := Lib.hid d1
    clear q
    go_enter Tryz.func56, Tryz.ntmps56
    go_upto_region 1 with fail
    generalize w.alloc (.cells #[.int .i64 e.k, .int .i64 e.b, .int .i64 e.l, .int .i64 e.n, .int .i64 e.s] 35) = wa at *
    generalize w.heap.size = xa at *
    go_wp2_with fail
    (with_reducible refine (canbe_no _).mono ?_)
    rintro e3 w3 ⟨rfl, rfl⟩
    go_wp2_with fail
    exact ⟨rfl, Post19.no (by first | exact RB.out | rfl | exact d1 | (rw [d1]; rfl)) (HA.out.broke (Only.refl _ _) |>.back OA.out)⟩
theorem has_and {m : Mo} {x s : Int} : (m.there x && decide (1 ≤ s)) = true ↔ m.there x = true ∧ 1 ≤ s := by
  rw [Bool.and_eq_true, decide_eq_true_eq]
set_option maxHeartbeats 1000000 in
theorem drop19_any (e : Evn) (w : World) (h : MA w p K X ss c L m) :
    Calls Tryz.prog 54 #[.pointer (some ⟨p, 0, none⟩), e.val] w (Post19 w p K (L + 1) (m.there e.b && decide (1 ≤ e.s)) m) := by
  have oa := (Only.refl none_ w).alloc (.cells (evArr e) 35)
  have ra := Row.fresh w 35 (evArr e)
  have x1 : (w.alloc (.cells (evArr e) 35)).cell? ⟨w.heap.size, 1, none⟩ = some (.int .i64 e.b) := ra.cell 1
  have x4 : (w.alloc (.cells (evArr e) 35)).cell? ⟨w.heap.size, 4, none⟩ = some (.int .i64 e.s) := ra.cell 4
  have HA := Lib.hid (h.still oa)
  have HS := Lib.hid (has19_any e.b _ (h.still oa))
  have OA := Lib.hid oa
  unfold Evn.val
  unfold evArr at *
  clear h oa ra
  go_enter Tryz.func54, Tryz.ntmps54
  go_upto_region 1 with fail
  generalize w.alloc (.cells #[.int .i64 e.k, .int .i64 e.b, .int .i64 e.l, .int .i64 e.n, .int .i64 e.s] 35) = wa at *
  generalize w.heap.size = xa at *
  cases ht : m.there e.b with
  | false =>
    rw [ht] at HS
    have RB := Lib.hid (show (m.there e.b && decide (1 ≤ e.s)) = false from by rw [ht]; rfl)
    clear ht
    go_wp2_with fail
    (with_reducible refine HS.out.mono ?_)
    rintro e0 w0 ⟨rfl, rfl⟩
    go_wp2_with fail
    (with_reducible refine (canbe_no _).mono ?_)
    rintro e3 w3 ⟨rfl, rfl⟩
    go_wp2_with fail
    exact ⟨rfl, Post19.no (by first | exact RB.out | rfl | exact d1 | (rw [d1]; rfl)) (HA.out.broke (Only.refl _ _) |>.back OA.out)⟩
  | true =>
    rw [ht] at HS
    by_cases q : 1 ≤ e.s
    · have d1 : decide (1 ≤ e.s) = true := decide_eq_true q
      have RB := Lib.hid (show (m.there e.b && decide (1 ≤ e.s)) = true from by rw [ht, d1]; rfl)
      clear q ht
      go_wp2_with fail
      (with_reducible refine HS.out.mono ?_)
      rintro e0 w0 ⟨rfl, rfl⟩
      go_wp2_with fail
      (with_reducible refine (canbe_yes _).mono ?_)
      rintro e3 w3 ⟨rfl, rfl⟩
      go_wp2_with fail
      go_end0
      exact Post19.yes (by first | exact RB.out | rfl | exact d1 | (rw [d1]; rfl)) ((HA.out.stays (Only.refl _ _) (Nat.le_succ L)).back OA.out)
    · have d1 : decide (1 ≤ e.s) = false := decide_eq_false q
      have RB := Lib.hid (show (m.there e.b && decide (1 ≤ e.s)) = false from by rw [d1, Bool.and_false])
      clear q ht
      go_wp2_with fail
      (with_reducible refine HS.out.mono ?_)
      rintro e0 w0 ⟨rfl, rfl⟩
      go_wp2_with fail
      (with_reducible refine (canbe_no _).mono ?_)
      rintro e3 w3 ⟨rfl, rfl⟩
      go_wp2_with fail
      exact ⟨rfl, Post19.no (by first | exact RB.out | rfl | exact d1 | (rw [d1]; rfl)) (HA.out.broke (Only.refl _ _) |>.back OA.out)⟩
end
end Go.Proofs.YtlfnncahhbbmpaaGreatDoor

namespace Go.Proofs.YtlfnncahhbbmpaaGreatDoor
open Go.RowKit Go.Maps
set_option linter.unusedVariables false
set_option maxRecDepth 100000
section
variable {p : Nat} {K : Nat → Nat} {X : Loc19} {ss : List Sd} {c : Sc} {L : Nat} {m : Mo}
set_option maxHeartbeats 2000000 in
theorem ahead19_any (e : Evn) (w : World) (h : MA w p K X ss c L m) :
    Calls Tryz.prog 53 #[.pointer (some ⟨p, 0, none⟩), e.val] w (Post19 w p K (L + 1) (m.aheadB e) m) := by
  have oa := (Only.refl none_ w).alloc (.cells (evArr e) 35)
  have ra := Row.fresh w 35 (evArr e)
  have HA := Lib.hid (h.still oa)
  have OA := Lib.hid oa
  have RA := Lib.hid ra
  have hff := h.fine.ff
  have hfc := h.fine.fc
  have f0 := HA.out.cell 18
  have f1 := HA.out.cell 19
  simp [mcells] at f0 f1
  unfold Evn.val
  unfold evArr at *
  clear h oa ra
  go_enter Tryz.func53, Tryz.ntmps53
  go_upto_region 1 with fail
  generalize w.alloc (.cells #[.int .i64 e.k, .int .i64 e.b, .int .i64 e.l, .int .i64 e.n, .int .i64 e.s] 35) = wa at *
  generalize w.heap.size = xa at *
  go_upto_region 2 with fail
  have hb := (Only.refl none_ wa).alloc (.cells #[.int .i64 m.f.f, .int .i64 m.f.c] 39)
  have OB := Lib.hid ((OA.out.same hb).same (Only.refl none_ _).drew)
  have HB := Lib.hid ((HA.out.still hb).still (Only.refl none_ _).drew)
  have RR := (Row.fresh wa 39 #[.int .i64 m.f.f, .int .i64 m.f.c]).drew
  have r0 : (wa.alloc (.cells #[.int .i64 m.f.f, .int .i64 m.f.c] 39)).drew.cell? ⟨wa.heap.size, 0, none⟩ = some (.int .i64 m.f.f) := RR.cell 0
  have r1 : (wa.alloc (.cells #[.int .i64 m.f.f, .int .i64 m.f.c] 39)).drew.cell? ⟨wa.heap.size, 1, none⟩ = some (.int .i64 m.f.c) := RR.cell 1
  have RE := (hb.still RA.out).drew
  have e1 : (wa.alloc (.cells #[.int .i64 m.f.f, .int .i64 m.f.c] 39)).drew.cell? ⟨xa, 1, none⟩ = some (.int .i64 e.b) := RE.cell 1
  have e4 : (wa.alloc (.cells #[.int .i64 m.f.f, .int .i64 m.f.c] 39)).drew.cell? ⟨xa, 4, none⟩ = some (.int .i64 e.s) := RE.cell 4
  have p17 : (wa.alloc (.cells #[.int .i64 m.f.f, .int .i64 m.f.c] 39)).drew.cell? ⟨p, 17, none⟩ = some (.int .i64 m.f.i) := HB.out.cell 17
  clear hb RR RE f0 f1
  generalize wa.alloc (.cells #[.int .i64 m.f.f, .int .i64 m.f.c] 39) = wb at *
  generalize wa.heap.size = xb at *
  by_cases q1 : e.s = m.f.i
  · have d1 : (e.s == m.f.i) = true := by simp [q1]
    by_cases q2 : m.f.f ≤ e.b
    · have d2 : decide (m.f.f ≤ e.b) = true := decide_eq_true q2
      by_cases q3 : e.b < m.f.f + m.f.c
      · have d3 : decide (e.b < m.f.f + m.f.c) = true := decide_eq_true q3
        have RB := Lib.hid (show m.aheadB e = true from by unfold Mo.aheadB; rw [decide_eq_true q1, d2, d3]; rfl)
        clear q1 q2 q3
        refine wp_tail 25 (by kernel_rfl) (by kernel_rfl) ?_
        simp only [List.take_succ_cons, List.take_zero, List.drop_succ_cons, List.drop_zero]
        repeat (go_big_quiet_step (fail))
        refine wpQuiet_nil ?_
        go_wp2_with fail
        (with_reducible refine (canbe_yes _).mono ?_)
        rintro e3 w3 ⟨rfl, rfl⟩
        go_wp2_with fail
        go_end0
        exact Post19.yes RB.out ((HB.out.stays (Only.refl _ _) (Nat.le_succ L)).back OB.out)
      · have d3 : decide (e.b < m.f.f + m.f.c) = false := decide_eq_false q3
        have RB := Lib.hid (show m.aheadB e = false from by unfold Mo.aheadB; rw [decide_eq_true q1, d2, d3]; rfl)
        clear q1 q2 q3
        refine wp_tail 25 (by kernel_rfl) (by kernel_rfl) ?_
        simp only [List.take_succ_cons, List.take_zero, List.drop_succ_cons, List.drop_zero]
        repeat (go_big_quiet_step (fail))
        refine wpQuiet_nil ?_
        go_wp2_with fail
        (with_reducible refine (canbe_no _).mono ?_)
        rintro e3 w3 ⟨rfl, rfl⟩
        go_wp2_with fail
        exact ⟨rfl, Post19.no RB.out (HB.out.broke (Only.refl _ _) |>.back OB.out)⟩
    · have d2 : decide (m.f.f ≤ e.b) = false := decide_eq_false q2
      have RB := Lib.hid (show m.aheadB e = false from by unfold Mo.aheadB; rw [d2, Bool.and_false, Bool.false_and])
      clear q1 q2
      refine wp_tail 25 (by kernel_rfl) (by kernel_rfl) ?_
      simp only [List.take_succ_cons, List.take_zero, List.drop_succ_cons, List.drop_zero]
      repeat (go_big_quiet_step (fail))
      refine wpQuiet_nil ?_
      go_wp2_with fail
      (with_reducible refine (canbe_no _).mono ?_)
      rintro e3 w3 ⟨rfl, rfl⟩
      go_wp2_with fail
      exact ⟨rfl, Post19.no RB.out (HB.out.broke (Only.refl _ _) |>.back OB.out)⟩
  · have d1 : (e.s == m.f.i) = false := by simp [q1]
    have RB := Lib.hid (show m.aheadB e = false from by unfold Mo.aheadB; rw [decide_eq_false q1, Bool.false_and, Bool.false_and])
    clear q1
    refine wp_tail 25 (by kernel_rfl) (by kernel_rfl) ?_
    simp only [List.take_succ_cons, List.take_zero, List.drop_succ_cons, List.drop_zero]
    repeat (go_big_quiet_step (fail))
    refine wpQuiet_nil ?_
    go_wp2_with fail
    (with_reducible refine (canbe_no _).mono ?_)
    rintro e3 w3 ⟨rfl, rfl⟩
    go_wp2_with fail
    exact ⟨rfl, Post19.no RB.out (HB.out.broke (Only.refl _ _) |>.back OB.out)⟩
end
end Go.Proofs.YtlfnncahhbbmpaaGreatDoor

namespace Go.Proofs.YtlfnncahhbbmpaaGreatDoor
open Go.RowKit Go.Maps
set_option linter.unusedVariables false
set_option maxRecDepth 100000
section
variable {p : Nat} {K : Nat → Nat} {X : Loc19} {ss : List Sd} {c : Sc} {L : Nat} {m : Mo}
open Classical in
/-- the tracker's blocks have turned -/
noncomputable def recol (K : Nat → Nat) (M : Nat → Prop) : Nat → Nat := fun g => if M g then 3 else if K g = 3 then 0 else K g
theorem recol_eq (K : Nat → Nat) (M : Nat → Prop) : (fun g => recol K M g = 3) = M := by
  funext g
  unfold recol
  by_cases h : M g
  · rw [if_pos h]; exact propext ⟨fun _ => h, fun _ => rfl⟩
  · rw [if_neg h]
    split
    · exact propext ⟨fun e => (by cases e), fun e => absurd e h⟩
    · rename_i k; exact propext ⟨fun e => absurd e k, fun e => absurd e h⟩
theorem recol_other {K : Nat → Nat} {M : Nat → Prop} {g : Nat} (h : ¬ M g) (k : K g ≠ 3) : recol K M g = K g := by
  unfold recol
  rw [if_neg h, if_neg k]
theorem recol_ne {K : Nat → Nat} {M : Nat → Prop} {g : Nat} (h : recol K M g ≠ 0) : M g ∨ K g ≠ 0 := by
  unfold recol at h
  split at h
  · exact .inl ‹_›
  · split at h
    · exact absurd rfl h
    · exact .inr h
/-- behind an access: the tracker and what was found have turned -/
theorem MA.accessed {w w1 w2 : World} (h : MA w p K X ss c L m) {t' : Tr} {f' : Fnd} {L' : Nat} (s : STto w X.q (fun g => K g = 3) m.cf t' w1)
    (r : Row w2 p 70 (mcells m.o (ptr19 X.P) (ptr19 X.q) (.map (some X.bm)) f' false)) (o : Only (fun g => g = p) w1 w2) (f : Mo.Fine ⟨m.o, m.ca, t', f'⟩ L') : MW w p K L' ⟨m.o, m.ca, t', f'⟩ w2 := by
  obtain ⟨⟨M', s1, s2⟩, o1⟩ := s
  have nm : ∀ g, K g ≠ 0 → K g ≠ 3 → ¬ M' g := fun g h0 h3 q => by
    rcases s2 g q with q | q
    · exact h3 q
    · have := h.lt g h0; omega
  have col : ∀ {g k}, K g = k → k ≠ 0 → k ≠ 3 → recol K M' g = k := fun {g k} e h0 h3 => by
    rw [recol_other (nm g (by rw [e]; exact h0) (by rw [e]; exact h3)) (by rw [e]; exact h3), e]
  have k3 : ∀ {g k}, K g = k → k ≠ 3 → ¬ K g = 3 := fun e h3 q => h3 (by rw [← e, q])
  have kp : ∀ {g k}, K g = k → k ≠ 1 → ¬ g = p := fun e h1 q => h1 (by rw [← e, q, h.kp])
  have mp : ∀ g, M' g → ¬ g = p := fun g hg q => nm p (by rw [h.kp]; decide) (by rw [h.kp]; decide) (q ▸ hg)
  refine ⟨⟨recol K M', ⟨X, ss, c, ?_⟩, fun g hg => ?_⟩, (o1.more fun g _ q => by rw [q]; decide).trans o fun g _ q => by rw [q, h.kp]; decide⟩
  · exact { row := r, pol := (h.pol.keep o1 (k3 h.kP (by decide)) (k3 h.kpp (by decide)) (k3 h.kb (by decide))).keep o (kp h.kP (by decide)) (kp h.kpp (by decide)) (kp h.kb (by decide)),
            trk := by rw [recol_eq]; exact s1.keep o mp, mg := (h.mg.keep o1 (k3 h.kbm (by decide))).keep o (kp h.kbm (by decide)),
            bm := h.bm, fine := f, kp := col h.kp (by decide) (by decide), kP := col h.kP (by decide) (by decide), kpp := col h.kpp (by decide) (by decide), kb := col h.kb (by decide) (by decide), kbm := col h.kbm (by decide) (by decide),
            lt := fun g hg => by
              rcases recol_ne hg with q | q
              · exact Nat.lt_of_lt_of_le (s1.lt g q) o.size
              · exact Nat.lt_of_lt_of_le (Nat.lt_of_lt_of_le (h.lt g q) o1.size) o.size }
  · rcases recol_ne hg with q | q
    · exact (s2 g q).imp (fun e => by rw [e]; decide) id
    · exact .inl q
theorem fresh_at19 (w : World) (t : TypeId) (cs : Array Value) (g : Nat) (h : g = w.heap.size) : Row (w.alloc (.cells cs t)) g t cs := by
  rw [h]; exact Row.fresh w t cs
set_option maxHeartbeats 2000000 in
theorem access19_any (e : Evn) (w : World) (h : MA w p K X ss c L m) (hL : L ≤ 900) :
    Calls Tryz.prog 46 #[.pointer (some ⟨p, 0, none⟩), e.val] w (Post19 w p K (L + 1) (m.accB e) ⟨m.o, m.ca, accS m.cf m.t e.b e.n, ⟨accI m.cf m.t e.b e.n, (accR m.cf m.t e.b e.n).f, (accR m.cf m.t e.b e.n).c⟩⟩) := by
  have oa := (Only.refl none_ w).alloc (.cells (evArr e) 35)
  have ra := Row.fresh w 35 (evArr e)
  have HA := Lib.hid (h.still oa)
  have OA := Lib.hid oa
  have RA := Lib.hid ra
  have Z0 := Lib.hid (h.new0 (Nat.le_refl _))
  have FM := Lib.hid (fun (q : accC m.cf.blk e.b e.n = 0) => h.fine.acc (by omega) q)
  have AC := Lib.hid (fun w' (o : Only none_ w w') => acc_any e.b e.n w' (h.still o).trk h.fine.t (by have := h.fine.uses; omega))
  unfold Evn.val
  unfold evArr at *
  unfold Mo.accB
  clear h oa ra
  go_enter Tryz.func46, Tryz.ntmps46
  go_upto_region 1 with fail
  generalize w.alloc (.cells #[.int .i64 e.k, .int .i64 e.b, .int .i64 e.l, .int .i64 e.n, .int .i64 e.s] 35) = v1 at *
  generalize w.heap.size = xa at *
  have AC := Lib.hid (fun w' (o : Only none_ v1 w') => AC.out w' (OA.out.same o))
  generalize hI : accI m.cf m.t e.b e.n = ii at *
  generalize hR : accR m.cf m.t e.b e.n = rr at *
  generalize hC : accC m.cf.blk e.b e.n = cc at *
  have HI := Lib.hid hI
  have HR := Lib.hid hR
  have HC := Lib.hid hC
  clear hI hR hC
  obtain ⟨rf, rc⟩ := rr
  dsimp only at *
  go_cut [4, 5] from 6 to 31 (fun s4 s5 wx => ∃ (g : Nat) (M' : Nat → Prop), s4 = .pointer (some ⟨g, 0, none⟩) ∧ s5 = .int .i64 cc ∧ v1.heap.size ≤ g ∧ Row wx g 41 #[.int .i64 ii, .int .i64 rf, .int .i64 rc] ∧ ST wx X.q M' m.cf (accS m.cf m.t e.b e.n) ∧ (∀ b, M' b → K b = 3 ∨ v1.heap.size ≤ b) ∧ Only (fun b => K b = 3) v1 wx)
  case first =>
    have N0 := Lib.hid (Only.refl (fun b => K b = 3) v1)
    have ND := Lib.hid (Only.refl (fun b => K b = 3) v1).drew
    have le0 : v1.heap.size ≤ v1.heap.size := Nat.le_refl _
    have KK := Lib.hid (fun (w' : World) (o : Only (fun b => K b = 3) v1 w') => (show w'.cell? ⟨p, 15, none⟩ = some (.pointer (some ⟨X.q, 0, none⟩)) ∧ w'.cell? ⟨xa, 1, none⟩ = some (.int .i64 e.b) ∧ w'.cell? ⟨xa, 3, none⟩ = some (.int .i64 e.n) from by
      have r := o.row HA.out.row (by rw [HA.out.kp]; decide)
      have r2 := o.row RA.out (by rw [Z0.out]; decide)
      exact ⟨r.cell 15, r2.cell 1, r2.cell 3⟩))
    obtain ⟨c0, c1, c2⟩ := KK.out _ ND.out
    go_region_held3 (fun w' => w'.cell? ⟨p, 15, none⟩ = some (.pointer (some ⟨X.q, 0, none⟩)) ∧ w'.cell? ⟨xa, 1, none⟩ = some (.int .i64 e.b) ∧ w'.cell? ⟨xa, 3, none⟩ = some (.int .i64 e.n))
      (first
        | (with_reducible exact KK.out _ ND.out)
        | (with_reducible exact KK.out _ (Only.drew (Only.alloc N0.out _)))
        | (with_reducible exact KK.out _ O1.out)
        | (with_reducible refine KK.out _ ?_; (repeat (first | (with_reducible refine Only.alloc ?_ _) | (with_reducible refine Only.new ?_ le0 _ _))); with_reducible exact O1.out)
        | fail)
      (first
        | (go_at_call 73; first | ((with_reducible refine (AC.out _ (Only.drew (Only.refl none_ v1))).mono ?_); rintro e1 u1 ⟨ha, ⟨M', s1, s2⟩, o1⟩; unfold Acc at ha; rw [HI.out, HR.out, HC.out] at ha; subst ha; have O1 := Lib.hid (ND.out.same o1); have S1 := Lib.hid s1; have S2 := Lib.hid s2; clear s1 s2 o1) | ((with_reducible refine (AC.out _ (Only.drew (Only.alloc (Only.refl none_ v1) _))).mono ?_); rintro e1 u1 ⟨ha, ⟨M', s1, s2⟩, o1⟩; unfold Acc at ha; rw [HI.out, HR.out, HC.out] at ha; subst ha; have far := o1.row (Row.drew (Row.fresh v1 41 #[.int .i64 0, .int .i64 0, .int .i64 0])) (by rw [HA.out.new0 (Nat.le_refl _)]; decide); obtain ⟨fa0, fa1, fa2⟩ := far.three; have faz := far.frozen; have fal := far.lt; have FAR := Lib.hid far; have O1 := Lib.hid ((Only.drew (Only.alloc N0.out _)).same o1); have S1 := Lib.hid s1; have S2 := Lib.hid s2; clear s1 s2 o1 far))
        | fail)
    · have X1 := Lib.hid (Row.fresh u1 41 #[.int .i64 ii, .int .i64 rf, .int .i64 rc])
      have X2 := Lib.hid (S1.out.still ((Only.refl none_ u1).alloc (.cells #[.int .i64 ii, .int .i64 rf, .int .i64 rc] 41)))
      have X3 := Lib.hid (O1.out.alloc (.cells #[.int .i64 ii, .int .i64 rf, .int .i64 rc] 41))
      go_wp2_with fail
      go_meet
      case rel => exact ⟨u1.heap.size, M', rfl, rfl, O1.out.size, X1.out, X2.out, S2.out, X3.out⟩
    · have z0 := HA.out.new0 le0
      have nm : ¬ M' v1.heap.size := fun q => by
        rcases S2.out _ q with k | k
        · rw [z0] at k; cases k
        · have : v1.heap.size + 1 ≤ v1.heap.size := by simpa using k
          omega
      have X1 := Lib.hid (show Row (((u1.setCell ⟨v1.heap.size, 0, none⟩ (.int .i64 ii)).setCell ⟨v1.heap.size, 1, none⟩ (.int .i64 rf)).setCell ⟨v1.heap.size, 2, none⟩ (.int .i64 rc)) v1.heap.size 41 #[.int .i64 ii, .int .i64 rf, .int .i64 rc] from ((FAR.out.put 0 (.int .i64 ii)).put 1 (.int .i64 rf)).put 2 (.int .i64 rc))
      have o3 := (((Only.refl (fun b => b = v1.heap.size) u1).into rfl 0 (.int .i64 ii)).into rfl 1 (.int .i64 rf)).into rfl 2 (.int .i64 rc)
      have X2 := Lib.hid (S1.out.keep o3 (fun g hg q => nm (q ▸ hg)))
      have X3 := Lib.hid (((O1.out.new le0 0 (.int .i64 ii)).new le0 1 (.int .i64 rf)).new le0 2 (.int .i64 rc))
      have S3 := Lib.hid (fun b hb => (S2.out b hb).imp (fun k : K b = 3 => k) (fun k => (show v1.heap.size ≤ b from Nat.le_of_succ_le (by simpa using k))))
      clear nm z0 o3
      go_wp2_with fail
      go_meet
      case rel => exact ⟨v1.heap.size, M', rfl, rfl, le0, X1.out, X2.out, S3.out, X3.out⟩
  case rest =>
    obtain ⟨g, M', rfl, rfl, lg, rg, s1, s2, o1⟩ := hcut
    have ww := o1.row HA.out.row (by rw [HA.out.kp]; decide)
    have wr := o1.row RA.out (by rw [Z0.out]; decide)
    have g0 : wc.cell? ⟨g, 0, none⟩ = some (.int .i64 ii) := rg.cell 0
    have g1 : wc.cell? ⟨g, 1, none⟩ = some (.int .i64 rf) := rg.cell 1
    have g2 : wc.cell? ⟨g, 2, none⟩ = some (.int .i64 rc) := rg.cell 2
    have a4 : wc.cell? ⟨xa, 4, none⟩ = some (.int .i64 e.s) := wr.cell 4
    have S1 := Lib.hid s1
    have S2 := Lib.hid s2
    have O1 := Lib.hid o1
    have RB := Lib.hid (show BW v1 p K wc from ⟨⟨_, ww, rfl⟩, o1.more (fun b _ q => by rw [q]; decide)⟩)
    have WW := Lib.hid ww
    have zf := ww.frozen
    have pl := ww.lt
    have p17 : wc.cell? ⟨p, 17, none⟩ = some (.int .i64 m.f.i) := ww.cell 17
    have p18 : wc.cell? ⟨p, 18, none⟩ = some (.int .i64 m.f.f) := ww.cell 18
    have p19 : wc.cell? ⟨p, 19, none⟩ = some (.int .i64 m.f.c) := ww.cell 19
    clear s1 s2 o1 rg wr ww
    by_cases q1 : cc = 0
    · have d1 : (cc == 0) = true := by simp [q1]
      by_cases q2 : (ii : Int) = e.s
      · have d2 : ((ii : Int) == e.s) = true := by simp [q2]
        have FF := Lib.hid (FM.out q1)
        have D1 := Lib.hid (decide_eq_true q1)
        have D2 := Lib.hid (decide_eq_true q2)
        have RW := Lib.hid (show Row (((wc.setCell ⟨p, 17, none⟩ (.int .i64 ii)).setCell ⟨p, 18, none⟩ (.int .i64 rf)).setCell ⟨p, 19, none⟩ (.int .i64 rc)) p 70 (mcells m.o (ptr19 X.P) (ptr19 X.q) (.map (some X.bm)) ⟨ii, rf, rc⟩ false) from ((WW.out.put 17 (.int .i64 ii)).put 18 (.int .i64 rf)).put 19 (.int .i64 rc))
        have OW := Lib.hid ((((Only.refl (fun b => b = p) wc).into rfl 17 (.int .i64 ii)).into rfl 18 (.int .i64 rf)).into rfl 19 (.int .i64 rc))
        clear q1 q2
        go_wp2_with fail
        (with_reducible refine (canbe_yes _).mono ?_)
        rintro e3 w3 ⟨rfl, rfl⟩
        go_wp2_with fail
        go_end0
        exact Post19.yes (by first | rfl | (rw [D1.out, D2.out]; rfl) | (simp [*]; done)) ((HA.out.accessed ⟨⟨M', S1.out, S2.out⟩, O1.out⟩ RW.out OW.out FF.out).back OA.out)
      · have d2 : ((ii : Int) == e.s) = false := by simp [q2]
        have D2 := Lib.hid (decide_eq_false q2)
        clear q1 q2
        go_wp2_with fail
        (with_reducible refine (canbe_no _).mono ?_)
        rintro e3 w3 ⟨rfl, rfl⟩
        go_wp2_with fail
        exact ⟨rfl, Post19.no (by first | rfl | (rw [D2.out, Bool.and_false])) (RB.out.back OA.out)⟩
    · have d1 : (cc == 0) = false := by simp [q1]
      have D1 := Lib.hid (decide_eq_false q1)
      clear q1
      go_wp2_with fail
      (with_reducible refine (canbe_no _).mono ?_)
      rintro e3 w3 ⟨rfl, rfl⟩
      go_wp2_with fail
      exact ⟨rfl, Post19.no (by first | rfl | (rw [D1.out, Bool.false_and])) (RB.out.back OA.out)⟩
end
end Go.Proofs.YtlfnncahhbbmpaaGreatDoor

namespace Go.Proofs.YtlfnncahhbbmpaaGreatDoor
open Go.RowKit Go.Maps
set_option linter.unusedVariables false
set_option maxRecDepth 100000
def noFnd : Fnd := ⟨0, 0, 0⟩
def noOpt : Opt := ⟨0, 0, 0, 0, 0, 0, 0, 0, 0, 0, 0, 0, 0, 0⟩
/-- a model, or a broken one -/
def CM (w : World) (p : Nat) (K : Nat → Nat) (L : Nat) (s : Option Mo) : Prop := match s with
  | none => Row w p 70 (mcells noOpt (.pointer none) (.pointer none) (.map none) noFnd true) ∧ K p = 1 ∧ ∀ g, K g ≠ 0 → g < w.heap.size
  | some m => MAny w p K L m
theorem CM.still {w w' : World} {p : Nat} {K : Nat → Nat} {L : Nat} {s : Option Mo} (h : CM w p K L s) (o : Only none_ w w') : CM w' p K L s := by
  cases s with
  | none => exact ⟨o.still h.1, h.2.1, fun g hg => Nat.lt_of_lt_of_le (h.2.2 g hg) o.size⟩
  | some m =>
    obtain ⟨X, ss, c, h⟩ := h
    exact ⟨X, ss, c, h.still o⟩
theorem CM.keep {w w' : World} {p : Nat} {K : Nat → Nat} {L : Nat} {s : Option Mo} (h : CM w p K L s) {S : Nat → Prop} (o : Only S w w') (hn : ∀ g, K g ≠ 0 → ¬ S g) : CM w' p K L s := by
  cases s with
  | none => exact ⟨o.row h.1 (hn p (by rw [h.2.1]; decide)), h.2.1, fun g hg => Nat.lt_of_lt_of_le (h.2.2 g hg) o.size⟩
  | some m =>
    obtain ⟨X, ss, c, h⟩ := h
    exact ⟨X, ss, c, h.keep o hn⟩
theorem CM.kp {w : World} {p : Nat} {K : Nat → Nat} {L : Nat} {s : Option Mo} (h : CM w p K L s) : K p = 1 := by
  cases s with
  | none => exact h.2.1
  | some m =>
    obtain ⟨X, ss, c, h⟩ := h
    exact h.kp
theorem CM.lt {w : World} {p : Nat} {K : Nat → Nat} {L : Nat} {s : Option Mo} (h : CM w p K L s) : ∀ g, K g ≠ 0 → g < w.heap.size := by
  cases s with
  | none => exact h.2.2
  | some m =>
    obtain ⟨X, ss, c, h⟩ := h
    exact h.lt
theorem CM.row {w : World} {p : Nat} {K : Nat → Nat} {L : Nat} {s : Option Mo} (h : CM w p K L s) : ∃ o v1 v2 v3 f, Row w p 70 (mcells o v1 v2 v3 f s.isNone) := by
  cases s with
  | none => exact ⟨_, _, _, _, _, h.1⟩
  | some m =>
    obtain ⟨X, ss, c, h⟩ := h
    exact ⟨_, _, _, _, _, h.row⟩
/-- how what Step hands to Catch ends -/
def PostS (w : World) (p : Nat) (K : Nat → Nat) (L : Nat) (s : Option Mo) (r : Option Int) (w' : World) : Prop :=
  match s with
  | none => r = some 9 ∧ BW w p K w'
  | some m => r = none ∧ MW w p K L m w'
theorem PostS.of {w w' : World} {p : Nat} {K : Nat → Nat} {L : Nat} {m m' : Mo} {e : Evn} {E : Ending} {b : Bool} (hb : m.can e = b) (hm : m.next e = m') (h : Post19 w p K L b m' E w') :
    ∃ r, E = done r ∧ PostS w p K L (stepO (some m) e) r w' := by
  unfold stepO
  dsimp only
  rw [hb]
  cases b with
  | true =>
    obtain ⟨e1, h1⟩ := h.1 rfl
    rw [if_pos rfl, hm]
    exact ⟨none, e1, rfl, h1⟩
  | false =>
    obtain ⟨e1, h1⟩ := h.2 rfl
    rw [if_neg (by decide)]
    exact ⟨some 9, e1, rfl, h1⟩
theorem PostS.back {w w1 w' : World} {p : Nat} {K : Nat → Nat} {L : Nat} {s : Option Mo} {r : Option Int} (h : PostS w1 p K L s r w') (o : Only none_ w w1) : PostS w p K L s r w' := by
  cases s with
  | none => exact ⟨h.1, h.2.back o⟩
  | some m => exact ⟨h.1, h.2.back o⟩
set_option maxHeartbeats 8000000 in
theorem step1_any (p a b : Nat) (K : Nat → Nat) (L : Nat) (m : Mo) (e : Evn) (hk : (Lit.int .i64 e.k).wf = true) (w : World) (h : MAny w p K L m) (hL : L ≤ 900) (ra : Row w a 26 #[.pointer (some ⟨p, 0, none⟩)]) (rb : Row w b 35 (evArr e)) :
    Calls Tryz.prog 27 #[.pointer (some ⟨a, 0, none⟩), .pointer (some ⟨b, 0, none⟩)] w fun E w' => ∃ r, E = done r ∧ PostS w p K (L + 1) (stepO (some m) e) r w' := by
  obtain ⟨X, ss, c, h⟩ := h
  have H := Lib.hid h
  have RA := Lib.hid ra
  have RB := Lib.hid rb
  have c20 : w.cell? ⟨p, 20, none⟩ = some (.bool false) := h.cell 20
  have a0 : w.cell? ⟨a, 0, none⟩ = some (.pointer (some ⟨p, 0, none⟩)) := ra.cell 0
  have KK := Lib.hid (fun (w' : World) (o : Only none_ w w') => (show w'.cell? ⟨a, 0, none⟩ = some (.pointer (some ⟨p, 0, none⟩)) ∧ w'.cell? ⟨b, 0, none⟩ = some (.int .i64 e.k) from ⟨(o.still RA.out).cell 0, (o.still RB.out).cell 0⟩))
  have OD := Lib.hid (Only.refl none_ w).drew
  clear h ra rb
  go_enter Tryz.func27, Tryz.ntmps27
  go_wp2_with fail
  (with_reducible refine (canbe_yes _).mono ?_)
  rintro e0 w0 ⟨rfl, rfl⟩
  go_wp2_with fail
  have WK := Lib.hid hk
  clear hk
  go_cut [2, 3] from 10 to 22 (fun s2 s3 wx => s2 = atV .nilFunc (doEnt p) e.k ∧ s3 = .bool (hasV (doEnt p) e.k) ∧ Only none_ w wx)
  case first =>
    obtain ⟨y0, y1⟩ := KK.out _ OD.out
    go_region_held3 (fun w' => w'.cell? ⟨a, 0, none⟩ = some (.pointer (some ⟨p, 0, none⟩)) ∧ w'.cell? ⟨b, 0, none⟩ = some (.int .i64 e.k))
      (first | (with_reducible exact KK.out _ OD.out) | (with_reducible exact KK.out _ O2.out) | fail)
      (first | (go_at_call 29; (with_reducible refine (doings_any p _).mono ?_); rintro e2 w2 ⟨b2, rfl, m2, o2⟩; have O2 := Lib.hid (OD.out.same o2); have LK := m2.look_ok Tryz.underlying78 (zeroF w2) WK.out; clear m2 o2) | fail)
    generalize atV .nilFunc (doEnt p) e.k = dv at *
    generalize hasV (doEnt p) e.k = kb at *
    go_wp2_with fail
    go_meet
    case rel => exact ⟨rfl, rfl, O2.out⟩
  case rest =>
    obtain ⟨rfl, rfl, o3⟩ := hcut
    have H5 := Lib.hid (H.out.still o3)
    have O3 := Lib.hid o3
    have b5 := o3.still RB.out
    have B0 : wc.cell? ⟨b, 0, none⟩ = some (.int .i64 e.k) := b5.cell 0
    have B1 : wc.cell? ⟨b, 1, none⟩ = some (.int .i64 e.b) := b5.cell 1
    have B2 : wc.cell? ⟨b, 2, none⟩ = some (.int .i64 e.l) := b5.cell 2
    have B3 : wc.cell? ⟨b, 3, none⟩ = some (.int .i64 e.n) := b5.cell 3
    have B4 : wc.cell? ⟨b, 4, none⟩ = some (.int .i64 e.s) := b5.cell 4
    clear o3 b5 KK OD c20 a0
    rcases kinds e.k with k | k | k | k | k | k | k | k | k | k | k | k
    · have hv : hasV (doEnt p) e.k = true := by rw [k]; rfl
      have av : atV .nilFunc (doEnt p) e.k = mth 46 p := by rw [k]; rfl
      have KD := Lib.hid (kind1 (m := m) k)
      have CC := access19_any e wc H5.out (by omega)
      unfold Evn.val at CC
      have CC := Lib.hid CC
      rw [hv, av]
      clear hv av k
      go_wp2_with fail
      (with_reducible refine (canbe_yes _).mono ?_)
      rintro e4 w4 ⟨rfl, rfl⟩
      go_wp2_with fail
      (with_reducible refine CC.out.mono ?_)
      intro E6 w6 h6
      have P6 := Lib.hid ((PostS.of KD.out.1 KD.out.2 h6).imp fun r hr => (⟨hr.1, hr.2.back O3.out⟩ : E6 = done r ∧ PostS w p K (L + 1) (stepO (some m) e) r w6))
      clear h6
      obtain ⟨r, hr, ps⟩ := P6.out
      rcases r with _ | r
      · subst hr
        go_wp2_with fail
        go_end0
        exact ⟨none, rfl, ps⟩
      · subst hr
        exact ⟨rfl, some r, rfl, ps⟩
    · have hv : hasV (doEnt p) e.k = true := by rw [k]; rfl
      have av : atV .nilFunc (doEnt p) e.k = mth 47 p := by rw [k]; rfl
      have KD := Lib.hid (kind2 (m := m) k)
      have CC := hit19_any e wc H5.out (by omega)
      unfold Evn.val at CC
      have CC := Lib.hid CC
      rw [hv, av]
      clear hv av k
      go_wp2_with fail
      (with_reducible refine (canbe_yes _).mono ?_)
      rintro e4 w4 ⟨rfl, rfl⟩
      go_wp2_with fail
      (with_reducible refine CC.out.mono ?_)
      intro E6 w6 h6
      have P6 := Lib.hid ((PostS.of KD.out.1 KD.out.2 h6).imp fun r hr => (⟨hr.1, hr.2.back O3.out⟩ : E6 = done r ∧ PostS w p K (L + 1) (stepO (some m) e) r w6))
      clear h6
      obtain ⟨r, hr, ps⟩ := P6.out
      rcases r with _ | r
      · subst hr
        go_wp2_with fail
        go_end0
        exact ⟨none, rfl, ps⟩
      · subst hr
        exact ⟨rfl, some r, rfl, ps⟩
    · have hv : hasV (doEnt p) e.k = true := by rw [k]; rfl
      have av : atV .nilFunc (doEnt p) e.k = mth 48 p := by rw [k]; rfl
      have KD := Lib.hid (kind3 (m := m) k)
      have CC := miss19_any e wc H5.out
      unfold Evn.val at CC
      have CC := Lib.hid CC
      rw [hv, av]
      clear hv av k
      go_wp2_with fail
      (with_reducible refine (canbe_yes _).mono ?_)
      rintro e4 w4 ⟨rfl, rfl⟩
      go_wp2_with fail
      (with_reducible refine CC.out.mono ?_)
      intro E6 w6 h6
      have P6 := Lib.hid ((PostS.of KD.out.1 KD.out.2 h6).imp fun r hr => (⟨hr.1, hr.2.back O3.out⟩ : E6 = done r ∧ PostS w p K (L + 1) (stepO (some m) e) r w6))
      clear h6
      obtain ⟨r, hr, ps⟩ := P6.out
      rcases r with _ | r
      · subst hr
        go_wp2_with fail
        go_end0
        exact ⟨none, rfl, ps⟩
      · subst hr
        exact ⟨rfl, some r, rfl, ps⟩
    · have hv : hasV (doEnt p) e.k = true := by rw [k]; rfl
      have av : atV .nilFunc (doEnt p) e.k = mth 49 p := by rw [k]; rfl
      have KD := Lib.hid (kind4 (m := m) k)
      have CC := enter19_any e wc H5.out (by omega)
      unfold Evn.val at CC
      have CC := Lib.hid CC
      rw [hv, av]
      clear hv av k
      go_wp2_with fail
      (with_reducible refine (canbe_yes _).mono ?_)
      rintro e4 w4 ⟨rfl, rfl⟩
      go_wp2_with fail
      (with_reducible refine CC.out.mono ?_)
      intro E6 w6 h6
      have P6 := Lib.hid ((PostS.of KD.out.1 KD.out.2 h6).imp fun r hr => (⟨hr.1, hr.2.back O3.out⟩ : E6 = done r ∧ PostS w p K (L + 1) (stepO (some m) e) r w6))
      clear h6
      obtain ⟨r, hr, ps⟩ := P6.out
      rcases r with _ | r
      · subst hr
        go_wp2_with fail
        go_end0
        exact ⟨none, rfl, ps⟩
      · subst hr
        exact ⟨rfl, some r, rfl, ps⟩
    · have hv : hasV (doEnt p) e.k = true := by rw [k]; rfl
      have av : atV .nilFunc (doEnt p) e.k = mth 50 p := by rw [k]; rfl
      have KD := Lib.hid (kind5 (m := m) k)
      have CC := ready19_any e wc H5.out
      unfold Evn.val at CC
      have CC := Lib.hid CC
      rw [hv, av]
      clear hv av k
      go_wp2_with fail
      (with_reducible refine (canbe_yes _).mono ?_)
      rintro e4 w4 ⟨rfl, rfl⟩
      go_wp2_with fail
      (with_reducible refine CC.out.mono ?_)
      intro E6 w6 h6
      have P6 := Lib.hid ((PostS.of KD.out.1 KD.out.2 h6).imp fun r hr => (⟨hr.1, hr.2.back O3.out⟩ : E6 = done r ∧ PostS w p K (L + 1) (stepO (some m) e) r w6))
      clear h6
      obtain ⟨r, hr, ps⟩ := P6.out
      rcases r with _ | r
      · subst hr
        go_wp2_with fail
        go_end0
        exact ⟨none, rfl, ps⟩
      · subst hr
        exact ⟨rfl, some r, rfl, ps⟩
    · have hv : hasV (doEnt p) e.k = true := by rw [k]; rfl
      have av : atV .nilFunc (doEnt p) e.k = mth 51 p := by rw [k]; rfl
      have KD := Lib.hid (kind6 (m := m) k)
      have CC := victim19_any e wc H5.out (by omega)
      unfold Evn.val at CC
      have CC := Lib.hid CC
      rw [hv, av]
      clear hv av k
      go_wp2_with fail
      (with_reducible refine (canbe_yes _).mono ?_)
      rintro e4 w4 ⟨rfl, rfl⟩
      go_wp2_with fail
      (with_reducible refine CC.out.mono ?_)
      intro E6 w6 h6
      have P6 := Lib.hid ((PostS.of KD.out.1 KD.out.2 h6).imp fun r hr => (⟨hr.1, hr.2.back O3.out⟩ : E6 = done r ∧ PostS w p K (L + 1) (stepO (some m) e) r w6))
      clear h6
      obtain ⟨r, hr, ps⟩ := P6.out
      rcases r with _ | r
      · subst hr
        go_wp2_with fail
        go_end0
        exact ⟨none, rfl, ps⟩
      · subst hr
        exact ⟨rfl, some r, rfl, ps⟩
    · have hv : hasV (doEnt p) e.k = true := by rw [k]; rfl
      have av : atV .nilFunc (doEnt p) e.k = mth 52 p := by rw [k]; rfl
      have KD := Lib.hid (kind7 (m := m) k)
      have CC := gone19_any e wc H5.out
      unfold Evn.val at CC
      have CC := Lib.hid CC
      rw [hv, av]
      clear hv av k
      go_wp2_with fail
      (with_reducible refine (canbe_yes _).mono ?_)
      rintro e4 w4 ⟨rfl, rfl⟩
      go_wp2_with fail
      (with_reducible refine CC.out.mono ?_)
      intro E6 w6 h6
      have P6 := Lib.hid ((PostS.of KD.out.1 KD.out.2 h6).imp fun r hr => (⟨hr.1, hr.2.back O3.out⟩ : E6 = done r ∧ PostS w p K (L + 1) (stepO (some m) e) r w6))
      clear h6
      obtain ⟨r, hr, ps⟩ := P6.out
      rcases r with _ | r
      · subst hr
        go_wp2_with fail
        go_end0
        exact ⟨none, rfl, ps⟩
      · subst hr
        exact ⟨rfl, some r, rfl, ps⟩
    · have hv : hasV (doEnt p) e.k = true := by rw [k]; rfl
      have av : atV .nilFunc (doEnt p) e.k = mth 53 p := by rw [k]; rfl
      have KD := Lib.hid (kind8 (m := m) k)
      have CC := ahead19_any e wc H5.out
      unfold Evn.val at CC
      have CC := Lib.hid CC
      rw [hv, av]
      clear hv av k
      go_wp2_with fail
      (with_reducible refine (canbe_yes _).mono ?_)
      rintro e4 w4 ⟨rfl, rfl⟩
      go_wp2_with fail
      (with_reducible refine CC.out.mono ?_)
      intro E6 w6 h6
      have P6 := Lib.hid ((PostS.of KD.out.1 KD.out.2 h6).imp fun r hr => (⟨hr.1, hr.2.back O3.out⟩ : E6 = done r ∧ PostS w p K (L + 1) (stepO (some m) e) r w6))
      clear h6
      obtain ⟨r, hr, ps⟩ := P6.out
      rcases r with _ | r
      · subst hr
        go_wp2_with fail
        go_end0
        exact ⟨none, rfl, ps⟩
      · subst hr
        exact ⟨rfl, some r, rfl, ps⟩
    · have hv : hasV (doEnt p) e.k = true := by rw [k]; rfl
      have av : atV .nilFunc (doEnt p) e.k = mth 54 p := by rw [k]; rfl
      have KD := Lib.hid (kind9 (m := m) k)
      have CC := drop19_any e wc H5.out
      unfold Evn.val at CC
      have CC := Lib.hid CC
      rw [hv, av]
      clear hv av k
      go_wp2_with fail
      (with_reducible refine (canbe_yes _).mono ?_)
      rintro e4 w4 ⟨rfl, rfl⟩
      go_wp2_with fail
      (with_reducible refine CC.out.mono ?_)
      intro E6 w6 h6
      have P6 := Lib.hid ((PostS.of KD.out.1 KD.out.2 h6).imp fun r hr => (⟨hr.1, hr.2.back O3.out⟩ : E6 = done r ∧ PostS w p K (L + 1) (stepO (some m) e) r w6))
      clear h6
      obtain ⟨r, hr, ps⟩ := P6.out
      rcases r with _ | r
      · subst hr
        go_wp2_with fail
        go_end0
        exact ⟨none, rfl, ps⟩
      · subst hr
        exact ⟨rfl, some r, rfl, ps⟩
    · have hv : hasV (doEnt p) e.k = true := by rw [k]; rfl
      have av : atV .nilFunc (doEnt p) e.k = mth 55 p := by rw [k]; rfl
      have KD := Lib.hid (kind10 (m := m) k)
      have CC := late19_any e wc H5.out (by omega)
      unfold Evn.val at CC
      have CC := Lib.hid CC
      rw [hv, av]
      clear hv av k
      go_wp2_with fail
      (with_reducible refine (canbe_yes _).mono ?_)
      rintro e4 w4 ⟨rfl, rfl⟩
      go_wp2_with fail
      (with_reducible refine CC.out.mono ?_)
      intro E6 w6 h6
      have P6 := Lib.hid ((PostS.of KD.out.1 KD.out.2 h6).imp fun r hr => (⟨hr.1, hr.2.back O3.out⟩ : E6 = done r ∧ PostS w p K (L + 1) (stepO (some m) e) r w6))
      clear h6
      obtain ⟨r, hr, ps⟩ := P6.out
      rcases r with _ | r
      · subst hr
        go_wp2_with fail
        go_end0
        exact ⟨none, rfl, ps⟩
      · subst hr
        exact ⟨rfl, some r, rfl, ps⟩
    · have hv : hasV (doEnt p) e.k = true := by rw [k]; rfl
      have av : atV .nilFunc (doEnt p) e.k = mth 56 p := by rw [k]; rfl
      have KD := Lib.hid (kind11 (m := m) k)
      have CC := waste19_any e wc H5.out (by omega)
      unfold Evn.val at CC
      have CC := Lib.hid CC
      rw [hv, av]
      clear hv av k
      go_wp2_with fail
      (with_reducible refine (canbe_yes _).mono ?_)
      rintro e4 w4 ⟨rfl, rfl⟩
      go_wp2_with fail
      (with_reducible refine CC.out.mono ?_)
      intro E6 w6 h6
      have P6 := Lib.hid ((PostS.of KD.out.1 KD.out.2 h6).imp fun r hr => (⟨hr.1, hr.2.back O3.out⟩ : E6 = done r ∧ PostS w p K (L + 1) (stepO (some m) e) r w6))
      clear h6
      obtain ⟨r, hr, ps⟩ := P6.out
      rcases r with _ | r
      · subst hr
        go_wp2_with fail
        go_end0
        exact ⟨none, rfl, ps⟩
      · subst hr
        exact ⟨rfl, some r, rfl, ps⟩
    · have hv : hasV (doEnt p) e.k = false := by
        unfold hasV doEnt
        simp only [List.any_cons, List.any_nil, Bool.or_false, Bool.or_eq_false_iff, beq_eq_false_iff_ne]
        omega
      have KD := Lib.hid (kind_no (m := m) k)
      rw [hv]
      clear hv k
      go_wp2_with fail
      (with_reducible refine (canbe_no _).mono ?_)
      rintro e4 w4 ⟨rfl, rfl⟩
      go_wp2_with fail
      refine ⟨rfl, some 9, rfl, ?_⟩
      unfold stepO
      dsimp only
      rw [KD.out, if_neg (by decide)]
      exact ⟨rfl, H5.out.broke (Only.refl _ _) |>.back O3.out⟩
end Go.Proofs.YtlfnncahhbbmpaaGreatDoor

namespace Go.Proofs.YtlfnncahhbbmpaaGreatDoor
open Go.RowKit Go.Maps
set_option linter.unusedVariables false
set_option maxRecDepth 100000
theorem info_model : (Tryz.prog.info? 70).map (·.size) = some 21 := by kernel_rfl
def SW (w : World) (p : Nat) (K : Nat → Nat) (L : Nat) (s : Option Mo) (w' : World) : Prop := (∃ K', CM w' p K' L s ∧ Gn w K K') ∧ Only (fun g => K g ≠ 0) w w'
theorem SW.back {w w1 w' : World} {p : Nat} {K : Nat → Nat} {L : Nat} {s : Option Mo} (h : SW w1 p K L s w') (o : Only none_ w w1) : SW w p K L s w' := by
  obtain ⟨⟨K', h1, h2⟩, h3⟩ := h
  exact ⟨⟨K', h1, h2.less o.size⟩, o.then_ h3⟩
/-- what Catch leaves, but for what may have turned -/
def QS (w0 : World) (p : Nat) (K : Nat → Nat) (L : Nat) (s : Option Mo) (r : Option Int) (w' : World) : Prop :=
  match s with
  | none => r = some 9 ∧ ∃ cs, Row w' p 70 cs ∧ cs.size = 21
  | some m => r = none ∧ ∃ K', MAny w' p K' L m ∧ Gn w0 K K'
set_option maxHeartbeats 1000000 in
theorem step1_none (p a b : Nat) (K : Nat → Nat) (w : World) (L : Nat) (h : CM w p K L none) (ra : Row w a 26 #[.pointer (some ⟨p, 0, none⟩)]) :
    Calls Tryz.prog 27 #[.pointer (some ⟨a, 0, none⟩), .pointer (some ⟨b, 0, none⟩)] w fun E w' => E = done (some 9) ∧ w = w' := by
  have c20 : w.cell? ⟨p, 20, none⟩ = some (.bool true) := h.1.cell 20
  have a0 : w.cell? ⟨a, 0, none⟩ = some (.pointer (some ⟨p, 0, none⟩)) := ra.cell 0
  clear h ra
  go_enter Tryz.func27, Tryz.ntmps27
  go_wp2_with fail
  (with_reducible refine (canbe_no _).mono ?_)
  rintro e0 w0 ⟨rfl, rfl⟩
  go_wp2_with fail
  exact ⟨rfl, rfl, rfl⟩
set_option maxHeartbeats 4000000 in
theorem step_any (p : Nat) (K : Nat → Nat) (L : Nat) (s : Option Mo) (e : Evn) (hk : (Lit.int .i64 e.k).wf = true) (w : World) (h : CM w p K L s) (hL : L ≤ 900) :
    Calls Tryz.prog 12 #[.pointer (some ⟨p, 0, none⟩), e.val] w fun E w' => E = .returned (.int .i64 (codeO (stepO s e))) ∧ SW w p K (L + 1) (stepO s e) w' := by
  have hmf : ∀ (fn : Fn) (first cap : Array Value) (w : World), (Instr.makeFunc fn first cap).run Tryz.prog w = .ok (.func fn first cap) w := fun _ _ _ _ => rfl
  obtain ⟨wb, hwb⟩ : ∃ wb, wb = (w.alloc (.cells #[.pointer (some ⟨p, 0, none⟩)] 26)).alloc (.cells (evArr e) 35) := ⟨_, rfl⟩
  have ob : Only none_ w wb := by rw [hwb]; exact ((Only.refl none_ w).alloc _).alloc _
  have ra : Row wb w.heap.size 26 #[.pointer (some ⟨p, 0, none⟩)] := by rw [hwb]; exact (Row.fresh w _ _).alloc _
  have rb : Row wb (w.heap.size + 1) 35 (evArr e) := by rw [hwb]; exact fresh_at19 _ _ _ _ (by simp)
  have hb := h.still ob
  have wc1 := (Only.refl none_ wb).alloc (.cells #[.int .i64 0] 27)
  have za : K w.heap.size = 0 := Classical.byContradiction fun q => by have := h.lt _ q; omega
  have zb : K wb.heap.size = 0 := Classical.byContradiction fun q => by have := hb.lt _ q; omega
  have sz : (wb.alloc (.cells #[.int .i64 0] 27)).heap.size = wb.heap.size + 1 := by simp
  have CT : Calls Tryz.prog 26 #[.func (.func 27) #[] #[.pointer (some ⟨w.heap.size, 0, none⟩), .pointer (some ⟨w.heap.size + 1, 0, none⟩)]] wb
      fun E w' => ∃ r, E = .returned (.int .i64 (r.getD 0)) ∧ QS (wb.alloc (.cells #[.int .i64 0] 27)) p K (L + 1) (stepO s e) r w' ∧ Only (fun g => K g ≠ 0) wb w' := by
    refine catch_code 27 _ wb (fun g => K g ≠ 0) (QS (wb.alloc (.cells #[.int .i64 0] 27)) p K (L + 1) (stepO s e)) (fun _ => rfl) (fun q => q zb) (fun r w1 v o q => ?_) ?_
    · have on := (Only.refl (fun g => g = wb.heap.size) w1).into rfl 0 v
      cases hs : stepO s e with
      | none =>
        rw [hs] at q
        obtain ⟨q1, cs, q2, q3⟩ := q
        refine ⟨q1, cs, on.row q2 (fun k => ?_), q3⟩
        have := h.kp
        rw [k, zb] at this
        cases this
      | some m =>
        rw [hs] at q
        obtain ⟨q1, K', ⟨X, ss, c, q2⟩, q3⟩ := q
        refine ⟨q1, K', ⟨X, ss, c, q2.keep on (fun g hg k => ?_)⟩, q3⟩
        rcases q3 g hg with z | z
        · rw [k] at z; exact z zb
        · rw [sz] at z; omega
    · cases s with
      | none =>
        refine (step1_none p _ _ K _ L (hb.still wc1) (wc1.still ra)).mono ?_
        rintro E w' ⟨rfl, rfl⟩
        exact ⟨some 9, rfl, ⟨rfl, _, (hb.still wc1).1, rfl⟩, Only.refl _ _⟩
      | some m =>
        refine (step1_any p _ _ K L m e hk _ (hb.still wc1) hL (wc1.still ra) (wc1.still rb)).mono ?_
        rintro E w' ⟨r, rfl, ps⟩
        refine ⟨r, rfl, ?_⟩
        unfold QS PostS at *
        cases hs : stepO (some m) e with
        | none =>
          rw [hs] at ps
          obtain ⟨q1, q2, q3⟩ := ps
          exact ⟨⟨q1, q2⟩, q3⟩
        | some m' =>
          rw [hs] at ps
          obtain ⟨q1, ⟨K', q2, q3⟩, q4⟩ := ps
          exact ⟨⟨q1, K', q2, q3⟩, q4⟩
  have CT := Lib.hid CT
  have OB := Lib.hid ob
  have RA := Lib.hid ra
  have HB := Lib.hid hb
  have ZA := Lib.hid za
  have ZB := Lib.hid zb
  have ZZ := Lib.hid (show Gn wb K K → True from fun _ => trivial)
  have SZ := Lib.hid (show wb.heap.size ≤ (wb.alloc (.cells #[.int .i64 0] 27)).heap.size from by rw [sz]; omega)
  clear hb ob ra rb wc1 za zb sz h ZZ
  unfold Evn.val
  unfold evArr at *
  go_enter Tryz.func12, Tryz.ntmps12
  go_upto_region 1 with fail
  rw [← hwb]
  clear hwb
  generalize w.heap.size = xa at *
  go_wp2_with fail
  (with_reducible refine CT.out.mono ?_)
  rintro E w3 ⟨r, rfl, qs, o3⟩
  have O3 := Lib.hid o3
  cases hs : stepO s e with
  | some m' =>
    rw [hs] at qs
    obtain ⟨rfl, K', q2, q3⟩ := qs
    have Q2 := Lib.hid q2
    have Q3 := Lib.hid q3
    have HS := Lib.hid hs
    clear q2 q3 hs o3
    go_wp2_with fail
    go_ret
    refine ⟨by rw [HS.out]; rfl, ?_⟩
    rw [HS.out]
    exact ⟨⟨K', Q2.out, (Q3.out.less SZ.out).less OB.out.size⟩, OB.out.then_ O3.out⟩
  | none =>
    rw [hs] at qs
    obtain ⟨rfl, cs, q2, q3⟩ := qs
    have r3 := o3.row RA.out (by rw [ZA.out]; decide)
    have a0 : w3.cell? ⟨xa, 0, none⟩ = some (.pointer (some ⟨p, 0, none⟩)) := r3.cell 0
    have Q2 := Lib.hid q2
    have Q3 := Lib.hid q3
    have HS := Lib.hid hs
    clear r3 hs o3
    go_upto_region 3 with fail
    go_wp2_with (first | (refine wpList_store_row rfl 70 _ _ rfl p #[.int .i64 0, .int .i64 0, .int .i64 0, .int .i64 0, .int .i64 0, .int .i64 0, .int .i64 0, .int .i64 0, .int .i64 0, .int .i64 0, .int .i64 0, .int .i64 0, .int .i64 0, .int .i64 0, .pointer none, .pointer none, .map none, .int .i64 0, .int .i64 0, .int .i64 0, .bool true] rfl rfl 70 cs Q2.out info_model Q3.out (by kernel_rfl) ?_) | fail)
    go_ret
    refine ⟨by rw [HS.out]; rfl, ?_⟩
    rw [HS.out]
    refine ⟨⟨K, ⟨Row.wholeO Q2.out _, HB.out.kp, fun g hg => ?_⟩, Gn.refl _ _⟩, (OB.out.then_ O3.out).wholeO (fun _ => by rw [HB.out.kp]; decide) _⟩
    have := Nat.lt_of_lt_of_le (HB.out.lt g hg) O3.out.size
    simpa using this
end Go.Proofs.YtlfnncahhbbmpaaGreatDoor
