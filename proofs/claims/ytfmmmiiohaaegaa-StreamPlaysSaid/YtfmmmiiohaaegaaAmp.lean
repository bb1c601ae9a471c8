/- A pace as four numbers: what held, within, moved, askAhead make of it. No condition but what each says. -/
import Derived.Test.YtfmmmiiohaaegaaCatch
import Derived.Laws.StructEq
import Derived.Lib.MinMax
import Derived.Deep.RegionHeld3
import Derived.Deep.RegionWith
namespace Go.Proofs.Ytfmmmiiohaaegaa
open Go.RowKit
set_option linter.unusedVariables false

/-- a pace -/
structure Fl where
  n : Int
  a : Int
  p : Int
  g : Int
  deriving DecidableEq

namespace Fl
def val (f : Fl) : Value := .agg #[.int .i64 f.n, .int .i64 f.a, .int .i64 f.p, .int .i64 f.g]
def cells (f : Fl) : Array Value := #[.int .i64 f.n, .int .i64 f.a, .int .i64 f.p, .int .i64 f.g]

/-- each number is one of 64 bits -/
structure Wf (f : Fl) : Prop where
  n0 : -9223372036854775808 ≤ f.n
  n1 : f.n ≤ 9223372036854775807
  a0 : -9223372036854775808 ≤ f.a
  a1 : f.a ≤ 9223372036854775807
  p0 : -9223372036854775808 ≤ f.p
  p1 : f.p ≤ 9223372036854775807
  g0 : -9223372036854775808 ≤ f.g
  g1 : f.g ≤ 9223372036854775807

/-- its numbers within their bounds -/
def held (f : Fl) (d : Int) : Fl := ⟨f.n, f.a, min (max f.p 1) d, min (max f.g 0) (min (max f.p 1) d - 1)⟩
def within (f : Fl) (d b : Int) : Fl := ⟨min (max f.n 0) (min (max f.a 0) b), min (max f.a 0) b, (f.held d).p, (f.held d).g⟩

/-- a pace that may be -/
structure May (f : Fl) (d b : Int) : Prop where
  d0 : 1 ≤ d
  d1 : d ≤ 16
  b0 : 1 ≤ b
  b1 : b ≤ 256
  n0 : 0 ≤ f.n
  na : f.n ≤ f.a
  ab : f.a ≤ b
  p0 : 1 ≤ f.p
  pd : f.p ≤ d
  g0 : 0 ≤ f.g
  gp : f.g ≤ f.p - 1
instance (f : Fl) (d b : Int) : Decidable (f.May d b) :=
  decidable_of_iff ((1 ≤ d ∧ d ≤ 16 ∧ 1 ≤ b ∧ b ≤ 256) ∧ (0 ≤ f.n ∧ f.n ≤ f.a ∧ f.a ≤ b) ∧ (1 ≤ f.p ∧ f.p ≤ d ∧ 0 ≤ f.g ∧ f.g ≤ f.p - 1))
    ⟨fun ⟨⟨a, b, c, d⟩, ⟨e, f, g⟩, ⟨h, i, j, k⟩⟩ => ⟨a, b, c, d, e, f, g, h, i, j, k⟩, fun h => ⟨⟨h.d0, h.d1, h.b0, h.b1⟩, ⟨h.n0, h.na, h.ab⟩, ⟨h.p0, h.pd, h.g0, h.gp⟩⟩⟩
end Fl

theorem within_iff (f : Fl) (d b : Int) (h : 1 ≤ d ∧ d ≤ 16 ∧ 1 ≤ b ∧ b ≤ 256) : f.May d b ↔ f = f.within d b := by
  obtain ⟨n, a, p, g⟩ := f
  unfold Fl.within Fl.held
  constructor
  · rintro ⟨_, _, _, _, h1, h2, h3, h4, h5, h6, h7⟩
    simp only [Fl.mk.injEq]
    simp only at h1 h2 h3 h4 h5 h6 h7
    omega
  · intro e
    simp only [Fl.mk.injEq] at e
    constructor <;> (try dsimp only) <;> omega

theorem fl_eq (f g : Fl) : decide (f = g) = (f.n == g.n && (f.a == g.a && (f.p == g.p && f.g == g.g))) := by
  obtain ⟨a, b, c, d⟩ := f
  obtain ⟨a', b', c', d'⟩ := g
  rw [Bool.eq_iff_iff]
  simp
theorem eq_fl (f g : Fl) (w : World) : (Op.equalIn 10000 57 (.agg #[.int .i64 f.n, .int .i64 f.a, .int .i64 f.p, .int .i64 f.g]) (.agg #[.int .i64 g.n, .int .i64 g.a, .int .i64 g.p, .int .i64 g.g])).run Try.prog w = .ok (decide (f = g)) w := by
  rw [fl_eq]
  simp [go_sem]
  by_cases h1 : f.n = g.n <;> by_cases h2 : f.a = g.a <;> by_cases h3 : f.p = g.p <;> by_cases h4 : f.g = g.g <;> simp [h1, h2, h3, h4]

/-- two new blocks -/
def Two (w w' : World) : Prop := ∃ o1 o2, w' = (w.alloc o1).alloc o2
theorem Two.only {w w' : World} (h : Two w w') : Only none_ w w' := by
  obtain ⟨o1, o2, rfl⟩ := h
  exact ((Only.refl none_ w).alloc _).alloc _

set_option maxHeartbeats 400000 in
theorem held_any (f : Fl) (d : Int) (w : World) (hd : 1 ≤ d) (hd2 : d ≤ 9223372036854775807) :
    Calls Try.prog 52 #[f.val, .int .i64 d] w fun e w' => e = .returned (f.held d).val ∧ Two w w' := by
  have h : IntKind.i64.wrap (min (max f.p 1) d - 1) = min (max f.p 1) d - 1 := by rw [IntKind.wrap_i64]; omega
  clear hd hd2
  go_enter Try.func52, Try.ntmps52
  unfold Fl.val
  go_wp2
  exact bodyPost_ret (v := .agg #[.int .i64 f.n, .int .i64 f.a, .int .i64 (min (max f.p 1) d), .int .i64 (min (max f.g 0) (min (max f.p 1) d - 1))]) (by simp [results, Try.results52, go_sem]) rfl ⟨rfl, _, _, rfl⟩

set_option maxHeartbeats 400000 in
theorem within_any (f : Fl) (d b : Int) (w : World) (hd : 1 ≤ d) (hd2 : d ≤ 9223372036854775807) :
    Calls Try.prog 58 #[f.val, .int .i64 d, .int .i64 b] w fun e w' => e = .returned (f.within d b).val ∧ Only none_ w w' := by
  have H := Lib.hid (fun w => held_any f d w hd hd2)
  clear hd hd2
  go_enter Try.func58, Try.ntmps58
  unfold Fl.val at H ⊢
  go_wp2_with fail
  (with_reducible refine (H.out _).mono ?_)
  rintro e w1 ⟨rfl, o1, o2, rfl⟩
  have P := Lib.hid (show (f.within d b).p = (f.held d).p from rfl)
  have G := Lib.hid (show (f.within d b).g = (f.held d).g from rfl)
  generalize (f.held d).p = p at *
  generalize (f.held d).g = g at *
  dsimp only [Fl.held]
  clear H
  go_wp2_with fail
  exact bodyPost_ret (v := .agg #[.int .i64 (min (max f.n 0) (min (max f.a 0) b)), .int .i64 (min (max f.a 0) b), .int .i64 p, .int .i64 g]) (by simp [results, Try.results58, go_sem]) rfl
    ⟨by rw [P.out, G.out]; rfl, ((((Only.refl none_ w).alloc _).alloc _).alloc _).alloc _⟩

theorem admit_deg (f : Fl) (d b : Int) (w : World) (h : d < 1 ∨ 16 < d) :
    Calls Try.prog 42 #[f.val, .int .i64 d, .int .i64 b] w fun e w' => e = left 1 ∧ Only none_ w w' := by
  unfold Fl.val
  have t : decide (1 ≤ d) = false ∨ (decide (1 ≤ d) = true ∧ decide (d ≤ 16) = false) := by simp; omega
  clear h
  rcases t with t | ⟨t1, t2⟩
  all_goals
    go_enter Try.func42, Try.ntmps42
    go_wp2_with fail
    (with_reducible refine (unless_no _ _).mono ?_)
    rintro e w' ⟨rfl, rfl⟩
    go_wp2_with fail
    exact ⟨rfl, rfl, (Only.refl none_ w).alloc _⟩
theorem admit_blk (f : Fl) (d b : Int) (w : World) (h : 1 ≤ d ∧ d ≤ 16) (hb : b < 1 ∨ 256 < b) :
    Calls Try.prog 42 #[f.val, .int .i64 d, .int .i64 b] w fun e w' => e = left 1 ∧ Only none_ w w' := by
  unfold Fl.val
  have t : decide (1 ≤ b) = false ∨ (decide (1 ≤ b) = true ∧ decide (b ≤ 256) = false) := by simp; omega
  have t1 : decide (1 ≤ d) = true := by simp; omega
  have t2 : decide (d ≤ 16) = true := by simp; omega
  clear h hb
  rcases t with t | ⟨t3, t4⟩
  all_goals
    go_enter Try.func42, Try.ntmps42
    go_wp2_with fail
    (with_reducible refine (unless_yes _ _).mono ?_)
    rintro e w' ⟨rfl, rfl⟩
    go_wp2_with fail
    (with_reducible refine (unless_no _ _).mono ?_)
    rintro e w' ⟨rfl, rfl⟩
    go_wp2_with fail
    exact ⟨rfl, rfl, (Only.refl none_ w).alloc _⟩

set_option maxHeartbeats 400000 in
theorem admit_in (f : Fl) (d b : Int) (w : World) (h : 1 ≤ d ∧ d ≤ 16 ∧ 1 ≤ b ∧ b ≤ 256) (r : Bool) (hr : decide (f.May d b) = r) :
    Calls Try.prog 42 #[f.val, .int .i64 d, .int .i64 b] w fun e w' => e = done (if r then none else some 1) ∧ Only none_ w w' := by
  have t1 : decide (1 ≤ d) = true := by simp; omega
  have t2 : decide (d ≤ 16) = true := by simp; omega
  have t3 : decide (1 ≤ b) = true := by simp; omega
  have t4 : decide (b ≤ 256) = true := by simp; omega
  have H := Lib.hid (fun w => within_any f d b w (by omega) (by omega))
  have EQ := fun w => eq_fl f (f.within d b) w
  have e0 : decide (f = f.within d b) = r := by rw [← hr]; exact decide_eq_decide.2 (within_iff f d b h).symm
  rw [e0] at EQ
  clear h hr e0
  unfold Fl.val at H ⊢
  go_enter Try.func42, Try.ntmps42
  go_wp2_with fail
  (with_reducible refine (unless_yes _ _).mono ?_)
  rintro e w' ⟨rfl, rfl⟩
  go_wp2_with fail
  (with_reducible refine (unless_yes _ _).mono ?_)
  rintro e w' ⟨rfl, rfl⟩
  go_wp2_with fail
  have r0 := Lib.hid (Row.fresh w 57 #[.int .i64 f.n, .int .i64 f.a, .int .i64 f.p, .int .i64 f.g])
  have OA := Lib.hid ((Only.refl none_ w).alloc (.cells #[.int .i64 f.n, .int .i64 f.a, .int .i64 f.p, .int .i64 f.g] 57))
  generalize w.alloc (.cells #[.int .i64 f.n, .int .i64 f.a, .int .i64 f.p, .int .i64 f.g] 57) = w0 at *
  have OD := Lib.hid (Only.refl none_ w0).drew
  obtain ⟨c0, c1, c2, c3⟩ := (OD.out.still r0.out).four
  have RF := Lib.hid (fun w' (o : Only none_ w0 w') => (o.still r0.out).four)
  cases r
  · refine wp_region_any (by kernel_rfl) ?_
    change wpAny _ _ _ _ _ _ _ (World.drew _)
    refine wpAny_take (i := 2) (v := ?_) rfl (by kernel_rfl) (by kernel_rfl) (by kernel_rfl) (fun _ _ _ h => h) (Or.inl ⟨by rfl, ?_⟩) ?_
    rotate_left
    · intro w; go_simp
      with_reducible rfl
    refine wpAny_take (i := 3) (v := ?_) rfl (by kernel_rfl) (by kernel_rfl) (by kernel_rfl) (fun _ _ _ h => h) (Or.inl ⟨by rfl, ?_⟩) ?_
    rotate_left
    · intro w; go_simp
      with_reducible rfl
    refine wpAny_ready (rs := [0, 1]) (by kernel_rfl) (by simp) ?_
    refine AllReady.cons rfl (fun K hK => ?_) (AllReady.cons rfl (fun K hK => ?_) AllReady.nil)
    · go_simp
      refine hK _ _ ?_; clear hK K
      refine wpAny_ready (rs := [1]) (by kernel_rfl) (by simp) ?_
      refine AllReady.cons rfl (fun K hK => ?_) AllReady.nil
      go_simp
      refine hK _ _ ?_; clear hK K
      refine wpAny_ready (rs := [4]) (by kernel_rfl) (by simp) ?_
      refine AllReady.cons rfl (fun K hK => ?_) AllReady.nil
      go_simp
      go_wp2_with fail
      (with_reducible refine (H.out _).mono ?_)
      rintro e w1 ⟨rfl, o1⟩
      have O1 := Lib.hid (OD.out.same o1)
      obtain ⟨e0, e1, e2, e3⟩ := RF.out _ O1.out
      go_simp
      refine hK _ _ ?_; clear hK K
      refine wpAny_ready (rs := [5]) (by kernel_rfl) (by simp) ?_
      refine AllReady.cons rfl (fun K hK => ?_) AllReady.nil
      go_simp
      refine hK _ _ ?_; clear hK K
      refine wpAny_ready (rs := [6]) (by kernel_rfl) (by simp) ?_
      refine AllReady.cons rfl (fun K hK => ?_) AllReady.nil
      go_simp
      go_wp2_with fail
      (with_reducible refine (unless_no _ _).mono ?_)
      rintro e w2 ⟨rfl, rfl⟩
      exact ⟨rfl, rfl, OA.out.same O1.out⟩
    · go_simp
      refine hK _ _ ?_; clear hK K
      refine wpAny_ready (rs := [0, 4]) (by kernel_rfl) (by simp) ?_
      refine AllReady.cons rfl (fun K hK => ?_) (AllReady.cons rfl (fun K hK => ?_) AllReady.nil)
      · go_simp
        refine hK _ _ ?_; clear hK K
        refine wpAny_ready (rs := [4]) (by kernel_rfl) (by simp) ?_
        refine AllReady.cons rfl (fun K hK => ?_) AllReady.nil
        go_simp
        go_wp2_with fail
        (with_reducible refine (H.out _).mono ?_)
        rintro e w1 ⟨rfl, o1⟩
        have O1 := Lib.hid (OD.out.same o1)
        obtain ⟨e0, e1, e2, e3⟩ := RF.out _ O1.out
        go_simp
        refine hK _ _ ?_; clear hK K
        refine wpAny_ready (rs := [5]) (by kernel_rfl) (by simp) ?_
        refine AllReady.cons rfl (fun K hK => ?_) AllReady.nil
        go_simp
        refine hK _ _ ?_; clear hK K
        refine wpAny_ready (rs := [6]) (by kernel_rfl) (by simp) ?_
        refine AllReady.cons rfl (fun K hK => ?_) AllReady.nil
        go_simp
        go_wp2_with fail
        (with_reducible refine (unless_no _ _).mono ?_)
        rintro e w2 ⟨rfl, rfl⟩
        exact ⟨rfl, rfl, OA.out.same O1.out⟩
      · go_simp
        go_wp2_with fail
        (with_reducible refine (H.out _).mono ?_)
        rintro e w1 ⟨rfl, o1⟩
        have O1 := Lib.hid (OD.out.same o1)
        obtain ⟨e0, e1, e2, e3⟩ := RF.out _ O1.out
        go_simp
        refine hK _ _ ?_; clear hK K
        refine wpAny_ready (rs := [0]) (by kernel_rfl) (by simp) ?_
        refine AllReady.cons rfl (fun K hK => ?_) AllReady.nil
        go_simp
        refine hK _ _ ?_; clear hK K
        refine wpAny_ready (rs := [5]) (by kernel_rfl) (by simp) ?_
        refine AllReady.cons rfl (fun K hK => ?_) AllReady.nil
        go_simp
        refine hK _ _ ?_; clear hK K
        refine wpAny_ready (rs := [6]) (by kernel_rfl) (by simp) ?_
        refine AllReady.cons rfl (fun K hK => ?_) AllReady.nil
        go_simp
        go_wp2_with fail
        (with_reducible refine (unless_no _ _).mono ?_)
        rintro e w2 ⟨rfl, rfl⟩
        exact ⟨rfl, rfl, OA.out.same O1.out⟩
  · go_region_held3 (fun w' => w'.cell? ⟨w.heap.size, 0, none⟩ = some (.int .i64 f.n) ∧ w'.cell? ⟨w.heap.size, 1, none⟩ = some (.int .i64 f.a) ∧ w'.cell? ⟨w.heap.size, 2, none⟩ = some (.int .i64 f.p) ∧ w'.cell? ⟨w.heap.size, 3, none⟩ = some (.int .i64 f.g))
      (first
        | (with_reducible exact RF.out _ O1.out)
        | (with_reducible exact RF.out _ OD.out)
        | fail)
      (first
        | (go_at_call 58; (with_reducible refine (H.out _).mono ?_); rintro e w1 ⟨rfl, o1⟩; have O1 := Lib.hid (OD.out.same o1))
        | (go_at_call 57; (with_reducible refine (unless_yes _ _).mono ?_); rintro e w2 ⟨rfl, rfl⟩)
        | fail)
    go_wp2_with fail
    go_end0
    exact ⟨rfl, OA.out.same O1.out⟩
end Go.Proofs.Ytfmmmiiohaaegaa
