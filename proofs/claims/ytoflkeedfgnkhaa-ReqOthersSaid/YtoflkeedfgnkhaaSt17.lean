/- One step on both tables. -/
import Derived.Test.YtoflkeedfgnkhaaDu17
import Derived.Test.YtoflkeedfgnkhaaPk17
import Derived.Deep.RegionHeld3
import Derived.Deep.Cut
import Derived.Deep.CutRange
namespace Go.Proofs.Ytoflkeedfgnkhaa
open Go.RowKit Go.Maps
set_option linter.unusedVariables false
set_option maxRecDepth 100000
theorem five_row {w : World} {b : Nat} {t : TypeId} {x0 x1 x2 x3 x4 : Value} (h : Row w b t #[x0, x1, x2, x3, x4]) : w.cell? ⟨b, 0, none⟩ = some x0 ∧ w.cell? ⟨b, 1, none⟩ = some x1 ∧ w.cell? ⟨b, 2, none⟩ = some x2 ∧ w.cell? ⟨b, 3, none⟩ = some x3 ∧ w.cell? ⟨b, 4, none⟩ = some x4 := ⟨h.cell 0, h.cell 1, h.cell 2, h.cell 3, h.cell 4⟩
section
variable {w0 w w' : World} {p : Nat} {c : Nat → Nat} {q : Nat} {d : Nat → Nat} {room L : Nat} {t : Tq} {rm K : Nat} {s : Tq}
/-- behind a step -/
def Step17 (w0 w : World) (p : Nat) (c : Nat → Nat) (q : Nat) (d : Nat → Nat) (room L : Nat) (t : Tq) (rm K : Nat) (s : Tq) (a : Act1) (b : Bool) (w' : World) : Prop :=
  (t = s → room = rm → b = true) ∧ ∃ c' d', D17 w0 w' p c' q d' room (L + 1) (stepT room t a) rm (K + 1) (stepT rm s a) ∧ Gw w c c' ∧ Gw w d d' ∧ Only (fun g => c g ≠ 0 ∨ d g ≠ 0) w w'
theorem Step17.of {a : Act1} {u : World} {c' d' : Nat → Nat} {b9 : Nat} {cs : Array Value} {b : Bool} {t' s' : Tq} (e1 : stepT room t a = t') (e2 : stepT rm s a = s') (hb : t = s → room = rm → b = true) (h : E17 w0 w c d u p c' q d' room (L + 1) t' rm (K + 1) s' b9 cs) : Step17 w0 w p c q d room L t rm K s a b u :=
  ⟨hb, c', d', by rw [e1, e2]; exact h.duo, h.gc, h.gd, h.on⟩
set_option maxHeartbeats 4000000 in
theorem step_any (a : Act1) (w : World) (h : D17 w0 w p c q d room L t rm K s) (wa : wfA a) (hL : L < 1000000) (hK : K < 1000000) (b1 : ∀ n ∈ t.kept, n.vs.length ≤ 1000000) (b2 : ∀ n ∈ s.kept, n.vs.length ≤ 1000000) :
    Calls Try.prog 11 #[.pointer (some ⟨p, 0, none⟩), .pointer (some ⟨q, 0, none⟩), .agg #[.int .i64 a.kind, .int .i64 a.id, .int .i64 a.n, .int .i64 a.place, .int .u64 a.v]] w fun e w' => ∃ b : Bool, e = .returned (.bool b) ∧ Step17 w0 w p c q d room L t rm K s a b w' := by
  have l1 : t.kept.length ≤ 1000000 := by have := h.lt.kl; omega
  have l2 : s.kept.length ≤ 1000000 := by obtain ⟨X, k⟩ := h.rw; have := k.kl; omega
  have WX := Lib.hid (show (Lit.int .i64 a.id).wf = true from wa)
  have HL := Lib.hid hL
  have HK := Lib.hid hK
  have L1 := Lib.hid l1
  have L2 := Lib.hid l2
  have P1 := Lib.hid b1
  have P2 := Lib.hid b2
  have DA := Lib.hid (E17.start (cs := #[.int .i64 a.kind, .int .i64 a.id, .int .i64 a.n, .int .i64 a.place, .int .u64 a.v]) h)
  clear h wa hL hK l1 l2 b1 b2
  go_enter Try.func11, Try.ntmps11
  go_upto_region 1 with fail
  revert DA
  generalize w.alloc (.cells #[.int .i64 a.kind, .int .i64 a.id, .int .i64 a.n, .int .i64 a.place, .int .u64 a.v] 32) = W1
  generalize w.heap.size = g9
  intro DA
  have KS := Lib.hid (fun (w' : World) (h : Row w' g9 32 #[.int .i64 a.kind, .int .i64 a.id, .int .i64 a.n, .int .i64 a.place, .int .u64 a.v]) => five_row h)
  have DD := Lib.hid (DA.out.still (Only.refl none_ W1).drew)
  obtain ⟨y0, y1, y2, y3, y4⟩ := KS.out _ DA.out.row
  by_cases e0 : a.kind = 0
  · have t0 : (a.kind == 0) = true := by simp [e0]
    have ST := Lib.hid (fun (rm : Nat) (t : Tq) => show stepT rm t a = ⟨openS rm t.rs a.id a.n a.place, t.kept⟩ from if_pos e0)
    clear e0
    obtain ⟨x0, x1, x2, x3, x4⟩ := KS.out _ DD.out.row
    go_wp2_with fail
    go_region_held3 (fun w' => w'.cell? ⟨g9, 0, none⟩ = some (.int .i64 a.kind) ∧ w'.cell? ⟨g9, 1, none⟩ = some (.int .i64 a.id) ∧ w'.cell? ⟨g9, 2, none⟩ = some (.int .i64 a.n) ∧ w'.cell? ⟨g9, 3, none⟩ = some (.int .i64 a.place) ∧ w'.cell? ⟨g9, 4, none⟩ = some (.int .u64 a.v))
        (first
          | (with_reducible exact KS.out _ Q2.out.row)
          | (with_reducible exact KS.out _ Q1.out.row)
          | (with_reducible exact KS.out _ DD.out.row)
          | fail)
        (first
          | (go_at_call 22; (with_reducible refine (e_open DD.out a.id a.n a.place WX.out).mono ?_); rintro e u1 ⟨rfl, c1, d1⟩; have Q1 := Lib.hid d1)
          | (go_at_call 26; (with_reducible refine (f_open Q1.out a.id a.n a.place WX.out).mono ?_); rintro e u2 ⟨rfl, c2, d2⟩; have Q2 := Lib.hid d2)
          | fail)
    go_wp2_with fail
    go_ret
    exact ⟨_, rfl, Step17.of (ST.out _ _) (ST.out _ _) (fun e1 e2 => by subst e1 e2; simp) Q2.out⟩
  by_cases e1 : a.kind = 1
  · have t0 : (a.kind == 0) = false := by simp [e0]
    have t1 : (a.kind == 1) = true := by simp [e1]
    have ST := Lib.hid (fun (rm : Nat) (t : Tq) => show stepT rm t a = putS t a.id a.place 1 a.v from by unfold stepT; rw [if_neg e0, if_pos e1])
    clear e0 e1
    obtain ⟨x0, x1, x2, x3, x4⟩ := KS.out _ DD.out.row
    go_wp2_with fail
    go_region_held3 (fun w' => w'.cell? ⟨g9, 0, none⟩ = some (.int .i64 a.kind) ∧ w'.cell? ⟨g9, 1, none⟩ = some (.int .i64 a.id) ∧ w'.cell? ⟨g9, 2, none⟩ = some (.int .i64 a.n) ∧ w'.cell? ⟨g9, 3, none⟩ = some (.int .i64 a.place) ∧ w'.cell? ⟨g9, 4, none⟩ = some (.int .u64 a.v))
        (first
          | (with_reducible exact KS.out _ Q2.out.row)
          | (with_reducible exact KS.out _ Q1.out.row)
          | (with_reducible exact KS.out _ DD.out.row)
          | fail)
        (first
          | (go_at_call 23; (with_reducible refine (e_give DD.out a.id a.place a.v WX.out HL.out).mono ?_); rintro e u1 ⟨rfl, c1, d1⟩; have Q1 := Lib.hid d1)
          | (go_at_call 27; (with_reducible refine (f_give Q1.out a.id a.place a.v HK.out).mono ?_); rintro e u2 ⟨rfl, c2, d2⟩; have Q2 := Lib.hid d2)
          | fail)
    go_wp2_with fail
    go_ret
    exact ⟨_, rfl, Step17.of (ST.out _ _) (ST.out _ _) (fun e1 e2 => by subst e1 e2; simp) Q2.out⟩
  by_cases e2 : a.kind = 2
  · have t0 : (a.kind == 0) = false := by simp [e0]
    have t1 : (a.kind == 1) = false := by simp [e1]
    have t2 : (a.kind == 2) = true := by simp [e2]
    have ST := Lib.hid (fun (rm : Nat) (t : Tq) => show stepT rm t a = putS t a.id a.place 2 0 from by unfold stepT; rw [if_neg e0, if_neg e1, if_pos e2])
    clear e0 e1 e2
    obtain ⟨x0, x1, x2, x3, x4⟩ := KS.out _ DD.out.row
    go_wp2_with fail
    go_region_held3 (fun w' => w'.cell? ⟨g9, 0, none⟩ = some (.int .i64 a.kind) ∧ w'.cell? ⟨g9, 1, none⟩ = some (.int .i64 a.id) ∧ w'.cell? ⟨g9, 2, none⟩ = some (.int .i64 a.n) ∧ w'.cell? ⟨g9, 3, none⟩ = some (.int .i64 a.place) ∧ w'.cell? ⟨g9, 4, none⟩ = some (.int .u64 a.v))
        (first
          | (with_reducible exact KS.out _ Q2.out.row)
          | (with_reducible exact KS.out _ Q1.out.row)
          | (with_reducible exact KS.out _ DD.out.row)
          | fail)
        (first
          | (go_at_call 24; (with_reducible refine (e_lose DD.out a.id a.place WX.out HL.out).mono ?_); rintro e u1 ⟨rfl, c1, d1⟩; have Q1 := Lib.hid d1)
          | (go_at_call 27; (with_reducible refine (f_lose Q1.out a.id a.place HK.out).mono ?_); rintro e u2 ⟨rfl, c2, d2⟩; have Q2 := Lib.hid d2)
          | fail)
    go_wp2_with fail
    go_ret
    exact ⟨_, rfl, Step17.of (ST.out _ _) (ST.out _ _) (fun e1 e2 => by subst e1 e2; simp) Q2.out⟩
  by_cases e3 : a.kind = 3
  · have t0 : (a.kind == 0) = false := by simp [e0]
    have t1 : (a.kind == 1) = false := by simp [e1]
    have t2 : (a.kind == 2) = false := by simp [e2]
    have t3 : (a.kind == 3) = true := by simp [e3]
    have ST := Lib.hid (fun (rm : Nat) (t : Tq) => show stepT rm t a = cancelS t a.id from by unfold stepT; rw [if_neg e0, if_neg e1, if_neg e2, if_pos e3])
    clear e0 e1 e2 e3
    obtain ⟨x0, x1, x2, x3, x4⟩ := KS.out _ DD.out.row
    go_wp2_with fail
    go_region_held3 (fun w' => w'.cell? ⟨g9, 0, none⟩ = some (.int .i64 a.kind) ∧ w'.cell? ⟨g9, 1, none⟩ = some (.int .i64 a.id) ∧ w'.cell? ⟨g9, 2, none⟩ = some (.int .i64 a.n) ∧ w'.cell? ⟨g9, 3, none⟩ = some (.int .i64 a.place) ∧ w'.cell? ⟨g9, 4, none⟩ = some (.int .u64 a.v))
        (first
          | (with_reducible exact KS.out _ Q2.out.row)
          | (with_reducible exact KS.out _ Q1.out.row)
          | (with_reducible exact KS.out _ DD.out.row)
          | fail)
        (first
          | (go_at_call 25; (with_reducible refine (e_cancel DD.out a.id WX.out HL.out).mono ?_); rintro e u1 ⟨rfl, c1, d1⟩; have Q1 := Lib.hid d1)
          | (go_at_call 28; (with_reducible refine (f_cancel Q1.out a.id HK.out).mono ?_); rintro e u2 ⟨rfl, c2, d2⟩; have Q2 := Lib.hid d2)
          | fail)
    go_wp2_with fail
    go_ret
    exact ⟨_, rfl, Step17.of (ST.out _ _) (ST.out _ _) (fun e1 e2 => by subst e1 e2; simp) Q2.out⟩
  by_cases e4 : a.kind = 4
  · have t0 : (a.kind == 0) = false := by simp [e0]
    have t1 : (a.kind == 1) = false := by simp [e1]
    have t2 : (a.kind == 2) = false := by simp [e2]
    have t3 : (a.kind == 3) = false := by simp [e3]
    have t4 : (a.kind == 4) = true := by simp [e4]
    have ST := Lib.hid (fun (rm : Nat) (t : Tq) => show stepT rm t a = ⟨t.rs, []⟩ from by unfold stepT; rw [if_neg e0, if_neg e1, if_neg e2, if_neg e3, if_pos e4])
    clear e0 e1 e2 e3 e4 DD
    go_wp2_with fail
    (with_reducible refine (e_take DA.out).mono ?_)
    rintro e u1 ⟨va, rfl, c1, d1, a1⟩
    have Q1 := Lib.hid d1
    have A1 := Lib.hid a1
    clear d1 a1
    go_wp2_with fail
    (with_reducible refine (f_take Q1.out).mono ?_)
    rintro e u2 ⟨vb, rfl, c2, d2, a2, o2⟩
    have Q2 := Lib.hid d2
    have A2 := Lib.hid a2
    have A3 := Lib.hid (A1.out.keep o2 (fun g k1 k2 => k2 k1))
    clear d2 a2 o2
    go_wp2_with fail
    (with_reducible refine (answers_any va vb _ _ _ _ _ A3.out A2.out L1.out L2.out P1.out P2.out).mono ?_)
    rintro e u3 ⟨rfl, o3⟩
    have Q3 := Lib.hid (Q2.out.still o3)
    clear o3
    go_wp2_with fail
    go_ret
    exact ⟨_, rfl, Step17.of (ST.out _ _) (ST.out _ _) (fun e1 e2 => by subst e1; simp) Q3.out⟩
  · have t0 : (a.kind == 0) = false := by simp [e0]
    have t1 : (a.kind == 1) = false := by simp [e1]
    have t2 : (a.kind == 2) = false := by simp [e2]
    have t3 : (a.kind == 3) = false := by simp [e3]
    have t4 : (a.kind == 4) = false := by simp [e4]
    have ST := Lib.hid (fun (rm : Nat) (t : Tq) => show stepT rm t a = t from by unfold stepT; rw [if_neg e0, if_neg e1, if_neg e2, if_neg e3, if_neg e4])
    clear e0 e1 e2 e3 e4 DD
    go_wp2_with fail
    go_ret
    exact ⟨_, rfl, Step17.of (ST.out _ _) (ST.out _ _) (fun _ _ => rfl) (DA.out.up (Nat.le_succ _) (Nat.le_succ _))⟩
end
end Go.Proofs.Ytoflkeedfgnkhaa
