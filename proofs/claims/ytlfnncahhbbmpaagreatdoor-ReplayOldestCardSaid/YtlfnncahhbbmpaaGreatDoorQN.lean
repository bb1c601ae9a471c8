/- Texts of the layers below, one behind the other. -/
import Derived.Test.YtlfnncahhbbmpaaGreatDoorQM
import Derived.Deep.RegionHeld3
import Derived.Deep.CutRange
import Derived.BigRegion
import Derived.Deep.RegionWith
namespace Go.Proofs.YtlfnncahhbbmpaaGreatDoor
open Go.RowKit Go.Maps
set_option linter.unusedVariables false
set_option maxRecDepth 100000

theorem fresh_at (w : World) (t : TypeId) (cs : Array Value) (n : Nat) (h : n = w.heap.size) : Row (w.alloc (.cells cs t)) n t cs := by subst h; exact Row.fresh w t cs
theorem set_set {α : Type} (l : List α) (k : Nat) (a b : α) : (l.set k a).set k b = l.set k b := by
  apply List.ext_getElem?
  intro j
  simp only [List.getElem?_set, List.length_set]
  split <;> simp_all
/-- a stream's pace is written -/
theorem Owns.flow10 {w : World} {g cap n k : Nat} {ss : List Sm} {s : Sm} (h : Owns w 0 118 6 Sm.cells (.slice (some ⟨g, 0, none⟩) n cap) ss) (hk : ss[k]? = some s) (F : Fl) :
    Owns ((((w.setCell ⟨g, k * 6 + 1, none⟩ (.int .i64 F.n)).setCell ⟨g, k * 6 + 2, none⟩ (.int .i64 F.a)).setCell ⟨g, k * 6 + 3, none⟩ (.int .i64 F.p)).setCell ⟨g, k * 6 + 4, none⟩ (.int .i64 F.g)) 0 118 6 Sm.cells (.slice (some ⟨g, 0, none⟩) n cap) (ss.set k ⟨s.id, F, s.used⟩) := by
  have hl := lt_of_get hk
  have h1 := h.put10 sm6 (a' := ⟨s.id, ⟨F.n, s.f.a, s.f.p, s.f.g⟩, s.used⟩) hk (j := 1) (by decide) (u := .int .i64 F.n) rfl
  have h2 := h1.put10 sm6 (i := k) (a := ⟨s.id, ⟨F.n, s.f.a, s.f.p, s.f.g⟩, s.used⟩) (a' := ⟨s.id, ⟨F.n, F.a, s.f.p, s.f.g⟩, s.used⟩) (by simp [hl]) (j := 2) (by decide) (u := .int .i64 F.a) rfl
  have h3 := h2.put10 sm6 (i := k) (a := ⟨s.id, ⟨F.n, F.a, s.f.p, s.f.g⟩, s.used⟩) (a' := ⟨s.id, ⟨F.n, F.a, F.p, s.f.g⟩, s.used⟩) (by simp [hl]) (j := 3) (by decide) (u := .int .i64 F.p) rfl
  have h4 := h3.put10 sm6 (i := k) (a := ⟨s.id, ⟨F.n, F.a, F.p, s.f.g⟩, s.used⟩) (a' := ⟨s.id, F, s.used⟩) (by simp [hl]) (j := 4) (by decide) (u := .int .i64 F.g) rfl
  rw [set_set, set_set, set_set] at h4
  exact h4
theorem Owns.used10 {w : World} {g cap n k : Nat} {ss : List Sm} {s : Sm} (h : Owns w 0 118 6 Sm.cells (.slice (some ⟨g, 0, none⟩) n cap) ss) (hk : ss[k]? = some s) (u : Nat) :
    Owns (w.setCell ⟨g, k * 6 + 5, none⟩ (.int .i64 u)) 0 118 6 Sm.cells (.slice (some ⟨g, 0, none⟩) n cap) (ss.set k ⟨s.id, s.f, u⟩) :=
  h.put10 sm6 (a' := ⟨s.id, s.f, u⟩) hk (j := 5) (by decide) (u := .int .i64 u) rfl
/-- what a row's cells are, of one that is there -/
theorem Owns.six10 {w : World} {g cap n k : Nat} {ss : List Sm} {s : Sm} (h : Owns w 0 118 6 Sm.cells (.slice (some ⟨g, 0, none⟩) n cap) ss) (hk : ss[k]? = some s) :
    w.cell? ⟨g, k * 6, none⟩ = some (.int .i64 s.id) ∧ w.cell? ⟨g, k * 6 + 1, none⟩ = some (.int .i64 s.f.n) ∧ w.cell? ⟨g, k * 6 + 2, none⟩ = some (.int .i64 s.f.a) ∧ w.cell? ⟨g, k * 6 + 3, none⟩ = some (.int .i64 s.f.p) ∧ w.cell? ⟨g, k * 6 + 4, none⟩ = some (.int .i64 s.f.g) ∧ w.cell? ⟨g, k * 6 + 5, none⟩ = some (.int .i64 s.used) := by
  obtain ⟨cur, r, _, hn, _⟩ := h.row10
  subst hn
  have k0 := h.cell sm6 hk (j := 0) (by decide)
  exact ⟨k0, h.cell sm6 hk (j := 1) (by decide), h.cell sm6 hk (j := 2) (by decide), h.cell sm6 hk (j := 3) (by decide), h.cell sm6 hk (j := 4) (by decide), h.cell sm6 hk (j := 5) (by decide)⟩
/-- the streams are others, in the same row -/
theorem StAt.same_row {w w' : World} {q p b L g n cap : Nat} {M : Nat → Prop} {c : Cf} {ss fs : List Sm} {es : List En} {u m : Nat} (h : StAt w q p b L (.slice (some ⟨g, 0, none⟩) n cap) M c ⟨ss, es, u, m⟩) (o : Only (fun k => k = g) w w') (ho : Owns w' 0 118 6 Sm.cells (.slice (some ⟨g, 0, none⟩) n cap) fs) :
    StAt w' q p b L (.slice (some ⟨g, 0, none⟩) n cap) M c ⟨fs, es, u, m⟩ :=
  ⟨o.row h.row (fun k => h.gq (g := g) rfl k.symm), ⟨ho, h.own.2⟩, h.tab.keep o (fun k => h.gp (g := g) rfl k.symm) (fun k => h.gb (g := g) rfl k.symm), h.le, h.mq, h.mp, h.mb, fun g hg => Nat.lt_of_lt_of_le (h.lt g hg) o.size⟩

set_option maxRecDepth 100000 in
set_option maxHeartbeats 4000000 in
theorem suse_any {q p b L : Nat} {v : Value} {M : Nat → Prop} {c : Cf} {t : Tr} (i : Nat) (s : Sm) (n : Int) (w : World) (h : StAt w q p b L v M c t) (hi : t.ss[i]? = some s) (hu : t.uses ≤ 1000) (hl : t.ss.length ≤ 1000) :
    Calls Tryz.prog 113 #[.pointer (some ⟨q, 0, none⟩), .int .i64 i, .int .i64 n] w fun e w' => e = .returned (.agg #[.int .i64 s.id, .int .i64 (s.f.readR n c.deg c.blk).f, .int .i64 (s.f.readR n c.deg c.blk).c]) ∧ StAt w' q p b L v M c ⟨t.ss.set i (usedBy c s n t.uses), t.es, t.uses, t.begun⟩ ∧ Only M w w' := by
  obtain ⟨A, cap, rfl, _, ha⟩ := h.own.form
  have hil := lt_of_get hi
  obtain ⟨g, rfl, lg, hcap, hmx, hMg⟩ := ha (fun e => by rw [e] at hil; exact absurd hil (Nat.not_lt_zero _))
  have RD' := Lib.hid (fun w => read_any s.f n c.deg c.blk w)
  unfold Fl.val Rn.val at RD'
  have HI := Lib.hid hi
  have H1 := Lib.hid (h.still ((Only.refl none_ w).alloc (.cells #[.int .i64 0, .int .i64 0, .int .i64 0] 41)))
  have O1 := Lib.hid ((Only.refl none_ w).alloc (.cells #[.int .i64 0, .int .i64 0, .int .i64 0] 41))
  have RX := Lib.hid (Row.fresh w 41 #[.int .i64 0, .int .i64 0, .int .i64 0])
  have c4 : (w.alloc (.cells #[.int .i64 0, .int .i64 0, .int .i64 0] 41)).cell? ⟨q, 4, none⟩ = some (.slice (some ⟨g, 0, none⟩) t.ss.length cap) := by rw [H1.out.row.cell]; rfl
  have lx := Lib.hid (show w.heap.size ≤ w.heap.size from Nat.le_refl _)
  have ML := Lib.hid h.lt
  clear h hi ha
  go_enter Tryz.func113, Tryz.ntmps113
  go_wp2_with fail
  obtain ⟨x0, hx0⟩ : ∃ x0, w.heap.size = x0 := ⟨_, rfl⟩
  rw [hx0] at RX ML ⊢
  have LX := Lib.hid hx0
  clear hx0 lx c4
  generalize w.alloc (.cells #[.int .i64 0, .int .i64 0, .int .i64 0] 41) = v1 at *
  generalize hK : s.f.readF n c.deg c.blk = k at *
  generalize hR : s.f.readR n c.deg c.blk = r at *
  generalize hC : s.f.readC n c.deg c.blk = cc at *
  have HK := Lib.hid hK
  have HR := Lib.hid hR
  clear hK hR hC
  go_cut [8, 9, 10] from 18 to 34 (fun s12 s13 s14 wx => ∃ p p', s12 = .pointer (some ⟨p, 0, none⟩) ∧ s13 = .pointer (some ⟨p', 0, none⟩) ∧ s14 = .int .i64 cc ∧ v1.heap.size ≤ p ∧ v1.heap.size ≤ p' ∧ Row wx p 102 #[.int .i64 k.n, .int .i64 k.a, .int .i64 k.p, .int .i64 k.g] ∧ Row wx p' 39 #[.int .i64 r.f, .int .i64 r.c] ∧ Only none_ v1 wx)
  case first =>
    have N0 := Lib.hid (Only.refl none_ v1)
    have le0 : v1.heap.size ≤ v1.heap.size := Nat.le_refl _
    have le1 : v1.heap.size ≤ v1.heap.size + 1 := Nat.le_succ _
    have ND := Lib.hid (Only.refl none_ v1).drew
    have KK := Lib.hid (fun (w' : World) (o : Only none_ v1 w') => (show w'.cell? ⟨g, i * 6 + 1, none⟩ = some (.int .i64 s.f.n) ∧ w'.cell? ⟨g, i * 6 + 2, none⟩ = some (.int .i64 s.f.a) ∧ w'.cell? ⟨g, i * 6 + 3, none⟩ = some (.int .i64 s.f.p) ∧ w'.cell? ⟨g, i * 6 + 4, none⟩ = some (.int .i64 s.f.g) ∧ w'.cell? ⟨q, 1, none⟩ = some (.int .i64 c.deg) ∧ w'.cell? ⟨q, 2, none⟩ = some (.int .i64 c.blk) from by
      have K := H1.out.still o
      obtain ⟨_, c1, c2, c3, c4, _⟩ := K.own.1.six10 HI.out
      exact ⟨c1, c2, c3, c4, by rw [K.row.cell]; rfl, by rw [K.row.cell]; rfl⟩))
    obtain ⟨c0, c1, c2, c3, c4, c5⟩ := KK.out _ ND.out
    go_region_held3 (fun w' => w'.cell? ⟨g, i * 6 + 1, none⟩ = some (.int .i64 s.f.n) ∧ w'.cell? ⟨g, i * 6 + 2, none⟩ = some (.int .i64 s.f.a) ∧ w'.cell? ⟨g, i * 6 + 3, none⟩ = some (.int .i64 s.f.p) ∧ w'.cell? ⟨g, i * 6 + 4, none⟩ = some (.int .i64 s.f.g) ∧ w'.cell? ⟨q, 1, none⟩ = some (.int .i64 c.deg) ∧ w'.cell? ⟨q, 2, none⟩ = some (.int .i64 c.blk))
      (first
        | (with_reducible exact KK.out _ ND.out)
        | (with_reducible exact KK.out _ (Only.drew (Only.alloc N0.out _)))
        | (with_reducible exact KK.out _ (Only.drew (Only.alloc (Only.alloc N0.out _) _)))
        | (with_reducible exact KK.out _ O1.out)
        | (with_reducible refine KK.out _ ?_; (repeat (first | (with_reducible refine Only.alloc ?_ _) | (with_reducible refine Only.new ?_ le0 _ _) | (with_reducible refine Only.new ?_ le1 _ _))); with_reducible exact O1.out)
        | fail)
      (first
        | (go_at_call 146; (with_reducible refine (RD'.out _).mono ?_); rintro e u1 ⟨rfl, o1⟩; first | (have o2 : Only none_ (v1.drew) u1 := (by with_reducible exact o1); have O1 := Lib.hid (ND.out.same o2); clear o1 o2) | (have o2 : Only none_ ((v1.alloc (.cells #[.int .i64 0, .int .i64 0, .int .i64 0, .int .i64 0] 102)).drew) u1 := (by with_reducible exact o1); have O1 := Lib.hid ((Only.drew (Only.alloc N0.out _)).same o2); have far := o2.still (Row.drew (Row.fresh v1 102 #[.int .i64 0, .int .i64 0, .int .i64 0, .int .i64 0])); obtain ⟨fa0, fa1, fa2, fa3⟩ := far.four; have faz := far.frozen; have fal := far.lt; have FAR := Lib.hid far; clear far; clear o1 o2) | (have o2 : Only none_ ((v1.alloc (.cells #[.int .i64 0, .int .i64 0] 39)).drew) u1 := (by with_reducible exact o1); have O1 := Lib.hid ((Only.drew (Only.alloc N0.out _)).same o2); have fbr := o2.still (Row.drew (Row.fresh v1 39 #[.int .i64 0, .int .i64 0])); obtain ⟨fb0, fb1⟩ := fbr.two; have fbz := fbr.frozen; have fbl := fbr.lt; have FBR := Lib.hid fbr; clear fbr; clear o1 o2) | (have o2 : Only none_ (((v1.alloc (.cells #[.int .i64 0, .int .i64 0, .int .i64 0, .int .i64 0] 102)).alloc (.cells #[.int .i64 0, .int .i64 0] 39)).drew) u1 := (by with_reducible exact o1); have O1 := Lib.hid ((Only.drew (Only.alloc (Only.alloc N0.out _) _)).same o2); have far := o2.still (Row.drew ((Row.fresh v1 102 #[.int .i64 0, .int .i64 0, .int .i64 0, .int .i64 0]).alloc (.cells #[.int .i64 0, .int .i64 0] 39))); obtain ⟨fa0, fa1, fa2, fa3⟩ := far.four; have faz := far.frozen; have fal := far.lt; have FAR := Lib.hid far; clear far; have fbr := o2.still (Row.drew (fresh_at (v1.alloc (.cells #[.int .i64 0, .int .i64 0, .int .i64 0, .int .i64 0] 102)) 39 #[.int .i64 0, .int .i64 0] (v1.heap.size + 1) (by simp))); obtain ⟨fb0, fb1⟩ := fbr.two; have fbz := fbr.frozen; have fbl := fbr.lt; have FBR := Lib.hid fbr; clear fbr; clear o1 o2) | (have o2 : Only none_ (((v1.alloc (.cells #[.int .i64 0, .int .i64 0] 39)).alloc (.cells #[.int .i64 0, .int .i64 0, .int .i64 0, .int .i64 0] 102)).drew) u1 := (by with_reducible exact o1); have O1 := Lib.hid ((Only.drew (Only.alloc (Only.alloc N0.out _) _)).same o2); have fbr := o2.still (Row.drew ((Row.fresh v1 39 #[.int .i64 0, .int .i64 0]).alloc (.cells #[.int .i64 0, .int .i64 0, .int .i64 0, .int .i64 0] 102))); obtain ⟨fb0, fb1⟩ := fbr.two; have fbz := fbr.frozen; have fbl := fbr.lt; have FBR := Lib.hid fbr; clear fbr; have far := o2.still (Row.drew (fresh_at (v1.alloc (.cells #[.int .i64 0, .int .i64 0] 39)) 102 #[.int .i64 0, .int .i64 0, .int .i64 0, .int .i64 0] (v1.heap.size + 1) (by simp))); obtain ⟨fa0, fa1, fa2, fa3⟩ := far.four; have faz := far.frozen; have fal := far.lt; have FAR := Lib.hid far; clear far; clear o1 o2) | fail)
        | fail)
    · have X1 := Lib.hid ((Row.fresh u1 102 #[.int .i64 k.n, .int .i64 k.a, .int .i64 k.p, .int .i64 k.g]).alloc (.cells #[.int .i64 r.f, .int .i64 r.c] 39))
      have X2 := Lib.hid (fresh_at (u1.alloc (.cells #[.int .i64 k.n, .int .i64 k.a, .int .i64 k.p, .int .i64 k.g] 102)) 39 #[.int .i64 r.f, .int .i64 r.c] (u1.heap.size + 1) (by simp))
      have X3 := Lib.hid ((O1.out.alloc (.cells #[.int .i64 k.n, .int .i64 k.a, .int .i64 k.p, .int .i64 k.g] 102)).alloc (.cells #[.int .i64 r.f, .int .i64 r.c] 39))
      go_wp2_with fail
      go_meet
      case rel => exact ⟨u1.heap.size, u1.heap.size + 1, rfl, rfl, rfl, O1.out.size, Nat.le_succ_of_le O1.out.size, X1.out, X2.out, X3.out⟩
    · have X1 := Lib.hid (fresh_at (u1.alloc (.cells #[.int .i64 r.f, .int .i64 r.c] 39)) 102 #[.int .i64 k.n, .int .i64 k.a, .int .i64 k.p, .int .i64 k.g] (u1.heap.size + 1) (by simp))
      have X2 := Lib.hid ((Row.fresh u1 39 #[.int .i64 r.f, .int .i64 r.c]).alloc (.cells #[.int .i64 k.n, .int .i64 k.a, .int .i64 k.p, .int .i64 k.g] 102))
      have X3 := Lib.hid ((O1.out.alloc (.cells #[.int .i64 r.f, .int .i64 r.c] 39)).alloc (.cells #[.int .i64 k.n, .int .i64 k.a, .int .i64 k.p, .int .i64 k.g] 102))
      go_wp2_with fail
      go_meet
      case rel => exact ⟨u1.heap.size + 1, u1.heap.size, rfl, rfl, rfl, Nat.le_succ_of_le O1.out.size, O1.out.size, X1.out, X2.out, X3.out⟩
    · have X1 := Lib.hid (show Row (((((u1.setCell ⟨v1.heap.size, 0, none⟩ (.int .i64 k.n)).setCell ⟨v1.heap.size, 1, none⟩ (.int .i64 k.a)).setCell ⟨v1.heap.size, 2, none⟩ (.int .i64 k.p)).setCell ⟨v1.heap.size, 3, none⟩ (.int .i64 k.g)).alloc (.cells #[.int .i64 r.f, .int .i64 r.c] 39)) v1.heap.size 102 #[.int .i64 k.n, .int .i64 k.a, .int .i64 k.p, .int .i64 k.g] from ((((FAR.out.put 0 (.int .i64 k.n)).put 1 (.int .i64 k.a)).put 2 (.int .i64 k.p)).put 3 (.int .i64 k.g)).alloc (.cells #[.int .i64 r.f, .int .i64 r.c] 39))
      have X2 := Lib.hid (fresh_at ((((u1.setCell ⟨v1.heap.size, 0, none⟩ (.int .i64 k.n)).setCell ⟨v1.heap.size, 1, none⟩ (.int .i64 k.a)).setCell ⟨v1.heap.size, 2, none⟩ (.int .i64 k.p)).setCell ⟨v1.heap.size, 3, none⟩ (.int .i64 k.g)) 39 #[.int .i64 r.f, .int .i64 r.c] u1.heap.size (by simp [World.setCell]))
      have X3 := Lib.hid (((((O1.out.new le0 0 (.int .i64 k.n)).new le0 1 (.int .i64 k.a)).new le0 2 (.int .i64 k.p)).new le0 3 (.int .i64 k.g)).alloc (.cells #[.int .i64 r.f, .int .i64 r.c] 39))
      go_wp2_with fail
      go_meet
      case rel => exact ⟨v1.heap.size, u1.heap.size, rfl, rfl, rfl, le0, O1.out.size, X1.out, X2.out, X3.out⟩
    · have X1 := Lib.hid (show Row ((((((u1.setCell ⟨v1.heap.size, 0, none⟩ (.int .i64 k.n)).setCell ⟨v1.heap.size, 1, none⟩ (.int .i64 k.a)).setCell ⟨v1.heap.size, 2, none⟩ (.int .i64 k.p)).setCell ⟨v1.heap.size, 3, none⟩ (.int .i64 k.g)).setCell ⟨(v1.heap.size + 1), 0, none⟩ (.int .i64 r.f)).setCell ⟨(v1.heap.size + 1), 1, none⟩ (.int .i64 r.c)) v1.heap.size 102 #[.int .i64 k.n, .int .i64 k.a, .int .i64 k.p, .int .i64 k.g] from ((((((FAR.out.put 0 (.int .i64 k.n)).put 1 (.int .i64 k.a)).put 2 (.int .i64 k.p)).put 3 (.int .i64 k.g)).far (p := ⟨(v1.heap.size + 1), 0, none⟩) (show v1.heap.size ≠ v1.heap.size + 1 by omega) (.int .i64 r.f)).far (p := ⟨(v1.heap.size + 1), 1, none⟩) (show v1.heap.size ≠ v1.heap.size + 1 by omega) (.int .i64 r.c)))
      have X2 := Lib.hid (show Row ((((((u1.setCell ⟨v1.heap.size, 0, none⟩ (.int .i64 k.n)).setCell ⟨v1.heap.size, 1, none⟩ (.int .i64 k.a)).setCell ⟨v1.heap.size, 2, none⟩ (.int .i64 k.p)).setCell ⟨v1.heap.size, 3, none⟩ (.int .i64 k.g)).setCell ⟨(v1.heap.size + 1), 0, none⟩ (.int .i64 r.f)).setCell ⟨(v1.heap.size + 1), 1, none⟩ (.int .i64 r.c)) (v1.heap.size + 1) 39 #[.int .i64 r.f, .int .i64 r.c] from ((((((FBR.out.far (p := ⟨v1.heap.size, 0, none⟩) (show v1.heap.size + 1 ≠ v1.heap.size by omega) (.int .i64 k.n)).far (p := ⟨v1.heap.size, 1, none⟩) (show v1.heap.size + 1 ≠ v1.heap.size by omega) (.int .i64 k.a)).far (p := ⟨v1.heap.size, 2, none⟩) (show v1.heap.size + 1 ≠ v1.heap.size by omega) (.int .i64 k.p)).far (p := ⟨v1.heap.size, 3, none⟩) (show v1.heap.size + 1 ≠ v1.heap.size by omega) (.int .i64 k.g)).put 0 (.int .i64 r.f)).put 1 (.int .i64 r.c)))
      have X3 := Lib.hid ((((((O1.out.new le0 0 (.int .i64 k.n)).new le0 1 (.int .i64 k.a)).new le0 2 (.int .i64 k.p)).new le0 3 (.int .i64 k.g)).new le1 0 (.int .i64 r.f)).new le1 1 (.int .i64 r.c))
      go_wp2_with fail
      go_meet
      case rel => exact ⟨v1.heap.size, (v1.heap.size + 1), rfl, rfl, rfl, le0, le1, X1.out, X2.out, X3.out⟩
    · have X1 := Lib.hid (fresh_at ((u1.setCell ⟨v1.heap.size, 0, none⟩ (.int .i64 r.f)).setCell ⟨v1.heap.size, 1, none⟩ (.int .i64 r.c)) 102 #[.int .i64 k.n, .int .i64 k.a, .int .i64 k.p, .int .i64 k.g] u1.heap.size (by simp [World.setCell]))
      have X2 := Lib.hid (show Row (((u1.setCell ⟨v1.heap.size, 0, none⟩ (.int .i64 r.f)).setCell ⟨v1.heap.size, 1, none⟩ (.int .i64 r.c)).alloc (.cells #[.int .i64 k.n, .int .i64 k.a, .int .i64 k.p, .int .i64 k.g] 102)) v1.heap.size 39 #[.int .i64 r.f, .int .i64 r.c] from ((FBR.out.put 0 (.int .i64 r.f)).put 1 (.int .i64 r.c)).alloc (.cells #[.int .i64 k.n, .int .i64 k.a, .int .i64 k.p, .int .i64 k.g] 102))
      have X3 := Lib.hid (((O1.out.new le0 0 (.int .i64 r.f)).new le0 1 (.int .i64 r.c)).alloc (.cells #[.int .i64 k.n, .int .i64 k.a, .int .i64 k.p, .int .i64 k.g] 102))
      go_wp2_with fail
      go_meet
      case rel => exact ⟨u1.heap.size, v1.heap.size, rfl, rfl, rfl, O1.out.size, le0, X1.out, X2.out, X3.out⟩
    · have X1 := Lib.hid (show Row ((((((u1.setCell ⟨(v1.heap.size + 1), 0, none⟩ (.int .i64 k.n)).setCell ⟨(v1.heap.size + 1), 1, none⟩ (.int .i64 k.a)).setCell ⟨(v1.heap.size + 1), 2, none⟩ (.int .i64 k.p)).setCell ⟨(v1.heap.size + 1), 3, none⟩ (.int .i64 k.g)).setCell ⟨v1.heap.size, 0, none⟩ (.int .i64 r.f)).setCell ⟨v1.heap.size, 1, none⟩ (.int .i64 r.c)) (v1.heap.size + 1) 102 #[.int .i64 k.n, .int .i64 k.a, .int .i64 k.p, .int .i64 k.g] from ((((((FAR.out.put 0 (.int .i64 k.n)).put 1 (.int .i64 k.a)).put 2 (.int .i64 k.p)).put 3 (.int .i64 k.g)).far (p := ⟨v1.heap.size, 0, none⟩) (show v1.heap.size + 1 ≠ v1.heap.size by omega) (.int .i64 r.f)).far (p := ⟨v1.heap.size, 1, none⟩) (show v1.heap.size + 1 ≠ v1.heap.size by omega) (.int .i64 r.c)))
      have X2 := Lib.hid (show Row ((((((u1.setCell ⟨(v1.heap.size + 1), 0, none⟩ (.int .i64 k.n)).setCell ⟨(v1.heap.size + 1), 1, none⟩ (.int .i64 k.a)).setCell ⟨(v1.heap.size + 1), 2, none⟩ (.int .i64 k.p)).setCell ⟨(v1.heap.size + 1), 3, none⟩ (.int .i64 k.g)).setCell ⟨v1.heap.size, 0, none⟩ (.int .i64 r.f)).setCell ⟨v1.heap.size, 1, none⟩ (.int .i64 r.c)) v1.heap.size 39 #[.int .i64 r.f, .int .i64 r.c] from ((((((FBR.out.far (p := ⟨(v1.heap.size + 1), 0, none⟩) (show v1.heap.size ≠ v1.heap.size + 1 by omega) (.int .i64 k.n)).far (p := ⟨(v1.heap.size + 1), 1, none⟩) (show v1.heap.size ≠ v1.heap.size + 1 by omega) (.int .i64 k.a)).far (p := ⟨(v1.heap.size + 1), 2, none⟩) (show v1.heap.size ≠ v1.heap.size + 1 by omega) (.int .i64 k.p)).far (p := ⟨(v1.heap.size + 1), 3, none⟩) (show v1.heap.size ≠ v1.heap.size + 1 by omega) (.int .i64 k.g)).put 0 (.int .i64 r.f)).put 1 (.int .i64 r.c)))
      have X3 := Lib.hid ((((((O1.out.new le1 0 (.int .i64 k.n)).new le1 1 (.int .i64 k.a)).new le1 2 (.int .i64 k.p)).new le1 3 (.int .i64 k.g)).new le0 0 (.int .i64 r.f)).new le0 1 (.int .i64 r.c))
      go_wp2_with fail
      go_meet
      case rel => exact ⟨(v1.heap.size + 1), v1.heap.size, rfl, rfl, rfl, le1, le0, X1.out, X2.out, X3.out⟩
  case rest =>
    obtain ⟨p1, p2, rfl, rfl, rfl, lp, lp', rp, rp', o⟩ := hcut
    have H2 := Lib.hid (H1.out.still o)
    have RX2 := Lib.hid (o.still RX.out)
    have O2 := Lib.hid (O1.out.same o)
    have P1 := Lib.hid rp
    have P2 := Lib.hid rp'
    have lx0 := RX.out.lt
    have lg1 : g < v1.heap.size := H1.out.lt g hMg
    have lq1 : q < v1.heap.size := H1.out.lt q H1.out.mq
    have n1 : g ≠ q := H2.out.gq rfl
    have n2 : q ≠ g := fun e => n1 e.symm
    have n3 : g ≠ p1 := by omega
    have n4 : p1 ≠ g := by omega
    have n5 : g ≠ p2 := by omega
    have n6 : p2 ≠ g := by omega
    have nx : g ≠ x0 := by have := ML.out g hMg; omega
    have nx' : x0 ≠ g := fun e => nx e.symm
    have nx2 : x0 ≠ p2 := by omega
    have nx3 : x0 ≠ q := by have := ML.out q H1.out.mq; omega
    obtain ⟨a0, a1, a2, a3⟩ := rp.four
    obtain ⟨g0, g1, g2, g3, g4, g5⟩ := H2.out.own.1.six10 HI.out
    have q6 : wc.cell? ⟨q, 6, none⟩ = some (.int .i64 t.uses) := by rw [H2.out.row.cell]; rfl
    have zg := fun j => H2.out.own.1.frozen j
    clear lp lp' rp rp' o lx0 lg1 lq1 H1 O1
    go_wp2_with fail
    go_region
    have OG := Lib.hid (((((((Only.refl (fun j => j = g) wc).into rfl (i * 6 + 1) (.int .i64 k.n)).into rfl (i * 6 + 1 + 1) (.int .i64 k.a)).into rfl (i * 6 + 1 + 2) (.int .i64 k.p)).into rfl (i * 6 + 1 + 3) (.int .i64 k.g)).into rfl (i * 6 + 5) (.int .i64 t.uses)).drew)
    have HO : Owns ((((((wc.setCell ⟨g, i * 6 + 1, none⟩ (.int .i64 k.n)).setCell ⟨g, i * 6 + 1 + 1, none⟩ (.int .i64 k.a)).setCell ⟨g, i * 6 + 1 + 2, none⟩ (.int .i64 k.p)).setCell ⟨g, i * 6 + 1 + 3, none⟩ (.int .i64 k.g)).setCell ⟨g, i * 6 + 5, none⟩ (.int .i64 t.uses)).drew) 0 118 6 Sm.cells (.slice (some ⟨g, 0, none⟩) t.ss.length cap) (t.ss.set i ⟨s.id, k, t.uses⟩) := by
      have h1 := (H2.out.own.1.flow10 HI.out k).used10 (k := i) (s := ⟨s.id, k, s.used⟩) (by simp [lt_of_get HI.out]) t.uses
      rw [set_set] at h1
      exact h1
    have H3 := Lib.hid (H2.out.same_row OG.out HO)
    have O3 := Lib.hid (O2.out.up.trans OG.out (fun j _ e => by subst e; exact hMg))
    have RX3 := Lib.hid (OG.out.row RX2.out nx')
    have P3 := Lib.hid (OG.out.row P2.out n6)
    clear a0 a1 a2 a3 g0 g1 g2 g3 g4 g5 q6 zg HO OG P1 P2 RX2 O2 H2
    generalize (((((wc.setCell ⟨g, i * 6 + 1, none⟩ (.int .i64 k.n)).setCell ⟨g, i * 6 + 1 + 1, none⟩ (.int .i64 k.a)).setCell ⟨g, i * 6 + 1 + 2, none⟩ (.int .i64 k.p)).setCell ⟨g, i * 6 + 1 + 3, none⟩ (.int .i64 k.g)).setCell ⟨g, i * 6 + 5, none⟩ (.int .i64 t.uses)).drew = w3 at *
    obtain ⟨b0, b1⟩ := P3.out.two
    obtain ⟨x1, x2, x3⟩ := RX3.out.three
    have zx := fun j => RX3.out.frozen j
    obtain ⟨g0, _⟩ := H3.out.own.1.six10 (k := i) (s := ⟨s.id, k, t.uses⟩) (by simp [lt_of_get HI.out])
    have g0' : w3.cell? ⟨g, i * 6, none⟩ = some (.int .i64 s.id) := g0
    clear g0
    go_wp2_with fail
    go_region
    have E3 := Lib.hid (((RX3.out.put 0 (.int .i64 s.id)).put 1 (.int .i64 r.f)).put 2 (.int .i64 r.c)).drew
    have OX := ((((Only.refl (fun j => j = x0) w3).into rfl 0 (.int .i64 s.id)).into rfl 1 (.int .i64 r.f)).into rfl 2 (.int .i64 r.c)).drew
    have H4 := Lib.hid (H3.out.keep OX (fun j hj e => by have := ML.out j hj; omega))
    have O4 := Lib.hid (O3.out.trans OX (fun j hj e => by have := LX.out; omega))
    clear OX b0 b1 x1 x2 x3 zx g0' O3 H3 RX3 P3
    generalize (((w3.setCell ⟨x0, 0, none⟩ (.int .i64 s.id)).setCell ⟨x0, 1, none⟩ (.int .i64 r.f)).setCell ⟨x0, 2, none⟩ (.int .i64 r.c)).drew = w4 at *
    obtain ⟨x1, x2, x3⟩ := (show Row w4 x0 41 #[.int .i64 s.id, .int .i64 r.f, .int .i64 r.c] from E3.out).three
    go_wp2_with fail
    exact bodyPost_ret (v := .agg #[.int .i64 s.id, .int .i64 r.f, .int .i64 r.c]) (by simp [results, Tryz.results113, go_sem, x1, x2, x3]) rfl ⟨by rw [HR.out], by unfold usedBy; rw [HK.out]; exact H4.out, O4.out⟩
end Go.Proofs.YtlfnncahhbbmpaaGreatDoor

namespace Go.Proofs.YtlfnncahhbbmpaaGreatDoor
open Go.RowKit Go.Maps
set_option linter.unusedVariables false
set_option maxRecDepth 100000

set_option maxRecDepth 100000 in
set_option maxHeartbeats 4000000 in
theorem change_late {q p b L : Nat} {v : Value} {M : Nat → Prop} {c : Cf} {t : Tr} (x : Int) (w : World) (h : StAt w q p b L v M c t) (hf : Fine10 c t) (hu : t.uses ≤ 1000) :
    Calls Tryz.prog 124 #[.pointer (some ⟨q, 0, none⟩), .int .i64 x, .func (.func 125) #[] #[]] w fun e w' => e = .returned (.bool (tuneB t x)) ∧ StAt w' q p b L v M c (tuneS t x true) ∧ Only M w w' := by
  have hmf : ∀ (fn : Fn) (first cap : Array Value) (w : World), (Instr.makeFunc fn first cap).run Tryz.prog w = .ok (.func fn first cap) w := fun _ _ _ _ => rfl
  obtain ⟨A, cap, rfl, hh, ha⟩ := h.own.form
  have hlen : t.ss.length ≤ 16 := by have := hf.few; have := hf.ok.m16; omega
  have lq := h.row.lt
  have r1 := Row.fresh w 3 #[.int .i64 x]
  have oa := (Only.refl none_ w).alloc (.cells #[.int .i64 x] 3)
  have H1 := Lib.hid (h.still oa)
  have FD := Lib.hid (sfind_any A cap t.ss (w.alloc (.cells #[.int .i64 x] 3)) 155 #[.pointer (some ⟨w.heap.size, 0, none⟩)] (fun _ => 0) (fun s => (s.id : Int) == x) (hh.still8 oa) (by omega)
    (fun s hs => ⟨by decide, by decide⟩) (fun a w => rfl)
    (fun s hs w' o => change1_any s w.heap.size x w' (o.cell (by rw [r1.cell]; rfl) (fun s => s)) (Nat.lt_of_lt_of_le r1.lt o.size)))
  have c4 : (w.alloc (.cells #[.int .i64 x] 3)).cell? ⟨q, 4, none⟩ = some (.slice A t.ss.length cap) := by rw [H1.out.row.cell]; rfl
  have OA := Lib.hid oa
  have MAY := Lib.hid hf.may
  have E0 : ∀ a g, Best (fun _ => 0) (fun s => (s.id : Int) == x) t.ss t.ss.length a g → a = placeI (idOf t.ss x) := fun a g hb => best_id hb
  have EE := Lib.hid E0
  clear h hh hf r1 oa E0
  cases hid : idOf t.ss x with
  | none =>
    have EB := Lib.hid (show tuneB t x = false ∧ tuneS t x true = t from by unfold tuneB tuneS; rw [hid]; exact ⟨rfl, rfl⟩)
    have PI : placeI (idOf t.ss x) = -1 := by rw [hid]; rfl
    rw [PI] at EE
    clear hid PI
    go_enter Tryz.func124, Tryz.ntmps124
    go_wp2_with fail
    (with_reducible refine FD.out.mono ?_)
    rintro e w2 ⟨⟨a, g, rfl, hb⟩, o⟩
    obtain rfl := EE.out a g hb
    have O2 := Lib.hid (OA.out.same o)
    have H2 := Lib.hid (H1.out.still o)
    clear hb o
    go_wp2_with fail
    go_ret
    exact ⟨by rw [EB.out.1]; rfl, by rw [EB.out.2]; exact H2.out, O2.out.up⟩
  | some i =>
    obtain ⟨s, hs, _⟩ := id_of hid
    have hil := lt_of_get hs
    obtain ⟨g, rfl, lg, hcap, hmx, hMg⟩ := ha (fun e => by rw [e] at hil; exact absurd hil (Nat.not_lt_zero _))
    have EB := Lib.hid (show tuneB t x = true ∧ tuneS t x true = ⟨t.ss.set i ⟨s.id, s.f.late, s.used⟩, t.es, t.uses, t.begun⟩ from by unfold tuneB tuneS; rw [hid]; exact ⟨rfl, by simp only [hs]; rfl⟩)
    have PI : placeI (idOf t.ss x) = i := by rw [hid]; rfl
    rw [PI] at EE
    have C := Lib.hid (fun w => late_any s.f w (May.wf (MAY.out s (List.mem_of_getElem? hs))))
    unfold Fl.val at C
    have HS := Lib.hid hs
    have ng : ((i : Int) == -1) = false := by simp
    clear hid PI ha hs
    generalize s.f.late = k at *
    go_enter Tryz.func124, Tryz.ntmps124
    go_wp2_with fail
    (with_reducible refine FD.out.mono ?_)
    rintro e w2 ⟨⟨a, g', rfl, hb⟩, o⟩
    obtain rfl := EE.out a g' hb
    have O2 := Lib.hid (OA.out.same o)
    have H2 := Lib.hid (H1.out.still o)
    clear hb o H1 OA c4 FD EE
    go_wp2_with fail
    have OD := Lib.hid (Only.refl none_ w2).drew
    have KS := Lib.hid (fun w' (o : Only none_ w2 w') => (show w'.cell? ⟨q, 4, none⟩ = some (.slice (some ⟨g, 0, none⟩) t.ss.length cap) ∧ w'.cell? ⟨g, i * 6 + 1, none⟩ = some (.int .i64 s.f.n) ∧ w'.cell? ⟨g, i * 6 + 2, none⟩ = some (.int .i64 s.f.a) ∧ w'.cell? ⟨g, i * 6 + 3, none⟩ = some (.int .i64 s.f.p) ∧ w'.cell? ⟨g, i * 6 + 4, none⟩ = some (.int .i64 s.f.g) ∧ (∀ j, w'.frozen? ⟨g, j, none⟩ = false) from by
      have K := H2.out.still o
      obtain ⟨_, c1, c2, c3, c4, _⟩ := K.own.1.six10 HS.out
      exact ⟨by rw [K.row.cell]; rfl, c1, c2, c3, c4, fun j => K.own.1.frozen j⟩))
    obtain ⟨c4, c1, c2, c3, c5, z0⟩ := KS.out _ OD.out
    go_region_with (first
      | (go_at_call 125; (with_reducible refine (C.out _).mono ?_); rintro e w3 ⟨rfl, o3⟩
         have O3 := Lib.hid (OD.out.same o3)
         obtain ⟨e4, e1, e2, e3, e5, y0⟩ := KS.out _ O3.out
         clear o3)
      | fail)
    all_goals
      have K := H2.out.still O3.out
      have OG := Lib.hid (((((Only.refl (fun j => j = g) w3).into rfl (i * 6 + 1) (.int .i64 k.n)).into rfl (i * 6 + 1 + 1) (.int .i64 k.a)).into rfl (i * 6 + 1 + 2) (.int .i64 k.p)).into rfl (i * 6 + 1 + 3) (.int .i64 k.g))
      have HO : Owns ((((w3.setCell ⟨g, i * 6 + 1, none⟩ (.int .i64 k.n)).setCell ⟨g, i * 6 + 1 + 1, none⟩ (.int .i64 k.a)).setCell ⟨g, i * 6 + 1 + 2, none⟩ (.int .i64 k.p)).setCell ⟨g, i * 6 + 1 + 3, none⟩ (.int .i64 k.g)) 0 118 6 Sm.cells (.slice (some ⟨g, 0, none⟩) t.ss.length cap) (t.ss.set i ⟨s.id, k, s.used⟩) := K.own.1.flow10 HS.out k
      have H4 := Lib.hid (K.same_row OG.out HO)
      have O4 := Lib.hid ((O2.out.same O3.out).up.trans (S := M) OG.out (fun j _ e => by subst e; exact hMg))
      clear K HO OG e4 e1 e2 e3 e5 y0 c4 c1 c2 c3 c5 z0
      go_wp2_with fail
      go_ret
      exact ⟨by rw [EB.out.1]; rfl, by rw [EB.out.2]; exact H4.out, O4.out⟩

theorem late10_any {q : Nat} {M : Nat → Prop} {c : Cf} {t : Tr} (x : Int) (w : World) (h : ST w q M c t) (hf : Fine10 c t) (hu : t.uses ≤ 1000) :
    Calls Tryz.prog 83 #[.pointer (some ⟨q, 0, none⟩), .int .i64 x] w fun e w' => e = .returned (.bool (tuneB t x)) ∧ ST w' q M c (tuneS t x true) ∧ Only M w w' := by
  obtain ⟨p, b, L, v, h⟩ := h
  have C := Lib.hid (change_late x w h hf hu)
  clear h hf
  go_enter Tryz.func83, Tryz.ntmps83
  go_wp2_with fail
  (with_reducible refine C.out.mono ?_)
  rintro e w1 ⟨rfl, h, o⟩
  have H := Lib.hid h
  have O := Lib.hid o
  clear h o
  go_wp2_with fail
  go_ret
  exact ⟨rfl, ⟨p, b, L, v, H.out⟩, O.out⟩

set_option maxRecDepth 100000 in
set_option maxHeartbeats 4000000 in
theorem change_waste {q p b L : Nat} {v : Value} {M : Nat → Prop} {c : Cf} {t : Tr} (x : Int) (w : World) (h : StAt w q p b L v M c t) (hf : Fine10 c t) (hu : t.uses ≤ 1000) :
    Calls Tryz.prog 124 #[.pointer (some ⟨q, 0, none⟩), .int .i64 x, .func (.func 126) #[] #[]] w fun e w' => e = .returned (.bool (tuneB t x)) ∧ StAt w' q p b L v M c (tuneS t x false) ∧ Only M w w' := by
  have hmf : ∀ (fn : Fn) (first cap : Array Value) (w : World), (Instr.makeFunc fn first cap).run Tryz.prog w = .ok (.func fn first cap) w := fun _ _ _ _ => rfl
  obtain ⟨A, cap, rfl, hh, ha⟩ := h.own.form
  have hlen : t.ss.length ≤ 16 := by have := hf.few; have := hf.ok.m16; omega
  have lq := h.row.lt
  have r1 := Row.fresh w 3 #[.int .i64 x]
  have oa := (Only.refl none_ w).alloc (.cells #[.int .i64 x] 3)
  have H1 := Lib.hid (h.still oa)
  have FD := Lib.hid (sfind_any A cap t.ss (w.alloc (.cells #[.int .i64 x] 3)) 155 #[.pointer (some ⟨w.heap.size, 0, none⟩)] (fun _ => 0) (fun s => (s.id : Int) == x) (hh.still8 oa) (by omega)
    (fun s hs => ⟨by decide, by decide⟩) (fun a w => rfl)
    (fun s hs w' o => change1_any s w.heap.size x w' (o.cell (by rw [r1.cell]; rfl) (fun s => s)) (Nat.lt_of_lt_of_le r1.lt o.size)))
  have c4 : (w.alloc (.cells #[.int .i64 x] 3)).cell? ⟨q, 4, none⟩ = some (.slice A t.ss.length cap) := by rw [H1.out.row.cell]; rfl
  have OA := Lib.hid oa
  have MAY := Lib.hid hf.may
  have E0 : ∀ a g, Best (fun _ => 0) (fun s => (s.id : Int) == x) t.ss t.ss.length a g → a = placeI (idOf t.ss x) := fun a g hb => best_id hb
  have EE := Lib.hid E0
  clear h hh hf r1 oa E0
  cases hid : idOf t.ss x with
  | none =>
    have EB := Lib.hid (show tuneB t x = false ∧ tuneS t x false = t from by unfold tuneB tuneS; rw [hid]; exact ⟨rfl, rfl⟩)
    have PI : placeI (idOf t.ss x) = -1 := by rw [hid]; rfl
    rw [PI] at EE
    clear hid PI
    go_enter Tryz.func124, Tryz.ntmps124
    go_wp2_with fail
    (with_reducible refine FD.out.mono ?_)
    rintro e w2 ⟨⟨a, g, rfl, hb⟩, o⟩
    obtain rfl := EE.out a g hb
    have O2 := Lib.hid (OA.out.same o)
    have H2 := Lib.hid (H1.out.still o)
    clear hb o
    go_wp2_with fail
    go_ret
    exact ⟨by rw [EB.out.1]; rfl, by rw [EB.out.2]; exact H2.out, O2.out.up⟩
  | some i =>
    obtain ⟨s, hs, _⟩ := id_of hid
    have hil := lt_of_get hs
    obtain ⟨g, rfl, lg, hcap, hmx, hMg⟩ := ha (fun e => by rw [e] at hil; exact absurd hil (Nat.not_lt_zero _))
    have EB := Lib.hid (show tuneB t x = true ∧ tuneS t x false = ⟨t.ss.set i ⟨s.id, s.f.waste, s.used⟩, t.es, t.uses, t.begun⟩ from by unfold tuneB tuneS; rw [hid]; exact ⟨rfl, by simp only [hs]; rfl⟩)
    have PI : placeI (idOf t.ss x) = i := by rw [hid]; rfl
    rw [PI] at EE
    have C := Lib.hid (fun w => waste_any s.f w (May.wf (MAY.out s (List.mem_of_getElem? hs))))
    unfold Fl.val at C
    have HS := Lib.hid hs
    have ng : ((i : Int) == -1) = false := by simp
    clear hid PI ha hs
    generalize s.f.waste = k at *
    go_enter Tryz.func124, Tryz.ntmps124
    go_wp2_with fail
    (with_reducible refine FD.out.mono ?_)
    rintro e w2 ⟨⟨a, g', rfl, hb⟩, o⟩
    obtain rfl := EE.out a g' hb
    have O2 := Lib.hid (OA.out.same o)
    have H2 := Lib.hid (H1.out.still o)
    clear hb o H1 OA c4 FD EE
    go_wp2_with fail
    have OD := Lib.hid (Only.refl none_ w2).drew
    have KS := Lib.hid (fun w' (o : Only none_ w2 w') => (show w'.cell? ⟨q, 4, none⟩ = some (.slice (some ⟨g, 0, none⟩) t.ss.length cap) ∧ w'.cell? ⟨g, i * 6 + 1, none⟩ = some (.int .i64 s.f.n) ∧ w'.cell? ⟨g, i * 6 + 2, none⟩ = some (.int .i64 s.f.a) ∧ w'.cell? ⟨g, i * 6 + 3, none⟩ = some (.int .i64 s.f.p) ∧ w'.cell? ⟨g, i * 6 + 4, none⟩ = some (.int .i64 s.f.g) ∧ (∀ j, w'.frozen? ⟨g, j, none⟩ = false) from by
      have K := H2.out.still o
      obtain ⟨_, c1, c2, c3, c4, _⟩ := K.own.1.six10 HS.out
      exact ⟨by rw [K.row.cell]; rfl, c1, c2, c3, c4, fun j => K.own.1.frozen j⟩))
    obtain ⟨c4, c1, c2, c3, c5, z0⟩ := KS.out _ OD.out
    go_region_with (first
      | (go_at_call 126; (with_reducible refine (C.out _).mono ?_); rintro e w3 ⟨rfl, o3⟩
         have O3 := Lib.hid (OD.out.same o3)
         obtain ⟨e4, e1, e2, e3, e5, y0⟩ := KS.out _ O3.out
         clear o3)
      | fail)
    all_goals
      have K := H2.out.still O3.out
      have OG := Lib.hid (((((Only.refl (fun j => j = g) w3).into rfl (i * 6 + 1) (.int .i64 k.n)).into rfl (i * 6 + 1 + 1) (.int .i64 k.a)).into rfl (i * 6 + 1 + 2) (.int .i64 k.p)).into rfl (i * 6 + 1 + 3) (.int .i64 k.g))
      have HO : Owns ((((w3.setCell ⟨g, i * 6 + 1, none⟩ (.int .i64 k.n)).setCell ⟨g, i * 6 + 1 + 1, none⟩ (.int .i64 k.a)).setCell ⟨g, i * 6 + 1 + 2, none⟩ (.int .i64 k.p)).setCell ⟨g, i * 6 + 1 + 3, none⟩ (.int .i64 k.g)) 0 118 6 Sm.cells (.slice (some ⟨g, 0, none⟩) t.ss.length cap) (t.ss.set i ⟨s.id, k, s.used⟩) := K.own.1.flow10 HS.out k
      have H4 := Lib.hid (K.same_row OG.out HO)
      have O4 := Lib.hid ((O2.out.same O3.out).up.trans (S := M) OG.out (fun j _ e => by subst e; exact hMg))
      clear K HO OG e4 e1 e2 e3 e5 y0 c4 c1 c2 c3 c5 z0
      go_wp2_with fail
      go_ret
      exact ⟨by rw [EB.out.1]; rfl, by rw [EB.out.2]; exact H4.out, O4.out⟩

theorem waste10_any {q : Nat} {M : Nat → Prop} {c : Cf} {t : Tr} (x : Int) (w : World) (h : ST w q M c t) (hf : Fine10 c t) (hu : t.uses ≤ 1000) :
    Calls Tryz.prog 84 #[.pointer (some ⟨q, 0, none⟩), .int .i64 x] w fun e w' => e = .returned (.bool (tuneB t x)) ∧ ST w' q M c (tuneS t x false) ∧ Only M w w' := by
  obtain ⟨p, b, L, v, h⟩ := h
  have C := Lib.hid (change_waste x w h hf hu)
  clear h hf
  go_enter Tryz.func84, Tryz.ntmps84
  go_wp2_with fail
  (with_reducible refine C.out.mono ?_)
  rintro e w1 ⟨rfl, h, o⟩
  have H := Lib.hid h
  have O := Lib.hid o
  clear h o
  go_wp2_with fail
  go_ret
  exact ⟨rfl, ⟨p, b, L, v, H.out⟩, O.out⟩

end Go.Proofs.YtlfnncahhbbmpaaGreatDoor

namespace Go.Proofs.YtlfnncahhbbmpaaGreatDoor
open Go.RowKit Go.Maps
set_option linter.unusedVariables false
set_option maxRecDepth 100000

theorem uses_fine {c : Cf} {t : Tr} (h : Fine10 c t) : Fine10 c ⟨t.ss, t.es, t.uses + 1, t.begun⟩ :=
  ⟨h.ok, h.rank, h.ids, fun s hs => ⟨(h.uses s hs).1, Nat.le_succ_of_le (h.uses s hs).2⟩, h.may, h.few, h.tab, Nat.le_succ_of_le h.beg⟩
theorem look_fine {c : Cf} {t : Tr} (h : Fine10 c t) (f n : Int) : Fine10 c ⟨t.ss, lookT c.size c.life t.es f n, t.uses, t.begun⟩ :=
  ⟨h.ok, h.rank, h.ids, h.uses, h.may, h.few, lookT_fine h.tab, h.beg⟩
theorem StAt.more {w : World} {q p b L : Nat} {v : Value} {M : Nat → Prop} {c : Cf} {t : Tr} (h : StAt w q p b L v M c t) : StAt (w.setCell ⟨q, 6, none⟩ (.int .i64 ((t.uses : Int) + 1))) q p b L v M c ⟨t.ss, t.es, t.uses + 1, t.begun⟩ := by
  have o := (Only.refl (fun k => k = q) w).into rfl 6 (.int .i64 ((t.uses : Int) + 1))
  have e : (((t.uses + 1 : Nat) : Int)) = (t.uses : Int) + 1 := by omega
  refine ⟨?_, h.own.keep' o (fun g hg => h.gq hg), h.tab.keep o (fun k => h.qp k.symm) (fun k => h.qb k.symm), Nat.le_succ_of_le h.le, h.mq, h.mp, h.mb, fun g hg => Nat.lt_of_lt_of_le (h.lt g hg) o.size⟩
  have r := h.row.put 6 (.int .i64 ((t.uses : Int) + 1))
  rw [← e] at r ⊢
  exact r
theorem set_last {α : Type} (l : List α) (a b : α) : (l ++ [a]).set l.length b = l ++ [b] := by simp
/-- what an access answers, and leaves -/
def Acc (c : Cf) (t : Tr) (f n : Int) (e : Ending) : Prop := e = .returned (.tuple #[.agg #[.int .i64 (accI c t f n), .int .i64 (accR c t f n).f, .int .i64 (accR c t f n).c], .int .i64 (accC c.blk f n)])
def accTwo (c : Cf) (t : Tr) (f n : Int) (e : Ending) (w : World) (q : Nat) (M : Nat → Prop) (w' : World) : Prop := Acc c t f n e ∧ STto w q M c (accS c t f n) w'

set_option maxHeartbeats 1000000 in
theorem acc_no {q : Nat} {M : Nat → Prop} {c : Cf} {t : Tr} (f n : Int) (w : World) (h : ST w q M c t) (hf : Fine10 c t) (hm : mayAcc c.blk f n = false) :
    Calls Tryz.prog 73 #[.pointer (some ⟨q, 0, none⟩), .int .i64 f, .int .i64 n] w fun e w' => accTwo c t f n e w q M w' := by
  have hn : ¬ (1 ≤ n ∧ n ≤ 8 ∧ 0 ≤ f ∧ f + n ≤ c.blk) := of_decide_eq_false hm
  have A := Lib.hid (show accI c t f n = 0 ∧ accR c t f n = ⟨0, 0⟩ ∧ accC c.blk f n = 1 ∧ accS c t f n = t from by
    unfold accI accR accC accS; rw [hm]; exact ⟨rfl, rfl, rfl, rfl⟩)
  have H := Lib.hid h
  have B := hf.ok.b256
  obtain ⟨p, b, L, v, h⟩ := h
  have oa := Lib.hid ((Only.refl none_ w).alloc (.cells #[.int .i64 0, .int .i64 0, .int .i64 0] 41))
  have c2 : (w.alloc (.cells #[.int .i64 0, .int .i64 0, .int .i64 0] 41)).cell? ⟨q, 2, none⟩ = some (.int .i64 c.blk) := by rw [(h.still oa.out).row.cell]; rfl
  clear h hm
  have FIN : ∀ w', Only none_ w w' → STto w q M c t w' := fun w' o => ⟨⟨M, H.out.still o, fun g hg => .inl hg⟩, o.up⟩
  have FI := Lib.hid FIN
  clear FIN
  by_cases h0 : n < 1
  · have d0 : decide (n < 1) = true := by simpa using h0
    clear hn B h0
    go_enter Tryz.func73, Tryz.ntmps73
    go_wp2_with fail
    exact bodyPost_ret (v := .tuple #[.agg #[.int .i64 0, .int .i64 0, .int .i64 0], .int .i64 1]) (by simp [results, Tryz.results73, go_sem]) rfl ⟨by unfold Acc; rw [A.out.1, A.out.2.1, A.out.2.2.1]; rfl, by rw [A.out.2.2.2]; exact FI.out _ oa.out⟩
  · have d0 : decide (n < 1) = false := by simpa using h0
    by_cases h1 : 8 < n
    · have d1 : decide (8 < n) = true := by simpa using h1
      clear hn B h0 h1
      go_enter Tryz.func73, Tryz.ntmps73
      go_wp2_with fail
      exact bodyPost_ret (v := .tuple #[.agg #[.int .i64 0, .int .i64 0, .int .i64 0], .int .i64 1]) (by simp [results, Tryz.results73, go_sem]) rfl ⟨by unfold Acc; rw [A.out.1, A.out.2.1, A.out.2.2.1]; rfl, by rw [A.out.2.2.2]; exact FI.out _ oa.out⟩
    · have d1 : decide (8 < n) = false := by simpa using h1
      by_cases h2 : f < 0
      · have d2 : decide (f < 0) = true := by simpa using h2
        clear hn B h0 h1 h2
        go_enter Tryz.func73, Tryz.ntmps73
        go_wp2_with fail
        exact bodyPost_ret (v := .tuple #[.agg #[.int .i64 0, .int .i64 0, .int .i64 0], .int .i64 1]) (by simp [results, Tryz.results73, go_sem]) rfl ⟨by unfold Acc; rw [A.out.1, A.out.2.1, A.out.2.2.1]; rfl, by rw [A.out.2.2.2]; exact FI.out _ oa.out⟩
      · have d2 : decide (f < 0) = false := by simpa using h2
        have hw : IntKind.i64.wrap ((c.blk : Int) - n) = (c.blk : Int) - n := by rw [IntKind.wrap_i64]; omega
        have d3 : decide ((c.blk : Int) - n < f) = true := by simp; omega
        clear hn B h0 h1 h2
        go_enter Tryz.func73, Tryz.ntmps73
        go_wp2_with fail
        exact bodyPost_ret (v := .tuple #[.agg #[.int .i64 0, .int .i64 0, .int .i64 0], .int .i64 1]) (by simp [results, Tryz.results73, go_sem]) rfl ⟨by unfold Acc; rw [A.out.1, A.out.2.1, A.out.2.2.1]; rfl, by rw [A.out.2.2.2]; exact FI.out _ oa.out⟩
set_option maxRecDepth 100000 in
set_option maxHeartbeats 2000000 in
theorem acc_yes {q : Nat} {M : Nat → Prop} {c : Cf} {t : Tr} (f n : Int) (w : World) (h : ST w q M c t) (hf : Fine10 c t) (hu : t.uses ≤ 900) (hm : mayAcc c.blk f n = true) :
    Calls Tryz.prog 73 #[.pointer (some ⟨q, 0, none⟩), .int .i64 f, .int .i64 n] w fun e w' => accTwo c t f n e w q M w' := by
  have hn : 1 ≤ n ∧ n ≤ 8 ∧ 0 ≤ f ∧ f + n ≤ c.blk := mayAcc_iff.1 hm
  have B := hf.ok.b256
  have few := hf.few
  have m16 := hf.ok.m16
  obtain ⟨p, b, L, v, h⟩ := h
  obtain ⟨A0, n0, cap0, rfl⟩ := own_form10 h.own.1
  have H0 := Lib.hid (h.still ((Only.refl none_ w).alloc (.cells #[.int .i64 0, .int .i64 0, .int .i64 0] 41)))
  have RX := Lib.hid (Row.fresh w 41 #[.int .i64 0, .int .i64 0, .int .i64 0])
  have oa := Lib.hid ((Only.refl M w).alloc (.cells #[.int .i64 0, .int .i64 0, .int .i64 0] 41))
  have ML := Lib.hid h.lt
  have HLE := Lib.hid h.le
  have c2 : (w.alloc (.cells #[.int .i64 0, .int .i64 0, .int .i64 0] 41)).cell? ⟨q, 2, none⟩ = some (.int .i64 c.blk) := by rw [H0.out.row.cell]; rfl
  have c6 : (w.alloc (.cells #[.int .i64 0, .int .i64 0, .int .i64 0] 41)).cell? ⟨q, 6, none⟩ = some (.int .i64 t.uses) := by rw [H0.out.row.cell]; rfl
  have z6 : (w.alloc (.cells #[.int .i64 0, .int .i64 0, .int .i64 0] 41)).frozen? ⟨q, 6, none⟩ = false := H0.out.row.frozen 6
  have d0 : decide (n < 1) = false := by simp; omega
  have d1 : decide (8 < n) = false := by simp; omega
  have d2 : decide (f < 0) = false := by simp; omega
  have hw : IntKind.i64.wrap ((c.blk : Int) - n) = (c.blk : Int) - n := by rw [IntKind.wrap_i64]; omega
  have d3 : decide ((c.blk : Int) - n < f) = false := by simp; omega
  have hw2 : IntKind.i64.wrap ((t.uses : Int) + 1) = (t.uses : Int) + 1 := by rw [IntKind.wrap_i64]; omega
  have HM := Lib.hid hm
  have HF := Lib.hid (uses_fine hf)
  have HF0 := Lib.hid hf
  have HN := Lib.hid hn
  have RD := Lib.hid (fun w hh => reader_any (q := q) (p := p) (b := b) (L := L) (v := .slice A0 n0 cap0) (M := M) f w hh HF.out (by show t.uses + 1 ≤ 1000; omega))
  clear h hf hm hn
  go_enter Tryz.func73, Tryz.ntmps73
  go_wp2_with fail
  obtain ⟨x0, hx0⟩ : ∃ x0, w.heap.size = x0 := ⟨_, rfl⟩
  rw [hx0] at RX ML ⊢
  have LX := Lib.hid hx0
  have H1 := Lib.hid H0.out.more
  have O1 := Lib.hid (oa.out.into H0.out.mq 6 (.int .i64 ((t.uses : Int) + 1)))
  have nq : x0 ≠ q := fun e => by have := ML.out q H0.out.mq; omega
  have RX1 := Lib.hid (RX.out.far (p := ⟨q, 6, none⟩) nq (.int .i64 ((t.uses : Int) + 1)))
  clear hx0 c2 c6 z6 H0 RX oa d0 d1 d2 d3 hw hw2
  generalize (w.alloc (.cells #[.int .i64 0, .int .i64 0, .int .i64 0] 41)).setCell ⟨q, 6, none⟩ (.int .i64 ((t.uses : Int) + 1)) = w1 at *
  (with_reducible refine (RD.out _ H1.out).mono ?_)
  rintro e w2 ⟨rfl, o2⟩
  have H2 := Lib.hid (H1.out.still o2)
  have O2 := Lib.hid (O1.out.idle o2)
  have RX2 := Lib.hid (o2.still RX1.out)
  clear o2 H1 O1 RX1 RD
  dsimp only
  cases ht : topOf t.ss f with
  | some i =>
    obtain ⟨s, hs, _⟩ := top_of ht
    have A := Lib.hid (show accI c t f n = s.id ∧ accR c t f n = s.f.readR n c.deg c.blk ∧ accC c.blk f n = 0 ∧ accS c t f n = ⟨t.ss.set i (usedBy c s n (t.uses + 1)), t.es, t.uses + 1, t.begun⟩ from by
      unfold accI accR accC accS; rw [if_pos HM.out, if_pos HM.out, if_pos HM.out, if_pos HM.out, ht]; dsimp only; rw [hs]; exact ⟨rfl, rfl, rfl, rfl⟩)
    have U := Lib.hid (suse_any (t := ⟨t.ss, t.es, t.uses + 1, t.begun⟩) i s n w2 H2.out hs (by show t.uses + 1 ≤ 1000; omega) (by show t.ss.length ≤ 1000; omega))
    have dn : ((i : Int) == -1) = false := by simp
    simp only [placeI]
    clear ht hs
    generalize s.f.readR n c.deg c.blk = r at *
    go_wp2_with fail
    (with_reducible refine U.out.mono ?_)
    rintro e w3 ⟨rfl, h3, o3⟩
    have H3 := Lib.hid h3
    have nx : ¬ M x0 := fun k => by have := ML.out x0 k; omega
    have RX3 := Lib.hid (o3.row RX2.out nx)
    have O3 := Lib.hid (O2.out.same o3)
    clear h3 o3 H2 O2 U RX2
    obtain ⟨x1, x2, x3⟩ := RX3.out.three
    have zx := fun j => RX3.out.frozen j
    go_wp2_with fail
    have E4 := Lib.hid (((RX3.out.put 0 (.int .i64 s.id)).put 1 (.int .i64 r.f)).put 2 (.int .i64 r.c))
    have OX := (((Only.refl (fun j => j = x0) w3).into rfl 0 (.int .i64 s.id)).into rfl 1 (.int .i64 r.f)).into rfl 2 (.int .i64 r.c)
    have H4 := Lib.hid (H3.out.keep OX (fun j hj e => nx (e ▸ hj)))
    have O4 := Lib.hid (O3.out.trans OX (fun j hj e => by have := LX.out; omega))
    clear OX H3 O3 RX3 x1 x2 x3 zx
    generalize ((w3.setCell ⟨x0, 0, none⟩ (.int .i64 s.id)).setCell ⟨x0, 1, none⟩ (.int .i64 r.f)).setCell ⟨x0, 2, none⟩ (.int .i64 r.c) = w4 at *
    obtain ⟨y1, y2, y3⟩ := (show Row w4 x0 41 #[.int .i64 s.id, .int .i64 r.f, .int .i64 r.c] from E4.out).three
    refine bodyPost_ret (v := .tuple #[.agg #[.int .i64 s.id, .int .i64 r.f, .int .i64 r.c], .int .i64 0]) (by simp [results, Tryz.results73, go_sem, y1, y2, y3]) rfl ⟨by unfold Acc; rw [A.out.1, A.out.2.1, A.out.2.2.1], ?_⟩
    rw [A.out.2.2.2]
    exact ⟨⟨M, ⟨p, b, L, _, H4.out⟩, fun g hg => .inl hg⟩, O4.out⟩
  | none =>
    have EX := Lib.hid (expects_any (t := ⟨t.ss, t.es, t.uses + 1, t.begun⟩) f n w2 H2.out (by show t.uses + 1 ≤ 1000; omega) (by show L + 1 ≤ t.uses + 1; have := HLE.out; omega))
    cases hb : lookB c.size c.life t.es f n with
    | false =>
      have A := Lib.hid (show accI c t f n = 0 ∧ accR c t f n = ⟨0, 0⟩ ∧ accC c.blk f n = 0 ∧ accS c t f n = ⟨t.ss, lookT c.size c.life t.es f n, t.uses + 1, t.begun⟩ from by
        unfold accI accR accC accS; rw [if_pos HM.out, if_pos HM.out, if_pos HM.out, if_pos HM.out, ht]; dsimp only; rw [hb]; exact ⟨rfl, rfl, rfl, rfl⟩)
      rw [hb] at EX
      simp only [placeI]
      clear ht hb
      go_wp2_with fail
      (with_reducible refine EX.out.mono ?_)
      rintro e w3 ⟨rfl, ⟨L', h3⟩, o3⟩
      have H3 := Lib.hid h3
      have nx : ¬ M x0 := fun k => by have := ML.out x0 k; omega
      have RX3 := Lib.hid (o3.row RX2.out nx)
      have O3 := Lib.hid (O2.out.same o3)
      clear h3 o3 H2 O2 RX2 EX
      obtain ⟨x1, x2, x3⟩ := RX3.out.three
      have zx := fun j => RX3.out.frozen j
      go_wp2_with fail
      have E4 := Lib.hid (((RX3.out.put 0 (.int .i64 0)).put 1 (.int .i64 0)).put 2 (.int .i64 0))
      have OX := (((Only.refl (fun j => j = x0) w3).into rfl 0 (.int .i64 0)).into rfl 1 (.int .i64 0)).into rfl 2 (.int .i64 0)
      have H4 := Lib.hid (H3.out.keep OX (fun j hj e => nx (e ▸ hj)))
      have O4 := Lib.hid (O3.out.trans OX (fun j hj e => by have := LX.out; omega))
      clear OX H3 O3 RX3 x1 x2 x3 zx
      generalize ((w3.setCell ⟨x0, 0, none⟩ (.int .i64 0)).setCell ⟨x0, 1, none⟩ (.int .i64 0)).setCell ⟨x0, 2, none⟩ (.int .i64 0) = w4 at *
      obtain ⟨y1, y2, y3⟩ := (show Row w4 x0 41 #[.int .i64 0, .int .i64 0, .int .i64 0] from E4.out).three
      refine bodyPost_ret (v := .tuple #[.agg #[.int .i64 0, .int .i64 0, .int .i64 0], .int .i64 0]) (by simp [results, Tryz.results73, go_sem, y1, y2, y3]) rfl ⟨by unfold Acc; rw [A.out.1, A.out.2.1, A.out.2.2.1]; rfl, ?_⟩
      rw [A.out.2.2.2]
      exact ⟨⟨M, ⟨p, b, L', _, H4.out⟩, fun g hg => .inl hg⟩, O4.out⟩
    | true =>
      obtain ⟨fs, hfs⟩ : ∃ fs, fs = fewer c.most t.ss := ⟨_, rfl⟩
      have A := Lib.hid (show accI c t f n = t.begun + 1 ∧ accR c t f n = (Fl.start f).readR n c.deg c.blk ∧ accC c.blk f n = 0 ∧ accS c t f n = ⟨fs ++ [usedBy c ⟨t.begun + 1, Fl.start f, 0⟩ n (t.uses + 1)], lookT c.size c.life t.es f n, t.uses + 1, t.begun + 1⟩ from by
        unfold accI accR accC accS; rw [if_pos HM.out, if_pos HM.out, if_pos HM.out, if_pos HM.out, ht]; dsimp only; rw [hb, hfs]; exact ⟨rfl, rfl, rfl, rfl⟩)
      rw [hb] at EX
      have BG := Lib.hid (fun w v L' hh => begin_any (q := q) (p := p) (b := b) (L := L') (v := v) (M := M) (t := ⟨t.ss, lookT c.size c.life t.es f n, t.uses + 1, t.begun⟩) f w hh (look_fine HF.out f n) (by show t.uses + 1 ≤ 1000; omega))
      simp only [← hfs] at BG
      have fl : fs.length ≤ 16 := by have := (fewer_sub c.most t.ss).length_le; rw [hfs]; omega
      clear hfs
      simp only [placeI]
      clear ht hb
      go_wp2_with fail
      (with_reducible refine EX.out.mono ?_)
      rintro e w3 ⟨rfl, ⟨L', h3⟩, o3⟩
      have H3 := Lib.hid h3
      have nx0 : ¬ M x0 := fun k => by have := ML.out x0 k; omega
      have RX3' := Lib.hid (o3.row RX2.out nx0)
      have O3' := Lib.hid (O2.out.same o3)
      clear h3 o3 H2 O2 RX2 EX
      go_wp2_with fail
      (with_reducible refine (BG.out _ _ _ H3.out).mono ?_)
      rintro e w5 ⟨rfl, ⟨v', M', h5, hm5⟩, o5⟩
      have H5 := Lib.hid h5
      have HM5 := Lib.hid hm5
      have RX5 := Lib.hid (o5.row RX3'.out nx0)
      have lx := RX3'.out.lt
      have O5 := Lib.hid (O3'.out.same o5)
      have Z3 := Lib.hid O3'.out.size
      have U := Lib.hid (suse_any fs.length ⟨t.begun + 1, Fl.start f, 0⟩ n w5 h5 (by simp) (by show t.uses + 1 ≤ 1000; omega) (by simp; omega))
      have nx : ¬ M' x0 := fun k => by rcases hm5 x0 k with k | k; exact nx0 k; omega
      have dn : ((fs.length : Int) == -1) = false := by simp
      clear h5 hm5 o5 BG H3 RX3' O3' lx
      generalize hr : (Fl.start f).readR n c.deg c.blk = r at *
      have HR := Lib.hid hr
      clear hr
      go_wp2_with fail
      (with_reducible refine U.out.mono ?_)
      rintro e w3 ⟨rfl, h3, o3⟩
      have H3 := Lib.hid h3
      have RX3 := Lib.hid (o3.row RX5.out nx)
      have O3 := Lib.hid (O5.out.trans o3 (fun j hj k => (HM5.out j k).elim id (fun k => by have := Z3.out; omega)))
      clear h3 o3 H5 O5 U RX5
      obtain ⟨x1, x2, x3⟩ := RX3.out.three
      have zx := fun j => RX3.out.frozen j
      go_wp2_with fail
      have E4 := Lib.hid (((RX3.out.put 0 (.int .i64 ((t.begun : Int) + 1))).put 1 (.int .i64 r.f)).put 2 (.int .i64 r.c))
      have OX := (((Only.refl (fun j => j = x0) w3).into rfl 0 (.int .i64 ((t.begun : Int) + 1))).into rfl 1 (.int .i64 r.f)).into rfl 2 (.int .i64 r.c)
      have H4 := Lib.hid (H3.out.keep OX (fun j hj e => nx (e ▸ hj)))
      have O4 := Lib.hid (O3.out.trans OX (fun j hj e => by have := LX.out; omega))
      clear OX H3 O3 RX3 x1 x2 x3 zx
      generalize ((w3.setCell ⟨x0, 0, none⟩ (.int .i64 ((t.begun : Int) + 1))).setCell ⟨x0, 1, none⟩ (.int .i64 r.f)).setCell ⟨x0, 2, none⟩ (.int .i64 r.c) = w4 at *
      obtain ⟨y1, y2, y3⟩ := (show Row w4 x0 41 #[.int .i64 ((t.begun : Int) + 1), .int .i64 r.f, .int .i64 r.c] from E4.out).three
      refine bodyPost_ret (v := .tuple #[.agg #[.int .i64 ((t.begun : Int) + 1), .int .i64 r.f, .int .i64 r.c], .int .i64 0]) (by simp [results, Tryz.results73, go_sem, y1, y2, y3]) rfl ⟨by unfold Acc; rw [A.out.1, A.out.2.1, A.out.2.2.1]; rfl, ?_⟩
      rw [A.out.2.2.2]
      exact ⟨⟨M', ⟨p, b, L', _, set_last fs _ _ ▸ H4.out⟩, fun g hg => (HM5.out g hg).imp id (fun k => by have := Z3.out; omega)⟩, O4.out⟩
theorem acc_any {q : Nat} {M : Nat → Prop} {c : Cf} {t : Tr} (f n : Int) (w : World) (h : ST w q M c t) (hf : Fine10 c t) (hu : t.uses ≤ 900) :
    Calls Tryz.prog 73 #[.pointer (some ⟨q, 0, none⟩), .int .i64 f, .int .i64 n] w fun e w' => accTwo c t f n e w q M w' := by
  cases hm : mayAcc c.blk f n with
  | false => exact acc_no f n w h hf hm
  | true => exact acc_yes f n w h hf hu hm
end Go.Proofs.YtlfnncahhbbmpaaGreatDoor
