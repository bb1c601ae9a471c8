/- Package stream: a stream is used. -/
import Derived.Test.YtfmmmiiohaaegaaStNew
import Derived.Deep.RegionHeld3
import Derived.Deep.CutRange
import Derived.BigRegion
namespace Go.Proofs.Ytfmmmiiohaaegaa
open Go.RowKit Go.Maps
set_option linter.unusedVariables false

theorem fresh_at (w : World) (t : TypeId) (cs : Array Value) (n : Nat) (h : n = w.heap.size) : Row (w.alloc (.cells cs t)) n t cs := by subst h; exact Row.fresh w t cs
theorem set_set {α : Type} (l : List α) (k : Nat) (a b : α) : (l.set k a).set k b = l.set k b := by
  apply List.ext_getElem?
  intro j
  simp only [List.getElem?_set, List.length_set]
  split <;> simp_all
/-- a stream's pace is written -/
theorem Owns.flow10 {w : World} {g cap n k : Nat} {ss : List Sm} {s : Sm} (h : Owns w 0 59 6 Sm.cells (.slice (some ⟨g, 0, none⟩) n cap) ss) (hk : ss[k]? = some s) (F : Fl) :
    Owns ((((w.setCell ⟨g, k * 6 + 1, none⟩ (.int .i64 F.n)).setCell ⟨g, k * 6 + 2, none⟩ (.int .i64 F.a)).setCell ⟨g, k * 6 + 3, none⟩ (.int .i64 F.p)).setCell ⟨g, k * 6 + 4, none⟩ (.int .i64 F.g)) 0 59 6 Sm.cells (.slice (some ⟨g, 0, none⟩) n cap) (ss.set k ⟨s.id, F, s.used⟩) := by
  have hl := lt_of_get hk
  have h1 := h.put10 sm6 (a' := ⟨s.id, ⟨F.n, s.f.a, s.f.p, s.f.g⟩, s.used⟩) hk (j := 1) (by decide) (u := .int .i64 F.n) rfl
  have h2 := h1.put10 sm6 (i := k) (a := ⟨s.id, ⟨F.n, s.f.a, s.f.p, s.f.g⟩, s.used⟩) (a' := ⟨s.id, ⟨F.n, F.a, s.f.p, s.f.g⟩, s.used⟩) (by simp [hl]) (j := 2) (by decide) (u := .int .i64 F.a) rfl
  have h3 := h2.put10 sm6 (i := k) (a := ⟨s.id, ⟨F.n, F.a, s.f.p, s.f.g⟩, s.used⟩) (a' := ⟨s.id, ⟨F.n, F.a, F.p, s.f.g⟩, s.used⟩) (by simp [hl]) (j := 3) (by decide) (u := .int .i64 F.p) rfl
  have h4 := h3.put10 sm6 (i := k) (a := ⟨s.id, ⟨F.n, F.a, F.p, s.f.g⟩, s.used⟩) (a' := ⟨s.id, F, s.used⟩) (by simp [hl]) (j := 4) (by decide) (u := .int .i64 F.g) rfl
  rw [set_set, set_set, set_set] at h4
  exact h4
theorem Owns.used10 {w : World} {g cap n k : Nat} {ss : List Sm} {s : Sm} (h : Owns w 0 59 6 Sm.cells (.slice (some ⟨g, 0, none⟩) n cap) ss) (hk : ss[k]? = some s) (u : Nat) :
    Owns (w.setCell ⟨g, k * 6 + 5, none⟩ (.int .i64 u)) 0 59 6 Sm.cells (.slice (some ⟨g, 0, none⟩) n cap) (ss.set k ⟨s.id, s.f, u⟩) :=
  h.put10 sm6 (a' := ⟨s.id, s.f, u⟩) hk (j := 5) (by decide) (u := .int .i64 u) rfl
/-- what a row's cells are, of one that is there -/
theorem Owns.six10 {w : World} {g cap n k : Nat} {ss : List Sm} {s : Sm} (h : Owns w 0 59 6 Sm.cells (.slice (some ⟨g, 0, none⟩) n cap) ss) (hk : ss[k]? = some s) :
    w.cell? ⟨g, k * 6, none⟩ = some (.int .i64 s.id) ∧ w.cell? ⟨g, k * 6 + 1, none⟩ = some (.int .i64 s.f.n) ∧ w.cell? ⟨g, k * 6 + 2, none⟩ = some (.int .i64 s.f.a) ∧ w.cell? ⟨g, k * 6 + 3, none⟩ = some (.int .i64 s.f.p) ∧ w.cell? ⟨g, k * 6 + 4, none⟩ = some (.int .i64 s.f.g) ∧ w.cell? ⟨g, k * 6 + 5, none⟩ = some (.int .i64 s.used) := by
  obtain ⟨cur, r, _, hn, _⟩ := h.row10
  subst hn
  have k0 := h.cell sm6 hk (j := 0) (by decide)
  exact ⟨k0, h.cell sm6 hk (j := 1) (by decide), h.cell sm6 hk (j := 2) (by decide), h.cell sm6 hk (j := 3) (by decide), h.cell sm6 hk (j := 4) (by decide), h.cell sm6 hk (j := 5) (by decide)⟩
/-- the streams are others, in the same row -/
theorem StAt.same_row {w w' : World} {q p b L g n cap : Nat} {M : Nat → Prop} {c : Cf} {ss fs : List Sm} {es : List En} {u m : Nat} (h : StAt w q p b L (.slice (some ⟨g, 0, none⟩) n cap) M c ⟨ss, es, u, m⟩) (o : Only (fun k => k = g) w w') (ho : Owns w' 0 59 6 Sm.cells (.slice (some ⟨g, 0, none⟩) n cap) fs) :
    StAt w' q p b L (.slice (some ⟨g, 0, none⟩) n cap) M c ⟨fs, es, u, m⟩ :=
  ⟨o.row h.row (fun k => h.gq (g := g) rfl k.symm), ⟨ho, h.own.2⟩, h.tab.keep o (fun k => h.gp (g := g) rfl k.symm) (fun k => h.gb (g := g) rfl k.symm), h.le, h.mq, h.mp, h.mb, fun g hg => Nat.lt_of_lt_of_le (h.lt g hg) o.size⟩

set_option maxRecDepth 100000 in
set_option maxHeartbeats 4000000 in
theorem use_any {q p b L : Nat} {v : Value} {M : Nat → Prop} {c : Cf} {t : Tr} (i : Nat) (s : Sm) (n : Int) (w : World) (h : StAt w q p b L v M c t) (hi : t.ss[i]? = some s) (hu : t.uses ≤ 1000) (hl : t.ss.length ≤ 1000) :
    Calls Try.prog 30 #[.pointer (some ⟨q, 0, none⟩), .int .i64 i, .int .i64 n] w fun e w' => e = .returned (.agg #[.int .i64 s.id, .int .i64 (s.f.readR n c.deg c.blk).f, .int .i64 (s.f.readR n c.deg c.blk).c]) ∧ StAt w' q p b L v M c ⟨t.ss.set i (usedBy c s n t.uses), t.es, t.uses, t.begun⟩ ∧ Only M w w' := by
  obtain ⟨A, cap, rfl, _, ha⟩ := h.own.form
  have hil := lt_of_get hi
  obtain ⟨g, rfl, lg, hcap, hmx, hMg⟩ := ha (fun e => by rw [e] at hil; exact absurd hil (Nat.not_lt_zero _))
  have RD' := Lib.hid (fun w => read_any s.f n c.deg c.blk w)
  unfold Fl.val Rn.val at RD'
  have HI := Lib.hid hi
  have H1 := Lib.hid (h.still ((Only.refl none_ w).alloc (.cells #[.int .i64 0, .int .i64 0, .int .i64 0] 38)))
  have O1 := Lib.hid ((Only.refl none_ w).alloc (.cells #[.int .i64 0, .int .i64 0, .int .i64 0] 38))
  have RX := Lib.hid (Row.fresh w 38 #[.int .i64 0, .int .i64 0, .int .i64 0])
  have c4 : (w.alloc (.cells #[.int .i64 0, .int .i64 0, .int .i64 0] 38)).cell? ⟨q, 4, none⟩ = some (.slice (some ⟨g, 0, none⟩) t.ss.length cap) := by rw [H1.out.row.cell]; rfl
  have lx := Lib.hid (show w.heap.size ≤ w.heap.size from Nat.le_refl _)
  have ML := Lib.hid h.lt
  clear h hi ha
  go_enter Try.func30, Try.ntmps30
  go_wp2_with fail
  obtain ⟨x0, hx0⟩ : ∃ x0, w.heap.size = x0 := ⟨_, rfl⟩
  rw [hx0] at RX ML ⊢
  have LX := Lib.hid hx0
  clear hx0 lx c4
  generalize w.alloc (.cells #[.int .i64 0, .int .i64 0, .int .i64 0] 38) = v1 at *
  generalize hK : s.f.readF n c.deg c.blk = k at *
  generalize hR : s.f.readR n c.deg c.blk = r at *
  generalize hC : s.f.readC n c.deg c.blk = cc at *
  have HK := Lib.hid hK
  have HR := Lib.hid hR
  clear hK hR hC
  go_cut [8, 9, 10] from 18 to 34 (fun s12 s13 s14 wx => ∃ p p', s12 = .pointer (some ⟨p, 0, none⟩) ∧ s13 = .pointer (some ⟨p', 0, none⟩) ∧ s14 = .int .i64 cc ∧ v1.heap.size ≤ p ∧ v1.heap.size ≤ p' ∧ Row wx p 57 #[.int .i64 k.n, .int .i64 k.a, .int .i64 k.p, .int .i64 k.g] ∧ Row wx p' 36 #[.int .i64 r.f, .int .i64 r.c] ∧ Only none_ v1 wx)
  case first =>
    have N0 := Lib.hid (Only.refl none_ v1)
    have le0 : v1.heap.size ≤ v1.heap.size := Nat.le_refl _
    have le1 : v1.heap.size ≤ v1.heap.size + 1 := Nat.le_succ _
    have ND := Lib.hid (Only.refl none_ v1).drew
    have KK := Lib.hid (fun (w' : World) (o : Only none_ v1 w') => (show w'.cell? ⟨g, i * 6 + 1, none⟩ = some (.int .i64 s.f.n) ∧ w'.cell? ⟨g, i * 6 + 2, none⟩ = some (.int .i64 s.f.a) ∧ w'.cell? ⟨g, i * 6 + 3, none⟩ = some (.int .i64 s.f.p) ∧ w'.cell? ⟨g, i * 6 + 4, none⟩ = some (.int .i64 s.f.g) ∧ w'.cell? ⟨q, 1, none⟩ = some (.int .i64 c.deg) ∧ w'.cell? ⟨q, 2, none⟩ = some (.int .i64 c.blk) from by
      have K := H1.out.still o
      obtain ⟨_, c1, c2, c3, c4, _⟩ := K.own.1.six10 HI.out
      exact ⟨c1, c2, c3, c4, by rw [K.row.cell]; rfl, by rw [K.row.cell]; rfl⟩))
    obtain ⟨c0, c1, c2, c3, c4, c5⟩ := KK.out _ ND.out
    go_region_held3 (fun w' => w'.cell? ⟨g, i * 6 + 1, none⟩ = some (.int .i64 s.f.n) ∧ w'.cell? ⟨g, i * 6 + 2, none⟩ = some (.int .i64 s.f.a) ∧ w'.cell? ⟨g, i * 6 + 3, none⟩ = some (.int .i64 s.f.p) ∧ w'.cell? ⟨g, i * 6 + 4, none⟩ = some (.int .i64 s.f.g) ∧ w'.cell? ⟨q, 1, none⟩ = some (.int .i64 c.deg) ∧ w'.cell? ⟨q, 2, none⟩ = some (.int .i64 c.blk))
      (first
        | (with_reducible exact KK.out _ ND.out)
        | (with_reducible exact KK.out _ (Only.drew (Only.alloc N0.out _)))
        | (with_reducible exact KK.out _ (Only.drew (Only.alloc (Only.alloc N0.out _) _)))
        | (with_reducible exact KK.out _ O1.out)
        | (with_reducible refine KK.out _ ?_; (repeat (first | (with_reducible refine Only.alloc ?_ _) | (with_reducible refine Only.new ?_ le0 _ _) | (with_reducible refine Only.new ?_ le1 _ _))); with_reducible exact O1.out)
        | fail)
      (first
        | (go_at_call 48; (with_reducible refine (RD'.out _).mono ?_); rintro e u1 ⟨rfl, o1⟩; first | (have o2 : Only none_ (v1.drew) u1 := (by with_reducible exact o1); have O1 := Lib.hid (ND.out.same o2); clear o1 o2) | (have o2 : Only none_ ((v1.alloc (.cells #[.int .i64 0, .int .i64 0, .int .i64 0, .int .i64 0] 57)).drew) u1 := (by with_reducible exact o1); have O1 := Lib.hid ((Only.drew (Only.alloc N0.out _)).same o2); have far := o2.still (Row.drew (Row.fresh v1 57 #[.int .i64 0, .int .i64 0, .int .i64 0, .int .i64 0])); obtain ⟨fa0, fa1, fa2, fa3⟩ := far.four; have faz := far.frozen; have fal := far.lt; have FAR := Lib.hid far; clear far; clear o1 o2) | (have o2 : Only none_ ((v1.alloc (.cells #[.int .i64 0, .int .i64 0] 36)).drew) u1 := (by with_reducible exact o1); have O1 := Lib.hid ((Only.drew (Only.alloc N0.out _)).same o2); have fbr := o2.still (Row.drew (Row.fresh v1 36 #[.int .i64 0, .int .i64 0])); obtain ⟨fb0, fb1⟩ := fbr.two; have fbz := fbr.frozen; have fbl := fbr.lt; have FBR := Lib.hid fbr; clear fbr; clear o1 o2) | (have o2 : Only none_ (((v1.alloc (.cells #[.int .i64 0, .int .i64 0, .int .i64 0, .int .i64 0] 57)).alloc (.cells #[.int .i64 0, .int .i64 0] 36)).drew) u1 := (by with_reducible exact o1); have O1 := Lib.hid ((Only.drew (Only.alloc (Only.alloc N0.out _) _)).same o2); have far := o2.still (Row.drew ((Row.fresh v1 57 #[.int .i64 0, .int .i64 0, .int .i64 0, .int .i64 0]).alloc (.cells #[.int .i64 0, .int .i64 0] 36))); obtain ⟨fa0, fa1, fa2, fa3⟩ := far.four; have faz := far.frozen; have fal := far.lt; have FAR := Lib.hid far; clear far; have fbr := o2.still (Row.drew (fresh_at (v1.alloc (.cells #[.int .i64 0, .int .i64 0, .int .i64 0, .int .i64 0] 57)) 36 #[.int .i64 0, .int .i64 0] (v1.heap.size + 1) (by simp))); obtain ⟨fb0, fb1⟩ := fbr.two; have fbz := fbr.frozen; have fbl := fbr.lt; have FBR := Lib.hid fbr; clear fbr; clear o1 o2) | (have o2 : Only none_ (((v1.alloc (.cells #[.int .i64 0, .int .i64 0] 36)).alloc (.cells #[.int .i64 0, .int .i64 0, .int .i64 0, .int .i64 0] 57)).drew) u1 := (by with_reducible exact o1); have O1 := Lib.hid ((Only.drew (Only.alloc (Only.alloc N0.out _) _)).same o2); have fbr := o2.still (Row.drew ((Row.fresh v1 36 #[.int .i64 0, .int .i64 0]).alloc (.cells #[.int .i64 0, .int .i64 0, .int .i64 0, .int .i64 0] 57))); obtain ⟨fb0, fb1⟩ := fbr.two; have fbz := fbr.frozen; have fbl := fbr.lt; have FBR := Lib.hid fbr; clear fbr; have far := o2.still (Row.drew (fresh_at (v1.alloc (.cells #[.int .i64 0, .int .i64 0] 36)) 57 #[.int .i64 0, .int .i64 0, .int .i64 0, .int .i64 0] (v1.heap.size + 1) (by simp))); obtain ⟨fa0, fa1, fa2, fa3⟩ := far.four; have faz := far.frozen; have fal := far.lt; have FAR := Lib.hid far; clear far; clear o1 o2) | fail)
        | fail)
    · have X1 := Lib.hid ((Row.fresh u1 57 #[.int .i64 k.n, .int .i64 k.a, .int .i64 k.p, .int .i64 k.g]).alloc (.cells #[.int .i64 r.f, .int .i64 r.c] 36))
      have X2 := Lib.hid (fresh_at (u1.alloc (.cells #[.int .i64 k.n, .int .i64 k.a, .int .i64 k.p, .int .i64 k.g] 57)) 36 #[.int .i64 r.f, .int .i64 r.c] (u1.heap.size + 1) (by simp))
      have X3 := Lib.hid ((O1.out.alloc (.cells #[.int .i64 k.n, .int .i64 k.a, .int .i64 k.p, .int .i64 k.g] 57)).alloc (.cells #[.int .i64 r.f, .int .i64 r.c] 36))
      go_wp2_with fail
      go_meet
      case rel => exact ⟨u1.heap.size, u1.heap.size + 1, rfl, rfl, rfl, O1.out.size, Nat.le_succ_of_le O1.out.size, X1.out, X2.out, X3.out⟩
    · have X1 := Lib.hid (fresh_at (u1.alloc (.cells #[.int .i64 r.f, .int .i64 r.c] 36)) 57 #[.int .i64 k.n, .int .i64 k.a, .int .i64 k.p, .int .i64 k.g] (u1.heap.size + 1) (by simp))
      have X2 := Lib.hid ((Row.fresh u1 36 #[.int .i64 r.f, .int .i64 r.c]).alloc (.cells #[.int .i64 k.n, .int .i64 k.a, .int .i64 k.p, .int .i64 k.g] 57))
      have X3 := Lib.hid ((O1.out.alloc (.cells #[.int .i64 r.f, .int .i64 r.c] 36)).alloc (.cells #[.int .i64 k.n, .int .i64 k.a, .int .i64 k.p, .int .i64 k.g] 57))
      go_wp2_with fail
      go_meet
      case rel => exact ⟨u1.heap.size + 1, u1.heap.size, rfl, rfl, rfl, Nat.le_succ_of_le O1.out.size, O1.out.size, X1.out, X2.out, X3.out⟩
    · have X1 := Lib.hid (show Row (((((u1.setCell ⟨v1.heap.size, 0, none⟩ (.int .i64 k.n)).setCell ⟨v1.heap.size, 1, none⟩ (.int .i64 k.a)).setCell ⟨v1.heap.size, 2, none⟩ (.int .i64 k.p)).setCell ⟨v1.heap.size, 3, none⟩ (.int .i64 k.g)).alloc (.cells #[.int .i64 r.f, .int .i64 r.c] 36)) v1.heap.size 57 #[.int .i64 k.n, .int .i64 k.a, .int .i64 k.p, .int .i64 k.g] from ((((FAR.out.put 0 (.int .i64 k.n)).put 1 (.int .i64 k.a)).put 2 (.int .i64 k.p)).put 3 (.int .i64 k.g)).alloc (.cells #[.int .i64 r.f, .int .i64 r.c] 36))
      have X2 := Lib.hid (fresh_at ((((u1.setCell ⟨v1.heap.size, 0, none⟩ (.int .i64 k.n)).setCell ⟨v1.heap.size, 1, none⟩ (.int .i64 k.a)).setCell ⟨v1.heap.size, 2, none⟩ (.int .i64 k.p)).setCell ⟨v1.heap.size, 3, none⟩ (.int .i64 k.g)) 36 #[.int .i64 r.f, .int .i64 r.c] u1.heap.size (by simp [World.setCell]))
      have X3 := Lib.hid (((((O1.out.new le0 0 (.int .i64 k.n)).new le0 1 (.int .i64 k.a)).new le0 2 (.int .i64 k.p)).new le0 3 (.int .i64 k.g)).alloc (.cells #[.int .i64 r.f, .int .i64 r.c] 36))
      go_wp2_with fail
      go_meet
      case rel => exact ⟨v1.heap.size, u1.heap.size, rfl, rfl, rfl, le0, O1.out.size, X1.out, X2.out, X3.out⟩
    · have X1 := Lib.hid (show Row ((((((u1.setCell ⟨v1.heap.size, 0, none⟩ (.int .i64 k.n)).setCell ⟨v1.heap.size, 1, none⟩ (.int .i64 k.a)).setCell ⟨v1.heap.size, 2, none⟩ (.int .i64 k.p)).setCell ⟨v1.heap.size, 3, none⟩ (.int .i64 k.g)).setCell ⟨(v1.heap.size + 1), 0, none⟩ (.int .i64 r.f)).setCell ⟨(v1.heap.size + 1), 1, none⟩ (.int .i64 r.c)) v1.heap.size 57 #[.int .i64 k.n, .int .i64 k.a, .int .i64 k.p, .int .i64 k.g] from ((((((FAR.out.put 0 (.int .i64 k.n)).put 1 (.int .i64 k.a)).put 2 (.int .i64 k.p)).put 3 (.int .i64 k.g)).far (p := ⟨(v1.heap.size + 1), 0, none⟩) (show v1.heap.size ≠ v1.heap.size + 1 by omega) (.int .i64 r.f)).far (p := ⟨(v1.heap.size + 1), 1, none⟩) (show v1.heap.size ≠ v1.heap.size + 1 by omega) (.int .i64 r.c)))
      have X2 := Lib.hid (show Row ((((((u1.setCell ⟨v1.heap.size, 0, none⟩ (.int .i64 k.n)).setCell ⟨v1.heap.size, 1, none⟩ (.int .i64 k.a)).setCell ⟨v1.heap.size, 2, none⟩ (.int .i64 k.p)).setCell ⟨v1.heap.size, 3, none⟩ (.int .i64 k.g)).setCell ⟨(v1.heap.size + 1), 0, none⟩ (.int .i64 r.f)).setCell ⟨(v1.heap.size + 1), 1, none⟩ (.int .i64 r.c)) (v1.heap.size + 1) 36 #[.int .i64 r.f, .int .i64 r.c] from ((((((FBR.out.far (p := ⟨v1.heap.size, 0, none⟩) (show v1.heap.size + 1 ≠ v1.heap.size by omega) (.int .i64 k.n)).far (p := ⟨v1.heap.size, 1, none⟩) (show v1.heap.size + 1 ≠ v1.heap.size by omega) (.int .i64 k.a)).far (p := ⟨v1.heap.size, 2, none⟩) (show v1.heap.size + 1 ≠ v1.heap.size by omega) (.int .i64 k.p)).far (p := ⟨v1.heap.size, 3, none⟩) (show v1.heap.size + 1 ≠ v1.heap.size by omega) (.int .i64 k.g)).put 0 (.int .i64 r.f)).put 1 (.int .i64 r.c)))
      have X3 := Lib.hid ((((((O1.out.new le0 0 (.int .i64 k.n)).new le0 1 (.int .i64 k.a)).new le0 2 (.int .i64 k.p)).new le0 3 (.int .i64 k.g)).new le1 0 (.int .i64 r.f)).new le1 1 (.int .i64 r.c))
      go_wp2_with fail
      go_meet
      case rel => exact ⟨v1.heap.size, (v1.heap.size + 1), rfl, rfl, rfl, le0, le1, X1.out, X2.out, X3.out⟩
    · have X1 := Lib.hid (fresh_at ((u1.setCell ⟨v1.heap.size, 0, none⟩ (.int .i64 r.f)).setCell ⟨v1.heap.size, 1, none⟩ (.int .i64 r.c)) 57 #[.int .i64 k.n, .int .i64 k.a, .int .i64 k.p, .int .i64 k.g] u1.heap.size (by simp [World.setCell]))
      have X2 := Lib.hid (show Row (((u1.setCell ⟨v1.heap.size, 0, none⟩ (.int .i64 r.f)).setCell ⟨v1.heap.size, 1, none⟩ (.int .i64 r.c)).alloc (.cells #[.int .i64 k.n, .int .i64 k.a, .int .i64 k.p, .int .i64 k.g] 57)) v1.heap.size 36 #[.int .i64 r.f, .int .i64 r.c] from ((FBR.out.put 0 (.int .i64 r.f)).put 1 (.int .i64 r.c)).alloc (.cells #[.int .i64 k.n, .int .i64 k.a, .int .i64 k.p, .int .i64 k.g] 57))
      have X3 := Lib.hid (((O1.out.new le0 0 (.int .i64 r.f)).new le0 1 (.int .i64 r.c)).alloc (.cells #[.int .i64 k.n, .int .i64 k.a, .int .i64 k.p, .int .i64 k.g] 57))
      go_wp2_with fail
      go_meet
      case rel => exact ⟨u1.heap.size, v1.heap.size, rfl, rfl, rfl, O1.out.size, le0, X1.out, X2.out, X3.out⟩
    · have X1 := Lib.hid (show Row ((((((u1.setCell ⟨(v1.heap.size + 1), 0, none⟩ (.int .i64 k.n)).setCell ⟨(v1.heap.size + 1), 1, none⟩ (.int .i64 k.a)).setCell ⟨(v1.heap.size + 1), 2, none⟩ (.int .i64 k.p)).setCell ⟨(v1.heap.size + 1), 3, none⟩ (.int .i64 k.g)).setCell ⟨v1.heap.size, 0, none⟩ (.int .i64 r.f)).setCell ⟨v1.heap.size, 1, none⟩ (.int .i64 r.c)) (v1.heap.size + 1) 57 #[.int .i64 k.n, .int .i64 k.a, .int .i64 k.p, .int .i64 k.g] from ((((((FAR.out.put 0 (.int .i64 k.n)).put 1 (.int .i64 k.a)).put 2 (.int .i64 k.p)).put 3 (.int .i64 k.g)).far (p := ⟨v1.heap.size, 0, none⟩) (show v1.heap.size + 1 ≠ v1.heap.size by omega) (.int .i64 r.f)).far (p := ⟨v1.heap.size, 1, none⟩) (show v1.heap.size + 1 ≠ v1.heap.size by omega) (.int .i64 r.c)))
      have X2 := Lib.hid (show Row ((((((u1.setCell ⟨(v1.heap.size + 1), 0, none⟩ (.int .i64 k.n)).setCell ⟨(v1.heap.size + 1), 1, none⟩ (.int .i64 k.a)).setCell ⟨(v1.heap.size + 1), 2, none⟩ (.int .i64 k.p)).setCell ⟨(v1.heap.size + 1), 3, none⟩ (.int .i64 k.g)).setCell ⟨v1.heap.size, 0, none⟩ (.int .i64 r.f)).setCell ⟨v1.heap.size, 1, none⟩ (.int .i64 r.c)) v1.heap.size 36 #[.int .i64 r.f, .int .i64 r.c] from ((((((FBR.out.far (p := ⟨(v1.heap.size + 1), 0, none⟩) (show v1.heap.size ≠ v1.heap.size + 1 by omega) (.int .i64 k.n)).far (p := ⟨(v1.heap.size + 1), 1, none⟩) (show v1.heap.size ≠ v1.heap.size + 1 by omega) (.int .i64 k.a)).far (p := ⟨(v1.heap.size + 1), 2, none⟩) (show v1.heap.size ≠ v1.heap.size + 1 by omega) (.int .i64 k.p)).far (p := ⟨(v1.heap.size + 1), 3, none⟩) (show v1.heap.size ≠ v1.heap.size + 1 by omega) (.int .i64 k.g)).put 0 (.int .i64 r.f)).put 1 (.int .i64 r.c)))
      have X3 := Lib.hid ((((((O1.out.new le1 0 (.int .i64 k.n)).new le1 1 (.int .i64 k.a)).new le1 2 (.int .i64 k.p)).new le1 3 (.int .i64 k.g)).new le0 0 (.int .i64 r.f)).new le0 1 (.int .i64 r.c))
      go_wp2_with fail
      go_meet
      case rel => exact ⟨(v1.heap.size + 1), v1.heap.size, rfl, rfl, rfl, le1, le0, X1.out, X2.out, X3.out⟩
  case rest =>
    obtain ⟨p1, p2, rfl, rfl, rfl, lp, lp', rp, rp', o⟩ := hcut
    have H2 := Lib.hid (H1.out.still o)
    have RX2 := Lib.hid (o.still RX.out)
    have O2 := Lib.hid (O1.out.same o)
    have P1 := Lib.hid rp
    have P2 := Lib.hid rp'
    have lx0 := RX.out.lt
    have lg1 : g < v1.heap.size := H1.out.lt g hMg
    have lq1 : q < v1.heap.size := H1.out.lt q H1.out.mq
    have n1 : g ≠ q := H2.out.gq rfl
    have n2 : q ≠ g := fun e => n1 e.symm
    have n3 : g ≠ p1 := by omega
    have n4 : p1 ≠ g := by omega
    have n5 : g ≠ p2 := by omega
    have n6 : p2 ≠ g := by omega
    have nx : g ≠ x0 := by have := ML.out g hMg; omega
    have nx' : x0 ≠ g := fun e => nx e.symm
    have nx2 : x0 ≠ p2 := by omega
    have nx3 : x0 ≠ q := by have := ML.out q H1.out.mq; omega
    obtain ⟨a0, a1, a2, a3⟩ := rp.four
    obtain ⟨g0, g1, g2, g3, g4, g5⟩ := H2.out.own.1.six10 HI.out
    have q6 : wc.cell? ⟨q, 6, none⟩ = some (.int .i64 t.uses) := by rw [H2.out.row.cell]; rfl
    have zg := fun j => H2.out.own.1.frozen j
    clear lp lp' rp rp' o lx0 lg1 lq1 H1 O1
    go_wp2_with fail
    go_region
    have OG := Lib.hid (((((((Only.refl (fun j => j = g) wc).into rfl (i * 6 + 1) (.int .i64 k.n)).into rfl (i * 6 + 1 + 1) (.int .i64 k.a)).into rfl (i * 6 + 1 + 2) (.int .i64 k.p)).into rfl (i * 6 + 1 + 3) (.int .i64 k.g)).into rfl (i * 6 + 5) (.int .i64 t.uses)).drew)
    have HO : Owns ((((((wc.setCell ⟨g, i * 6 + 1, none⟩ (.int .i64 k.n)).setCell ⟨g, i * 6 + 1 + 1, none⟩ (.int .i64 k.a)).setCell ⟨g, i * 6 + 1 + 2, none⟩ (.int .i64 k.p)).setCell ⟨g, i * 6 + 1 + 3, none⟩ (.int .i64 k.g)).setCell ⟨g, i * 6 + 5, none⟩ (.int .i64 t.uses)).drew) 0 59 6 Sm.cells (.slice (some ⟨g, 0, none⟩) t.ss.length cap) (t.ss.set i ⟨s.id, k, t.uses⟩) := by
      have h1 := (H2.out.own.1.flow10 HI.out k).used10 (k := i) (s := ⟨s.id, k, s.used⟩) (by simp [lt_of_get HI.out]) t.uses
      rw [set_set] at h1
      exact h1
    have H3 := Lib.hid (H2.out.same_row OG.out HO)
    have O3 := Lib.hid (O2.out.up.trans OG.out (fun j _ e => by subst e; exact hMg))
    have RX3 := Lib.hid (OG.out.row RX2.out nx')
    have P3 := Lib.hid (OG.out.row P2.out n6)
    clear a0 a1 a2 a3 g0 g1 g2 g3 g4 g5 q6 zg HO OG P1 P2 RX2 O2 H2
    generalize (((((wc.setCell ⟨g, i * 6 + 1, none⟩ (.int .i64 k.n)).setCell ⟨g, i * 6 + 1 + 1, none⟩ (.int .i64 k.a)).setCell ⟨g, i * 6 + 1 + 2, none⟩ (.int .i64 k.p)).setCell ⟨g, i * 6 + 1 + 3, none⟩ (.int .i64 k.g)).setCell ⟨g, i * 6 + 5, none⟩ (.int .i64 t.uses)).drew = w3 at *
    obtain ⟨b0, b1⟩ := P3.out.two
    obtain ⟨x1, x2, x3⟩ := RX3.out.three
    have zx := fun j => RX3.out.frozen j
    obtain ⟨g0, _⟩ := H3.out.own.1.six10 (k := i) (s := ⟨s.id, k, t.uses⟩) (by simp [lt_of_get HI.out])
    have g0' : w3.cell? ⟨g, i * 6, none⟩ = some (.int .i64 s.id) := g0
    clear g0
    go_wp2_with fail
    go_region
    have E3 := Lib.hid (((RX3.out.put 0 (.int .i64 s.id)).put 1 (.int .i64 r.f)).put 2 (.int .i64 r.c)).drew
    have OX := ((((Only.refl (fun j => j = x0) w3).into rfl 0 (.int .i64 s.id)).into rfl 1 (.int .i64 r.f)).into rfl 2 (.int .i64 r.c)).drew
    have H4 := Lib.hid (H3.out.keep OX (fun j hj e => by have := ML.out j hj; omega))
    have O4 := Lib.hid (O3.out.trans OX (fun j hj e => by have := LX.out; omega))
    clear OX b0 b1 x1 x2 x3 zx g0' O3 H3 RX3 P3
    generalize (((w3.setCell ⟨x0, 0, none⟩ (.int .i64 s.id)).setCell ⟨x0, 1, none⟩ (.int .i64 r.f)).setCell ⟨x0, 2, none⟩ (.int .i64 r.c)).drew = w4 at *
    obtain ⟨x1, x2, x3⟩ := (show Row w4 x0 38 #[.int .i64 s.id, .int .i64 r.f, .int .i64 r.c] from E3.out).three
    go_wp2_with fail
    exact bodyPost_ret (v := .agg #[.int .i64 s.id, .int .i64 r.f, .int .i64 r.c]) (by simp [results, Try.results30, go_sem, x1, x2, x3]) rfl ⟨by rw [HR.out], by unfold usedBy; rw [HK.out]; exact H4.out, O4.out⟩
end Go.Proofs.Ytfmmmiiohaaegaa
