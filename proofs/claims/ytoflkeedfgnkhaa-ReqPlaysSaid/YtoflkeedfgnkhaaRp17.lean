/- The document's own table: a place is given, or lost; a request is cancelled. -/
import Derived.Test.YtoflkeedfgnkhaaRa17
namespace Go.Proofs.Ytoflkeedfgnkhaa
open Go.RowKit Go.Maps
set_option linter.unusedVariables false
set_option maxRecDepth 100000

section
variable {w w' : World} {q : Nat} {c : Nat → Nat} {X : Loc18} {room L : Nat} {t : Tq}
/-- what may turn of a request -/
def two17 (X : Loc18) (x : Int) : Nat → Prop := fun g => g = X.P x ∨ g = X.V x
theorem two17_ne (h : RW w q c X room L t) {r : Rq} (hr : r ∈ t.rs) {g : Nat} (hg : c g ≠ 10 + 2 * r.id.toNat) (hg2 : c g ≠ 11 + 2 * r.id.toNat) : ¬ two17 X r.id g := fun k => by
  rcases k with k | k
  · exact hg (by rw [k]; exact (h.pl r hr).2)
  · exact hg2 (by rw [k]; exact (h.vl r hr).2)
theorem RB.other (h : RW w q c X room L t) {r : Rq} (hr : r ∈ t.rs) (o : Only (two17 X r.id) w w') : RB w' q c X room L t.rs ⟨cutQ t.rs r.id, t.kept⟩ := by
  have ne := fun (g : Nat) => two17_ne (g := g) h hr
  have far : ∀ s ∈ cutQ t.rs r.id, s ∈ t.rs ∧ s.id ≠ r.id ∧ 1 ≤ s.id ∧ 1 ≤ r.id := fun s hs => ⟨(List.mem_filter.1 hs).1, cut_no s hs, (h.good.fine s (List.mem_filter.1 hs).1).id1, (h.good.fine r hr).id1⟩
  exact { row := o.row h.row (ne _ (by rw [h.cp]; omega) (by rw [h.cp]; omega)), cp := h.cp, own := h.own.keep o (fun g hg => ne g (by rw [h.co g hg]; omega) (by rw [h.co g hg]; omega)), co := h.co, ownk := h.ownk.keep o (fun g hg => ne g (by rw [h.ck g hg]; omega) (by rw [h.ck g hg]; omega)), ck := h.ck,
          kept := h.kept.keep o (fun g hg => ne g (by have : c g = 4 := hg; rw [this]; omega) (by have : c g = 4 := hg; rw [this]; omega)),
          pl := fun s hs => ⟨o.row (h.pl s (far s hs).1).1 (ne _ (by have := far s hs; rw [(h.pl s (far s hs).1).2]; omega) (by have := far s hs; rw [(h.pl s (far s hs).1).2]; omega)), (h.pl s (far s hs).1).2⟩,
          vl := fun s hs => ⟨o.row (h.vl s (far s hs).1).1 (ne _ (by have := far s hs; rw [(h.vl s (far s hs).1).2]; omega) (by have := far s hs; rw [(h.vl s (far s hs).1).2]; omega)), (h.vl s (far s hs).1).2⟩,
          lt := fun g hg => Nat.lt_of_lt_of_le (h.lt g hg) o.size, good := h.good.cut r.id, kl := h.kl }
theorem qk_mark (P V : Int → Nat) (p a : Nat) (v : Int) (r : Rq) : qk P V (mark p a v r) = qk P V r := by
  unfold qk mark
  simp only [List.length_set]
theorem RB.tick (h : RW w q c X room L t) {r : Rq} (hr : r ∈ t.rs) {p a : Nat} {v : Int} (ha : a = 1 ∨ a = 2) (hd : doneQ (mark p a v r) = false) (o : Only (two17 X r.id) w w')
    (k1 : Row w' (X.P r.id) 3 (plC (mark p a v r).pl)) (k2 : Row w' (X.V r.id) 30 (vsC (mark p a v r).vs)) : RW w' q c X room L ⟨updQ t.rs r.id (mark p a v), t.kept⟩ := by
  have ne := fun (g : Nat) => two17_ne (g := g) h hr
  have b := h.other hr o
  have em : (updQ t.rs r.id (mark p a v)).map (qk X.P X.V) = t.rs.map (qk X.P X.V) := by
    unfold updQ
    rw [List.map_map]
    apply List.map_congr_left
    intro s _
    show qk X.P X.V (if s.id = r.id then mark p a v s else s) = _
    split
    · exact qk_mark _ _ _ _ _ _
    · rfl
  refine { row := b.row, cp := b.cp, own := (by rw [em]; exact b.own), co := b.co, ownk := b.ownk, ck := b.ck, kept := b.kept, pl := fun s hs => ?_, vl := fun s hs => ?_, lt := b.lt, good := h.good.upd hr ha hd, kl := b.kl }
  · obtain ⟨u, hu, rfl⟩ := updQ_mem hs
    have ei : (if u.id = r.id then mark p a v u else u).id = u.id := by split <;> rfl
    rw [ei]
    refine ⟨?_, (h.pl u hu).2⟩
    by_cases e : u.id = r.id
    · have : u = r := h.good.once.inj hu hr e
      rw [if_pos e, this]; exact k1
    · rw [if_neg e]
      exact (b.pl u (List.mem_filter.2 ⟨hu, by simp [e]⟩)).1
  · obtain ⟨u, hu, rfl⟩ := updQ_mem hs
    have ei : (if u.id = r.id then mark p a v u else u).id = u.id := by split <;> rfl
    rw [ei]
    refine ⟨?_, (h.vl u hu).2⟩
    by_cases e : u.id = r.id
    · have : u = r := h.good.once.inj hu hr e
      rw [if_pos e, this]; exact k2
    · rw [if_neg e]
      exact (b.vl u (List.mem_filter.2 ⟨hu, by simp [e]⟩)).1
theorem rcancel_any (x : Int) (w : World) (h : RW w q c X room L t) (hL : L < 1000000) :
    Calls Try.prog 28 #[.pointer (some ⟨q, 0, none⟩), .int .i64 x] w fun e w' => e = .returned (.int .i64 (cancelI t.rs x)) ∧ RBto w q c room (L + 1) (cancelS t x) w' := by
  have AT := Lib.hid (rat_any x w h)
  have len : t.rs.length ≤ 16 := Nat.le_trans h.good.len h.good.high
  have CI := Lib.hid (show cancelI t.rs x = if hasQ t.rs x then 0 else 3 from rfl)
  have CS := Lib.hid (show cancelS t x = if hasQ t.rs x then cutT t x ⟨x, 8, []⟩ else t from rfl)
  have AI := Lib.hid (show atI t.rs x = match atQ t.rs x with | some k => (k : Int) | none => -1 from rfl)
  have H := Lib.hid h
  rcases at_find h.good.once x with ⟨h1, h2⟩ | ⟨k, r, h1, h2, h3, h4, h5, h6, h7⟩
  · rw [find_none h1] at CI CS
    rw [h2] at AI
    have AT := AT.out
    rw [AI.out] at AT
    have AT := Lib.hid (show Calls Try.prog 33 #[.pointer (some ⟨q, 0, none⟩), .int .i64 x] w (fun e w' => e = .returned (.int .i64 (-1)) ∧ w' = w) from AT)
    clear h h1 h2
    go_enter Try.func28, Try.ntmps28
    go_wp2_with fail
    (with_reducible refine AT.out.mono ?_)
    rintro e w1 ⟨rfl, rfl⟩
    go_wp2_with fail
    go_ret
    exact ⟨by rw [CI.out]; rfl, by rw [CS.out]; exact H.out.same (Only.refl _ _)⟩
  · rw [h7] at CI CS
    rw [h2] at AI
    have AT := AT.out
    rw [AI.out] at AT
    have AT := Lib.hid (show Calls Try.prog 33 #[.pointer (some ⟨q, 0, none⟩), .int .i64 x] w (fun e w' => e = .returned (.int .i64 (k : Int)) ∧ w' = w) from AT)
    have t1 : decide ((k : Int) < 0) = false := decide_eq_false (by omega)
    have RA := Lib.hid (ranswer_any k r ⟨x, 8, []⟩ (.slice none 0 0) (fun _ => False) w (h.other h5 (Only.refl _ _)) h.good.once len h3 (VR.none _ _) (fun g hg => hg.elim) (h.good.fine r h5).id1 hL)
    have ID := Lib.hid h4
    clear h h1 h2 h3 h5 h6 h7
    go_enter Try.func28, Try.ntmps28
    go_wp2_with fail
    (with_reducible refine AT.out.mono ?_)
    rintro e w1 ⟨rfl, rfl⟩
    go_wp2_with fail
    (with_reducible refine RA.out.mono ?_)
    rintro e w2 ⟨rfl, h2⟩
    go_wp2_with fail
    go_ret
    refine ⟨by rw [CI.out]; rfl, ?_⟩
    rw [CS.out, if_pos trivial]
    rw [ID.out] at h2
    exact h2

theorem VR.form4 {w : World} {G : Nat → Prop} {v : Value} {xs : List Int} (h : VR w G v xs) : ∃ a n c, v = .slice a n c := by
  obtain ⟨a, cap, e, _⟩ := h
  exact ⟨a, _, cap, e⟩

theorem lost_take (l : List Nat) : l.any (fun a => a == 2) = (l.take l.length).any (fun a => a == 2) := by rw [List.take_length]
set_option maxHeartbeats 4000000 in
theorem rput_any (x place : Int) (what : Nat) (v : Int) (w : World) (h : RW w q c X room L t) (ha : what = 1 ∨ what = 2) (hL : L < 1000000) :
    Calls Try.prog 27 #[.pointer (some ⟨q, 0, none⟩), .int .i64 x, .int .i64 place, .int .i64 (what : Int), .int .u64 v] w fun e w' => e = .returned (.int .i64 (putI t.rs x place)) ∧ RBto w q c room (L + 1) (putS t x place what v) w' := by
  have AT := Lib.hid (rat_any x w h)
  have len : t.rs.length ≤ 16 := Nat.le_trans h.good.len h.good.high
  have AI := Lib.hid (show atI t.rs x = match atQ t.rs x with | some k => (k : Int) | none => -1 from rfl)
  have PI := Lib.hid (show putI t.rs x place = match findQ t.rs x with | none => 3 | some r => if 0 ≤ place ∧ place < r.pl.length then (if r.pl[place.toNat]? = some 0 then 0 else 4) else 1 from rfl)
  have PS := Lib.hid (show putS t x place what v = match findQ t.rs x with | none => t | some r => if putI t.rs x place = 0 then (if doneQ (mark place.toNat what v r) then cutT t x (ansQ (mark place.toNat what v r)) else ⟨updQ t.rs x (mark place.toNat what v), t.kept⟩) else t from rfl)
  have H := Lib.hid h
  have HL := Lib.hid hL
  rcases at_find h.good.once x with ⟨h1, h2⟩ | ⟨i, r, h1, h2, h3, h4, h5, h6, h7⟩
  · rw [h1] at PI PS
    rw [h2] at AI
    have P3 := Lib.hid (show putI t.rs x place = 3 from PI.out)
    have S3 := Lib.hid (show putS t x place what v = t from PS.out)
    have AT := AT.out
    rw [AI.out] at AT
    have AT := Lib.hid (show Calls Try.prog 33 #[.pointer (some ⟨q, 0, none⟩), .int .i64 x] w (fun e w' => e = .returned (.int .i64 (-1)) ∧ w' = w) from AT)
    clear h h1 h2 PI PS ha hL
    go_enter Try.func27, Try.ntmps27
    go_wp2_with fail
    (with_reducible refine AT.out.mono ?_)
    rintro e w1 ⟨rfl, rfl⟩
    go_wp2_with fail
    go_ret
    exact ⟨by rw [P3.out]; rfl, by rw [S3.out]; exact H.out.same (Only.refl _ _)⟩
  · rw [h1] at PI PS
    rw [h2] at AI
    have AT := AT.out
    rw [AI.out] at AT
    have AT := Lib.hid (show Calls Try.prog 33 #[.pointer (some ⟨q, 0, none⟩), .int .i64 x] w (fun e w' => e = .returned (.int .i64 (i : Int)) ∧ w' = w) from AT)
    have ti : decide ((i : Int) < 0) = false := decide_eq_false (by omega)
    have fine := h.good.fine r h5
    have n8 := fine.n8
    obtain ⟨A, cap, hX, hF⟩ := h.form
    obtain ⟨g, rfl, hc⟩ := hF i r h3
    have hvl := fine.vl
    obtain ⟨gp, hgp⟩ : ∃ g, X.P r.id = g := ⟨_, rfl⟩
    obtain ⟨gv, hgv⟩ : ∃ g, X.V r.id = g := ⟨_, rfl⟩
    have gq : c g = 2 := h.co g (by rw [hX]; rfl)
    obtain ⟨rp, cp⟩ := h.pl r h5
    obtain ⟨rv, cv⟩ := h.vl r h5
    rw [hgp] at rp cp
    rw [hgv] at rv cv
    have r1 := fine.id1
    have npv : gp ≠ gv := fun e => by rw [e, cv] at cp; omega
    -- what is read of the table, as long as just the request's own blocks, and new ones, have turned
    have FA := Lib.hid (fun (W : World) (o : Only (fun k => (k = gp ∨ k = gv) ∨ w.heap.size ≤ k) w W) => show W.cell? ⟨q, 1, none⟩ = some (.slice (some ⟨g, 0, none⟩) t.rs.length cap) ∧ W.cell? ⟨g, i * 4 + 1, none⟩ = some (.int .i64 r.kind) ∧ W.cell? ⟨g, i * 4 + 1 + 1, none⟩ = some (.slice (some ⟨gp, 0, none⟩) r.pl.length r.pl.length) ∧ W.cell? ⟨g, i * 4 + 2, none⟩ = some (.slice (some ⟨gp, 0, none⟩) r.pl.length r.pl.length) ∧ W.cell? ⟨g, i * 4 + 1 + 1 + 1, none⟩ = some (.slice (some ⟨gv, 0, none⟩) r.pl.length r.pl.length) ∧ W.cell? ⟨g, i * 4 + 3, none⟩ = some (.slice (some ⟨gv, 0, none⟩) r.pl.length r.pl.length) from by
      have nq : ¬ ((q = gp ∨ q = gv) ∨ w.heap.size ≤ q) := fun e => by
        have := h.row.lt
        rcases e with (e | e) | e
        · have z := h.cp; rw [e, cp] at z; omega
        · have z := h.cp; rw [e, cv] at z; omega
        · omega
      have ng : ¬ ((g = gp ∨ g = gv) ∨ w.heap.size ≤ g) := fun e => by
        have z2 := h.lt g (by rw [gq]; decide)
        rcases e with (e | e) | e
        · have z := gq; rw [e, cp] at z; omega
        · have z := gq; rw [e, cv] at z; omega
        · omega
      have cq : w.cell? ⟨q, 1, none⟩ = some (.slice (some ⟨g, 0, none⟩) t.rs.length cap) := by rw [h.row.cell, ← hX]; rfl
      have c1 : w.cell? ⟨g, i * 4 + 1, none⟩ = some (.int .i64 r.kind) := hc 1 _ rfl
      have c2 : w.cell? ⟨g, i * 4 + 2, none⟩ = some (.slice (some ⟨gp, 0, none⟩) r.pl.length r.pl.length) := by rw [← hgp]; exact hc 2 _ rfl
      have c3 : w.cell? ⟨g, i * 4 + 3, none⟩ = some (.slice (some ⟨gv, 0, none⟩) r.pl.length r.pl.length) := by rw [← hgv]; exact hc 3 _ rfl
      exact ⟨o.cell cq nq, o.cell c1 ng, o.cell c2 ng, o.cell c2 ng, o.cell c3 ng, o.cell c3 ng⟩)
    obtain ⟨b0, b1, b2, b3, b4, b5⟩ := FA.out w (Only.refl _ _)
    have RP := Lib.hid rp
    have RV := Lib.hid rv
    have CP := Lib.hid (show c gp = 10 + 2 * r.id.toNat ∧ c gv = 11 + 2 * r.id.toNat from ⟨cp, cv⟩)
    have GP := Lib.hid (show X.P r.id = gp ∧ X.V r.id = gv from ⟨hgp, hgv⟩)
    have HR := Lib.hid h5
    have H3 := Lib.hid h3
    have ID := Lib.hid h4
    have FI := Lib.hid fine
    have HA := Lib.hid ha
    have NPV := Lib.hid npv
    have lgp := rp.lt
    have lgv := rv.lt
    have lq := h.row.lt
    clear h h1 h2 h3 h4 h5 h7 hX hF hc hgp hgv gq rp cp rv cv fine ha r1 npv hL
    by_cases hp : 0 ≤ place ∧ place < r.pl.length
    · obtain ⟨k, rfl⟩ := Int.eq_ofNat_of_zero_le hp.1
      have hk : k < r.pl.length := by omega
      have hk2 : k < r.vs.length := by omega
      have t1 : decide ((k : Int) < 0) = false := decide_eq_false (by omega)
      have t2 : decide ((r.pl.length : Int) ≤ (k : Int)) = false := decide_eq_false (by omega)
      have t3 : decide (r.pl.length ≤ k) = false := decide_eq_false (by omega)
      obtain ⟨a0, ha0⟩ : ∃ a, r.pl[k]? = some a := ⟨_, List.getElem?_eq_getElem hk⟩
      obtain ⟨u0, hu0⟩ : ∃ a, r.vs[k]? = some a := ⟨_, List.getElem?_eq_getElem hk2⟩
      have dp : w.cell? ⟨gp, k, none⟩ = some (.int .i64 (a0 : Int)) := by rw [RP.out.cell]; exact plC_get ha0
      have HP := Lib.hid hp
      have PI := PI.out
      simp only [HP.out, and_self, if_true, Int.toNat_natCast] at PI
      have PI : putI t.rs x (k : Int) = if r.pl[k]? = some 0 then 0 else 4 := PI
      clear hp
      by_cases hz : a0 = 0
      · have t4 : ((a0 : Int) != 0) = false := by simp [hz]
        have P0 := Lib.hid (show putI t.rs x (k : Int) = 0 from by rw [PI, if_pos (by rw [ha0, hz])])
        have S0 := Lib.hid (show putS t x (k : Int) what v = (if doneQ (mark k what v r) then cutT t x (ansQ (mark k what v r)) else ⟨updQ t.rs x (mark k what v), t.kept⟩) from by
          have := PS.out
          rw [P0.out] at this
          simpa using this)
        -- both rows
        obtain ⟨w1, hw1⟩ : ∃ w1, w1 = w.setCell ⟨gp, k, none⟩ (.int .i64 (what : Int)) := ⟨_, rfl⟩
        have o1 : Only (fun g => g = gp) w w1 := by rw [hw1]; exact (Only.refl (fun g => g = gp) w).into rfl _ _
        have p1 : Row w1 gp 3 (plC (mark k what v r).pl) := by
          rw [hw1]
          have := RP.out.put k (.int .i64 (what : Int))
          rw [plC_set] at this
          exact this
        have v1 : Row w1 gv 30 (vsC r.vs) := o1.row RV.out (fun e => NPV.out e.symm)
        obtain ⟨w2, hw2⟩ : ∃ w2, w2 = w1.setCell ⟨gv, k, none⟩ (.int .u64 v) := ⟨_, rfl⟩
        have o2 : Only (fun g => g = gv) w1 w2 := by rw [hw2]; exact (Only.refl (fun g => g = gv) w1).into rfl _ _
        have p2 : Row w2 gp 3 (plC (mark k what v r).pl) := o2.row p1 NPV.out
        have v2 : Row w2 gv 30 (vsC (mark k what v r).vs) := by
          rw [hw2]
          have := v1.put k (.int .u64 v)
          rw [vsC_set] at this
          exact this
        have o02 : Only (fun g => g = gp ∨ g = gv) w w2 := (o1.more (S' := fun g => g = gp ∨ g = gv) (fun _ _ e => .inl e)).same (o2.more (fun _ _ e => .inr e))
        have s2 : w2.heap.size = w.heap.size := by rw [hw2, World.size_setCell, hw1, World.size_setCell]
        have f1 : w.frozen? ⟨gp, k, none⟩ = false := RP.out.frozen k
        have f2 : w1.frozen? ⟨gv, k, none⟩ = false := v1.frozen k
        have dv : w1.cell? ⟨gv, k, none⟩ = some (.int .u64 u0) := by rw [v1.cell]; exact vsC_get hu0
        obtain ⟨e0, e1, e2, e3, e4, e5⟩ := FA.out w1 (o1.more (fun _ _ e => .inl (.inl e)))
        obtain ⟨g0, g1, g2, g3, g4, g5⟩ := FA.out w2 (o02.more (fun _ _ e => .inl e))
        obtain ⟨W3, hW3⟩ : ∃ W, W = w2.alloc (.cells #[.int .i64 x, .int .i64 0, .slice none 0 0] 49) := ⟨_, rfl⟩
        have o3 : Only none_ w2 W3 := by rw [hW3]; exact (Only.refl _ _).alloc _
        have xa : Row W3 w2.heap.size 49 #[.int .i64 x, .int .i64 0, .slice none 0 0] := by rw [hW3]; exact Row.fresh _ _ _
        rw [s2] at xa
        have o03 : Only (fun g => g = gp ∨ g = gv) w W3 := o02.idle o3
        obtain ⟨m0, m1, m2, m3, m4, m5⟩ := FA.out W3 (o03.more (fun _ _ e => .inl e))
        have XA := Lib.hid xa
        have O3 := Lib.hid o03
        have P3 := Lib.hid (o3.still p2)
        have V3 := Lib.hid (o3.still v2)
        have FM := Lib.hid (show FineQ (mark k what v r) from FI.out.mark HA.out)
        have NM := Lib.hid (show (mark k what v r).pl.length = r.pl.length from List.length_set)
        have KM := Lib.hid (show (mark k what v r).kind = r.kind from rfl)
        have HM := Lib.hid (show mark k what v r = mark k what v r from rfl)
        clear o1 p1 v1 o2 p2 v2 o02 o3 xa o03 ha0 hu0 PI hz
        go_enter Try.func27, Try.ntmps27
        go_wp2_with fail
        (with_reducible refine AT.out.mono ?_)
        rintro e w1' ⟨rfl, hw1'⟩
        subst hw1'
        go_upto_region 9 with fail
        rw [← hw1]
        clear hw1 b0 b1 b2 b3 b4 b5 dp f1
        go_upto_region 10 with fail
        rw [← hw2]
        clear hw2 e0 e1 e2 e3 e4 e5 dv f2
        go_upto_region 11 with fail
        rw [← hW3]
        clear hW3 g0 g1 g2 g3 g4 g5 t1 t2 t3 t4
        obtain ⟨r', hr'⟩ : ∃ r', r' = mark k what v r := ⟨_, rfl⟩
        rw [← hr'] at P3 V3 FM NM KM S0
        have HR' := Lib.hid hr'
        obtain ⟨va, hva⟩ : ∃ va : Value, va = (if r.kind = 1 then .slice (some ⟨gv, 0, none⟩) r.pl.length r.pl.length else .slice none 0 0) := ⟨_, rfl⟩
        have VA := Lib.hid hva
        have a2 : W3.cell? ⟨w1'.heap.size, 2, none⟩ = some (.slice none 0 0) := XA.out.cell 2
        have af : W3.frozen? ⟨w1'.heap.size, 2, none⟩ = false := XA.out.frozen 2
        have al := XA.out.lt
        clear hr' HM hva
        have NG := Lib.hid (show gp ≠ w1'.heap.size ∧ gv ≠ w1'.heap.size from by omega)
        rcases FI.out.kd with kd | kd
        · have t5 : (r.kind == 1) = true := by simp [kd]
          have VB := Lib.hid (show va = .slice (some ⟨gv, 0, none⟩) r.pl.length r.pl.length from by rw [VA.out, if_pos kd])
          obtain ⟨wc, hwc⟩ : ∃ wc, wc = W3.setCell ⟨w1'.heap.size, 2, none⟩ (.slice (some ⟨gv, 0, none⟩) r.pl.length r.pl.length) := ⟨_, rfl⟩
          have hbx : Row wc w1'.heap.size 49 #[.int .i64 x, .int .i64 0, va] := by rw [VB.out, hwc]; exact XA.out.put 2 _
          have hox : Only (fun g => g = w1'.heap.size) W3 wc := by rw [hwc]; exact (Only.refl (fun g => g = w1'.heap.size) W3).into rfl _ _
          have BX := Lib.hid hbx
          have P4 := Lib.hid (hox.row P3.out (fun e => NG.out.1 e))
          have V4 := Lib.hid (hox.row V3.out (fun e => NG.out.2 e))
          have O4 := Lib.hid (show Only (fun g => (g = gp ∨ g = gv) ∨ w1'.heap.size ≤ g) w1' wc from (O3.out.more (fun _ _ e => .inl e)).same (hox.more (fun _ _ e => .inr (by rw [e]; exact Nat.le_refl _))))
          obtain ⟨n0, n1, n2, n3, n4, n5⟩ := FA.out wc O4.out
          have nl : r'.pl.length = r.pl.length := NM.out
          go_wp2_with fail
          rw [← hwc]
          clear hbx hox a2 af al m0 m1 m2 m3 m4 m5 P3 V3 hwc
          go_loopw [13] (fun s wr => ∃ j : Nat, j ≤ r.pl.length ∧ s = .int .i64 j ∧ wc = wr ∧ ∀ (y : Nat) (a : Nat), y < j → r'.pl[y]? = some a → a ≠ 0) (fun s _ => r.pl.length - (intOf s).toNat)
          case atStart => exact ⟨0, Nat.zero_le _, rfl, by first | rfl | trivial, fun y a hy => by omega⟩
          case round =>
            obtain ⟨j, hj, rfl, rfl, hn⟩ := hrel
            have HN := Lib.hid hn
            clear hn
            by_cases hlt : j < r.pl.length
            · obtain ⟨a, hja⟩ : ∃ a, r'.pl[j]? = some a := ⟨_, List.getElem?_eq_getElem (by omega)⟩
              have d3 : wc.cell? ⟨gp, j, none⟩ = some (.int .i64 (a : Int)) := by rw [P4.out.cell]; exact plC_get hja
              have t6 : decide (j < r.pl.length) = true := decide_eq_true hlt
              have HJ := Lib.hid hja
              clear hja nl
              by_cases e : a = 0
              · have t7 : ((a : Int) == 0) = true := by simp [e]
                have DN := Lib.hid (show doneQ r' = false from by
                  unfold doneQ
                  rw [Bool.eq_false_iff]
                  intro z
                  have := List.all_eq_true.1 z a (List.mem_of_getElem? HJ.out)
                  rw [e] at this
                  simp at this)
                clear e
                go_wp2_with fail
                go_ret
                refine ⟨by rw [P0.out]; rfl, ?_⟩
                rw [S0.out, DN.out, if_neg (by decide)]
                have tw : Only (two17 X r.id) w1' wc := ⟨O4.out.os, O4.out.tape, O4.out.output, O4.out.size, fun z hz nz => O4.out.block z hz (fun e => by
                  rcases e with (e | e) | e
                  · exact nz (.inl (by rw [e]; exact GP.out.1.symm))
                  · exact nz (.inr (by rw [e]; exact GP.out.2.symm))
                  · omega)⟩
                have tk := H.out.tick HR.out HA.out (by rw [← HR'.out]; exact DN.out) tw (by rw [GP.out.1, ← HR'.out]; exact P4.out) (by rw [GP.out.2, ← HR'.out]; exact V4.out)
                rw [ID.out] at tk
                refine ⟨⟨c, X, tk.up (Nat.le_succ L), Gw.refl _ _⟩, tw.more (fun z _ e => ?_)⟩
                rcases e with e | e
                · rw [e, GP.out.1, CP.out.1]; omega
                · rw [e, GP.out.2, CP.out.2]; omega
              · have t7 : ((a : Int) == 0) = false := by simp [e]
                have NE := Lib.hid e
                clear e
                go_wp2_with fail
                go_roundw
                case rel => exact ⟨j + 1, by omega, by go_num, by first | rfl | trivial, fun y b hy hb => by
                  rcases Nat.lt_or_ge y j with z | z
                  · exact HN.out y b z hb
                  · obtain rfl : y = j := by omega
                    have := HJ.out
                    rw [hb] at this
                    injection this with this
                    rw [this]; exact NE.out⟩
                case measure => simp [intOf]; omega
            · have t6 : decide (j < r.pl.length) = false := decide_eq_false hlt
              have DN := Lib.hid (show doneQ r' = true from by
                unfold doneQ
                rw [List.all_eq_true]
                intro a hma
                obtain ⟨y, hy⟩ := List.getElem?_of_mem hma
                have := HN.out y a (by have := lt_of_get hy; omega) hy
                simpa using this)
              go_wp2_with fail
              clear t6
              go_loopw [14] (fun s wr => ∃ (y : Nat) (cd : Int) (vv : Value), y ≤ r.pl.length ∧ s = .int .i64 y ∧ Row wr w1'.heap.size 49 #[.int .i64 x, .int .i64 cd, vv] ∧ (((r'.pl.take y).any (fun a => a == 2) = true ∧ cd = 7 ∧ vv = .slice none 0 0) ∨ ((r'.pl.take y).any (fun a => a == 2) = false ∧ cd = 0 ∧ vv = va)) ∧ Only (fun g => g = w1'.heap.size) wc wr) (fun s _ => r.pl.length - (intOf s).toNat)
              case atStart => exact ⟨0, 0, va, Nat.zero_le _, rfl, BX.out, .inr ⟨rfl, rfl, rfl⟩, Only.refl _ _⟩
              case round =>
                obtain ⟨y, cd, vv, hy, rfl, hrow, hcase, hoy⟩ := hrel
                have RW9 := Lib.hid hrow
                have CS := Lib.hid hcase
                have OY := Lib.hid hoy
                have O5 := Lib.hid (O4.out.same (hoy.more (fun _ _ e => .inr (by rw [e]; exact Nat.le_refl _))))
                obtain ⟨s0, s1, s2, s3, s4, s5⟩ := FA.out wr O5.out
                have P5 := Lib.hid (hoy.row P4.out (fun e => NG.out.1 e))
                clear n0 n1 n2 n3 n4 n5 hcase hoy
                by_cases hlt2 : y < r.pl.length
                · obtain ⟨a, hya⟩ : ∃ a, r'.pl[y]? = some a := ⟨_, List.getElem?_eq_getElem (by omega)⟩
                  have d4 : wr.cell? ⟨gp, y, none⟩ = some (.int .i64 (a : Int)) := by rw [P5.out.cell]; exact plC_get hya
                  have t8 : decide (y < r.pl.length) = true := decide_eq_true hlt2
                  have TK := Lib.hid (show (r'.pl.take (y + 1)).any (fun a => a == 2) = ((r'.pl.take y).any (fun a => a == 2) || (a == 2)) from by
                    rw [List.take_add_one, hya, List.any_append]
                    simp)
                  obtain ⟨av, ac, ev⟩ : ∃ a n c, vv = .slice a n c := by
                    rcases CS.out with ⟨_, _, e⟩ | ⟨_, _, e⟩
                    · exact ⟨_, _, _, e⟩
                    · rw [e, VA.out]
                      split <;> exact ⟨_, _, _, rfl⟩
                  obtain ⟨z0, z1, z2⟩ := hrow.three
                  clear hya hrow nl
                  by_cases e : a = 2
                  · have t9 : ((a : Int) == 2) = true := by simp [e]
                    have FX := Lib.hid ((RW9.out.put 1 (.int .i64 7)).put 2 (.slice none 0 0))
                    have FO := Lib.hid (((OY.out.into rfl 1 (.int .i64 7)).into rfl 2 (.slice none 0 0)))
                    have y1 := RW9.out.frozen 1
                    have y2 := RW9.out.frozen 2
                    have yl := RW9.out.lt
                    have TK2 := Lib.hid (show (r'.pl.take (y + 1)).any (fun a => a == 2) = true from by rw [TK.out, e]; simp)
                    obtain ⟨vc, ev⟩ := ev
                    rw [ev] at z2
                    clear e
                    go_wp2_with fail
                    go_roundw
                    case rel => exact ⟨y + 1, 7, .slice none 0 0, by omega, by go_num, FX.out, .inl ⟨TK2.out, rfl, rfl⟩, FO.out⟩
                    case measure => simp [intOf]; omega
                  · have t9 : ((a : Int) == 2) = false := by simp; omega
                    have TK2 := Lib.hid (show (r'.pl.take (y + 1)).any (fun a => a == 2) = (r'.pl.take y).any (fun a => a == 2) from by
                      rw [TK.out]
                      have : (a == 2) = false := by simp [e]
                      rw [this, Bool.or_false])
                    clear e
                    go_wp2_with fail
                    go_roundw
                    case rel => exact ⟨y + 1, cd, vv, by omega, by go_num, RW9.out, by rw [TK2.out]; exact CS.out, OY.out⟩
                    case measure => simp [intOf]; omega
                · have t8 : decide (y < r.pl.length) = false := decide_eq_false hlt2
                  have CS := CS.out
                  rw [List.take_of_length_le (by omega)] at CS
                  have CD : cd = codeQ r' := by
                    unfold codeQ lostQ
                    rcases CS with ⟨l, e, _⟩ | ⟨l, e, _⟩
                    · rw [l, e]; rfl
                    · rw [l, e]; rfl
                  have V5 := OY.out.row V4.out (fun e => NG.out.2 e)
                  have VV : VR wr (fun g => g = gv) vv (valsQ r') := by
                    unfold valsQ lostQ
                    rcases CS with ⟨l, _, e⟩ | ⟨l, _, e⟩
                    · rw [l, e]; exact VR.none _ _
                    · rw [l, e, VA.out]
                      simp only [Bool.false_eq_true, if_false]
                      rw [KM.out]
                      by_cases kd : r.kind = 1
                      · rw [if_pos kd, if_pos kd]
                        refine ⟨_, r.pl.length, by rw [FM.out.vl, NM.out], fun z u hu => ⟨gv, 0, rfl, rfl, ?_⟩⟩
                        rw [Nat.zero_add, V5.cell]
                        exact vsC_get hu
                      · rw [if_neg kd, if_neg kd]; exact VR.none _ _
                  have tw : Only (two17 X r.id) w1' wr := ⟨O5.out.os, O5.out.tape, O5.out.output, O5.out.size, fun z hz nz => O5.out.block z hz (fun e => by
                    rcases e with (e | e) | e
                    · exact nz (.inl (by rw [e]; exact GP.out.1.symm))
                    · exact nz (.inr (by rw [e]; exact GP.out.2.symm))
                    · omega)⟩
                  have RA := ranswer_any i r ⟨x, codeQ r', valsQ r'⟩ vv (fun g => g = gv) wr (H.out.other HR.out tw) H.out.good.once len H3.out VV (fun g e => by rw [e]; exact ⟨CP.out.2, by have := O5.out.size; omega⟩) FI.out.id1 HL.out
                  have RA := Lib.hid RA
                  have TW := Lib.hid tw
                  have S1 := Lib.hid (show putS t x (k : Int) what v = cutT t x (ansQ r') from by rw [S0.out, DN.out, if_pos rfl])
                  obtain ⟨z0, z1, z2⟩ := hrow.three
                  have IDR := Lib.hid (show ansQ r' = ⟨x, codeQ r', valsQ r'⟩ from by unfold ansQ; rw [HR'.out]; show (⟨r.id, _, _⟩ : An) = _; rw [ID.out])
                  obtain ⟨av, ac, ad, ev⟩ := VV.form4
                  subst CD ev
                  clear hrow CS V5 VV tw nl
                  dsimp only at RA
                  go_wp2_with fail
                  (with_reducible refine RA.out.mono ?_)
                  rintro e w5 ⟨rfl, ⟨c', X', h5, g5⟩, o5⟩
                  go_wp2_with fail
                  go_ret
                  refine ⟨by rw [P0.out]; rfl, ?_⟩
                  rw [S1.out, IDR.out]
                  rw [ID.out] at h5
                  refine ⟨⟨c', X', h5, fun z hz => ?_⟩, (TW.out.more (fun z _ e => ?_)).same o5⟩
                  · rcases g5 z hz with y | y
                    · exact .inl y
                    · exact .inr (by have := TW.out.size; omega)
                  · rcases e with e | e
                    · rw [e, GP.out.1, CP.out.1]; omega
                    · rw [e, GP.out.2, CP.out.2]; omega
        · have t5 : (r.kind == 1) = false := by simp [kd]
          have VB := Lib.hid (show va = .slice none 0 0 from by rw [VA.out, if_neg (by omega)])
          obtain ⟨wc, hwc⟩ : ∃ wc, wc = W3 := ⟨_, rfl⟩
          have hbx : Row wc w1'.heap.size 49 #[.int .i64 x, .int .i64 0, va] := by rw [VB.out, hwc]; exact XA.out
          have hox : Only (fun g => g = w1'.heap.size) W3 wc := by rw [hwc]; exact Only.refl _ _
          have BX := Lib.hid hbx
          have P4 := Lib.hid (hox.row P3.out (fun e => NG.out.1 e))
          have V4 := Lib.hid (hox.row V3.out (fun e => NG.out.2 e))
          have O4 := Lib.hid (show Only (fun g => (g = gp ∨ g = gv) ∨ w1'.heap.size ≤ g) w1' wc from (O3.out.more (fun _ _ e => .inl e)).same (hox.more (fun _ _ e => .inr (by rw [e]; exact Nat.le_refl _))))
          obtain ⟨n0, n1, n2, n3, n4, n5⟩ := FA.out wc O4.out
          have nl : r'.pl.length = r.pl.length := NM.out
          go_wp2_with fail
          rw [← hwc]
          clear hbx hox a2 af al m0 m1 m2 m3 m4 m5 P3 V3 hwc
          go_loopw [13] (fun s wr => ∃ j : Nat, j ≤ r.pl.length ∧ s = .int .i64 j ∧ wc = wr ∧ ∀ (y : Nat) (a : Nat), y < j → r'.pl[y]? = some a → a ≠ 0) (fun s _ => r.pl.length - (intOf s).toNat)
          case atStart => exact ⟨0, Nat.zero_le _, rfl, by first | rfl | trivial, fun y a hy => by omega⟩
          case round =>
            obtain ⟨j, hj, rfl, rfl, hn⟩ := hrel
            have HN := Lib.hid hn
            clear hn
            by_cases hlt : j < r.pl.length
            · obtain ⟨a, hja⟩ : ∃ a, r'.pl[j]? = some a := ⟨_, List.getElem?_eq_getElem (by omega)⟩
              have d3 : wc.cell? ⟨gp, j, none⟩ = some (.int .i64 (a : Int)) := by rw [P4.out.cell]; exact plC_get hja
              have t6 : decide (j < r.pl.length) = true := decide_eq_true hlt
              have HJ := Lib.hid hja
              clear hja nl
              by_cases e : a = 0
              · have t7 : ((a : Int) == 0) = true := by simp [e]
                have DN := Lib.hid (show doneQ r' = false from by
                  unfold doneQ
                  rw [Bool.eq_false_iff]
                  intro z
                  have := List.all_eq_true.1 z a (List.mem_of_getElem? HJ.out)
                  rw [e] at this
                  simp at this)
                clear e
                go_wp2_with fail
                go_ret
                refine ⟨by rw [P0.out]; rfl, ?_⟩
                rw [S0.out, DN.out, if_neg (by decide)]
                have tw : Only (two17 X r.id) w1' wc := ⟨O4.out.os, O4.out.tape, O4.out.output, O4.out.size, fun z hz nz => O4.out.block z hz (fun e => by
                  rcases e with (e | e) | e
                  · exact nz (.inl (by rw [e]; exact GP.out.1.symm))
                  · exact nz (.inr (by rw [e]; exact GP.out.2.symm))
                  · omega)⟩
                have tk := H.out.tick HR.out HA.out (by rw [← HR'.out]; exact DN.out) tw (by rw [GP.out.1, ← HR'.out]; exact P4.out) (by rw [GP.out.2, ← HR'.out]; exact V4.out)
                rw [ID.out] at tk
                refine ⟨⟨c, X, tk.up (Nat.le_succ L), Gw.refl _ _⟩, tw.more (fun z _ e => ?_)⟩
                rcases e with e | e
                · rw [e, GP.out.1, CP.out.1]; omega
                · rw [e, GP.out.2, CP.out.2]; omega
              · have t7 : ((a : Int) == 0) = false := by simp [e]
                have NE := Lib.hid e
                clear e
                go_wp2_with fail
                go_roundw
                case rel => exact ⟨j + 1, by omega, by go_num, by first | rfl | trivial, fun y b hy hb => by
                  rcases Nat.lt_or_ge y j with z | z
                  · exact HN.out y b z hb
                  · obtain rfl : y = j := by omega
                    have := HJ.out
                    rw [hb] at this
                    injection this with this
                    rw [this]; exact NE.out⟩
                case measure => simp [intOf]; omega
            · have t6 : decide (j < r.pl.length) = false := decide_eq_false hlt
              have DN := Lib.hid (show doneQ r' = true from by
                unfold doneQ
                rw [List.all_eq_true]
                intro a hma
                obtain ⟨y, hy⟩ := List.getElem?_of_mem hma
                have := HN.out y a (by have := lt_of_get hy; omega) hy
                simpa using this)
              go_wp2_with fail
              clear t6
              go_loopw [14] (fun s wr => ∃ (y : Nat) (cd : Int) (vv : Value), y ≤ r.pl.length ∧ s = .int .i64 y ∧ Row wr w1'.heap.size 49 #[.int .i64 x, .int .i64 cd, vv] ∧ (((r'.pl.take y).any (fun a => a == 2) = true ∧ cd = 7 ∧ vv = .slice none 0 0) ∨ ((r'.pl.take y).any (fun a => a == 2) = false ∧ cd = 0 ∧ vv = va)) ∧ Only (fun g => g = w1'.heap.size) wc wr) (fun s _ => r.pl.length - (intOf s).toNat)
              case atStart => exact ⟨0, 0, va, Nat.zero_le _, rfl, BX.out, .inr ⟨rfl, rfl, rfl⟩, Only.refl _ _⟩
              case round =>
                obtain ⟨y, cd, vv, hy, rfl, hrow, hcase, hoy⟩ := hrel
                have RW9 := Lib.hid hrow
                have CS := Lib.hid hcase
                have OY := Lib.hid hoy
                have O5 := Lib.hid (O4.out.same (hoy.more (fun _ _ e => .inr (by rw [e]; exact Nat.le_refl _))))
                obtain ⟨s0, s1, s2, s3, s4, s5⟩ := FA.out wr O5.out
                have P5 := Lib.hid (hoy.row P4.out (fun e => NG.out.1 e))
                clear n0 n1 n2 n3 n4 n5 hcase hoy
                by_cases hlt2 : y < r.pl.length
                · obtain ⟨a, hya⟩ : ∃ a, r'.pl[y]? = some a := ⟨_, List.getElem?_eq_getElem (by omega)⟩
                  have d4 : wr.cell? ⟨gp, y, none⟩ = some (.int .i64 (a : Int)) := by rw [P5.out.cell]; exact plC_get hya
                  have t8 : decide (y < r.pl.length) = true := decide_eq_true hlt2
                  have TK := Lib.hid (show (r'.pl.take (y + 1)).any (fun a => a == 2) = ((r'.pl.take y).any (fun a => a == 2) || (a == 2)) from by
                    rw [List.take_add_one, hya, List.any_append]
                    simp)
                  obtain ⟨av, ac, ev⟩ : ∃ a n c, vv = .slice a n c := by
                    rcases CS.out with ⟨_, _, e⟩ | ⟨_, _, e⟩
                    · exact ⟨_, _, _, e⟩
                    · rw [e, VA.out]
                      split <;> exact ⟨_, _, _, rfl⟩
                  obtain ⟨z0, z1, z2⟩ := hrow.three
                  clear hya hrow nl
                  by_cases e : a = 2
                  · have t9 : ((a : Int) == 2) = true := by simp [e]
                    have FX := Lib.hid ((RW9.out.put 1 (.int .i64 7)).put 2 (.slice none 0 0))
                    have FO := Lib.hid (((OY.out.into rfl 1 (.int .i64 7)).into rfl 2 (.slice none 0 0)))
                    have y1 := RW9.out.frozen 1
                    have y2 := RW9.out.frozen 2
                    have yl := RW9.out.lt
                    have TK2 := Lib.hid (show (r'.pl.take (y + 1)).any (fun a => a == 2) = true from by rw [TK.out, e]; simp)
                    obtain ⟨vc, ev⟩ := ev
                    rw [ev] at z2
                    clear e
                    go_wp2_with fail
                    go_roundw
                    case rel => exact ⟨y + 1, 7, .slice none 0 0, by omega, by go_num, FX.out, .inl ⟨TK2.out, rfl, rfl⟩, FO.out⟩
                    case measure => simp [intOf]; omega
                  · have t9 : ((a : Int) == 2) = false := by simp; omega
                    have TK2 := Lib.hid (show (r'.pl.take (y + 1)).any (fun a => a == 2) = (r'.pl.take y).any (fun a => a == 2) from by
                      rw [TK.out]
                      have : (a == 2) = false := by simp [e]
                      rw [this, Bool.or_false])
                    clear e
                    go_wp2_with fail
                    go_roundw
                    case rel => exact ⟨y + 1, cd, vv, by omega, by go_num, RW9.out, by rw [TK2.out]; exact CS.out, OY.out⟩
                    case measure => simp [intOf]; omega
                · have t8 : decide (y < r.pl.length) = false := decide_eq_false hlt2
                  have CS := CS.out
                  rw [List.take_of_length_le (by omega)] at CS
                  have CD : cd = codeQ r' := by
                    unfold codeQ lostQ
                    rcases CS with ⟨l, e, _⟩ | ⟨l, e, _⟩
                    · rw [l, e]; rfl
                    · rw [l, e]; rfl
                  have V5 := OY.out.row V4.out (fun e => NG.out.2 e)
                  have VV : VR wr (fun g => g = gv) vv (valsQ r') := by
                    unfold valsQ lostQ
                    rcases CS with ⟨l, _, e⟩ | ⟨l, _, e⟩
                    · rw [l, e]; exact VR.none _ _
                    · rw [l, e, VA.out]
                      simp only [Bool.false_eq_true, if_false]
                      rw [KM.out]
                      by_cases kd : r.kind = 1
                      · rw [if_pos kd, if_pos kd]
                        refine ⟨_, r.pl.length, by rw [FM.out.vl, NM.out], fun z u hu => ⟨gv, 0, rfl, rfl, ?_⟩⟩
                        rw [Nat.zero_add, V5.cell]
                        exact vsC_get hu
                      · rw [if_neg kd, if_neg kd]; exact VR.none _ _
                  have tw : Only (two17 X r.id) w1' wr := ⟨O5.out.os, O5.out.tape, O5.out.output, O5.out.size, fun z hz nz => O5.out.block z hz (fun e => by
                    rcases e with (e | e) | e
                    · exact nz (.inl (by rw [e]; exact GP.out.1.symm))
                    · exact nz (.inr (by rw [e]; exact GP.out.2.symm))
                    · omega)⟩
                  have RA := ranswer_any i r ⟨x, codeQ r', valsQ r'⟩ vv (fun g => g = gv) wr (H.out.other HR.out tw) H.out.good.once len H3.out VV (fun g e => by rw [e]; exact ⟨CP.out.2, by have := O5.out.size; omega⟩) FI.out.id1 HL.out
                  have RA := Lib.hid RA
                  have TW := Lib.hid tw
                  have S1 := Lib.hid (show putS t x (k : Int) what v = cutT t x (ansQ r') from by rw [S0.out, DN.out, if_pos rfl])
                  obtain ⟨z0, z1, z2⟩ := hrow.three
                  have IDR := Lib.hid (show ansQ r' = ⟨x, codeQ r', valsQ r'⟩ from by unfold ansQ; rw [HR'.out]; show (⟨r.id, _, _⟩ : An) = _; rw [ID.out])
                  obtain ⟨av, ac, ad, ev⟩ := VV.form4
                  subst CD ev
                  clear hrow CS V5 VV tw nl
                  dsimp only at RA
                  go_wp2_with fail
                  (with_reducible refine RA.out.mono ?_)
                  rintro e w5 ⟨rfl, ⟨c', X', h5, g5⟩, o5⟩
                  go_wp2_with fail
                  go_ret
                  refine ⟨by rw [P0.out]; rfl, ?_⟩
                  rw [S1.out, IDR.out]
                  rw [ID.out] at h5
                  refine ⟨⟨c', X', h5, fun z hz => ?_⟩, (TW.out.more (fun z _ e => ?_)).same o5⟩
                  · rcases g5 z hz with y | y
                    · exact .inl y
                    · exact .inr (by have := TW.out.size; omega)
                  · rcases e with e | e
                    · rw [e, GP.out.1, CP.out.1]; omega
                    · rw [e, GP.out.2, CP.out.2]; omega
      · have t4 : ((a0 : Int) != 0) = true := by simp [hz]
        have P4 := Lib.hid (show putI t.rs x (k : Int) = 4 from by rw [PI, if_neg (fun e => hz (by rw [ha0] at e; injection e))])
        have S4 := Lib.hid (show putS t x (k : Int) what v = t from by
          have := PS.out
          rw [P4.out] at this
          simpa using this)
        clear PI PS hz ha0 hu0
        go_enter Try.func27, Try.ntmps27
        go_wp2_with fail
        (with_reducible refine AT.out.mono ?_)
        rintro e w1 ⟨rfl, rfl⟩
        go_wp2_with fail
        go_ret
        exact ⟨by rw [P4.out]; rfl, by rw [S4.out]; exact H.out.same (Only.refl _ _)⟩
    · have P1 := Lib.hid (show putI t.rs x place = 1 from by
        have := PI.out
        simpa [hp] using this)
      have S1 := Lib.hid (show putS t x place what v = t from by
        have := PS.out
        rw [P1.out] at this
        simpa using this)
      have ways : decide (place < 0) = true ∨ (decide (place < 0) = false ∧ decide ((r.pl.length : Int) ≤ place) = true) := by
        by_cases e : place < 0
        · exact .inl (decide_eq_true e)
        · exact .inr ⟨decide_eq_false e, decide_eq_true (by omega)⟩
      clear PI PS hp
      rcases ways with t1 | ⟨t1, t2⟩
      all_goals
        go_enter Try.func27, Try.ntmps27
        go_wp2_with fail
        (with_reducible refine AT.out.mono ?_)
        rintro e w1 ⟨rfl, rfl⟩
        go_wp2_with fail
        go_ret
        exact ⟨by rw [P1.out]; rfl, by rw [S1.out]; exact H.out.same (Only.refl _ _)⟩

end
end Go.Proofs.Ytoflkeedfgnkhaa
