/- Two tables side by side, and what both have answered: rows of the call's own. -/
import Derived.Test.YtoflkeedfgnkhaaOt17
import Derived.Test.YtoflkeedfgnkhaaDv17
namespace Go.Proofs.Ytoflkeedfgnkhaa
open Go.RowKit Go.Maps
set_option linter.unusedVariables false
set_option maxRecDepth 100000
section
variable {w w' : World} {p : Nat} {c : Nat → Nat} {X : Loc17} {room L : Nat} {t : Tq}
/-- what was kept is taken, as the row that it was -/
theorem ttake_own (w : World) (h : TW w p c X room L t) :
    Calls Try.prog 20 #[.pointer (some ⟨p, 0, none⟩)] w fun e w' => ∃ v, e = .returned v ∧ ∃ (c' : Nat → Nat) (X' : Loc17) (ks : List Ak), TW w' p c' X' room L ⟨t.rs, []⟩ ∧ OwnsAk w' 0 v ks ∧ KeptAt w' (fun g => c g ≠ 0 ∧ c' g = 0) ks t.kept ∧ (∀ g, v.ownBlock = some g → c g ≠ 0 ∧ c' g = 0) ∧ (∀ g, c' g ≠ 0 → c g ≠ 0) ∧ Only (fun g => c g ≠ 0) w w' := by
  have q2 : w.cell? ⟨p, 2, none⟩ = some X.v := h.row.cell 2
  have f2 : w.frozen? ⟨p, 2, none⟩ = false := h.row.frozen 2
  obtain ⟨w1, hw1⟩ : ∃ w1, w1 = w.setCell ⟨p, 2, none⟩ (.slice none 0 0) := ⟨_, rfl⟩
  have o1 : Only (fun g => g = p) w w1 := by rw [hw1]; exact (Only.refl (fun g => g = p) w).into rfl _ _
  have r1 : Row w1 p 59 #[.int .i64 room, .map (some X.b), .slice none 0 0] := by rw [hw1]; exact h.row.put 2 _
  have np : ∀ g, c g ≠ 1 → ¬ g = p := fun g hg q => hg (by rw [q]; exact h.cp)
  have cc : ∀ g, c g ≠ 0 → c g ≠ 3 → c g ≠ 4 → (if c g = 3 ∨ c g = 4 then 0 else c g) = c g := fun g _ h3 h4 => if_neg (fun q => by rcases q with q | q <;> contradiction)
  have T1 : TW w1 p (fun g => if c g = 3 ∨ c g = 4 then 0 else c g) { X with v := .slice none 0 0, ks := [] } room L ⟨t.rs, []⟩ := by
    refine { row := r1, cp := ?_, mp := h.mp.keep o1 (np _ (by rw [h.cb]; decide)), cb := ?_, own := Owns.start _ _ _ _ _, co := fun g hg => (by cases hg), kept := KeptAt.nil _ _, rq := fun r hr => ⟨o1.row (h.rq r hr).1 (np _ (by rw [(h.rq r hr).2]; omega)), ?_⟩, lt := fun g hg => ?_, good := h.good, kl := Nat.zero_le _ }
    · show (if c p = 3 ∨ c p = 4 then 0 else c p) = 1
      rw [cc _ (by rw [h.cp]; decide) (by rw [h.cp]; decide) (by rw [h.cp]; decide)]; exact h.cp
    · show (if c X.b = 3 ∨ c X.b = 4 then 0 else c X.b) = 2
      rw [cc _ (by rw [h.cb]; decide) (by rw [h.cb]; decide) (by rw [h.cb]; decide)]; exact h.cb
    · show (if c _ = 3 ∨ c _ = 4 then 0 else c _) = _
      rw [cc _ (by rw [(h.rq r hr).2]; omega) (by rw [(h.rq r hr).2]; omega) (by rw [(h.rq r hr).2]; omega)]; exact (h.rq r hr).2
    · refine Nat.lt_of_lt_of_le (h.lt g (fun q => hg ?_)) o1.size
      rw [q]; rfl
  have OW : OwnsAk w1 0 X.v X.ks := h.own.keep o1 (fun g hg => np g (by rw [h.co g hg]; decide))
  have KK : KeptAt w1 (fun g => c g ≠ 0 ∧ (if c g = 3 ∨ c g = 4 then 0 else c g) = 0) X.ks t.kept :=
    (h.kept.keep o1 (fun g hg => np g (by have : c g = 4 := hg; rw [this]; decide))).more (fun g _ q => ⟨by have : c g = 4 := q; rw [this]; decide, if_pos (.inr q)⟩)
  have BB : ∀ g, X.v.ownBlock = some g → c g ≠ 0 ∧ (if c g = 3 ∨ c g = 4 then 0 else c g) = 0 := fun g hg => ⟨by rw [h.co g hg]; decide, if_pos (.inl (h.co g hg))⟩
  obtain ⟨va, vc, hv⟩ := owns_form h.own
  have FIN := Lib.hid T1
  have FA := Lib.hid OW
  have FK := Lib.hid KK
  have FB := Lib.hid BB
  have FO := Lib.hid (o1.more (S' := fun g => c g ≠ 0) (fun i _ q => by rw [q, h.cp]; decide))
  have FC := Lib.hid (show ∀ g, (if c g = 3 ∨ c g = 4 then 0 else c g) ≠ 0 → c g ≠ 0 from fun g hg q => hg (by rw [q]; rfl))
  have HV := Lib.hid hv
  rw [hv] at q2
  have lp := h.row.lt
  clear h o1 r1 np cc T1 OW KK BB hv
  go_enter Try.func20, Try.ntmps20
  go_wp2_with fail
  rw [← hw1]
  go_ret
  exact ⟨_, rfl, _, _, X.ks, FIN.out, (by rw [← HV.out]; exact FA.out), FK.out, (by rw [← HV.out]; exact FB.out), FC.out, FO.out⟩
end
/-- two tables x, y, the rows of all answers and of its own; k colours the rows: 1 all's row, 2 its own's row, 3 what is only read from now on -/
structure OT (w0 w : World) (p : Nat) (c : Nat → Nat) (q : Nat) (e : Nat → Nat) (k : Nat → Nat) (L : Nat) (t s : Tq) (va vb : Value) (ka kb : List Ak) (na nb : List An) : Prop where
  x : LT w0 w p c 16 L t
  y : LT w0 w q e 16 L s
  xy : ∀ g, c g ≠ 0 → e g = 0
  xk : ∀ g, c g ≠ 0 → k g = 0
  yk : ∀ g, e g ≠ 0 → k g = 0
  new : ∀ g, k g ≠ 0 → w0.heap.size ≤ g
  lt : ∀ g, k g ≠ 0 → g < w.heap.size
  a : OwnsAk w 0 va ka
  ca : ∀ g, va.ownBlock = some g → k g = 1
  b : OwnsAk w 0 vb kb
  cb : ∀ g, vb.ownBlock = some g → k g = 2
  ha : KeptAt w (fun g => k g = 3) ka na
  hb : KeptAt w (fun g => k g = 3) kb nb
section
variable {w0 w w' : World} {p : Nat} {c : Nat → Nat} {q : Nat} {e : Nat → Nat} {k : Nat → Nat} {L : Nat} {t s : Tq} {va vb : Value} {ka kb : List Ak} {na nb : List An}
theorem OT.still (h : OT w0 w p c q e k L t s va vb ka kb na nb) (o : Only none_ w w') : OT w0 w' p c q e k L t s va vb ka kb na nb :=
  { h with x := h.x.still o, y := h.y.still o, lt := fun g hg => Nat.lt_of_lt_of_le (h.lt g hg) o.size, a := h.a.still o, b := h.b.still o, ha := h.ha.keep o (fun _ _ s => s), hb := h.hb.keep o (fun _ _ s => s) }
theorem OT.up (h : OT w0 w p c q e k L t s va vb ka kb na nb) {L' : Nat} (z : L ≤ L') : OT w0 w p c q e k L' t s va vb ka kb na nb := { h with x := h.x.up z, y := h.y.up z }
theorem OT.only (h : OT w0 w p c q e k L t s va vb ka kb na nb) : Only none_ w0 w := h.x.only
/-- x turns -/
theorem OT.onx (h : OT w0 w p c q e k L t s va vb ka kb na nb) {L' : Nat} {t' : Tq} {c' : Nat → Nat} (hL : L ≤ L') (hm : LT w0 w' p c' 16 L' t') (gc : Gw w c c') {S : Nat → Prop} (hS : ∀ g, S g → e g = 0 ∧ k g = 0 ∧ w0.heap.size ≤ g) (o : Only S w w') : OT w0 w' p c' q e k L' t' s va vb ka kb na nb := by
  have cc : ∀ g, c' g ≠ 0 → c g ≠ 0 ∨ w.heap.size ≤ g := gc
  exact
  { x := hm
    y := (h.y.up hL).keepN o (fun g hg => ⟨(hS g hg).1, (hS g hg).2.2⟩)
    xy := fun g hg => by
      rcases cc g hg with z | z
      · exact h.xy g z
      · exact Classical.byContradiction fun k => by have := h.y.lt g k; omega
    xk := fun g hg => by
      rcases cc g hg with z | z
      · exact h.xk g z
      · exact Classical.byContradiction fun k => by have := h.lt g k; omega
    yk := h.yk
    new := h.new
    lt := fun g hg => Nat.lt_of_lt_of_le (h.lt g hg) o.size
    a := h.a.keep o (fun g hg z => by have := h.ca g hg; rw [(hS g z).2.1] at this; cases this)
    ca := h.ca
    b := h.b.keep o (fun g hg z => by have := h.cb g hg; rw [(hS g z).2.1] at this; cases this)
    cb := h.cb
    ha := h.ha.keep o (fun g hg z => by have : k g = 3 := hg; rw [(hS g z).2.1] at this; cases this)
    hb := h.hb.keep o (fun g hg z => by have : k g = 3 := hg; rw [(hS g z).2.1] at this; cases this) }
/-- y turns -/
theorem OT.ony (h : OT w0 w p c q e k L t s va vb ka kb na nb) {L' : Nat} {s' : Tq} {e' : Nat → Nat} (hL : L ≤ L') (hm : LT w0 w' q e' 16 L' s') (gc : Gw w e e') {S : Nat → Prop} (hS : ∀ g, S g → c g = 0 ∧ k g = 0 ∧ w0.heap.size ≤ g) (o : Only S w w') : OT w0 w' p c q e' k L' t s' va vb ka kb na nb := by
  have cc : ∀ g, e' g ≠ 0 → e g ≠ 0 ∨ w.heap.size ≤ g := gc
  exact
  { x := (h.x.up hL).keepN o (fun g hg => ⟨(hS g hg).1, (hS g hg).2.2⟩)
    y := hm
    xy := fun g hg => Classical.byContradiction fun z => by
      rcases cc g z with z | z
      · exact z (h.xy g hg)
      · have := h.x.lt g hg; omega
    xk := h.xk
    yk := fun g hg => by
      rcases cc g hg with z | z
      · exact h.yk g z
      · exact Classical.byContradiction fun k => by have := h.lt g k; omega
    new := h.new
    lt := fun g hg => Nat.lt_of_lt_of_le (h.lt g hg) o.size
    a := h.a.keep o (fun g hg z => by have := h.ca g hg; rw [(hS g z).2.1] at this; cases this)
    ca := h.ca
    b := h.b.keep o (fun g hg z => by have := h.cb g hg; rw [(hS g z).2.1] at this; cases this)
    cb := h.cb
    ha := h.ha.keep o (fun g hg z => by have : k g = 3 := hg; rw [(hS g z).2.1] at this; cases this)
    hb := h.hb.keep o (fun g hg z => by have : k g = 3 := hg; rw [(hS g z).2.1] at this; cases this) }
/-- blocks G, that are nobody's now, are only read from now on -/
theorem OT.read (h : OT w0 w p c q e k L t s va vb ka kb na nb) {G : Nat → Prop} (hG : ∀ g, G g → c g = 0 ∧ e g = 0 ∧ k g = 0 ∧ w0.heap.size ≤ g ∧ g < w.heap.size) : ∃ k', OT w0 w p c q e k' L t s va vb ka kb na nb ∧ (∀ g, G g → k' g = 3) := by
  classical
  have kk : ∀ g, k g ≠ 0 → (if G g then 3 else k g) = k g := fun g hg => if_neg (fun z => hg (hG g z).2.2.1)
  refine ⟨fun g => if G g then 3 else k g, { x := h.x, y := h.y, xy := h.xy, xk := fun g hg => ?_, yk := fun g hg => ?_, new := fun g hg => ?_, lt := fun g hg => ?_, a := h.a, ca := fun g hg => ?_, b := h.b, cb := fun g hg => ?_, ha := ?_, hb := ?_ }, fun g hg => if_pos hg⟩
  · show (if G g then 3 else k g) = 0
    rw [if_neg (fun z => hg (hG g z).1)]; exact h.xk g hg
  · show (if G g then 3 else k g) = 0
    rw [if_neg (fun z => hg (hG g z).2.1)]; exact h.yk g hg
  · by_cases z : G g
    · exact (hG g z).2.2.2.1
    · rw [if_neg z] at hg; exact h.new g hg
  · by_cases z : G g
    · exact (hG g z).2.2.2.2
    · rw [if_neg z] at hg; exact h.lt g hg
  · show (if G g then 3 else k g) = 1
    rw [kk g (by rw [h.ca g hg]; decide)]; exact h.ca g hg
  · show (if G g then 3 else k g) = 2
    rw [kk g (by rw [h.cb g hg]; decide)]; exact h.cb g hg
  · exact h.ha.more (fun g _ z => by
      have z3 : k g = 3 := z
      show (if G g then 3 else k g) = 3
      rw [kk g (by rw [z3]; decide)]; exact z3)
  · exact h.hb.more (fun g _ z => by
      have z3 : k g = 3 := z
      show (if G g then 3 else k g) = 3
      rw [kk g (by rw [z3]; decide)]; exact z3)
theorem KeptAt.app {w : World} {G : Nat → Prop} {ks ls : List Ak} {ns ms : List An} (h : KeptAt w G ks ns) (m : KeptAt w G ls ms) : KeptAt w G (ks ++ ls) (ns ++ ms) := by
  refine ⟨by rw [List.length_append, List.length_append, h.1, m.1], fun i b n h1 h2 => ?_⟩
  rcases Nat.lt_or_ge i ks.length with z | z
  · rw [List.getElem?_append_left z] at h1
    rw [List.getElem?_append_left (by rw [← h.1]; exact z)] at h2
    exact h.2 i b n h1 h2
  · rw [List.getElem?_append_right z] at h1
    rw [List.getElem?_append_right (by rw [← h.1]; exact z), ← h.1] at h2
    exact m.2 _ b n h1 h2
/-- all's row grows -/
theorem OT.pusha (h : OT w0 w p c q e k L t s va vb ka kb na nb) {v' : Value} {ls : List Ak} {ms : List An} (own : OwnsAk w' 0 v' (ka ++ ls)) (og : Only (fun j => some j = va.ownBlock) w w') (hv : v'.ownBlock = va.ownBlock ∨ v'.ownBlock = some w.heap.size) (m : KeptAt w (fun g => k g = 3) ls ms) :
    ∃ k', OT w0 w' p c q e k' L t s v' vb (ka ++ ls) kb (na ++ ms) nb ∧ ∀ g, k g = 3 → k' g = 3 := by
  have k0 : ∀ g, w.heap.size ≤ g → k g = 0 := fun g hg => Classical.byContradiction fun z => by have := h.lt g z; omega
  have nS : ∀ g, k g ≠ 1 → ¬ some g = va.ownBlock := fun g hg z => hg (h.ca g z.symm)
  have kk : ∀ g, k g ≠ 0 → (if w.heap.size ≤ g ∧ v'.ownBlock = some g then 1 else k g) = k g := fun g hg => if_neg (fun z => hg (k0 g z.1))
  have cn : ∀ g, c g ≠ 0 → ¬ (w.heap.size ≤ g ∧ v'.ownBlock = some g) := fun g hg z => by have := h.x.lt g hg; omega
  have en : ∀ g, e g ≠ 0 → ¬ (w.heap.size ≤ g ∧ v'.ownBlock = some g) := fun g hg z => by have := h.y.lt g hg; omega
  refine ⟨fun g => if w.heap.size ≤ g ∧ v'.ownBlock = some g then 1 else k g, { x := ?_, y := ?_, xy := h.xy, xk := fun g hg => ?_, yk := fun g hg => ?_, new := fun g hg => ?_, lt := fun g hg => ?_, a := own, ca := fun g hg => ?_, b := h.b.keep og (fun g hg => nS g (by rw [h.cb g hg]; decide)), cb := fun g hg => ?_, ha := ?_, hb := ?_ }, fun g hg => ?_⟩
  · exact h.x.keepN og (fun g hg => ⟨Classical.byContradiction (fun z => by have := h.ca g hg.symm; rw [h.xk g z] at this; cases this), h.new g (by rw [h.ca g hg.symm]; decide)⟩)
  · exact h.y.keepN og (fun g hg => ⟨Classical.byContradiction (fun z => by have := h.ca g hg.symm; rw [h.yk g z] at this; cases this), h.new g (by rw [h.ca g hg.symm]; decide)⟩)
  · show (if _ then _ else _) = 0
    rw [if_neg (cn g hg)]; exact h.xk g hg
  · show (if _ then _ else _) = 0
    rw [if_neg (en g hg)]; exact h.yk g hg
  · by_cases z : w.heap.size ≤ g ∧ v'.ownBlock = some g
    · exact Nat.le_trans h.only.size z.1
    · rw [if_neg z] at hg; exact h.new g hg
  · by_cases z : w.heap.size ≤ g ∧ v'.ownBlock = some g
    · exact (own.base_le z.2).2
    · rw [if_neg z] at hg; exact Nat.lt_of_lt_of_le (h.lt g hg) og.size
  · show (if _ then _ else _) = 1
    rcases hv with z | z
    · have z1 := h.ca g (by rw [← z]; exact hg)
      rw [kk g (by rw [z1]; decide)]; exact z1
    · rw [if_pos ⟨by rw [hg] at z; injection z with z; omega, hg⟩]
  · show (if _ then _ else _) = 2
    rw [kk g (by rw [h.cb g hg]; decide)]; exact h.cb g hg
  · exact ((h.ha.app m).keep og (fun g hg => nS g (by have : k g = 3 := hg; rw [this]; decide))).more (fun g _ z => by
      have z3 : k g = 3 := z
      show (if _ then _ else _) = 3
      rw [kk g (by rw [z3]; decide)]; exact z3)
  · exact (h.hb.keep og (fun g hg => nS g (by have : k g = 3 := hg; rw [this]; decide))).more (fun g _ z => by
      have z3 : k g = 3 := z
      show (if _ then _ else _) = 3
      rw [kk g (by rw [z3]; decide)]; exact z3)
  · show (if _ then _ else _) = 3
    rw [kk g (by rw [hg]; decide)]; exact hg
/-- its own's row grows -/
theorem OT.pushb (h : OT w0 w p c q e k L t s va vb ka kb na nb) {v' : Value} {ls : List Ak} {ms : List An} (own : OwnsAk w' 0 v' (kb ++ ls)) (og : Only (fun j => some j = vb.ownBlock) w w') (hv : v'.ownBlock = vb.ownBlock ∨ v'.ownBlock = some w.heap.size) (m : KeptAt w (fun g => k g = 3) ls ms) :
    ∃ k', OT w0 w' p c q e k' L t s va v' ka (kb ++ ls) na (nb ++ ms) ∧ ∀ g, k g = 3 → k' g = 3 := by
  have k0 : ∀ g, w.heap.size ≤ g → k g = 0 := fun g hg => Classical.byContradiction fun z => by have := h.lt g z; omega
  have nS : ∀ g, k g ≠ 2 → ¬ some g = vb.ownBlock := fun g hg z => hg (h.cb g z.symm)
  have kk : ∀ g, k g ≠ 0 → (if w.heap.size ≤ g ∧ v'.ownBlock = some g then 2 else k g) = k g := fun g hg => if_neg (fun z => hg (k0 g z.1))
  have cn : ∀ g, c g ≠ 0 → ¬ (w.heap.size ≤ g ∧ v'.ownBlock = some g) := fun g hg z => by have := h.x.lt g hg; omega
  have en : ∀ g, e g ≠ 0 → ¬ (w.heap.size ≤ g ∧ v'.ownBlock = some g) := fun g hg z => by have := h.y.lt g hg; omega
  refine ⟨fun g => if w.heap.size ≤ g ∧ v'.ownBlock = some g then 2 else k g, { x := ?_, y := ?_, xy := h.xy, xk := fun g hg => ?_, yk := fun g hg => ?_, new := fun g hg => ?_, lt := fun g hg => ?_, b := own, cb := fun g hg => ?_, a := h.a.keep og (fun g hg => nS g (by rw [h.ca g hg]; decide)), ca := fun g hg => ?_, ha := ?_, hb := ?_ }, fun g hg => ?_⟩
  · exact h.x.keepN og (fun g hg => ⟨Classical.byContradiction (fun z => by have := h.cb g hg.symm; rw [h.xk g z] at this; cases this), h.new g (by rw [h.cb g hg.symm]; decide)⟩)
  · exact h.y.keepN og (fun g hg => ⟨Classical.byContradiction (fun z => by have := h.cb g hg.symm; rw [h.yk g z] at this; cases this), h.new g (by rw [h.cb g hg.symm]; decide)⟩)
  · show (if _ then _ else _) = 0
    rw [if_neg (cn g hg)]; exact h.xk g hg
  · show (if _ then _ else _) = 0
    rw [if_neg (en g hg)]; exact h.yk g hg
  · by_cases z : w.heap.size ≤ g ∧ v'.ownBlock = some g
    · exact Nat.le_trans h.only.size z.1
    · rw [if_neg z] at hg; exact h.new g hg
  · by_cases z : w.heap.size ≤ g ∧ v'.ownBlock = some g
    · exact (own.base_le z.2).2
    · rw [if_neg z] at hg; exact Nat.lt_of_lt_of_le (h.lt g hg) og.size
  · show (if _ then _ else _) = 1
    rw [kk g (by rw [h.ca g hg]; decide)]; exact h.ca g hg
  · show (if _ then _ else _) = 2
    rcases hv with z | z
    · have z1 := h.cb g (by rw [← z]; exact hg)
      rw [kk g (by rw [z1]; decide)]; exact z1
    · rw [if_pos ⟨by rw [hg] at z; injection z with z; omega, hg⟩]
  · exact (h.ha.keep og (fun g hg => nS g (by have : k g = 3 := hg; rw [this]; decide))).more (fun g _ z => by
      have z3 : k g = 3 := z
      show (if _ then _ else _) = 3
      rw [kk g (by rw [z3]; decide)]; exact z3)
  · exact ((h.hb.app m).keep og (fun g hg => nS g (by have : k g = 3 := hg; rw [this]; decide))).more (fun g _ z => by
      have z3 : k g = 3 := z
      show (if _ then _ else _) = 3
      rw [kk g (by rw [z3]; decide)]; exact z3)
  · show (if _ then _ else _) = 3
    rw [kk g (by rw [hg]; decide)]; exact hg
/-- x is taken -/
theorem o_takex (h : OT w0 w p c q e k L t s va vb ka kb na nb) :
    Calls Try.prog 20 #[.pointer (some ⟨p, 0, none⟩)] w fun x w' => ∃ v, x = .returned v ∧ ∃ c' k', OT w0 w' p c' q e k' L ⟨t.rs, []⟩ s va vb ka kb na nb ∧ AR w' (fun g => k' g = 3) v t.kept := by
  obtain ⟨X, k1⟩ := h.x.tw
  refine (ttake_own w k1).mono ?_
  rintro x w' ⟨v, he, c', X', ks, h1, h2, h3, h4, h5, h6⟩
  have hh := h.onx (Nat.le_refl L) (c' := c') (t' := ⟨t.rs, []⟩) (w' := w') ⟨⟨X', h1⟩, fun g hg => h.x.new g (h5 g hg), h.only.trans h6 (fun i hi s => absurd (h.x.new i s) (Nat.not_le.2 hi))⟩ (fun g z => .inl (h5 g z)) (fun g z => ⟨h.xy g z, h.xk g z, h.x.new g z⟩) h6
  obtain ⟨k', hk, hg⟩ := hh.read (G := fun g => c g ≠ 0 ∧ c' g = 0) (fun g hg => ⟨hg.2, h.xy g hg.1, h.xk g hg.1, h.x.new g hg.1, Nat.lt_of_lt_of_le (h.x.lt g hg.1) h6.size⟩)
  exact ⟨v, he, c', k', hk, AR.of_owns h2 (h3.more (fun g _ z => hg g z)) (fun g z => hg g (h4 g z))⟩
/-- y is taken -/
theorem o_takey (h : OT w0 w p c q e k L t s va vb ka kb na nb) :
    Calls Try.prog 20 #[.pointer (some ⟨q, 0, none⟩)] w fun x w' => ∃ v, x = .returned v ∧ ∃ e' k' ks, OT w0 w' p c q e' k' L t ⟨s.rs, []⟩ va vb ka kb na nb ∧ OwnsAk w' 0 v ks ∧ KeptAt w' (fun g => k' g = 3) ks s.kept := by
  obtain ⟨X, k1⟩ := h.y.tw
  refine (ttake_own w k1).mono ?_
  rintro x w' ⟨v, he, c', X', ks, h1, h2, h3, h4, h5, h6⟩
  have hh := h.ony (Nat.le_refl L) (e' := c') (s' := ⟨s.rs, []⟩) (w' := w') ⟨⟨X', h1⟩, fun g hg => h.y.new g (h5 g hg), h.only.trans h6 (fun i hi s => absurd (h.y.new i s) (Nat.not_le.2 hi))⟩ (fun g z => .inl (h5 g z)) (fun g z => ⟨Classical.byContradiction fun y => z (h.xy g y), h.yk g z, h.y.new g z⟩) h6
  obtain ⟨k', hk, hg⟩ := hh.read (G := fun g => c' g = 0 ∧ e g ≠ 0) (fun g hg => ⟨Classical.byContradiction fun z => hg.2 (h.xy g z), hg.1, h.yk g hg.2, h.y.new g hg.2, Nat.lt_of_lt_of_le (h.y.lt g hg.2) h6.size⟩)
  exact ⟨v, he, c', k', ks, hk, h2, h3.more (fun g _ z => hg g ⟨z.2, z.1⟩)⟩
end
/-- .. and a table of the document's own, made for the round -/
structure OD (w0 w : World) (p : Nat) (c : Nat → Nat) (q : Nat) (e : Nat → Nat) (k : Nat → Nat) (L : Nat) (t s : Tq) (va vb : Value) (ka kb : List Ak) (na nb : List An) (r : Nat) (d : Nat → Nat) (K : Nat) (z : Tq) (b9 : Nat) (cs : Array Value) : Prop where
  ot : OT w0 w p c q e k L t s va vb ka kb na nb
  rw : ∃ X, RW w r d X 1 K z
  dn : ∀ g, d g ≠ 0 → w0.heap.size ≤ g
  cd : ∀ g, c g ≠ 0 → d g = 0
  ed : ∀ g, e g ≠ 0 → d g = 0
  kd : ∀ g, k g ≠ 0 → d g = 0
  row : Row w b9 32 cs
  bc : c b9 = 0
  be : e b9 = 0
  bk : k b9 = 0
  bd : d b9 = 0
section
variable {w0 w w' : World} {p : Nat} {c : Nat → Nat} {q : Nat} {e : Nat → Nat} {k : Nat → Nat} {L : Nat} {t s : Tq} {va vb : Value} {ka kb : List Ak} {na nb : List An} {r : Nat} {d : Nat → Nat} {K : Nat} {z : Tq} {b9 : Nat} {cs : Array Value}
theorem OD.still (h : OD w0 w p c q e k L t s va vb ka kb na nb r d K z b9 cs) (o : Only none_ w w') : OD w0 w' p c q e k L t s va vb ka kb na nb r d K z b9 cs :=
  { h with ot := h.ot.still o, rw := h.rw.imp (fun X z => z.still o), row := o.still h.row }
theorem OD.dlt (h : OD w0 w p c q e k L t s va vb ka kb na nb r d K z b9 cs) : ∀ g, d g ≠ 0 → g < w.heap.size := let ⟨_, k⟩ := h.rw; k.lt
theorem OD.start (h : OT w0 w p c q e k L t s va vb ka kb na nb) (row : Row w b9 32 cs) (bc : c b9 = 0) (be : e b9 = 0) (bk : k b9 = 0) (o : Only none_ w w') (m : ∃ d X, RW w' r d X 1 0 ⟨[], []⟩ ∧ ∀ g, d g ≠ 0 → w.heap.size ≤ g) : ∃ d, OD w0 w' p c q e k L t s va vb ka kb na nb r d 0 ⟨[], []⟩ b9 cs := by
  obtain ⟨d, X, h1, h2⟩ := m
  have nd : ∀ g, g < w.heap.size → d g = 0 := fun g hg => Classical.byContradiction fun z => by have := h2 g z; omega
  exact ⟨d, h.still o, ⟨X, h1⟩, fun g hg => Nat.le_trans h.only.size (h2 g hg), fun g hg => nd g (h.x.lt g hg), fun g hg => nd g (h.y.lt g hg), fun g hg => nd g (h.lt g hg), o.still row, bc, be, bk, nd _ row.lt⟩
/-- one step on x -/
theorem o_stepx (h : OD w0 w p c q e k L t s va vb ka kb na nb r d K z b9 cs) (a : Act1) (wa : (Lit.int .i64 a.id).wf = true) (hL : L < 1000000) (hK : K < 1000000) (b1 : Small17 t) (b2 : Small17 z) :
    Calls Try.prog 11 #[.pointer (some ⟨p, 0, none⟩), .pointer (some ⟨r, 0, none⟩), .agg #[.int .i64 a.kind, .int .i64 a.id, .int .i64 a.n, .int .i64 a.place, .int .u64 a.v]] w fun x w' => ∃ bb : Bool, x = .returned (.bool bb) ∧ ∃ c' d', OD w0 w' p c' q e k (L + 1) (stepT 16 t a) s va vb ka kb na nb r d' (K + 1) (stepT 1 z a) b9 cs := by
  have D : D17 w0 w p c r d 16 L t 1 K z := ⟨h.ot.x, h.rw, h.dn, h.cd⟩
  refine (step_any a w D wa hL hK b1.big b2.big).mono ?_
  rintro x w' ⟨bb, he, _, c', d', hd, gc, gd, o⟩
  have bl := h.row.lt
  have size := o.size
  exact ⟨bb, he, c', d',
  { ot := h.ot.onx (Nat.le_succ L) hd.lt gc (fun g hg => by
      rcases hg with y | y
      · exact ⟨h.ot.xy g y, h.ot.xk g y, h.ot.x.new g y⟩
      · exact ⟨Classical.byContradiction fun u => y (h.ed g u), Classical.byContradiction fun u => y (h.kd g u), h.dn g y⟩) o
    rw := hd.rw
    dn := hd.new
    cd := hd.apart
    ed := fun g hg => Classical.byContradiction fun u => by
      rcases gd g u with y | y
      · exact y (h.ed g hg)
      · have := h.ot.y.lt g hg; omega
    kd := fun g hg => Classical.byContradiction fun u => by
      rcases gd g u with y | y
      · exact y (h.kd g hg)
      · have := h.ot.lt g hg; omega
    row := o.row h.row (fun u => by rcases u with u | u; exact u h.bc; exact u h.bd)
    bc := Classical.byContradiction fun u => by
      rcases gc b9 u with y | y
      · exact y h.bc
      · omega
    be := h.be
    bk := h.bk
    bd := Classical.byContradiction fun u => by
      rcases gd b9 u with y | y
      · exact y h.bd
      · omega }⟩
/-- one step on y -/
theorem o_stepy (h : OD w0 w p c q e k L t s va vb ka kb na nb r d K z b9 cs) (a : Act1) (wa : (Lit.int .i64 a.id).wf = true) (hL : L < 1000000) (hK : K < 1000000) (b1 : Small17 s) (b2 : Small17 z) :
    Calls Try.prog 11 #[.pointer (some ⟨q, 0, none⟩), .pointer (some ⟨r, 0, none⟩), .agg #[.int .i64 a.kind, .int .i64 a.id, .int .i64 a.n, .int .i64 a.place, .int .u64 a.v]] w fun x w' => ∃ bb : Bool, x = .returned (.bool bb) ∧ ∃ e' d', OD w0 w' p c q e' k (L + 1) t (stepT 16 s a) va vb ka kb na nb r d' (K + 1) (stepT 1 z a) b9 cs := by
  have D : D17 w0 w q e r d 16 L s 1 K z := ⟨h.ot.y, h.rw, h.dn, h.ed⟩
  refine (step_any a w D wa hL hK b1.big b2.big).mono ?_
  rintro x w' ⟨bb, he, _, c', d', hd, gc, gd, o⟩
  have bl := h.row.lt
  have size := o.size
  exact ⟨bb, he, c', d',
  { ot := h.ot.ony (Nat.le_succ L) hd.lt gc (fun g hg => by
      rcases hg with y | y
      · exact ⟨Classical.byContradiction fun u => y (h.ot.xy g u), h.ot.yk g y, h.ot.y.new g y⟩
      · exact ⟨Classical.byContradiction fun u => y (h.cd g u), Classical.byContradiction fun u => y (h.kd g u), h.dn g y⟩) o
    rw := hd.rw
    dn := hd.new
    ed := hd.apart
    cd := fun g hg => Classical.byContradiction fun u => by
      rcases gd g u with y | y
      · exact y (h.cd g hg)
      · have := h.ot.x.lt g hg; omega
    kd := fun g hg => Classical.byContradiction fun u => by
      rcases gd g u with y | y
      · exact y (h.kd g hg)
      · have := h.ot.lt g hg; omega
    row := o.row h.row (fun u => by rcases u with u | u; exact u h.be; exact u h.bd)
    be := Classical.byContradiction fun u => by
      rcases gc b9 u with y | y
      · exact y h.be
      · omega
    bc := h.bc
    bk := h.bk
    bd := Classical.byContradiction fun u => by
      rcases gd b9 u with y | y
      · exact y h.bd
      · omega }⟩
theorem rnew_one (w : World) : Calls Try.prog 10 #[.int .i64 1] w fun e w' => ∃ q, e = .returned (.pointer (some ⟨q, 0, none⟩)) ∧ (∃ c X, RW w' q c X 1 0 ⟨[], []⟩ ∧ ∀ g, c g ≠ 0 → w.heap.size ≤ g) ∧ Only none_ w w' := rnew_any 1 w (by decide)
end
theorem AR.at_ {w : World} {G : Nat → Prop} {a : Option Addr} {m cap : Nat} {ns : List An} (h : AR w G (.slice a m cap) ns) {j : Nat} {n : An} (hn : ns[j]? = some n) : ∃ g o, a = some ⟨g, o, Option.none⟩ ∧ ∃ v, VR w G v n.vs ∧ w.cell? ⟨g, o + j * 3, Option.none⟩ = some (.int .i64 n.id) ∧ w.cell? ⟨g, o + j * 3 + 1, Option.none⟩ = some (.int .i64 n.code) ∧ w.cell? ⟨g, o + j * 3 + 2, Option.none⟩ = some v := by
  obtain ⟨a', cap', ks, he, hk, hc⟩ := h
  simp only [Value.slice.injEq] at he
  obtain ⟨rfl, _, _⟩ := he
  have lk : j < ks.length := by rw [hk.1]; exact lt_of_get hn
  obtain ⟨k, hkj⟩ : ∃ k, ks[j]? = some k := ⟨_, List.getElem?_eq_getElem lk⟩
  obtain ⟨g, o, e, _, c0, c1, c2⟩ := hc j k hkj
  obtain ⟨e1, e2, e3⟩ := hk.2 j k n hkj hn
  exact ⟨g, o, e, k.v, e3, by rw [← e1]; exact c0, by rw [← e2]; exact c1, c2⟩
theorem KeptAt.one {w : World} {G : Nat → Prop} {a : Ak} {n : An} (h : AkOk w G a n) : KeptAt w G [a] [n] := (KeptAt.nil w G).push h
theorem ak_ones {w : World} {G : Nat → Prop} {ks : List Ak} {ns : List An} (h : KeptAt w G ks ns) : ∀ u ∈ ks.flatMap Ak.cells, u.oneCell' = true := by
  intro u hu
  obtain ⟨k, hk, hu⟩ := List.mem_flatMap.1 hu
  obtain ⟨j, hj⟩ := List.getElem?_of_mem hk
  obtain ⟨n, hn⟩ : ∃ n, ns[j]? = some n := ⟨_, List.getElem?_eq_getElem (by rw [← h.1]; exact lt_of_get hj)⟩
  obtain ⟨_, _, hv⟩ := h.2 j k n hj hn
  obtain ⟨a, cap, e⟩ := hv.form
  exact ak_one_of k (by rw [e]; rfl) u hu
theorem take_more {α : Type} {l : List α} {j : Nat} {x : α} (h : l[j]? = some x) : l.take (j + 1) = l.take j ++ [x] := by rw [List.take_add_one, h]; rfl
theorem small_app {ns ms : List An} (h : ∀ n ∈ ns, n.vs.length ≤ 8) (m : ∀ n ∈ ms, n.vs.length ≤ 8) : ∀ n ∈ ns ++ ms, n.vs.length ≤ 8 := fun n hn => by
  rcases List.mem_append.1 hn with z | z
  · exact h n z
  · exact m n z
end Go.Proofs.Ytoflkeedfgnkhaa
