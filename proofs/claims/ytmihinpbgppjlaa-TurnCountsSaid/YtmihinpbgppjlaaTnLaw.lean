/- What the laws of layer 12 share: turns and the document's own turns, side by side; each call of them; a step of both. -/
import Derived.Test.YtmihinpbgppjlaaStar
import Derived.Test.YtmihinpbgppjlaaTnW
import Derived.Test.YtmihinpbgppjlaaRtEnd
import Derived.Test.YtmihinpbgppjlaaRtProm
import Derived.Test.YtmihinpbgppjlaaActs12
import Derived.Deep.RegionHeld3
import Derived.Deep.CutRange
namespace Go.Proofs.Ytmihinpbgppjlaa
open Go.RowKit Go.Maps
set_option linter.unusedVariables false

/-- turns at block p, behind no more than c turns -/
def AT (p nd na c : Nat) (ss : List Sl) : Asr where
  at_ := fun w M => ∃ b L ps, TnAt w p b nd na L ps ∧ ps.map Pl.sl = ss ∧ L ≤ c ∧ ∀ g, M g ↔ (g = p ∨ g = b)
  keep := fun ⟨b, L, ps, h, e, l, m⟩ o hn => ⟨b, L, ps, h.keep o (hn p ((m p).2 (.inl rfl))) (hn b ((m b).2 (.inr rfl))), e, l, m⟩
  lt := fun ⟨b, L, ps, h, e, l, m⟩ g hg => by
    rcases (m g).1 hg with rfl | rfl
    · exact h.row.lt
    · exact h.md.lt
def AR (q nd na : Nat) (ss : List Sl) : Asr where
  at_ := fun w M => ∃ v1 v2, RtAt w q v1 v2 M nd na ss
  keep := fun ⟨v1, v2, h⟩ o hn => ⟨v1, v2, h.keep o hn⟩
  lt := fun ⟨v1, v2, h⟩ g hg => h.lt g hg
/-- a slice of integers of the law's own -/
def AI (v : Value) (xs : List Int) : Asr where
  at_ := fun w M => OwnsInts w 0 v xs ∧ ∀ g, M g ↔ v.ownBlock = some g
  keep := fun ⟨h, e⟩ o hn => ⟨Owns.keep h o (fun g hg => hn g ((e g).2 hg)), e⟩
  lt := fun ⟨h, e⟩ g hg => (Owns.base_le h ((e g).1 hg)).2
/-- what turns are, whatever was done -/
structure Fine12 (nd na : Nat) (ss : List Sl) : Prop where
  once : OnceL ss
  few : ∀ a, (rowL a ss).length ≤ mostL nd na a
  nd64 : nd ≤ 64
  na64 : na ≤ 64
theorem Fine12.len {nd na : Nat} {ss : List Sl} (h : Fine12 nd na ss) : ss.length ≤ 128 := by
  have e := rows_len ss
  have h1 := h.few false
  have h2 := h.few true
  have := h.nd64
  have := h.na64
  unfold mostL at h1 h2
  simp at h1 h2
  omega
theorem TnAt.fine {w : World} {p b nd na L : Nat} {ps : List Pl} (h : TnAt w p b nd na L ps) : Fine12 nd na (ps.map Pl.sl) := ⟨once_sl h.once, fun a => by rw [row_len]; exact h.few a, h.nd64, h.na64⟩
theorem Sg.fine {w0 w : World} {p nd na c : Nat} {ss : List Sl} (h : Sg w0 w (AT p nd na c ss)) : Fine12 nd na ss := by
  obtain ⟨⟨M, ⟨b, L, ps, h, rfl, _⟩, _⟩, _⟩ := h
  exact h.fine
/-- behind a call of turns -/
theorem did_frame {w0 w w' : World} {p nd na c b L : Nat} {ss : List Sl} {B : Asr} {M MA MB : Nat → Prop} (hb : B.at_ w MB) (d : ∀ g, MA g → ¬ MB g) (e : ∀ g, M g ↔ (MA g ∨ MB g)) (l : ∀ g, M g → w0.heap.size ≤ g) (k : Only none_ w0 w)
    (m : ∀ g, MA g ↔ (g = p ∨ g = b)) (hL : L ≤ c) (h : TurnTo w' p b nd na L ss) (o : Only (two12 p b) w w') : Sg w0 w' ((AT p nd na (c + 1) ss).and B) := by
  obtain ⟨L', ps, h, rfl, l'⟩ := h
  exact Asr.frame (A' := AT p nd na (c + 1) (ps.map Pl.sl)) hb d e l k ⟨⟨MA, ⟨b, L', ps, h, rfl, by omega, m⟩, fun g hg => .inl hg⟩, o.more (fun i _ s => (m i).2 s)⟩
theorem sg_new (nd na : Nat) (w0 w : World) {B : Asr} (h : Sg w0 w B) (h1 : 1 ≤ nd) (h2 : nd ≤ 64) (h3 : na ≤ 64) :
    Calls Try.prog 9 #[.int .i64 nd, .int .i64 na] w fun e w' => ∃ p, e = .returned (.tuple #[.pointer (some ⟨p, 0, none⟩), .int .i64 0]) ∧ Sg w0 w' ((AT p nd na 0 []).and B) ∧ Only none_ w w' := by
  refine (tnew_yes nd na w h1 h2 h3).mono ?_
  rintro e w' ⟨p, b, rfl, hl, lp, lb, o⟩
  refine ⟨p, rfl, ?_, o⟩
  obtain ⟨⟨MB, hb, l⟩, k⟩ := h
  exact Asr.frame (A' := AT p nd na 0 []) (MA := fun _ => False) (M := MB) hb (fun _ s => s.elim) (fun g => by simp) l k ⟨⟨fun g => g = p ∨ g = b, ⟨b, 0, [], hl, rfl, Nat.le_refl _, fun g => Iff.rfl⟩, fun g hg => .inr (by omega)⟩, o.more (fun _ _ s => s.elim)⟩
theorem sg_put {p nd na c : Nat} {ss : List Sl} (x : Int) (a : Bool) {w0 w : World} {B : Asr} (h : Sg w0 w ((AT p nd na c ss).and B)) (hx : (Lit.int .i64 x).wf = true) (hc : c < 100000000) :
    Calls Try.prog 21 #[.pointer (some ⟨p, 0, none⟩), .int .i64 x, .bool a] w fun e w' => e = .returned (.int .i64 (putC nd na ss x a)) ∧ Sg w0 w' ((AT p nd na (c + 1) (putS nd na ss x a)).and B) := by
  obtain ⟨⟨M, ⟨MA, MB, ⟨b, L, ps, ha, rfl, hL, m⟩, hb, d, e⟩, l⟩, k⟩ := h
  refine (tput_any x a w ha hx (by omega)).mono ?_
  rintro e' w' ⟨rfl, h, o⟩
  exact ⟨rfl, did_frame hb d e l k m hL h o⟩
theorem sg_start {p nd na c : Nat} {ss : List Sl} (x : Int) {w0 w : World} {B : Asr} (h : Sg w0 w ((AT p nd na c ss).and B)) (hx : (Lit.int .i64 x).wf = true) :
    Calls Try.prog 19 #[.pointer (some ⟨p, 0, none⟩), .int .i64 x] w fun e w' => e = .returned (.int .i64 (waitC ss x false)) ∧ Sg w0 w' ((AT p nd na (c + 1) (waitS ss x false)).and B) := by
  obtain ⟨⟨M, ⟨MA, MB, ⟨b, L, ps, ha, rfl, hL, m⟩, hb, d, e⟩, l⟩, k⟩ := h
  refine (tstart_any x w ha hx).mono ?_
  rintro e' w' ⟨rfl, h, o⟩
  exact ⟨rfl, did_frame hb d e l k m hL h o⟩
theorem sg_again {p nd na c : Nat} {ss : List Sl} (x : Int) {w0 w : World} {B : Asr} (h : Sg w0 w ((AT p nd na c ss).and B)) (hx : (Lit.int .i64 x).wf = true) :
    Calls Try.prog 20 #[.pointer (some ⟨p, 0, none⟩), .int .i64 x] w fun e w' => e = .returned (.int .i64 (waitC ss x true)) ∧ Sg w0 w' ((AT p nd na (c + 1) (waitS ss x true)).and B) := by
  obtain ⟨⟨M, ⟨MA, MB, ⟨b, L, ps, ha, rfl, hL, m⟩, hb, d, e⟩, l⟩, k⟩ := h
  refine (tagain_any x w ha hx).mono ?_
  rintro e' w' ⟨rfl, h, o⟩
  exact ⟨rfl, did_frame hb d e l k m hL h o⟩
theorem sg_promote {p nd na c : Nat} {ss : List Sl} (x : Int) {w0 w : World} {B : Asr} (h : Sg w0 w ((AT p nd na c ss).and B)) (hx : (Lit.int .i64 x).wf = true) (hc : c < 100000000) :
    Calls Try.prog 22 #[.pointer (some ⟨p, 0, none⟩), .int .i64 x] w fun e w' => e = .returned (.int .i64 (promC nd ss x)) ∧ Sg w0 w' ((AT p nd na (c + 1) (promS nd ss x)).and B) := by
  obtain ⟨⟨M, ⟨MA, MB, ⟨b, L, ps, ha, rfl, hL, m⟩, hb, d, e⟩, l⟩, k⟩ := h
  refine (tpromote_any x w ha hx (by omega)).mono ?_
  rintro e' w' ⟨rfl, h, o⟩
  exact ⟨rfl, did_frame hb d e l k m hL h o⟩
theorem sg_end {p nd na c : Nat} {ss : List Sl} (x : Int) {w0 w : World} {B : Asr} (h : Sg w0 w ((AT p nd na c ss).and B)) (hx : (Lit.int .i64 x).wf = true) :
    Calls Try.prog 23 #[.pointer (some ⟨p, 0, none⟩), .int .i64 x] w fun e w' => e = .returned (.int .i64 (endC ss x)) ∧ Sg w0 w' ((AT p nd na (c + 1) (cutL ss x)).and B) := by
  obtain ⟨⟨M, ⟨MA, MB, ⟨b, L, ps, ha, rfl, hL, m⟩, hb, d, e⟩, l⟩, k⟩ := h
  refine (tend_any x w ha hx).mono ?_
  rintro e' w' ⟨rfl, h, o⟩
  exact ⟨rfl, did_frame hb d e l k m hL h o⟩
/-- what only reads -/
def freeI (n : Nat) (a : Bool) (ss : List Sl) : Int := (n : Int) - (rowL a ss).length
theorem sg_free {p nd na c : Nat} {ss : List Sl} {w0 w : World} (h : Sg w0 w (AT p nd na c ss)) :
    Calls Try.prog 13 #[.pointer (some ⟨p, 0, none⟩)] w fun e w' => e = .returned (.tuple #[.int .i64 (freeI nd false ss), .int .i64 (freeI na true ss)]) ∧ Only none_ w w' := by
  obtain ⟨⟨M, ⟨b, L, ps, ha, rfl, hL, m⟩, l⟩, k⟩ := h
  have := tfree_any w ha
  unfold Freed12 at this
  rw [← row_len, ← row_len] at this
  exact this
theorem sg_state {p nd na c : Nat} {ss : List Sl} (x : Int) {w0 w : World} (h : Sg w0 w (AT p nd na c ss)) (hx : (Lit.int .i64 x).wf = true) :
    Calls Try.prog 14 #[.pointer (some ⟨p, 0, none⟩), .int .i64 x] w fun e w' => e = .returned (.tuple #[.bool (atL ss x).a, .bool (atL ss x).s, .bool (hasL ss x)]) ∧ Only none_ w w' := by
  obtain ⟨⟨M, ⟨b, L, ps, ha, rfl, hL, m⟩, l⟩, k⟩ := h
  rw [at_sl, has_sl]
  exact tstate_any x w ha hx
theorem sg_waiting {p nd na c : Nat} {ss : List Sl} {w0 w : World} (h : Sg w0 w (AT p nd na c ss)) (hc : c < 100000000) :
    Calls Try.prog 17 #[.pointer (some ⟨p, 0, none⟩)] w (Told (waitL ss) w) := by
  obtain ⟨⟨M, ⟨b, L, ps, ha, rfl, hL, m⟩, l⟩, k⟩ := h
  exact twaiting_any w ha (by omega)
/-- the document's own -/
theorem sg_rnew (nd na : Nat) (w0 w : World) {B : Asr} (h : Sg w0 w B) :
    Calls Try.prog 11 #[.int .i64 nd, .int .i64 na] w fun e w' => ∃ q, e = .returned (.pointer (some ⟨q, 0, none⟩)) ∧ Sg w0 w' ((AR q nd na []).and B) ∧ Only none_ w w' := by
  refine (rnew_any nd na w).mono ?_
  rintro e w' ⟨q, rfl, ⟨v1, v2, M, hl, lo⟩, o⟩
  refine ⟨q, rfl, ?_, o⟩
  obtain ⟨⟨MB, b, l⟩, k⟩ := h
  exact Asr.frame (A' := AR q nd na []) (MA := fun _ => False) (M := MB) b (fun _ s => s.elim) (fun g => by simp) l k ⟨⟨M, ⟨v1, v2, hl⟩, fun g hg => .inr (lo g hg)⟩, o.more (fun _ _ s => s.elim)⟩
theorem rt_frame {w0 w w' : World} {q nd na : Nat} {ss : List Sl} {B : Asr} {M MA MB : Nat → Prop} (hb : B.at_ w MB) (d : ∀ g, MA g → ¬ MB g) (e : ∀ g, M g ↔ (MA g ∨ MB g)) (l : ∀ g, M g → w0.heap.size ≤ g) (k : Only none_ w0 w)
    (h : RtTo w q MA nd na ss w') : Sg w0 w' ((AR q nd na ss).and B) := by
  obtain ⟨⟨v1, v2, M', h, hm⟩, o⟩ := h
  exact Asr.frame (A' := AR q nd na ss) hb d e l k ⟨⟨M', ⟨v1, v2, h⟩, hm⟩, o⟩
theorem sg_rput {q nd na : Nat} {ss : List Sl} (x : Int) (a : Bool) {w0 w : World} {B : Asr} (h : Sg w0 w ((AR q nd na ss).and B)) (hl : ss.length ≤ 400) (hn : nd ≤ 1000 ∧ na ≤ 1000) :
    Calls Try.prog 27 #[.pointer (some ⟨q, 0, none⟩), .int .i64 x, .bool a] w fun e w' => e = .returned (.int .i64 (putC nd na ss x a)) ∧ Sg w0 w' ((AR q nd na (putS nd na ss x a)).and B) := by
  obtain ⟨⟨M, ⟨MA, MB, ⟨v1, v2, ha⟩, hb, d, e⟩, l⟩, k⟩ := h
  cases a with
  | true =>
    refine (rput_ahead x w ha hl hn).mono ?_
    rintro e' w' ⟨rfl, h⟩
    exact ⟨rfl, rt_frame hb d e l k h⟩
  | false =>
    refine (rput_demand x w ha hl hn).mono ?_
    rintro e' w' ⟨rfl, h⟩
    exact ⟨rfl, rt_frame hb d e l k h⟩
theorem sg_rwait {q nd na : Nat} {ss : List Sl} (x : Int) (v : Bool) {w0 w : World} {B : Asr} (h : Sg w0 w ((AR q nd na ss).and B)) (hl : ss.length ≤ 400) :
    Calls Try.prog 28 #[.pointer (some ⟨q, 0, none⟩), .int .i64 x, .bool v] w fun e w' => e = .returned (.int .i64 (waitC ss x v)) ∧ Sg w0 w' ((AR q nd na (waitS ss x v)).and B) := by
  obtain ⟨⟨M, ⟨MA, MB, ⟨v1, v2, ha⟩, hb, d, e⟩, l⟩, k⟩ := h
  refine (rwait_any x v w ha hl).mono ?_
  rintro e' w' ⟨rfl, h⟩
  exact ⟨rfl, rt_frame hb d e l k h⟩
theorem sg_rpromote {q nd na : Nat} {ss : List Sl} (x : Int) {w0 w : World} {B : Asr} (h : Sg w0 w ((AR q nd na ss).and B)) (hl : ss.length ≤ 400) (hn : nd ≤ 1000) :
    Calls Try.prog 29 #[.pointer (some ⟨q, 0, none⟩), .int .i64 x] w fun e w' => e = .returned (.int .i64 (promC nd ss x)) ∧ Sg w0 w' ((AR q nd na (promS nd ss x)).and B) := by
  obtain ⟨⟨M, ⟨MA, MB, ⟨v1, v2, ha⟩, hb, d, e⟩, l⟩, k⟩ := h
  refine (rpromote_any x w ha hl hn).mono ?_
  rintro e' w' ⟨rfl, h⟩
  exact ⟨rfl, rt_frame hb d e l k h⟩
theorem sg_rend {q nd na : Nat} {ss : List Sl} (x : Int) {w0 w : World} {B : Asr} (h : Sg w0 w ((AR q nd na ss).and B)) (hl : ss.length ≤ 400) :
    Calls Try.prog 30 #[.pointer (some ⟨q, 0, none⟩), .int .i64 x] w fun e w' => e = .returned (.int .i64 (endC ss x)) ∧ Sg w0 w' ((AR q nd na (cutL ss x)).and B) := by
  obtain ⟨⟨M, ⟨MA, MB, ⟨v1, v2, ha⟩, hb, d, e⟩, l⟩, k⟩ := h
  refine (rend_any x w ha hl).mono ?_
  rintro e' w' ⟨rfl, h⟩
  exact ⟨rfl, rt_frame hb d e l k h⟩
theorem sg_rstate {q nd na : Nat} {ss : List Sl} (x : Int) {w0 w : World} (h : Sg w0 w (AR q nd na ss)) (hl : ss.length ≤ 400) :
    Calls Try.prog 15 #[.pointer (some ⟨q, 0, none⟩), .int .i64 x] w fun e w' => e = .returned (.tuple #[.bool (atL ss x).a, .bool (atL ss x).s, .bool (hasL ss x)]) ∧ Only none_ w w' := by
  obtain ⟨⟨M, ⟨v1, v2, ha⟩, l⟩, k⟩ := h
  exact rstate_any x w ha (by omega)
theorem sg_rwaiting {q nd na : Nat} {ss : List Sl} {w0 w : World} (h : Sg w0 w (AR q nd na ss)) (hl : ss.length ≤ 400) :
    Calls Try.prog 18 #[.pointer (some ⟨q, 0, none⟩)] w (Told (waitL ss) w) := by
  obtain ⟨⟨M, ⟨v1, v2, ha⟩, l⟩, k⟩ := h
  exact rwaiting_any w ha hl
/-- the lengths of the document's rows -/
theorem Sg.rows {q nd na : Nat} {ss : List Sl} {w0 w : World} (h : Sg w0 w (AR q nd na ss)) : ∃ a c a' c', w.cell? ⟨q, 0, none⟩ = some (.slice a (rowL false ss).length c) ∧ w.cell? ⟨q, 1, none⟩ = some (.slice a' (rowL true ss).length c') := by
  obtain ⟨⟨M, ⟨v1, v2, ha⟩, l⟩, k⟩ := h
  obtain ⟨A, cap, rfl, _⟩ := OwnsSl.form ha.od
  obtain ⟨A', cap', rfl, _⟩ := OwnsSl.form ha.oa
  exact ⟨A, cap, A', cap', by rw [ha.row.cell]; rfl, by rw [ha.row.cell]; rfl⟩
theorem ints_told (a b : Option Addr) (c d : Nat) (xs ys : List Int) (w : World) (hx : Reads w (.slice a xs.length c) xs) (hy : Reads w (.slice b ys.length d) ys) (hm : xs.length ≤ 1000) (hm2 : ys.length ≤ 1000) :
    Calls Try.prog 16 #[.slice a xs.length c, .slice b ys.length d] w fun e w' => e = .returned (.bool (decide (xs = ys))) ∧ Only none_ w w' := ints_any _ _ xs ys w hx hy (by omega) (by omega)
theorem waitL_len (ss : List Sl) : (waitL ss).length ≤ ss.length := by
  unfold waitL
  rw [List.length_map]
  refine Nat.le_trans (List.length_filter_le _ _) ?_
  rw [List.length_append]
  exact Nat.le_of_eq (rows_len ss)
end Go.Proofs.Ytmihinpbgppjlaa
