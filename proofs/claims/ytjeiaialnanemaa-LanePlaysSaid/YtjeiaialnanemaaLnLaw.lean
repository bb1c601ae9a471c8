/- What the laws of layer 11 share: lanes, the document's own lanes and slices of integers, side by side; each call of them. -/
import Derived.Test.YtjeiaialnanemaaStar
import Derived.Test.YtjeiaialnanemaaLnPush2
import Derived.Test.YtjeiaialnanemaaLnPull
import Derived.Test.YtjeiaialnanemaaRlLane
import Derived.Test.YtjeiaialnanemaaRlPull
namespace Go.Proofs.Ytjeiaialnanemaa
open Go.RowKit Go.Maps
set_option linter.unusedVariables false

def AL (p n room : Nat) (ss : List Sd) : Asr where
  at_ := fun w M => Ln w p M n room ss
  keep := fun a o hn => a.keep o hn
  lt := fun ⟨_, _, _, h⟩ g hg => h.lt g hg
def AR (q n room : Nat) (ss : List Sd) : Asr where
  at_ := fun w M => ∃ v, RL w q v M n room ss
  keep := fun ⟨v, h⟩ o hn => ⟨v, h.keep o hn⟩
  lt := fun ⟨v, h⟩ g hg => h.lt g hg
/-- a slice of integers of the law's own -/
def AI (v : Value) (xs : List Int) : Asr where
  at_ := fun w M => OwnsInts w 0 v xs ∧ ∀ g, M g ↔ v.ownBlock = some g
  keep := fun ⟨h, e⟩ o hn => ⟨Owns.keep h o (fun g hg => hn g ((e g).2 hg)), e⟩
  lt := fun ⟨h, e⟩ g hg => (Owns.base_le h ((e g).1 hg)).2

theorem pushS_le {n room : Nat} {ss : List Sd} {b x : Int} (h : ss.length ≤ room) : (pushS n room ss b x).length ≤ room := by
  unfold pushS
  split
  · rename_i e
    unfold pushC at e
    split at e
    · split at e
      · cases e
      · split at e
        · cases e
        · simp; omega
    · cases e
  · exact h
theorem pullS_le {ss : List Sd} {x : Int} : (pullS ss x).length ≤ ss.length := by
  unfold pullS
  split
  · simp; omega
  · exact Nat.le_refl _
theorem Sg.once {w0 w : World} {p n room : Nat} {ss : List Sd} {B : Asr} (h : Sg w0 w ((AL p n room ss).and B)) : Once ss ∧ ∀ s ∈ ss, 0 ≤ s.b ∧ s.b < n := by
  obtain ⟨⟨M, ⟨_, _, _, h⟩, _⟩, _⟩ := h.fst
  exact ⟨h.once, h.inb⟩
theorem sg_new (n room : Nat) (w0 w : World) {B : Asr} (h : Sg w0 w B) (h1 : 1 ≤ n) (h2 : n ≤ 256) (h3 : 1 ≤ room) (h4 : room ≤ 128) :
    Calls Try.prog 9 #[.int .i64 n, .int .i64 room] w fun e w' => ∃ p, e = .returned (.tuple #[.pointer (some ⟨p, 0, none⟩), .int .i64 0]) ∧ Sg w0 w' ((AL p n room []).and B) ∧ Only none_ w w' := by
  refine (lnew_yes n room w h1 h2 h3 h4).mono ?_
  rintro e w' ⟨p, rfl, ⟨M, hl, lo⟩, o⟩
  refine ⟨p, rfl, ?_, o⟩
  obtain ⟨⟨MB, b, l⟩, k⟩ := h
  exact Asr.frame (MA := fun _ => False) (M := MB) b (fun _ s => s.elim) (fun g => by simp) l k ⟨⟨M, hl, fun g hg => .inr (lo g hg)⟩, o.more (fun _ _ s => s.elim)⟩
theorem sg_push {p n room : Nat} {ss : List Sd} (b x : Int) {w0 w : World} {B : Asr} (h : Sg w0 w ((AL p n room ss).and B)) (hn : n ≤ 1000) (hr : ss.length ≤ room) (hm : room ≤ 1000) (hx : (Lit.int .i64 x).wf = true) :
    Calls Try.prog 12 #[.pointer (some ⟨p, 0, none⟩), .int .i64 b, .int .i64 x] w fun e w' => e = .returned (.int .i64 (pushC n room ss b x)) ∧ Sg w0 w' ((AL p n room (pushS n room ss b x)).and B) := by
  obtain ⟨⟨M, ⟨MA, MB, a, hb, d, e⟩, l⟩, k⟩ := h
  refine (lpush_any b x w a hn (by omega) hr hx).mono ?_
  rintro e' w' ⟨rfl, h⟩
  exact ⟨rfl, Asr.frame hb d e l k h⟩
theorem sg_pull {p n room : Nat} {ss : List Sd} (x : Int) {w0 w : World} {B : Asr} (h : Sg w0 w ((AL p n room ss).and B)) (hn : n ≤ 1000) (hl : ss.length ≤ 1000) (hx : (Lit.int .i64 x).wf = true) :
    Calls Try.prog 14 #[.pointer (some ⟨p, 0, none⟩), .int .i64 x] w fun e w' => e = .returned (.tuple #[.int .i64 (blockI ss x), .int .i64 (pullC ss x)]) ∧ Sg w0 w' ((AL p n room (pullS ss x)).and B) := by
  obtain ⟨⟨M, ⟨MA, MB, a, hb, d, e⟩, l⟩, k⟩ := h
  refine (lpull_any x w a hn hl hx).mono ?_
  rintro e' w' ⟨rfl, h⟩
  exact ⟨rfl, Asr.frame hb d e l k h⟩
theorem sg_rnew (n room : Nat) (w0 w : World) {B : Asr} (h : Sg w0 w B) :
    Calls Try.prog 11 #[.int .i64 n, .int .i64 room] w fun e w' => ∃ q, e = .returned (.pointer (some ⟨q, 0, none⟩)) ∧ Sg w0 w' ((AR q n room []).and B) ∧ Only none_ w w' := by
  refine (rnew11_any n room w).mono ?_
  rintro e w' ⟨q, rfl, ⟨v, M, hl, lo⟩, o⟩
  refine ⟨q, rfl, ?_, o⟩
  obtain ⟨⟨MB, b, l⟩, k⟩ := h
  exact Asr.frame (MA := fun _ => False) (M := MB) b (fun _ s => s.elim) (fun g => by simp) l k ⟨⟨M, ⟨v, hl⟩, fun g hg => .inr (lo g hg)⟩, o.more (fun _ _ s => s.elim)⟩
theorem sg_rpush {q n room : Nat} {ss : List Sd} (b x : Int) {w0 w : World} {B : Asr} (h : Sg w0 w ((AR q n room ss).and B)) (hn : n ≤ 1000) (hl : ss.length ≤ 1000) (hm : room ≤ 1000) :
    Calls Try.prog 13 #[.pointer (some ⟨q, 0, none⟩), .int .i64 b, .int .i64 x] w fun e w' => e = .returned (.int .i64 (pushC n room ss b x)) ∧ Sg w0 w' ((AR q n room (pushS n room ss b x)).and B) := by
  obtain ⟨⟨M, ⟨MA, MB, ⟨v, a⟩, hb, d, e⟩, l⟩, k⟩ := h
  refine (push11_any b x w a hl hn hm).mono ?_
  rintro e' w' ⟨rfl, ⟨⟨v', M', h, hm⟩, o⟩⟩
  exact ⟨rfl, Asr.frame hb d e l k ⟨⟨M', ⟨v', h⟩, hm⟩, o⟩⟩
theorem sg_rpull {q n room : Nat} {ss : List Sd} (x : Int) {w0 w : World} {B : Asr} (h : Sg w0 w ((AR q n room ss).and B)) (hl : ss.length ≤ 1000) :
    Calls Try.prog 15 #[.pointer (some ⟨q, 0, none⟩), .int .i64 x] w fun e w' => e = .returned (.tuple #[.int .i64 (blockI ss x), .int .i64 (pullC ss x)]) ∧ Sg w0 w' ((AR q n room (pullS ss x)).and B) := by
  obtain ⟨⟨M, ⟨MA, MB, ⟨v, a⟩, hb, d, e⟩, l⟩, k⟩ := h
  refine (pull11_any x w a hl).mono ?_
  rintro e' w' ⟨rfl, ⟨⟨v', M', h, hm⟩, o⟩⟩
  exact ⟨rfl, Asr.frame hb d e l k ⟨⟨M', ⟨v', h⟩, hm⟩, o⟩⟩
/-- what only reads -/
theorem sg_head {p n room : Nat} {ss : List Sd} (x : Int) {w0 w : World} (h : Sg w0 w (AL p n room ss)) (hn : n ≤ 1000) (hl : ss.length ≤ 1000) :
    Calls Try.prog 16 #[.pointer (some ⟨p, 0, none⟩), .int .i64 x] w fun e w' => e = .returned (.tuple #[.int .i64 (headI (laneL ss x)), .bool (someB (laneL ss x))]) ∧ w = w' := by
  obtain ⟨⟨M, a, l⟩, k⟩ := h
  exact lhead_any x w a hn hl
theorem sg_last {p n room : Nat} {ss : List Sd} (x : Int) {w0 w : World} (h : Sg w0 w (AL p n room ss)) (hn : n ≤ 1000) (hl : ss.length ≤ 1000) :
    Calls Try.prog 18 #[.pointer (some ⟨p, 0, none⟩), .int .i64 x] w fun e w' => e = .returned (.tuple #[.int .i64 (lastI (laneL ss x)), .bool (someB (laneL ss x))]) ∧ w = w' := by
  obtain ⟨⟨M, a, l⟩, k⟩ := h
  exact llast_any x w a hn hl
theorem sg_block {p n room : Nat} {ss : List Sd} (x : Int) {w0 w : World} (h : Sg w0 w (AL p n room ss)) (hx : (Lit.int .i64 x).wf = true) :
    Calls Try.prog 20 #[.pointer (some ⟨p, 0, none⟩), .int .i64 x] w fun e w' => e = .returned (.tuple #[.int .i64 (blockI ss x), .bool (tkAt ss x).isSome]) ∧ w = w' := by
  obtain ⟨⟨M, a, l⟩, k⟩ := h
  exact lblock_any x w a hx
theorem sg_len {p n room : Nat} {ss : List Sd} {w0 w : World} (h : Sg w0 w (AL p n room ss)) :
    Calls Try.prog 22 #[.pointer (some ⟨p, 0, none⟩)] w fun e w' => e = .returned (.int .i64 ss.length) ∧ w = w' := by
  obtain ⟨⟨M, a, l⟩, k⟩ := h
  exact llen_any w a
/-- a slice of integers, told in new memory -/
def Told (xs : List Int) (w : World) (e : Ending) (w' : World) : Prop := ∃ a cap, e = .returned (.slice a xs.length cap) ∧ OwnsInts w' w.heap.size (.slice a xs.length cap) xs ∧ Only none_ w w'
theorem own_len {w : World} {base : Nat} {v : Value} {l : List Int} (h : OwnsInts w base v l) : ∃ a c, v = .slice a l.length c := by
  rcases h.2 with ⟨h0, h2⟩ | ⟨g, cap, cur, hv, _⟩
  · exact ⟨none, 0, by rw [h0, h2]⟩
  · exact ⟨_, _, hv⟩
theorem Told.of {xs : List Int} {w : World} {e : Ending} {w' : World} (h : ∃ v', e = .returned v' ∧ OwnsInts w' w.heap.size v' xs ∧ Only none_ w w') : Told xs w e w' := by
  obtain ⟨v, rfl, h, o⟩ := h
  obtain ⟨a, c, rfl⟩ := own_len h
  exact ⟨a, c, rfl, h, o⟩
theorem sg_lane {p n room : Nat} {ss : List Sd} (x : Int) {w0 w : World} (h : Sg w0 w (AL p n room ss)) (hn : n ≤ 1000) (hl : ss.length ≤ 1000) :
    Calls Try.prog 24 #[.pointer (some ⟨p, 0, none⟩), .int .i64 x] w (Told (laneL ss x) w) := by
  obtain ⟨⟨M, a, l⟩, k⟩ := h
  exact (lLane_any x w a hn hl).mono (fun _ _ => Told.of)
theorem sg_heads {p n room : Nat} {ss : List Sd} {w0 w : World} (h : Sg w0 w (AL p n room ss)) (hn : n ≤ 1000) (hl : ss.length ≤ 1000) :
    Calls Try.prog 26 #[.pointer (some ⟨p, 0, none⟩)] w (Told (headsL ss n) w) := by
  obtain ⟨⟨M, a, l⟩, k⟩ := h
  exact (lheads_any w a hl hn).mono (fun _ _ => Told.of)
theorem sg_rhead {q n room : Nat} {ss : List Sd} (x : Int) {w0 w : World} (h : Sg w0 w (AR q n room ss)) (hl : ss.length ≤ 1000) :
    Calls Try.prog 17 #[.pointer (some ⟨q, 0, none⟩), .int .i64 x] w fun e w' => e = .returned (.tuple #[.int .i64 (headI (laneL ss x)), .bool (someB (laneL ss x))]) ∧ Only none_ w w' := by
  obtain ⟨⟨M, ⟨v, a⟩, l⟩, k⟩ := h
  exact head11_any x w a hl
theorem sg_rlast {q n room : Nat} {ss : List Sd} (x : Int) {w0 w : World} (h : Sg w0 w (AR q n room ss)) (hl : ss.length ≤ 1000) :
    Calls Try.prog 19 #[.pointer (some ⟨q, 0, none⟩), .int .i64 x] w fun e w' => e = .returned (.tuple #[.int .i64 (lastI (laneL ss x)), .bool (someB (laneL ss x))]) ∧ Only none_ w w' := by
  obtain ⟨⟨M, ⟨v, a⟩, l⟩, k⟩ := h
  exact last11_any x w a hl
theorem sg_rblock {q n room : Nat} {ss : List Sd} (x : Int) {w0 w : World} (h : Sg w0 w (AR q n room ss)) (hl : ss.length ≤ 1000) :
    Calls Try.prog 21 #[.pointer (some ⟨q, 0, none⟩), .int .i64 x] w fun e w' => e = .returned (.tuple #[.int .i64 (blockI ss x), .bool (tkAt ss x).isSome]) ∧ Only none_ w w' := by
  obtain ⟨⟨M, ⟨v, a⟩, l⟩, k⟩ := h
  exact block11_any x w a hl
theorem sg_rlane {q n room : Nat} {ss : List Sd} (x : Int) {w0 w : World} (h : Sg w0 w (AR q n room ss)) (hl : ss.length ≤ 1000) :
    Calls Try.prog 25 #[.pointer (some ⟨q, 0, none⟩), .int .i64 x] w (Told (laneL ss x) w) := by
  obtain ⟨⟨M, ⟨v, a⟩, l⟩, k⟩ := h
  exact (lane11_any x w a hl).mono (fun _ _ => Told.of)
theorem sg_rheads {q n room : Nat} {ss : List Sd} {w0 w : World} (h : Sg w0 w (AR q n room ss)) (hl : ss.length ≤ 1000) (hn : n ≤ 1000) :
    Calls Try.prog 27 #[.pointer (some ⟨q, 0, none⟩)] w (Told (headsL ss n) w) := by
  obtain ⟨⟨M, ⟨v, a⟩, l⟩, k⟩ := h
  exact (heads11_any w a hl hn).mono (fun _ _ => Told.of)
theorem Sg.slot {q n room : Nat} {ss : List Sd} {w0 w : World} (h : Sg w0 w (AR q n room ss)) : ∃ a c, w.cell? ⟨q, 2, none⟩ = some (.slice a ss.length c) := by
  obtain ⟨⟨M, ⟨v, a⟩, l⟩, k⟩ := h
  obtain ⟨A, cap, rfl, _⟩ := a.own.form
  exact ⟨A, cap, by rw [a.row.cell]; rfl⟩
theorem ints_told (a b : Option Addr) (c d : Nat) (xs ys : List Int) (w : World) (hx : Reads w (.slice a xs.length c) xs) (hy : Reads w (.slice b ys.length d) ys) (hm : xs.length ≤ 1000) (hm2 : ys.length ≤ 1000) :
    Calls Try.prog 23 #[.slice a xs.length c, .slice b ys.length d] w fun e w' => e = .returned (.bool (decide (xs = ys))) ∧ Only none_ w w' := ints_any _ _ xs ys w hx hy (by omega) (by omega)
end Go.Proofs.Ytjeiaialnanemaa
