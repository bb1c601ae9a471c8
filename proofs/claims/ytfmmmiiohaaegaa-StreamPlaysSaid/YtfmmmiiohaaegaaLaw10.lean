/- What the laws of layer 10 share: a tracker that was made behind some world. -/
import Derived.Test.YtfmmmiiohaaegaaActs10
import Derived.Test.YtfmmmiiohaaegaaStNone
namespace Go.Proofs.Ytfmmmiiohaaegaa
open Go.RowKit Go.ChangeShapes Go.WideShapes Go.Deep
set_option linter.unusedVariables false

/-- a tracker that was made behind world w1, at which nothing of before has turned -/
def Trk (w1 wr : World) (q : Nat) (c : Cf) (t : Tr) : Prop := (∃ M, ST wr q M c t ∧ ∀ g, M g → w1.heap.size ≤ g) ∧ Only none_ w1 wr
theorem Trk.still {w1 wr w' : World} {q : Nat} {c : Cf} {t : Tr} (h : Trk w1 wr q c t) (o : Only none_ wr w') : Trk w1 w' q c t := by
  obtain ⟨⟨M, h, l⟩, o1⟩ := h
  exact ⟨⟨M, h.still o, l⟩, o1.same o⟩
theorem Trk.drew {w1 wr : World} {q : Nat} {c : Cf} {t : Tr} (h : Trk w1 wr q c t) : Trk w1 wr.drew q c t := h.still (Only.refl none_ wr).drew
theorem only_old {M : Nat → Prop} {w1 wr w' : World} (h : Only none_ w1 wr) (o : Only M wr w') (l : ∀ g, M g → w1.heap.size ≤ g) : Only none_ w1 w' :=
  h.trans o (fun i hi k => by have := l i k; omega)
theorem trk_new (m d b : Nat) (w : World) (h1 : 1 ≤ m) (h2 : m ≤ 16) (h3 : 1 ≤ d) (h4 : d ≤ 16) (h5 : 1 ≤ b) (h6 : b ≤ 256) :
    Calls Try.prog 9 #[.int .i64 m, .int .i64 8, .int .i64 20, .int .i64 d, .int .i64 b] w fun e w' => ∃ q, e = .returned (.tuple #[.pointer (some ⟨q, 0, none⟩), .int .i64 0]) ∧ Trk w w' q ⟨m, 8, 20, d, b⟩ ⟨[], [], 0, 0⟩ := by
  refine (new10_yes ⟨m, 8, 20, d, b⟩ w ⟨h1, h2, (show 1 ≤ 8 by decide), (show 8 ≤ 32 by decide), (show 1 ≤ 20 by decide), (show 20 ≤ 64 by decide), h3, h4, h5, h6⟩).mono ?_
  rintro e w' ⟨q, he, h, o⟩
  exact ⟨q, he, h, o⟩
theorem trk_acc {w1 wr : World} {q : Nat} {c : Cf} {t : Tr} (f n : Int) (h : Trk w1 wr q c t) (hf : Fine10 c t) (hu : t.uses ≤ 900) :
    Calls Try.prog 12 #[.pointer (some ⟨q, 0, none⟩), .int .i64 f, .int .i64 n] wr fun e w' => Acc c t f n e ∧ Trk w1 w' q c (accS c t f n) := by
  obtain ⟨⟨M, h, l⟩, o1⟩ := h
  refine (acc_any f n wr h hf hu).mono ?_
  rintro e w' ⟨ha, ⟨M', h', m⟩, o⟩
  exact ⟨ha, ⟨M', h', fun g hg => (m g hg).elim (l g) (fun k => Nat.le_trans o1.size k)⟩, only_old o1 o l⟩
theorem trk_late {w1 wr : World} {q : Nat} {c : Cf} {t : Tr} (x : Int) (h : Trk w1 wr q c t) (hf : Fine10 c t) (hu : t.uses ≤ 1000) :
    Calls Try.prog 14 #[.pointer (some ⟨q, 0, none⟩), .int .i64 x] wr fun e w' => e = .returned (.bool (tuneB t x)) ∧ Trk w1 w' q c (tuneS t x true) := by
  obtain ⟨⟨M, h, l⟩, o1⟩ := h
  refine (late10_any x wr h hf hu).mono ?_
  rintro e w' ⟨ha, h', o⟩
  exact ⟨ha, ⟨M, h', l⟩, only_old o1 o l⟩
theorem trk_waste {w1 wr : World} {q : Nat} {c : Cf} {t : Tr} (x : Int) (h : Trk w1 wr q c t) (hf : Fine10 c t) (hu : t.uses ≤ 1000) :
    Calls Try.prog 16 #[.pointer (some ⟨q, 0, none⟩), .int .i64 x] wr fun e w' => e = .returned (.bool (tuneB t x)) ∧ Trk w1 w' q c (tuneS t x false) := by
  obtain ⟨⟨M, h, l⟩, o1⟩ := h
  refine (waste10_any x wr h hf hu).mono ?_
  rintro e w' ⟨ha, h', o⟩
  exact ⟨ha, ⟨M, h', l⟩, only_old o1 o l⟩
theorem trk_streams {w1 wr : World} {q : Nat} {c : Cf} {t : Tr} (h : Trk w1 wr q c t) (hl : t.ss.length ≤ 1000) :
    Calls Try.prog 18 #[.pointer (some ⟨q, 0, none⟩)] wr fun e w' => (∃ A cap, e = .returned (.slice A t.ss.length cap) ∧ Holds w' A 6 Sm.cells t.ss ∧ ∀ a, A = some a → wr.heap.size ≤ a.block) ∧ Only none_ wr w' := by
  obtain ⟨⟨M, h, l⟩, o1⟩ := h
  refine (streams_any wr h hl).mono ?_
  rintro e w' ⟨A, cap, he, hh, hb, o⟩
  exact ⟨⟨A, cap, he, hh, hb⟩, o⟩
theorem trk_expected {w1 wr : World} {q : Nat} {c : Cf} {t : Tr} (h : Trk w1 wr q c t) (hu : t.uses ≤ 1000) :
    Calls Try.prog 20 #[.pointer (some ⟨q, 0, none⟩)] wr fun e w' => (∃ A cap, e = .returned (.slice A t.es.length cap) ∧ Holds w' A 2 En.cells t.es ∧ ∀ a, A = some a → wr.heap.size ≤ a.block) ∧ Only none_ wr w' := by
  obtain ⟨⟨M, h, l⟩, o1⟩ := h
  refine (expected_any wr h hu).mono ?_
  rintro e w' ⟨A, cap, he, hh, hb, o⟩
  exact ⟨⟨A, cap, he, hh, hb⟩, o⟩
theorem below_only8 {w w' : World} (h : Below w.heap.size w w') : Only none_ w w' := ⟨h.os, h.tape, h.output, h.size, fun k hk _ => h.block k hk⟩
theorem accS_uses (c : Cf) (t : Tr) (f n : Int) : (accS c t f n).uses ≤ t.uses + 1 := by
  unfold accS
  split
  · split
    · exact Nat.le_refl _
    · split <;> exact Nat.le_refl _
  · exact Nat.le_succ _
theorem tuneS_uses (t : Tr) (x : Int) (b : Bool) : (tuneS t x b).uses = t.uses := by
  unfold tuneS
  split <;> rfl
theorem ssame_self (A B : Option Addr) (ca cb : Nat) (ss : List Sm) (w : World) (ha : Holds w A 6 Sm.cells ss) (hb : Holds w B 6 Sm.cells ss) (le : ss.length ≤ 16) :
    Calls Try.prog 17 #[.slice A ss.length ca, .slice B ss.length cb] w fun e w' => e = .returned (.bool true) ∧ Only none_ w w' := by
  have := same10_any A B ca cb ss ss w ha hb (by omega) (by omega)
  rw [show decide (ss = ss) = true by simp] at this
  exact this
/-- what stands there is written once more -/
theorem same_set {w : World} {g : Nat} {t : TypeId} {cs : Array Value} (r : Row w g t cs) {i : Nat} {v : Value} (h : cs[i]? = some v) : Only none_ w (w.setCell ⟨g, i, none⟩ v) := by
  refine ⟨rfl, rfl, rfl, by simp [World.setCell], fun k hk _ => ?_⟩
  by_cases e : k = g
  · subst e
    have r2 := r.put i v
    have e2 : cs.setIfInBounds i v = cs := by
      apply Array.ext_getElem?
      intro j
      rw [Array.getElem?_setIfInBounds]
      split
      · rename_i q
        subst q
        split
        · exact h.symm
        · rename_i q; rw [Array.getElem?_eq_none (by omega)]
      · rfl
    rw [e2] at r2
    exact r2.trans r.symm
  · exact Below.heap_setCell _ _ _ _ e
theorem tune_any (t : Tr) (x : Int) : tuneB t x = t.ss.any (fun s => (s.id : Int) == x) := by
  unfold tuneB
  cases h : idOf t.ss x with
  | none =>
    have := id_no h
    symm
    rw [Option.isSome_none, List.any_eq_false]
    intro s hs
    obtain ⟨j, hj⟩ := List.mem_iff_getElem?.1 hs
    simpa using this j s hj
  | some k =>
    obtain ⟨s, hs, e⟩ := id_of h
    symm
    rw [Option.isSome_some, List.any_eq_true]
    exact ⟨s, List.mem_of_getElem? hs, by simp [e]⟩
theorem tune_none {t : Tr} {x : Int} (h : tuneB t x = false) (b : Bool) : tuneS t x b = t := by
  unfold tuneB at h
  unfold tuneS
  cases hi : idOf t.ss x with
  | none => rfl
  | some k => rw [hi] at h; cases h
theorem Holds.far10 {α : Type} {w w' : World} {A : Option Addr} {k : Nat} {c : α → List Value} {xs : List α} (h : Holds w A k c xs) {S : Nat → Prop} (o : Only S w w') (hn : ∀ a, A = some a → ¬ S a.block) : Holds w' A k c xs := fun i a hi => by
  obtain ⟨b, of, e, l, hc⟩ := h i a hi
  exact ⟨b, of, e, Nat.lt_of_lt_of_le l o.size, fun j v hj => o.cell (hc j v hj) (show ¬ S b from hn ⟨b, of, none⟩ e)⟩
theorem trk_refused {w1 wr : World} {q : Nat} {c : Cf} {t : Tr} (f n : Int) (h : Trk w1 wr q c t) (hf : Fine10 c t) (hm : mayAcc c.blk f n = false) :
    Calls Try.prog 12 #[.pointer (some ⟨q, 0, none⟩), .int .i64 f, .int .i64 n] wr fun e w' => e = .returned (.tuple #[.agg #[.int .i64 0, .int .i64 0, .int .i64 0], .int .i64 1]) ∧ Only none_ wr w' := by
  obtain ⟨⟨M, h, l⟩, o1⟩ := h
  refine (acc_none0 f n wr h hf hm).mono ?_
  rintro e w' ⟨ha, o⟩
  unfold Acc accI accR accC at ha
  rw [hm] at ha
  exact ⟨ha, o⟩
theorem trk_late_none {w1 wr : World} {q : Nat} {c : Cf} {t : Tr} (x : Int) (h : Trk w1 wr q c t) (hf : Fine10 c t) (hu : t.uses ≤ 1000) (hb : tuneB t x = false) :
    Calls Try.prog 14 #[.pointer (some ⟨q, 0, none⟩), .int .i64 x] wr fun e w' => e = .returned (.bool false) ∧ Only none_ wr w' := by
  obtain ⟨⟨M, h, l⟩, o1⟩ := h
  exact late10_none x wr h hf hu hb
theorem trk_waste_none {w1 wr : World} {q : Nat} {c : Cf} {t : Tr} (x : Int) (h : Trk w1 wr q c t) (hf : Fine10 c t) (hu : t.uses ≤ 1000) (hb : tuneB t x = false) :
    Calls Try.prog 16 #[.pointer (some ⟨q, 0, none⟩), .int .i64 x] wr fun e w' => e = .returned (.bool false) ∧ Only none_ wr w' := by
  obtain ⟨⟨M, h, l⟩, o1⟩ := h
  exact waste10_none x wr h hf hu hb
theorem any_step {ss : List Sm} {k : Nat} {s : Sm} (h : ss[k]? = some s) (x : Int) : (ss.take (k + 1)).any (fun s => (s.id : Int) == x) = ((ss.take k).any (fun s => (s.id : Int) == x) || ((s.id : Int) == x)) := by
  rw [List.take_add_one, h]
  simp
theorem fine_len {c : Cf} {t : Tr} (h : Fine10 c t) : t.ss.length ≤ 16 := by have := h.few; have := h.ok.m16; omega
theorem fine_elen {c : Cf} {t : Tr} (h : Fine10 c t) : t.es.length ≤ 32 := by have := h.tab.few; have := h.ok.s32; omega
end Go.Proofs.Ytfmmmiiohaaegaa
