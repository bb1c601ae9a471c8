/- Both trackers side by side: the code's own, and the document's own; neither turns what the other one has. -/
import Derived.Test.YtfmmmiiohaaegaaLaw10
import Derived.Test.YtfmmmiiohaaegaaRany
import Derived.Test.YtfmmmiiohaaegaaRsSame
namespace Go.Proofs.Ytfmmmiiohaaegaa
open Go.RowKit Go.Maps
set_option linter.unusedVariables false

/-- both trackers, made behind world w1, at which nothing of before has turned -/
def Duo (w1 wr : World) (q q' : Nat) (c : Cf) (t r : Tr) : Prop :=
  ∃ M M' : Nat → Prop, ST wr q M c t ∧ RS wr q' M' c r ∧ (∀ g, M g → w1.heap.size ≤ g) ∧ (∀ g, M' g → w1.heap.size ≤ g) ∧ (∀ g, M g → ¬ M' g) ∧ Only none_ w1 wr
theorem Duo.still {w1 wr w' : World} {q q' : Nat} {c : Cf} {t r : Tr} (h : Duo w1 wr q q' c t r) (o : Only none_ wr w') : Duo w1 w' q q' c t r := by
  obtain ⟨M, M', h1, h2, h3, h4, h5, h6⟩ := h
  exact ⟨M, M', h1.still o, h2.still o, h3, h4, h5, h6.same o⟩
theorem Duo.old {w1 wr : World} {q q' : Nat} {c : Cf} {t r : Tr} (h : Duo w1 wr q q' c t r) : Only none_ w1 wr := by
  obtain ⟨M, M', h1, h2, h3, h4, h5, h6⟩ := h
  exact h6
theorem duo_acc {w1 wo wr : World} {q q' : Nat} {c : Cf} {t r : Tr} (f n : Int) (h : Duo w1 wo q q' c t r) (o : Only none_ wo wr) (hf : Fine10 c t) (hu : t.uses ≤ 900) :
    Calls Try.prog 12 #[.pointer (some ⟨q, 0, none⟩), .int .i64 f, .int .i64 n] wr fun e w' => Acc c t f n e ∧ Duo w1 w' q q' c (accS c t f n) r ∧ Only (fun g => g < wo.heap.size) wr w' := by
  obtain ⟨M, M', h1, h2, h3, h4, h5, h6⟩ := h
  refine (acc_any f n wr (h1.still o) hf hu).mono ?_
  rintro e w' ⟨ha, ⟨M2, h', m⟩, o2⟩
  refine ⟨ha, ⟨M2, M', h', (h2.still o).keep o2 (fun g hg k => h5 g k hg), fun g hg => (m g hg).elim (h3 g) (fun k => Nat.le_trans (h6.same o).size k), h4, fun g hg k => ?_, only_old (h6.same o) o2 h3⟩, o2.more (fun i _ k => h1.lt i k)⟩
  rcases m g hg with m | m
  · exact h5 g m k
  · have := h2.lt g k
    have := o.size
    omega
theorem duo_racc {w1 wo wr : World} {q q' : Nat} {c : Cf} {t r : Tr} (f n : Int) (h : Duo w1 wo q q' c t r) (o : Only none_ wo wr) (hf : Fine10 c r) (hu : r.uses ≤ 900) :
    Calls Try.prog 13 #[.pointer (some ⟨q', 0, none⟩), .int .i64 f, .int .i64 n] wr fun e w' => Acc c r f n e ∧ Duo w1 w' q q' c t (accS c r f n) ∧ Only (fun g => g < wo.heap.size) wr w' := by
  obtain ⟨M, M', h1, h2, h3, h4, h5, h6⟩ := h
  refine (racc_any f n wr (h2.still o) hf hu).mono ?_
  rintro e w' ⟨ha, ⟨M2, h', m⟩, o2⟩
  refine ⟨ha, ⟨M, M2, (h1.still o).keep o2 (fun g hg k => h5 g hg k), h', h3, fun g hg => (m g hg).elim (h4 g) (fun k => Nat.le_trans (h6.same o).size k), fun g hg k => ?_, only_old (h6.same o) o2 h4⟩, o2.more (fun i _ k => h2.lt i k)⟩
  rcases m g k with m | m
  · exact h5 g hg m
  · have := h1.lt g hg
    have := o.size
    omega
/-- .. all of whose blocks lie below a bound -/
def DuoB (w1 wr : World) (b : Nat) (q q' : Nat) (c : Cf) (t r : Tr) : Prop :=
  ∃ M M' : Nat → Prop, (ST wr q M c t ∧ RS wr q' M' c r ∧ (∀ g, M g → w1.heap.size ≤ g) ∧ (∀ g, M' g → w1.heap.size ≤ g) ∧ (∀ g, M g → ¬ M' g) ∧ Only none_ w1 wr) ∧ (∀ g, M g → g < b) ∧ (∀ g, M' g → g < b)
theorem DuoB.duo {w1 wr : World} {b q q' : Nat} {c : Cf} {t r : Tr} (h : DuoB w1 wr b q q' c t r) : Duo w1 wr q q' c t r := by
  obtain ⟨M, M', h, _⟩ := h
  exact ⟨M, M', h⟩
theorem Duo.bound {w1 wo wr : World} {q q' : Nat} {c : Cf} {t r : Tr} (h : Duo w1 wo q q' c t r) (o : Only none_ wo wr) : DuoB w1 wr wo.heap.size q q' c t r := by
  obtain ⟨M, M', h1, h2, h3, h4, h5, h6⟩ := h
  exact ⟨M, M', ⟨h1.still o, h2.still o, h3, h4, h5, h6.same o⟩, h1.lt, h2.lt⟩
theorem duob_late {w1 wr : World} {b q q' : Nat} {c : Cf} {t r : Tr} (x : Int) (h : DuoB w1 wr b q q' c t r) (hf : Fine10 c t) (hu : t.uses ≤ 1000) :
    Calls Try.prog 14 #[.pointer (some ⟨q, 0, none⟩), .int .i64 x] wr fun e w' => e = .returned (.bool (tuneB t x)) ∧ DuoB w1 w' b q q' c (tuneS t x true) r ∧ Only (fun g => g < b) wr w' := by
  obtain ⟨M, M', ⟨h1, h2, h3, h4, h5, h6⟩, h7, h8⟩ := h
  refine (late10_any x wr h1 hf hu).mono ?_
  rintro e w' ⟨ha, h', o2⟩
  exact ⟨ha, ⟨M, M', ⟨h', h2.keep o2 (fun g hg k => h5 g k hg), h3, h4, h5, only_old h6 o2 h3⟩, h7, h8⟩, o2.more (fun i _ k => h7 i k)⟩
theorem duob_waste {w1 wr : World} {b q q' : Nat} {c : Cf} {t r : Tr} (x : Int) (h : DuoB w1 wr b q q' c t r) (hf : Fine10 c t) (hu : t.uses ≤ 1000) :
    Calls Try.prog 16 #[.pointer (some ⟨q, 0, none⟩), .int .i64 x] wr fun e w' => e = .returned (.bool (tuneB t x)) ∧ DuoB w1 w' b q q' c (tuneS t x false) r ∧ Only (fun g => g < b) wr w' := by
  obtain ⟨M, M', ⟨h1, h2, h3, h4, h5, h6⟩, h7, h8⟩ := h
  refine (waste10_any x wr h1 hf hu).mono ?_
  rintro e w' ⟨ha, h', o2⟩
  exact ⟨ha, ⟨M, M', ⟨h', h2.keep o2 (fun g hg k => h5 g k hg), h3, h4, h5, only_old h6 o2 h3⟩, h7, h8⟩, o2.more (fun i _ k => h7 i k)⟩
theorem duob_rlate {w1 wr : World} {b q q' : Nat} {c : Cf} {t r : Tr} (x : Int) (h : DuoB w1 wr b q q' c t r) (hf : Fine10 c r) :
    Calls Try.prog 15 #[.pointer (some ⟨q', 0, none⟩), .int .i64 x, .bool true] wr fun e w' => e = .returned (.bool (tuneB r x)) ∧ DuoB w1 w' b q q' c t (tuneS r x true) ∧ Only (fun g => g < b) wr w' := by
  obtain ⟨M, M', ⟨h1, h2, h3, h4, h5, h6⟩, h7, h8⟩ := h
  refine (rtune_late x wr h2 hf).mono ?_
  rintro e w' ⟨ha, h', o2⟩
  exact ⟨ha, ⟨M, M', ⟨h1.keep o2 (fun g hg k => h5 g hg k), h', h3, h4, h5, only_old h6 o2 h4⟩, h7, h8⟩, o2.more (fun i _ k => h8 i k)⟩
theorem duob_rwaste {w1 wr : World} {b q q' : Nat} {c : Cf} {t r : Tr} (x : Int) (h : DuoB w1 wr b q q' c t r) (hf : Fine10 c r) :
    Calls Try.prog 15 #[.pointer (some ⟨q', 0, none⟩), .int .i64 x, .bool false] wr fun e w' => e = .returned (.bool (tuneB r x)) ∧ DuoB w1 w' b q q' c t (tuneS r x false) ∧ Only (fun g => g < b) wr w' := by
  obtain ⟨M, M', ⟨h1, h2, h3, h4, h5, h6⟩, h7, h8⟩ := h
  refine (rtune_waste x wr h2 hf).mono ?_
  rintro e w' ⟨ha, h', o2⟩
  exact ⟨ha, ⟨M, M', ⟨h1.keep o2 (fun g hg k => h5 g hg k), h', h3, h4, h5, only_old h6 o2 h4⟩, h7, h8⟩, o2.more (fun i _ k => h8 i k)⟩
theorem duo_streams {w1 wr : World} {q q' : Nat} {c : Cf} {t r : Tr} (h : Duo w1 wr q q' c t r) (hl : t.ss.length ≤ 1000) :
    Calls Try.prog 18 #[.pointer (some ⟨q, 0, none⟩)] wr (Told10 t.ss wr) := by
  obtain ⟨M, M', h1, h2, h3, h4, h5, h6⟩ := h
  exact streams_any wr h1 hl
theorem duo_expected {w1 wr : World} {q q' : Nat} {c : Cf} {t r : Tr} (h : Duo w1 wr q q' c t r) (hu : t.uses ≤ 1000) :
    Calls Try.prog 20 #[.pointer (some ⟨q, 0, none⟩)] wr (Told8 t.es wr) := by
  obtain ⟨M, M', h1, h2, h3, h4, h5, h6⟩ := h
  exact expected_any wr h1 hu
/-- what the document's own tracker lies like -/
theorem Duo.cells {w1 wr : World} {q q' : Nat} {c : Cf} {t r : Tr} (h : Duo w1 wr q q' c t r) :
    ∃ (qt : Nat) (A7 A8 : Option Addr) (cap7 cap8 : Nat), Holds wr A7 6 Sm.cells r.ss ∧ Holds wr A8 2 En.cells r.es ∧
      ∀ w', Only none_ wr w' → w'.cell? ⟨q', 0, none⟩ = some (.slice A7 r.ss.length cap7) ∧ w'.cell? ⟨q', 1, none⟩ = some (.pointer (some ⟨qt, 0, none⟩)) ∧ w'.cell? ⟨qt, 2, none⟩ = some (.slice A8 r.es.length cap8) := by
  obtain ⟨M, M', h1, ⟨qt, v, hr⟩, h3, h4, h5, h6⟩ := h
  obtain ⟨A7, cap7, rfl, hh7, _⟩ := hr.own.form
  obtain ⟨⟨v8, r8, o8⟩, _, _⟩ := hr.tab
  obtain ⟨A8, cap8, rfl, hh8, _⟩ := o8.form
  exact ⟨qt, A7, A8, cap7, cap8, hh7, hh8, fun w' o => ⟨by rw [(o.still hr.row).cell]; rfl, by rw [(o.still hr.row).cell]; rfl, by rw [(o.still r8).cell]; rfl⟩⟩
theorem same8_self10 (A B : Option Addr) (ca cb : Nat) (es : List En) (w : World) (ha : Holds w A 2 En.cells es) (hb : Holds w B 2 En.cells es) (le : es.length ≤ 32) :
    Calls Try.prog 19 #[.slice A es.length ca, .slice B es.length cb] w fun e w' => e = .returned (.bool true) ∧ Only none_ w w' := by
  have := same8_any A B ca cb es es w ha hb (by omega) (by omega)
  rw [show decide (es = es) = true by simp] at this
  exact this
theorem cf_of {m s l d b : Int} (h : mayCf m s l d b = true) : ∃ c : Cf, m = c.most ∧ s = c.size ∧ l = c.life ∧ d = c.deg ∧ b = c.blk ∧ c.Ok := by
  obtain ⟨h1, h2, ⟨h3, h4, h5, h6⟩, h7, h8, h9, h10⟩ := mayCf_iff.1 h
  refine ⟨⟨m.toNat, s.toNat, l.toNat, d.toNat, b.toNat⟩, ?_, ?_, ?_, ?_, ?_, ?_⟩
  · show m = ((m.toNat : Nat) : Int); omega
  · show s = ((s.toNat : Nat) : Int); omega
  · show l = ((l.toNat : Nat) : Int); omega
  · show d = ((d.toNat : Nat) : Int); omega
  · show b = ((b.toNat : Nat) : Int); omega
  · constructor <;> (try dsimp only) <;> omega
theorem duo_new {w1 w2 w3 : World} {q q' : Nat} {c : Cf} {t r : Tr} {M M' : Nat → Prop} (h : ST w2 q M c t) (hl : ∀ g, M g → w1.heap.size ≤ g) (o1 : Only none_ w1 w2) (o : Only none_ w2 w3) (hr : RS w3 q' M' c r) (hm : ∀ g, M' g → w2.heap.size ≤ g) : Duo w1 w3 q q' c t r :=
  ⟨M, M', h.still o, hr, hl, fun g hg => Nat.le_trans o1.size (hm g hg), fun g hg k => by have := h.lt g hg; have := hm g k; omega, o1.same o⟩
end Go.Proofs.Ytfmmmiiohaaegaa
