/- Which stream goes for a new one: plain facts; what is made behind a tracker outlives an access. -/
import Derived.Test.YtfmmmiiohaaegaaAlone10
namespace Go.Proofs.Ytfmmmiiohaaegaa
open Go.RowKit
set_option linter.unusedVariables false

/-- of what was made since the tracker stood so, nothing turns -/
theorem trk_acc_from {w1 wo wr : World} {q : Nat} {c : Cf} {t : Tr} (f n : Int) (h : Trk w1 wo q c t) (o : Only none_ wo wr) (hf : Fine10 c t) (hu : t.uses ≤ 900) :
    Calls Try.prog 12 #[.pointer (some ⟨q, 0, none⟩), .int .i64 f, .int .i64 n] wr fun e w' => Acc c t f n e ∧ Trk w1 w' q c (accS c t f n) ∧ Only (fun g => g < wo.heap.size) wr w' := by
  obtain ⟨⟨M, h, l⟩, o1⟩ := h
  refine (acc_any f n wr (h.still o) hf hu).mono ?_
  rintro e w' ⟨ha, ⟨M', h', m⟩, o2⟩
  exact ⟨ha, ⟨⟨M', h', fun g hg => (m g hg).elim (l g) (fun k => Nat.le_trans (o1.same o).size k)⟩, only_old (o1.same o) o2 l⟩, o2.more (fun i _ k => h.lt i k)⟩
theorem tuneS_begun (t : Tr) (x : Int) (b : Bool) : (tuneS t x b).begun = t.begun := by
  unfold tuneS
  split <;> rfl

/-- the one that goes: of as many as may be the one that was used longest ago; else none, -1 -/
def OldAt (S : Nat) (ss : List Sm) (av : Int) : Prop := (ss.length = S ∧ ∃ o : Nat, av = o ∧ o = (lowOf ss).getD 0 ∧ o < ss.length) ∨ (ss.length ≠ S ∧ av = -1)
def jj (av : Int) (k : Nat) : Nat := if 0 ≤ av ∧ av < k then k - 1 else k
theorem jj_on {av : Int} {k : Nat} (h : (k : Int) ≠ av) : jj av (k + 1) = jj av k + 1 := by
  unfold jj
  split <;> split <;> omega
theorem jj_skip {av : Int} {k : Nat} (h : (k : Int) = av) : jj av (k + 1) = jj av k := by
  unfold jj
  split <;> split <;> omega
theorem jj_le (av : Int) (k : Nat) : jj av k ≤ k := by
  unfold jj
  split <;> omega
theorem old_end {S : Nat} {ss : List Sm} {av : Int} (h : OldAt S ss av) (hl : ss.length ≤ S) : jj av ss.length = (fewer S ss).length := by
  unfold jj fewer
  rcases h with ⟨h1, o, rfl, ho, h3⟩ | ⟨h1, rfl⟩
  · rw [if_pos ⟨by omega, by omega⟩, if_pos (by omega), ← ho, List.length_eraseIdx, if_pos h3]
  · rw [if_neg (by omega), if_neg (by omega)]
theorem old_get {S : Nat} {ss : List Sm} {av : Int} (h : OldAt S ss av) (hl : ss.length ≤ S) (x : Sm) {k : Nat} {s : Sm} (hk : ss[k]? = some s) (hne : (k : Int) ≠ av) : (fewer S ss ++ [x])[jj av k]? = some s := by
  have lk := lt_of_get hk
  have hj : jj av k < (fewer S ss).length := by
    rw [← old_end h hl]
    unfold jj
    split <;> split <;> omega
  rw [List.getElem?_append_left hj]
  unfold fewer
  rcases h with ⟨h1, o, rfl, ho, h3⟩ | ⟨h1, rfl⟩
  · rw [if_pos (show S ≤ ss.length by omega), ← ho, List.getElem?_eraseIdx]
    by_cases q : (o : Int) < k
    · have e : jj o k = k - 1 := by unfold jj; rw [if_pos ⟨by omega, q⟩]
      rw [e, if_neg (by omega), show k - 1 + 1 = k by omega]
      exact hk
    · have e : jj o k = k := by unfold jj; rw [if_neg (by omega)]
      rw [e, if_pos (by omega)]
      exact hk
  · have e : jj (-1) k = k := by unfold jj; rw [if_neg (by omega)]
    rw [e, if_neg (by omega)]
    exact hk
theorem best_old {S : Nat} {ss : List Sm} {av gv : Int} {k : Nat} (hr : ss.Pairwise (fun a b => a.used ≠ b.used)) (hb : Best (fun s => -(s.used : Int)) (fun _ => true) ss k av gv) (h1 : 1 ≤ S) (he : (ss.length = S ∧ k = ss.length) ∨ (ss.length ≠ S ∧ k = 0)) : OldAt S ss av := by
  rcases he with ⟨e, rfl⟩ | ⟨e, rfl⟩
  · have := best_low hr (fun q => by rw [q] at e; simp at e; omega) hb
    exact .inl ⟨e, _, this.1, rfl, this.2⟩
  · rcases hb with ⟨h2, _⟩ | ⟨j, s, _, h2, _⟩
    · exact .inr ⟨e, h2⟩
    · omega
end Go.Proofs.Ytfmmmiiohaaegaa
