/- Requests, plainly: what each step comes to, counted. -/
import Derived.Test.YtoflkeedfgnkhaaPl17
namespace Go.Proofs.Ytoflkeedfgnkhaa
open Go.RowKit
set_option linter.unusedVariables false

def cnt8 (l : List An) : Nat := l.countP (fun n => n.code == 8)
def okA (n : An) : Prop := (n.code = 0 ∧ n.vs.length ≤ 8) ∨ (n.code = 7 ∧ n.vs = []) ∨ (n.code = 8 ∧ n.vs = [])
structure St17 (opened answered can : Nat) (t : Tq) : Prop where
  sum : opened = answered + t.rs.length + t.kept.length
  can : can = cnt8 t.kept
  ok : ∀ n ∈ t.kept, okA n
  one : t.kept.length ≤ 1
theorem cutQ_len {rs : List Rq} (h : OnceQ rs) {x : Int} (hx : hasQ rs x = true) : (cutQ rs x).length + 1 = rs.length := by
  induction rs with
  | nil => cases hx
  | cons s rs ih =>
    have h' := List.pairwise_cons.1 h
    unfold cutQ
    by_cases e : s.id = x
    · have e2 : (!(s.id == x)) = false := by simp [e]
      rw [List.filter_cons_of_neg (by rw [e2]; decide), List.filter_eq_self.2 (fun a ha => by
        have := h'.1 a ha
        simp
        intro q
        exact this (by rw [e, q])), List.length_cons]
    · have e2 : (!(s.id == x)) = true := by simp [e]
      have hx' : hasQ rs x = true := by
        unfold hasQ at hx ⊢
        rw [List.any_cons] at hx
        simpa [e] using hx
      have := ih h'.2 hx'
      unfold cutQ at this
      rw [List.filter_cons_of_pos (p := fun r : Rq => !(r.id == x)) e2, List.length_cons, this, List.length_cons]
theorem ansQ_ok {r : Rq} (h : FineQ r) : okA (ansQ r) ∧ (ansQ r).code ≠ 8 := by
  unfold ansQ codeQ valsQ okA
  by_cases l : lostQ r = true
  · rw [if_pos l, if_pos l]
    exact ⟨.inr (.inl ⟨rfl, rfl⟩), fun q => absurd (show (7 : Int) = 8 from q) (by decide)⟩
  · rw [if_neg l, if_neg l]
    refine ⟨.inl ⟨rfl, ?_⟩, fun q => absurd (show (0 : Int) = 8 from q) (by decide)⟩
    split
    · have := h.vl; have := h.n8; show r.vs.length ≤ 8; omega
    · exact Nat.zero_le _
theorem St17.start (n : Nat) {answered : Nat} {t : Tq} (h : t.kept = []) (e : n = answered + t.rs.length) : St17 n answered 0 t := ⟨by rw [h, e]; rfl, by rw [h]; rfl, (fun a ha => by rw [h] at ha; cases ha), by rw [h]; exact Nat.zero_le _⟩
theorem St17.open_ {room o a : Nat} {rs : List Rq} (h : o = a + rs.length) (x k n : Int) : St17 (if openI room rs x k n = 0 then o + 1 else o) a 0 ⟨openS room rs x k n, []⟩ := by
  refine St17.start _ rfl ?_
  unfold openS
  split
  · show o + 1 = a + (rs ++ [_]).length
    rw [List.length_append, List.length_singleton]
    omega
  · exact h
theorem put_cases {t : Tq} {x q v : Int} {a : Nat} : (putS t x q a v = t) ∨ ∃ r, findQ t.rs x = some r ∧ putI t.rs x q = 0 ∧
    ((doneQ (mark q.toNat a v r) = true ∧ putS t x q a v = cutT t x (ansQ (mark q.toNat a v r))) ∨ (doneQ (mark q.toNat a v r) = false ∧ putS t x q a v = ⟨updQ t.rs x (mark q.toNat a v), t.kept⟩)) := by
  unfold putS
  cases hf : findQ t.rs x with
  | none => exact .inl rfl
  | some r =>
    by_cases h : putI t.rs x q = 0
    · refine .inr ⟨r, rfl, h, ?_⟩
      dsimp only
      rw [if_pos h]
      cases hd : doneQ (mark q.toNat a v r) with
      | true => exact .inl ⟨rfl, rfl⟩
      | false => exact .inr ⟨rfl, rfl⟩
    · exact .inl (if_neg h)
theorem updQ_len (rs : List Rq) (x : Int) (f : Rq → Rq) : (updQ rs x f).length = rs.length := List.length_map _
theorem St17.put {room o b : Nat} {rs : List Rq} (g : GoodQ room rs) (h : o = b + rs.length) (x q v : Int) {a : Nat} (ha : a = 1 ∨ a = 2) : St17 o b 0 (putS ⟨rs, []⟩ x q a v) := by
  rcases put_cases (t := ⟨rs, []⟩) (x := x) (q := q) (v := v) (a := a) with e | ⟨r, hf, _, ⟨hd, e⟩ | ⟨hd, e⟩⟩
  · rw [e]; exact St17.start _ rfl h
  · rw [e]
    obtain ⟨hr, rfl, hx⟩ := find_some hf
    have hl := cutQ_len g.once hx
    have ok := ansQ_ok ((g.fine r hr).mark (p := q.toNat) (v := v) ha)
    refine ⟨?_, ?_, ?_, Nat.le_refl _⟩
    · show o = b + (cutQ rs r.id).length + 1
      omega
    · show 0 = cnt8 [_]
      unfold cnt8
      rw [List.countP_eq_zero.2]
      intro n hn
      rw [List.mem_singleton.1 hn]
      simpa using ok.2
    · intro n hn
      rw [List.mem_singleton.1 hn]
      exact ok.1
  · rw [e]
    exact St17.start _ rfl (by rw [h]; show _ = b + (updQ rs x _).length; rw [updQ_len])
theorem St17.cancel {room o b : Nat} {rs : List Rq} (g : GoodQ room rs) (h : o = b + rs.length) (x : Int) : St17 o b (if cancelI rs x = 0 then 1 else 0) (cancelS ⟨rs, []⟩ x) := by
  unfold cancelI cancelS
  cases hx : hasQ rs x with
  | false =>
    rw [if_neg (by decide), if_neg (by decide)]
    exact St17.start _ rfl h
  | true =>
    rw [if_pos rfl, if_pos rfl, if_pos rfl]
    have hl := cutQ_len g.once hx
    refine ⟨?_, rfl, ?_, Nat.le_refl _⟩
    · show o = b + (cutQ rs x).length + 1
      omega
    · intro n hn
      rw [List.mem_singleton.1 hn]
      exact .inr (.inr ⟨rfl, rfl⟩)

/-! ### writes of one place -/
def oneW (rs : List Rq) : Prop := ∀ r ∈ rs, r = newQ r.id 2 1
theorem oneW.kind {rs : List Rq} (h : oneW rs) (x : Int) : kindI rs x = if hasQ rs x then 2 else 0 := by
  unfold kindI
  cases hf : findQ rs x with
  | none => rw [find_none hf]; rfl
  | some r =>
    obtain ⟨hr, rfl, hx⟩ := find_some hf
    rw [hx, h r hr]
    rfl
theorem oneW.put {t : Tq} (h : oneW t.rs) {x v : Int} {a : Nat} (ha : a = 1 ∨ a = 2) (hx : hasQ t.rs x = true) : putI t.rs x 0 = 0 ∧ putS t x 0 a v = ⟨cutQ t.rs x, t.kept ++ [⟨x, if a = 2 then 7 else 0, []⟩]⟩ := by
  cases hf : findQ t.rs x with
  | none => rw [find_none hf] at hx; cases hx
  | some r =>
    obtain ⟨hr, rfl, _⟩ := find_some hf
    have e := h r hr
    have p0 : putI t.rs r.id 0 = 0 := by
      unfold putI
      rw [hf]
      dsimp only
      rw [e]
      rfl
    refine ⟨p0, ?_⟩
    unfold putS
    rw [hf]
    dsimp only
    rw [if_pos p0]
    have d : doneQ (mark (0 : Int).toNat a v r) = true ∧ ansQ (mark (0 : Int).toNat a v r) = ⟨r.id, if a = 2 then 7 else 0, []⟩ := by
      rw [e]
      rcases ha with rfl | rfl <;> exact ⟨rfl, rfl⟩
    rw [if_pos d.1, d.2]
    rfl
theorem oneW.cut {rs : List Rq} (h : oneW rs) (x : Int) : oneW (cutQ rs x) := fun r hr => h r (List.mem_filter.1 hr).1
theorem oneW.open_ {rs : List Rq} (h : oneW rs) {k : Nat} (h1 : 1 ≤ k) (hb : ∀ r ∈ rs, r.id < k) (hl : rs.length < 16) : openI 16 rs k 2 1 = 0 ∧ oneW (openS 16 rs k 2 1) ∧ (∀ r ∈ openS 16 rs k 2 1, r.id < (k + 1 : Nat)) ∧ (openS 16 rs k 2 1).length = rs.length + 1 := by
  have hx : hasQ rs k = false := by
    rw [Bool.eq_false_iff]
    intro q
    obtain ⟨r, hr, e⟩ := hasQ_iff.1 q
    have := hb r hr
    omega
  have e0 : openI 16 rs k 2 1 = 0 := by
    unfold openI
    rw [if_pos (by unfold mayO; omega), hx, if_neg (by decide), if_neg (by omega)]
  have e1 : openS 16 rs k 2 1 = rs ++ [newQ k 2 1] := if_pos e0
  refine ⟨e0, ?_, ?_, ?_⟩
  · rw [e1]
    intro r hr
    rcases List.mem_append.1 hr with hr | hr
    · exact h r hr
    · rw [List.mem_singleton.1 hr]; rfl
  · rw [e1]
    intro r hr
    rcases List.mem_append.1 hr with hr | hr
    · have := hb r hr; omega
    · rw [List.mem_singleton.1 hr]; show (k : Int) < ((k + 1 : Nat) : Int); omega
  · rw [e1, List.length_append, List.length_singleton]
end Go.Proofs.Ytoflkeedfgnkhaa
