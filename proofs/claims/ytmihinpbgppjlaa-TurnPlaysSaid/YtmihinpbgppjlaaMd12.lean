/- A map in memory, from tickets to the places that they have. -/
import Derived.Test.YtmihinpbgppjlaaPl12
import Derived.Test.YtmihinpbgppjlaaOwn
import Derived.Maps.RangeWalk
import Derived.Maps.OwnSet
import Derived.Maps.OwnOps
import Derived.Test.YtmihinpbgppjlaaProg
namespace Go.Proofs.Ytmihinpbgppjlaa
open Go.RowKit Go.Maps
set_option linter.unusedVariables false

theorem lawI : Keyed Try.prog 3 := int_keyed Try.underlying3
theorem keyI (x : Int) : WideAt.IsKeyLit (.int .i64 x) := trivial
theorem wf_i (x : Int) (h : -9223372036854775808 ≤ x ∧ x ≤ 9223372036854775807) : (Lit.int .i64 x).wf = true := WalkArith.wf_i64 h

/-- how a place reads, as a map's value -/
def plDat (p : Pl) : DataW Unit := .agg [.lit (.int .i64 p.k), .lit (.bool p.a), .lit (.int .i64 p.n), .lit (.bool p.s)]
def plVal (p : Pl) : Value := .agg #[.int .i64 p.k, .bool p.a, .int .i64 p.n, .bool p.s]
def plElem : Value → Option (DataW Unit × List MemPlace)
  | .agg cs => match cs.toList with
    | [.int .i64 k, .bool a, .int .i64 n, .bool s] => some (plDat ⟨k, a, n, s⟩, [])
    | _ => none
  | _ => none
theorem plElem_mk (p : Pl) : plElem (plVal p) = some (plDat p, []) := rfl
theorem plElem_inv {v : Value} {y : DataW Unit × List MemPlace} (h : plElem v = some y) : ∃ p, v = plVal p ∧ y = (plDat p, []) := by
  unfold plElem at h
  split at h
  · rename_i cs
    split at h
    · rename_i k a n s e
      refine ⟨⟨k, a, n, s⟩, ?_, (Option.some.inj h).symm⟩
      unfold plVal
      congr 1
      apply Array.ext'
      exact e
    · cases h
  · cases h
theorem plDat_inj {p q : Pl} (h : plDat p = plDat q) : p = q := by
  unfold plDat at h
  cases p; cases q
  simp only [DataW.agg.injEq, List.cons.injEq, DataW.lit.injEq, Lit.int.injEq, Lit.bool.injEq, true_and, and_true] at h
  obtain ⟨rfl, rfl, rfl, rfl⟩ := h
  rfl
def zeroP : Pl := ⟨0, false, 0, false⟩
theorem zeroE (w : World) : (zeroValue 59).run Try.prog w = .ok (plVal zeroP) w := by kernel_rfl

/-- has a ticket a place? -/
def hasP (ps : List Pl) (x : Int) : Bool := ps.any (fun p => p.k == x)
theorem hasP_iff {ps : List Pl} {x : Int} : hasP ps x = true ↔ ∃ p ∈ ps, p.k = x := by
  unfold hasP
  rw [List.any_eq_true]
  simp
/-- the place of a ticket; nothing, if it has none -/
def atP (ps : List Pl) (x : Int) : Pl := (ps.find? (fun p => p.k == x)).getD zeroP
/-- tickets, each of them once -/
def Once (ps : List Pl) : Prop := ps.Pairwise (fun a b => a.k ≠ b.k)
theorem Once.inj : ∀ {ss : List Pl}, Once ss → ∀ {a b : Pl}, a ∈ ss → b ∈ ss → a.k = b.k → a = b
  | [], _, _, _, ha, _, _ => by cases ha
  | s :: r, h, a, b, ha, hb, e => by
    have h' := List.pairwise_cons.1 h
    rcases List.mem_cons.1 ha with rfl | ha'
    · rcases List.mem_cons.1 hb with rfl | hb'
      · rfl
      · exact absurd e (h'.1 b hb')
    · rcases List.mem_cons.1 hb with rfl | hb'
      · exact absurd e.symm (h'.1 a ha')
      · exact Once.inj (show Once r from h'.2) ha' hb' e
theorem Once.nodup {ps : List Pl} (h : Once ps) : ps.Nodup := h.imp (fun k q => k (by rw [q]))
theorem atP_of {ps : List Pl} (o : Once ps) {p : Pl} (hp : p ∈ ps) : atP ps p.k = p := by
  unfold atP
  cases hf : ps.find? (fun q => q.k == p.k) with
  | none => exact absurd (List.find?_eq_none.1 hf p hp) (by simp)
  | some q =>
    have h1 := List.find?_some hf
    have h2 := List.mem_of_find?_eq_some hf
    exact o.inj h2 hp (by simpa using h1)
theorem atP_no {ps : List Pl} {x : Int} (h : hasP ps x = false) : atP ps x = zeroP := by
  unfold atP
  rw [List.find?_eq_none.2 (fun p hp => by
    intro q
    have : hasP ps x = true := hasP_iff.2 ⟨p, hp, by simpa using q⟩
    rw [h] at this; cases this)]
  rfl
theorem atP_has {ps : List Pl} {x : Int} (h : hasP ps x = true) : atP ps x ∈ ps ∧ (atP ps x).k = x := by
  obtain ⟨p, hp, e⟩ := hasP_iff.1 h
  unfold atP
  cases hf : ps.find? (fun q => q.k == x) with
  | none => exact absurd (List.find?_eq_none.1 hf p hp) (by simp [e])
  | some q => exact ⟨List.mem_of_find?_eq_some hf, by simpa using List.find?_some hf⟩

/-- what a map reads as: of each ticket that has a place that place -/
def Reads12 (D : DataW Unit) (ps : List Pl) : Prop := (∀ x, has D (.int .i64 x) = hasP ps x) ∧ ∀ p ∈ ps, ∀ z, D.atKey (.int .i64 p.k) z = plDat p
theorem Reads12.nil : Reads12 (.map []) [] := ⟨fun _ => rfl, fun _ h => by cases h⟩
theorem lit_ne {x y : Int} (h : y ≠ x) : (Lit.int .i64 y) ≠ Lit.int .i64 x := fun k => h (by injection k)
/-- a place is laid, over one that was there or not -/
theorem Reads12.put {D : DataW Unit} {ps qs : List Pl} (h : Reads12 D ps) (m : IsMap D) (q : Pl) (h1 : ∀ p ∈ qs, p = q ∨ (p ∈ ps ∧ p.k ≠ q.k)) (h2 : q ∈ qs) (h3 : ∀ p ∈ ps, p.k ≠ q.k → p ∈ qs) : Reads12 (D.put (.int .i64 q.k) (plDat q)) qs := by
  refine ⟨fun y => ?_, fun e he z => ?_⟩
  · by_cases k : y = q.k
    · subst k
      rw [has_put_same m (keyI _)]
      exact (hasP_iff.2 ⟨q, h2, rfl⟩).symm
    · rw [has_put_other (lit_ne k), h.1, Bool.eq_iff_iff, hasP_iff, hasP_iff]
      constructor
      · rintro ⟨p, hp, rfl⟩
        exact ⟨p, h3 p hp k, rfl⟩
      · rintro ⟨p, hp, rfl⟩
        rcases h1 p hp with rfl | ⟨hp', _⟩
        · exact absurd rfl k
        · exact ⟨p, hp', rfl⟩
  · rcases h1 e he with rfl | ⟨he', k⟩
    · rw [atKey_put_same m (keyI _)]
    · rw [atKey_put_other (lit_ne k)]
      exact h.2 e he' z
theorem Reads12.del {D : DataW Unit} {ps qs : List Pl} (h : Reads12 D ps) (x : Int) (h1 : ∀ p, p ∈ qs ↔ p ∈ ps ∧ p.k ≠ x) : Reads12 (D.del (.int .i64 x)) qs := by
  refine ⟨fun y => ?_, fun e he z => ?_⟩
  · by_cases k : y = x
    · subst k
      rw [has_del_same]
      cases hq : hasP qs y with
      | false => rfl
      | true =>
        obtain ⟨p, hp, e⟩ := hasP_iff.1 hq
        exact absurd e ((h1 p).1 hp).2
    · rw [has_del_other (lit_ne k), h.1, Bool.eq_iff_iff, hasP_iff, hasP_iff]
      constructor
      · rintro ⟨p, hp, rfl⟩
        exact ⟨p, (h1 p).2 ⟨hp, k⟩, rfl⟩
      · rintro ⟨p, hp, rfl⟩
        exact ⟨p, ((h1 p).1 hp).1, rfl⟩
  · have he' := (h1 e).1 he
    rw [atKey_del_other (lit_ne he'.2)]
    exact h.2 e he'.1 z
/-- what a lookup finds, whether there is anything or not -/
theorem Reads12.look {D : DataW Unit} {ps : List Pl} (h : Reads12 D ps) (o : Once ps) (x : Int) : D.atKey (.int .i64 x) (plDat zeroP) = plDat (atP ps x) := by
  cases hc : hasP ps x with
  | true =>
    obtain ⟨p, hp, rfl⟩ := hasP_iff.1 hc
    rw [h.2 p hp, atP_of o hp]
  | false =>
    have := h.1 x
    rw [hc] at this
    rw [atKey_of_not_has this, atP_no hc]

/-- every key is a number -/
theorem key_int {w : World} {b n : Nat} {D : DataW Unit} (h : w.ownsMap Try.prog 3 plElem b n D) : ∀ kl, has D kl = true → ∃ x, kl = .int .i64 x := by
  intro kl hk
  obtain ⟨es, clock, hb, F, _, rfl⟩ := h
  obtain ⟨p, hp, hpk⟩ := List.any_eq_true.1 hk
  obtain ⟨x, hx, rfl⟩ := List.mem_map.1 (mem_sorted.1 hp)
  obtain ⟨y, hy⟩ := F.reads x hx
  rw [WideElems.rg_of hy] at hpk
  obtain ⟨a, _, e2, _⟩ := keyOf_int_inv Try.underlying3 (WideElems.rd_key hy)
  have := WideAt.sameKey_eq hpk
  exact ⟨a, by rw [← this, e2]⟩
theorem tight {w : World} {b n : Nat} {D : DataW Unit} (h : w.ownsMap Try.prog 3 plElem b n D) : w.ownsMap Try.prog 3 plElem b (size D) D := by
  obtain ⟨es, clock, hb, F, _, rfl⟩ := h
  exact ⟨es, clock, hb, F, by rw [size_eq, length_sorted]; simp, rfl⟩
theorem sub_len {α : Type} [DecidableEq α] : ∀ (l l' : List α), l.Nodup → (∀ x ∈ l, x ∈ l') → l.length ≤ l'.length
  | [], _, _, _ => Nat.zero_le _
  | a :: r, l', hn, hs => by
    obtain ⟨h1, h2⟩ := List.nodup_cons.1 hn
    have ha : a ∈ l' := hs a (by simp)
    have := sub_len r (l'.erase a) h2 (fun x hx => by
      have hx' : x ∈ l' := hs x (by simp [hx])
      exact (List.mem_erase_of_ne (fun q => h1 (by rw [← q]; exact hx))).2 hx')
    rw [List.length_erase_of_mem ha] at this
    have : 0 < l'.length := List.length_pos_of_mem ha
    simp only [List.length_cons]
    omega
theorem same_len {α : Type} [DecidableEq α] {l l' : List α} (h : l.Nodup) (h' : l'.Nodup) (k : ∀ x, x ∈ l ↔ x ∈ l') : l.length = l'.length :=
  Nat.le_antisymm (sub_len l l' h (fun x hx => (k x).1 hx)) (sub_len l' l h' (fun x hx => (k x).2 hx))
theorem same_perm {α : Type} [DecidableEq α] : ∀ {l l' : List α}, l.Nodup → l'.Nodup → (∀ x, x ∈ l ↔ x ∈ l') → l.Perm l'
  | [], l', _, _, k => by
    have : l' = [] := List.eq_nil_iff_forall_not_mem.2 (fun a ha => by have := (k a).2 ha; cases this)
    rw [this]
  | a :: r, l', h, h', k => by
    obtain ⟨h1, h2⟩ := List.nodup_cons.1 h
    have ha : a ∈ l' := (k a).1 (by simp)
    have hr : r.Perm (l'.erase a) := same_perm h2 (h'.erase a) (fun x => by
      constructor
      · intro hx
        exact (List.mem_erase_of_ne (fun q => h1 (by rw [← q]; exact hx))).2 ((k x).1 (by simp [hx]))
      · intro hx
        have hm := List.mem_of_mem_erase hx
        rcases List.mem_cons.1 ((k x).2 hm) with q | q
        · subst q
          exact absurd hx (List.Nodup.not_mem_erase h')
        · exact q)
    exact (hr.cons a).trans (List.perm_cons_erase ha).symm
theorem Reads12.size {w : World} {b n : Nat} {D : DataW Unit} {ss : List Pl} (h : Reads12 D ss) (o : w.ownsMap Try.prog 3 plElem b n D) (hn : Once ss) : size D = ss.length := by
  have KI := key_int o
  obtain ⟨ps, rfl, hp, hk⟩ := o.entries lawI
  show ps.length = ss.length
  have e1 : (ps.map (fun p => match p.1 with | .int .i64 x => x | _ => 0)).length = ps.length := List.length_map _
  have e2 : (ss.map (fun e => e.k)).length = ss.length := List.length_map _
  rw [← e1, ← e2]
  have hi : ∀ p ∈ ps, ∃ x, p.1 = .int .i64 x := fun p hp' => KI p.1 (List.any_eq_true.2 ⟨p, hp', WideAt.sameKey_self (hk p hp')⟩)
  refine same_len ?_ (by unfold List.Nodup; rw [List.pairwise_map]; exact hn) ?_
  · unfold List.Nodup
    rw [List.pairwise_map]
    refine hp.imp_of_mem ?_
    intro p q hp1 hq1 hne e
    obtain ⟨x, hx⟩ := hi p hp1
    obtain ⟨y, hy⟩ := hi q hq1
    simp only [hx, hy] at e
    exact hne (by rw [hx, hy, e])
  · intro x
    have h1 := h.1 x
    constructor
    · intro hm
      obtain ⟨p, hp1, e⟩ := List.mem_map.1 hm
      obtain ⟨y, hy⟩ := hi p hp1
      simp only [hy] at e
      subst e
      have : has (DataW.map ps) (.int .i64 y) = true := List.any_eq_true.2 ⟨p, hp1, by rw [hy]; exact WideAt.sameKey_self (keyI _)⟩
      rw [h1] at this
      obtain ⟨a, ha, e⟩ := hasP_iff.1 this
      exact List.mem_map.2 ⟨a, ha, e⟩
    · intro hm
      obtain ⟨a, ha, e⟩ := List.mem_map.1 hm
      rw [hasP_iff.2 ⟨a, ha, e⟩] at h1
      obtain ⟨p, hp1, hpk⟩ := List.any_eq_true.1 h1
      have := WideAt.sameKey_eq hpk
      exact List.mem_map.2 ⟨p, hp1, by simp only [this]⟩

/-- block b is a map that has just these places -/
def Md (w : World) (b : Nat) (ps : List Pl) : Prop := ∃ D, w.ownsMap Try.prog 3 plElem b ps.length D ∧ Reads12 D ps
theorem Md.of {w : World} {b n : Nat} {D : DataW Unit} {ps : List Pl} (o : w.ownsMap Try.prog 3 plElem b n D) (h : Reads12 D ps) (hn : Once ps) : Md w b ps :=
  ⟨D, by rw [← h.size o hn]; exact tight o, h⟩
theorem owns_keep {w w' : World} {b n : Nat} {D : DataW Unit} (h : w.ownsMap Try.prog 3 plElem b n D) {S : Nat → Prop} (o : Only S w w') (hn : ¬ S b) : w'.ownsMap Try.prog 3 plElem b n D := by
  have lt := h.lt
  obtain ⟨es, clock, hb, r⟩ := h
  exact ⟨es, clock, (o.block b lt hn).trans hb, r⟩
theorem Md.keep {w w' : World} {b : Nat} {ps : List Pl} (h : Md w b ps) {S : Nat → Prop} (o : Only S w w') (hn : ¬ S b) : Md w' b ps := by
  obtain ⟨D, h1, h2⟩ := h
  exact ⟨D, owns_keep h1 o hn, h2⟩
theorem Md.lt {w : World} {b : Nat} {ps : List Pl} (h : Md w b ps) : b < w.heap.size := by
  obtain ⟨D, h1, _⟩ := h
  exact h1.lt
theorem Md.ne {w : World} {p b : Nat} {ps : List Pl} {t : TypeId} {cs : Array Value} (h : Md w b ps) (r : Row w p t cs) : p ≠ b := by
  rintro rfl
  obtain ⟨D, ⟨es, clock, hb, _⟩, _⟩ := h
  unfold Row at r
  rw [r] at hb
  cases hb
theorem Md.still {w w' : World} {b : Nat} {ps : List Pl} (h : Md w b ps) (o : Only none_ w w') : Md w' b ps := h.keep o (fun s => s)
theorem only_turned {w w' : World} {b : Nat} (h : w.mapTurned w' b) : Only (fun k => k = b) w w' := (Only.of_grown h.grown).more (fun i _ e => by injection e)
/-- a lookup -/
theorem Md.look {w : World} {b : Nat} {ps : List Pl} (h : Md w b ps) (o : Once ps) {x : Int} (wx : (Lit.int .i64 x).wf = true) :
    (Instr.lookup 55 (.map (some b)) (.int .i64 x) true).run Try.prog w = .ok (.tuple #[plVal (atP ps x), .bool (hasP ps x)]) w := by
  obtain ⟨D, h1, h2⟩ := h
  obtain ⟨v, zs, hrun, hv⟩ := h1.look_ok lawI Try.underlying55 (zeroE w) (plElem_mk zeroP) (keyOf_int_mk Try.underlying3 wx)
  rw [h2.1 x] at hrun
  rw [h2.look o x] at hv
  obtain ⟨p, rfl, e⟩ := plElem_inv hv
  injection e with e
  rw [plDat_inj e]
  exact hrun
/-- a store, over one that was there or not -/
theorem Md.store {w : World} {b : Nat} {ps qs : List Pl} (h : Md w b ps) (hn : Once qs) (hl : ps.length ≤ 1000) (q : Pl) (wx : (Lit.int .i64 q.k).wf = true) (h1 : ∀ p ∈ qs, p = q ∨ (p ∈ ps ∧ p.k ≠ q.k)) (h2 : q ∈ qs) (h3 : ∀ p ∈ ps, p.k ≠ q.k → p ∈ qs) :
    ∃ w', (Instr.mapUpdate 55 (.map (some b)) (.int .i64 q.k) (plVal q)).run Try.prog w = .ok () w' ∧ Md w' b qs ∧ Only (fun k => k = b) w w' := by
  obtain ⟨D, k1, k2⟩ := h
  have IM : IsMap D := let ⟨es, _, _, _, _, e⟩ := k1; ⟨_, e⟩
  obtain ⟨w', e1, e2, e3⟩ := k1.store lawI Try.underlying55 (by unfold maxLen; omega) (keyOf_int_mk Try.underlying3 wx) (plElem_mk q)
  exact ⟨w', e1, Md.of e2 (k2.put IM q h1 h2 h3) hn, only_turned e3⟩
/-- a ticket goes -/
theorem Md.drop {w : World} {b : Nat} {ps qs : List Pl} (h : Md w b ps) (hn : Once qs) (x : Int) (wx : (Lit.int .i64 x).wf = true) (h1 : ∀ p, p ∈ qs ↔ p ∈ ps ∧ p.k ≠ x) (ty : TypeId) :
    ∃ w', (Builtin.delete_ #[55, 3] ty #[.map (some b), .int .i64 x]).run Try.prog w = .ok (.tuple #[]) w' ∧ Md w' b qs ∧ Only (fun k => k = b) w w' := by
  obtain ⟨D, k1, k2⟩ := h
  obtain ⟨w', e1, e2, e3⟩ := k1.drop lawI Try.underlying55 (keyOf_int_mk Try.underlying3 wx) ty
  exact ⟨w', e1, Md.of e2 (k2.del x h1) hn, only_turned e3⟩

/-! ### a range under way -/
/-- what has come while the range is under way -/
def Got (ps : List Pl) (left : Lit → Bool) (xs : List Pl) : Prop := xs.Nodup ∧ ∀ e, e ∈ xs ↔ e ∈ ps ∧ left (.int .i64 e.k) = false
theorem Got.start {D : DataW Unit} {ps : List Pl} (h : Reads12 D ps) : Got ps (has D) [] := by
  refine ⟨List.Pairwise.nil, fun e => ⟨fun q => (by cases q), fun ⟨he, q⟩ => ?_⟩⟩
  rw [h.1, hasP_iff.2 ⟨e, he, rfl⟩] at q
  cases q
/-- one key is struck -/
abbrev strike (left : Lit → Bool) (x : Int) : Lit → Bool := fun z => left z && !z.sameKey (.int .i64 x)
theorem key_eq (x y : Int) : (Lit.int .i64 x).sameKey (.int .i64 y) = (x == y) := by
  simp [Lit.sameKey]
  rfl
theorem Got.step {ps xs : List Pl} {left : Lit → Bool} {e : Pl} (h : Got ps left xs) (hn : Once ps) (he : e ∈ ps) (hl : left (.int .i64 e.k) = true) : Got ps (strike left e.k) (xs ++ [e]) := by
  refine ⟨?_, fun a => ?_⟩
  · unfold List.Nodup
    rw [List.pairwise_append]
    refine ⟨h.1, List.pairwise_singleton _ _, fun a ha b hb q => ?_⟩
    have : b = e := by simpa using hb
    subst this
    subst q
    have := ((h.2 _).1 ha).2
    rw [hl] at this
    cases this
  · rw [List.mem_append, h.2 a]
    simp only [strike, key_eq, List.mem_singleton]
    constructor
    · rintro (⟨ha, q⟩ | rfl)
      · exact ⟨ha, by rw [q]; rfl⟩
      · exact ⟨he, by simp⟩
    · rintro ⟨ha, q⟩
      by_cases k : a.k = e.k
      · exact .inr (hn.inj ha he k)
      · have kf : (a.k == e.k) = false := by simp [k]
        rw [kf] at q
        simp at q
        exact .inl ⟨ha, q⟩
theorem Got.len {ps xs : List Pl} {left : Lit → Bool} (h : Got ps left xs) : xs.length ≤ ps.length := sub_len _ _ h.1 (fun x hx => ((h.2 x).1 hx).1)
theorem Got.over {ps xs : List Pl} {left : Lit → Bool} (h : Got ps left xs) (hn : Once ps) (hl : ∀ kl, left kl = false) : xs.Perm ps := same_perm h.1 hn.nodup (fun e => by
  rw [h.2 e, hl]
  simp)
theorem ranges_keep {w w' : World} {b r n cnt : Nat} {D : DataW Unit} {left : Lit → Bool} (h : w.ranges Try.prog 3 plElem b r n D left cnt) {S : Nat → Prop} (o : Only S w w') (hb : ¬ S b) (hr : ¬ S r) : w'.ranges Try.prog 3 plElem b r n D left cnt := by
  have h1 := h.owns.lt
  have h2 := h.lt
  obtain ⟨es, clock, since, seen, c0, k1, F, hs, hD, k2, rest⟩ := h
  exact ⟨es, clock, since, seen, c0, (o.block b h1 hb).trans k1, F, hs, hD, (o.block r h2 hr).trans k2, rest⟩
theorem entry_of {D : DataW Unit} {ps : List Pl} (h : Reads12 D ps) {x : Int} {p : Pl} (hat : ∀ zd, D.atKey (.int .i64 x) zd = plDat p) : p ∈ ps ∧ p.k = x := by
  cases hc : hasP ps x with
  | true =>
    obtain ⟨q, hq, rfl⟩ := hasP_iff.1 hc
    have := (h.2 q hq (plDat zeroP)).symm.trans (hat (plDat zeroP))
    rw [← plDat_inj this]
    exact ⟨hq, rfl⟩
  | false =>
    have h1 := h.1 x
    rw [hc] at h1
    have e1 := hat (plDat zeroP)
    have e2 := hat (plDat ⟨1, false, 0, false⟩)
    rw [atKey_of_not_has h1] at e1 e2
    have := plDat_inj (e1.trans e2.symm)
    exact absurd this (by decide)
end Go.Proofs.Ytmihinpbgppjlaa
