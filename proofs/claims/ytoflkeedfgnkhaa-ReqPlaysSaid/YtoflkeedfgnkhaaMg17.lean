/- A map in memory whose keys are numbers, whatever its values are: what it has is a list of pairs, each number once. -/
import Derived.Test.YtoflkeedfgnkhaaOwn
import Derived.Maps.RangeWalk
import Derived.Maps.OwnSet
import Derived.Maps.OwnOps
import Derived.Test.YtoflkeedfgnkhaaProg
namespace Go.Proofs.Ytoflkeedfgnkhaa
open Go.RowKit Go.Maps
set_option linter.unusedVariables false
set_option maxRecDepth 100000

theorem lawI : Keyed Try.prog 3 := int_keyed Try.underlying3
theorem zeroI (w : World) : (zeroValue 3).run Try.prog w = .ok (.int .i64 0) w := by kernel_rfl
theorem keyI (x : Int) : WideAt.IsKeyLit (.int .i64 x) := trivial
theorem wf_i (x : Int) (h : -9223372036854775808 ≤ x ∧ x ≤ 9223372036854775807) : (Lit.int .i64 x).wf = true := WalkArith.wf_i64 h
theorem lit_ne {x y : Int} (h : y ≠ x) : (Lit.int .i64 y) ≠ Lit.int .i64 x := fun k => h (by injection k)
theorem sub_len {α : Type} [DecidableEq α] : ∀ (l l' : List α), l.Nodup → (∀ x ∈ l, x ∈ l') → l.length ≤ l'.length
  | [], _, _, _ => Nat.zero_le _
  | a :: r, l', hn, hs => by
    obtain ⟨h1, h2⟩ := List.nodup_cons.1 hn
    have ha : a ∈ l' := hs a (by simp)
    have := sub_len r (l'.erase a) h2 (fun x hx => by
      have hx' : x ∈ l' := hs x (by simp [hx])
      exact (List.mem_erase_of_ne (fun q => h1 (by rw [← q]; exact hx))).2 hx')
    rw [List.length_erase_of_mem ha] at this
    have : 0 < l'.length := List.length_pos_of_mem ha
    simp only [List.length_cons]
    omega
theorem same_len {α : Type} [DecidableEq α] {l l' : List α} (h : l.Nodup) (h' : l'.Nodup) (k : ∀ x, x ∈ l ↔ x ∈ l') : l.length = l'.length :=
  Nat.le_antisymm (sub_len l l' h (fun x hx => (k x).1 hx)) (sub_len l' l h' (fun x hx => (k x).2 hx))
theorem only_turned {w w' : World} {b : Nat} (h : w.mapTurned w' b) : Only (fun k => k = b) w w' := (Only.of_grown h.grown).more (fun i _ e => by injection e)

/-- a value, as a map has it: just itself -/
def anyE (v : Value) : Option (DataW Value × List MemPlace) := some (.held v, [])
theorem anyE_mk (v : Value) : anyE v = some (.held v, []) := rfl
theorem anyE_inv {v : Value} {y : DataW Value × List MemPlace} (h : anyE v = some y) : y = (.held v, []) := (Option.some.inj h).symm
abbrev Ent := Int × Value
def hasV (es : List Ent) (x : Int) : Bool := es.any (fun p => p.1 == x)
theorem hasV_iff {es : List Ent} {x : Int} : hasV es x = true ↔ ∃ p ∈ es, p.1 = x := by
  unfold hasV
  rw [List.any_eq_true]
  simp
def atV (z : Value) (es : List Ent) (x : Int) : Value := match es.find? (fun p => p.1 == x) with | some p => p.2 | none => z
def OnceV (es : List Ent) : Prop := es.Pairwise (fun a b => a.1 ≠ b.1)
theorem OnceV.inj : ∀ {ss : List Ent}, OnceV ss → ∀ {a b : Ent}, a ∈ ss → b ∈ ss → a.1 = b.1 → a = b
  | [], _, _, _, ha, _, _ => by cases ha
  | s :: r, h, a, b, ha, hb, e => by
    have h' := List.pairwise_cons.1 h
    rcases List.mem_cons.1 ha with rfl | ha'
    · rcases List.mem_cons.1 hb with rfl | hb'
      · rfl
      · exact absurd e (h'.1 b hb')
    · rcases List.mem_cons.1 hb with rfl | hb'
      · exact absurd e.symm (h'.1 a ha')
      · exact OnceV.inj (show OnceV r from h'.2) ha' hb' e
theorem OnceV.keys {es : List Ent} (h : OnceV es) : (es.map (·.1)).Nodup := by
  unfold List.Nodup
  rw [List.pairwise_map]
  exact h
theorem atV_of {z : Value} {es : List Ent} (o : OnceV es) {p : Ent} (hp : p ∈ es) : atV z es p.1 = p.2 := by
  unfold atV
  cases hf : es.find? (fun q => q.1 == p.1) with
  | none => exact absurd (List.find?_eq_none.1 hf p hp) (by simp)
  | some q =>
    have h1 := List.find?_some hf
    have h2 := List.mem_of_find?_eq_some hf
    rw [o.inj h2 hp (by simpa using h1)]
theorem atV_no {z : Value} {es : List Ent} {x : Int} (h : hasV es x = false) : atV z es x = z := by
  unfold atV
  rw [List.find?_eq_none.2 (fun p hp => by
    intro q
    have : hasV es x = true := hasV_iff.2 ⟨p, hp, by simpa using q⟩
    rw [h] at this; cases this)]
/-- what a map reads as -/
def ReadsV (D : DataW Value) (es : List Ent) : Prop := (∀ x, has D (.int .i64 x) = hasV es x) ∧ ∀ p ∈ es, ∀ z, D.atKey (.int .i64 p.1) z = .held p.2
theorem ReadsV.nil : ReadsV (.map []) [] := ⟨fun _ => rfl, fun _ h => by cases h⟩
theorem ReadsV.put {D : DataW Value} {ps : List Ent} (h : ReadsV D ps) (m : IsMap D) (x : Int) (v : Value) (hx : hasV ps x = false) : ReadsV (D.put (.int .i64 x) (.held v)) (ps ++ [(x, v)]) := by
  have hx' : ∀ e ∈ ps, e.1 ≠ x := fun e he q => by
    have : hasV ps x = true := hasV_iff.2 ⟨e, he, q⟩
    rw [hx] at this; cases this
  refine ⟨fun y => ?_, fun e he z => ?_⟩
  · by_cases k : y = x
    · subst k
      rw [has_put_same m (keyI _)]
      simp [hasV]
    · rw [has_put_other (lit_ne k), h.1]
      have : (x == y) = false := by simp; exact fun q => k q.symm
      simp [hasV, this]
  · rcases List.mem_append.1 he with he' | he'
    · rw [atKey_put_other (lit_ne (hx' e he'))]
      exact h.2 e he' z
    · rw [List.mem_singleton.1 he', atKey_put_same m (keyI _)]
def cutV (es : List Ent) (x : Int) : List Ent := es.filter (fun p => !(p.1 == x))
theorem cutV_mem {es : List Ent} {x : Int} {p : Ent} : p ∈ cutV es x ↔ p ∈ es ∧ p.1 ≠ x := by
  unfold cutV
  rw [List.mem_filter]
  simp
theorem OnceV.cut {es : List Ent} (h : OnceV es) (x : Int) : OnceV (cutV es x) := h.filter _
theorem OnceV.more {es : List Ent} (h : OnceV es) (x : Int) (v : Value) (hx : hasV es x = false) : OnceV (es ++ [(x, v)]) := by
  unfold OnceV
  rw [List.pairwise_append]
  refine ⟨h, List.pairwise_singleton _ _, fun a ha c hc => ?_⟩
  rw [List.mem_singleton.1 hc]
  rintro e
  have : hasV es x = true := hasV_iff.2 ⟨a, ha, e⟩
  rw [hx] at this; cases this
theorem ReadsV.del {D : DataW Value} {ps : List Ent} (h : ReadsV D ps) (x : Int) : ReadsV (D.del (.int .i64 x)) (cutV ps x) := by
  refine ⟨fun y => ?_, fun e he z => ?_⟩
  · by_cases k : y = x
    · subst k
      rw [has_del_same]
      cases hq : hasV (cutV ps y) y with
      | false => rfl
      | true =>
        obtain ⟨p, hp, e⟩ := hasV_iff.1 hq
        exact absurd e (cutV_mem.1 hp).2
    · rw [has_del_other (lit_ne k), h.1, Bool.eq_iff_iff, hasV_iff, hasV_iff]
      constructor
      · rintro ⟨p, hp, rfl⟩
        exact ⟨p, cutV_mem.2 ⟨hp, k⟩, rfl⟩
      · rintro ⟨p, hp, rfl⟩
        exact ⟨p, (cutV_mem.1 hp).1, rfl⟩
  · have he' := cutV_mem.1 he
    rw [atKey_del_other (lit_ne he'.2)]
    exact h.2 e he'.1 z
theorem ReadsV.look {D : DataW Value} {ps : List Ent} (h : ReadsV D ps) (o : OnceV ps) (x : Int) (z : Value) : D.atKey (.int .i64 x) (.held z) = .held (atV z ps x) := by
  cases hc : hasV ps x with
  | true =>
    obtain ⟨p, hp, rfl⟩ := hasV_iff.1 hc
    rw [h.2 p hp, atV_of o hp]
  | false =>
    have := h.1 x
    rw [hc] at this
    rw [atKey_of_not_has this, atV_no hc]
theorem key_intV {w : World} {b n : Nat} {D : DataW Value} (h : w.ownsMap Try.prog 3 anyE b n D) : ∀ kl, has D kl = true → ∃ x, kl = .int .i64 x := by
  intro kl hk
  obtain ⟨es, clock, hb, F, _, rfl⟩ := h
  obtain ⟨p, hp, hpk⟩ := List.any_eq_true.1 hk
  obtain ⟨x, hx, rfl⟩ := List.mem_map.1 (mem_sorted.1 hp)
  obtain ⟨y, hy⟩ := F.reads x hx
  rw [WideElems.rg_of hy] at hpk
  obtain ⟨a, _, e2, _⟩ := keyOf_int_inv Try.underlying3 (WideElems.rd_key hy)
  have := WideAt.sameKey_eq hpk
  exact ⟨a, by rw [← this, e2]⟩
theorem tightV {w : World} {b n : Nat} {D : DataW Value} (h : w.ownsMap Try.prog 3 anyE b n D) : w.ownsMap Try.prog 3 anyE b (size D) D := by
  obtain ⟨es, clock, hb, F, _, rfl⟩ := h
  exact ⟨es, clock, hb, F, by rw [size_eq, length_sorted]; simp, rfl⟩
theorem ReadsV.size {w : World} {b n : Nat} {D : DataW Value} {ss : List Ent} (h : ReadsV D ss) (o : w.ownsMap Try.prog 3 anyE b n D) (hn : OnceV ss) : size D = ss.length := by
  have KI := key_intV o
  obtain ⟨ps, rfl, hp, hk⟩ := o.entries lawI
  show ps.length = ss.length
  have e1 : (ps.map (fun p => match p.1 with | .int .i64 x => x | _ => 0)).length = ps.length := List.length_map _
  have e2 : (ss.map (fun e => e.1)).length = ss.length := List.length_map _
  rw [← e1, ← e2]
  have hi : ∀ p ∈ ps, ∃ x, p.1 = .int .i64 x := fun p hp' => KI p.1 (List.any_eq_true.2 ⟨p, hp', WideAt.sameKey_self (hk p hp')⟩)
  refine same_len ?_ hn.keys ?_
  · unfold List.Nodup
    rw [List.pairwise_map]
    refine hp.imp_of_mem ?_
    intro p q hp1 hq1 hne e
    obtain ⟨x, hx⟩ := hi p hp1
    obtain ⟨y, hy⟩ := hi q hq1
    simp only [hx, hy] at e
    exact hne (by rw [hx, hy, e])
  · intro x
    have h1 := h.1 x
    constructor
    · intro hm
      obtain ⟨p, hp1, e⟩ := List.mem_map.1 hm
      obtain ⟨y, hy⟩ := hi p hp1
      simp only [hy] at e
      subst e
      have : has (DataW.map ps) (.int .i64 y) = true := List.any_eq_true.2 ⟨p, hp1, by rw [hy]; exact WideAt.sameKey_self (keyI _)⟩
      rw [h1] at this
      obtain ⟨a, ha, e⟩ := hasV_iff.1 this
      exact List.mem_map.2 ⟨a, ha, e⟩
    · intro hm
      obtain ⟨a, ha, e⟩ := List.mem_map.1 hm
      rw [hasV_iff.2 ⟨a, ha, e⟩] at h1
      obtain ⟨p, hp1, hpk⟩ := List.any_eq_true.1 h1
      have := WideAt.sameKey_eq hpk
      exact List.mem_map.2 ⟨p, hp1, by simp only [this]⟩

/-- block b is a map that has just these pairs -/
def Mg (w : World) (b : Nat) (es : List Ent) : Prop := OnceV es ∧ ∃ D, w.ownsMap Try.prog 3 anyE b es.length D ∧ ReadsV D es
theorem Mg.of {w : World} {b n : Nat} {D : DataW Value} {es : List Ent} (o : w.ownsMap Try.prog 3 anyE b n D) (h : ReadsV D es) (hn : OnceV es) : Mg w b es :=
  ⟨hn, D, by rw [← h.size o hn]; exact tightV o, h⟩
theorem owns_keepV {w w' : World} {b n : Nat} {D : DataW Value} (h : w.ownsMap Try.prog 3 anyE b n D) {S : Nat → Prop} (o : Only S w w') (hn : ¬ S b) : w'.ownsMap Try.prog 3 anyE b n D := by
  have lt := h.lt
  obtain ⟨es, clock, hb, r⟩ := h
  exact ⟨es, clock, (o.block b lt hn).trans hb, r⟩
theorem Mg.keep {w w' : World} {b : Nat} {es : List Ent} (h : Mg w b es) {S : Nat → Prop} (o : Only S w w') (hn : ¬ S b) : Mg w' b es := by
  obtain ⟨h0, D, h1, h2⟩ := h
  exact ⟨h0, D, owns_keepV h1 o hn, h2⟩
theorem Mg.still {w w' : World} {b : Nat} {es : List Ent} (h : Mg w b es) (o : Only none_ w w') : Mg w' b es := h.keep o (fun s => s)
theorem Mg.lt {w : World} {b : Nat} {es : List Ent} (h : Mg w b es) : b < w.heap.size := by
  obtain ⟨_, D, h1, _⟩ := h
  exact h1.lt
theorem Mg.ne {w : World} {p b : Nat} {es : List Ent} {t : TypeId} {cs : Array Value} (h : Mg w b es) (r : Row w p t cs) : p ≠ b := by
  rintro rfl
  obtain ⟨_, D, ⟨es, clock, hb, _⟩, _⟩ := h
  unfold Row at r
  rw [r] at hb
  cases hb
theorem Mg.made (w : World) : Mg (w.alloc (.map #[] 0)) w.heap.size [] := ⟨List.Pairwise.nil, _, World.ownsMap_made w Try.prog 3 anyE, ReadsV.nil⟩
theorem Mg.len {w : World} {b : Nat} {es : List Ent} (h : Mg w b es) {t e : TypeId} (ht : Try.prog.underlying t = some (.map 3 e)) (ty : TypeId) : (Builtin.len_ #[t] ty #[.map (some b)]).run Try.prog w = .ok (.int .i64 es.length) w := by
  obtain ⟨hn, D, h1, h2⟩ := h
  have := h1.len ht ty
  rw [h2.size h1 hn] at this
  exact this
/-- a lookup -/
theorem Mg.look {w : World} {b : Nat} {es : List Ent} (h : Mg w b es) {t e : TypeId} (ht : Try.prog.underlying t = some (.map 3 e)) {z : Value} (hz : (zeroValue e).run Try.prog w = .ok z w) {x : Int} (wx : (Lit.int .i64 x).wf = true) :
    (Instr.lookup t (.map (some b)) (.int .i64 x) false).run Try.prog w = .ok (atV z es x) w := by
  obtain ⟨o, D, h1, h2⟩ := h
  obtain ⟨v, zs, hrun, hv⟩ := h1.lookup lawI ht hz (anyE_mk z) (keyOf_int_mk Try.underlying3 wx)
  rw [h2.look o x] at hv
  have e := anyE_inv hv
  injection e with e
  injection e with e
  rw [e]
  exact hrun
theorem Mg.look_ok {w : World} {b : Nat} {es : List Ent} (h : Mg w b es) {t e : TypeId} (ht : Try.prog.underlying t = some (.map 3 e)) {z : Value} (hz : (zeroValue e).run Try.prog w = .ok z w) {x : Int} (wx : (Lit.int .i64 x).wf = true) :
    (Instr.lookup t (.map (some b)) (.int .i64 x) true).run Try.prog w = .ok (.tuple #[atV z es x, .bool (hasV es x)]) w := by
  obtain ⟨o, D, h1, h2⟩ := h
  obtain ⟨v, zs, hrun, hv⟩ := h1.look_ok lawI ht hz (anyE_mk z) (keyOf_int_mk Try.underlying3 wx)
  rw [h2.1 x] at hrun
  rw [h2.look o x] at hv
  have e := anyE_inv hv
  injection e with e
  injection e with e
  rw [e]
  exact hrun
/-- a new key -/
theorem Mg.store {w : World} {b : Nat} {es : List Ent} (h : Mg w b es) {t e : TypeId} (ht : Try.prog.underlying t = some (.map 3 e)) (hl : es.length ≤ 1000) (x : Int) (v : Value) (wx : (Lit.int .i64 x).wf = true) (hx : hasV es x = false) :
    ∃ w', (Instr.mapUpdate t (.map (some b)) (.int .i64 x) v).run Try.prog w = .ok () w' ∧ Mg w' b (es ++ [(x, v)]) ∧ Only (fun k => k = b) w w' := by
  obtain ⟨hn, D, k1, k2⟩ := h
  have IM : IsMap D := let ⟨es, _, _, _, _, e⟩ := k1; ⟨_, e⟩
  obtain ⟨w', e1, e2, e3⟩ := k1.store lawI ht (by unfold maxLen; omega) (keyOf_int_mk Try.underlying3 wx) (anyE_mk v)
  exact ⟨w', e1, Mg.of e2 (k2.put IM x v hx) (hn.more x v hx), only_turned e3⟩
/-- a key goes -/
theorem Mg.drop {w : World} {b : Nat} {es : List Ent} (h : Mg w b es) {t e : TypeId} (ht : Try.prog.underlying t = some (.map 3 e)) (x : Int) (wx : (Lit.int .i64 x).wf = true) (ty : TypeId) :
    ∃ w', (Builtin.delete_ #[t, 3] ty #[.map (some b), .int .i64 x]).run Try.prog w = .ok (.tuple #[]) w' ∧ Mg w' b (cutV es x) ∧ Only (fun k => k = b) w w' := by
  obtain ⟨hn, D, k1, k2⟩ := h
  obtain ⟨w', e1, e2, e3⟩ := k1.drop lawI ht (keyOf_int_mk Try.underlying3 wx) ty
  exact ⟨w', e1, Mg.of e2 (k2.del x) (hn.cut x), only_turned e3⟩

/-! ### a range under way -/
def GotV (es : List Ent) (left : Lit → Bool) (xs : List Ent) : Prop := (∀ p ∈ xs, p ∈ es) ∧ (xs.map (·.1)).Nodup ∧ ∀ e ∈ es, e.1 ∈ xs.map (·.1) ↔ left (.int .i64 e.1) = false
theorem GotV.start {D : DataW Value} {es : List Ent} (h : ReadsV D es) : GotV es (has D) [] := by
  refine ⟨fun p hp => (by cases hp), List.Pairwise.nil, fun e he => ⟨fun q => (by cases q), fun q => ?_⟩⟩
  rw [h.1, hasV_iff.2 ⟨e, he, rfl⟩] at q
  cases q
abbrev strikeV (left : Lit → Bool) (x : Int) : Lit → Bool := fun z => left z && !z.sameKey (.int .i64 x)
theorem key_eqV (x y : Int) : (Lit.int .i64 x).sameKey (.int .i64 y) = (x == y) := by
  simp [Lit.sameKey]
  rfl
theorem GotV.step {es xs : List Ent} {left : Lit → Bool} {e : Ent} (h : GotV es left xs) (he : e ∈ es) (hl : left (.int .i64 e.1) = true) : GotV es (strikeV left e.1) (xs ++ [e]) := by
  refine ⟨fun p hp => ?_, ?_, fun a ha => ?_⟩
  · rcases List.mem_append.1 hp with q | q
    · exact h.1 p q
    · rw [List.mem_singleton.1 q]; exact he
  · rw [List.map_append]
    unfold List.Nodup
    rw [List.pairwise_append]
    refine ⟨h.2.1, List.pairwise_singleton _ _, fun a ha b hb q => ?_⟩
    have : b = e.1 := by simpa using hb
    subst this
    subst q
    have := (h.2.2 e he).1 ha
    rw [hl] at this
    cases this
  · rw [List.map_append, List.mem_append, h.2.2 a ha]
    simp only [strikeV, key_eqV, List.map_cons, List.map_nil, List.mem_singleton]
    by_cases k : a.1 = e.1
    · simp [k]
    · have kf : (a.1 == e.1) = false := by simp [k]
      simp [k, kf]
theorem GotV.len {es xs : List Ent} {left : Lit → Bool} (h : GotV es left xs) : xs.length ≤ es.length := by
  have := sub_len (xs.map (·.1)) (es.map (·.1)) h.2.1 (fun x hx => by
    obtain ⟨p, hp, rfl⟩ := List.mem_map.1 hx
    exact List.mem_map.2 ⟨p, h.1 p hp, rfl⟩)
  simpa using this
theorem GotV.over {es xs : List Ent} {left : Lit → Bool} (h : GotV es left xs) (hl : ∀ kl, left kl = false) : ∀ x, x ∈ xs.map (·.1) ↔ x ∈ es.map (·.1) := fun x => by
  constructor
  · intro hx
    obtain ⟨p, hp, rfl⟩ := List.mem_map.1 hx
    exact List.mem_map.2 ⟨p, h.1 p hp, rfl⟩
  · intro hx
    obtain ⟨p, hp, rfl⟩ := List.mem_map.1 hx
    exact (h.2.2 p hp).2 (hl _)
theorem ranges_keepV {w w' : World} {b r n cnt : Nat} {D : DataW Value} {left : Lit → Bool} (h : w.ranges Try.prog 3 anyE b r n D left cnt) {S : Nat → Prop} (o : Only S w w') (hb : ¬ S b) (hr : ¬ S r) : w'.ranges Try.prog 3 anyE b r n D left cnt := by
  have h1 := h.owns.lt
  have h2 := h.lt
  obtain ⟨es, clock, since, seen, c0, k1, F, hs, hD, k2, rest⟩ := h
  exact ⟨es, clock, since, seen, c0, (o.block b h1 hb).trans k1, F, hs, hD, (o.block r h2 hr).trans k2, rest⟩
theorem entry_ofV {D : DataW Value} {es : List Ent} (h : ReadsV D es) {x : Int} {v : Value} (hat : ∀ zd, D.atKey (.int .i64 x) zd = .held v) : (x, v) ∈ es := by
  cases hc : hasV es x with
  | true =>
    obtain ⟨q, hq, rfl⟩ := hasV_iff.1 hc
    have := (h.2 q hq .nil).symm.trans (hat .nil)
    injection this with this
    rw [← this]
    exact hq
  | false =>
    have h1 := h.1 x
    rw [hc] at h1
    have e1 := hat .nil
    rw [atKey_of_not_has h1] at e1
    cases e1
end Go.Proofs.Ytoflkeedfgnkhaa
