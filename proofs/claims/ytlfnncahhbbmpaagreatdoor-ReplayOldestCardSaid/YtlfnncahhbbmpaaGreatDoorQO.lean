/- Texts of the layers below, one behind the other. -/
import Derived.Test.YtlfnncahhbbmpaaGreatDoorQC
import Derived.Test.YtlfnncahhbbmpaaGreatDoorQI
import Derived.Test.YtlfnncahhbbmpaaGreatDoorQK
import Derived.Test.YtlfnncahhbbmpaaGreatDoorQN
import Derived.Test.YtlfnncahhbbmpaaGreatDoorQD
import Derived.Deep.RegionWith
import Derived.Maps.RangeWalk
import Derived.Deep.RegionHeld3
import Derived.StillTailTactics
import Derived.BigQuiet
import Derived.RegionDies
namespace Go.Proofs.YtlfnncahhbbmpaaGreatDoor
open Go.RowKit Go.Maps
set_option linter.unusedVariables false
set_option maxRecDepth 100000

/-- a value, as a map has it: just itself -/
def anyE (v : Value) : Option (DataW Value × List MemPlace) := some (.held v, [])
theorem anyE_mk (v : Value) : anyE v = some (.held v, []) := rfl
theorem anyE_inv {v : Value} {y : DataW Value × List MemPlace} (h : anyE v = some y) : y = (.held v, []) := (Option.some.inj h).symm
abbrev Ent := Int × Value
def hasV (es : List Ent) (x : Int) : Bool := es.any (fun p => p.1 == x)
theorem hasV_iff {es : List Ent} {x : Int} : hasV es x = true ↔ ∃ p ∈ es, p.1 = x := by
  unfold hasV
  rw [List.any_eq_true]
  simp
def atV (z : Value) (es : List Ent) (x : Int) : Value := match es.find? (fun p => p.1 == x) with | some p => p.2 | none => z
def OnceV (es : List Ent) : Prop := es.Pairwise (fun a b => a.1 ≠ b.1)
theorem OnceV.inj : ∀ {ss : List Ent}, OnceV ss → ∀ {a b : Ent}, a ∈ ss → b ∈ ss → a.1 = b.1 → a = b
  | [], _, _, _, ha, _, _ => by cases ha
  | s :: r, h, a, b, ha, hb, e => by
    have h' := List.pairwise_cons.1 h
    rcases List.mem_cons.1 ha with rfl | ha'
    · rcases List.mem_cons.1 hb with rfl | hb'
      · rfl
      · exact absurd e (h'.1 b hb')
    · rcases List.mem_cons.1 hb with rfl | hb'
      · exact absurd e.symm (h'.1 a ha')
      · exact OnceV.inj (show OnceV r from h'.2) ha' hb' e
theorem OnceV.keys {es : List Ent} (h : OnceV es) : (es.map (·.1)).Nodup := by
  unfold List.Nodup
  rw [List.pairwise_map]
  exact h
theorem atV_of {z : Value} {es : List Ent} (o : OnceV es) {p : Ent} (hp : p ∈ es) : atV z es p.1 = p.2 := by
  unfold atV
  cases hf : es.find? (fun q => q.1 == p.1) with
  | none => exact absurd (List.find?_eq_none.1 hf p hp) (by simp)
  | some q =>
    have h1 := List.find?_some hf
    have h2 := List.mem_of_find?_eq_some hf
    rw [o.inj h2 hp (by simpa using h1)]
theorem atV_no {z : Value} {es : List Ent} {x : Int} (h : hasV es x = false) : atV z es x = z := by
  unfold atV
  rw [List.find?_eq_none.2 (fun p hp => by
    intro q
    have : hasV es x = true := hasV_iff.2 ⟨p, hp, by simpa using q⟩
    rw [h] at this; cases this)]
/-- what a map reads as -/
def ReadsV (D : DataW Value) (es : List Ent) : Prop := (∀ x, has D (.int .i64 x) = hasV es x) ∧ ∀ p ∈ es, ∀ z, D.atKey (.int .i64 p.1) z = .held p.2
theorem ReadsV.nil : ReadsV (.map []) [] := ⟨fun _ => rfl, fun _ h => by cases h⟩
theorem ReadsV.put {D : DataW Value} {ps : List Ent} (h : ReadsV D ps) (m : IsMap D) (x : Int) (v : Value) (hx : hasV ps x = false) : ReadsV (D.put (.int .i64 x) (.held v)) (ps ++ [(x, v)]) := by
  have hx' : ∀ e ∈ ps, e.1 ≠ x := fun e he q => by
    have : hasV ps x = true := hasV_iff.2 ⟨e, he, q⟩
    rw [hx] at this; cases this
  refine ⟨fun y => ?_, fun e he z => ?_⟩
  · by_cases k : y = x
    · subst k
      rw [has_put_same m (keyI11 _)]
      simp [hasV]
    · rw [has_put_other (lit_ne11 k), h.1]
      have : (x == y) = false := by simp; exact fun q => k q.symm
      simp [hasV, this]
  · rcases List.mem_append.1 he with he' | he'
    · rw [atKey_put_other (lit_ne11 (hx' e he'))]
      exact h.2 e he' z
    · rw [List.mem_singleton.1 he', atKey_put_same m (keyI11 _)]
def cutV (es : List Ent) (x : Int) : List Ent := es.filter (fun p => !(p.1 == x))
theorem cutV_mem {es : List Ent} {x : Int} {p : Ent} : p ∈ cutV es x ↔ p ∈ es ∧ p.1 ≠ x := by
  unfold cutV
  rw [List.mem_filter]
  simp
theorem OnceV.cut {es : List Ent} (h : OnceV es) (x : Int) : OnceV (cutV es x) := h.filter _
theorem OnceV.more {es : List Ent} (h : OnceV es) (x : Int) (v : Value) (hx : hasV es x = false) : OnceV (es ++ [(x, v)]) := by
  unfold OnceV
  rw [List.pairwise_append]
  refine ⟨h, List.pairwise_singleton _ _, fun a ha c hc => ?_⟩
  rw [List.mem_singleton.1 hc]
  rintro e
  have : hasV es x = true := hasV_iff.2 ⟨a, ha, e⟩
  rw [hx] at this; cases this
theorem ReadsV.del {D : DataW Value} {ps : List Ent} (h : ReadsV D ps) (x : Int) : ReadsV (D.del (.int .i64 x)) (cutV ps x) := by
  refine ⟨fun y => ?_, fun e he z => ?_⟩
  · by_cases k : y = x
    · subst k
      rw [has_del_same]
      cases hq : hasV (cutV ps y) y with
      | false => rfl
      | true =>
        obtain ⟨p, hp, e⟩ := hasV_iff.1 hq
        exact absurd e (cutV_mem.1 hp).2
    · rw [has_del_other (lit_ne11 k), h.1, Bool.eq_iff_iff, hasV_iff, hasV_iff]
      constructor
      · rintro ⟨p, hp, rfl⟩
        exact ⟨p, cutV_mem.2 ⟨hp, k⟩, rfl⟩
      · rintro ⟨p, hp, rfl⟩
        exact ⟨p, (cutV_mem.1 hp).1, rfl⟩
  · have he' := cutV_mem.1 he
    rw [atKey_del_other (lit_ne11 he'.2)]
    exact h.2 e he'.1 z
theorem ReadsV.look {D : DataW Value} {ps : List Ent} (h : ReadsV D ps) (o : OnceV ps) (x : Int) (z : Value) : D.atKey (.int .i64 x) (.held z) = .held (atV z ps x) := by
  cases hc : hasV ps x with
  | true =>
    obtain ⟨p, hp, rfl⟩ := hasV_iff.1 hc
    rw [h.2 p hp, atV_of o hp]
  | false =>
    have := h.1 x
    rw [hc] at this
    rw [atKey_of_not_has this, atV_no hc]
theorem key_intV {w : World} {b n : Nat} {D : DataW Value} (h : w.ownsMap Tryz.prog 3 anyE b n D) : ∀ kl, has D kl = true → ∃ x, kl = .int .i64 x := by
  intro kl hk
  obtain ⟨es, clock, hb, F, _, rfl⟩ := h
  obtain ⟨p, hp, hpk⟩ := List.any_eq_true.1 hk
  obtain ⟨x, hx, rfl⟩ := List.mem_map.1 (mem_sorted.1 hp)
  obtain ⟨y, hy⟩ := F.reads x hx
  rw [WideElems.rg_of hy] at hpk
  obtain ⟨a, _, e2, _⟩ := keyOf_int_inv Tryz.underlying3 (WideElems.rd_key hy)
  have := WideAt.sameKey_eq hpk
  exact ⟨a, by rw [← this, e2]⟩
theorem tightV {w : World} {b n : Nat} {D : DataW Value} (h : w.ownsMap Tryz.prog 3 anyE b n D) : w.ownsMap Tryz.prog 3 anyE b (size D) D := by
  obtain ⟨es, clock, hb, F, _, rfl⟩ := h
  exact ⟨es, clock, hb, F, by rw [size_eq, length_sorted]; simp, rfl⟩
theorem ReadsV.size {w : World} {b n : Nat} {D : DataW Value} {ss : List Ent} (h : ReadsV D ss) (o : w.ownsMap Tryz.prog 3 anyE b n D) (hn : OnceV ss) : size D = ss.length := by
  have KI := key_intV o
  obtain ⟨ps, rfl, hp, hk⟩ := o.entries lawI11
  show ps.length = ss.length
  have e1 : (ps.map (fun p => match p.1 with | .int .i64 x => x | _ => 0)).length = ps.length := List.length_map _
  have e2 : (ss.map (fun e => e.1)).length = ss.length := List.length_map _
  rw [← e1, ← e2]
  have hi : ∀ p ∈ ps, ∃ x, p.1 = .int .i64 x := fun p hp' => KI p.1 (List.any_eq_true.2 ⟨p, hp', WideAt.sameKey_self (hk p hp')⟩)
  refine same_len11 ?_ hn.keys ?_
  · unfold List.Nodup
    rw [List.pairwise_map]
    refine hp.imp_of_mem ?_
    intro p q hp1 hq1 hne e
    obtain ⟨x, hx⟩ := hi p hp1
    obtain ⟨y, hy⟩ := hi q hq1
    simp only [hx, hy] at e
    exact hne (by rw [hx, hy, e])
  · intro x
    have h1 := h.1 x
    constructor
    · intro hm
      obtain ⟨p, hp1, e⟩ := List.mem_map.1 hm
      obtain ⟨y, hy⟩ := hi p hp1
      simp only [hy] at e
      subst e
      have : has (DataW.map ps) (.int .i64 y) = true := List.any_eq_true.2 ⟨p, hp1, by rw [hy]; exact WideAt.sameKey_self (keyI11 _)⟩
      rw [h1] at this
      obtain ⟨a, ha, e⟩ := hasV_iff.1 this
      exact List.mem_map.2 ⟨a, ha, e⟩
    · intro hm
      obtain ⟨a, ha, e⟩ := List.mem_map.1 hm
      rw [hasV_iff.2 ⟨a, ha, e⟩] at h1
      obtain ⟨p, hp1, hpk⟩ := List.any_eq_true.1 h1
      have := WideAt.sameKey_eq hpk
      exact List.mem_map.2 ⟨p, hp1, by simp only [this]⟩

/-- block b is a map that has just these pairs -/
def Mg (w : World) (b : Nat) (es : List Ent) : Prop := OnceV es ∧ ∃ D, w.ownsMap Tryz.prog 3 anyE b es.length D ∧ ReadsV D es
theorem Mg.of {w : World} {b n : Nat} {D : DataW Value} {es : List Ent} (o : w.ownsMap Tryz.prog 3 anyE b n D) (h : ReadsV D es) (hn : OnceV es) : Mg w b es :=
  ⟨hn, D, by rw [← h.size o hn]; exact tightV o, h⟩
theorem owns_keepV {w w' : World} {b n : Nat} {D : DataW Value} (h : w.ownsMap Tryz.prog 3 anyE b n D) {S : Nat → Prop} (o : Only S w w') (hn : ¬ S b) : w'.ownsMap Tryz.prog 3 anyE b n D := by
  have lt := h.lt
  obtain ⟨es, clock, hb, r⟩ := h
  exact ⟨es, clock, (o.block b lt hn).trans hb, r⟩
theorem Mg.keep {w w' : World} {b : Nat} {es : List Ent} (h : Mg w b es) {S : Nat → Prop} (o : Only S w w') (hn : ¬ S b) : Mg w' b es := by
  obtain ⟨h0, D, h1, h2⟩ := h
  exact ⟨h0, D, owns_keepV h1 o hn, h2⟩
theorem Mg.still {w w' : World} {b : Nat} {es : List Ent} (h : Mg w b es) (o : Only none_ w w') : Mg w' b es := h.keep o (fun s => s)
theorem Mg.lt {w : World} {b : Nat} {es : List Ent} (h : Mg w b es) : b < w.heap.size := by
  obtain ⟨_, D, h1, _⟩ := h
  exact h1.lt
theorem Mg.ne {w : World} {p b : Nat} {es : List Ent} {t : TypeId} {cs : Array Value} (h : Mg w b es) (r : Row w p t cs) : p ≠ b := by
  rintro rfl
  obtain ⟨_, D, ⟨es, clock, hb, _⟩, _⟩ := h
  unfold Row at r
  rw [r] at hb
  cases hb
theorem Mg.made (w : World) : Mg (w.alloc (.map #[] 0)) w.heap.size [] := ⟨List.Pairwise.nil, _, World.ownsMap_made w Tryz.prog 3 anyE, ReadsV.nil⟩
theorem Mg.len {w : World} {b : Nat} {es : List Ent} (h : Mg w b es) {t e : TypeId} (ht : Tryz.prog.underlying t = some (.map 3 e)) (ty : TypeId) : (Builtin.len_ #[t] ty #[.map (some b)]).run Tryz.prog w = .ok (.int .i64 es.length) w := by
  obtain ⟨hn, D, h1, h2⟩ := h
  have := h1.len ht ty
  rw [h2.size h1 hn] at this
  exact this
/-- a lookup -/
theorem Mg.look {w : World} {b : Nat} {es : List Ent} (h : Mg w b es) {t e : TypeId} (ht : Tryz.prog.underlying t = some (.map 3 e)) {z : Value} (hz : (zeroValue e).run Tryz.prog w = .ok z w) {x : Int} (wx : (Lit.int .i64 x).wf = true) :
    (Instr.lookup t (.map (some b)) (.int .i64 x) false).run Tryz.prog w = .ok (atV z es x) w := by
  obtain ⟨o, D, h1, h2⟩ := h
  obtain ⟨v, zs, hrun, hv⟩ := h1.lookup lawI11 ht hz (anyE_mk z) (keyOf_int_mk Tryz.underlying3 wx)
  rw [h2.look o x] at hv
  have e := anyE_inv hv
  injection e with e
  injection e with e
  rw [e]
  exact hrun
theorem Mg.look_ok {w : World} {b : Nat} {es : List Ent} (h : Mg w b es) {t e : TypeId} (ht : Tryz.prog.underlying t = some (.map 3 e)) {z : Value} (hz : (zeroValue e).run Tryz.prog w = .ok z w) {x : Int} (wx : (Lit.int .i64 x).wf = true) :
    (Instr.lookup t (.map (some b)) (.int .i64 x) true).run Tryz.prog w = .ok (.tuple #[atV z es x, .bool (hasV es x)]) w := by
  obtain ⟨o, D, h1, h2⟩ := h
  obtain ⟨v, zs, hrun, hv⟩ := h1.look_ok lawI11 ht hz (anyE_mk z) (keyOf_int_mk Tryz.underlying3 wx)
  rw [h2.1 x] at hrun
  rw [h2.look o x] at hv
  have e := anyE_inv hv
  injection e with e
  injection e with e
  rw [e]
  exact hrun
/-- a new key -/
theorem Mg.store {w : World} {b : Nat} {es : List Ent} (h : Mg w b es) {t e : TypeId} (ht : Tryz.prog.underlying t = some (.map 3 e)) (hl : es.length ≤ 1000) (x : Int) (v : Value) (wx : (Lit.int .i64 x).wf = true) (hx : hasV es x = false) :
    ∃ w', (Instr.mapUpdate t (.map (some b)) (.int .i64 x) v).run Tryz.prog w = .ok () w' ∧ Mg w' b (es ++ [(x, v)]) ∧ Only (fun k => k = b) w w' := by
  obtain ⟨hn, D, k1, k2⟩ := h
  have IM : IsMap D := let ⟨es, _, _, _, _, e⟩ := k1; ⟨_, e⟩
  obtain ⟨w', e1, e2, e3⟩ := k1.store lawI11 ht (by unfold maxLen; omega) (keyOf_int_mk Tryz.underlying3 wx) (anyE_mk v)
  exact ⟨w', e1, Mg.of e2 (k2.put IM x v hx) (hn.more x v hx), only_turned11 e3⟩
/-- a key goes -/
theorem Mg.drop {w : World} {b : Nat} {es : List Ent} (h : Mg w b es) {t e : TypeId} (ht : Tryz.prog.underlying t = some (.map 3 e)) (x : Int) (wx : (Lit.int .i64 x).wf = true) (ty : TypeId) :
    ∃ w', (Builtin.delete_ #[t, 3] ty #[.map (some b), .int .i64 x]).run Tryz.prog w = .ok (.tuple #[]) w' ∧ Mg w' b (cutV es x) ∧ Only (fun k => k = b) w w' := by
  obtain ⟨hn, D, k1, k2⟩ := h
  obtain ⟨w', e1, e2, e3⟩ := k1.drop lawI11 ht (keyOf_int_mk Tryz.underlying3 wx) ty
  exact ⟨w', e1, Mg.of e2 (k2.del x) (hn.cut x), only_turned11 e3⟩

/-! ### a range under way -/
def GotV (es : List Ent) (left : Lit → Bool) (xs : List Ent) : Prop := (∀ p ∈ xs, p ∈ es) ∧ (xs.map (·.1)).Nodup ∧ ∀ e ∈ es, e.1 ∈ xs.map (·.1) ↔ left (.int .i64 e.1) = false
theorem GotV.start {D : DataW Value} {es : List Ent} (h : ReadsV D es) : GotV es (has D) [] := by
  refine ⟨fun p hp => (by cases hp), List.Pairwise.nil, fun e he => ⟨fun q => (by cases q), fun q => ?_⟩⟩
  rw [h.1, hasV_iff.2 ⟨e, he, rfl⟩] at q
  cases q
abbrev strikeV (left : Lit → Bool) (x : Int) : Lit → Bool := fun z => left z && !z.sameKey (.int .i64 x)
theorem key_eqV (x y : Int) : (Lit.int .i64 x).sameKey (.int .i64 y) = (x == y) := by
  simp [Lit.sameKey]
  rfl
theorem GotV.step {es xs : List Ent} {left : Lit → Bool} {e : Ent} (h : GotV es left xs) (he : e ∈ es) (hl : left (.int .i64 e.1) = true) : GotV es (strikeV left e.1) (xs ++ [e]) := by
  refine ⟨fun p hp => ?_, ?_, fun a ha => ?_⟩
  · rcases List.mem_append.1 hp with q | q
    · exact h.1 p q
    · rw [List.mem_singleton.1 q]; exact he
  · rw [List.map_append]
    unfold List.Nodup
    rw [List.pairwise_append]
    refine ⟨h.2.1, List.pairwise_singleton _ _, fun a ha b hb q => ?_⟩
    have : b = e.1 := by simpa using hb
    subst this
    subst q
    have := (h.2.2 e he).1 ha
    rw [hl] at this
    cases this
  · rw [List.map_append, List.mem_append, h.2.2 a ha]
    simp only [strikeV, key_eqV, List.map_cons, List.map_nil, List.mem_singleton]
    by_cases k : a.1 = e.1
    · simp [k]
    · have kf : (a.1 == e.1) = false := by simp [k]
      simp [k, kf]
theorem GotV.len {es xs : List Ent} {left : Lit → Bool} (h : GotV es left xs) : xs.length ≤ es.length := by
  have := sub_len11 (xs.map (·.1)) (es.map (·.1)) h.2.1 (fun x hx => by
    obtain ⟨p, hp, rfl⟩ := List.mem_map.1 hx
    exact List.mem_map.2 ⟨p, h.1 p hp, rfl⟩)
  simpa using this
theorem GotV.over {es xs : List Ent} {left : Lit → Bool} (h : GotV es left xs) (hl : ∀ kl, left kl = false) : ∀ x, x ∈ xs.map (·.1) ↔ x ∈ es.map (·.1) := fun x => by
  constructor
  · intro hx
    obtain ⟨p, hp, rfl⟩ := List.mem_map.1 hx
    exact List.mem_map.2 ⟨p, h.1 p hp, rfl⟩
  · intro hx
    obtain ⟨p, hp, rfl⟩ := List.mem_map.1 hx
    exact (h.2.2 p hp).2 (hl _)
theorem ranges_keepV {w w' : World} {b r n cnt : Nat} {D : DataW Value} {left : Lit → Bool} (h : w.ranges Tryz.prog 3 anyE b r n D left cnt) {S : Nat → Prop} (o : Only S w w') (hb : ¬ S b) (hr : ¬ S r) : w'.ranges Tryz.prog 3 anyE b r n D left cnt := by
  have h1 := h.owns.lt
  have h2 := h.lt
  obtain ⟨es, clock, since, seen, c0, k1, F, hs, hD, k2, rest⟩ := h
  exact ⟨es, clock, since, seen, c0, (o.block b h1 hb).trans k1, F, hs, hD, (o.block r h2 hr).trans k2, rest⟩
theorem entry_ofV {D : DataW Value} {es : List Ent} (h : ReadsV D es) {x : Int} {v : Value} (hat : ∀ zd, D.atKey (.int .i64 x) zd = .held v) : (x, v) ∈ es := by
  cases hc : hasV es x with
  | true =>
    obtain ⟨q, hq, rfl⟩ := hasV_iff.1 hc
    have := (h.2 q hq .nil).symm.trans (hat .nil)
    injection this with this
    rw [← this]
    exact hq
  | false =>
    have h1 := h.1 x
    rw [hc] at h1
    have e1 := hat .nil
    rw [atKey_of_not_has h1] at e1
    cases e1
end Go.Proofs.YtlfnncahhbbmpaaGreatDoor

namespace Go.Proofs.YtlfnncahhbbmpaaGreatDoor
open Go.RowKit Go.Maps
set_option linter.unusedVariables false
set_option maxRecDepth 100000

/-- a map of frames to blocks, as its pairs -/
def entOf (ss : List Sd) : List Ent := ss.map (fun s => (s.k, Value.int .i64 s.b))
theorem hasV_ent (ss : List Sd) (x : Int) : hasV (entOf ss) x = hasK ss x := by
  unfold hasV entOf hasK
  rw [List.any_map]
  rfl
theorem onceV_ent {ss : List Sd} (o : Once11 ss) : OnceV (entOf ss) := by
  unfold OnceV entOf
  rw [List.pairwise_map]
  exact o
theorem blockI_no {ss : List Sd} {x : Int} (h : hasK ss x = false) : blockI ss x = 0 := by
  rw [← tk_has] at h
  unfold blockI
  cases q : tkAt ss x with
  | none => rfl
  | some k => rw [q] at h; cases h
theorem atV_ent {ss : List Sd} (o : Once11 ss) (x : Int) : atV (.int .i64 0) (entOf ss) x = .int .i64 (blockI ss x) := by
  cases h : hasK ss x with
  | true =>
    obtain ⟨s, hs, rfl⟩ := hasK_iff.1 h
    rw [blockI_of o hs]
    exact atV_of (onceV_ent o) (p := (s.k, Value.int .i64 s.b)) (List.mem_map.2 ⟨s, hs, rfl⟩)
  | false => rw [blockI_no h, atV_no (by rw [hasV_ent]; exact h)]
theorem ent_cut19 (ss : List Sd) (x : Int) : cutV (entOf ss) x = entOf (cutK ss x) := by
  unfold cutV entOf cutK
  rw [List.filter_map]
  rfl
theorem ent_more (ss : List Sd) (x i : Int) : entOf (ss ++ [⟨x, i⟩]) = entOf ss ++ [(i, Value.int .i64 x)] := by
  unfold entOf
  rw [List.map_append]
  rfl

structure Loc19 where
  P : Nat
  pp : Nat
  b : Nat
  q : Nat
  bm : Nat
abbrev ptr19 (g : Nat) : Value := .pointer (some ⟨g, 0, none⟩)
def mcells (o : Opt) (v1 v2 v3 : Value) (f : Fnd) (b : Bool) : Array Value :=
  #[.int .i64 o.b0, .int .i64 o.b1, .int .i64 o.b2, .int .i64 o.b3, .int .i64 o.b4, .int .i64 o.b5, .int .i64 o.b6, .int .i64 o.b7, .int .i64 o.b8, .int .i64 o.b9, .int .i64 o.b10, .int .i64 o.b11, .int .i64 o.b12, .int .i64 o.b13,
    v1, v2, v3, .int .i64 f.i, .int .i64 f.f, .int .i64 f.c, .bool b]
/-- the code's model at block p, its parts in blocks of a colour each: itself 1, its policy 2, its tracker 3, its map 4 -/
structure MA (w : World) (p : Nat) (K : Nat → Nat) (X : Loc19) (ss : List Sd) (c : Sc) (L : Nat) (m : Mo) : Prop where
  row : Row w p 70 (mcells m.o (ptr19 X.P) (ptr19 X.q) (.map (some X.bm)) m.f false)
  pol : SLies w X.P X.pp X.b c
  trk : ST w X.q (fun g => K g = 3) m.cf m.t
  mg : Mg w X.bm (entOf ss)
  bm : Bm ss c m.ca
  fine : m.Fine L
  kp : K p = 1
  kP : K X.P = 2
  kpp : K X.pp = 2
  kb : K X.b = 2
  kbm : K X.bm = 4
  lt : ∀ g, K g ≠ 0 → g < w.heap.size
def MAny (w : World) (p : Nat) (K : Nat → Nat) (L : Nat) (m : Mo) : Prop := ∃ X ss c, MA w p K X ss c L m
/-- colours behind a call: what is new is new -/
def Gn (w : World) (K K' : Nat → Nat) : Prop := ∀ g, K' g ≠ 0 → K g ≠ 0 ∨ w.heap.size ≤ g
theorem Gn.refl (w : World) (K : Nat → Nat) : Gn w K K := fun _ h => .inl h
theorem Gn.less {w w0 : World} {K K' : Nat → Nat} (h : Gn w K K') (s : w0.heap.size ≤ w.heap.size) : Gn w0 K K' := fun g hg => (h g hg).imp id (fun q => Nat.le_trans s q)
theorem Gn.trans {w w' : World} {K K' K'' : Nat → Nat} (h : Gn w K K') (k : Gn w' K' K'') (s : w.heap.size ≤ w'.heap.size) : Gn w K K'' := fun g hg => by
  rcases k g hg with q | q
  · exact h g q
  · exact .inr (Nat.le_trans s q)
def MW (w : World) (p : Nat) (K : Nat → Nat) (L : Nat) (m : Mo) (w' : World) : Prop := (∃ K', MAny w' p K' L m ∧ Gn w K K') ∧ Only (fun g => K g ≠ 0) w w'
/-- behind a panic: the model's own block is there -/
def BW (w : World) (p : Nat) (K : Nat → Nat) (w' : World) : Prop := (∃ cs, Row w' p 70 cs ∧ cs.size = 21) ∧ Only (fun g => K g ≠ 0) w w'
def Post19 (w : World) (p : Nat) (K : Nat → Nat) (L : Nat) (ok : Bool) (m : Mo) (e : Ending) (w' : World) : Prop :=
  (ok = true → e = .returned (.tuple #[]) ∧ MW w p K L m w') ∧ (ok = false → e = left 9 ∧ BW w p K w')
theorem Post19.yes {w w' : World} {p : Nat} {K : Nat → Nat} {L : Nat} {ok : Bool} {m : Mo} (h : ok = true) (k : MW w p K L m w') : Post19 w p K L ok m (.returned (.tuple #[])) w' :=
  ⟨fun _ => ⟨rfl, k⟩, fun q => by rw [h] at q; cases q⟩
theorem Post19.no {w w' : World} {p : Nat} {K : Nat → Nat} {L : Nat} {ok : Bool} {m : Mo} (h : ok = false) (k : BW w p K w') : Post19 w p K L ok m (left 9) w' :=
  ⟨fun q => (by rw [h] at q; cases q), fun _ => ⟨rfl, k⟩⟩

section
variable {w w' : World} {p : Nat} {K : Nat → Nat} {X : Loc19} {ss : List Sd} {c : Sc} {L : Nat} {m : Mo}
theorem MA.cell (h : MA w p K X ss c L m) (i : Nat) : w.cell? ⟨p, i, none⟩ = (mcells m.o (ptr19 X.P) (ptr19 X.q) (.map (some X.bm)) m.f false)[i]? := h.row.cell i
theorem MA.keep (h : MA w p K X ss c L m) {S : Nat → Prop} (o : Only S w w') (hn : ∀ g, K g ≠ 0 → ¬ S g) : MA w' p K X ss c L m where
  row := o.row h.row (hn p (by rw [h.kp]; decide))
  pol := h.pol.keep o (hn _ (by rw [h.kP]; decide)) (hn _ (by rw [h.kpp]; decide)) (hn _ (by rw [h.kb]; decide))
  trk := h.trk.keep o (fun g hg => hn g (by rw [hg]; decide))
  mg := h.mg.keep o (hn _ (by rw [h.kbm]; decide))
  bm := h.bm
  fine := h.fine
  kp := h.kp
  kP := h.kP
  kpp := h.kpp
  kb := h.kb
  kbm := h.kbm
  lt := fun g hg => Nat.lt_of_lt_of_le (h.lt g hg) o.size
theorem MA.still (h : MA w p K X ss c L m) (o : Only none_ w w') : MA w' p K X ss c L m := h.keep o (fun _ _ s => s)
theorem MA.up (h : MA w p K X ss c L m) {L' : Nat} (k : L ≤ L') : MA w p K X ss c L' m := { h with fine := h.fine.up k }
theorem MA.new0 (h : MA w p K X ss c L m) {g : Nat} (hg : w.heap.size ≤ g) : K g = 0 := Classical.byContradiction fun q => by have := h.lt g q; omega
theorem MA.stays (h : MA w p K X ss c L m) (o : Only none_ w w') {L' : Nat} (k : L ≤ L') : MW w p K L' m w' := ⟨⟨K, ⟨X, ss, c, (h.still o).up k⟩, Gn.refl w K⟩, o.up⟩
theorem MA.broke (h : MA w p K X ss c L m) (o : Only none_ w w') : BW w p K w' := ⟨⟨_, o.still h.row, rfl⟩, o.up⟩
/-- the policy has turned -/
theorem MA.poled (h : MA w p K X ss c L m) {c' : Sc} {ca' : Ca} {L' : Nat} (s : SLies w' X.P X.pp X.b c') (o : Only (two X.P X.b) w w') (b : Bm ss c' ca') (f : Mo.Fine ⟨m.o, ca', m.t, m.f⟩ L') : MW w p K L' ⟨m.o, ca', m.t, m.f⟩ w' := by
  have nk : ∀ g, K g ≠ 2 → ¬ two X.P X.b g := fun g hg q => by
    rcases q with rfl | rfl
    · exact hg h.kP
    · exact hg h.kb
  have o2 : Only (fun g => K g ≠ 0) w w' := o.more fun g _ q => by
    rcases q with rfl | rfl
    · rw [h.kP]; decide
    · rw [h.kb]; decide
  refine ⟨⟨K, ⟨X, ss, c', ?_⟩, Gn.refl w K⟩, o2⟩
  exact { row := o.row h.row (nk p (by rw [h.kp]; decide)), pol := s, trk := h.trk.keep o (fun g hg => nk g (by rw [hg]; decide)), mg := h.mg.keep o (nk _ (by rw [h.kbm]; decide)),
          bm := b, fine := f, kp := h.kp, kP := h.kP, kpp := h.kpp, kb := h.kb, kbm := h.kbm, lt := fun g hg => Nat.lt_of_lt_of_le (h.lt g hg) o.size }
/-- .. but the map has not yet -/
theorem MA.half (h : MA w p K X ss c L m) {c' : Sc} (s : SLies w' X.P X.pp X.b c') (o : Only (two X.P X.b) w w') :
    Row w' p 70 (mcells m.o (ptr19 X.P) (ptr19 X.q) (.map (some X.bm)) m.f false) ∧ Mg w' X.bm (entOf ss) ∧ Only (fun g => K g ≠ 0) w w' := by
  have nk : ∀ g, K g ≠ 2 → ¬ two X.P X.b g := fun g hg q => by
    rcases q with rfl | rfl
    · exact hg h.kP
    · exact hg h.kb
  refine ⟨o.row h.row (nk p (by rw [h.kp]; decide)), h.mg.keep o (nk _ (by rw [h.kbm]; decide)), o.more fun g _ q => ?_⟩
  rcases q with rfl | rfl
  · rw [h.kP]; decide
  · rw [h.kb]; decide
theorem MA.both (h : MA w p K X ss c L m) {w1 w2 : World} {c' : Sc} {ss' : List Sd} {ca' : Ca} {L' : Nat} (s : SLies w1 X.P X.pp X.b c') (o : Only (two X.P X.b) w w1) (mg : Mg w2 X.bm (entOf ss')) (o2 : Only (fun g => g = X.bm) w1 w2)
    (b : Bm ss' c' ca') (f : Mo.Fine ⟨m.o, ca', m.t, m.f⟩ L') : MW w p K L' ⟨m.o, ca', m.t, m.f⟩ w2 := by
  have nk : ∀ g, K g ≠ 2 → ¬ two X.P X.b g := fun g hg q => by
    rcases q with rfl | rfl
    · exact hg h.kP
    · exact hg h.kb
  have nb : ∀ g, K g ≠ 4 → ¬ g = X.bm := fun g hg q => hg (by rw [q]; exact h.kbm)
  obtain ⟨r, _, o3⟩ := h.half s o
  refine ⟨⟨K, ⟨X, ss', c', ?_⟩, Gn.refl w K⟩, o3.trans o2 (fun g _ q => by rw [q, h.kbm]; decide)⟩
  exact { row := o2.row r (nb p (by rw [h.kp]; decide)), pol := s.keep o2 (nb _ (by rw [h.kP]; decide)) (nb _ (by rw [h.kpp]; decide)) (nb _ (by rw [h.kb]; decide)),
          trk := (h.trk.keep o (fun g hg => nk g (by rw [hg]; decide))).keep o2 (fun g hg => nb g (by rw [hg]; decide)), mg := mg,
          bm := b, fine := f, kp := h.kp, kP := h.kP, kpp := h.kpp, kb := h.kb, kbm := h.kbm, lt := fun g hg => Nat.lt_of_lt_of_le (Nat.lt_of_lt_of_le (h.lt g hg) o.size) o2.size }
end

theorem MW.back {w w1 w' : World} {p : Nat} {K : Nat → Nat} {L : Nat} {m : Mo} (h : MW w1 p K L m w') (o : Only none_ w w1) : MW w p K L m w' := by
  obtain ⟨⟨K', h1, h2⟩, h3⟩ := h
  exact ⟨⟨K', h1, h2.less o.size⟩, o.then_ h3⟩
theorem BW.back {w w1 w' : World} {p : Nat} {K : Nat → Nat} (h : BW w1 p K w') (o : Only none_ w w1) : BW w p K w' := ⟨h.1, o.then_ h.2⟩
theorem MW.still {w w1 w' : World} {p : Nat} {K : Nat → Nat} {L : Nat} {m : Mo} (h : MW w p K L m w1) (o : Only none_ w1 w') : MW w p K L m w' := by
  obtain ⟨⟨K', ⟨X, ss, c, h1⟩, h2⟩, h3⟩ := h
  exact ⟨⟨K', ⟨X, ss, c, h1.still o⟩, h2⟩, h3.idle o⟩
theorem BW.still {w w1 w' : World} {p : Nat} {K : Nat → Nat} (h : BW w p K w1) (o : Only none_ w1 w') : BW w p K w' := by
  obtain ⟨⟨cs, r, z⟩, k⟩ := h
  exact ⟨⟨cs, o.still r, z⟩, k.idle o⟩
theorem BW.half {w w' : World} {p : Nat} {K : Nat → Nat} {X : Loc19} {ss : List Sd} {c c' : Sc} {L : Nat} {m : Mo} (h : MA w p K X ss c L m) (s : SLies w' X.P X.pp X.b c') (o : Only (two X.P X.b) w w') : BW w p K w' :=
  ⟨⟨_, (h.half s o).1, rfl⟩, (h.half s o).2.2⟩

theorem canbe_yes (w : World) : Calls Tryz.prog 28 #[.bool true] w fun e w' => e = .returned (.tuple #[]) ∧ w = w' := by
  have U := Lib.hid (unless_yes (.int .i64 9) w)
  go_enter Tryz.func28, Tryz.ntmps28
  go_wp2_with fail
  (with_reducible refine U.out.mono ?_)
  rintro e w' ⟨rfl, rfl⟩
  go_wp2
  go_end0
  exact ⟨rfl, rfl⟩
theorem canbe_no (w : World) : Calls Tryz.prog 28 #[.bool false] w fun e w' => e = left 9 ∧ w = w' := by
  have U := Lib.hid (unless_no 9 w)
  go_enter Tryz.func28, Tryz.ntmps28
  go_wp2_with fail
  (with_reducible refine U.out.mono ?_)
  rintro e w' ⟨rfl, rfl⟩
  go_wp2
  first | exact ⟨rfl, rfl, rfl⟩ | exact And.intro rfl rfl
section
variable {p : Nat} {K : Nat → Nat} {X : Loc19} {ss : List Sd} {c : Sc} {L : Nat} {m : Mo}
theorem has19_any (x : Int) (w : World) (h : MA w p K X ss c L m) :
    Calls Tryz.prog 77 #[.pointer (some ⟨p, 0, none⟩), .int .i64 x] w fun e w' => e = .returned (.bool (m.there x)) ∧ w = w' := by
  have c0 : w.cell? ⟨p, 0, none⟩ = some (.int .i64 m.o.b0) := h.cell 0
  unfold Mo.there
  clear h
  by_cases q : 0 ≤ x
  · have d1 : decide (0 ≤ x) = true := decide_eq_true q
    rw [d1, Bool.true_and]
    clear q
    go_enter Tryz.func77, Tryz.ntmps77
    go_wp2_with fail
    go_ret
    exact ⟨rfl, rfl⟩
  · have d1 : decide (0 ≤ x) = false := decide_eq_false q
    rw [d1, Bool.false_and]
    clear q
    go_enter Tryz.func77, Tryz.ntmps77
    go_wp2_with fail
    go_ret
    exact ⟨rfl, rfl⟩
end
end Go.Proofs.YtlfnncahhbbmpaaGreatDoor

namespace Go.Proofs.YtlfnncahhbbmpaaGreatDoor
open Go.RowKit Go.Maps
set_option linter.unusedVariables false
set_option maxRecDepth 100000
/-- a method of the model at block p -/
abbrev mth (f : FuncId) (p : Nat) : Value := .func (.func f) #[.pointer (some ⟨p, 0, none⟩)] #[]
def doEnt (p : Nat) : List Ent := [(1, mth 46 p), (2, mth 47 p), (3, mth 48 p), (4, mth 49 p), (5, mth 50 p), (6, mth 51 p), (7, mth 52 p), (8, mth 53 p), (9, mth 54 p), (10, mth 55 p), (11, mth 56 p)]
theorem zeroF (w : World) : (zeroValue 76).run Tryz.prog w = .ok .nilFunc w := by kernel_rfl
set_option maxHeartbeats 2000000 in
theorem doings_any (p : Nat) (w : World) : Calls Tryz.prog 29 #[.pointer (some ⟨p, 0, none⟩)] w fun e w' => ∃ b, e = .returned (.map (some b)) ∧ Mg w' b (doEnt p) ∧ Only none_ w w' := by
  have ht := Tryz.underlying78
  have m0 := Mg.made w
  have o0 := (Only.refl none_ w).alloc (.map #[] 0)
  generalize hb : w.heap.size = b at *
  obtain ⟨w1, r1, m1, q1⟩ := m0.store ht (by simp) 1 (mth 46 p) (wf_i11 1 (by decide)) (by rfl)
  have o1 := o0.trans q1 (fun i hi e => by omega)
  clear m0 o0 q1
  obtain ⟨w2, r2, m2, q2⟩ := m1.store ht (by simp) 2 (mth 47 p) (wf_i11 2 (by decide)) (by rfl)
  have o2 := o1.trans q2 (fun i hi e => by omega)
  clear m1 o1 q2
  obtain ⟨w3, r3, m3, q3⟩ := m2.store ht (by simp) 3 (mth 48 p) (wf_i11 3 (by decide)) (by rfl)
  have o3 := o2.trans q3 (fun i hi e => by omega)
  clear m2 o2 q3
  obtain ⟨w4, r4, m4, q4⟩ := m3.store ht (by simp) 4 (mth 49 p) (wf_i11 4 (by decide)) (by rfl)
  have o4 := o3.trans q4 (fun i hi e => by omega)
  clear m3 o3 q4
  obtain ⟨w5, r5, m5, q5⟩ := m4.store ht (by simp) 5 (mth 50 p) (wf_i11 5 (by decide)) (by rfl)
  have o5 := o4.trans q5 (fun i hi e => by omega)
  clear m4 o4 q5
  obtain ⟨w6, r6, m6, q6⟩ := m5.store ht (by simp) 6 (mth 51 p) (wf_i11 6 (by decide)) (by rfl)
  have o6 := o5.trans q6 (fun i hi e => by omega)
  clear m5 o5 q6
  obtain ⟨w7, r7, m7, q7⟩ := m6.store ht (by simp) 7 (mth 52 p) (wf_i11 7 (by decide)) (by rfl)
  have o7 := o6.trans q7 (fun i hi e => by omega)
  clear m6 o6 q7
  obtain ⟨w8, r8, m8, q8⟩ := m7.store ht (by simp) 8 (mth 53 p) (wf_i11 8 (by decide)) (by rfl)
  have o8 := o7.trans q8 (fun i hi e => by omega)
  clear m7 o7 q8
  obtain ⟨w9, r9, m9, q9⟩ := m8.store ht (by simp) 9 (mth 54 p) (wf_i11 9 (by decide)) (by rfl)
  have o9 := o8.trans q9 (fun i hi e => by omega)
  clear m8 o8 q9
  obtain ⟨w10, r10, m10, q10⟩ := m9.store ht (by simp) 10 (mth 55 p) (wf_i11 10 (by decide)) (by rfl)
  have o10 := o9.trans q10 (fun i hi e => by omega)
  clear m9 o9 q10
  obtain ⟨w11, r11, m11, q11⟩ := m10.store ht (by simp) 11 (mth 56 p) (wf_i11 11 (by decide)) (by rfl)
  have o11 := o10.trans q11 (fun i hi e => by omega)
  clear m10 o10 q11
  have M := Lib.hid m11
  have O := Lib.hid o11
  clear m11 o11 ht
  have hmm := @run_makeMap Tryz.prog
  go_enter Tryz.func29, Tryz.ntmps29
  go_wp2_with fail
  go_ret
  exact ⟨b, by first | rfl | rw [hb], M.out, O.out⟩
end Go.Proofs.YtlfnncahhbbmpaaGreatDoor

namespace Go.Proofs.YtlfnncahhbbmpaaGreatDoor
open Go.RowKit Go.Maps
set_option linter.unusedVariables false
set_option maxRecDepth 100000
section
variable {p : Nat} {K : Nat → Nat} {X : Loc19} {ss : List Sd} {c : Sc} {L : Nat} {m : Mo}
def FrameAns (c : Sc) (ss : List Sd) (b : Ca) (x : Int) (e : Ending) : Prop :=
  (b.inL x = -1 ∧ e = .returned (.tuple #[.int .i64 0, .bool false])) ∨ ∃ i : Nat, c.inn i ∧ mpF ss i = x ∧ e = .returned (.tuple #[.int .i64 i, .bool true])
set_option maxHeartbeats 2000000 in
theorem frame_any (x : Int) (w : World) (h : MA w p K X ss c L m) :
    Calls Tryz.prog 74 #[.pointer (some ⟨p, 0, none⟩), .int .i64 x] w fun e w' => FrameAns c ss m.ca x e ∧ Only none_ w w' := by
  have c16 : w.cell? ⟨p, 16, none⟩ = some (.map (some X.bm)) := h.cell 16
  have IN := Lib.hid (fun s (hs : s ∈ ss) => h.bm.at_ hs)
  have IX := Lib.hid (h.bm.in_iff x)
  obtain ⟨hon, D0, hown, hr0⟩ := h.mg
  have ON := Lib.hid hon
  have OW := Lib.hid hown
  have HR := Lib.hid hr0
  clear h hon hown hr0
  go_enter Tryz.func74, Tryz.ntmps74
  go_wp2_with (first
    | (at_range; refine wpList_range_own _ rfl _ 68 rfl 3 3 lawI11 Tryz.underlying68 _ X.bm (entOf ss).length D0 rfl OW.out ?_; intro w0 hrg0 hg0 hs0)
    | go_in)
  have RG0 := Lib.hid hrg0
  have G0 := Lib.hid (show Only none_ w w0 from (Only.of_grown hg0).more (fun _ _ e => by cases e))
  clear hrg0 hg0 hs0
  go_frame
  go_loopw [6, 7] (fun _ _ wr => ∃ (left : Lit → Bool) (cnt : Nat) (xs : List Ent), wr.ranges Tryz.prog 3 anyE X.bm w.heap.size (entOf ss).length D0 left cnt ∧ GotV (entOf ss) left xs ∧ (∀ q ∈ xs, q.2 ≠ .int .i64 x) ∧ Only none_ w wr)
    (fun _ _ wr => wr.rangeLeft X.bm w.heap.size)
  case atStart => exact ⟨_, _, [], RG0.out, GotV.start HR.out, (fun q hq => by cases hq), G0.out⟩
  case round =>
    obtain ⟨left, cnt, xs, hrg, hg, hn, ow⟩ := hrel
    have RG := Lib.hid hrg
    have GO := Lib.hid hg
    have NB := Lib.hid hn
    have OO := Lib.hid ow
    clear ow hg hn
    go_wp2_with (first
      | (at_next; refine wpList_next_ranges _ rfl _ rfl 3 lawI11 anyE (Value.int .i64) (fun v : Value => v) (fun key kl hkey => by obtain ⟨x, rfl, _⟩ := Maps.keyOf_int_inv Tryz.underlying3 hkey; exact ⟨x, rfl⟩) (fun v y hv => ⟨v, rfl⟩) X.bm w.heap.size (entOf ss).length _ _ _ rfl RG.out ?_ ?_)
      | go_in)
    · intro _ hl0
      have NI := Lib.hid (show m.ca.inL x = -1 from Classical.byContradiction fun q => by
        obtain ⟨s, hs, e⟩ := IX.out.1 q
        have PP := (GO.out.over hl0 s.k).2 (List.mem_map.2 ⟨(s.k, Value.int .i64 s.b), List.mem_map.2 ⟨s, hs, rfl⟩, rfl⟩)
        obtain ⟨q, hq, e2⟩ := List.mem_map.1 PP
        have e4 := ON.out.inj (GO.out.1 q hq) (List.mem_map.2 ⟨s, hs, rfl⟩) e2
        refine NB.out q hq ?_
        rw [e4, ← e])
      go_wp2
      exact bodyPost_ret (v := .tuple #[.int .i64 0, .bool false]) (by simp [results, Tryz.results74, go_sem]) rfl ⟨.inl ⟨NI.out, rfl⟩, OO.out⟩
    · intro k v kl y zs w1 cnt1 hkey hlx hv hat hrg1 hlt hg1 hs1 hen
      obtain ⟨k', ek, rfl, hwx⟩ := Maps.keyOf_int_inv Tryz.underlying3 hkey
      cases ek
      have mem := entry_ofV HR.out (fun zd => by have e := hat zd; have := anyE_inv hv; injection this with e1 e2; rw [e, e1])
      obtain ⟨s, hs, et⟩ := List.mem_map.1 mem
      have e1 : s.k = k := congrArg Prod.fst et
      have e2 : Value.int .i64 s.b = v := congrArg Prod.snd et
      subst e1 e2
      have G1 := Lib.hid (Only.of_grown hg1)
      have O3 := Lib.hid (OO.out.trans G1.out (fun i hi z => by have := Option.some.inj z; omega))
      have GS := Lib.hid (GO.out.step (e := (s.k, Value.int .i64 s.b)) (List.mem_map.2 ⟨s, hs, rfl⟩) hlx)
      have RG1 := Lib.hid hrg1
      obtain ⟨i, ei, hi, hm⟩ := IN.out s hs
      have HI := Lib.hid hi
      have HM := Lib.hid hm
      rw [ei] at hen RG1 GS
      obtain ⟨sb, sk⟩ := s
      dsimp only at *
      subst ei
      by_cases hb : sb = x
      · have d1 : (sb == x) = true := by simp [hb]
        have FA := Lib.hid (show FrameAns c ss m.ca x (.returned (.tuple #[.int .i64 i, .bool true])) from .inr ⟨i, HI.out, HM.out.trans hb, rfl⟩)
        clear hb hkey hlx hv hat hrg1 hg1 hs1 mem hs hi hm hlt hrg
        go_wp2
        exact bodyPost_ret (v := .tuple #[.int .i64 i, .bool true]) (by simp [results, Tryz.results74, go_sem]) rfl ⟨FA.out, O3.out⟩
      · have d1 : (sb == x) = false := by simp [hb]
        have NX := Lib.hid (show ∀ q ∈ xs ++ [((i : Int), Value.int .i64 sb)], q.2 ≠ .int .i64 x from fun q hq => by
          rcases List.mem_append.1 hq with k | k
          · exact NB.out q k
          · rw [List.mem_singleton.1 k]
            intro z
            injection z with _ z
            exact hb z)
        clear hb hkey hlx hv hat hrg1 hg1 hs1 mem hs hi hm
        go_wp2
        go_roundw
        case rel => exact ⟨strikeV left i, cnt1, _, RG1.out, GS.out, NX.out, O3.out⟩
        case measure => rw [World.ranges.left_eq RG1.out, RG.out.left_eq]; exact hlt
theorem freeF_some {n j : Nat} (hj : j < n) (hn : hasK ss j = false) (hb : ∀ i, i < j → hasK ss (i : Nat) = true) : freeF ss n = some j := by
  unfold freeF
  rw [List.find?_range_eq_some]
  refine ⟨by rw [hn]; rfl, List.mem_range.2 hj, fun i hi => by rw [hb i hi]; rfl⟩
theorem freeF_none {n : Nat} (hb : ∀ i, i < n → hasK ss (i : Nat) = true) : freeF ss n = none := by
  unfold freeF
  rw [List.find?_eq_none]
  intro i hi
  rw [hb i (List.mem_range.1 hi)]
  decide
def freeV : Option Nat → Value
  | some i => .tuple #[.int .i64 (i : Nat), .bool true]
  | none => .tuple #[.int .i64 0, .bool false]
set_option maxHeartbeats 1000000 in
theorem free_any (w : World) (h : MA w p K X ss c L m) :
    Calls Tryz.prog 78 #[.pointer (some ⟨p, 0, none⟩)] w fun e w' => e = .returned (freeV (freeF ss c.s.n)) ∧ w = w' := by
  have nn : m.o.b1 = (c.s.n : Int) := by rw [← h.fine.n, h.bm.bl.n]
  have c1 : w.cell? ⟨p, 1, none⟩ = some (.int .i64 c.s.n) := by rw [← nn]; exact h.cell 1
  have c16 : w.cell? ⟨p, 16, none⟩ = some (.map (some X.bm)) := h.cell 16
  have n64 := h.bm.f.s.n64
  have LK := Lib.hid (fun (i : Nat) (hi : i ≤ 64) => h.mg.look_ok Tryz.underlying68 (zeroI11 w) (wf_i11 (i : Int) ⟨by omega, by omega⟩))
  have HE := Lib.hid (fun x => hasV_ent ss x)
  clear h nn
  go_enter Tryz.func78, Tryz.ntmps78
  go_wp2_with fail
  go_loop [4, 5, 6, 12] (fun _ _ _ v => ∃ j : Nat, j ≤ c.s.n ∧ v = .int .i64 j ∧ ∀ i, i < j → hasK ss (i : Nat) = true) (fun _ _ _ v => c.s.n - (intOf v).toNat)
  case atStart => exact ⟨0, Nat.zero_le _, rfl, fun i hi => absurd hi (Nat.not_lt_zero _)⟩
  case round =>
    obtain ⟨j, hj, rfl, hb⟩ := hrel
    have HB := Lib.hid hb
    clear hb
    by_cases lt : j < c.s.n
    · have L1 := LK.out j (by omega)
      rw [HE.out] at L1
      cases hk : hasK ss (j : Nat) with
      | true =>
        rw [hk] at L1
        have HK := Lib.hid hk
        clear hk
        go_wp2
        go_round
        case rel => exact ⟨j + 1, by omega, by go_num, fun i hi => by
          by_cases e : i = j
          · rw [e]; exact HK.out
          · exact HB.out i (by omega)⟩
        case measure => simp [intOf]; omega
      | false =>
        rw [hk] at L1
        have FS := Lib.hid (freeF_some lt hk HB.out)
        clear hk
        go_wp2
        exact bodyPost_ret (v := .tuple #[.int .i64 j, .bool true]) (by simp [results, Tryz.results78, go_sem]) rfl ⟨by rw [FS.out]; rfl, rfl⟩
    · obtain rfl : j = c.s.n := by omega
      have FN := Lib.hid (freeF_none HB.out)
      go_wp2
      exact bodyPost_ret (v := .tuple #[.int .i64 0, .bool false]) (by simp [results, Tryz.results78, go_sem]) rfl ⟨by rw [FN.out]; rfl, rfl⟩
end
end Go.Proofs.YtlfnncahhbbmpaaGreatDoor

namespace Go.Proofs.YtlfnncahhbbmpaaGreatDoor
open Go.RowKit Go.Maps
set_option linter.unusedVariables false
set_option maxRecDepth 100000
def evArr (e : Evn) : Array Value := #[.int .i64 e.k, .int .i64 e.b, .int .i64 e.l, .int .i64 e.n, .int .i64 e.s]
theorem still_of_quiet {P : Program} {ops : Array Oper} {w : World} {Q : Act → Prop} : ∀ (l : List Oper) (a : Act), wpQuiet P ops (fun w' => w' = w) Q l a → wpStill P ops w Q l a
  | [], a, h => h
  | o :: rest, a, h => by
    unfold wpQuiet at h
    unfold wpStill
    by_cases q : Region.wanted o (yielded ops a.tmps) = true
    · rw [if_pos q] at h
      rw [if_pos q]
      obtain ⟨v, h1, h2⟩ := h
      have h3 := h1 w rfl
      unfold Oper.quietAt at h3
      unfold Oper.still
      generalize (execOp a.eval o).run P w = r at h3
      cases r with
      | ok nx w' =>
        cases nx with
        | value u =>
          obtain ⟨e, rfl⟩ := h3
          exact ⟨e, still_of_quiet rest _ h2⟩
        | skip =>
          obtain ⟨e, rfl⟩ := h3
          exact ⟨e, still_of_quiet rest _ h2⟩
        | enter f args =>
          obtain ⟨e, k⟩ := h3
          exact ⟨e, v, k.mono fun e w'' ⟨a, b⟩ => ⟨a, b⟩, still_of_quiet rest _ h2⟩
        | _ => exact h3.elim
      | _ => exact h3.elim
    · rw [if_neg q] at h
      rw [if_neg q]
      exact still_of_quiet rest _ h
/-- a region that asks the tape: its first operations only read, the others come one behind the other -/
theorem wp_tail {P : Program} {id : Nat} {Q : Exit → Act → World → Prop} {a : Act} {w : World} {l : List Oper} (n : Nat) (hm : P.follows .mixedOrders = true) (hB : Region.lexTailB .any l.toArray n = true)
    (h : wpQuiet P l.toArray (fun w' => w' = w.drew) (fun a' => wpList P l.toArray Q (l.drop n) a' w.drew) (l.take n) a) : (Code.region id l.toArray true).wp P Q a w := wp_region_still_tail n hm hB (still_of_quiet _ _ h)
section
variable {p : Nat} {K : Nat → Nat} {X : Loc19} {ss : List Sd} {c : Sc} {L : Nat} {m : Mo}
theorem policy_at {w : World} (h : MA w p K X ss c L m) : w.cell? ⟨p, 14, none⟩ = some (.pointer (some ⟨X.P, 0, none⟩)) := h.cell 14
set_option maxHeartbeats 1000000 in
theorem miss19_any (e : Evn) (w : World) (h : MA w p K X ss c L m) :
    Calls Tryz.prog 48 #[.pointer (some ⟨p, 0, none⟩), e.val] w (Post19 w p K (L + 1) (hasL e.l) ⟨m.o, m.ca.missed e.l, m.t, m.f⟩) := by
  have oa := ((Only.refl none_ w).alloc (.cells (evArr e) 35)).drew
  have ra := (Row.fresh w 35 (evArr e)).drew
  have c14 := policy_at (h.still oa)
  have x2 : ((w.alloc (.cells (evArr e) 35)).drew).cell? ⟨w.heap.size, 2, none⟩ = some (.int .i64 e.l) := ra.cell 2
  have HA := Lib.hid (h.still oa)
  have H := Lib.hid h
  have MS := Lib.hid (miss_any X.P X.pp X.b c e.l _ (h.still oa).pol)
  have OA := Lib.hid oa
  unfold Evn.val
  unfold evArr at *
  generalize w.heap.size = xa at *
  clear h oa ra
  cases hl : hasL e.l with
  | true =>
    have m0 : missC e.l = 0 := by unfold missC; rw [hl]; rfl
    rw [m0] at MS
    have BM := Lib.hid (HA.out.bm.missed e.l)
    have FM := Lib.hid (HA.out.fine.missed e.l)
    clear hl m0
    go_enter Tryz.func48, Tryz.ntmps48
    go_upto_region 1 with fail
    refine wp_tail 6 (by kernel_rfl) (by kernel_rfl) ?_
    simp only [List.take_succ_cons, List.take_zero, List.drop_succ_cons, List.drop_zero]
    repeat (go_big_quiet_step (fail))
    refine wpQuiet_nil ?_
    go_wp2_with fail
    (with_reducible refine MS.out.mono ?_)
    rintro e2 w2 ⟨rfl, s2, o2⟩
    have S2 := Lib.hid s2
    have O2 := Lib.hid o2
    clear s2 o2
    go_wp2_with fail
    (with_reducible refine (canbe_yes _).mono ?_)
    rintro e3 w3 ⟨rfl, rfl⟩
    go_wp2_with fail
    go_end0
    exact Post19.yes rfl ((HA.out.poled S2.out O2.out BM.out FM.out).back OA.out)
  | false =>
    have m0 : missC e.l = 1 := by unfold missC; rw [hl]; rfl
    rw [m0] at MS
    clear hl m0
    go_enter Tryz.func48, Tryz.ntmps48
    go_upto_region 1 with fail
    refine wp_tail 6 (by kernel_rfl) (by kernel_rfl) ?_
    simp only [List.take_succ_cons, List.take_zero, List.drop_succ_cons, List.drop_zero]
    repeat (go_big_quiet_step (fail))
    refine wpQuiet_nil ?_
    go_wp2_with fail
    (with_reducible refine MS.out.mono ?_)
    rintro e2 w2 ⟨rfl, s2, o2⟩
    have S2 := Lib.hid s2
    have O2 := Lib.hid o2
    clear s2 o2
    go_wp2_with fail
    (with_reducible refine (canbe_no _).mono ?_)
    rintro e3 w3 ⟨rfl, rfl⟩
    go_wp2_with fail
    exact ⟨rfl, Post19.no rfl ((BW.half HA.out S2.out O2.out).back OA.out)⟩
end
end Go.Proofs.YtlfnncahhbbmpaaGreatDoor

namespace Go.Proofs.YtlfnncahhbbmpaaGreatDoor
open Go.RowKit Go.Maps
set_option linter.unusedVariables false
set_option maxRecDepth 100000
section
variable {p : Nat} {K : Nat → Nat} {X : Loc19} {ss : List Sd} {c : Sc} {L : Nat} {m : Mo}
set_option maxHeartbeats 1000000 in
theorem ready19_any (e : Evn) (w : World) (h : MA w p K X ss c L m) :
    Calls Tryz.prog 50 #[.pointer (some ⟨p, 0, none⟩), e.val] w (Post19 w p K (L + 1) (m.ca.readyB e.b) ⟨m.o, m.ca.ready e.b, m.t, m.f⟩) := by
  have oa := (Only.refl none_ w).alloc (.cells (evArr e) 35)
  have ra := Row.fresh w 35 (evArr e)
  have x1 : (w.alloc (.cells (evArr e) 35)).cell? ⟨w.heap.size, 1, none⟩ = some (.int .i64 e.b) := ra.cell 1
  have HA := Lib.hid (h.still oa)
  have FR := Lib.hid (frame_any e.b _ (h.still oa))
  have OA := Lib.hid oa
  unfold Evn.val
  unfold evArr at *
  clear h oa ra
  go_enter Tryz.func50, Tryz.ntmps50
  go_upto_region 1 with fail
  generalize w.alloc (.cells #[.int .i64 e.k, .int .i64 e.b, .int .i64 e.l, .int .i64 e.n, .int .i64 e.s] 35) = wa at *
  generalize w.heap.size = xa at *
  go_wp2_with fail
  (with_reducible refine FR.out.mono ?_)
  rintro e1 w1 ⟨ans, o1⟩
  have H1 := Lib.hid (HA.out.still o1)
  have O1 := Lib.hid (OA.out.same o1)
  have c14 := policy_at H1.out
  clear o1 x1
  rcases ans with ⟨ni, rfl⟩ | ⟨i, hi, hm, rfl⟩
  · have RB := Lib.hid (show m.ca.readyB e.b = false from H1.out.bm.readyB_out ni)
    clear ni
    go_wp2_with fail
    (with_reducible refine (canbe_no _).mono ?_)
    rintro e3 w3 ⟨rfl, rfl⟩
    go_wp2_with fail
    exact ⟨rfl, Post19.no (by first | exact RB.out | rfl) (H1.out.broke (Only.refl _ _) |>.back O1.out)⟩
  · have RY := Lib.hid (ready_any X.P X.pp X.b c i w1 H1.out.pol)
    have RB := H1.out.bm.readyB_in hi
    rw [hm] at RB
    cases q : c.s.h i with
    | true =>
      obtain ⟨r0, bm⟩ := H1.out.bm.ready hi q
      rw [hm] at bm
      rw [q] at RB
      have FM := Lib.hid (H1.out.fine.ready RB)
      have BM := Lib.hid bm
      have RB := Lib.hid RB
      rw [r0] at RY
      clear r0 bm q hi hm
      go_wp2_with fail
      (with_reducible refine RY.out.mono ?_)
      rintro e2 w2 ⟨rfl, s2, o2⟩
      have S2 := Lib.hid s2
      have O2 := Lib.hid o2
      clear s2 o2
      go_wp2_with fail
      (with_reducible refine (canbe_yes _).mono ?_)
      rintro e3 w3 ⟨rfl, rfl⟩
      go_wp2_with fail
      go_end0
      exact Post19.yes (by first | exact RB.out | rfl) ((H1.out.poled S2.out O2.out BM.out FM.out).back O1.out)
    | false =>
      have r0 := H1.out.bm.ready_no hi q
      rw [q] at RB
      have RB := Lib.hid RB
      rw [r0] at RY
      clear r0 q hi hm
      go_wp2_with fail
      (with_reducible refine RY.out.mono ?_)
      rintro e2 w2 ⟨rfl, s2, o2⟩
      have S2 := Lib.hid s2
      have O2 := Lib.hid o2
      clear s2 o2
      go_wp2_with fail
      (with_reducible refine (canbe_no _).mono ?_)
      rintro e3 w3 ⟨rfl, rfl⟩
      go_wp2_with fail
      exact ⟨rfl, Post19.no (by first | exact RB.out | rfl) ((BW.half H1.out S2.out O2.out).back O1.out)⟩
end
end Go.Proofs.YtlfnncahhbbmpaaGreatDoor

namespace Go.Proofs.YtlfnncahhbbmpaaGreatDoor
open Go.RowKit Go.Maps
set_option linter.unusedVariables false
set_option maxRecDepth 100000
section
variable {p : Nat} {K : Nat → Nat} {X : Loc19} {ss : List Sd} {c : Sc} {L : Nat} {m : Mo}
theorem hitB_out {b : Ca} {x k : Int} (q : b.inL x = -1) : b.hitB x k = false := by
  unfold Ca.hitB
  rw [q]
  simp
theorem hitB_in {b : Ca} {x k : Int} (q : b.inL x ≠ -1) : b.hitB x k = hasL k := by
  unfold Ca.hitB
  simp [q]
set_option maxHeartbeats 1000000 in
theorem hit19_any (e : Evn) (w : World) (h : MA w p K X ss c L m) (hL : L ≤ 1000) :
    Calls Tryz.prog 47 #[.pointer (some ⟨p, 0, none⟩), e.val] w (Post19 w p K (L + 1) (m.ca.hitB e.b e.l) ⟨m.o, m.ca.hit e.b e.l, m.t, m.f⟩) := by
  have oa := (Only.refl none_ w).alloc (.cells (evArr e) 35)
  have ra := Row.fresh w 35 (evArr e)
  have x1 : (w.alloc (.cells (evArr e) 35)).cell? ⟨w.heap.size, 1, none⟩ = some (.int .i64 e.b) := ra.cell 1
  have x2 : (w.alloc (.cells (evArr e) 35)).cell? ⟨w.heap.size, 2, none⟩ = some (.int .i64 e.l) := ra.cell 2
  have HA := Lib.hid (h.still oa)
  have FR := Lib.hid (frame_any e.b _ (h.still oa))
  have OA := Lib.hid oa
  unfold Evn.val
  unfold evArr at *
  clear h oa ra
  go_enter Tryz.func47, Tryz.ntmps47
  go_upto_region 1 with fail
  generalize w.alloc (.cells #[.int .i64 e.k, .int .i64 e.b, .int .i64 e.l, .int .i64 e.n, .int .i64 e.s] 35) = wa at *
  generalize w.heap.size = xa at *
  go_wp2_with fail
  (with_reducible refine FR.out.mono ?_)
  rintro e1 w1 ⟨ans, o1⟩
  have y2 : w1.drew.cell? ⟨xa, 2, none⟩ = some (.int .i64 e.l) := o1.cell x2 (fun s => s)
  have H1 := Lib.hid ((HA.out.still o1).still (Only.refl none_ w1).drew)
  have O1 := Lib.hid ((OA.out.same o1).same (Only.refl none_ w1).drew)
  have c14 := policy_at H1.out
  clear o1 x1 x2
  rcases ans with ⟨ni, rfl⟩ | ⟨i, hi, hm, rfl⟩
  · have RB := Lib.hid (show m.ca.hitB e.b e.l = false from hitB_out ni)
    clear ni
    go_upto_region 2 with fail
    refine wp_tail 9 (by kernel_rfl) (by kernel_rfl) ?_
    simp only [List.take_succ_cons, List.take_zero, List.drop_succ_cons, List.drop_zero]
    repeat (go_big_quiet_step (fail))
    refine wpQuiet_nil ?_
    go_wp2_with fail
    (with_reducible refine (canbe_no _).mono ?_)
    rintro e3 w3 ⟨rfl, rfl⟩
    go_wp2_with fail
    exact ⟨rfl, Post19.no (by first | exact RB.out | rfl) (H1.out.broke (Only.refl _ _) |>.back O1.out)⟩
  · have us : c.us.length ≤ L := by rw [← H1.out.bm.bl.len]; exact H1.out.fine.us
    have RY := Lib.hid (hit_any X.P X.pp X.b c i e.l w1.drew H1.out.pol (by omega))
    have ii := (H1.out.bm.bl.inL_iff e.b).2 ⟨i, hi, hm⟩
    have RB := hitB_in (k := e.l) ii
    clear ii us
    cases q : hasL e.l with
    | true =>
      obtain ⟨r0, bm⟩ := H1.out.bm.hit hi q
      rw [hm] at bm
      rw [q] at RB
      have FM := Lib.hid (H1.out.fine.hit RB)
      have BM := Lib.hid bm
      have RB := Lib.hid RB
      rw [r0] at RY
      clear r0 bm q hi hm
      go_upto_region 2 with fail
      refine wp_tail 9 (by kernel_rfl) (by kernel_rfl) ?_
      simp only [List.take_succ_cons, List.take_zero, List.drop_succ_cons, List.drop_zero]
      repeat (go_big_quiet_step (fail))
      refine wpQuiet_nil ?_
      go_wp2_with fail
      (with_reducible refine RY.out.mono ?_)
      rintro e2 w2 ⟨rfl, s2, o2⟩
      have S2 := Lib.hid s2
      have O2 := Lib.hid o2
      clear s2 o2
      go_wp2_with fail
      (with_reducible refine (canbe_yes _).mono ?_)
      rintro e3 w3 ⟨rfl, rfl⟩
      go_wp2_with fail
      go_end0
      exact Post19.yes (by first | exact RB.out | rfl) ((H1.out.poled S2.out O2.out BM.out FM.out).back O1.out)
    | false =>
      have r0 := H1.out.bm.hit_no (i := i) q
      rw [q] at RB
      have RB := Lib.hid RB
      rw [r0] at RY
      clear r0 q hi hm
      go_upto_region 2 with fail
      refine wp_tail 9 (by kernel_rfl) (by kernel_rfl) ?_
      simp only [List.take_succ_cons, List.take_zero, List.drop_succ_cons, List.drop_zero]
      repeat (go_big_quiet_step (fail))
      refine wpQuiet_nil ?_
      go_wp2_with fail
      (with_reducible refine RY.out.mono ?_)
      rintro e2 w2 ⟨rfl, s2, o2⟩
      have S2 := Lib.hid s2
      have O2 := Lib.hid o2
      clear s2 o2
      go_wp2_with fail
      (with_reducible refine (canbe_no _).mono ?_)
      rintro e3 w3 ⟨rfl, rfl⟩
      go_wp2_with fail
      exact ⟨rfl, Post19.no (by first | exact RB.out | rfl) ((BW.half H1.out S2.out O2.out).back O1.out)⟩
end
end Go.Proofs.YtlfnncahhbbmpaaGreatDoor

namespace Go.Proofs.YtlfnncahhbbmpaaGreatDoor
open Go.RowKit Go.Maps
set_option linter.unusedVariables false
set_option maxRecDepth 100000
section
variable {p : Nat} {K : Nat → Nat} {X : Loc19} {ss : List Sd} {c : Sc} {L : Nat} {m : Mo}
theorem MA.two0 {w : World} (h : MA w p K X ss c L m) {g : Nat} (hg : w.heap.size ≤ g) : ¬ two X.P X.b g := fun q => by
  have z := h.new0 hg
  rcases q with rfl | rfl
  · rw [h.kP] at z; cases z
  · rw [h.kb] at z; cases z
set_option maxHeartbeats 1000000 in
theorem gone19_any (e : Evn) (w : World) (h : MA w p K X ss c L m) :
    Calls Tryz.prog 52 #[.pointer (some ⟨p, 0, none⟩), e.val] w (Post19 w p K (L + 1) (m.ca.goneB e.b) ⟨m.o, m.ca.gone e.b, m.t, m.f⟩) := by
  have oa := (Only.refl none_ w).alloc (.cells (evArr e) 35)
  have ra := Row.fresh w 35 (evArr e)
  have x1 : (w.alloc (.cells (evArr e) 35)).cell? ⟨w.heap.size, 1, none⟩ = some (.int .i64 e.b) := ra.cell 1
  have HA := Lib.hid (h.still oa)
  have FR := Lib.hid (frame_any e.b _ (h.still oa))
  have OA := Lib.hid oa
  unfold Evn.val
  unfold evArr at *
  clear h oa ra
  go_enter Tryz.func52, Tryz.ntmps52
  go_upto_region 1 with fail
  generalize w.alloc (.cells #[.int .i64 e.k, .int .i64 e.b, .int .i64 e.l, .int .i64 e.n, .int .i64 e.s] 35) = wa at *
  generalize w.heap.size = xa at *
  go_wp2_with fail
  (with_reducible refine FR.out.mono ?_)
  rintro e1 w1 ⟨ans, o1⟩
  have H1 := Lib.hid (HA.out.still o1)
  have O1 := Lib.hid (OA.out.same o1)
  have c14 := policy_at H1.out
  clear o1 x1
  rcases ans with ⟨ni, rfl⟩ | ⟨i, hi, hm, rfl⟩
  · have RB := Lib.hid (show m.ca.goneB e.b = false from by unfold Ca.goneB; rw [ni]; rfl)
    clear ni
    go_wp2_with fail
    (with_reducible refine (canbe_no _).mono ?_)
    rintro e3 w3 ⟨rfl, rfl⟩
    go_wp2_with fail
    exact ⟨rfl, Post19.no (by first | exact RB.out | rfl) (H1.out.broke (Only.refl _ _) |>.back O1.out)⟩
  · have RY := Lib.hid (gone_any X.P X.pp X.b c i w1 H1.out.pol)
    have ii := (H1.out.bm.bl.inL_iff e.b).2 ⟨i, hi, hm⟩
    have RB := Lib.hid (show m.ca.goneB e.b = true from decide_eq_true ii)
    have FM := Lib.hid (H1.out.fine.gone ii)
    have bm := H1.out.bm.gone hi
    rw [hm] at bm
    have BM := Lib.hid bm
    have r0 := H1.out.bm.lies hi
    rw [r0] at RY
    have n64 := H1.out.bm.f.s.n64
    have il := H1.out.bm.inn_lt hi
    have WI := Lib.hid (wf_i11 (i : Int) ⟨by omega, by omega⟩)
    clear r0 bm hi hm ii n64 il
    go_wp2_with fail
    (with_reducible refine RY.out.mono ?_)
    rintro e2 w2 ⟨rfl, s2, o2⟩
    have S2 := Lib.hid s2
    have O2 := Lib.hid o2
    obtain ⟨r2, g2, _⟩ := H1.out.half s2 o2
    have d16 : w2.cell? ⟨p, 16, none⟩ = some (.map (some X.bm)) := r2.cell 16
    obtain ⟨w5, run5, m5, o5⟩ := g2.drop Tryz.underlying68 (i : Int) WI.out 0
    rw [ent_cut19] at m5
    have M5 := Lib.hid m5
    have O5 := Lib.hid o5
    clear s2 o2 r2 g2 m5 o5
    go_wp2_with fail
    (with_reducible refine (canbe_yes _).mono ?_)
    rintro e3 w3 ⟨rfl, rfl⟩
    go_wp2_with fail
    go_end0
    exact Post19.yes (by first | exact RB.out | rfl) ((H1.out.both S2.out O2.out M5.out O5.out BM.out FM.out).back O1.out)
set_option maxHeartbeats 1000000 in
theorem victim19_any (e : Evn) (w : World) (h : MA w p K X ss c L m) (hL : L ≤ 1000) :
    Calls Tryz.prog 51 #[.pointer (some ⟨p, 0, none⟩), e.val] w (Post19 w p K (L + 1) (decide (m.ca.victim = some e.b)) ⟨m.o, m.ca.gone e.b, m.t, m.f⟩) := by
  have oa := (Only.refl none_ w).alloc (.cells (evArr e) 35)
  have ra := Row.fresh w 35 (evArr e)
  have x1 : (w.alloc (.cells (evArr e) 35)).cell? ⟨w.heap.size, 1, none⟩ = some (.int .i64 e.b) := ra.cell 1
  have HA := Lib.hid (h.still oa)
  have T0 := Lib.hid (h.two0 (Nat.le_refl _))
  have us : c.us.length ≤ L := by rw [← h.bm.bl.len]; exact h.fine.us
  have RY := Lib.hid (victim_any X.P X.pp X.b c _ (h.still oa).pol (by omega))
  have OA := Lib.hid oa
  have c14 := policy_at HA.out
  unfold Evn.val
  unfold evArr at *
  clear h oa ra us
  go_enter Tryz.func51, Tryz.ntmps51
  go_upto_region 1 with fail
  generalize w.alloc (.cells #[.int .i64 e.k, .int .i64 e.b, .int .i64 e.l, .int .i64 e.n, .int .i64 e.s] 35) = wa at *
  generalize w.heap.size = xa at *
  go_wp2_with fail
  (with_reducible refine RY.out.mono ?_)
  rintro e2 w2 ⟨rfl, s2, o2⟩
  have S2 := Lib.hid s2
  have O2 := Lib.hid o2
  obtain ⟨r2, g2, _⟩ := HA.out.half s2 o2
  have d16 : w2.cell? ⟨p, 16, none⟩ = some (.map (some X.bm)) := r2.cell 16
  have d16' : w2.drew.cell? ⟨p, 16, none⟩ = some (.map (some X.bm)) := r2.cell 16
  have y1 : w2.drew.cell? ⟨xa, 1, none⟩ = some (.int .i64 e.b) := o2.cell x1 T0.out
  have G2 := Lib.hid g2
  have VC := Lib.hid HA.out.bm.victim
  clear s2 o2 r2 g2 x1 c14
  cases hv : c.victim with
  | none =>
    rw [hv] at VC
    have RB := Lib.hid (show decide (m.ca.victim = some e.b) = false from by rw [VC.out]; rfl)
    clear hv
    unfold lastV
    go_upto_region 2 with fail
    refine wp_tail 12 (by kernel_rfl) (by kernel_rfl) ?_
    simp only [List.take_succ_cons, List.take_zero, List.drop_succ_cons, List.drop_zero]
    repeat (go_big_quiet_step (fail))
    refine wpQuiet_nil ?_
    go_wp2_with fail
    (with_reducible refine (canbe_no _).mono ?_)
    rintro e3 w3 ⟨rfl, rfl⟩
    go_wp2_with fail
    exact ⟨rfl, Post19.no (by first | exact RB.out | rfl) (((BW.half HA.out S2.out O2.out).still (Only.refl none_ w2).drew).back OA.out)⟩
  | some i =>
    have hi := victim_inn HA.out.bm.f hv
    have n64 := HA.out.bm.f.s.n64
    have il := HA.out.bm.inn_lt hi
    have WI := Lib.hid (wf_i11 (i : Int) ⟨by omega, by omega⟩)
    have LK := (G2.out.still (Only.refl none_ w2).drew).look Tryz.underlying68 (zeroI11 w2.drew) WI.out
    rw [atV_ent HA.out.bm.once] at LK
    rw [hv] at VC
    unfold lastV
    by_cases hb : mpF ss i = e.b
    · have RB := Lib.hid (show decide (m.ca.victim = some e.b) = true from decide_eq_true (by rw [VC.out, ← hb]; rfl))
      have bm := HA.out.bm.victimS hv
      rw [hb] at bm
      have BM := Lib.hid bm
      have FM := Lib.hid (HA.out.fine.gone (victim_in19 HA.out.fine.ca (of_decide_eq_true RB.out)).1)
      have hb' : blockI ss (i : Int) = e.b := hb
      rw [hb'] at LK
      have ev : (e.b == e.b) = true := by simp
      obtain ⟨w5, run5, m5, o5⟩ := (G2.out.still (Only.refl none_ w2).drew).drop Tryz.underlying68 (i : Int) WI.out 0
      rw [ent_cut19] at m5
      have M5 := Lib.hid m5
      have O5 := Lib.hid ((Only.refl (fun g => g = X.bm) w2).drew.same o5)
      clear hb hb' bm m5 o5 hi n64 il hv
      go_upto_region 2 with fail
      refine wp_tail 12 (by kernel_rfl) (by kernel_rfl) ?_
      simp only [List.take_succ_cons, List.take_zero, List.drop_succ_cons, List.drop_zero]
      repeat (go_big_quiet_step (fail))
      refine wpQuiet_nil ?_
      go_wp2_with fail
      (with_reducible refine (canbe_yes _).mono ?_)
      rintro e3 w3 ⟨rfl, rfl⟩
      go_wp2_with fail
      go_end0
      exact Post19.yes (by first | exact RB.out | rfl) ((HA.out.both S2.out O2.out M5.out O5.out BM.out FM.out).back OA.out)
    · have RB := Lib.hid (show decide (m.ca.victim = some e.b) = false from decide_eq_false (by rw [VC.out]; exact fun q => hb (Option.some.inj q)))
      have ev : (blockI ss (i : Int) == e.b) = false := by
        have hb' : ¬ blockI ss (i : Int) = e.b := hb
        simp [hb']
      clear hb hi n64 il hv
      go_upto_region 2 with fail
      refine wp_tail 12 (by kernel_rfl) (by kernel_rfl) ?_
      simp only [List.take_succ_cons, List.take_zero, List.drop_succ_cons, List.drop_zero]
      repeat (go_big_quiet_step (fail))
      refine wpQuiet_nil ?_
      go_wp2_with fail
      (with_reducible refine (canbe_no _).mono ?_)
      rintro e3 w3 ⟨rfl, rfl⟩
      go_wp2_with fail
      exact ⟨rfl, Post19.no (by first | exact RB.out | rfl) (((BW.half HA.out S2.out O2.out).still (Only.refl none_ w2).drew).back OA.out)⟩
end
end Go.Proofs.YtlfnncahhbbmpaaGreatDoor

namespace Go.Proofs.YtlfnncahhbbmpaaGreatDoor
open Go.RowKit Go.Maps
set_option linter.unusedVariables false
set_option maxRecDepth 100000
section
variable {p : Nat} {K : Nat → Nat} {X : Loc19} {ss : List Sd} {c : Sc} {L : Nat} {m : Mo}
theorem there_range {m : Mo} {L : Nat} (f : m.Fine L) {x : Int} (h : m.there x = true) : 0 ≤ x ∧ x < 256 := by
  have n := Opt.nums f.may
  unfold Mo.there at h
  rw [Bool.and_eq_true, decide_eq_true_eq, decide_eq_true_eq] at h
  omega
theorem enterB_full {b : Ca} {x k : Int} (q : decide (b.l0.length + b.l1.length < b.n) = false) : b.enterB x k = false := by
  unfold Ca.enterB
  rw [q, Bool.and_false]
theorem enterB_in {b : Ca} {x k : Int} (q : b.inL x ≠ -1) : b.enterB x k = false := by
  unfold Ca.enterB
  simp [q]
theorem enterB_free {b : Ca} {x k : Int} (q : b.inL x = -1) (f : decide (b.l0.length + b.l1.length < b.n) = true) : b.enterB x k = hasL k := by
  unfold Ca.enterB
  rw [f, q]
  simp
set_option maxHeartbeats 2000000 in
theorem enter19_any (e : Evn) (w : World) (h : MA w p K X ss c L m) (hL : L ≤ 1000) :
    Calls Tryz.prog 49 #[.pointer (some ⟨p, 0, none⟩), e.val] w (Post19 w p K (L + 1) (m.there e.b && m.ca.enterB e.b e.l) ⟨m.o, m.ca.enter e.b e.l, m.t, m.f⟩) := by
  have oa := (Only.refl none_ w).alloc (.cells (evArr e) 35)
  have ra := Row.fresh w 35 (evArr e)
  have x1 : (w.alloc (.cells (evArr e) 35)).cell? ⟨w.heap.size, 1, none⟩ = some (.int .i64 e.b) := ra.cell 1
  have x2 : (w.alloc (.cells (evArr e) 35)).cell? ⟨w.heap.size, 2, none⟩ = some (.int .i64 e.l) := ra.cell 2
  have HA := Lib.hid (h.still oa)
  have T0 := Lib.hid (h.two0 (Nat.le_refl _))
  have HS := Lib.hid (has19_any e.b _ (h.still oa))
  have FR := Lib.hid (frame_any e.b _ (h.still oa))
  have OA := Lib.hid oa
  unfold Evn.val
  unfold evArr at *
  clear h oa ra
  go_enter Tryz.func49, Tryz.ntmps49
  go_upto_region 1 with fail
  generalize w.alloc (.cells #[.int .i64 e.k, .int .i64 e.b, .int .i64 e.l, .int .i64 e.n, .int .i64 e.s] 35) = wa at *
  generalize w.heap.size = xa at *
  cases ht : m.there e.b with
  | false =>
    rw [ht] at HS
    have RB := Lib.hid (show (m.there e.b && m.ca.enterB e.b e.l) = false from by rw [ht]; rfl)
    clear ht
    go_wp2_with fail
    (with_reducible refine HS.out.mono ?_)
    rintro e0 w0 ⟨rfl, rfl⟩
    go_wp2_with fail
    (with_reducible refine (canbe_no _).mono ?_)
    rintro e3 w3 ⟨rfl, rfl⟩
    go_wp2_with fail
    exact ⟨rfl, Post19.no (by first | exact RB.out | rfl) (HA.out.broke (Only.refl _ _) |>.back OA.out)⟩
  | true =>
    rw [ht] at HS
    have TH := Lib.hid ht
    clear ht
    go_wp2_with fail
    (with_reducible refine HS.out.mono ?_)
    rintro e0 w0 ⟨rfl, rfl⟩
    go_wp2_with fail
    (with_reducible refine (canbe_yes _).mono ?_)
    rintro e3 w3 ⟨rfl, rfl⟩
    go_wp2_with fail
    (with_reducible refine FR.out.mono ?_)
    rintro e1 w1 ⟨ans, o1⟩
    have H1 := Lib.hid (HA.out.still o1)
    have O1 := Lib.hid (OA.out.same o1)
    have z1 : w1.drew.cell? ⟨xa, 1, none⟩ = some (.int .i64 e.b) := o1.cell x1 (fun s => s)
    have z2 : w1.drew.cell? ⟨xa, 2, none⟩ = some (.int .i64 e.l) := o1.cell x2 (fun s => s)
    have FE := Lib.hid (free_any w1 H1.out)
    have H2 := Lib.hid (H1.out.still (Only.refl none_ w1).drew)
    have O2 := Lib.hid (O1.out.same (Only.refl none_ w1).drew)
    have c14 := policy_at H2.out
    have FF := Lib.hid H1.out.bm.free
    clear o1 x1 x2
    rcases ans with ⟨ni, rfl⟩ | ⟨i, hi, hm, rfl⟩
    · cases hf : freeF ss c.s.n with
      | none =>
        rw [hf] at FF FE
        have RB := Lib.hid (show (m.there e.b && m.ca.enterB e.b e.l) = false from by rw [enterB_full FF.out.symm, Bool.and_false])
        clear ni hf
        go_wp2_with fail
        (with_reducible refine FE.out.mono ?_)
        rintro e4 w4 ⟨rfl, rfl⟩
        unfold freeV
        go_upto_region 4 with fail
        refine wp_tail 16 (by kernel_rfl) (by kernel_rfl) ?_
        simp only [List.take_succ_cons, List.take_zero, List.drop_succ_cons, List.drop_zero]
        repeat (go_big_quiet_step (fail))
        refine wpQuiet_nil ?_
        go_wp2_with fail
        (with_reducible refine (canbe_no _).mono ?_)
        rintro e3 w3 ⟨rfl, rfl⟩
        go_wp2_with fail
        exact ⟨rfl, Post19.no (by first | exact RB.out | rfl) (H2.out.broke (Only.refl _ _) |>.back O2.out)⟩
      | some i =>
        rw [hf] at FF FE
        obtain ⟨f1, f2, _⟩ := free_of hf
        have RB0 := enterB_free (k := e.l) ni FF.out.symm
        have us : c.us.length ≤ L := by rw [← H2.out.bm.bl.len]; exact H2.out.fine.us
        have RY := Lib.hid (enter_any X.P X.pp X.b c i e.l w1.drew H2.out.pol (by omega))
        have n64 := H2.out.bm.f.s.n64
        have WI := Lib.hid (wf_i11 (i : Int) ⟨by omega, by omega⟩)
        have rg := there_range H2.out.fine TH.out
        have WX := Lib.hid (wf_i11 e.b ⟨by omega, by omega⟩)
        have HN := Lib.hid (show hasV (entOf ss) (i : Int) = false from by rw [hasV_ent]; exact f2)
        have LS := Lib.hid H2.out.bm.len_ss
        cases q : hasL e.l with
        | true =>
          obtain ⟨r0, bm⟩ := H2.out.bm.enter f1 f2 ni q
          rw [q] at RB0
          have FM := Lib.hid (H2.out.fine.enter TH.out RB0)
          have BM := Lib.hid bm
          have RB := Lib.hid (show (m.there e.b && m.ca.enterB e.b e.l) = true from by rw [TH.out, RB0]; rfl)
          rw [r0] at RY
          clear r0 bm q ni hf us n64 rg f1 f2 RB0
          go_wp2_with fail
          (with_reducible refine FE.out.mono ?_)
          rintro e4 w4 ⟨rfl, rfl⟩
          unfold freeV
          go_upto_region 4 with fail
          refine wp_tail 13 (by kernel_rfl) (by kernel_rfl) ?_
          simp only [List.take_succ_cons, List.take_zero, List.drop_succ_cons, List.drop_zero]
          repeat (go_big_quiet_step (fail))
          refine wpQuiet_nil ?_
          go_wp2_with fail
          (with_reducible refine RY.out.mono ?_)
          rintro e2 w2 ⟨rfl, s2, o2⟩
          have S2 := Lib.hid s2
          have O3 := Lib.hid o2
          obtain ⟨r2, g2, _⟩ := H2.out.half s2 o2
          have d16 : w2.drew.cell? ⟨p, 16, none⟩ = some (.map (some X.bm)) := r2.cell 16
          have y1 : w2.drew.cell? ⟨xa, 1, none⟩ = some (.int .i64 e.b) := o2.cell z1 T0.out
          obtain ⟨w5, run5, m5, o5⟩ := (g2.still (Only.refl none_ w2).drew).store Tryz.underlying68 (by unfold entOf; rw [List.length_map]; have := LS.out; omega) (i : Int) (.int .i64 e.b) WI.out HN.out
          rw [← ent_more] at m5
          have M5 := Lib.hid m5
          have O5 := Lib.hid ((Only.refl (fun g => g = X.bm) w2).drew.same o5)
          clear s2 o2 r2 g2 m5 o5
          go_wp2_with fail
          (with_reducible refine (canbe_yes _).mono ?_)
          rintro e3 w3 ⟨rfl, rfl⟩
          go_wp2_with fail
          refine wp_tail 7 (by kernel_rfl) (by kernel_rfl) ?_
          simp only [List.take_succ_cons, List.take_zero, List.drop_succ_cons, List.drop_zero]
          repeat (go_big_quiet_step (fail))
          refine wpQuiet_nil ?_
          go_wp2_with fail
          go_end0
          exact Post19.yes (by first | exact RB.out | rfl) ((H2.out.both S2.out O3.out M5.out O5.out BM.out FM.out).back O2.out)
        | false =>
          have r0 := H2.out.bm.enter_no (i := i) q
          rw [q] at RB0
          have RB := Lib.hid (show (m.there e.b && m.ca.enterB e.b e.l) = false from by rw [TH.out, RB0]; rfl)
          rw [r0] at RY
          clear r0 q ni hf us n64 rg f1 f2 RB0
          go_wp2_with fail
          (with_reducible refine FE.out.mono ?_)
          rintro e4 w4 ⟨rfl, rfl⟩
          unfold freeV
          go_upto_region 4 with fail
          refine wp_tail 13 (by kernel_rfl) (by kernel_rfl) ?_
          simp only [List.take_succ_cons, List.take_zero, List.drop_succ_cons, List.drop_zero]
          repeat (go_big_quiet_step (fail))
          refine wpQuiet_nil ?_
          go_wp2_with fail
          (with_reducible refine RY.out.mono ?_)
          rintro e2 w2 ⟨rfl, s2, o2⟩
          have S2 := Lib.hid s2
          have O3 := Lib.hid o2
          clear s2 o2
          go_wp2_with fail
          (with_reducible refine (canbe_no _).mono ?_)
          rintro e3 w3 ⟨rfl, rfl⟩
          go_wp2_with fail
          exact ⟨rfl, Post19.no (by first | exact RB.out | rfl) ((BW.half H2.out S2.out O3.out).back O2.out)⟩
    · have ii := (H1.out.bm.bl.inL_iff e.b).2 ⟨i, hi, hm⟩
      have RB := Lib.hid (show (m.there e.b && m.ca.enterB e.b e.l) = false from by rw [enterB_in ii, Bool.and_false])
      clear hi hm ii
      go_wp2_with fail
      (with_reducible refine FE.out.mono ?_)
      rintro e4 w4 ⟨rfl, rfl⟩
      cases hf : freeF ss c.s.n with
      | none =>
        unfold freeV
        clear hf
        go_upto_region 4 with fail
        refine wp_tail 16 (by kernel_rfl) (by kernel_rfl) ?_
        simp only [List.take_succ_cons, List.take_zero, List.drop_succ_cons, List.drop_zero]
        repeat (go_big_quiet_step (fail))
        refine wpQuiet_nil ?_
        go_wp2_with fail
        (with_reducible refine (canbe_no _).mono ?_)
        rintro e3 w3 ⟨rfl, rfl⟩
        go_wp2_with fail
        exact ⟨rfl, Post19.no (by first | exact RB.out | rfl) (H2.out.broke (Only.refl _ _) |>.back O2.out)⟩
      | some j =>
        unfold freeV
        clear hf
        go_upto_region 4 with fail
        refine wp_tail 16 (by kernel_rfl) (by kernel_rfl) ?_
        simp only [List.take_succ_cons, List.take_zero, List.drop_succ_cons, List.drop_zero]
        repeat (go_big_quiet_step (fail))
        refine wpQuiet_nil ?_
        go_wp2_with fail
        (with_reducible refine (canbe_no _).mono ?_)
        rintro e3 w3 ⟨rfl, rfl⟩
        go_wp2_with fail
        exact ⟨rfl, Post19.no (by first | exact RB.out | rfl) (H2.out.broke (Only.refl _ _) |>.back O2.out)⟩
end
end Go.Proofs.YtlfnncahhbbmpaaGreatDoor
