/- A map in memory, from tickets to the blocks in whose lanes they stand. -/
import Derived.Test.YtjeiaialnanemaaSd
import Derived.Test.YtjeiaialnanemaaOwn
import Derived.Maps.RangeWalk
import Derived.Maps.OwnSet
import Derived.Maps.OwnOps
import Derived.Test.YtjeiaialnanemaaProg
namespace Go.Proofs.Ytjeiaialnanemaa
open Go.RowKit Go.Maps
set_option linter.unusedVariables false

theorem lawI : Keyed Try.prog 3 := int_keyed Try.underlying3
theorem zeroI (w : World) : (zeroValue 3).run Try.prog w = .ok (.int .i64 0) w := by kernel_rfl
theorem keyI (x : Int) : WideAt.IsKeyLit (.int .i64 x) := trivial
theorem wf_i (x : Int) (h : -9223372036854775808 ≤ x ∧ x ≤ 9223372036854775807) : (Lit.int .i64 x).wf = true := WalkArith.wf_i64 h

/-- does a ticket stand anywhere? -/
def hasK (ss : List Sd) (x : Int) : Bool := ss.any (fun s => s.k == x)
theorem hasK_iff {ss : List Sd} {x : Int} : hasK ss x = true ↔ ∃ s ∈ ss, s.k = x := by
  unfold hasK
  rw [List.any_eq_true]
  simp
theorem tk_has (ss : List Sd) (x : Int) : (tkAt ss x).isSome = hasK ss x := by
  unfold tkAt hasK
  rw [List.findIdx?_isSome]
/-- tickets, each of them once -/
def Once (ss : List Sd) : Prop := ss.Pairwise (fun a b => a.k ≠ b.k)
/-- all but one ticket -/
def cutK (ss : List Sd) (x : Int) : List Sd := ss.filter (fun s => !(s.k == x))
theorem hasK_cut (ss : List Sd) (x y : Int) : hasK (cutK ss x) y = (hasK ss y && !(y == x)) := by
  rw [Bool.eq_iff_iff]
  simp only [hasK_iff, Bool.and_eq_true]
  constructor
  · rintro ⟨e, he, rfl⟩
    have := List.mem_filter.1 he
    exact ⟨⟨e, this.1, rfl⟩, this.2⟩
  · rintro ⟨⟨e, he, rfl⟩, k⟩
    exact ⟨e, List.mem_filter.2 ⟨he, k⟩, rfl⟩
theorem Once.cut {ss : List Sd} (h : Once ss) (x : Int) : Once (cutK ss x) := h.filter _
theorem Once.more {ss : List Sd} (h : Once ss) (b x : Int) (hx : hasK ss x = false) : Once (ss ++ [⟨b, x⟩]) := by
  unfold Once
  rw [List.pairwise_append]
  refine ⟨h, List.pairwise_singleton _ _, fun a ha c hc => ?_⟩
  rw [List.mem_singleton.1 hc]
  rintro e
  have : hasK ss x = true := hasK_iff.2 ⟨a, ha, e⟩
  rw [hx] at this; cases this
theorem Once.inj : ∀ {ss : List Sd}, Once ss → ∀ {a b : Sd}, a ∈ ss → b ∈ ss → a.k = b.k → a = b
  | [], _, _, _, ha, _, _ => by cases ha
  | s :: r, h, a, b, ha, hb, e => by
    have h' := List.pairwise_cons.1 h
    rcases List.mem_cons.1 ha with rfl | ha'
    · rcases List.mem_cons.1 hb with rfl | hb'
      · rfl
      · exact absurd e (h'.1 b hb')
    · rcases List.mem_cons.1 hb with rfl | hb'
      · exact absurd e.symm (h'.1 a ha')
      · exact Once.inj (show Once r from h'.2) ha' hb' e

/-- what a map reads as: of each ticket that stands anywhere its block -/
def Reads11 (D : DataW Unit) (ss : List Sd) : Prop := (∀ x, has D (.int .i64 x) = hasK ss x) ∧ ∀ s ∈ ss, ∀ z, D.atKey (.int .i64 s.k) z = .lit (.int .i64 s.b)
theorem Reads11.nil : Reads11 (.map []) [] := ⟨fun _ => rfl, fun _ h => by cases h⟩
theorem lit_ne {x y : Int} (h : y ≠ x) : (Lit.int .i64 y) ≠ Lit.int .i64 x := fun k => h (by injection k)
theorem Reads11.del {D : DataW Unit} {ss : List Sd} (h : Reads11 D ss) (x : Int) : Reads11 (D.del (.int .i64 x)) (cutK ss x) := by
  refine ⟨fun y => ?_, fun e he z => ?_⟩
  · rw [hasK_cut]
    by_cases k : y = x
    · subst k
      rw [has_del_same]
      simp
    · rw [has_del_other (lit_ne k), h.1]
      simp [k]
  · have he' := List.mem_filter.1 he
    have : e.k ≠ x := by simpa using he'.2
    rw [atKey_del_other (lit_ne this)]
    exact h.2 e he'.1 z
theorem Reads11.put {D : DataW Unit} {ss : List Sd} (h : Reads11 D ss) (m : IsMap D) (b x : Int) (hx : hasK ss x = false) : Reads11 (D.put (.int .i64 x) (.lit (.int .i64 b))) (ss ++ [⟨b, x⟩]) := by
  have hx' : ∀ e ∈ ss, e.k ≠ x := fun e he q => by
    have : hasK ss x = true := hasK_iff.2 ⟨e, he, q⟩
    rw [hx] at this; cases this
  refine ⟨fun y => ?_, fun e he z => ?_⟩
  · by_cases k : y = x
    · subst k
      rw [has_put_same m (keyI _)]
      simp [hasK]
    · rw [has_put_other (lit_ne k), h.1]
      have : (x == y) = false := by simp; exact fun q => k q.symm
      simp [hasK, this]
  · rcases List.mem_append.1 he with he' | he'
    · rw [atKey_put_other (lit_ne (hx' e he'))]
      exact h.2 e he' z
    · rw [List.mem_singleton.1 he', atKey_put_same m (keyI _)]
/-- what a lookup finds -/
theorem blockI_of {ss : List Sd} (o : Once ss) {s : Sd} (hs : s ∈ ss) : blockI ss s.k = s.b := by
  unfold blockI
  cases hk : tkAt ss s.k with
  | none =>
    obtain ⟨i, hi, e⟩ := List.getElem_of_mem hs
    exact absurd rfl (tk_none hk i s (by rw [List.getElem?_eq_getElem hi, e]))
  | some k =>
    obtain ⟨u, hu, e, _⟩ := tk_of hk
    have : u = s := o.inj (List.mem_of_getElem? hu) hs e
    simp [hu, this]
theorem Reads11.at_ {D : DataW Unit} {ss : List Sd} (h : Reads11 D ss) (o : Once ss) (x c : Int) (z : DataW Unit) (hc : hasK ss x = true) (e : D.atKey (.int .i64 x) z = .lit (.int .i64 c)) : c = blockI ss x := by
  obtain ⟨s, hs, rfl⟩ := hasK_iff.1 hc
  rw [h.2 s hs z] at e
  rw [blockI_of o hs]
  injection e with e
  injection e with _ e
  exact e.symm

/-- every key is a number -/
theorem key_int {w : World} {b n : Nat} {D : DataW Unit} (h : w.ownsMap Try.prog 3 (plainElem Try.prog 3) b n D) : ∀ kl, has D kl = true → ∃ x, kl = .int .i64 x := by
  intro kl hk
  obtain ⟨es, clock, hb, F, _, rfl⟩ := h
  obtain ⟨p, hp, hpk⟩ := List.any_eq_true.1 hk
  obtain ⟨x, hx, rfl⟩ := List.mem_map.1 (mem_sorted.1 hp)
  obtain ⟨y, hy⟩ := F.reads x hx
  rw [WideElems.rg_of hy] at hpk
  obtain ⟨a, _, e2, _⟩ := keyOf_int_inv Try.underlying3 (WideElems.rd_key hy)
  have := WideAt.sameKey_eq hpk
  exact ⟨a, by rw [← this, e2]⟩
theorem tight {w : World} {b n : Nat} {D : DataW Unit} (h : w.ownsMap Try.prog 3 (plainElem Try.prog 3) b n D) : w.ownsMap Try.prog 3 (plainElem Try.prog 3) b (size D) D := by
  obtain ⟨es, clock, hb, F, _, rfl⟩ := h
  exact ⟨es, clock, hb, F, by rw [size_eq, length_sorted]; simp, rfl⟩
theorem sub_len {α : Type} [DecidableEq α] : ∀ (l l' : List α), l.Nodup → (∀ x ∈ l, x ∈ l') → l.length ≤ l'.length
  | [], _, _, _ => Nat.zero_le _
  | a :: r, l', hn, hs => by
    obtain ⟨h1, h2⟩ := List.nodup_cons.1 hn
    have ha : a ∈ l' := hs a (by simp)
    have := sub_len r (l'.erase a) h2 (fun x hx => by
      have hx' : x ∈ l' := hs x (by simp [hx])
      exact (List.mem_erase_of_ne (fun q => h1 (by rw [← q]; exact hx))).2 hx')
    rw [List.length_erase_of_mem ha] at this
    have : 0 < l'.length := List.length_pos_of_mem ha
    simp only [List.length_cons]
    omega
theorem same_len {α : Type} [DecidableEq α] {l l' : List α} (h : l.Nodup) (h' : l'.Nodup) (k : ∀ x, x ∈ l ↔ x ∈ l') : l.length = l'.length :=
  Nat.le_antisymm (sub_len l l' h (fun x hx => (k x).1 hx)) (sub_len l' l h' (fun x hx => (k x).2 hx))
theorem Reads11.size {w : World} {b n : Nat} {D : DataW Unit} {ss : List Sd} (h : Reads11 D ss) (o : w.ownsMap Try.prog 3 (plainElem Try.prog 3) b n D) (hn : Once ss) : size D = ss.length := by
  have KI := key_int o
  obtain ⟨ps, rfl, hp, hk⟩ := o.entries lawI
  show ps.length = ss.length
  have e1 : (ps.map (fun p => match p.1 with | .int .i64 x => x | _ => 0)).length = ps.length := List.length_map _
  have e2 : (ss.map (fun e => e.k)).length = ss.length := List.length_map _
  rw [← e1, ← e2]
  have hi : ∀ p ∈ ps, ∃ x, p.1 = .int .i64 x := fun p hp' => KI p.1 (List.any_eq_true.2 ⟨p, hp', WideAt.sameKey_self (hk p hp')⟩)
  refine same_len ?_ (by unfold List.Nodup; rw [List.pairwise_map]; exact hn) ?_
  · unfold List.Nodup
    rw [List.pairwise_map]
    refine hp.imp_of_mem ?_
    intro p q hp1 hq1 hne e
    obtain ⟨x, hx⟩ := hi p hp1
    obtain ⟨y, hy⟩ := hi q hq1
    simp only [hx, hy] at e
    exact hne (by rw [hx, hy, e])
  · intro x
    have h1 := h.1 x
    constructor
    · intro hm
      obtain ⟨p, hp1, e⟩ := List.mem_map.1 hm
      obtain ⟨y, hy⟩ := hi p hp1
      simp only [hy] at e
      subst e
      have : has (DataW.map ps) (.int .i64 y) = true := List.any_eq_true.2 ⟨p, hp1, by rw [hy]; exact WideAt.sameKey_self (keyI _)⟩
      rw [h1] at this
      obtain ⟨a, ha, e⟩ := hasK_iff.1 this
      exact List.mem_map.2 ⟨a, ha, e⟩
    · intro hm
      obtain ⟨a, ha, e⟩ := List.mem_map.1 hm
      rw [hasK_iff.2 ⟨a, ha, e⟩] at h1
      obtain ⟨p, hp1, hpk⟩ := List.any_eq_true.1 h1
      have := WideAt.sameKey_eq hpk
      exact List.mem_map.2 ⟨p, hp1, by simp only [this]⟩

/-- block b is a map that has just these tickets -/
def Md (w : World) (b : Nat) (ss : List Sd) : Prop := ∃ D, w.ownsMap Try.prog 3 (plainElem Try.prog 3) b ss.length D ∧ Reads11 D ss
theorem Md.of {w : World} {b n : Nat} {D : DataW Unit} {ss : List Sd} (o : w.ownsMap Try.prog 3 (plainElem Try.prog 3) b n D) (h : Reads11 D ss) (hn : Once ss) : Md w b ss :=
  ⟨D, by rw [← h.size o hn]; exact tight o, h⟩
theorem owns_keep {w w' : World} {b n : Nat} {D : DataW Unit} (h : w.ownsMap Try.prog 3 (plainElem Try.prog 3) b n D) {S : Nat → Prop} (o : Only S w w') (hn : ¬ S b) : w'.ownsMap Try.prog 3 (plainElem Try.prog 3) b n D := by
  have lt := h.lt
  obtain ⟨es, clock, hb, r⟩ := h
  exact ⟨es, clock, (o.block b lt hn).trans hb, r⟩
theorem Md.keep {w w' : World} {b : Nat} {ss : List Sd} (h : Md w b ss) {S : Nat → Prop} (o : Only S w w') (hn : ¬ S b) : Md w' b ss := by
  obtain ⟨D, h1, h2⟩ := h
  exact ⟨D, owns_keep h1 o hn, h2⟩
theorem Md.lt {w : World} {b : Nat} {ss : List Sd} (h : Md w b ss) : b < w.heap.size := by
  obtain ⟨D, h1, _⟩ := h
  exact h1.lt
theorem Md.ne {w : World} {p b : Nat} {ss : List Sd} {t : TypeId} {cs : Array Value} (h : Md w b ss) (r : Row w p t cs) : p ≠ b := by
  rintro rfl
  obtain ⟨D, ⟨es, clock, hb, _⟩, _⟩ := h
  unfold Row at r
  rw [r] at hb
  cases hb
theorem Md.still {w w' : World} {b : Nat} {ss : List Sd} (h : Md w b ss) (o : Only none_ w w') : Md w' b ss := h.keep o (fun s => s)
theorem only_turned {w w' : World} {b : Nat} (h : w.mapTurned w' b) : Only (fun k => k = b) w w' := (Only.of_grown h.grown).more (fun i _ e => by injection e)
theorem Md.len {w : World} {b : Nat} {ss : List Sd} (h : Md w b ss) (hn : Once ss) (ty : TypeId) : (Builtin.len_ #[53] ty #[.map (some b)]).run Try.prog w = .ok (.int .i64 ss.length) w := by
  obtain ⟨D, h1, h2⟩ := h
  have := h1.len Try.underlying53 ty
  rw [h2.size h1 hn] at this
  exact this
theorem store11 {w : World} {b : Nat} {ss : List Sd} (h : Md w b ss) (hn : Once ss) (hl : ss.length ≤ 1000) (x c : Int) (hx : hasK ss x = false) (wx : (Lit.int .i64 x).wf = true) (wc : (Lit.int .i64 c).wf = true) :
    ∃ w', (Instr.mapUpdate 53 (.map (some b)) (.int .i64 x) (.int .i64 c)).run Try.prog w = .ok () w' ∧ Md w' b (ss ++ [⟨c, x⟩]) ∧ Only (fun k => k = b) w w' := by
  obtain ⟨D, h1, h2⟩ := h
  have IM : IsMap D := let ⟨es, _, _, _, _, e⟩ := h1; ⟨_, e⟩
  obtain ⟨w', e1, e2, e3⟩ := h1.store lawI Try.underlying53 (by unfold maxLen; omega) (keyOf_int_mk Try.underlying3 wx) (plainElem_int Try.underlying3 wc)
  exact ⟨w', e1, Md.of e2 (h2.put IM c x hx) (hn.more c x hx), only_turned e3⟩
end Go.Proofs.Ytjeiaialnanemaa
