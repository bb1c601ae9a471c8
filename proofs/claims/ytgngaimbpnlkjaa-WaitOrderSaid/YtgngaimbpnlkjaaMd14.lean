/- A map in memory, from waiters to where they wait. -/
import Derived.Test.YtgngaimbpnlkjaaRg14
import Derived.Test.YtgngaimbpnlkjaaActs14
import Derived.Maps.RangeWalk
import Derived.Maps.OwnSet
import Derived.Maps.OwnOps
import Derived.Maps.OwnIn
import Derived.DeepKeys4
namespace Go.Proofs.Ytgngaimbpnlkjaa
open Go.RowKit Go.Maps
set_option linter.unusedVariables false

/-- who waits, for which ticket, as which one that came -/
structure En where
  s : Sx
  n : Nat
  deriving DecidableEq
instance : Inhabited En := ⟨⟨⟨0, ⟨0, 0⟩⟩, 0⟩⟩

/-! ### keys -/
theorem laid14 : laidOutB Try.prog = true := by kernel_rfl
theorem wideW : (match Try.prog.underlying 31 with | some (.array _ _) | some (.struct _) => true | _ => false) = true := by rw [Try.underlying31]
theorem lawW : Keyed Try.prog 31 := Keyed.of_law (deep_law_laid laid14 (m := 2) (by omega) (of_decide_eq_true (by kernel_rfl)) (by kernel_rfl) wideW)
/-- how a waiter reads, as a key -/
def klit (x : Wt) : Lit := .string (keyBytes [.int .i64 x.r, .int .i64 x.p])
theorem keyW {x : Wt} (h : wfW x) : keyOf Try.prog 31 x.val = some (klit x) := by
  have hk : Try.prog.keyType 31 = true := by kernel_rfl
  have hc : Try.prog.cellsOf 31 = 2 := cellsWt
  have hi : Try.prog.cellsOf 3 = 1 := cellsI
  obtain ⟨m, hm⟩ : ∃ m, Try.prog.types.size + 1 = m + 2 := ⟨Try.prog.types.size - 1, by have : (1 : Nat) ≤ Try.prog.types.size := of_decide_eq_true (by kernel_rfl); omega⟩
  unfold keyOf klit Wt.val
  rw [Try.underlying31]
  simp only
  rw [if_pos (by simp [hk, Value.formed, Try.underlying31, hc]), hm]
  have h1 : (Lit.int .i64 x.r).wf = true := h.1
  have h2 : (Lit.int .i64 x.p).wf = true := h.2
  unfold Program.keyLits
  rw [Try.underlying31]
  simp [Value.cells, hc, hi, Program.keyLits, Try.underlying3, h1, h2]
set_option maxRecDepth 100000 in
theorem formed_agg {v : Value} (h : v.formed Try.prog 31 = true) : ∃ a b : Value, v = .agg #[a, b] := by
  have hc : Try.prog.cellsOf 31 = 2 := cellsWt
  unfold Value.formed at h
  rw [Try.underlying31] at h
  cases v <;> simp [hc] at h
  rename_i cs
  obtain ⟨l⟩ := cs
  match l, h with
  | [a, b], _ => exact ⟨a, b, rfl⟩
set_option maxRecDepth 100000 in
theorem lits_int {m : Nat} {a : Value} {l : List Lit} (h : Try.prog.keyLits (m + 1) 3 [a] = some l) : ∃ n, a = .int .i64 n ∧ (Lit.int .i64 n).wf = true ∧ l = [.int .i64 n] := by
  unfold Program.keyLits at h
  rw [Try.underlying3] at h
  cases a with
  | int q n =>
    simp only at h
    split at h
    · rename_i k
      obtain ⟨rfl, k2⟩ := k
      exact ⟨n, rfl, k2, (Option.some.inj h).symm⟩
    · cases h
  | _ => cases h
set_option maxRecDepth 100000 in
theorem key_inv {v : Value} {kl : Lit} (h : keyOf Try.prog 31 v = some kl) : ∃ x : Wt, v = x.val ∧ wfW x ∧ kl = klit x := by
  have hc : Try.prog.cellsOf 31 = 2 := cellsWt
  have hi : Try.prog.cellsOf 3 = 1 := cellsI
  obtain ⟨m, hm⟩ : ∃ m, Try.prog.types.size + 1 = m + 2 := ⟨Try.prog.types.size - 1, by have : (1 : Nat) ≤ Try.prog.types.size := of_decide_eq_true (by kernel_rfl); omega⟩
  have h0 := h
  unfold keyOf at h
  rw [Try.underlying31] at h
  simp only at h
  split at h
  · rename_i hf
    obtain ⟨a, b, rfl⟩ := formed_agg ((Bool.and_eq_true_iff.1 hf).2)
    rw [hm] at h
    unfold Program.keyLits at h
    rw [Try.underlying31] at h
    simp only [Option.map_eq_some_iff] at h
    obtain ⟨ls, h, rfl⟩ := h
    split at h
    · simp only [Option.map_eq_some_iff] at h
      obtain ⟨ll, h, rfl⟩ := h
      have e0 : (List.drop 0 (Value.agg #[a, b]).cells.toList).take 1 = [a] := rfl
      have e1 : (List.drop 1 (Value.agg #[a, b]).cells.toList).take 1 = [b] := rfl
      simp only [List.mapM_cons, List.mapM_nil, bind, Option.bind_eq_some_iff, hi, e0, e1, pure] at h
      obtain ⟨l1, h1, l2, ⟨l3, h3, l4, h4, h5⟩, h6⟩ := h
      obtain ⟨n1, rfl, w1, rfl⟩ := lits_int h1
      obtain ⟨n2, rfl, w2, rfl⟩ := lits_int h3
      exact ⟨⟨n1, n2⟩, rfl, ⟨w1, w2⟩, by have := keyW (x := ⟨n1, n2⟩) ⟨w1, w2⟩; unfold Wt.val at this; rw [this] at h0; exact (Option.some.inj h0).symm⟩
    · cases h
  · cases h
theorem klit_inj {x y : Wt} (hx : wfW x) (hy : wfW y) (h : klit x = klit y) : x = y := by
  have h1 := keyW hx
  rw [h] at h1
  have := lawW.inj h1 (keyW hy)
  unfold Wt.val at this
  simp at this
  obtain ⟨a, b⟩ := this
  cases x; cases y
  simp_all
theorem klit_key (x : Wt) : WideAt.IsKeyLit (klit x) := trivial
theorem klit_same {x y : Wt} (hx : wfW x) (hy : wfW y) : (klit x).sameKey (klit y) = decide (x = y) := by
  by_cases e : x = y
  · subst e; rw [WideAt.sameKey_self (klit_key x)]; simp
  · rw [decide_eq_false e]
    exact Maps.sameKey_ne (fun k => e (klit_inj hx hy k))

/-! ### what is laid at a key -/
def stDat (t : Int) (n : Nat) : DataW Unit := .agg [.lit (.int .i64 t), .lit (.int .i64 n)]
def stVal (t : Int) (n : Nat) : Value := .agg #[.int .i64 t, .int .i64 n]
def stElem : Value → Option (DataW Unit × List MemPlace)
  | .agg cs => match cs.toList with
    | [.int .i64 t, .int .i64 n] => some (.agg [.lit (.int .i64 t), .lit (.int .i64 n)], [])
    | _ => none
  | _ => none
theorem stElem_mk (t : Int) (n : Nat) : stElem (stVal t n) = some (stDat t n, []) := rfl
theorem stElem_inv {v : Value} {y : DataW Unit × List MemPlace} (h : stElem v = some y) : ∃ t n : Int, v = .agg #[.int .i64 t, .int .i64 n] ∧ y = (.agg [.lit (.int .i64 t), .lit (.int .i64 n)], []) := by
  unfold stElem at h
  split at h
  · rename_i cs
    split at h
    · rename_i t n e
      refine ⟨t, n, ?_, (Option.some.inj h).symm⟩
      congr 1
      apply Array.ext'
      exact e
    · cases h
  · cases h
theorem stVal_of {v : Value} {t : Int} {n : Nat} {zs : List MemPlace} (h : stElem v = some (stDat t n, zs)) : v = stVal t n := by
  obtain ⟨t', n', rfl, e⟩ := stElem_inv h
  injection e with e
  unfold stDat at e
  simp only [DataW.agg.injEq, List.cons.injEq, DataW.lit.injEq, Lit.int.injEq, true_and, and_true] at e
  obtain ⟨rfl, rfl⟩ := e
  rfl
theorem stDat_inj {t t' : Int} {n n' : Nat} (h : stDat t n = stDat t' n') : t = t' ∧ n = n' := by
  unfold stDat at h
  simp only [DataW.agg.injEq, List.cons.injEq, DataW.lit.injEq, Lit.int.injEq, true_and, and_true] at h
  exact ⟨h.1, by omega⟩
theorem zeroSt (w : World) : (zeroValue 56).run Try.prog w = .ok (stVal 0 0) w := by kernel_rfl

/-! ### entries -/
def OnceE (es : List En) : Prop := es.Pairwise (fun a b => a.s.w ≠ b.s.w)
theorem OnceE.inj : ∀ {es : List En}, OnceE es → ∀ {a b : En}, a ∈ es → b ∈ es → a.s.w = b.s.w → a = b
  | [], _, _, _, ha, _, _ => by cases ha
  | s :: r, h, a, b, ha, hb, e => by
    have h' := List.pairwise_cons.1 h
    rcases List.mem_cons.1 ha with rfl | ha'
    · rcases List.mem_cons.1 hb with rfl | hb'
      · rfl
      · exact absurd e (h'.1 b hb')
    · rcases List.mem_cons.1 hb with rfl | hb'
      · exact absurd e.symm (h'.1 a ha')
      · exact OnceE.inj (show OnceE r from h'.2) ha' hb' e
theorem OnceE.nodup {es : List En} (h : OnceE es) : es.Nodup := h.imp (fun k q => k (by rw [q]))
theorem OnceE.sub {es fs : List En} (h : OnceE es) (s : fs.Sublist es) : OnceE fs := List.Pairwise.sublist s h
def hasE (es : List En) (x : Wt) : Bool := es.any (fun e => decide (e.s.w = x))
theorem hasE_iff {es : List En} {x : Wt} : hasE es x = true ↔ ∃ e ∈ es, e.s.w = x := by
  unfold hasE
  rw [List.any_eq_true]
  simp
/-- the entry of a waiter: which ticket, which turn; nothing, if it has none -/
def tick (es : List En) (x : Wt) : Int := ((es.find? (fun e => decide (e.s.w = x))).map (fun e => e.s.t)).getD 0
def turn (es : List En) (x : Wt) : Nat := ((es.find? (fun e => decide (e.s.w = x))).map (fun e => e.n)).getD 0
theorem find_of {es : List En} (o : OnceE es) {e : En} (h : e ∈ es) : es.find? (fun a => decide (a.s.w = e.s.w)) = some e := by
  cases hf : es.find? (fun a => decide (a.s.w = e.s.w)) with
  | none => exact absurd (List.find?_eq_none.1 hf e h) (by simp)
  | some q =>
    have h1 := List.find?_some hf
    have h2 := List.mem_of_find?_eq_some hf
    rw [o.inj h2 h (by simpa using h1)]
theorem turn_of {es : List En} (o : OnceE es) {e : En} (h : e ∈ es) : turn es e.s.w = e.n := by unfold turn; rw [find_of o h]; rfl
theorem tick_of {es : List En} (o : OnceE es) {e : En} (h : e ∈ es) : tick es e.s.w = e.s.t := by unfold tick; rw [find_of o h]; rfl
theorem none_of {es : List En} {x : Wt} (h : hasE es x = false) : es.find? (fun a => decide (a.s.w = x)) = none := by
  rw [List.find?_eq_none]
  intro e he q
  have : hasE es x = true := hasE_iff.2 ⟨e, he, by simpa using q⟩
  rw [h] at this; cases this

/-- what a map reads as -/
structure Reads14 (D : DataW Unit) (es : List En) : Prop where
  has : ∀ x, wfW x → Maps.has D (klit x) = hasE es x
  at_ : ∀ e ∈ es, ∀ z, D.atKey (klit e.s.w) z = stDat e.s.t e.n
  wf : ∀ e ∈ es, wfW e.s.w
theorem Reads14.nil : Reads14 (.map []) [] := ⟨fun _ _ => rfl, fun _ h => (by cases h), fun _ h => (by cases h)⟩
theorem klit_ne {x y : Wt} (hx : wfW x) (hy : wfW y) (h : y ≠ x) : klit y ≠ klit x := fun k => h (klit_inj hy hx k)
/-- a new one is laid -/
theorem Reads14.put {D : DataW Unit} {es : List En} (h : Reads14 D es) (m : IsMap D) (e : En) (we : wfW e.s.w) (hn : hasE es e.s.w = false) : Reads14 (D.put (klit e.s.w) (stDat e.s.t e.n)) (es ++ [e]) := by
  refine ⟨fun y wy => ?_, fun f hf z => ?_, fun f hf => ?_⟩
  · by_cases k : y = e.s.w
    · subst k
      rw [has_put_same m (klit_key _)]
      exact (hasE_iff.2 ⟨e, by simp, rfl⟩).symm
    · rw [has_put_other (klit_ne we wy k), h.has y wy]
      unfold hasE
      rw [List.any_append]
      simp [show ¬ e.s.w = y from fun q => k q.symm]
  · rcases List.mem_append.1 hf with hf | hf
    · rw [atKey_put_other (klit_ne we (h.wf f hf) (fun q => by
        have : hasE es e.s.w = true := hasE_iff.2 ⟨f, hf, q⟩
        rw [hn] at this; cases this))]
      exact h.at_ f hf z
    · rw [List.mem_singleton.1 hf, atKey_put_same m (klit_key _)]
  · rcases List.mem_append.1 hf with hf | hf
    · exact h.wf f hf
    · rw [List.mem_singleton.1 hf]; exact we
def outE (es : List En) (x : Wt) : List En := es.filter (fun e => decide (e.s.w ≠ x))
theorem Reads14.del {D : DataW Unit} {es : List En} (h : Reads14 D es) (x : Wt) (wx : wfW x) : Reads14 (D.del (klit x)) (outE es x) := by
  refine ⟨fun y wy => ?_, fun f hf z => ?_, fun f hf => h.wf f (List.mem_filter.1 hf).1⟩
  · by_cases k : y = x
    · subst k
      rw [has_del_same]
      cases hq : hasE (outE es y) y with
      | false => rfl
      | true =>
        obtain ⟨f, hf, e⟩ := hasE_iff.1 hq
        have := (List.mem_filter.1 hf).2
        simp [e] at this
    · rw [has_del_other (klit_ne wx wy k), h.has y wy, Bool.eq_iff_iff, hasE_iff, hasE_iff]
      constructor
      · rintro ⟨f, hf, rfl⟩
        exact ⟨f, List.mem_filter.2 ⟨hf, by simpa using k⟩, rfl⟩
      · rintro ⟨f, hf, rfl⟩
        exact ⟨f, (List.mem_filter.1 hf).1, rfl⟩
  · have hf' := List.mem_filter.1 hf
    rw [atKey_del_other (klit_ne wx (h.wf f hf'.1) (by simpa using hf'.2))]
    exact h.at_ f hf'.1 z
theorem Reads14.look {D : DataW Unit} {es : List En} (h : Reads14 D es) (o : OnceE es) (x : Wt) (wx : wfW x) : D.atKey (klit x) (stDat 0 0) = stDat (tick es x) (turn es x) := by
  cases hc : hasE es x with
  | true =>
    obtain ⟨e, he, rfl⟩ := hasE_iff.1 hc
    rw [h.at_ e he, tick_of o he, turn_of o he]
  | false =>
    have := h.has x wx
    rw [hc] at this
    unfold tick turn
    rw [atKey_of_not_has this, none_of hc]
    rfl
/-- every key is a waiter's -/
theorem key_wt {w : World} {b n : Nat} {D : DataW Unit} (h : w.ownsMap Try.prog 31 stElem b n D) : ∀ kl, Maps.has D kl = true → ∃ x, wfW x ∧ kl = klit x := by
  intro kl hk
  obtain ⟨es, clock, hb, F, _, rfl⟩ := h
  obtain ⟨p, hp, hpk⟩ := List.any_eq_true.1 hk
  obtain ⟨x, hx, rfl⟩ := List.mem_map.1 (mem_sorted.1 hp)
  obtain ⟨y, hy⟩ := F.reads x hx
  rw [WideElems.rg_of hy] at hpk
  obtain ⟨a, _, wa, e2⟩ := key_inv (WideElems.rd_key hy)
  have := WideAt.sameKey_eq hpk
  exact ⟨a, wa, by rw [← this, e2]⟩
theorem tight14 {w : World} {b n : Nat} {D : DataW Unit} (h : w.ownsMap Try.prog 31 stElem b n D) : w.ownsMap Try.prog 31 stElem b (size D) D := by
  obtain ⟨es, clock, hb, F, _, rfl⟩ := h
  exact ⟨es, clock, hb, F, by rw [size_eq, length_sorted]; simp, rfl⟩
theorem sub_len {α : Type} [DecidableEq α] : ∀ (l l' : List α), l.Nodup → (∀ x ∈ l, x ∈ l') → l.length ≤ l'.length
  | [], _, _, _ => Nat.zero_le _
  | a :: r, l', hn, hs => by
    obtain ⟨h1, h2⟩ := List.nodup_cons.1 hn
    have ha : a ∈ l' := hs a (by simp)
    have := sub_len r (l'.erase a) h2 (fun x hx => by
      have hx' : x ∈ l' := hs x (by simp [hx])
      exact (List.mem_erase_of_ne (fun q => h1 (by rw [← q]; exact hx))).2 hx')
    rw [List.length_erase_of_mem ha] at this
    have : 0 < l'.length := List.length_pos_of_mem ha
    simp only [List.length_cons]
    omega
theorem same_len {α : Type} [DecidableEq α] {l l' : List α} (h : l.Nodup) (h' : l'.Nodup) (k : ∀ x, x ∈ l ↔ x ∈ l') : l.length = l'.length :=
  Nat.le_antisymm (sub_len l l' h (fun x hx => (k x).1 hx)) (sub_len l' l h' (fun x hx => (k x).2 hx))
/-- a key, as a waiter -/
noncomputable def unk (l : Lit) : Wt := open Classical in if h : ∃ x, wfW x ∧ l = klit x then h.choose else ⟨0, 0⟩
theorem unk_klit {x : Wt} (hx : wfW x) : unk (klit x) = x := by
  unfold unk
  have h : ∃ y, wfW y ∧ klit x = klit y := ⟨x, hx, rfl⟩
  rw [dif_pos h]
  exact (klit_inj hx h.choose_spec.1 h.choose_spec.2).symm
theorem Reads14.size {w : World} {b n : Nat} {D : DataW Unit} {es : List En} (h : Reads14 D es) (o : w.ownsMap Try.prog 31 stElem b n D) (hn : OnceE es) : Maps.size D = es.length := by
  have KI := key_wt o
  obtain ⟨ps, rfl, hp, hk⟩ := o.entries lawW
  show ps.length = es.length
  have e1 : (ps.map (fun p => unk p.1)).length = ps.length := List.length_map _
  have e2 : (es.map (fun e => e.s.w)).length = es.length := List.length_map _
  rw [← e1, ← e2]
  have hi : ∀ p ∈ ps, ∃ x, wfW x ∧ p.1 = klit x := fun p hp' => KI p.1 (List.any_eq_true.2 ⟨p, hp', WideAt.sameKey_self (hk p hp')⟩)
  refine same_len ?_ (by unfold List.Nodup; rw [List.pairwise_map]; exact hn) ?_
  · unfold List.Nodup
    rw [List.pairwise_map]
    refine hp.imp_of_mem ?_
    intro p q hp1 hq1 hne e
    obtain ⟨x, wx, hx⟩ := hi p hp1
    obtain ⟨y, wy, hy⟩ := hi q hq1
    rw [hx, hy, unk_klit wx, unk_klit wy] at e
    exact hne (by rw [hx, hy, e])
  · intro x
    constructor
    · intro hm
      obtain ⟨p, hp1, e⟩ := List.mem_map.1 hm
      obtain ⟨y, wy, hy⟩ := hi p hp1
      rw [hy, unk_klit wy] at e
      subst e
      have : Maps.has (DataW.map ps) (klit y) = true := List.any_eq_true.2 ⟨p, hp1, by rw [hy]; exact WideAt.sameKey_self (klit_key _)⟩
      rw [h.has y wy] at this
      obtain ⟨a, ha, e⟩ := hasE_iff.1 this
      exact List.mem_map.2 ⟨a, ha, e⟩
    · intro hm
      obtain ⟨a, ha, e⟩ := List.mem_map.1 hm
      have wx : wfW x := e ▸ h.wf a ha
      have h1 := h.has x wx
      rw [hasE_iff.2 ⟨a, ha, e⟩] at h1
      obtain ⟨p, hp1, hpk⟩ := List.any_eq_true.1 h1
      have := WideAt.sameKey_eq hpk
      exact List.mem_map.2 ⟨p, hp1, by simp only [this]; exact unk_klit wx⟩

/-- block b is a map that has just these entries -/
def Md (w : World) (b : Nat) (es : List En) : Prop := ∃ D, w.ownsMap Try.prog 31 stElem b es.length D ∧ Reads14 D es
theorem Md.of {w : World} {b n : Nat} {D : DataW Unit} {es : List En} (o : w.ownsMap Try.prog 31 stElem b n D) (h : Reads14 D es) (hn : OnceE es) : Md w b es :=
  ⟨D, by rw [← h.size o hn]; exact tight14 o, h⟩
theorem owns_keep {w w' : World} {b n : Nat} {D : DataW Unit} (h : w.ownsMap Try.prog 31 stElem b n D) {S : Nat → Prop} (o : Only S w w') (hn : ¬ S b) : w'.ownsMap Try.prog 31 stElem b n D := by
  have lt := h.lt
  obtain ⟨es, clock, hb, r⟩ := h
  exact ⟨es, clock, (o.block b lt hn).trans hb, r⟩
theorem Md.keep {w w' : World} {b : Nat} {es : List En} (h : Md w b es) {S : Nat → Prop} (o : Only S w w') (hn : ¬ S b) : Md w' b es := by
  obtain ⟨D, h1, h2⟩ := h
  exact ⟨D, owns_keep h1 o hn, h2⟩
theorem Md.still {w w' : World} {b : Nat} {es : List En} (h : Md w b es) (o : Only none_ w w') : Md w' b es := h.keep o (fun s => s)
theorem Md.lt {w : World} {b : Nat} {es : List En} (h : Md w b es) : b < w.heap.size := by
  obtain ⟨D, h1, _⟩ := h
  exact h1.lt
theorem Md.ne {w : World} {p b : Nat} {es : List En} {t : TypeId} {cs : Array Value} (h : Md w b es) (r : Row w p t cs) : p ≠ b := by
  rintro rfl
  obtain ⟨D, ⟨es, clock, hb, _⟩, _⟩ := h
  unfold Row at r
  rw [r] at hb
  cases hb
theorem Md.wf {w : World} {b : Nat} {es : List En} (h : Md w b es) : ∀ e ∈ es, wfW e.s.w := by
  obtain ⟨D, _, h2⟩ := h
  exact h2.wf
theorem only_turned {w w' : World} {b : Nat} (h : w.mapTurned w' b) : Only (fun k => k = b) w w' := (Only.of_grown h.grown).more (fun i _ e => by injection e)
/-- how many -/
theorem Md.len {w : World} {b : Nat} {es : List En} (h : Md w b es) (o : OnceE es) (ty : TypeId) : (Builtin.len_ #[52] ty #[.map (some b)]).run Try.prog w = .ok (.int .i64 es.length) w := by
  obtain ⟨D, h1, h2⟩ := h
  have := h1.len Try.underlying52 ty
  rw [h2.size h1 o] at this
  exact this
/-- a lookup, that tells whether there is one -/
theorem Md.look {w : World} {b : Nat} {es : List En} (h : Md w b es) (o : OnceE es) {x : Wt} (wx : wfW x) :
    (Instr.lookup 52 (.map (some b)) (.agg #[.int .i64 x.r, .int .i64 x.p]) true).run Try.prog w = .ok (.tuple #[stVal (tick es x) (turn es x), .bool (hasE es x)]) w := by
  obtain ⟨D, h1, h2⟩ := h
  obtain ⟨v, zs, hrun, hv⟩ := h1.look_ok lawW Try.underlying52 (zeroSt w) (stElem_mk 0 0) (keyW wx)
  rw [h2.has x wx] at hrun
  have e := h2.look o x wx
  rw [e] at hv
  rw [stVal_of hv] at hrun
  exact hrun
/-- .. and one that doesn't -/
theorem Md.get {w : World} {b : Nat} {es : List En} (h : Md w b es) (o : OnceE es) {x : Wt} (wx : wfW x) :
    (Instr.lookup 52 (.map (some b)) (.agg #[.int .i64 x.r, .int .i64 x.p]) false).run Try.prog w = .ok (stVal (tick es x) (turn es x)) w := by
  obtain ⟨D, h1, h2⟩ := h
  obtain ⟨v, zs, hrun, hv⟩ := h1.lookup lawW Try.underlying52 (zeroSt w) (stElem_mk 0 0) (keyW wx)
  have e := h2.look o x wx
  rw [e] at hv
  rw [stVal_of hv] at hrun
  exact hrun
/-- a new one is laid -/
theorem Md.store {w : World} {b : Nat} {es : List En} (h : Md w b es) (o : OnceE es) (hl : es.length ≤ 1000) (e : En) (we : wfW e.s.w) (hn : hasE es e.s.w = false) :
    ∃ w', (Instr.mapUpdate 52 (.map (some b)) (.agg #[.int .i64 e.s.w.r, .int .i64 e.s.w.p]) (.agg #[.int .i64 e.s.t, .int .i64 e.n])).run Try.prog w = .ok () w' ∧ Md w' b (es ++ [e]) ∧ Only (fun k => k = b) w w' := by
  obtain ⟨D, k1, k2⟩ := h
  have IM : IsMap D := let ⟨es, _, _, _, _, e⟩ := k1; ⟨_, e⟩
  obtain ⟨w', e1, e2, e3⟩ := k1.store lawW Try.underlying52 (by unfold maxLen; omega) (keyW we) (stElem_mk e.s.t e.n)
  refine ⟨w', e1, Md.of e2 (k2.put IM e we hn) ?_, only_turned e3⟩
  unfold OnceE
  rw [List.pairwise_append]
  refine ⟨o, List.pairwise_singleton _ _, fun a ha c hc q => ?_⟩
  rw [List.mem_singleton.1 hc] at q
  have : hasE es e.s.w = true := hasE_iff.2 ⟨a, ha, q⟩
  rw [hn] at this; cases this
/-- one goes -/
theorem Md.drop {w : World} {b : Nat} {es : List En} (h : Md w b es) (o : OnceE es) (x : Wt) (wx : wfW x) (ty : TypeId) :
    ∃ w', (Builtin.delete_ #[52, 31] ty #[.map (some b), .agg #[.int .i64 x.r, .int .i64 x.p]]).run Try.prog w = .ok (.tuple #[]) w' ∧ Md w' b (outE es x) ∧ Only (fun k => k = b) w w' ∧
      ∀ r n D left cnt, w.ranges Try.prog 31 stElem b r n D left cnt → ∃ cnt', w'.ranges Try.prog 31 stElem b r n (D.del (klit x)) (fun z => left z && !z.sameKey (klit x)) cnt' ∧ cnt' ≤ cnt := by
  obtain ⟨D, k1, k2⟩ := h
  obtain ⟨w', e1, e2, e3⟩ := k1.drop lawW Try.underlying52 (keyW wx) ty
  refine ⟨w', e1, Md.of e2 (k2.del x wx) (o.sub List.filter_sublist), only_turned e3, fun r n D' left cnt hr => ?_⟩
  obtain ⟨w'', cnt', f1, f2, f3, _⟩ := hr.drop lawW Try.underlying52 (keyW wx) ty
  have : w'' = w' := by
    have := f1.symm.trans e1
    injection this
  subst this
  exact ⟨cnt', f2, f3⟩
end Go.Proofs.Ytgngaimbpnlkjaa
