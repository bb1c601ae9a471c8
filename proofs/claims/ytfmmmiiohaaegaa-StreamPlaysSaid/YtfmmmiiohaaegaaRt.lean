/- The document's own table of what is expected: in memory; where an entry is. -/
import Derived.Test.YtfmmmiiohaaegaaTpList
import Derived.Deep.RegionLaw
namespace Go.Proofs.Ytfmmmiiohaaegaa
open Go.RowKit Go.Maps
set_option linter.unusedVariables false

/-- a slice of the call's own, at a block that may be -/
def OwnsEn (w : World) (ok : Nat → Prop) (v : Value) (es : List En) : Prop := Owns w 0 83 2 En.cells v es ∧ ∀ g, v.ownBlock = some g → ok g
theorem OwnsEn.keep {w w' : World} {ok : Nat → Prop} {v : Value} {es : List En} (h : OwnsEn w ok v es) {S : Nat → Prop} (o : Only S w w') (hn : ∀ g, ok g → ¬ S g) : OwnsEn w' ok v es :=
  ⟨h.1.keep o (fun g hg => hn g (h.2 g hg)), h.2⟩
theorem OwnsEn.still {w w' : World} {ok : Nat → Prop} {v : Value} {es : List En} (h : OwnsEn w ok v es) (o : Only none_ w w') : OwnsEn w' ok v es := h.keep o (fun _ _ s => s)
theorem OwnsEn.lt {w : World} {ok : Nat → Prop} {v : Value} {es : List En} (h : OwnsEn w ok v es) {g : Nat} (hg : v.ownBlock = some g) : g < w.heap.size := (h.1.base_le hg).2
theorem Owns.lower8 {α : Type} {w : World} {base base' : Nat} {e : TypeId} {k : Nat} {c : α → List Value} {v : Value} {xs : List α} (h : Owns w base e k c v xs) (hb : base' ≤ base) : Owns w base' e k c v xs := by
  refine ⟨h.1, ?_⟩
  rcases h.2 with h2 | ⟨g, cap, cur, hv, hg, r⟩
  · exact .inl h2
  · exact .inr ⟨g, cap, cur, hv, Nat.le_trans hb hg, r⟩
theorem OwnsEn.new {w : World} {ok : Nat → Prop} {b : Nat} {v : Value} {es : List En} (h : Owns w b 83 2 En.cells v es) (k : ∀ g, b ≤ g → ok g) : OwnsEn w ok v es :=
  ⟨h.lower8 (Nat.zero_le _), fun g hg => k g (h.base_le hg).1⟩
theorem OwnsEn.start (w : World) (ok : Nat → Prop) : OwnsEn w ok (.slice none 0 0) [] := ⟨Owns.start _ _ _ _ _, fun g hg => by cases hg⟩
theorem OwnsEn.form {w : World} {ok : Nat → Prop} {v : Value} {es : List En} (h : OwnsEn w ok v es) : ∃ A cap, v = .slice A es.length cap ∧ Holds w A 2 En.cells es ∧ (es ≠ [] → ∃ g, A = some ⟨g, 0, none⟩ ∧ g < w.heap.size ∧ es.length ≤ cap ∧ cap ≤ maxLen ∧ ok g) := by
  rcases h.1.2 with ⟨hv, h2⟩ | ⟨g, cap, cur, hv, hg, hh, h3, h4, _⟩
  · have : es = [] := List.eq_nil_of_length_eq_zero h2
    subst this
    exact ⟨none, 0, hv, fun i a hi => by simp at hi, fun q => absurd rfl q⟩
  · have lt := (Array.getElem?_eq_some_iff.1 hh).1
    have h1 := h.1
    rw [hv] at h1
    refine ⟨_, _, hv, fun i a hi => ⟨g, 0, rfl, lt, fun j v hj => ?_⟩, fun _ => ⟨g, rfl, lt, h3, h4, h.2 g (by rw [hv]; rfl)⟩⟩
    rw [Nat.zero_add]
    have hj2 : j < 2 := by have := lt_of_get hj; rw [en2] at this; exact this
    rw [Owns.cell h1 en2 hi hj2]
    exact hj

/-- the document's own table: at block q, its entries' row at a block that may be -/
structure RT (w : World) (q : Nat) (ok : Nat → Prop) (size life : Nat) (es : List En) : Prop where
  it : ∃ v, Row w q 53 #[.int .i64 size, .int .i64 life, v] ∧ OwnsEn w ok v es
  ltq : ¬ ok q
  ltb : ∀ g, w.heap.size ≤ g → ok g
theorem RT.keep {w w' : World} {q size life : Nat} {ok : Nat → Prop} {es : List En} (h : RT w q ok size life es) {S : Nat → Prop} (k : Only S w w') (hq : ¬ S q) (hb : ∀ g, ok g → ¬ S g) : RT w' q ok size life es := by
  obtain ⟨⟨v, r, o⟩, l1, l2⟩ := h
  exact ⟨⟨v, k.row r hq, o.keep k hb⟩, l1, fun g hg => l2 g (Nat.le_trans k.size hg)⟩
theorem RT.still {w w' : World} {q size life : Nat} {ok : Nat → Prop} {es : List En} (h : RT w q ok size life es) (k : Only none_ w w') : RT w' q ok size life es := h.keep k (fun s => s) (fun _ _ s => s)
theorem RT.lt {w : World} {q size life : Nat} {ok : Nat → Prop} {es : List En} (h : RT w q ok size life es) : q < w.heap.size := by
  obtain ⟨⟨v, r, o⟩, l1, l2⟩ := h
  exact r.lt
theorem RT.mono {w : World} {q size life : Nat} {ok ok' : Nat → Prop} {es : List En} (h : RT w q ok size life es) (k : ∀ g, g < w.heap.size → ok g → ok' g) (hq : ¬ ok' q) (hn : ∀ g, w.heap.size ≤ g → ok' g) : RT w q ok' size life es := by
  obtain ⟨⟨v, r, o⟩, l1, l2⟩ := h
  exact ⟨⟨v, r, o.1, fun g hg => k g (o.lt hg) (o.2 g hg)⟩, hq, hn⟩

theorem may8_any (size life : Int) (w : World) :
    Calls Try.prog 25 #[.int .i64 size, .int .i64 life] w fun e w' => e = .returned (.bool (decide (1 ≤ size ∧ size ≤ 32 ∧ 1 ≤ life ∧ life ≤ 64))) ∧ w = w' := by
  by_cases h1 : 1 ≤ size
  · have d1 : decide (1 ≤ size) = true := by simpa using h1
    by_cases h2 : size ≤ 32
    · have d2 : decide (size ≤ 32) = true := by simpa using h2
      by_cases h3 : 1 ≤ life
      · have d3 : decide (1 ≤ life) = true := by simpa using h3
        by_cases h4 : life ≤ 64
        · have d4 : decide (life ≤ 64) = true := by simpa using h4
          rw [show decide (1 ≤ size ∧ size ≤ 32 ∧ 1 ≤ life ∧ life ≤ 64) = true by simp [h1, h2, h3, h4]]
          clear h1 h2 h3 h4
          go_enter Try.func25, Try.ntmps25
          go_wp2
          go_ret
          exact ⟨rfl, rfl⟩
        · have d4 : decide (life ≤ 64) = false := by simpa using h4
          rw [show decide (1 ≤ size ∧ size ≤ 32 ∧ 1 ≤ life ∧ life ≤ 64) = false by simp [h4]]
          clear h1 h2 h3 h4
          go_enter Try.func25, Try.ntmps25
          go_wp2
          go_ret
          exact ⟨rfl, rfl⟩
      · have d3 : decide (1 ≤ life) = false := by simpa using h3
        rw [show decide (1 ≤ size ∧ size ≤ 32 ∧ 1 ≤ life ∧ life ≤ 64) = false by simp [h3]]
        clear h1 h2 h3
        go_enter Try.func25, Try.ntmps25
        go_wp2
        go_ret
        exact ⟨rfl, rfl⟩
    · have d2 : decide (size ≤ 32) = false := by simpa using h2
      rw [show decide (1 ≤ size ∧ size ≤ 32 ∧ 1 ≤ life ∧ life ≤ 64) = false by simp [h2]]
      clear h1 h2
      go_enter Try.func25, Try.ntmps25
      go_wp2
      go_ret
      exact ⟨rfl, rfl⟩
  · have d1 : decide (1 ≤ size) = false := by simpa using h1
    rw [show decide (1 ≤ size ∧ size ≤ 32 ∧ 1 ≤ life ∧ life ≤ 64) = false by simp [h1]]
    clear h1
    go_enter Try.func25, Try.ntmps25
    go_wp2
    go_ret
    exact ⟨rfl, rfl⟩

theorem rnew8_any (size life : Nat) (w : World) :
    Calls Try.prog 26 #[.int .i64 size, .int .i64 life] w fun e w' => ∃ q, e = .returned (.pointer (some ⟨q, 0, none⟩)) ∧ RT w' q (fun g => q < g) size life [] ∧ w.heap.size ≤ q ∧ Only none_ w w' := by
  go_enter Try.func26, Try.ntmps26
  go_wp2
  go_ret
  have r1 := Row.fresh w 53 #[.int .i64 size, .int .i64 life, .slice none 0 0]
  exact ⟨w.heap.size, rfl, ⟨⟨_, r1, OwnsEn.start _ _⟩, Nat.lt_irrefl _, fun g hg => by simp at hg; omega⟩, Nat.le_refl _, (Only.refl _ _).alloc _⟩

theorem atI_at {es : List En} {x : Int} {k : Nat} {e : En} (h : es[k]? = some e) (hx : e.next = x) (hb : ∀ j a, j < k → es[j]? = some a → a.next ≠ x) : atI es x = k := by
  have hk := lt_of_get h
  have hm : e ∈ es := List.mem_of_getElem? h
  unfold atI
  rw [if_pos (hasE_iff.2 ⟨e, hm, hx⟩)]
  have : atE es x = k := by
    unfold atE
    rw [List.findIdx_eq hk]
    rw [List.getElem?_eq_getElem hk] at h
    injection h with h
    refine ⟨by rw [h]; simp [hx], fun j hj => ?_⟩
    have := hb j es[j] hj (List.getElem?_eq_getElem (by omega))
    simpa using this
  rw [this]
theorem atI_no {es : List En} {x : Int} (hb : ∀ (j : Nat) (a : En), es[j]? = some a → a.next ≠ x) : atI es x = -1 := by
  unfold atI
  rw [if_neg]
  intro h
  obtain ⟨e, he, hx⟩ := hasE_iff.1 h
  obtain ⟨j, hj, rfl⟩ := List.getElem_of_mem he
  exact hb j _ (List.getElem?_eq_getElem hj) hx

set_option maxHeartbeats 1000000 in
theorem at8_any (q size life : Nat) (ok : Nat → Prop) (es : List En) (x : Int) (w : World) (h : RT w q ok size life es) (hl : es.length ≤ 1000) :
    Calls Try.prog 49 #[.pointer (some ⟨q, 0, none⟩), .int .i64 x] w fun e w' => e = .returned (.int .i64 (atI es x)) ∧ w = w' := by
  obtain ⟨⟨v, r, o⟩, l1, l2⟩ := h
  obtain ⟨A, cap, rfl, ha, _⟩ := o.form
  have HA := Lib.hid ha
  have c2 : w.cell? ⟨q, 2, none⟩ = some (.slice A es.length cap) := by rw [r.cell]; rfl
  clear r o l1 l2 ha
  go_enter Try.func49, Try.ntmps49
  go_wp2_with fail
  go_loop [5] (fun i => ∃ k : Nat, k ≤ es.length ∧ i = .int .i64 k ∧ ∀ j a, j < k → es[j]? = some a → a.next ≠ x) (fun i => es.length - (intOf i).toNat)
  case atStart => exact ⟨0, Nat.zero_le _, rfl, fun j a hj => by omega⟩
  case round =>
    obtain ⟨k, hk, rfl, hn⟩ := hrel
    have HN := Lib.hid hn
    clear hn
    by_cases hlt : k < es.length
    · obtain ⟨y, hy⟩ : ∃ y, es[k]? = some y := ⟨_, List.getElem?_eq_getElem hlt⟩
      obtain ⟨g1, o1, rfl, lt1, c1⟩ := HA.out k y hy
      have c0 : w.cell? ⟨g1, o1 + k * 2, none⟩ = some (.int .i64 y.next) := c1 0 (.int .i64 y.next) rfl
      have HY := Lib.hid hy
      clear hy c1
      by_cases e : y.next = x
      · have t : (y.next == x) = true := by simp [e]
        have FE := Lib.hid (atI_at HY.out e HN.out)
        clear e
        go_wp2_with fail
        go_ret
        exact ⟨by rw [FE.out]; rfl, rfl⟩
      · have t : (y.next == x) = false := by simpa using e
        have NX := Lib.hid (show ∀ j a, j < k + 1 → es[j]? = some a → a.next ≠ x from fun j a hj ha => by
          by_cases q : j = k
          · subst q; rw [HY.out] at ha; injection ha with ha; subst ha; exact e
          · exact HN.out j a (by omega) ha)
        clear e
        go_wp2_with fail
        go_round
        case rel => exact ⟨k + 1, by omega, by go_num, NX.out⟩
        case measure => simp [intOf]; omega
    · have hge : es.length ≤ k := by omega
      have FE := Lib.hid (atI_no (es := es) (x := x) (fun j a ha => HN.out j a (Nat.lt_of_lt_of_le (lt_of_get ha) hge) ha))
      go_wp2_with fail
      go_ret
      exact ⟨by rw [FE.out]; rfl, rfl⟩
end Go.Proofs.Ytfmmmiiohaaegaa
