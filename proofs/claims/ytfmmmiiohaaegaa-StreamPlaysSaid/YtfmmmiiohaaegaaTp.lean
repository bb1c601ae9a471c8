/- A table of what is expected: in memory. -/
import Derived.Test.YtfmmmiiohaaegaaTap
import Derived.Test.YtfmmmiiohaaegaaOwn
import Derived.Maps.RangeWalk
import Derived.Maps.OwnSet
import Derived.Maps.OwnOps
import Derived.Test.YtfmmmiiohaaegaaProg
namespace Go.Proofs.Ytfmmmiiohaaegaa
open Go.RowKit Go.Maps
set_option linter.unusedVariables false

theorem lawI : Keyed Try.prog 3 := int_keyed Try.underlying3
theorem zeroI (w : World) : (zeroValue 3).run Try.prog w = .ok (.int .i64 0) w := by kernel_rfl
theorem keyI (x : Int) : WideAt.IsKeyLit (.int .i64 x) := trivial

/-- what a map reads as: of each block that is expected the look at which it was noted -/
def Reads8 (D : DataW Unit) (L : Int) (es : List En) : Prop := (∀ x, has D (.int .i64 x) = hasE es x) ∧ ∀ e ∈ es, ∀ z, D.atKey (.int .i64 e.next) z = .lit (.int .i64 (L - e.age))

theorem Reads8.nil (L : Int) : Reads8 (.map []) L [] := ⟨fun _ => rfl, fun _ h => by cases h⟩
theorem has_cut (es : List En) (x y : Int) : hasE (cut es x) y = (hasE es y && !(y == x)) := by
  rw [Bool.eq_iff_iff]
  simp only [hasE_iff, Bool.and_eq_true]
  constructor
  · rintro ⟨e, he, rfl⟩
    have := List.mem_filter.1 he
    exact ⟨⟨e, this.1, rfl⟩, this.2⟩
  · rintro ⟨⟨e, he, rfl⟩, k⟩
    exact ⟨e, List.mem_filter.2 ⟨he, k⟩, rfl⟩
theorem lit_ne {x y : Int} (h : y ≠ x) : (Lit.int .i64 y) ≠ Lit.int .i64 x := fun k => h (by injection k)
theorem Reads8.del {D : DataW Unit} {L : Int} {es : List En} (h : Reads8 D L es) (x : Int) : Reads8 (D.del (.int .i64 x)) L (cut es x) := by
  refine ⟨fun y => ?_, fun e he z => ?_⟩
  · rw [has_cut]
    by_cases k : y = x
    · subst k
      rw [has_del_same]
      simp
    · rw [has_del_other (lit_ne k), h.1]
      simp [k]
  · have he' := List.mem_filter.1 he
    have : e.next ≠ x := by simpa using he'.2
    rw [atKey_del_other (lit_ne this)]
    exact h.2 e he'.1 z
theorem Reads8.put {D : DataW Unit} {L : Int} {es : List En} (h : Reads8 D L es) (m : IsMap D) (x : Int) (hx : ∀ e ∈ es, e.next ≠ x) : Reads8 (D.put (.int .i64 x) (.lit (.int .i64 L))) L (⟨x, 0⟩ :: es) := by
  refine ⟨fun y => ?_, fun e he z => ?_⟩
  · by_cases k : y = x
    · subst k
      rw [has_put_same m (keyI _)]
      simp [hasE]
    · rw [has_put_other (lit_ne k), h.1]
      have : (x == y) = false := by simp; exact fun q => k q.symm
      simp [hasE, this]
  · rcases List.mem_cons.1 he with rfl | he'
    · rw [atKey_put_same m (keyI _)]
      simp
    · rw [atKey_put_other (lit_ne (hx e he'))]
      exact h.2 e he' z
/-- over one that is there -/
theorem Reads8.over {D : DataW Unit} {L : Int} {es : List En} (h : Reads8 D L es) (m : IsMap D) (x : Int) : Reads8 (D.put (.int .i64 x) (.lit (.int .i64 L))) L (⟨x, 0⟩ :: cut es x) := by
  have hx : ∀ e ∈ cut es x, e.next ≠ x := fun e he => by simpa using (List.mem_filter.1 he).2
  refine ⟨fun y => ?_, fun e he z => ?_⟩
  · by_cases k : y = x
    · subst k
      rw [has_put_same m (keyI _)]
      simp [hasE]
    · rw [has_put_other (lit_ne k), h.1]
      have q : (x == y) = false := by simp; exact fun q => k q.symm
      have : hasE (⟨x, 0⟩ :: cut es x) y = hasE (cut es x) y := by unfold hasE; rw [List.any_cons]; simp [q]
      rw [this, has_cut]
      simp [k]
  · rcases List.mem_cons.1 he with rfl | he'
    · rw [atKey_put_same m (keyI _)]
      simp
    · rw [atKey_put_other (lit_ne (hx e he'))]
      exact h.2 e (List.mem_filter.1 he').1 z
theorem Reads8.older {D : DataW Unit} {L : Int} {es : List En} {life : Nat} (h : Reads8 D L (es.filter (fun e => decide (e.age + 1 ≤ life)))) : Reads8 D (L + 1) (older life es) := by
  unfold Go.Proofs.Ytfmmmiiohaaegaa.older
  generalize es.filter (fun e => decide (e.age + 1 ≤ life)) = fs at *
  refine ⟨fun x => ?_, fun e he z => ?_⟩
  · rw [h.1]
    unfold hasE
    rw [List.any_map]
    rfl
  · obtain ⟨a, ha, rfl⟩ := List.mem_map.1 he
    have := h.2 a ha z
    show D.atKey (.int .i64 a.next) z = .lit (.int .i64 (L + 1 - ((a.age + 1 : Nat) : Int)))
    rw [this]
    congr 2
    omega

/-- every key is a number -/
theorem key_int {w : World} {b n : Nat} {D : DataW Unit} (h : w.ownsMap Try.prog 3 (plainElem Try.prog 3) b n D) : ∀ kl, has D kl = true → ∃ x, kl = .int .i64 x := by
  intro kl hk
  obtain ⟨es, clock, hb, F, _, rfl⟩ := h
  obtain ⟨p, hp, hpk⟩ := List.any_eq_true.1 hk
  obtain ⟨x, hx, rfl⟩ := List.mem_map.1 (mem_sorted.1 hp)
  obtain ⟨y, hy⟩ := F.reads x hx
  rw [WideElems.rg_of hy] at hpk
  obtain ⟨a, _, e2, _⟩ := keyOf_int_inv Try.underlying3 (WideElems.rd_key hy)
  have := WideAt.sameKey_eq hpk
  exact ⟨a, by rw [← this, e2]⟩
theorem tight {w : World} {b n : Nat} {D : DataW Unit} (h : w.ownsMap Try.prog 3 (plainElem Try.prog 3) b n D) : w.ownsMap Try.prog 3 (plainElem Try.prog 3) b (size D) D := by
  obtain ⟨es, clock, hb, F, _, rfl⟩ := h
  exact ⟨es, clock, hb, F, by rw [size_eq, length_sorted]; simp, rfl⟩

theorem sub_len {α : Type} [DecidableEq α] : ∀ (l l' : List α), l.Nodup → (∀ x ∈ l, x ∈ l') → l.length ≤ l'.length
  | [], _, _, _ => Nat.zero_le _
  | a :: r, l', hn, hs => by
    obtain ⟨h1, h2⟩ := List.nodup_cons.1 hn
    have ha : a ∈ l' := hs a (by simp)
    have := sub_len r (l'.erase a) h2 (fun x hx => by
      have hx' : x ∈ l' := hs x (by simp [hx])
      exact (List.mem_erase_of_ne (fun q => h1 (by rw [← q]; exact hx))).2 hx')
    rw [List.length_erase_of_mem ha] at this
    have : 0 < l'.length := List.length_pos_of_mem ha
    simp only [List.length_cons]
    omega
theorem same_len {α : Type} [DecidableEq α] {l l' : List α} (h : l.Nodup) (h' : l'.Nodup) (k : ∀ x, x ∈ l ↔ x ∈ l') : l.length = l'.length :=
  Nat.le_antisymm (sub_len l l' h (fun x hx => (k x).1 hx)) (sub_len l' l h' (fun x hx => (k x).2 hx))
theorem nexts_nodup {es : List En} (h : es.Pairwise (fun a b => a.next ≠ b.next)) : (es.map (fun e => e.next)).Nodup := by
  unfold List.Nodup
  rw [List.pairwise_map]
  exact h
theorem Reads8.size {w : World} {b n : Nat} {D : DataW Unit} {L : Int} {es : List En} (h : Reads8 D L es) (o : w.ownsMap Try.prog 3 (plainElem Try.prog 3) b n D) (hn : es.Pairwise (fun a b => a.next ≠ b.next)) : size D = es.length := by
  have KI := key_int o
  obtain ⟨ps, rfl, hp, hk⟩ := o.entries lawI
  show ps.length = es.length
  have e1 : (ps.map (fun p => match p.1 with | .int .i64 x => x | _ => 0)).length = ps.length := List.length_map _
  have e2 : (es.map (fun e => e.next)).length = es.length := List.length_map _
  rw [← e1, ← e2]
  have hi : ∀ p ∈ ps, ∃ x, p.1 = .int .i64 x := fun p hp' => KI p.1 (List.any_eq_true.2 ⟨p, hp', WideAt.sameKey_self (hk p hp')⟩)
  refine same_len ?_ (nexts_nodup hn) ?_
  · unfold List.Nodup
    rw [List.pairwise_map]
    refine hp.imp_of_mem ?_
    intro p q hp1 hq1 hne e
    obtain ⟨x, hx⟩ := hi p hp1
    obtain ⟨y, hy⟩ := hi q hq1
    simp only [hx, hy] at e
    exact hne (by rw [hx, hy, e])
  · intro x
    have h1 := h.1 x
    constructor
    · intro hm
      obtain ⟨p, hp1, e⟩ := List.mem_map.1 hm
      obtain ⟨y, hy⟩ := hi p hp1
      simp only [hy] at e
      subst e
      have : has (DataW.map ps) (.int .i64 y) = true := List.any_eq_true.2 ⟨p, hp1, by rw [hy]; exact WideAt.sameKey_self (keyI _)⟩
      rw [h1] at this
      obtain ⟨a, ha, e⟩ := hasE_iff.1 this
      exact List.mem_map.2 ⟨a, ha, e⟩
    · intro hm
      obtain ⟨a, ha, e⟩ := List.mem_map.1 hm
      rw [hasE_iff.2 ⟨a, ha, e⟩] at h1
      obtain ⟨p, hp1, hpk⟩ := List.any_eq_true.1 h1
      have := WideAt.sameKey_eq hpk
      exact List.mem_map.2 ⟨p, hp1, by simp only [this]⟩

/-- block b is a map that has just these entries -/
def Md (w : World) (b : Nat) (L : Int) (es : List En) : Prop := ∃ D, w.ownsMap Try.prog 3 (plainElem Try.prog 3) b es.length D ∧ Reads8 D L es
theorem Md.of {w : World} {b n : Nat} {D : DataW Unit} {L : Int} {es : List En} (o : w.ownsMap Try.prog 3 (plainElem Try.prog 3) b n D) (h : Reads8 D L es) (hn : es.Pairwise (fun a b => a.next ≠ b.next)) : Md w b L es :=
  ⟨D, by rw [← h.size o hn]; exact tight o, h⟩
theorem owns_keep {w w' : World} {b n : Nat} {D : DataW Unit} (h : w.ownsMap Try.prog 3 (plainElem Try.prog 3) b n D) {S : Nat → Prop} (o : Only S w w') (hn : ¬ S b) : w'.ownsMap Try.prog 3 (plainElem Try.prog 3) b n D := by
  have lt := h.lt
  obtain ⟨es, clock, hb, r⟩ := h
  exact ⟨es, clock, (o.block b lt hn).trans hb, r⟩
theorem Md.keep {w w' : World} {b : Nat} {L : Int} {es : List En} (h : Md w b L es) {S : Nat → Prop} (o : Only S w w') (hn : ¬ S b) : Md w' b L es := by
  obtain ⟨D, h1, h2⟩ := h
  exact ⟨D, owns_keep h1 o hn, h2⟩
theorem Md.lt {w : World} {b : Nat} {L : Int} {es : List En} (h : Md w b L es) : b < w.heap.size := by
  obtain ⟨D, h1, _⟩ := h
  exact h1.lt
theorem Md.ne {w : World} {p b : Nat} {L : Int} {es : List En} {t : TypeId} {cs : Array Value} (h : Md w b L es) (r : Row w p t cs) : p ≠ b := by
  rintro rfl
  obtain ⟨D, ⟨es, clock, hb, _⟩, _⟩ := h
  unfold Row at r
  rw [r] at hb
  cases hb
theorem only_turned {w w' : World} {b : Nat} (h : w.mapTurned w' b) : Only (fun k => k = b) w w' := (Only.of_grown h.grown).more (fun i _ e => by injection e)

/-- a table: at block p, its map at block b, behind L looks -/
structure Tb (w : World) (p b L size life : Nat) (es : List En) : Prop where
  row : Row w p 88 #[.int .i64 size, .int .i64 life, .int .i64 L, .map (some b)]
  md : Md w b L es
  fine : Fine8 size life es
/-- what may turn in it -/
abbrev two8 (p b : Nat) : Nat → Prop := fun k => k = p ∨ k = b
theorem Tb.keep {w w' : World} {p b L size life : Nat} {es : List En} (h : Tb w p b L size life es) {S : Nat → Prop} (o : Only S w w') (hp : ¬ S p) (hb : ¬ S b) : Tb w' p b L size life es :=
  ⟨o.row h.row hp, h.md.keep o hb, h.fine⟩
theorem Tb.still {w w' : World} {p b L size life : Nat} {es : List En} (h : Tb w p b L size life es) (o : Only none_ w w') : Tb w' p b L size life es := h.keep o (fun s => s) (fun s => s)
theorem Tb.ne {w : World} {p b L size life : Nat} {es : List En} (h : Tb w p b L size life es) : p ≠ b := h.md.ne h.row
theorem Tb.lt {w : World} {p b L size life : Nat} {es : List En} (h : Tb w p b L size life es) : p < w.heap.size ∧ b < w.heap.size := ⟨h.row.lt, h.md.lt⟩

def Makes8 (size life : Nat) (w : World) (e : Ending) (w' : World) : Prop := ∃ p b, e = .returned (.tuple #[.pointer (some ⟨p, 0, none⟩), .int .i64 0]) ∧ Tb w' p b 0 size life [] ∧ w.heap.size ≤ p ∧ w.heap.size ≤ b ∧ Only none_ w w'

set_option maxHeartbeats 1000000 in
theorem new8_yes (size life : Nat) (w : World) (h1 : 1 ≤ size) (h2 : size ≤ 32) (h3 : 1 ≤ life) (h4 : life ≤ 64) :
    Calls Try.prog 24 #[.int .i64 size, .int .i64 life] w (Makes8 size life w) := by
  have hmm := @run_makeMap Try.prog
  have d1 : decide ((size : Int) < 1) = false := by simp; omega
  have d2 : decide ((32 : Int) < (size : Int)) = false := by simp; omega
  have d3 : decide ((life : Int) < 1) = false := by simp; omega
  have d4 : decide ((64 : Int) < (life : Int)) = false := by simp; omega
  have HF := Lib.hid (nil_fine h1 h2 h3 h4)
  clear h1 h2 h3 h4
  go_enter Try.func24, Try.ntmps24
  go_wp2
  go_ret2
  have o0 := World.ownsMap_made (H := Unit) w Try.prog 3 (plainElem Try.prog 3)
  have r1 := Row.fresh (w.alloc (.map #[] 0)) 88 #[.int .i64 size, .int .i64 life, .int .i64 0, .map (some w.heap.size)]
  simp only [World.size_alloc] at r1
  refine ⟨w.heap.size + 1, w.heap.size, rfl, ⟨r1, ⟨_, o0.alloc _, Reads8.nil _⟩, HF.out⟩, by omega, Nat.le_refl _, ((Only.refl _ _).alloc _).alloc _⟩

theorem new8_no (size life : Int) (w : World) (h : ¬ (1 ≤ size ∧ size ≤ 32 ∧ 1 ≤ life ∧ life ≤ 64)) :
    Calls Try.prog 24 #[.int .i64 size, .int .i64 life] w fun e w' => e = .returned (.tuple #[.pointer none, .int .i64 1]) ∧ w = w' := by
  by_cases h1 : size < 1
  · have d1 : decide (size < 1) = true := by simpa using h1
    clear h h1
    go_enter Try.func24, Try.ntmps24
    go_wp2
    go_ret2
    exact ⟨rfl, rfl⟩
  · have d1 : decide (size < 1) = false := by simpa using h1
    by_cases h2 : 32 < size
    · have d2 : decide (32 < size) = true := by simpa using h2
      clear h h1 h2
      go_enter Try.func24, Try.ntmps24
      go_wp2
      go_ret2
      exact ⟨rfl, rfl⟩
    · have d2 : decide (32 < size) = false := by simpa using h2
      by_cases h3 : life < 1
      · have d3 : decide (life < 1) = true := by simpa using h3
        clear h h1 h2 h3
        go_enter Try.func24, Try.ntmps24
        go_wp2
        go_ret2
        exact ⟨rfl, rfl⟩
      · have d3 : decide (life < 1) = false := by simpa using h3
        have d4 : decide (64 < life) = true := by simp; omega
        clear h h1 h2 h3
        go_enter Try.func24, Try.ntmps24
        go_wp2
        go_ret2
        exact ⟨rfl, rfl⟩

theorem age_any (p b : Nat) (size life L x : Int) (w : World) (r : Row w p 88 #[.int .i64 size, .int .i64 life, .int .i64 L, .map (some b)]) :
    Calls Try.prog 53 #[.pointer (some ⟨p, 0, none⟩), .int .i64 x] w fun e w' => e = .returned (.int .i64 (wrap64 (L - x))) ∧ w = w' := by
  have c : w.cell? ⟨p, 2, none⟩ = some (.int .i64 L) := by rw [r.cell]; rfl
  clear r
  go_enter Try.func53, Try.ntmps53
  go_wp2
  go_ret
  exact ⟨rfl, rfl⟩
end Go.Proofs.Ytfmmmiiohaaegaa
