/- Texts of the layers below, one behind the other. -/
import Derived.Test.YtlfnncahhbbmpaaGreatDoorQD
import Derived.Test.YtlfnncahhbbmpaaGreatDoorQA
import Derived.Maps.RangeWalk
import Derived.Maps.OwnSet
import Derived.Maps.OwnOps
import Derived.Test.YtlfnncahhbbmpaaGreatDoorProg
import Derived.Test.YtlfnncahhbbmpaaGreatDoorShelf
import Derived.Deep.RegionLaw
namespace Go.Proofs.YtlfnncahhbbmpaaGreatDoor
open Go.RowKit Go.Maps
set_option linter.unusedVariables false
set_option maxRecDepth 100000

theorem lawI : Keyed Tryz.prog 3 := int_keyed Tryz.underlying3
theorem zeroI (w : World) : (zeroValue 3).run Tryz.prog w = .ok (.int .i64 0) w := by kernel_rfl
theorem keyI (x : Int) : WideAt.IsKeyLit (.int .i64 x) := trivial

/-- what a map reads as: of each block that is expected the look at which it was noted -/
def Reads8 (D : DataW Unit) (L : Int) (es : List En) : Prop := (∀ x, has D (.int .i64 x) = hasE es x) ∧ ∀ e ∈ es, ∀ z, D.atKey (.int .i64 e.next) z = .lit (.int .i64 (L - e.age))

theorem Reads8.nil (L : Int) : Reads8 (.map []) L [] := ⟨fun _ => rfl, fun _ h => by cases h⟩
theorem has_cut (es : List En) (x y : Int) : hasE (cut es x) y = (hasE es y && !(y == x)) := by
  rw [Bool.eq_iff_iff]
  simp only [hasE_iff, Bool.and_eq_true]
  constructor
  · rintro ⟨e, he, rfl⟩
    have := List.mem_filter.1 he
    exact ⟨⟨e, this.1, rfl⟩, this.2⟩
  · rintro ⟨⟨e, he, rfl⟩, k⟩
    exact ⟨e, List.mem_filter.2 ⟨he, k⟩, rfl⟩
theorem lit_ne {x y : Int} (h : y ≠ x) : (Lit.int .i64 y) ≠ Lit.int .i64 x := fun k => h (by injection k)
theorem Reads8.del {D : DataW Unit} {L : Int} {es : List En} (h : Reads8 D L es) (x : Int) : Reads8 (D.del (.int .i64 x)) L (cut es x) := by
  refine ⟨fun y => ?_, fun e he z => ?_⟩
  · rw [has_cut]
    by_cases k : y = x
    · subst k
      rw [has_del_same]
      simp
    · rw [has_del_other (lit_ne k), h.1]
      simp [k]
  · have he' := List.mem_filter.1 he
    have : e.next ≠ x := by simpa using he'.2
    rw [atKey_del_other (lit_ne this)]
    exact h.2 e he'.1 z
theorem Reads8.put {D : DataW Unit} {L : Int} {es : List En} (h : Reads8 D L es) (m : IsMap D) (x : Int) (hx : ∀ e ∈ es, e.next ≠ x) : Reads8 (D.put (.int .i64 x) (.lit (.int .i64 L))) L (⟨x, 0⟩ :: es) := by
  refine ⟨fun y => ?_, fun e he z => ?_⟩
  · by_cases k : y = x
    · subst k
      rw [has_put_same m (keyI _)]
      simp [hasE]
    · rw [has_put_other (lit_ne k), h.1]
      have : (x == y) = false := by simp; exact fun q => k q.symm
      simp [hasE, this]
  · rcases List.mem_cons.1 he with rfl | he'
    · rw [atKey_put_same m (keyI _)]
      simp
    · rw [atKey_put_other (lit_ne (hx e he'))]
      exact h.2 e he' z
/-- over one that is there -/
theorem Reads8.over {D : DataW Unit} {L : Int} {es : List En} (h : Reads8 D L es) (m : IsMap D) (x : Int) : Reads8 (D.put (.int .i64 x) (.lit (.int .i64 L))) L (⟨x, 0⟩ :: cut es x) := by
  have hx : ∀ e ∈ cut es x, e.next ≠ x := fun e he => by simpa using (List.mem_filter.1 he).2
  refine ⟨fun y => ?_, fun e he z => ?_⟩
  · by_cases k : y = x
    · subst k
      rw [has_put_same m (keyI _)]
      simp [hasE]
    · rw [has_put_other (lit_ne k), h.1]
      have q : (x == y) = false := by simp; exact fun q => k q.symm
      have : hasE (⟨x, 0⟩ :: cut es x) y = hasE (cut es x) y := by unfold hasE; rw [List.any_cons]; simp [q]
      rw [this, has_cut]
      simp [k]
  · rcases List.mem_cons.1 he with rfl | he'
    · rw [atKey_put_same m (keyI _)]
      simp
    · rw [atKey_put_other (lit_ne (hx e he'))]
      exact h.2 e (List.mem_filter.1 he').1 z
theorem Reads8.older {D : DataW Unit} {L : Int} {es : List En} {life : Nat} (h : Reads8 D L (es.filter (fun e => decide (e.age + 1 ≤ life)))) : Reads8 D (L + 1) (older life es) := by
  unfold Go.Proofs.YtlfnncahhbbmpaaGreatDoor.older
  generalize es.filter (fun e => decide (e.age + 1 ≤ life)) = fs at *
  refine ⟨fun x => ?_, fun e he z => ?_⟩
  · rw [h.1]
    unfold hasE
    rw [List.any_map]
    rfl
  · obtain ⟨a, ha, rfl⟩ := List.mem_map.1 he
    have := h.2 a ha z
    show D.atKey (.int .i64 a.next) z = .lit (.int .i64 (L + 1 - ((a.age + 1 : Nat) : Int)))
    rw [this]
    congr 2
    omega

/-- every key is a number -/
theorem key_int {w : World} {b n : Nat} {D : DataW Unit} (h : w.ownsMap Tryz.prog 3 (plainElem Tryz.prog 3) b n D) : ∀ kl, has D kl = true → ∃ x, kl = .int .i64 x := by
  intro kl hk
  obtain ⟨es, clock, hb, F, _, rfl⟩ := h
  obtain ⟨p, hp, hpk⟩ := List.any_eq_true.1 hk
  obtain ⟨x, hx, rfl⟩ := List.mem_map.1 (mem_sorted.1 hp)
  obtain ⟨y, hy⟩ := F.reads x hx
  rw [WideElems.rg_of hy] at hpk
  obtain ⟨a, _, e2, _⟩ := keyOf_int_inv Tryz.underlying3 (WideElems.rd_key hy)
  have := WideAt.sameKey_eq hpk
  exact ⟨a, by rw [← this, e2]⟩
theorem tight {w : World} {b n : Nat} {D : DataW Unit} (h : w.ownsMap Tryz.prog 3 (plainElem Tryz.prog 3) b n D) : w.ownsMap Tryz.prog 3 (plainElem Tryz.prog 3) b (size D) D := by
  obtain ⟨es, clock, hb, F, _, rfl⟩ := h
  exact ⟨es, clock, hb, F, by rw [size_eq, length_sorted]; simp, rfl⟩

theorem sub_len8 {α : Type} [DecidableEq α] : ∀ (l l' : List α), l.Nodup → (∀ x ∈ l, x ∈ l') → l.length ≤ l'.length
  | [], _, _, _ => Nat.zero_le _
  | a :: r, l', hn, hs => by
    obtain ⟨h1, h2⟩ := List.nodup_cons.1 hn
    have ha : a ∈ l' := hs a (by simp)
    have := sub_len8 r (l'.erase a) h2 (fun x hx => by
      have hx' : x ∈ l' := hs x (by simp [hx])
      exact (List.mem_erase_of_ne (fun q => h1 (by rw [← q]; exact hx))).2 hx')
    rw [List.length_erase_of_mem ha] at this
    have : 0 < l'.length := List.length_pos_of_mem ha
    simp only [List.length_cons]
    omega
theorem same_len8 {α : Type} [DecidableEq α] {l l' : List α} (h : l.Nodup) (h' : l'.Nodup) (k : ∀ x, x ∈ l ↔ x ∈ l') : l.length = l'.length :=
  Nat.le_antisymm (sub_len8 l l' h (fun x hx => (k x).1 hx)) (sub_len8 l' l h' (fun x hx => (k x).2 hx))
theorem nexts_nodup {es : List En} (h : es.Pairwise (fun a b => a.next ≠ b.next)) : (es.map (fun e => e.next)).Nodup := by
  unfold List.Nodup
  rw [List.pairwise_map]
  exact h
theorem Reads8.size {w : World} {b n : Nat} {D : DataW Unit} {L : Int} {es : List En} (h : Reads8 D L es) (o : w.ownsMap Tryz.prog 3 (plainElem Tryz.prog 3) b n D) (hn : es.Pairwise (fun a b => a.next ≠ b.next)) : size D = es.length := by
  have KI := key_int o
  obtain ⟨ps, rfl, hp, hk⟩ := o.entries lawI
  show ps.length = es.length
  have e1 : (ps.map (fun p => match p.1 with | .int .i64 x => x | _ => 0)).length = ps.length := List.length_map _
  have e2 : (es.map (fun e => e.next)).length = es.length := List.length_map _
  rw [← e1, ← e2]
  have hi : ∀ p ∈ ps, ∃ x, p.1 = .int .i64 x := fun p hp' => KI p.1 (List.any_eq_true.2 ⟨p, hp', WideAt.sameKey_self (hk p hp')⟩)
  refine same_len8 ?_ (nexts_nodup hn) ?_
  · unfold List.Nodup
    rw [List.pairwise_map]
    refine hp.imp_of_mem ?_
    intro p q hp1 hq1 hne e
    obtain ⟨x, hx⟩ := hi p hp1
    obtain ⟨y, hy⟩ := hi q hq1
    simp only [hx, hy] at e
    exact hne (by rw [hx, hy, e])
  · intro x
    have h1 := h.1 x
    constructor
    · intro hm
      obtain ⟨p, hp1, e⟩ := List.mem_map.1 hm
      obtain ⟨y, hy⟩ := hi p hp1
      simp only [hy] at e
      subst e
      have : has (DataW.map ps) (.int .i64 y) = true := List.any_eq_true.2 ⟨p, hp1, by rw [hy]; exact WideAt.sameKey_self (keyI _)⟩
      rw [h1] at this
      obtain ⟨a, ha, e⟩ := hasE_iff.1 this
      exact List.mem_map.2 ⟨a, ha, e⟩
    · intro hm
      obtain ⟨a, ha, e⟩ := List.mem_map.1 hm
      rw [hasE_iff.2 ⟨a, ha, e⟩] at h1
      obtain ⟨p, hp1, hpk⟩ := List.any_eq_true.1 h1
      have := WideAt.sameKey_eq hpk
      exact List.mem_map.2 ⟨p, hp1, by simp only [this]⟩

/-- block b is a map that has just these entries -/
def Md (w : World) (b : Nat) (L : Int) (es : List En) : Prop := ∃ D, w.ownsMap Tryz.prog 3 (plainElem Tryz.prog 3) b es.length D ∧ Reads8 D L es
theorem Md.of {w : World} {b n : Nat} {D : DataW Unit} {L : Int} {es : List En} (o : w.ownsMap Tryz.prog 3 (plainElem Tryz.prog 3) b n D) (h : Reads8 D L es) (hn : es.Pairwise (fun a b => a.next ≠ b.next)) : Md w b L es :=
  ⟨D, by rw [← h.size o hn]; exact tight o, h⟩
theorem owns_keep {w w' : World} {b n : Nat} {D : DataW Unit} (h : w.ownsMap Tryz.prog 3 (plainElem Tryz.prog 3) b n D) {S : Nat → Prop} (o : Only S w w') (hn : ¬ S b) : w'.ownsMap Tryz.prog 3 (plainElem Tryz.prog 3) b n D := by
  have lt := h.lt
  obtain ⟨es, clock, hb, r⟩ := h
  exact ⟨es, clock, (o.block b lt hn).trans hb, r⟩
theorem Md.keep {w w' : World} {b : Nat} {L : Int} {es : List En} (h : Md w b L es) {S : Nat → Prop} (o : Only S w w') (hn : ¬ S b) : Md w' b L es := by
  obtain ⟨D, h1, h2⟩ := h
  exact ⟨D, owns_keep h1 o hn, h2⟩
theorem Md.lt {w : World} {b : Nat} {L : Int} {es : List En} (h : Md w b L es) : b < w.heap.size := by
  obtain ⟨D, h1, _⟩ := h
  exact h1.lt
theorem Md.ne {w : World} {p b : Nat} {L : Int} {es : List En} {t : TypeId} {cs : Array Value} (h : Md w b L es) (r : Row w p t cs) : p ≠ b := by
  rintro rfl
  obtain ⟨D, ⟨es, clock, hb, _⟩, _⟩ := h
  unfold Row at r
  rw [r] at hb
  cases hb
theorem only_turned {w w' : World} {b : Nat} (h : w.mapTurned w' b) : Only (fun k => k = b) w w' := (Only.of_grown h.grown).more (fun i _ e => by injection e)

/-- a table: at block p, its map at block b, behind L looks -/
structure Tb (w : World) (p b L size life : Nat) (es : List En) : Prop where
  row : Row w p 133 #[.int .i64 size, .int .i64 life, .int .i64 L, .map (some b)]
  md : Md w b L es
  fine : Fine8 size life es
/-- what may turn in it -/
abbrev two8 (p b : Nat) : Nat → Prop := fun k => k = p ∨ k = b
theorem Tb.keep {w w' : World} {p b L size life : Nat} {es : List En} (h : Tb w p b L size life es) {S : Nat → Prop} (o : Only S w w') (hp : ¬ S p) (hb : ¬ S b) : Tb w' p b L size life es :=
  ⟨o.row h.row hp, h.md.keep o hb, h.fine⟩
theorem Tb.still {w w' : World} {p b L size life : Nat} {es : List En} (h : Tb w p b L size life es) (o : Only none_ w w') : Tb w' p b L size life es := h.keep o (fun s => s) (fun s => s)
theorem Tb.ne {w : World} {p b L size life : Nat} {es : List En} (h : Tb w p b L size life es) : p ≠ b := h.md.ne h.row
theorem Tb.lt {w : World} {p b L size life : Nat} {es : List En} (h : Tb w p b L size life es) : p < w.heap.size ∧ b < w.heap.size := ⟨h.row.lt, h.md.lt⟩

def Makes8 (size life : Nat) (w : World) (e : Ending) (w' : World) : Prop := ∃ p b, e = .returned (.tuple #[.pointer (some ⟨p, 0, none⟩), .int .i64 0]) ∧ Tb w' p b 0 size life [] ∧ w.heap.size ≤ p ∧ w.heap.size ≤ b ∧ Only none_ w w'

set_option maxHeartbeats 1000000 in
theorem new8_yes (size life : Nat) (w : World) (h1 : 1 ≤ size) (h2 : size ≤ 32) (h3 : 1 ≤ life) (h4 : life ≤ 64) :
    Calls Tryz.prog 42 #[.int .i64 size, .int .i64 life] w (Makes8 size life w) := by
  have hmm := @run_makeMap Tryz.prog
  have d1 : decide ((size : Int) < 1) = false := by simp; omega
  have d2 : decide ((32 : Int) < (size : Int)) = false := by simp; omega
  have d3 : decide ((life : Int) < 1) = false := by simp; omega
  have d4 : decide ((64 : Int) < (life : Int)) = false := by simp; omega
  have HF := Lib.hid (nil_fine h1 h2 h3 h4)
  clear h1 h2 h3 h4
  go_enter Tryz.func42, Tryz.ntmps42
  go_wp2
  go_ret2
  have o0 := World.ownsMap_made (H := Unit) w Tryz.prog 3 (plainElem Tryz.prog 3)
  have r1 := Row.fresh (w.alloc (.map #[] 0)) 133 #[.int .i64 size, .int .i64 life, .int .i64 0, .map (some w.heap.size)]
  simp only [World.size_alloc] at r1
  refine ⟨w.heap.size + 1, w.heap.size, rfl, ⟨r1, ⟨_, o0.alloc _, Reads8.nil _⟩, HF.out⟩, by omega, Nat.le_refl _, ((Only.refl _ _).alloc _).alloc _⟩

theorem new8_no (size life : Int) (w : World) (h : ¬ (1 ≤ size ∧ size ≤ 32 ∧ 1 ≤ life ∧ life ≤ 64)) :
    Calls Tryz.prog 42 #[.int .i64 size, .int .i64 life] w fun e w' => e = .returned (.tuple #[.pointer none, .int .i64 1]) ∧ w = w' := by
  by_cases h1 : size < 1
  · have d1 : decide (size < 1) = true := by simpa using h1
    clear h h1
    go_enter Tryz.func42, Tryz.ntmps42
    go_wp2
    go_ret2
    exact ⟨rfl, rfl⟩
  · have d1 : decide (size < 1) = false := by simpa using h1
    by_cases h2 : 32 < size
    · have d2 : decide (32 < size) = true := by simpa using h2
      clear h h1 h2
      go_enter Tryz.func42, Tryz.ntmps42
      go_wp2
      go_ret2
      exact ⟨rfl, rfl⟩
    · have d2 : decide (32 < size) = false := by simpa using h2
      by_cases h3 : life < 1
      · have d3 : decide (life < 1) = true := by simpa using h3
        clear h h1 h2 h3
        go_enter Tryz.func42, Tryz.ntmps42
        go_wp2
        go_ret2
        exact ⟨rfl, rfl⟩
      · have d3 : decide (life < 1) = false := by simpa using h3
        have d4 : decide (64 < life) = true := by simp; omega
        clear h h1 h2 h3
        go_enter Tryz.func42, Tryz.ntmps42
        go_wp2
        go_ret2
        exact ⟨rfl, rfl⟩

theorem age_any (p b : Nat) (size life L x : Int) (w : World) (r : Row w p 133 #[.int .i64 size, .int .i64 life, .int .i64 L, .map (some b)]) :
    Calls Tryz.prog 169 #[.pointer (some ⟨p, 0, none⟩), .int .i64 x] w fun e w' => e = .returned (.int .i64 (wrap64 (L - x))) ∧ w = w' := by
  have c : w.cell? ⟨p, 2, none⟩ = some (.int .i64 L) := by rw [r.cell]; rfl
  clear r
  go_enter Tryz.func169, Tryz.ntmps169
  go_wp2
  go_ret
  exact ⟨rfl, rfl⟩
end Go.Proofs.YtlfnncahhbbmpaaGreatDoor

namespace Go.Proofs.YtlfnncahhbbmpaaGreatDoor
open Go.RowKit Go.Maps
set_option linter.unusedVariables false
set_option maxRecDepth 100000

theorem key_eq (x y : Int) : (Lit.int .i64 x).sameKey (.int .i64 y) = (x == y) := by
  by_cases k : x = y
  · subst k
    rw [WideAt.sameKey_self (keyI x)]
    simp
  · rw [sameKey_ne (lit_ne k)]
    simp [k]
/-- who is there while the range is under way -/
def stay (life : Nat) (left : Lit → Bool) (e : En) : Bool := left (.int .i64 e.next) || decide (e.age + 1 ≤ life)
abbrev strike (left : Lit → Bool) (x : Int) : Lit → Bool := fun z => left z && !z.sameKey (.int .i64 x)

theorem stay_start {D : DataW Unit} {L : Int} {es : List En} (life : Nat) (h : Reads8 D L es) : es.filter (stay life (has D)) = es := by
  rw [List.filter_eq_self]
  intro e he
  unfold stay
  rw [h.1, hasE_iff.2 ⟨e, he, rfl⟩]
  rfl
theorem stay_end {left : Lit → Bool} (life : Nat) (es : List En) (h : ∀ kl, left kl = false) : es.filter (stay life left) = es.filter (fun e => decide (e.age + 1 ≤ life)) := by
  apply List.filter_congr
  intro e _
  unfold stay
  rw [h]
  rfl
theorem stay_keep {left : Lit → Bool} {life : Nat} {es : List En} {e : En} (hn : es.Pairwise (fun a b => a.next ≠ b.next)) (he : e ∈ es) (hy : e.age + 1 ≤ life) : es.filter (stay life (strike left e.next)) = es.filter (stay life left) := by
  apply List.filter_congr
  intro a ha
  unfold stay strike
  rw [key_eq]
  by_cases k : a.next = e.next
  · have := next_inj hn ha he k
    subst this
    simp [hy]
  · have kf : (a.next == e.next) = false := by simp [k]
    simp [kf]
theorem stay_cut {left : Lit → Bool} {life : Nat} {es : List En} {e : En} (hn : es.Pairwise (fun a b => a.next ≠ b.next)) (he : e ∈ es) (hy : ¬ e.age + 1 ≤ life) : es.filter (stay life (strike left e.next)) = cut (es.filter (stay life left)) e.next := by
  unfold cut
  rw [List.filter_filter]
  apply List.filter_congr
  intro a ha
  unfold stay strike
  rw [key_eq]
  by_cases k : a.next = e.next
  · have := next_inj hn ha he k
    subst this
    simp; omega
  · have kf : (a.next == e.next) = false := by simp [k]
    simp [kf]
/-- what the step hands out is an entry -/
theorem entry_of {D : DataW Unit} {L : Int} {es : List En} {x c : Int} (h : Reads8 D L es) (hat : ∀ zd, D.atKey (.int .i64 x) zd = .lit (.int .i64 c)) : ∃ e ∈ es, e.next = x ∧ c = L - e.age := by
  have := has_true_of_atKey hat
  rw [h.1] at this
  obtain ⟨e, he, rfl⟩ := hasE_iff.1 this
  refine ⟨e, he, rfl, ?_⟩
  have h2 := h.2 e he (.nil)
  rw [hat] at h2
  injection h2 with h2
  injection h2

theorem ranges_keep {w w' : World} {b r n : Nat} {D : DataW Unit} {left : Lit → Bool} {cnt : Nat} (h : w.ranges Tryz.prog 3 (plainElem Tryz.prog 3) b r n D left cnt) {S : Nat → Prop} (o : Only S w w') (hb : ¬ S b) (hr : ¬ S r) : w'.ranges Tryz.prog 3 (plainElem Tryz.prog 3) b r n D left cnt := by
  have l1 := h.owns.lt
  have l2 := h.lt
  obtain ⟨es, clock, since, seen, c0, h1, F, hs, hD, h2, rest⟩ := h
  exact ⟨es, clock, since, seen, c0, (o.block b l1 hb).trans h1, F, hs, hD, (o.block r l2 hr).trans h2, rest⟩

set_option maxHeartbeats 1000000 in
theorem grow_any (p b L size life : Nat) (es : List En) (w : World) (h : Tb w p b L size life es) (hL : L < 1000000) :
    Calls Tryz.prog 158 #[.pointer (some ⟨p, 0, none⟩)] w fun e w' => e = .returned (.tuple #[]) ∧ Tb w' p b (L + 1) size life (older life es) ∧ Only (two8 p b) w w' := by
  have F1 := Lib.hid h.fine
  have ne := h.ne
  obtain ⟨lp, lb⟩ := h.lt
  obtain ⟨r, ⟨D0, hown, hr0⟩, f⟩ := h
  have l64 := f.l64
  have c2 : w.cell? ⟨p, 2, none⟩ = some (.int .i64 L) := by rw [r.cell]; rfl
  have c3 : w.cell? ⟨p, 3, none⟩ = some (.map (some b)) := by rw [r.cell]; rfl
  have z := r.frozen
  have R1 := Lib.hid (r.put 2 (.int .i64 ((L : Int) + 1)))
  have OW := Lib.hid (show (w.setCell ⟨p, 2, none⟩ (.int .i64 ((L : Int) + 1))).ownsMap Tryz.prog 3 (plainElem Tryz.prog 3) b es.length D0 from owns_keep hown ((Only.refl (fun k => k = p) w).into rfl 2 _) (fun e => ne e.symm))
  have O1 := Lib.hid ((Only.refl (two8 p b) w).into (.inl rfl) 2 (.int .i64 ((L : Int) + 1)))
  have c3' : (w.setCell ⟨p, 2, none⟩ (.int .i64 ((L : Int) + 1))).cell? ⟨p, 3, none⟩ = some (.map (some b)) := by rw [R1.out.cell]; rfl
  have SZ := Lib.hid (show (w.setCell ⟨p, 2, none⟩ (.int .i64 ((L : Int) + 1))).heap.size = w.heap.size by simp [World.setCell])
  have HR0 := Lib.hid hr0
  have HN := Lib.hid f.apart
  have e1 : wrap64 ((L : Int) + 1) = ((L : Int) + 1) := by unfold wrap64; omega
  clear r hown hr0 f c3
  generalize hW : w.setCell ⟨p, 2, none⟩ (.int .i64 ((L : Int) + 1)) = W at *
  go_enter Tryz.func158, Tryz.ntmps158
  go_wp2_with (first
    | (at_range; refine wpList_range_own _ rfl _ 68 rfl 3 3 lawI Tryz.underlying68 _ b es.length D0 rfl (by first | exact OW.out | (rw [hW]; exact OW.out)) ?_; intro w0 hrg0 hg0 hs0)
    | go_in)
  have HG0 := Lib.hid hrg0
  have G0 := Lib.hid (show Only none_ W w0 from (Only.of_grown hg0).more (fun _ _ e => by cases e))
  clear hrg0 hg0
  have HS0 := Lib.hid hs0
  clear hs0
  go_frame
  go_loopw [2] (fun _ wr => ∃ (left : Lit → Bool) (cnt : Nat) (D : DataW Unit), wr.ranges Tryz.prog 3 (plainElem Tryz.prog 3) b W.heap.size es.length D left cnt ∧ Reads8 D L (es.filter (stay life left)) ∧ Row wr p 133 #[.int .i64 size, .int .i64 life, .int .i64 ((L : Int) + 1), .map (some b)] ∧ Only (two8 p b) w wr)
    (fun _ wr => wr.rangeLeft b W.heap.size)
  case atStart =>
    refine ⟨_, _, D0, HG0.out, ?_, G0.out.still R1.out, O1.out.idle G0.out⟩
    rw [stay_start life HR0.out]
    exact HR0.out
  case round =>
    obtain ⟨left, cnt, D, hrg, hrd, rw_, ow⟩ := hrel
    have RG := Lib.hid hrg
    have RD := Lib.hid hrd
    have RW := Lib.hid rw_
    have OO := Lib.hid ow
    clear hrd rw_ ow
    go_wp2_with (first
      | (at_next; refine wpList_next_ranges_ii _ rfl _ rfl 3 3 .i64 .i64 lawI Tryz.underlying3 Tryz.underlying3 b W.heap.size es.length _ _ _ rfl hrg ?_ ?_)
      | go_in)
    · intro _ hl0
      go_wp2
      go_end0
      have q := stay_end life es hl0
      rw [show ((L : Int) + 1) = ((L + 1 : Nat) : Int) by omega] at RW
      refine ⟨rfl, ⟨RW.out, ?_, older_fine F1.out⟩, OO.out⟩
      rw [show ((L + 1 : Nat) : Int) = (L : Int) + 1 by omega]
      have RD2 := RD.out
      rw [q] at RD2
      exact Md.of RG.out.owns RD2.older (older_good F1.out.toGood8).apart
    · intro x c w1 cnt1 hwx hwc hlx hat hrg1 hlt hg1 hs1 hen
      obtain ⟨e, he, rfl, rfl⟩ := entry_of RD.out hat
      have he' := (List.mem_filter.1 he).1
      have yo := F1.out.young e he'
      have G1 := Lib.hid (Only.of_grown hg1)
      have sz := SZ.out
      have ner : p ≠ W.heap.size := by omega
      have RW1 := Lib.hid (G1.out.row RW.out (fun q => ner (Option.some.inj q)))
      have O3 := Lib.hid (OO.out.trans G1.out (fun i hi q => by have := Option.some.inj q; omega))
      clear sz ner
      have A := Lib.hid (fun m => (age_any p b size life ((L : Int) + 1) ((L : Int) - e.age) (w1.drewN m) (RW1.out.drewN m)).mono (fun e w'' h => And.intro h.1 h.2.symm))
      rw [show wrap64 ((L : Int) + 1 - ((L : Int) - e.age)) = ((e.age + 1 : Nat) : Int) by unfold wrap64; omega] at A
      have c1 : w1.cell? ⟨p, 1, none⟩ = some (.int .i64 life) := by rw [RW1.out.cell]; rfl
      have c3 : w1.cell? ⟨p, 3, none⟩ = some (.map (some b)) := by rw [RW1.out.cell]; rfl
      have RG1 := Lib.hid (fun m => (show (w1.drewN m).ranges Tryz.prog 3 (plainElem Tryz.prog 3) b W.heap.size es.length D (strike left e.next) cnt1 from hrg1))
      have K1 := Lib.hid (fun hy => stay_keep (left := left) (life := life) F1.out.apart he' hy)
      have K2 := Lib.hid (fun hy => stay_cut (left := left) (life := life) F1.out.apart he' hy)
      clear hat he he' hlx G1
      generalize ha : e.age = ag at *
      generalize hn : e.next = nx at *
      by_cases hy : ag + 1 ≤ life
      · have d1 : decide ((life : Int) < (ag : Int) + 1) = false := by simp; omega
        clear hrg1
        go_wp2_with fail
        go_quiet ((go_at_call 169; exact Calls.quiet_of_same (A.out _)))
        go_wp2
        have K := K1.out hy
        go_roundw
        case rel => exact ⟨strike left nx, cnt1, D, RG1.out _, by rw [K]; exact RD.out, RW1.out.drewN _, O3.out.drewN _⟩
        case measure => rw [World.ranges.left_eq (RG1.out _), RG.out.left_eq]; exact hlt
      · have d1 : decide ((life : Int) < (ag : Int) + 1) = true := by simp; omega
        clear hrg1
        have K := K2.out hy
        go_wp2_with fail
        go_quiet ((go_at_call 169; exact Calls.quiet_of_same (A.out _)))
        go_wp2_with (first
          | (at_delete; refine wpList_delete_ranges _ rfl _ _ 68 3 rfl 3 lawI Tryz.underlying68 _ b W.heap.size es.length _ _ _ rfl (RG1.out _) _ _ rfl (keyOf_int_mk Tryz.underlying3 hwx) ?_; intro w2 cnt2 hrg2 hle hturn; go_frame)
          | go_in)
        rw [strike_twice] at hrg2
        have O4 := (O3.out.drewN _).trans (only_turned hturn) (fun i hi q => .inr q)
        have RW2 := (only_turned hturn).row (RW1.out.drewN _) ne
        go_roundw
        case rel => exact ⟨strike left nx, cnt2, _, hrg2, by rw [K]; exact RD.out.del nx, RW2, O4⟩
        case measure => rw [hrg2.left_eq, RG.out.left_eq]; omega
end Go.Proofs.YtlfnncahhbbmpaaGreatDoor

namespace Go.Proofs.YtlfnncahhbbmpaaGreatDoor
open Go.RowKit Go.Maps Go.Sort Go.Shelf
set_option linter.unusedVariables false
set_option maxRecDepth 100000

theorem rise_one : ∀ {l l' : List En}, l.Pairwise (fun a b => a.age < b.age) → l'.Pairwise (fun a b => a.age < b.age) → (∀ x, x ∈ l ↔ x ∈ l') → l = l'
  | [], [], _, _, _ => rfl
  | [], b :: r', _, _, h => by have := (h b).2 (by simp); cases this
  | a :: r, [], _, _, h => by have := (h a).1 (by simp); cases this
  | a :: r, b :: r', hl, hl', h => by
    obtain ⟨h1, h2⟩ := List.pairwise_cons.1 hl
    obtain ⟨h3, h4⟩ := List.pairwise_cons.1 hl'
    have e : a = b := by
      rcases List.mem_cons.1 ((h a).1 (by simp)) with q | q
      · exact q
      · rcases List.mem_cons.1 ((h b).2 (by simp)) with k | k
        · exact k.symm
        · have := h3 a q
          have := h1 b k
          omega
    subst e
    congr 1
    refine rise_one h2 h4 (fun x => ⟨fun hx => ?_, fun hx => ?_⟩)
    · rcases List.mem_cons.1 ((h x).1 (by simp [hx])) with q | q
      · have := h1 x hx; rw [q] at this; omega
      · exact q
    · rcases List.mem_cons.1 ((h x).2 (by simp [hx])) with q | q
      · have := h3 x hx; rw [q] at this; omega
      · exact q

theorem age_inj {es : List En} (h : es.Pairwise (fun a b => a.age < b.age)) {a b : En} (ha : a ∈ es) (hb : b ∈ es) (e : a.age = b.age) : a = b := by
  obtain ⟨i, hi, rfl⟩ := List.getElem_of_mem ha
  obtain ⟨j, hj, rfl⟩ := List.getElem_of_mem hb
  rcases Nat.lt_trichotomy i j with q | q | q
  · have := List.pairwise_iff_getElem.1 h i j hi hj q; omega
  · subst q; rfl
  · have := List.pairwise_iff_getElem.1 h j i hj hi q; omega
end Go.Proofs.YtlfnncahhbbmpaaGreatDoor

namespace Go.Proofs.YtlfnncahhbbmpaaGreatDoor
open Go.RowKit Go.Maps Go.Sort Go.Shelf
set_option linter.unusedVariables false
set_option maxRecDepth 100000

theorem Owns.notMap {α : Type} {w : World} {base : Nat} {e : TypeId} {k : Nat} {c : α → List Value} {v : Value} {xs : List α} (h : Owns w base e k c v xs) {b n : Nat} {D : DataW Unit} (o : w.ownsMap Tryz.prog 3 (plainElem Tryz.prog 3) b n D) : some b ≠ v.ownBlock := by
  intro q
  obtain ⟨es, clock, hb, _⟩ := o
  rcases h.2 with ⟨rfl, _⟩ | ⟨g, cap, cur, rfl, _, hg, _⟩
  · cases q
  · have : b = g := by simpa [Value.ownBlock] using q
    subst this
    rw [hb] at hg
    cases hg
theorem Owns.notIter {α : Type} {w : World} {base : Nat} {e : TypeId} {k : Nat} {c : α → List Value} {v : Value} {xs : List α} (h : Owns w base e k c v xs) {b r n cnt : Nat} {D : DataW Unit} {left : Lit → Bool} (o : w.ranges Tryz.prog 3 (plainElem Tryz.prog 3) b r n D left cnt) : some r ≠ v.ownBlock := by
  intro q
  obtain ⟨_, _, _, _, _, _, _, _, _, hit, _⟩ := o
  rcases h.2 with ⟨rfl, _⟩ | ⟨g, cap, cur, rfl, _, hg, _⟩
  · cases q
  · have : r = g := by simpa [Value.ownBlock] using q
    subst this
    rw [hit] at hg
    cases hg

/-- append of one element, which lies at the head of a block: just the slice's own row may turn -/
theorem wpList_append_one8 {α : Type} {P : Program} {w : World} {ops : Array Oper} {rest : List Oper} {o : Oper} {a : Act} {Q : Exit → Act → World → Prop} (hgd : o.guard = none) (s x : Operand) (t : TypeId)
    (ho : o.op = .call { callee := .builtin .append, args := #[s, x], argTypes := #[t, t] })
    {base : Nat} {e : TypeId} {k : Nat} {c : α → List Value} (i : TypeInfo) (z : Value) (bytes : Nat) (ht : P.underlying t = some (.slice e)) (hi : P.info? e = some i) (hz : i.zero = some z)
    (hsize : i.size = k) (hby : i.bytes = bytes) (hzs : z.cells.size = k) (hk0 : 0 < k) (hk : ∀ y, (c y).length = k) (h1 : ∀ y, ∀ u ∈ c y, u.oneCell' = true)
    {v : Value} {xs : List α} (hs : a.eval s = v) (hown : Owns w base e k c v xs)
    {g cc : Nat} {y : α} (hx : a.eval x = .slice (some ⟨g, 0, none⟩) 1 cc) (hrow : Row w g e (c y).toArray)
    (hlen : xs.length < 9223372036854775807) (hbytes : (xs.length + 1) * bytes ≤ 140737488355328) (hbase : base ≤ w.heap.size)
    (h : ∀ v' w', Owns w' base e k c v' (xs ++ [y]) → Only (fun j => some j = v.ownBlock) w w' → wpList P ops Q rest (a.put o.dst v') w') : wpList P ops Q (o :: rest) a w := by
  refine wpList_append_own w hgd s x t ho base e i z k bytes ht hi hz hsize hby hzs hk0 v xs.length (xs.flatMap c) hs hown ⟨g, 0, none⟩ 1 cc (c y) hx (by rw [hk]; omega) ?_ (h1 y) (by unfold maxLen; omega) hbytes hbase ?_
  · intro j u hj
    have : (Addr.mk g 0 none).add j = ⟨g, j, none⟩ := by
      unfold Addr.add
      split
      · rename_i q; rw [q]
      · simp
    rw [this, hrow.cell, List.getElem?_toArray]
    exact hj
  · intro v' w' h2 h3 _
    refine h v' w' ?_ (Only.of_grown h3)
    unfold Owns
    rw [List.flatMap_append, List.length_append]
    simpa using h2

theorem en_one : ∀ y : En, ∀ u ∈ y.cells, u.oneCell' = true := fun y u hu => by
  simp [En.cells] at hu
  rcases hu with rfl | rfl <;> rfl
theorem info_en : (Tryz.prog.info? 173).map (fun i => (i.zero, i.size, i.bytes)) = some (some (.agg #[.int .i64 0, .int .i64 0]), 2, 16) := by kernel_rfl

/-- what has been told while the range is under way -/
def Got (es : List En) (left : Lit → Bool) (xs : List En) : Prop := xs.Nodup ∧ ∀ e, e ∈ xs ↔ e ∈ es ∧ left (.int .i64 e.next) = false
theorem Got.start {D : DataW Unit} {L : Int} {es : List En} (h : Reads8 D L es) : Got es (has D) [] := by
  refine ⟨List.Pairwise.nil, fun e => ⟨fun q => (by cases q), fun ⟨he, q⟩ => ?_⟩⟩
  rw [h.1, hasE_iff.2 ⟨e, he, rfl⟩] at q
  cases q
theorem Got.step {es xs : List En} {left : Lit → Bool} {e : En} (h : Got es left xs) (hn : es.Pairwise (fun a b => a.next ≠ b.next)) (he : e ∈ es) (hl : left (.int .i64 e.next) = true) : Got es (strike left e.next) (xs ++ [e]) := by
  refine ⟨?_, fun a => ?_⟩
  · unfold List.Nodup
    rw [List.pairwise_append]
    refine ⟨h.1, List.pairwise_singleton _ _, fun a ha b hb q => ?_⟩
    have : b = e := by simpa using hb
    subst this
    subst q
    have := ((h.2 _).1 ha).2
    rw [hl] at this
    cases this
  · rw [List.mem_append, h.2 a]
    simp only [strike, key_eq, List.mem_singleton]
    constructor
    · rintro (⟨ha, q⟩ | rfl)
      · exact ⟨ha, by rw [q]; rfl⟩
      · exact ⟨he, by simp⟩
    · rintro ⟨ha, q⟩
      by_cases k : a.next = e.next
      · exact .inr (next_inj hn ha he k)
      · have kf : (a.next == e.next) = false := by simp [k]
        rw [kf] at q
        simp at q
        exact .inl ⟨ha, q⟩
theorem Got.len {es xs : List En} {left : Lit → Bool} (h : Got es left xs) : xs.length ≤ es.length := sub_len8 _ _ h.1 (fun x hx => ((h.2 x).1 hx).1)
theorem Got.over {es xs : List En} {left : Lit → Bool} (h : Got es left xs) (hl : ∀ kl, left kl = false) : ∀ e, e ∈ xs ↔ e ∈ es := fun e => by
  rw [h.2 e, hl]
  simp
theorem Got.all {es xs : List En} {left : Lit → Bool} (h : Got es left xs) (hl : ∀ kl, left kl = false) (hn : es.Nodup) : xs.length = es.length := same_len8 h.1 hn (h.over hl)
theorem en_nodup {es : List En} (h : es.Pairwise (fun a b => a.next ≠ b.next)) : es.Nodup := h.imp (fun k q => k (by rw [q]))

def Told8 (es : List En) (w : World) (e : Ending) (w' : World) : Prop := ∃ A cap, e = .returned (.slice A es.length cap) ∧ Holds w' A 2 En.cells es ∧ (∀ a, A = some a → w.heap.size ≤ a.block) ∧ Only none_ w w'

end Go.Proofs.YtlfnncahhbbmpaaGreatDoor

namespace Go.Proofs.YtlfnncahhbbmpaaGreatDoor
open Go.RowKit Go.Maps
set_option linter.unusedVariables false
set_option maxRecDepth 100000

/-- a slice of the call's own, at a block that may be -/
def OwnsEn (w : World) (ok : Nat → Prop) (v : Value) (es : List En) : Prop := Owns w 0 173 2 En.cells v es ∧ ∀ g, v.ownBlock = some g → ok g
theorem OwnsEn.keep {w w' : World} {ok : Nat → Prop} {v : Value} {es : List En} (h : OwnsEn w ok v es) {S : Nat → Prop} (o : Only S w w') (hn : ∀ g, ok g → ¬ S g) : OwnsEn w' ok v es :=
  ⟨h.1.keep o (fun g hg => hn g (h.2 g hg)), h.2⟩
theorem OwnsEn.still {w w' : World} {ok : Nat → Prop} {v : Value} {es : List En} (h : OwnsEn w ok v es) (o : Only none_ w w') : OwnsEn w' ok v es := h.keep o (fun _ _ s => s)
theorem OwnsEn.lt {w : World} {ok : Nat → Prop} {v : Value} {es : List En} (h : OwnsEn w ok v es) {g : Nat} (hg : v.ownBlock = some g) : g < w.heap.size := (h.1.base_le hg).2
theorem Owns.lower8 {α : Type} {w : World} {base base' : Nat} {e : TypeId} {k : Nat} {c : α → List Value} {v : Value} {xs : List α} (h : Owns w base e k c v xs) (hb : base' ≤ base) : Owns w base' e k c v xs := by
  refine ⟨h.1, ?_⟩
  rcases h.2 with h2 | ⟨g, cap, cur, hv, hg, r⟩
  · exact .inl h2
  · exact .inr ⟨g, cap, cur, hv, Nat.le_trans hb hg, r⟩
theorem OwnsEn.new {w : World} {ok : Nat → Prop} {b : Nat} {v : Value} {es : List En} (h : Owns w b 173 2 En.cells v es) (k : ∀ g, b ≤ g → ok g) : OwnsEn w ok v es :=
  ⟨h.lower8 (Nat.zero_le _), fun g hg => k g (h.base_le hg).1⟩
theorem OwnsEn.start (w : World) (ok : Nat → Prop) : OwnsEn w ok (.slice none 0 0) [] := ⟨Owns.start _ _ _ _ _, fun g hg => by cases hg⟩
theorem OwnsEn.form {w : World} {ok : Nat → Prop} {v : Value} {es : List En} (h : OwnsEn w ok v es) : ∃ A cap, v = .slice A es.length cap ∧ Holds w A 2 En.cells es ∧ (es ≠ [] → ∃ g, A = some ⟨g, 0, none⟩ ∧ g < w.heap.size ∧ es.length ≤ cap ∧ cap ≤ maxLen ∧ ok g) := by
  rcases h.1.2 with ⟨hv, h2⟩ | ⟨g, cap, cur, hv, hg, hh, h3, h4, _⟩
  · have : es = [] := List.eq_nil_of_length_eq_zero h2
    subst this
    exact ⟨none, 0, hv, fun i a hi => by simp at hi, fun q => absurd rfl q⟩
  · have lt := (Array.getElem?_eq_some_iff.1 hh).1
    have h1 := h.1
    rw [hv] at h1
    refine ⟨_, _, hv, fun i a hi => ⟨g, 0, rfl, lt, fun j v hj => ?_⟩, fun _ => ⟨g, rfl, lt, h3, h4, h.2 g (by rw [hv]; rfl)⟩⟩
    rw [Nat.zero_add]
    have hj2 : j < 2 := by have := lt_of_get hj; rw [en2] at this; exact this
    rw [Owns.cell h1 en2 hi hj2]
    exact hj

/-- the document's own table: at block q, its entries' row at a block that may be -/
structure RT (w : World) (q : Nat) (ok : Nat → Prop) (size life : Nat) (es : List En) : Prop where
  it : ∃ v, Row w q 136 #[.int .i64 size, .int .i64 life, v] ∧ OwnsEn w ok v es
  ltq : ¬ ok q
  ltb : ∀ g, w.heap.size ≤ g → ok g
theorem RT.keep {w w' : World} {q size life : Nat} {ok : Nat → Prop} {es : List En} (h : RT w q ok size life es) {S : Nat → Prop} (k : Only S w w') (hq : ¬ S q) (hb : ∀ g, ok g → ¬ S g) : RT w' q ok size life es := by
  obtain ⟨⟨v, r, o⟩, l1, l2⟩ := h
  exact ⟨⟨v, k.row r hq, o.keep k hb⟩, l1, fun g hg => l2 g (Nat.le_trans k.size hg)⟩
theorem RT.still {w w' : World} {q size life : Nat} {ok : Nat → Prop} {es : List En} (h : RT w q ok size life es) (k : Only none_ w w') : RT w' q ok size life es := h.keep k (fun s => s) (fun _ _ s => s)
theorem RT.lt {w : World} {q size life : Nat} {ok : Nat → Prop} {es : List En} (h : RT w q ok size life es) : q < w.heap.size := by
  obtain ⟨⟨v, r, o⟩, l1, l2⟩ := h
  exact r.lt
theorem RT.mono {w : World} {q size life : Nat} {ok ok' : Nat → Prop} {es : List En} (h : RT w q ok size life es) (k : ∀ g, g < w.heap.size → ok g → ok' g) (hq : ¬ ok' q) (hn : ∀ g, w.heap.size ≤ g → ok' g) : RT w q ok' size life es := by
  obtain ⟨⟨v, r, o⟩, l1, l2⟩ := h
  exact ⟨⟨v, r, o.1, fun g hg => k g (o.lt hg) (o.2 g hg)⟩, hq, hn⟩

theorem rnew8_any (size life : Nat) (w : World) :
    Calls Tryz.prog 43 #[.int .i64 size, .int .i64 life] w fun e w' => ∃ q, e = .returned (.pointer (some ⟨q, 0, none⟩)) ∧ RT w' q (fun g => q < g) size life [] ∧ w.heap.size ≤ q ∧ Only none_ w w' := by
  go_enter Tryz.func43, Tryz.ntmps43
  go_wp2
  go_ret
  have r1 := Row.fresh w 136 #[.int .i64 size, .int .i64 life, .slice none 0 0]
  exact ⟨w.heap.size, rfl, ⟨⟨_, r1, OwnsEn.start _ _⟩, Nat.lt_irrefl _, fun g hg => by simp at hg; omega⟩, Nat.le_refl _, (Only.refl _ _).alloc _⟩

theorem atI_at {es : List En} {x : Int} {k : Nat} {e : En} (h : es[k]? = some e) (hx : e.next = x) (hb : ∀ j a, j < k → es[j]? = some a → a.next ≠ x) : atI es x = k := by
  have hk := lt_of_get h
  have hm : e ∈ es := List.mem_of_getElem? h
  unfold atI
  rw [if_pos (hasE_iff.2 ⟨e, hm, hx⟩)]
  have : atE es x = k := by
    unfold atE
    rw [List.findIdx_eq hk]
    rw [List.getElem?_eq_getElem hk] at h
    injection h with h
    refine ⟨by rw [h]; simp [hx], fun j hj => ?_⟩
    have := hb j es[j] hj (List.getElem?_eq_getElem (by omega))
    simpa using this
  rw [this]
theorem atI_no {es : List En} {x : Int} (hb : ∀ (j : Nat) (a : En), es[j]? = some a → a.next ≠ x) : atI es x = -1 := by
  unfold atI
  rw [if_neg]
  intro h
  obtain ⟨e, he, hx⟩ := hasE_iff.1 h
  obtain ⟨j, hj, rfl⟩ := List.getElem_of_mem he
  exact hb j _ (List.getElem?_eq_getElem hj) hx

set_option maxHeartbeats 1000000 in
theorem at8_any (q size life : Nat) (ok : Nat → Prop) (es : List En) (x : Int) (w : World) (h : RT w q ok size life es) (hl : es.length ≤ 1000) :
    Calls Tryz.prog 127 #[.pointer (some ⟨q, 0, none⟩), .int .i64 x] w fun e w' => e = .returned (.int .i64 (atI es x)) ∧ w = w' := by
  obtain ⟨⟨v, r, o⟩, l1, l2⟩ := h
  obtain ⟨A, cap, rfl, ha, _⟩ := o.form
  have HA := Lib.hid ha
  have c2 : w.cell? ⟨q, 2, none⟩ = some (.slice A es.length cap) := by rw [r.cell]; rfl
  clear r o l1 l2 ha
  go_enter Tryz.func127, Tryz.ntmps127
  go_wp2_with fail
  go_loop [5] (fun i => ∃ k : Nat, k ≤ es.length ∧ i = .int .i64 k ∧ ∀ j a, j < k → es[j]? = some a → a.next ≠ x) (fun i => es.length - (intOf i).toNat)
  case atStart => exact ⟨0, Nat.zero_le _, rfl, fun j a hj => by omega⟩
  case round =>
    obtain ⟨k, hk, rfl, hn⟩ := hrel
    have HN := Lib.hid hn
    clear hn
    by_cases hlt : k < es.length
    · obtain ⟨y, hy⟩ : ∃ y, es[k]? = some y := ⟨_, List.getElem?_eq_getElem hlt⟩
      obtain ⟨g1, o1, rfl, lt1, c1⟩ := HA.out k y hy
      have c0 : w.cell? ⟨g1, o1 + k * 2, none⟩ = some (.int .i64 y.next) := c1 0 (.int .i64 y.next) rfl
      have HY := Lib.hid hy
      clear hy c1
      by_cases e : y.next = x
      · have t : (y.next == x) = true := by simp [e]
        have FE := Lib.hid (atI_at HY.out e HN.out)
        clear e
        go_wp2_with fail
        go_ret
        exact ⟨by rw [FE.out]; rfl, rfl⟩
      · have t : (y.next == x) = false := by simpa using e
        have NX := Lib.hid (show ∀ j a, j < k + 1 → es[j]? = some a → a.next ≠ x from fun j a hj ha => by
          by_cases q : j = k
          · subst q; rw [HY.out] at ha; injection ha with ha; subst ha; exact e
          · exact HN.out j a (by omega) ha)
        clear e
        go_wp2_with fail
        go_round
        case rel => exact ⟨k + 1, by omega, by go_num, NX.out⟩
        case measure => simp [intOf]; omega
    · have hge : es.length ≤ k := by omega
      have FE := Lib.hid (atI_no (es := es) (x := x) (fun j a ha => HN.out j a (Nat.lt_of_lt_of_le (lt_of_get ha) hge) ha))
      go_wp2_with fail
      go_ret
      exact ⟨by rw [FE.out]; rfl, rfl⟩
end Go.Proofs.YtlfnncahhbbmpaaGreatDoor

namespace Go.Proofs.YtlfnncahhbbmpaaGreatDoor
open Go.RowKit Go.Maps
set_option linter.unusedVariables false
set_option maxRecDepth 100000

/-- append to a slice of the call's own, as one step of a region that draws -/
theorem step_append_mine8 {P : Program} {ops : Array Oper} {o : Oper} {a : Act} {w : World} {K : Act → World → Prop} {Q : Exit → Act → World → Prop} {E : Prop}
    (hg : o.guard = none) (s x : Operand) (t : TypeId) (hop : o.op = Op.call { callee := Callee.builtin Builtin.append, args := #[s, x], argTypes := #[t, t] })
    (base : Nat) (e : TypeId) (i : TypeInfo) (z : Value) (size bytes : Nat) (h1 : P.underlying t = some (.slice e)) (h2 : P.info? e = some i) (h3 : i.zero = some z) (h4 : i.size = size) (h5 : i.bytes = bytes) (h6 : z.cells.size = size) (h7 : 0 < size)
    (v : Value) (k : Nat) (xs : List Value) (hs : a.eval s = v) (hown : w.ownsRow base e size v k xs)
    (ad : Addr) (m c : Nat) (news : List Value) (hx : a.eval x = .slice (some ad) m c) (hn : news.length = m * size) (hc : ∀ j u, news[j]? = some u → w.cell? (ad.add j) = some u) (h1c : ∀ u ∈ news, u.oneCell' = true)
    (b1 : k + m ≤ maxLen) (b2 : (k + m) * bytes ≤ 140737488355328) (b3 : base ≤ w.heap.size)
    (hK : ∀ v' w', w'.ownsRow base e size v' (k + m) (xs ++ news) → w.grownBy w' v.ownBlock → K (a.put o.dst v') w') :
    if Region.wanted o (yielded ops a.tmps) = true then Oper.wp P o a w K Q else E := by
  have hw : Region.wanted o (yielded ops a.tmps) = true := by simp [Region.wanted, hg]
  rw [if_pos hw]
  obtain ⟨v', w', hrun, r1, r2, _⟩ := run_append_own (P := P) w base t o.type e i z size bytes h1 h2 h3 h4 h5 h6 h7 v k xs hown ad m c news hn hc h1c b1 b2 b3
  unfold Oper.wp
  simp [execOp, hop, resolve, invoke, builtin, hs, hx, hrun, Result.andThen]
  exact hK v' w' r1 r2

theorem flat_takeL {α : Type} {c : α → List Value} {k : Nat} (hk : ∀ a, (c a).length = k) : ∀ (l : List α) (i : Nat), (l.take i).flatMap c = (l.flatMap c).take (i * k) := by
  intro l
  induction l with
  | nil => intro i; simp
  | cons x l ih =>
    intro i
    cases i with
    | zero => simp
    | succ i =>
      rw [List.take_succ_cons, List.flatMap_cons, List.flatMap_cons, ih, show (i + 1) * k = (c x).length + i * k by rw [hk, Nat.succ_mul, Nat.add_comm], List.take_length_add_append]
theorem flat_dropL {α : Type} {c : α → List Value} {k : Nat} (hk : ∀ a, (c a).length = k) : ∀ (l : List α) (i : Nat), (l.drop i).flatMap c = (l.flatMap c).drop (i * k) := by
  intro l
  induction l with
  | nil => intro i; simp
  | cons x l ih =>
    intro i
    cases i with
    | zero => simp
    | succ i =>
      rw [List.drop_succ_cons, List.flatMap_cons, ih, show (i + 1) * k = (c x).length + i * k by rw [hk, Nat.succ_mul, Nat.add_comm], List.drop_append]
      simp
theorem en_cells_one (l : List En) : ∀ u ∈ l.flatMap En.cells, u.oneCell' = true := fun u hu => by
  obtain ⟨x, _, hx⟩ := List.mem_flatMap.1 hu
  exact en_one x u hx
theorem en_flat_len (l : List En) : (l.flatMap En.cells).length = l.length * 2 := by
  have := flat_size en2 l
  unfold flat at this
  simpa using this
theorem add8 (b o n : Nat) : (Addr.mk b o none).add n = ⟨b, o + n, none⟩ := by
  unfold Addr.add
  split
  · rename_i z; rw [z]; rfl
  · rfl
theorem own_form8 {w : World} {base : Nat} {v : Value} {es : List En} (h : Owns w base 173 2 En.cells v es) : ∃ a n c, v = .slice a n c := by
  rcases h.2 with ⟨h0, _⟩ | ⟨g, cap, cur, hv, _⟩
  · exact ⟨none, 0, 0, h0⟩
  · exact ⟨_, _, _, hv⟩

set_option maxRecDepth 100000 in
set_option maxHeartbeats 4000000 in
theorem without8_any (q size life i : Nat) (ok : Nat → Prop) (es : List En) (w : World) (h : RT w q ok size life es) (hl : es.length ≤ 1000) (hi : i < es.length) :
    Calls Tryz.prog 128 #[.pointer (some ⟨q, 0, none⟩), .int .i64 i] w fun e w' => e = .returned (.tuple #[]) ∧ RT w' q ok size life (es.take i ++ es.drop (i + 1)) ∧ Only (fun k => k = q) w w' := by
  have LQ := Lib.hid h.ltq
  have LB := Lib.hid h.ltb
  have lq := h.lt
  obtain ⟨⟨v, r, o⟩, l1, l2⟩ := h
  obtain ⟨A, ca, rfl, _, ha⟩ := o.form
  obtain ⟨g, rfl, hg2, hca, hmx, okg⟩ := ha (by intro e; rw [e] at hi; cases hi)
  have HR := Lib.hid o.1
  have R := Lib.hid r
  have nqg : q ≠ g := fun e => l1 (e ▸ okg)
  clear r o l1 l2 ha okg
  obtain ⟨i0, hi0, hz0, hz1, hz2⟩ := info_parts info_en
  have I0 := Lib.hid hi0
  have I1 := Lib.hid hz0
  have I2 := Lib.hid hz1
  have I3 := Lib.hid hz2
  clear hi0 hz0 hz1 hz2
  have hw2 : IntKind.i64.wrap ((i : Int) + 1) = (i : Int) + 1 := by rw [IntKind.wrap_i64]; omega
  have hw3 : wrap64 ((i : Int) + 1) = (i : Int) + 1 := by unfold wrap64; omega
  have b1 : i ≤ ca := by omega
  have b2 : (i : Int) + 1 ≤ (es.length : Int) := by omega
  have b3 : i + 1 ≤ es.length := by omega
  have b4 : (0 : Int) ≤ (i : Int) + 1 := by omega
  have all_ : ∀ j u, (es.flatMap En.cells)[j]? = some u → w.cell? ((Addr.mk g 0 none).add j) = some u := World.ownsRow.cells HR.out (g := g) rfl
  have hc1 : ∀ (W : World), Only none_ w W → ∀ j u, ((es.take i).flatMap En.cells)[j]? = some u → W.cell? ((Addr.mk g 0 none).add j) = some u := fun W o j u hj => by
    rw [flat_takeL en2] at hj
    have hj2 : j < i * 2 := by have := lt_of_get hj; rw [List.length_take] at this; omega
    rw [List.getElem?_take_of_lt hj2] at hj
    exact o.cell (all_ j u hj) (fun s => s)
  have hc2 : ∀ (W : World), Only none_ w W → ∀ j u, ((es.drop (i + 1)).flatMap En.cells)[j]? = some u → W.cell? ((Addr.mk g ((i + 1) * 2) none).add j) = some u := fun W o j u hj => by
    rw [flat_dropL en2, List.getElem?_drop] at hj
    have := all_ _ u hj
    rw [add8] at this
    rw [add8]
    refine o.cell ?_ (fun s => s)
    simpa using this
  have n1 : ((es.take i).flatMap En.cells).length = i * 2 := by rw [en_flat_len, List.length_take]; congr 1; omega
  have n2 : ((es.drop (i + 1)).flatMap En.cells).length = (es.length - (i + 1)) * 2 := by rw [en_flat_len, List.length_drop]
  have own0 : ((w.alloc (.cells #[] 173)).drew).ownsRow w.heap.size 173 2 (.slice (some ⟨w.heap.size, 0, none⟩) 0 0) 0 [] := by
    refine ⟨rfl, .inr ⟨w.heap.size, 0, #[], rfl, Nat.le_refl _, ?_, Nat.le_refl _, Nat.zero_le _, rfl, rfl⟩⟩
    exact Row.fresh w 173 #[]
  have O0 := ((Only.refl none_ w).alloc (.cells #[] 173)).drew
  have zO : w.heap.size ≤ ((w.alloc (.cells #[] 173)).drew).heap.size := O0.size
  have cq0 : w.drew.cell? ⟨q, 2, none⟩ = some (.slice (some ⟨g, 0, none⟩) es.length ca) := by show w.cell? _ = _; rw [R.out.cell]; rfl
  have cq1 : ((w.alloc (.cells #[] 173)).drew).cell? ⟨q, 2, none⟩ = some (.slice (some ⟨g, 0, none⟩) es.length ca) := O0.cell (show w.cell? _ = _ by rw [R.out.cell]; rfl) (fun s => s)
  have HC1 := Lib.hid hc1
  have HC2 := Lib.hid hc2
  have N1 := Lib.hid n1
  have N2 := Lib.hid n2
  have OW0 := Lib.hid own0
  have OO0 := Lib.hid O0
  clear hc1 hc2 n1 n2 own0 O0 all_
  by_cases hcc : ca = i + 1
  · subst hcc
    have xl : es.length = i + 1 := by omega
    have F := Lib.hid (show ∀ v2 w2, w2.ownsRow w.heap.size 173 2 v2 (0 + i + 0) ([] ++ (es.take i).flatMap En.cells ++ ([] : List En).flatMap En.cells) → Owns w2 w.heap.size 173 2 En.cells v2 (es.take i ++ es.drop (i + 1)) from fun v2 w2 h => by
      have D3 : es.drop (i + 1) = [] := List.drop_of_length_le (by omega)
      show World.ownsRow _ _ _ _ _ _ _
      rw [D3, List.flatMap_append, List.length_append, List.length_take]
      have e : min i es.length + ([] : List En).length = 0 + i + 0 := by simp; omega
      rw [e]
      simpa using h)
    have b5 : (i : Int) ≤ (i : Int) + 1 := by omega
    have N3 := Lib.hid (show (([] : List En).flatMap En.cells).length = 0 * 2 from rfl)
    go_enter Tryz.func128, Tryz.ntmps128
    go_wp2_with fail
    go_region_law (first
      | (refine step_append_mine8 rfl (.tmp 5) (.tmp 11) 134 rfl w.heap.size 173 i0 _ 2 16 Tryz.underlying134 I0.out I1.out I2.out I3.out rfl (by decide) _ 0 [] rfl OW0.out ⟨g, 0, none⟩ i (i + 1) _ rfl N1.out (HC1.out _ OO0.out) (en_cells_one _) (by unfold maxLen; omega) (by omega) zO ?_
         intro v1 w1 hown1 hgrow1
         have O1 := Lib.hid (OO0.out.trans (Only.of_grown hgrow1) (fun j hj q => by have q2 : some j = some w.heap.size := q; injection q2; omega))
         have OW1 := Lib.hid hown1
         have z1 : w.heap.size ≤ w1.heap.size := O1.out.size
         have cq2 : w1.cell? ⟨q, 2, none⟩ = some (.slice (some ⟨g, 0, none⟩) es.length (i + 1)) := O1.out.cell (show w.cell? _ = _ by rw [R.out.cell]; rfl) (fun s => s)
         clear hown1 hgrow1)
      | (refine step_append_mine8 rfl (.tmp 12) (.tmp 19) 134 rfl w.heap.size 173 i0 _ 2 16 Tryz.underlying134 I0.out I1.out I2.out I3.out rfl (by decide) _ (0 + i) _ rfl OW1.out ⟨g, 0, none⟩ 0 0 _ rfl N3.out (fun j u hj => by simp at hj) (en_cells_one _) (by unfold maxLen; omega) (by omega) z1 ?_
         intro v2 w2 hown2 hgrow2
         have O2 := Lib.hid (O1.out.trans (Only.of_grown hgrow2) (fun j hj q => by have := (World.ownsRow.lt OW1.out j q.symm).1; omega))
         have OW2 := Lib.hid (F.out _ _ hown2)
         obtain ⟨a2, n2, k2, rfl⟩ := own_form8 OW2.out
         have R2 := Lib.hid (O2.out.still R.out)
         have zz2 := R2.out.frozen
         have cq3 : w2.cell? ⟨q, 2, none⟩ = some (.slice (some ⟨g, 0, none⟩) es.length (i + 1)) := by rw [R2.out.cell]; rfl
         have lq2 := R2.out.lt
         clear hown2 hgrow2))
    all_goals
      go_wp2
      go_end0
      have OP := (Only.refl (fun k => k = q) w2).into rfl 2 (.slice a2 n2 k2)
      have KP := OW2.out.keep OP (fun g hg e => by have := (OW2.out.base_le hg).1; omega)
      exact ⟨rfl, ⟨⟨_, R2.out.put 2 _, OwnsEn.new KP LB.out⟩, LQ.out, fun g hg => LB.out g (by have := O2.out.size; simp [World.setCell] at hg; omega)⟩, O2.out.then_ OP⟩
  · have F := Lib.hid (show ∀ v2 w2, w2.ownsRow w.heap.size 173 2 v2 (0 + i + (es.length - (i + 1))) ([] ++ (es.take i).flatMap En.cells ++ (es.drop (i + 1)).flatMap En.cells) → Owns w2 w.heap.size 173 2 En.cells v2 (es.take i ++ es.drop (i + 1)) from fun v2 w2 h => by
      show World.ownsRow _ _ _ _ _ _ _
      rw [List.flatMap_append, List.length_append, List.length_take, List.length_drop]
      have e : min i es.length + (es.length - (i + 1)) = 0 + i + (es.length - (i + 1)) := by omega
      rw [e]
      simpa using h)
    go_enter Tryz.func128, Tryz.ntmps128
    go_wp2_with fail
    go_region_law (first
      | (refine step_append_mine8 rfl (.tmp 5) (.tmp 11) 134 rfl w.heap.size 173 i0 _ 2 16 Tryz.underlying134 I0.out I1.out I2.out I3.out rfl (by decide) _ 0 [] rfl OW0.out ⟨g, 0, none⟩ i ca _ rfl N1.out (HC1.out _ OO0.out) (en_cells_one _) (by unfold maxLen; omega) (by omega) zO ?_
         intro v1 w1 hown1 hgrow1
         have O1 := Lib.hid (OO0.out.trans (Only.of_grown hgrow1) (fun j hj q => by have q2 : some j = some w.heap.size := q; injection q2; omega))
         have OW1 := Lib.hid hown1
         have z1 : w.heap.size ≤ w1.heap.size := O1.out.size
         have cq2 : w1.cell? ⟨q, 2, none⟩ = some (.slice (some ⟨g, 0, none⟩) es.length ca) := O1.out.cell (show w.cell? _ = _ by rw [R.out.cell]; rfl) (fun s => s)
         clear hown1 hgrow1)
      | (refine step_append_mine8 rfl (.tmp 12) (.tmp 19) 134 rfl w.heap.size 173 i0 _ 2 16 Tryz.underlying134 I0.out I1.out I2.out I3.out rfl (by decide) _ (0 + i) _ rfl OW1.out ⟨g, (i + 1) * 2, none⟩ (es.length - (i + 1)) (ca - (i + 1)) _ rfl N2.out (HC2.out _ O1.out) (en_cells_one _) (by unfold maxLen; omega) (by omega) z1 ?_
         intro v2 w2 hown2 hgrow2
         have O2 := Lib.hid (O1.out.trans (Only.of_grown hgrow2) (fun j hj q => by have := (World.ownsRow.lt OW1.out j q.symm).1; omega))
         have OW2 := Lib.hid (F.out _ _ hown2)
         obtain ⟨a2, n2, k2, rfl⟩ := own_form8 OW2.out
         have R2 := Lib.hid (O2.out.still R.out)
         have zz2 := R2.out.frozen
         have cq3 : w2.cell? ⟨q, 2, none⟩ = some (.slice (some ⟨g, 0, none⟩) es.length ca) := by rw [R2.out.cell]; rfl
         have lq2 := R2.out.lt
         clear hown2 hgrow2))
    all_goals
      go_wp2
      go_end0
      have OP := (Only.refl (fun k => k = q) w2).into rfl 2 (.slice a2 n2 k2)
      have KP := OW2.out.keep OP (fun g hg e => by have := (OW2.out.base_le hg).1; omega)
      exact ⟨rfl, ⟨⟨_, R2.out.put 2 _, OwnsEn.new KP LB.out⟩, LQ.out, fun g hg => LB.out g (by have := O2.out.size; simp [World.setCell] at hg; omega)⟩, O2.out.then_ OP⟩
end Go.Proofs.YtlfnncahhbbmpaaGreatDoor
