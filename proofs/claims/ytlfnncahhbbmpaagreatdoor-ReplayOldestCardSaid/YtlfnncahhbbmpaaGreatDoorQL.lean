/- Texts of the layers below, one behind the other. -/
import Derived.Test.YtlfnncahhbbmpaaGreatDoorQG
import Derived.Test.YtlfnncahhbbmpaaGreatDoorQF
import Derived.Deep.RegionWith
import Derived.Laws.StructEq
import Derived.BigRegion
import Derived.Test.YtlfnncahhbbmpaaGreatDoorQR
namespace Go.Proofs.YtlfnncahhbbmpaaGreatDoor
open Go.RowKit
set_option linter.unusedVariables false
set_option maxRecDepth 100000

/-- of the first k of some the one that is best so far, and its rank -/
def Best (rank : Sm → Int) (fit : Sm → Bool) (ss : List Sm) (k : Nat) (a g : Int) : Prop :=
  (a = -1 ∧ ∀ (j : Nat) t, j < k → ss[j]? = some t → fit t = false) ∨
  ∃ (j : Nat) (s : Sm), a = j ∧ j < k ∧ ss[j]? = some s ∧ g = rank s ∧ fit s = true ∧ (∀ (i : Nat) t, i < k → ss[i]? = some t → fit t = true → rank t ≤ rank s) ∧ ∀ (i : Nat) t, i < j → ss[i]? = some t → fit t = true → rank t < rank s
theorem Best.start (rank : Sm → Int) (fit : Sm → Bool) (ss : List Sm) : Best rank fit ss 0 (-1) 0 := .inl ⟨rfl, fun j t hj => by omega⟩
theorem Best.no {rank : Sm → Int} {fit : Sm → Bool} {ss : List Sm} {k : Nat} {a g : Int} (h : Best rank fit ss k a g) {s : Sm} (hs : ss[k]? = some s) (hf : fit s = false) : Best rank fit ss (k + 1) a g := by
  rcases h with ⟨h1, h2⟩ | ⟨j, s0, h1, h2, h3, h4, h5, h6, h7⟩
  · refine .inl ⟨h1, fun j t hj ht => ?_⟩
    by_cases q : j = k
    · subst q; rw [hs] at ht; injection ht with ht; rw [← ht]; exact hf
    · exact h2 j t (by omega) ht
  · refine .inr ⟨j, s0, h1, by omega, h3, h4, h5, fun i t hi ht q => ?_, h7⟩
    by_cases e : i = k
    · subst e; rw [hs] at ht; injection ht with ht; rw [← ht, hf] at q; cases q
    · exact h6 i t (by omega) ht q
theorem Best.less {rank : Sm → Int} {fit : Sm → Bool} {ss : List Sm} {k : Nat} {a g : Int} (h : Best rank fit ss k a g) {s : Sm} (hs : ss[k]? = some s) (ha : a ≠ -1) (hr : rank s ≤ g) : Best rank fit ss (k + 1) a g := by
  rcases h with ⟨h1, h2⟩ | ⟨j, s0, h1, h2, h3, h4, h5, h6, h7⟩
  · exact absurd h1 ha
  · refine .inr ⟨j, s0, h1, by omega, h3, h4, h5, fun i t hi ht q => ?_, h7⟩
    by_cases e : i = k
    · subst e; rw [hs] at ht; injection ht with ht; rw [← ht]; omega
    · exact h6 i t (by omega) ht q
theorem Best.more {rank : Sm → Int} {fit : Sm → Bool} {ss : List Sm} {k : Nat} {a g : Int} (h : Best rank fit ss k a g) {s : Sm} (hs : ss[k]? = some s) (hf : fit s = true) (hr : a = -1 ∨ g < rank s) : Best rank fit ss (k + 1) k (rank s) := by
  refine .inr ⟨k, s, rfl, by omega, hs, rfl, hf, fun i t hi ht q => ?_, fun i t hi ht q => ?_⟩
  · by_cases e : i = k
    · subst e; rw [hs] at ht; injection ht with ht; rw [← ht]; exact Int.le_refl _
    · rcases h with ⟨h1, h2⟩ | ⟨j, s0, h1, h2, h3, h4, h5, h6, h7⟩
      · rw [h2 i t (by omega) ht] at q; cases q
      · have := h6 i t (by omega) ht q; omega
  · rcases h with ⟨h1, h2⟩ | ⟨j, s0, h1, h2, h3, h4, h5, h6, h7⟩
    · rw [h2 i t (by omega) ht] at q; cases q
    · have := h6 i t (by omega) ht q; omega
/-- a place among some, or -1 -/
def placeI : Option Nat → Int
  | some k => k
  | none => -1
theorem best_top {ss : List Sm} {x a g : Int} (hu : ss.Pairwise (fun a b => a.used ≠ b.used)) (h : Best (fun s => s.used) (fits x) ss ss.length a g) : a = placeI (topOf ss x) := by
  rcases h with ⟨h1, h2⟩ | ⟨j, s0, h1, h2, h3, h4, h5, h6, h7⟩
  · rw [top_none (fun j t ht e => by have := h2 j t (lt_of_get ht) ht; simp [fits, e] at this)]
    exact h1
  · rw [top_is hu h3 (by simpa [fits] using h5) (fun j t ht e => by have : (t.used : Int) ≤ s0.used := h6 j t (lt_of_get ht) ht (by simp [fits, e]); omega)]
    exact h1
theorem best_low {ss : List Sm} {a g : Int} (hu : ss.Pairwise (fun a b => a.used ≠ b.used)) (hne : ss ≠ []) (h : Best (fun s => -(s.used : Int)) (fun _ => true) ss ss.length a g) : a = ((lowOf ss).getD 0 : Nat) ∧ (lowOf ss).getD 0 < ss.length := by
  rcases h with ⟨h1, h2⟩ | ⟨j, s0, h1, h2, h3, h4, h5, h6, h7⟩
  · have hl := List.length_pos_iff.2 hne
    have := h2 0 ss[0] hl (List.getElem?_eq_getElem hl)
    cases this
  · rw [low_is hu h3 (fun j t ht => by have : -(t.used : Int) ≤ -(s0.used : Int) := h6 j t (lt_of_get ht) ht rfl; omega)]
    exact ⟨h1, h2⟩
theorem best_id {ss : List Sm} {x a g : Int} (h : Best (fun _ => 0) (fun s => (s.id : Int) == x) ss ss.length a g) : a = placeI (idOf ss x) := by
  rcases h with ⟨h1, h2⟩ | ⟨j, s0, h1, h2, h3, h4, h5, h6, h7⟩
  · rw [id_none (fun j t ht e => by have := h2 j t (lt_of_get ht) ht; simp [e] at this)]
    exact h1
  · rw [id_is h3 (by simpa using h5) (fun j t hj ht e => by have : (0 : Int) < 0 := h7 j t hj ht (by simp [e]); omega)]
    exact h1

set_option maxHeartbeats 1000000 in
theorem sfind_any (A : Option Addr) (cap : Nat) (ss : List Sm) (w : World) (G : FuncId) (caps : Array Value) (rank : Sm → Int) (fit : Sm → Bool) (hh : Holds w A 6 Sm.cells ss) (hl : ss.length ≤ 1000)
    (hr : ∀ s ∈ ss, -1000000 ≤ rank s ∧ rank s ≤ 1000000)
    (hG : ∀ (a : Value) (w : World), (callFunc G (#[a] ++ caps)).run Tryz.prog w = .ok (.enter G (#[a] ++ caps)) w)
    (hL : ∀ s ∈ ss, ∀ w', Only none_ w w' → Calls Tryz.prog G (#[.agg #[.int .i64 s.id, .int .i64 s.f.n, .int .i64 s.f.a, .int .i64 s.f.p, .int .i64 s.f.g, .int .i64 s.used]] ++ caps) w' fun e w'' => e = .returned (.tuple #[.int .i64 (rank s), .bool (fit s)]) ∧ Only none_ w' w'') :
    Calls Tryz.prog 141 #[.slice A ss.length cap, .func (.func G) #[] caps] w fun e w' => (∃ a g, e = .returned (.int .i64 a) ∧ Best rank fit ss ss.length a g) ∧ Only none_ w w' := by
  have HH := Lib.hid hh
  have HL := Lib.hid hL
  have HR := Lib.hid hr
  clear hh hL hr
  go_enter Tryz.func141, Tryz.ntmps141
  go_wp2_with fail
  go_loopw [5, 6, 7, 8, 9, 10, 13] (fun a g _ _ _ _ i wr => ∃ (k : Nat) (av gv : Int), k ≤ ss.length ∧ i = .int .i64 k ∧ a = .int .i64 av ∧ g = .int .i64 gv ∧ Best rank fit ss k av gv ∧ Only none_ w wr) (fun _ _ _ _ _ _ i _ => ss.length - (intOf i).toNat)
  case atStart => exact ⟨0, -1, 0, Nat.zero_le _, rfl, rfl, rfl, Best.start _ _ _, Only.refl _ _⟩
  case round =>
    obtain ⟨k, av, gv, hk, rfl, rfl, rfl, hb, ho⟩ := hrel
    have HB := Lib.hid hb
    have OO := Lib.hid ho
    clear hb ho
    by_cases hlt : k < ss.length
    · obtain ⟨y, hy⟩ : ∃ y, ss[k]? = some y := ⟨_, List.getElem?_eq_getElem hlt⟩
      obtain ⟨ag, ao, rfl, lg, c1⟩ := HH.out k y hy
      have a0 : wr.cell? ⟨ag, ao + k * 6, none⟩ = some (.int .i64 y.id) := OO.out.cell (c1 0 _ rfl) (fun s => s)
      have a1 : wr.cell? ⟨ag, ao + k * 6 + 1, none⟩ = some (.int .i64 y.f.n) := OO.out.cell (c1 1 _ rfl) (fun s => s)
      have a2 : wr.cell? ⟨ag, ao + k * 6 + 2, none⟩ = some (.int .i64 y.f.a) := OO.out.cell (c1 2 _ rfl) (fun s => s)
      have a3 : wr.cell? ⟨ag, ao + k * 6 + 3, none⟩ = some (.int .i64 y.f.p) := OO.out.cell (c1 3 _ rfl) (fun s => s)
      have a4 : wr.cell? ⟨ag, ao + k * 6 + 4, none⟩ = some (.int .i64 y.f.g) := OO.out.cell (c1 4 _ rfl) (fun s => s)
      have a5 : wr.cell? ⟨ag, ao + k * 6 + 5, none⟩ = some (.int .i64 y.used) := OO.out.cell (c1 5 _ rfl) (fun s => s)
      have hm := List.mem_of_getElem? hy
      have HY := Lib.hid hy
      have ly := Lib.hid (HR.out y hm)
      have LY := Lib.hid (HL.out y hm)
      clear hy c1 hm
      go_wp2_with fail
      have OA := Lib.hid (OO.out.alloc (.cells #[.int .i64 y.id, .int .i64 y.f.n, .int .i64 y.f.a, .int .i64 y.f.p, .int .i64 y.f.g, .int .i64 y.used] 118))
      (with_reducible refine (LY.out _ OA.out).mono ?_)
      rintro e w2 ⟨rfl, o2⟩
      have O2 := Lib.hid (OA.out.same o2)
      clear o2 OA LY a0 a1 a2 a3 a4 a5
      have ly1 := ly.out.1
      have ly2 := ly.out.2
      clear ly
      by_cases hf : fit y = true
      · by_cases ha : av = -1
        · have NX := Lib.hid (HB.out.more HY.out hf (.inl ha))
          have d1 : (av == (-1)) = true := by simp [ha]
          simp only [hf]
          clear ha HB
          generalize rank y = ry at *
          go_wp2_with fail
          go_roundw
          case rel => exact ⟨k + 1, k, ry, by omega, by go_num, rfl, rfl, NX.out, O2.out⟩
          case measure => simp [intOf]; omega
        · have d1 : (av == (-1)) = false := by simp [ha]
          by_cases hg : gv < rank y
          · have NX := Lib.hid (HB.out.more HY.out hf (.inr hg))
            have d2 : decide (gv < rank y) = true := by simp [hg]
            simp only [hf]
            clear ha HB hg
            generalize rank y = ry at *
            go_wp2_with fail
            go_roundw
            case rel => exact ⟨k + 1, k, ry, by omega, by go_num, rfl, rfl, NX.out, O2.out⟩
            case measure => simp [intOf]; omega
          · have NX := Lib.hid (HB.out.less HY.out ha (by omega))
            have d2 : decide (gv < rank y) = false := by simp [hg]
            simp only [hf]
            clear ha HB hg
            generalize rank y = ry at *
            go_wp2_with fail
            go_roundw
            case rel => exact ⟨k + 1, av, gv, by omega, by go_num, rfl, rfl, NX.out, O2.out⟩
            case measure => simp [intOf]; omega
      · have hf : fit y = false := by simpa using hf
        have NX := Lib.hid (HB.out.no HY.out hf)
        simp only [hf]
        clear HB
        generalize rank y = ry at *
        go_wp2_with fail
        go_roundw
        case rel => exact ⟨k + 1, av, gv, by omega, by go_num, rfl, rfl, NX.out, O2.out⟩
        case measure => simp [intOf]; omega
    · have e : k = ss.length := by omega
      subst e
      go_wp2_with fail
      go_ret
      exact ⟨⟨av, gv, rfl, HB.out⟩, OO.out⟩
end Go.Proofs.YtlfnncahhbbmpaaGreatDoor

namespace Go.Proofs.YtlfnncahhbbmpaaGreatDoor
open Go.RowKit Go.Maps
set_option linter.unusedVariables false
set_option maxRecDepth 100000

theorem ranges_end {left : Lit → Bool} {es : List En} {e : En} (h : ∀ kl, left kl = false) (k : ∀ a ∈ es, left (.int .i64 a.next) = false → a.age ≤ e.age) : ∀ a ∈ es, a.age ≤ e.age := fun a ha => k a ha (h _)

/-- the oldest of those that have been seen -/
def Seen8 (L : Int) (es : List En) (left : Lit → Bool) (o l : Int) : Prop :=
  (o = 0 ∧ l = L ∧ ∀ e ∈ es, left (.int .i64 e.next) = true) ∨ ∃ e ∈ es, o = e.next ∧ l = L - e.age ∧ ∀ a ∈ es, left (.int .i64 a.next) = false → a.age ≤ e.age

set_option maxHeartbeats 1000000 in
theorem oldest_any (p b L size life : Nat) (es : List En) (w : World) (h : Tb w p b L size life es) (hL : L < 1000000) (hp : ∀ e ∈ es, 1 ≤ e.age) (hne : es ≠ []) :
    Calls Tryz.prog 170 #[.pointer (some ⟨p, 0, none⟩)] w fun e w' => Only none_ w w' ∧ ∃ y ∈ es, (∀ a ∈ es, a.age ≤ y.age) ∧ e = .returned (.int .i64 y.next) := by
  have F1 := Lib.hid h.fine
  obtain ⟨lp, lb⟩ := h.lt
  obtain ⟨r, ⟨D0, hown, hr0⟩, f⟩ := h
  have c2 : w.drew.cell? ⟨p, 2, none⟩ = some (.int .i64 L) := by show w.cell? _ = _; rw [r.cell]; rfl
  have c3 : w.drew.cell? ⟨p, 3, none⟩ = some (.map (some b)) := by show w.cell? _ = _; rw [r.cell]; rfl
  have OW := Lib.hid (show w.drew.ownsMap Tryz.prog 3 (plainElem Tryz.prog 3) b es.length D0 from hown)
  have O1 := Lib.hid (Only.refl none_ w).drew
  have HR0 := Lib.hid hr0
  have HP := Lib.hid hp
  have HE := Lib.hid hne
  have SZ := Lib.hid (show w.drew.heap.size = w.heap.size from rfl)
  clear r hown hr0 f hp hne
  go_enter Tryz.func170, Tryz.ntmps170
  go_wp2_with fail
  go_region
  all_goals
    generalize w.drew = W at *
    go_wp2_with (first
      | (at_range; refine wpList_range_own _ rfl _ 68 rfl 3 3 lawI Tryz.underlying68 _ b es.length D0 rfl OW.out ?_; intro w0 hrg0 hg0 hs0)
      | go_in)
    have HG0 := Lib.hid hrg0
    have G0 := Lib.hid (show Only none_ W w0 from (Only.of_grown hg0).more (fun _ _ e => by cases e))
    clear hrg0 hg0 hs0
    go_frame
    go_loopw [3, 4] (fun o l wr => ∃ (left : Lit → Bool) (cnt : Nat) (o' l' : Int), wr.ranges Tryz.prog 3 (plainElem Tryz.prog 3) b W.heap.size es.length D0 left cnt ∧ o = .int .i64 o' ∧ l = .int .i64 l' ∧ Seen8 L es left o' l' ∧ Only none_ w wr)
      (fun _ _ wr => wr.rangeLeft b W.heap.size)
    case atStart =>
      refine ⟨_, _, _, _, HG0.out, rfl, rfl, .inl ⟨rfl, rfl, fun e he => ?_⟩, O1.out.idle G0.out⟩
      rw [HR0.out.1, hasE_iff.2 ⟨e, he, rfl⟩]
    case round =>
      obtain ⟨left, cnt, o', l', hrg, rfl, rfl, hs, ow⟩ := hrel
      have RG := Lib.hid hrg
      have OO := Lib.hid ow
      have SE := Lib.hid hs
      clear ow hs
      go_wp2_with (first
        | (at_next; refine wpList_next_ranges_ii _ rfl _ rfl 3 3 .i64 .i64 lawI Tryz.underlying3 Tryz.underlying3 b W.heap.size es.length _ _ _ rfl hrg ?_ ?_)
        | go_in)
      · intro _ hl0
        go_wp2
        go_ret
        refine ⟨OO.out, ?_⟩
        rcases SE.out with ⟨_, _, k⟩ | ⟨e, he, rfl, _, k⟩
        · obtain ⟨e, he⟩ := List.exists_mem_of_ne_nil _ HE.out
          have := k e he
          rw [hl0] at this
          cases this
        · exact ⟨e, he, ranges_end hl0 k, rfl⟩
      · intro x c w1 cnt1 hwx hwc hlx hat hrg1 hlt hg1 hs1 hen
        obtain ⟨e, he, rfl, rfl⟩ := entry_of HR0.out hat
        have G1 := Lib.hid (Only.of_grown hg1)
        have sz := SZ.out
        have O3 := Lib.hid (OO.out.trans G1.out (fun i hi q => by have := Option.some.inj q; omega))
        have RG1 := Lib.hid hrg1
        have HE1 := Lib.hid he
        have ap := HP.out e he
        have NX := Lib.hid (fun a (ha : a ∈ es) => next_inj F1.out.apart ha he)
        clear hat he hlx G1 hrg1 hs1 hg1 sz
        by_cases hy : (L : Int) - e.age < l'
        · have d1 : decide ((L : Int) - (e.age : Int) < l') = true := by simpa using hy
          have SE2 := Lib.hid (show Seen8 L es (strike left e.next) e.next (L - e.age) from by
            refine .inr ⟨e, HE1.out, rfl, rfl, fun a ha k => ?_⟩
            simp only [strike, key_eq] at k
            by_cases q : a.next = e.next
            · rw [NX.out a ha q]; exact Nat.le_refl _
            · have kf : (a.next == e.next) = false := by simp [q]
              rw [kf] at k
              simp at k
              rcases SE.out with ⟨_, _, k2⟩ | ⟨y, hy2, _, rfl, k2⟩
              · rw [k2 a ha] at k; cases k
              · have := k2 a ha k
                omega)
          clear hy
          go_wp2
          go_roundw
          case rel => exact ⟨strike left e.next, cnt1, _, _, RG1.out, rfl, rfl, SE2.out, O3.out⟩
          case measure => rw [World.ranges.left_eq RG1.out, RG.out.left_eq]; exact hlt
        · have d1 : decide ((L : Int) - (e.age : Int) < l') = false := by simpa using hy
          have SE2 := Lib.hid (show Seen8 L es (strike left e.next) o' l' from by
            rcases SE.out with ⟨_, rfl, k2⟩ | ⟨y, hy2, rfl, rfl, k2⟩
            · omega
            · refine .inr ⟨y, hy2, rfl, rfl, fun a ha k => ?_⟩
              simp only [strike, key_eq] at k
              by_cases q : a.next = e.next
              · rw [NX.out a ha q]; omega
              · have kf : (a.next == e.next) = false := by simp [q]
                rw [kf] at k
                simp at k
                exact k2 a ha k)
          clear hy
          go_wp2
          go_roundw
          case rel => exact ⟨strike left e.next, cnt1, _, _, RG1.out, rfl, rfl, SE2.out, O3.out⟩
          case measure => rw [World.ranges.left_eq RG1.out, RG.out.left_eq]; exact hlt

theorem wf_i (x : Int) (h : -9223372036854775808 ≤ x ∧ x ≤ 9223372036854775807) : (Lit.int .i64 x).wf = true := by
  exact WalkArith.wf_i64 h

/-- the last step: the block is laid into the map -/
theorem store8 {w : World} {b n : Nat} {D : DataW Unit} (h : w.ownsMap Tryz.prog 3 (plainElem Tryz.prog 3) b n D) (hn : n < 1000) (x : Int) (L : Nat) (hL : L < 1000000) (hx : 0 ≤ x ∧ x ≤ 1048584) :
    ∃ w', (Instr.mapUpdate 68 (.map (some b)) (.int .i64 x) (.int .i64 (L : Int))).run Tryz.prog w = .ok () w' ∧ w'.ownsMap Tryz.prog 3 (plainElem Tryz.prog 3) b (n + 1) (D.put (.int .i64 x) (.lit (.int .i64 (L : Int)))) ∧ Only (fun k => k = b) w w' := by
  obtain ⟨w', h1, h2, h3⟩ := h.store lawI Tryz.underlying68 (by unfold maxLen; omega) (keyOf_int_mk Tryz.underlying3 (wf_i x (by omega))) (plainElem_int Tryz.underlying3 (wf_i (L : Int) (by omega)))
  exact ⟨w', h1, h2, only_turned h3⟩

set_option maxHeartbeats 1000000 in
theorem note_any (p b L size life : Nat) (es : List En) (x : Int) (w : World) (h : Tb w p b L size life es) (hL : L < 1000000) (hp : ∀ e ∈ es, 1 ≤ e.age) (hx : 0 ≤ x ∧ x ≤ 1048584) :
    Calls Tryz.prog 159 #[.pointer (some ⟨p, 0, none⟩), .int .i64 x] w fun e w' => e = .returned (.tuple #[]) ∧ Tb w' p b L size life (noteE size es x) ∧ Only (fun k => k = b) w w' := by
  have F1 := Lib.hid h.fine
  have NF := Lib.hid (note_fine h.fine hp hx)
  have H := Lib.hid h
  have ne := h.ne
  obtain ⟨lp, lb⟩ := h.lt
  obtain ⟨r, ⟨D0, hown, hr0⟩, f⟩ := h
  have HR0 := Lib.hid hr0
  have hkey := keyOf_int_mk Tryz.underlying3 (wf_i x (by omega))
  have len32 : es.length ≤ 32 := Nat.le_trans f.few f.s32
  have few := f.few
  have s1 := f.s1
  have c0 : w.drew.cell? ⟨p, 0, none⟩ = some (.int .i64 size) := by show w.cell? _ = _; rw [r.cell]; rfl
  have c3 : w.cell? ⟨p, 3, none⟩ = some (.map (some b)) := by rw [r.cell]; rfl
  have c3' : w.drew.cell? ⟨p, 3, none⟩ = some (.map (some b)) := c3
  have R1 := Lib.hid r
  have OW := Lib.hid hown
  have hh := hr0.1 x
  have LEN : ∀ ty, (Builtin.len_ #[68] ty #[.map (some b)]).run Tryz.prog w.drew = .ok (.int .i64 es.length) w.drew := fun ty => by
    have := (show w.drew.ownsMap Tryz.prog 3 (plainElem Tryz.prog 3) b es.length D0 from hown).len Tryz.underlying68 ty
    rw [hr0.size hown f.apart] at this
    exact this
  have IM := Lib.hid (show IsMap D0 from let ⟨es, _, _, _, _, e⟩ := hown; ⟨_, e⟩)
  cases hc : hasE es x with
  | true =>
    rw [hc] at hh
    have RM := Lib.hid (show room size es x = cut es x by unfold room; rw [if_pos hc])
    obtain ⟨w4, run4, own4, o4⟩ := store8 (show w.drew.drew.ownsMap Tryz.prog 3 (plainElem Tryz.prog 3) b es.length D0 from hown) (by omega) x L hL hx
    have cL : w.drew.drew.cell? ⟨p, 2, none⟩ = some (.int .i64 L) := by show w.cell? _ = _; rw [r.cell]; rfl
    have c34 : w.drew.drew.cell? ⟨p, 3, none⟩ = some (.map (some b)) := c3
    have O4 := Lib.hid ((Only.refl (fun k => k = b) w).drew.drew.same o4)
    have OW4 := Lib.hid own4
    clear r hown hr0 f own4 o4 hc c3'
    go_enter Tryz.func159, Tryz.ntmps159
    go_wp2_with (first
      | (at_lookup; refine wpList_lookup_own_ok_int _ rfl _ _ 68 rfl 3 3 .i64 lawI Tryz.underlying68 Tryz.underlying3 (zeroI _) b es.length D0 rfl OW.out _ _ rfl hkey ?_; intro c hat hwc)
      | go_in)
    go_region
    all_goals
      go_wp2_with fail
      go_region
      all_goals
        go_wp2
        go_end0
        refine ⟨rfl, ⟨O4.out.row R1.out ne, ?_, NF.out⟩, O4.out⟩
        unfold noteE
        rw [RM.out]
        have h2 := HR0.out.over IM.out x
        exact Md.of OW4.out h2 (by have := NF.out.apart; unfold noteE at this; rw [RM.out] at this; exact this)
  | false =>
    rw [hc] at hh
    have hno : ∀ e ∈ es, e.next ≠ x := fun e he q => by have := hasE_iff.2 ⟨e, he, q⟩; rw [hc] at this; cases this
    by_cases hf : es.length = size
    · have RM := Lib.hid (show room size es x = es.dropLast by unfold room; rw [if_neg (by rw [hc]; simp), if_pos (by omega)])
      have d1 : ((es.length : Int) == (size : Int)) = true := by simp; omega
      have enil : es ≠ [] := fun q => by rw [q] at hf; simp at hf; omega
      have A := Lib.hid (oldest_any p b L size life es w.drew.drew (H.out.still (Only.refl none_ w).drew.drew) hL hp enil)
      have c3'' : w.drew.drew.cell? ⟨p, 3, none⟩ = some (.map (some b)) := c3
      have HNO := Lib.hid hno
      have AP := Lib.hid (show es.Pairwise (fun a b => a.age < b.age) ∧ es.Pairwise (fun a b => a.next ≠ b.next) from ⟨f.rise, f.apart⟩)
      have HI := Lib.hid f.in_
      clear r hown hr0 f hc hno hf enil
      go_enter Tryz.func159, Tryz.ntmps159
      go_wp2_with (first
        | (at_lookup; refine wpList_lookup_own_ok_int _ rfl _ _ 68 rfl 3 3 .i64 lawI Tryz.underlying68 Tryz.underlying3 (zeroI _) b es.length D0 rfl OW.out _ _ rfl hkey ?_; intro c hat hwc)
        | go_in)
      go_region
      all_goals
        go_wp2_with fail
        go_region_with (go_at_call 170; refine (A.out).mono ?_; rintro e w3 ⟨o3, y, hy, hmax, rfl⟩
                        have O3 := Lib.hid ((Only.refl none_ w).drew.drew.same o3)
                        have OW3 := Lib.hid (owns_keep OW.out O3.out (fun q => q))
                        have hky := keyOf_int_mk Tryz.underlying3 (wf_i y.next (by have := HI.out y hy; omega))
                        obtain ⟨w4, run4, own4, turn4⟩ := OW3.out.drop lawI Tryz.underlying68 hky 0
                        have c33 : w3.cell? ⟨p, 3, none⟩ = some (.map (some b)) := O3.out.cell c3 (fun q => q)
                        have HY := Lib.hid (last_cut AP.out.1 AP.out.2 hy hmax)
                        have O4 := Lib.hid (O3.out.then_ (only_turned turn4))
                        have OW4 := Lib.hid own4
                        clear own4 turn4 hmax o3 hy hky)
        all_goals
          have R4 := Lib.hid ((O4.out.row R1.out ne).drew)
          have cL : w4.drew.cell? ⟨p, 2, none⟩ = some (.int .i64 L) := by rw [R4.out.cell]; rfl
          have c34 : w4.drew.cell? ⟨p, 3, none⟩ = some (.map (some b)) := by rw [R4.out.cell]; rfl
          obtain ⟨w5, run5, own5, o5⟩ := store8 (show w4.drew.ownsMap Tryz.prog 3 (plainElem Tryz.prog 3) b es.length _ from OW4.out) (by omega) x L hL hx
          have O5 := Lib.hid (O4.out.drew.same o5)
          have OW5 := Lib.hid own5
          clear own5 o5
          go_wp2_with fail
          go_region
          all_goals
            go_wp2
            go_end0
            refine ⟨rfl, ⟨O5.out.row R1.out ne, ?_, NF.out⟩, O5.out⟩
            unfold noteE
            rw [RM.out]
            refine Md.of OW5.out ?_ (by have := NF.out.apart; unfold noteE at this; rw [RM.out] at this; exact this)
            rw [← HY.out]
            exact (HR0.out.del y.next).put (IM.out.del _) x (fun e he => HNO.out e ((cut_sub es y.next).subset he))
    · have RM := Lib.hid (show room size es x = es by unfold room; rw [if_neg (by rw [hc]; simp), if_neg (by omega)])
      have d1 : ((es.length : Int) == (size : Int)) = false := by simp; omega
      have HNO := Lib.hid hno
      obtain ⟨w5, run5, own5, o5⟩ := store8 (show w.drew.drew.ownsMap Tryz.prog 3 (plainElem Tryz.prog 3) b es.length D0 from hown) (by omega) x L hL hx
      have cL : w.drew.drew.cell? ⟨p, 2, none⟩ = some (.int .i64 L) := by show w.cell? _ = _; rw [r.cell]; rfl
      have c34 : w.drew.drew.cell? ⟨p, 3, none⟩ = some (.map (some b)) := c3
      have O5 := Lib.hid ((Only.refl (fun k => k = b) w).drew.drew.same o5)
      have OW5 := Lib.hid own5
      clear r hown hr0 f hc hno hf own5 o5
      go_enter Tryz.func159, Tryz.ntmps159
      go_wp2_with (first
        | (at_lookup; refine wpList_lookup_own_ok_int _ rfl _ _ 68 rfl 3 3 .i64 lawI Tryz.underlying68 Tryz.underlying3 (zeroI _) b es.length D0 rfl OW.out _ _ rfl hkey ?_; intro c hat hwc)
        | go_in)
      go_region
      all_goals
        go_wp2_with fail
        go_region
        all_goals
          go_wp2
          go_end0
          refine ⟨rfl, ⟨O5.out.row R1.out ne, ?_, NF.out⟩, O5.out⟩
          unfold noteE
          rw [RM.out]
          refine Md.of OW5.out ?_ (by have := NF.out.apart; unfold noteE at this; rw [RM.out] at this; exact this)
          exact HR0.out.put IM.out x HNO.out
end Go.Proofs.YtlfnncahhbbmpaaGreatDoor

namespace Go.Proofs.YtlfnncahhbbmpaaGreatDoor
open Go.RowKit Go.Maps
set_option linter.unusedVariables false
set_option maxRecDepth 100000

/-- behind a look: the count of looks may be one more -/
def Looks8 (p b L size life : Nat) (es : List En) (f c : Int) (w w' : World) : Prop := (∃ L', L ≤ L' ∧ L' ≤ L + 1 ∧ Tb w' p b L' size life (lookT size life es f c)) ∧ Only (two8 p b) w w'

theorem look_no (p b L size life : Nat) (es : List En) (f c : Int) (w : World) (h : Tb w p b L size life es) (hm : mayLook f c = false) :
    Calls Tryz.prog 143 #[.pointer (some ⟨p, 0, none⟩), .int .i64 f, .int .i64 c] w fun e w' => e = .returned (.tuple #[.bool false, .int .i64 1]) ∧ w = w' := by
  have hm : ¬ (0 ≤ f ∧ f ≤ 1048576 ∧ 1 ≤ c ∧ c ≤ 8) := of_decide_eq_false hm
  clear h
  by_cases h1 : f < 0
  · have d1 : decide (f < 0) = true := by simpa using h1
    clear hm h1
    go_enter Tryz.func143, Tryz.ntmps143
    go_wp2
    go_ret2
    exact ⟨rfl, rfl⟩
  · have d1 : decide (f < 0) = false := by simpa using h1
    by_cases h2 : 1048576 < f
    · have d2 : decide (1048576 < f) = true := by simpa using h2
      clear hm h1 h2
      go_enter Tryz.func143, Tryz.ntmps143
      go_wp2
      go_ret2
      exact ⟨rfl, rfl⟩
    · have d2 : decide (1048576 < f) = false := by simpa using h2
      by_cases h3 : c < 1
      · have d3 : decide (c < 1) = true := by simpa using h3
        clear hm h1 h2 h3
        go_enter Tryz.func143, Tryz.ntmps143
        go_wp2
        go_ret2
        exact ⟨rfl, rfl⟩
      · have d3 : decide (c < 1) = false := by simpa using h3
        have d4 : decide (8 < c) = true := by simp; omega
        clear hm h1 h2 h3
        go_enter Tryz.func143, Tryz.ntmps143
        go_wp2
        go_ret2
        exact ⟨rfl, rfl⟩

set_option maxHeartbeats 1000000 in
theorem look_any (p b L size life : Nat) (es : List En) (f c : Int) (w : World) (h : Tb w p b L size life es) (hL : L < 900000) :
    Calls Tryz.prog 143 #[.pointer (some ⟨p, 0, none⟩), .int .i64 f, .int .i64 c] w fun e w' => e = .returned (.tuple #[.bool (lookB size life es f c), .int .i64 (lookC f c)]) ∧ Looks8 p b L size life es f c w w' := by
  cases hm : mayLook f c with
  | false =>
    refine (look_no p b L size life es f c w h hm).mono ?_
    rintro e w' ⟨rfl, rfl⟩
    refine ⟨by unfold lookB lookC; rw [hm]; rfl, ⟨L, Nat.le_refl _, by omega, ?_⟩, Only.refl _ _⟩
    unfold lookT
    rw [hm]
    exact h
  | true =>
    have hm2 := mayLook_iff.1 hm
    have d1 : decide (f < 0) = false := by simp; omega
    have d2 : decide (1048576 < f) = false := by simp; omega
    have d3 : decide (c < 1) = false := by simp; omega
    have d4 : decide (8 < c) = false := by simp; omega
    have eC : lookC f c = 0 := by unfold lookC; rw [hm]; rfl
    have eT : lookT size life es f c = (lookE size life es f c).1 := by unfold lookT; rw [hm]; rfl
    have eB : lookB size life es f c = (lookE size life es f c).2 := by unfold lookB; rw [hm]; rfl
    have G := Lib.hid (grow_any p b L size life es w h (by omega))
    have ne := h.ne
    have hkey := keyOf_int_mk Tryz.underlying3 (wf_i f (by omega))
    have fc : wrap64 (f + c) = f + c := by unfold wrap64; omega
    have FC := Lib.hid (show 0 ≤ f + c ∧ f + c ≤ 1048584 by omega)
    rw [eC, eB]
    unfold Looks8
    rw [eT]
    cases hh : hasE (older life es) f with
    | true =>
      have e1 : lookE size life es f c = (cut (older life es) f, true) := by unfold lookE; rw [hh]; rfl
      rw [e1]
      have HH := Lib.hid hh
      clear h hm hm2 eC eT eB hh e1
      go_enter Tryz.func143, Tryz.ntmps143
      go_wp2_with fail
      (with_reducible refine (G.out).mono ?_)
      rintro e w1 ⟨rfl, h1, o1⟩
      have O1 := Lib.hid o1
      obtain ⟨r, ⟨D0, hown, hr0⟩, fi⟩ := h1
      have c3 : w1.cell? ⟨p, 3, none⟩ = some (.map (some b)) := by rw [r.cell]; rfl
      have OW := Lib.hid hown
      have HR0 := Lib.hid hr0
      have FI := Lib.hid fi
      have R1 := Lib.hid r
      have q := hr0.1 f
      rw [HH.out] at q
      clear r hown hr0 fi o1
      go_wp2_with (first
        | (at_lookup; refine wpList_lookup_own_ok_int _ rfl _ _ 68 rfl 3 3 .i64 lawI Tryz.underlying68 Tryz.underlying3 (zeroI _) b _ D0 rfl OW.out _ _ rfl hkey ?_; intro c1 hat hwc)
        | (at_delete; refine wpList_delete_own _ rfl _ _ 68 3 rfl 3 lawI Tryz.underlying68 _ b _ D0 rfl OW.out _ _ rfl hkey ?_; intro w2 own2 turn2)
        | go_in)
      go_ret2
      have O2 := only_turned turn2
      refine ⟨rfl, ⟨L + 1, by omega, by omega, O2.row R1.out ne, ?_, cut_fine f FI.out⟩, O1.out.trans O2 (fun i hi q => .inr q)⟩
      exact Md.of own2 (HR0.out.del f) (cut_fine f FI.out).apart
    | false =>
      have e1 : lookE size life es f c = (noteE size (older life es) (f + c), false) := by unfold lookE; rw [hh]; rfl
      rw [e1]
      have HH := Lib.hid hh
      clear h hm hm2 eC eT eB hh e1
      go_enter Tryz.func143, Tryz.ntmps143
      go_wp2_with fail
      (with_reducible refine (G.out).mono ?_)
      rintro e w1 ⟨rfl, h1, o1⟩
      have O1 := Lib.hid o1
      have N1 := Lib.hid (note_any p b (L + 1) size life (older life es) (f + c) w1 h1 (by omega) older_pos FC.out)
      obtain ⟨r, ⟨D0, hown, hr0⟩, fi⟩ := h1
      have c3 : w1.cell? ⟨p, 3, none⟩ = some (.map (some b)) := by rw [r.cell]; rfl
      have OW := Lib.hid hown
      have q := hr0.1 f
      rw [HH.out] at q
      clear r hown hr0 fi o1
      go_wp2_with (first
        | (at_lookup; refine wpList_lookup_own_ok_int _ rfl _ _ 68 rfl 3 3 .i64 lawI Tryz.underlying68 Tryz.underlying3 (zeroI _) b _ D0 rfl OW.out _ _ rfl hkey ?_; intro c1 hat hwc)
        | (go_at_call 159; refine (N1.out).mono ?_; rintro e w2 ⟨rfl, h2, o2⟩
           have H2 := Lib.hid h2
           have O2 := Lib.hid o2
           clear h2 o2)
        | go_in)
      go_ret2
      exact ⟨rfl, ⟨L + 1, by omega, by omega, H2.out⟩, O1.out.trans O2.out (fun i hi q => .inr q)⟩

end Go.Proofs.YtlfnncahhbbmpaaGreatDoor

namespace Go.Proofs.YtlfnncahhbbmpaaGreatDoor
open Go.RowKit Go.Maps Go.Sort Go.Shelf
set_option linter.unusedVariables false
set_option maxRecDepth 100000

end Go.Proofs.YtlfnncahhbbmpaaGreatDoor

namespace Go.Proofs.YtlfnncahhbbmpaaGreatDoor
open Go.RowKit
set_option linter.unusedVariables false
set_option maxRecDepth 100000

theorem same_len_no {es fs : List En} (h : es.length ≠ fs.length) : decide (es = fs) = false := by
  simp
  intro e
  exact h (by rw [e])
theorem same_no {es fs : List En} {k : Nat} {y z : En} (hy : es[k]? = some y) (hz : fs[k]? = some z) (h : y ≠ z) : decide (es = fs) = false := by
  simp
  intro e
  rw [e, hz] at hy
  injection hy with hy
  exact h hy.symm
theorem same_yes {es fs : List En} (hl : es.length = fs.length) (h : ∀ j, j < es.length → es[j]? = fs[j]?) : decide (es = fs) = true := by
  simp
  apply List.ext_getElem?
  intro j
  rcases Nat.lt_or_ge j es.length with q | q
  · exact h j q
  · rw [List.getElem?_eq_none q, List.getElem?_eq_none (by omega)]

end Go.Proofs.YtlfnncahhbbmpaaGreatDoor

namespace Go.Proofs.YtlfnncahhbbmpaaGreatDoor
open Go.RowKit Go.ChangeShapes Go.WideShapes Go.Deep
set_option linter.unusedVariables false
set_option maxRecDepth 100000


theorem Only.to_below8 {a b : World} (h : Only none_ a b) : Below a.heap.size a b := h.below (Nat.le_refl _) (fun _ _ s => s)
theorem below_on8 {w w1 w2 : World} (h : Below w.heap.size w w1) (o : Only none_ w1 w2) : Below w.heap.size w w2 := Only.below_to h o (Nat.le_refl _) (fun _ _ s => s)
theorem below_two {w w1 w2 : World} {p b : Nat} (h : Below w.heap.size w w1) (o : Only (two8 p b) w1 w2) (hp : w.heap.size ≤ p) (hb : w.heap.size ≤ b) : Below w.heap.size w w2 :=
  Only.below_to h o (Nat.le_refl _) (fun i hi e => by unfold two8 at e; omega)

theorem Holds.still8 {α : Type} {w w' : World} {A : Option Addr} {k : Nat} {c : α → List Value} {xs : List α} (h : Holds w A k c xs) (o : Only none_ w w') : Holds w' A k c xs := h.below o.to_below8
end Go.Proofs.YtlfnncahhbbmpaaGreatDoor

namespace Go.Proofs.YtlfnncahhbbmpaaGreatDoor
open Go.RowKit Go.Maps
set_option linter.unusedVariables false
set_option maxRecDepth 100000

/-- the code's own tracker at block q: its table at block p, that one's map at block b, behind L looks; all its blocks are among M -/
structure StAt (w : World) (q p b L : Nat) (v : Value) (M : Nat → Prop) (c : Cf) (t : Tr) : Prop where
  row : Row w q 108 #[.int .i64 c.most, .int .i64 c.deg, .int .i64 c.blk, .pointer (some ⟨p, 0, none⟩), v, .int .i64 t.begun, .int .i64 t.uses]
  own : OwnsSm w M v t.ss
  tab : Tb w p b L c.size c.life t.es
  le : L ≤ t.uses
  mq : M q
  mp : M p
  mb : M b
  lt : ∀ g, M g → g < w.heap.size
theorem OwnsSm.keep' {w w' : World} {M : Nat → Prop} {v : Value} {ss : List Sm} (h : OwnsSm w M v ss) {S : Nat → Prop} (o : Only S w w') (hn : ∀ g, v.ownBlock = some g → ¬ S g) : OwnsSm w' M v ss := ⟨h.1.keep o hn, h.2⟩
theorem StAt.keep {w w' : World} {q p b L : Nat} {v : Value} {M : Nat → Prop} {c : Cf} {t : Tr} (h : StAt w q p b L v M c t) {S : Nat → Prop} (o : Only S w w') (hn : ∀ g, M g → ¬ S g) : StAt w' q p b L v M c t :=
  ⟨o.row h.row (hn q h.mq), h.own.keep o hn, h.tab.keep o (hn p h.mp) (hn b h.mb), h.le, h.mq, h.mp, h.mb, fun g hg => Nat.lt_of_lt_of_le (h.lt g hg) o.size⟩
theorem StAt.still {w w' : World} {q p b L : Nat} {v : Value} {M : Nat → Prop} {c : Cf} {t : Tr} (h : StAt w q p b L v M c t) (o : Only none_ w w') : StAt w' q p b L v M c t := h.keep o (fun _ _ s => s)
theorem StAt.qp {w : World} {q p b L : Nat} {v : Value} {M : Nat → Prop} {c : Cf} {t : Tr} (h : StAt w q p b L v M c t) : q ≠ p := h.row.apart h.tab.row (by decide)
theorem StAt.qb {w : World} {q p b L : Nat} {v : Value} {M : Nat → Prop} {c : Cf} {t : Tr} (h : StAt w q p b L v M c t) : q ≠ b := h.tab.md.ne h.row
theorem StAt.gq {w : World} {q p b L : Nat} {v : Value} {M : Nat → Prop} {c : Cf} {t : Tr} (h : StAt w q p b L v M c t) {g : Nat} (hg : v.ownBlock = some g) : g ≠ q := by
  rintro rfl
  have := h.own.not_row hg h.row
  revert this; decide
theorem StAt.gp {w : World} {q p b L : Nat} {v : Value} {M : Nat → Prop} {c : Cf} {t : Tr} (h : StAt w q p b L v M c t) {g : Nat} (hg : v.ownBlock = some g) : g ≠ p := by
  rintro rfl
  have := h.own.not_row hg h.tab.row
  revert this; decide
theorem StAt.gb {w : World} {q p b L : Nat} {v : Value} {M : Nat → Prop} {c : Cf} {t : Tr} (h : StAt w q p b L v M c t) {g : Nat} (hg : v.ownBlock = some g) : g ≠ b := by
  rcases h.own.1.2 with ⟨hv, _⟩ | ⟨g', cap, cur, hv, _, hh, _⟩
  · rw [hv] at hg; cases hg
  · rw [hv] at hg
    have hg : some g' = some g := hg
    injection hg with hg
    subst hg
    exact h.tab.md.ne (show Row w g' 118 cur from hh)
/-- some tracker of the code's own -/
def ST (w : World) (q : Nat) (M : Nat → Prop) (c : Cf) (t : Tr) : Prop := ∃ p b L v, StAt w q p b L v M c t
theorem ST.keep {w w' : World} {q : Nat} {M : Nat → Prop} {c : Cf} {t : Tr} (h : ST w q M c t) {S : Nat → Prop} (o : Only S w w') (hn : ∀ g, M g → ¬ S g) : ST w' q M c t := by
  obtain ⟨p, b, L, v, h⟩ := h
  exact ⟨p, b, L, v, h.keep o hn⟩
theorem ST.still {w w' : World} {q : Nat} {M : Nat → Prop} {c : Cf} {t : Tr} (h : ST w q M c t) (o : Only none_ w w') : ST w' q M c t := h.keep o (fun _ _ s => s)
theorem ST.lt {w : World} {q : Nat} {M : Nat → Prop} {c : Cf} {t : Tr} (h : ST w q M c t) : ∀ g, M g → g < w.heap.size := by
  obtain ⟨p, b, L, v, h⟩ := h
  exact h.lt
/-- behind a call: its blocks are those that it had, and new ones -/
def STto (w : World) (q : Nat) (M : Nat → Prop) (c : Cf) (t : Tr) (w' : World) : Prop := (∃ M' : Nat → Prop, ST w' q M' c t ∧ ∀ g, M' g → M g ∨ w.heap.size ≤ g) ∧ Only M w w'
end Go.Proofs.YtlfnncahhbbmpaaGreatDoor
