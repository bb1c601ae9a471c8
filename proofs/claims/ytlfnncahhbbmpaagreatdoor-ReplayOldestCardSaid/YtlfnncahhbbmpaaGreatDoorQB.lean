/- Texts of the layers below, one behind the other. -/
import Derived.Test.YtlfnncahhbbmpaaGreatDoorQA
import Derived.Test.YtlfnncahhbbmpaaGreatDoorChecked
import Derived.Test.YtlfnncahhbbmpaaGreatDoorShelf
import Derived.Sort.OwnSortedInts
import Derived.RangeFuncBox
import Derived.Deep.RegionLaw
import Derived.StillTailTactics
import Derived.Deep.RegionHeld3
namespace Go.Proofs.YtlfnncahhbbmpaaGreatDoor
open Go.RowKit
set_option linter.unusedVariables false
set_option maxRecDepth 100000

def one (x : Int) : List Value := [.int .i64 x]
theorem one1 (x : Int) : (one x).length = 1 := rfl
theorem one_one : ∀ y : Int, ∀ u ∈ one y, u.oneCell' = true := by
  intro y u hu
  simp only [one, List.mem_cons, List.not_mem_nil, or_false] at hu
  rcases hu with rfl; rfl
theorem one_map (xs : List Int) : xs.flatMap one = xs.map (Value.int .i64) := by
  induction xs with
  | nil => rfl
  | cons x xs ih => rw [List.flatMap_cons, ih]; rfl
theorem info_int8 : (Tryz.prog.info? 3).map (fun i => (i.zero, i.size, i.bytes)) = some (some (.int .i64 0), 1, 8) := by kernel_rfl

/-- a slice of integers of the call's own -/
abbrev OwnsInts (w : World) (base : Nat) (v : Value) (xs : List Int) : Prop := Owns w base 3 1 one v xs

/-- the slice is turned round -/
theorem reverse_own (w : World) (base g cap : Nat) (xs : List Int) (h : OwnsInts w base (.slice (some ⟨g, 0, none⟩) xs.length cap) xs) (hs : xs.length ≤ 9223372036854775807) :
    Calls Tryz.prog 97 #[.slice (some ⟨g, 0, none⟩) xs.length cap] w fun e w' => e = .returned (.tuple #[]) ∧ OwnsInts w' base (.slice (some ⟨g, 0, none⟩) xs.length cap) xs.reverse ∧ Only (fun k => k = g) w w' := by
  rcases h.2 with ⟨h0, _⟩ | ⟨g', cap', cur, hv, hg, hh, h3, h4, h5, h6⟩
  · cases h0
  cases hv
  rw [one_map, Nat.mul_one] at h6
  refine (Tryz.slices_Reverse_int g 0 cap xs w (holds_of_blockI hh h6) hs).mono ?_
  rintro e w' ⟨rfl, n, rfl⟩
  have e0 : ∀ x : World, Go.Sort.grow x #[] = x := fun x => by simp [Go.Sort.grow]
  have gb := grownBy_sortedI (w := w) (g := g) (n := n) (os := #[]) xs.reverse.toArray
  rw [e0] at gb
  refine ⟨rfl, ?_, (Only.of_grown gb).more (fun j _ q => by injection q)⟩
  have hl : xs.reverse.length = xs.length := List.length_reverse
  have := ownsRow_sortedI (n := n) (os := #[]) hl hg hh h3 h4 h5
  rw [e0] at this
  show World.ownsRow _ _ _ _ _ (List.length _) _
  rw [one_map, hl]
  exact this

/-- a slice that reads so -/
def Reads (w : World) (v : Value) (xs : List Int) : Prop := ∃ a cap, v = .slice a xs.length cap ∧ ∀ (i : Nat) (x : Int), xs[i]? = some x → ∃ g o, a = some ⟨g, o, none⟩ ∧ w.cell? ⟨g, o + i, none⟩ = some (.int .i64 x)
theorem Reads.of_owns {w : World} {base : Nat} {v : Value} {xs : List Int} (h : OwnsInts w base v xs) : Reads w v xs := by
  rcases h.2 with ⟨hv, h2⟩ | ⟨g, cap, cur, hv, hg, hh, h3, h4, _⟩
  · have : xs = [] := List.eq_nil_of_length_eq_zero h2
    subst this
    exact ⟨none, 0, hv, fun i x hx => by simp at hx⟩
  · subst hv
    refine ⟨_, cap, rfl, fun i x hx => ⟨g, 0, rfl, ?_⟩⟩
    have := Owns.cell h one1 hx (j := 0) (by decide)
    rw [Nat.zero_add]
    simpa [one] using this
theorem Reads.keep {w w' : World} {v : Value} {xs : List Int} (h : Reads w v xs) {S : Nat → Prop} (o : Only S w w') (hn : ∀ g, v.ownBlock = some g → ¬ S g) (hv : ∀ a n c, v = .slice (some a) n c → a.off = 0) : Reads w' v xs := by
  obtain ⟨a, cap, rfl, hc⟩ := h
  refine ⟨a, cap, rfl, fun i x hx => ?_⟩
  obtain ⟨g, o', rfl, hcell⟩ := hc i x hx
  have := hv _ _ _ rfl
  simp only at this
  subst this
  exact ⟨g, 0, rfl, o.cell hcell (hn g rfl)⟩
theorem Reads.still {w w' : World} {v : Value} {xs : List Int} (h : Reads w v xs) (o : Only none_ w w') : Reads w' v xs := by
  obtain ⟨a, cap, rfl, hc⟩ := h
  refine ⟨a, cap, rfl, fun i x hx => ?_⟩
  obtain ⟨g, o', rfl, hcell⟩ := hc i x hx
  exact ⟨g, o', rfl, o.cell hcell (fun s => s)⟩

theorem eq_upto {xs ys : List Int} (hl : xs.length = ys.length) (h : ∀ j, j < xs.length → xs[j]? = ys[j]?) : xs = ys := by
  apply List.ext_getElem?
  intro j
  rcases Nat.lt_or_ge j xs.length with c | c
  · exact h j c
  · rw [List.getElem?_eq_none c, List.getElem?_eq_none (by omega)]

set_option maxHeartbeats 2000000 in
theorem ints_any (v u : Value) (xs ys : List Int) (w : World) (hx : Reads w v xs) (hy : Reads w u ys) (hm : xs.length ≤ 1000000) (hm2 : ys.length ≤ 1000000) :
    Calls Tryz.prog 65 #[v, u] w fun e w' => e = .returned (.bool (decide (xs = ys))) ∧ Only none_ w w' := by
  obtain ⟨a, ca, rfl, ha⟩ := hx
  obtain ⟨b, cb, rfl, hb⟩ := hy
  by_cases hl : xs.length = ys.length
  · have HA := Lib.hid ha
    have HB := Lib.hid hb
    have t : ((xs.length : Int) != (ys.length : Int)) = false := by simp [hl]
    have HL := Lib.hid hl
    clear ha hb
    have hl' : xs.length ≤ ys.length := by omega
    clear hl
    go_enter Tryz.func65, Tryz.ntmps65
    go_wp2_with fail
    go_loopw [5] (fun i wr => ∃ k : Nat, k ≤ xs.length ∧ i = .int .i64 k ∧ Only none_ w wr ∧ ∀ j, j < k → xs[j]? = ys[j]?) (fun i _ => xs.length - (intOf i).toNat)
    case atStart => exact ⟨0, Nat.zero_le _, rfl, Only.refl _ _, fun j hj => by omega⟩
    case round =>
      obtain ⟨k, hk, rfl, o, eq⟩ := hrel
      have O := Lib.hid o
      have EQ := Lib.hid eq
      clear o eq
      by_cases hlt : k < xs.length
      · obtain ⟨x, hx⟩ : ∃ x, xs[k]? = some x := ⟨_, List.getElem?_eq_getElem hlt⟩
        have hlt2 : k < ys.length := by omega
        obtain ⟨y, hy⟩ : ∃ y, ys[k]? = some y := ⟨_, List.getElem?_eq_getElem hlt2⟩
        obtain ⟨g1, o1, rfl, c1⟩ := HA.out k x hx
        obtain ⟨g2, o2, rfl, c2⟩ := HB.out k y hy
        have d1 := O.out.cell c1 (fun s => s)
        have d2 := O.out.cell c2 (fun s => s)
        have HX := Lib.hid hx
        have HY := Lib.hid hy
        clear hx hy c1 c2 HA HB
        by_cases e : x = y
        · have t2 : (x != y) = false := by simp [e]
          have E2 := Lib.hid e
          clear e
          go_wp2_with fail
          go_quiet (fail)
          go_wp2_with fail
          go_roundw
          case rel => exact ⟨k + 1, by omega, by go_num, O.out.drewN _, fun j hj => by
            rcases Nat.lt_or_ge j k with c | c
            · exact EQ.out j c
            · obtain rfl : j = k := by omega
              rw [HX.out, HY.out, E2.out]⟩
          case measure => simp [intOf]; omega
        · have t2 : (x != y) = true := by simpa using e
          have NE := Lib.hid (show decide (xs = ys) = false from by
            have : ¬ xs = ys := fun q => by
              have := HX.out
              rw [q, HY.out] at this
              injection this with this
              exact e this.symm
            simpa using this)
          clear e
          go_wp2_with fail
          go_quiet (fail)
          go_wp2_with fail
          go_ret
          exact ⟨by rw [NE.out]; rfl, O.out.drewN _⟩
      · have YE := Lib.hid (show decide (xs = ys) = true from by
          have : xs = ys := eq_upto HL.out (fun j hj => EQ.out j (by omega))
          simpa using this)
        have hge : xs.length ≤ k := by omega
        go_wp2_with fail
        go_ret
        exact ⟨by rw [YE.out]; rfl, O.out⟩
  · have t : ((xs.length : Int) != (ys.length : Int)) = true := by simp; omega
    have NE := Lib.hid (show decide (xs = ys) = false from by
      have : ¬ xs = ys := fun q => hl (by rw [q])
      simpa using this)
    clear ha hb hl
    go_enter Tryz.func65, Tryz.ntmps65
    go_wp2_with fail
    go_ret
    exact ⟨by rw [NE.out]; rfl, Only.refl _ _⟩
end Go.Proofs.YtlfnncahhbbmpaaGreatDoor

namespace Go.Proofs.YtlfnncahhbbmpaaGreatDoor
open Go.RowKit Go.Shelf
set_option linter.unusedVariables false
set_option maxRecDepth 100000
attribute [local go_sem] Oper.semAt_some

theorem Owns.lower {α : Type} {w : World} {base base' : Nat} {e : TypeId} {k : Nat} {c : α → List Value} {v : Value} {xs : List α} (h : Owns w base e k c v xs) (hb : base' ≤ base) : Owns w base' e k c v xs := by
  refine ⟨h.1, ?_⟩
  rcases h.2 with h2 | ⟨g, cap, cur, hv, hg, r⟩
  · exact .inl h2
  · exact .inr ⟨g, cap, cur, hv, Nat.le_trans hb hg, r⟩
def ints (l : List Nat) : List Int := l.map (fun x : Nat => (x : Int))
theorem ints_len (l : List Nat) : (ints l).length = l.length := by simp [ints]

set_option maxRecDepth 100000 in
set_option maxHeartbeats 2000000 in
theorem appendSeq_in (p b : Nat) (s : Sh) (k : Int) (w : World) (Bs Bl : Nat) (h : Lies w p b s) (hs : Bs < w.heap.size) (hl : Bl < w.heap.size)
    (cs : w.cell? ⟨Bs, 0, none⟩ = some (.pointer (some ⟨p, 0, none⟩))) (cl : w.cell? ⟨Bl, 0, none⟩ = some (.int .i64 k)) :
    CallsIn Fence.wide 5 Tryz.prog 131 #[.slice none 0 0, .func (.func 132) #[] #[.pointer (some ⟨Bs, 0, none⟩), .pointer (some ⟨Bl, 0, none⟩)]] w fun e w' => ∃ v, e = .returned v ∧ OwnsInts w' w.heap.size v (ints (s.revL k)) ∧ (v = .slice none 0 0 ↔ s.revL k = []) ∧ Below w.heap.size w w' := by
  obtain ⟨i0, hi, hz0, hz1, hz2⟩ := info_parts info_int8
  have le64 := revL_len h.fine k
  refine callsIn_of_wp_marks Tryz.func131 rfl trivial ?_ rfl
  simp only [Tryz.ntmps131, List.size_toArray, List.length_cons, List.length_nil, Nat.reduceAdd, Nat.reduceSub, Array.replicate_succ, Array.replicate_zero, List.push_toArray, List.append_toArray, List.nil_append, List.cons_append]
  gi_wp2
  have lt := h.lt
  have bO := Boxed.new w 45 (.slice none 0 0)
  have hB0 : Below w.heap.size w (w.alloc (.cells #[.slice none 0 0] 45)) := (Below.refl _ w).alloc (Nat.le_refl _) _
  refine wpIn_rangeFunc_ownG rfl (by decide) (gf := 132) (lb := #[.pointer (some ⟨Bs, 0, none⟩), .pointer (some ⟨Bl, 0, none⟩)]) rfl trivial (enters_of Tryz.func132 (by kernel_rfl) rfl)
    (stops 4 (by decide) p b s k w _ w.heap.size Bs Bl h hB0 rfl (by simp; omega) (by simp; omega) (cell_alloc _ cs) (cell_alloc _ cl)) keepsB_t (keepsB_b (by simp) (by simp; omega)) (Below.refl _ _) (fun _ => rfl)
    (fun (pre : List (Fin s.n)) W => (∃ v, Boxed W w.heap.size 45 v ∧ W.ownsRow w.heap.size 3 1 v (vals pre).length ((ints (vals pre)).map (Value.int .i64)) ∧ (v = .slice none 0 0 ↔ vals pre = [])) ∧ Below w.heap.size w W)
    (fun _ _ _ => False)
    (OwnFrom.and (Own.from (holdsRow_own w.heap.size w.heap.size 45 3 1 (fun (pre : List (Fin s.n)) => (vals pre).length) (fun (pre : List (Fin s.n)) => (ints (vals pre)).map (Value.int .i64)) (fun (pre : List (Fin s.n)) v => v = .slice none 0 0 ↔ vals pre = [])) _) (ownFrom_below (Nat.le_refl _) (by simp)))
    (fun _ _ _ _ _ hs _ _ => hs)
    ⟨⟨_, bO, World.ownsRow_nil _ _ _ _, by simp [vals]⟩, hB0⟩
    (fun x : Fin s.n => { tmps := #[.slice none 0 0, .func (.func 132) #[] #[.pointer (some ⟨Bs, 0, none⟩), .pointer (some ⟨Bl, 0, none⟩)], .pointer (some ⟨w.heap.size, 0, none⟩), undef, .slice none 0 0, .int .i64 (x.val : Nat), .func (.func 132) #[] #[.pointer (some ⟨Bs, 0, none⟩), .pointer (some ⟨Bl, 0, none⟩)], .int .i64 (x.val : Nat), undef, undef, undef, undef, undef], defers := [] }) ?assign ?body ?done ?stop
  case assign =>
    intro l x W K hK
    simp only [encF]
    gi_wp2
    exact hK
  case body =>
    rintro l pre ⟨x, hx⟩ W ⟨⟨v, hv, hrow, hnil⟩, hB⟩ hlt
    have hc := hv.cell
    have hpl : (vals pre).length = pre.length := by simp [vals]
    have e1 : vals (pre ++ [⟨x, hx⟩]) = vals pre ++ [x] := by simp [vals]
    have e2 : (ints (vals pre ++ [x])).map (Value.int .i64) = (ints (vals pre)).map (Value.int .i64) ++ [.int .i64 (x : Int)] := by simp [ints]
    have hm1 : (vals pre).length + 1 ≤ maxLen := by unfold maxLen; omega
    have hm2 : ((vals pre).length + 1) * 8 ≤ 140737488355328 := by omega
    clear hpl
    simp only
    gi_wp2_with (gi_at_builtin; refine wpListIn_append_own _ rfl _ _ 45 rfl w.heap.size 3 i0 (.int .i64 0) 1 8 Tryz.underlying45 hi hz0 hz1 hz2 rfl (by decide) _ _ _ rfl (hrow.alloc _) ⟨W.heap.size, 0, none⟩ 1 1 [.int .i64 (x : Nat)] rfl rfl (cell_one_new _ _ _) (by simp [Value.oneCell']) hm1 hm2 (by have := hB.size; simp; omega) ?_; intro v' w1 hown' hgrow _; obtain ⟨g', cap', rfl⟩ := ownsRow_succ hown'; obtain ⟨hv1, hv2, hr2, hk2, hb2⟩ := hv.appended (by decide) hrow hB.size (Nat.le_refl _) hown' hgrow; have hc1 := hv1.cell; have hf1 := hv1.frozen)
    refine ⟨hk2.from _, ⟨hb2, hb2.block Bs hs⟩, ⟨_, hv2, by rw [e1, e2]; simpa using hr2, by rw [e1]; simp⟩, hB.trans hb2⟩
  case done =>
    rintro D ys W hD hys ⟨⟨v, hv, hrow, hnil⟩, hB⟩ hK
    have hc := hv.cell
    gi_wp2
    refine ⟨by simp, .inl ⟨_, _, rfl, run_takeDeferred hK, ?_⟩⟩
    refine ⟨_, results_tmp rfl _ _ _, v, rfl, ?_, by rw [← hys]; exact hnil, hB.trans (belowK_b (w := w) (Nat.le_refl _) W D _ _ (by simp at hD; omega) hK rfl rfl)⟩
    have := ownsRow_putObj hrow (.deferred none) hK rfl
    show World.ownsRow _ _ _ _ _ _ _
    rw [one_map, ints_len, ← hys]
    exact this
  case stop =>
    rintro D c pre W _ _ h _
    exact h.elim

set_option maxHeartbeats 1000000 in
theorem collect_any (p b : Nat) (s : Sh) (k : Int) (w : World) (Bs Bl : Nat) (h : Lies w p b s) (hs : Bs < w.heap.size) (hl : Bl < w.heap.size)
    (cs : w.cell? ⟨Bs, 0, none⟩ = some (.pointer (some ⟨p, 0, none⟩))) (cl : w.cell? ⟨Bl, 0, none⟩ = some (.int .i64 k)) :
    Calls Tryz.prog 95 #[.func (.func 132) #[] #[.pointer (some ⟨Bs, 0, none⟩), .pointer (some ⟨Bl, 0, none⟩)]] w fun e w' => ∃ v, e = .returned v ∧ OwnsInts w' w.heap.size v (ints (s.revL k)) ∧ (v = .slice none 0 0 ↔ s.revL k = []) ∧ Below w.heap.size w w' := by
  have A := Lib.hid ((callsIn_wide (n := 5)).1 (appendSeq_in p b s k w Bs Bl h hs hl cs cl))
  clear h cs cl
  go_enter Tryz.func95, Tryz.ntmps95
  go_wp2_with fail
  (with_reducible refine (A.out).mono ?_)
  rintro e w' ⟨v, rfl, h1, h2, h3⟩
  have H1 := Lib.hid h1
  have H2 := Lib.hid h2
  have H3 := Lib.hid h3
  clear h1 h2 h3
  go_wp2_with fail
  go_ret
  exact ⟨v, rfl, H1.out, H2.out, H3.out⟩

/-- the list from the first on -/
def Sh.listOf (s : Sh) (k : Int) : List Nat := if hasL k then s.li k.toNat else []
theorem rev_revL (s : Sh) (k : Int) : (s.revL k).reverse = s.listOf k := by
  unfold Sh.revL Sh.listOf
  split
  · rw [List.reverse_reverse]
  · rfl
theorem ints_rev (l : List Nat) : (ints l).reverse = ints l.reverse := by simp [ints]
theorem listOf_len {s : Sh} (f : s.Fine) (k : Int) : (s.listOf k).length ≤ 64 := by
  rw [← rev_revL, List.length_reverse]
  exact revL_len f k

set_option maxHeartbeats 1000000 in
theorem list_any (p b : Nat) (s : Sh) (k : Int) (w : World) (h : Lies w p b s) :
    Calls Tryz.prog 66 #[.pointer (some ⟨p, 0, none⟩), .int .i64 k] w fun e w' => ∃ v, e = .returned v ∧ OwnsInts w' w.heap.size v (ints (s.listOf k)) ∧ Below w.heap.size w w' := by
  have FL := Lib.hid (fromLast_any p k w)
  have lt := h.lt
  have c2 := cell_new w (.pointer (some ⟨p, 0, none⟩)) 94
  have c3 := cell_new (w.alloc (.cells #[.pointer (some ⟨p, 0, none⟩)] 94)) (.int .i64 k) 3
  simp only [World.size_alloc] at c3
  have b0 : Below w.heap.size w ((w.alloc (.cells #[.pointer (some ⟨p, 0, none⟩)] 94)).alloc (.cells #[.int .i64 k] 3)) := ((Below.refl _ w).alloc (Nat.le_refl _) _).alloc (by simp) _
  have C := Lib.hid (collect_any p b s k _ w.heap.size (w.heap.size + 1) (h.below b0 lt.1 lt.2) (by simp; omega) (by simp) (cell_alloc _ c2.1) c3.1)
  have le64 := revL_len h.fine k
  have B0 := Lib.hid b0
  have RR := Lib.hid (rev_revL s k)
  clear h c2 c3 b0
  go_enter Tryz.func66, Tryz.ntmps66
  go_wp2_with fail
  (with_reducible refine (FL.out).mono ?_)
  rintro e w' ⟨rfl, rfl⟩
  go_wp2_with fail
  (with_reducible refine (C.out).mono ?_)
  rintro e w' ⟨v, rfl, h1, h2, h3⟩
  have b3 := Lib.hid (B0.out.trans (h3.mono (by simp; omega)))
  clear h3 C FL
  by_cases e : s.revL k = []
  · have e2 := h2.2 e
    subst e2
    have R := Lib.hid (Tryz.slices_Reverse_int_empty none 0 w')
    have LE := RR.out
    rw [e] at LE
    have LE := Lib.hid LE.symm
    clear h1 h2 e
    go_wp2_with fail
    (with_reducible refine (R.out).mono ?_)
    rintro e w4 ⟨rfl, rfl⟩
    go_wp2_with fail
    go_ret
    exact ⟨_, rfl, by rw [LE.out]; exact Owns.start _ _ _ _ _, b3.out⟩
  · obtain ⟨g, cap, rfl, hg, hg2, _⟩ := h1.form (by intro q; apply e; have := congrArg List.length q; rw [ints_len] at this; exact List.eq_nil_of_length_eq_zero this)
    have R := Lib.hid (reverse_own w' _ g cap _ h1 (by rw [ints_len]; omega))
    have HG := Lib.hid hg
    have IR := Lib.hid (show (ints (s.revL k)).reverse = ints (s.listOf k) by rw [ints_rev, RR.out])
    clear h1 h2 e hg hg2
    generalize ints (s.revL k) = xs at *
    go_wp2_with fail
    (with_reducible refine (R.out).mono ?_)
    rintro e w4 ⟨rfl, h4, o4⟩
    have H4 := Lib.hid h4
    have B4 := Lib.hid (Only.below_to b3.out o4 (Nat.le_refl _) (fun i hi q => by have := HG.out; simp at this; omega))
    clear h4 o4
    go_wp2_with fail
    go_ret
    refine ⟨_, rfl, ?_, B4.out⟩
    rw [← IR.out]
    have := H4.out
    have l2 : xs.reverse.length = xs.length := List.length_reverse
    exact Owns.lower this (by simp; omega)
end Go.Proofs.YtlfnncahhbbmpaaGreatDoor

namespace Go.Proofs.YtlfnncahhbbmpaaGreatDoor
open Go.RowKit Go.Shelf
set_option linter.unusedVariables false
set_option maxRecDepth 100000

/-- the held ones among the first k nodes -/
def heldTo (ns : List Nd) (k : Nat) : List Nat := (List.range k).filter (fun i => (nd ns i).held)
theorem heldTo_more (ns : List Nd) (k : Nat) : heldTo ns (k + 1) = if (nd ns k).held = true then heldTo ns k ++ [k] else heldTo ns k := by
  unfold heldTo
  rw [List.range_succ, List.filter_append]
  cases e : (nd ns k).held <;> simp [e]
theorem heldTo_le (ns : List Nd) (k : Nat) : (heldTo ns k).length ≤ k := by
  unfold heldTo
  exact Nat.le_trans (List.length_filter_le _ _) (by simp)
/-- all that are held, rising -/
def Sh.heldL (s : Sh) : List Nat := (List.range s.n).filter s.h
theorem heldTo_all {s : Sh} {ns : List Nd} (h : Rep s ns) : heldTo ns (s.n + 2) = s.heldL := by
  rw [heldTo_more, heldTo_more, h.end_.1, h.end_.2]
  unfold heldTo Sh.heldL
  apply List.filter_congr
  intro i hi
  exact h.held i (List.mem_range.1 hi)
theorem ints_more (l : List Nat) (x : Nat) : ints (l ++ [x]) = ints l ++ [(x : Int)] := by simp [ints]

set_option maxHeartbeats 4000000 in
theorem held_any (p b : Nat) (s : Sh) (w : World) (h : Lies w p b s) :
    Calls Tryz.prog 67 #[.pointer (some ⟨p, 0, none⟩)] w fun e w' => ∃ v, e = .returned v ∧ OwnsInts w' w.heap.size v (ints s.heldL) ∧ Below w.heap.size w w' := by
  have lt := h.lt
  obtain ⟨f, ns, r, q⟩ := h
  have HA := Lib.hid (heldTo_all q)
  have c := r.hd
  have len := r.len
  have n64 := r.n64
  have R := Lib.hid r
  obtain ⟨i0, hi0, hz0, hz1, hz2⟩ := info_parts info_int8
  have I0 := Lib.hid hi0
  have I1 := Lib.hid hz0
  have I2 := Lib.hid hz1
  have I3 := Lib.hid hz2
  have HS := Lib.hid (heldTo_more ns)
  have LE := heldTo_le ns
  clear hi0 hz0 hz1 hz2 q f r
  go_enter Tryz.func67, Tryz.ntmps67
  go_wp2_with fail
  go_loopw [3, 11] (fun v i wr => ∃ (k : Nat), k ≤ s.n + 2 ∧ i = .int .i64 k ∧ OwnsInts wr w.heap.size v (ints (heldTo ns k)) ∧ Only none_ w wr) (fun _ i _ => s.n + 2 - (intOf i).toNat)
  case atStart => exact ⟨0, Nat.zero_le _, rfl, Owns.start _ _ _ _ _, Only.refl _ _⟩
  case round =>
    obtain ⟨k, hk, rfl, hV, hO⟩ := hrel
    have HO := Lib.hid hO
    have HW := Lib.hid hV
    have HR := Lib.hid (R.out.still hO)
    clear hO hV
    by_cases hlt : k < s.n + 2
    · obtain ⟨c0, c1, c2, c3⟩ := HR.out.at_ (i := k) (by omega)
      have ltb := HR.out.row.lt
      have bk : (k : Int) < (s.n : Int) + 2 := by omega
      have dk : decide ((k : Int) < (s.n : Int) + 2) = true := by simp; omega
      have HSK := HS.out k
      have lek := LE k
      generalize (nd ns k).lst = q0 at *
      generalize aF ns k = q2 at *
      generalize bF ns k = q3 at *
      have OO := (Only.refl none_ wr).alloc (.cells #[.int .i64 q0, .bool (nd ns k).held, .int .i64 q2, .int .i64 q3] 130)
      cases e : (nd ns k).held with
      | true =>
        rw [e] at c1 OO HSK
        rw [if_pos rfl] at HSK
        have HSK := Lib.hid HSK
        have OO2 := OO.alloc (.cells #[.int .i64 k] 3)
        have RF0 := Row.fresh (wr.alloc (.cells #[.int .i64 q0, .bool true, .int .i64 q2, .int .i64 q3] 130)) 3 #[.int .i64 k]
        simp only [World.size_alloc] at RF0
        have RF := Lib.hid RF0
        have HW2 := Lib.hid (HW.out.still OO2)
        have HO2 := Lib.hid (HO.out.idle OO2)
        have sz : w.heap.size ≤ ((wr.alloc (.cells #[.int .i64 q0, .bool true, .int .i64 q2, .int .i64 q3] 130)).alloc (.cells #[.int .i64 k] 3)).heap.size := HO2.out.size
        have l1 : (ints (heldTo ns k)).length < 9223372036854775807 := by rw [ints_len]; omega
        have l2 : ((ints (heldTo ns k)).length + 1) * 8 ≤ 140737488355328 := by rw [ints_len]; omega
        have l1 := Lib.hid l1
        have l2 := Lib.hid l2
        have E := Lib.hid e
        clear RF0 OO OO2 e
        go_wp2_with (at_builtin; go_loud (refine wpList_append_one rfl (.tmp 18) (.tmp 20) 45 rfl (c := one) i0 _ 8 Tryz.underlying45 I0.out I1.out I2.out I3.out rfl (by decide) one1 one_one rfl HW2.out (y := (k : Int)) rfl RF.out l1.out l2.out sz ?_; intro v5 w5 hown5 hO5))
        rw [← ints_more, ← HSK.out] at hown5
        have HO5 := Lib.hid (HO2.out.trans hO5 (fun i hi q => by omega))
        have W5 := Lib.hid hown5
        clear hown5 hO5
        go_wp2_with fail
        go_roundw
        case rel => exact ⟨k + 1, by omega, by go_num, W5.out, HO5.out⟩
        case measure => simp [intOf]; omega
      | false =>
        rw [e] at c1 OO HSK
        rw [if_neg (by decide)] at HSK
        have HSK := Lib.hid HSK
        have HW2 := Lib.hid (HW.out.still OO)
        have HO2 := Lib.hid (HO.out.idle OO)
        clear OO e
        go_wp2_with fail
        go_roundw
        case rel => exact ⟨k + 1, by omega, by go_num, by rw [HSK.out]; exact HW2.out, HO2.out⟩
        case measure => simp [intOf]; omega
    · have hk2 : k = s.n + 2 := by omega
      subst hk2
      have dk : decide (((s.n + 2 : Nat) : Int) < (s.n : Int) + 2) = false := by simp
      have ek : ((s.n + 2 : Nat) : Int) = (s.n : Int) + 2 := rfl
      rw [HA.out] at HW
      go_wp2_with fail
      go_ret
      exact ⟨_, rfl, HW.out, HO.out.to_below⟩
end Go.Proofs.YtlfnncahhbbmpaaGreatDoor

namespace Go.Proofs.YtlfnncahhbbmpaaGreatDoor
open Go.RowKit
set_option linter.unusedVariables false
set_option maxRecDepth 100000

/-- the place of a number in a list; -1: it isn't there -/
def findI (xs : List Int) (x : Int) : Int := if x ∈ xs then (xs.idxOf x : Int) else -1
theorem findI_at {xs : List Int} {x : Int} {k : Nat} (h : xs[k]? = some x) (hb : x ∉ xs.take k) : findI xs x = k := by
  have hm : x ∈ xs := List.mem_of_getElem? h
  unfold findI
  rw [if_pos hm]
  have hk : k < xs.length := by
    rcases Nat.lt_or_ge k xs.length with c | c
    · exact c
    · rw [List.getElem?_eq_none c] at h; cases h
  have e : xs = xs.take k ++ x :: xs.drop (k + 1) := by
    have h1 := List.take_append_drop k xs
    rw [List.drop_eq_getElem_cons hk] at h1
    rw [List.getElem?_eq_getElem hk] at h
    injection h with h
    rw [h] at h1
    exact h1.symm
  rw [e, List.idxOf_append, if_neg hb, List.idxOf_cons_self]
  simp
  omega
theorem findI_no {xs : List Int} {x : Int} (h : x ∉ xs) : findI xs x = -1 := by
  unfold findI; rw [if_neg h]
theorem not_take_more {xs : List Int} {x y : Int} {k : Nat} (h : x ∉ xs.take k) (hk : xs[k]? = some y) (hne : ¬ y = x) : x ∉ xs.take (k + 1) := by
  rw [List.take_add_one, hk]
  simp only [Option.toList_some, List.mem_append, List.mem_singleton, not_or]
  exact ⟨h, fun e => hne e.symm⟩

set_option maxHeartbeats 1000000 in
theorem find_any (v : Value) (xs : List Int) (x : Int) (w : World) (hr : Reads w v xs) (hm : xs.length ≤ 1000000) :
    Calls Tryz.prog 19 #[v, .int .i64 x] w fun e w' => e = .returned (.int .i64 (findI xs x)) ∧ w = w' := by
  obtain ⟨a, ca, rfl, ha⟩ := hr
  have HA := Lib.hid ha
  clear ha
  go_enter Tryz.func19, Tryz.ntmps19
  go_wp2_with fail
  go_loop [5] (fun i => ∃ k : Nat, k ≤ xs.length ∧ i = .int .i64 k ∧ x ∉ xs.take k) (fun i => xs.length - (intOf i).toNat)
  case atStart => exact ⟨0, Nat.zero_le _, rfl, by simp⟩
  case round =>
    obtain ⟨k, hk, rfl, hn⟩ := hrel
    have HN := Lib.hid hn
    clear hn
    by_cases hlt : k < xs.length
    · obtain ⟨y, hy⟩ : ∃ y, xs[k]? = some y := ⟨_, List.getElem?_eq_getElem hlt⟩
      obtain ⟨g1, o1, rfl, c1⟩ := HA.out k y hy
      have HY := Lib.hid hy
      clear hy
      by_cases e : y = x
      · have t : (y == x) = true := by simp [e]
        have FE := Lib.hid (findI_at (HY.out.trans (by rw [e])) HN.out)
        clear e
        go_wp2_with fail
        go_ret
        exact ⟨by rw [FE.out]; rfl, rfl⟩
      · have t : (y == x) = false := by simpa using e
        have NX := Lib.hid (not_take_more HN.out HY.out e)
        clear e
        go_wp2_with fail
        go_round
        case rel => exact ⟨k + 1, by omega, by go_num, NX.out⟩
        case measure => simp [intOf]; omega
    · have hge : xs.length ≤ k := by omega
      have FE := Lib.hid (findI_no (xs := xs) (x := x) (by
        have := HN.out
        rw [List.take_of_length_le hge] at this
        exact this))
      go_wp2_with fail
      go_ret
      exact ⟨by rw [FE.out]; rfl, rfl⟩

/-- append to a slice of the call's own, as one step of a region that draws -/
theorem step_append_mine {P : Program} {ops : Array Oper} {o : Oper} {a : Act} {w : World} {K : Act → World → Prop} {Q : Exit → Act → World → Prop} {E : Prop}
    (hg : o.guard = none) (s x : Operand) (t : TypeId) (hop : o.op = Op.call { callee := Callee.builtin Builtin.append, args := #[s, x], argTypes := #[t, t] })
    (base : Nat) (e : TypeId) (i : TypeInfo) (z : Value) (size bytes : Nat) (h1 : P.underlying t = some (.slice e)) (h2 : P.info? e = some i) (h3 : i.zero = some z) (h4 : i.size = size) (h5 : i.bytes = bytes) (h6 : z.cells.size = size) (h7 : 0 < size)
    (v : Value) (k : Nat) (xs : List Value) (hs : a.eval s = v) (hown : w.ownsRow base e size v k xs)
    (ad : Addr) (m c : Nat) (news : List Value) (hx : a.eval x = .slice (some ad) m c) (hn : news.length = m * size) (hc : ∀ j u, news[j]? = some u → w.cell? (ad.add j) = some u) (h1c : ∀ u ∈ news, u.oneCell' = true)
    (b1 : k + m ≤ maxLen) (b2 : (k + m) * bytes ≤ 140737488355328) (b3 : base ≤ w.heap.size)
    (hK : ∀ v' w', w'.ownsRow base e size v' (k + m) (xs ++ news) → w.grownBy w' v.ownBlock → K (a.put o.dst v') w') :
    if Region.wanted o (yielded ops a.tmps) = true then Oper.wp P o a w K Q else E := by
  have hw : Region.wanted o (yielded ops a.tmps) = true := by simp [Region.wanted, hg]
  rw [if_pos hw]
  obtain ⟨v', w', hrun, r1, r2, _⟩ := run_append_own (P := P) w base t o.type e i z size bytes h1 h2 h3 h4 h5 h6 h7 v k xs hown ad m c news hn hc h1c b1 b2 b3
  unfold Oper.wp
  simp [execOp, hop, resolve, invoke, builtin, hs, hx, hrun, Result.andThen]
  exact hK v' w' r1 r2

set_option maxHeartbeats 4000000 in
theorem without_any (v : Value) (xs : List Int) (i base : Nat) (w : World) (hr : OwnsInts w base v xs) (hm : xs.length ≤ 1000000) (hi : i < xs.length) :
    Calls Tryz.prog 21 #[v, .int .i64 i] w fun e w' => ∃ v', e = .returned v' ∧ OwnsInts w' w.heap.size v' (xs.take i ++ xs.drop (i + 1)) ∧ Only none_ w w' := by
  obtain ⟨g, ca, rfl, hg, hg2, hca, hmx⟩ := hr.form (by intro e; rw [e] at hi; cases hi)
  have HR := Lib.hid hr
  clear hr
  obtain ⟨i0, hi0, hz0, hz1, hz2⟩ := info_parts info_int8
  have I0 := Lib.hid hi0
  have I1 := Lib.hid hz0
  have I2 := Lib.hid hz1
  have I3 := Lib.hid hz2
  clear hi0 hz0 hz1 hz2
  have hw : IntKind.i64.wrap ((i : Int) + 1) = ((i + 1 : Nat) : Int) := by rw [IntKind.wrap_i64]; omega
  have hw2 : IntKind.i64.wrap ((i : Int) + 1) = (i : Int) + 1 := by rw [IntKind.wrap_i64]; omega
  have b1 : i ≤ ca := by omega
  have b2 : (i : Int) + 1 ≤ (xs.length : Int) := by omega
  have b3 : i + 1 ≤ xs.length := by omega
  have b4 : (0 : Int) ≤ (i : Int) + 1 := by omega
  have hadd : ∀ b o n, (Addr.mk b o none).add n = ⟨b, o + n, none⟩ := fun b o n => by
    unfold Addr.add
    split
    · rename_i z; rw [z]; rfl
    · rfl
  have hc1 : ∀ (W : World), Only none_ w W → ∀ j u, ((xs.take i).map (Value.int .i64))[j]? = some u → W.cell? ((Addr.mk g 0 none).add j) = some u := fun W o j u hj => by
    rw [List.getElem?_map, Option.map_eq_some_iff] at hj
    obtain ⟨x, hx, rfl⟩ := hj
    have hji : j < i := by have := lt_of_get hx; rw [List.length_take] at this; omega
    rw [List.getElem?_take_of_lt hji] at hx
    rw [hadd]
    have := Owns.cell HR.out one1 hx (j := 0) (by decide)
    refine o.cell ?_ (fun s => s)
    simpa [one] using this
  have hc2 : ∀ (W : World), Only none_ w W → ∀ j u, ((xs.drop (i + 1)).map (Value.int .i64))[j]? = some u → W.cell? ((Addr.mk g (i + 1) none).add j) = some u := fun W o j u hj => by
    rw [List.getElem?_map, Option.map_eq_some_iff] at hj
    obtain ⟨x, hx, rfl⟩ := hj
    rw [List.getElem?_drop] at hx
    rw [hadd]
    have := Owns.cell HR.out one1 hx (j := 0) (by decide)
    refine o.cell ?_ (fun s => s)
    simpa [one] using this
  have n1 : ((xs.take i).map (Value.int .i64)).length = i * 1 := by rw [List.length_map, List.length_take]; omega
  have n2 : ((xs.drop (i + 1)).map (Value.int .i64)).length = (xs.length - (i + 1)) * 1 := by rw [List.length_map, List.length_drop]; omega
  have oc : ∀ l : List Int, ∀ u ∈ l.map (Value.int .i64), u.oneCell' = true := fun l u hu => by
    obtain ⟨x, _, rfl⟩ := List.mem_map.1 hu
    rfl
  have own0 : ((w.alloc (.cells #[] 3)).drew).ownsRow w.heap.size 3 1 (.slice (some ⟨w.heap.size, 0, none⟩) 0 0) 0 [] := by
    refine ⟨rfl, .inr ⟨w.heap.size, 0, #[], rfl, Nat.le_refl _, ?_, Nat.le_refl _, Nat.zero_le _, rfl, rfl⟩⟩
    exact Row.fresh w 3 #[]
  have O0 := ((Only.refl none_ w).alloc (.cells #[] 3)).drew
  have zO : w.heap.size ≤ ((w.alloc (.cells #[] 3)).drew).heap.size := O0.size
  have HC1 := Lib.hid hc1
  have HC2 := Lib.hid hc2
  have N1 := Lib.hid n1
  have N2 := Lib.hid n2
  have OW0 := Lib.hid own0
  have OO0 := Lib.hid O0
  clear hc1 hc2 n1 n2 own0 O0 hadd
  by_cases hcc : ca = i + 1
  · subst hcc
    have xl : xs.length = i + 1 := by omega
    have F := Lib.hid (show ∀ v2 w2, w2.ownsRow w.heap.size 3 1 v2 (0 + i + 0) ([] ++ (xs.take i).map (Value.int .i64) ++ ([] : List Int).map (Value.int .i64)) → OwnsInts w2 w.heap.size v2 (xs.take i ++ xs.drop (i + 1)) from fun v2 w2 h => by
      have D3 : xs.drop (i + 1) = [] := List.drop_of_length_le (by omega)
      show World.ownsRow _ _ _ _ _ _ _
      rw [D3, one_map, List.map_append, List.length_append, List.length_take]
      have e : min i xs.length + ([] : List Int).length = 0 + i + 0 := by simp; omega
      rw [e]
      simpa using h)
    have b5 : (i : Int) ≤ (i : Int) + 1 := by omega
    have N3 := Lib.hid (show (([] : List Int).map (Value.int .i64)).length = 0 * 1 from rfl)
    go_enter Tryz.func21, Tryz.ntmps21
    go_wp2_with fail
    go_region_law (first
      | (refine step_append_mine rfl (.tmp 5) (.tmp 8) 45 rfl w.heap.size 3 i0 _ 1 8 Tryz.underlying45 I0.out I1.out I2.out I3.out rfl (by decide) _ 0 [] rfl OW0.out ⟨g, 0, none⟩ i (i + 1) _ rfl N1.out (HC1.out _ OO0.out) (oc _) (by unfold maxLen; omega) (by omega) zO ?_
         intro v1 w1 hown1 hgrow1
         have O1 := Lib.hid (OO0.out.trans (Only.of_grown hgrow1) (fun j hj q => by have q2 : some j = some w.heap.size := q; injection q2; omega))
         have OW1 := Lib.hid hown1
         have z1 : w.heap.size ≤ w1.heap.size := O1.out.size
         clear hown1 hgrow1)
      | (refine step_append_mine rfl (.tmp 9) (.tmp 13) 45 rfl w.heap.size 3 i0 _ 1 8 Tryz.underlying45 I0.out I1.out I2.out I3.out rfl (by decide) _ (0 + i) _ rfl OW1.out ⟨g, 0, none⟩ 0 0 _ rfl N3.out (fun j u hj => by simp at hj) (oc _) (by unfold maxLen; omega) (by omega) z1 ?_
         intro v2 w2 hown2 hgrow2
         have O2 := Lib.hid (O1.out.trans (Only.of_grown hgrow2) (fun j hj q => by have := (World.ownsRow.lt OW1.out j q.symm).1; omega))
         have OW2 := Lib.hid hown2
         clear hown2 hgrow2))
    all_goals
      go_wp2
      go_ret
      exact ⟨_, rfl, F.out _ _ OW2.out, O2.out⟩
  · have F := Lib.hid (show ∀ v2 w2, w2.ownsRow w.heap.size 3 1 v2 (0 + i + (xs.length - (i + 1))) ([] ++ (xs.take i).map (Value.int .i64) ++ (xs.drop (i + 1)).map (Value.int .i64)) → OwnsInts w2 w.heap.size v2 (xs.take i ++ xs.drop (i + 1)) from fun v2 w2 h => by
      show World.ownsRow _ _ _ _ _ _ _
      rw [one_map, List.map_append, List.length_append, List.length_take, List.length_drop]
      have e : min i xs.length + (xs.length - (i + 1)) = 0 + i + (xs.length - (i + 1)) := by omega
      rw [e]
      simpa using h)
    go_enter Tryz.func21, Tryz.ntmps21
    go_wp2_with fail
    go_region_law (first
      | (refine step_append_mine rfl (.tmp 5) (.tmp 8) 45 rfl w.heap.size 3 i0 _ 1 8 Tryz.underlying45 I0.out I1.out I2.out I3.out rfl (by decide) _ 0 [] rfl OW0.out ⟨g, 0, none⟩ i ca _ rfl N1.out (HC1.out _ OO0.out) (oc _) (by unfold maxLen; omega) (by omega) zO ?_
         intro v1 w1 hown1 hgrow1
         have O1 := Lib.hid (OO0.out.trans (Only.of_grown hgrow1) (fun j hj q => by have q2 : some j = some w.heap.size := q; injection q2; omega))
         have OW1 := Lib.hid hown1
         have z1 : w.heap.size ≤ w1.heap.size := O1.out.size
         clear hown1 hgrow1)
      | (refine step_append_mine rfl (.tmp 9) (.tmp 13) 45 rfl w.heap.size 3 i0 _ 1 8 Tryz.underlying45 I0.out I1.out I2.out I3.out rfl (by decide) _ (0 + i) _ rfl OW1.out ⟨g, i + 1, none⟩ (xs.length - (i + 1)) (ca - (i + 1)) _ rfl N2.out (HC2.out _ O1.out) (oc _) (by unfold maxLen; omega) (by omega) z1 ?_
         intro v2 w2 hown2 hgrow2
         have O2 := Lib.hid (O1.out.trans (Only.of_grown hgrow2) (fun j hj q => by have := (World.ownsRow.lt OW1.out j q.symm).1; omega))
         have OW2 := Lib.hid hown2
         clear hown2 hgrow2))
    all_goals
      go_wp2
      go_ret
      exact ⟨_, rfl, F.out _ _ OW2.out, O2.out⟩
end Go.Proofs.YtlfnncahhbbmpaaGreatDoor

namespace Go.Proofs.YtlfnncahhbbmpaaGreatDoor
open Go.RowKit
set_option linter.unusedVariables false
set_option maxRecDepth 100000

def boolC (b : Bool) : List Value := [.bool b]
theorem bool1 (b : Bool) : (boolC b).length = 1 := rfl

/-- a slice of the call's own, at a block that may be -/
def OwnsOk (w : World) (ok : Nat → Prop) (v : Value) (xs : List Int) : Prop := OwnsInts w 0 v xs ∧ ∀ g, v.ownBlock = some g → ok g
theorem OwnsOk.keep {w w' : World} {ok : Nat → Prop} {v : Value} {xs : List Int} (h : OwnsOk w ok v xs) {S : Nat → Prop} (o : Only S w w') (hn : ∀ g, ok g → ¬ S g) : OwnsOk w' ok v xs :=
  ⟨h.1.keep o (fun g hg => hn g (h.2 g hg)), h.2⟩
theorem OwnsOk.still {w w' : World} {ok : Nat → Prop} {v : Value} {xs : List Int} (h : OwnsOk w ok v xs) (o : Only none_ w w') : OwnsOk w' ok v xs := h.keep o (fun _ _ s => s)
theorem OwnsOk.lt {w : World} {ok : Nat → Prop} {v : Value} {xs : List Int} (h : OwnsOk w ok v xs) {g : Nat} (hg : v.ownBlock = some g) : g < w.heap.size := (h.1.base_le hg).2
theorem OwnsOk.new {w : World} {ok : Nat → Prop} {b : Nat} {v : Value} {xs : List Int} (h : OwnsInts w b v xs) (k : ∀ g, b ≤ g → ok g) : OwnsOk w ok v xs :=
  ⟨Owns.lower h (Nat.zero_le _), fun g hg => k g (h.base_le hg).1⟩
theorem OwnsOk.start (w : World) (ok : Nat → Prop) : OwnsOk w ok (.slice none 0 0) [] := ⟨Owns.start _ _ _ _ _, fun g hg => by cases hg⟩

theorem mem_ints {l : List Nat} {j : Nat} : (j : Int) ∈ ints l ↔ j ∈ l := by
  unfold ints
  rw [List.mem_map]
  constructor
  · rintro ⟨x, hx, e⟩
    have : x = j := by omega
    rw [← this]; exact hx
  · intro h
    exact ⟨j, h, rfl⟩
theorem ints_neg {l : List Nat} {i : Int} (h : i ∈ ints l) : 0 ≤ i := by
  unfold ints at h
  rw [List.mem_map] at h
  obtain ⟨x, _, rfl⟩ := h
  omega
theorem idx_ints {l : List Nat} {j : Nat} : (ints l).idxOf (j : Int) = l.idxOf j := by
  induction l with
  | nil => rfl
  | cons x l ih =>
    show List.idxOf (j : Int) ((x : Int) :: ints l) = _
    rw [List.idxOf_cons, List.idxOf_cons]
    by_cases c : x = j
    · subst c; simp
    · have c1 : ((x : Int) == (j : Int)) = false := by simp; omega
      have c2 : (x == j) = false := by simp; omega
      rw [c1, c2, ih]
/-- the list of a node; -1: none -/
def Sh.lstI (s : Sh) (i : Int) : Int := if i ∈ ints s.l0 then 0 else if i ∈ ints s.l1 then 1 else -1
theorem lstI_nat (s : Sh) (j : Nat) : s.lstI j = s.lst j := by
  unfold Sh.lstI Sh.lst
  simp only [mem_ints]
theorem fine_len0 {s : Sh} (f : s.Fine) : s.l0.length ≤ 64 := Nat.le_trans (nodup_len _ _ f.nd0 f.lt0) f.n64
theorem fine_len1 {s : Sh} (f : s.Fine) : s.l1.length ≤ 64 := Nat.le_trans (nodup_len _ _ f.nd1 f.lt1) f.n64

theorem findI_ge {xs : List Int} {x : Int} (h : x ∈ xs) : 0 ≤ findI xs x := by
  unfold findI; rw [if_pos h]; omega

theorem liesC_ref {s : Sh} (f : s.Fine) (i : Int) : s.liesC i = if hasN s.n i then if s.lstI i = -1 then 3 else 0 else 1 := by
  unfold Sh.liesC
  split
  · rename_i e
    obtain ⟨j, rfl, hj⟩ := hasN_nat e
    rw [Int.toNat_natCast, lstI_nat]
  · rfl
theorem lstI_ge (s : Sh) (i : Int) : s.lstI i = 0 ∨ s.lstI i = 1 ∨ s.lstI i = -1 := by
  unfold Sh.lstI
  split
  · exact .inl rfl
  · split
    · exact .inr (.inl rfl)
    · exact .inr (.inr rfl)

end Go.Proofs.YtlfnncahhbbmpaaGreatDoor

namespace Go.Proofs.YtlfnncahhbbmpaaGreatDoor
open Go.RowKit
set_option linter.unusedVariables false
set_option maxRecDepth 100000

theorem erase_take {l : List Nat} {j : Nat} (h : j ∈ l) : l.erase j = l.take (l.idxOf j) ++ l.drop (l.idxOf j + 1) := by
  rw [List.erase_eq_eraseIdx_of_idxOf (i := l.idxOf j) rfl, List.eraseIdx_eq_take_drop_succ]
theorem ints_cut (l : List Nat) (k : Nat) : (ints l).take k ++ (ints l).drop (k + 1) = ints (l.take k ++ l.drop (k + 1)) := by
  unfold ints
  rw [List.map_append, List.map_take, List.map_drop]
theorem findI_in {l : List Nat} {j : Nat} (h : j ∈ l) : findI (ints l) j = (l.idxOf j : Nat) := by
  unfold findI
  rw [if_pos (mem_ints.2 h), idx_ints]

theorem own_form {w : World} {base : Nat} {v : Value} {xs : List Int} (h : OwnsInts w base v xs) : ∃ a n c, v = .slice a n c := by
  rcases h.2 with ⟨h0, _⟩ | ⟨g, cap, cur, hv, _⟩
  · exact ⟨none, 0, 0, h0⟩
  · exact ⟨_, _, _, hv⟩
end Go.Proofs.YtlfnncahhbbmpaaGreatDoor

namespace Go.Proofs.YtlfnncahhbbmpaaGreatDoor
open Go.RowKit
set_option linter.unusedVariables false
set_option maxRecDepth 100000

theorem has_split (n : Nat) (i : Int) : hasN n i = (!decide (i < 0) && !decide ((n : Int) ≤ i)) := by
  unfold hasN
  by_cases a : i < 0
  · have : ¬ (0 ≤ i ∧ i < (n : Int)) := by omega
    simp [a, this]
  · by_cases b : (n : Int) ≤ i
    · have : ¬ (0 ≤ i ∧ i < (n : Int)) := by omega
      simp [a, b, this]
    · have : 0 ≤ i ∧ i < (n : Int) := by omega
      simp [a, b, this]
theorem ints_cons (j : Nat) (l : List Nat) : ints (j :: l) = (j : Int) :: ints l := rfl

theorem hs_get {s : Sh} (f : s.Fine) {j : Nat} (hj : j < s.n) : s.hs[j]? = some (s.h j) := by
  unfold Sh.h
  rw [List.getD_eq_getElem?_getD, List.getElem?_eq_getElem (by rw [f.hlen]; exact hj)]
  rfl
end Go.Proofs.YtlfnncahhbbmpaaGreatDoor

namespace Go.Proofs.YtlfnncahhbbmpaaGreatDoor
open Go.RowKit Go.Shelf
set_option linter.unusedVariables false
set_option maxRecDepth 100000
attribute [local go_sem] Oper.semAt_some

theorem not_more {n : Nat} {pre : List (Fin n)} {i x : Nat} {hx : x < n} (h : i ∉ vals pre) (hne : ¬ x = i) : i ∉ vals (pre ++ [⟨x, hx⟩]) := by
  unfold vals at h ⊢
  rw [List.map_append, List.mem_append]
  rintro (k | k)
  · exact h k
  · simp at k
    exact hne k.symm

set_option maxRecDepth 100000 in
set_option maxHeartbeats 2000000 in
theorem behind_in (p b : Nat) (s : Sh) (i : Nat) (k : Int) (w : World) (h : Lies w p b s) (hi : i < s.n) (hk : s.lst i = k) (hin : i ∈ s.revL k) :
    CallsIn Fence.wide 5 Tryz.prog 148 #[.pointer (some ⟨p, 0, none⟩), .int .i64 i] w fun e w' => e = .returned (.int .i64 ((s.revL k).idxOf i : Nat)) ∧ Below w.heap.size w w' := by
  have FL := fun w1 => Lib.hid (fromLast_any p k w1)
  have le64 := revL_len h.fine k
  have n64 := h.fine.n64
  have lt := h.lt
  obtain ⟨A0, eA0⟩ : ∃ A, A = w.alloc (.cells #[.int .i64 i] 3) := ⟨_, rfl⟩
  have sA0 : A0.heap.size = w.heap.size + 1 := by rw [eA0]; simp
  obtain ⟨A1, eA1⟩ : ∃ A, A = A0.alloc (.cells #[.int .i64 0] 3) := ⟨_, rfl⟩
  have sA1 : A1.heap.size = w.heap.size + 1 + 1 := by rw [eA1]; simp [sA0]
  have c0 := cell_new w (.int .i64 i) 3
  have c1 := cell_new A0 (.int .i64 0) 3
  rw [← eA0] at c0
  rw [← eA1, sA0] at c1
  have b0 : Below w.heap.size w A0 := by rw [eA0]; exact (Below.refl _ w).alloc (Nat.le_refl _) _
  have b1 : Below w.heap.size w A1 := by rw [eA1]; exact b0.alloc (by omega) _
  have d0 : A1.cell? ⟨w.heap.size, 0, none⟩ = some (.int .i64 i) := by rw [eA1]; exact cell_alloc _ c0.1
  obtain ⟨g0, _, g1⟩ := lies_heldAt (h.below b1 lt.1 lt.2) hi
  rw [hk] at g1
  have bi : (i : Int) < (s.n : Int) + 2 := by omega
  refine callsIn_of_wp_marks Tryz.func148 rfl trivial ?_ rfl
  simp only [Tryz.ntmps148, List.size_toArray, List.length_cons, List.length_nil, Nat.reduceAdd, Nat.reduceSub, Array.replicate_succ, Array.replicate_zero, List.push_toArray, List.append_toArray, List.nil_append, List.cons_append]
  gi_wp2
  rw [← eA0, ← eA1]
  replace eA0 := Lib.hid eA0
  replace eA1 := Lib.hid eA1
  refine wpIn_wide.2 ?_
  have g0' : A1.drew.cell? ⟨p, 0, none⟩ = _ := g0
  have g1' : A1.drew.cell? ⟨b, i * 4, none⟩ = _ := g1
  have d0' : A1.drew.cell? ⟨w.heap.size, 0, none⟩ = _ := d0
  refine wp_region_still_tail 9 (by kernel_rfl) (by kernel_rfl) ?_
  change wpStill _ _ (World.drew A1) (fun a' => wpList _ _ _ _ a' (World.drew A1)) _ _
  simp only [List.take_succ_cons, List.take_zero, List.drop_succ_cons, List.drop_zero]
  obtain ⟨W2, eW2⟩ : ∃ W2, W2 = A1.drew := ⟨_, rfl⟩
  rw [← eW2] at g0' g1' d0' ⊢
  replace eW2 := Lib.hid eW2
  repeat still_step
  refine wpStill_nil ?_
  go_wp2_with fail
  (with_reducible refine ((FL _).out).mono ?_)
  rintro e w4 ⟨rfl, rfl⟩
  go_wp2_with fail
  gi_wp2
  have sW2 : W2.heap.size = w.heap.size + 1 + 1 := by rw [eW2.out]; exact sA1
  have bW2 : Below w.heap.size w W2 := by rw [eW2.out]; exact below_n b1 1
  have cW1 : W2.cell? ⟨w.heap.size + 1, 0, none⟩ = some (.int .i64 0) := by rw [eW2.out]; exact c1.1
  have fW1 : W2.frozen? ⟨w.heap.size + 1, 0, none⟩ = false := by rw [eW2.out]; exact c1.2
  obtain ⟨A2, eA2⟩ : ∃ A, A = W2.alloc (.cells #[.pointer (some ⟨p, 0, none⟩)] 94) := ⟨_, rfl⟩
  have sA2 : A2.heap.size = w.heap.size + 1 + 1 + 1 := by rw [eA2]; simp [sW2]
  obtain ⟨A3, eA3⟩ : ∃ A, A = A2.alloc (.cells #[.int .i64 k] 3) := ⟨_, rfl⟩
  have sA3 : A3.heap.size = w.heap.size + 1 + 1 + 1 + 1 := by rw [eA3]; simp [sA2]
  have c2 := cell_new W2 (.pointer (some ⟨p, 0, none⟩)) 94
  have c3 := cell_new A2 (.int .i64 k) 3
  rw [← eA2, sW2] at c2
  rw [← eA3, sA2] at c3
  have b2 : Below w.heap.size w A2 := by rw [eA2]; exact bW2.alloc (by omega) _
  have b3 : Below w.heap.size w A3 := by rw [eA3]; exact b2.alloc (by omega) _
  have d2 : A3.cell? ⟨w.heap.size + 1 + 1, 0, none⟩ = some (.pointer (some ⟨p, 0, none⟩)) := by rw [eA3]; exact cell_alloc _ c2.1
  have up : ∀ {a : Addr} {v : Value}, W2.cell? a = some v → A3.cell? a = some v := fun h => by rw [eA3, eA2]; exact cell_alloc _ (cell_alloc _ h)
  have uf : ∀ {a : Addr} {v : Value}, W2.cell? a = some v → W2.frozen? a = false → A3.frozen? a = false := fun h k => by rw [eA3, eA2]; exact frozen_alloc _ (cell_alloc _ h) (frozen_alloc _ h k)
  rw [sW2, ← eA2, ← eA3]
  clear eA2 eA3 eA0 eA1 eW2
  refine wpIn_rangeFunc_ownF rfl (by decide) (gf := 132) (lb := #[.pointer (some ⟨w.heap.size + 1 + 1, 0, none⟩), .pointer (some ⟨w.heap.size + 1 + 1 + 1, 0, none⟩)]) rfl trivial (enters_of Tryz.func132 (by kernel_rfl) rfl)
    (stops 4 (by decide) p b s k w _ w.heap.size (w.heap.size + 1 + 1) (w.heap.size + 1 + 1 + 1) h b3 rfl (by omega) (by omega) d2 c3.1) keepsB_t (keepsB_b (by omega) (by omega)) (Below.refl _ _) (fun _ => rfl)
    (fun (pre : List (Fin s.n)) W => (i ∉ vals pre ∧ W.cell? ⟨w.heap.size, 0, none⟩ = some (.int .i64 i) ∧ W.cell? ⟨w.heap.size + 1, 0, none⟩ = some (.int .i64 pre.length) ∧ W.frozen? ⟨w.heap.size + 1, 0, none⟩ = false) ∧ Below w.heap.size w W)
    (fun c pre W => (c = .exit 0 ∧ ∃ (pre' : List (Fin s.n)) (x : Fin s.n), pre = pre' ++ [x] ∧ i ∉ vals pre' ∧ x.val = i ∧ W.cell? ⟨w.heap.size + 1, 0, none⟩ = some (.int .i64 pre'.length)) ∧ Below w.heap.size w W)
    (OwnFrom.and (Own.from (fun s A B row hs hg hr => ⟨hs.1, cell_kept hs.2.1 hg hr, cell_kept hs.2.2.1 hg hr, (frozen_kept hs.2.2.1 hg hr).trans hs.2.2.2⟩) _) (ownFrom_below (Nat.le_refl _) (by omega)))
    (fun c => OwnFrom.and (Own.from (fun s A B row hs hg hr => by
      obtain ⟨e, pre', x, e2, h1, h2, h3⟩ := hs
      exact ⟨e, pre', x, e2, h1, h2, cell_kept h3 hg hr⟩) _) (ownFrom_below (Nat.le_refl _) (by omega)))
    ⟨⟨by simp [vals], up d0', up cW1, uf cW1 fW1⟩, b3⟩
    (fun x : Fin s.n => { tmps := #[.pointer (some ⟨p, 0, none⟩), .int .i64 i, undef, .pointer (some ⟨w.heap.size, 0, none⟩), .int .i64 0, .pointer (some ⟨w.heap.size + 1, 0, none⟩), .int .i64 (x.val : Nat), .pointer (some ⟨p, 0, none⟩), .pointer (some ⟨p, 0, none⟩), .pointer (some ⟨p, 0, none⟩), .pointer (some ⟨p, 0, none⟩), .slice (some ⟨b, 0, none⟩) (s.n + 2) (s.n + 2), .int .i64 i, .pointer (some ⟨b, i * 4, none⟩), .pointer (some ⟨b, i * 4, none⟩), .int .i64 k, .func (.func 132) #[] #[.pointer (some ⟨w.heap.size + 1 + 1, 0, none⟩), .pointer (some ⟨w.heap.size + 1 + 1 + 1, 0, none⟩)], .int .i64 (x.val : Nat), undef, undef, undef, undef, undef, undef], defers := [] }) ?assign ?body ?done ?stop
  case assign =>
    intro l x W K hK
    simp only [encF]
    gi_wp2
    exact hK
  case body =>
    rintro l pre ⟨x, hx⟩ W ⟨⟨hp, q0, q1, z1⟩, hB⟩ hlen
    by_cases e : x = i
    · subst e
      simp only
      gi_wp2
      exact ⟨KeepsOthers.refl _, ⟨rfl, pre, ⟨x, hx⟩, rfl, hp, rfl, q1⟩, hB⟩
    · have e1 : ((x : Int) == (i : Int)) = false := by simp; omega
      have e2 : (x == i) = false := by simp; omega
      have e3 : decide (x = i) = false := by simp; omega
      simp only
      gi_wp2
      exact ⟨KeepsOthers.setCell _ _ _, ⟨(Below.refl w.heap.size W).setCell (p := ⟨w.heap.size + 1, 0, none⟩) (by simp) _, Below.heap_setCell _ _ _ _ (by simp)⟩, ⟨not_more hp e, (World.cell?_of_block (Below.heap_setCell _ _ _ w.heap.size (by simp))).trans q0, by rw [List.length_append]; exact World.cell?_setCell_same' _ _ _ (by rw [q1]; rfl), by rw [World.frozen?_setCell]; exact z1⟩, hB.setCell (p := ⟨w.heap.size + 1, 0, none⟩) (by simp) _⟩
  case done =>
    rintro D ys W hD hys ⟨⟨hp, _, _, _⟩, hB⟩ hK
    exact absurd hin (by rw [← hys]; exact hp)
  case stop =>
    rintro D c pre W hD hpre ⟨⟨rfl, pre', x, rfl, hp, rfl, q1⟩, hB⟩ hK
    gi_wp2
    refine ⟨by simp, .inl ⟨_, _, rfl, run_takeDeferred hK, ?_⟩⟩
    refine ⟨_, results_tmp rfl _ _ _, ?_, hB.trans (belowK_b (w := w) (Nat.le_refl _) W D _ _ (by omega) hK rfl rfl)⟩
    obtain ⟨r, hr⟩ := hpre
    have : (s.revL k).idxOf x.val = pre'.length := by
      rw [← hr]
      simp only [vals, List.map_append, List.map_cons, List.map_nil, List.append_assoc, List.singleton_append]
      unfold vals at hp
      rw [List.idxOf_append, if_neg hp, List.idxOf_cons_self]
      simp
    rw [this]
    rfl

/-- what Where answers -/
def Sh.whereV (s : Sh) (i : Int) : Value :=
  if s.liesC i = 0 then .tuple #[.int .i64 (s.lst i.toNat), .bool (decide ((s.revL (s.lst i.toNat)).idxOf i.toNat < s.bot)), .bool true] else .tuple #[.int .i64 0, .bool false, .bool false]

theorem lst_cases {s : Sh} {i : Nat} (h : s.lst i ≠ -1) : (s.lst i = 0 ∧ i ∈ s.l0) ∨ (s.lst i = 1 ∧ i ∈ s.l1) := by
  unfold Sh.lst at h ⊢
  split
  · rename_i e; exact .inl ⟨rfl, e⟩
  · rename_i e
    rw [if_neg e] at h
    split
    · rename_i e2; exact .inr ⟨rfl, e2⟩
    · rename_i e2; rw [if_neg e2] at h; exact absurd rfl h
theorem revL_in {s : Sh} {i : Nat} (h : s.lst i ≠ -1) : i ∈ s.revL (s.lst i) := by
  rcases lst_cases h with ⟨e, k⟩ | ⟨e, k⟩ <;> rw [e]
  · exact List.mem_reverse.2 k
  · exact List.mem_reverse.2 k

set_option maxHeartbeats 2000000 in
theorem where_any (p b : Nat) (s : Sh) (i : Int) (w : World) (h : Lies w p b s) :
    Calls Tryz.prog 116 #[.pointer (some ⟨p, 0, none⟩), .int .i64 i] w fun e w' => e = .returned (s.whereV i) ∧ Below w.heap.size w w' := by
  have H := h
  obtain ⟨f, ns, r, q⟩ := h
  have LC := lies_any p b s.n s.bot ns i w r
  rw [rep_liesC q] at LC
  by_cases e : s.liesC i = 0
  · have e2 : s.whereV i = .tuple #[.int .i64 (s.lst i.toNat), .bool (decide ((s.revL (s.lst i.toNat)).idxOf i.toNat < s.bot)), .bool true] := by unfold Sh.whereV; rw [if_pos e]
    rw [e2]
    obtain ⟨j, rfl, hj, hl⟩ := liesC_nat e
    rw [e] at LC
    rw [Int.toNat_natCast]
    have LC := Lib.hid LC
    have CB := fun w1 (k : Below w.heap.size w w1) => Lib.hid ((callsIn_wide (n := 5)).1 (behind_in p b s j _ w1 (H.below k H.lt.1 H.lt.2) hj rfl (revL_in hl)))
    have n64 := f.n64
    have i64 : (s.revL (s.lst j)).idxOf j ≤ 64 := Nat.le_trans List.idxOf_le_length (revL_len f _)
    have b64 := f.botn
    obtain ⟨g0, _, g1⟩ := lies_heldAt H hj
    have g2 := r.bt
    have lt := H.lt
    have bj : (j : Int) < (s.n : Int) + 2 := by omega
    replace H := Lib.hid H
    have B0 := Lib.hid (Below.refl w.heap.size w)
    clear q r f e e2 hl
    generalize s.lst j = kk at *
    generalize hx : (s.revL kk).idxOf j = x at *
    go_enter Tryz.func116, Tryz.ntmps116
    go_wp2_with fail
    (with_reducible refine (LC.out).mono ?_)
    rintro e w' ⟨rfl, rfl⟩
    go_wp2_with fail
    have CB2 := Lib.hid ((CB w.drew (below_n (Below.refl _ w) 1)).out)
    have lp : p < w.drew.heap.size := lt.1
    have lb : b < w.drew.heap.size := lt.2
    have k0 : w.drew.cell? ⟨p, 0, none⟩ = _ := g0
    have k1 : w.drew.cell? ⟨b, j * 4, none⟩ = _ := g1
    have k2 : w.drew.cell? ⟨p, 1, none⟩ = _ := g2
    go_region_held3 (fun w' => w'.cell? ⟨p, 0, none⟩ = some (.slice (some ⟨b, 0, none⟩) (s.n + 2) (s.n + 2)) ∧ w'.cell? ⟨b, j * 4, none⟩ = some (.int .i64 kk) ∧ w'.cell? ⟨p, 1, none⟩ = some (.int .i64 s.bot))
        (first
          | (go_keep; done)
          | (exact ⟨(o3.cell (p := ⟨p, 0, none⟩) lp).trans k0, (o3.cell (p := ⟨b, j * 4, none⟩) lb).trans k1, (o3.cell (p := ⟨p, 1, none⟩) lp).trans k2⟩))
        (first
          | (go_at_call 148; refine CB2.out.mono ?_; rintro e w3 ⟨rfl, o3⟩))
    have O3 := Lib.hid ((below_n (Below.refl w.heap.size w) 1).trans o3)
    go_wp2
    go_ret3
    exact ⟨rfl, O3.out⟩
  · have e2 : s.whereV i = .tuple #[.int .i64 0, .bool false, .bool false] := by unfold Sh.whereV; rw [if_neg e]
    rw [e2]
    have e3 : s.liesC i = 1 ∨ s.liesC i = 3 := by
      unfold Sh.liesC at e ⊢
      split
      · split
        · exact .inr rfl
        · rename_i h1 h2; rw [if_pos h1, if_neg h2] at e; exact absurd rfl e
      · exact .inl rfl
    clear r q f e2 e H
    rcases e3 with e | e <;> rw [e] at LC <;> clear e
    · go_enter Tryz.func116, Tryz.ntmps116
      go_wp2_with fail
      (with_reducible refine (LC).mono ?_)
      rintro e w' ⟨rfl, rfl⟩
      go_wp2
      go_ret3
      exact ⟨rfl, Below.refl _ _⟩
    · go_enter Tryz.func116, Tryz.ntmps116
      go_wp2_with fail
      (with_reducible refine (LC).mono ?_)
      rintro e w' ⟨rfl, rfl⟩
      go_wp2
      go_ret3
      exact ⟨rfl, Below.refl _ _⟩
end Go.Proofs.YtlfnncahhbbmpaaGreatDoor

namespace Go.Proofs.YtlfnncahhbbmpaaGreatDoor
open Go.RowKit
set_option linter.unusedVariables false
set_option maxRecDepth 100000

def mayB (n bot : Int) : Bool := decide (1 ≤ n ∧ n ≤ 64 ∧ 1 ≤ bot ∧ bot ≤ n)
theorem info_bool_ : (Tryz.prog.info? 4).map (fun i => (i.zero, i.size, i.bytes)) = some (some (.bool false), 1, 1) := by kernel_rfl
theorem li_len {s : Sh} (f : s.Fine) (k : Nat) : (s.li k).length ≤ 64 := by
  unfold Sh.li
  split
  · exact fine_len0 f
  · exact fine_len1 f
theorem li_lt {s : Sh} (f : s.Fine) {k : Nat} {x : Nat} (h : x ∈ s.li k) : x < s.n := by
  unfold Sh.li at h
  split at h
  · exact f.lt0 x h
  · exact f.lt1 x h
theorem lst_li {s : Sh} {j : Nat} {k : Nat} (h : s.lst j = k) : j ∈ s.li k ∧ k < 2 := by
  have := lst_cases (s := s) (i := j) (by rw [h]; omega)
  rcases this with ⟨e, m⟩ | ⟨e, m⟩
  · rw [h] at e
    have : k = 0 := by omega
    subst this
    exact ⟨m, by decide⟩
  · rw [h] at e
    have : k = 1 := by omega
    subst this
    exact ⟨m, by decide⟩

theorem last_more {l : List Nat} {h : Nat → Bool} {q x : Nat} (hq : l[q]? = some x) (hall : ∀ y ∈ l.drop (q + 1), h y = true) (hx : h x = false) : l.reverse.find? (fun i => !h i) = some x := by
  have hlt := lt_of_get hq
  have e : l = l.take q ++ x :: l.drop (q + 1) := by
    have h1 := List.take_append_drop q l
    rw [List.drop_eq_getElem_cons hlt] at h1
    rw [List.getElem?_eq_getElem hlt] at hq
    injection hq with hq
    rw [hq] at h1
    exact h1.symm
  rw [e, List.reverse_append, List.reverse_cons, List.append_assoc, List.find?_append]
  have : List.find? (fun i => !h i) (l.drop (q + 1)).reverse = none := by
    rw [List.find?_eq_none]
    intro y hy
    simp [hall y (List.mem_reverse.1 hy)]
  rw [this]
  simp [hx]
theorem last_none {l : List Nat} {h : Nat → Bool} (hall : ∀ y ∈ l, h y = true) : l.reverse.find? (fun i => !h i) = none := by
  rw [List.find?_eq_none]
  intro y hy
  simp [hall y (List.mem_reverse.1 hy)]
theorem drop_more {l : List Nat} {h : Nat → Bool} {q x : Nat} (hq : l[q]? = some x) (hall : ∀ y ∈ l.drop (q + 1), h y = true) (hx : h x = true) : ∀ y ∈ l.drop q, h y = true := by
  have hlt := lt_of_get hq
  rw [List.getElem?_eq_getElem hlt] at hq
  injection hq with hq
  rw [List.drop_eq_getElem_cons hlt, hq]
  intro y hy
  rcases List.mem_cons.1 hy with rfl | hy
  · exact hx
  · exact hall y hy

theorem idx_rev {l : List Nat} (hn : l.Nodup) {x : Nat} (h : x ∈ l) : l.reverse.idxOf x + l.idxOf x + 1 = l.length := by
  obtain ⟨p, q, rfl⟩ := List.append_of_mem h
  have hn2 := List.nodup_append.1 hn
  have h1 : x ∉ p := fun k => hn2.2.2 x k x (by simp) rfl
  have h2 : x ∉ q.reverse := fun k => (List.nodup_cons.1 hn2.2.1).1 (List.mem_reverse.1 k)
  rw [List.idxOf_append, if_neg h1, List.idxOf_cons_self, List.reverse_append, List.reverse_cons, List.append_assoc, List.idxOf_append, if_neg h2, List.singleton_append, List.idxOf_cons_self]
  simp
  omega

/-- the held ones among the first k -/
def Sh.heldTo (s : Sh) (k : Nat) : List Nat := (List.range k).filter s.h
theorem sheld_more (s : Sh) (k : Nat) : s.heldTo (k + 1) = if s.h k = true then s.heldTo k ++ [k] else s.heldTo k := by
  unfold Sh.heldTo
  rw [List.range_succ, List.filter_append]
  cases e : s.h k <;> simp [e]
theorem sheld_le (s : Sh) (k : Nat) : (s.heldTo k).length ≤ k := by
  unfold Sh.heldTo
  exact Nat.le_trans (List.length_filter_le _ _) (by simp)

end Go.Proofs.YtlfnncahhbbmpaaGreatDoor

namespace Go.Proofs.YtlfnncahhbbmpaaGreatDoor
open Go.RowKit
set_option linter.unusedVariables false
set_option maxRecDepth 100000

theorem sub_len : ∀ {l m : List Nat}, l.Nodup → (∀ x ∈ l, x ∈ m) → l.length ≤ m.length
  | [], _, _, _ => Nat.zero_le _
  | x :: l, m, hl, h => by
    rw [List.nodup_cons] at hl
    have hx := h x (by simp)
    have := sub_len (l := l) (m := m.erase x) hl.2 (fun y hy => by
      have hne : y ≠ x := fun e => hl.1 (e ▸ hy)
      exact (List.mem_erase_of_ne hne).2 (h y (by simp [hy])))
    have e := List.length_erase_of_mem hx
    have : 0 < m.length := List.length_pos_of_mem hx
    simp only [List.length_cons]
    omega
theorem same_len {l m : List Nat} (hl : l.Nodup) (hm : m.Nodup) (h : ∀ x, x ∈ l ↔ x ∈ m) : l.length = m.length :=
  Nat.le_antisymm (sub_len hl (fun x hx => (h x).1 hx)) (sub_len hm (fun x hx => (h x).2 hx))

/-- a list by its number -/
def Sh.lk (s : Sh) (k : Nat) : List Nat := s.listOf (k : Int)
theorem lk_cases {s : Sh} {k : Nat} (h : k < 2) : (k = 0 ∧ s.lk k = s.l0) ∨ (k = 1 ∧ s.lk k = s.l1) := by
  have : k = 0 ∨ k = 1 := by omega
  rcases this with rfl | rfl
  · exact .inl ⟨rfl, rfl⟩
  · exact .inr ⟨rfl, rfl⟩
theorem lk_nodup {s : Sh} (f : s.Fine) {k : Nat} (h : k < 2) : (s.lk k).Nodup := by
  rcases lk_cases (s := s) h with ⟨_, e⟩ | ⟨_, e⟩ <;> rw [e]
  · exact f.nd0
  · exact f.nd1
theorem lk_lt {s : Sh} (f : s.Fine) {k : Nat} (h : k < 2) {x : Nat} (hx : x ∈ s.lk k) : x < s.n ∧ s.lst x = k := by
  rcases lk_cases (s := s) h with ⟨rfl, e⟩ | ⟨rfl, e⟩ <;> rw [e] at hx
  · refine ⟨f.lt0 x hx, ?_⟩
    unfold Sh.lst
    rw [if_pos hx]
    rfl
  · refine ⟨f.lt1 x hx, ?_⟩
    unfold Sh.lst
    rw [if_neg (fun q => f.apart x q hx), if_pos hx]
    rfl
theorem lk_rev (s : Sh) {k : Nat} (h : k < 2) : s.revL (k : Int) = (s.lk k).reverse := by
  have : k = 0 ∨ k = 1 := by omega
  rcases this with rfl | rfl <;> rfl
theorem where_in {s : Sh} (f : s.Fine) {k j x : Nat} (h : k < 2) (hj : (s.lk k)[j]? = some x) :
    s.whereV (x : Int) = .tuple #[.int .i64 (k : Int), .bool (decide (((s.lk k).length : Int) - (s.bot : Int) ≤ (j : Int))), .bool true] := by
  have hm := List.mem_of_getElem? hj
  obtain ⟨hn, hl⟩ := lk_lt f h hm
  have hc : s.liesC (x : Int) = 0 := by
    unfold Sh.liesC
    have h2 : hasN s.n x = true := by unfold hasN; simp; omega
    rw [h2, if_pos rfl, Int.toNat_natCast, hl, if_neg (by omega)]
  unfold Sh.whereV
  rw [if_pos hc, Int.toNat_natCast, hl, lk_rev s h]
  have nd := lk_nodup f h
  have r := idx_rev nd hm
  have e : (s.lk k).idxOf x = j := by
    have hlt := lt_of_get hj
    rw [List.getElem?_eq_getElem hlt] at hj
    injection hj with hj
    rw [← hj]
    exact nd.idxOf_getElem j hlt
  have hb : decide ((s.lk k).reverse.idxOf x < s.bot) = decide (((s.lk k).length : Int) - (s.bot : Int) ≤ (j : Int)) := by
    by_cases q : (s.lk k).reverse.idxOf x < s.bot
    · have : ((s.lk k).length : Int) - (s.bot : Int) ≤ (j : Int) := by omega
      simp [q, this]
    · have : ¬ ((s.lk k).length : Int) - (s.bot : Int) ≤ (j : Int) := by omega
      simp [q, this]
  rw [hb]
theorem not_before {l : List Nat} (nd : l.Nodup) {j x : Nat} (hj : l[j]? = some x) : (x : Int) ∉ (ints l).take j := by
  unfold ints
  rw [← List.map_take]
  intro h
  have : x ∈ l.take j := by
    obtain ⟨y, hy, e⟩ := List.mem_map.1 h
    have : y = x := by omega
    rw [← this]; exact hy
  have hlt := lt_of_get hj
  have e : l = l.take j ++ x :: l.drop (j + 1) := by
    have h1 := List.take_append_drop j l
    rw [List.drop_eq_getElem_cons hlt] at h1
    rw [List.getElem?_eq_getElem hlt] at hj
    injection hj with hj
    rw [hj] at h1
    exact h1.symm
  rw [e] at nd
  exact (List.nodup_append.1 nd).2.2 x this x (by simp) rfl
theorem last_in_list {s : Sh} {k x : Nat} (h : k < 2) (e : s.lastOk (k : Int) = some x) : x ∈ s.lk k ∧ x ∉ s.heldL := by
  unfold Sh.lastOk at e
  have h1 := List.find?_some e
  have h2 := List.mem_of_find?_eq_some e
  rw [lk_rev s h, List.mem_reverse] at h2
  refine ⟨h2, fun q => ?_⟩
  unfold Sh.heldL at q
  have := (List.mem_filter.1 q).2
  simp only [Bool.not_eq_true'] at h1
  rw [h1] at this
  cases this
/-- it lies in a list -/
def Sh.liesB (s : Sh) (j : Nat) : Bool := decide (s.lst j ≠ -1)
theorem where_ok (s : Sh) {j : Nat} (h : j < s.n) : ∃ (x : Int) (b : Bool), s.whereV (j : Int) = .tuple #[.int .i64 x, .bool b, .bool (s.liesB j)] := by
  unfold Sh.whereV Sh.liesC Sh.liesB
  have h2 : hasN s.n j = true := by unfold hasN; simp; omega
  rw [h2, if_pos rfl, Int.toNat_natCast]
  by_cases q : s.lst j = -1
  · rw [if_pos q, if_neg (by decide)]
    exact ⟨0, false, by simp [q]⟩
  · rw [if_neg q, if_pos rfl]
    exact ⟨s.lst j, decide ((s.revL (s.lst j)).idxOf j < s.bot), by simp [q]⟩
def Sh.cnt (s : Sh) (j : Nat) : Nat := ((List.range j).filter s.liesB).length
theorem cnt_more (s : Sh) (j : Nat) : s.cnt (j + 1) = if s.liesB j = true then s.cnt j + 1 else s.cnt j := by
  unfold Sh.cnt
  rw [List.range_succ, List.filter_append]
  cases e : s.liesB j <;> simp [e]
theorem lies_iff (s : Sh) (x : Nat) : s.liesB x = true ↔ x ∈ s.l0 ∨ x ∈ s.l1 := by
  unfold Sh.liesB Sh.lst
  by_cases a : x ∈ s.l0
  · simp [a]
  · by_cases b : x ∈ s.l1 <;> simp [a, b]
theorem cnt_all {s : Sh} (f : s.Fine) : s.cnt s.n = s.l0.length + s.l1.length := by
  unfold Sh.cnt
  rw [← List.length_append]
  refine same_len (List.nodup_range.filter _) (List.nodup_append.2 ⟨f.nd0, f.nd1, fun a ha b hb e => f.apart a ha (e ▸ hb)⟩) (fun x => ?_)
  rw [List.mem_filter, List.mem_append, List.mem_range, lies_iff]
  constructor
  · exact fun h => h.2
  · rintro (h | h)
    · exact ⟨f.lt0 x h, .inl h⟩
    · exact ⟨f.lt1 x h, .inr h⟩
theorem all_le {s : Sh} (f : s.Fine) : s.l0.length + s.l1.length ≤ s.n := by
  rw [← List.length_append]
  refine nodup_len s.n _ (List.nodup_append.2 ⟨f.nd0, f.nd1, fun a ha b hb e => f.apart a ha (e ▸ hb)⟩) (fun x hx => ?_)
  rcases List.mem_append.1 hx with h | h
  · exact f.lt0 x h
  · exact f.lt1 x h
/-- so many lie in the lists before k -/
def Sh.sumL (s : Sh) (k : Nat) : Nat := if k = 0 then 0 else if k = 1 then s.l0.length else s.l0.length + s.l1.length
theorem sum_more (s : Sh) {k : Nat} (h : k < 2) : s.sumL (k + 1) = s.sumL k + (s.lk k).length := by
  have : k = 0 ∨ k = 1 := by omega
  rcases this with rfl | rfl
  · show s.l0.length = 0 + s.l0.length
    omega
  · rfl
theorem sum_le {s : Sh} (f : s.Fine) (k : Nat) : s.sumL k ≤ 64 := by
  have := all_le f
  have := f.n64
  unfold Sh.sumL
  split
  · omega
  · split <;> omega
theorem cell_own {w : World} {base g n c : Nat} {xs : List Int} (h : OwnsInts w base (.slice (some ⟨g, 0, none⟩) n c) xs) {i : Nat} {x : Int} (hi : xs[i]? = some x) : w.cell? ⟨g, i, none⟩ = some (.int .i64 x) := by
  obtain ⟨a, c', ev, hc⟩ := Reads.of_owns h
  injection ev with e1 _ _
  obtain ⟨g', o, e2, hcell⟩ := hc i x hi
  rw [← e1] at e2
  injection e2 with e2
  injection e2 with e3 e4
  subst e3 e4
  rw [Nat.zero_add] at hcell
  exact hcell
end Go.Proofs.YtlfnncahhbbmpaaGreatDoor

namespace Go.Proofs.YtlfnncahhbbmpaaGreatDoor
open Go.RowKit
set_option linter.unusedVariables false
set_option maxRecDepth 100000

/-- the how manieth use a node's last one was; 0: it was never used -/
def lastU (us : List Nat) (f : Nat) : Nat := if f ∈ us then us.length - us.reverse.idxOf f else 0
theorem lastU_nil (f : Nat) : lastU [] f = 0 := by simp [lastU]
theorem lastU_no {us : List Nat} {f : Nat} (h : f ∉ us) : lastU us f = 0 := by unfold lastU; rw [if_neg h]
theorem lastU_snoc (us : List Nat) (x f : Nat) : lastU (us ++ [x]) f = if f = x then us.length + 1 else lastU us f := by
  unfold lastU
  rw [List.reverse_append, List.reverse_singleton, List.singleton_append, List.idxOf_cons]
  by_cases c : f = x
  · subst c
    rw [if_pos rfl, if_pos (by simp)]
    simp
  · have c2 : (x == f) = false := by simpa using fun e => c e.symm
    rw [if_neg c, c2]
    by_cases m : f ∈ us
    · have m2 : f ∈ us ++ [x] := by simp [m]
      rw [if_pos m, if_pos m2]
      have := List.idxOf_lt_length_of_mem (List.mem_reverse.2 m)
      rw [List.length_reverse] at this
      simp <;> omega
    · have m2 : f ∉ us ++ [x] := by simp [m, c]
      rw [if_neg m, if_neg m2]
theorem lastU_le (us : List Nat) (f : Nat) : lastU us f ≤ us.length := by
  unfold lastU
  split <;> omega
theorem lastU_at {us : List Nat} {i f : Nat} (h : us[i]? = some f) (hd : f ∉ us.drop (i + 1)) : lastU us f = i + 1 := by
  have hlt := lt_of_get h
  have e : us = us.take i ++ f :: us.drop (i + 1) := by
    have h1 := List.take_append_drop i us
    rw [List.drop_eq_getElem_cons hlt] at h1
    rw [List.getElem?_eq_getElem hlt] at h
    injection h with h
    rw [h] at h1
    exact h1.symm
  have m := List.mem_of_getElem? h
  unfold lastU
  rw [if_pos m]
  have : us.reverse.idxOf f = (us.drop (i + 1)).length := by
    have e2 : us.reverse = (us.drop (i + 1)).reverse ++ (f :: (us.take i).reverse) := by
      conv => lhs; rw [e]
      simp
    have nm : f ∉ (us.drop (i + 1)).reverse := fun q => hd (List.mem_reverse.1 q)
    rw [e2, List.idxOf_append, if_neg nm, List.idxOf_cons_self, List.length_reverse]
    omega
  rw [this, List.length_drop]
  omega

structure Sc where
  s : Sh
  us : List Nat
  want : Nat
  miss : Nat
  hits : Nat
  deriving Repr, DecidableEq, Inhabited

/-- Want, when the counts are weighed -/
def Sc.newWant (c : Sc) : Nat :=
  if c.hits * c.s.l0.length < c.miss * c.s.bot then min (c.want + 1) c.s.n else if c.miss * c.s.bot < c.hits * c.s.l0.length then c.want - 1 else c.want
def Sc.full (c : Sc) : Bool := decide (64 ≤ c.miss ∨ 64 ≤ c.hits)
def Sc.weigh (c : Sc) : Sc :=
  if c.full = true then ⟨c.s, c.us, c.newWant, c.miss / 2, c.hits / 2⟩ else ⟨c.s, c.us, c.newWant, c.miss, c.hits⟩
def Sc.use (c : Sc) (k i : Nat) : Sc := ⟨c.s.front k i, c.us ++ [i], c.want, c.miss, c.hits⟩
def newSc (n bot : Nat) : Sc := ⟨newSh n bot, [], 0, 0, 0⟩

def Sc.enterC (c : Sc) (i k : Int) : Int := if hasN c.s.n i && hasL k then if c.s.lst i.toNat = -1 then 0 else 4 else 1
def Sc.enterS (c : Sc) (i k : Int) : Sc := if c.enterC i k = 0 then ⟨(c.s.front k.toNat i.toNat).hold i.toNat true, c.us ++ [i.toNat], c.want, c.miss, c.hits⟩ else c
def Sc.readyC (c : Sc) (i : Int) : Int := if hasN c.s.n i then if c.s.lst i.toNat = -1 then 3 else if c.s.h i.toNat = true then 0 else 5 else 1
def Sc.readyS (c : Sc) (i : Int) : Sc := if c.readyC i = 0 then ⟨c.s.hold i.toNat false, c.us, c.want, c.miss, c.hits⟩ else c
def Sh.low (s : Sh) (i : Nat) : Bool := decide ((s.revL (s.lst i)).idxOf i < s.bot)
def Sc.hitC (c : Sc) (i k : Int) : Int := if hasN c.s.n i && hasL k then if c.s.lst i.toNat = -1 then 3 else 0 else 1
/-- the hit is counted, where it is one of the bottom of Rand -/
def Sc.hitW (c : Sc) (i : Nat) : Sc := if c.s.lst i = 1 ∧ c.s.low i = true then (Sc.mk c.s c.us c.want c.miss (c.hits + 1)).weigh else c
def Sc.hitS (c : Sc) (i k : Int) : Sc := if c.hitC i k = 0 then (c.hitW i.toNat).use k.toNat i.toNat else c
def missC (k : Int) : Int := if hasL k then 0 else 1
def Sc.missS (c : Sc) (k : Int) : Sc := if k = 0 then (Sc.mk c.s c.us c.want (c.miss + 1) c.hits).weigh else c
def Sc.goneS (c : Sc) (i : Int) : Sc := ⟨c.s.dropS i, c.us, c.want, c.miss, c.hits⟩
/-- which of two goes -/
def Sc.pick (c : Sc) (a b : Nat) : Nat :=
  if c.s.l0.length < c.s.bot ∨ c.s.l1.length < c.s.bot then if lastU c.us a < lastU c.us b then a else b
  else if c.want < c.s.l0.length then a else b
def Sc.victim (c : Sc) : Option Nat :=
  match c.s.lastOk 0, c.s.lastOk 1 with
  | none, none => none
  | some a, none => some a
  | none, some b => some b
  | some a, some b => some (c.pick a b)
def Sc.victimS (c : Sc) : Sc := match c.victim with
  | none => c
  | some x => ⟨c.s.drop x, c.us, c.want, c.miss, c.hits⟩
def Sc.room (c : Sc) : Nat := c.s.l0.length + c.s.l1.length - c.s.heldL.length

structure Sc.Fine (c : Sc) : Prop where
  s : c.s.Fine
  held : ∀ i, c.s.h i = true → c.s.lst i ≠ -1
  want : c.want ≤ c.s.n
  miss : c.miss < 64
  hits : c.hits < 64

theorem lst_ne {s : Sh} {i : Nat} : s.lst i ≠ -1 ↔ i ∈ s.l0 ∨ i ∈ s.l1 := by
  unfold Sh.lst
  by_cases a : i ∈ s.l0
  · simp [a]
  · by_cases b : i ∈ s.l1 <;> simp [a, b]
theorem front_mem {s : Sh} (f : s.Fine) (k i j : Nat) : (s.front k i).lst j ≠ -1 ↔ j = i ∨ s.lst j ≠ -1 := by
  rw [lst_ne, lst_ne]
  unfold Sh.front
  split
  · show j ∈ i :: s.l0.erase i ∨ j ∈ s.l1.erase i ↔ _
    rw [List.mem_cons]
    by_cases c : j = i
    · simp [c]
    · rw [mem_erase' f.nd0 c, mem_erase' f.nd1 c]
      simp [c]
  · show j ∈ s.l0.erase i ∨ j ∈ i :: s.l1.erase i ↔ _
    rw [List.mem_cons]
    by_cases c : j = i
    · simp [c]
    · rw [mem_erase' f.nd0 c, mem_erase' f.nd1 c]
      simp [c]
theorem drop_mem {s : Sh} (f : s.Fine) (i j : Nat) : (s.drop i).lst j ≠ -1 ↔ j ≠ i ∧ s.lst j ≠ -1 := by
  rw [lst_ne, lst_ne]
  show j ∈ s.l0.erase i ∨ j ∈ s.l1.erase i ↔ _
  by_cases c : j = i
  · subst c
    simp [(f.not_erase j).1, (f.not_erase j).2]
  · rw [mem_erase' f.nd0 c, mem_erase' f.nd1 c]
    simp [c]
theorem front_h (s : Sh) (k i j : Nat) : (s.front k i).h j = s.h j := by
  unfold Sh.front
  split <;> rfl
theorem hold_h {s : Sh} (f : s.Fine) {i : Nat} (hi : i < s.n) (b : Bool) (j : Nat) : (s.hold i b).h j = if j = i then b else s.h j :=
  set_h (by rw [f.hlen]; exact hi) b j
theorem drop_h {s : Sh} (f : s.Fine) {i : Nat} (hi : i < s.n) (j : Nat) : (s.drop i).h j = if j = i then false else s.h j :=
  set_h (by rw [f.hlen]; exact hi) false j
theorem front_nb (s : Sh) (k i : Nat) : (s.front k i).n = s.n ∧ (s.front k i).bot = s.bot := by
  unfold Sh.front
  split <;> exact ⟨rfl, rfl⟩

theorem newWant_le {c : Sc} (h : c.want ≤ c.s.n) : c.newWant ≤ c.s.n := by
  unfold Sc.newWant
  split
  · exact Nat.min_le_right _ _
  · split <;> omega
theorem weigh_fine {c : Sc} (hs : c.s.Fine) (hh : ∀ i, c.s.h i = true → c.s.lst i ≠ -1) (hw : c.want ≤ c.s.n) (hm : c.miss ≤ 64) (hi : c.hits ≤ 64) : c.weigh.Fine := by
  unfold Sc.weigh Sc.full
  by_cases q : 64 ≤ c.miss ∨ 64 ≤ c.hits
  · rw [if_pos (by simpa using q)]
    exact ⟨hs, hh, newWant_le hw, by show c.miss / 2 < 64; omega, by show c.hits / 2 < 64; omega⟩
  · rw [if_neg (by simpa using q)]
    exact ⟨hs, hh, newWant_le hw, by show c.miss < 64; omega, by show c.hits < 64; omega⟩
theorem weigh_s (c : Sc) : c.weigh.s = c.s ∧ c.weigh.us = c.us := by
  unfold Sc.weigh
  split <;> exact ⟨rfl, rfl⟩
theorem Sc.Fine.use {c : Sc} (f : c.Fine) (k : Nat) {i : Nat} (hi : i < c.s.n) : (c.use k i).Fine := by
  refine ⟨f.s.front k hi, fun j hj => ?_, ?_, f.miss, f.hits⟩
  · have : c.s.h j = true := by rw [← front_h c.s k i j]; exact hj
    exact (front_mem f.s k i j).2 (.inr (f.held j this))
  · show c.want ≤ (c.s.front k i).n
    rw [(front_nb c.s k i).1]; exact f.want
theorem enterC_nat {c : Sc} {i k : Int} (h : c.enterC i k = 0) : ∃ j : Nat, i = j ∧ j < c.s.n ∧ (k = 0 ∨ k = 1) ∧ c.s.lst j = -1 := by
  unfold Sc.enterC at h
  split at h
  · rename_i e
    rw [Bool.and_eq_true] at e
    obtain ⟨j, rfl, hj⟩ := hasN_nat e.1
    refine ⟨j, rfl, hj, hasL_cases e.2, ?_⟩
    rw [Int.toNat_natCast] at h
    split at h
    · assumption
    · exact absurd h (by decide)
  · exact absurd h (by decide)
theorem readyC_nat {c : Sc} {i : Int} (h : c.readyC i = 0) : ∃ j : Nat, i = j ∧ j < c.s.n ∧ c.s.lst j ≠ -1 ∧ c.s.h j = true := by
  unfold Sc.readyC at h
  split at h
  · rename_i e
    obtain ⟨j, rfl, hj⟩ := hasN_nat e
    refine ⟨j, rfl, hj, ?_⟩
    rw [Int.toNat_natCast] at h
    split at h
    · exact absurd h (by decide)
    · rename_i e1
      split at h
      · rename_i e2; exact ⟨e1, e2⟩
      · exact absurd h (by decide)
  · exact absurd h (by decide)
theorem hitC_nat {c : Sc} {i k : Int} (h : c.hitC i k = 0) : ∃ j : Nat, i = j ∧ j < c.s.n ∧ (k = 0 ∨ k = 1) ∧ c.s.lst j ≠ -1 := by
  unfold Sc.hitC at h
  split at h
  · rename_i e
    rw [Bool.and_eq_true] at e
    obtain ⟨j, rfl, hj⟩ := hasN_nat e.1
    refine ⟨j, rfl, hj, hasL_cases e.2, ?_⟩
    rw [Int.toNat_natCast] at h
    split at h
    · exact absurd h (by decide)
    · assumption
  · exact absurd h (by decide)
theorem Sc.Fine.enterS {c : Sc} (f : c.Fine) (i k : Int) : (c.enterS i k).Fine := by
  unfold Sc.enterS
  split
  · rename_i e
    obtain ⟨j, rfl, hj, _, _⟩ := enterC_nat e
    rw [Int.toNat_natCast]
    have f1 := f.s.front k.toNat hj
    refine ⟨f1.hold _ _, fun x hx => ?_, ?_, f.miss, f.hits⟩
    · show (c.s.front k.toNat j).lst x ≠ -1
      rw [front_mem f.s]
      have hx2 : ((c.s.front k.toNat j).hold j true).h x = true := hx
      rw [hold_h f1 (by rw [(front_nb _ _ _).1]; exact hj), front_h] at hx2
      by_cases q : x = j
      · exact .inl q
      · rw [if_neg q] at hx2
        exact .inr (f.held x hx2)
    · show c.want ≤ (c.s.front k.toNat j).n
      rw [(front_nb _ _ _).1]; exact f.want
  · exact f
theorem Sc.Fine.readyS {c : Sc} (f : c.Fine) (i : Int) : (c.readyS i).Fine := by
  unfold Sc.readyS
  split
  · rename_i e
    obtain ⟨j, rfl, hj, _, _⟩ := readyC_nat e
    rw [Int.toNat_natCast]
    refine ⟨f.s.hold _ _, fun x hx => ?_, f.want, f.miss, f.hits⟩
    show c.s.lst x ≠ -1
    have hx2 : (c.s.hold j false).h x = true := hx
    rw [hold_h f.s hj] at hx2
    by_cases q : x = j
    · rw [if_pos q] at hx2; cases hx2
    · rw [if_neg q] at hx2; exact f.held x hx2
  · exact f
theorem Sc.Fine.hitW {c : Sc} (f : c.Fine) (i : Nat) : (c.hitW i).Fine ∧ (c.hitW i).s = c.s ∧ (c.hitW i).us = c.us := by
  unfold Sc.hitW
  split
  · refine ⟨weigh_fine f.s f.held f.want (Nat.le_of_lt f.miss) ?_, weigh_s _⟩
    have := f.hits
    show c.hits + 1 ≤ 64
    omega
  · exact ⟨f, rfl, rfl⟩
theorem Sc.Fine.hitS {c : Sc} (f : c.Fine) (i k : Int) : (c.hitS i k).Fine := by
  unfold Sc.hitS
  split
  · rename_i e
    obtain ⟨j, rfl, hj, _, _⟩ := hitC_nat e
    rw [Int.toNat_natCast]
    obtain ⟨f1, e1, _⟩ := f.hitW j
    exact f1.use _ (by rw [e1]; exact hj)
  · exact f
theorem Sc.Fine.missS {c : Sc} (f : c.Fine) (k : Int) : (c.missS k).Fine := by
  unfold Sc.missS
  split
  · refine weigh_fine f.s f.held f.want ?_ (Nat.le_of_lt f.hits)
    have := f.miss
    show c.miss + 1 ≤ 64
    omega
  · exact f
theorem Sc.Fine.dropped {c : Sc} (f : c.Fine) {i : Nat} (hi : i < c.s.n) : (Sc.mk (c.s.drop i) c.us c.want c.miss c.hits).Fine := by
  refine ⟨f.s.drop _, fun x hx => ?_, f.want, f.miss, f.hits⟩
  have hx2 : (c.s.drop i).h x = true := hx
  rw [drop_h f.s hi] at hx2
  by_cases q : x = i
  · rw [if_pos q] at hx2; cases hx2
  · rw [if_neg q] at hx2
    exact (drop_mem f.s i x).2 ⟨q, f.held x hx2⟩
theorem Sc.Fine.goneS {c : Sc} (f : c.Fine) (i : Int) : (c.goneS i).Fine := by
  unfold Sc.goneS Sh.dropS
  split
  · rename_i e
    obtain ⟨j, rfl, hj, _⟩ := liesC_nat e
    rw [Int.toNat_natCast]
    exact f.dropped hj
  · exact f
theorem lastOk_in {s : Sh} (f : s.Fine) {k x : Nat} (h : k < 2) (e : s.lastOk (k : Int) = some x) : x ∈ s.lk k ∧ x < s.n ∧ s.lst x = k ∧ s.h x = false := by
  have m := (last_in_list h e).1
  have l := lk_lt f h m
  refine ⟨m, l.1, l.2, ?_⟩
  unfold Sh.lastOk at e
  have := List.find?_some e
  simpa using this
theorem pick_or (c : Sc) (a b : Nat) : c.pick a b = a ∨ c.pick a b = b := by
  unfold Sc.pick
  split
  · split
    · exact .inl rfl
    · exact .inr rfl
  · split
    · exact .inl rfl
    · exact .inr rfl
theorem victim_in {c : Sc} (f : c.Fine) {x : Nat} (e : c.victim = some x) : x < c.s.n ∧ c.s.lst x ≠ -1 ∧ c.s.h x = false := by
  unfold Sc.victim at e
  have A := fun a (h : c.s.lastOk 0 = some a) => lastOk_in f.s (k := 0) (by decide) h
  have B := fun b (h : c.s.lastOk 1 = some b) => lastOk_in f.s (k := 1) (by decide) h
  have A2 : ∀ a, c.s.lastOk 0 = some a → a < c.s.n ∧ c.s.lst a ≠ -1 ∧ c.s.h a = false := fun a h => by
    obtain ⟨_, h1, h2, h3⟩ := A a h
    exact ⟨h1, by rw [h2]; decide, h3⟩
  have B2 : ∀ a, c.s.lastOk 1 = some a → a < c.s.n ∧ c.s.lst a ≠ -1 ∧ c.s.h a = false := fun a h => by
    obtain ⟨_, h1, h2, h3⟩ := B a h
    exact ⟨h1, by rw [h2]; decide, h3⟩
  revert e
  cases ea : c.s.lastOk 0 with
  | none =>
    cases eb : c.s.lastOk 1 with
    | none => intro e; cases e
    | some b => intro e; injection e with e; subst e; exact B2 _ eb
  | some a =>
    cases eb : c.s.lastOk 1 with
    | none => intro e; injection e with e; subst e; exact A2 _ ea
    | some b =>
      intro e
      injection e with e
      rcases pick_or c a b with q | q
      · rw [q] at e; subst e; exact A2 _ ea
      · rw [q] at e; subst e; exact B2 _ eb
theorem Sc.Fine.victimS {c : Sc} (f : c.Fine) : c.victimS.Fine := by
  unfold Sc.victimS
  split
  · exact f
  · rename_i x e
    exact f.dropped (victim_in f e).1
theorem fine_newSc {n bot : Nat} (h1 : 1 ≤ bot) (h2 : bot ≤ n) (h3 : n ≤ 64) : (newSc n bot).Fine :=
  ⟨fine_new h1 h2 h3, fun i hi => by
    have : (newSh n bot).h i = true := hi
    unfold Sh.h newSh at this
    simp [List.getD_eq_getElem?_getD, List.getElem?_replicate] at this
    split at this <;> simp at this, Nat.zero_le _, Nat.zero_lt_of_lt (show 0 < 64 by decide), Nat.zero_lt_of_lt (show 0 < 64 by decide)⟩
end Go.Proofs.YtlfnncahhbbmpaaGreatDoor
