/- What package index's Keys answers. -/
import Derived.Test.YtajphhalneaihaaIxDel
import Derived.Test.YtajphhalneaihaaShelf
import Derived.Sort.OwnSortedInts
namespace Go.Proofs.Ytajphhalneaihaa
open Go.RowKit
set_option linter.unusedVariables false

def one (x : Int) : List Value := [.int .i64 x]
theorem one1 (x : Int) : (one x).length = 1 := rfl
theorem one_one : ∀ y : Int, ∀ u ∈ one y, u.oneCell' = true := by
  intro y u hu
  simp only [one, List.mem_cons, List.not_mem_nil, or_false] at hu
  rcases hu with rfl; rfl
theorem one_map (xs : List Int) : xs.flatMap one = xs.map (Value.int .i64) := by
  induction xs with
  | nil => rfl
  | cons x xs ih => rw [List.flatMap_cons, ih]; rfl
theorem info_int8 : (Try.prog.info? 3).map (fun i => (i.zero, i.size, i.bytes)) = some (some (.int .i64 0), 1, 8) := by kernel_rfl

/-- keys of the places up to k, in their order -/
def keysTo (ps : List Pl) (k : Nat) : List Int := ((ps.take k).filter (·.taken)).map (·.key)
theorem keysTo_more {ps : List Pl} {k : Nat} (h : k < ps.length) : keysTo ps (k + 1) = if (Go.Proofs.Ytajphhalneaihaa.at_ ps k).taken = true then keysTo ps k ++ [(Go.Proofs.Ytajphhalneaihaa.at_ ps k).key] else keysTo ps k := by
  unfold keysTo
  rw [List.take_add_one, at_get h]
  cases e : (Go.Proofs.Ytajphhalneaihaa.at_ ps k).taken <;> simp [e]
theorem keysTo_le (ps : List Pl) (k : Nat) : (keysTo ps k).length ≤ k := by
  unfold keysTo
  rw [List.length_map]
  exact Nat.le_trans (List.length_filter_le _ _) (List.length_take_le _ _)
theorem keysTo_all (ps : List Pl) : (keysTo ps ps.length).mergeSort (fun x y => decide (x ≤ y)) = keysP ps := by
  unfold keysTo keysP
  rw [List.take_length]

/-- a slice of integers of the call's own -/
abbrev OwnsInts (w : World) (base : Nat) (v : Value) (xs : List Int) : Prop := Owns w base 3 1 one v xs
/-- the slice is sorted -/
theorem sort_own (w : World) (base g cap : Nat) (xs : List Int) (h : OwnsInts w base (.slice (some ⟨g, 0, none⟩) xs.length cap) xs) (hs : xs.length < 4611686018427387904) :
    Calls Try.prog 35 #[.slice (some ⟨g, 0, none⟩) xs.length cap] w fun e w' => e = .returned (.tuple #[]) ∧ OwnsInts w' base (.slice (some ⟨g, 0, none⟩) xs.length cap) (xs.mergeSort fun x y => decide (x ≤ y)) ∧ Only (fun k => k = g) w w' := by
  rcases h.2 with ⟨h0, _⟩ | ⟨g', cap', cur, hv, hg, hh, h3, h4, h5, h6⟩
  · cases h0
  cases hv
  rw [one_map, Nat.mul_one] at h6
  have lt : g < w.heap.size := (Array.getElem?_eq_some_iff.1 hh).1
  refine (Try.slices_Sort_int g 0 cap xs w (holds_of_blockI hh h6) lt hs).mono ?_
  rintro e w' ⟨rfl, n, os, rfl⟩
  have gb := grownBy_sortedI (w := w) (g := g) (n := n) (os := os) (xs.mergeSort fun x y => decide (x ≤ y)).toArray
  refine ⟨rfl, ?_, (Only.of_grown gb).more (fun j _ q => by injection q)⟩
  have hl : (xs.mergeSort fun x y => decide (x ≤ y)).length = xs.length := List.length_mergeSort _
  have := ownsRow_sortedI (n := n) (os := os) hl hg hh h3 h4 h5
  show World.ownsRow _ _ _ _ _ (List.length _) _
  rw [one_map, hl]
  exact this

set_option maxHeartbeats 4000000 in
theorem keys_any (p b : Nat) (ps : List Pl) (w : World) (h : Ix w p b ps) (hc : Clean ps) :
    Calls Try.prog 21 #[.pointer (some ⟨p, 0, none⟩)] w fun e w' => ∃ v, e = .returned v ∧ OwnsInts w' w.heap.size v (keysP ps) ∧ Only none_ w w' := by
  have c := h.hd
  have ck := h.kd
  have n256 := h.pow.le.2
  have lb := h.row.lt
  have lp := h.head.lt
  have cb := cnt_le ps
  obtain ⟨i0, hi0, hz0, hz1, hz2⟩ := info_parts info_int8
  have MK := Lib.hid (fun w => run_make w 38 3 i0 (.int .i64 0) Try.underlying38 hi0 hz0 .i64 .i64 0 (cnt ps : Nat) (by omega) (by omega) (by rw [hz2]; omega) (by omega))
  have MO := Lib.hid (World.ownsRow_made (base := w.heap.size) (e := 3) (size := 1) w (madeCells (Value.cells (.int .i64 0)) ((cnt ps : Int).toNat * i0.size)) (cnt ps) (Nat.le_refl _) (by unfold maxLen; omega) (by rw [size_madeCells, hz1]; simp))
  have H := Lib.hid h
  have HC := Lib.hid hc
  have I0 := Lib.hid hi0
  have I1 := Lib.hid hz0
  have I2 := Lib.hid hz1
  have I3 := Lib.hid hz2
  clear h hc hi0 hz0 hz1 hz2
  generalize hm : cnt ps = m at *
  have HM := Lib.hid hm
  clear hm
  have mk := MK.out
  simp only [Int.toNat_natCast, Int.toNat_zero] at mk MO
  go_enter Try.func21, Try.ntmps21
  go_wp2_with fail
  have h1 := H.out.still ((Only.refl none_ w).alloc (.cells (madeCells #[.int .i64 0] (m * i0.size)) 3))
  have o1 := (Only.refl none_ w).alloc (.cells (madeCells #[.int .i64 0] (m * i0.size)) 3)
  have O1 := Lib.hid o1
  have H1 := Lib.hid h1
  have MO1 := MO.out
  simp only [show (Value.int .i64 0).cells = #[.int .i64 0] from rfl] at MO1
  have MO1 := Lib.hid MO1
  clear c ck mk MK MO o1 h1
  generalize w.alloc (.cells (madeCells #[.int .i64 0] (m * i0.size)) 3) = W1 at *
  go_loopw [3, 16] (fun v i wr => ∃ (k g cap : Nat), k ≤ ps.length ∧ i = .int .i64 k ∧ v = .slice (some ⟨g, 0, none⟩) (keysTo ps k).length cap ∧ OwnsInts wr w.heap.size v (keysTo ps k) ∧ Only none_ w wr) (fun _ i _ => ps.length - (intOf i).toNat)
  case atStart => exact ⟨0, w.heap.size, m, Nat.zero_le _, rfl, rfl, MO1.out, O1.out⟩
  case round =>
    obtain ⟨k, g, cap, hk, rfl, rfl, hV, hO⟩ := hrel
    have HO := Lib.hid hO
    have HW := Lib.hid hV
    have HI := Lib.hid (H.out.still hO)
    clear hO hV MO1 O1 H1
    by_cases hlt : k < ps.length
    · obtain ⟨c0, c1, c2⟩ := HI.out.at_ (at_get hlt)
      have c := HI.out.hd
      have ltb := HI.out.row.lt
      have ltp := HI.out.head.lt
      have KM := Lib.hid (keysTo_more hlt)
      have KL := keysTo_le ps k
      by_cases ht : (Go.Proofs.Ytajphhalneaihaa.at_ ps k).taken = true
      · have KM2 := KM.out
        rw [if_pos ht] at KM2
        have KM2 := Lib.hid KM2
        have E1 := Lib.hid (fun o => empty_no p b ps k (wr.alloc o) (HI.out.alloc o) hlt ht)
        rw [ht] at c0
        clear ht KM
        generalize (Go.Proofs.Ytajphhalneaihaa.at_ ps k).key = key at *
        generalize (Go.Proofs.Ytajphhalneaihaa.at_ ps k).n = nn at *
        have RF0 := Row.fresh (wr.alloc (.cells #[.bool true, .int .i64 key, .int .i64 nn] 55)) 3 #[.int .i64 key]
        simp only [World.size_alloc] at RF0
        have RF := Lib.hid RF0
        clear RF0
        have OO := (((Only.refl none_ wr).alloc (.cells #[.bool true, .int .i64 key, .int .i64 nn] 55)).alloc (.cells #[.int .i64 key] 3))
        have HW2 := Lib.hid (HW.out.still OO)
        have HO2 := Lib.hid (HO.out.idle OO)
        have sz : w.heap.size ≤ ((wr.alloc (.cells #[.bool true, .int .i64 key, .int .i64 nn] 55)).alloc (.cells #[.int .i64 key] 3)).heap.size := HO2.out.size
        have KK := Lib.hid (rfl : keysTo ps k = keysTo ps k)
        clear OO
        go_wp2_with fail
        (with_reducible refine (E1.out _).mono ?_)
        rintro e w2 ⟨rfl, rfl⟩
        go_wp2_with (at_builtin; go_loud (refine wpList_append_one rfl (.tmp 25) (.tmp 28) 38 rfl (c := one) i0 _ 8 Try.underlying38 I0.out I1.out I2.out I3.out rfl (by decide) one1 one_one rfl HW2.out (y := key) rfl RF.out (by omega) (by omega) sz ?_); intro v5 w5 hown5 hO5)
        rw [← KM2.out] at hown5
        obtain ⟨g5, cap5, rfl, hg5, _⟩ := hown5.form (by rw [KM2.out]; simp)
        have HO5 := Lib.hid (HO2.out.trans hO5 (fun i hi q => by omega))
        have W5 := Lib.hid hown5
        clear hown5 hO5
        go_wp2_with fail
        go_roundw
        case rel => exact ⟨k + 1, g5, cap5, by omega, by go_num, rfl, W5.out, HO5.out⟩
        case measure => simp [intOf]; omega
      · have KM2 := KM.out
        rw [if_neg ht] at KM2
        have KM2 := Lib.hid KM2
        have e0 := HC.out _ hlt (by simpa using ht)
        have E1 := Lib.hid (fun o => empty_yes p b ps k (wr.alloc o) (HI.out.alloc o) hlt e0)
        rw [e0] at c0 c1 c2
        simp only [Pl.none_] at c0 c1 c2
        have HW2 := Lib.hid (HW.out.still ((Only.refl none_ wr).alloc (.cells #[.bool false, .int .i64 0, .int .i64 0] 55)))
        have HO2 := Lib.hid (HO.out.alloc (.cells #[.bool false, .int .i64 0, .int .i64 0] 55))
        clear ht KM e0
        go_wp2_with fail
        (with_reducible refine (E1.out _).mono ?_)
        rintro e w2 ⟨rfl, rfl⟩
        go_wp2_with fail
        go_roundw
        case rel => exact ⟨k + 1, g, cap, by omega, by go_num, by rw [KM2.out], by rw [KM2.out]; exact HW2.out, HO2.out⟩
        case measure => simp [intOf]; omega
    · have e : k = ps.length := by omega
      have hge : ps.length ≤ k := by omega
      have KL := keysTo_le ps k
      have S := Lib.hid (sort_own wr w.heap.size g cap (keysTo ps k) HW.out (by omega))
      have KA := Lib.hid (show (keysTo ps k).mergeSort (fun x y => decide (x ≤ y)) = keysP ps by rw [e]; exact keysTo_all ps)
      have gb := (HW.out.base_le (g := g) rfl).1
      clear e
      go_wp2_with fail
      (with_reducible refine (S.out).mono ?_)
      rintro e w2 ⟨rfl, hw2, ho2⟩
      have S2 := Lib.hid hw2
      have O2 := Lib.hid (HO.out.trans ho2 (fun i hi q => by omega) : Only none_ w w2)
      clear hw2 ho2
      go_wp2_with fail
      go_ret
      exact ⟨_, rfl, by rw [← KA.out]; exact S2.out, O2.out⟩
end Go.Proofs.Ytajphhalneaihaa
