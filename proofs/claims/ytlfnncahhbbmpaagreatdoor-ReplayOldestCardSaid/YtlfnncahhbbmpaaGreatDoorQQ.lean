/- Texts of the layers below, one behind the other. -/
import Derived.Test.YtlfnncahhbbmpaaGreatDoorQP
import Derived.Test.YtlfnncahhbbmpaaGreatDoorQK
import Derived.Deep.CutRange
import Derived.Test.YtlfnncahhbbmpaaGreatDoorQH
import Derived.Test.YtlfnncahhbbmpaaGreatDoorQI
import Derived.Test.YtlfnncahhbbmpaaGreatDoorQA
import Derived.OpenShut
import Derived.Lib.SmallJoins
namespace Go.Proofs.YtlfnncahhbbmpaaGreatDoor
open Go.RowKit Go.Maps
set_option linter.unusedVariables false
set_option maxRecDepth 100000
theorem broken_any (p : Nat) (K : Nat → Nat) (L : Nat) (s : Option Mo) (w : World) (h : CM w p K L s) :
    Calls Tryz.prog 14 #[.pointer (some ⟨p, 0, none⟩)] w fun E w' => E = .returned (.bool s.isNone) ∧ w = w' := by
  obtain ⟨o, v1, v2, v3, f, r⟩ := h.row
  have c20 : w.cell? ⟨p, 20, none⟩ = some (.bool s.isNone) := r.cell 20
  clear r h
  go_enter Tryz.func14, Tryz.ntmps14
  go_wp2_with fail
  go_ret
  exact ⟨rfl, rfl⟩
def ssO (s : Option Mo) : List Sm := match s with
  | none => []
  | some m => m.t.ss
theorem ssO_len {w : World} {p : Nat} {K : Nat → Nat} {L : Nat} {s : Option Mo} (h : CM w p K L s) : (ssO s).length ≤ 16 := by
  cases s with
  | none => exact Nat.zero_le _
  | some m =>
    obtain ⟨X, ss, c, h⟩ := h
    have := h.fine.t.few
    have := h.fine.t.ok.m16
    show m.t.ss.length ≤ 16
    omega
set_option maxHeartbeats 1000000 in
theorem streams19_any (p : Nat) (K : Nat → Nat) (L : Nat) (s : Option Mo) (w : World) (h : CM w p K L s) :
    Calls Tryz.prog 17 #[.pointer (some ⟨p, 0, none⟩)] w (Told10 (ssO s) w) := by
  cases s with
  | none =>
    have c20 : w.cell? ⟨p, 20, none⟩ = some (.bool true) := h.1.cell 20
    clear h
    go_enter Tryz.func17, Tryz.ntmps17
    go_wp2_with fail
    go_ret
    exact ⟨none, 0, rfl, fun i a hi => by simp [ssO] at hi, fun a ha => (by cases ha), Only.refl _ _⟩
  | some m =>
    have hl := ssO_len h
    obtain ⟨X, ss, c, h⟩ := h
    have c20 : w.cell? ⟨p, 20, none⟩ = some (.bool false) := h.cell 20
    have c15 := tracker_at h
    have S := Lib.hid (streams_any w h.trk (show m.t.ss.length ≤ 1000 by have : m.t.ss.length ≤ 16 := hl; omega))
    clear h
    go_enter Tryz.func17, Tryz.ntmps17
    go_wp2_with fail
    (with_reducible refine S.out.mono ?_)
    rintro E w' ⟨A, cap, rfl, h1, h2, h3⟩
    go_wp2_with fail
    go_ret
    exact ⟨A, cap, rfl, h1, h2, h3⟩
theorem info_int19 : (Tryz.prog.info? 3).map (fun i => (i.zero, i.size, i.bytes)) = some (some (.int .i64 0), 1, 8) := by kernel_rfl
section
variable {p : Nat} {K : Nat → Nat} {X : Loc19} {ss : List Sd} {c : Sc} {L : Nat} {m : Mo}
/-- what blocksOf has written -/
def bOf (ss : List Sd) (xs : List Int) (j : Nat) : List Int := (xs.take j).map (blockI ss) ++ List.replicate (xs.length - j) 0
theorem bOf_len (ss : List Sd) (xs : List Int) {j : Nat} (h : j ≤ xs.length) : (bOf ss xs j).length = xs.length := by
  unfold bOf
  rw [List.length_append, List.length_map, List.length_take, List.length_replicate]
  omega
theorem bOf_step {ss : List Sd} {xs : List Int} {j : Nat} {x : Int} (h : xs[j]? = some x) : bOf ss xs (j + 1) = (bOf ss xs j).set j (blockI ss x) := by
  have hj := lt_of_get h
  unfold bOf
  rw [List.take_add_one, h, List.map_append]
  have e : xs.length - j = (xs.length - (j + 1)) + 1 := by omega
  rw [e, List.replicate_succ]
  have hl : ((xs.take j).map (blockI ss)).length = j := by rw [List.length_map, List.length_take]; omega
  rw [List.set_append_right _ _ (by omega), hl, Nat.sub_self]
  simp
theorem bOf_all (ss : List Sd) (xs : List Int) : bOf ss xs xs.length = xs.map (blockI ss) := by
  unfold bOf
  rw [List.take_length, Nat.sub_self]
  simp
set_option maxHeartbeats 1000000 in
theorem blocks_any (v : Value) (xs : List Int) (w : World) (h : MA w p K X ss c L m) (hr : Reads w v xs) (hl : xs.length ≤ 64) (hx : ∀ x ∈ xs, 0 ≤ x ∧ x < 64) :
    Calls Tryz.prog 34 #[.pointer (some ⟨p, 0, none⟩), v] w fun E w' => ∃ g cap, E = .returned (.slice (some ⟨g, 0, none⟩) xs.length cap) ∧ OwnsInts w' w.heap.size (.slice (some ⟨g, 0, none⟩) xs.length cap) (xs.map (blockI ss)) ∧ Only none_ w w' := by
  obtain ⟨A, cap, rfl, hc⟩ := hr
  obtain ⟨i0, hi0, hz0, hz1, hz2⟩ := info_parts info_int19
  have MK := run_make_flat (P := Tryz.prog) (c := one) 0 one1 (by decide) 45 3 i0 (.int .i64 0) Tryz.underlying45 hi0 hz0 hz1 rfl .i64 .i64 xs.length (by rw [hz2]; omega) (by omega) w
  obtain ⟨wa, hwa⟩ : ∃ wa, wa = w.alloc (.cells (flat one (List.replicate xs.length 0)) 3) := ⟨_, rfl⟩
  have ra : Row wa w.heap.size 3 (flat one (bOf ss xs 0)) := by
    rw [hwa]
    have : bOf ss xs 0 = List.replicate xs.length 0 := by unfold bOf; simp
    rw [this]
    exact Row.fresh _ _ _
  have oa : Only none_ w wa := by rw [hwa]; exact (Only.refl none_ w).alloc _
  rw [← hwa] at MK
  have HC := Lib.hid hc
  have HX := Lib.hid hx
  have H := Lib.hid h
  have RA := Lib.hid ra
  have OA := Lib.hid oa
  have LK := Lib.hid (fun (w' : World) (o : Only none_ w w') (x : Int) (hx : 0 ≤ x ∧ x < 64) => show (Instr.lookup 68 (.map (some X.bm)) (.int .i64 x) false).run Tryz.prog w' = .ok (.int .i64 (blockI ss x)) w' from by
    have := (h.still o).mg.look Tryz.underlying68 (zeroI11 w') (wf_i11 x ⟨by omega, by omega⟩)
    rw [atV_ent h.bm.once] at this
    exact this)
  clear hc hx h ra oa hwa hi0 hz0 hz1 hz2
  go_enter Tryz.func34, Tryz.ntmps34
  go_wp2_with fail
  generalize hg : w.heap.size = g at *
  go_loopw [6, 7, 13] (fun _ _ i wr => ∃ j : Nat, j ≤ xs.length ∧ i = .int .i64 j ∧ Row wr g 3 (flat one (bOf ss xs j)) ∧ Only none_ w wr) (fun _ _ i _ => xs.length - (intOf i).toNat)
  case atStart => exact ⟨0, Nat.zero_le _, rfl, RA.out, OA.out⟩
  case round =>
    obtain ⟨j, hj, rfl, hrow, ho⟩ := hrel
    have RW := Lib.hid hrow
    have OW := Lib.hid ho
    clear hrow ho
    by_cases lt : j < xs.length
    · obtain ⟨x, hx⟩ : ∃ x, xs[j]? = some x := ⟨_, List.getElem?_eq_getElem lt⟩
      obtain ⟨gb, go, rfl, hcx⟩ := HC.out j x hx
      have cx := OW.out.cell hcx (fun s => s)
      have c16 : wr.cell? ⟨p, 16, none⟩ = some (.map (some X.bm)) := (H.out.still OW.out).cell 16
      have LX := LK.out wr OW.out x (HX.out x (List.mem_of_getElem? hx))
      have ST := Lib.hid (bOf_step (ss := ss) hx)
      have lg := RW.out.lt
      have zf := RW.out.frozen
      have bl := bOf_len ss xs hj
      obtain ⟨y, hy⟩ : ∃ y, (bOf ss xs j)[j]? = some y := ⟨_, List.getElem?_eq_getElem (by rw [bl]; exact lt)⟩
      have cj : wr.cell? ⟨g, j, none⟩ = some (.int .i64 y) := by
        have f := flat_get (c := one) (k := 1) one1 hy (j := 0) (by decide)
        rw [RW.out.cell]
        simpa [one] using f
      have PUT := Lib.hid (show Row (wr.setCell ⟨g, j, none⟩ (.int .i64 (blockI ss x))) g 3 (flat one (bOf ss xs (j + 1))) from by
        have := RW.out.put j (.int .i64 (blockI ss x))
        have e := flat_put (c := one) one1 (l := bOf ss xs j) (i := j) (a' := blockI ss x) (j := 0) (v := .int .i64 (blockI ss x)) hy (by decide) rfl
        rw [ST.out, ← e]
        simpa using this)
      have OP := Lib.hid (OW.out.new (b := g) (by omega) j (.int .i64 (blockI ss x)))
      clear hx hcx hy
      go_wp2_with fail
      go_roundw
      case rel => exact ⟨j + 1, by omega, by go_num, PUT.out, OP.out⟩
      case measure => simp [intOf]; omega
    · obtain rfl : j = xs.length := by omega
      go_wp2_with fail
      go_ret
      refine ⟨g, xs.length, rfl, ?_, OW.out⟩
      have hb := bOf_all ss xs
      have r := RW.out
      rw [hb] at r
      have hl2 : (xs.map (blockI ss)).length = xs.length := List.length_map ..
      refine ⟨by rw [one_map, List.length_map, Nat.mul_one], .inr ⟨g, xs.length, _, by first | (rw [hl2]; done) | (rw [hl2]; rfl), by omega, r, by rw [hl2]; exact Nat.le_refl _, by unfold maxLen; omega, ?_, ?_⟩⟩
      · rw [flat_size one1, hl2]
      · have e : (flat one (xs.map (blockI ss))).toList = (xs.map (blockI ss)).flatMap one := rfl
        rw [e, List.take_of_length_le (by rw [one_map, List.length_map]; omega)]
end
end Go.Proofs.YtlfnncahhbbmpaaGreatDoor

namespace Go.Proofs.YtlfnncahhbbmpaaGreatDoor
open Go.RowKit Go.Maps
set_option linter.unusedVariables false
set_option maxRecDepth 100000
/-- the slice is sorted -/
theorem sort_own (w : World) (base g cap : Nat) (xs : List Int) (h : OwnsInts w base (.slice (some ⟨g, 0, none⟩) xs.length cap) xs) (hs : xs.length < 4611686018427387904) :
    Calls Tryz.prog 35 #[.slice (some ⟨g, 0, none⟩) xs.length cap] w fun e w' => e = .returned (.tuple #[]) ∧ OwnsInts w' base (.slice (some ⟨g, 0, none⟩) xs.length cap) (xs.mergeSort fun x y => decide (x ≤ y)) ∧ Only (fun k => k = g) w w' := by
  rcases h.2 with ⟨h0, _⟩ | ⟨g', cap', cur, hv, hg, hh, h3, h4, h5, h6⟩
  · cases h0
  cases hv
  rw [one_map, Nat.mul_one] at h6
  have lt : g < w.heap.size := (Array.getElem?_eq_some_iff.1 hh).1
  refine (Tryz.slices_Sort_int g 0 cap xs w (holds_of_blockI hh h6) lt hs).mono ?_
  rintro e w' ⟨rfl, n, os, rfl⟩
  have gb := grownBy_sortedI (w := w) (g := g) (n := n) (os := os) (xs.mergeSort fun x y => decide (x ≤ y)).toArray
  refine ⟨rfl, ?_, (Only.of_grown gb).more (fun j _ q => by injection q)⟩
  have hl : (xs.mergeSort fun x y => decide (x ≤ y)).length = xs.length := List.length_mergeSort _
  have := ownsRow_sortedI (n := n) (os := os) hl hg hh h3 h4 h5
  show World.ownsRow _ _ _ _ _ (List.length _) _
  rw [one_map, hl]
  exact this
theorem rise_oneI : ∀ {l l' : List Int}, l.Pairwise (· < ·) → l'.Pairwise (· < ·) → (∀ x, x ∈ l ↔ x ∈ l') → l = l'
  | [], [], _, _, _ => rfl
  | [], b :: r', _, _, h => by have := (h b).2 (by simp); cases this
  | a :: r, [], _, _, h => by have := (h a).1 (by simp); cases this
  | a :: r, b :: r', hl, hl', h => by
    obtain ⟨h1, h2⟩ := List.pairwise_cons.1 hl
    obtain ⟨h3, h4⟩ := List.pairwise_cons.1 hl'
    have e : a = b := by
      rcases List.mem_cons.1 ((h a).1 (by simp)) with q | q
      · exact q
      · rcases List.mem_cons.1 ((h b).2 (by simp)) with k | k
        · exact k.symm
        · have := h3 a q
          have := h1 b k
          omega
    subst e
    congr 1
    refine rise_oneI h2 h4 (fun x => ⟨fun hx => ?_, fun hx => ?_⟩)
    · rcases List.mem_cons.1 ((h x).1 (by simp [hx])) with q | q
      · have := h1 x hx; omega
      · exact q
    · rcases List.mem_cons.1 ((h x).2 (by simp [hx])) with q | q
      · have := h3 x hx; omega
      · exact q
/-- what is the same, sorted, as some that rise -/
theorem sort_isI {l up : List Int} (hu : up.Pairwise (· < ·)) (hn : l.Nodup) (h : ∀ x, x ∈ l ↔ x ∈ up) : (l.mergeSort fun x y => decide (x ≤ y)) = up := by
  have pm := List.mergeSort_perm l (fun x y => decide (x ≤ y))
  have so := List.pairwise_mergeSort (le := fun (x y : Int) => decide (x ≤ y)) (fun a b c h1 h2 => by simp at *; omega) (fun a b => by simp; omega) l
  have nd : (l.mergeSort fun x y => decide (x ≤ y)).Nodup := pm.nodup_iff.2 hn
  refine rise_oneI ?_ hu (fun x => by rw [pm.mem_iff]; exact h x)
  have := List.Pairwise.and so nd
  exact this.imp (fun ⟨h1, h2⟩ => by simp at h1; omega)
section
variable {w : World} {p : Nat} {K : Nat → Nat} {X : Loc19} {ss : List Sd} {c : Sc} {L : Nat} {m : Mo}
theorem map_l0 (h : MA w p K X ss c L m) : (ints c.s.l0).map (blockI ss) = m.ca.l0 := by
  rw [h.bm.bl.l0]
  unfold ints
  rw [List.map_map]
  rfl
theorem map_l1 (h : MA w p K X ss c L m) : (ints c.s.l1).map (blockI ss) = m.ca.l1 := by
  rw [h.bm.bl.l1]
  unfold ints
  rw [List.map_map]
  rfl
theorem map_held (h : MA w p K X ss c L m) : (((ints c.s.heldL).map (blockI ss)).mergeSort fun x y => decide (x ≤ y)) = m.ca.h := by
  have e : (ints c.s.heldL).map (blockI ss) = c.s.heldL.map (mpF ss) := by unfold ints; rw [List.map_map]; rfl
  rw [e]
  have mem : ∀ i, i ∈ c.s.heldL ↔ c.s.h i = true := fun i => by
    unfold Sh.heldL
    rw [List.mem_filter, List.mem_range]
    exact ⟨fun q => q.2, fun q => ⟨h.bm.inn_lt (lst_ne.1 (h.bm.f.held i q)), q⟩⟩
  refine sort_isI h.bm.bl.up ?_ (fun x => ?_)
  · rw [List.Nodup, List.pairwise_map]
    refine List.Pairwise.imp_of_mem (R := fun (a b : Nat) => a ≠ b) (fun {a b} ha hb q e => q ?_) (show c.s.heldL.Nodup from List.nodup_range.filter _)
    exact h.bm.bl.inj a b (lst_ne.1 (h.bm.f.held a ((mem a).1 ha))) (lst_ne.1 (h.bm.f.held b ((mem b).1 hb))) e
  · rw [h.bm.bl.hm, List.mem_map]
    exact ⟨fun ⟨i, hi, e⟩ => ⟨i, (mem i).1 hi, e⟩, fun ⟨i, hi, e⟩ => ⟨i, (mem i).2 hi, e⟩⟩
theorem ints_range {l : List Nat} (h : ∀ i ∈ l, i < 64) : ∀ x ∈ ints l, 0 ≤ x ∧ x < 64 := fun x hx => by
  unfold ints at hx
  obtain ⟨i, hi, rfl⟩ := List.mem_map.1 hx
  have := h i hi
  omega
theorem ix_a (a b : Option Addr) (n k n' k' : Nat) (w : World) : (Instr.index 46 (.agg #[.slice a n k, .slice b n' k']) (.int .i64 0)).run Tryz.prog w = .ok (.slice a n k) w := by kernel_rfl
theorem ix_b (a b : Option Addr) (n k n' k' : Nat) (w : World) : (Instr.index 46 (.agg #[.slice a n k, .slice b n' k']) (.int .i64 1)).run Tryz.prog w = .ok (.slice b n' k') w := by kernel_rfl
def caO (s : Option Mo) : Ca := match s with
  | none => newCa 0 0
  | some m => m.ca
/-- a policy is told -/
def ToldP (b : Ca) (w : World) (E : Ending) (w' : World) : Prop := ∃ a0 c0 a1 c1 a2 c2, E = .returned (.agg #[.slice a0 b.l0.length c0, .slice a1 b.l1.length c1, .slice a2 b.h.length c2, .int .i64 b.want, .int .u64 b.miss, .int .u64 b.hits]) ∧
  OwnsInts w' w.heap.size (.slice a0 b.l0.length c0) b.l0 ∧ OwnsInts w' w.heap.size (.slice a1 b.l1.length c1) b.l1 ∧ OwnsInts w' w.heap.size (.slice a2 b.h.length c2) b.h ∧ Only none_ w w'
theorem own_len {w : World} {base : Nat} {v : Value} {xs : List Int} (h : OwnsInts w base v xs) : ∃ a c, v = .slice a xs.length c := by
  rcases h.2 with ⟨h0, h1⟩ | ⟨g, cap, cur, hv, _⟩
  · exact ⟨none, 0, by rw [h0, List.eq_nil_of_length_eq_zero h1]; rfl⟩
  · exact ⟨_, _, hv⟩
theorem policy19_none (p : Nat) (K : Nat → Nat) (L : Nat) (w : World) (h : CM w p K L none) :
    Calls Tryz.prog 16 #[.pointer (some ⟨p, 0, none⟩)] w (ToldP (newCa 0 0) w) := by
  have r1 := (h.still ((Only.refl none_ w).alloc (.cells #[.slice none 0 0, .slice none 0 0, .slice none 0 0, .int .i64 0, .int .u64 0, .int .u64 0] 49))).1
  have c20 : (w.alloc (.cells #[.slice none 0 0, .slice none 0 0, .slice none 0 0, .int .i64 0, .int .u64 0, .int .u64 0] 49)).cell? ⟨p, 20, none⟩ = some (.bool true) := r1.cell 20
  have rr := Row.fresh w 49 #[.slice none 0 0, .slice none 0 0, .slice none 0 0, .int .i64 0, .int .u64 0, .int .u64 0]
  have O1 := Lib.hid ((Only.refl none_ w).alloc (.cells #[.slice none 0 0, .slice none 0 0, .slice none 0 0, .int .i64 0, .int .u64 0, .int .u64 0] 49))
  have q0 := rr.cell 0
  have q1 := rr.cell 1
  have q2 := rr.cell 2
  have q3 := rr.cell 3
  have q4 := rr.cell 4
  have q5 := rr.cell 5
  clear h r1
  go_enter Tryz.func16, Tryz.ntmps16
  go_wp2_with fail
  exact bodyPost_ret (v := .agg #[.slice none 0 0, .slice none 0 0, .slice none 0 0, .int .i64 0, .int .u64 0, .int .u64 0]) (by simp [results, Tryz.results16, go_sem, q0, q1, q2, q3, q4, q5]) rfl ⟨none, 0, none, 0, none, 0, rfl, Owns.start _ _ _ _ _, Owns.start _ _ _ _ _, Owns.start _ _ _ _ _, O1.out⟩
section
variable {p : Nat} {K : Nat → Nat} {X : Loc19} {ss : List Sd} {c : Sc} {L : Nat} {m : Mo}
set_option maxHeartbeats 4000000 in
theorem policy19_some (w : World) (h : MA w p K X ss c L m) :
    Calls Tryz.prog 16 #[.pointer (some ⟨p, 0, none⟩)] w (ToldP m.ca w) := by
  obtain ⟨w0, hw0⟩ : ∃ w0, w0 = w.alloc (.cells #[.slice none 0 0, .slice none 0 0, .slice none 0 0, .int .i64 0, .int .u64 0, .int .u64 0] 49) := ⟨_, rfl⟩
  have o0 : Only none_ w w0 := by rw [hw0]; exact (Only.refl none_ w).alloc _
  have R0 := Lib.hid (show Row w0 w.heap.size 49 #[.slice none 0 0, .slice none 0 0, .slice none 0 0, .int .i64 0, .int .u64 0, .int .u64 0] from by rw [hw0]; exact Row.fresh w _ _)
  have h0 := h.still o0
  have c20 : w0.cell? ⟨p, 20, none⟩ = some (.bool false) := h0.cell 20
  have c14 := policy_at h0
  have PY := Lib.hid (policy_any X.P X.pp X.b c w0 h0.pol)
  have H0 := Lib.hid h0
  have O0 := Lib.hid o0
  have z0 : w.heap.size < w0.heap.size := R0.out.lt
  clear h h0 o0
  go_enter Tryz.func16, Tryz.ntmps16
  go_upto_region 1 with fail
  rw [← hw0]
  clear hw0
  generalize hr : w.heap.size = r at *
  go_wp2_with fail
  (with_reducible refine PY.out.mono ?_)
  rintro E w1 ⟨v, rfl, ⟨v0, v1, v2, rfl, q0, q1, q2⟩, bl⟩
  have o1 := below_only bl
  have l0 := fine_len0 H0.out.bm.f.s
  have l1 := fine_len1 H0.out.bm.f.s
  have lh := held_len7 H0.out.bm.f.s
  have rg0 := ints_range (fun i hi => Nat.lt_of_lt_of_le (H0.out.bm.f.s.lt0 i hi) H0.out.bm.f.s.n64)
  have rg1 := ints_range (fun i hi => Nat.lt_of_lt_of_le (H0.out.bm.f.s.lt1 i hi) H0.out.bm.f.s.n64)
  have rgh := ints_range (l := c.s.heldL) (fun i hi => by
    unfold Sh.heldL at hi
    have := List.mem_range.1 (List.mem_filter.1 hi).1
    have := H0.out.bm.f.s.n64
    omega)
  have B0 := Lib.hid (fun (w' : World) (o : Only none_ w1 w') => blocks_any v0 (ints c.s.l0) w' ((H0.out.still o1).still o) ((Reads.of_owns q0).still o) (by rw [ints_len]; exact l0) rg0)
  have B1 := Lib.hid (fun (w' : World) (o : Only none_ w1 w') => blocks_any v1 (ints c.s.l1) w' ((H0.out.still o1).still o) ((Reads.of_owns q1).still o) (by rw [ints_len]; exact l1) rg1)
  have B2 := Lib.hid (fun (w' : World) (o : Only none_ w1 w') => blocks_any v2 (ints c.s.heldL) w' ((H0.out.still o1).still o) ((Reads.of_owns q2).still o) (by rw [ints_len]; exact lh) rgh)
  rw [map_l0 H0.out] at B0
  rw [map_l1 H0.out] at B1
  have M2 := Lib.hid (map_held H0.out)
  have ML := Lib.hid (show ((ints c.s.heldL).map (blockI ss)).length ≤ 64 from by rw [List.length_map, ints_len]; exact lh)
  obtain ⟨a0, n0, k0, rfl⟩ := own_form q0
  obtain ⟨a1, n1, k1, rfl⟩ := own_form q1
  obtain ⟨a2, n2, k2, rfl⟩ := own_form q2
  obtain ⟨w2, hw2⟩ : ∃ w2, w2 = w1.alloc (.cells #[.slice a0 n0 k0, .slice a1 n1 k1, .slice a2 n2 k2, .int .i64 c.want, .int .u64 c.miss, .int .u64 c.hits] 49) := ⟨_, rfl⟩
  have o2 : Only none_ w1 w2 := by rw [hw2]; exact (Only.refl none_ w1).alloc _
  have R2 := Lib.hid (show Row w2 w1.heap.size 49 #[.slice a0 n0 k0, .slice a1 n1 k1, .slice a2 n2 k2, .int .i64 c.want, .int .u64 c.miss, .int .u64 c.hits] from by rw [hw2]; exact Row.fresh w1 _ _)
  have O1 := Lib.hid (O0.out.same o1)
  have O01 := Lib.hid o1
  have O2 := Lib.hid o2
  have z1 : w0.heap.size ≤ w1.heap.size := o1.size
  have e0 : w2.cell? ⟨w1.heap.size, 0, none⟩ = some (.slice a0 n0 k0) := R2.out.cell 0
  have e1 : w2.cell? ⟨w1.heap.size, 1, none⟩ = some (.slice a1 n1 k1) := R2.out.cell 1
  have z2 : w1.heap.size < w2.heap.size := R2.out.lt
  clear q0 q1 q2 bl o1 o2 l0 l1 lh rg0 rg1 rgh
  unfold polV
  go_upto_region 4 with fail
  rw [← hw2]
  clear hw2
  obtain ⟨pb, hpb⟩ : ∃ pb, w1.heap.size = pb := ⟨_, rfl⟩
  rw [hpb] at R2 e0 e1 z2 z1 ⊢
  have iA := fun w => ix_a a0 a1 n0 k0 n1 k1 w
  have iB := fun w => ix_b a0 a1 n0 k0 n1 k1 w
  go_wp2_with fail
  go_loopw [4, 5, 18] (fun _ _ i wr => ∃ (k : Nat) (b0 b1 : Option Addr) (m0 m1 j0 j1 : Nat), k ≤ 2 ∧ i = .int .i64 k ∧ Row wr pb 49 #[.slice b0 m0 j0, .slice b1 m1 j1, .slice a2 n2 k2, .int .i64 c.want, .int .u64 c.miss, .int .u64 c.hits] ∧
      (1 ≤ k → OwnsInts wr (pb + 1) (.slice b0 m0 j0) m.ca.l0) ∧ (2 ≤ k → OwnsInts wr (pb + 1) (.slice b1 m1 j1) m.ca.l1) ∧ Only none_ w1 wr ∧ w2.heap.size ≤ wr.heap.size) (fun _ _ i _ => 2 - (intOf i).toNat)
  case atStart => exact ⟨0, a0, a1, n0, n1, k0, k1, by decide, rfl, R2.out, fun h => by omega, fun h => by omega, O2.out, Nat.le_refl _⟩
  case round =>
    obtain ⟨k, b0, b1, m0, m1, j0, j1, hk, rfl, hrow, u0, u1, ho, hz⟩ := hrel
    have RW := Lib.hid hrow
    have U0 := Lib.hid u0
    have U1 := Lib.hid u1
    have OW := Lib.hid ho
    have zf := hrow.frozen
    have zl := hrow.lt
    have p0 : wr.cell? ⟨pb, 0, none⟩ = some (.slice b0 m0 j0) := hrow.cell 0
    have p1 : wr.cell? ⟨pb, 1, none⟩ = some (.slice b1 m1 j1) := hrow.cell 1
    clear hrow u0 u1 ho
    have kc : k = 0 ∨ k = 1 ∨ k = 2 := by omega
    rcases kc with rfl | rfl | rfl
    · have C0 := Lib.hid (B0.out wr OW.out)
      go_wp2_with fail
      (with_reducible refine C0.out.mono ?_)
      rintro E w5 ⟨g5, j5, rfl, q5, o5⟩
      have r5 := o5.still RW.out
      have zf5 := r5.frozen
      have zl5 := r5.lt
      have d0 : w5.cell? ⟨pb, 0, none⟩ = some (.slice b0 m0 j0) := r5.cell 0
      have OP := (Only.refl (fun g => g = pb) w5).into rfl 0 (.slice (some ⟨g5, 0, none⟩) (ints c.s.l0).length j5)
      have Q5 := Lib.hid (Owns.lower (show OwnsInts (w5.setCell ⟨pb, 0, none⟩ (.slice (some ⟨g5, 0, none⟩) (ints c.s.l0).length j5)) wr.heap.size (.slice (some ⟨g5, 0, none⟩) (ints c.s.l0).length j5) m.ca.l0 from q5.keep OP (fun g hg z => by have := (q5.base_le hg).1; omega)) (show pb + 1 ≤ wr.heap.size by omega))
      have R5 := Lib.hid (show Row (w5.setCell ⟨pb, 0, none⟩ (.slice (some ⟨g5, 0, none⟩) (ints c.s.l0).length j5)) pb 49 #[.slice (some ⟨g5, 0, none⟩) (ints c.s.l0).length j5, .slice b1 m1 j1, .slice a2 n2 k2, .int .i64 c.want, .int .u64 c.miss, .int .u64 c.hits] from r5.put 0 (.slice (some ⟨g5, 0, none⟩) (ints c.s.l0).length j5))
      have O5 := Lib.hid ((OW.out.same o5).new (b := pb) (by omega) 0 (.slice (some ⟨g5, 0, none⟩) (ints c.s.l0).length j5))
      have S5 := Lib.hid (show w2.heap.size ≤ (w5.setCell ⟨pb, 0, none⟩ (.slice (some ⟨g5, 0, none⟩) (ints c.s.l0).length j5)).heap.size from by have := o5.size; simp; omega)
      clear q5 o5 r5 OP
      go_wp2_with fail
      go_roundw
      case rel => exact ⟨1, _, _, _, _, _, _, by decide, by go_num, R5.out, fun _ => Q5.out, fun h => by omega, O5.out, S5.out⟩
      case measure => simp [intOf]
    · have C0 := Lib.hid (B1.out wr OW.out)
      go_wp2_with fail
      (with_reducible refine C0.out.mono ?_)
      rintro E w5 ⟨g5, j5, rfl, q5, o5⟩
      have r5 := o5.still RW.out
      have zf5 := r5.frozen
      have zl5 := r5.lt
      have d0 : w5.cell? ⟨pb, 1, none⟩ = some (.slice b1 m1 j1) := r5.cell 1
      have OP := (Only.refl (fun g => g = pb) w5).into rfl 1 (.slice (some ⟨g5, 0, none⟩) (ints c.s.l1).length j5)
      have Q5 := Lib.hid (Owns.lower (show OwnsInts (w5.setCell ⟨pb, 1, none⟩ (.slice (some ⟨g5, 0, none⟩) (ints c.s.l1).length j5)) wr.heap.size (.slice (some ⟨g5, 0, none⟩) (ints c.s.l1).length j5) m.ca.l1 from q5.keep OP (fun g hg z => by have := (q5.base_le hg).1; omega)) (show pb + 1 ≤ wr.heap.size by omega))
      have u0 := U0.out (Nat.le_refl _)
      have Q6 := Lib.hid (show OwnsInts (w5.setCell ⟨pb, 1, none⟩ (.slice (some ⟨g5, 0, none⟩) (ints c.s.l1).length j5)) (pb + 1) (.slice b0 m0 j0) m.ca.l0 from (u0.still o5).keep OP (fun g hg z => by have := (u0.base_le hg).1; omega))
      have R5 := Lib.hid (show Row (w5.setCell ⟨pb, 1, none⟩ (.slice (some ⟨g5, 0, none⟩) (ints c.s.l1).length j5)) pb 49 #[.slice b0 m0 j0, .slice (some ⟨g5, 0, none⟩) (ints c.s.l1).length j5, .slice a2 n2 k2, .int .i64 c.want, .int .u64 c.miss, .int .u64 c.hits] from r5.put 1 (.slice (some ⟨g5, 0, none⟩) (ints c.s.l1).length j5))
      have O5 := Lib.hid ((OW.out.same o5).new (b := pb) (by omega) 1 (.slice (some ⟨g5, 0, none⟩) (ints c.s.l1).length j5))
      have S5 := Lib.hid (show w2.heap.size ≤ (w5.setCell ⟨pb, 1, none⟩ (.slice (some ⟨g5, 0, none⟩) (ints c.s.l1).length j5)).heap.size from by have := o5.size; simp; omega)
      clear q5 o5 r5 OP u0
      go_wp2_with fail
      go_roundw
      case rel => exact ⟨2, _, _, _, _, _, _, by decide, by go_num, R5.out, fun _ => Q6.out, fun _ => Q5.out, O5.out, S5.out⟩
      case measure => simp [intOf]
    · have C0 := Lib.hid (B2.out wr OW.out)
      have V0 := U0.out (by decide)
      have V1 := U1.out (by decide)
      have E0 := Lib.hid (own_len V0)
      have E1 := Lib.hid (own_len V1)
      have V0 := Lib.hid V0
      have V1 := Lib.hid V1
      have p2 : wr.cell? ⟨pb, 2, none⟩ = some (.slice a2 n2 k2) := RW.out.cell 2
      go_wp2_with fail
      (with_reducible refine C0.out.mono ?_)
      rintro E w5 ⟨g5, j5, rfl, q5, o5⟩
      have r5 := o5.still RW.out
      have zf5 := r5.frozen
      have zl5 := r5.lt
      have d0 : w5.cell? ⟨pb, 2, none⟩ = some (.slice a2 n2 k2) := r5.cell 2
      obtain ⟨w6, hw6⟩ : ∃ w6, w6 = w5.setCell ⟨pb, 2, none⟩ (.slice (some ⟨g5, 0, none⟩) (ints c.s.heldL).length j5) := ⟨_, rfl⟩
      have o6 : Only (fun g => g = pb) w5 w6 := by rw [hw6]; exact (Only.refl (fun g => g = pb) w5).into rfl 2 _
      have r6 : Row w6 pb 49 #[.slice b0 m0 j0, .slice b1 m1 j1, .slice (some ⟨g5, 0, none⟩) (ints c.s.heldL).length j5, .int .i64 c.want, .int .u64 c.miss, .int .u64 c.hits] := by rw [hw6]; exact r5.put 2 (.slice (some ⟨g5, 0, none⟩) (ints c.s.heldL).length j5)
      have q6 := q5.keep o6 (fun g hg z => by have := (q5.base_le hg).1; omega)
      have v0 := (V0.out.still o5).keep o6 (fun g hg z => by have := (V0.out.base_le hg).1; omega)
      have v1 := (V1.out.still o5).keep o6 (fun g hg z => by have := (V1.out.base_le hg).1; omega)
      have gb := q6.base_le (show Value.ownBlock (.slice (some ⟨g5, 0, none⟩) (ints c.s.heldL).length j5) = some g5 from rfl)
      have lm : (ints c.s.heldL).length = ((ints c.s.heldL).map (blockI ss)).length := by rw [List.length_map]
      have SO := sort_own w6 wr.heap.size g5 j5 _ (by rw [← lm]; exact q6) (by have := ML.out; omega)
      rw [← lm, M2.out] at SO
      have lh2 : (ints c.s.heldL).length = m.ca.h.length := by rw [lm, ← M2.out, List.length_mergeSort]
      have LH := Lib.hid lh2
      clear lh2
      have O6 := Lib.hid (show Only none_ w1 w6 from by rw [hw6]; exact (OW.out.same o5).new (b := pb) (by omega) 2 _)
      have SO := Lib.hid SO
      have R6 := Lib.hid r6
      have V06 := Lib.hid v0
      have V16 := Lib.hid v1
      have GB := Lib.hid gb
      have d2 : w6.cell? ⟨pb, 2, none⟩ = some (.slice (some ⟨g5, 0, none⟩) (ints c.s.heldL).length j5) := r6.cell 2
      clear o6 r6 q6 v0 v1 gb r5 q5 o5 lm
      go_upto_region 10 with fail
      rw [← hw6]
      clear hw6 zf5 zl5 d0
      go_wp2_with fail
      (with_reducible refine SO.out.mono ?_)
      rintro E w7 ⟨rfl, q7, o7⟩
      have rr7 := o7.row ((O01.out.same O6.out).still R0.out) (fun z => by have := GB.out.1; omega)
      have r7 := o7.row R6.out (fun z => by have := GB.out.1; omega)
      have v07 := V06.out.keep o7 (fun g hg z => by have := (V0.out.base_le hg).2; have := GB.out.1; omega)
      have v17 := V16.out.keep o7 (fun g hg z => by have := (V1.out.base_le hg).2; have := GB.out.1; omega)
      have O7 := Lib.hid ((O1.out.same O6.out).trans o7 (fun i hi z => by have := GB.out.1; have := O1.out.size; omega))
      have s0 : w7.cell? ⟨pb, 0, none⟩ = some (.slice b0 m0 j0) := r7.cell 0
      have s1 : w7.cell? ⟨pb, 1, none⟩ = some (.slice b1 m1 j1) := r7.cell 1
      have s2 : w7.cell? ⟨pb, 2, none⟩ = some (.slice (some ⟨g5, 0, none⟩) (ints c.s.heldL).length j5) := r7.cell 2
      have s3 : w7.cell? ⟨pb, 3, none⟩ = some (.int .i64 c.want) := r7.cell 3
      have s4 : w7.cell? ⟨pb, 4, none⟩ = some (.int .u64 c.miss) := r7.cell 4
      have s5 : w7.cell? ⟨pb, 5, none⟩ = some (.int .u64 c.hits) := r7.cell 5
      have t0 := rr7.frozen
      have t1 := rr7.lt
      have y0 : w7.cell? ⟨r, 0, none⟩ = some (.slice none 0 0) := rr7.cell 0
      have y1 : w7.cell? ⟨r, 1, none⟩ = some (.slice none 0 0) := rr7.cell 1
      have y2 : w7.cell? ⟨r, 2, none⟩ = some (.slice none 0 0) := rr7.cell 2
      have y3 : w7.cell? ⟨r, 3, none⟩ = some (.int .i64 0) := rr7.cell 3
      have y4 : w7.cell? ⟨r, 4, none⟩ = some (.int .u64 0) := rr7.cell 4
      have y5 : w7.cell? ⟨r, 5, none⟩ = some (.int .u64 0) := rr7.cell 5
      obtain ⟨w8, hw8⟩ : ∃ w8, w8 = (((((w7.setCell ⟨r, 0, none⟩ (.slice b0 m0 j0)).setCell ⟨r, 1, none⟩ (.slice b1 m1 j1)).setCell ⟨r, 2, none⟩ (.slice (some ⟨g5, 0, none⟩) (ints c.s.heldL).length j5)).setCell ⟨r, 3, none⟩ (.int .i64 c.want)).setCell ⟨r, 4, none⟩ (.int .u64 c.miss)).setCell ⟨r, 5, none⟩ (.int .u64 c.hits) := ⟨_, rfl⟩
      have R8 := Lib.hid (show Row w8 r 49 #[.slice b0 m0 j0, .slice b1 m1 j1, .slice (some ⟨g5, 0, none⟩) (ints c.s.heldL).length j5, .int .i64 c.want, .int .u64 c.miss, .int .u64 c.hits] from by rw [hw8]; exact ((((((rr7.put 0 (.slice b0 m0 j0)).put 1 (.slice b1 m1 j1)).put 2 (.slice (some ⟨g5, 0, none⟩) (ints c.s.heldL).length j5)).put 3 (.int .i64 c.want)).put 4 (.int .u64 c.miss)).put 5 (.int .u64 c.hits)))
      have o8 : Only (fun g => g = r) w7 w8 := by rw [hw8]; exact (((((((Only.refl (fun g => g = r) w7).into rfl 0 (.slice b0 m0 j0)).into rfl 1 (.slice b1 m1 j1)).into rfl 2 (.slice (some ⟨g5, 0, none⟩) (ints c.s.heldL).length j5)).into rfl 3 (.int .i64 c.want)).into rfl 4 (.int .u64 c.miss)).into rfl 5 (.int .u64 c.hits))
      have O8 := Lib.hid (show Only none_ w w8 from by rw [hw8]; exact ((((((O7.out.new (b := r) (Nat.le_of_eq hr) 0 (.slice b0 m0 j0)).new (b := r) (Nat.le_of_eq hr) 1 (.slice b1 m1 j1)).new (b := r) (Nat.le_of_eq hr) 2 (.slice (some ⟨g5, 0, none⟩) (ints c.s.heldL).length j5)).new (b := r) (Nat.le_of_eq hr) 3 (.int .i64 c.want)).new (b := r) (Nat.le_of_eq hr) 4 (.int .u64 c.miss)).new (b := r) (Nat.le_of_eq hr) 5 (.int .u64 c.hits)))
      have zr : r ≤ pb := by omega
      have F0 := Lib.hid (Owns.lower (v07.keep o8 (fun g hg z => by have := (v07.base_le hg).1; omega)) (show r ≤ pb + 1 by omega))
      have F1 := Lib.hid (Owns.lower (v17.keep o8 (fun g hg z => by have := (v17.base_le hg).1; omega)) (show r ≤ pb + 1 by omega))
      have F2 := Lib.hid (Owns.lower (q7.keep o8 (fun g hg z => by have := (q7.base_le hg).1; omega)) (show r ≤ wr.heap.size by omega))
      have BB := Lib.hid H0.out.bm.bl
      clear rr7 r7 v07 v17 q7 o7 o8
      have EM0 := Lib.hid (show m0 = m.ca.l0.length from by obtain ⟨_, _, e⟩ := E0.out; injection e)
      have EM1 := Lib.hid (show m1 = m.ca.l1.length from by obtain ⟨_, _, e⟩ := E1.out; injection e)
      clear E0 E1
      go_wp2_with fail
      rw [← hw8]
      have x0 := R8.out.cell 0
      have x1 := R8.out.cell 1
      have x2 := R8.out.cell 2
      have x3 := R8.out.cell 3
      have x4 := R8.out.cell 4
      have x5 := R8.out.cell 5
      refine bodyPost_ret (v := .agg #[.slice b0 m0 j0, .slice b1 m1 j1, .slice (some ⟨g5, 0, none⟩) (ints c.s.heldL).length j5, .int .i64 c.want, .int .u64 c.miss, .int .u64 c.hits]) (by simp [results, Tryz.results16, go_sem, x0, x1, x2, x3, x4, x5]) rfl ?_
      have f0 := F0.out
      have f1 := F1.out
      have f2 := F2.out
      rw [EM0.out] at f0 ⊢
      rw [EM1.out] at f1 ⊢
      rw [LH.out] at f2 ⊢
      rw [← BB.out.want, ← BB.out.miss, ← BB.out.hits]
      rw [← hr] at f0 f1 f2
      exact ⟨b0, j0, b1, j1, _, j5, rfl, f0, f1, f2, O8.out⟩
end
end
theorem policy19_any (p : Nat) (K : Nat → Nat) (L : Nat) (s : Option Mo) (w : World) (h : CM w p K L s) :
    Calls Tryz.prog 16 #[.pointer (some ⟨p, 0, none⟩)] w (ToldP (caO s) w) := by
  cases s with
  | none => exact policy19_none p K L w h
  | some m =>
    obtain ⟨X, ss, c, h⟩ := h
    exact policy19_some w h
end Go.Proofs.YtlfnncahhbbmpaaGreatDoor

namespace Go.Proofs.YtlfnncahhbbmpaaGreatDoor
open Go.RowKit Go.Maps
set_option linter.unusedVariables false
set_option maxRecDepth 100000
theorem new19_no (o : Opt) (w : World) (hb : Bd w) (hm : o.mayB = false) :
    Calls Tryz.prog 9 #[o.val] w fun E w' => E = .returned (.tuple #[.pointer none, .int .i64 1]) ∧ Only none_ w w' := by
  obtain ⟨wa, hwa⟩ : ∃ wa, wa = w.alloc (.cells o.cells 23) := ⟨_, rfl⟩
  have oa : Only none_ w wa := by rw [hwa]; exact (Only.refl none_ w).alloc _
  have ra : Row wa w.heap.size 23 o.cells := by rw [hwa]; exact Row.fresh _ _ _
  have OM := opt_may o wa (hb.still oa)
  rw [hm] at OM
  have OM := Lib.hid OM
  have OA := Lib.hid oa
  have RA := Lib.hid ra
  clear oa ra hb
  unfold Opt.val Opt.cells at *
  go_enter Tryz.func9, Tryz.ntmps9
  go_upto_region 1 with fail
  rw [← hwa]
  clear hwa
  go_wp2_with (first | (refine wpList_load_row rfl 23 _ rfl w.heap.size rfl 23 _ (0, 0) _ RA.out Tryz.underlying23 rfl info_opt ?_) | fail)
  (with_reducible refine OM.out.mono ?_)
  rintro E w1 ⟨rfl, o1⟩
  have O1 := Lib.hid (OA.out.same o1)
  clear o1
  go_wp2_with fail
  exact bodyPost_ret (v := .tuple #[.pointer none, .int .i64 1]) (by simp [results, Tryz.results9, go_sem]) rfl ⟨rfl, O1.out⟩
/-- a model that was made behind a world -/
def MadeM (o : Opt) (w : World) (p : Nat) (w' : World) : Prop := (∃ K, CM w' p K 0 (some (newMo o)) ∧ ∀ g, K g ≠ 0 → w.heap.size ≤ g) ∧ Only none_ w w'
open Classical in
/-- colours of the blocks of a model that is new -/
noncomputable def newK (p : Nat) (X : Loc19) (M : Nat → Prop) : Nat → Nat := fun g => if g = p then 1 else if g = X.P ∨ g = X.pp ∨ g = X.b then 2 else if M g then 3 else if g = X.bm then 4 else 0
set_option maxHeartbeats 2000000 in
theorem new19_yes (o : Opt) (w : World) (hb : Bd w) (hm : o.mayB = true) :
    Calls Tryz.prog 9 #[o.val] w fun E w' => ∃ p, E = .returned (.tuple #[.pointer (some ⟨p, 0, none⟩), .int .i64 0]) ∧ MadeM o w p w' := by
  obtain ⟨wa, hwa⟩ : ∃ wa, wa = w.alloc (.cells o.cells 23) := ⟨_, rfl⟩
  have oa : Only none_ w wa := by rw [hwa]; exact (Only.refl none_ w).alloc _
  have ra : Row wa w.heap.size 23 o.cells := by rw [hwa]; exact Row.fresh _ _ _
  have OM := opt_may o wa (hb.still oa)
  rw [hm, if_pos rfl] at OM
  obtain ⟨n1, n2, n3, n4, n5, n6, n7, n8⟩ := Opt.nums hm
  have ok := Opt.cf_ok hm
  have SN := Lib.hid (fun w' => snew_yes o.b1.toNat o.b2.toNat w' n1 n2 n3)
  have TN := Lib.hid (fun w' => new10_yes o.cf w' ok)
  have e10 : ((o.cf.most : Nat) : Int) = o.b10 := by have := ok.m1; unfold Opt.cf at *; dsimp only at *; omega
  have e11 : ((o.cf.size : Nat) : Int) = o.b11 := by have := ok.s1; unfold Opt.cf at *; dsimp only at *; omega
  have e12 : ((o.cf.life : Nat) : Int) = o.b12 := by have := ok.l1; unfold Opt.cf at *; dsimp only at *; omega
  have e13 : ((o.cf.deg : Nat) : Int) = o.b13 := by have := ok.d1; unfold Opt.cf at *; dsimp only at *; omega
  rw [n4, n5] at SN
  rw [e10, e11, e12, e13, n6] at TN
  have FN := Lib.hid (newMo_fine hm)
  have BN := Lib.hid (Bm.new n1 n2 n3)
  have OM := Lib.hid OM
  have OA := Lib.hid oa
  have RA := Lib.hid ra
  clear oa ra hb n1 n2 n3 n4 n5 n6 n7 n8 ok e10 e11 e12 e13 hm
  unfold Opt.val Opt.cells at *
  go_enter Tryz.func9, Tryz.ntmps9
  go_upto_region 1 with fail
  rw [← hwa]
  clear hwa
  generalize hx : w.heap.size = xa at *
  go_wp2_with (first | (refine wpList_load_row rfl 23 _ rfl xa rfl 23 _ (0, 0) _ RA.out Tryz.underlying23 rfl info_opt ?_) | fail)
  (with_reducible refine OM.out.mono ?_)
  rintro E w1 ⟨rfl, o1⟩
  have O1 := Lib.hid (OA.out.same o1)
  have R1 := Lib.hid (o1.still RA.out)
  have a1 : w1.cell? ⟨xa, 1, none⟩ = some (.int .i64 o.b1) := R1.out.cell 1
  have a2 : w1.cell? ⟨xa, 2, none⟩ = some (.int .i64 o.b2) := R1.out.cell 2
  clear o1 RA OM
  go_wp2_with fail
  (with_reducible refine (SN.out _).mono ?_)
  rintro E w2 ⟨P, pp, b, rfl, sl, lP, lpp, lb, o2⟩
  have O2 := Lib.hid (O1.out.same o2)
  have R2 := Lib.hid (o2.still R1.out)
  have SL := Lib.hid sl
  have zs := O1.out.size
  have LL := Lib.hid (show xa ≤ P ∧ xa ≤ pp ∧ xa ≤ b from by omega)
  have c0 : w2.cell? ⟨xa, 0, none⟩ = some (.int .i64 o.b0) := R2.out.cell 0
  have c10 : w2.cell? ⟨xa, 10, none⟩ = some (.int .i64 o.b10) := R2.out.cell 10
  have c11 : w2.cell? ⟨xa, 11, none⟩ = some (.int .i64 o.b11) := R2.out.cell 11
  have c12 : w2.cell? ⟨xa, 12, none⟩ = some (.int .i64 o.b12) := R2.out.cell 12
  have c13 : w2.cell? ⟨xa, 13, none⟩ = some (.int .i64 o.b13) := R2.out.cell 13
  clear o2 a1 a2 zs lP lpp lb sl
  go_wp2_with fail
  (with_reducible refine (TN.out _).mono ?_)
  rintro E w3 ⟨q, rfl, ⟨M, st, lm⟩, o3⟩
  have O3 := Lib.hid (O2.out.same o3)
  have R3 := Lib.hid (o3.still R2.out)
  have SL3 := Lib.hid (SL.out.still o3)
  have ST := Lib.hid st
  have LM := Lib.hid lm
  have hmm := @run_makeMap Tryz.prog
  clear o3 st lm c0 c10 c11 c12 c13
  go_wp2_with (first | (refine wpList_load_row rfl 23 _ rfl xa rfl 23 _ (0, 0) _ R3.out Tryz.underlying23 rfl info_opt ?_) | fail)
  refine bodyPost_ret (v := .tuple #[.pointer (some ⟨w3.heap.size + 1, 0, none⟩), .int .i64 0]) (by simp [results, Tryz.results9, go_sem]) rfl ?_
  have om := (Only.refl none_ w3).alloc (.map #[] 0)
  have mm := Mg.made w3
  obtain ⟨w4, hw4⟩ : ∃ w4, w4 = w3.alloc (.map #[] 0) := ⟨_, rfl⟩
  rw [← hw4] at om mm ⊢
  have z4 : w4.heap.size = w3.heap.size + 1 := by rw [hw4]; simp
  obtain ⟨w5, hw5⟩ : ∃ w5, w5 = w4.alloc (.cells #[.int .i64 o.b0, .int .i64 o.b1, .int .i64 o.b2, .int .i64 o.b3, .int .i64 o.b4, .int .i64 o.b5, .int .i64 o.b6, .int .i64 o.b7, .int .i64 o.b8, .int .i64 o.b9, .int .i64 o.b10, .int .i64 o.b11, .int .i64 o.b12, .int .i64 o.b13, ptr19 P, ptr19 q, .map (some w3.heap.size), .int .i64 0, .int .i64 0, .int .i64 0, .bool false] 70) := ⟨_, rfl⟩
  have oc : Only none_ w4 w5 := by rw [hw5]; exact (Only.refl none_ w4).alloc _
  have rc : Row w5 (w3.heap.size + 1) 70 (mcells o (ptr19 P) (ptr19 q) (.map (some w3.heap.size)) ⟨0, 0, 0⟩ false) := by rw [hw5]; exact fresh_at19 w4 70 #[.int .i64 o.b0, .int .i64 o.b1, .int .i64 o.b2, .int .i64 o.b3, .int .i64 o.b4, .int .i64 o.b5, .int .i64 o.b6, .int .i64 o.b7, .int .i64 o.b8, .int .i64 o.b9, .int .i64 o.b10, .int .i64 o.b11, .int .i64 o.b12, .int .i64 o.b13, ptr19 P, ptr19 q, .map (some w3.heap.size), .int .i64 0, .int .i64 0, .int .i64 0, .bool false] (w3.heap.size + 1) z4.symm
  have zc : w5.heap.size = w3.heap.size + 2 := by rw [hw5]; simp [z4]
  rw [← hw5]
  clear hw5
  have o45 := om.same oc
  have lt := SL3.out.raw.lt
  have l2 := SL.out.raw.lt
  have pq := ST.out.lt
  have zz := O1.out.size
  have nP : ∀ g, (g = P ∨ g = pp ∨ g = b) → ¬ M g := fun g hg k => by
    have := LM.out g k
    rcases hg with rfl | rfl | rfl <;> omega
  have sq : M q := by
    obtain ⟨p', b', L', v', s⟩ := ST.out
    exact s.mq
  have kk : ∀ g, newK (w3.heap.size + 1) ⟨P, pp, b, q, w3.heap.size⟩ M g ≠ 0 → g = w3.heap.size + 1 ∨ (g = P ∨ g = pp ∨ g = b) ∨ M g ∨ g = w3.heap.size := fun g hg => by
    unfold newK at hg
    split at hg
    · exact .inl ‹_›
    · split at hg
      · exact .inr (.inl ‹_›)
      · split at hg
        · exact .inr (.inr (.inl ‹_›))
        · split at hg
          · exact .inr (.inr (.inr ‹_›))
          · exact absurd rfl hg
  have O5 : Only none_ w w5 := O3.out.same o45
  have fin : MA w5 (w3.heap.size + 1) (newK (w3.heap.size + 1) ⟨P, pp, b, q, w3.heap.size⟩ M) ⟨P, pp, b, q, w3.heap.size⟩ [] (newSc o.b1.toNat o.b2.toNat) 0 (newMo o) := by
    have c2 : ∀ g, (g = P ∨ g = pp ∨ g = b) → newK (w3.heap.size + 1) ⟨P, pp, b, q, w3.heap.size⟩ M g = 2 := fun g hg => by
      unfold newK
      rw [if_neg (by rcases hg with rfl | rfl | rfl <;> omega), if_pos hg]
    have c3 : (fun g => newK (w3.heap.size + 1) ⟨P, pp, b, q, w3.heap.size⟩ M g = 3) = M := by
      funext g
      unfold newK
      by_cases k : M g
      · have := pq g k
        rw [if_neg (by omega), if_neg (fun e => nP g e k), if_pos k]
        exact propext ⟨fun _ => k, fun _ => rfl⟩
      · refine propext ⟨fun e => ?_, fun e => absurd e k⟩
        split at e
        · cases e
        · split at e
          · cases e
          · split at e <;> cases e
    refine { row := rc, pol := SL3.out.still o45, trk := ?_, mg := mm.still oc, bm := BN.out, fine := FN.out, kp := by unfold newK; rw [if_pos rfl], kP := c2 P (.inl rfl), kpp := c2 pp (.inr (.inl rfl)), kb := c2 b (.inr (.inr rfl)), kbm := ?_, lt := fun g hg => ?_ }
    · rw [c3]
      exact ST.out.still o45
    · unfold newK
      rw [if_neg (by dsimp only; omega), if_neg (by dsimp only; omega), if_neg (fun k => by have := pq _ k; dsimp only at this; omega), if_pos rfl]
    · rw [zc]
      rcases kk g hg with k | k | k | k
      · omega
      · rcases k with rfl | rfl | rfl <;> omega
      · have := pq g k; omega
      · omega
  refine ⟨w3.heap.size + 1, rfl, ⟨newK (w3.heap.size + 1) ⟨P, pp, b, q, w3.heap.size⟩ M, ⟨_, _, _, fin⟩, fun g hg => ?_⟩, O5⟩
  · rw [hx]
    have := O2.out.size
    have := O3.out.size
    have l0 := LL.out
    rcases kk g hg with k | k | k | k
    · omega
    · rcases k with rfl | rfl | rfl <;> omega
    · have := LM.out g k; omega
    · omega
end Go.Proofs.YtlfnncahhbbmpaaGreatDoor

namespace Go.Proofs.YtlfnncahhbbmpaaGreatDoor
open Go.RowKit Go.Maps
set_option linter.unusedVariables false
set_option maxRecDepth 100000
/-- a model (or a broken one) made behind world w1, at which nothing of before has turned -/
structure LM (w1 wr : World) (p : Nat) (K : Nat → Nat) (L : Nat) (s : Option Mo) : Prop where
  cm : CM wr p K L s
  old : ∀ g, K g ≠ 0 → w1.heap.size ≤ g
  only : Only none_ w1 wr
section
variable {w1 wr w' : World} {p : Nat} {K : Nat → Nat} {L : Nat} {s : Option Mo}
theorem LM.still (h : LM w1 wr p K L s) (o : Only none_ wr w') : LM w1 w' p K L s := ⟨h.cm.still o, h.old, h.only.same o⟩
theorem LM.keep (h : LM w1 wr p K L s) {S : Nat → Prop} (o : Only S wr w') (hn : ∀ g, K g ≠ 0 → ¬ S g) (ho : ∀ g, S g → w1.heap.size ≤ g) : LM w1 w' p K L s :=
  ⟨h.cm.keep o hn, h.old, h.only.trans o (fun i hi k => by have := ho i k; omega)⟩
theorem LM.zero (h : LM w1 wr p K L s) {g : Nat} (hg : wr.heap.size ≤ g) : K g = 0 := Classical.byContradiction fun q => by have := h.cm.lt g q; omega
theorem LM.low (h : LM w1 wr p K L s) {g : Nat} (hg : g < w1.heap.size) : K g = 0 := Classical.byContradiction fun q => by have := h.old g q; omega
theorem CM.up {wr : World} {p : Nat} {K : Nat → Nat} {L L' : Nat} {s : Option Mo} (h : CM wr p K L s) (k : L ≤ L') : CM wr p K L' s := by
  cases s with
  | none => exact h
  | some m =>
    obtain ⟨X, ss, c, h⟩ := h
    exact ⟨X, ss, c, h.up k⟩
theorem LM.up (h : LM w1 wr p K L s) {L' : Nat} (k : L ≤ L') : LM w1 wr p K L' s := ⟨h.cm.up k, h.old, h.only⟩
/-- behind a step -/
def LMto (w1 wr : World) (p : Nat) (K : Nat → Nat) (L : Nat) (s : Option Mo) (w' : World) : Prop := ∃ K', LM w1 w' p K' L s ∧ Gn wr K K' ∧ Only (fun g => K g ≠ 0) wr w'
theorem Gn.kept {K' : Nat → Nat} (h : Gn wr K K') {g : Nat} (hg : g < wr.heap.size) (hk : K g = 0) : K' g = 0 := Classical.byContradiction fun q => by
  rcases h g q with k | k
  · exact k hk
  · omega
theorem lm_step (e : Evn) (hk : (Lit.int .i64 e.k).wf = true) (h : LM w1 wr p K L s) (hL : L ≤ 900) :
    Calls Tryz.prog 12 #[.pointer (some ⟨p, 0, none⟩), .agg #[.int .i64 e.k, .int .i64 e.b, .int .i64 e.l, .int .i64 e.n, .int .i64 e.s]] wr fun E w' => E = .returned (.int .i64 (codeO (stepO s e))) ∧ LMto w1 wr p K (L + 1) (stepO s e) w' := by
  refine (step_any p K L s e hk wr h.cm hL).mono ?_
  rintro E w' ⟨he, ⟨K', c, g⟩, o⟩
  refine ⟨he, K', ⟨c, fun b hb => ?_, h.only.trans o (fun i hi k => by have := h.old i k; omega)⟩, g, o⟩
  rcases g b hb with k | k
  · exact h.old b k
  · exact Nat.le_trans h.only.size k
theorem lm_stepc (e : Evn) (hk : (Lit.int .i64 e.k).wf = true) {s' : Option Mo} {c : Int} (hs : stepO s e = s') (hc : codeO s' = c) (h : LM w1 wr p K L s) (hL : L ≤ 900) :
    Calls Tryz.prog 12 #[.pointer (some ⟨p, 0, none⟩), .agg #[.int .i64 e.k, .int .i64 e.b, .int .i64 e.l, .int .i64 e.n, .int .i64 e.s]] wr fun E w' => E = .returned (.int .i64 c) ∧ LMto w1 wr p K (L + 1) s' w' := by
  subst hs
  subst hc
  exact lm_step e hk h hL
theorem lm_new (o : Opt) (w : World) (hb : Bd w) (hm : o.mayB = true) :
    Calls Tryz.prog 9 #[o.val] w fun E w' => ∃ p K, E = .returned (.tuple #[.pointer (some ⟨p, 0, none⟩), .int .i64 0]) ∧ LM w w' p K 0 (some (newMo o)) := by
  refine (new19_yes o w hb hm).mono ?_
  rintro E w' ⟨p, he, ⟨K, c, g⟩, oo⟩
  exact ⟨p, K, he, c, g, oo⟩
theorem lm_policy (h : LM w1 wr p K L s) : Calls Tryz.prog 16 #[.pointer (some ⟨p, 0, none⟩)] wr (ToldP (caO s) wr) := policy19_any p K L s wr h.cm
theorem lm_broken (h : LM w1 wr p K L s) : Calls Tryz.prog 14 #[.pointer (some ⟨p, 0, none⟩)] wr fun E w' => E = .returned (.bool s.isNone) ∧ wr = w' := broken_any p K L s wr h.cm
theorem lm_streams (h : LM w1 wr p K L s) : Calls Tryz.prog 17 #[.pointer (some ⟨p, 0, none⟩)] wr (Told10 (ssO s) wr) := streams19_any p K L s wr h.cm
end
theorem own_cases19 {w : World} {base : Nat} {v : Value} {xs : List Int} (h : OwnsInts w base v xs) : (v = .slice none 0 0 ∧ xs = []) ∨ ∃ g cap, v = .slice (some ⟨g, 0, none⟩) xs.length cap ∧ base ≤ g ∧ g < w.heap.size ∧ ∀ (j : Nat) (x : Int), xs[j]? = some x → w.cell? ⟨g, j, none⟩ = some (.int .i64 x) := by
  rcases h.2 with ⟨h0, h1⟩ | ⟨g, cap, cur, hv, hg, hh, _⟩
  · exact .inl ⟨h0, List.eq_nil_of_length_eq_zero h1⟩
  · refine .inr ⟨g, cap, hv, hg, (Array.getElem?_eq_some_iff.1 hh).1, fun j x hx => ?_⟩
    rw [hv] at h
    have := Owns.cell h one1 hx (j := 0) (by decide)
    simpa [one] using this
theorem lt_of_cell19 {w : World} {p : Addr} {v : Value} (h : w.cell? p = some v) : p.block < w.heap.size := by
  rcases Nat.lt_or_ge p.block w.heap.size with z | z
  · exact z
  · simp [World.cell?, Array.getElem?_eq_none z] at h
/-- what is apart from a model stays as it is -/
theorem LMto.row {w1 wr w' : World} {p : Nat} {K K' : Nat → Nat} (o : Only (fun g => K g ≠ 0) wr w') (g' : Gn wr K K') {g : Nat} {t : TypeId} {cs : Array Value} (r : Row wr g t cs) (z : K g = 0) : Row w' g t cs ∧ K' g = 0 :=
  ⟨o.row r (fun k => k z), g'.kept r.lt z⟩
theorem LMto.cell {w1 wr w' : World} {p : Nat} {K K' : Nat → Nat} (o : Only (fun g => K g ≠ 0) wr w') (g' : Gn wr K K') {a : Addr} {v : Value} (r : wr.cell? a = some v) (z : K a.block = 0) : w'.cell? a = some v ∧ K' a.block = 0 :=
  ⟨o.cell r (fun k => k z), g'.kept (lt_of_cell19 r) z⟩
/-- the models of awake -/
def aw0 : Option Mo := some (newMo (usual 20))
def aw1 : Option Mo := stepO aw0 ⟨4, 5, 1, 0, 0⟩
def aw2 : Option Mo := stepO aw1 ⟨5, 5, 0, 0, 0⟩
def aw3 : Option Mo := stepO aw2 ⟨6, 5, 0, 0, 0⟩
def aw4 : Option Mo := stepO aw3 ⟨6, 5, 0, 0, 0⟩
def aw5 : Option Mo := stepO aw4 ⟨3, 0, 0, 0, 0⟩
theorem aw_1 : codeO aw1 = 0 := by kernel_rfl
theorem aw_2 : codeO aw2 = 0 := by kernel_rfl
theorem aw_3 : codeO aw3 = 0 := by kernel_rfl
theorem aw_4 : codeO aw4 = 9 := by kernel_rfl
theorem aw_5 : codeO aw5 = 9 := by kernel_rfl
theorem aw_3b : aw3.isNone = false := by kernel_rfl
theorem aw_5b : aw5.isNone = true := by kernel_rfl
theorem aw_p : (caO aw1).l1 = [5] := by kernel_rfl
theorem aw_h : (caO aw1).h = [5] := by kernel_rfl
end Go.Proofs.YtlfnncahhbbmpaaGreatDoor

namespace Go.Proofs.YtlfnncahhbbmpaaGreatDoor
open Go.RowKit Go.Maps
set_option linter.unusedVariables false
set_option maxRecDepth 100000
theorem nought_no : nought.mayB = false := by kernel_rfl
set_option maxHeartbeats 4000000 in
theorem awake19_any (w : World) (hb : Bd w) : Calls Tryz.prog 8 #[] w fun E w' => E = .returned (.bool true) ∧ Only none_ w w' := by
  have US := rusual_any 20 w
  unfold usual Opt.val at US
  dsimp only at US
  have US := Lib.hid US
  have HB := Lib.hid hb
  clear hb
  go_enter Tryz.func8, Tryz.ntmps8
  go_wp2_with fail
  (with_reducible refine US.out.mono ?_)
  rintro E w1 ⟨rfl, o1⟩
  obtain ⟨wa, hwa⟩ : ∃ wa, wa = w1.alloc (.cells (usual 20).cells 23) := ⟨_, rfl⟩
  have O1 := Lib.hid (show Only none_ w wa from by rw [hwa]; exact o1.alloc _)
  have RA := Lib.hid (show Row wa w1.heap.size 23 (usual 20).cells from by rw [hwa]; exact Row.fresh _ _ _)
  unfold usual Opt.cells at hwa
  clear o1 US
  go_upto_region 2 with fail
  rw [← hwa]
  clear hwa
  unfold usual Opt.cells at RA
  dsimp only at RA
  generalize w1.heap.size = xo at *
  have NW := lm_new (usual 20) wa (HB.out.still O1.out) (usual_may 20 (by decide) (by decide))
  unfold usual Opt.val at NW
  dsimp only at NW
  have NW := Lib.hid NW
  go_wp2_with (first | (refine wpList_load_row rfl 23 _ rfl xo rfl 23 _ (0, 0) _ RA.out Tryz.underlying23 rfl info_opt ?_) | fail)
  (with_reducible refine NW.out.mono ?_)
  rintro E w2 ⟨p, K, rfl, l2⟩
  have L2 := Lib.hid (show LM wa w2 p K 0 aw0 from l2)
  have O2 := Lib.hid (O1.out.same l2.only)
  clear l2 NW
  have NN := new19_no nought w2 (HB.out.still O2.out) nought_no
  unfold nought Opt.val at NN
  dsimp only at NN
  have NN := Lib.hid NN
  go_wp2_with fail
  (with_reducible refine NN.out.mono ?_)
  rintro E w3 ⟨rfl, o3⟩
  have L3 := Lib.hid (L2.out.still o3)
  clear o3 NN L2 O2 HB
  have S1 := Lib.hid (lm_stepc ⟨4, 5, 1, 0, 0⟩ (by decide) (show stepO aw0 ⟨4, 5, 1, 0, 0⟩ = aw1 from rfl) aw_1 L3.out (by decide))
  go_wp2_with fail
  (with_reducible refine S1.out.mono ?_)
  rintro E w4 ⟨rfl, K4, l4, _, _⟩
  have L4 := Lib.hid l4
  have PO := Lib.hid (lm_policy l4)
  clear l4 S1 L3
  go_wp2_with fail
  (with_reducible refine PO.out.mono ?_)
  rintro E w5 ⟨a0, c0, a1, c1, a2, c2, rfl, q0, q1, q2, o5⟩
  rw [aw_p] at q1
  rw [aw_h] at q2
  have L5 := Lib.hid (L4.out.still o5)
  rcases own_cases19 q1 with ⟨_, e⟩ | ⟨g1, cap1, hv, hg, _, hc⟩
  · cases e
  injection hv with hv1 hv2 hv3
  subst hv1
  subst hv3
  have hc := hc 0 5 rfl
  clear hv2
  have Q1 := Lib.hid q1
  have Q2 := Lib.hid q2
  have Z4 := Lib.hid (fun g (hg : w4.heap.size ≤ g) => L4.out.zero hg)
  have o5s := o5.size
  clear q0 q1 q2 PO
  rw [aw_p, aw_h]
  generalize (caO aw1).l0.length = n0 at *
  generalize (caO aw1).want = wn at *
  generalize (caO aw1).miss = ms at *
  generalize (caO aw1).hits = hs at *
  simp only [List.length_cons, List.length_nil, Nat.zero_add]
  obtain ⟨w6, hw6⟩ : ∃ w6, w6 = w5.alloc (.cells #[.slice a0 n0 c0, .slice (some ⟨g1, 0, none⟩) 1 c1, .slice a2 1 c2, .int .i64 wn, .int .u64 ms, .int .u64 hs] 49) := ⟨_, rfl⟩
  have o6 : Only none_ w5 w6 := by rw [hw6]; exact (Only.refl none_ w5).alloc _
  have R6 := Lib.hid (show Row w6 w5.heap.size 49 #[.slice a0 n0 c0, .slice (some ⟨g1, 0, none⟩) 1 c1, .slice a2 1 c2, .int .i64 wn, .int .u64 ms, .int .u64 hs] from by rw [hw6]; exact Row.fresh _ _ _)
  have L6 := Lib.hid (L5.out.still o6)
  have zg : K4 g1 = 0 := Z4.out g1 hg
  have zp : K4 w5.heap.size = 0 := Z4.out w5.heap.size o5s
  have CG := Lib.hid (show w6.cell? ⟨g1, 0, none⟩ = some (.int .i64 5) from o6.cell hc (fun s => s))
  have RP := R6
  have ZP := Lib.hid zp
  have ZG := Lib.hid (show K4 (Addr.mk g1 0 none).block = 0 from zg)
  have LL := L6
  clear zg zp R6 L6 L5 Q1 Q2 Z4 o5 o5s o6 hc hg
  go_upto_region 8 with fail
  rw [← hw6]
  clear hw6
  generalize w5.heap.size = xq at *
  have S := Lib.hid (lm_stepc ⟨5, 5, 0, 0, 0⟩ (by decide) (show stepO aw1 ⟨5, 5, 0, 0, 0⟩ = aw2 from rfl) aw_2 LL.out (by decide))
  go_wp2_with fail
  (with_reducible refine S.out.mono ?_)
  rintro E w7 ⟨rfl, K7, l, g', o⟩
  obtain ⟨r, z⟩ := LMto.row (w1 := wa) (p := p) o g' RP.out ZP.out
  obtain ⟨c, y⟩ := LMto.cell (w1 := wa) (p := p) o g' CG.out ZG.out
  clear LL RP ZP CG ZG S
  have LL := Lib.hid l
  have RP := Lib.hid r
  have ZP := Lib.hid z
  have CG := Lib.hid c
  have ZG := Lib.hid y
  clear l r z c y o g'
  have S := Lib.hid (lm_stepc ⟨6, 5, 0, 0, 0⟩ (by decide) (show stepO aw2 ⟨6, 5, 0, 0, 0⟩ = aw3 from rfl) aw_3 LL.out (by decide))
  go_wp2_with fail
  (with_reducible refine S.out.mono ?_)
  rintro E w8 ⟨rfl, K8, l, g', o⟩
  obtain ⟨r, z⟩ := LMto.row (w1 := wa) (p := p) o g' RP.out ZP.out
  obtain ⟨c, y⟩ := LMto.cell (w1 := wa) (p := p) o g' CG.out ZG.out
  clear LL RP ZP CG ZG S
  have LL := Lib.hid l
  have RP := Lib.hid r
  have ZP := Lib.hid z
  have CG := Lib.hid c
  have ZG := Lib.hid y
  clear l r z c y o g'
  have BK := lm_broken LL.out
  rw [aw_3b] at BK
  have BK := Lib.hid BK
  go_wp2_with fail
  (with_reducible refine BK.out.mono ?_)
  rintro E w' ⟨rfl, rfl⟩
  clear BK
  have S := Lib.hid (lm_stepc ⟨6, 5, 0, 0, 0⟩ (by decide) (show stepO aw3 ⟨6, 5, 0, 0, 0⟩ = aw4 from rfl) aw_4 LL.out (by decide))
  go_wp2_with fail
  (with_reducible refine S.out.mono ?_)
  rintro E w9 ⟨rfl, K9, l, g', o⟩
  obtain ⟨r, z⟩ := LMto.row (w1 := wa) (p := p) o g' RP.out ZP.out
  obtain ⟨c, y⟩ := LMto.cell (w1 := wa) (p := p) o g' CG.out ZG.out
  clear LL RP ZP CG ZG S
  have LL := Lib.hid l
  have RP := Lib.hid r
  have ZP := Lib.hid z
  have CG := Lib.hid c
  have ZG := Lib.hid y
  clear l r z c y o g'
  have S := Lib.hid (lm_stepc ⟨3, 0, 0, 0, 0⟩ (by decide) (show stepO aw4 ⟨3, 0, 0, 0, 0⟩ = aw5 from rfl) aw_5 LL.out (by decide))
  go_wp2_with fail
  (with_reducible refine S.out.mono ?_)
  rintro E w10 ⟨rfl, K10, l, g', o⟩
  obtain ⟨r, z⟩ := LMto.row (w1 := wa) (p := p) o g' RP.out ZP.out
  obtain ⟨c, y⟩ := LMto.cell (w1 := wa) (p := p) o g' CG.out ZG.out
  clear LL RP ZP CG ZG S
  have LL := Lib.hid l
  have RP := Lib.hid r
  have ZP := Lib.hid z
  have CG := Lib.hid c
  have ZG := Lib.hid y
  clear l r z c y o g'
  have BK := lm_broken LL.out
  rw [aw_5b] at BK
  have BK := Lib.hid BK
  have OF := Lib.hid (O1.out.same LL.out.only)
  have p1 : w10.cell? ⟨xq, 1, none⟩ = some (.slice (some ⟨g1, 0, none⟩) 1 c1) := RP.out.cell 1
  have p2 : w10.cell? ⟨xq, 2, none⟩ = some (.slice a2 1 c2) := RP.out.cell 2
  have pg := CG.out
  clear LL RP ZP CG ZG
  go_wp2_with fail
  (with_reducible refine BK.out.mono ?_)
  rintro E w' ⟨rfl, rfl⟩
  go_wp2_with fail
  go_ret
  exact ⟨rfl, OF.out⟩
end Go.Proofs.YtlfnncahhbbmpaaGreatDoor

namespace Go.Proofs.YtlfnncahhbbmpaaGreatDoor
open Go.RowKit Go.ChangeShapes Go.WideShapes Go.Deep
set_option linter.unusedVariables false
set_option maxRecDepth 100000
theorem cellsOpt : Tryz.prog.cellsOf 23 = 14 := by kernel_rfl
set_option maxRecDepth 100000 in
theorem open_opt (W : World) (base : Nat) (H : Type) (enc : TypeId × Value → H) (v : Value) (d : DataW H) (p : List MemPlace) (o : Value.okWide Tryz.prog W .any base 23 v) (h : DataW.Trod enc Tryz.prog W 0 (fun _ => true) true 23 v d p) :
    ∃ f : Opt, v = f.val ∧ True := by
  simp only [Value.okWide, Tryz.underlying23] at o
  obtain ⟨cs, rfl, hsz, _⟩ := o
  rw [cellsOpt] at hsz
  obtain ⟨fuel, hf⟩ := h
  simp only [Value.cells] at hf
  obtain ⟨hl, m, hx⟩ := open_fields Tryz.underlying23 (by kernel_rfl) cellsOpt hf
  obtain ⟨v0, y0, e0, t0⟩ := hx 0 _ rfl
  obtain ⟨a0, q0, _, w0⟩ := DataW.trod_int Tryz.underlying3 t0
  obtain ⟨v1, y1, e1, t1⟩ := hx 1 _ rfl
  obtain ⟨a1, q1, _, w1⟩ := DataW.trod_int Tryz.underlying3 t1
  obtain ⟨v2, y2, e2, t2⟩ := hx 2 _ rfl
  obtain ⟨a2, q2, _, w2⟩ := DataW.trod_int Tryz.underlying3 t2
  obtain ⟨v3, y3, e3, t3⟩ := hx 3 _ rfl
  obtain ⟨a3, q3, _, w3⟩ := DataW.trod_int Tryz.underlying3 t3
  obtain ⟨v4, y4, e4, t4⟩ := hx 4 _ rfl
  obtain ⟨a4, q4, _, w4⟩ := DataW.trod_int Tryz.underlying3 t4
  obtain ⟨v5, y5, e5, t5⟩ := hx 5 _ rfl
  obtain ⟨a5, q5, _, w5⟩ := DataW.trod_int Tryz.underlying3 t5
  obtain ⟨v6, y6, e6, t6⟩ := hx 6 _ rfl
  obtain ⟨a6, q6, _, w6⟩ := DataW.trod_int Tryz.underlying3 t6
  obtain ⟨v7, y7, e7, t7⟩ := hx 7 _ rfl
  obtain ⟨a7, q7, _, w7⟩ := DataW.trod_int Tryz.underlying3 t7
  obtain ⟨v8, y8, e8, t8⟩ := hx 8 _ rfl
  obtain ⟨a8, q8, _, w8⟩ := DataW.trod_int Tryz.underlying3 t8
  obtain ⟨v9, y9, e9, t9⟩ := hx 9 _ rfl
  obtain ⟨a9, q9, _, w9⟩ := DataW.trod_int Tryz.underlying3 t9
  obtain ⟨v10, y10, e10, t10⟩ := hx 10 _ rfl
  obtain ⟨a10, q10, _, w10⟩ := DataW.trod_int Tryz.underlying3 t10
  obtain ⟨v11, y11, e11, t11⟩ := hx 11 _ rfl
  obtain ⟨a11, q11, _, w11⟩ := DataW.trod_int Tryz.underlying3 t11
  obtain ⟨v12, y12, e12, t12⟩ := hx 12 _ rfl
  obtain ⟨a12, q12, _, w12⟩ := DataW.trod_int Tryz.underlying3 t12
  obtain ⟨v13, y13, e13, t13⟩ := hx 13 _ rfl
  obtain ⟨a13, q13, _, w13⟩ := DataW.trod_int Tryz.underlying3 t13
  simp only [List.cons.injEq, and_true] at q0 q1 q2 q3 q4 q5 q6 q7 q8 q9 q10 q11 q12 q13
  subst q0 q1 q2 q3 q4 q5 q6 q7 q8 q9 q10 q11 q12 q13
  have hcs : cs = Opt.cells ⟨a0, a1, a2, a3, a4, a5, a6, a7, a8, a9, a10, a11, a12, a13⟩ := by
    apply Array.toList_inj.1
    apply List.ext_getElem?
    intro j
    match j with
    | 0 => exact e0
    | 1 => exact e1
    | 2 => exact e2
    | 3 => exact e3
    | 4 => exact e4
    | 5 => exact e5
    | 6 => exact e6
    | 7 => exact e7
    | 8 => exact e8
    | 9 => exact e9
    | 10 => exact e10
    | 11 => exact e11
    | 12 => exact e12
    | 13 => exact e13
    | j + 14 => rw [List.getElem?_eq_none (by rw [hl]; show 14 ≤ j + 14; omega), List.getElem?_eq_none (by show 14 ≤ j + 14; omega)]
  subst hcs
  exact ⟨⟨a0, a1, a2, a3, a4, a5, a6, a7, a8, a9, a10, a11, a12, a13⟩, rfl, trivial⟩
theorem cellsI19 : Tryz.prog.cellsOf 3 = 1 := by kernel_rfl
theorem cellsEv : Tryz.prog.cellsOf 35 = 5 := by kernel_rfl
/-- what holds of an event that came in -/
def Evn.Wf (x : Evn) : Prop := (Lit.int .i64 x.k).wf = true
theorem open_evs {H : Type} {enc : TypeId × Value → H} {W : World} {fuel : Nat} {A : Option Addr} {len cap : Nat} {x : DataW H × List MemPlace} (h : DataW.trod enc Tryz.prog W 0 (fun _ => true) true fuel 24 [.slice A len cap] = some x) :
    len ≤ maxLen ∧ ∃ xs : List Evn, xs.length = len ∧ Holds W A 5 Evn.cells xs ∧ ∀ a ∈ xs, a.Wf := by
  refine open_rows (c := Evn.cells) (wf := Evn.Wf) Tryz.underlying24 cellsEv (by decide) (fun _ => rfl) ?_ h
  intro n cs x hx
  obtain ⟨ys, m, e1, e2, hlen, hyl, hf⟩ := DataW.trod_struct Tryz.underlying35 hx
  have h0 := hf 0 _ rfl
  have h1 := hf 1 _ rfl
  have h2 := hf 2 _ rfl
  have h3 := hf 3 _ rfl
  have h4 := hf 4 _ rfl
  change DataW.trod enc Tryz.prog W 0 (fun _ => true) true m 3 (List.take (Tryz.prog.cellsOf 3) (List.drop 0 cs)) = _ at h0
  change DataW.trod enc Tryz.prog W 0 (fun _ => true) true m 3 (List.take (Tryz.prog.cellsOf 3) (List.drop 1 cs)) = _ at h1
  change DataW.trod enc Tryz.prog W 0 (fun _ => true) true m 3 (List.take (Tryz.prog.cellsOf 3) (List.drop 2 cs)) = _ at h2
  change DataW.trod enc Tryz.prog W 0 (fun _ => true) true m 3 (List.take (Tryz.prog.cellsOf 3) (List.drop 3 cs)) = _ at h3
  change DataW.trod enc Tryz.prog W 0 (fun _ => true) true m 3 (List.take (Tryz.prog.cellsOf 3) (List.drop 4 cs)) = _ at h4
  rw [cellsI19] at h0 h1 h2 h3 h4
  rw [cellsEv] at hlen
  have hy5 : ys.length = 5 := hyl
  match cs, hlen, ys, hy5 with
  | [c0, c1, c2, c3, c4], _, [y0, y1, y2, y3, y4], _ =>
    obtain ⟨a0, q0, _, w0⟩ := DataW.trod_int Tryz.underlying3 h0
    obtain ⟨a1, q1, _, w1⟩ := DataW.trod_int Tryz.underlying3 h1
    obtain ⟨a2, q2, _, w2⟩ := DataW.trod_int Tryz.underlying3 h2
    obtain ⟨a3, q3, _, w3⟩ := DataW.trod_int Tryz.underlying3 h3
    obtain ⟨a4, q4, _, w4⟩ := DataW.trod_int Tryz.underlying3 h4
    simp only [List.drop_zero, List.take_succ_cons, List.take_zero, List.drop_succ_cons, List.cons.injEq, and_true] at q0 q1 q2 q3 q4
    subst q0 q1 q2 q3 q4
    exact ⟨⟨a0, a1, a2, a3, a4⟩, rfl, w0⟩
theorem ev_at {w w' : World} {A : Option Addr} {xs : List Evn} (h : Holds w A 5 Evn.cells xs) (o : Only none_ w w') {i : Nat} {a : Evn} (hi : xs[i]? = some a) :
    ∃ b o, A = some ⟨b, o, none⟩ ∧ b < w.heap.size ∧ w'.cell? ⟨b, o + i * 5, none⟩ = some (.int .i64 a.k) ∧ w'.cell? ⟨b, o + i * 5 + 1, none⟩ = some (.int .i64 a.b) ∧ w'.cell? ⟨b, o + i * 5 + 2, none⟩ = some (.int .i64 a.l) ∧ w'.cell? ⟨b, o + i * 5 + 3, none⟩ = some (.int .i64 a.n) ∧ w'.cell? ⟨b, o + i * 5 + 4, none⟩ = some (.int .i64 a.s) := by
  obtain ⟨b, of, e, hlt, hc⟩ := h i a hi
  have k := fun j v hj => o.cell (hc j v hj) (fun s => s)
  exact ⟨b, of, e, hlt, k 0 _ rfl, k 1 _ rfl, k 2 _ rfl, k 3 _ rfl, k 4 _ rfl⟩
def byteC (x : Int) : List Value := [.int .u8 x]
theorem cellsB19 : Tryz.prog.cellsOf 5 = 1 := by kernel_rfl
theorem open_bytes {H : Type} {enc : TypeId × Value → H} {W : World} {fuel : Nat} {A : Option Addr} {len cap : Nat} {x : DataW H × List MemPlace} (h : DataW.trod enc Tryz.prog W 0 (fun _ => true) true fuel 56 [.slice A len cap] = some x) :
    len ≤ maxLen ∧ ∃ xs : List Int, xs.length = len ∧ Holds W A 1 byteC xs ∧ ∀ a ∈ xs, (0 ≤ a ∧ a ≤ 255) := by
  refine open_rows (c := byteC) (wf := fun a => 0 ≤ a ∧ a ≤ 255) Tryz.underlying56 cellsB19 (by decide) (fun _ => rfl) ?_ h
  intro n cs x hx
  obtain ⟨a0, q0, _, w0⟩ := DataW.trod_int Tryz.underlying5 hx
  exact ⟨a0, q0, bd_u8 w0⟩
theorem byte_at {w w' : World} {A : Option Addr} {xs : List Int} (h : Holds w A 1 byteC xs) (hb : Below w.heap.size w w') {i : Nat} {a : Int} (hi : xs[i]? = some a) :
    ∃ b o, A = some ⟨b, o, none⟩ ∧ b < w.heap.size ∧ w'.cell? ⟨b, o + i, none⟩ = some (.int .u8 a) := by
  obtain ⟨b, o, e, hlt, hc⟩ := h.at_ hb hi
  refine ⟨b, o, e, hlt, ?_⟩
  have := hc 0 _ rfl
  rwa [Nat.mul_one, Nat.add_zero] at this
end Go.Proofs.YtlfnncahhbbmpaaGreatDoor
