/- What the document's own pool answers, on: Doom, Fill, Take, Count, Pins. -/
import Derived.Test.YtllbdkjbcadeoaaPoolR
namespace Go.Proofs.Ytllbdkjbcadeoaa
open Go.RowKit
set_option linter.unusedVariables false

theorem refDoom (p b : Nat) (fs : List Fr) (i : Int) (w : World) (h : RefIs w p b fs) (hF : Fine 1000000 fs) :
    Calls Try.prog 29 #[.pointer (some ⟨p, 0, none⟩), .int .i64 i] w fun e w' => e = .returned (.int .i64 (doomS fs i).1) ∧ RefIs w' p b (doomS fs i).2 ∧ Only (fun k => k = b) w w' := by
  have c := h.hd
  have few := h.few
  unfold doomS
  cases hf : at? fs i with
  | none =>
    have H := Lib.hid h
    rcases at_none hf with k | k
    · have k' : decide (i < 0) = true := by simpa using k
      clear h hF hf
      go_enter Try.func29, Try.ntmps29
      go_wp2
      go_ret
      exact ⟨rfl, H.out, Only.refl _ _⟩
    · by_cases k1 : i < 0
      · have k' : decide (i < 0) = true := by simpa using k1
        clear h hF hf k
        go_enter Try.func29, Try.ntmps29
        go_wp2
        go_ret
        exact ⟨rfl, H.out, Only.refl _ _⟩
      · have k' : decide (i < 0) = false := by simpa using k1
        clear h hF hf
        go_enter Try.func29, Try.ntmps29
        go_wp2
        go_ret
        exact ⟨rfl, H.out, Only.refl _ _⟩
  | some f =>
    obtain ⟨k, rfl, hk⟩ := at_some hf
    have ff := hF f (List.mem_of_getElem? hk)
    have p0 := ff.p0
    have s0 := ff.s0
    have s1 := ff.s1
    have lt := lt_of_get hk
    obtain ⟨c0, c1, c2, c3, c4⟩ := h.at_ hk
    have z := h.fz
    have H := Lib.hid h
    have HK := Lib.hid hk
    have k' : decide ((k : Int) < 0) = false := by simp
    simp only [Int.toNat_natCast]
    by_cases e0 : f.st = 0
    · have t : (f.st == 0) = true := by simpa using e0
      rw [if_neg (by rw [e0]; decide)]
      clear h hF hf ff hk e0
      go_enter Try.func29, Try.ntmps29
      go_wp2
      go_ret
      exact ⟨rfl, H.out, Only.refl _ _⟩
    · have t : (f.st == 0) = false := by simpa using e0
      by_cases e3 : f.st = 3
      · have t3 : (f.st == 3) = true := by simpa using e3
        rw [if_neg (by rw [e3]; decide)]
        clear h hF hf ff hk e0 e3
        go_enter Try.func29, Try.ntmps29
        go_wp2
        go_ret
        exact ⟨rfl, H.out, Only.refl _ _⟩
      · have t3 : (f.st == 3) = false := by simpa using e3
        rw [if_pos (by simp; omega)]
        by_cases u : f.pins = 0
        · have L := Lib.hid (refFree p b _ k f _ h hk)
          have U := Lib.hid (show f.doomed = f.freed by unfold Fr.doomed; rw [if_pos u])
          have u' : decide (0 < f.pins) = false := by simp; omega
          clear h hF hf ff hk e0 e3 u
          go_enter Try.func29, Try.ntmps29
          go_wp2_with fail
          (with_reducible refine (L.out).mono ?_)
          rintro e w1 ⟨rfl, h1, o1⟩
          have H3 := Lib.hid h1
          have O3 := Lib.hid o1
          clear h1 o1
          go_wp2_with fail
          go_ret
          exact ⟨rfl, by rw [U.out]; exact H3.out, O3.out⟩
        · have U := Lib.hid (show f.doomed = { f with st := 3 } by unfold Fr.doomed; rw [if_neg u])
          have u' : decide (0 < f.pins) = true := by simp; omega
          have H2 := H.out.set (j := 0) (v := .int .i64 3) (f' := { f with st := 3 }) HK.out (by decide) rfl
          have O2 := (Only.refl (fun k => k = b) w).into (b := b) rfl (k * 5 + 0) (.int .i64 3)
          simp only [Nat.add_zero] at H2 O2
          have H2 := Lib.hid H2
          have O2 := Lib.hid O2
          clear h hF hf ff hk e0 e3 u
          go_enter Try.func29, Try.ntmps29
          go_wp2_with fail
          go_ret
          exact ⟨rfl, by rw [U.out]; exact H2.out, O2.out⟩

theorem refFill (p b : Nat) (fs : List Fr) (i v : Int) (w : World) (h : RefIs w p b fs) :
    Calls Try.prog 26 #[.pointer (some ⟨p, 0, none⟩), .int .i64 i, .int .u64 v] w fun e w' => e = .returned (.int .i64 (fillS fs i v).1) ∧ RefIs w' p b (fillS fs i v).2 ∧ Only (fun k => k = b) w w' := by
  have c := h.hd
  have few := h.few
  unfold fillS
  cases hf : at? fs i with
  | none =>
    have H := Lib.hid h
    by_cases k1 : i < 0
    · have k' : decide (i < 0) = true := by simpa using k1
      clear h hf k1
      go_enter Try.func26, Try.ntmps26
      go_wp2
      go_ret
      exact ⟨rfl, H.out, Only.refl _ _⟩
    · have k' : decide (i < 0) = false := by simpa using k1
      have k2 : (fs.length : Int) ≤ i := by have := at_none hf; omega
      have k3 : 0 ≤ i := by omega
      clear h hf k1
      go_enter Try.func26, Try.ntmps26
      go_wp2
      go_ret
      exact ⟨rfl, H.out, Only.refl _ _⟩
  | some f =>
    obtain ⟨k, rfl, hk⟩ := at_some hf
    have lt := lt_of_get hk
    obtain ⟨c0, c1, c2, c3, c4⟩ := h.at_ hk
    have z := h.fz
    have ne := h.ne
    have H := Lib.hid h
    have HK := Lib.hid hk
    have k' : decide ((k : Int) < 0) = false := by simp
    simp only [Int.toNat_natCast]
    have h2 := h.set (j := 0) (v := .int .i64 2) (f' := { f with st := 2 }) hk (by decide) rfl
    have h3 := h2.set (j := 4) (v := .int .u64 v) (f' := { f with st := 2, val := v }) (get_set hk) (by decide) rfl
    rw [List.set_set] at h3
    have o3 := ((Only.refl (fun k => k = b) w).into (b := b) rfl (k * 5 + 0) (.int .i64 2)).into (b := b) rfl (k * 5 + 4) (.int .u64 v)
    simp only [Nat.add_zero] at h3 o3
    have H3 := Lib.hid h3
    have O3 := Lib.hid o3
    clear h h2 h3 o3
    by_cases e1 : f.st = 1
    · have t1 : (f.st != 1) = false := by simpa using e1
      rw [if_pos (by simp [e1])]
      clear hf hk e1
      go_enter Try.func26, Try.ntmps26
      go_wp2
      go_ret
      exact ⟨rfl, H3.out, O3.out⟩
    · have t1 : (f.st != 1) = true := by simpa using e1
      by_cases e2 : f.st = 2
      · have t2 : (f.st != 2) = false := by simpa using e2
        rw [if_pos (by simp [e2])]
        clear hf hk e1 e2
        go_enter Try.func26, Try.ntmps26
        go_wp2
        go_ret
        exact ⟨rfl, H3.out, O3.out⟩
      · have t2 : (f.st != 2) = true := by simpa using e2
        rw [if_neg (by simp [e1, e2])]
        clear hf hk e1 e2
        go_enter Try.func26, Try.ntmps26
        go_wp2
        go_ret
        exact ⟨rfl, H.out, Only.refl _ _⟩

set_option maxHeartbeats 1000000 in
theorem refTake_full (p b : Nat) (fs : List Fr) (n : Int) (w : World) (h : RefIs w p b fs) (hn : 0 ≤ n) (hl : least fs = fs.length) :
    Calls Try.prog 25 #[.pointer (some ⟨p, 0, none⟩), .int .i64 n] w fun e w' => e = .returned (.tuple #[.int .i64 0, .int .i64 2]) ∧ w = w' := by
  have c := h.hd
  have few := h.few
  have H := Lib.hid h
  have HL := Lib.hid hl
  have t : decide (n < 0) = false := by simpa using hn
  clear h hn hl
  go_enter Try.func25, Try.ntmps25
  go_wp2_with fail
  go_loop [6] (fun i => ∃ k : Nat, k ≤ fs.length ∧ i = .int .i64 k) (fun i => fs.length - (intOf i).toNat)
  case atStart => exact ⟨0, Nat.zero_le _, rfl⟩
  case round =>
    obtain ⟨k, hk, rfl⟩ := hrel
    by_cases hlt : k < fs.length
    · obtain ⟨f, hf⟩ : ∃ f, fs[k]? = some f := ⟨_, List.getElem?_eq_getElem hlt⟩
      obtain ⟨c0, c1, c2, c3, c4⟩ := H.out.at_ hf
      have hz := least_is fs k (by rw [HL.out]; exact hlt) f hf
      have t0 : (f.st == 0) = false := by simpa using hz
      clear hf hz hk
      go_wp2_with fail
      go_round
      case rel => exact ⟨k + 1, by omega, by go_num⟩
      case measure => simp [intOf]; omega
    · have e : k = fs.length := by omega
      subst e
      go_wp2_with fail
      go_ret2
      exact ⟨rfl, rfl⟩
set_option maxHeartbeats 1000000 in
theorem refTake_yes (p b : Nat) (fs : List Fr) (n : Int) (f : Fr) (w : World) (h : RefIs w p b fs) (hF : Fine 1000000 fs) (hn : 0 ≤ n) (hl : fs[least fs]? = some f) :
    Calls Try.prog 25 #[.pointer (some ⟨p, 0, none⟩), .int .i64 n] w fun e w' => e = .returned (.tuple #[.int .i64 (least fs), .int .i64 0]) ∧ RefIs w' p b (fs.set (least fs) ⟨1, n, f.gen + 1, 0, 0⟩) ∧ Only (fun k => k = b) w w' := by
  have c := h.hd
  have few := h.few
  have ff := hF f (List.mem_of_getElem? hl)
  have g0 := ff.g0
  have g1 := ff.g1
  have hz := least_free fs f hl
  obtain ⟨q1, q2, q3⟩ := ff.clean hz
  have h2 := h.set (j := 0) (v := .int .i64 1) (f' := { f with st := 1 }) hl (by decide) rfl
  have h3 := h2.set (j := 1) (v := .int .i64 n) (f' := { f with st := 1, blk := n }) (get_set hl) (by decide) rfl
  have h4 := h3.set (j := 2) (v := .int .i64 (f.gen + 1)) (f' := ⟨1, n, f.gen + 1, 0, 0⟩) (get_set (get_set hl)) (by decide) (by simp only [Fr.cells, q2, q3]; rfl)
  rw [List.set_set, List.set_set] at h4
  have o4 := (((Only.refl (fun k => k = b) w).into (b := b) rfl (least fs * 5 + 0) (.int .i64 1)).into (b := b) rfl (least fs * 5 + 1) (.int .i64 n)).into (b := b) rfl (least fs * 5 + 2) (.int .i64 (f.gen + 1))
  simp only [Nat.add_zero] at h4 o4
  have H4 := Lib.hid h4
  have O4 := Lib.hid o4
  have H := Lib.hid h
  have HL := Lib.hid hl
  have lt := lt_of_get hl
  have t : decide (n < 0) = false := by simpa using hn
  have t0 : (f.st == 0) = true := by simpa using hz
  have IS := Lib.hid (least_is fs)
  clear h hn hl hF ff hz q1 q2 q3 h2 h3 h4 o4
  generalize least fs = m at *
  go_enter Try.func25, Try.ntmps25
  go_wp2_with fail
  go_loop [6] (fun i => ∃ k : Nat, k ≤ m ∧ i = .int .i64 k) (fun i => fs.length - (intOf i).toNat)
  case atStart => exact ⟨0, Nat.zero_le _, rfl⟩
  case round =>
    obtain ⟨k, hk, rfl⟩ := hrel
    have hlt : k < fs.length := by omega
    by_cases hm : k < m
    · obtain ⟨f', hf⟩ : ∃ f, fs[k]? = some f := ⟨_, List.getElem?_eq_getElem hlt⟩
      obtain ⟨c0, c1, c2, c3, c4⟩ := H.out.at_ hf
      have hz := IS.out k hm f' hf
      have t0 : (f'.st == 0) = false := by simpa using hz
      clear hf hz hk
      go_wp2_with fail
      go_round
      case rel => exact ⟨k + 1, by omega, by go_num⟩
      case measure => simp [intOf]; omega
    · obtain rfl : k = m := by omega
      obtain ⟨c0, c1, c2, c3, c4⟩ := H.out.at_ HL.out
      have z := H.out.fz
      have ne := H.out.ne
      clear hk hm
      go_wp2_with fail
      go_ret2
      exact ⟨rfl, H4.out, O4.out⟩

theorem refTake (p b : Nat) (fs : List Fr) (n : Int) (w : World) (h : RefIs w p b fs) (hF : Fine 1000000 fs) :
    Calls Try.prog 25 #[.pointer (some ⟨p, 0, none⟩), .int .i64 n] w fun e w' => e = .returned (.tuple #[.int .i64 (takeS fs n).1, .int .i64 (takeS fs n).2.1]) ∧ RefIs w' p b (takeS fs n).2.2 ∧ Only (fun k => k = b) w w' := by
  unfold takeS
  by_cases hn : n < 0
  · have t : decide (n < 0) = true := by simpa using hn
    have H := Lib.hid h
    rw [if_pos hn]
    clear h hF hn
    go_enter Try.func25, Try.ntmps25
    go_wp2_with fail
    go_ret2
    exact ⟨rfl, H.out, Only.refl _ _⟩
  · rw [if_neg hn]
    cases hf : fs[least fs]? with
    | none =>
      have := List.getElem?_eq_none_iff.1 hf
      have := least_le fs
      refine (refTake_full p b fs n w h (by omega) (by omega)).mono ?_
      rintro e w' ⟨rfl, rfl⟩
      exact ⟨rfl, h, Only.refl _ _⟩
    | some f =>
      refine (refTake_yes p b fs n f w h hF (by omega) hf).mono ?_
      rintro e w' ⟨rfl, h', o⟩
      exact ⟨rfl, h', o⟩

set_option maxHeartbeats 2000000 in
theorem refCount (p b : Nat) (fs : List Fr) (w : World) (h : RefIs w p b fs) (hF : Fine 1000000 fs) :
    Calls Try.prog 13 #[.pointer (some ⟨p, 0, none⟩)] w fun e w' => e = .returned (.agg (counts fs)) ∧ Only none_ w w' := by
  have H := Lib.hid h
  have HF := Lib.hid hF
  have few := h.few
  clear h hF
  go_enter Try.func13, Try.ntmps13
  go_wp2_with fail
  go_loopw [4] (fun i wr => ∃ k : Nat, k ≤ fs.length ∧ i = .int .i64 k ∧ Only none_ w wr ∧ Row wr w.heap.size 34 (counts []) ∧ Row wr (w.heap.size + 1) 34 (counts (fs.take k))) (fun i _ => fs.length - (intOf i).toNat)
  case atStart => exact ⟨0, Nat.zero_le _, rfl, ((Only.refl _ _).alloc _).alloc _, (Row.fresh _ _ _).alloc _, by have := Row.fresh (w.alloc (.cells #[.int .i64 0, .int .i64 0, .int .i64 0, .int .i64 0] 34)) 34 #[.int .i64 0, .int .i64 0, .int .i64 0, .int .i64 0]; simp only [World.size_alloc] at this; exact this⟩
  case round =>
    obtain ⟨k, hk, rfl, o, r0, r⟩ := hrel
    have O := Lib.hid o
    have R0 := Lib.hid r0
    have R := Lib.hid r
    have c := (H.out.still o).hd
    clear o r r0
    by_cases hlt : k < fs.length
    · obtain ⟨f, hf⟩ : ∃ f, fs[k]? = some f := ⟨_, List.getElem?_eq_getElem hlt⟩
      have ff := HF.out f (List.mem_of_getElem? hf)
      obtain ⟨c0, c1, c2, c3, c4⟩ := (H.out.still O.out).at_ hf
      have z := R.out.frozen
      have hs : ∃ s : Nat, f.st = s ∧ s ≤ 3 := ⟨f.st.toNat, by have := ff.s0; omega, by have := ff.s1; omega⟩
      obtain ⟨s, hs, h3⟩ := hs
      have bd := cnt_le (fs.take k) s
      have bl : (fs.take k).length ≤ k := List.length_take_le _ _
      have d : wr.cell? ⟨w.heap.size + 1, s, none⟩ = some (.int .i64 (cnt (fs.take k) s)) := by
        rw [R.out.cell]
        unfold counts
        match s, h3 with
        | 0, _ => rfl
        | 1, _ => rfl
        | 2, _ => rfl
        | 3, _ => rfl
      have R1 := R.out.put s (.int .i64 ((cnt (fs.take k) s : Int) + 1))
      simp only [← counts_step hf s hs h3] at R1
      have R1 := Lib.hid R1
      rw [hs] at c0
      generalize cnt (fs.take k) s = m at *
      clear hf ff hs
      go_wp2_with fail
      go_roundw
      case rel => exact ⟨k + 1, by omega, by go_num, O.out.new (by omega) _ _, R0.out.far (p := ⟨w.heap.size + 1, s, none⟩) (by show w.heap.size ≠ w.heap.size + 1; omega) _, R1.out⟩
      case measure => simp [intOf]; omega
    · have e : k = fs.length := by omega
      have R1 := R.out
      rw [e, List.take_length] at R1
      have R1 := Lib.hid R1
      have d0 := R1.out.cell 0
      have d1 := R1.out.cell 1
      have d2 := R1.out.cell 2
      have d3 := R1.out.cell 3
      have z := R0.out.frozen
      have e0 := R0.out.cell 0
      have e1 := R0.out.cell 1
      have e2 := R0.out.cell 2
      have e3 := R0.out.cell 3
      simp only [counts, List.getElem?_toArray, List.getElem?_cons_zero, List.getElem?_cons_succ] at d0 d1 d2 d3 e0 e1 e2 e3
      clear e
      have hlt' : fs.length ≤ k := by omega
      go_wp2_with fail
      refine bodyPost_ret (v := .agg (counts fs)) (by simp [results, Try.results13, go_sem, counts, e0, e1, e2, e3]) rfl ⟨rfl, ?_⟩
      iterate 4 refine Only.new ?_ (Nat.le_refl _) _ _
      exact O.out

set_option maxHeartbeats 2000000 in
theorem refPins (p b : Nat) (fs : List Fr) (w : World) (h : RefIs w p b fs) (hF : Fine 1000000 fs) :
    Calls Try.prog 15 #[.pointer (some ⟨p, 0, none⟩)] w fun e w' => e = .returned (.int .i64 (pinned fs)) ∧ w = w' := by
  have H := Lib.hid h
  have HF := Lib.hid hF
  have few := h.few
  have c := h.hd
  clear h hF
  go_enter Try.func15, Try.ntmps15
  go_wp2_with fail
  go_loop [3, 4] (fun s i => ∃ k : Nat, k ≤ fs.length ∧ i = .int .i64 k ∧ s = .int .i64 (pinned (fs.take k))) (fun _ i => fs.length - (intOf i).toNat)
  case atStart => exact ⟨0, Nat.zero_le _, rfl, rfl⟩
  case round =>
    obtain ⟨k, hk, rfl, rfl⟩ := hrel
    by_cases hlt : k < fs.length
    · obtain ⟨f, hf⟩ : ∃ f, fs[k]? = some f := ⟨_, List.getElem?_eq_getElem hlt⟩
      have ff := HF.out f (List.mem_of_getElem? hf)
      obtain ⟨c0, c1, c2, c3, c4⟩ := H.out.at_ hf
      obtain ⟨b1, b2⟩ := pinned_le (HF.out.take k)
      have bl : (fs.take k).length ≤ k := List.length_take_le _ _
      have b3 : pinned (fs.take k) ≤ 64000000 := by omega
      have f1 := ff.p0
      have f2 := ff.p1
      have E1 := Lib.hid (pinned_more hf)
      generalize pinned (fs.take k) = m at *
      generalize f.pins = pp at *
      clear hf ff b2
      go_wp2_with fail
      go_round
      case rel => exact ⟨k + 1, by omega, by go_num, by rw [E1.out]⟩
      case measure => simp [intOf]; omega
    · have e : k = fs.length := by omega
      have E1 := Lib.hid (show pinned (fs.take k) = pinned fs by rw [e, List.take_length])
      have hlt' : fs.length ≤ k := by omega
      clear e
      generalize pinned (fs.take k) = m at *
      go_wp2_with fail
      go_ret
      exact ⟨ret_int E1.out, rfl⟩
end Go.Proofs.Ytllbdkjbcadeoaa
