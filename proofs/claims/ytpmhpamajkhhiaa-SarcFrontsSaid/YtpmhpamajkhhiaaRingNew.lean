/- What package ring's New answers. -/
import Derived.Test.YtpmhpamajkhhiaaRingC
namespace Go.Proofs.Ytpmhpamajkhhiaa
open Go.RowKit
set_option linter.unusedVariables false

/-- the nodes when k rounds are over -/
def part (m k : Nat) : List Nd := (List.range m).map (fun i => if i < k then ⟨-1, false, i, i⟩ else ⟨0, false, 0, 0⟩)
theorem part_len (m k : Nat) : (part m k).length = m := by simp [part]
theorem part_zero (m : Nat) : part m 0 = List.replicate m ⟨0, false, 0, 0⟩ := by
  unfold part
  apply List.ext_getElem?
  intro i
  simp [List.getElem?_replicate]
  by_cases h : i < m <;> simp [h]
theorem part_all (m : Nat) : part m m = fresh m := by
  unfold part fresh
  apply List.map_congr_left
  intro i hi
  rw [if_pos (List.mem_range.1 hi)]
theorem part_more {m k : Nat} (h : k < m) : (part m k).set k ⟨-1, false, k, k⟩ = part m (k + 1) := by
  unfold part
  apply List.ext_getElem?
  intro i
  rw [List.getElem?_set]
  by_cases c : k = i
  · subst c
    simp [h]
  · rw [if_neg c]
    by_cases d : i < m
    · simp only [List.getElem?_map, List.getElem?_range d, Option.map_some]
      have : i < k + 1 ↔ i < k := by omega
      simp only [this]
    · simp [d]
theorem part_at {m k i : Nat} (h : i < m) : (part m k)[i]? = some (if i < k then ⟨-1, false, i, i⟩ else ⟨0, false, 0, 0⟩) := by
  unfold part
  simp [h]
theorem info_node_ : (Try.prog.info? 87).map (fun i => (i.zero, i.size, i.bytes)) = some (some (.agg #[.int .i64 0, .bool false, .int .i64 0, .int .i64 0]), 4, 32) := by kernel_rfl

def MakesSh (n bot : Nat) (w : World) (e : Ending) (w' : World) : Prop := ∃ p b, e = .returned (.tuple #[.pointer (some ⟨p, 0, none⟩), .int .i64 0]) ∧ Lies w' p b (newSh n bot) ∧ w.heap.size ≤ p ∧ w.heap.size ≤ b ∧ Only none_ w w'

theorem row_node {w : World} {b : Nat} {ns : List Nd} {i : Nat} {f : Nd} (h : Row w b 87 (flat Nd.cells ns)) (hf : ns[i]? = some f) :
    w.cell? ⟨b, i * 4, none⟩ = some (.int .i64 f.lst) ∧ w.cell? ⟨b, i * 4 + 1, none⟩ = some (.bool f.held) ∧ w.cell? ⟨b, i * 4 + 2, none⟩ = some (.int .i64 f.ahead) ∧ w.cell? ⟨b, i * 4 + 3, none⟩ = some (.int .i64 f.behind) := by
  refine ⟨?_, ?_, ?_, ?_⟩
  · rw [h.cell, show i * 4 = i * 4 + 0 from rfl, flat_get nd4 hf (by decide)]; rfl
  all_goals rw [h.cell, flat_get nd4 hf (by decide)]; rfl
theorem row_set4 {w : World} {b : Nat} {t : TypeId} {ns : List Nd} (h : Row w b t (flat Nd.cells ns)) {i : Nat} {f : Nd} (hf : ns[i]? = some f) (q : Nd) :
    Row ((((w.setCell ⟨b, i * 4, none⟩ (.int .i64 q.lst)).setCell ⟨b, i * 4 + 1, none⟩ (.bool q.held)).setCell ⟨b, i * 4 + 2, none⟩ (.int .i64 q.ahead)).setCell ⟨b, i * 4 + 3, none⟩ (.int .i64 q.behind)) b t (flat Nd.cells (ns.set i q)) := by
  have h1 := h.put (i * 4 + 0) (.int .i64 q.lst)
  rw [flat_put nd4 (a' := ⟨q.lst, f.held, f.ahead, f.behind⟩) hf (by decide) rfl] at h1
  have h2 := h1.put (i * 4 + 1) (.bool q.held)
  rw [flat_put nd4 (a' := ⟨q.lst, q.held, f.ahead, f.behind⟩) (get_set hf) (by decide) rfl] at h2
  have h3 := h2.put (i * 4 + 2) (.int .i64 q.ahead)
  rw [flat_put nd4 (a' := ⟨q.lst, q.held, q.ahead, f.behind⟩) (get_set (get_set hf)) (by decide) rfl] at h3
  have h4 := h3.put (i * 4 + 3) (.int .i64 q.behind)
  rw [flat_put nd4 (a' := q) (get_set (get_set (get_set hf))) (by decide) rfl] at h4
  simpa only [List.set_set, Nat.add_zero] using h4

set_option maxHeartbeats 4000000 in
theorem new_yes (n bot : Nat) (w : World) (h1 : 1 ≤ bot) (h2 : bot ≤ n) (h3 : n ≤ 64) :
    Calls Try.prog 27 #[.int .i64 n, .int .i64 bot] w (MakesSh n bot w) := by
  obtain ⟨i0, hi0, hz0, hz1, hz2⟩ := info_parts info_node_
  have MK := run_make_flat (P := Try.prog) (c := Nd.cells) (⟨0, false, 0, 0⟩ : Nd) nd4 (by decide) 83 87 i0 (.agg #[.int .i64 0, .bool false, .int .i64 0, .int .i64 0]) Try.underlying83 hi0 hz0 hz1 rfl .i64 .i64 (n + 2) (by rw [hz2]; omega) (by omega)
  have e2 : ((n + 2 : Nat) : Int) = (n : Int) + 2 := rfl
  rw [e2] at MK
  have d1 : decide ((n : Int) < 1) = false := by simp; omega
  have d2 : decide ((64 : Int) < (n : Int)) = false := by simp; omega
  have d3 : decide ((bot : Int) < 1) = false := by simp; omega
  have d4 : decide (n < bot) = false := by simp; omega
  have FN := Lib.hid (fine_new h1 h2 h3)
  clear hi0 hz0 hz1 hz2
  go_enter Try.func27, Try.ntmps27
  go_wp2
  have r0 := (Row.fresh w 85 #[.slice (some ⟨w.heap.size + 1, 0, none⟩) (n + 2) (n + 2), .int .i64 bot, .int .i64 n, .int .i64 ((n : Int) + 1)]).alloc (.cells (flat Nd.cells (List.replicate (n + 2) ⟨0, false, 0, 0⟩)) 87)
  have r1 := Row.fresh (w.alloc (.cells #[.slice (some ⟨w.heap.size + 1, 0, none⟩) (n + 2) (n + 2), .int .i64 bot, .int .i64 n, .int .i64 ((n : Int) + 1)] 85)) 87 (flat Nd.cells (List.replicate (n + 2) ⟨0, false, 0, 0⟩))
  simp only [World.size_alloc] at r1
  rw [← part_zero] at r1 r0 ⊢
  have o1 := ((Only.refl none_ w).alloc (.cells #[.slice (some ⟨w.heap.size + 1, 0, none⟩) (n + 2) (n + 2), .int .i64 bot, .int .i64 n, .int .i64 ((n : Int) + 1)] 85)).alloc (.cells (flat Nd.cells (part (n + 2) 0)) 87)
  have r0 := Lib.hid r0
  have r1 := Lib.hid r1
  have o1 := Lib.hid o1
  clear MK
  go_loopw [41] (fun i wr => ∃ (k : Nat), k ≤ n + 2 ∧ i = .int .i64 k ∧ Row wr w.heap.size 85 #[.slice (some ⟨w.heap.size + 1, 0, none⟩) (n + 2) (n + 2), .int .i64 bot, .int .i64 n, .int .i64 ((n : Int) + 1)] ∧ Row wr (w.heap.size + 1) 87 (flat Nd.cells (part (n + 2) k)) ∧ Only none_ w wr) (fun i _ => n + 2 - (intOf i).toNat)
  case atStart => exact ⟨0, Nat.zero_le _, rfl, r0.out, r1.out, o1.out⟩
  case round =>
    obtain ⟨k, hk, rfl, hr0, hr1, hO⟩ := hrel
    clear r0 r1 o1
    have HO := Lib.hid hO
    have H0 := Lib.hid hr0
    have H1 := Lib.hid hr1
    have lp := hr0.lt
    have lb := hr1.lt
    clear hO
    by_cases hlt : k < n + 2
    · have c : wr.cell? ⟨w.heap.size, 0, none⟩ = some (.slice (some ⟨w.heap.size + 1, 0, none⟩) (n + 2) (n + 2)) := by rw [hr0.cell]; rfl
      have z := fun i => hr1.frozen i
      obtain ⟨c0, c1, c2, c3⟩ := row_node hr1 (part_at (k := k) hlt)
      have RS := Lib.hid (row_set4 hr1 (part_at (k := k) hlt) ⟨-1, false, k, k⟩)
      have KM := Lib.hid (part_more hlt)
      have bk : (k : Int) < (n : Int) + 2 := by omega
      have dk : decide ((k : Int) < (n : Int) + 2) = true := by simp; omega
      clear hr0 hr1
      generalize (if k < k then (⟨-1, false, k, k⟩ : Nd) else ⟨0, false, 0, 0⟩) = f0 at *
      go_wp2
      go_roundw
      case rel =>
        refine ⟨k + 1, by omega, rfl, ?_, ?_, ?_⟩
        · exact (((H0.out.far (p := ⟨w.heap.size + 1, _, none⟩) (by simp) _).far (p := ⟨w.heap.size + 1, _, none⟩) (by simp) _).far (p := ⟨w.heap.size + 1, _, none⟩) (by simp) _).far (p := ⟨w.heap.size + 1, _, none⟩) (by simp) _
        · have := RS.out
          rw [KM.out] at this
          exact this
        · exact (((HO.out.new (by omega) _ _).new (by omega) _ _).new (by omega) _ _).new (by omega) _ _
      case measure => simp [intOf]; omega
    · have hk : k = n + 2 := by omega
      subst hk
      clear hr0 hr1
      have dk : decide (((n + 2 : Nat) : Int) < (n : Int) + 2) = false := by simp
      have ek : ((n + 2 : Nat) : Int) = (n : Int) + 2 := rfl
      go_wp2
      go_ret2
      have P1 := H1.out
      rw [part_all] at P1
      exact ⟨w.heap.size, w.heap.size + 1, rfl, ⟨FN.out, _, ⟨H0.out, P1, by simp [fresh, newSh], h3, by show bot ≤ 64; omega, by omega⟩, rep_new⟩, Nat.le_refl _, by omega, HO.out⟩

theorem new_no (n bot : Int) (w : World) (h : ¬ (1 ≤ n ∧ n ≤ 64 ∧ 1 ≤ bot ∧ bot ≤ n)) :
    Calls Try.prog 27 #[.int .i64 n, .int .i64 bot] w fun e w' => e = .returned (.tuple #[.pointer none, .int .i64 1]) ∧ w = w' := by
  by_cases h1 : n < 1
  · have d1 : decide (n < 1) = true := by simpa using h1
    clear h
    go_enter Try.func27, Try.ntmps27
    go_wp2
    go_ret2
    exact ⟨rfl, rfl⟩
  · have d1 : decide (n < 1) = false := by simpa using h1
    by_cases h2 : 64 < n
    · have d2 : decide (64 < n) = true := by simpa using h2
      clear h
      go_enter Try.func27, Try.ntmps27
      go_wp2
      go_ret2
      exact ⟨rfl, rfl⟩
    · have d2 : decide (64 < n) = false := by simpa using h2
      by_cases h3 : bot < 1
      · have d3 : decide (bot < 1) = true := by simpa using h3
        clear h
        go_enter Try.func27, Try.ntmps27
        go_wp2
        go_ret2
        exact ⟨rfl, rfl⟩
      · have d3 : decide (bot < 1) = false := by simpa using h3
        have d4 : decide (n < bot) = true := by simp; omega
        clear h
        go_enter Try.func27, Try.ntmps27
        go_wp2
        go_ret2
        exact ⟨rfl, rfl⟩
end Go.Proofs.Ytpmhpamajkhhiaa
