/- Plain facts of a register that is filled to its room. -/
import Derived.Test.YtgngaimbpnlkjaaOth14
namespace Go.Proofs.Ytgngaimbpnlkjaa

def roomL (ts : Nat → Int) (k : Nat) : List Sx := (List.range k).map (fun i => ⟨ts i, ⟨1 + ((i / 8 : Nat) : Int), ((i % 8 : Nat) : Int)⟩⟩)
theorem roomL_len (ts : Nat → Int) (k : Nat) : (roomL ts k).length = k := by unfold roomL; simp
theorem roomL_more (ts : Nat → Int) (k : Nat) : roomL ts (k + 1) = roomL ts k ++ [⟨ts k, ⟨1 + ((k / 8 : Nat) : Int), ((k % 8 : Nat) : Int)⟩⟩] := by
  unfold roomL
  rw [List.range_succ, List.map_append]
  rfl
theorem roomL_waits (ts : Nat → Int) (k : Nat) (w : Wt) : waitsB (roomL ts k) w = true ↔ ∃ i, i < k ∧ w = ⟨1 + ((i / 8 : Nat) : Int), ((i % 8 : Nat) : Int)⟩ := by
  unfold waitsB roomL
  rw [List.any_eq_true]
  constructor
  · intro ⟨s, h1, h2⟩
    obtain ⟨i, hi, rfl⟩ := List.mem_map.1 h1
    exact ⟨i, List.mem_range.1 hi, (of_decide_eq_true h2).symm⟩
  · intro ⟨i, hi, e⟩
    exact ⟨_, List.mem_map.2 ⟨i, List.mem_range.2 hi, rfl⟩, decide_eq_true e.symm⟩
theorem room_add {ts : Nat → Int} {n k : Nat} (ht : 1 ≤ ts k) (h : k < n) :
    addI n (roomL ts k) (ts k) ⟨1 + ((k / 8 : Nat) : Int), ((k % 8 : Nat) : Int)⟩ = 0 ∧ addS n (roomL ts k) (ts k) ⟨1 + ((k / 8 : Nat) : Int), ((k % 8 : Nat) : Int)⟩ = roomL ts (k + 1) := by
  have e : addI n (roomL ts k) (ts k) ⟨1 + ((k / 8 : Nat) : Int), ((k % 8 : Nat) : Int)⟩ = 0 := by
    unfold addI
    rw [if_pos ⟨ht, by dsimp only; omega, by dsimp only; omega, by dsimp only; omega⟩, if_neg, if_neg (by rw [roomL_len]; omega)]
    intro q
    obtain ⟨i, hi, e⟩ := (roomL_waits ts k _).1 q
    simp only [Wt.mk.injEq] at e
    omega
  refine ⟨e, ?_⟩
  unfold addS
  rw [if_pos e, roomL_more]
theorem room_late (ts : Nat → Int) {n : Nat} (h : n ≤ 64) : addI n (roomL ts n) 7 ⟨99, 0⟩ = 2 ∧ addS n (roomL ts n) 7 ⟨99, 0⟩ = roomL ts n := by
  have e : addI n (roomL ts n) 7 ⟨99, 0⟩ = 2 := by
    unfold addI
    rw [if_pos (by unfold mayW; decide), if_neg, if_pos (by rw [roomL_len]; omega)]
    intro q
    obtain ⟨i, hi, e⟩ := (roomL_waits ts n _).1 q
    simp only [Wt.mk.injEq] at e
    omega
  refine ⟨e, ?_⟩
  unfold addS
  rw [if_neg (by rw [e]; decide)]
theorem room_again (ts : Nat → Int) {n : Nat} (h : 1 ≤ n) : addI n (roomL ts n) 7 ⟨1, 0⟩ = 4 ∧ addS n (roomL ts n) 7 ⟨1, 0⟩ = roomL ts n := by
  have e : addI n (roomL ts n) 7 ⟨1, 0⟩ = 4 := by
    unfold addI
    rw [if_pos (by unfold mayW; decide), if_pos]
    exact (roomL_waits ts n _).2 ⟨0, by omega, rfl⟩
  refine ⟨e, ?_⟩
  unfold addS
  rw [if_neg (by rw [e]; decide)]
/-- how many a request has -/
def freeN (n q : Nat) : Nat := if n - 8 * q ≤ 8 then n - 8 * q else 8
theorem room_has (ts : Nat → Int) (q : Nat) : ∀ n, ((roomL ts n).filter (fun s => decide (s.w.r = 1 + (q : Int)))).length = freeN n q := by
  intro n
  induction n with
  | zero => simp [roomL, freeN]
  | succ n ih =>
    rw [roomL_more, List.filter_append, List.length_append, ih]
    by_cases h : n / 8 = q
    · have : decide ((1 : Int) + ((n / 8 : Nat) : Int) = 1 + (q : Int)) = true := decide_eq_true (by omega)
      simp only [List.filter_cons, this, List.filter_nil, if_true, List.length_singleton]
      unfold freeN
      split <;> split <;> omega
    · have : decide ((1 : Int) + ((n / 8 : Nat) : Int) = 1 + (q : Int)) = false := decide_eq_false (by omega)
      simp only [List.filter_cons, this, List.filter_nil, Bool.false_eq_true, if_false, List.length_nil]
      unfold freeN
      split <;> split <;> omega
theorem room_left (ts : Nat → Int) (n q : Nat) : (leftR (roomL ts n) (1 + (q : Int))).length + freeN n q = n := by
  have h1 := parts_len (roomL ts n) (fun s => decide (s.w.r = 1 + (q : Int)))
  have e : leftR (roomL ts n) (1 + (q : Int)) = (roomL ts n).filter (fun s => !decide (s.w.r = 1 + (q : Int))) := by
    unfold leftR
    apply List.filter_congr
    intro s _
    simp
  rw [room_has, roomL_len] at h1
  rw [e]
  omega
theorem room_quit (ts : Nat → Int) {n q : Nat} (h : 8 * q < n) : 1 ≤ (quitI (roomL ts n) (1 + (q : Int))).length ∧ (quitI (roomL ts n) (1 + (q : Int))).length ≤ freeN n q := by
  constructor
  · have m : ts (8 * q) ∈ quitI (roomL ts n) (1 + (q : Int)) := by
      rw [mem_quit]
      refine ⟨_, List.mem_map.2 ⟨8 * q, List.mem_range.2 h, rfl⟩, ?_, rfl⟩
      dsimp only
      omega
    exact List.length_pos_of_mem m
  · have h2 := fold_le ((roomL ts n).filter (fun s => decide (s.w.r = 1 + (q : Int)))) []
    rw [room_has] at h2
    unfold quitI
    simpa using h2
theorem room_after (ts : Nat → Int) {n q : Nat} (h : 8 * q < n) (hn : n ≤ 64) :
    addI n (leftR (roomL ts n) (1 + (q : Int))) 7 ⟨99, 0⟩ = 0 ∧ waitsB (addS n (leftR (roomL ts n) (1 + (q : Int))) 7 ⟨99, 0⟩) ⟨99, 0⟩ = true ∧ waitsB (addS n (leftR (roomL ts n) (1 + (q : Int))) 7 ⟨99, 0⟩) ⟨1 + (q : Int), 0⟩ = false := by
  have nw : waitsB (leftR (roomL ts n) (1 + (q : Int))) ⟨99, 0⟩ = false := by
    cases z : waitsB (leftR (roomL ts n) (1 + (q : Int))) ⟨99, 0⟩
    · rfl
    · unfold waitsB at z
      rw [List.any_eq_true] at z
      obtain ⟨s, h1, h2⟩ := z
      unfold leftR at h1
      rw [List.mem_filter] at h1
      have := (roomL_waits ts n ⟨99, 0⟩).1 (by unfold waitsB; rw [List.any_eq_true]; exact ⟨s, h1.1, h2⟩)
      obtain ⟨i, hi, e⟩ := this
      simp only [Wt.mk.injEq] at e
      omega
  have e : addI n (leftR (roomL ts n) (1 + (q : Int))) 7 ⟨99, 0⟩ = 0 := by
    unfold addI
    rw [if_pos (by unfold mayW; decide), if_neg (by rw [nw]; decide), if_neg]
    have := room_left ts n q
    have : 1 ≤ freeN n q := by unfold freeN; split <;> omega
    omega
  refine ⟨e, ?_, ?_⟩
  · unfold addS
    rw [if_pos e, waits_more, nw]
    rfl
  · unfold addS
    rw [if_pos e, waits_more]
    have n2 : waitsB (leftR (roomL ts n) (1 + (q : Int))) ⟨1 + (q : Int), 0⟩ = false := by
      cases z : waitsB (leftR (roomL ts n) (1 + (q : Int))) ⟨1 + (q : Int), 0⟩
      · rfl
      · unfold waitsB at z
        rw [List.any_eq_true] at z
        obtain ⟨s, h1, h2⟩ := z
        unfold leftR at h1
        rw [List.mem_filter] at h1
        have a := of_decide_eq_true h1.2
        have b := of_decide_eq_true h2
        rw [b] at a
        exact absurd rfl a
    rw [n2, decide_eq_false]
    · rfl
    · intro z
      simp only [Wt.mk.injEq] at z
      omega
end Go.Proofs.Ytgngaimbpnlkjaa
