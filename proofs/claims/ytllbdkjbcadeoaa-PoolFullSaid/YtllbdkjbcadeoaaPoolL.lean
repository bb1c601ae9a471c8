/- What the calls of package pool tell that change nothing: Frame, Count, Pins. -/
import Derived.Test.YtllbdkjbcadeoaaPoolM
namespace Go.Proofs.Ytllbdkjbcadeoaa
open Go.RowKit
set_option linter.unusedVariables false

theorem frame_no (p b : Nat) (fs : List Fr) (i : Int) (w : World) (h : PoolIs w p b fs) (hi : i < 0 ∨ (fs.length : Int) ≤ i) :
    Calls Try.prog 16 #[.pointer (some ⟨p, 0, none⟩), .int .i64 i] w fun e w' => e = .returned (.tuple #[.agg #[.int .i64 0, .int .i64 0, .int .i64 0, .int .i64 0, .int .u64 0], .bool false]) ∧ Only none_ w w' := by
  have A := Lib.hid (has_no p b fs i (w.alloc (.cells #[.int .i64 0, .int .i64 0, .int .i64 0, .int .i64 0, .int .u64 0] 38)) (h.still ((Only.refl _ _).alloc _)) hi)
  clear h hi
  go_enter Try.func16, Try.ntmps16
  go_wp2_with fail
  (with_reducible refine (A.out).mono ?_)
  rintro e w' ⟨rfl, rfl⟩
  go_wp2_with fail
  exact bodyPost_ret (v := .tuple #[.agg #[.int .i64 0, .int .i64 0, .int .i64 0, .int .i64 0, .int .u64 0], .bool false]) (by simp [results, Try.results16, go_sem]) rfl ⟨rfl, (Only.refl _ _).alloc _⟩
theorem frame_yes (p b : Nat) (fs : List Fr) (i : Nat) (f : Fr) (w : World) (h : PoolIs w p b fs) (hf : fs[i]? = some f) :
    Calls Try.prog 16 #[.pointer (some ⟨p, 0, none⟩), .int .i64 i] w fun e w' => e = .returned (.tuple #[f.agg, .bool true]) ∧ Only none_ w w' := by
  have h1 := h.still ((Only.refl none_ w).alloc (.cells #[.int .i64 0, .int .i64 0, .int .i64 0, .int .i64 0, .int .u64 0] 38))
  have A := Lib.hid (has_yes p b fs i _ h1 (lt_of_get hf))
  have c := h1.hd
  obtain ⟨c0, c1, c2, c3, c4⟩ := h1.at_ hf
  have few := h.few
  have lt := lt_of_get hf
  clear h hf h1
  go_enter Try.func16, Try.ntmps16
  go_wp2_with fail
  (with_reducible refine (A.out).mono ?_)
  rintro e w' ⟨rfl, rfl⟩
  go_wp2_with fail
  exact bodyPost_ret (v := .tuple #[f.agg, .bool true]) (by simp [results, Try.results16, go_sem, Fr.agg]) rfl ⟨rfl, (Only.refl _ _).alloc _⟩

/-- how many frames are of a state -/
def cnt (fs : List Fr) (s : Int) : Nat := fs.countP (fun f => f.st == s)
theorem cnt_le (fs : List Fr) (s : Int) : cnt fs s ≤ fs.length := List.countP_le_length
theorem take_more {α : Type} {l : List α} {k : Nat} {a : α} (h : l[k]? = some a) : l.take (k + 1) = l.take k ++ [a] := by
  rw [List.take_add_one, h]; rfl
theorem cnt_more {fs : List Fr} {k : Nat} {f : Fr} (h : fs[k]? = some f) (s : Int) : cnt (fs.take (k + 1)) s = cnt (fs.take k) s + if f.st = s then 1 else 0 := by
  unfold cnt
  rw [take_more h, List.countP_append]
  congr 1
  by_cases e : f.st = s <;> simp [e]
def counts (fs : List Fr) : Array Value := #[.int .i64 (cnt fs 0), .int .i64 (cnt fs 1), .int .i64 (cnt fs 2), .int .i64 (cnt fs 3)]

theorem counts_step {fs : List Fr} {k : Nat} {f : Fr} (h : fs[k]? = some f) (s : Nat) (hs : f.st = (s : Int)) (h3 : s ≤ 3) : counts (fs.take (k + 1)) = (counts (fs.take k)).setIfInBounds s (.int .i64 ((cnt (fs.take k) s : Int) + 1)) := by
  unfold counts
  simp only [cnt_more h, hs]
  match s, h3 with
  | 0, _ => simp
  | 1, _ => simp
  | 2, _ => simp
  | 3, _ => simp

set_option maxHeartbeats 2000000 in
theorem count_any (p b : Nat) (fs : List Fr) (w : World) (h : PoolIs w p b fs) (hF : Fine 1000000 fs) :
    Calls Try.prog 12 #[.pointer (some ⟨p, 0, none⟩)] w fun e w' => e = .returned (.agg (counts fs)) ∧ Only none_ w w' := by
  have H := Lib.hid h
  have HF := Lib.hid hF
  have few := h.few
  have c := (h.still ((Only.refl none_ w).alloc (.cells #[.int .i64 0, .int .i64 0, .int .i64 0, .int .i64 0] 34))).hd
  clear h hF
  go_enter Try.func12, Try.ntmps12
  go_wp2_with fail
  go_loopw [4, 10] (fun _ i wr => ∃ k : Nat, k ≤ fs.length ∧ i = .int .i64 k ∧ Only none_ w wr ∧ Row wr w.heap.size 34 (counts (fs.take k))) (fun _ i _ => fs.length - (intOf i).toNat)
  case atStart => exact ⟨0, Nat.zero_le _, rfl, (Only.refl _ _).alloc _, Row.fresh _ _ _⟩
  case round =>
    obtain ⟨k, hk, rfl, o, r⟩ := hrel
    have O := Lib.hid o
    have R := Lib.hid r
    clear o r
    by_cases hlt : k < fs.length
    · obtain ⟨f, hf⟩ : ∃ f, fs[k]? = some f := ⟨_, List.getElem?_eq_getElem hlt⟩
      have ff := HF.out f (List.mem_of_getElem? hf)
      obtain ⟨c0, c1, c2, c3, c4⟩ := (H.out.still O.out).at_ hf
      have z : ∀ o i, (wr.alloc o).frozen? ⟨w.heap.size, i, none⟩ = false := fun o i => (R.out.alloc o).frozen i
      have hs : ∃ s : Nat, f.st = s ∧ s ≤ 3 := ⟨f.st.toNat, by have := ff.s0; omega, by have := ff.s1; omega⟩
      obtain ⟨s, hs, h3⟩ := hs
      have bd := cnt_le (fs.take k) s
      have bl : (fs.take k).length ≤ k := List.length_take_le _ _
      have d : ∀ o, (wr.alloc o).cell? ⟨w.heap.size, s, none⟩ = some (.int .i64 (cnt (fs.take k) s)) := by
        intro o
        rw [(R.out.alloc o).cell]
        unfold counts
        match s, h3 with
        | 0, _ => rfl
        | 1, _ => rfl
        | 2, _ => rfl
        | 3, _ => rfl
      have R1 := (fun o => (R.out.alloc o).put s (.int .i64 ((cnt (fs.take k) s : Int) + 1)))
      simp only [← counts_step hf s hs h3] at R1
      have R1 := Lib.hid R1
      rw [hs] at c0
      generalize cnt (fs.take k) s = m at *
      clear hf ff hs
      go_wp2_with fail
      go_roundw
      case rel => exact ⟨k + 1, by omega, by go_num, (O.out.alloc _).new (Nat.le_refl _) _ _, R1.out _⟩
      case measure => simp [intOf]; omega
    · have e : k = fs.length := by omega
      have R1 := R.out
      rw [e, List.take_length] at R1
      have R1 := Lib.hid R1
      have d0 := R1.out.cell 0
      have d1 := R1.out.cell 1
      have d2 := R1.out.cell 2
      have d3 := R1.out.cell 3
      have z := R1.out.frozen
      simp only [counts, List.getElem?_toArray, List.getElem?_cons_zero, List.getElem?_cons_succ] at d0 d1 d2 d3
      clear e
      have hlt' : fs.length ≤ k := by omega
      go_wp2_with fail
      refine bodyPost_ret (v := .agg (counts fs)) (by simp [results, Try.results12, go_sem, counts, d0, d1, d2, d3]) rfl ⟨rfl, ?_⟩
      iterate 4 refine Only.new ?_ (Nat.le_refl _) _ _
      exact O.out

/-- all pins -/
def pinned (fs : List Fr) : Int := (fs.map (·.pins)).sum
theorem pinned_more {fs : List Fr} {k : Nat} {f : Fr} (h : fs[k]? = some f) : pinned (fs.take (k + 1)) = pinned (fs.take k) + f.pins := by
  unfold pinned
  rw [take_more h]
  simp
theorem pinned_le {K : Int} {fs : List Fr} (h : Fine K fs) : 0 ≤ pinned fs ∧ pinned fs ≤ K * fs.length := by
  induction fs with
  | nil => simp [pinned]
  | cons f fs ih =>
    have i := ih (fun g hg => h g (List.mem_cons_of_mem _ hg))
    have ff := h f (List.mem_cons_self)
    have := ff.p0
    have := ff.p1
    unfold pinned at i ⊢
    simp only [List.map_cons, List.sum_cons, List.length_cons]
    rw [show K * ((fs.length + 1 : Nat) : Int) = K * fs.length + K by rw [Int.natCast_add, Int.mul_add]; simp]
    omega
theorem Fine.take {K : Int} {fs : List Fr} (h : Fine K fs) (k : Nat) : Fine K (fs.take k) := fun f hf => h f (List.mem_of_mem_take hf)

set_option maxHeartbeats 2000000 in
theorem pins_any (p b : Nat) (fs : List Fr) (w : World) (h : PoolIs w p b fs) (hF : Fine 1000000 fs) :
    Calls Try.prog 14 #[.pointer (some ⟨p, 0, none⟩)] w fun e w' => e = .returned (.int .i64 (pinned fs)) ∧ Only none_ w w' := by
  have H := Lib.hid h
  have HF := Lib.hid hF
  have few := h.few
  have c := h.hd
  clear h hF
  go_enter Try.func14, Try.ntmps14
  go_wp2_with fail
  go_loopw [3, 5, 11] (fun s _ i wr => ∃ k : Nat, k ≤ fs.length ∧ i = .int .i64 k ∧ s = .int .i64 (pinned (fs.take k)) ∧ Only none_ w wr) (fun _ _ i _ => fs.length - (intOf i).toNat)
  case atStart => exact ⟨0, Nat.zero_le _, rfl, rfl, Only.refl _ _⟩
  case round =>
    obtain ⟨k, hk, rfl, rfl, o⟩ := hrel
    have O := Lib.hid o
    clear o
    by_cases hlt : k < fs.length
    · obtain ⟨f, hf⟩ : ∃ f, fs[k]? = some f := ⟨_, List.getElem?_eq_getElem hlt⟩
      have ff := HF.out f (List.mem_of_getElem? hf)
      obtain ⟨c0, c1, c2, c3, c4⟩ := (H.out.still O.out).at_ hf
      obtain ⟨b1, b2⟩ := pinned_le (HF.out.take k)
      have bl : (fs.take k).length ≤ k := List.length_take_le _ _
      have b3 : pinned (fs.take k) ≤ 64000000 := by omega
      have f1 := ff.p0
      have f2 := ff.p1
      have E1 := Lib.hid (pinned_more hf)
      generalize pinned (fs.take k) = m at *
      generalize f.pins = pp at *
      clear hf ff b2
      go_wp2_with fail
      go_roundw
      case rel => exact ⟨k + 1, by omega, by go_num, by rw [E1.out], O.out.alloc _⟩
      case measure => simp [intOf]; omega
    · have e : k = fs.length := by omega
      have E1 := Lib.hid (show pinned (fs.take k) = pinned fs by rw [e, List.take_length])
      have hlt' : fs.length ≤ k := by omega
      clear e
      generalize pinned (fs.take k) = m at *
      go_wp2_with fail
      go_ret
      exact ⟨ret_int E1.out, O.out⟩
end Go.Proofs.Ytllbdkjbcadeoaa
