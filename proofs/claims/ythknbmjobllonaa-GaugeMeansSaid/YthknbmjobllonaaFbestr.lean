/- What the document's own Best answers, of any gauges that lie in memory. No condition but that the numbers fit their kinds. -/
import Derived.Test.YthknbmjobllonaaFbest
import Derived.Deep.QuietTactic
import Derived.BigQuiet
namespace Go.Proofs.Ythknbmjobllonaa
open Go.RowKit Fl

/-- a world that is as it was but for draws -/
def Drew (w w' : World) : Prop := ∃ n, w' = w.drewN n
theorem Drew.refl (w : World) : Drew w w := ⟨0, rfl⟩
theorem Drew.more {w w' : World} (h : Drew w w') (n : Nat) : Drew w (w'.drewN n) := by
  obtain ⟨m, rfl⟩ := h; exact ⟨m + n, by rw [World.drewN_drewN]⟩
theorem Drew.cell {w w' : World} (h : Drew w w') (a : Addr) : w'.cell? a = w.cell? a := by
  obtain ⟨m, rfl⟩ := h; rfl

def goodB (K : Nat → Int) (i j : Nat) : Bool := decide (K j < K i ∨ K i = K j ∧ i ≤ j)
def allB (K : Nat → Int) (i : Nat) : Nat → Bool
  | 0 => true
  | n + 1 => allB K i n && goodB K i n

theorem allB_iff (K : Nat → Int) (i n : Nat) : allB K i n = true ↔ ∀ j, j < n → K j < K i ∨ K i = K j ∧ i ≤ j := by
  induction n with
  | zero => simp [allB]
  | succ n ih =>
    unfold allB
    rw [Bool.and_eq_true, ih]
    unfold goodB
    rw [decide_eq_true_eq]
    constructor
    · rintro ⟨a, b⟩ j h
      by_cases e : j = n
      · subst e; exact b
      · exact a j (by omega)
    · intro a
      exact ⟨fun j h => a j (by omega), a n (by omega)⟩

theorem allB_bst {K : Nat → Int} {n : Nat} : allB K (bst K n) n = true := by
  rw [allB_iff]
  intro j h
  have m := bst_most K n j h
  by_cases e : bst K n ≤ j
  · omega
  · have := bst_first K n j (by omega)
    omega
theorem allB_not {K : Nat → Int} {n i : Nat} (h0 : 0 < n) (h : i < bst K n) : allB K i n = false := by
  have := bst_first K n i h
  have l := bst_lt' K n h0
  rw [Bool.eq_false_iff]
  intro a
  have := (allB_iff K i n).1 a (bst K n) l
  omega

theorem cmp_ref' (a b : Nat) (ha : a < 18446744073709551616) (hb : b < 18446744073709551616) (v : Int) (hv : Fl.side (key a) (key b) = v) (w : World) :
    Calls Try.prog 12 #[.int .u64 a, .int .u64 b] w fun e w' => e = .returned (.int .i64 v) ∧ w' = w :=
  (cmp_ref a b ha hb w).mono fun _ _ ⟨h1, h2⟩ => ⟨by rw [h1, hv], h2.symm⟩

set_option maxHeartbeats 1000000 in
theorem best_ref (b off len cap : Nat) (ns : List Nat) (w : World) (hz : len ≤ ns.length) (hbig : len ≤ 9223372036854775807) (h0 : 0 < len) (hc : Lies w b off ns) (hn : ∀ n ∈ ns, n < 18446744073709551616) :
    Calls Try.prog 10 #[.slice (some ⟨b, off, none⟩) len cap] w fun e w' => e = .returned (.tuple #[.int .i64 (bst (keys ns) len), .bool true]) ∧ Drew w w' := by
  have HC := Lib.hid hc
  have HN := Lib.hid hn
  have hbl := bst_lt' (keys ns) len h0
  clear hc hn
  go_enter Try.func10, Try.ntmps10
  go_wp2
  go_loopw [4] (fun i wr => ∃ k : Nat, k ≤ bst (keys ns) len ∧ i = .int .i64 k ∧ Drew w wr) (fun i _ => len - (intOf i).toNat)
  case atStart => exact ⟨0, Nat.zero_le _, rfl, Drew.refl _⟩
  case round =>
    obtain ⟨k, hk, rfl, hd⟩ := hrel
    have hlt : k < len := by omega
    have HD0 := Lib.hid hd
    clear hd
    go_wp2
    go_loopw [5, 6] (fun v i wr => ∃ j : Nat, j ≤ len ∧ i = .int .i64 j ∧ v = .bool (allB (keys ns) k j) ∧ Drew w wr) (fun _ i _ => len - (intOf i).toNat)
    case atStart => exact ⟨0, Nat.zero_le _, rfl, rfl, HD0.out⟩
    case round =>
      obtain ⟨j, hj, rfl, rfl, hd⟩ := hrel
      have HD := Lib.hid hd
      clear hd
      by_cases hl2 : j < len
      · have c1 := (HD.out.cell _).trans (HC.out k (by omega))
        have c2 := (HD.out.cell _).trans (HC.out j (by omega))
        have hx : ns.getD k 0 < 18446744073709551616 := by
          rw [List.getD_eq_getElem?_getD, List.getElem?_eq_getElem (by omega)]; exact HN.out _ (List.getElem_mem _)
        have hy : ns.getD j 0 < 18446744073709551616 := by
          rw [List.getD_eq_getElem?_getD, List.getElem?_eq_getElem (by omega)]; exact HN.out _ (List.getElem_mem _)
        have C := fun v hv => cmp_ref' (ns.getD k 0) (ns.getD j 0) hx hy v hv
        have HA : allB (keys ns) k (j + 1) = (allB (keys ns) k j && goodB (keys ns) k j) := rfl
        by_cases e : allB (keys ns) k j = true
        · rw [e, Bool.true_and] at HA
          rw [e]
          rcases Int.lt_trichotomy (keys ns j) (keys ns k) with g | g | g
          · have G : goodB (keys ns) k j = true := by unfold goodB; rw [decide_eq_true_eq]; exact Or.inl g
            rw [G] at HA
            have AA := Lib.hid HA
            have C := C 1 (side_pos g)
            clear g G HA
            have C' := Lib.hid C
            clear C
            generalize ns.getD k 0 = x at *
            generalize ns.getD j 0 = y at *
            clear e
            go_wp2
            go_quiet ((go_at_call 12; exact Calls.quiet_of_same (C'.out _)))
            go_wp2
            go_quiet (fail)
            go_wp2
            exact ⟨⟨j + 1, by omega, by go_num, by rw [AA.out], HD.out.more _⟩, by simp [intOf]; omega⟩
          · by_cases o : k ≤ j
            · have G : goodB (keys ns) k j = true := by unfold goodB; rw [decide_eq_true_eq]; exact Or.inr ⟨g.symm, o⟩
              rw [G] at HA
              have AA := Lib.hid HA
              have C := C 0 (side_zero g.symm)
              have t : decide (k ≤ j) = true := decide_eq_true o
              clear g G HA o
              have C' := Lib.hid C
              clear C
              generalize ns.getD k 0 = x at *
              generalize ns.getD j 0 = y at *
              clear e
              go_wp2
              go_quiet ((go_at_call 12; exact Calls.quiet_of_same (C'.out _)))
              go_wp2
              go_quiet (fail)
              go_wp2
              exact ⟨⟨j + 1, by omega, by go_num, by rw [AA.out], HD.out.more _⟩, by simp [intOf]; omega⟩
            · have G : goodB (keys ns) k j = false := by unfold goodB; rw [decide_eq_false_iff_not]; omega
              rw [G] at HA
              have AA := Lib.hid HA
              have C := C 0 (side_zero g.symm)
              have t : decide (k ≤ j) = false := decide_eq_false o
              have t2 : decide (k < j) = false := decide_eq_false (by omega)
              have t3 : ((j : Int) == (k : Int)) = false := by rw [beq_eq_false_iff_ne]; omega
              clear g G HA o
              have C' := Lib.hid C
              clear C
              generalize ns.getD k 0 = x at *
              generalize ns.getD j 0 = y at *
              clear e
              by_cases q : ((y : Int) == (x : Int)) = true
              · go_wp2
                go_quiet ((go_at_call 12; exact Calls.quiet_of_same (C'.out _)))
                go_wp2
                go_quiet (fail)
                go_wp2
                exact ⟨⟨j + 1, by omega, by go_num, by rw [AA.out], HD.out.more _⟩, by simp [intOf]; omega⟩
              · have q : ((y : Int) == (x : Int)) = false := by simpa using q
                go_wp2
                go_quiet ((go_at_call 12; exact Calls.quiet_of_same (C'.out _)))
                go_wp2
                go_quiet (fail)
                go_wp2
                exact ⟨⟨j + 1, by omega, by go_num, by rw [AA.out], HD.out.more _⟩, by simp [intOf]; omega⟩
          · have G : goodB (keys ns) k j = false := by unfold goodB; rw [decide_eq_false_iff_not]; omega
            rw [G] at HA
            have AA := Lib.hid HA
            have C := C (-1) (side_neg g)
            have t3 : ((j : Int) == (k : Int)) = false := by
              rw [beq_eq_false_iff_ne]
              intro h
              obtain rfl : j = k := by omega
              omega
            clear g G HA
            have C' := Lib.hid C
            clear C
            generalize ns.getD k 0 = x at *
            generalize ns.getD j 0 = y at *
            clear e
            go_wp2
            go_quiet ((go_at_call 12; exact Calls.quiet_of_same (C'.out _)))
            go_wp2
            go_quiet (fail)
            go_wp2
            exact ⟨⟨j + 1, by omega, by go_num, by rw [AA.out], HD.out.more _⟩, by simp [intOf]; omega⟩
        · have e : allB (keys ns) k j = false := by simpa using e
          rw [e, Bool.false_and] at HA
          rw [e]
          have AA := Lib.hid HA
          have C := C _ rfl
          generalize Fl.side (key (ns.getD k 0)) (key (ns.getD j 0)) = c at *
          clear HA
          have C' := Lib.hid C
          clear C
          generalize ns.getD k 0 = x at *
          generalize ns.getD j 0 = y at *
          clear e
          go_wp2
          go_quiet ((go_at_call 12; exact Calls.quiet_of_same (C'.out _)))
          go_wp2
          go_quiet (fail)
          go_wp2
          exact ⟨⟨j + 1, by omega, by go_num, by rw [AA.out], HD.out.more _⟩, by simp [intOf]; omega⟩
      · obtain rfl : j = len := by omega
        by_cases o : k = bst (keys ns) j
        · have A : allB (keys ns) k j = true := by rw [o]; exact allB_bst
          rw [A]
          clear A
          go_wp2
          go_ret2
          exact ⟨by rw [← o]; rfl, HD.out⟩
        · have A : allB (keys ns) k j = false := allB_not h0 (by omega)
          rw [A]
          clear A
          go_wp2
          exact ⟨⟨k + 1, by omega, by go_num, HD.out⟩, by simp [intOf]; omega⟩

theorem best_ref_empty (a : Option Addr) (cap : Nat) (w : World) :
    Calls Try.prog 10 #[.slice a 0 cap] w fun e w' => e = .returned (.tuple #[.int .i64 0, .bool false]) ∧ Drew w w' := by
  go_enter Try.func10, Try.ntmps10
  go_wp2
  go_loopw [4] (fun i wr => i = .int .i64 0 ∧ Drew w wr) (fun _ _ => 0)
  case atStart => exact ⟨rfl, Drew.refl _⟩
  case round =>
    obtain ⟨rfl, hd⟩ := hrel
    go_wp2
    go_ret2
    exact ⟨rfl, hd⟩
end Go.Proofs.Ythknbmjobllonaa
