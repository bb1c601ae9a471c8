/- All nodes that are held. -/
import Derived.Test.YtpmhpamajkhhiaaRingList
namespace Go.Proofs.Ytpmhpamajkhhiaa
open Go.RowKit Go.Shelf
set_option linter.unusedVariables false

/-- the held ones among the first k nodes -/
def heldTo (ns : List Nd) (k : Nat) : List Nat := (List.range k).filter (fun i => (nd ns i).held)
theorem heldTo_more (ns : List Nd) (k : Nat) : heldTo ns (k + 1) = if (nd ns k).held = true then heldTo ns k ++ [k] else heldTo ns k := by
  unfold heldTo
  rw [List.range_succ, List.filter_append]
  cases e : (nd ns k).held <;> simp [e]
theorem heldTo_le (ns : List Nd) (k : Nat) : (heldTo ns k).length ≤ k := by
  unfold heldTo
  exact Nat.le_trans (List.length_filter_le _ _) (by simp)
/-- all that are held, rising -/
def Sh.heldL (s : Sh) : List Nat := (List.range s.n).filter s.h
theorem heldTo_all {s : Sh} {ns : List Nd} (h : Rep s ns) : heldTo ns (s.n + 2) = s.heldL := by
  rw [heldTo_more, heldTo_more, h.end_.1, h.end_.2]
  unfold heldTo Sh.heldL
  apply List.filter_congr
  intro i hi
  exact h.held i (List.mem_range.1 hi)
theorem ints_more (l : List Nat) (x : Nat) : ints (l ++ [x]) = ints l ++ [(x : Int)] := by simp [ints]

set_option maxHeartbeats 4000000 in
theorem held_any (p b : Nat) (s : Sh) (w : World) (h : Lies w p b s) :
    Calls Try.prog 37 #[.pointer (some ⟨p, 0, none⟩)] w fun e w' => ∃ v, e = .returned v ∧ OwnsInts w' w.heap.size v (ints s.heldL) ∧ Below w.heap.size w w' := by
  have lt := h.lt
  obtain ⟨f, ns, r, q⟩ := h
  have HA := Lib.hid (heldTo_all q)
  have c := r.hd
  have len := r.len
  have n64 := r.n64
  have R := Lib.hid r
  obtain ⟨i0, hi0, hz0, hz1, hz2⟩ := info_parts info_int8
  have I0 := Lib.hid hi0
  have I1 := Lib.hid hz0
  have I2 := Lib.hid hz1
  have I3 := Lib.hid hz2
  have HS := Lib.hid (heldTo_more ns)
  have LE := heldTo_le ns
  clear hi0 hz0 hz1 hz2 q f r
  go_enter Try.func37, Try.ntmps37
  go_wp2_with fail
  go_loopw [3, 11] (fun v i wr => ∃ (k : Nat), k ≤ s.n + 2 ∧ i = .int .i64 k ∧ OwnsInts wr w.heap.size v (ints (heldTo ns k)) ∧ Only none_ w wr) (fun _ i _ => s.n + 2 - (intOf i).toNat)
  case atStart => exact ⟨0, Nat.zero_le _, rfl, Owns.start _ _ _ _ _, Only.refl _ _⟩
  case round =>
    obtain ⟨k, hk, rfl, hV, hO⟩ := hrel
    have HO := Lib.hid hO
    have HW := Lib.hid hV
    have HR := Lib.hid (R.out.still hO)
    clear hO hV
    by_cases hlt : k < s.n + 2
    · obtain ⟨c0, c1, c2, c3⟩ := HR.out.at_ (i := k) (by omega)
      have ltb := HR.out.row.lt
      have bk : (k : Int) < (s.n : Int) + 2 := by omega
      have dk : decide ((k : Int) < (s.n : Int) + 2) = true := by simp; omega
      have HSK := HS.out k
      have lek := LE k
      generalize (nd ns k).lst = q0 at *
      generalize aF ns k = q2 at *
      generalize bF ns k = q3 at *
      have OO := (Only.refl none_ wr).alloc (.cells #[.int .i64 q0, .bool (nd ns k).held, .int .i64 q2, .int .i64 q3] 87)
      cases e : (nd ns k).held with
      | true =>
        rw [e] at c1 OO HSK
        rw [if_pos rfl] at HSK
        have HSK := Lib.hid HSK
        have OO2 := OO.alloc (.cells #[.int .i64 k] 3)
        have RF0 := Row.fresh (wr.alloc (.cells #[.int .i64 q0, .bool true, .int .i64 q2, .int .i64 q3] 87)) 3 #[.int .i64 k]
        simp only [World.size_alloc] at RF0
        have RF := Lib.hid RF0
        have HW2 := Lib.hid (HW.out.still OO2)
        have HO2 := Lib.hid (HO.out.idle OO2)
        have sz : w.heap.size ≤ ((wr.alloc (.cells #[.int .i64 q0, .bool true, .int .i64 q2, .int .i64 q3] 87)).alloc (.cells #[.int .i64 k] 3)).heap.size := HO2.out.size
        have l1 : (ints (heldTo ns k)).length < 9223372036854775807 := by rw [ints_len]; omega
        have l2 : ((ints (heldTo ns k)).length + 1) * 8 ≤ 140737488355328 := by rw [ints_len]; omega
        have l1 := Lib.hid l1
        have l2 := Lib.hid l2
        have E := Lib.hid e
        clear RF0 OO OO2 e
        go_wp2_with (at_builtin; go_loud (refine wpList_append_one rfl (.tmp 18) (.tmp 20) 35 rfl (c := one) i0 _ 8 Try.underlying35 I0.out I1.out I2.out I3.out rfl (by decide) one1 one_one rfl HW2.out (y := (k : Int)) rfl RF.out l1.out l2.out sz ?_; intro v5 w5 hown5 hO5))
        rw [← ints_more, ← HSK.out] at hown5
        have HO5 := Lib.hid (HO2.out.trans hO5 (fun i hi q => by omega))
        have W5 := Lib.hid hown5
        clear hown5 hO5
        go_wp2_with fail
        go_roundw
        case rel => exact ⟨k + 1, by omega, by go_num, W5.out, HO5.out⟩
        case measure => simp [intOf]; omega
      | false =>
        rw [e] at c1 OO HSK
        rw [if_neg (by decide)] at HSK
        have HSK := Lib.hid HSK
        have HW2 := Lib.hid (HW.out.still OO)
        have HO2 := Lib.hid (HO.out.idle OO)
        clear OO e
        go_wp2_with fail
        go_roundw
        case rel => exact ⟨k + 1, by omega, by go_num, by rw [HSK.out]; exact HW2.out, HO2.out⟩
        case measure => simp [intOf]; omega
    · have hk2 : k = s.n + 2 := by omega
      subst hk2
      have dk : decide (((s.n + 2 : Nat) : Int) < (s.n : Int) + 2) = false := by simp
      have ek : ((s.n + 2 : Nat) : Int) = (s.n : Int) + 2 := rfl
      rw [HA.out] at HW
      go_wp2_with fail
      go_ret
      exact ⟨_, rfl, HW.out, HO.out.to_below⟩
end Go.Proofs.Ytpmhpamajkhhiaa
