/- The document's own: what two runs have in common, a run's blocks. -/
import Derived.Test.YtobeoknaanbakaaRin
namespace Go.Proofs.Ytobeoknaanbakaa
open Go.RowKit
set_option linter.unusedVariables false

theorem info_parts {e : TypeId} {z : Value} {n m : Nat} (h : (Try.prog.info? e).map (fun i => (i.zero, i.size, i.bytes)) = some (some z, n, m)) :
    ∃ i : TypeInfo, Try.prog.info? e = some i ∧ i.zero = some z ∧ i.size = n ∧ i.bytes = m := by
  cases hq : Try.prog.info? e with
  | none => simp [hq] at h
  | some i =>
    simp [hq] at h
    exact ⟨i, rfl, h.1, h.2.1, h.2.2⟩
theorem Owns.lower {α : Type} {w : World} {base base' : Nat} {e : TypeId} {k : Nat} {c : α → List Value} {v : Value} {xs : List α} (h : Owns w base e k c v xs) (hb : base' ≤ base) : Owns w base' e k c v xs := by
  refine ⟨h.1, ?_⟩
  rcases h.2 with h2 | ⟨g, cap, cur, hv, hg, r⟩
  · exact .inl h2
  · exact .inr ⟨g, cap, cur, hv, Nat.le_trans hb hg, r⟩
set_option maxHeartbeats 2000000 in
theorem rblocks_any (r : Rn) (w : World) :
    Calls Try.prog 17 #[r.val] w fun e w' => ∃ v, e = .returned v ∧ OwnsInts w' w.heap.size v (blocksOf r) ∧ Only none_ w w' := by
  obtain ⟨i0, hi0, hz0, hz1, hz2⟩ := info_parts info_int8
  have I0 := Lib.hid hi0
  have I1 := Lib.hid hz0
  have I2 := Lib.hid hz1
  have I3 := Lib.hid hz2
  clear hi0 hz0 hz1 hz2
  have RH := Lib.hid (fun (i : Nat) (h : i < 256) w => rhas_any r (i : Int) w (by omega))
  unfold Rn.val at *
  go_enter Try.func17, Try.ntmps17
  go_wp2_with fail
  have R0 := Lib.hid (Row.fresh w 27 #[.int .i64 r.f, .int .i64 r.c])
  have O0 := Lib.hid ((Only.refl none_ w).alloc (.cells #[.int .i64 r.f, .int .i64 r.c] 27))
  revert R0 O0
  generalize w.alloc (.cells #[.int .i64 r.f, .int .i64 r.c] 27) = W1
  generalize hg : w.heap.size = g
  intro R0 O0
  have GW := Lib.hid hg
  clear hg
  go_loopw [3, 4] (fun v i wr => ∃ k : Nat, k ≤ 256 ∧ i = .int .i64 k ∧ OwnsInts wr (g + 1) v (below r k) ∧ Row wr g 27 #[.int .i64 r.f, .int .i64 r.c] ∧ Only none_ w wr) (fun _ i _ => 256 - (intOf i).toNat)
  case atStart => exact ⟨0, Nat.zero_le _, rfl, by rw [show ((0 : Nat) : Int) = 0 from rfl, below_zero]; exact Owns.start _ _ _ _ _, R0.out, O0.out⟩
  case round =>
    obtain ⟨k, hk, rfl, hv, hr, o⟩ := hrel
    have O := Lib.hid o
    have V := Lib.hid hv
    have R := Lib.hid hr
    clear hv hr
    by_cases hlt : k < 256
    · have RK := Lib.hid (RH.out k hlt)
      obtain ⟨c0, c1⟩ := R.out.two
      have t0 : decide ((k : Int) < 256) = true := decide_eq_true (by omega)
      have HK := Lib.hid hlt
      have HB : k ≤ 1000000 := by omega
      clear hk hlt
      by_cases h : r.Has (k : Int)
      · have MORE := Lib.hid (below_yes h)
        rw [decide_eq_true h] at RK
        clear h
        go_wp2_with fail
        (with_reducible refine (RK.out _).mono ?_)
        rintro e w2 ⟨rfl, o2⟩
        have RF := Lib.hid (Row.fresh w2 3 #[.int .i64 (k : Int)])
        have V2 := Lib.hid ((V.out.still o2).still ((Only.refl none_ w2).alloc (.cells #[.int .i64 (k : Int)] 3)))
        have O2 := Lib.hid ((O.out.same o2).alloc (.cells #[.int .i64 (k : Int)] 3))
        have R2 := Lib.hid ((o2.still R.out).alloc (.cells #[.int .i64 (k : Int)] 3))
        have sz : g + 1 ≤ (w2.alloc (.cells #[.int .i64 (k : Int)] 3)).heap.size := R2.out.lt
        have ln := below_le r k
        have l1 := Lib.hid (show (below r k).length < 9223372036854775807 from by omega)
        have l2 := Lib.hid (show ((below r k).length + 1) * 8 ≤ 140737488355328 from by omega)
        clear ln c0 c1 o2 o
        go_wp2_with (at_builtin; go_loud (refine wpList_append_one rfl (.tmp 12) (.tmp 14) 22 rfl (c := one) i0 _ 8 Try.underlying22 I0.out I1.out I2.out I3.out rfl (by decide) one1 one_one rfl V2.out (y := (k : Int)) rfl RF.out l1.out l2.out sz ?_; intro v5 w5 hown5 hO5))
        rw [← MORE.out] at hown5
        have O5 := Lib.hid (O2.out.trans hO5 (fun i hi q => by have := GW.out; omega))
        have R5 := Lib.hid (hO5.row R2.out (by omega))
        have V5 := Lib.hid hown5
        clear hown5 hO5
        go_wp2_with fail
        go_roundw
        case rel => exact ⟨k + 1, HK.out, by go_num, V5.out, R5.out, O5.out⟩
        case measure => have := HK.out; simp [intOf]; omega
      · have MORE := Lib.hid (below_no h)
        rw [decide_eq_false h] at RK
        clear h
        go_wp2_with fail
        (with_reducible refine (RK.out _).mono ?_)
        rintro e w2 ⟨rfl, o2⟩
        have V2 := Lib.hid (V.out.still o2)
        have O2 := Lib.hid (O.out.same o2)
        have R2 := Lib.hid (o2.still R.out)
        clear c0 c1 o2 o
        go_wp2_with fail
        go_roundw
        case rel => exact ⟨k + 1, HK.out, by go_num, by rw [show ((k + 1 : Nat) : Int) = (k : Int) + 1 from rfl, MORE.out]; exact V2.out, R2.out, O2.out⟩
        case measure => have := HK.out; simp [intOf]; omega
    · have e : k = 256 := by omega
      subst e
      have t0 : decide ((256 : Int) < 256) = false := by decide
      rw [show ((256 : Nat) : Int) = 256 from rfl, below_all] at V
      go_wp2_with fail
      go_ret
      exact ⟨_, rfl, V.out.lower (by have := GW.out; omega), O.out⟩
end Go.Proofs.Ytobeoknaanbakaa
