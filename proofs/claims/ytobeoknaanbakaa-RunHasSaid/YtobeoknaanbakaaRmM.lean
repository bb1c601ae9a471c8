/- The document's own: what two runs have in common. -/
import Derived.Test.YtobeoknaanbakaaRm
namespace Go.Proofs.Ytobeoknaanbakaa
open Go.RowKit
set_option linter.unusedVariables false
/-- blocks made one behind the other -/
theorem three_new (w : World) (t0 t1 t2 : TypeId) (c0 c1 c2 : Array Value) :
    Row (((w.alloc (.cells c0 t0)).alloc (.cells c1 t1)).alloc (.cells c2 t2)) w.heap.size t0 c0 ∧ Row (((w.alloc (.cells c0 t0)).alloc (.cells c1 t1)).alloc (.cells c2 t2)) (w.heap.size + 1) t1 c1 ∧
    Row (((w.alloc (.cells c0 t0)).alloc (.cells c1 t1)).alloc (.cells c2 t2)) (w.heap.size + 1 + 1) t2 c2 ∧ Only none_ w (((w.alloc (.cells c0 t0)).alloc (.cells c1 t1)).alloc (.cells c2 t2)) := by
  have r1 := Row.fresh (w.alloc (.cells c0 t0)) t1 c1
  have r2 := Row.fresh ((w.alloc (.cells c0 t0)).alloc (.cells c1 t1)) t2 c2
  simp only [World.size_alloc] at r1 r2
  exact ⟨((Row.fresh w t0 c0).alloc _).alloc _, r1.alloc _, r2, (((Only.refl none_ w).alloc _).alloc _).alloc _⟩
theorem four_new (w : World) (t0 t1 t2 t3 : TypeId) (c0 c1 c2 c3 : Array Value) :
    Row ((((w.alloc (.cells c0 t0)).alloc (.cells c1 t1)).alloc (.cells c2 t2)).alloc (.cells c3 t3)) w.heap.size t0 c0 ∧ Row ((((w.alloc (.cells c0 t0)).alloc (.cells c1 t1)).alloc (.cells c2 t2)).alloc (.cells c3 t3)) (w.heap.size + 1) t1 c1 ∧
    Row ((((w.alloc (.cells c0 t0)).alloc (.cells c1 t1)).alloc (.cells c2 t2)).alloc (.cells c3 t3)) (w.heap.size + 1 + 1) t2 c2 ∧ Row ((((w.alloc (.cells c0 t0)).alloc (.cells c1 t1)).alloc (.cells c2 t2)).alloc (.cells c3 t3)) (w.heap.size + 1 + 1 + 1) t3 c3 ∧
    Only none_ w ((((w.alloc (.cells c0 t0)).alloc (.cells c1 t1)).alloc (.cells c2 t2)).alloc (.cells c3 t3)) := by
  obtain ⟨h0, h1, h2, o⟩ := three_new w t0 t1 t2 c0 c1 c2
  have r3 := Row.fresh (((w.alloc (.cells c0 t0)).alloc (.cells c1 t1)).alloc (.cells c2 t2)) t3 c3
  simp only [World.size_alloc] at r3
  exact ⟨h0.alloc _, h1.alloc _, h2.alloc _, r3, o.alloc _⟩
set_option maxHeartbeats 2000000 in
theorem rmeet_any (a b : Rn) (w : World) :
    Calls Try.prog 14 #[a.val, b.val] w fun e w' => e = .returned (meet a b).val ∧ Only none_ w w' := by
  have RA := Lib.hid (fun (i : Nat) (h : i < 256) w => rhas_any a (i : Int) w (by omega))
  have RB := Lib.hid (fun (i : Nat) (h : i < 256) w => rhas_any b (i : Int) w (by omega))
  have PZ := Lib.hid (part_zero a b)
  have PA := Lib.hid (part_all a b)
  unfold Rn.val at *
  go_enter Try.func14, Try.ntmps14
  go_wp2_with fail
  obtain ⟨q0, q1, q2, q3, q4⟩ := four_new w 27 27 27 27 #[.int .i64 a.f, .int .i64 a.c] #[.int .i64 b.f, .int .i64 b.c] #[.int .i64 0, .int .i64 0] #[.int .i64 0, .int .i64 0]
  have A0 := Lib.hid q0
  have B0 := Lib.hid q1
  have C0 := Lib.hid q2
  have D0 := Lib.hid q3
  have O0 := Lib.hid q4
  clear q0 q1 q2 q3 q4
  revert A0 B0 C0 D0 O0
  generalize (((w.alloc (.cells #[.int .i64 a.f, .int .i64 a.c] 27)).alloc (.cells #[.int .i64 b.f, .int .i64 b.c] 27)).alloc (.cells #[.int .i64 0, .int .i64 0] 27)).alloc (.cells #[.int .i64 0, .int .i64 0] 27) = W1
  generalize hg3 : w.heap.size + 1 + 1 + 1 = g3
  generalize hg2 : w.heap.size + 1 + 1 = g2
  generalize hg1 : w.heap.size + 1 = g1
  generalize hg0 : w.heap.size = g0
  intro A0 B0 C0 D0 O0
  have GW := Lib.hid (show (w.heap.size = g0 ∧ g1 = g0 + 1 ∧ g2 = g0 + 2 ∧ g3 = g0 + 3) from by omega)
  clear hg0 hg1 hg2 hg3
  go_loopw [6] (fun i wr => ∃ k : Nat, k ≤ 256 ∧ i = .int .i64 k ∧ Row wr g3 27 #[.int .i64 (part a b k).f, .int .i64 (part a b k).c] ∧ Row wr g0 27 #[.int .i64 a.f, .int .i64 a.c] ∧ Row wr g1 27 #[.int .i64 b.f, .int .i64 b.c] ∧ Row wr g2 27 #[.int .i64 0, .int .i64 0] ∧ Only none_ w wr) (fun i _ => 256 - (intOf i).toNat)
  case atStart => exact ⟨0, Nat.zero_le _, rfl, by rw [show ((0 : Nat) : Int) = 0 from rfl, PZ.out]; exact D0.out, A0.out, B0.out, C0.out, O0.out⟩
  case round =>
    obtain ⟨k, hk, rfl, hd, ha, hb, hc, o⟩ := hrel
    have O := Lib.hid o
    have A := Lib.hid ha
    have B := Lib.hid hb
    have C := Lib.hid hc
    have D := Lib.hid hd
    clear A0 B0 C0 D0 O0 ha hb hc hd o
    by_cases hlt : k < 256
    · have RAK := Lib.hid (RA.out k hlt)
      have RBK := Lib.hid (RB.out k hlt)
      have t0 : decide ((k : Int) < 256) = true := decide_eq_true (by omega)
      have HK := Lib.hid hlt
      have HB : k ≤ 1000000 := by omega
      clear hk hlt RA RB
      obtain ⟨a0, a1⟩ := A.out.two
      obtain ⟨b0, b1⟩ := B.out.two
      by_cases h1 : a.Has (k : Int)
      · rw [decide_eq_true h1] at RAK
        by_cases h2 : b.Has (k : Int)
        · rw [decide_eq_true h2] at RBK
          rcases part_new h1 h2 with ⟨e1, e2⟩ | ⟨f, c, e1, e2, e3, e4, e5⟩
          · rw [e1] at D
            have MORE := Lib.hid e2
            clear e1 e2 h1 h2
            go_wp2_with fail
            (with_reducible refine (RAK.out _).mono ?_)
            rintro e w2 ⟨rfl, o2⟩
            have A2 := Lib.hid (o2.still A.out)
            have B2 := Lib.hid (o2.still B.out)
            have C2 := Lib.hid (o2.still C.out)
            have D2 := Lib.hid (o2.still D.out)
            have O2 := Lib.hid (O.out.same o2)
            clear A B C D O o2 a0 a1 b0 b1
            obtain ⟨b0, b1⟩ := B2.out.two
            go_wp2_with fail
            (with_reducible refine (RBK.out _).mono ?_)
            rintro e w3 ⟨rfl, o2⟩
            have A3 := Lib.hid (o2.still A2.out)
            have B3 := Lib.hid (o2.still B2.out)
            have C3 := Lib.hid (o2.still C2.out)
            have D3 := Lib.hid (o2.still D2.out)
            have O3 := Lib.hid (O2.out.same o2)
            clear A2 B2 C2 D2 O2 o2 b0 b1
            obtain ⟨d0, d1⟩ := D3.out.two
            have f0 := D3.out.frozen 0
            have f1 := D3.out.frozen 1
            go_wp2_with fail
            go_roundw
            case rel =>
              have G := GW.out
              refine ⟨k + 1, HK.out, by go_num, ?_, (A3.out.far (by show g0 ≠ g3; omega) _).far (by show g0 ≠ g3; omega) _, (B3.out.far (by show g1 ≠ g3; omega) _).far (by show g1 ≠ g3; omega) _, (C3.out.far (by show g2 ≠ g3; omega) _).far (by show g2 ≠ g3; omega) _, (O3.out.new (by omega) _ _).new (by omega) _ _⟩
              rw [show ((k + 1 : Nat) : Int) = (k : Int) + 1 from rfl, MORE.out]
              exact (D3.out.put 0 _).put 1 _
            case measure => have := HK.out; simp [intOf]; omega
          · rw [e1] at D
            have MORE := Lib.hid e5
            have t : (c == 0) = false := by simp [e2]
            have v : IntKind.i64.wrap (c + 1) = c + 1 := by rw [IntKind.wrap_i64]; omega
            clear e1 e2 e3 e4 e5 h1 h2
            go_wp2_with fail
            (with_reducible refine (RAK.out _).mono ?_)
            rintro e w2 ⟨rfl, o2⟩
            have A2 := Lib.hid (o2.still A.out)
            have B2 := Lib.hid (o2.still B.out)
            have C2 := Lib.hid (o2.still C.out)
            have D2 := Lib.hid (o2.still D.out)
            have O2 := Lib.hid (O.out.same o2)
            clear A B C D O o2 a0 a1 b0 b1
            obtain ⟨b0, b1⟩ := B2.out.two
            go_wp2_with fail
            (with_reducible refine (RBK.out _).mono ?_)
            rintro e w3 ⟨rfl, o2⟩
            have A3 := Lib.hid (o2.still A2.out)
            have B3 := Lib.hid (o2.still B2.out)
            have C3 := Lib.hid (o2.still C2.out)
            have D3 := Lib.hid (o2.still D2.out)
            have O3 := Lib.hid (O2.out.same o2)
            clear A2 B2 C2 D2 O2 o2 b0 b1
            obtain ⟨d0, d1⟩ := D3.out.two
            have f1 := D3.out.frozen 1
            go_wp2_with fail
            go_roundw
            case rel =>
              have G := GW.out
              refine ⟨k + 1, HK.out, by go_num, ?_, A3.out.far (by show g0 ≠ g3; omega) _, B3.out.far (by show g1 ≠ g3; omega) _, C3.out.far (by show g2 ≠ g3; omega) _, O3.out.new (by omega) _ _⟩
              rw [show ((k + 1 : Nat) : Int) = (k : Int) + 1 from rfl, MORE.out]
              exact D3.out.put 1 _
            case measure => have := HK.out; simp [intOf]; omega
        · rw [decide_eq_false h2] at RBK
          have MORE := Lib.hid (part_old (a := a) (b := b) (i := (k : Int)) (fun q => h2 q.2))
          clear h1 h2
          go_wp2_with fail
          (with_reducible refine (RAK.out _).mono ?_)
          rintro e w2 ⟨rfl, o2⟩
          have A2 := Lib.hid (o2.still A.out)
          have B2 := Lib.hid (o2.still B.out)
          have C2 := Lib.hid (o2.still C.out)
          have D2 := Lib.hid (o2.still D.out)
          have O2 := Lib.hid (O.out.same o2)
          clear A B C D O o2 a0 a1 b0 b1
          obtain ⟨b0, b1⟩ := B2.out.two
          go_wp2_with fail
          (with_reducible refine (RBK.out _).mono ?_)
          rintro e w3 ⟨rfl, o2⟩
          have A3 := Lib.hid (o2.still A2.out)
          have B3 := Lib.hid (o2.still B2.out)
          have C3 := Lib.hid (o2.still C2.out)
          have D3 := Lib.hid (o2.still D2.out)
          have O3 := Lib.hid (O2.out.same o2)
          clear A2 B2 C2 D2 O2 o2 b0 b1
          go_wp2_with fail
          go_roundw
          case rel => exact ⟨k + 1, HK.out, by go_num, by rw [show ((k + 1 : Nat) : Int) = (k : Int) + 1 from rfl, MORE.out]; exact D3.out, A3.out, B3.out, C3.out, O3.out⟩
          case measure => have := HK.out; simp [intOf]; omega
      · rw [decide_eq_false h1] at RAK
        have MORE := Lib.hid (part_old (a := a) (b := b) (i := (k : Int)) (fun q => h1 q.1))
        clear h1 RBK
        go_wp2_with fail
        (with_reducible refine (RAK.out _).mono ?_)
        rintro e w2 ⟨rfl, o2⟩
        have A2 := Lib.hid (o2.still A.out)
        have B2 := Lib.hid (o2.still B.out)
        have C2 := Lib.hid (o2.still C.out)
        have D2 := Lib.hid (o2.still D.out)
        have O2 := Lib.hid (O.out.same o2)
        clear A B C D O o2 a0 a1 b0 b1
        go_wp2_with fail
        go_roundw
        case rel => exact ⟨k + 1, HK.out, by go_num, by rw [show ((k + 1 : Nat) : Int) = (k : Int) + 1 from rfl, MORE.out]; exact D2.out, A2.out, B2.out, C2.out, O2.out⟩
        case measure => have := HK.out; simp [intOf]; omega
    · have e : k = 256 := by omega
      subst e
      have t0 : decide ((256 : Int) < 256) = false := by decide
      rw [show ((256 : Nat) : Int) = 256 from rfl, PA.out] at D
      have f0 := C.out.frozen 0
      have f1 := C.out.frozen 1
      obtain ⟨c0, c1⟩ := C.out.two
      obtain ⟨d0, d1⟩ := D.out.two
      go_wp2_with fail
      exact bodyPost_ret (results_run rfl _ _ g2 (meet a b) rfl ((C.out.put 0 _).put 1 _)) rfl ⟨rfl, (O.out.new (by have := GW.out; omega) _ _).new (by have := GW.out; omega) _ _⟩
end Go.Proofs.Ytobeoknaanbakaa
