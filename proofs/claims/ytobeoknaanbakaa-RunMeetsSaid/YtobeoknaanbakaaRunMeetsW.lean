/- The walk through RunMeets's own text. -/
import Derived.WalkKit
import Derived.ProofKit
import Derived.OpenShut
import Derived.Below
import Derived.Test.YtobeoknaanbakaaArgs
import Derived.Test.YtobeoknaanbakaaRunAw
import Derived.Test.YtobeoknaanbakaaActs13
import Derived.Deep.RegionHeld3
namespace Go.Proofs.Ytobeoknaanbakaa.runMeets
open Go.ChangeShapes Go.WideShapes Go.ChangeAt Go.RowKit
set_option linter.unusedVariables false


set_option maxHeartbeats 1000000 in
set_option maxRecDepth 100000 in
theorem walk (w : World) (a : Rn) (wa : a.Wf) (b : Rn) (wb : b.Wf) (c : Rn) (wc : c.Wf) :
    Calls Try.prog 6 #[a.val, b.val, c.val] w fun e w' => e = .returned (.bool true) ∧ Below w.heap.size w w' := by
  clear wa wb wc
  have M1 := Lib.hid (fun w' => meet_any b a w')
  have M2 := Lib.hid (fun w' => meet_any a b w')
  have M3 := Lib.hid (fun w' => meet_any (meet a b) c w')
  have M4 := Lib.hid (fun w' => meet_any b c w')
  have M5 := Lib.hid (fun w' => meet_any a (meet b c) w')
  have M6 := Lib.hid (fun w' => meet_any a (meet a b) w')
  have MI := Lib.hid (fun (h : a.Ok) => meet_inside (b := b) h)
  have MN := Lib.hid (fun (h : ¬ a.Ok) => meet_bad (b := b) h)
  rw [meet_comm] at M1
  rw [← meet_assoc] at M5
  rw [meet_left] at M6
  generalize meet (meet a b) c = p at *
  generalize meet a b = m at *
  generalize meet b c = q at *
  have KA := Lib.hid (fun w' => rmay_any a w')
  have er1 := fun w => eq_rn m m w
  have er2 := fun w => eq_rn p p w
  simp only [decide_true] at er1 er2
  unfold Rn.val at *
  go_enter Try.func6, Try.ntmps6
  go_wp2_with fail
  obtain ⟨q0, q1, q2, q3⟩ := three_new w 27 27 27 #[.int .i64 a.f, .int .i64 a.c] #[.int .i64 b.f, .int .i64 b.c] #[.int .i64 c.f, .int .i64 c.c]
  (with_reducible refine (awake_any _).mono ?_)
  rintro e w1 ⟨rfl, o⟩
  have A1 := Lib.hid (o.still q0)
  have B1 := Lib.hid (o.still q1)
  have C1 := Lib.hid (o.still q2)
  have O1 := Lib.hid (q3.same o)
  clear o q0 q1 q2 q3
  revert A1 B1 C1
  generalize w.heap.size + 1 + 1 = gc
  generalize w.heap.size + 1 = gb
  generalize hga : w.heap.size = ga
  intro A1 B1 C1
  have GA := Lib.hid hga
  clear hga
  obtain ⟨a0, a1⟩ := A1.out.two
  obtain ⟨b0, b1⟩ := B1.out.two
  obtain ⟨c0, c1⟩ := C1.out.two
  go_wp2_with fail
  (with_reducible refine (M2.out _).mono ?_)
  rintro e w2 ⟨rfl, o⟩
  have A2 := Lib.hid ((o.still A1.out).alloc (.cells #[.int .i64 m.f, .int .i64 m.c] 27))
  have B2 := Lib.hid ((o.still B1.out).alloc (.cells #[.int .i64 m.f, .int .i64 m.c] 27))
  have C2 := Lib.hid ((o.still C1.out).alloc (.cells #[.int .i64 m.f, .int .i64 m.c] 27))
  have D2 := Lib.hid (Row.fresh w2 27 #[.int .i64 m.f, .int .i64 m.c])
  have O2 := Lib.hid ((O1.out.same o).alloc (.cells #[.int .i64 m.f, .int .i64 m.c] 27))
  clear o A1 B1 C1 O1 a0 a1 b0 b1 c0 c1
  go_wp2_with fail
  revert A2 B2 C2 D2 O2
  generalize w2.alloc (.cells #[.int .i64 m.f, .int .i64 m.c] 27) = W2
  generalize w2.heap.size = gx
  intro A2 B2 C2 D2 O2
  have ND := Lib.hid (Only.refl none_ W2).drew
  have KK := Lib.hid (fun (w' : World) (o : Only none_ W2 w') => And.intro (o.still A2.out).two (And.intro (o.still B2.out).two (And.intro (o.still C2.out).two (o.still D2.out).two)))
  obtain ⟨⟨a0, a1⟩, ⟨b0, b1⟩, ⟨c0, c1⟩, d0, d1⟩ := KK.out _ ND.out
  go_region_held3 (fun w' => (w'.cell? ⟨ga, 0, none⟩ = some (.int .i64 a.f) ∧ w'.cell? ⟨ga, 1, none⟩ = some (.int .i64 a.c)) ∧ (w'.cell? ⟨gb, 0, none⟩ = some (.int .i64 b.f) ∧ w'.cell? ⟨gb, 1, none⟩ = some (.int .i64 b.c)) ∧ (w'.cell? ⟨gc, 0, none⟩ = some (.int .i64 c.f) ∧ w'.cell? ⟨gc, 1, none⟩ = some (.int .i64 c.c)) ∧ (w'.cell? ⟨gx, 0, none⟩ = some (.int .i64 m.f) ∧ w'.cell? ⟨gx, 1, none⟩ = some (.int .i64 m.c)))
    (first
      | (with_reducible exact KK.out _ Q6.out)
      | (with_reducible exact KK.out _ Q5.out)
      | (with_reducible exact KK.out _ Q4.out)
      | (with_reducible exact KK.out _ Q3.out)
      | (with_reducible exact KK.out _ Q2.out)
      | (with_reducible exact KK.out _ Q1.out)
      | (with_reducible exact KK.out _ ND.out)
      | fail)
    (first
      | (go_at_call 13; (with_reducible refine (M1.out _).mono ?_); rintro e u1 ⟨rfl, o1⟩; have Q1 := Lib.hid (ND.out.same o1))
      | (go_at_call 13; (with_reducible refine (M2.out _).mono ?_); rintro e u2 ⟨rfl, o2⟩; have Q2 := Lib.hid (Q1.out.same o2))
      | (go_at_call 13; (with_reducible refine (M3.out _).mono ?_); rintro e u3 ⟨rfl, o3⟩; have Q3 := Lib.hid (Q2.out.same o3))
      | (go_at_call 13; (with_reducible refine (M4.out _).mono ?_); rintro e u4 ⟨rfl, o4⟩; have Q4 := Lib.hid (Q3.out.same o4))
      | (go_at_call 13; (with_reducible refine (M5.out _).mono ?_); rintro e u5 ⟨rfl, o5⟩; have Q5 := Lib.hid (Q4.out.same o5))
      | (go_at_call 13; (with_reducible refine (M6.out _).mono ?_); rintro e u6 ⟨rfl, o6⟩; have Q6 := Lib.hid (Q5.out.same o6))
      | fail)
  have A3 := Lib.hid (Q6.out.still A2.out)
  have B3 := Lib.hid (Q6.out.still B2.out)
  have D3 := Lib.hid (Q6.out.still D2.out)
  have O3 := Lib.hid (O2.out.same Q6.out)
  clear Q1 Q2 Q3 Q4 Q5 Q6 ND KK A2 B2 C2 D2 O2 a0 a1 b0 b1 c0 c1 d0 d1 o1 o2 o3 o4 o5 o6 M1 M2 M3 M4 M5 M6 er1 er2
  by_cases ha : a.Ok
  · rw [decide_eq_true ha] at KA
    have KB := Lib.hid (fun w' => rmay_any b w')
    unfold Rn.val at KB
    have MAA := Lib.hid (fun w' => show Calls Try.prog 13 #[.agg #[.int .i64 a.f, .int .i64 a.c], .agg #[.int .i64 a.f, .int .i64 a.c]] w' (fun e w'' => e = .returned (.agg #[.int .i64 a.f, .int .i64 a.c]) ∧ Only none_ w' w'') from by
      have := meet_any a a w'
      rw [meet_self ha] at this
      exact this)
    obtain ⟨n, hn⟩ := Int.eq_ofNat_of_zero_le (show 0 ≤ a.c by unfold Rn.Ok at ha; omega)
    have BA := Lib.hid (fun w' => show Calls Try.prog 16 #[.agg #[.int .i64 a.f, .int .i64 a.c]] w' (fun e w'' => ∃ A cap, e = .returned (.slice A n cap) ∧ Only none_ w' w'') from by
      refine (blocks_any a w').mono ?_
      rintro e w'' ⟨v, rfl, hv, o⟩
      obtain ⟨A, cap, hv2, _⟩ := Reads.of_owns hv
      refine ⟨A, cap, ?_, o⟩
      rw [hv2, blocks_len ha, hn]
      rfl)
    have nn : ((n : Int) == a.c) = true := by simp [hn]
    have mi := MI.out ha
    have AOK := Lib.hid ha
    have er1 := fun w => eq_rn a a w
    have er2 := fun w => eq_rn m a w
    simp only [decide_true] at er1
    have HN := Lib.hid hn
    clear MI MN ha hn
    have ways : ∃ x : Bool, decide (b.Ok ∧ b.f ≤ a.f ∧ a.f + a.c ≤ b.f + b.c) = x ∧ ((decide b.Ok = false ∧ x = false) ∨ (decide b.Ok = true ∧ decide (b.f ≤ a.f) = false ∧ x = false) ∨ (decide b.Ok = true ∧ decide (b.f ≤ a.f) = true ∧ decide (a.f + a.c ≤ b.f + b.c) = x ∧ IntKind.i64.wrap (a.f + a.c) = a.f + a.c ∧ IntKind.i64.wrap (b.f + b.c) = b.f + b.c)) := by
      refine ⟨_, rfl, ?_⟩
      by_cases h1 : b.Ok
      · by_cases h2 : b.f ≤ a.f
        · refine .inr (.inr ⟨decide_eq_true h1, decide_eq_true h2, ?_, ?_, ?_⟩)
          · rw [Bool.eq_iff_iff]
            simp [h1, h2]
          · have := AOK.out
            unfold Rn.Ok at this
            rw [IntKind.wrap_i64]; omega
          · unfold Rn.Ok at h1
            rw [IntKind.wrap_i64]; omega
        · exact .inr (.inl ⟨decide_eq_true h1, decide_eq_false h2, decide_eq_false (fun z => h2 z.2.1)⟩)
      · exact .inl ⟨decide_eq_false h1, decide_eq_false (fun z => h1 z.1)⟩
    obtain ⟨x, hx, ways⟩ := ways
    rw [hx] at mi
    rw [mi] at er2
    have xx : (x == x) = true := by simp
    clear hx mi
    obtain ⟨a0, a1⟩ := A3.out.two
    go_wp2_with fail
    (with_reducible refine (KA.out _).mono ?_)
    rintro e w4 ⟨rfl, o⟩
    have A4 := Lib.hid (o.still A3.out)
    have B4 := Lib.hid (o.still B3.out)
    have D4 := Lib.hid (o.still D3.out)
    have O4 := Lib.hid (O3.out.same o)
    clear o A3 B3 D3 O3 a0 a1 KA
    obtain ⟨b0, b1⟩ := B4.out.two
    go_wp2_with fail
    rcases ways with ⟨h1, rfl⟩ | ⟨h1, h2, rfl⟩ | ⟨h1, h2, h3, v1, v2⟩
    all_goals
      rw [h1] at KB
      (with_reducible refine (KB.out _).mono ?_)
      rintro e w5 ⟨rfl, o⟩
      have A5 := Lib.hid (o.still A4.out)
      have B5 := Lib.hid (o.still B4.out)
      have D5 := Lib.hid (o.still D4.out)
      have O5 := Lib.hid (O4.out.same o)
      clear o A4 B4 D4 O4 b0 b1 KB
      obtain ⟨a0, a1⟩ := A5.out.two
      obtain ⟨b0, b1⟩ := B5.out.two
      go_wp2_with fail
      clear a0 a1 b0 b1
      have ND := Lib.hid (Only.refl none_ w5).drew
      have KK := Lib.hid (fun (w' : World) (o : Only none_ w5 w') => And.intro (o.still A5.out).two (o.still D5.out).two)
      obtain ⟨⟨a0, a1⟩, d0, d1⟩ := KK.out _ ND.out
      go_region_held3 (fun w' => (w'.cell? ⟨ga, 0, none⟩ = some (.int .i64 a.f) ∧ w'.cell? ⟨ga, 1, none⟩ = some (.int .i64 a.c)) ∧ (w'.cell? ⟨gx, 0, none⟩ = some (.int .i64 m.f) ∧ w'.cell? ⟨gx, 1, none⟩ = some (.int .i64 m.c)))
        (first
          | (with_reducible exact KK.out _ Q2.out)
          | (with_reducible exact KK.out _ Q1.out)
          | (with_reducible exact KK.out _ ND.out)
          | fail)
        (first
          | (go_at_call 13; (with_reducible refine (MAA.out _).mono ?_); rintro e u1 ⟨rfl, o1⟩; have Q1 := Lib.hid (ND.out.same o1))
          | (go_at_call 16; (with_reducible refine (BA.out _).mono ?_); rintro e u2 ⟨A, cap, rfl, o2⟩; have Q2 := Lib.hid (Q1.out.same o2))
          | fail)
      go_wp2_with fail
      go_ret
      exact ⟨rfl, (O5.out.same Q2.out).to_below13⟩
  · rw [decide_eq_false ha] at KA
    obtain rfl := MN.out ha
    have er := fun w => eq_rn ⟨0, 0⟩ ⟨0, 0⟩ w
    simp only [decide_true] at er
    clear MI MN ha
    obtain ⟨a0, a1⟩ := A3.out.two
    go_wp2_with fail
    (with_reducible refine (KA.out _).mono ?_)
    rintro e w4 ⟨rfl, o⟩
    have O4 := Lib.hid (O3.out.same o)
    obtain ⟨d0, d1⟩ := (o.still D3.out).two
    clear o A3 B3 D3 O3 a0 a1
    go_wp2_with fail
    go_ret
    exact ⟨rfl, O4.out.to_below13⟩



end Go.Proofs.Ytobeoknaanbakaa.runMeets
