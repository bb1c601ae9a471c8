/- Proved: the statement AmpAsks of layer 9, for every pace, every count, every degree and every disk, on no condition. -/
import Derived.Test.YtlpijieimidnoaaRows
import Derived.WalkKit
import Derived.ProofKit
import Derived.OpenShut
import Derived.Below
import Derived.Test.YtlpijieimidnoaaArgs
import Derived.Test.YtlpijieimidnoaaAmpAwake
import Derived.Deep.RegionHeld3
namespace Go.Proofs.Ytlpijieimidnoaa.ampAsks
open Go.ChangeShapes Go.WideShapes Go.ChangeAt Go.RowKit
set_option linter.unusedVariables false

theorem own : ownKnob Try.prog.godebug = none := by kernel_rfl
theorem laidOut : laidOutB Try.prog = true := by kernel_rfl

theorem asks_facts (f : Fl) (c d b : Int) (hm : f.May d b) (h1 : 1 ≤ c) (h8 : c ≤ 8) (hn : f.n + c ≤ b) :
    f.readC c d b = 0 ∧ f.trigger = f.a - 1 - f.g ∧
    (f.trigger ≤ f.n + c - 1 → (0 < (f.readR c d b).c ↔ max f.a (f.n + c) < b)) ∧ (¬ f.trigger ≤ f.n + c - 1 → ¬ 0 < (f.readR c d b).c) ∧
    (f.n < f.a → f.a ≤ f.n + c → (f.p < (f.readF c d b).p ↔ f.p < d)) ∧ (¬ f.n < f.a → ¬ f.p < (f.readF c d b).p) ∧ (f.n < f.a → ¬ f.a ≤ f.n + c → ¬ f.p < (f.readF c d b).p) := by
  obtain ⟨x1, x2, x3, x4, x5, x6, x7, x8, x9, x10, x11⟩ := hm
  have hc : f.readC c d b = 0 := by unfold Fl.readC; rw [if_pos ⟨⟨x1, x2, x3, x4, x5, x6, x7, x8, x9, x10, x11⟩, h1, h8⟩, if_pos hn]
  have ht : f.trigger = f.a - 1 - f.g := by unfold Fl.trigger; rw [if_pos]; omega
  have hr : f.readR c d b = (f.moved c d).askR b := by unfold Fl.readR; rw [if_pos hc]
  have hp : (f.readF c d b).p = (f.moved c d).p := by
    unfold Fl.readF Fl.askF
    rw [if_pos hc]
    split <;> rfl
  have ha : (f.moved c d).a = max f.a (f.n + c) := rfl
  have hk : (f.moved c d).n = f.n + c := rfl
  have hg : (f.moved c d).g = f.g := rfl
  have hq : (f.moved c d).p = if f.n < f.a ∧ f.a ≤ f.n + c then min (f.p + 1) d else f.p := rfl
  have p1 : 1 ≤ (f.moved c d).p := by rw [hq]; split <;> omega
  have hrc : ((f.moved c d).askR b).c = if (f.moved c d).a - (f.moved c d).n ≤ (f.moved c d).g ∧ (f.moved c d).room b ≠ 0 then (f.moved c d).room b else 0 := by
    unfold Fl.askR
    split <;> rfl
  have hro : (f.moved c d).room b = min (f.moved c d).p (b - (f.moved c d).a) := rfl
  rw [hr, hp, hrc, hro, ht, ha, hk, hg]
  refine ⟨hc, rfl, ?_, ?_, ?_, ?_, ?_⟩
  · intro h
    by_cases k : max f.a (f.n + c) - (f.n + c) ≤ f.g ∧ min (f.moved c d).p (b - max f.a (f.n + c)) ≠ 0
    · rw [if_pos k]; omega
    · rw [if_neg k]; omega
  · intro h
    rw [if_neg (by omega)]; omega
  · intro h h'
    rw [hq, if_pos ⟨h, h'⟩]; omega
  · intro h
    rw [hq, if_neg (fun k => h k.1)]; omega
  · intro h h'
    rw [hq, if_neg (fun k => h' k.2)]; omega

set_option maxHeartbeats 4000000 in
set_option maxRecDepth 100000 in
theorem walk (w : World) (f : Fl) (hf : f.Wf) (a1 : Int) (w1 : (Lit.int .u8 a1).wf = true) (s0 : Int) (ws0 : (Lit.int .u8 s0).wf = true) (s1 : Int) (ws1 : (Lit.int .u8 s1).wf = true) :
    Calls Try.prog 6 #[f.val, .int .u8 a1, .agg #[.int .u8 s0, .int .u8 s1]] w fun e w' => e = .returned (.bool true) ∧ Below w.heap.size w w' := by
  have x1 := bd_u8 w1
  have x2 := bd_u8 ws0
  have x3 := bd_u8 ws1
  clear w1 ws0 ws1
  obtain ⟨d, hd, y1, y16⟩ : ∃ d : Int, 1 + s0 % 16 = d ∧ 1 ≤ d ∧ d ≤ 16 := ⟨1 + s0 % 16, rfl, by omega, by omega⟩
  obtain ⟨b, hb, y2, y256⟩ : ∃ b : Int, 1 + s1 = b ∧ 1 ≤ b ∧ b ≤ 256 := ⟨1 + s1, rfl, by omega, by omega⟩
  obtain ⟨c, hc, y3, y8⟩ : ∃ c : Int, 1 + a1 % 8 = c ∧ 1 ≤ c ∧ c ≤ 8 := ⟨1 + a1 % 8, rfl, by omega, by omega⟩
  have RD := Lib.hid (fun w => read_any f c d b w)
  have RM := Lib.hid (fun w => rmay_any f d b w)
  have TR := Lib.hid (fun w => trigger_any f w hf)
  clear hf
  by_cases hm : f.May d b
  · rw [decide_eq_true hm] at RM
    have n0 := hm.n0; have na := hm.na; have ab := hm.ab
    have v1 : IntKind.i64.wrap (f.n + c) = f.n + c := by rw [IntKind.wrap_i64]; omega
    by_cases hn : f.n + c ≤ b
    · have t0 : decide (b < f.n + c) = false := by simp only [decide_eq_false_iff_not]; omega
      have FX := Lib.hid (asks_facts f c d b hm y3 y8 hn)
      have v2 : IntKind.i64.wrap (f.n + c - 1) = f.n + c - 1 := by rw [IntKind.wrap_i64]; omega
      rw [FX.out.1] at RD
      clear n0 na ab hm hn
      have XX := Lib.hid (show (∃ y, decide (f.trigger ≤ f.n + c - 1) = true ∧ decide (max f.a (f.n + c) < b) = y ∧ decide (0 < (f.readR c d b).c) = y) ∨ (decide (f.trigger ≤ f.n + c - 1) = false ∧ decide (0 < (f.readR c d b).c) = false) from by
        obtain ⟨_, _, q3, q4, _, _, _⟩ := FX.out
        by_cases k : f.trigger ≤ f.n + c - 1
        · exact Or.inl ⟨_, decide_eq_true k, rfl, decide_eq_decide.2 (q3 k)⟩
        · exact Or.inr ⟨decide_eq_false k, decide_eq_false (q4 k)⟩)
      have ZZ := Lib.hid (show (∃ z, decide (f.n < f.a) = true ∧ decide (f.a ≤ f.n + c) = true ∧ decide (f.p < d) = z ∧ decide (f.p < (f.readF c d b).p) = z) ∨ (decide (f.n < f.a) = true ∧ decide (f.a ≤ f.n + c) = false ∧ decide (f.p < (f.readF c d b).p) = false) ∨ (decide (f.n < f.a) = false ∧ decide (f.p < (f.readF c d b).p) = false) from by
        obtain ⟨_, _, _, _, q5, q6, q7⟩ := FX.out
        by_cases k : f.n < f.a
        · by_cases k' : f.a ≤ f.n + c
          · exact Or.inl ⟨_, decide_eq_true k, decide_eq_true k', rfl, decide_eq_decide.2 (q5 k k')⟩
          · exact Or.inr (Or.inl ⟨decide_eq_true k, decide_eq_false k', decide_eq_false (q7 k k')⟩)
        · exact Or.inr (Or.inr ⟨decide_eq_false k, decide_eq_false (q6 k)⟩))
      clear FX
      generalize f.readF c d b = k at *
      generalize f.readR c d b = r at *
      generalize f.trigger = t at *
      unfold Fl.val at RD TR
      unfold Rn.val at RD
      unfold Fl.val at RM ⊢
      go_enter Try.func6, Try.ntmps6
      go_wp2_with fail
      have R0 := Lib.hid ((Row.fresh w 23 #[.int .i64 f.n, .int .i64 f.a, .int .i64 f.p, .int .i64 f.g]).alloc (.cells #[.int .u8 s0, .int .u8 s1] 37))
      have r1 := Row.fresh (w.alloc (.cells #[.int .i64 f.n, .int .i64 f.a, .int .i64 f.p, .int .i64 f.g] 23)) 37 #[.int .u8 s0, .int .u8 s1]
      rw [World.size_alloc] at r1
      have R1 := Lib.hid r1
      have OA := Lib.hid (((Only.refl none_ w).alloc (.cells #[.int .i64 f.n, .int .i64 f.a, .int .i64 f.p, .int .i64 f.g] 23)).alloc (.cells #[.int .u8 s0, .int .u8 s1] 37))
      clear r1
      generalize (w.alloc (.cells #[.int .i64 f.n, .int .i64 f.a, .int .i64 f.p, .int .i64 f.g] 23)).alloc (.cells #[.int .u8 s0, .int .u8 s1] 37) = W1 at *
      generalize w.heap.size + 1 = b1 at R1 ⊢
      generalize w.heap.size = b0 at R0 ⊢
      (with_reducible refine (awake_any _).mono ?_)
      rintro e w1 ⟨rfl, o⟩
      have OB := Lib.hid (OA.out.same o)
      have S0 := Lib.hid (o.still R0.out)
      have S1 := Lib.hid (o.still R1.out)
      obtain ⟨c0, c1, c2, c3⟩ := S0.out.four
      obtain ⟨d0, d1⟩ := S1.out.two
      clear R0 R1 OA o
      go_wp2_with fail
      (with_reducible refine (RM.out _).mono ?_)
      rintro e w2 ⟨rfl, o⟩
      have OC := Lib.hid (OB.out.same o.only)
      have T0 := Lib.hid (o.only.still S0.out)
      clear c0 c1 c2 c3 d0 d1 OB S0 S1 o
      obtain ⟨c0, c1, c2, c3⟩ := T0.out.four
      go_wp2_with fail
      (with_reducible refine (RD.out _).mono ?_)
      rintro e w3 ⟨rfl, o⟩
      have OD := Lib.hid (((OC.out.same o).alloc (.cells #[.int .i64 k.n, .int .i64 k.a, .int .i64 k.p, .int .i64 k.g] 23)).alloc (.cells #[.int .i64 r.f, .int .i64 r.c] 27))
      have S0 := Lib.hid (((o.still T0.out).alloc (.cells #[.int .i64 k.n, .int .i64 k.a, .int .i64 k.p, .int .i64 k.g] 23)).alloc (.cells #[.int .i64 r.f, .int .i64 r.c] 27))
      have S2 := Lib.hid ((Row.fresh w3 23 #[.int .i64 k.n, .int .i64 k.a, .int .i64 k.p, .int .i64 k.g]).alloc (.cells #[.int .i64 r.f, .int .i64 r.c] 27))
      have r3 := Row.fresh (w3.alloc (.cells #[.int .i64 k.n, .int .i64 k.a, .int .i64 k.p, .int .i64 k.g] 23)) 27 #[.int .i64 r.f, .int .i64 r.c]
      rw [World.size_alloc] at r3
      have S3 := Lib.hid r3
      clear o OC T0 c0 c1 c2 c3 r3 x1 x2 x3 hd hb hc y1 y16 y2 y256 y3 y8
      go_wp2_with fail
      generalize (w3.alloc (.cells #[.int .i64 k.n, .int .i64 k.a, .int .i64 k.p, .int .i64 k.g] 23)).alloc (.cells #[.int .i64 r.f, .int .i64 r.c] 27) = W3 at *
      generalize w3.heap.size + 1 = b3 at S3 ⊢
      generalize w3.heap.size = b2 at S2 ⊢
      have ND := Lib.hid (Only.refl none_ W3).drew
      have KK := Lib.hid (fun (w' : World) (o : Only none_ W3 w') => (o.still S0.out).four)
      obtain ⟨c0, c1, c2, c3⟩ := KK.out _ ND.out
      rcases XX.out with ⟨y, p1, p2, p3⟩ | ⟨p1, p3⟩
      · go_region_held3 (fun w' => w'.cell? ⟨b0, 0, none⟩ = some (.int .i64 f.n) ∧ w'.cell? ⟨b0, 1, none⟩ = some (.int .i64 f.a) ∧ w'.cell? ⟨b0, 2, none⟩ = some (.int .i64 f.p) ∧ w'.cell? ⟨b0, 3, none⟩ = some (.int .i64 f.g))
          (first
            | (with_reducible exact KK.out _ Q1.out)
            | (with_reducible exact KK.out _ ND.out)
            | fail)
          (first
            | (go_at_call 18; (with_reducible refine (TR.out _).mono ?_); rintro e u1 ⟨rfl, o1⟩; have Q1 := Lib.hid (ND.out.same o1))
            | fail)
        rename_i hHeld
        clear hHeld o1 c0 c1 c2 c3
        obtain ⟨c0, c1, c2, c3⟩ := (Q1.out.still S0.out).four
        obtain ⟨d0, d1, d2, d3⟩ := (Q1.out.still S2.out).four
        obtain ⟨e0, e1⟩ := (Q1.out.still S3.out).two
        rcases ZZ.out with ⟨z, q1, q2, q3, q4⟩ | ⟨q1, q2, q4⟩ | ⟨q1, q4⟩
        all_goals
          go_wp2_with fail
          go_ret
          exact ⟨rfl, (OD.out.same Q1.out).to_below9⟩
      · refine wp_region_held_drew (S := (fun w' => w'.cell? ⟨b0, 0, none⟩ = some (.int .i64 f.n) ∧ w'.cell? ⟨b0, 1, none⟩ = some (.int .i64 f.a) ∧ w'.cell? ⟨b0, 2, none⟩ = some (.int .i64 f.p) ∧ w'.cell? ⟨b0, 3, none⟩ = some (.int .i64 f.g))) (by kernel_rfl) ⟨c0, c1, c2, c3⟩ (fun hHeld => ?_)
        refine wpAnyH_take (i := 0) (v := ?_) rfl (by kernel_rfl) (by kernel_rfl) (by kernel_rfl) (fun _ _ _ h => h) (Or.inl ⟨by rfl, ?_⟩) (by assumption) ?_
        rotate_left
        · intro w hSw; (try dsimp only at hSw); go_simp
          try with_reducible rfl
        simp only [Act.put, List.getElem_toArray, List.getElem_cons_zero, List.setIfInBounds_toArray, List.set_cons_zero, List.set_cons_succ]
        refine wpAnyH_take (i := 1) (v := ?_) rfl (by kernel_rfl) (by kernel_rfl) (by kernel_rfl) (fun _ _ _ h => h) (Or.inl ⟨by rfl, ?_⟩) (by assumption) ?_
        rotate_left
        · intro w hSw; (try dsimp only at hSw); go_simp
          try with_reducible rfl
        simp only [Act.put, List.getElem_toArray, List.getElem_cons_succ, List.getElem_cons_zero, List.setIfInBounds_toArray, List.set_cons_zero, List.set_cons_succ]
        refine wpAnyH_take (i := 2) (v := ?_) rfl (by kernel_rfl) (by kernel_rfl) (by kernel_rfl) (fun _ _ _ h => h) (Or.inl ⟨by rfl, ?_⟩) (by assumption) ?_
        rotate_left
        · intro w hSw; (try dsimp only at hSw); go_simp
          try with_reducible rfl
        simp only [Act.put, List.getElem_toArray, List.getElem_cons_succ, List.getElem_cons_zero, List.setIfInBounds_toArray, List.set_cons_zero, List.set_cons_succ]
        refine wpAnyH_take (i := 3) (v := ?_) rfl (by kernel_rfl) (by kernel_rfl) (by kernel_rfl) (fun _ _ _ h => h) (Or.inl ⟨by rfl, ?_⟩) (by assumption) ?_
        rotate_left
        · intro w hSw; (try dsimp only at hSw); go_simp
          try with_reducible rfl
        simp only [Act.put, List.getElem_toArray, List.getElem_cons_succ, List.getElem_cons_zero, List.setIfInBounds_toArray, List.set_cons_zero, List.set_cons_succ]
        refine wpAnyH_take (i := 4) (v := ?_) rfl (by kernel_rfl) (by kernel_rfl) (by kernel_rfl) (fun _ _ _ h => h) (Or.inl ⟨by rfl, ?_⟩) (by assumption) ?_
        rotate_left
        · intro w hSw; (try dsimp only at hSw); go_simp
          try with_reducible rfl
        simp only [Act.put, List.getElem_toArray, List.getElem_cons_succ, List.getElem_cons_zero, List.setIfInBounds_toArray, List.set_cons_zero, List.set_cons_succ]
        refine wpAnyH_take (i := 5) (v := ?_) rfl (by kernel_rfl) (by kernel_rfl) (by kernel_rfl) (fun _ _ _ h => h) (Or.inl ⟨by rfl, ?_⟩) (by assumption) ?_
        rotate_left
        · intro w hSw; (try dsimp only at hSw); go_simp
          try with_reducible rfl
        simp only [Act.put, List.getElem_toArray, List.getElem_cons_succ, List.getElem_cons_zero, List.setIfInBounds_toArray, List.set_cons_zero, List.set_cons_succ]
        refine wpAnyH_ready (rs := [6]) (by kernel_rfl) (by simp) ?_
        refine AllReadyH.cons rfl (fun K hK => ?_) AllReadyH.nil
        go_simp
        go_wp2_with fail
        (with_reducible refine (TR.out _).mono ?_)
        rintro e u1 ⟨rfl, o1⟩
        have Q1 := Lib.hid (ND.out.same o1)
        go_simp
        refine hK.out _ _ (KK.out _ Q1.out) (fun hHeld => ?_)
        clear hK K
        refine wpAnyH_take (i := 7) (v := ?_) rfl (by kernel_rfl) (by kernel_rfl) (by kernel_rfl) (fun _ _ _ h => h) (Or.inl ⟨by rfl, ?_⟩) (by assumption) ?_
        rotate_left
        · intro w hSw; (try dsimp only at hSw); go_simp
          try with_reducible rfl
        simp only [Act.put, List.getElem_toArray, List.getElem_cons_succ, List.getElem_cons_zero, List.setIfInBounds_toArray, List.set_cons_zero, List.set_cons_succ]
        refine wpAnyH_take (i := 8) (v := ?_) rfl (by kernel_rfl) (by kernel_rfl) (by kernel_rfl) (fun _ _ _ h => h) (Or.inl ⟨by rfl, ?_⟩) (by assumption) ?_
        rotate_left
        · intro w hSw; (try dsimp only at hSw); go_simp
          try with_reducible rfl
        simp only [Act.put, List.getElem_toArray, List.getElem_cons_succ, List.getElem_cons_zero, List.setIfInBounds_toArray, List.set_cons_zero, List.set_cons_succ]
        refine wpAnyH_take (i := 9) (v := undef) rfl (by kernel_rfl) (by kernel_rfl) (by kernel_rfl) (fun _ _ _ h => h) (Or.inr ⟨by rfl, rfl⟩) (by assumption) ?_
        simp only [Act.put, List.getElem_toArray, List.getElem_cons_succ, List.getElem_cons_zero, List.setIfInBounds_toArray, List.set_cons_zero, List.set_cons_succ]
        refine wpAnyH_take (i := 10) (v := undef) rfl (by kernel_rfl) (by kernel_rfl) (by kernel_rfl) (fun _ _ _ h => h) (Or.inr ⟨by rfl, rfl⟩) (by assumption) ?_
        simp only [Act.put, List.getElem_toArray, List.getElem_cons_succ, List.getElem_cons_zero, List.setIfInBounds_toArray, List.set_cons_zero, List.set_cons_succ]
        refine wpAnyH_take (i := 11) (v := undef) rfl (by kernel_rfl) (by kernel_rfl) (by kernel_rfl) (fun _ _ _ h => h) (Or.inr ⟨by rfl, rfl⟩) (by assumption) ?_
        simp only [Act.put, List.getElem_toArray, List.getElem_cons_succ, List.getElem_cons_zero, List.setIfInBounds_toArray, List.set_cons_zero, List.set_cons_succ]
        refine wpAnyH_take (i := 12) (v := undef) rfl (by kernel_rfl) (by kernel_rfl) (by kernel_rfl) (fun _ _ _ h => h) (Or.inr ⟨by rfl, rfl⟩) (by assumption) ?_
        simp only [Act.put, List.getElem_toArray, List.getElem_cons_succ, List.getElem_cons_zero, List.setIfInBounds_toArray, List.set_cons_zero, List.set_cons_succ]
        refine wpAnyH_take (i := 13) (v := undef) rfl (by kernel_rfl) (by kernel_rfl) (by kernel_rfl) (fun _ _ _ h => h) (Or.inr ⟨by rfl, rfl⟩) (by assumption) ?_
        simp only [Act.put, List.getElem_toArray, List.getElem_cons_succ, List.getElem_cons_zero, List.setIfInBounds_toArray, List.set_cons_zero, List.set_cons_succ]
        refine wpAnyH_take (i := 14) (v := undef) rfl (by kernel_rfl) (by kernel_rfl) (by kernel_rfl) (fun _ _ _ h => h) (Or.inr ⟨by rfl, rfl⟩) (by assumption) ?_
        simp only [Act.put, List.getElem_toArray, List.getElem_cons_succ, List.getElem_cons_zero, List.setIfInBounds_toArray, List.set_cons_zero, List.set_cons_succ]
        refine wpAnyH_take (i := 15) (v := undef) rfl (by kernel_rfl) (by kernel_rfl) (by kernel_rfl) (fun _ _ _ h => h) (Or.inr ⟨by rfl, rfl⟩) (by assumption) ?_
        simp only [Act.put, List.getElem_toArray, List.getElem_cons_succ, List.getElem_cons_zero, List.setIfInBounds_toArray, List.set_cons_zero, List.set_cons_succ]
        refine wpAnyH_take (i := 16) (v := undef) rfl (by kernel_rfl) (by kernel_rfl) (by kernel_rfl) (fun _ _ _ h => h) (Or.inr ⟨by rfl, rfl⟩) (by assumption) ?_
        simp only [Act.put, List.getElem_toArray, List.getElem_cons_succ, List.getElem_cons_zero, List.setIfInBounds_toArray, List.set_cons_zero, List.set_cons_succ]
        refine wpAnyH_take (i := 17) (v := undef) rfl (by kernel_rfl) (by kernel_rfl) (by kernel_rfl) (fun _ _ _ h => h) (Or.inr ⟨by rfl, rfl⟩) (by assumption) ?_
        simp only [Act.put, List.getElem_toArray, List.getElem_cons_succ, List.getElem_cons_zero, List.setIfInBounds_toArray, List.set_cons_zero, List.set_cons_succ]
        refine wpAnyH_take (i := 18) (v := ?_) rfl (by kernel_rfl) (by kernel_rfl) (by kernel_rfl) (fun _ _ _ h => h) (Or.inl ⟨by rfl, ?_⟩) (by assumption) ?_
        rotate_left
        · intro w hSw; (try dsimp only at hSw); go_simp
          try with_reducible rfl
        simp only [Act.put, List.getElem_toArray, List.getElem_cons_succ, List.getElem_cons_zero, List.setIfInBounds_toArray, List.set_cons_zero, List.set_cons_succ]
        refine wpAnyH_take (i := 19) (v := ?_) rfl (by kernel_rfl) (by kernel_rfl) (by kernel_rfl) (fun _ _ _ h => h) (Or.inl ⟨by rfl, ?_⟩) (by assumption) ?_
        rotate_left
        · intro w hSw; (try dsimp only at hSw); go_simp
          try with_reducible rfl
        simp only [Act.put, List.getElem_toArray, List.getElem_cons_succ, List.getElem_cons_zero, List.setIfInBounds_toArray, List.set_cons_zero, List.set_cons_succ]
        refine wpAnyH_done (by kernel_rfl) ?_ _
        clear hHeld o1 c0 c1 c2 c3
        obtain ⟨c0, c1, c2, c3⟩ := (Q1.out.still S0.out).four
        obtain ⟨d0, d1, d2, d3⟩ := (Q1.out.still S2.out).four
        obtain ⟨e0, e1⟩ := (Q1.out.still S3.out).two
        rcases ZZ.out with ⟨z, q1, q2, q3, q4⟩ | ⟨q1, q2, q4⟩ | ⟨q1, q4⟩
        all_goals
          go_wp2_with fail
          go_ret
          exact ⟨rfl, (OD.out.same Q1.out).to_below9⟩
    · have t0 : decide (b < f.n + c) = true := by simp only [decide_eq_true_eq]; omega
      clear RD TR hm n0 na ab hn
      unfold Fl.val at RM ⊢
      go_enter Try.func6, Try.ntmps6
      go_wp2_with fail
      have R0 := Lib.hid ((Row.fresh w 23 #[.int .i64 f.n, .int .i64 f.a, .int .i64 f.p, .int .i64 f.g]).alloc (.cells #[.int .u8 s0, .int .u8 s1] 37))
      have r1 := Row.fresh (w.alloc (.cells #[.int .i64 f.n, .int .i64 f.a, .int .i64 f.p, .int .i64 f.g] 23)) 37 #[.int .u8 s0, .int .u8 s1]
      rw [World.size_alloc] at r1
      have R1 := Lib.hid r1
      have OA := Lib.hid (((Only.refl none_ w).alloc (.cells #[.int .i64 f.n, .int .i64 f.a, .int .i64 f.p, .int .i64 f.g] 23)).alloc (.cells #[.int .u8 s0, .int .u8 s1] 37))
      clear r1
      generalize (w.alloc (.cells #[.int .i64 f.n, .int .i64 f.a, .int .i64 f.p, .int .i64 f.g] 23)).alloc (.cells #[.int .u8 s0, .int .u8 s1] 37) = W1 at *
      generalize w.heap.size + 1 = b1 at R1 ⊢
      generalize w.heap.size = b0 at R0 ⊢
      (with_reducible refine (awake_any _).mono ?_)
      rintro e w1 ⟨rfl, o⟩
      have OB := Lib.hid (OA.out.same o)
      have S0 := Lib.hid (o.still R0.out)
      have S1 := Lib.hid (o.still R1.out)
      obtain ⟨c0, c1, c2, c3⟩ := S0.out.four
      obtain ⟨d0, d1⟩ := S1.out.two
      clear R0 R1 OA o
      go_wp2_with fail
      (with_reducible refine (RM.out _).mono ?_)
      rintro e w2 ⟨rfl, o⟩
      have OC := Lib.hid (OB.out.same o.only)
      have T0 := Lib.hid (o.only.still S0.out)
      clear c0 c1 c2 c3 d0 d1 OB S0 S1 o
      obtain ⟨c0, c1, c2, c3⟩ := T0.out.four
      go_wp2_with fail
      go_ret
      exact ⟨rfl, OC.out.to_below9⟩
  · rw [decide_eq_false hm] at RM
    clear RD TR hm
    unfold Fl.val at RM ⊢
    go_enter Try.func6, Try.ntmps6
    go_wp2_with fail
    have R0 := Lib.hid ((Row.fresh w 23 #[.int .i64 f.n, .int .i64 f.a, .int .i64 f.p, .int .i64 f.g]).alloc (.cells #[.int .u8 s0, .int .u8 s1] 37))
    have r1 := Row.fresh (w.alloc (.cells #[.int .i64 f.n, .int .i64 f.a, .int .i64 f.p, .int .i64 f.g] 23)) 37 #[.int .u8 s0, .int .u8 s1]
    rw [World.size_alloc] at r1
    have R1 := Lib.hid r1
    have OA := Lib.hid (((Only.refl none_ w).alloc (.cells #[.int .i64 f.n, .int .i64 f.a, .int .i64 f.p, .int .i64 f.g] 23)).alloc (.cells #[.int .u8 s0, .int .u8 s1] 37))
    clear r1
    generalize (w.alloc (.cells #[.int .i64 f.n, .int .i64 f.a, .int .i64 f.p, .int .i64 f.g] 23)).alloc (.cells #[.int .u8 s0, .int .u8 s1] 37) = W1 at *
    generalize w.heap.size + 1 = b1 at R1 ⊢
    generalize w.heap.size = b0 at R0 ⊢
    (with_reducible refine (awake_any _).mono ?_)
    rintro e w1 ⟨rfl, o⟩
    have OB := Lib.hid (OA.out.same o)
    have S0 := Lib.hid (o.still R0.out)
    have S1 := Lib.hid (o.still R1.out)
    obtain ⟨c0, c1, c2, c3⟩ := S0.out.four
    obtain ⟨d0, d1⟩ := S1.out.two
    clear R0 R1 OA o
    go_wp2_with fail
    (with_reducible refine (RM.out _).mono ?_)
    rintro e w2 ⟨rfl, o⟩
    have OC := Lib.hid (OB.out.same o.only)
    have T0 := Lib.hid (o.only.still S0.out)
    clear c0 c1 c2 c3 d0 d1 OB S0 S1 o
    obtain ⟨c0, c1, c2, c3⟩ := T0.out.four
    go_wp2_with fail
    go_ret
    exact ⟨rfl, OC.out.to_below9⟩


set_option maxRecDepth 100000 in
theorem lifted (os : Os) (started : os.Started) (H : Type) (enc : TypeId × Value → H) :
    ReturnsInHanded {} Try.checked os 6 .any (Rows.ampAsksSpec.pre6 enc Try.prog Try.f6 Rows.ampAsksRow.domain false) (Rows.ampAsksSpec.post enc Try.prog Try.f6 false true false false) := by
  refine returnsInHanded_of_change (C := Try.checked) own started (by kernel_rfl) Try.func6
    (ChangeSpec.witness6 (enc := enc) (C := Try.checked) false ⟨#[], #[.agg #[.int .i64 0, .int .i64 0, .int .i64 0, .int .i64 0], .int .u8 0, .agg #[.int .u8 0, .int .u8 0]], []⟩ 8 (by kernel_rfl) (by kernel_rfl) (by kernel_rfl) (by kernel_rfl)) ?_
  intro W base args ds gs before hval0 hW hcnd _
  have hval : ∀ (j : Nat) t v, Try.f6.params[j]? = some t → args[j]? = some v → Value.okWide Try.prog W .any base t v := hval0
  have hW' := hW
  obtain ⟨p, q, hA0, hV, rfl, hfz, hnd⟩ := hW
  have hA : DataW.TrodAll enc Try.prog W 0 (fun _ => true) true Try.f6.params.toList args.toList ds p := hA0
  rw [Try.params6] at hA hval
  obtain ⟨v0, vs0, d0, ds0, p0, q0, hargs, rfl, rfl, h0, r0⟩ := trodAll_cons hA
  obtain ⟨v1, vs1, d1, ds1, p1, q1, rfl, rfl, rfl, h1, r1⟩ := trodAll_cons r0
  obtain ⟨v2, vs2, d2, ds2, p2, q2, rfl, rfl, rfl, h2, r2⟩ := trodAll_cons r1
  obtain ⟨rfl, rfl, rfl⟩ := trodAll_nil r2
  obtain rfl : args = #[v0, v1, v2] := by cases args; simp_all
  obtain ⟨rfl, rfl⟩ := trodVars_none hV
  have o0 := hval 0 23 v0 rfl rfl
  have k0 := h0
  have lt0 : ∀ x ∈ p0, x.block < W.heap.size := by obtain ⟨m, hm⟩ := k0; exact DataW.trod_lt m _ _ _ hm
  obtain ⟨a0, rfl, wa0⟩ := open_flow W base H enc v0 d0 p0 o0 h0
  obtain ⟨a1, rfl, rfl, rfl, w1⟩ := open_int Try.underlying5 (hval 1 5 v1 rfl rfl) h1
  have o2 := hval 2 37 v2 rfl rfl
  have k2 := h2
  have lt2 : ∀ x ∈ p2, x.block < W.heap.size := by obtain ⟨m, hm⟩ := k2; exact DataW.trod_lt m _ _ _ hm
  obtain ⟨a2, b2, rfl, wa2, wb2⟩ := open_pair8 W base H enc v2 d2 p2 o2 h2
  have shut : ∀ W', Below W.heap.size W W' → DataW.TrodAll enc Try.prog W' 0 (fun b => decide (b < W.heap.size)) true [23, 5, 37] [a0.val, .int .u8 a1, .agg #[.int .u8 a2, .int .u8 b2]] [d0, .lit (.int .u8 a1), d2] (p0 ++ ([] ++ (p2 ++ []))) := fun W' bel =>
    (trodAll_cons_mk (Below.trod laidOut (by kernel_rfl) (of_decide_eq_true (by kernel_rfl)) k0 bel lt0) (trodAll_cons_mk (shut_int Try.underlying5 w1) (trodAll_cons_mk (Below.trod laidOut (by kernel_rfl) (of_decide_eq_true (by kernel_rfl)) k2 bel lt2) trodAll_mk0)))
  clear hA0 hval0
  refine (walk W a0 wa0 a1 w1 a2 wa2 b2 wb2).mono fun e W' ⟨he, bel⟩ => ?_
  subst he
  exact ⟨_, rfl, _, _, _, [], _, [], hW', trodAll_mk1 (shut_bool Try.underlying4 _), shut W' bel, rfl, bel.frame _, fun h => by cases h⟩

theorem over : Rows.ampAsksRow.holds Try.pinned (OpenSpec.ofChange Rows.ampAsksSpec) :=
  OpenClaim.holds_of_wide 6 Try.f6 rfl rfl rfl rfl rfl rfl rfl ⟨rfl, rfl, rfl, rfl, rfl⟩ rfl rfl rfl rfl rfl (by kernel_rfl) Try.func6 (by kernel_rfl)
    (of_decide_eq_true (by kernel_rfl)) (by unfold Func.isWrapper; first | (rw [if_pos (by decide +kernel)]; kernel_rfl) | (rw [if_neg (by decide +kernel)]; exact ⟨rfl, rfl⟩))
    (fun os started H enc _ => lifted os started H enc)

theorem ampAsks_holds : Rows.AmpAsksSaid := over
#print axioms ampAsks_holds
end Go.Proofs.Ytlpijieimidnoaa.ampAsks
