/- What an operation may be, of the kinds that have blocks: package ask's own look at it. No condition but what each says. -/
import Derived.Test.YtnhcgnmanonmaaaDoorAp
namespace Go.Proofs.YtnhcgnmanonmaaaDoor
open Go.RowKit
set_option linter.unusedVariables false

set_option maxHeartbeats 4000000 in
theorem may_1 (o : Opn) (w : World) (m : Bool) (hk : o.kind = 1) (ht : o.M → m = true) (hf : ¬ o.M → m = false) :
    Calls Tryd.prog 19 #[o.val] w fun e w' => e = .returned (.bool m) ∧ Only none_ w w' := by
  obtain ⟨k, i, f, c, A, l, p, b⟩ := o
  have HT := Lib.hid ht
  have HF := Lib.hid hf
  clear ht hf
  have OB := Lib.hid (Only.refl none_ w)
  unfold Opn.val
  dsimp only at hk ⊢
  subst hk
  by_cases hi : 1 ≤ i
  · skip
    go_enter Tryd.func19, Tryd.ntmps19
    go_wp2_with fail
    have R := Lib.hid (Row.fresh w 34 #[.int .i64 1, .int .i64 0, .int .i64 f, .int .i64 c, .slice A l p, .bool b])
    have O1 := Lib.hid (OB.out.alloc (.cells #[.int .i64 1, .int .i64 0, .int .i64 f, .int .i64 c, .slice A l p, .bool b] 34))
    (with_reducible refine (has_any _ _ _ _).mono ?_)
    rintro e w2 ⟨rfl, o⟩
    have O2 := Lib.hid (O1.out.same o)
    have R2 := Lib.hid (o.still R.out)
    clear o R O1
    obtain ⟨c0, c1, c2, c3, c4, c5⟩ := R2.out.six
    obtain ⟨f0, f1, f2, f3, f4, f5⟩ := R2.out.melt
    cases q : inB 1 8 c with
    | false =>
      have hq : ¬ (1 ≤ c ∧ c ≤ 8) := of_decide_eq_false q
      have MF := Lib.hid (HF.out (by simp [Opn.M]; omega))
      clear q hq HT HF
      go_wp2_with fail
      go_ret
      rw [MF.out]
      exact ⟨rfl, O2.out⟩
    | true =>
      have hq : 1 ≤ c ∧ c ≤ 8 := of_decide_eq_true q
      have HQ := Lib.hid hq
      clear q hq
      cases b
      all_goals
        go_wp2_with fail
      all_goals
        go_ret
        have hq := HQ.out
        refine ⟨?_, ?_⟩
      all_goals
        first
        | exact (O2.out.new (Nat.le_refl _) _ _).new (Nat.le_refl _) _ _
        | (rw [HF.out (by simp [Opn.M]; omega)]; done)
        | (rw [HF.out (by simp [Opn.M]; omega)]; rfl)
        | (rw [HF.out (by simp [Opn.M])]; rfl)
        | (rw [HT.out (by simp [Opn.M]; omega)]; done)
        | (rw [HT.out (by simp [Opn.M]; omega)]; rfl)
        | (rw [HT.out (by simp [Opn.M])]; rfl)
        | fail
  · go_enter Tryd.func19, Tryd.ntmps19
    go_wp2_with fail
    go_ret
    rw [HF.out (by simp [Opn.M]; omega)]
    exact ⟨rfl, OB.out.alloc _⟩
set_option maxHeartbeats 4000000 in
theorem may_2 (o : Opn) (w : World) (m : Bool) (hk : o.kind = 2) (ht : o.M → m = true) (hf : ¬ o.M → m = false) :
    Calls Tryd.prog 19 #[o.val] w fun e w' => e = .returned (.bool m) ∧ Only none_ w w' := by
  obtain ⟨k, i, f, c, A, l, p, b⟩ := o
  have HT := Lib.hid ht
  have HF := Lib.hid hf
  clear ht hf
  have OB := Lib.hid (Only.refl none_ w)
  unfold Opn.val
  dsimp only at hk ⊢
  subst hk
  by_cases hc : c = 0
  · subst hc
    by_cases hi : 1 ≤ i
    · skip
      go_enter Tryd.func19, Tryd.ntmps19
      go_wp2_with fail
      have R := Lib.hid (Row.fresh w 34 #[.int .i64 2, .int .i64 0, .int .i64 f, .int .i64 (l : Int), .slice none 0 0, .bool b])
      have O1 := Lib.hid (OB.out.alloc (.cells #[.int .i64 2, .int .i64 0, .int .i64 f, .int .i64 (l : Int), .slice none 0 0, .bool b] 34))
      (with_reducible refine (has_any _ _ _ _).mono ?_)
      rintro e w2 ⟨rfl, o⟩
      have O2 := Lib.hid (O1.out.same o)
      have R2 := Lib.hid (o.still R.out)
      clear o R O1
      obtain ⟨c0, c1, c2, c3, c4, c5⟩ := R2.out.six
      obtain ⟨f0, f1, f2, f3, f4, f5⟩ := R2.out.melt
      cases q : inB 1 8 (l : Int) with
      | false =>
        have hq : ¬ (1 ≤ (l : Int) ∧ (l : Int) ≤ 8) := of_decide_eq_false q
        have MF := Lib.hid (HF.out (by simp [Opn.M]; omega))
        clear q hq HT HF
        go_wp2_with fail
        go_ret
        rw [MF.out]
        exact ⟨rfl, O2.out⟩
      | true =>
        have hq : 1 ≤ (l : Int) ∧ (l : Int) ≤ 8 := of_decide_eq_true q
        have HQ := Lib.hid hq
        clear q hq
        cases b
        all_goals
          go_wp2_with fail
        all_goals
          go_ret
          have hq := HQ.out
          refine ⟨?_, ?_⟩
        all_goals
          first
          | exact (O2.out.new (Nat.le_refl _) _ _).new (Nat.le_refl _) _ _
          | (rw [HF.out (by simp [Opn.M]; omega)]; done)
          | (rw [HF.out (by simp [Opn.M]; omega)]; rfl)
          | (rw [HF.out (by simp [Opn.M])]; rfl)
          | (rw [HT.out (by simp [Opn.M]; omega)]; done)
          | (rw [HT.out (by simp [Opn.M]; omega)]; rfl)
          | (rw [HT.out (by simp [Opn.M])]; rfl)
          | fail
    · go_enter Tryd.func19, Tryd.ntmps19
      go_wp2_with fail
      go_ret
      rw [HF.out (by simp [Opn.M]; omega)]
      exact ⟨rfl, OB.out.alloc _⟩
  · go_enter Tryd.func19, Tryd.ntmps19
    go_wp2_with fail
    go_ret
    rw [HF.out (by simp [Opn.M]; omega)]
    exact ⟨rfl, OB.out.alloc _⟩
set_option maxHeartbeats 4000000 in
theorem may_3 (o : Opn) (w : World) (m : Bool) (hk : o.kind = 3) (ht : o.M → m = true) (hf : ¬ o.M → m = false) :
    Calls Tryd.prog 19 #[o.val] w fun e w' => e = .returned (.bool m) ∧ Only none_ w w' := by
  obtain ⟨k, i, f, c, A, l, p, b⟩ := o
  have HT := Lib.hid ht
  have HF := Lib.hid hf
  clear ht hf
  have OB := Lib.hid (Only.refl none_ w)
  unfold Opn.val
  dsimp only at hk ⊢
  subst hk
  go_enter Tryd.func19, Tryd.ntmps19
  go_wp2_with fail
  have R := Lib.hid (Row.fresh w 34 #[.int .i64 3, .int .i64 i, .int .i64 f, .int .i64 c, .slice A l p, .bool b])
  have O1 := Lib.hid (OB.out.alloc (.cells #[.int .i64 3, .int .i64 i, .int .i64 f, .int .i64 c, .slice A l p, .bool b] 34))
  (with_reducible refine (has_any _ _ _ _).mono ?_)
  rintro e w2 ⟨rfl, o⟩
  have O2 := Lib.hid (O1.out.same o)
  have R2 := Lib.hid (o.still R.out)
  clear o R O1
  obtain ⟨c0, c1, c2, c3, c4, c5⟩ := R2.out.six
  obtain ⟨f0, f1, f2, f3, f4, f5⟩ := R2.out.melt
  cases q : inB 1 8 c with
  | false =>
    have hq : ¬ (1 ≤ c ∧ c ≤ 8) := of_decide_eq_false q
    have MF := Lib.hid (HF.out (by simp [Opn.M]; omega))
    clear q hq HT HF
    go_wp2_with fail
    go_ret
    rw [MF.out]
    exact ⟨rfl, O2.out⟩
  | true =>
    have hq : 1 ≤ c ∧ c ≤ 8 := of_decide_eq_true q
    have HQ := Lib.hid hq
    clear q hq
    cases b
    all_goals
      go_wp2_with fail
    all_goals
      go_ret
      have hq := HQ.out
      refine ⟨?_, ?_⟩
    all_goals
      first
      | exact (O2.out.new (Nat.le_refl _) _ _).new (Nat.le_refl _) _ _
      | (rw [HF.out (by simp [Opn.M]; omega)]; done)
      | (rw [HF.out (by simp [Opn.M]; omega)]; rfl)
      | (rw [HF.out (by simp [Opn.M])]; rfl)
      | (rw [HT.out (by simp [Opn.M]; omega)]; done)
      | (rw [HT.out (by simp [Opn.M]; omega)]; rfl)
      | (rw [HT.out (by simp [Opn.M])]; rfl)
      | fail
theorem may_any (o : Opn) (w : World) (m : Bool) (ht : o.M → m = true) (hf : ¬ o.M → m = false) :
    Calls Tryd.prog 19 #[o.val] w fun e w' => e = .returned (.bool m) ∧ Only none_ w w' := by
  by_cases h1 : o.kind = 1
  · exact may_1 o w m h1 ht hf
  by_cases h2 : o.kind = 2
  · exact may_2 o w m h2 ht hf
  by_cases h3 : o.kind = 3
  · exact may_3 o w m h3 ht hf
  by_cases h4 : o.kind = 4
  · exact may_4 o w m h4 ht hf
  by_cases h5 : o.kind = 5
  · exact may_5 o w m h5 ht hf
  exact may_other o w m h1 h2 h3 h4 h5 hf
end Go.Proofs.YtnhcgnmanonmaaaDoor
