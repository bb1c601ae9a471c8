/- The document's own Op and Run. No condition but what each says. -/
import Derived.Test.YtnhcgnmanonmaaaDoorAr
namespace Go.Proofs.YtnhcgnmanonmaaaDoor
open Go.RowKit
set_option linter.unusedVariables false

set_option maxHeartbeats 4000000 in
theorem rop_1 (b : Int) (o : Opn) (w : World) (hk : o.kind = 1) (hf : -9223372036854775808 ≤ o.first ∧ o.first ≤ 9223372036854775807) :
    Calls Tryd.prog 14 #[.int .i64 b, o.val] w fun e w' => e = .returned (.int .i64 (opC b o)) ∧ Only none_ w w' := by
  have HF := Lib.hid hf
  have CM := Lib.hid (fun (h : ¬ (1 ≤ b ∧ b ≤ 256 ∧ o.M)) => show opC b o = 1 from if_neg h)
  have CR := Lib.hid (fun (h : 1 ≤ b ∧ b ≤ 256 ∧ o.M) (k : o.R b) => show opC b o = 6 from by unfold opC; rw [if_pos h, if_pos k])
  have CO := Lib.hid (fun (h : 1 ≤ b ∧ b ≤ 256 ∧ o.M) (k : ¬ o.R b) => show opC b o = 0 from by unfold opC; rw [if_pos h, if_neg k])
  clear hf
  revert CM CR CO
  generalize opC b o = z
  intro CM CR CO
  have RC := Lib.hid (fun w' => rcount_any o w' (by omega))
  obtain ⟨k, i, f, c, A, l, p, bl⟩ := o
  dsimp only at hk
  subst hk
  unfold Opn.val Opn.n at RC
  dsimp only at RC
  unfold Opn.val
  dsimp only
  have OB := Lib.hid ((Only.refl none_ w).alloc (.cells #[.int .i64 1, .int .i64 i, .int .i64 f, .int .i64 c, .slice A l p, .bool bl] 34))
  have HM := Lib.hid (show Opn.M ⟨1, i, f, c, A, l, p, bl⟩ ↔ (1 ≤ i ∧ 1 ≤ c ∧ c ≤ 8 ∧ l = 0 ∧ bl = false) from by simp [Opn.M])
  by_cases h : 1 ≤ b ∧ b ≤ 256 ∧ 1 ≤ i ∧ l = 0 ∧ bl = false
  · obtain ⟨hb1, hb2, hi, hl, rfl⟩ := h
    skip
    subst hl
    have HB := Lib.hid hb1
    go_enter Tryd.func14, Tryd.ntmps14
    go_wp2_with fail
    have RB := Lib.hid (Row.fresh w 34 #[.int .i64 1, .int .i64 i, .int .i64 f, .int .i64 c, .slice A 0 p, .bool false])
    (with_reducible refine (RC.out _).mono ?_)
    rintro e w2 ⟨rfl, o⟩
    have O2 := Lib.hid (OB.out.same o)
    have R2 := Lib.hid (o.still RB.out)
    clear o RB OB
    obtain ⟨c0, c1, c2, c3, c4, c5⟩ := R2.out.six
    by_cases hn : 1 ≤ c ∧ c ≤ 8
    · obtain ⟨hn1, hn2⟩ := hn
      have HN := Lib.hid hn1
      have hf1 := HF.out.1
      have hf2 := HF.out.2
      go_wp2_with fail
      all_goals
        go_ret
        refine ⟨?_, O2.out⟩
        have hb1 := HB.out
        have hn1 := HN.out
      all_goals
        first
        | (rw [CR.out ⟨by omega, by omega, HM.out.2 (by (try simp); omega)⟩ (by simp only [Opn.R]; omega)]; done)
        | (rw [CR.out ⟨by omega, by omega, HM.out.2 (by (try simp); omega)⟩ (by simp only [Opn.R]; omega)]; rfl)
        | (rw [CO.out ⟨by omega, by omega, HM.out.2 (by (try simp); omega)⟩ (by simp only [Opn.R]; omega)]; done)
        | (rw [CO.out ⟨by omega, by omega, HM.out.2 (by (try simp); omega)⟩ (by simp only [Opn.R]; omega)]; rfl)
        | fail
    · have MF := Lib.hid (CM.out (fun h => hn (by have hm := HM.out.1 h.2.2; first | (simp at hm; done) | (simp at hm; omega) | omega)))
      have hq : c < 1 ∨ 8 < c := by omega
      clear hn
      rcases hq with hq | hq
      all_goals
        go_wp2_with fail
        go_ret
        rw [MF.out]
        exact ⟨rfl, O2.out⟩
  · have MF := Lib.hid (CM.out (fun q => h (by have hm := HM.out.1 q.2.2; exact ⟨q.1, q.2.1, hm.1, hm.2.2.2.1, hm.2.2.2.2⟩)))
    have WAY : b < 1 ∨ (1 ≤ b ∧ 256 < b) ∨ (1 ≤ b ∧ b ≤ 256 ∧ ¬ (1 ≤ i)) ∨ (1 ≤ b ∧ b ≤ 256 ∧ 1 ≤ i ∧ ¬ (l = 0)) ∨ (1 ≤ b ∧ b ≤ 256 ∧ 1 ≤ i ∧ l = 0 ∧ bl = true) := by
      cases bl <;> simp at h ⊢ <;> omega
    clear HM CM CR CO RC HF h
    rcases WAY with h1 | ⟨h1, h2⟩ | ⟨h1, h2, h3⟩ | ⟨h1, h2, h3, h4⟩ | ⟨h1, h2, h3, h4, h5⟩
    · skip
      go_enter Tryd.func14, Tryd.ntmps14
      go_wp2_with fail
      all_goals
        go_ret
        rw [MF.out]
        exact ⟨rfl, (Only.refl none_ w).alloc _⟩
    · skip
      go_enter Tryd.func14, Tryd.ntmps14
      go_wp2_with fail
      all_goals
        go_ret
        rw [MF.out]
        exact ⟨rfl, (Only.refl none_ w).alloc _⟩
    · skip
      have h6 : i < 1 := by omega
      clear h3
      go_enter Tryd.func14, Tryd.ntmps14
      go_wp2_with fail
      all_goals
        go_ret
        rw [MF.out]
        exact ⟨rfl, (Only.refl none_ w).alloc _⟩
    · skip
      have h6 : 0 < l := by omega
      clear h4
      go_enter Tryd.func14, Tryd.ntmps14
      go_wp2_with fail
      all_goals
        go_ret
        rw [MF.out]
        exact ⟨rfl, (Only.refl none_ w).alloc _⟩
    · skip
      subst h4
      subst h5
      go_enter Tryd.func14, Tryd.ntmps14
      go_wp2_with fail
      all_goals
        go_ret
        rw [MF.out]
        exact ⟨rfl, (Only.refl none_ w).alloc _⟩
set_option maxHeartbeats 4000000 in
theorem rop_2 (b : Int) (o : Opn) (w : World) (hk : o.kind = 2) (hf : -9223372036854775808 ≤ o.first ∧ o.first ≤ 9223372036854775807) :
    Calls Tryd.prog 14 #[.int .i64 b, o.val] w fun e w' => e = .returned (.int .i64 (opC b o)) ∧ Only none_ w w' := by
  have HF := Lib.hid hf
  have CM := Lib.hid (fun (h : ¬ (1 ≤ b ∧ b ≤ 256 ∧ o.M)) => show opC b o = 1 from if_neg h)
  have CR := Lib.hid (fun (h : 1 ≤ b ∧ b ≤ 256 ∧ o.M) (k : o.R b) => show opC b o = 6 from by unfold opC; rw [if_pos h, if_pos k])
  have CO := Lib.hid (fun (h : 1 ≤ b ∧ b ≤ 256 ∧ o.M) (k : ¬ o.R b) => show opC b o = 0 from by unfold opC; rw [if_pos h, if_neg k])
  clear hf
  revert CM CR CO
  generalize opC b o = z
  intro CM CR CO
  have RC := Lib.hid (fun w' => rcount_any o w' (by omega))
  obtain ⟨k, i, f, c, A, l, p, bl⟩ := o
  dsimp only at hk
  subst hk
  unfold Opn.val Opn.n at RC
  dsimp only at RC
  unfold Opn.val
  dsimp only
  have OB := Lib.hid ((Only.refl none_ w).alloc (.cells #[.int .i64 2, .int .i64 i, .int .i64 f, .int .i64 c, .slice A l p, .bool bl] 34))
  have HM := Lib.hid (show Opn.M ⟨2, i, f, c, A, l, p, bl⟩ ↔ (1 ≤ i ∧ c = 0 ∧ 1 ≤ l ∧ l ≤ 8 ∧ bl = false) from by simp [Opn.M])
  by_cases h : 1 ≤ b ∧ b ≤ 256 ∧ 1 ≤ i ∧ c = 0 ∧ bl = false
  · obtain ⟨hb1, hb2, hi, hl, rfl⟩ := h
    skip
    subst hl
    have HB := Lib.hid hb1
    go_enter Tryd.func14, Tryd.ntmps14
    go_wp2_with fail
    have RB := Lib.hid (Row.fresh w 34 #[.int .i64 2, .int .i64 i, .int .i64 f, .int .i64 0, .slice A l p, .bool false])
    (with_reducible refine (RC.out _).mono ?_)
    rintro e w2 ⟨rfl, o⟩
    have O2 := Lib.hid (OB.out.same o)
    have R2 := Lib.hid (o.still RB.out)
    clear o RB OB
    obtain ⟨c0, c1, c2, c3, c4, c5⟩ := R2.out.six
    by_cases hn : 1 ≤ (l : Int) ∧ (l : Int) ≤ 8
    · obtain ⟨hn1, hn2⟩ := hn
      have HN := Lib.hid hn1
      have hf1 := HF.out.1
      have hf2 := HF.out.2
      go_wp2_with fail
      all_goals
        go_ret
        refine ⟨?_, O2.out⟩
        have hb1 := HB.out
        have hn1 := HN.out
      all_goals
        first
        | (rw [CR.out ⟨by omega, by omega, HM.out.2 (by (try simp); omega)⟩ (by simp only [Opn.R]; omega)]; done)
        | (rw [CR.out ⟨by omega, by omega, HM.out.2 (by (try simp); omega)⟩ (by simp only [Opn.R]; omega)]; rfl)
        | (rw [CO.out ⟨by omega, by omega, HM.out.2 (by (try simp); omega)⟩ (by simp only [Opn.R]; omega)]; done)
        | (rw [CO.out ⟨by omega, by omega, HM.out.2 (by (try simp); omega)⟩ (by simp only [Opn.R]; omega)]; rfl)
        | fail
    · have MF := Lib.hid (CM.out (fun h => hn (by have hm := HM.out.1 h.2.2; first | (simp at hm; done) | (simp at hm; omega) | omega)))
      have hq : (l : Int) < 1 ∨ 8 < (l : Int) := by omega
      clear hn
      rcases hq with hq | hq
      all_goals
        go_wp2_with fail
        go_ret
        rw [MF.out]
        exact ⟨rfl, O2.out⟩
  · have MF := Lib.hid (CM.out (fun q => h (by have hm := HM.out.1 q.2.2; exact ⟨q.1, q.2.1, hm.1, hm.2.1, hm.2.2.2.2⟩)))
    have WAY : b < 1 ∨ (1 ≤ b ∧ 256 < b) ∨ (1 ≤ b ∧ b ≤ 256 ∧ ¬ (1 ≤ i)) ∨ (1 ≤ b ∧ b ≤ 256 ∧ 1 ≤ i ∧ ¬ (c = 0) ∧ bl = false) ∨ (1 ≤ b ∧ b ≤ 256 ∧ 1 ≤ i ∧ bl = true) := by
      cases bl <;> simp at h ⊢ <;> omega
    clear HM CM CR CO RC HF h
    rcases WAY with h1 | ⟨h1, h2⟩ | ⟨h1, h2, h3⟩ | ⟨h1, h2, h3, h4, h5⟩ | ⟨h1, h2, h3, h5⟩
    · skip
      go_enter Tryd.func14, Tryd.ntmps14
      go_wp2_with fail
      all_goals
        go_ret
        rw [MF.out]
        exact ⟨rfl, (Only.refl none_ w).alloc _⟩
    · skip
      go_enter Tryd.func14, Tryd.ntmps14
      go_wp2_with fail
      all_goals
        go_ret
        rw [MF.out]
        exact ⟨rfl, (Only.refl none_ w).alloc _⟩
    · skip
      have h6 : i < 1 := by omega
      clear h3
      go_enter Tryd.func14, Tryd.ntmps14
      go_wp2_with fail
      all_goals
        go_ret
        rw [MF.out]
        exact ⟨rfl, (Only.refl none_ w).alloc _⟩
    · skip
      subst h5
      have h6 : (c != 0) = true := by simpa using h4
      clear h4
      go_enter Tryd.func14, Tryd.ntmps14
      go_wp2_with fail
      all_goals
        go_ret
        rw [MF.out]
        exact ⟨rfl, (Only.refl none_ w).alloc _⟩
    · skip
      subst h5
      go_enter Tryd.func14, Tryd.ntmps14
      go_wp2_with fail
      all_goals
        go_ret
        rw [MF.out]
        exact ⟨rfl, (Only.refl none_ w).alloc _⟩
set_option maxHeartbeats 4000000 in
theorem rop_3 (b : Int) (o : Opn) (w : World) (hk : o.kind = 3) (hf : -9223372036854775808 ≤ o.first ∧ o.first ≤ 9223372036854775807) :
    Calls Tryd.prog 14 #[.int .i64 b, o.val] w fun e w' => e = .returned (.int .i64 (opC b o)) ∧ Only none_ w w' := by
  have HF := Lib.hid hf
  have CM := Lib.hid (fun (h : ¬ (1 ≤ b ∧ b ≤ 256 ∧ o.M)) => show opC b o = 1 from if_neg h)
  have CR := Lib.hid (fun (h : 1 ≤ b ∧ b ≤ 256 ∧ o.M) (k : o.R b) => show opC b o = 6 from by unfold opC; rw [if_pos h, if_pos k])
  have CO := Lib.hid (fun (h : 1 ≤ b ∧ b ≤ 256 ∧ o.M) (k : ¬ o.R b) => show opC b o = 0 from by unfold opC; rw [if_pos h, if_neg k])
  clear hf
  revert CM CR CO
  generalize opC b o = z
  intro CM CR CO
  have RC := Lib.hid (fun w' => rcount_any o w' (by omega))
  obtain ⟨k, i, f, c, A, l, p, bl⟩ := o
  dsimp only at hk
  subst hk
  unfold Opn.val Opn.n at RC
  dsimp only at RC
  unfold Opn.val
  dsimp only
  have OB := Lib.hid ((Only.refl none_ w).alloc (.cells #[.int .i64 3, .int .i64 i, .int .i64 f, .int .i64 c, .slice A l p, .bool bl] 34))
  have HM := Lib.hid (show Opn.M ⟨3, i, f, c, A, l, p, bl⟩ ↔ (i = 0 ∧ 1 ≤ c ∧ c ≤ 8 ∧ l = 0 ∧ bl = false) from by simp [Opn.M])
  by_cases h : 1 ≤ b ∧ b ≤ 256 ∧ i = 0 ∧ l = 0 ∧ bl = false
  · obtain ⟨hb1, hb2, hi, hl, rfl⟩ := h
    subst hi
    subst hl
    have HB := Lib.hid hb1
    go_enter Tryd.func14, Tryd.ntmps14
    go_wp2_with fail
    have RB := Lib.hid (Row.fresh w 34 #[.int .i64 3, .int .i64 0, .int .i64 f, .int .i64 c, .slice A 0 p, .bool false])
    (with_reducible refine (RC.out _).mono ?_)
    rintro e w2 ⟨rfl, o⟩
    have O2 := Lib.hid (OB.out.same o)
    have R2 := Lib.hid (o.still RB.out)
    clear o RB OB
    obtain ⟨c0, c1, c2, c3, c4, c5⟩ := R2.out.six
    by_cases hn : 1 ≤ c ∧ c ≤ 8
    · obtain ⟨hn1, hn2⟩ := hn
      have HN := Lib.hid hn1
      have hf1 := HF.out.1
      have hf2 := HF.out.2
      go_wp2_with fail
      all_goals
        go_ret
        refine ⟨?_, O2.out⟩
        have hb1 := HB.out
        have hn1 := HN.out
      all_goals
        first
        | (rw [CR.out ⟨by omega, by omega, HM.out.2 (by (try simp); omega)⟩ (by simp only [Opn.R]; omega)]; done)
        | (rw [CR.out ⟨by omega, by omega, HM.out.2 (by (try simp); omega)⟩ (by simp only [Opn.R]; omega)]; rfl)
        | (rw [CO.out ⟨by omega, by omega, HM.out.2 (by (try simp); omega)⟩ (by simp only [Opn.R]; omega)]; done)
        | (rw [CO.out ⟨by omega, by omega, HM.out.2 (by (try simp); omega)⟩ (by simp only [Opn.R]; omega)]; rfl)
        | fail
    · have MF := Lib.hid (CM.out (fun h => hn (by have hm := HM.out.1 h.2.2; first | (simp at hm; done) | (simp at hm; omega) | omega)))
      have hq : c < 1 ∨ 8 < c := by omega
      clear hn
      rcases hq with hq | hq
      all_goals
        go_wp2_with fail
        go_ret
        rw [MF.out]
        exact ⟨rfl, O2.out⟩
  · have MF := Lib.hid (CM.out (fun q => h (by have hm := HM.out.1 q.2.2; exact ⟨q.1, q.2.1, hm.1, hm.2.2.2.1, hm.2.2.2.2⟩)))
    have WAY : b < 1 ∨ (1 ≤ b ∧ 256 < b) ∨ (1 ≤ b ∧ b ≤ 256 ∧ ¬ (i = 0)) ∨ (1 ≤ b ∧ b ≤ 256 ∧ i = 0 ∧ ¬ (l = 0)) ∨ (1 ≤ b ∧ b ≤ 256 ∧ i = 0 ∧ l = 0 ∧ bl = true) := by
      cases bl <;> simp at h ⊢ <;> omega
    clear HM CM CR CO RC HF h
    rcases WAY with h1 | ⟨h1, h2⟩ | ⟨h1, h2, h3⟩ | ⟨h1, h2, h3, h4⟩ | ⟨h1, h2, h3, h4, h5⟩
    · skip
      go_enter Tryd.func14, Tryd.ntmps14
      go_wp2_with fail
      all_goals
        go_ret
        rw [MF.out]
        exact ⟨rfl, (Only.refl none_ w).alloc _⟩
    · skip
      go_enter Tryd.func14, Tryd.ntmps14
      go_wp2_with fail
      all_goals
        go_ret
        rw [MF.out]
        exact ⟨rfl, (Only.refl none_ w).alloc _⟩
    · skip
      have h6 : (i != 0) = true := by simpa using h3
      clear h3
      go_enter Tryd.func14, Tryd.ntmps14
      go_wp2_with fail
      all_goals
        go_ret
        rw [MF.out]
        exact ⟨rfl, (Only.refl none_ w).alloc _⟩
    · skip
      subst h3
      have h6 : 0 < l := by omega
      clear h4
      go_enter Tryd.func14, Tryd.ntmps14
      go_wp2_with fail
      all_goals
        go_ret
        rw [MF.out]
        exact ⟨rfl, (Only.refl none_ w).alloc _⟩
    · skip
      subst h3
      subst h4
      subst h5
      go_enter Tryd.func14, Tryd.ntmps14
      go_wp2_with fail
      all_goals
        go_ret
        rw [MF.out]
        exact ⟨rfl, (Only.refl none_ w).alloc _⟩
set_option maxHeartbeats 4000000 in
theorem rop_4 (b : Int) (o : Opn) (w : World) (hk : o.kind = 4) (hf : -9223372036854775808 ≤ o.first ∧ o.first ≤ 9223372036854775807) :
    Calls Tryd.prog 14 #[.int .i64 b, o.val] w fun e w' => e = .returned (.int .i64 (opC b o)) ∧ Only none_ w w' := by
  have HF := Lib.hid hf
  have CM := Lib.hid (fun (h : ¬ (1 ≤ b ∧ b ≤ 256 ∧ o.M)) => show opC b o = 1 from if_neg h)
  have CR := Lib.hid (fun (h : 1 ≤ b ∧ b ≤ 256 ∧ o.M) (k : o.R b) => show opC b o = 6 from by unfold opC; rw [if_pos h, if_pos k])
  have CO := Lib.hid (fun (h : 1 ≤ b ∧ b ≤ 256 ∧ o.M) (k : ¬ o.R b) => show opC b o = 0 from by unfold opC; rw [if_pos h, if_neg k])
  clear hf
  revert CM CR CO
  generalize opC b o = z
  intro CM CR CO
  obtain ⟨k, i, f, c, A, l, p, bl⟩ := o
  dsimp only at hk
  subst hk
  unfold Opn.val
  dsimp only
  have OB := Lib.hid ((Only.refl none_ w).alloc (.cells #[.int .i64 4, .int .i64 i, .int .i64 f, .int .i64 c, .slice A l p, .bool bl] 34))
  have HM := Lib.hid (show Opn.M ⟨4, i, f, c, A, l, p, bl⟩ ↔ (1 ≤ i ∧ f = 0 ∧ c = 0 ∧ l = 0 ∧ bl = false) from by simp [Opn.M])
  by_cases hz : f = 0
  · subst hz
    cases bl
    all_goals
      go_enter Tryd.func14, Tryd.ntmps14
      go_wp2_with fail
    all_goals
      go_ret
      refine ⟨?_, (Only.refl none_ w).alloc _⟩
    all_goals
      first
      | (rw [CM.out (fun h => by have hm := HM.out.1 h.2.2; first | (simp at hm; done) | (simp at hm; omega) | omega)]; done)
      | (rw [CM.out (fun h => by have hm := HM.out.1 h.2.2; first | (simp at hm; done) | (simp at hm; omega) | omega)]; rfl)
      | (rw [CM.out (fun h => by have hm := HM.out.1 h.2.2; simp at hm)]; rfl)
      | (rw [CR.out ⟨by omega, by omega, HM.out.2 (by (try simp); omega)⟩ (by simp only [Opn.R]; omega)]; done)
      | (rw [CR.out ⟨by omega, by omega, HM.out.2 (by (try simp); omega)⟩ (by simp only [Opn.R]; omega)]; rfl)
      | (rw [CO.out ⟨by omega, by omega, HM.out.2 (by (try simp); omega)⟩ (by simp only [Opn.R]; omega)]; done)
      | (rw [CO.out ⟨by omega, by omega, HM.out.2 (by (try simp); omega)⟩ (by simp only [Opn.R]; omega)]; rfl)
      | fail
  have hz1 : (f != 0) = true := by simpa using hz
  have MF := Lib.hid (CM.out (fun h => by have hm := HM.out.1 h.2.2; omega))
  clear HM CM CR CO HF hz
  cases bl
  all_goals
    go_enter Tryd.func14, Tryd.ntmps14
    go_wp2_with fail
  all_goals
    go_ret
    rw [MF.out]
    exact ⟨rfl, (Only.refl none_ w).alloc _⟩
set_option maxHeartbeats 4000000 in
theorem rop_5 (b : Int) (o : Opn) (w : World) (hk : o.kind = 5) (hf : -9223372036854775808 ≤ o.first ∧ o.first ≤ 9223372036854775807) :
    Calls Tryd.prog 14 #[.int .i64 b, o.val] w fun e w' => e = .returned (.int .i64 (opC b o)) ∧ Only none_ w w' := by
  have HF := Lib.hid hf
  have CM := Lib.hid (fun (h : ¬ (1 ≤ b ∧ b ≤ 256 ∧ o.M)) => show opC b o = 1 from if_neg h)
  have CR := Lib.hid (fun (h : 1 ≤ b ∧ b ≤ 256 ∧ o.M) (k : o.R b) => show opC b o = 6 from by unfold opC; rw [if_pos h, if_pos k])
  have CO := Lib.hid (fun (h : 1 ≤ b ∧ b ≤ 256 ∧ o.M) (k : ¬ o.R b) => show opC b o = 0 from by unfold opC; rw [if_pos h, if_neg k])
  clear hf
  revert CM CR CO
  generalize opC b o = z
  intro CM CR CO
  obtain ⟨k, i, f, c, A, l, p, bl⟩ := o
  dsimp only at hk
  subst hk
  unfold Opn.val
  dsimp only
  have OB := Lib.hid ((Only.refl none_ w).alloc (.cells #[.int .i64 5, .int .i64 i, .int .i64 f, .int .i64 c, .slice A l p, .bool bl] 34))
  have HM := Lib.hid (show Opn.M ⟨5, i, f, c, A, l, p, bl⟩ ↔ (1 ≤ i ∧ f = 0 ∧ c = 0 ∧ l = 0) from by simp [Opn.M])
  by_cases hz : f = 0
  · subst hz
    cases bl
    all_goals
      go_enter Tryd.func14, Tryd.ntmps14
      go_wp2_with fail
    all_goals
      go_ret
      refine ⟨?_, (Only.refl none_ w).alloc _⟩
    all_goals
      first
      | (rw [CM.out (fun h => by have hm := HM.out.1 h.2.2; first | (simp at hm; done) | (simp at hm; omega) | omega)]; done)
      | (rw [CM.out (fun h => by have hm := HM.out.1 h.2.2; first | (simp at hm; done) | (simp at hm; omega) | omega)]; rfl)
      | (rw [CM.out (fun h => by have hm := HM.out.1 h.2.2; simp at hm)]; rfl)
      | (rw [CR.out ⟨by omega, by omega, HM.out.2 (by (try simp); omega)⟩ (by simp only [Opn.R]; omega)]; done)
      | (rw [CR.out ⟨by omega, by omega, HM.out.2 (by (try simp); omega)⟩ (by simp only [Opn.R]; omega)]; rfl)
      | (rw [CO.out ⟨by omega, by omega, HM.out.2 (by (try simp); omega)⟩ (by simp only [Opn.R]; omega)]; done)
      | (rw [CO.out ⟨by omega, by omega, HM.out.2 (by (try simp); omega)⟩ (by simp only [Opn.R]; omega)]; rfl)
      | fail
  have hz1 : (f != 0) = true := by simpa using hz
  have MF := Lib.hid (CM.out (fun h => by have hm := HM.out.1 h.2.2; omega))
  clear HM CM CR CO HF hz
  cases bl
  all_goals
    go_enter Tryd.func14, Tryd.ntmps14
    go_wp2_with fail
  all_goals
    go_ret
    rw [MF.out]
    exact ⟨rfl, (Only.refl none_ w).alloc _⟩
theorem rop_other (b : Int) (o : Opn) (w : World) (h1 : o.kind < 1 ∨ 5 < o.kind) :
    Calls Tryd.prog 14 #[.int .i64 b, o.val] w fun e w' => e = .returned (.int .i64 (opC b o)) ∧ Only none_ w w' := by
  rw [show opC b o = 1 from if_neg (fun h => by have := h.2.2; simp only [Opn.M] at this; omega)]
  obtain ⟨k, i, f, c, A, l, p, bl⟩ := o
  unfold Opn.val
  dsimp only at h1 ⊢
  by_cases hb1 : 1 ≤ b
  · by_cases hb2 : b ≤ 256
    · rcases h1 with h1 | h1
      · go_enter Tryd.func14, Tryd.ntmps14
        go_wp2_with fail
        go_ret
        exact ⟨rfl, (Only.refl none_ w).alloc _⟩
      · have h2 : 1 ≤ k := by omega
        go_enter Tryd.func14, Tryd.ntmps14
        go_wp2_with fail
        go_ret
        exact ⟨rfl, (Only.refl none_ w).alloc _⟩
    · clear h1
      go_enter Tryd.func14, Tryd.ntmps14
      go_wp2_with fail
      go_ret
      exact ⟨rfl, (Only.refl none_ w).alloc _⟩
  · clear h1
    go_enter Tryd.func14, Tryd.ntmps14
    go_wp2_with fail
    go_ret
    exact ⟨rfl, (Only.refl none_ w).alloc _⟩
theorem rop_any (b : Int) (o : Opn) (w : World) (hf : -9223372036854775808 ≤ o.first ∧ o.first ≤ 9223372036854775807) :
    Calls Tryd.prog 14 #[.int .i64 b, o.val] w fun e w' => e = .returned (.int .i64 (opC b o)) ∧ Only none_ w w' := by
  by_cases h1 : o.kind = 1
  · exact rop_1 b o w h1 hf
  by_cases h2 : o.kind = 2
  · exact rop_2 b o w h2 hf
  by_cases h3 : o.kind = 3
  · exact rop_3 b o w h3 hf
  by_cases h4 : o.kind = 4
  · exact rop_4 b o w h4 hf
  by_cases h5 : o.kind = 5
  · exact rop_5 b o w h5 hf
  exact rop_other b o w (by omega)
end Go.Proofs.YtnhcgnmanonmaaaDoor
