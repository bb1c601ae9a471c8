/- What Enter, Ready, Hit, Miss and Gone do to any policy that lies in memory. -/
import Derived.Test.YtpmhpamajkhhiaaSarcW
import Derived.Test.YtpmhpamajkhhiaaFind
import Derived.Test.YtpmhpamajkhhiaaRingMarks
import Derived.Test.YtpmhpamajkhhiaaRingWhere
namespace Go.Proofs.Ytpmhpamajkhhiaa
open Go.RowKit
set_option linter.unusedVariables false

set_option maxHeartbeats 1000000 in
theorem index_any (v : Value) (xs : List Int) (x : Int) (w : World) (hr : Reads w v xs) (hm : xs.length ≤ 1000000) :
    Calls Try.prog 67 #[v, .int .i64 x] w fun e w' => e = .returned (.int .i64 (findI xs x)) ∧ w = w' := by
  obtain ⟨a, ca, rfl, ha⟩ := hr
  have HA := Lib.hid ha
  clear ha
  go_enter Try.func67, Try.ntmps67
  go_wp2_with fail
  go_loop [8] (fun i => ∃ k : Nat, k ≤ xs.length ∧ i = .int .i64 k ∧ x ∉ xs.take k) (fun i => xs.length - (intOf i).toNat)
  case atStart => exact ⟨0, Nat.zero_le _, rfl, by simp⟩
  case round =>
    obtain ⟨k, hk, rfl, hn⟩ := hrel
    have HN := Lib.hid hn
    clear hn
    by_cases hlt : k < xs.length
    · obtain ⟨y, hy⟩ : ∃ y, xs[k]? = some y := ⟨_, List.getElem?_eq_getElem hlt⟩
      obtain ⟨g1, o1, rfl, c1⟩ := HA.out k y hy
      have HY := Lib.hid hy
      clear hy
      by_cases e : x = y
      · have t : (x == y) = true := by simp [e]
        have FE := Lib.hid (findI_at (HY.out.trans (by rw [e])) HN.out)
        clear e
        go_wp2_with fail
        go_ret
        exact ⟨by rw [FE.out]; rfl, rfl⟩
      · have t : (x == y) = false := by simpa using e
        have NX := Lib.hid (not_take_more HN.out HY.out (fun q => e q.symm))
        clear e
        go_wp2_with fail
        go_round
        case rel => exact ⟨k + 1, by omega, by go_num, NX.out⟩
        case measure => simp [intOf]; omega
    · have hge : xs.length ≤ k := by omega
      have FE := Lib.hid (findI_no (xs := xs) (x := x) (by
        have := HN.out
        rw [List.take_of_length_le hge] at this
        exact this))
      go_wp2_with fail
      go_ret
      exact ⟨by rw [FE.out]; rfl, rfl⟩
theorem findI_sign (xs : List Int) (x : Int) : decide (0 ≤ findI xs x) = decide (x ∈ xs) := by
  unfold findI
  by_cases m : x ∈ xs
  · rw [if_pos m, decide_eq_true m]; exact decide_eq_true (by omega)
  · rw [if_neg m, decide_eq_false m]; rfl
theorem contains_any (v : Value) (xs : List Int) (x : Int) (w : World) (hr : Reads w v xs) (hm : xs.length ≤ 1000000) :
    Calls Try.prog 49 #[v, .int .i64 x] w fun e w' => e = .returned (.bool (decide (x ∈ xs))) ∧ w = w' := by
  have IX := Lib.hid (index_any v xs x w hr hm)
  have d := findI_sign xs x
  obtain ⟨a, ca, rfl, ha⟩ := hr
  clear ha
  generalize findI xs x = f at *
  generalize decide (x ∈ xs) = t at *
  go_enter Try.func49, Try.ntmps49
  go_wp2_with fail
  (with_reducible refine (IX.out).mono ?_)
  rintro e w' ⟨rfl, rfl⟩
  go_wp2_with fail
  go_ret
  exact ⟨rfl, rfl⟩

theorem where_no {s : Sh} {j : Nat} (h : s.lst j = -1) : s.whereV j = .tuple #[.int .i64 0, .bool false, .bool false] := by
  have : s.liesC j ≠ 0 := by
    unfold Sh.liesC
    split
    · rw [Int.toNat_natCast, if_pos h]; decide
    · decide
  unfold Sh.whereV
  rw [if_neg this]
theorem where_yes {s : Sh} {j : Nat} (hj : j < s.n) (h : s.lst j ≠ -1) : s.whereV j = .tuple #[.int .i64 (s.lst j), .bool (s.low j), .bool true] := by
  have : s.liesC j = 0 := by
    unfold Sh.liesC
    have h2 : hasN s.n j = true := by unfold hasN; simp; omega
    rw [h2, if_pos rfl, Int.toNat_natCast, if_neg h]
  unfold Sh.whereV Sh.low
  rw [if_pos this, Int.toNat_natCast]
theorem held_mem {s : Sh} {j : Nat} (hj : j < s.n) : decide ((j : Int) ∈ ints s.heldL) = s.h j := by
  have : (j : Int) ∈ ints s.heldL ↔ s.h j = true := by
    unfold ints Sh.heldL
    rw [List.mem_map]
    constructor
    · rintro ⟨x, hx, e⟩
      have : x = j := by omega
      subst this
      exact (List.mem_filter.1 hx).2
    · intro h
      exact ⟨j, List.mem_filter.2 ⟨List.mem_range.2 hj, h⟩, rfl⟩
  cases e : s.h j with
  | true => exact decide_eq_true (this.2 e)
  | false => exact decide_eq_false (fun q => by rw [this.1 q] at e; cases e)
theorem held_len7 {s : Sh} (f : s.Fine) : s.heldL.length ≤ 64 := by
  have := f.n64
  unfold Sh.heldL
  exact Nat.le_trans (List.length_filter_le _ _) (by simp; omega)

theorem two_b {P b : Nat} {w w' : World} (o : Only (fun k => k = b) w w') : Only (two P b) w w' := o.more (fun _ _ e => .inr e)

theorem enter_no {c : Sc} {i k : Int} (h : c.enterC i k ≠ 0) : c.enterS i k = c := by unfold Sc.enterS; rw [if_neg h]
theorem enter_yes {c : Sc} {i : Nat} {k : Nat} (h : c.enterC i k = 0) : c.enterS i k = ⟨(c.s.front k i).hold i true, c.us ++ [i], c.want, c.miss, c.hits⟩ := by
  unfold Sc.enterS
  rw [if_pos h, Int.toNat_natCast, Int.toNat_natCast]

set_option maxHeartbeats 2000000 in
theorem enter_any (P p b : Nat) (c : Sc) (i k : Int) (w : World) (h : SLies w P p b c) (hu : c.us.length < 1000000) :
    Calls Try.prog 21 #[.pointer (some ⟨P, 0, none⟩), .int .i64 i, .int .i64 k] w fun e w' => e = .returned (.int .i64 (c.enterC i k)) ∧ SLies w' P p b (c.enterS i k) ∧ Only (two P b) w w' := by
  have H := Lib.hid h
  have HN := Lib.hid (shas_any P p b c i w h.raw)
  have HL := Lib.hid (shasList_any k w)
  have c0 := h.raw.c0
  clear h
  cases eN : hasN c.s.n i with
  | false =>
    have e1 : c.enterC i k = 1 := by unfold Sc.enterC; rw [eN]; rfl
    rw [enter_no (by rw [e1]; decide), e1]
    rw [eN] at HN
    clear eN e1
    go_enter Try.func21, Try.ntmps21
    go_wp2_with fail
    (with_reducible refine (HN.out).mono ?_)
    rintro e w' ⟨rfl, rfl⟩
    go_wp2
    go_ret
    exact ⟨rfl, H.out, Only.refl _ _⟩
  | true =>
    rw [eN] at HN
    cases eL : hasL k with
    | false =>
      have e1 : c.enterC i k = 1 := by unfold Sc.enterC; rw [eN, eL]; rfl
      rw [enter_no (by rw [e1]; decide), e1]
      rw [eL] at HL
      clear eN eL e1
      go_enter Try.func21, Try.ntmps21
      go_wp2_with fail
      (with_reducible refine (HN.out).mono ?_)
      rintro e w' ⟨rfl, rfl⟩
      go_wp2_with fail
      (with_reducible refine (HL.out).mono ?_)
      rintro e w' ⟨rfl, rfl⟩
      go_wp2
      go_ret
      exact ⟨rfl, H.out, Only.refl _ _⟩
    | true =>
      rw [eL] at HL
      obtain ⟨j, rfl, hj⟩ := hasN_nat eN
      have WH := where_any p b c.s j w H.out.raw.shelf
      by_cases q : c.s.lst j = -1
      · have e1 : c.enterC j k = 0 := by unfold Sc.enterC; rw [eN, eL, Int.toNat_natCast, if_pos q]; rfl
        obtain ⟨kn, rfl, hk⟩ : ∃ kn : Nat, k = kn ∧ kn < 2 := by
          rcases hasL_cases eL with rfl | rfl
          · exact ⟨0, rfl, by decide⟩
          · exact ⟨1, rfl, by decide⟩
        rw [where_no q] at WH
        have FE := H.out.fine.enterS j kn
        have es := enter_yes e1
        rw [es] at FE
        rw [es, e1]
        have WH := Lib.hid WH
        have FE := Lib.hid FE
        have US := Lib.hid (fun w' (o : Only none_ w w') => use_any P p b c kn j w' (H.out.raw.still o) hk hj hu)
        have HO := Lib.hid (show (c.use kn j).s.liesC j = 0 ∧ (c.use kn j).s.holdS j true = (c.s.front kn j).hold j true from by
          have h1 : ((c.use kn j).s).liesC j = 0 := by
            unfold Sh.liesC
            have h2 : hasN (c.use kn j).s.n j = true := by
              show hasN (c.s.front kn j).n j = true
              rw [(front_nb _ _ _).1]; exact eN
            rw [h2, if_pos rfl, Int.toNat_natCast, if_neg]
            exact (front_mem H.out.fine.s kn j j).2 (.inl rfl)
          refine ⟨h1, ?_⟩
          unfold Sh.holdS
          rw [if_pos h1, Int.toNat_natCast]
          rfl)
        clear eN eL e1 es q
        go_enter Try.func21, Try.ntmps21
        go_wp2_with fail
        (with_reducible refine (HN.out).mono ?_)
        rintro e w' ⟨rfl, rfl⟩
        go_wp2_with fail
        (with_reducible refine (HL.out).mono ?_)
        rintro e w' ⟨rfl, rfl⟩
        go_wp2_with fail
        (with_reducible refine (WH.out).mono ?_)
        rintro e w1 ⟨rfl, o1⟩
        have O1 := Lib.hid (below_only o1)
        have US1 := Lib.hid (US.out _ O1.out)
        clear o1 US WH c0
        go_wp2_with fail
        (with_reducible refine (US1.out).mono ?_)
        rintro e w2 ⟨rfl, h2, o2⟩
        have H2 := Lib.hid h2
        have O2 := Lib.hid (O1.out.then_ o2)
        have c0 := h2.c0
        have HD := hold_any p b _ j true w2 h2.shelf
        rw [HO.out.1, HO.out.2] at HD
        have HD := Lib.hid HD
        clear h2 o2 US1
        go_wp2_with fail
        (with_reducible refine (HD.out).mono ?_)
        rintro e w3 ⟨rfl, h3, o3⟩
        have R := Lib.hid (H2.out.turn h3 (by rfl) (by rfl) o3)
        have O3 := Lib.hid (O2.out.same (two_b (P := P) o3))
        clear h3 o3 HD c0
        go_wp2
        go_ret
        exact ⟨rfl, ⟨R.out, FE.out⟩, O3.out⟩
      · have e1 : c.enterC j k = 4 := by unfold Sc.enterC; rw [eN, eL, Int.toNat_natCast, if_neg q]; rfl
        rw [enter_no (by rw [e1]; decide), e1]
        rw [where_yes hj q] at WH
        have WH := Lib.hid WH
        generalize c.s.lst j = x0 at *
        generalize c.s.low j = x1 at *
        clear eN eL e1 q
        go_enter Try.func21, Try.ntmps21
        go_wp2_with fail
        (with_reducible refine (HN.out).mono ?_)
        rintro e w' ⟨rfl, rfl⟩
        go_wp2_with fail
        (with_reducible refine (HL.out).mono ?_)
        rintro e w' ⟨rfl, rfl⟩
        go_wp2_with fail
        (with_reducible refine (WH.out).mono ?_)
        rintro e w1 ⟨rfl, o1⟩
        have O1 := Lib.hid (below_only o1)
        clear o1
        go_wp2
        go_ret
        exact ⟨rfl, H.out.still O1.out, O1.out.up⟩

set_option maxHeartbeats 2000000 in
theorem ready_any (P p b : Nat) (c : Sc) (i : Int) (w : World) (h : SLies w P p b c) :
    Calls Try.prog 22 #[.pointer (some ⟨P, 0, none⟩), .int .i64 i] w fun e w' => e = .returned (.int .i64 (c.readyC i)) ∧ SLies w' P p b (c.readyS i) ∧ Only (two P b) w w' := by
  have H := Lib.hid h
  have HN := Lib.hid (shas_any P p b c i w h.raw)
  have c0 := h.raw.c0
  clear h
  cases eN : hasN c.s.n i with
  | false =>
    have e1 : c.readyC i = 1 := by unfold Sc.readyC; rw [eN]; rfl
    have e2 : c.readyS i = c := by unfold Sc.readyS; rw [e1]; rfl
    rw [e1, e2]
    rw [eN] at HN
    clear eN e1 e2
    go_enter Try.func22, Try.ntmps22
    go_wp2_with fail
    (with_reducible refine (HN.out).mono ?_)
    rintro e w' ⟨rfl, rfl⟩
    go_wp2
    go_ret
    exact ⟨rfl, H.out, Only.refl _ _⟩
  | true =>
    rw [eN] at HN
    obtain ⟨j, rfl, hj⟩ := hasN_nat eN
    have WH := where_any p b c.s j w H.out.raw.shelf
    by_cases q : c.s.lst j = -1
    · have e1 : c.readyC j = 3 := by unfold Sc.readyC; rw [eN, Int.toNat_natCast, if_pos rfl, if_pos q]
      have e2 : c.readyS j = c := by unfold Sc.readyS; rw [e1]; rfl
      rw [e1, e2]
      rw [where_no q] at WH
      have WH := Lib.hid WH
      clear eN e1 e2 q
      go_enter Try.func22, Try.ntmps22
      go_wp2_with fail
      (with_reducible refine (HN.out).mono ?_)
      rintro e w' ⟨rfl, rfl⟩
      go_wp2_with fail
      (with_reducible refine (WH.out).mono ?_)
      rintro e w1 ⟨rfl, o1⟩
      have O1 := Lib.hid (below_only o1)
      clear o1
      go_wp2
      go_ret
      exact ⟨rfl, H.out.still O1.out, O1.out.up⟩
    · rw [where_yes hj q] at WH
      have WH := Lib.hid WH
      generalize c.s.low j = x1 at *
      have HE := Lib.hid (fun w' (o : Only none_ w w') => held_any p b c.s w' (H.out.raw.still o).shelf)
      have HM := Lib.hid (held_mem hj)
      have h64 := held_len7 H.out.fine.s
      cases eh : c.s.h j with
      | false =>
        have e1 : c.readyC j = 5 := by unfold Sc.readyC; rw [eN, Int.toNat_natCast, if_pos rfl, if_neg q, eh]; rfl
        have e2 : c.readyS j = c := by unfold Sc.readyS; rw [e1]; rfl
        rw [e1, e2]
        rw [eh] at HM
        generalize c.s.lst j = x0 at *
        clear eN e1 e2 q eh
        go_enter Try.func22, Try.ntmps22
        go_wp2_with fail
        (with_reducible refine (HN.out).mono ?_)
        rintro e w' ⟨rfl, rfl⟩
        go_wp2_with fail
        (with_reducible refine (WH.out).mono ?_)
        rintro e w1 ⟨rfl, o1⟩
        have O1 := Lib.hid (below_only o1)
        have HE1 := Lib.hid (HE.out _ O1.out)
        have c0 := O1.out.cell c0 (fun s => s)
        clear o1 WH HE
        go_wp2_with fail
        (with_reducible refine (HE1.out).mono ?_)
        rintro e w2 ⟨v, rfl, hv, o2⟩
        have O2 := Lib.hid (O1.out.same (below_only o2))
        have CN := contains_any v _ j w2 (Reads.of_owns hv) (by rw [ints_len]; omega)
        rw [HM.out] at CN
        have CN := Lib.hid CN
        clear hv o2 HE1
        go_wp2_with fail
        (with_reducible refine (CN.out).mono ?_)
        rintro e w' ⟨rfl, rfl⟩
        go_wp2
        go_ret
        exact ⟨rfl, H.out.still O2.out, O2.out.up⟩
      | true =>
        have e1 : c.readyC j = 0 := by unfold Sc.readyC; rw [eN, Int.toNat_natCast, if_pos rfl, if_neg q, eh]; rfl
        have e2 : c.readyS j = ⟨c.s.hold j false, c.us, c.want, c.miss, c.hits⟩ := by unfold Sc.readyS; rw [if_pos e1, Int.toNat_natCast]
        have FE := H.out.fine.readyS j
        rw [e2] at FE
        rw [e1, e2]
        have FE := Lib.hid FE
        rw [eh] at HM
        have LC := Lib.hid (show c.s.liesC j = 0 ∧ c.s.holdS j false = c.s.hold j false from by
          have h1 : c.s.liesC j = 0 := by
            unfold Sh.liesC
            rw [eN, if_pos rfl, Int.toNat_natCast, if_neg q]
          refine ⟨h1, ?_⟩
          unfold Sh.holdS
          rw [if_pos h1, Int.toNat_natCast])
        generalize c.s.lst j = x0 at *
        clear eN e1 e2 q eh
        go_enter Try.func22, Try.ntmps22
        go_wp2_with fail
        (with_reducible refine (HN.out).mono ?_)
        rintro e w' ⟨rfl, rfl⟩
        go_wp2_with fail
        (with_reducible refine (WH.out).mono ?_)
        rintro e w1 ⟨rfl, o1⟩
        have O1 := Lib.hid (below_only o1)
        have HE1 := Lib.hid (HE.out _ O1.out)
        have c0 := O1.out.cell c0 (fun s => s)
        clear o1 WH HE
        go_wp2_with fail
        (with_reducible refine (HE1.out).mono ?_)
        rintro e w2 ⟨v, rfl, hv, o2⟩
        have O2 := Lib.hid (O1.out.same (below_only o2))
        have CN := contains_any v _ j w2 (Reads.of_owns hv) (by rw [ints_len]; omega)
        rw [HM.out] at CN
        have CN := Lib.hid CN
        have c0 := (below_only o2).cell c0 (fun s => s)
        have R2 := Lib.hid (H.out.raw.still O2.out)
        have HD := hold_any p b _ j false w2 R2.out.shelf
        rw [LC.out.1, LC.out.2] at HD
        have HD := Lib.hid HD
        clear hv o2 HE1
        go_wp2_with fail
        (with_reducible refine (CN.out).mono ?_)
        rintro e w' ⟨rfl, rfl⟩
        go_wp2_with fail
        (with_reducible refine (HD.out).mono ?_)
        rintro e w3 ⟨rfl, h3, o3⟩
        have R := Lib.hid (R2.out.turn h3 (by rfl) (by rfl) o3)
        have O3 := Lib.hid (O2.out.then_ (two_b (P := P) o3))
        clear h3 o3 HD c0
        go_wp2
        go_ret
        exact ⟨rfl, ⟨R.out, FE.out⟩, O3.out⟩
end Go.Proofs.Ytpmhpamajkhhiaa
