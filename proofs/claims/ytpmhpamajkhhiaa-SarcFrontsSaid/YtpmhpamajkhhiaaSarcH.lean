/- What Hit, Miss, Gone and Room do to any policy that lies in memory; New. -/
import Derived.Test.YtpmhpamajkhhiaaSarcC
namespace Go.Proofs.Ytpmhpamajkhhiaa
open Go.RowKit
set_option linter.unusedVariables false

set_option maxHeartbeats 2000000 in
theorem gone_any (P p b : Nat) (c : Sc) (i : Int) (w : World) (h : SLies w P p b c) :
    Calls Try.prog 26 #[.pointer (some ⟨P, 0, none⟩), .int .i64 i] w fun e w' => e = .returned (.int .i64 (c.s.liesC i)) ∧ SLies w' P p b (c.goneS i) ∧ Only (two P b) w w' := by
  have H := Lib.hid h
  have c0 := h.raw.c0
  have FE := Lib.hid (h.fine.goneS i)
  have DR := Lib.hid (drop_any p b c.s i w h.raw.shelf)
  have NB := Lib.hid (show (c.s.dropS i).n = c.s.n ∧ (c.s.dropS i).bot = c.s.bot from by unfold Sh.dropS; split <;> exact ⟨rfl, rfl⟩)
  clear h
  go_enter Try.func26, Try.ntmps26
  go_wp2_with fail
  (with_reducible refine (DR.out).mono ?_)
  rintro e w3 ⟨rfl, h3, o3⟩
  have R := Lib.hid (H.out.raw.turn h3 NB.out.1 NB.out.2 o3)
  have O3 := Lib.hid (two_b (P := P) o3)
  clear h3 o3 DR c0
  go_wp2
  go_ret
  exact ⟨rfl, ⟨R.out, FE.out⟩, O3.out⟩

set_option maxHeartbeats 2000000 in
theorem miss_any (P p b : Nat) (c : Sc) (k : Int) (w : World) (h : SLies w P p b c) :
    Calls Try.prog 20 #[.pointer (some ⟨P, 0, none⟩), .int .i64 k] w fun e w' => e = .returned (.int .i64 (missC k)) ∧ SLies w' P p b (c.missS k) ∧ Only (two P b) w w' := by
  have H := Lib.hid h
  have HL := Lib.hid (shasList_any k w)
  have c69 := h.raw.c69
  have lp := h.raw.row.lt
  have z := h.raw.row.frozen
  have m64 := h.fine.miss
  clear h
  cases eL : hasL k with
  | false =>
    have e1 : missC k = 1 := by unfold missC; rw [eL]; rfl
    have e2 : c.missS k = c := by
      unfold Sc.missS
      rw [if_neg]
      rintro rfl
      exact absurd eL (by decide)
    rw [e1, e2]
    rw [eL] at HL
    clear eL e1 e2
    go_enter Try.func20, Try.ntmps20
    go_wp2_with fail
    (with_reducible refine (HL.out).mono ?_)
    rintro e w' ⟨rfl, rfl⟩
    go_wp2
    go_ret
    exact ⟨rfl, H.out, Only.refl _ _⟩
  | true =>
    rw [eL] at HL
    rcases hasL_cases eL with rfl | rfl
    · rw [show missC 0 = 0 from by decide, show c.missS 0 = (Sc.mk c.s c.us c.want (c.miss + 1) c.hits).weigh from rfl]
      have FE := Lib.hid (show (Sc.mk c.s c.us c.want (c.miss + 1) c.hits).weigh.Fine from H.out.fine.missS 0)
      have u1 : IntKind.u64.wrap ((c.miss : Int) + 1) = (c.miss : Int) + 1 := by rw [IntKind.wrap_u64]; omega
      have R1 := Lib.hid (show SRaw (w.setCell ⟨P, 69, none⟩ (.int .u64 ((c.miss : Int) + 1))) P p b ⟨c.s, c.us, c.want, c.miss + 1, c.hits⟩ from H.out.raw.setM (c.miss + 1))
      have WG := Lib.hid (weigh_any P p b _ _ R1.out H.out.fine.want (by show c.miss + 1 ≤ 64; omega) (Nat.le_of_lt H.out.fine.hits))
      have OP := Lib.hid ((Only.refl (two P b) w).into (.inl rfl) 69 (.int .u64 ((c.miss : Int) + 1)))
      clear eL
      go_enter Try.func20, Try.ntmps20
      go_wp2_with fail
      (with_reducible refine (HL.out).mono ?_)
      rintro e w' ⟨rfl, rfl⟩
      go_wp2_with fail
      (with_reducible refine (WG.out).mono ?_)
      rintro e w2 ⟨rfl, h2, o2⟩
      have R2 := Lib.hid h2
      have O2 := Lib.hid (OP.out.same o2)
      clear h2 o2 WG c69 z
      go_wp2
      go_ret
      exact ⟨rfl, ⟨R2.out, FE.out⟩, O2.out⟩
    · rw [show missC 1 = 0 from by decide, show c.missS 1 = c from rfl]
      clear eL
      go_enter Try.func20, Try.ntmps20
      go_wp2_with fail
      (with_reducible refine (HL.out).mono ?_)
      rintro e w' ⟨rfl, rfl⟩
      go_wp2
      go_ret
      exact ⟨rfl, H.out, Only.refl _ _⟩

theorem hit_yes {c : Sc} {i k : Nat} (h : c.hitC i k = 0) : c.hitS i k = (c.hitW i).use k i := by
  unfold Sc.hitS
  rw [if_pos h, Int.toNat_natCast, Int.toNat_natCast]

set_option maxHeartbeats 2000000 in
theorem hit_any (P p b : Nat) (c : Sc) (i k : Int) (w : World) (h : SLies w P p b c) (hu : c.us.length < 1000000) :
    Calls Try.prog 23 #[.pointer (some ⟨P, 0, none⟩), .int .i64 i, .int .i64 k] w fun e w' => e = .returned (.int .i64 (c.hitC i k)) ∧ SLies w' P p b (c.hitS i k) ∧ Only (two P b) w w' := by
  have H := Lib.hid h
  have HN := Lib.hid (shas_any P p b c i w h.raw)
  have HL := Lib.hid (shasList_any k w)
  have c0 := h.raw.c0
  clear h
  cases eN : hasN c.s.n i with
  | false =>
    have e1 : c.hitC i k = 1 := by unfold Sc.hitC; rw [eN]; rfl
    have e2 : c.hitS i k = c := by unfold Sc.hitS; rw [e1]; rfl
    rw [e1, e2]
    rw [eN] at HN
    clear eN e1 e2
    go_enter Try.func23, Try.ntmps23
    go_wp2_with fail
    (with_reducible refine (HN.out).mono ?_)
    rintro e w' ⟨rfl, rfl⟩
    go_wp2
    go_ret
    exact ⟨rfl, H.out, Only.refl _ _⟩
  | true =>
    rw [eN] at HN
    cases eL : hasL k with
    | false =>
      have e1 : c.hitC i k = 1 := by unfold Sc.hitC; rw [eN, eL]; rfl
      have e2 : c.hitS i k = c := by unfold Sc.hitS; rw [e1]; rfl
      rw [e1, e2]
      rw [eL] at HL
      clear eN eL e1 e2
      go_enter Try.func23, Try.ntmps23
      go_wp2_with fail
      (with_reducible refine (HN.out).mono ?_)
      rintro e w' ⟨rfl, rfl⟩
      go_wp2_with fail
      (with_reducible refine (HL.out).mono ?_)
      rintro e w' ⟨rfl, rfl⟩
      go_wp2
      go_ret
      exact ⟨rfl, H.out, Only.refl _ _⟩
    | true =>
      rw [eL] at HL
      obtain ⟨j, rfl, hj⟩ := hasN_nat eN
      have WH := where_any p b c.s j w H.out.raw.shelf
      by_cases q : c.s.lst j = -1
      · have e1 : c.hitC j k = 3 := by unfold Sc.hitC; rw [eN, eL, Int.toNat_natCast, if_pos q]; rfl
        have e2 : c.hitS j k = c := by unfold Sc.hitS; rw [e1]; rfl
        rw [e1, e2]
        rw [where_no q] at WH
        have WH := Lib.hid WH
        clear eN eL e1 e2 q
        go_enter Try.func23, Try.ntmps23
        go_wp2_with fail
        (with_reducible refine (HN.out).mono ?_)
        rintro e w' ⟨rfl, rfl⟩
        go_wp2_with fail
        (with_reducible refine (HL.out).mono ?_)
        rintro e w' ⟨rfl, rfl⟩
        go_wp2_with fail
        (with_reducible refine (WH.out).mono ?_)
        rintro e w1 ⟨rfl, o1⟩
        have O1 := Lib.hid (below_only o1)
        clear o1
        go_wp2
        go_ret
        exact ⟨rfl, H.out.still O1.out, O1.out.up⟩
      · have e1 : c.hitC j k = 0 := by unfold Sc.hitC; rw [eN, eL, Int.toNat_natCast, if_neg q]; rfl
        obtain ⟨kn, rfl, hk⟩ : ∃ kn : Nat, k = kn ∧ kn < 2 := by
          rcases hasL_cases eL with rfl | rfl
          · exact ⟨0, rfl, by decide⟩
          · exact ⟨1, rfl, by decide⟩
        rw [where_yes hj q] at WH
        have WH := Lib.hid WH
        have FE := H.out.fine.hitS j kn
        have es := hit_yes e1
        rw [es] at FE
        rw [es, e1]
        have FE := Lib.hid FE
        obtain ⟨f1, s1, u1⟩ := H.out.fine.hitW j
        have US := Lib.hid (fun w' (h' : SRaw w' P p b (c.hitW j)) => use_any P p b (c.hitW j) kn j w' h' hk (by rw [s1]; exact hj) (by rw [u1]; exact hu))
        have lc := lst_cases q
        clear eN eL e1 es f1 s1 u1
        by_cases r1 : c.s.lst j = 1
        · cases lw : c.s.low j with
          | false =>
            have ew : c.hitW j = c := by unfold Sc.hitW; rw [if_neg]; rintro ⟨_, h2⟩; rw [lw] at h2; cases h2
            rw [ew] at US FE ⊢
            rw [lw, r1] at WH
            clear lw r1 q lc ew
            go_enter Try.func23, Try.ntmps23
            go_wp2_with fail
            (with_reducible refine (HN.out).mono ?_)
            rintro e w' ⟨rfl, rfl⟩
            go_wp2_with fail
            (with_reducible refine (HL.out).mono ?_)
            rintro e w' ⟨rfl, rfl⟩
            go_wp2_with fail
            (with_reducible refine (WH.out).mono ?_)
            rintro e w1 ⟨rfl, o1⟩
            have O1 := Lib.hid (below_only o1)
            have US1 := Lib.hid (US.out _ (H.out.raw.still O1.out))
            clear o1 US WH c0
            go_wp2_with fail
            (with_reducible refine (US1.out).mono ?_)
            rintro e w2 ⟨rfl, h2, o2⟩
            have R := Lib.hid h2
            have O2 := Lib.hid (O1.out.then_ o2)
            clear h2 o2
            go_wp2
            go_ret
            exact ⟨rfl, ⟨R.out, FE.out⟩, O2.out⟩
          | true =>
            have ew : c.hitW j = (Sc.mk c.s c.us c.want c.miss (c.hits + 1)).weigh := by unfold Sc.hitW; rw [if_pos ⟨r1, lw⟩]
            rw [lw, r1] at WH
            clear lw r1 q lc
            have h64 := H.out.fine.hits
            have u1 : IntKind.u64.wrap ((c.hits : Int) + 1) = (c.hits : Int) + 1 := by rw [IntKind.wrap_u64]; omega
            go_enter Try.func23, Try.ntmps23
            go_wp2_with fail
            (with_reducible refine (HN.out).mono ?_)
            rintro e w' ⟨rfl, rfl⟩
            go_wp2_with fail
            (with_reducible refine (HL.out).mono ?_)
            rintro e w' ⟨rfl, rfl⟩
            go_wp2_with fail
            (with_reducible refine (WH.out).mono ?_)
            rintro e w1 ⟨rfl, o1⟩
            have O1 := Lib.hid (below_only o1)
            have R0 := Lib.hid (H.out.raw.still O1.out)
            have c70 := R0.out.c70
            have z := R0.out.row.frozen
            have lp := R0.out.row.lt
            have R1 := Lib.hid (show SRaw (w1.setCell ⟨P, 70, none⟩ (.int .u64 ((c.hits : Int) + 1))) P p b ⟨c.s, c.us, c.want, c.miss, c.hits + 1⟩ from R0.out.setH (c.hits + 1))
            have WG := Lib.hid (weigh_any P p b _ _ R1.out H.out.fine.want (Nat.le_of_lt H.out.fine.miss) (by show c.hits + 1 ≤ 64; omega))
            have OP := Lib.hid (O1.out.then_ ((Only.refl (two P b) w1).into (.inl rfl) 70 (.int .u64 ((c.hits : Int) + 1))))
            clear o1 WH c0
            go_wp2_with fail
            (with_reducible refine (WG.out).mono ?_)
            rintro e w2 ⟨rfl, h2, o2⟩
            rw [← ew] at h2
            have US1 := Lib.hid (US.out _ h2)
            have O2 := Lib.hid (OP.out.same o2)
            clear h2 o2 WG c70 z ew
            go_wp2_with fail
            (with_reducible refine (US1.out).mono ?_)
            rintro e w3 ⟨rfl, h3, o3⟩
            have R3 := Lib.hid h3
            have O3 := Lib.hid (O2.out.same o3)
            clear h3 o3
            go_wp2
            go_ret
            exact ⟨rfl, ⟨R3.out, FE.out⟩, O3.out⟩
        · have r0 : c.s.lst j = 0 := by
            rcases lc with ⟨e, _⟩ | ⟨e, _⟩
            · exact e
            · exact absurd e r1
          have ew : c.hitW j = c := by unfold Sc.hitW; rw [if_neg]; rintro ⟨h2, _⟩; exact r1 h2
          rw [ew] at US FE ⊢
          rw [r0] at WH
          generalize c.s.low j = lw at *
          clear r1 q lc ew r0
          go_enter Try.func23, Try.ntmps23
          go_wp2_with fail
          (with_reducible refine (HN.out).mono ?_)
          rintro e w' ⟨rfl, rfl⟩
          go_wp2_with fail
          (with_reducible refine (HL.out).mono ?_)
          rintro e w' ⟨rfl, rfl⟩
          go_wp2_with fail
          (with_reducible refine (WH.out).mono ?_)
          rintro e w1 ⟨rfl, o1⟩
          have O1 := Lib.hid (below_only o1)
          have US1 := Lib.hid (US.out _ (H.out.raw.still O1.out))
          clear o1 US WH c0
          go_wp2_with fail
          (with_reducible refine (US1.out).mono ?_)
          rintro e w2 ⟨rfl, h2, o2⟩
          have R := Lib.hid h2
          have O2 := Lib.hid (O1.out.then_ o2)
          clear h2 o2
          go_wp2
          go_ret
          exact ⟨rfl, ⟨R.out, FE.out⟩, O2.out⟩
end Go.Proofs.Ytpmhpamajkhhiaa
