/- What the document's own table answers: Put, Del. -/
import Derived.Test.YtajphhalneaihaaRxOps
import Derived.StillTailTactics
namespace Go.Proofs.Ytajphhalneaihaa
open Go.RowKit
set_option linter.unusedVariables false

set_option maxHeartbeats 4000000 in
theorem rput_any (p a b c : Nat) (ps : List Pl) (key n : Int) (w : World) (h : Ref w p a b c ps) (g : Good ps) :
    Calls Try.prog 13 #[.pointer (some ⟨p, 0, none⟩), .int .i64 key, .int .i64 n] w fun e w' => e = .returned (.int .i64 (putP ps key n).2) ∧ Lays p a b c (putP ps key n).1 w w' := by
  by_cases h1 : key < 0 ∨ 1048576 < key
  · have e : putP ps key n = (ps, 1) := by unfold putP; rw [if_pos h1]
    rw [e]
    have RB := right_any key w
    rw [show rightB key = false by unfold rightB; simp; omega] at RB
    have RB := Lib.hid RB
    have H := Lib.hid h
    clear h g e h1
    go_enter Try.func13, Try.ntmps13
    go_wp2_with fail
    (with_reducible refine (RB.out).mono ?_)
    rintro e w' ⟨rfl, rfl⟩
    go_wp2_with fail
    go_ret
    exact ⟨rfl, H.out, Only.refl _ _⟩
  · have RB := right_any key w
    rw [show rightB key = true by unfold rightB; simp; omega] at RB
    have RB := Lib.hid RB
    have lt := findP_lt key g.gap
    have hall := h
    obtain ⟨ks, ns, h⟩ := h
    have A := at_any p a b c ps ks ns key w h g
    have h0 := h.h0
    have h2 := h.h2
    obtain ⟨n2, n256⟩ := h.few
    unfold atP at A
    by_cases ht : hasP ps key = true
    · have e : putP ps key n = (ps.set (findP ps key) ⟨true, key, n⟩, 0) := by unfold putP hasP at *; rw [if_neg h1, if_neg (by rw [ht]; simp)]
      rw [e]
      rw [if_pos ht] at A
      have A := Lib.hid A
      have WR := Lib.hid (h.num lt (findP_key g.gap ht) n ht)
      have c2 := h.n_ lt
      have zc := h.rn.frozen
      clear h hall g e h1 ht
      generalize findP ps key = i at *
      generalize ns.getD i 0 = x2 at *
      go_enter Try.func13, Try.ntmps13
      go_wp2_with fail
      (with_reducible refine (RB.out).mono ?_)
      rintro e w' ⟨rfl, rfl⟩
      go_wp2_with fail
      (with_reducible refine (A.out).mono ?_)
      rintro e w' ⟨rfl, rfl⟩
      go_wp2_with fail
      go_ret
      exact ⟨rfl, ⟨_, _, WR.out⟩, (Only.refl (three a b c) w).into (.inr (.inr rfl)) _ _⟩
    · rw [if_neg ht] at A
      have A := Lib.hid A
      have hf : (Go.Proofs.Ytajphhalneaihaa.at_ ps (findP ps key)).taken = false := by unfold hasP at ht; simpa using ht
      have LN := Lib.hid (fun m => (rlen_any p a b c ps ks ns (w.drewN m) (h.drewN m)).mono (fun e w'' h => And.intro h.1 h.2.symm))
      have cb := cnt_le ps
      have k0 : 0 ≤ key := by omega
      by_cases hc : cnt ps + 1 = ps.length
      · have e : putP ps key n = (ps, 2) := by unfold putP; rw [if_neg h1, if_pos ⟨hf, hc⟩]
        rw [e]
        have q : decide ((ps.length : Int) ≤ ((cnt ps : Nat) : Int) + 1) = true := by simp; omega
        have H := Lib.hid h
        have s1 : IntKind.i64.wrap (((cnt ps : Nat) : Int) + 1) = ((cnt ps : Nat) : Int) + 1 := IntWalk.i64_in _ (by omega)
        clear h hall g e h1 ht hf hc
        generalize cnt ps = m at *
        go_enter Try.func13, Try.ntmps13
        go_wp2_with fail
        (with_reducible refine (RB.out).mono ?_)
        rintro e w' ⟨rfl, rfl⟩
        go_wp2_with fail
        (with_reducible refine (A.out).mono ?_)
        rintro e w' ⟨rfl, rfl⟩
        go_wp2_with fail
        go_quiet ((go_at_call 19; exact Calls.quiet_of_same (LN.out _)))
        clear s1
        go_wp2_with fail
        go_ret
        exact ⟨rfl, ⟨_, _, H.out.drewN _⟩, (Only.refl _ w).drewN _⟩
      · have e : putP ps key n = (ps.set (findP ps key) ⟨true, key, n⟩, 0) := by unfold putP; rw [if_neg h1, if_neg (fun q => hc q.2)]
        rw [e]
        have q : decide ((ps.length : Int) ≤ ((cnt ps : Nat) : Int) + 1) = false := by simp; have := cnt_of_gap g.gap; omega
        have L := Lib.hid (fun m => rlay_any p a b c ps key n (w.drewN m) (hall.still ((Only.refl none_ w).drewN m)) g.gap hf k0)
        have s1 : IntKind.i64.wrap (((cnt ps : Nat) : Int) + 1) = ((cnt ps : Nat) : Int) + 1 := IntWalk.i64_in _ (by omega)
        clear h hall g e h1 ht hf hc
        generalize cnt ps = m at *
        generalize findP ps key = i at *
        go_enter Try.func13, Try.ntmps13
        go_wp2_with fail
        (with_reducible refine (RB.out).mono ?_)
        rintro e w' ⟨rfl, rfl⟩
        go_wp2_with fail
        (with_reducible refine (A.out).mono ?_)
        rintro e w' ⟨rfl, rfl⟩
        go_wp2_with fail
        go_quiet ((go_at_call 19; exact Calls.quiet_of_same (LN.out _)))
        clear s1
        go_wp2_with fail
        (with_reducible refine ((L.out _)).mono ?_)
        rintro e w1 ⟨rfl, h1, o1⟩
        go_wp2_with fail
        go_ret
        exact ⟨rfl, h1, ((Only.refl _ w).drewN _).same o1⟩

/-- no key lies twice; keys are those that may be -/
structure Uniq (ps : List Pl) : Prop where
  once : ∀ i j, i < ps.length → j < ps.length → (Go.Proofs.Ytajphhalneaihaa.at_ ps i).taken = true → (Go.Proofs.Ytajphhalneaihaa.at_ ps j).taken = true → (Go.Proofs.Ytajphhalneaihaa.at_ ps i).key = (Go.Proofs.Ytajphhalneaihaa.at_ ps j).key → i = j
  right : ∀ i, i < ps.length → (Go.Proofs.Ytajphhalneaihaa.at_ ps i).taken = true → 0 ≤ (Go.Proofs.Ytajphhalneaihaa.at_ ps i).key
theorem Uniq.clear {ps : List Pl} (u : Uniq ps) {a : Nat} (ha : a < ps.length) : Uniq (ps.set a Pl.none_) := by
  have ne : ∀ i, (Go.Proofs.Ytajphhalneaihaa.at_ (ps.set a Pl.none_) i).taken = true → Go.Proofs.Ytajphhalneaihaa.at_ (ps.set a Pl.none_) i = Go.Proofs.Ytajphhalneaihaa.at_ ps i := by
    intro i hi
    rw [at_set ha] at hi ⊢
    split at hi
    · cases hi
    · rw [if_neg (by assumption)]
  refine ⟨fun i j hi hj ti tj e => ?_, fun i hi ti => ?_⟩
  · rw [List.length_set] at hi hj
    have ei := ne i ti
    have ej := ne j tj
    rw [ei] at ti e
    rw [ej] at tj e
    exact u.once i j hi hj ti tj e
  · rw [List.length_set] at hi
    have ei := ne i ti
    rw [ei] at ti ⊢
    exact u.right i hi ti
/-- what was lifted is not there any more: it is laid at an empty place -/
theorem Uniq.lay {ps : List Pl} (u : Uniq ps) {a : Nat} (ha : a < ps.length) {q : Pl} (hq : Go.Proofs.Ytajphhalneaihaa.at_ ps a = q) (ht : q.taken = true) :
    Gap (ps.set a Pl.none_) ∧ (Go.Proofs.Ytajphhalneaihaa.at_ (ps.set a Pl.none_) (findP (ps.set a Pl.none_) q.key)).taken = false ∧ Uniq (lay1 (ps.set a Pl.none_) q) := by
  have g : Gap (ps.set a Pl.none_) := ⟨a, by simpa using ha, by rw [at_set_same ha]; rfl⟩
  have lacks : ∀ j, j < ps.length → (Go.Proofs.Ytajphhalneaihaa.at_ (ps.set a Pl.none_) j).taken = true → (Go.Proofs.Ytajphhalneaihaa.at_ (ps.set a Pl.none_) j).key ≠ q.key := by
    intro j hj tj e
    rw [at_set ha] at tj e
    split at tj
    · cases tj
    · rename_i ne
      rw [if_neg ne] at e
      exact ne (u.once j a hj ha tj (by rw [hq]; exact ht) (by rw [hq]; exact e))
  have lt := findP_lt q.key g
  have f : (Go.Proofs.Ytajphhalneaihaa.at_ (ps.set a Pl.none_) (findP (ps.set a Pl.none_) q.key)).taken = false := by
    cases c : (Go.Proofs.Ytajphhalneaihaa.at_ (ps.set a Pl.none_) (findP (ps.set a Pl.none_) q.key)).taken with
    | false => rfl
    | true => exact absurd (findP_key g c) (lacks _ (by simpa using lt) c)
  refine ⟨g, f, ?_⟩
  have uc := u.clear ha
  have r := u.right a ha (by rw [hq]; exact ht)
  rw [hq] at r
  unfold lay1
  generalize findP (ps.set a Pl.none_) q.key = i at *
  refine ⟨fun x y hx hy tx ty e => ?_, fun x hx tx => ?_⟩
  · rw [List.length_set] at hx hy
    by_cases ex : x = i
    · by_cases ey : y = i
      · omega
      · rw [at_set_other lt _ ey] at ty e
        rw [ex, at_set_same lt] at e
        exact absurd e.symm (lacks y (by simpa using hy) ty)
    · rw [at_set_other lt _ ex] at tx e
      by_cases ey : y = i
      · rw [ey, at_set_same lt] at e
        exact absurd e (lacks x (by simpa using hx) tx)
      · rw [at_set_other lt _ ey] at ty e
        exact uc.once x y hx hy tx ty e
  · rw [List.length_set] at hx
    rw [at_set lt] at tx ⊢
    split
    · exact r
    · rename_i ex
      rw [if_neg ex] at tx
      exact uc.right x hx tx
theorem Good.uniq {ps : List Pl} (g : Good ps) : Uniq ps := ⟨g.once, fun i hi ht => (g.right i hi ht).1⟩

set_option maxHeartbeats 8000000 in
theorem rdel_any (p a b c : Nat) (ps : List Pl) (key : Int) (w : World) (h : Ref w p a b c ps) (g : Good ps) :
    Calls Try.prog 15 #[.pointer (some ⟨p, 0, none⟩), .int .i64 key] w fun e w' => e = .returned (.bool (hasP ps key)) ∧ Lays p a b c (delP ps key) w w' := by
  have lt := findP_lt key g.gap
  obtain ⟨ks, ns, h⟩ := h
  have A := at_any p a b c ps ks ns key w h g
  have h0 := h.h0
  obtain ⟨n2, n256⟩ := h.few
  unfold atP at A
  by_cases ht : hasP ps key = true
  · rw [if_pos ht] at A
    have A := Lib.hid A
    have FIN := Lib.hid (del_relay g ht (f := ps.length - 1) (by omega))
    have CL := Lib.hid (h.clear lt)
    have c0 := h.is_ lt
    have za := h.ris.frozen
    have UQ := Lib.hid (g.uniq.clear lt)
    have pa := h.pa
    have ab := h.ab
    have ac := h.ac
    rw [ht]
    clear h g ht
    generalize findP ps key = i at *
    generalize delP ps key = fin at *
    go_enter Try.func15, Try.ntmps15
    go_wp2_with fail
    (with_reducible refine (A.out).mono ?_)
    rintro e w' ⟨rfl, rfl⟩
    go_wp2_with fail
    go_loopw [7, 8] (fun kv _ wr => ∃ (k : Nat) (s : List Pl), 1 ≤ k ∧ k ≤ ps.length ∧ kv = .int .i64 k ∧ Ref wr p a b c s ∧ s.length = ps.length ∧ Uniq s ∧ fin = relay (ps.length - k) s (sl ps.length i k) ∧ Only (three a b c) w wr) (fun kv _ _ => ps.length - (intOf kv).toNat)
    case atStart => exact ⟨1, _, Nat.le_refl _, by omega, rfl, ⟨_, _, CL.out⟩, by simp, UQ.out, FIN.out, (Only.refl (three a b c) w).into (.inl rfl) _ _⟩
    case round =>
      obtain ⟨k, s, k1, kN, rfl, hr, hs, hu, hf, ho⟩ := hrel
      clear CL UQ FIN za c0
      have RF := Lib.hid hr
      obtain ⟨ks2, ns2, hx⟩ := hr
      have HX := Lib.hid hx
      have HS := Lib.hid hs
      have HU := Lib.hid hu
      have HF := Lib.hid hf
      have O := Lib.hid ho
      clear hs hu hf ho hx
      by_cases hlt : k < ps.length
      · have e2 := sl_mod lt hlt
        have ls : sl ps.length i k < s.length := by rw [HS.out]; exact sl_lt lt (by omega)
        have h0' := HX.out.h0
        have h1' := HX.out.h1
        have h2' := HX.out.h2
        rw [HS.out] at h0' h1' h2'
        have c0 := HX.out.is_ ls
        have t1 : decide (k < ps.length) = true := by simpa using hlt
        have t2 : (k : Int) < (ps.length : Int) := by omega
        have s1 : IntKind.i64.wrap ((i : Int) + (k : Int)) = (i : Int) + (k : Int) := IntWalk.i64_in _ (by omega)
        have ls2 : sl ps.length i k < ps.length := by have := HS.out; omega
        obtain ⟨f, hf⟩ : ∃ f, ps.length - k = f + 1 := ⟨ps.length - k - 1, by omega⟩
        have FK := Lib.hid hf
        clear hf
        by_cases tk : (Go.Proofs.Ytajphhalneaihaa.at_ s (sl ps.length i k)).taken = true
        · rw [tk] at c0
          obtain ⟨q, hq⟩ : ∃ q, Go.Proofs.Ytajphhalneaihaa.at_ s (sl ps.length i k) = q := ⟨_, rfl⟩
          obtain ⟨gp, fe, un⟩ := HU.out.lay ls hq (by rw [← hq]; exact tk)
          obtain ⟨sk, sn⟩ := HX.out.same _ ls tk
          rw [hq] at sk sn
          have r0 := HU.out.right _ ls tk
          rw [hq] at r0
          have QE := Lib.hid (show q = ⟨true, q.key, q.n⟩ by rw [hq] at tk; obtain ⟨x, y, z⟩ := q; simp only at tk; rw [tk])
          have FE := Lib.hid (show fin = relay (ps.length - (k + 1)) (lay1 (s.set (sl ps.length i k) Pl.none_) q) (sl ps.length i (k + 1)) by
            rw [HF.out, FK.out, relay_some tk, hq, HS.out, sl_sl lt hlt (by omega), show ps.length - (k + 1) = f by have := FK.out; omega])
          have UN := Lib.hid un
          have GP := Lib.hid gp
          have FE2 := Lib.hid fe
          have SK := Lib.hid sk
          have SN := Lib.hid sn
          clear tk hq gp fe un sk sn
          go_wp2_with fail
          go_quiet (fail)
          clear s1
          have HX1 := Lib.hid (HX.out.drewN nq)
          have O1 := Lib.hid (O.out.drewN nq)
          clear h0' h1' h2' c0
          generalize wr.drewN nq = W1 at *
          have h0' := HX1.out.h0
          rw [HS.out] at h0'
          have c0 := HX1.out.is_ ls
          have za := HX1.out.ris.frozen
          have CL := Lib.hid (HX1.out.clear ls)
          have O2 := Lib.hid (O1.out.into (b := a) (.inl rfl) (sl ps.length i k) (.bool false))
          go_wp2_with fail
          generalize W1.setCell ⟨a, sl ps.length i k, none⟩ (.bool false) = W2 at *
          have CD := Lib.hid CL.out.drew
          have O3 := Lib.hid O2.out.drew
          have L := Lib.hid (rlay_any p a b c (s.set (sl ps.length i k) Pl.none_) q.key q.n W2.drew ⟨_, _, CL.out.drew⟩ GP.out FE2.out r0)
          have d1 := CD.out.h1
          have d2 := CD.out.h2
          have e1 := CD.out.k_ (i := sl ps.length i k) (by simpa using ls)
          have e3 := CD.out.n_ (i := sl ps.length i k) (by simpa using ls)
          rw [SK.out] at e1
          rw [SN.out] at e3
          rw [List.length_set, HS.out] at d1 d2
          clear h0' c0 CL O2
          refine wp_region_still_tail 15 (by kernel_rfl) (by kernel_rfl) ?_
          change wpStill _ _ (World.drew W2) (fun a' => wpList _ _ _ _ a' (World.drew W2)) _ _
          simp only [List.take_succ_cons, List.take_zero, List.drop_succ_cons, List.drop_zero]
          generalize World.drew W2 = W3 at *
          repeat still_step
          refine wpStill_nil ?_
          go_wp2_with fail
          (with_reducible refine (L.out).mono ?_)
          rintro e w4 ⟨rfl, h4, o4⟩
          go_wp2_with fail
          go_roundw
          case rel => exact ⟨k + 1, _, by omega, by omega, by go_num, (by unfold lay1; rw [QE.out]; exact h4), (by rw [lay1_len]; simpa using HS.out), UN.out, FE.out, O3.out.same o4⟩
          case measure => simp [intOf]; omega
        · have tf : (Go.Proofs.Ytajphhalneaihaa.at_ s (sl ps.length i k)).taken = false := by simpa using tk
          rw [tf] at c0
          have FE := Lib.hid (show fin = s by rw [HF.out]; exact relay_none tf)
          clear tk tf
          go_wp2_with fail
          go_quiet (fail)
          clear s1
          go_wp2_with fail
          go_ret
          exact ⟨rfl, by rw [FE.out]; exact ⟨_, _, HX.out.drewN _⟩, O.out.drewN _⟩
      · have FE := Lib.hid (show fin = s by rw [HF.out, show ps.length - k = 0 by omega]; rfl)
        have t1 : decide (k < ps.length) = false := by simpa using hlt
        have t2 : decide ((k : Int) < (ps.length : Int)) = false := by simp; omega
        go_wp2_with fail
        go_quiet (fail)
        go_wp2_with fail
        go_ret
        exact ⟨rfl, by rw [FE.out]; exact ⟨_, _, HX.out.drewN _⟩, O.out.drewN _⟩
  · rw [if_neg ht] at A
    have hf : hasP ps key = false := by simpa using ht
    have e : delP ps key = ps := by unfold hasP at hf; unfold delP; rw [hf]; rfl
    rw [hf, e]
    have A := Lib.hid A
    have H := Lib.hid h
    clear h g ht hf e
    go_enter Try.func15, Try.ntmps15
    go_wp2_with fail
    (with_reducible refine (A.out).mono ?_)
    rintro e w' ⟨rfl, rfl⟩
    go_wp2_with fail
    go_ret
    exact ⟨rfl, ⟨_, _, H.out⟩, Only.refl _ _⟩
end Go.Proofs.Ytajphhalneaihaa
