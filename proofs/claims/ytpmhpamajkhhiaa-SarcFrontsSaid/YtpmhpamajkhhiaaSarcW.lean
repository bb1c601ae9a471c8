/- The counts are weighed. -/
import Derived.Test.YtpmhpamajkhhiaaSarc
import Derived.Test.YtpmhpamajkhhiaaRingLen
namespace Go.Proofs.Ytpmhpamajkhhiaa
open Go.RowKit
set_option linter.unusedVariables false

section
variable {w w' : World} {P p b : Nat} {c : Sc}
theorem SRaw.put_ (h : SRaw w P p b c) {j : Nat} (hj : j < 71) (v : Value) (c' : Sc) (hs : c'.s = c.s) (hv : scell p c' j = v) (he : ∀ i, i < 71 → i ≠ j → scell p c' i = scell p c i) : SRaw (w.setCell ⟨P, j, none⟩ v) P p b c' := by
  have o : Only (fun k => k = P) w (w.setCell ⟨P, j, none⟩ v) := (Only.refl (fun k => k = P) w).into rfl _ _
  refine ⟨?_, ?_, h.nep, h.neb⟩
  · have r1 := h.row.put j v
    rw [tab_put hj hv he] at r1
    exact r1
  · rw [hs]
    exact h.shelf.keep o (fun e => h.nep e.symm) (fun e => h.neb e.symm)
theorem far68 {p : Nat} {c : Sc} {us : List Nat} {x y z : Nat} {i : Nat} (hi : i < 68) : scell p ⟨c.s, c.us, x, y, z⟩ i = scell p c i := by
  unfold scell
  by_cases k3 : i = 0 ∨ i = 1 ∨ i = 2 ∨ i = 3
  · rcases k3 with rfl | rfl | rfl | rfl <;> rfl
  · rw [if_neg (by omega), if_neg (by omega), if_neg (by omega), if_neg (by omega), if_pos hi, if_neg (by omega), if_neg (by omega), if_neg (by omega), if_neg (by omega), if_pos hi]
theorem SRaw.setW (h : SRaw w P p b c) (x : Nat) : SRaw (w.setCell ⟨P, 68, none⟩ (.int .i64 x)) P p b ⟨c.s, c.us, x, c.miss, c.hits⟩ := by
  refine h.put_ (by decide) _ _ rfl rfl (fun i hi hne => ?_)
  by_cases q : i < 68
  · exact far68 (us := c.us) q
  · have : i = 69 ∨ i = 70 := by omega
    rcases this with rfl | rfl <;> rfl
theorem SRaw.setM (h : SRaw w P p b c) (x : Nat) : SRaw (w.setCell ⟨P, 69, none⟩ (.int .u64 x)) P p b ⟨c.s, c.us, c.want, x, c.hits⟩ := by
  refine h.put_ (by decide) _ _ rfl rfl (fun i hi hne => ?_)
  by_cases q : i < 68
  · exact far68 (us := c.us) q
  · have : i = 68 ∨ i = 70 := by omega
    rcases this with rfl | rfl <;> rfl
theorem SRaw.setH (h : SRaw w P p b c) (x : Nat) : SRaw (w.setCell ⟨P, 70, none⟩ (.int .u64 x)) P p b ⟨c.s, c.us, c.want, c.miss, x⟩ := by
  refine h.put_ (by decide) _ _ rfl rfl (fun i hi hne => ?_)
  by_cases q : i < 68
  · exact far68 (us := c.us) q
  · have : i = 68 ∨ i = 69 := by omega
    rcases this with rfl | rfl <;> rfl
end

theorem side_cases (x y : Int) : (y < x ∧ side x y = 1) ∨ (x < y ∧ side x y = -1) ∨ (x = y ∧ side x y = 0) := by
  unfold side
  by_cases a : x < y
  · rw [if_pos a]; exact .inr (.inl ⟨a, rfl⟩)
  · by_cases b : y < x
    · rw [if_neg a, if_pos b]; exact .inl ⟨b, rfl⟩
    · rw [if_neg a, if_neg b]; exact .inr (.inr ⟨by omega, rfl⟩)
theorem newWant_clamp {c : Sc} (h : c.want ≤ c.s.n) : ((c.newWant : Nat) : Int) = clamp ((c.want : Int) + side ((c.miss * c.s.bot : Nat) : Int) ((c.hits * c.s.l0.length : Nat) : Int)) 0 (c.s.n : Int) := by
  unfold Sc.newWant clamp
  rcases side_cases ((c.miss * c.s.bot : Nat) : Int) ((c.hits * c.s.l0.length : Nat) : Int) with ⟨a, e⟩ | ⟨a, e⟩ | ⟨a, e⟩
  · have a2 : c.hits * c.s.l0.length < c.miss * c.s.bot := by omega
    rw [e, if_pos a2]
    omega
  · have a2 : c.miss * c.s.bot < c.hits * c.s.l0.length := by omega
    rw [e, if_neg (by omega), if_pos a2]
    omega
  · have a2 : c.miss * c.s.bot = c.hits * c.s.l0.length := by omega
    rw [e, if_neg (by omega), if_neg (by omega)]
    omega
theorem below_only {w w' : World} (h : Below w.heap.size w w') : Only none_ w w' := ⟨h.os, h.tape, h.output, h.size, fun k hk _ => h.block k hk⟩

set_option maxRecDepth 100000 in
set_option maxHeartbeats 4000000 in
theorem weigh_any (P p b : Nat) (c : Sc) (w : World) (h : SRaw w P p b c) (hw : c.want ≤ c.s.n) (hm : c.miss ≤ 64) (hh : c.hits ≤ 64) :
    Calls Try.prog 44 #[.pointer (some ⟨P, 0, none⟩)] w fun e w' => e = .returned (.tuple #[]) ∧ SRaw w' P p b c.weigh ∧ Only (two P b) w w' := by
  have H := Lib.hid h
  have le64 := revL_len h.shelf.fine 0
  have eL : (c.s.revL 0).length = c.s.l0.length := by
    rw [show c.s.revL 0 = c.s.l0.reverse from rfl, List.length_reverse]
  rw [eL] at le64
  have b64 := h.shelf.fine.botn
  have n64 := h.shelf.fine.n64
  have NW := Lib.hid (newWant_clamp hw)
  have CR := Lib.hid (fun w => cross_any c.miss c.s.bot c.hits c.s.l0.length (by omega) (by omega) (by omega) (by omega) w)
  have SD := side_cases ((c.miss * c.s.bot : Nat) : Int) ((c.hits * c.s.l0.length : Nat) : Int)
  have SD1 : side ((c.miss * c.s.bot : Nat) : Int) ((c.hits * c.s.l0.length : Nat) : Int) ≤ 1 := by omega
  have SD2 : -1 ≤ side ((c.miss * c.s.bot : Nat) : Int) ((c.hits * c.s.l0.length : Nat) : Int) := by omega
  clear SD
  generalize side ((c.miss * c.s.bot : Nat) : Int) ((c.hits * c.s.l0.length : Nat) : Int) = sd at *
  have L := Lib.hid (fun w' (o : Only none_ w w') => (callsIn_wide (n := 5)).1 (len_in p b c.s 0 w' (h.still o).shelf))
  rw [eL] at L
  have WG := Lib.hid (show c.weigh = if c.full = true then ⟨c.s, c.us, c.newWant, c.miss / 2, c.hits / 2⟩ else ⟨c.s, c.us, c.newWant, c.miss, c.hits⟩ from rfl)
  clear eL h
  go_enter Try.func44, Try.ntmps44
  go_wp2_with fail
  have HD := Lib.hid H.out.drew
  have c0 := HD.out.c0
  have c2 := HD.out.c2
  have c69 := HD.out.c69
  have c70 := HD.out.c70
  have OD := Lib.hid ((Only.refl none_ w).drew)
  have v1 : IntKind.u64.wrap (c.s.bot : Int) = (c.s.bot : Int) := by rw [IntKind.wrap_u64]; omega
  have v2 : IntKind.u64.wrap (c.s.l0.length : Int) = (c.s.l0.length : Int) := by rw [IntKind.wrap_u64]; omega
  go_region_held3 (fun w' => w'.cell? ⟨P, 0, none⟩ = some (.pointer (some ⟨p, 0, none⟩)) ∧ w'.cell? ⟨P, 2, none⟩ = some (.int .i64 c.s.bot) ∧ w'.cell? ⟨P, 69, none⟩ = some (.int .u64 c.miss) ∧ w'.cell? ⟨P, 70, none⟩ = some (.int .u64 c.hits))
    (first
      | (go_keep; done)
      | (go_split_ands; exact ⟨HS1.out.c0, HS1.out.c2, HS1.out.c69, HS1.out.c70⟩))
    (first
      | (go_at_call 38; refine (L.out _ OD.out).mono ?_; rintro e w1 ⟨rfl, o1⟩; have O1 := Lib.hid (OD.out.same (below_only o1)); have HS1 := Lib.hid (H.out.still O1.out))
      | (go_at_call 63; refine (CR.out _).mono ?_; rintro e w2 ⟨rfl, rfl⟩))
  have sz := O1.out.size
  rename_i hHeld
  clear hHeld
  clear c0 c2 c69 c70 v1 v2 L CR HD OD o1
  have c68 := HS1.out.c68
  have c1 := HS1.out.c1
  have z := HS1.out.row.frozen
  have lp := HS1.out.row.lt
  have CL := clamp_any ((c.want : Int) + sd) 0 (c.s.n : Int)
  rw [← NW.out] at CL
  replace CL := Lib.hid CL
  have v3 : IntKind.i64.wrap ((c.want : Int) + sd) = (c.want : Int) + sd := by rw [IntKind.wrap_i64]; omega
  have nl : c.newWant ≤ c.s.n := newWant_le hw
  go_wp2_with fail
  go_region_with (go_at_call 64; refine (CL.out _).mono ?_; rintro e w2 ⟨rfl, rfl⟩)
  all_goals go_wp2_with fail
  all_goals
    have R := Lib.hid (HS1.out.setW c.newWant).drew
    have O2 := Lib.hid ((((O1.out.up (S := two P b)).into (.inl rfl) 68 (.int .i64 c.newWant))).drew)
    have lp2 := R.out.row.lt
    clear c68 c1 z lp CL O1 HS1
    generalize (w1.setCell ⟨P, 68, none⟩ (.int .i64 c.newWant)).drew = w2 at *
    have c69 := R.out.c69
    have c70 := R.out.c70
    have z := R.out.row.frozen
    simp only at c69 c70
    go_region
    have R := Lib.hid R.out.drew
    have O2 := Lib.hid O2.out.drew
    have d : decide ((64 : Int) ≤ max (c.miss : Int) (c.hits : Int)) = c.full := by
      unfold Sc.full
      by_cases q : 64 ≤ c.miss ∨ 64 ≤ c.hits
      · rw [decide_eq_true q]; exact decide_eq_true (by omega)
      · rw [decide_eq_false q]; exact decide_eq_false (by omega)
    obtain ⟨t, ht⟩ : ∃ t, c.full = t := ⟨_, rfl⟩
    have W := WG.out
    rw [d, ht]
    rw [ht] at W
    clear d ht WG
    cases t with
    | true =>
      rw [if_pos rfl] at W
      replace W := Lib.hid W
      have u1 : IntKind.u64.wrap ((c.miss : Int) / 2) = ((c.miss / 2 : Nat) : Int) := by rw [IntKind.wrap_u64]; omega
      have u2 : IntKind.u64.wrap ((c.hits : Int) / 2) = ((c.hits / 2 : Nat) : Int) := by rw [IntKind.wrap_u64]; omega
      have R3 := Lib.hid ((R.out.setM (c.miss / 2)).setH (c.hits / 2))
      clear hm hh
      go_wp2
      go_end0
      rw [W.out]
      exact ⟨rfl, R3.out, (O2.out.into (.inl rfl) _ _).into (.inl rfl) _ _⟩
    | false =>
      rw [if_neg (by decide)] at W
      replace W := Lib.hid W
      clear hm hh
      go_wp2
      go_end0
      rw [W.out]
      exact ⟨rfl, R.out, O2.out⟩
end Go.Proofs.Ytpmhpamajkhhiaa
