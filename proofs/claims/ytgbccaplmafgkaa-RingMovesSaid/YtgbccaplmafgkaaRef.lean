/- The document's own shelf: in memory; where a node is. -/
import Derived.Test.YtgbccaplmafgkaaRingMarks
import Derived.Test.YtgbccaplmafgkaaFind
import Derived.StillTailTactics
namespace Go.Proofs.Ytgbccaplmafgkaa
open Go.RowKit
set_option linter.unusedVariables false

def boolC (b : Bool) : List Value := [.bool b]
theorem bool1 (b : Bool) : (boolC b).length = 1 := rfl

/-- the document's own shelf: at block p, its marks at block hb, its lists' rows at base or behind -/
structure RSh (w : World) (p hb base : Nat) (s : Sh) : Prop where
  fine : s.Fine
  it : ∃ v0 v1, Row w p 64 #[.int .i64 s.n, .int .i64 s.bot, v0, v1, .slice (some ⟨hb, 0, none⟩) s.n s.n] ∧ OwnsInts w base v0 (ints s.l0) ∧ OwnsInts w base v1 (ints s.l1)
  hrow : Row w hb 4 (flat boolC s.hs)
  ne : p ≠ hb
  ltp : p < base
  lth : hb < base
  ltb : base ≤ w.heap.size

theorem RSh.keep {w w' : World} {p hb base : Nat} {s : Sh} (h : RSh w p hb base s) {S : Nat → Prop} (k : Only S w w') (hp : ¬ S p) (hh : ¬ S hb) (hb' : ∀ g, base ≤ g → ¬ S g) : RSh w' p hb base s := by
  obtain ⟨f, ⟨v0, v1, r, o0, o1⟩, hr, ne, l1, l2, l3⟩ := h
  exact ⟨f, ⟨v0, v1, k.row r hp, o0.keep k (fun g hg => hb' g (o0.base_le hg).1), o1.keep k (fun g hg => hb' g (o1.base_le hg).1)⟩, k.row hr hh, ne, l1, l2, Nat.le_trans l3 k.size⟩
theorem RSh.still {w w' : World} {p hb base : Nat} {s : Sh} (h : RSh w p hb base s) (k : Only none_ w w') : RSh w' p hb base s := h.keep k (fun s => s) (fun s => s) (fun _ _ s => s)

theorem mem_ints {l : List Nat} {j : Nat} : (j : Int) ∈ ints l ↔ j ∈ l := by
  unfold ints
  rw [List.mem_map]
  constructor
  · rintro ⟨x, hx, e⟩
    have : x = j := by omega
    rw [← this]; exact hx
  · intro h
    exact ⟨j, h, rfl⟩
theorem ints_neg {l : List Nat} {i : Int} (h : i ∈ ints l) : 0 ≤ i := by
  unfold ints at h
  rw [List.mem_map] at h
  obtain ⟨x, _, rfl⟩ := h
  omega
theorem idx_ints {l : List Nat} {j : Nat} : (ints l).idxOf (j : Int) = l.idxOf j := by
  induction l with
  | nil => rfl
  | cons x l ih =>
    show List.idxOf (j : Int) ((x : Int) :: ints l) = _
    rw [List.idxOf_cons, List.idxOf_cons]
    by_cases c : x = j
    · subst c; simp
    · have c1 : ((x : Int) == (j : Int)) = false := by simp; omega
      have c2 : (x == j) = false := by simp; omega
      rw [c1, c2, ih]
/-- the list of a node; -1: none -/
def Sh.lstI (s : Sh) (i : Int) : Int := if i ∈ ints s.l0 then 0 else if i ∈ ints s.l1 then 1 else -1
theorem lstI_nat (s : Sh) (j : Nat) : s.lstI j = s.lst j := by
  unfold Sh.lstI Sh.lst
  simp only [mem_ints]
theorem fine_len0 {s : Sh} (f : s.Fine) : s.l0.length ≤ 64 := Nat.le_trans (nodup_len _ _ f.nd0 f.lt0) f.n64
theorem fine_len1 {s : Sh} (f : s.Fine) : s.l1.length ≤ 64 := Nat.le_trans (nodup_len _ _ f.nd1 f.lt1) f.n64

theorem findI_ge {xs : List Int} {x : Int} (h : x ∈ xs) : 0 ≤ findI xs x := by
  unfold findI; rw [if_pos h]; omega

set_option maxHeartbeats 2000000 in
theorem list_ref (p hb base : Nat) (s : Sh) (i : Int) (w : World) (h : RSh w p hb base s) :
    Calls Try.prog 42 #[.pointer (some ⟨p, 0, none⟩), .int .i64 i] w fun e w' => e = .returned (.int .i64 (s.lstI i)) ∧ w = w' := by
  obtain ⟨f, ⟨v0, v1, r, o0, o1⟩, hr, ne, l1, l2, l3⟩ := h
  have c0 : w.cell? ⟨p, 2, none⟩ = some v0 := by rw [r.cell]; rfl
  have c1 : w.cell? ⟨p, 3, none⟩ = some v1 := by rw [r.cell]; rfl
  have F0 := Lib.hid (find_any v0 _ i w (Reads.of_owns o0) (by rw [ints_len]; have := fine_len0 f; omega))
  have F1 := Lib.hid (find_any v1 _ i w (Reads.of_owns o1) (by rw [ints_len]; have := fine_len1 f; omega))
  clear f r hr ne l1 l2 l3 o0 o1
  have NL := Lib.hid (show (i ∈ ints s.l0 → s.lstI i = 0) ∧ (i ∉ ints s.l0 → i ∈ ints s.l1 → s.lstI i = 1) ∧ (i ∉ ints s.l0 → i ∉ ints s.l1 → s.lstI i = -1) from by
    refine ⟨fun a => ?_, fun a b => ?_, fun a b => ?_⟩ <;> unfold Sh.lstI
    · rw [if_pos a]
    · rw [if_neg a, if_pos b]
    · rw [if_neg a, if_neg b])
  go_enter Try.func42, Try.ntmps42
  go_wp2_with fail
  go_loop [5] (fun v => ∃ k : Nat, k ≤ 2 ∧ v = .int .i64 k ∧ (1 ≤ k → i ∉ ints s.l0) ∧ (2 ≤ k → i ∉ ints s.l1)) (fun v => 2 - (intOf v).toNat)
  case atStart => exact ⟨0, by decide, rfl, fun h => by omega, fun h => by omega⟩
  case round =>
    obtain ⟨k, hk, rfl, h0, h1⟩ := hrel
    have H0 := Lib.hid h0
    have H1 := Lib.hid h1
    clear h0 h1
    have : k = 0 ∨ k = 1 ∨ k = 2 := by omega
    clear hk
    rcases this with rfl | rfl | rfl
    · by_cases m : i ∈ ints s.l0
      · have E := Lib.hid (NL.out.1 m)
        have g : decide (0 ≤ findI (ints s.l0) i) = true := decide_eq_true (findI_ge m)
        clear m
        generalize findI (ints s.l0) i = x0 at *
        go_wp2_with fail
        (with_reducible refine (F0.out).mono ?_)
        rintro e w' ⟨rfl, rfl⟩
        go_wp2_with fail
        go_ret
        exact ⟨by rw [E.out]; rfl, rfl⟩
      · have g : findI (ints s.l0) i = -1 := findI_no m
        rw [g] at F0
        have M := Lib.hid m
        clear m g
        go_wp2_with fail
        (with_reducible refine (F0.out).mono ?_)
        rintro e w' ⟨rfl, rfl⟩
        go_wp2_with fail
        go_round
        case rel => exact ⟨1, by decide, by go_num, fun _ => M.out, fun h => by omega⟩
        case measure => simp [intOf]
    · have m0 := Lib.hid (H0.out (by decide))
      by_cases m : i ∈ ints s.l1
      · have E := Lib.hid (NL.out.2.1 m0.out m)
        have g : decide (0 ≤ findI (ints s.l1) i) = true := decide_eq_true (findI_ge m)
        clear m
        generalize findI (ints s.l1) i = x0 at *
        go_wp2_with fail
        (with_reducible refine (F1.out).mono ?_)
        rintro e w' ⟨rfl, rfl⟩
        go_wp2_with fail
        go_ret
        exact ⟨by rw [E.out]; rfl, rfl⟩
      · have g : findI (ints s.l1) i = -1 := findI_no m
        rw [g] at F1
        have M := Lib.hid m
        clear m g
        go_wp2_with fail
        (with_reducible refine (F1.out).mono ?_)
        rintro e w' ⟨rfl, rfl⟩
        go_wp2_with fail
        go_round
        case rel => exact ⟨2, by decide, by go_num, fun _ => m0.out, fun _ => M.out⟩
        case measure => simp [intOf]
    · have E := Lib.hid (NL.out.2.2 (H0.out (by decide)) (H1.out (by decide)))
      go_wp2_with fail
      go_ret
      exact ⟨by rw [E.out]; rfl, rfl⟩

theorem liesC_ref {s : Sh} (f : s.Fine) (i : Int) : s.liesC i = if hasN s.n i then if s.lstI i = -1 then 3 else 0 else 1 := by
  unfold Sh.liesC
  split
  · rename_i e
    obtain ⟨j, rfl, hj⟩ := hasN_nat e
    rw [Int.toNat_natCast, lstI_nat]
  · rfl
theorem lstI_ge (s : Sh) (i : Int) : s.lstI i = 0 ∨ s.lstI i = 1 ∨ s.lstI i = -1 := by
  unfold Sh.lstI
  split
  · exact .inl rfl
  · split
    · exact .inr (.inl rfl)
    · exact .inr (.inr rfl)

set_option maxHeartbeats 1000000 in
theorem lies_ref (p hb base : Nat) (s : Sh) (i : Int) (w : World) (h : RSh w p hb base s) :
    Calls Try.prog 41 #[.pointer (some ⟨p, 0, none⟩), .int .i64 i] w fun e w' => e = .returned (.int .i64 (s.liesC i)) ∧ w = w' := by
  have L := Lib.hid (list_ref p hb base s i w h)
  have e := liesC_ref h.fine i
  obtain ⟨f, ⟨v0, v1, r, o0, o1⟩, hr, ne, l1, l2, l3⟩ := h
  have cn : w.cell? ⟨p, 0, none⟩ = some (.int .i64 s.n) := by rw [r.cell]; rfl
  have n64 := f.n64
  clear r hr ne l1 l2 l3 o0 o1 f
  rw [e]
  clear e
  by_cases h0 : i < 0
  · have e : hasN s.n i = false := by unfold hasN; simp; omega
    rw [e]
    have d1 : decide (i < 0) = true := by simp [h0]
    rw [if_neg (by decide)]
    clear e
    go_enter Try.func41, Try.ntmps41
    go_wp2
    go_ret
    exact ⟨rfl, rfl⟩
  · have d1 : decide (i < 0) = false := by simp; omega
    by_cases h1 : (s.n : Int) ≤ i
    · have e : hasN s.n i = false := by unfold hasN; simp; omega
      rw [e]
      have d2 : decide ((s.n : Int) ≤ i) = true := by simp [h1]
      rw [if_neg (by decide)]
      clear e
      go_enter Try.func41, Try.ntmps41
      go_wp2
      go_ret
      exact ⟨rfl, rfl⟩
    · have d2 : decide ((s.n : Int) ≤ i) = false := by simp; omega
      have e : hasN s.n i = true := by unfold hasN; simp; omega
      rw [e, if_pos rfl]
      clear e
      rcases lstI_ge s i with e | e | e <;> rw [e] at L ⊢
      · rw [if_neg (by decide)]
        clear e
        go_enter Try.func41, Try.ntmps41
        go_wp2_with fail
        (with_reducible refine (L.out).mono ?_)
        rintro e w' ⟨rfl, rfl⟩
        go_wp2
        go_ret
        exact ⟨rfl, rfl⟩
      · rw [if_neg (by decide)]
        clear e
        go_enter Try.func41, Try.ntmps41
        go_wp2_with fail
        (with_reducible refine (L.out).mono ?_)
        rintro e w' ⟨rfl, rfl⟩
        go_wp2
        go_ret
        exact ⟨rfl, rfl⟩
      · rw [if_pos rfl]
        clear e
        go_enter Try.func41, Try.ntmps41
        go_wp2_with fail
        (with_reducible refine (L.out).mono ?_)
        rintro e w' ⟨rfl, rfl⟩
        go_wp2
        go_ret
        exact ⟨rfl, rfl⟩
end Go.Proofs.Ytgbccaplmafgkaa
