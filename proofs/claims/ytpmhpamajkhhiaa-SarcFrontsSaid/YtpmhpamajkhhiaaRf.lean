/- The document's own shelf: in memory; where a node is. -/
import Derived.Test.YtpmhpamajkhhiaaRingMarks
import Derived.Test.YtpmhpamajkhhiaaFind
import Derived.StillTailTactics
namespace Go.Proofs.Ytpmhpamajkhhiaa
open Go.RowKit
set_option linter.unusedVariables false

def boolC (b : Bool) : List Value := [.bool b]
theorem bool1 (b : Bool) : (boolC b).length = 1 := rfl

/-- a slice of the call's own, at a block that may be -/
def OwnsOk (w : World) (ok : Nat → Prop) (v : Value) (xs : List Int) : Prop := OwnsInts w 0 v xs ∧ ∀ g, v.ownBlock = some g → ok g
theorem OwnsOk.keep {w w' : World} {ok : Nat → Prop} {v : Value} {xs : List Int} (h : OwnsOk w ok v xs) {S : Nat → Prop} (o : Only S w w') (hn : ∀ g, ok g → ¬ S g) : OwnsOk w' ok v xs :=
  ⟨h.1.keep o (fun g hg => hn g (h.2 g hg)), h.2⟩
theorem OwnsOk.still {w w' : World} {ok : Nat → Prop} {v : Value} {xs : List Int} (h : OwnsOk w ok v xs) (o : Only none_ w w') : OwnsOk w' ok v xs := h.keep o (fun _ _ s => s)
theorem OwnsOk.lt {w : World} {ok : Nat → Prop} {v : Value} {xs : List Int} (h : OwnsOk w ok v xs) {g : Nat} (hg : v.ownBlock = some g) : g < w.heap.size := (h.1.base_le hg).2
theorem OwnsOk.new {w : World} {ok : Nat → Prop} {b : Nat} {v : Value} {xs : List Int} (h : OwnsInts w b v xs) (k : ∀ g, b ≤ g → ok g) : OwnsOk w ok v xs :=
  ⟨Owns.lower h (Nat.zero_le _), fun g hg => k g (h.base_le hg).1⟩
theorem OwnsOk.start (w : World) (ok : Nat → Prop) : OwnsOk w ok (.slice none 0 0) [] := ⟨Owns.start _ _ _ _ _, fun g hg => by cases hg⟩

/-- the document's own shelf: at block p, its marks at block hb, its lists' rows at blocks that may be -/
structure RSh (w : World) (p hb : Nat) (ok : Nat → Prop) (s : Sh) : Prop where
  fine : s.Fine
  it : ∃ v0 v1, Row w p 69 #[.int .i64 s.n, .int .i64 s.bot, v0, v1, .slice (some ⟨hb, 0, none⟩) s.n s.n] ∧ OwnsOk w ok v0 (ints s.l0) ∧ OwnsOk w ok v1 (ints s.l1)
  hrow : Row w hb 4 (flat boolC s.hs)
  ne : p ≠ hb
  ltp : ¬ ok p
  lth : ¬ ok hb
  ltb : ∀ g, w.heap.size ≤ g → ok g

theorem RSh.keep {w w' : World} {p hb : Nat} {ok : Nat → Prop} {s : Sh} (h : RSh w p hb ok s) {S : Nat → Prop} (k : Only S w w') (hp : ¬ S p) (hh : ¬ S hb) (hb' : ∀ g, ok g → ¬ S g) : RSh w' p hb ok s := by
  obtain ⟨f, ⟨v0, v1, r, o0, o1⟩, hr, ne, l1, l2, l3⟩ := h
  exact ⟨f, ⟨v0, v1, k.row r hp, o0.keep k hb', o1.keep k hb'⟩, k.row hr hh, ne, l1, l2, fun g hg => l3 g (Nat.le_trans k.size hg)⟩
theorem RSh.still {w w' : World} {p hb : Nat} {ok : Nat → Prop} {s : Sh} (h : RSh w p hb ok s) (k : Only none_ w w') : RSh w' p hb ok s := h.keep k (fun s => s) (fun s => s) (fun _ _ s => s)
theorem RSh.mono {w : World} {p hb : Nat} {ok ok' : Nat → Prop} {s : Sh} (h : RSh w p hb ok s) (k : ∀ g, g < w.heap.size → ok g → ok' g) (hp : ¬ ok' p) (hh : ¬ ok' hb) (hn : ∀ g, w.heap.size ≤ g → ok' g) : RSh w p hb ok' s := by
  obtain ⟨f, ⟨v0, v1, r, o0, o1⟩, hr, ne, l1, l2, l3⟩ := h
  exact ⟨f, ⟨v0, v1, r, ⟨o0.1, fun g hg => k g (o0.lt hg) (o0.2 g hg)⟩, ⟨o1.1, fun g hg => k g (o1.lt hg) (o1.2 g hg)⟩⟩, hr, ne, hp, hh, hn⟩

theorem mem_ints {l : List Nat} {j : Nat} : (j : Int) ∈ ints l ↔ j ∈ l := by
  unfold ints
  rw [List.mem_map]
  constructor
  · rintro ⟨x, hx, e⟩
    have : x = j := by omega
    rw [← this]; exact hx
  · intro h
    exact ⟨j, h, rfl⟩
theorem ints_neg {l : List Nat} {i : Int} (h : i ∈ ints l) : 0 ≤ i := by
  unfold ints at h
  rw [List.mem_map] at h
  obtain ⟨x, _, rfl⟩ := h
  omega
theorem idx_ints {l : List Nat} {j : Nat} : (ints l).idxOf (j : Int) = l.idxOf j := by
  induction l with
  | nil => rfl
  | cons x l ih =>
    show List.idxOf (j : Int) ((x : Int) :: ints l) = _
    rw [List.idxOf_cons, List.idxOf_cons]
    by_cases c : x = j
    · subst c; simp
    · have c1 : ((x : Int) == (j : Int)) = false := by simp; omega
      have c2 : (x == j) = false := by simp; omega
      rw [c1, c2, ih]
/-- the list of a node; -1: none -/
def Sh.lstI (s : Sh) (i : Int) : Int := if i ∈ ints s.l0 then 0 else if i ∈ ints s.l1 then 1 else -1
theorem lstI_nat (s : Sh) (j : Nat) : s.lstI j = s.lst j := by
  unfold Sh.lstI Sh.lst
  simp only [mem_ints]
theorem fine_len0 {s : Sh} (f : s.Fine) : s.l0.length ≤ 64 := Nat.le_trans (nodup_len _ _ f.nd0 f.lt0) f.n64
theorem fine_len1 {s : Sh} (f : s.Fine) : s.l1.length ≤ 64 := Nat.le_trans (nodup_len _ _ f.nd1 f.lt1) f.n64

theorem findI_ge {xs : List Int} {x : Int} (h : x ∈ xs) : 0 ≤ findI xs x := by
  unfold findI; rw [if_pos h]; omega

set_option maxHeartbeats 2000000 in
theorem list_ref (p hb : Nat) (ok : Nat → Prop) (s : Sh) (i : Int) (w : World) (h : RSh w p hb ok s) :
    Calls Try.prog 70 #[.pointer (some ⟨p, 0, none⟩), .int .i64 i] w fun e w' => e = .returned (.int .i64 (s.lstI i)) ∧ w = w' := by
  obtain ⟨f, ⟨v0, v1, r, o0, o1⟩, hr, ne, l1, l2, l3⟩ := h
  have c0 : w.cell? ⟨p, 2, none⟩ = some v0 := by rw [r.cell]; rfl
  have c1 : w.cell? ⟨p, 3, none⟩ = some v1 := by rw [r.cell]; rfl
  have F0 := Lib.hid (find_any v0 _ i w (Reads.of_owns o0.1) (by rw [ints_len]; have := fine_len0 f; omega))
  have F1 := Lib.hid (find_any v1 _ i w (Reads.of_owns o1.1) (by rw [ints_len]; have := fine_len1 f; omega))
  clear f r hr ne l1 l2 l3 o0 o1
  have NL := Lib.hid (show (i ∈ ints s.l0 → s.lstI i = 0) ∧ (i ∉ ints s.l0 → i ∈ ints s.l1 → s.lstI i = 1) ∧ (i ∉ ints s.l0 → i ∉ ints s.l1 → s.lstI i = -1) from by
    refine ⟨fun a => ?_, fun a b => ?_, fun a b => ?_⟩ <;> unfold Sh.lstI
    · rw [if_pos a]
    · rw [if_neg a, if_pos b]
    · rw [if_neg a, if_neg b])
  go_enter Try.func70, Try.ntmps70
  go_wp2_with fail
  go_loop [5] (fun v => ∃ k : Nat, k ≤ 2 ∧ v = .int .i64 k ∧ (1 ≤ k → i ∉ ints s.l0) ∧ (2 ≤ k → i ∉ ints s.l1)) (fun v => 2 - (intOf v).toNat)
  case atStart => exact ⟨0, by decide, rfl, fun h => by omega, fun h => by omega⟩
  case round =>
    obtain ⟨k, hk, rfl, h0, h1⟩ := hrel
    have H0 := Lib.hid h0
    have H1 := Lib.hid h1
    clear h0 h1
    have : k = 0 ∨ k = 1 ∨ k = 2 := by omega
    clear hk
    rcases this with rfl | rfl | rfl
    · by_cases m : i ∈ ints s.l0
      · have E := Lib.hid (NL.out.1 m)
        have g : decide (0 ≤ findI (ints s.l0) i) = true := decide_eq_true (findI_ge m)
        clear m
        generalize findI (ints s.l0) i = x0 at *
        go_wp2_with fail
        (with_reducible refine (F0.out).mono ?_)
        rintro e w' ⟨rfl, rfl⟩
        go_wp2_with fail
        go_ret
        exact ⟨by rw [E.out]; rfl, rfl⟩
      · have g : findI (ints s.l0) i = -1 := findI_no m
        rw [g] at F0
        have M := Lib.hid m
        clear m g
        go_wp2_with fail
        (with_reducible refine (F0.out).mono ?_)
        rintro e w' ⟨rfl, rfl⟩
        go_wp2_with fail
        go_round
        case rel => exact ⟨1, by decide, by go_num, fun _ => M.out, fun h => by omega⟩
        case measure => simp [intOf]
    · have m0 := Lib.hid (H0.out (by decide))
      by_cases m : i ∈ ints s.l1
      · have E := Lib.hid (NL.out.2.1 m0.out m)
        have g : decide (0 ≤ findI (ints s.l1) i) = true := decide_eq_true (findI_ge m)
        clear m
        generalize findI (ints s.l1) i = x0 at *
        go_wp2_with fail
        (with_reducible refine (F1.out).mono ?_)
        rintro e w' ⟨rfl, rfl⟩
        go_wp2_with fail
        go_ret
        exact ⟨by rw [E.out]; rfl, rfl⟩
      · have g : findI (ints s.l1) i = -1 := findI_no m
        rw [g] at F1
        have M := Lib.hid m
        clear m g
        go_wp2_with fail
        (with_reducible refine (F1.out).mono ?_)
        rintro e w' ⟨rfl, rfl⟩
        go_wp2_with fail
        go_round
        case rel => exact ⟨2, by decide, by go_num, fun _ => m0.out, fun _ => M.out⟩
        case measure => simp [intOf]
    · have E := Lib.hid (NL.out.2.2 (H0.out (by decide)) (H1.out (by decide)))
      go_wp2_with fail
      go_ret
      exact ⟨by rw [E.out]; rfl, rfl⟩

theorem liesC_ref {s : Sh} (f : s.Fine) (i : Int) : s.liesC i = if hasN s.n i then if s.lstI i = -1 then 3 else 0 else 1 := by
  unfold Sh.liesC
  split
  · rename_i e
    obtain ⟨j, rfl, hj⟩ := hasN_nat e
    rw [Int.toNat_natCast, lstI_nat]
  · rfl
theorem lstI_ge (s : Sh) (i : Int) : s.lstI i = 0 ∨ s.lstI i = 1 ∨ s.lstI i = -1 := by
  unfold Sh.lstI
  split
  · exact .inl rfl
  · split
    · exact .inr (.inl rfl)
    · exact .inr (.inr rfl)

set_option maxHeartbeats 1000000 in
theorem lies_ref (p hb : Nat) (ok : Nat → Prop) (s : Sh) (i : Int) (w : World) (h : RSh w p hb ok s) :
    Calls Try.prog 69 #[.pointer (some ⟨p, 0, none⟩), .int .i64 i] w fun e w' => e = .returned (.int .i64 (s.liesC i)) ∧ w = w' := by
  have L := Lib.hid (list_ref p hb ok s i w h)
  have e := liesC_ref h.fine i
  obtain ⟨f, ⟨v0, v1, r, o0, o1⟩, hr, ne, l1, l2, l3⟩ := h
  have cn : w.cell? ⟨p, 0, none⟩ = some (.int .i64 s.n) := by rw [r.cell]; rfl
  have n64 := f.n64
  clear r hr ne l1 l2 l3 o0 o1 f
  rw [e]
  clear e
  by_cases h0 : i < 0
  · have e : hasN s.n i = false := by unfold hasN; simp; omega
    rw [e]
    have d1 : decide (i < 0) = true := by simp [h0]
    rw [if_neg (by decide)]
    clear e
    go_enter Try.func69, Try.ntmps69
    go_wp2
    go_ret
    exact ⟨rfl, rfl⟩
  · have d1 : decide (i < 0) = false := by simp; omega
    by_cases h1 : (s.n : Int) ≤ i
    · have e : hasN s.n i = false := by unfold hasN; simp; omega
      rw [e]
      have d2 : decide ((s.n : Int) ≤ i) = true := by simp [h1]
      rw [if_neg (by decide)]
      clear e
      go_enter Try.func69, Try.ntmps69
      go_wp2
      go_ret
      exact ⟨rfl, rfl⟩
    · have d2 : decide ((s.n : Int) ≤ i) = false := by simp; omega
      have e : hasN s.n i = true := by unfold hasN; simp; omega
      rw [e, if_pos rfl]
      clear e
      rcases lstI_ge s i with e | e | e <;> rw [e] at L ⊢
      · rw [if_neg (by decide)]
        clear e
        go_enter Try.func69, Try.ntmps69
        go_wp2_with fail
        (with_reducible refine (L.out).mono ?_)
        rintro e w' ⟨rfl, rfl⟩
        go_wp2
        go_ret
        exact ⟨rfl, rfl⟩
      · rw [if_neg (by decide)]
        clear e
        go_enter Try.func69, Try.ntmps69
        go_wp2_with fail
        (with_reducible refine (L.out).mono ?_)
        rintro e w' ⟨rfl, rfl⟩
        go_wp2
        go_ret
        exact ⟨rfl, rfl⟩
      · rw [if_pos rfl]
        clear e
        go_enter Try.func69, Try.ntmps69
        go_wp2_with fail
        (with_reducible refine (L.out).mono ?_)
        rintro e w' ⟨rfl, rfl⟩
        go_wp2
        go_ret
        exact ⟨rfl, rfl⟩
end Go.Proofs.Ytpmhpamajkhhiaa
