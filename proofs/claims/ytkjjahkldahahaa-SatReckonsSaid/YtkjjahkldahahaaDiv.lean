/- What Div64 answers where the divisor is above the upper half: quotient and rest. -/
import Derived.Test.YtkjjahkldahahaaMul
import Derived.Deep.QuietTactic
import Derived.BigQuiet
import Derived.LoopTactic
import Derived.Deep.LoopGhost
import Derived.Deep.CutRange
import Derived.Deep.CutBlock
namespace Go.Proofs.Ytkjjahkldahahaa
open Go.RowKit Nums

theorem quot_nat (u y : Nat) (hu : u < 18446744073709551616) : IntKind.u64.wrap ((u : Int) / (y : Int)) = ((u / y : Nat) : Int) := by
  rw [show (u : Int) / (y : Int) = ((u / y : Nat) : Int) from rfl]
  exact fits_nat _ (Nat.lt_of_le_of_lt (Nat.div_le_self u y) hu)

theorem div64_low (lo y : Nat) (hlo : lo < 18446744073709551616) (hy : y < 18446744073709551616) (h0 : 0 < y) (w : World) :
    Calls Try.prog 31 #[.int .u64 0, .int .u64 lo, .int .u64 y] w fun e w' => ∃ n, e = .returned (.tuple #[.int .u64 ((lo / y : Nat) : Int), .int .u64 ((lo % y : Nat) : Int)]) ∧ w' = w.drewN n := by
  have t0 : ((y : Int) == 0) = false := by simpa using (by omega : (y : Int) ≠ 0)
  have t1 : ¬ y = 0 := by omega
  go_enter Try.func31, Try.ntmps31
  go_wp2
  go_quiet (fail)
  go_wp2
  refine bodyPost_ret (v := .tuple #[.int .u64 ((lo / y : Nat) : Int), .int .u64 ((lo % y : Nat) : Int)]) (by simp [results, Try.results31, go_sem, quot_nat lo y hlo]) rfl ⟨_, rfl, rfl⟩

theorem or_nat (hi t s : Nat) (ha : hi * 2 ^ s < 18446744073709551616) (ht : t < 2 ^ s) (hs : s < 64) : bits .or .u64 ((hi * 2 ^ s : Nat) : Int) ((t : Nat) : Int) = ((hi * 2 ^ s + t : Nat) : Int) := by
  have hp : 2 ^ s ≤ 2 ^ 63 := Nat.pow_le_pow_right (by omega) (by omega)
  have h := bits_or_u64_nat (hi * 2 ^ s) t ha (by omega)
  have e := Nat.shiftLeft_add_eq_or_of_lt ht hi
  rw [Nat.shiftLeft_eq] at e
  rw [h, ← e]

theorem rest_nat {m u d q y r : Nat} (h : u * m + d = q * y + r) (hr : r < 18446744073709551616) :
    IntKind.u64.wrap (IntKind.u64.wrap (IntKind.u64.wrap ((u : Int) * (m : Int)) + (d : Int)) - IntKind.u64.wrap ((q : Int) * (y : Int))) = (r : Int) := by
  simp only [IntKind.wrap_u64, times_nat]
  generalize u * m = a at *
  generalize q * y = b at *
  omega

theorem rest1_nat {u q y r : Nat} (h : u = q * y + r) (hr : r < 18446744073709551616) :
    IntKind.u64.wrap ((u : Int) - IntKind.u64.wrap ((q : Int) * (y : Int))) = (r : Int) := by
  simp only [IntKind.wrap_u64, times_nat]
  generalize q * y = b at *
  omega

/-- What the walk of the long division writes, each term by its plain number. -/
structure Terms (hi lo y s Y y1 y0 U L d1 d0 qa ra Q1 R1 qb rb Q0 R0 R : Nat) : Prop where
  e1 : IntKind.u64.wrap ((y : Int) * 2 ^ s) = (Y : Int)
  e2 : bits .and .u64 (Y : Int) 4294967295 = (y0 : Int)
  e3 : (Y : Int) / 4294967296 = (y1 : Int)
  e5 : bits .or .u64 (IntKind.u64.wrap ((hi : Int) * 2 ^ s)) ((lo : Int) / 2 ^ (64 - s)) = (U : Int)
  e6 : IntKind.u64.wrap ((lo : Int) * 2 ^ s) = (L : Int)
  e7 : (L : Int) / 4294967296 = (d1 : Int)
  e8 : bits .and .u64 (L : Int) 4294967295 = (d0 : Int)
  e9 : IntKind.u64.wrap ((U : Int) / (y1 : Int)) = (qa : Int)
  e10 : IntKind.u64.wrap ((U : Int) - IntKind.u64.wrap ((qa : Int) * (y1 : Int))) = (ra : Int)
  e11 : IntKind.u64.wrap (IntKind.u64.wrap (IntKind.u64.wrap ((U : Int) * 4294967296) + (d1 : Int)) - IntKind.u64.wrap ((Q1 : Int) * (Y : Int))) = (R1 : Int)
  e12 : IntKind.u64.wrap ((R1 : Int) / (y1 : Int)) = (qb : Int)
  e13 : IntKind.u64.wrap ((R1 : Int) - IntKind.u64.wrap ((qb : Int) * (y1 : Int))) = (rb : Int)
  e14 : IntKind.u64.wrap (IntKind.u64.wrap (IntKind.u64.wrap ((R1 : Int) * 4294967296) + (d0 : Int)) - IntKind.u64.wrap ((Q0 : Int) * (Y : Int))) = (R0 : Int)
  e15 : (R0 : Int) / 2 ^ s = (R : Int)

structure Bounds (y1 y0 d1 d0 U Y qa ra Q1 R1 qb rb Q0 R0 : Nat) : Prop where
  y1a : 2147483648 ≤ y1
  y1b : y1 < 4294967296
  y0b : y0 < 4294967296
  d1b : d1 < 4294967296
  d0b : d0 < 4294967296
  Ub : U < 18446744073709551616
  qab : qa ≤ 4294967297
  rab : ra < 4294967296
  Q1b : Q1 < 4294967296
  R1b : R1 < 18446744073709551616
  qbb : qb ≤ 4294967297
  rbb : rb < 4294967296
  Q0b : Q0 < 4294967296
  R0b : R0 < 18446744073709551616

/-- One digit's loop: the guess at its beginning, and how each of its ways goes on. -/
structure Digit (u d y1 y0 q0 r0 Q : Nat) : Prop where
  start : Guess u d y1 y0 q0 r0
  stop : ∀ {q r : Nat}, Guess u d y1 y0 q r → q * y0 ≤ 4294967296 * r + d → q = Q
  brk : ∀ {q r : Nat}, Guess u d y1 y0 q r → q ≤ 4294967296 → 4294967296 ≤ r → q = Q
  dec : ∀ {q r : Nat}, Guess u d y1 y0 q r → 4294967296 ≤ q ∨ 4294967296 * r + d < q * y0 → 0 < q ∧ Guess u d y1 y0 (q - 1) (r + y1)

theorem div_plan (hi lo y : Nat) (hlt : hi < y) (hlo : lo < 18446744073709551616) (hy : y < 18446744073709551616) :
    ∃ Y y1 y0 U L d1 d0 qa ra Q1 R1 qb rb Q0 R0 R : Nat, zeros y < 64 ∧ Terms hi lo y (zeros y) Y y1 y0 U L d1 d0 qa ra Q1 R1 qb rb Q0 R0 R ∧ Bounds y1 y0 d1 d0 U Y qa ra Q1 R1 qb rb Q0 R0 ∧
      Digit U d1 y1 y0 qa ra Q1 ∧ Digit R1 d0 y1 y0 qb rb Q0 ∧ (hi * 18446744073709551616 + lo) / y = Q1 * 4294967296 + Q0 ∧ (hi * 18446744073709551616 + lo) % y = R := by
  obtain ⟨hs, hY, hY2⟩ := zeros_shift (by omega) hy
  generalize zeros y = s at *
  obtain ⟨Y, y1, y0, U, L, d1, d0, Q1, R1, Q0, R0, k1, k2, k3, k4, k5, k6, k7, k8, k9, k10, k11, k12, k13, k14, k15, k16, k17, k18, k19, k20, k21, k22, k23, k24, k25, k26, k27, k28⟩ := plan hs hlt hlo hY hY2
  have hpos : 0 < y1 := by omega
  have hU : U < 18446744073709551616 := by omega
  have hR1 : R1 < 18446744073709551616 := by omega
  refine ⟨Y, y1, y0, U, L, d1, d0, U / y1, U % y1, Q1, R1, R1 / y1, R1 % y1, Q0, R0, _, hs, ⟨?_, ?_, ?_, ?_, ?_, ?_, ?_, ?_, ?_, ?_, ?_, ?_, ?_, ?_⟩,
    ⟨k6, k7, k8, k17, k18, hU, guess_low k6 k8 (by omega), Nat.lt_trans (Nat.mod_lt _ hpos) k7, k21, hR1, guess_low k6 k8 (by omega), Nat.lt_trans (Nat.mod_lt _ hpos) k7, k24, by omega⟩,
    ⟨guess_start hpos k17, fun g t => by rw [k25]; exact guess_stop hpos g t, fun g a b => by rw [k25]; exact guess_break hpos k8 g a b, fun g t => guess_dec k17 (by omega) g t⟩,
    ⟨guess_start hpos k18, fun g t => by rw [k26]; exact guess_stop hpos g t, fun g a b => by rw [k26]; exact guess_break hpos k8 g a b, fun g t => guess_dec k18 (by omega) g t⟩, k27, rfl⟩
  · rw [k1, ← fits_nat _ hY2]; simp
  · rw [k4]; exact mask_nat _ k2
  · rw [k3]; exact half_nat _
  · rw [k11, ← or_nat hi _ s k9 k10 hs, ← fits_nat _ k9]; simp
  · rw [k13, ← turns_nat]; simp
  · rw [k15]; exact half_nat _
  · rw [k16]; exact mask_nat _ k14
  · exact quot_nat U y1 hU
  · exact rest1_nat (Nat.div_add_mod' U y1).symm (Nat.lt_of_le_of_lt (Nat.mod_le U y1) hU)
  · exact rest_nat (m := 4294967296) k19 hR1
  · exact quot_nat R1 y1 hR1
  · exact rest1_nat (Nat.div_add_mod' R1 y1).symm (Nat.lt_of_le_of_lt (Nat.mod_le R1 y1) hR1)
  · exact rest_nat (m := 4294967296) k22 (by omega)
  · rw [k28]
    have : ((2 : Int) ^ s) ≠ 0 := by have := Nat.two_pow_pos s; exact_mod_cast (by omega : (2 : Nat) ^ s ≠ 0)
    generalize (hi * 18446744073709551616 + lo) % y = R at *
    rw [show ((R * 2 ^ s : Nat) : Int) = (R : Int) * 2 ^ s by simp]
    exact Int.mul_ediv_cancel _ this

/-- what holds at the head of a digit's loop -/
def AtHead (u d y1 y0 x : Nat) (q r : Value) : Prop := ∃ z : Nat, q = .int .u64 x ∧ r = .int .u64 z ∧ Guess u d y1 y0 x z ∧ x ≤ 4294967297 ∧ z < 4294967296

theorem int_of {k : IntKind} {a b : Int} (h : a = b) : Value.int k a = Value.int k b := by rw [h]

set_option maxRecDepth 100000 in
set_option maxHeartbeats 4000000 in
theorem div64_high (hi lo y : Nat) (hhi : 0 < hi) (hlt : hi < y) (hlo : lo < 18446744073709551616) (hy : y < 18446744073709551616) (w : World) :
    Calls Try.prog 31 #[.int .u64 hi, .int .u64 lo, .int .u64 y] w fun e w' =>
      e = .returned (.tuple #[.int .u64 (((hi * 18446744073709551616 + lo) / y : Nat) : Int), .int .u64 (((hi * 18446744073709551616 + lo) % y : Nat) : Int)]) ∧ w = w' := by
  have H := Lib.hid (zeros_any y hy w)
  obtain ⟨Y, y1, y0, U, L, d1, d0, qa, ra, Q1, R1, qb, rb, Q0, R0, R, hs, ⟨e1, e2, e3, e5, e6, e7, e8, e9, e10, e11, e12, e13, e14, e15⟩, ⟨y1a, y1b, y0b, d1b, d0b, Ub, qab, rab, Q1b, R1b, qbb, rbb, Q0b, R0b⟩, D1, D2, h1, h2⟩ := div_plan hi lo y hlt hlo hy
  rw [h1, h2]
  clear h1 h2
  generalize zeros y = s at *
  have t0 : ((y : Int) == 0) = false := by simpa using (by omega : (y : Int) ≠ 0)
  have t1 : ((hi : Int) == 0) = false := by simpa using (by omega : (hi : Int) ≠ 0)
  have t2 : ¬ y ≤ hi := by omega
  have t3 : ((y1 : Int) == 0) = false := by simpa using (by omega : (y1 : Int) ≠ 0)
  have t4 : ¬ y1 = 0 := by omega
  go_enter Try.func31, Try.ntmps31
  go_upto_block 0 with (go_at_call 33; (with_reducible refine H.out.mono ?_); rintro e w' ⟨rfl, rfl⟩)
  go_cut [15, 16] from 67 to 85 (fun q r wc => q = .int .u64 Q1 ∧ w = wc)
  case first =>
    go_wp2_with fail
    go_loopg [15, 16] qa (fun k q r wr => AtHead U d1 y1 y0 k q r ∧ w = wr)
    case atStart => exact ⟨⟨ra, rfl, rfl, D1.start, qab, rab⟩, rfl⟩
    case round =>
      obtain ⟨⟨z, rfl, rfl, gx, bx, bz⟩, rfl⟩ := hrel
      obtain ⟨x, hxg⟩ : ∃ x, x = gk := ⟨_, rfl⟩
      subst hxg
      have hp : IntKind.u64.wrap ((x : Int) * (y0 : Int)) = ((x * y0 % 18446744073709551616 : Nat) : Int) := by rw [times_nat]; exact turns_nat _
      by_cases T : 4294967296 ≤ x ∨ 4294967296 * z + d1 < x * y0
      · obtain ⟨h0, gy⟩ := D1.dec gx T
        have HG := Lib.hid gy
        by_cases c2 : z + y1 < 4294967296
        · have c4 : decide ((4294967296 : Int) ≤ (z : Int) + (y1 : Int)) = false := decide_eq_false (by omega)
          have C2 := Lib.hid c2
          clear c2
          by_cases c1 : 4294967296 ≤ x
          · clear gx gy T hp
            have c3 : decide ((4294967296 : Int) ≤ (x : Int)) = true := decide_eq_true (by omega)
            have C1 := Lib.hid c1
            clear c1
            go_wp2
            go_roundg (x - 1)
            case measure => omega
            case rel => exact ⟨⟨z + y1, int_of (by omega), int_of (by omega), HG.out, by omega, C2.out⟩, rfl⟩
          · have T2 : 4294967296 * z + d1 < x * y0 := by omega
            have hb : x * y0 < 18446744073709551616 := Nat.lt_of_lt_of_le (Nat.mul_lt_mul'' (Nat.lt_of_not_le c1) y0b) (by omega)
            rw [Nat.mod_eq_of_lt hb] at hp
            generalize x * y0 = P at *
            clear gx gy T
            have c3 : decide ((4294967296 : Int) ≤ (x : Int)) = false := decide_eq_false (by omega)
            have c5 : decide (4294967296 * (z : Int) + (d1 : Int) < (P : Int)) = true := decide_eq_true (by omega)
            have C1 := Lib.hid c1
            clear c1 T2 hb
            go_wp2
            go_roundg (x - 1)
            case measure => omega
            case rel => exact ⟨⟨z + y1, int_of (by omega), int_of (by omega), HG.out, by omega, C2.out⟩, rfl⟩
        · have hx := D1.brk gy (by omega) (by omega)
          have hx' : (x : Int) - 1 = (Q1 : Int) := by omega
          have HX := Lib.hid hx'
          have c4 : decide ((4294967296 : Int) ≤ (z : Int) + (y1 : Int)) = true := decide_eq_true (by omega)
          clear hx hx' c2
          by_cases c1 : 4294967296 ≤ x
          · clear gx gy T hp
            have c3 : decide ((4294967296 : Int) ≤ (x : Int)) = true := decide_eq_true (by omega)
            have C1 := Lib.hid c1
            clear c1
            go_wp2
            go_meet
            exact ⟨by rw [HX.out], rfl⟩
          · have T2 : 4294967296 * z + d1 < x * y0 := by omega
            have hb : x * y0 < 18446744073709551616 := Nat.lt_of_lt_of_le (Nat.mul_lt_mul'' (Nat.lt_of_not_le c1) y0b) (by omega)
            rw [Nat.mod_eq_of_lt hb] at hp
            generalize x * y0 = P at *
            clear gx gy T
            have c3 : decide ((4294967296 : Int) ≤ (x : Int)) = false := decide_eq_false (by omega)
            have c5 : decide (4294967296 * (z : Int) + (d1 : Int) < (P : Int)) = true := decide_eq_true (by omega)
            have C1 := Lib.hid c1
            clear c1 T2 hb
            go_wp2
            go_meet
            exact ⟨by rw [HX.out], rfl⟩
      · have c1 : x < 4294967296 := by omega
        have T2 : x * y0 ≤ 4294967296 * z + d1 := by omega
        have hx := D1.stop gx T2
        have HX := Lib.hid hx
        clear hx
        have hb : x * y0 < 18446744073709551616 := by omega
        rw [Nat.mod_eq_of_lt hb] at hp
        generalize x * y0 = P at *
        clear gx T
        have c3 : decide ((4294967296 : Int) ≤ (x : Int)) = false := decide_eq_false (by omega)
        have c5 : decide (4294967296 * (z : Int) + (d1 : Int) < (P : Int)) = false := decide_eq_false (by omega)
        clear c1 T2 hb
        go_wp2
        go_meet
        exact ⟨by rw [HX.out], rfl⟩
  case rest =>
    obtain ⟨rfl, rfl⟩ := hcut
    go_upto_block 2 with fail
    go_cut [18, 16] from 102 to 120 (fun q r wc => q = .int .u64 Q0 ∧ w = wc)
    case first =>
      go_wp2_with fail
      go_loopg [18, 16] qb (fun k q r wr => AtHead R1 d0 y1 y0 k q r ∧ w = wr)
      case atStart => exact ⟨⟨rb, rfl, rfl, D2.start, qbb, rbb⟩, rfl⟩
      case round =>
        obtain ⟨⟨z, rfl, rfl, gx, bx, bz⟩, rfl⟩ := hrel
        obtain ⟨x, hxg⟩ : ∃ x, x = gk := ⟨_, rfl⟩
        subst hxg
        have hp : IntKind.u64.wrap ((x : Int) * (y0 : Int)) = ((x * y0 % 18446744073709551616 : Nat) : Int) := by rw [times_nat]; exact turns_nat _
        by_cases T : 4294967296 ≤ x ∨ 4294967296 * z + d0 < x * y0
        · obtain ⟨h0, gy⟩ := D2.dec gx T
          have HG := Lib.hid gy
          by_cases c2 : z + y1 < 4294967296
          · have c4 : decide ((4294967296 : Int) ≤ (z : Int) + (y1 : Int)) = false := decide_eq_false (by omega)
            have C2 := Lib.hid c2
            clear c2
            by_cases c1 : 4294967296 ≤ x
            · clear gx gy T hp
              have c3 : decide ((4294967296 : Int) ≤ (x : Int)) = true := decide_eq_true (by omega)
              have C1 := Lib.hid c1
              clear c1
              go_wp2
              go_roundg (x - 1)
              case measure => omega
              case rel => exact ⟨⟨z + y1, int_of (by omega), int_of (by omega), HG.out, by omega, C2.out⟩, rfl⟩
            · have T2 : 4294967296 * z + d0 < x * y0 := by omega
              have hb : x * y0 < 18446744073709551616 := Nat.lt_of_lt_of_le (Nat.mul_lt_mul'' (Nat.lt_of_not_le c1) y0b) (by omega)
              rw [Nat.mod_eq_of_lt hb] at hp
              generalize x * y0 = P at *
              clear gx gy T
              have c3 : decide ((4294967296 : Int) ≤ (x : Int)) = false := decide_eq_false (by omega)
              have c5 : decide (4294967296 * (z : Int) + (d0 : Int) < (P : Int)) = true := decide_eq_true (by omega)
              have C1 := Lib.hid c1
              clear c1 T2 hb
              go_wp2
              go_roundg (x - 1)
              case measure => omega
              case rel => exact ⟨⟨z + y1, int_of (by omega), int_of (by omega), HG.out, by omega, C2.out⟩, rfl⟩
          · have hx := D2.brk gy (by omega) (by omega)
            have hx' : (x : Int) - 1 = (Q0 : Int) := by omega
            have HX := Lib.hid hx'
            have c4 : decide ((4294967296 : Int) ≤ (z : Int) + (y1 : Int)) = true := decide_eq_true (by omega)
            clear hx hx' c2
            by_cases c1 : 4294967296 ≤ x
            · clear gx gy T hp
              have c3 : decide ((4294967296 : Int) ≤ (x : Int)) = true := decide_eq_true (by omega)
              have C1 := Lib.hid c1
              clear c1
              go_wp2
              go_meet
              exact ⟨by rw [HX.out], rfl⟩
            · have T2 : 4294967296 * z + d0 < x * y0 := by omega
              have hb : x * y0 < 18446744073709551616 := Nat.lt_of_lt_of_le (Nat.mul_lt_mul'' (Nat.lt_of_not_le c1) y0b) (by omega)
              rw [Nat.mod_eq_of_lt hb] at hp
              generalize x * y0 = P at *
              clear gx gy T
              have c3 : decide ((4294967296 : Int) ≤ (x : Int)) = false := decide_eq_false (by omega)
              have c5 : decide (4294967296 * (z : Int) + (d0 : Int) < (P : Int)) = true := decide_eq_true (by omega)
              have C1 := Lib.hid c1
              clear c1 T2 hb
              go_wp2
              go_meet
              exact ⟨by rw [HX.out], rfl⟩
        · have c1 : x < 4294967296 := by omega
          have T2 : x * y0 ≤ 4294967296 * z + d0 := by omega
          have hx := D2.stop gx T2
          have HX := Lib.hid hx
          clear hx
          have hb : x * y0 < 18446744073709551616 := by omega
          rw [Nat.mod_eq_of_lt hb] at hp
          generalize x * y0 = P at *
          clear gx T
          have c3 : decide ((4294967296 : Int) ≤ (x : Int)) = false := decide_eq_false (by omega)
          have c5 : decide (4294967296 * (z : Int) + (d0 : Int) < (P : Int)) = false := decide_eq_false (by omega)
          clear c1 T2 hb
          go_wp2
          go_meet
          exact ⟨by rw [HX.out], rfl⟩
    case rest =>
      obtain ⟨rfl, rfl⟩ := hcut
      go_wp2
      go_ret2
      exact ⟨by simp, rfl⟩
end Go.Proofs.Ytkjjahkldahahaa
