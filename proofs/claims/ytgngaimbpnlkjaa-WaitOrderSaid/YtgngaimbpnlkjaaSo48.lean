/- A row of waiters is sorted by insertion. -/
import Derived.Test.YtgngaimbpnlkjaaSo0
import Derived.Deep.RegionHeld3
namespace Go.Proofs.Ytgngaimbpnlkjaa
open Go.RowKit Go.Sort
set_option linter.unusedVariables false

set_option maxHeartbeats 4000000 in
set_option maxRecDepth 100000 in
theorem ins48 {κ : Wt → Int} {w0 : World} {g p n cap : Nat} (LS : Less κ w0 g p) (a b : Nat) (d : Array Wt) (w : World) (S : Sq w0 w g d) (hd : d.size = n) (hab : a ≤ b) (hb : b ≤ n) (hn : n ≤ 1000) :
    Calls Try.prog 48 #[.slice (some ⟨g, 0, none⟩) n cap, .int .i64 a, .int .i64 b, cmpV p] w fun e w' => e = .returned (.tuple #[]) ∧ Sq w0 w' g (insertionSort (klt κ) d a b) := by
  have HS := Lib.hid S
  have HL := Lib.hid LS
  have HD := Lib.hid hd
  clear S LS hd
  unfold cmpV
  go_enter Try.func48, Try.ntmps48
  go_wp2_with fail
  go_loopw [8] (fun v wr => ∃ (i : Nat) (dk : Array Wt), v = .int .i64 (i : Int) ∧ a < i ∧ i ≤ b + 1 ∧ dk.size = n ∧ Sq w0 wr g dk ∧ insOuter (klt κ) a b i dk = insertionSort (klt κ) d a b) (fun v _ => b + 1 - (intOf v).toNat)
  case atStart => exact ⟨a + 1, d, by go_num, by omega, by omega, HD.out, HS.out, rfl⟩
  case round =>
    obtain ⟨i, dk, rfl, hai, hib, hsk, hS, hO⟩ := hrel
    have S1 := Lib.hid hS
    have O1 := Lib.hid hO
    have K1 := Lib.hid hsk
    clear hS hO hsk HS HD
    by_cases hlt : i < b
    · have t1 : decide ((i : Int) < (b : Int)) = true := decide_eq_true (by omega)
      go_wp2_with fail
      go_loopw [9] (fun v wx => ∃ (j : Nat) (dj : Array Wt), v = .int .i64 (j : Int) ∧ a ≤ j ∧ j ≤ i ∧ dj.size = n ∧ Sq w0 wx g dj ∧ insInner (klt κ) a j dj = insInner (klt κ) a i dk) (fun v _ => (intOf v).toNat)
      case atStart => exact ⟨i, dk, rfl, by omega, Nat.le_refl _, K1.out, S1.out, rfl⟩
      case round =>
        obtain ⟨wx, rfl⟩ : ∃ x : World, x = wr := ⟨_, rfl⟩
        obtain ⟨j, dj, rfl, haj, hji, hsj, hS, hI⟩ := hrel
        have S2 := Lib.hid hS
        have I2 := Lib.hid hI
        have K2 := Lib.hid hsj
        clear hS hI hsj
        have JN := Lib.hid (show j < n from by omega)
        by_cases hja : a < j
        · obtain ⟨x, hx⟩ : ∃ x, dj[j]! = x := ⟨_, rfl⟩
          obtain ⟨y, hy⟩ : ∃ y, dj[j - 1]! = y := ⟨_, rfl⟩
          have t2 : decide ((a : Int) < (j : Int)) = true := decide_eq_true (by omega)
          have j1 : j < dj.size := by rw [K2.out]; exact JN.out
          have j2 : j - 1 < dj.size := by omega
          have KS := Lib.hid (fun (w' : World) (s : Sq w0 w' g dj) => show (w'.cell? ⟨g, j * 2, none⟩ = some (.int .i64 x.r) ∧ w'.cell? ⟨g, j * 2 + 1, none⟩ = some (.int .i64 x.p)) ∧ (w'.cell? ⟨g, (j - 1) * 2, none⟩ = some (.int .i64 y.r) ∧ w'.cell? ⟨g, (j - 1) * 2 + 1, none⟩ = some (.int .i64 y.p)) from
            ⟨by rw [← hx]; exact s.cell j j1, by rw [← hy]; exact s.cell (j - 1) j2⟩)
          have CL := Lib.hid (fun (w' : World) (s : Sq w0 w' g dj) => HL.out.at_ s (Only.refl none_ w') j1 j2 hx hy)
          have v1 : IntKind.i64.wrap ((j : Int) - 1) = ((j - 1 : Nat) : Int) := by rw [IntKind.wrap_i64]; omega
          have b0 : (0 : Int) ≤ ((j - 1 : Nat) : Int) := by omega
          have b1 : ((j - 1 : Nat) : Int) < (n : Int) := by omega
          have b2 : (j : Int) < (n : Int) := by omega
          have DD := Lib.hid (S2.out.still ((Only.refl none_ wx).drew))
          obtain ⟨⟨cx0, cx1⟩, cy0, cy1⟩ := KS.out _ DD.out
          have J1 := Lib.hid j1
          have J2 := Lib.hid j2
          have HX := Lib.hid hx
          have HY := Lib.hid hy
          clear j1 j2 hx hy
          by_cases hl : klt κ x y = true
          · have l1 : decide (kcmp κ x y < 0) = true := by rw [kcmp_lt]; exact hl
            have HLT := Lib.hid hl
            clear hl
            go_wp2_with fail
            go_region_held3 (fun w' => (w'.cell? ⟨g, j * 2, none⟩ = some (.int .i64 x.r) ∧ w'.cell? ⟨g, j * 2 + 1, none⟩ = some (.int .i64 x.p)) ∧ (w'.cell? ⟨g, (j - 1) * 2, none⟩ = some (.int .i64 y.r) ∧ w'.cell? ⟨g, (j - 1) * 2 + 1, none⟩ = some (.int .i64 y.p)))
              (first
                | (with_reducible exact KS.out _ Q1.out)
                | (with_reducible exact KS.out _ DD.out)
                | fail)
              (first
                | (go_at_call 31; (with_reducible refine (CL.out _ DD.out).mono ?_); rintro e u1 ⟨rfl, o1⟩; have Q1 := Lib.hid (DD.out.still o1))
                | fail)
            have SW := Lib.hid (Q1.out.still ((Only.refl none_ u1).drew) |>.swap J1.out J2.out HX.out HY.out)
            obtain ⟨⟨ex0, ex1⟩, ey0, ey1⟩ := KS.out _ Q1.out
            have fz : ∀ k, u1.frozen? ⟨g, k, none⟩ = false := Q1.out.fz
            have n1 : ¬ j * 2 = (j - 1) * 2 := by omega
            have n2 : ¬ (j - 1) * 2 = j * 2 := by omega
            clear cx0 cx1 cy0 cy1
            go_wp2_with fail
            go_region
            all_goals (try go_wp2_with fail)
            all_goals
              go_roundw
              case rel => exact ⟨j - 1, swp dj j (j - 1), rfl, by omega, by omega, by rw [size_swp]; exact K2.out, SW.out, by rw [← I2.out, insInner_go (klt κ) a j dj hja (by rw [HX.out, HY.out]; exact HLT.out)]⟩
              case measure => simp [intOf]; omega
          · have hl : klt κ x y = false := by simpa using hl
            have l1 : decide (kcmp κ x y < 0) = false := by rw [kcmp_lt]; exact hl
            have ST := Lib.hid (insInner_stop (klt κ) a j dj (.inr (by rw [HX.out, HY.out]; exact hl)))
            clear hl
            go_wp2_with fail
            go_region_held3 (fun w' => (w'.cell? ⟨g, j * 2, none⟩ = some (.int .i64 x.r) ∧ w'.cell? ⟨g, j * 2 + 1, none⟩ = some (.int .i64 x.p)) ∧ (w'.cell? ⟨g, (j - 1) * 2, none⟩ = some (.int .i64 y.r) ∧ w'.cell? ⟨g, (j - 1) * 2 + 1, none⟩ = some (.int .i64 y.p)))
              (first
                | (with_reducible exact KS.out _ Q1.out)
                | (with_reducible exact KS.out _ DD.out)
                | fail)
              (first
                | (go_at_call 31; (with_reducible refine (CL.out _ DD.out).mono ?_); rintro e u1 ⟨rfl, o1⟩; have Q1 := Lib.hid (DD.out.still o1))
                | fail)
            go_wp2_with fail
            go_roundw
            case rel => exact ⟨i + 1, dj, by go_num, by omega, by omega, K2.out, Q1.out, by rw [← O1.out, insOuter_go _ _ _ _ _ hlt, ← I2.out, ST.out]⟩
            case measure => simp [intOf]; omega
        · have t2 : decide ((a : Int) < (j : Int)) = false := decide_eq_false (by omega)
          have ST := Lib.hid (insInner_stop (klt κ) a j dj (.inl (by omega)))
          go_wp2_with fail
          go_quiet (fail)
          go_wp2_with fail
          go_roundw
          case rel => exact ⟨i + 1, dj, by go_num, by omega, by omega, K2.out, S2.out.drewN _, by rw [← O1.out, insOuter_go _ _ _ _ _ hlt, ← I2.out, ST.out]⟩
          case measure => simp [intOf]; omega
    · have t1 : decide ((i : Int) < (b : Int)) = false := decide_eq_false (by omega)
      go_wp2_with fail
      go_end0
      exact ⟨rfl, by rw [← O1.out, insOuter_stop _ _ _ _ _ hlt]; exact S1.out⟩
end Go.Proofs.Ytgngaimbpnlkjaa
