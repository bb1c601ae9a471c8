/- A row of waiters is sorted by a heap. -/
import Derived.Test.YtgngaimbpnlkjaaSo62
import Derived.Deep.RegionHeld3
namespace Go.Proofs.Ytgngaimbpnlkjaa
open Go.RowKit Go.Sort
set_option linter.unusedVariables false

set_option maxHeartbeats 4000000 in
set_option maxRecDepth 100000 in
theorem sift_len (lt : Wt → Wt → Bool) (hi F : Nat) : ∀ (N root : Nat) (d : Array Wt), hi - root ≤ N → (siftDown lt hi F root d).size = d.size := by
  intro N
  induction N with
  | zero => intro root d h; rw [siftDown, dif_pos (by omega)]
  | succ N ih =>
    intro root d h
    rw [siftDown]
    split
    · rfl
    · split
      · split
        · rfl
        · split
          · rw [ih _ _ (by omega), size_swp]
          · rfl
      · split
        · rfl
        · rw [ih _ _ (by omega), size_swp]
theorem sift_size (lt : Wt → Wt → Bool) (hi F root : Nat) (d : Array Wt) : (siftDown lt hi F root d).size = d.size := sift_len lt hi F _ root d (Nat.le_refl _)

set_option maxHeartbeats 4000000 in
set_option maxRecDepth 100000 in
theorem heap49 {κ : Wt → Int} {w0 : World} {g p n cap : Nat} (LS : Less κ w0 g p) (a b : Nat) (d : Array Wt) (w : World) (S : Sq w0 w g d) (hd : d.size = n) (hab : a < b) (hb : b ≤ n) (hn : n ≤ 1000) :
    Calls Try.prog 49 #[.slice (some ⟨g, 0, none⟩) n cap, .int .i64 a, .int .i64 b, cmpV p] w fun e w' => e = .returned (.tuple #[]) ∧ Sq w0 w' g (heapSort (klt κ) d a b) := by
  have HS := Lib.hid S
  have HL := Lib.hid LS
  have HD := Lib.hid hd
  clear S LS hd
  obtain ⟨hi, hhi⟩ : ∃ hi, hi = b - a := ⟨_, rfl⟩
  obtain ⟨h0, hh0⟩ : ∃ h0, h0 = (hi - 1) / 2 := ⟨_, rfl⟩
  have v1 : IntKind.i64.wrap ((b : Int) - (a : Int)) = (hi : Int) := by rw [IntKind.wrap_i64]; omega
  have v2 : IntKind.i64.wrap ((hi : Int) - 1) = (hi : Int) - 1 := by rw [IntKind.wrap_i64]; omega
  have v3 : IntKind.i64.wrap (((hi : Int) - 1).tdiv 2) = (h0 : Int) := by rw [show ((hi : Int) - 1).tdiv 2 = (h0 : Int) from by rw [show (hi : Int) - 1 = ((hi - 1 : Nat) : Int) by omega, hh0]; rfl, IntKind.wrap_i64]; omega
  have EQ := Lib.hid (show heapSort (klt κ) d a b = heapPop (klt κ) a hi (heapBuild (klt κ) hi a (h0 + 1) d) from by rw [hhi, hh0, hhi]; rfl)
  have HB := Lib.hid (show a + hi = b ∧ 1 ≤ hi ∧ h0 < hi from by omega)
  have hin : hi ≤ n := by omega
  have BN := Lib.hid (show a < n from by omega)
  rw [EQ.out]
  obtain ⟨d1, hd1⟩ : ∃ x, x = heapBuild (klt κ) hi a (h0 + 1) d := ⟨_, rfl⟩
  rw [← hd1]
  have E1 := Lib.hid hd1
  clear EQ hhi hh0 hd1
  unfold cmpV
  go_enter Try.func49, Try.ntmps49
  go_wp2_with fail
  go_loopw [11] (fun v wr => ∃ (k : Nat) (kv : Int) (dk : Array Wt), v = .int .i64 kv ∧ kv = (k : Int) - 1 ∧ k ≤ h0 + 1 ∧ dk.size = n ∧ Sq w0 wr g dk ∧ heapBuild (klt κ) hi a k dk = d1) (fun v _ => (intOf v + 1).toNat)
  case atStart => exact ⟨h0 + 1, _, d, rfl, by omega, Nat.le_refl _, HD.out, HS.out, E1.out.symm⟩
  case round =>
    obtain ⟨W0, rfl⟩ : ∃ x : World, x = wr := ⟨_, rfl⟩
    obtain ⟨k, kv, dk, rfl, hkv, hk, hsk, hS, hO⟩ := hrel
    have S2 := Lib.hid hS
    have O2 := Lib.hid hO
    have K2 := Lib.hid hsk
    clear hS hO hsk HS HD
    cases k with
    | succ k =>
      obtain rfl : kv = (k : Int) := by omega
      clear hkv
      have t1 : decide ((0 : Int) ≤ (k : Int)) = true := decide_eq_true (by omega)
      have v4 : IntKind.i64.wrap ((k : Int) - 1) = (k : Int) - 1 := by have := HB.out; rw [IntKind.wrap_i64]; omega
      have SI := Lib.hid (sift62 (cap := cap) HL.out k hi a dk _ S2.out K2.out (by have := HB.out; omega) (by have := HB.out; omega) hn)
      have SZ := Lib.hid (show (siftDown (klt κ) hi a k dk).size = n from by rw [sift_size]; exact K2.out)
      go_wp2_with fail
      (with_reducible refine SI.out.mono ?_)
      rintro e w3 ⟨rfl, S3⟩
      have S3 := Lib.hid S3
      go_wp2_with fail
      go_roundw
      case rel => exact ⟨k, _, siftDown (klt κ) hi a k dk, rfl, rfl, by omega, SZ.out, S3.out, by rw [← O2.out]; rfl⟩
      case measure => simp [intOf]
    | zero =>
      obtain rfl : kv = -1 := by omega
      clear hkv
      have v5 : IntKind.i64.wrap ((hi : Int) - 1) = (hi : Int) - 1 := v2
      have S1 := Lib.hid (show Sq w0 W0 g d1 from by rw [← show dk = d1 from O2.out]; exact S2.out)
      have K1 := Lib.hid (show d1.size = n from by rw [← show dk = d1 from O2.out]; exact K2.out)
      clear O2 hk S2 K2
      go_wp2_with fail
      go_loopw [12] (fun v wr => ∃ (k : Nat) (kv : Int) (dk : Array Wt), v = .int .i64 kv ∧ kv = (k : Int) - 1 ∧ k ≤ hi ∧ dk.size = n ∧ Sq w0 wr g dk ∧ heapPop (klt κ) a k dk = heapPop (klt κ) a hi d1) (fun v _ => (intOf v + 1).toNat)
      case atStart => exact ⟨hi, _, d1, rfl, rfl, Nat.le_refl _, K1.out, S1.out, rfl⟩
      case round =>
        clear S1 K1
        obtain ⟨W0, rfl⟩ : ∃ x : World, x = wr := ⟨_, rfl⟩
        obtain ⟨k, kv, dk, rfl, hkv, hk, hsk, hS, hO⟩ := hrel
        have S2 := Lib.hid hS
        have O2 := Lib.hid hO
        have K2 := Lib.hid hsk
        clear hS hO hsk
        cases k with
        | zero =>
          obtain rfl : kv = -1 := by omega
          clear hkv
          go_wp2_with fail
          go_end0
          exact ⟨rfl, by rw [← O2.out]; exact S2.out⟩
        | succ k =>
          obtain rfl : kv = (k : Int) := by omega
          clear hkv
          have t1 : decide ((0 : Int) ≤ (k : Int)) = true := decide_eq_true (by omega)
          have v4 : IntKind.i64.wrap ((k : Int) - 1) = (k : Int) - 1 := by rw [IntKind.wrap_i64]; omega
          obtain ⟨fy, hfy⟩ : ∃ x, x = a + k := ⟨_, rfl⟩
          have b1 : (a : Int) < (n : Int) := by have := BN.out; omega
          have FN := Lib.hid (show fy < n from by have := HB.out; omega)
          have b2 : (fy : Int) < (n : Int) := by have := FN.out; omega
          have v6 : IntKind.i64.wrap ((a : Int) + (k : Int)) = (fy : Int) := by rw [IntKind.wrap_i64]; omega
          have KH := Lib.hid hk
          have hkn : a + k ≤ n := by have := HB.out; omega
          by_cases k0 : k = 0
          · subst k0
            have fya : fy = a := by omega
            rw [fya] at v6
            clear hfy b2 FN hk
            obtain ⟨xb, hxb⟩ : ∃ x, dk[a]! = x := ⟨_, rfl⟩
            obtain ⟨yb, hyb⟩ : ∃ y, dk[a]! = y := ⟨_, rfl⟩
            have j1b : a < dk.size := by rw [K2.out]; exact BN.out
            have j2b : a < dk.size := by rw [K2.out]; exact BN.out
            have KSb := Lib.hid (fun (w' : World) (s : Sq w0 w' g dk) => show (w'.cell? ⟨g, a * 2, none⟩ = some (.int .i64 xb.r) ∧ w'.cell? ⟨g, a * 2 + 1, none⟩ = some (.int .i64 xb.p)) ∧ (w'.cell? ⟨g, a * 2, none⟩ = some (.int .i64 yb.r) ∧ w'.cell? ⟨g, a * 2 + 1, none⟩ = some (.int .i64 yb.p)) from
              ⟨by rw [← hxb]; exact s.cell a j1b, by rw [← hyb]; exact s.cell a j2b⟩)
            have CLb := Lib.hid (fun (w' : World) (s : Sq w0 w' g dk) => HL.out.at_ s (Only.refl none_ w') j1b j2b hxb hyb)
            have DDb := Lib.hid (S2.out.still ((Only.refl none_ W0).drew))
            obtain ⟨⟨cx0b, cx1b⟩, cy0b, cy1b⟩ := KSb.out _ DDb.out
            have J1b := Lib.hid j1b
            have J2b := Lib.hid j2b
            have HXb := Lib.hid hxb
            have HYb := Lib.hid hyb
            clear j1b j2b hxb hyb
            obtain rfl : yb = xb := HYb.out.symm.trans HXb.out
            have SI := Lib.hid (fun (w' : World) (s : Sq w0 w' g (swp dk a a)) => show Calls Try.prog 62 #[.slice (some ⟨g, 0, none⟩) n cap, .int .i64 0, .int .i64 0, .int .i64 a, .func (.func 31) #[.pointer (some ⟨p, 0, none⟩)] #[]] w' (fun e w'' => e = .returned (.tuple #[]) ∧ Sq w0 w'' g (siftDown (klt κ) 0 a 0 (swp dk a a))) from sift62 (n := n) (cap := cap) HL.out 0 0 a (swp dk a a) w' s (by rw [size_swp]; exact K2.out) (Nat.zero_le _) hkn hn)
            have SZ := Lib.hid (show (siftDown (klt κ) 0 a 0 (swp dk a a)).size = n from by rw [sift_size, size_swp]; exact K2.out)
            clear hkn
            have SW := Lib.hid (S2.out.still ((Only.refl none_ W0).drew) |>.swap J1b.out J2b.out HXb.out HYb.out)
            obtain ⟨⟨ex0b, ex1b⟩, ey0b, ey1b⟩ := KSb.out _ S2.out
            have fzb : ∀ k, W0.frozen? ⟨g, k, none⟩ = false := S2.out.fz
            go_wp2_with fail
            go_region
            all_goals (try go_wp2_with fail)
            all_goals clear ex0b ex1b ey0b ey1b fzb
            all_goals
              refine (SI.out _ SW.out).mono ?_
              rintro e w3 ⟨rfl, S3⟩
              have S3 := Lib.hid S3
              go_wp2_with fail
              go_roundw
              case rel => exact ⟨0, _, siftDown (klt κ) 0 a 0 (swp dk a a), rfl, rfl, Nat.zero_le _, SZ.out, S3.out, by rw [← O2.out]; rfl⟩
              case measure => simp [intOf]
          · have AP : a < fy := by omega
            have FY := Lib.hid hfy
            clear hfy hk
            obtain ⟨xb, hxb⟩ : ∃ x, dk[a]! = x := ⟨_, rfl⟩
            obtain ⟨yb, hyb⟩ : ∃ y, dk[fy]! = y := ⟨_, rfl⟩
            have j1b : a < dk.size := by rw [K2.out]; exact BN.out
            have j2b : fy < dk.size := by rw [K2.out]; exact FN.out
            have KSb := Lib.hid (fun (w' : World) (s : Sq w0 w' g dk) => show (w'.cell? ⟨g, a * 2, none⟩ = some (.int .i64 xb.r) ∧ w'.cell? ⟨g, a * 2 + 1, none⟩ = some (.int .i64 xb.p)) ∧ (w'.cell? ⟨g, fy * 2, none⟩ = some (.int .i64 yb.r) ∧ w'.cell? ⟨g, fy * 2 + 1, none⟩ = some (.int .i64 yb.p)) from
              ⟨by rw [← hxb]; exact s.cell a j1b, by rw [← hyb]; exact s.cell fy j2b⟩)
            have CLb := Lib.hid (fun (w' : World) (s : Sq w0 w' g dk) => HL.out.at_ s (Only.refl none_ w') j1b j2b hxb hyb)
            have DDb := Lib.hid (S2.out.still ((Only.refl none_ W0).drew))
            obtain ⟨⟨cx0b, cx1b⟩, cy0b, cy1b⟩ := KSb.out _ DDb.out
            have J1b := Lib.hid j1b
            have J2b := Lib.hid j2b
            have HXb := Lib.hid hxb
            have HYb := Lib.hid hyb
            clear j1b j2b hxb hyb
            have SI := Lib.hid (fun (w' : World) (s : Sq w0 w' g (swp dk a fy)) => show Calls Try.prog 62 #[.slice (some ⟨g, 0, none⟩) n cap, .int .i64 0, .int .i64 k, .int .i64 a, .func (.func 31) #[.pointer (some ⟨p, 0, none⟩)] #[]] w' (fun e w'' => e = .returned (.tuple #[]) ∧ Sq w0 w'' g (siftDown (klt κ) k a 0 (swp dk a fy))) from sift62 (n := n) (cap := cap) HL.out 0 k a (swp dk a fy) w' s (by rw [size_swp]; exact K2.out) (Nat.zero_le _) hkn hn)
            have SZ := Lib.hid (show (siftDown (klt κ) k a 0 (swp dk a fy)).size = n from by rw [sift_size, size_swp]; exact K2.out)
            clear hkn
            have SW := Lib.hid (S2.out.still ((Only.refl none_ W0).drew) |>.swap J1b.out J2b.out HXb.out HYb.out)
            obtain ⟨⟨ex0b, ex1b⟩, ey0b, ey1b⟩ := KSb.out _ S2.out
            have fzb : ∀ k, W0.frozen? ⟨g, k, none⟩ = false := S2.out.fz
            have n1b : ¬ a * 2 = fy * 2 := by omega
            have n2b : ¬ fy * 2 = a * 2 := by omega
            go_wp2_with fail
            go_region
            all_goals (try go_wp2_with fail)
            all_goals clear ex0b ex1b ey0b ey1b fzb
            all_goals
              refine (SI.out _ SW.out).mono ?_
              rintro e w3 ⟨rfl, S3⟩
              have S3 := Lib.hid S3
              go_wp2_with fail
              go_roundw
              case rel => exact ⟨k, _, siftDown (klt κ) k a 0 (swp dk a fy), rfl, rfl, by have := KH.out; omega, SZ.out, S3.out, by rw [← O2.out]; show _ = heapPop (klt κ) a k (siftDown (klt κ) k a 0 (swp dk a (a + k))); rw [← FY.out]⟩
              case measure => simp [intOf]
end Go.Proofs.Ytgngaimbpnlkjaa
