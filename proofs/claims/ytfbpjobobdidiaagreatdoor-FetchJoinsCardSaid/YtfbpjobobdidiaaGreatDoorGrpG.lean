/- Texts of the layers below, side by side. -/
import Derived.Test.YtfbpjobobdidiaaGreatDoorGrpF
import Derived.Deep.RegionHeld3
/- A row of waiters is sorted by insertion. -/
namespace Go.Proofs.YtfbpjobobdidiaaGreatDoor
open Go.RowKit Go.Sort
set_option linter.unusedVariables false
set_option maxRecDepth 100000

set_option maxHeartbeats 4000000 in
set_option maxRecDepth 100000 in
theorem ins48 {κ : Wt → Int} {w0 : World} {g p n cap : Nat} (LS : Less κ w0 g p) (a b : Nat) (d : Array Wt) (w : World) (S : Sq w0 w g d) (hd : d.size = n) (hab : a ≤ b) (hb : b ≤ n) (hn : n ≤ 1000) :
    Calls Tryz.prog 173 #[.slice (some ⟨g, 0, none⟩) n cap, .int .i64 a, .int .i64 b, cmpV p] w fun e w' => e = .returned (.tuple #[]) ∧ Sq w0 w' g (insertionSort (klt κ) d a b) := by
  have HS := Lib.hid S
  have HL := Lib.hid LS
  have HD := Lib.hid hd
  clear S LS hd
  unfold cmpV
  go_enter Tryz.func173, Tryz.ntmps173
  go_wp2_with fail
  go_loopw [8] (fun v wr => ∃ (i : Nat) (dk : Array Wt), v = .int .i64 (i : Int) ∧ a < i ∧ i ≤ b + 1 ∧ dk.size = n ∧ Sq w0 wr g dk ∧ insOuter (klt κ) a b i dk = insertionSort (klt κ) d a b) (fun v _ => b + 1 - (intOf v).toNat)
  case atStart => exact ⟨a + 1, d, by go_num, by omega, by omega, HD.out, HS.out, rfl⟩
  case round =>
    obtain ⟨i, dk, rfl, hai, hib, hsk, hS, hO⟩ := hrel
    have S1 := Lib.hid hS
    have O1 := Lib.hid hO
    have K1 := Lib.hid hsk
    clear hS hO hsk HS HD
    by_cases hlt : i < b
    · have t1 : decide ((i : Int) < (b : Int)) = true := decide_eq_true (by omega)
      go_wp2_with fail
      go_loopw [9] (fun v wx => ∃ (j : Nat) (dj : Array Wt), v = .int .i64 (j : Int) ∧ a ≤ j ∧ j ≤ i ∧ dj.size = n ∧ Sq w0 wx g dj ∧ insInner (klt κ) a j dj = insInner (klt κ) a i dk) (fun v _ => (intOf v).toNat)
      case atStart => exact ⟨i, dk, rfl, by omega, Nat.le_refl _, K1.out, S1.out, rfl⟩
      case round =>
        obtain ⟨wx, rfl⟩ : ∃ x : World, x = wr := ⟨_, rfl⟩
        obtain ⟨j, dj, rfl, haj, hji, hsj, hS, hI⟩ := hrel
        have S2 := Lib.hid hS
        have I2 := Lib.hid hI
        have K2 := Lib.hid hsj
        clear hS hI hsj
        have JN := Lib.hid (show j < n from by omega)
        by_cases hja : a < j
        · obtain ⟨x, hx⟩ : ∃ x, dj[j]! = x := ⟨_, rfl⟩
          obtain ⟨y, hy⟩ : ∃ y, dj[j - 1]! = y := ⟨_, rfl⟩
          have t2 : decide ((a : Int) < (j : Int)) = true := decide_eq_true (by omega)
          have j1 : j < dj.size := by rw [K2.out]; exact JN.out
          have j2 : j - 1 < dj.size := by omega
          have KS := Lib.hid (fun (w' : World) (s : Sq w0 w' g dj) => show (w'.cell? ⟨g, j * 2, none⟩ = some (.int .i64 x.r) ∧ w'.cell? ⟨g, j * 2 + 1, none⟩ = some (.int .i64 x.p)) ∧ (w'.cell? ⟨g, (j - 1) * 2, none⟩ = some (.int .i64 y.r) ∧ w'.cell? ⟨g, (j - 1) * 2 + 1, none⟩ = some (.int .i64 y.p)) from
            ⟨by rw [← hx]; exact s.cell j j1, by rw [← hy]; exact s.cell (j - 1) j2⟩)
          have CL := Lib.hid (fun (w' : World) (s : Sq w0 w' g dj) => HL.out.at_ s (Only.refl none_ w') j1 j2 hx hy)
          have v1 : IntKind.i64.wrap ((j : Int) - 1) = ((j - 1 : Nat) : Int) := by rw [IntKind.wrap_i64]; omega
          have b0 : (0 : Int) ≤ ((j - 1 : Nat) : Int) := by omega
          have b1 : ((j - 1 : Nat) : Int) < (n : Int) := by omega
          have b2 : (j : Int) < (n : Int) := by omega
          have DD := Lib.hid (S2.out.still ((Only.refl none_ wx).drew))
          obtain ⟨⟨cx0, cx1⟩, cy0, cy1⟩ := KS.out _ DD.out
          have J1 := Lib.hid j1
          have J2 := Lib.hid j2
          have HX := Lib.hid hx
          have HY := Lib.hid hy
          clear j1 j2 hx hy
          by_cases hl : klt κ x y = true
          · have l1 : decide (kcmp κ x y < 0) = true := by rw [kcmp_lt]; exact hl
            have HLT := Lib.hid hl
            clear hl
            go_wp2_with fail
            go_region_held3 (fun w' => (w'.cell? ⟨g, j * 2, none⟩ = some (.int .i64 x.r) ∧ w'.cell? ⟨g, j * 2 + 1, none⟩ = some (.int .i64 x.p)) ∧ (w'.cell? ⟨g, (j - 1) * 2, none⟩ = some (.int .i64 y.r) ∧ w'.cell? ⟨g, (j - 1) * 2 + 1, none⟩ = some (.int .i64 y.p)))
              (first
                | (with_reducible exact KS.out _ Q1.out)
                | (with_reducible exact KS.out _ DD.out)
                | fail)
              (first
                | (go_at_call 123; (with_reducible refine (CL.out _ DD.out).mono ?_); rintro e u1 ⟨rfl, o1⟩; have Q1 := Lib.hid (DD.out.still o1))
                | fail)
            have SW := Lib.hid (Q1.out.still ((Only.refl none_ u1).drew) |>.swap J1.out J2.out HX.out HY.out)
            obtain ⟨⟨ex0, ex1⟩, ey0, ey1⟩ := KS.out _ Q1.out
            have fz : ∀ k, u1.frozen? ⟨g, k, none⟩ = false := Q1.out.fz
            have n1 : ¬ j * 2 = (j - 1) * 2 := by omega
            have n2 : ¬ (j - 1) * 2 = j * 2 := by omega
            clear cx0 cx1 cy0 cy1
            go_wp2_with fail
            go_region
            all_goals (try go_wp2_with fail)
            all_goals
              go_roundw
              case rel => exact ⟨j - 1, swp dj j (j - 1), rfl, by omega, by omega, by rw [size_swp]; exact K2.out, SW.out, by rw [← I2.out, insInner_go (klt κ) a j dj hja (by rw [HX.out, HY.out]; exact HLT.out)]⟩
              case measure => simp [intOf]; omega
          · have hl : klt κ x y = false := by simpa using hl
            have l1 : decide (kcmp κ x y < 0) = false := by rw [kcmp_lt]; exact hl
            have ST := Lib.hid (insInner_stop (klt κ) a j dj (.inr (by rw [HX.out, HY.out]; exact hl)))
            clear hl
            go_wp2_with fail
            go_region_held3 (fun w' => (w'.cell? ⟨g, j * 2, none⟩ = some (.int .i64 x.r) ∧ w'.cell? ⟨g, j * 2 + 1, none⟩ = some (.int .i64 x.p)) ∧ (w'.cell? ⟨g, (j - 1) * 2, none⟩ = some (.int .i64 y.r) ∧ w'.cell? ⟨g, (j - 1) * 2 + 1, none⟩ = some (.int .i64 y.p)))
              (first
                | (with_reducible exact KS.out _ Q1.out)
                | (with_reducible exact KS.out _ DD.out)
                | fail)
              (first
                | (go_at_call 123; (with_reducible refine (CL.out _ DD.out).mono ?_); rintro e u1 ⟨rfl, o1⟩; have Q1 := Lib.hid (DD.out.still o1))
                | fail)
            go_wp2_with fail
            go_roundw
            case rel => exact ⟨i + 1, dj, by go_num, by omega, by omega, K2.out, Q1.out, by rw [← O1.out, insOuter_go _ _ _ _ _ hlt, ← I2.out, ST.out]⟩
            case measure => simp [intOf]; omega
        · have t2 : decide ((a : Int) < (j : Int)) = false := decide_eq_false (by omega)
          have ST := Lib.hid (insInner_stop (klt κ) a j dj (.inl (by omega)))
          go_wp2_with fail
          go_quiet (fail)
          go_wp2_with fail
          go_roundw
          case rel => exact ⟨i + 1, dj, by go_num, by omega, by omega, K2.out, S2.out.drewN _, by rw [← O1.out, insOuter_go _ _ _ _ _ hlt, ← I2.out, ST.out]⟩
          case measure => simp [intOf]; omega
    · have t1 : decide ((i : Int) < (b : Int)) = false := decide_eq_false (by omega)
      go_wp2_with fail
      go_end0
      exact ⟨rfl, by rw [← O1.out, insOuter_stop _ _ _ _ _ hlt]; exact S1.out⟩
end Go.Proofs.YtfbpjobobdidiaaGreatDoor


/- A heap of waiters: one sinks. -/
namespace Go.Proofs.YtfbpjobobdidiaaGreatDoor
open Go.RowKit Go.Sort
set_option linter.unusedVariables false
set_option maxRecDepth 100000

set_option maxHeartbeats 4000000 in
set_option maxRecDepth 100000 in
theorem sift62 {κ : Wt → Int} {w0 : World} {g p n cap : Nat} (LS : Less κ w0 g p) (lo hi first : Nat) (d : Array Wt) (w : World) (S : Sq w0 w g d) (hd : d.size = n) (hlo : lo ≤ hi) (hb : first + hi ≤ n) (hn : n ≤ 1000) :
    Calls Tryz.prog 187 #[.slice (some ⟨g, 0, none⟩) n cap, .int .i64 lo, .int .i64 hi, .int .i64 first, cmpV p] w fun e w' => e = .returned (.tuple #[]) ∧ Sq w0 w' g (siftDown (klt κ) hi first lo d) := by
  have HS := Lib.hid S
  have HL := Lib.hid LS
  have HD := Lib.hid hd
  clear S LS hd
  unfold cmpV
  go_enter Tryz.func187, Tryz.ntmps187
  go_wp2_with fail
  go_loopw [10] (fun v wr => ∃ (root : Nat) (dk : Array Wt), v = .int .i64 (root : Int) ∧ root ≤ hi ∧ dk.size = n ∧ Sq w0 wr g dk ∧ siftDown (klt κ) hi first root dk = siftDown (klt κ) hi first lo d) (fun v _ => hi + 1 - (intOf v).toNat)
  case atStart => exact ⟨lo, d, rfl, hlo, HD.out, HS.out, rfl⟩
  case round =>
    obtain ⟨W0, rfl⟩ : ∃ x : World, x = wr := ⟨_, rfl⟩
    obtain ⟨root, dk, rfl, hr, hsk, hS, hO⟩ := hrel
    have S2 := Lib.hid hS
    have O2 := Lib.hid hO
    have K2 := Lib.hid hsk
    clear hS hO hsk HS HD
    obtain ⟨c, hc⟩ : ∃ c, c = 2 * root + 1 := ⟨_, rfl⟩
    obtain ⟨c1, hc1⟩ : ∃ c1, c1 = c + 1 := ⟨_, rfl⟩
    obtain ⟨fr, hfr⟩ : ∃ x, x = first + root := ⟨_, rfl⟩
    obtain ⟨fc, hfc⟩ : ∃ x, x = first + c := ⟨_, rfl⟩
    obtain ⟨fc1, hfc1⟩ : ∃ x, x = first + c1 := ⟨_, rfl⟩
    have v1 : IntKind.i64.wrap (2 * (root : Int)) = 2 * (root : Int) := by rw [IntKind.wrap_i64]; omega
    have v2 : IntKind.i64.wrap (2 * (root : Int) + 1) = (c : Int) := by rw [IntKind.wrap_i64]; omega
    have v3 : IntKind.i64.wrap ((c : Int) + 1) = (c1 : Int) := by rw [IntKind.wrap_i64]; omega
    have v4 : IntKind.i64.wrap ((first : Int) + (c : Int)) = (fc : Int) := by rw [IntKind.wrap_i64]; omega
    have v5 : IntKind.i64.wrap ((fc : Int) + 1) = (fc1 : Int) := by rw [IntKind.wrap_i64]; omega
    have v6 : IntKind.i64.wrap ((first : Int) + (root : Int)) = (fr : Int) := by rw [IntKind.wrap_i64]; omega
    have v7 : IntKind.i64.wrap ((first : Int) + (c1 : Int)) = (fc1 : Int) := by rw [IntKind.wrap_i64]; omega
    have EC := Lib.hid (And.intro hc hc1)
    have EF := Lib.hid (show fr = first + root ∧ fc = first + (2 * root + 1) ∧ fc1 = first + (2 * root + 2) from by omega)
    by_cases hch : c < hi
    · have t1 : decide ((hi : Int) ≤ (c : Int)) = false := decide_eq_false (by omega)
      have FR := Lib.hid (show fr < n from by omega)
      have FRC := Lib.hid (show fc < n ∧ (c1 < hi → fc1 < n) from by omega)
      have AP : fr < fc ∧ fc < fc1 := by omega
      have b1 : (fr : Int) < (n : Int) := by omega
      have b2 : (fc : Int) < (n : Int) := by omega
      by_cases hc1h : c1 < hi
      · have t2 : decide ((c1 : Int) < (hi : Int)) = true := decide_eq_true (by omega)
        have b3 : (fc1 : Int) < (n : Int) := by omega
        have CH := Lib.hid (And.intro hch hc1h)
        clear hc hc1 hfr hfc hfc1 hb
        obtain ⟨xa, hxa⟩ : ∃ x, dk[fc]! = x := ⟨_, rfl⟩
        obtain ⟨ya, hya⟩ : ∃ y, dk[fc1]! = y := ⟨_, rfl⟩
        have j1a : fc < dk.size := by rw [K2.out]; exact FRC.out.1
        have j2a : fc1 < dk.size := by rw [K2.out]; exact FRC.out.2 hc1h
        have KSa := Lib.hid (fun (w' : World) (s : Sq w0 w' g dk) => show (w'.cell? ⟨g, fc * 2, none⟩ = some (.int .i64 xa.r) ∧ w'.cell? ⟨g, fc * 2 + 1, none⟩ = some (.int .i64 xa.p)) ∧ (w'.cell? ⟨g, fc1 * 2, none⟩ = some (.int .i64 ya.r) ∧ w'.cell? ⟨g, fc1 * 2 + 1, none⟩ = some (.int .i64 ya.p)) from
          ⟨by rw [← hxa]; exact s.cell fc j1a, by rw [← hya]; exact s.cell fc1 j2a⟩)
        have CLa := Lib.hid (fun (w' : World) (s : Sq w0 w' g dk) => HL.out.at_ s (Only.refl none_ w') j1a j2a hxa hya)
        have DDa := Lib.hid (S2.out.still ((Only.refl none_ W0).drew))
        obtain ⟨⟨cx0a, cx1a⟩, cy0a, cy1a⟩ := KSa.out _ DDa.out
        have J1a := Lib.hid j1a
        have J2a := Lib.hid j2a
        have HXa := Lib.hid hxa
        have HYa := Lib.hid hya
        clear j1a j2a hxa hya
        by_cases hla : klt κ xa ya = true
        · have la : decide (kcmp κ xa ya < 0) = true := by rw [kcmp_lt]; exact hla
          have HLTa := Lib.hid hla
          clear hla
          go_wp2_with fail
          go_region_held3 (fun w' => (w'.cell? ⟨g, fc * 2, none⟩ = some (.int .i64 xa.r) ∧ w'.cell? ⟨g, fc * 2 + 1, none⟩ = some (.int .i64 xa.p)) ∧ (w'.cell? ⟨g, fc1 * 2, none⟩ = some (.int .i64 ya.r) ∧ w'.cell? ⟨g, fc1 * 2 + 1, none⟩ = some (.int .i64 ya.p)))
            (first
              | (with_reducible exact KSa.out _ Q1.out)
              | (with_reducible exact KSa.out _ DDa.out)
              | fail)
            (first
              | (go_at_call 123; (with_reducible refine (CLa.out _ DDa.out).mono ?_); rintro e u1 ⟨rfl, oa⟩; have Q1 := Lib.hid (DDa.out.still oa); clear oa)
              | fail)
          clear cx0a cx1a cy0a cy1a
          obtain ⟨xb, hxb⟩ : ∃ x, dk[fr]! = x := ⟨_, rfl⟩
          obtain ⟨yb, hyb⟩ : ∃ y, dk[fc1]! = y := ⟨_, rfl⟩
          have j1b : fr < dk.size := by rw [K2.out]; exact FR.out
          have j2b : fc1 < dk.size := by rw [K2.out]; exact FRC.out.2 hc1h
          have KSb := Lib.hid (fun (w' : World) (s : Sq w0 w' g dk) => show (w'.cell? ⟨g, fr * 2, none⟩ = some (.int .i64 xb.r) ∧ w'.cell? ⟨g, fr * 2 + 1, none⟩ = some (.int .i64 xb.p)) ∧ (w'.cell? ⟨g, fc1 * 2, none⟩ = some (.int .i64 yb.r) ∧ w'.cell? ⟨g, fc1 * 2 + 1, none⟩ = some (.int .i64 yb.p)) from
            ⟨by rw [← hxb]; exact s.cell fr j1b, by rw [← hyb]; exact s.cell fc1 j2b⟩)
          have CLb := Lib.hid (fun (w' : World) (s : Sq w0 w' g dk) => HL.out.at_ s (Only.refl none_ w') j1b j2b hxb hyb)
          have DDb := Lib.hid (Q1.out.still ((Only.refl none_ u1).drew))
          obtain ⟨⟨cx0b, cx1b⟩, cy0b, cy1b⟩ := KSb.out _ DDb.out
          have J1b := Lib.hid j1b
          have J2b := Lib.hid j2b
          have HXb := Lib.hid hxb
          have HYb := Lib.hid hyb
          clear j1b j2b hxb hyb
          by_cases hlb : klt κ xb yb = true
          · have lb : decide (kcmp κ xb yb < 0) = true := by rw [kcmp_lt]; exact hlb
            have HLTb := Lib.hid hlb
            clear hlb
            have GO := Lib.hid (sd_right_go (lt := klt κ) (hi := hi) (F := first) (root := root) dk (by have := EC.out; omega) (by rw [← EF.out.2.1, ← EF.out.2.2]; rw [HXa.out, HYa.out]; exact HLTa.out) (by rw [← EF.out.1, ← EF.out.2.2, HXb.out, HYb.out]; exact HLTb.out))
            go_wp2_with fail
            go_region_held3 (fun w' => (w'.cell? ⟨g, fr * 2, none⟩ = some (.int .i64 xb.r) ∧ w'.cell? ⟨g, fr * 2 + 1, none⟩ = some (.int .i64 xb.p)) ∧ (w'.cell? ⟨g, fc1 * 2, none⟩ = some (.int .i64 yb.r) ∧ w'.cell? ⟨g, fc1 * 2 + 1, none⟩ = some (.int .i64 yb.p)))
              (first
                | (with_reducible exact KSb.out _ Q2.out)
                | (with_reducible exact KSb.out _ DDb.out)
                | fail)
              (first
                | (go_at_call 123; (with_reducible refine (CLb.out _ DDb.out).mono ?_); rintro e u2 ⟨rfl, ob⟩; have Q2 := Lib.hid (DDb.out.still ob); clear ob)
                | fail)
            clear cx0b cx1b cy0b cy1b
            have SW := Lib.hid (Q2.out.still ((Only.refl none_ u2).drew) |>.swap J1b.out J2b.out HXb.out HYb.out)
            obtain ⟨⟨ex0b, ex1b⟩, ey0b, ey1b⟩ := KSb.out _ Q2.out
            have fzb : ∀ k, u2.frozen? ⟨g, k, none⟩ = false := Q2.out.fz
            have n1b : ¬ fr * 2 = fc1 * 2 := by omega
            have n2b : ¬ fc1 * 2 = fr * 2 := by omega
            go_wp2_with fail
            go_region
            all_goals (try go_wp2_with fail)
            all_goals clear ex0b ex1b ey0b ey1b fzb
            all_goals
              go_roundw
              case rel => exact ⟨c1, swp dk fr fc1, rfl, by have := EC.out; omega, by rw [size_swp]; exact K2.out, SW.out, by rw [← O2.out, GO.out, EF.out.1, EF.out.2.2, show c1 = _ from (by have := EC.out; omega : c1 = 2 * root + 2)]⟩
              case measure => have := EC.out; simp [intOf]; omega
          · have hlb : klt κ xb yb = false := by simpa using hlb
            have lb : decide (kcmp κ xb yb < 0) = false := by rw [kcmp_lt]; exact hlb
            have HLTb := Lib.hid hlb
            clear hlb
            have ST := Lib.hid (sd_right_stop (lt := klt κ) (hi := hi) (F := first) (root := root) dk (by have := EC.out; omega) (by rw [← EF.out.2.1, ← EF.out.2.2]; rw [HXa.out, HYa.out]; exact HLTa.out) (by rw [← EF.out.1, ← EF.out.2.2, HXb.out, HYb.out]; exact HLTb.out))
            go_wp2_with fail
            go_region_held3 (fun w' => (w'.cell? ⟨g, fr * 2, none⟩ = some (.int .i64 xb.r) ∧ w'.cell? ⟨g, fr * 2 + 1, none⟩ = some (.int .i64 xb.p)) ∧ (w'.cell? ⟨g, fc1 * 2, none⟩ = some (.int .i64 yb.r) ∧ w'.cell? ⟨g, fc1 * 2 + 1, none⟩ = some (.int .i64 yb.p)))
              (first
                | (with_reducible exact KSb.out _ Q2.out)
                | (with_reducible exact KSb.out _ DDb.out)
                | fail)
              (first
                | (go_at_call 123; (with_reducible refine (CLb.out _ DDb.out).mono ?_); rintro e u2 ⟨rfl, ob⟩; have Q2 := Lib.hid (DDb.out.still ob); clear ob)
                | fail)
            clear cx0b cx1b cy0b cy1b
            go_wp2_with fail
            refine bodyPost_ret (results_none rfl _ _ _) rfl ?_
            exact ⟨rfl, by rw [← O2.out, ST.out]; exact Q2.out⟩
        · have hla : klt κ xa ya = false := by simpa using hla
          have la : decide (kcmp κ xa ya < 0) = false := by rw [kcmp_lt]; exact hla
          have HLTa := Lib.hid hla
          clear hla
          go_wp2_with fail
          go_region_held3 (fun w' => (w'.cell? ⟨g, fc * 2, none⟩ = some (.int .i64 xa.r) ∧ w'.cell? ⟨g, fc * 2 + 1, none⟩ = some (.int .i64 xa.p)) ∧ (w'.cell? ⟨g, fc1 * 2, none⟩ = some (.int .i64 ya.r) ∧ w'.cell? ⟨g, fc1 * 2 + 1, none⟩ = some (.int .i64 ya.p)))
            (first
              | (with_reducible exact KSa.out _ Q1.out)
              | (with_reducible exact KSa.out _ DDa.out)
              | fail)
            (first
              | (go_at_call 123; (with_reducible refine (CLa.out _ DDa.out).mono ?_); rintro e u1 ⟨rfl, oa⟩; have Q1 := Lib.hid (DDa.out.still oa); clear oa)
              | fail)
          clear cx0a cx1a cy0a cy1a
          obtain ⟨xb, hxb⟩ : ∃ x, dk[fr]! = x := ⟨_, rfl⟩
          obtain ⟨yb, hyb⟩ : ∃ y, dk[fc]! = y := ⟨_, rfl⟩
          have j1b : fr < dk.size := by rw [K2.out]; exact FR.out
          have j2b : fc < dk.size := by rw [K2.out]; exact FRC.out.1
          have KSb := Lib.hid (fun (w' : World) (s : Sq w0 w' g dk) => show (w'.cell? ⟨g, fr * 2, none⟩ = some (.int .i64 xb.r) ∧ w'.cell? ⟨g, fr * 2 + 1, none⟩ = some (.int .i64 xb.p)) ∧ (w'.cell? ⟨g, fc * 2, none⟩ = some (.int .i64 yb.r) ∧ w'.cell? ⟨g, fc * 2 + 1, none⟩ = some (.int .i64 yb.p)) from
            ⟨by rw [← hxb]; exact s.cell fr j1b, by rw [← hyb]; exact s.cell fc j2b⟩)
          have CLb := Lib.hid (fun (w' : World) (s : Sq w0 w' g dk) => HL.out.at_ s (Only.refl none_ w') j1b j2b hxb hyb)
          have DDb := Lib.hid (Q1.out.still ((Only.refl none_ u1).drew))
          obtain ⟨⟨cx0b, cx1b⟩, cy0b, cy1b⟩ := KSb.out _ DDb.out
          have J1b := Lib.hid j1b
          have J2b := Lib.hid j2b
          have HXb := Lib.hid hxb
          have HYb := Lib.hid hyb
          clear j1b j2b hxb hyb
          by_cases hlb : klt κ xb yb = true
          · have lb : decide (kcmp κ xb yb < 0) = true := by rw [kcmp_lt]; exact hlb
            have HLTb := Lib.hid hlb
            clear hlb
            have GO := Lib.hid (sd_left_go (lt := klt κ) (hi := hi) (F := first) (root := root) dk (by have := EC.out; omega) (fun _ => by rw [← EF.out.2.1, ← EF.out.2.2]; rw [HXa.out, HYa.out]; exact HLTa.out) (by rw [← EF.out.1, ← EF.out.2.1, HXb.out, HYb.out]; exact HLTb.out))
            go_wp2_with fail
            go_region_held3 (fun w' => (w'.cell? ⟨g, fr * 2, none⟩ = some (.int .i64 xb.r) ∧ w'.cell? ⟨g, fr * 2 + 1, none⟩ = some (.int .i64 xb.p)) ∧ (w'.cell? ⟨g, fc * 2, none⟩ = some (.int .i64 yb.r) ∧ w'.cell? ⟨g, fc * 2 + 1, none⟩ = some (.int .i64 yb.p)))
              (first
                | (with_reducible exact KSb.out _ Q2.out)
                | (with_reducible exact KSb.out _ DDb.out)
                | fail)
              (first
                | (go_at_call 123; (with_reducible refine (CLb.out _ DDb.out).mono ?_); rintro e u2 ⟨rfl, ob⟩; have Q2 := Lib.hid (DDb.out.still ob); clear ob)
                | fail)
            clear cx0b cx1b cy0b cy1b
            have SW := Lib.hid (Q2.out.still ((Only.refl none_ u2).drew) |>.swap J1b.out J2b.out HXb.out HYb.out)
            obtain ⟨⟨ex0b, ex1b⟩, ey0b, ey1b⟩ := KSb.out _ Q2.out
            have fzb : ∀ k, u2.frozen? ⟨g, k, none⟩ = false := Q2.out.fz
            have n1b : ¬ fr * 2 = fc * 2 := by omega
            have n2b : ¬ fc * 2 = fr * 2 := by omega
            go_wp2_with fail
            go_region
            all_goals (try go_wp2_with fail)
            all_goals clear ex0b ex1b ey0b ey1b fzb
            all_goals
              go_roundw
              case rel => exact ⟨c, swp dk fr fc, rfl, by have := EC.out; omega, by rw [size_swp]; exact K2.out, SW.out, by rw [← O2.out, GO.out, EF.out.1, EF.out.2.1, show c = _ from (by have := EC.out; omega : c = 2 * root + 1)]⟩
              case measure => have := EC.out; simp [intOf]; omega
          · have hlb : klt κ xb yb = false := by simpa using hlb
            have lb : decide (kcmp κ xb yb < 0) = false := by rw [kcmp_lt]; exact hlb
            have HLTb := Lib.hid hlb
            clear hlb
            have ST := Lib.hid (sd_left_stop (lt := klt κ) (hi := hi) (F := first) (root := root) dk (by have := EC.out; omega) (fun _ => by rw [← EF.out.2.1, ← EF.out.2.2]; rw [HXa.out, HYa.out]; exact HLTa.out) (by rw [← EF.out.1, ← EF.out.2.1, HXb.out, HYb.out]; exact HLTb.out))
            go_wp2_with fail
            go_region_held3 (fun w' => (w'.cell? ⟨g, fr * 2, none⟩ = some (.int .i64 xb.r) ∧ w'.cell? ⟨g, fr * 2 + 1, none⟩ = some (.int .i64 xb.p)) ∧ (w'.cell? ⟨g, fc * 2, none⟩ = some (.int .i64 yb.r) ∧ w'.cell? ⟨g, fc * 2 + 1, none⟩ = some (.int .i64 yb.p)))
              (first
                | (with_reducible exact KSb.out _ Q2.out)
                | (with_reducible exact KSb.out _ DDb.out)
                | fail)
              (first
                | (go_at_call 123; (with_reducible refine (CLb.out _ DDb.out).mono ?_); rintro e u2 ⟨rfl, ob⟩; have Q2 := Lib.hid (DDb.out.still ob); clear ob)
                | fail)
            clear cx0b cx1b cy0b cy1b
            go_wp2_with fail
            refine bodyPost_ret (results_none rfl _ _ _) rfl ?_
            exact ⟨rfl, by rw [← O2.out, ST.out]; exact Q2.out⟩
      · have t2 : decide ((c1 : Int) < (hi : Int)) = false := decide_eq_false (by omega)
        have CH := Lib.hid hch
        clear hc hc1 hfr hfc hfc1 hb
        go_wp2_with fail
        go_quiet (fail)
        have S3 := Lib.hid (S2.out.drewN nq)
        revert S3
        generalize W0.drewN nq = W1
        intro S3
        obtain ⟨xb, hxb⟩ : ∃ x, dk[fr]! = x := ⟨_, rfl⟩
        obtain ⟨yb, hyb⟩ : ∃ y, dk[fc]! = y := ⟨_, rfl⟩
        have j1b : fr < dk.size := by rw [K2.out]; exact FR.out
        have j2b : fc < dk.size := by rw [K2.out]; exact FRC.out.1
        have KSb := Lib.hid (fun (w' : World) (s : Sq w0 w' g dk) => show (w'.cell? ⟨g, fr * 2, none⟩ = some (.int .i64 xb.r) ∧ w'.cell? ⟨g, fr * 2 + 1, none⟩ = some (.int .i64 xb.p)) ∧ (w'.cell? ⟨g, fc * 2, none⟩ = some (.int .i64 yb.r) ∧ w'.cell? ⟨g, fc * 2 + 1, none⟩ = some (.int .i64 yb.p)) from
          ⟨by rw [← hxb]; exact s.cell fr j1b, by rw [← hyb]; exact s.cell fc j2b⟩)
        have CLb := Lib.hid (fun (w' : World) (s : Sq w0 w' g dk) => HL.out.at_ s (Only.refl none_ w') j1b j2b hxb hyb)
        have DDb := Lib.hid (S3.out.still ((Only.refl none_ W1).drew))
        obtain ⟨⟨cx0b, cx1b⟩, cy0b, cy1b⟩ := KSb.out _ DDb.out
        have J1b := Lib.hid j1b
        have J2b := Lib.hid j2b
        have HXb := Lib.hid hxb
        have HYb := Lib.hid hyb
        clear j1b j2b hxb hyb
        by_cases hlb : klt κ xb yb = true
        · have lb : decide (kcmp κ xb yb < 0) = true := by rw [kcmp_lt]; exact hlb
          have HLTb := Lib.hid hlb
          clear hlb
          have GO := Lib.hid (sd_left_go (lt := klt κ) (hi := hi) (F := first) (root := root) dk (by have := EC.out; omega) (fun h => by have := EC.out; omega) (by rw [← EF.out.1, ← EF.out.2.1, HXb.out, HYb.out]; exact HLTb.out))
          go_wp2_with fail
          go_region_held3 (fun w' => (w'.cell? ⟨g, fr * 2, none⟩ = some (.int .i64 xb.r) ∧ w'.cell? ⟨g, fr * 2 + 1, none⟩ = some (.int .i64 xb.p)) ∧ (w'.cell? ⟨g, fc * 2, none⟩ = some (.int .i64 yb.r) ∧ w'.cell? ⟨g, fc * 2 + 1, none⟩ = some (.int .i64 yb.p)))
            (first
              | (with_reducible exact KSb.out _ Q2.out)
              | (with_reducible exact KSb.out _ DDb.out)
              | fail)
            (first
              | (go_at_call 123; (with_reducible refine (CLb.out _ DDb.out).mono ?_); rintro e u2 ⟨rfl, ob⟩; have Q2 := Lib.hid (DDb.out.still ob); clear ob)
              | fail)
          clear cx0b cx1b cy0b cy1b
          have SW := Lib.hid (Q2.out.still ((Only.refl none_ u2).drew) |>.swap J1b.out J2b.out HXb.out HYb.out)
          obtain ⟨⟨ex0b, ex1b⟩, ey0b, ey1b⟩ := KSb.out _ Q2.out
          have fzb : ∀ k, u2.frozen? ⟨g, k, none⟩ = false := Q2.out.fz
          have n1b : ¬ fr * 2 = fc * 2 := by omega
          have n2b : ¬ fc * 2 = fr * 2 := by omega
          go_wp2_with fail
          go_region
          all_goals (try go_wp2_with fail)
          all_goals clear ex0b ex1b ey0b ey1b fzb
          all_goals
            go_roundw
            case rel => exact ⟨c, swp dk fr fc, rfl, by have := EC.out; omega, by rw [size_swp]; exact K2.out, SW.out, by rw [← O2.out, GO.out, EF.out.1, EF.out.2.1, show c = _ from (by have := EC.out; omega : c = 2 * root + 1)]⟩
            case measure => have := EC.out; simp [intOf]; omega
        · have hlb : klt κ xb yb = false := by simpa using hlb
          have lb : decide (kcmp κ xb yb < 0) = false := by rw [kcmp_lt]; exact hlb
          have HLTb := Lib.hid hlb
          clear hlb
          have ST := Lib.hid (sd_left_stop (lt := klt κ) (hi := hi) (F := first) (root := root) dk (by have := EC.out; omega) (fun h => by have := EC.out; omega) (by rw [← EF.out.1, ← EF.out.2.1, HXb.out, HYb.out]; exact HLTb.out))
          go_wp2_with fail
          go_region_held3 (fun w' => (w'.cell? ⟨g, fr * 2, none⟩ = some (.int .i64 xb.r) ∧ w'.cell? ⟨g, fr * 2 + 1, none⟩ = some (.int .i64 xb.p)) ∧ (w'.cell? ⟨g, fc * 2, none⟩ = some (.int .i64 yb.r) ∧ w'.cell? ⟨g, fc * 2 + 1, none⟩ = some (.int .i64 yb.p)))
            (first
              | (with_reducible exact KSb.out _ Q2.out)
              | (with_reducible exact KSb.out _ DDb.out)
              | fail)
            (first
              | (go_at_call 123; (with_reducible refine (CLb.out _ DDb.out).mono ?_); rintro e u2 ⟨rfl, ob⟩; have Q2 := Lib.hid (DDb.out.still ob); clear ob)
              | fail)
          clear cx0b cx1b cy0b cy1b
          go_wp2_with fail
          refine bodyPost_ret (results_none rfl _ _ _) rfl ?_
          exact ⟨rfl, by rw [← O2.out, ST.out]; exact Q2.out⟩
    · have t1 : decide ((hi : Int) ≤ (c : Int)) = true := decide_eq_true (by omega)
      have ST := Lib.hid (sd_end (lt := klt κ) (hi := hi) (F := first) (root := root) dk (by omega))
      go_wp2_with fail
      go_end0
      exact ⟨rfl, by rw [← O2.out, ST.out]; exact S2.out⟩
end Go.Proofs.YtfbpjobobdidiaaGreatDoor


/- A row of waiters is sorted by a heap. -/
namespace Go.Proofs.YtfbpjobobdidiaaGreatDoor
open Go.RowKit Go.Sort
set_option linter.unusedVariables false
set_option maxRecDepth 100000

set_option maxHeartbeats 4000000 in
set_option maxRecDepth 100000 in
theorem sift_len (lt : Wt → Wt → Bool) (hi F : Nat) : ∀ (N root : Nat) (d : Array Wt), hi - root ≤ N → (siftDown lt hi F root d).size = d.size := by
  intro N
  induction N with
  | zero => intro root d h; rw [siftDown, dif_pos (by omega)]
  | succ N ih =>
    intro root d h
    rw [siftDown]
    split
    · rfl
    · split
      · split
        · rfl
        · split
          · rw [ih _ _ (by omega), size_swp]
          · rfl
      · split
        · rfl
        · rw [ih _ _ (by omega), size_swp]
theorem sift_size (lt : Wt → Wt → Bool) (hi F root : Nat) (d : Array Wt) : (siftDown lt hi F root d).size = d.size := sift_len lt hi F _ root d (Nat.le_refl _)

set_option maxHeartbeats 4000000 in
set_option maxRecDepth 100000 in
theorem heap49 {κ : Wt → Int} {w0 : World} {g p n cap : Nat} (LS : Less κ w0 g p) (a b : Nat) (d : Array Wt) (w : World) (S : Sq w0 w g d) (hd : d.size = n) (hab : a < b) (hb : b ≤ n) (hn : n ≤ 1000) :
    Calls Tryz.prog 174 #[.slice (some ⟨g, 0, none⟩) n cap, .int .i64 a, .int .i64 b, cmpV p] w fun e w' => e = .returned (.tuple #[]) ∧ Sq w0 w' g (heapSort (klt κ) d a b) := by
  have HS := Lib.hid S
  have HL := Lib.hid LS
  have HD := Lib.hid hd
  clear S LS hd
  obtain ⟨hi, hhi⟩ : ∃ hi, hi = b - a := ⟨_, rfl⟩
  obtain ⟨h0, hh0⟩ : ∃ h0, h0 = (hi - 1) / 2 := ⟨_, rfl⟩
  have v1 : IntKind.i64.wrap ((b : Int) - (a : Int)) = (hi : Int) := by rw [IntKind.wrap_i64]; omega
  have v2 : IntKind.i64.wrap ((hi : Int) - 1) = (hi : Int) - 1 := by rw [IntKind.wrap_i64]; omega
  have v3 : IntKind.i64.wrap (((hi : Int) - 1).tdiv 2) = (h0 : Int) := by rw [show ((hi : Int) - 1).tdiv 2 = (h0 : Int) from by rw [show (hi : Int) - 1 = ((hi - 1 : Nat) : Int) by omega, hh0]; rfl, IntKind.wrap_i64]; omega
  have EQ := Lib.hid (show heapSort (klt κ) d a b = heapPop (klt κ) a hi (heapBuild (klt κ) hi a (h0 + 1) d) from by rw [hhi, hh0, hhi]; rfl)
  have HB := Lib.hid (show a + hi = b ∧ 1 ≤ hi ∧ h0 < hi from by omega)
  have hin : hi ≤ n := by omega
  have BN := Lib.hid (show a < n from by omega)
  rw [EQ.out]
  obtain ⟨d1, hd1⟩ : ∃ x, x = heapBuild (klt κ) hi a (h0 + 1) d := ⟨_, rfl⟩
  rw [← hd1]
  have E1 := Lib.hid hd1
  clear EQ hhi hh0 hd1
  unfold cmpV
  go_enter Tryz.func174, Tryz.ntmps174
  go_wp2_with fail
  go_loopw [11] (fun v wr => ∃ (k : Nat) (kv : Int) (dk : Array Wt), v = .int .i64 kv ∧ kv = (k : Int) - 1 ∧ k ≤ h0 + 1 ∧ dk.size = n ∧ Sq w0 wr g dk ∧ heapBuild (klt κ) hi a k dk = d1) (fun v _ => (intOf v + 1).toNat)
  case atStart => exact ⟨h0 + 1, _, d, rfl, by omega, Nat.le_refl _, HD.out, HS.out, E1.out.symm⟩
  case round =>
    obtain ⟨W0, rfl⟩ : ∃ x : World, x = wr := ⟨_, rfl⟩
    obtain ⟨k, kv, dk, rfl, hkv, hk, hsk, hS, hO⟩ := hrel
    have S2 := Lib.hid hS
    have O2 := Lib.hid hO
    have K2 := Lib.hid hsk
    clear hS hO hsk HS HD
    cases k with
    | succ k =>
      obtain rfl : kv = (k : Int) := by omega
      clear hkv
      have t1 : decide ((0 : Int) ≤ (k : Int)) = true := decide_eq_true (by omega)
      have v4 : IntKind.i64.wrap ((k : Int) - 1) = (k : Int) - 1 := by have := HB.out; rw [IntKind.wrap_i64]; omega
      have SI := Lib.hid (sift62 (cap := cap) HL.out k hi a dk _ S2.out K2.out (by have := HB.out; omega) (by have := HB.out; omega) hn)
      have SZ := Lib.hid (show (siftDown (klt κ) hi a k dk).size = n from by rw [sift_size]; exact K2.out)
      go_wp2_with fail
      (with_reducible refine SI.out.mono ?_)
      rintro e w3 ⟨rfl, S3⟩
      have S3 := Lib.hid S3
      go_wp2_with fail
      go_roundw
      case rel => exact ⟨k, _, siftDown (klt κ) hi a k dk, rfl, rfl, by omega, SZ.out, S3.out, by rw [← O2.out]; rfl⟩
      case measure => simp [intOf]
    | zero =>
      obtain rfl : kv = -1 := by omega
      clear hkv
      have v5 : IntKind.i64.wrap ((hi : Int) - 1) = (hi : Int) - 1 := v2
      have S1 := Lib.hid (show Sq w0 W0 g d1 from by rw [← show dk = d1 from O2.out]; exact S2.out)
      have K1 := Lib.hid (show d1.size = n from by rw [← show dk = d1 from O2.out]; exact K2.out)
      clear O2 hk S2 K2
      go_wp2_with fail
      go_loopw [12] (fun v wr => ∃ (k : Nat) (kv : Int) (dk : Array Wt), v = .int .i64 kv ∧ kv = (k : Int) - 1 ∧ k ≤ hi ∧ dk.size = n ∧ Sq w0 wr g dk ∧ heapPop (klt κ) a k dk = heapPop (klt κ) a hi d1) (fun v _ => (intOf v + 1).toNat)
      case atStart => exact ⟨hi, _, d1, rfl, rfl, Nat.le_refl _, K1.out, S1.out, rfl⟩
      case round =>
        clear S1 K1
        obtain ⟨W0, rfl⟩ : ∃ x : World, x = wr := ⟨_, rfl⟩
        obtain ⟨k, kv, dk, rfl, hkv, hk, hsk, hS, hO⟩ := hrel
        have S2 := Lib.hid hS
        have O2 := Lib.hid hO
        have K2 := Lib.hid hsk
        clear hS hO hsk
        cases k with
        | zero =>
          obtain rfl : kv = -1 := by omega
          clear hkv
          go_wp2_with fail
          go_end0
          exact ⟨rfl, by rw [← O2.out]; exact S2.out⟩
        | succ k =>
          obtain rfl : kv = (k : Int) := by omega
          clear hkv
          have t1 : decide ((0 : Int) ≤ (k : Int)) = true := decide_eq_true (by omega)
          have v4 : IntKind.i64.wrap ((k : Int) - 1) = (k : Int) - 1 := by rw [IntKind.wrap_i64]; omega
          obtain ⟨fy, hfy⟩ : ∃ x, x = a + k := ⟨_, rfl⟩
          have b1 : (a : Int) < (n : Int) := by have := BN.out; omega
          have FN := Lib.hid (show fy < n from by have := HB.out; omega)
          have b2 : (fy : Int) < (n : Int) := by have := FN.out; omega
          have v6 : IntKind.i64.wrap ((a : Int) + (k : Int)) = (fy : Int) := by rw [IntKind.wrap_i64]; omega
          have KH := Lib.hid hk
          have hkn : a + k ≤ n := by have := HB.out; omega
          by_cases k0 : k = 0
          · subst k0
            have fya : fy = a := by omega
            rw [fya] at v6
            clear hfy b2 FN hk
            obtain ⟨xb, hxb⟩ : ∃ x, dk[a]! = x := ⟨_, rfl⟩
            obtain ⟨yb, hyb⟩ : ∃ y, dk[a]! = y := ⟨_, rfl⟩
            have j1b : a < dk.size := by rw [K2.out]; exact BN.out
            have j2b : a < dk.size := by rw [K2.out]; exact BN.out
            have KSb := Lib.hid (fun (w' : World) (s : Sq w0 w' g dk) => show (w'.cell? ⟨g, a * 2, none⟩ = some (.int .i64 xb.r) ∧ w'.cell? ⟨g, a * 2 + 1, none⟩ = some (.int .i64 xb.p)) ∧ (w'.cell? ⟨g, a * 2, none⟩ = some (.int .i64 yb.r) ∧ w'.cell? ⟨g, a * 2 + 1, none⟩ = some (.int .i64 yb.p)) from
              ⟨by rw [← hxb]; exact s.cell a j1b, by rw [← hyb]; exact s.cell a j2b⟩)
            have CLb := Lib.hid (fun (w' : World) (s : Sq w0 w' g dk) => HL.out.at_ s (Only.refl none_ w') j1b j2b hxb hyb)
            have DDb := Lib.hid (S2.out.still ((Only.refl none_ W0).drew))
            obtain ⟨⟨cx0b, cx1b⟩, cy0b, cy1b⟩ := KSb.out _ DDb.out
            have J1b := Lib.hid j1b
            have J2b := Lib.hid j2b
            have HXb := Lib.hid hxb
            have HYb := Lib.hid hyb
            clear j1b j2b hxb hyb
            obtain rfl : yb = xb := HYb.out.symm.trans HXb.out
            have SI := Lib.hid (fun (w' : World) (s : Sq w0 w' g (swp dk a a)) => show Calls Tryz.prog 187 #[.slice (some ⟨g, 0, none⟩) n cap, .int .i64 0, .int .i64 0, .int .i64 a, .func (.func 123) #[.pointer (some ⟨p, 0, none⟩)] #[]] w' (fun e w'' => e = .returned (.tuple #[]) ∧ Sq w0 w'' g (siftDown (klt κ) 0 a 0 (swp dk a a))) from sift62 (n := n) (cap := cap) HL.out 0 0 a (swp dk a a) w' s (by rw [size_swp]; exact K2.out) (Nat.zero_le _) hkn hn)
            have SZ := Lib.hid (show (siftDown (klt κ) 0 a 0 (swp dk a a)).size = n from by rw [sift_size, size_swp]; exact K2.out)
            clear hkn
            have SW := Lib.hid (S2.out.still ((Only.refl none_ W0).drew) |>.swap J1b.out J2b.out HXb.out HYb.out)
            obtain ⟨⟨ex0b, ex1b⟩, ey0b, ey1b⟩ := KSb.out _ S2.out
            have fzb : ∀ k, W0.frozen? ⟨g, k, none⟩ = false := S2.out.fz
            go_wp2_with fail
            go_region
            all_goals (try go_wp2_with fail)
            all_goals clear ex0b ex1b ey0b ey1b fzb
            all_goals
              refine (SI.out _ SW.out).mono ?_
              rintro e w3 ⟨rfl, S3⟩
              have S3 := Lib.hid S3
              go_wp2_with fail
              go_roundw
              case rel => exact ⟨0, _, siftDown (klt κ) 0 a 0 (swp dk a a), rfl, rfl, Nat.zero_le _, SZ.out, S3.out, by rw [← O2.out]; rfl⟩
              case measure => simp [intOf]
          · have AP : a < fy := by omega
            have FY := Lib.hid hfy
            clear hfy hk
            obtain ⟨xb, hxb⟩ : ∃ x, dk[a]! = x := ⟨_, rfl⟩
            obtain ⟨yb, hyb⟩ : ∃ y, dk[fy]! = y := ⟨_, rfl⟩
            have j1b : a < dk.size := by rw [K2.out]; exact BN.out
            have j2b : fy < dk.size := by rw [K2.out]; exact FN.out
            have KSb := Lib.hid (fun (w' : World) (s : Sq w0 w' g dk) => show (w'.cell? ⟨g, a * 2, none⟩ = some (.int .i64 xb.r) ∧ w'.cell? ⟨g, a * 2 + 1, none⟩ = some (.int .i64 xb.p)) ∧ (w'.cell? ⟨g, fy * 2, none⟩ = some (.int .i64 yb.r) ∧ w'.cell? ⟨g, fy * 2 + 1, none⟩ = some (.int .i64 yb.p)) from
              ⟨by rw [← hxb]; exact s.cell a j1b, by rw [← hyb]; exact s.cell fy j2b⟩)
            have CLb := Lib.hid (fun (w' : World) (s : Sq w0 w' g dk) => HL.out.at_ s (Only.refl none_ w') j1b j2b hxb hyb)
            have DDb := Lib.hid (S2.out.still ((Only.refl none_ W0).drew))
            obtain ⟨⟨cx0b, cx1b⟩, cy0b, cy1b⟩ := KSb.out _ DDb.out
            have J1b := Lib.hid j1b
            have J2b := Lib.hid j2b
            have HXb := Lib.hid hxb
            have HYb := Lib.hid hyb
            clear j1b j2b hxb hyb
            have SI := Lib.hid (fun (w' : World) (s : Sq w0 w' g (swp dk a fy)) => show Calls Tryz.prog 187 #[.slice (some ⟨g, 0, none⟩) n cap, .int .i64 0, .int .i64 k, .int .i64 a, .func (.func 123) #[.pointer (some ⟨p, 0, none⟩)] #[]] w' (fun e w'' => e = .returned (.tuple #[]) ∧ Sq w0 w'' g (siftDown (klt κ) k a 0 (swp dk a fy))) from sift62 (n := n) (cap := cap) HL.out 0 k a (swp dk a fy) w' s (by rw [size_swp]; exact K2.out) (Nat.zero_le _) hkn hn)
            have SZ := Lib.hid (show (siftDown (klt κ) k a 0 (swp dk a fy)).size = n from by rw [sift_size, size_swp]; exact K2.out)
            clear hkn
            have SW := Lib.hid (S2.out.still ((Only.refl none_ W0).drew) |>.swap J1b.out J2b.out HXb.out HYb.out)
            obtain ⟨⟨ex0b, ex1b⟩, ey0b, ey1b⟩ := KSb.out _ S2.out
            have fzb : ∀ k, W0.frozen? ⟨g, k, none⟩ = false := S2.out.fz
            have n1b : ¬ a * 2 = fy * 2 := by omega
            have n2b : ¬ fy * 2 = a * 2 := by omega
            go_wp2_with fail
            go_region
            all_goals (try go_wp2_with fail)
            all_goals clear ex0b ex1b ey0b ey1b fzb
            all_goals
              refine (SI.out _ SW.out).mono ?_
              rintro e w3 ⟨rfl, S3⟩
              have S3 := Lib.hid S3
              go_wp2_with fail
              go_roundw
              case rel => exact ⟨k, _, siftDown (klt κ) k a 0 (swp dk a fy), rfl, rfl, by have := KH.out; omega, SZ.out, S3.out, by rw [← O2.out]; show _ = heapPop (klt κ) a k (siftDown (klt κ) k a 0 (swp dk a (a + k))); rw [← FY.out]⟩
              case measure => simp [intOf]
end Go.Proofs.YtfbpjobobdidiaaGreatDoor

