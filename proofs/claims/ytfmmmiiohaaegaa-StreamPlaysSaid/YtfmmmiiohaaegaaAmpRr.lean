/- What the document's own Read says: the same, of any pace, any count, any degree and any disk. -/
import Derived.Test.YtfmmmiiohaaegaaAmpRef
import Derived.Deep.Cut
namespace Go.Proofs.Ytfmmmiiohaaegaa
open Go.RowKit
set_option linter.unusedVariables false

set_option maxHeartbeats 1000000 in
theorem rread_no (f : Fl) (c d b : Int) (w : World) (hr : f.readC c d b ≠ 0) :
    Calls Try.prog 32 #[f.val, .int .i64 c, .int .i64 d, .int .i64 b] w fun e w' => e = .returned (.tuple #[(Fl.mk 0 0 0 0).val, (Rn.mk 0 0).val, .int .i64 (f.readC c d b)]) ∧ Only none_ w w' := by
  have A := Lib.hid (fun w => rmay_any f d b w)
  unfold Fl.val at A ⊢
  unfold Rn.val
  have arg : f.readC c d b = 1 ∨ f.readC c d b = 6 := by
    unfold Fl.readC at hr ⊢
    by_cases k : f.May d b ∧ 1 ≤ c ∧ c ≤ 8
    · simp only [if_pos k] at hr ⊢
      by_cases q : f.n + c ≤ b
      · rw [if_pos q] at hr; exact absurd rfl hr
      · rw [if_neg q]; exact Or.inr rfl
    · rw [if_neg k]; exact Or.inl rfl
  rcases arg with k | k
  · rw [k]
    have t : decide (f.May d b) = false ∨ (decide (f.May d b) = true ∧ decide (c < 1) = true) ∨ (decide (f.May d b) = true ∧ decide (c < 1) = false ∧ decide (8 < c) = true) := by
      unfold Fl.readC at k
      by_cases q : f.May d b ∧ 1 ≤ c ∧ c ≤ 8
      · rw [if_pos q] at k
        split at k <;> cases k
      · simp only [decide_eq_true_eq, decide_eq_false_iff_not]
        by_cases hm : f.May d b
        · have : ¬ (1 ≤ c ∧ c ≤ 8) := fun h => q ⟨hm, h⟩
          by_cases h1 : c < 1
          · exact Or.inr (Or.inl ⟨hm, h1⟩)
          · exact Or.inr (Or.inr ⟨hm, h1, by omega⟩)
        · exact Or.inl hm
    clear hr k
    rcases t with t1 | ⟨t1, t2⟩ | ⟨t1, t2, t3⟩
    all_goals
      rw [t1] at A
      clear t1
      go_enter Try.func32, Try.ntmps32
      go_wp2_with fail
      (with_reducible refine (A.out _).mono ?_)
      rintro e w1 ⟨rfl, o, rfl⟩
      go_wp2_with fail
      exact bodyPost_ret (v := .tuple #[.agg #[.int .i64 0, .int .i64 0, .int .i64 0, .int .i64 0], .agg #[.int .i64 0, .int .i64 0], .int .i64 1]) (by simp [results, Try.results32, go_sem]) rfl ⟨rfl, ((((Only.refl none_ w).alloc _).alloc _).alloc _).alloc _⟩
  · rw [k]
    have q : (f.May d b ∧ 1 ≤ c ∧ c ≤ 8) ∧ ¬ (f.n + c ≤ b) := by
      unfold Fl.readC at k
      by_cases q : f.May d b ∧ 1 ≤ c ∧ c ≤ 8
      · refine ⟨q, fun h => ?_⟩
        rw [if_pos q, if_pos h] at k
        cases k
      · rw [if_neg q] at k; cases k
    obtain ⟨⟨hm, h1, h8⟩, hb⟩ := q
    have t1 : decide (f.May d b) = true := decide_eq_true hm
    have t2 : decide (c < 1) = false := by simp only [decide_eq_false_iff_not]; omega
    have t3 : decide (8 < c) = false := by simp only [decide_eq_false_iff_not]; omega
    have t4 : decide (b < f.n + c) = true := by simp only [decide_eq_true_eq]; omega
    have v1 : IntKind.i64.wrap (f.n + c) = f.n + c := by have := hm.n0; have := hm.na; have := hm.ab; have := hm.b1; rw [IntKind.wrap_i64]; omega
    clear hr k hm h1 h8 hb
    rw [t1] at A
    clear t1
    go_enter Try.func32, Try.ntmps32
    go_wp2_with fail
    (with_reducible refine (A.out _).mono ?_)
    rintro e w1 ⟨rfl, o, rfl⟩
    go_wp2_with fail
    exact bodyPost_ret (v := .tuple #[.agg #[.int .i64 0, .int .i64 0, .int .i64 0, .int .i64 0], .agg #[.int .i64 0, .int .i64 0], .int .i64 6]) (by simp [results, Try.results32, go_sem]) rfl ⟨rfl, ((((Only.refl none_ w).alloc _).alloc _).alloc _).alloc _⟩

set_option maxRecDepth 100000 in
set_option maxHeartbeats 1000000 in
theorem rread_yes (f : Fl) (c d b : Int) (w : World) (hm : f.May d b) (h1 : 1 ≤ c) (h8 : c ≤ 8) (hb : f.n + c ≤ b) :
    Calls Try.prog 32 #[f.val, .int .i64 c, .int .i64 d, .int .i64 b] w fun e w' => e = .returned (.tuple #[((f.moved c d).askF b).val, ((f.moved c d).askR b).val, .int .i64 0]) ∧ Only none_ w w' := by
  have A := Lib.hid (fun w => rmay_any f d b w)
  rw [decide_eq_true hm] at A
  have x0 := hm.n0; have x1 := hm.na; have x2 := hm.ab; have x3 := hm.b1; have x4 := hm.p0; have x5 := hm.pd; have x6 := hm.d1; have x7 := hm.g0; have x8 := hm.gp
  have t2 : decide (c < 1) = false := by simp only [decide_eq_false_iff_not]; omega
  have t3 : decide (8 < c) = false := by simp only [decide_eq_false_iff_not]; omega
  have t4 : decide (b < f.n + c) = false := by simp only [decide_eq_false_iff_not]; omega
  have v1 : IntKind.i64.wrap (f.n + c) = f.n + c := by rw [IntKind.wrap_i64]; omega
  have v2 : IntKind.i64.wrap (f.p + 1) = f.p + 1 := by rw [IntKind.wrap_i64]; omega
  have MM := Lib.hid (moved_may hm h1 h8 hb)
  obtain ⟨n, a, p, hn, MV⟩ : ∃ n a p, f.n + c = n ∧ f.moved c d = ⟨n, a, p, f.g⟩ := ⟨_, _, _, rfl, rfl⟩
  have HN := Lib.hid hn
  have cs : (decide (f.a ≤ f.n + c) = false ∧ f.a = a ∧ f.p = p)
      ∨ (decide (f.a ≤ f.n + c) = true ∧ decide (f.n < f.a) = true ∧ decide (f.p < d) = true ∧ f.n + c = a ∧ f.p + 1 = p)
      ∨ (decide (f.a ≤ f.n + c) = true ∧ decide (f.n < f.a) = true ∧ decide (f.p < d) = false ∧ f.n + c = a ∧ f.p = p)
      ∨ (decide (f.a ≤ f.n + c) = true ∧ decide (f.n < f.a) = false ∧ f.n + c = a ∧ f.p = p) := by
    unfold Fl.moved at MV
    subst hn
    simp only [decide_eq_true_eq, decide_eq_false_iff_not, Fl.mk.injEq, true_and, and_true] at MV ⊢
    by_cases k1 : f.a ≤ f.n + c
    · by_cases k2 : f.n < f.a
      · rw [if_pos ⟨k2, k1⟩] at MV; omega
      · rw [if_neg (fun h => k2 h.1)] at MV; omega
    · rw [if_neg (fun h => k1 h.2)] at MV; omega
  rw [MV] at MM ⊢
  have CS := Lib.hid cs
  have LT : decide (f.n < f.a) = true ∨ decide (f.n < f.a) = false := by cases decide (f.n < f.a) <;> simp
  clear hm h1 h8 hb x0 x1 x2 x3 x4 x5 x6 x7 x8 cs MV hn
  unfold Fl.val at A ⊢
  unfold Rn.val
  go_enter Try.func32, Try.ntmps32
  go_wp2_with fail
  (with_reducible refine (A.out _).mono ?_)
  rintro e w1 ⟨rfl, o, rfl⟩
  go_upto_if 51 with fail
  go_cut [11] from 14 (fun s11 wx => (∃ x : Bool, s11 = .bool x) ∧ Row wx w.heap.size 57 #[.int .i64 n, .int .i64 a, .int .i64 p, .int .i64 f.g] ∧ Row wx (w.heap.size + 1) 57 #[.int .i64 0, .int .i64 0, .int .i64 0, .int .i64 0] ∧ Row wx (w.heap.size + 1 + 1) 36 #[.int .i64 0, .int .i64 0] ∧ Only none_ w wx)
  case first =>
    obtain rfl := HN.out
    clear HN
    have OA := Lib.hid ((((Only.refl none_ w).alloc (.cells #[.int .i64 (f.n + c), .int .i64 a, .int .i64 p, .int .i64 f.g] 57)).alloc (.cells #[.int .i64 0, .int .i64 0, .int .i64 0, .int .i64 0] 57)).alloc (.cells #[.int .i64 0, .int .i64 0] 36) |>.alloc o)
    have R0 := Lib.hid ((((Row.fresh w 57 #[.int .i64 (f.n + c), .int .i64 a, .int .i64 p, .int .i64 f.g]).alloc (.cells #[.int .i64 0, .int .i64 0, .int .i64 0, .int .i64 0] 57)).alloc (.cells #[.int .i64 0, .int .i64 0] 36)).alloc o)
    have r1 := (((Row.fresh (w.alloc (.cells #[.int .i64 (f.n + c), .int .i64 a, .int .i64 p, .int .i64 f.g] 57)) 57 #[.int .i64 0, .int .i64 0, .int .i64 0, .int .i64 0]).alloc (.cells #[.int .i64 0, .int .i64 0] 36)).alloc o)
    have r2 := ((Row.fresh ((w.alloc (.cells #[.int .i64 (f.n + c), .int .i64 a, .int .i64 p, .int .i64 f.g] 57)).alloc (.cells #[.int .i64 0, .int .i64 0, .int .i64 0, .int .i64 0] 57)) 36 #[.int .i64 0, .int .i64 0]).alloc o)
    rw [World.size_alloc] at r1
    rw [World.size_alloc, World.size_alloc] at r2
    have R1 := Lib.hid r1
    have R2 := Lib.hid r2
    clear r1 r2
    rcases CS.out with ⟨s1, rfl, rfl⟩ | ⟨s1, s2, s3, rfl, rfl⟩ | ⟨s1, s2, s3, rfl, rfl⟩ | ⟨s1, s2, rfl, rfl⟩
    · rcases LT with s2 | s2
      all_goals
        simp only [s1]
        go_wp2_with fail
        go_meet
        case rel => exact ⟨⟨_, rfl⟩, R0.out, R1.out, R2.out, OA.out⟩
    all_goals
      simp only [s1]
      go_wp2_with fail
      go_meet
      case rel => exact ⟨⟨_, rfl⟩, R0.out, R1.out, R2.out, OA.out⟩
  case rest =>
    obtain ⟨⟨x, rfl⟩, r0, r1, r2, oa⟩ := hcut
    have R0 := Lib.hid r0
    have R1 := Lib.hid r1
    have R2 := Lib.hid r2
    have OA := Lib.hid oa
    have z0 := r0.frozen
    have z1 := r1.frozen
    have z2 := r2.frozen
    obtain ⟨c0, c1, c2, c3⟩ := r0.four
    obtain ⟨d0, d1, d2, d3⟩ := r1.four
    obtain ⟨e0, e1⟩ := r2.two
    have n01 : w.heap.size ≠ w.heap.size + 1 := by omega
    have n10 : w.heap.size + 1 ≠ w.heap.size := by omega
    have n02 : w.heap.size ≠ w.heap.size + 1 + 1 := by omega
    have n20 : w.heap.size + 1 + 1 ≠ w.heap.size := by omega
    have n12 : w.heap.size + 1 ≠ w.heap.size + 1 + 1 := by omega
    have n21 : w.heap.size + 1 + 1 ≠ w.heap.size + 1 := by omega
    have L0 := Lib.hid (Nat.le_refl w.heap.size)
    have L1 := Lib.hid (show w.heap.size ≤ w.heap.size + 1 by omega)
    have L2 := Lib.hid (show w.heap.size ≤ w.heap.size + 1 + 1 by omega)
    clear r0 r1 r2 oa CS LT A t2 t3 t4 v1 v2
    clear HN
    have x1 := MM.out.na; have x2 := MM.out.ab; have x3 := MM.out.b1; have x4 := MM.out.p0; have x5 := MM.out.pd; have x6 := MM.out.d1; have x7 := MM.out.n0
    dsimp only at x1 x2 x4 x5 x7
    have v1 : IntKind.i64.wrap (a - n) = a - n := by rw [IntKind.wrap_i64]; omega
    by_cases hg : f.g < a - n
    · have t1 : decide (f.g < a - n) = true := by simpa using hg
      have A := Lib.hid (show (Fl.mk n a p f.g).askF b = ⟨n, a, p, f.g⟩ from by unfold Fl.askF Fl.room; rw [if_neg]; dsimp only; omega)
      have B := Lib.hid (show (Fl.mk n a p f.g).askR b = ⟨0, 0⟩ from by unfold Fl.askR Fl.room; rw [if_neg]; dsimp only; omega)
      clear hg x1 x2 x3 x4 x5 x6 x7
      go_wp2_with fail
      have W1 := Lib.hid (show Row ((((((wc.setCell ⟨w.heap.size + 1, 0, none⟩ (.int .i64 (n))).setCell ⟨w.heap.size + 1, 1, none⟩ (.int .i64 (a))).setCell ⟨w.heap.size + 1, 2, none⟩ (.int .i64 (p))).setCell ⟨w.heap.size + 1, 3, none⟩ (.int .i64 (f.g))).setCell ⟨w.heap.size + 1 + 1, 0, none⟩ (.int .i64 (0))).setCell ⟨w.heap.size + 1 + 1, 1, none⟩ (.int .i64 (0))) (w.heap.size + 1) 57 #[.int .i64 n, .int .i64 (a), .int .i64 (p), .int .i64 f.g] from ((((((R1.out.put 0 (.int .i64 (n))).put 1 (.int .i64 (a))).put 2 (.int .i64 (p))).put 3 (.int .i64 (f.g))).far (p := ⟨w.heap.size + 1 + 1, 0, none⟩) n12 (.int .i64 (0))).far (p := ⟨w.heap.size + 1 + 1, 1, none⟩) n12 (.int .i64 (0))))
      have W2 := Lib.hid (show Row ((((((wc.setCell ⟨w.heap.size + 1, 0, none⟩ (.int .i64 (n))).setCell ⟨w.heap.size + 1, 1, none⟩ (.int .i64 (a))).setCell ⟨w.heap.size + 1, 2, none⟩ (.int .i64 (p))).setCell ⟨w.heap.size + 1, 3, none⟩ (.int .i64 (f.g))).setCell ⟨w.heap.size + 1 + 1, 0, none⟩ (.int .i64 (0))).setCell ⟨w.heap.size + 1 + 1, 1, none⟩ (.int .i64 (0))) (w.heap.size + 1 + 1) 36 #[.int .i64 (0), .int .i64 (0)] from ((((((R2.out.far (p := ⟨w.heap.size + 1, 0, none⟩) n21 (.int .i64 (n))).far (p := ⟨w.heap.size + 1, 1, none⟩) n21 (.int .i64 (a))).far (p := ⟨w.heap.size + 1, 2, none⟩) n21 (.int .i64 (p))).far (p := ⟨w.heap.size + 1, 3, none⟩) n21 (.int .i64 (f.g))).put 0 (.int .i64 (0))).put 1 (.int .i64 (0))))
      have WA := Lib.hid ((((((OA.out.new L1.out 0 (.int .i64 (n))).new L1.out 1 (.int .i64 (a))).new L1.out 2 (.int .i64 (p))).new L1.out 3 (.int .i64 (f.g))).new L2.out 0 (.int .i64 (0))).new L2.out 1 (.int .i64 (0)))
      clear c0 c1 c2 c3 d0 d1 d2 d3 e0 e1 z0 z1 z2 R1 R2 R0 OA
      generalize ((((((wc.setCell ⟨w.heap.size + 1, 0, none⟩ (.int .i64 (n))).setCell ⟨w.heap.size + 1, 1, none⟩ (.int .i64 (a))).setCell ⟨w.heap.size + 1, 2, none⟩ (.int .i64 (p))).setCell ⟨w.heap.size + 1, 3, none⟩ (.int .i64 (f.g))).setCell ⟨w.heap.size + 1 + 1, 0, none⟩ (.int .i64 (0))).setCell ⟨w.heap.size + 1 + 1, 1, none⟩ (.int .i64 (0))) = wz at *
      obtain ⟨y0, y1, y2, y3⟩ := W1.out.four
      obtain ⟨y4, y5⟩ := W2.out.two
      rw [A.out, B.out]
      exact bodyPost_ret (v := .tuple #[.agg #[.int .i64 n, .int .i64 (a), .int .i64 (p), .int .i64 f.g], .agg #[.int .i64 (0), .int .i64 (0)], .int .i64 0]) (by simp [results, Try.results32, go_sem, y0, y1, y2, y3, y4, y5]) rfl ⟨rfl, WA.out⟩
    · have t1 : decide (f.g < a - n) = false := by simpa using hg
      obtain ⟨P, rfl⟩ : ∃ P : Nat, p = P := ⟨p.toNat, by omega⟩
      obtain ⟨K, hK⟩ : ∃ K : Nat, min (P : Int) (b - a) = K := ⟨(min (P : Int) (b - a)).toNat, by omega⟩
      have A := Lib.hid (show (Fl.mk n a P f.g).askF b = ⟨n, a + K, P, f.g⟩ from by
        unfold Fl.askF Fl.room
        dsimp only
        by_cases k : a - n ≤ f.g ∧ min (P : Int) (b - a) ≠ 0
        · rw [if_pos k, hK]
        · rw [if_neg k, Fl.mk.injEq]; omega)
      have B := Lib.hid (show (Fl.mk n a P f.g).askR b = if (K : Int) = 0 then ⟨0, 0⟩ else ⟨a, K⟩ from by
        unfold Fl.askR Fl.room
        dsimp only
        by_cases k : a - n ≤ f.g ∧ min (P : Int) (b - a) ≠ 0
        · rw [if_pos k, hK, if_neg (by omega)]
        · rw [if_neg k, if_pos (by omega)])
      have KP : K ≤ P := by omega
      have KB : a + K ≤ b := by omega
      have KD : K = P ∨ a + K = b := by omega
      have a0 : 0 ≤ a := by omega
      have P16 : P ≤ 16 := by omega
      clear hg x1 x2 x4 x5 x6 x7 hK
      go_wp2_with fail
      go_loopw [13] (fun i wr => ∃ k : Nat, k ≤ K ∧ i = .int .i64 k ∧ wr = wc) (fun i _ => K - (intOf i).toNat)
      case atStart => exact ⟨0, Nat.zero_le _, rfl, rfl⟩
      case round =>
        obtain ⟨k, hk, rfl, rfl⟩ := hrel
        by_cases q : k < K
        · have t5 : k < P := by omega
          have t6 : decide (a + (k : Int) < b) = true := by simp only [decide_eq_true_eq]; omega
          have v3 : IntKind.i64.wrap (a + (k : Int)) = a + (k : Int) := by rw [IntKind.wrap_i64]; omega
          go_wp2_with fail
          go_roundw
          case rel => exact ⟨k + 1, by omega, by go_num, trivial⟩
          case measure => simp [intOf]; omega
        · have hkk : k = K := by omega
          have t5 : (k < P ∧ decide (a + (k : Int) < b) = false) ∨ P ≤ k := by simp only [decide_eq_false_iff_not]; omega
          have v3 : IntKind.i64.wrap (a + (k : Int)) = a + (k : Int) := by rw [IntKind.wrap_i64]; omega
          clear z0 z1 z2 x3 a0 P16 KP KB KD hk q
          obtain rfl := hkk
          by_cases K0 : k = 0
          · have hne : ((k : Int) == 0) = true := by simp [K0]
            replace B := Lib.hid (show (Fl.mk n a P f.g).askR b = ⟨0, (k : Int)⟩ from by rw [B.out, K0]; rfl)
            clear K0
            have z0 := R0.out.frozen
            have z1 := R1.out.frozen
            have z2 := R2.out.frozen
            rcases t5 with ⟨t5, t6⟩ | t5
            all_goals
              go_wp2_with fail
              have W1 := Lib.hid (show Row (((((((wr.setCell ⟨w.heap.size, 1, none⟩ (.int .i64 (a + (k : Int)))).setCell ⟨w.heap.size + 1, 0, none⟩ (.int .i64 (n))).setCell ⟨w.heap.size + 1, 1, none⟩ (.int .i64 (a + (k : Int)))).setCell ⟨w.heap.size + 1, 2, none⟩ (.int .i64 ((P : Int)))).setCell ⟨w.heap.size + 1, 3, none⟩ (.int .i64 (f.g))).setCell ⟨w.heap.size + 1 + 1, 0, none⟩ (.int .i64 (0))).setCell ⟨w.heap.size + 1 + 1, 1, none⟩ (.int .i64 ((k : Int)))) (w.heap.size + 1) 57 #[.int .i64 n, .int .i64 (a + (k : Int)), .int .i64 ((P : Int)), .int .i64 f.g] from (((((((R1.out.far (p := ⟨w.heap.size, 1, none⟩) n10 (.int .i64 (a + (k : Int)))).put 0 (.int .i64 (n))).put 1 (.int .i64 (a + (k : Int)))).put 2 (.int .i64 ((P : Int)))).put 3 (.int .i64 (f.g))).far (p := ⟨w.heap.size + 1 + 1, 0, none⟩) n12 (.int .i64 (0))).far (p := ⟨w.heap.size + 1 + 1, 1, none⟩) n12 (.int .i64 ((k : Int)))))
              have W2 := Lib.hid (show Row (((((((wr.setCell ⟨w.heap.size, 1, none⟩ (.int .i64 (a + (k : Int)))).setCell ⟨w.heap.size + 1, 0, none⟩ (.int .i64 (n))).setCell ⟨w.heap.size + 1, 1, none⟩ (.int .i64 (a + (k : Int)))).setCell ⟨w.heap.size + 1, 2, none⟩ (.int .i64 ((P : Int)))).setCell ⟨w.heap.size + 1, 3, none⟩ (.int .i64 (f.g))).setCell ⟨w.heap.size + 1 + 1, 0, none⟩ (.int .i64 (0))).setCell ⟨w.heap.size + 1 + 1, 1, none⟩ (.int .i64 ((k : Int)))) (w.heap.size + 1 + 1) 36 #[.int .i64 (0), .int .i64 ((k : Int))] from (((((((R2.out.far (p := ⟨w.heap.size, 1, none⟩) n20 (.int .i64 (a + (k : Int)))).far (p := ⟨w.heap.size + 1, 0, none⟩) n21 (.int .i64 (n))).far (p := ⟨w.heap.size + 1, 1, none⟩) n21 (.int .i64 (a + (k : Int)))).far (p := ⟨w.heap.size + 1, 2, none⟩) n21 (.int .i64 ((P : Int)))).far (p := ⟨w.heap.size + 1, 3, none⟩) n21 (.int .i64 (f.g))).put 0 (.int .i64 (0))).put 1 (.int .i64 ((k : Int)))))
              have WA := Lib.hid (((((((OA.out.new L0.out 1 (.int .i64 (a + (k : Int)))).new L1.out 0 (.int .i64 (n))).new L1.out 1 (.int .i64 (a + (k : Int)))).new L1.out 2 (.int .i64 ((P : Int)))).new L1.out 3 (.int .i64 (f.g))).new L2.out 0 (.int .i64 (0))).new L2.out 1 (.int .i64 ((k : Int))))
              clear c0 c1 c2 c3 d0 d1 d2 d3 e0 e1 z0 z1 z2 R1 R2 R0 OA
              generalize (((((((wr.setCell ⟨w.heap.size, 1, none⟩ (.int .i64 (a + (k : Int)))).setCell ⟨w.heap.size + 1, 0, none⟩ (.int .i64 (n))).setCell ⟨w.heap.size + 1, 1, none⟩ (.int .i64 (a + (k : Int)))).setCell ⟨w.heap.size + 1, 2, none⟩ (.int .i64 ((P : Int)))).setCell ⟨w.heap.size + 1, 3, none⟩ (.int .i64 (f.g))).setCell ⟨w.heap.size + 1 + 1, 0, none⟩ (.int .i64 (0))).setCell ⟨w.heap.size + 1 + 1, 1, none⟩ (.int .i64 ((k : Int)))) = wz at *
              obtain ⟨y0, y1, y2, y3⟩ := W1.out.four
              obtain ⟨y4, y5⟩ := W2.out.two
              rw [A.out, B.out]
              exact bodyPost_ret (v := .tuple #[.agg #[.int .i64 n, .int .i64 (a + (k : Int)), .int .i64 ((P : Int)), .int .i64 f.g], .agg #[.int .i64 (0), .int .i64 ((k : Int))], .int .i64 0]) (by simp [results, Try.results32, go_sem, y0, y1, y2, y3, y4, y5]) rfl ⟨rfl, WA.out⟩
          · have hne : ((k : Int) == 0) = false := by simpa using K0
            replace B := Lib.hid (show (Fl.mk n a P f.g).askR b = ⟨a, (k : Int)⟩ from by rw [B.out, if_neg (by omega)])
            clear K0
            have z0 := R0.out.frozen
            have z1 := R1.out.frozen
            have z2 := R2.out.frozen
            rcases t5 with ⟨t5, t6⟩ | t5
            all_goals
              go_wp2_with fail
              have W1 := Lib.hid (show Row (((((((wr.setCell ⟨w.heap.size, 1, none⟩ (.int .i64 (a + (k : Int)))).setCell ⟨w.heap.size + 1, 0, none⟩ (.int .i64 (n))).setCell ⟨w.heap.size + 1, 1, none⟩ (.int .i64 (a + (k : Int)))).setCell ⟨w.heap.size + 1, 2, none⟩ (.int .i64 ((P : Int)))).setCell ⟨w.heap.size + 1, 3, none⟩ (.int .i64 (f.g))).setCell ⟨w.heap.size + 1 + 1, 0, none⟩ (.int .i64 (a))).setCell ⟨w.heap.size + 1 + 1, 1, none⟩ (.int .i64 ((k : Int)))) (w.heap.size + 1) 57 #[.int .i64 n, .int .i64 (a + (k : Int)), .int .i64 ((P : Int)), .int .i64 f.g] from (((((((R1.out.far (p := ⟨w.heap.size, 1, none⟩) n10 (.int .i64 (a + (k : Int)))).put 0 (.int .i64 (n))).put 1 (.int .i64 (a + (k : Int)))).put 2 (.int .i64 ((P : Int)))).put 3 (.int .i64 (f.g))).far (p := ⟨w.heap.size + 1 + 1, 0, none⟩) n12 (.int .i64 (a))).far (p := ⟨w.heap.size + 1 + 1, 1, none⟩) n12 (.int .i64 ((k : Int)))))
              have W2 := Lib.hid (show Row (((((((wr.setCell ⟨w.heap.size, 1, none⟩ (.int .i64 (a + (k : Int)))).setCell ⟨w.heap.size + 1, 0, none⟩ (.int .i64 (n))).setCell ⟨w.heap.size + 1, 1, none⟩ (.int .i64 (a + (k : Int)))).setCell ⟨w.heap.size + 1, 2, none⟩ (.int .i64 ((P : Int)))).setCell ⟨w.heap.size + 1, 3, none⟩ (.int .i64 (f.g))).setCell ⟨w.heap.size + 1 + 1, 0, none⟩ (.int .i64 (a))).setCell ⟨w.heap.size + 1 + 1, 1, none⟩ (.int .i64 ((k : Int)))) (w.heap.size + 1 + 1) 36 #[.int .i64 (a), .int .i64 ((k : Int))] from (((((((R2.out.far (p := ⟨w.heap.size, 1, none⟩) n20 (.int .i64 (a + (k : Int)))).far (p := ⟨w.heap.size + 1, 0, none⟩) n21 (.int .i64 (n))).far (p := ⟨w.heap.size + 1, 1, none⟩) n21 (.int .i64 (a + (k : Int)))).far (p := ⟨w.heap.size + 1, 2, none⟩) n21 (.int .i64 ((P : Int)))).far (p := ⟨w.heap.size + 1, 3, none⟩) n21 (.int .i64 (f.g))).put 0 (.int .i64 (a))).put 1 (.int .i64 ((k : Int)))))
              have WA := Lib.hid (((((((OA.out.new L0.out 1 (.int .i64 (a + (k : Int)))).new L1.out 0 (.int .i64 (n))).new L1.out 1 (.int .i64 (a + (k : Int)))).new L1.out 2 (.int .i64 ((P : Int)))).new L1.out 3 (.int .i64 (f.g))).new L2.out 0 (.int .i64 (a))).new L2.out 1 (.int .i64 ((k : Int))))
              clear c0 c1 c2 c3 d0 d1 d2 d3 e0 e1 z0 z1 z2 R1 R2 R0 OA
              generalize (((((((wr.setCell ⟨w.heap.size, 1, none⟩ (.int .i64 (a + (k : Int)))).setCell ⟨w.heap.size + 1, 0, none⟩ (.int .i64 (n))).setCell ⟨w.heap.size + 1, 1, none⟩ (.int .i64 (a + (k : Int)))).setCell ⟨w.heap.size + 1, 2, none⟩ (.int .i64 ((P : Int)))).setCell ⟨w.heap.size + 1, 3, none⟩ (.int .i64 (f.g))).setCell ⟨w.heap.size + 1 + 1, 0, none⟩ (.int .i64 (a))).setCell ⟨w.heap.size + 1 + 1, 1, none⟩ (.int .i64 ((k : Int)))) = wz at *
              obtain ⟨y0, y1, y2, y3⟩ := W1.out.four
              obtain ⟨y4, y5⟩ := W2.out.two
              rw [A.out, B.out]
              exact bodyPost_ret (v := .tuple #[.agg #[.int .i64 n, .int .i64 (a + (k : Int)), .int .i64 ((P : Int)), .int .i64 f.g], .agg #[.int .i64 (a), .int .i64 ((k : Int))], .int .i64 0]) (by simp [results, Try.results32, go_sem, y0, y1, y2, y3, y4, y5]) rfl ⟨rfl, WA.out⟩
end Go.Proofs.Ytfmmmiiohaaegaa
