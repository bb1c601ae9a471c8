/- What the laws of layer 10 share: equality of what is found; awake answers true. -/
import Derived.Test.YtfmmmiiohaaegaaStAcc
import Derived.Test.YtfmmmiiohaaegaaRsSame
namespace Go.Proofs.Ytfmmmiiohaaegaa
open Go.RowKit Go.ChangeShapes Go.WideShapes Go.Deep
set_option linter.unusedVariables false

structure Fd where
  i : Int
  f : Int
  c : Int
  deriving DecidableEq
theorem fd_eq (r s : Fd) : decide (r = s) = (r.i == s.i && (r.f == s.f && r.c == s.c)) := by
  obtain ⟨a, b, c⟩ := r
  obtain ⟨a', b', c'⟩ := s
  rw [Bool.eq_iff_iff]
  simp
theorem eq_fd (r s : Fd) (w : World) : (Op.equalIn 10000 38 (.agg #[.int .i64 r.i, .int .i64 r.f, .int .i64 r.c]) (.agg #[.int .i64 s.i, .int .i64 s.f, .int .i64 s.c])).run Try.prog w = .ok (decide (r = s)) w := by
  rw [fd_eq]
  simp [go_sem]
  by_cases h0 : r.i = s.i <;> by_cases h1 : r.f = s.f <;> by_cases h2 : r.c = s.c <;> simp [h0, h1, h2]

theorem st_below {w w1 w2 : World} {M : Nat → Prop} (h : Below w.heap.size w w1) (o : Only M w1 w2) (hm : ∀ g, M g → w.heap.size ≤ g) : Below w.heap.size w w2 :=
  Only.below_to h o (Nat.le_refl _) (fun i hi e => by have := hm i e; omega)
theorem st_on {w w1 w2 : World} (h : Below w.heap.size w w1) (o : Only none_ w1 w2) : Below w.heap.size w w2 := Only.below_to h o (Nat.le_refl _) (fun _ _ s => s)

abbrev c0 : Cf := ⟨2, 4, 9, 4, 100⟩
theorem c0_ok : c0.Ok := by constructor <;> decide
abbrev s0 : Tr := ⟨[], [], 0, 0⟩
abbrev s1 : Tr := ⟨[], [⟨6, 0⟩], 1, 0⟩
abbrev s2 : Tr := ⟨[⟨1, ⟨7, 8, 1, 0⟩, 2⟩], [], 2, 1⟩
abbrev s3 : Tr := ⟨[⟨1, ⟨8, 10, 2, 0⟩, 3⟩], [], 3, 1⟩
abbrev s4 : Tr := ⟨[⟨1, ⟨8, 10, 2, 1⟩, 3⟩], [], 3, 1⟩
theorem to1 : accS c0 s0 5 1 = s1 ∧ ((accI c0 s0 5 1 : Nat) : Int) = 0 ∧ accR c0 s0 5 1 = ⟨0, 0⟩ ∧ accC 100 5 1 = 0 := by refine ⟨by kernel_rfl, by kernel_rfl, by kernel_rfl, by kernel_rfl⟩
theorem to2 : accS c0 s1 6 1 = s2 ∧ ((accI c0 s1 6 1 : Nat) : Int) = 1 ∧ accR c0 s1 6 1 = ⟨7, 1⟩ ∧ accC 100 6 1 = 0 := by refine ⟨by kernel_rfl, by kernel_rfl, by kernel_rfl, by kernel_rfl⟩
theorem to3 : accS c0 s2 7 1 = s3 ∧ ((accI c0 s2 7 1 : Nat) : Int) = 1 ∧ accR c0 s2 7 1 = ⟨8, 2⟩ ∧ accC 100 7 1 = 0 := by refine ⟨by kernel_rfl, by kernel_rfl, by kernel_rfl, by kernel_rfl⟩
theorem to4 : accS c0 s3 100 1 = s3 ∧ ((accI c0 s3 100 1 : Nat) : Int) = 0 ∧ accR c0 s3 100 1 = ⟨0, 0⟩ ∧ accC 100 100 1 = 1 := by refine ⟨by kernel_rfl, by kernel_rfl, by kernel_rfl, by kernel_rfl⟩
theorem to5 : tuneS s3 1 true = s4 ∧ tuneB s3 1 = true := by refine ⟨by kernel_rfl, by kernel_rfl⟩
theorem to6 : tuneS s4 2 false = s4 ∧ tuneB s4 2 = false := by refine ⟨by kernel_rfl, by kernel_rfl⟩
theorem fine0 : Fine10 c0 s0 := new_fine c0_ok
theorem fine1 : Fine10 c0 s1 := by rw [← to1.1]; exact accS_fine fine0 _ _
theorem fine2 : Fine10 c0 s2 := by rw [← to2.1]; exact accS_fine fine1 _ _
theorem fine3 : Fine10 c0 s3 := by rw [← to3.1]; exact accS_fine fine2 _ _
theorem fine4 : Fine10 c0 s4 := by rw [← to5.1]; exact tuneS_fine fine3 _ _
theorem k_acc (q : Nat) (M : Nat → Prop) (t t' : Tr) (f n i rf rc cc : Int) (w : World) (h : ST w q M c0 t) (hf : Fine10 c0 t) (hu : t.uses ≤ 900) (e : accS c0 t f n = t' ∧ accI c0 t f n = i ∧ accR c0 t f n = ⟨rf, rc⟩ ∧ accC 100 f n = cc) :
    Calls Try.prog 12 #[.pointer (some ⟨q, 0, none⟩), .int .i64 f, .int .i64 n] w fun e w' => e = .returned (.tuple #[.agg #[.int .i64 i, .int .i64 rf, .int .i64 rc], .int .i64 cc]) ∧ STto w q M c0 t' w' := by
  obtain ⟨e1, e2, e3, e4⟩ := e
  have := acc_any f n w h hf hu
  unfold accTwo Acc at this
  rw [e1, e2, e3, e4] at this
  exact this

theorem k_new10 (w : World) : Calls Try.prog 9 #[.int .i64 2, .int .i64 4, .int .i64 9, .int .i64 4, .int .i64 100] w fun e w' => ∃ q, e = .returned (.tuple #[.pointer (some ⟨q, 0, none⟩), .int .i64 0]) ∧ (∃ M : Nat → Prop, ST w' q M c0 s0 ∧ ∀ g, M g → w.heap.size ≤ g) ∧ Only none_ w w' := new10_yes c0 w c0_ok
set_option maxRecDepth 100000 in
set_option maxHeartbeats 4000000 in
theorem awake10_any (w : World) : Calls Try.prog 8 #[] w fun e w' => e = .returned (.bool true) ∧ Below w.heap.size w w' := by
  have Q0 := fun w => eq_fd ⟨0, 0, 0⟩ ⟨0, 0, 0⟩ w
  have Q1 := fun w => eq_fd ⟨1, 7, 1⟩ ⟨1, 7, 1⟩ w
  have Q2 := fun w => eq_fd ⟨1, 8, 2⟩ ⟨1, 8, 2⟩ w
  have Q3 := fun w => eq_sm ⟨1, ⟨8, 10, 2, 0⟩, 3⟩ ⟨1, ⟨8, 10, 2, 0⟩, 3⟩ w
  simp only [decide_true] at Q0 Q1 Q2 Q3
  have N := Lib.hid (fun w => k_new10 w)
  have NN := Lib.hid (fun w => new10_no 0 4 9 4 100 w (by decide))
  go_enter Try.func8, Try.ntmps8
  go_wp2_with fail
  (with_reducible refine (N.out _).mono ?_)
  rintro e w1 ⟨q, rfl, ⟨M1, h1, l1⟩, o1⟩
  have H1 := Lib.hid h1
  have L1 := Lib.hid l1
  have B1 := Lib.hid o1.to_below8
  clear h1 l1 o1
  go_wp2_with fail
  (with_reducible refine (NN.out _).mono ?_)
  rintro e w2 ⟨rfl, o2⟩
  have H2 := Lib.hid (H1.out.still o2)
  have B2 := Lib.hid (st_on B1.out o2)
  clear o2 H1 B1
  have A := Lib.hid (fun w h => k_acc q M1 s0 s1 5 1 0 0 0 0 w h fine0 (by decide) to1)
  go_wp2_with fail
  (with_reducible refine (A.out _ H2.out).mono ?_)
  rintro e w3 ⟨rfl, ⟨M2, h2, m2⟩, o2⟩
  obtain ⟨x0, hx0⟩ : ∃ x, w3.heap.size = x := ⟨_, rfl⟩
  have D0 := Lib.hid (hx0 ▸ Row.fresh w3 38 #[.int .i64 0, .int .i64 0, .int .i64 0])
  have N0 := Lib.hid (show ¬ M2 x0 from fun j => by have := h2.lt _ j; omega)
  have H3 := Lib.hid (h2.still ((Only.refl none_ w3).alloc (.cells #[.int .i64 0, .int .i64 0, .int .i64 0] 38)))
  have L3 := Lib.hid (fun g (k : M2 g) => show w.heap.size ≤ g from (m2 g k).elim (L1.out g) (fun k => Nat.le_trans B2.out.size k))
  have B3 := Lib.hid (st_on (st_below B2.out o2 L1.out) ((Only.refl none_ w3).alloc (.cells #[.int .i64 0, .int .i64 0, .int .i64 0] 38)))
  clear h2 m2 o2 H2 B2 A
  go_wp2_with fail
  generalize w3.alloc (.cells #[.int .i64 0, .int .i64 0, .int .i64 0] 38) = w3' at *
  clear hx0 w3
  have A := Lib.hid (fun w h => k_acc q M2 s1 s2 6 1 1 7 1 0 w h fine1 (by decide) to2)
  go_wp2_with fail
  (with_reducible refine (A.out _ H3.out).mono ?_)
  rintro e w4 ⟨rfl, ⟨M3, h2, m2⟩, o2⟩
  obtain ⟨x1, hx1⟩ : ∃ x, w4.heap.size = x := ⟨_, rfl⟩
  have D1 := Lib.hid (hx1 ▸ Row.fresh w4 38 #[.int .i64 1, .int .i64 7, .int .i64 1])
  have N1 := Lib.hid (show ¬ M3 x1 from fun j => by have := h2.lt _ j; omega)
  have N0' := Lib.hid (show ¬ M3 x0 from fun j => by rcases m2 _ j with j | j; exact N0.out j; have := D0.out.lt; omega)
  have D0 := Lib.hid ((o2.row D0.out N0.out).alloc (.cells #[.int .i64 1, .int .i64 7, .int .i64 1] 38))
  clear N0
  have N0 := N0'
  clear N0'
  have H4 := Lib.hid (h2.still ((Only.refl none_ w4).alloc (.cells #[.int .i64 1, .int .i64 7, .int .i64 1] 38)))
  have L4 := Lib.hid (fun g (k : M3 g) => show w.heap.size ≤ g from (m2 g k).elim (L3.out g) (fun k => Nat.le_trans B3.out.size k))
  have B4 := Lib.hid (st_on (st_below B3.out o2 L3.out) ((Only.refl none_ w4).alloc (.cells #[.int .i64 1, .int .i64 7, .int .i64 1] 38)))
  clear h2 m2 o2 H3 B3 A
  go_wp2_with fail
  generalize w4.alloc (.cells #[.int .i64 1, .int .i64 7, .int .i64 1] 38) = w4' at *
  clear hx1 w4
  have A := Lib.hid (fun w h => k_acc q M3 s2 s3 7 1 1 8 2 0 w h fine2 (by decide) to3)
  go_wp2_with fail
  (with_reducible refine (A.out _ H4.out).mono ?_)
  rintro e w5 ⟨rfl, ⟨M4, h2, m2⟩, o2⟩
  obtain ⟨x2, hx2⟩ : ∃ x, w5.heap.size = x := ⟨_, rfl⟩
  have D2 := Lib.hid (hx2 ▸ Row.fresh w5 38 #[.int .i64 1, .int .i64 8, .int .i64 2])
  have N2 := Lib.hid (show ¬ M4 x2 from fun j => by have := h2.lt _ j; omega)
  have N0' := Lib.hid (show ¬ M4 x0 from fun j => by rcases m2 _ j with j | j; exact N0.out j; have := D0.out.lt; omega)
  have D0 := Lib.hid ((o2.row D0.out N0.out).alloc (.cells #[.int .i64 1, .int .i64 8, .int .i64 2] 38))
  clear N0
  have N0 := N0'
  clear N0'
  have N1' := Lib.hid (show ¬ M4 x1 from fun j => by rcases m2 _ j with j | j; exact N1.out j; have := D1.out.lt; omega)
  have D1 := Lib.hid ((o2.row D1.out N1.out).alloc (.cells #[.int .i64 1, .int .i64 8, .int .i64 2] 38))
  clear N1
  have N1 := N1'
  clear N1'
  have H5 := Lib.hid (h2.still ((Only.refl none_ w5).alloc (.cells #[.int .i64 1, .int .i64 8, .int .i64 2] 38)))
  have L5 := Lib.hid (fun g (k : M4 g) => show w.heap.size ≤ g from (m2 g k).elim (L4.out g) (fun k => Nat.le_trans B4.out.size k))
  have B5 := Lib.hid (st_on (st_below B4.out o2 L4.out) ((Only.refl none_ w5).alloc (.cells #[.int .i64 1, .int .i64 8, .int .i64 2] 38)))
  clear h2 m2 o2 H4 B4 A
  go_wp2_with fail
  generalize w5.alloc (.cells #[.int .i64 1, .int .i64 8, .int .i64 2] 38) = w5' at *
  clear hx2 w5
  have A := Lib.hid (fun w h => k_acc q M4 s3 s3 100 1 0 0 0 1 w h fine3 (by decide) to4)
  go_wp2_with fail
  (with_reducible refine (A.out _ H5.out).mono ?_)
  rintro e w6 ⟨rfl, ⟨M5, h2, m2⟩, o2⟩
  obtain ⟨x3, hx3⟩ : ∃ x, w6.heap.size = x := ⟨_, rfl⟩
  have D3 := Lib.hid (hx3 ▸ Row.fresh w6 38 #[.int .i64 0, .int .i64 0, .int .i64 0])
  have N3 := Lib.hid (show ¬ M5 x3 from fun j => by have := h2.lt _ j; omega)
  have N0' := Lib.hid (show ¬ M5 x0 from fun j => by rcases m2 _ j with j | j; exact N0.out j; have := D0.out.lt; omega)
  have D0 := Lib.hid ((o2.row D0.out N0.out).alloc (.cells #[.int .i64 0, .int .i64 0, .int .i64 0] 38))
  clear N0
  have N0 := N0'
  clear N0'
  have N1' := Lib.hid (show ¬ M5 x1 from fun j => by rcases m2 _ j with j | j; exact N1.out j; have := D1.out.lt; omega)
  have D1 := Lib.hid ((o2.row D1.out N1.out).alloc (.cells #[.int .i64 0, .int .i64 0, .int .i64 0] 38))
  clear N1
  have N1 := N1'
  clear N1'
  have N2' := Lib.hid (show ¬ M5 x2 from fun j => by rcases m2 _ j with j | j; exact N2.out j; have := D2.out.lt; omega)
  have D2 := Lib.hid ((o2.row D2.out N2.out).alloc (.cells #[.int .i64 0, .int .i64 0, .int .i64 0] 38))
  clear N2
  have N2 := N2'
  clear N2'
  have H6 := Lib.hid (h2.still ((Only.refl none_ w6).alloc (.cells #[.int .i64 0, .int .i64 0, .int .i64 0] 38)))
  have L6 := Lib.hid (fun g (k : M5 g) => show w.heap.size ≤ g from (m2 g k).elim (L5.out g) (fun k => Nat.le_trans B5.out.size k))
  have B6 := Lib.hid (st_on (st_below B5.out o2 L5.out) ((Only.refl none_ w6).alloc (.cells #[.int .i64 0, .int .i64 0, .int .i64 0] 38)))
  clear h2 m2 o2 H5 B5 A
  go_wp2_with fail
  generalize w6.alloc (.cells #[.int .i64 0, .int .i64 0, .int .i64 0] 38) = w6' at *
  clear hx3 w6
  have SS := Lib.hid (streams_any (t := s3) _ H6.out (by decide))
  (with_reducible refine SS.out.mono ?_)
  rintro e w7 ⟨A7, c7, rfl, hh7, ha7, o7⟩
  obtain ⟨g7, o7', rfl, lg7, cl7⟩ := hh7 0 ⟨1, ⟨8, 10, 2, 0⟩, 3⟩ rfl
  have e0 : w7.cell? ⟨g7, o7', none⟩ = some (.int .i64 1) := cl7 0 _ rfl
  have e1 : w7.cell? ⟨g7, o7' + 1, none⟩ = some (.int .i64 8) := cl7 1 _ rfl
  have e2 : w7.cell? ⟨g7, o7' + 2, none⟩ = some (.int .i64 10) := cl7 2 _ rfl
  have e3 : w7.cell? ⟨g7, o7' + 3, none⟩ = some (.int .i64 2) := cl7 3 _ rfl
  have e4 : w7.cell? ⟨g7, o7' + 4, none⟩ = some (.int .i64 0) := cl7 4 _ rfl
  have e5 : w7.cell? ⟨g7, o7' + 5, none⟩ = some (.int .i64 3) := cl7 5 _ rfl
  obtain ⟨a0, a1, a2⟩ := (o7.still D0.out).three
  obtain ⟨b0, b1, b2⟩ := (o7.still D1.out).three
  obtain ⟨d0, d1, d2⟩ := (o7.still D2.out).three
  have H7 := Lib.hid (H6.out.still o7)
  have B7 := Lib.hid (st_on B6.out o7)
  have LT := Lib.hid (fun w h => late10_any (q := q) (M := M5) (c := c0) (t := s3) 1 w h fine3 (by decide))
  rw [to5.1, to5.2] at LT
  have WS := Lib.hid (fun w h => waste10_any (q := q) (M := M5) (c := c0) (t := s4) 2 w h fine4 (by decide))
  rw [to6.1, to6.2] at WS
  clear hh7 ha7 o7 cl7 H6 B6 SS D0 D1 D2 D3 N0 N1 N2 N3 lg7
  go_wp2_with fail
  (with_reducible refine (LT.out _ H7.out).mono ?_)
  rintro e w8 ⟨rfl, h8, o8⟩
  have H8 := Lib.hid h8
  have B8 := Lib.hid (st_below B7.out o8 L6.out)
  clear h8 o8 H7 B7
  go_wp2_with fail
  (with_reducible refine (WS.out _ H8.out).mono ?_)
  rintro e w9 ⟨rfl, h9, o9⟩
  have EX := Lib.hid (expected_any (t := s4) w9 h9 (by decide))
  have B9 := Lib.hid (st_below B8.out o9 L6.out)
  clear h9 o9 H8 B8
  go_wp2_with fail
  (with_reducible refine EX.out.mono ?_)
  rintro e w10 ⟨A10, c10, rfl, _, _, o10⟩
  have B10 := Lib.hid (st_on B9.out o10)
  clear o10 B9
  go_wp2_with fail
  go_ret
  exact ⟨rfl, B10.out⟩
end Go.Proofs.Ytfmmmiiohaaegaa
