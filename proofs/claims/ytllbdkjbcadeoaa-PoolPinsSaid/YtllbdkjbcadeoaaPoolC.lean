/- What the closures of package pool do. -/
import Derived.Test.YtllbdkjbcadeoaaPool
namespace Go.Proofs.Ytllbdkjbcadeoaa
open Go.RowKit
set_option linter.unusedVariables false

/-- a variable that a closure has: it lies at block q, and holds v -/
abbrev Var (w : World) (q : Nat) (v : Value) : Prop := w.cell? ⟨q, 0, none⟩ = some v

theorem doom1_out (p b q r : Nat) (fs : List Fr) (i : Int) (w : World) (h : PoolIs w p b fs) (hq : Var w q (.pointer (some ⟨p, 0, none⟩))) (hr : Var w r (.int .i64 i)) (hi : i < 0 ∨ (fs.length : Int) ≤ i) :
    Calls Try.prog 34 #[.pointer (some ⟨q, 0, none⟩), .pointer (some ⟨r, 0, none⟩)] w fun e w' => e = left 1 ∧ w = w' := by
  have A := Lib.hid (at_no p b fs i w h hi)
  clear h hi
  go_enter Try.func34, Try.ntmps34
  go_wp2_with fail
  (with_reducible refine (A.out).mono ?_)
  rintro e w' ⟨rfl, rfl⟩
  go_wp2_with fail
  exact ⟨rfl, rfl, rfl⟩
theorem doom1_busy (p b q r : Nat) (fs : List Fr) (i : Nat) (f : Fr) (w : World) (h : PoolIs w p b fs) (hq : Var w q (.pointer (some ⟨p, 0, none⟩))) (hr : Var w r (.int .i64 i)) (hf : fs[i]? = some f) (hn : (f.st == 1 || f.st == 2) = false) :
    Calls Try.prog 34 #[.pointer (some ⟨q, 0, none⟩), .pointer (some ⟨r, 0, none⟩)] w fun e w' => e = left 5 ∧ Only none_ w w' := by
  obtain ⟨c0, c1, c2, c3, c4⟩ := h.at_ hf
  have A := Lib.hid (at_yes p b fs i w h (lt_of_get hf))
  have B := Lib.hid (inUse_any f w)
  unfold Fr.agg at B
  rw [hn] at B
  clear hf h hn
  go_enter Try.func34, Try.ntmps34
  go_wp2_with fail
  (with_reducible refine (A.out).mono ?_)
  rintro e w' ⟨rfl, rfl⟩
  go_wp2_with fail
  (with_reducible refine (B.out).mono ?_)
  rintro e w1 ⟨rfl, o1⟩
  have O := Lib.hid o1
  clear o1
  go_wp2_with fail
  (with_reducible refine ((unless_no _ _)).mono ?_)
  rintro e w' ⟨rfl, rfl⟩
  go_wp2_with fail
  exact ⟨rfl, rfl, O.out⟩
/-- behind a doom -/
def Fr.doomed (f : Fr) : Fr := if f.pins = 0 then f.freed else { f with st := 3 }
theorem doom1_yes (p b q r : Nat) (fs : List Fr) (i : Nat) (f : Fr) (w : World) (h : PoolIs w p b fs) (hq : Var w q (.pointer (some ⟨p, 0, none⟩))) (hr : Var w r (.int .i64 i)) (hf : fs[i]? = some f) (hn : (f.st == 1 || f.st == 2) = true) :
    Calls Try.prog 34 #[.pointer (some ⟨q, 0, none⟩), .pointer (some ⟨r, 0, none⟩)] w fun e w' => e = .returned (.tuple #[]) ∧ PoolIs w' p b (fs.set i f.doomed) ∧ Only (fun k => k = b) w w' := by
  obtain ⟨c0, c1, c2, c3, c4⟩ := h.at_ hf
  have A := Lib.hid (at_yes p b fs i w h (lt_of_get hf))
  have B := Lib.hid (inUse_any f w)
  unfold Fr.agg at B
  rw [hn] at B
  have HF := Lib.hid hf
  have H := Lib.hid h
  clear hf h hn
  go_enter Try.func34, Try.ntmps34
  go_wp2_with fail
  (with_reducible refine (A.out).mono ?_)
  rintro e w' ⟨rfl, rfl⟩
  go_wp2_with fail
  (with_reducible refine (B.out).mono ?_)
  rintro e w1 ⟨rfl, o1⟩
  clear c0 c1 c2 c3 c4
  have H1 := Lib.hid (H.out.still o1)
  obtain ⟨c0, c1, c2, c3, c4⟩ := H1.out.at_ HF.out
  have z := H1.out.fz
  have O := Lib.hid o1
  clear o1
  go_wp2_with fail
  (with_reducible refine ((unless_yes _ _)).mono ?_)
  rintro e w' ⟨rfl, rfl⟩
  go_wp2_with fail
  have H2 := Lib.hid (H1.out.set (j := 0) (v := .int .i64 3) (f' := { f with st := 3 }) HF.out (by decide) rfl)
  have O2 := Lib.hid ((O.out.more (S' := fun k => k = b) (fun _ _ s => s.elim)).into rfl (i * 5 + 0) (.int .i64 3))
  simp only [Nat.add_zero] at H2 O2
  clear c0 c1 c2 c3 c4 z H1
  by_cases k : f.pins = 0
  · have L := letGo_yes p b _ i { f with st := 3 } _ H2.out (get_set HF.out) rfl k
    rw [List.set_set] at L
    (with_reducible refine L.mono ?_)
    rintro e w' ⟨rfl, h3, o3⟩
    have H3 := Lib.hid h3
    have O3 := Lib.hid (O2.out.same o3)
    clear h3 o3
    go_wp2_with fail
    go_end0
    refine ⟨rfl, ?_, O3.out⟩
    unfold Fr.doomed
    rw [if_pos k]
    exact H3.out
  · (with_reducible refine (letGo_not p b _ i { f with st := 3 } _ H2.out (get_set HF.out) (fun e => absurd e.2 k)).mono ?_)
    rintro e w' ⟨rfl, rfl⟩
    go_wp2_with fail
    go_end0
    refine ⟨rfl, ?_, O2.out⟩
    unfold Fr.doomed
    rw [if_neg k]
    exact H2.out

theorem fill1_out (p b q r s : Nat) (fs : List Fr) (i v : Int) (w : World) (h : PoolIs w p b fs) (hq : Var w q (.pointer (some ⟨p, 0, none⟩))) (hr : Var w r (.int .i64 i)) (hs : Var w s (.int .u64 v)) (hi : i < 0 ∨ (fs.length : Int) ≤ i) :
    Calls Try.prog 40 #[.pointer (some ⟨q, 0, none⟩), .pointer (some ⟨r, 0, none⟩), .pointer (some ⟨s, 0, none⟩)] w fun e w' => e = left 1 ∧ w = w' := by
  have A := Lib.hid (at_no p b fs i w h hi)
  clear h hi
  go_enter Try.func40, Try.ntmps40
  go_wp2_with fail
  (with_reducible refine (A.out).mono ?_)
  rintro e w' ⟨rfl, rfl⟩
  go_wp2_with fail
  exact ⟨rfl, rfl, rfl⟩
theorem fill1_busy (p b q r s : Nat) (fs : List Fr) (i : Nat) (v : Int) (f : Fr) (w : World) (h : PoolIs w p b fs) (hq : Var w q (.pointer (some ⟨p, 0, none⟩))) (hr : Var w r (.int .i64 i)) (hs : Var w s (.int .u64 v)) (hf : fs[i]? = some f) (hn : (f.st == 1 || f.st == 2) = false) :
    Calls Try.prog 40 #[.pointer (some ⟨q, 0, none⟩), .pointer (some ⟨r, 0, none⟩), .pointer (some ⟨s, 0, none⟩)] w fun e w' => e = left 5 ∧ Only none_ w w' := by
  obtain ⟨c0, c1, c2, c3, c4⟩ := h.at_ hf
  have A := Lib.hid (at_yes p b fs i w h (lt_of_get hf))
  have B := Lib.hid (inUse_any f w)
  unfold Fr.agg at B
  rw [hn] at B
  clear hf h hn
  go_enter Try.func40, Try.ntmps40
  go_wp2_with fail
  (with_reducible refine (A.out).mono ?_)
  rintro e w' ⟨rfl, rfl⟩
  go_wp2_with fail
  (with_reducible refine (B.out).mono ?_)
  rintro e w1 ⟨rfl, o1⟩
  have O := Lib.hid o1
  clear o1
  go_wp2_with fail
  (with_reducible refine (unless_no _ _).mono ?_)
  rintro e w' ⟨rfl, rfl⟩
  go_wp2_with fail
  exact ⟨rfl, rfl, O.out⟩
theorem fill1_yes (p b q r s : Nat) (fs : List Fr) (i : Nat) (v : Int) (f : Fr) (w : World) (h : PoolIs w p b fs) (hq : Var w q (.pointer (some ⟨p, 0, none⟩))) (hr : Var w r (.int .i64 i)) (hs : Var w s (.int .u64 v)) (hf : fs[i]? = some f) (hn : (f.st == 1 || f.st == 2) = true) :
    Calls Try.prog 40 #[.pointer (some ⟨q, 0, none⟩), .pointer (some ⟨r, 0, none⟩), .pointer (some ⟨s, 0, none⟩)] w fun e w' => e = .returned (.tuple #[]) ∧ PoolIs w' p b (fs.set i { f with st := 2, val := v }) ∧ Only (fun k => k = b) w w' := by
  obtain ⟨c0, c1, c2, c3, c4⟩ := h.at_ hf
  have A := Lib.hid (at_yes p b fs i w h (lt_of_get hf))
  have B := Lib.hid (inUse_any f w)
  unfold Fr.agg at B
  rw [hn] at B
  have HF := Lib.hid hf
  have H := Lib.hid h
  clear hf h hn
  go_enter Try.func40, Try.ntmps40
  go_wp2_with fail
  (with_reducible refine (A.out).mono ?_)
  rintro e w' ⟨rfl, rfl⟩
  go_wp2_with fail
  (with_reducible refine (B.out).mono ?_)
  rintro e w1 ⟨rfl, o1⟩
  have hs1 := o1.cell hs (fun s => s)
  clear c0 c1 c2 c3 c4 hs hq hr
  have H1 := Lib.hid (H.out.still o1)
  obtain ⟨c0, c1, c2, c3, c4⟩ := H1.out.at_ HF.out
  have z := H1.out.fz
  have O := Lib.hid o1
  clear o1
  go_wp2_with fail
  (with_reducible refine (unless_yes _ _).mono ?_)
  rintro e w' ⟨rfl, rfl⟩
  go_wp2_with fail
  go_end0
  have h2 := H1.out.set (j := 0) (v := .int .i64 2) (f' := { f with st := 2 }) HF.out (by decide) rfl
  have h3 := h2.set (j := 4) (v := .int .u64 v) (f' := { f with st := 2, val := v }) (get_set HF.out) (by decide) rfl
  rw [List.set_set] at h3
  simp only [Nat.add_zero] at h3
  exact ⟨rfl, h3, ((O.out.more (S' := fun k => k = b) (fun _ _ s => s.elim)).into rfl _ _).into rfl _ _⟩

theorem pin1_out (p b q r s : Nat) (fs : List Fr) (i g : Int) (w : World) (h : PoolIs w p b fs) (hq : Var w q (.pointer (some ⟨p, 0, none⟩))) (hr : Var w r (.int .i64 i)) (hs : Var w s (.int .i64 g)) (hi : i < 0 ∨ (fs.length : Int) ≤ i) :
    Calls Try.prog 38 #[.pointer (some ⟨q, 0, none⟩), .pointer (some ⟨r, 0, none⟩), .pointer (some ⟨s, 0, none⟩)] w fun e w' => e = left 1 ∧ w = w' := by
  have A := Lib.hid (taken_out p b fs i g w h hi)
  clear h hi
  go_enter Try.func38, Try.ntmps38
  go_wp2_with fail
  (with_reducible refine (A.out).mono ?_)
  rintro e w' ⟨rfl, rfl⟩
  go_wp2_with fail
  exact ⟨rfl, rfl, rfl⟩
theorem pin1_none (p b q r s : Nat) (fs : List Fr) (i : Nat) (g : Int) (f : Fr) (w : World) (h : PoolIs w p b fs) (hq : Var w q (.pointer (some ⟨p, 0, none⟩))) (hr : Var w r (.int .i64 i)) (hs : Var w s (.int .i64 g)) (hf : fs[i]? = some f) (hn : f.st = 0 ∨ f.gen ≠ g) :
    Calls Try.prog 38 #[.pointer (some ⟨q, 0, none⟩), .pointer (some ⟨r, 0, none⟩), .pointer (some ⟨s, 0, none⟩)] w fun e w' => e = left 3 ∧ Only none_ w w' := by
  have A := Lib.hid (taken_no p b fs i f g w h hf hn)
  clear hf h hn
  go_enter Try.func38, Try.ntmps38
  go_wp2_with fail
  (with_reducible refine (A.out).mono ?_)
  rintro e w1 ⟨rfl, o1⟩
  have O := Lib.hid o1
  clear o1
  go_wp2_with fail
  exact ⟨rfl, rfl, O.out⟩

theorem unpin1_out (p b q r s : Nat) (fs : List Fr) (i g : Int) (w : World) (h : PoolIs w p b fs) (hq : Var w q (.pointer (some ⟨p, 0, none⟩))) (hr : Var w r (.int .i64 i)) (hs : Var w s (.int .i64 g)) (hi : i < 0 ∨ (fs.length : Int) ≤ i) :
    Calls Try.prog 41 #[.pointer (some ⟨q, 0, none⟩), .pointer (some ⟨r, 0, none⟩), .pointer (some ⟨s, 0, none⟩)] w fun e w' => e = left 1 ∧ w = w' := by
  have A := Lib.hid (taken_out p b fs i g w h hi)
  clear h hi
  go_enter Try.func41, Try.ntmps41
  go_wp2_with fail
  (with_reducible refine (A.out).mono ?_)
  rintro e w' ⟨rfl, rfl⟩
  go_wp2_with fail
  exact ⟨rfl, rfl, rfl⟩
theorem unpin1_none (p b q r s : Nat) (fs : List Fr) (i : Nat) (g : Int) (f : Fr) (w : World) (h : PoolIs w p b fs) (hq : Var w q (.pointer (some ⟨p, 0, none⟩))) (hr : Var w r (.int .i64 i)) (hs : Var w s (.int .i64 g)) (hf : fs[i]? = some f) (hn : f.st = 0 ∨ f.gen ≠ g) :
    Calls Try.prog 41 #[.pointer (some ⟨q, 0, none⟩), .pointer (some ⟨r, 0, none⟩), .pointer (some ⟨s, 0, none⟩)] w fun e w' => e = left 3 ∧ Only none_ w w' := by
  have A := Lib.hid (taken_no p b fs i f g w h hf hn)
  clear hf h hn
  go_enter Try.func41, Try.ntmps41
  go_wp2_with fail
  (with_reducible refine (A.out).mono ?_)
  rintro e w1 ⟨rfl, o1⟩
  have O := Lib.hid o1
  clear o1
  go_wp2_with fail
  exact ⟨rfl, rfl, O.out⟩

theorem pin1_busy (p b q r s : Nat) (fs : List Fr) (i : Nat) (g : Int) (f : Fr) (w : World) (h : PoolIs w p b fs) (hq : Var w q (.pointer (some ⟨p, 0, none⟩))) (hr : Var w r (.int .i64 i)) (hs : Var w s (.int .i64 g)) (hf : fs[i]? = some f) (h0 : ¬ f.st = 0) (hg : f.gen = g) (hn : (f.st == 1 || f.st == 2) = false) :
    Calls Try.prog 38 #[.pointer (some ⟨q, 0, none⟩), .pointer (some ⟨r, 0, none⟩), .pointer (some ⟨s, 0, none⟩)] w fun e w' => e = left 5 ∧ Only none_ w w' := by
  have A := Lib.hid (taken_yes p b fs i f g w h hf h0 hg)
  have HF := Lib.hid hf
  have H := Lib.hid h
  have N := Lib.hid hn
  clear hf h hn h0 hg
  go_enter Try.func38, Try.ntmps38
  go_wp2_with fail
  (with_reducible refine (A.out).mono ?_)
  rintro e w1 ⟨rfl, o1⟩
  have B := inUse_any f w1
  unfold Fr.agg at B
  rw [N.out] at B
  have B := Lib.hid B
  obtain ⟨c0, c1, c2, c3, c4⟩ := (H.out.still o1).at_ HF.out
  have O := Lib.hid o1
  clear o1
  go_wp2_with fail
  (with_reducible refine (B.out).mono ?_)
  rintro e w2 ⟨rfl, o2⟩
  have O2 := Lib.hid (O.out.idle o2)
  clear o2
  go_wp2_with fail
  (with_reducible refine (unless_no _ _).mono ?_)
  rintro e w' ⟨rfl, rfl⟩
  go_wp2_with fail
  exact ⟨rfl, rfl, O2.out⟩
theorem pin1_yes (p b q r s : Nat) (fs : List Fr) (i : Nat) (g : Int) (f : Fr) (w : World) (h : PoolIs w p b fs) (hq : Var w q (.pointer (some ⟨p, 0, none⟩))) (hr : Var w r (.int .i64 i)) (hs : Var w s (.int .i64 g)) (hf : fs[i]? = some f) (hg : f.gen = g) (hn : (f.st == 1 || f.st == 2) = true) (hp0 : 0 ≤ f.pins) (hp1 : f.pins ≤ 1000000) :
    Calls Try.prog 38 #[.pointer (some ⟨q, 0, none⟩), .pointer (some ⟨r, 0, none⟩), .pointer (some ⟨s, 0, none⟩)] w fun e w' => e = .returned (.tuple #[]) ∧ PoolIs w' p b (fs.set i { f with pins := f.pins + 1 }) ∧ Only (fun k => k = b) w w' := by
  have A := Lib.hid (taken_yes p b fs i f g w h hf (fun e => by rw [e] at hn; simp at hn) hg)
  have HF := Lib.hid hf
  have H := Lib.hid h
  have N := Lib.hid hn
  clear hf h hn hg
  go_enter Try.func38, Try.ntmps38
  go_wp2_with fail
  (with_reducible refine (A.out).mono ?_)
  rintro e w1 ⟨rfl, o1⟩
  have B := inUse_any f w1
  unfold Fr.agg at B
  rw [N.out] at B
  have B := Lib.hid B
  obtain ⟨c0, c1, c2, c3, c4⟩ := (H.out.still o1).at_ HF.out
  have O := Lib.hid o1
  clear o1
  go_wp2_with fail
  (with_reducible refine (B.out).mono ?_)
  rintro e w2 ⟨rfl, o2⟩
  have O2 := Lib.hid (O.out.idle o2)
  clear o2 c0 c1 c2 c3 c4
  have H1 := Lib.hid (H.out.still O2.out)
  obtain ⟨c0, c1, c2, c3, c4⟩ := H1.out.at_ HF.out
  have z := H1.out.fz
  go_wp2_with fail
  (with_reducible refine (unless_yes _ _).mono ?_)
  rintro e w' ⟨rfl, rfl⟩
  go_wp2_with fail
  go_end0
  have h3 := H1.out.set (j := 3) (v := .int .i64 (f.pins + 1)) (f' := { f with pins := f.pins + 1 }) HF.out (by decide) rfl
  exact ⟨rfl, h3, (O2.out.more (S' := fun k => k = b) (fun _ _ s => s.elim)).into rfl _ _⟩

theorem unpin1_busy (p b q r s : Nat) (fs : List Fr) (i : Nat) (g : Int) (f : Fr) (w : World) (h : PoolIs w p b fs) (hq : Var w q (.pointer (some ⟨p, 0, none⟩))) (hr : Var w r (.int .i64 i)) (hs : Var w s (.int .i64 g)) (hf : fs[i]? = some f) (h0 : ¬ f.st = 0) (hg : f.gen = g) (hn : ¬ 0 < f.pins) :
    Calls Try.prog 41 #[.pointer (some ⟨q, 0, none⟩), .pointer (some ⟨r, 0, none⟩), .pointer (some ⟨s, 0, none⟩)] w fun e w' => e = left 5 ∧ Only none_ w w' := by
  have A := Lib.hid (taken_yes p b fs i f g w h hf h0 hg)
  have HF := Lib.hid hf
  have H := Lib.hid h
  have t := decide_eq_false hn
  clear hf h h0 hg hn
  go_enter Try.func41, Try.ntmps41
  go_wp2_with fail
  (with_reducible refine (A.out).mono ?_)
  rintro e w1 ⟨rfl, o1⟩
  obtain ⟨c0, c1, c2, c3, c4⟩ := (H.out.still o1).at_ HF.out
  have O := Lib.hid o1
  clear o1
  go_wp2_with fail
  (with_reducible refine (unless_no _ _).mono ?_)
  rintro e w' ⟨rfl, rfl⟩
  go_wp2_with fail
  exact ⟨rfl, rfl, O.out⟩
/-- behind an unpin -/
def Fr.unpinned (f : Fr) : Fr := if f.st = 3 ∧ f.pins = 1 then f.freed else { f with pins := f.pins - 1 }
theorem unpin1_yes (p b q r s : Nat) (fs : List Fr) (i : Nat) (g : Int) (f : Fr) (w : World) (h : PoolIs w p b fs) (hq : Var w q (.pointer (some ⟨p, 0, none⟩))) (hr : Var w r (.int .i64 i)) (hs : Var w s (.int .i64 g)) (hf : fs[i]? = some f) (h0 : ¬ f.st = 0) (hg : f.gen = g) (hp0 : 0 < f.pins) (hp1 : f.pins ≤ 1000000) :
    Calls Try.prog 41 #[.pointer (some ⟨q, 0, none⟩), .pointer (some ⟨r, 0, none⟩), .pointer (some ⟨s, 0, none⟩)] w fun e w' => e = .returned (.tuple #[]) ∧ PoolIs w' p b (fs.set i f.unpinned) ∧ Only (fun k => k = b) w w' := by
  have A := Lib.hid (taken_yes p b fs i f g w h hf h0 hg)
  have HF := Lib.hid hf
  have H := Lib.hid h
  have t := decide_eq_true hp0
  clear hf h h0 hg
  go_enter Try.func41, Try.ntmps41
  go_wp2_with fail
  (with_reducible refine (A.out).mono ?_)
  rintro e w1 ⟨rfl, o1⟩
  have H1 := Lib.hid (H.out.still o1)
  obtain ⟨c0, c1, c2, c3, c4⟩ := H1.out.at_ HF.out
  have z := H1.out.fz
  have O := Lib.hid o1
  clear o1
  go_wp2_with fail
  (with_reducible refine (unless_yes _ _).mono ?_)
  rintro e w' ⟨rfl, rfl⟩
  go_wp2_with fail
  have H2 := Lib.hid (H1.out.set (j := 3) (v := .int .i64 (f.pins - 1)) (f' := { f with pins := f.pins - 1 }) HF.out (by decide) rfl)
  have O2 := Lib.hid ((O.out.more (S' := fun k => k = b) (fun _ _ s => s.elim)).into rfl (i * 5 + 3) (.int .i64 (f.pins - 1)))
  clear c0 c1 c2 c3 c4 z H1
  by_cases k : f.st = 3 ∧ f.pins = 1
  · have L := letGo_yes p b _ i { f with pins := f.pins - 1 } _ H2.out (get_set HF.out) k.1 (by show f.pins - 1 = 0; omega)
    rw [List.set_set] at L
    (with_reducible refine L.mono ?_)
    rintro e w' ⟨rfl, h3, o3⟩
    have H3 := Lib.hid h3
    have O3 := Lib.hid (O2.out.same o3)
    clear h3 o3
    go_wp2_with fail
    go_end0
    refine ⟨rfl, ?_, O3.out⟩
    unfold Fr.unpinned
    rw [if_pos k]
    exact H3.out
  · (with_reducible refine (letGo_not p b _ i { f with pins := f.pins - 1 } _ H2.out (get_set HF.out) (fun e => absurd ⟨e.1, by have := e.2; simp only at this; omega⟩ k)).mono ?_)
    rintro e w' ⟨rfl, rfl⟩
    go_wp2_with fail
    go_end0
    refine ⟨rfl, ?_, O2.out⟩
    unfold Fr.unpinned
    rw [if_neg k]
    exact H2.out
end Go.Proofs.Ytllbdkjbcadeoaa
