/- Op and Run of package ask. No condition but what each says. -/
import Derived.Test.YtnhcgnmanonmaaaDoorAy
namespace Go.Proofs.YtnhcgnmanonmaaaDoor
open Go.RowKit
set_option linter.unusedVariables false

structure Rn where
  f : Int
  c : Int
  deriving DecidableEq
def Rn.cells (r : Rn) : Array Value := #[.int .i64 r.f, .int .i64 r.c]
def Rn.val (r : Rn) : Value := .agg #[.int .i64 r.f, .int .i64 r.c]
theorem info_run : (Tryd.prog.info? 37).map (·.size) = some 2 := by kernel_rfl
theorem results_run {fn : Func} {p : Tmp} (h : fn.results = #[.cell p 37]) (tmps : Array Value) (w : World) (g : Nat) (r : Rn)
    (hp : tmps.getD p undef = .pointer (some ⟨g, 0, none⟩)) (hg : Row w g 37 #[.int .i64 r.f, .int .i64 r.c]) : (results fn tmps).run Tryd.prog w = .ok r.val w :=
  results_cell_row h tmps w g 37 _ (0, 0) _ hp hg Tryd.underlying37 rfl info_run
instance (o : Opn) : Decidable o.M := by unfold Opn.M; infer_instance
def Opn.mB (o : Opn) : Bool := decide o.M
/-- the blocks that it has -/
def Opn.rn (o : Opn) : Rn := ⟨o.first, o.count + o.len⟩
def Opn.R (o : Opn) (b : Int) : Prop := o.first < 0 ∨ b < o.first + (o.count + o.len)
instance (o : Opn) (b : Int) : Decidable (o.R b) := by unfold Opn.R; infer_instance
def opC (b : Int) (o : Opn) : Int := if 1 ≤ b ∧ b ≤ 256 ∧ o.M then if o.R b then 6 else 0 else 1
def runV (o : Opn) : Rn := if opC 256 o = 0 then o.rn else ⟨0, 0⟩
theorem m_bd {o : Opn} (h : o.M) : 0 ≤ o.count + (o.len : Int) ∧ o.count + (o.len : Int) ≤ 8 ∧ 0 ≤ o.count ∧ o.len ≤ 8 := by
  unfold Opn.M at h
  omega
theorem blocks_any (o : Opn) (w : World) (h : 0 ≤ o.count + (o.len : Int) ∧ o.count + (o.len : Int) ≤ 8 ∧ 0 ≤ o.count ∧ o.len ≤ 8) :
    Calls Tryd.prog 20 #[o.val] w fun e w' => e = .returned o.rn.val ∧ Only none_ w w' := by
  obtain ⟨k, i, f, c, A, l, p, b⟩ := o
  have HH := Lib.hid h
  unfold Opn.val
  dsimp only at h ⊢
  have h1 := h.1
  have h2 := h.2.1
  clear h
  go_enter Tryd.func20, Tryd.ntmps20
  go_wp2
  refine bodyPost_ret (results_run rfl _ _ (w.heap.size + 1) ⟨f, c + l⟩ rfl ?_) rfl ⟨rfl, ((Only.refl none_ w).alloc _).alloc _⟩
  have r := Row.fresh (w.alloc (.cells #[.int .i64 k, .int .i64 i, .int .i64 f, .int .i64 c, .slice A l p, .bool b] 34)) 37 #[.int .i64 f, .int .i64 (c + l)]
  rw [World.size_alloc] at r
  exact r
set_option maxHeartbeats 2000000 in
theorem op_any (b : Int) (o : Opn) (w : World) (hf : -9223372036854775808 ≤ o.first ∧ o.first ≤ 9223372036854775807) :
    Calls Tryd.prog 13 #[.int .i64 b, o.val] w fun e w' => e = .returned (.int .i64 (opC b o)) ∧ Only none_ w w' := by
  have HF := Lib.hid hf
  have MA := Lib.hid (fun w' => may_any o w' o.mB (fun h => decide_eq_true h) (fun h => decide_eq_false h))
  have BA := Lib.hid (fun (h : o.M) w' => blocks_any o w' (m_bd h))
  have CM := Lib.hid (fun (h : ¬ (1 ≤ b ∧ b ≤ 256 ∧ o.M)) => show opC b o = 1 from if_neg h)
  have CR := Lib.hid (fun (h : 1 ≤ b ∧ b ≤ 256 ∧ o.M) (k : o.R b) => show opC b o = 6 from by unfold opC; rw [if_pos h, if_pos k])
  have CO := Lib.hid (fun (h : 1 ≤ b ∧ b ≤ 256 ∧ o.M) (k : ¬ o.R b) => show opC b o = 0 from by unfold opC; rw [if_pos h, if_neg k])
  have MB := Lib.hid (fun h : o.M => m_bd h)
  have MM := Lib.hid (show o.mB = true ↔ o.M from decide_eq_true_iff)
  clear hf
  revert CM CR CO
  generalize opC b o = z
  intro CM CR CO
  revert MA MM
  generalize o.mB = mb
  intro MA MM
  obtain ⟨k, i, f, c, A, l, p, bl⟩ := o
  unfold Opn.val at *
  unfold Opn.rn Rn.val at BA
  dsimp only at *
  have OB := Lib.hid ((Only.refl none_ w).alloc (.cells #[.int .i64 k, .int .i64 i, .int .i64 f, .int .i64 c, .slice A l p, .bool bl] 34))
  have RB := Lib.hid (Row.fresh w 34 #[.int .i64 k, .int .i64 i, .int .i64 f, .int .i64 c, .slice A l p, .bool bl])
  go_enter Tryd.func13, Tryd.ntmps13
  go_wp2_with fail
  (with_reducible refine (has_any _ _ _ _).mono ?_)
  rintro e w2 ⟨rfl, o⟩
  have O2 := Lib.hid (OB.out.same o)
  have R2 := Lib.hid (o.still RB.out)
  clear o OB RB
  cases q : inB 1 256 b with
  | false =>
    have hq : ¬ (1 ≤ b ∧ b ≤ 256) := of_decide_eq_false q
    have MF := Lib.hid (CM.out (fun h => hq ⟨h.1, h.2.1⟩))
    clear q hq
    go_wp2_with fail
    go_ret
    rw [MF.out]
    exact ⟨rfl, O2.out⟩
  | true =>
    have HQ := Lib.hid (show 1 ≤ b ∧ b ≤ 256 from of_decide_eq_true q)
    clear q
    obtain ⟨c0, c1, c2, c3, c4, c5⟩ := R2.out.six
    go_wp2_with fail
    (with_reducible refine (MA.out _).mono ?_)
    rintro e w3 ⟨rfl, o⟩
    have O3 := Lib.hid (O2.out.same o)
    have R3 := Lib.hid (o.still R2.out)
    clear o R2 O2 c0 c1 c2 c3 c4 c5
    cases mb with
    | false =>
      have MF := Lib.hid (CM.out (fun h => absurd (MM.out.2 h.2.2) (by decide)))
      go_wp2_with fail
      go_ret
      rw [MF.out]
      exact ⟨rfl, O3.out⟩
    | true =>
      have HM := Lib.hid (MM.out.1 rfl)
      obtain ⟨c0, c1, c2, c3, c4, c5⟩ := R3.out.six
      go_wp2_with fail
      (with_reducible refine (BA.out HM.out _).mono ?_)
      rintro e w4 ⟨rfl, o⟩
      have O4 := Lib.hid (O3.out.same o)
      clear o R3 O3 c0 c1 c2 c3 c4 c5
      have hb1 := HQ.out.1
      have hb2 := HQ.out.2
      have hn1 := (MB.out HM.out).1
      have hn2 := (MB.out HM.out).2.1
      have hf1 := HF.out.1
      have hf2 := HF.out.2
      go_wp2_with fail
      all_goals
        go_ret
        refine ⟨?_, O4.out.alloc _⟩
      all_goals
        first
        | (rw [CR.out ⟨hb1, hb2, HM.out⟩ (by show f < 0 ∨ b < f + (c + l); omega)]; done)
        | (rw [CR.out ⟨hb1, hb2, HM.out⟩ (by show f < 0 ∨ b < f + (c + l); omega)]; rfl)
        | (rw [CO.out ⟨hb1, hb2, HM.out⟩ (by show ¬ (f < 0 ∨ b < f + (c + l)); omega)]; done)
        | (rw [CO.out ⟨hb1, hb2, HM.out⟩ (by show ¬ (f < 0 ∨ b < f + (c + l)); omega)]; rfl)
        | fail
end Go.Proofs.YtnhcgnmanonmaaaDoor
