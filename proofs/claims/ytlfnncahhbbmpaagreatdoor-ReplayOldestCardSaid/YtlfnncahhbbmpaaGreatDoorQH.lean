/- Texts of the layers below, one behind the other. -/
import Derived.Test.YtlfnncahhbbmpaaGreatDoorQA
import Derived.Deep.QuietTactic
import Derived.Lib.Walk
import Derived.Laws.Rows
import Derived.Laws.Tables
import Derived.Deep.WholeRow
import Derived.Handy
import Derived.Test.YtlfnncahhbbmpaaGreatDoorRows
import Derived.ProofKit
import Derived.OpenShut
import Derived.LaidMore
import Derived.Lay
import Derived.Lib.LaidU8
import Derived.Stop.Joined
namespace Go.Proofs.YtlfnncahhbbmpaaGreatDoor
open Go.RowKit
set_option linter.unusedVariables false
set_option maxRecDepth 100000

/-- between two bounds -/
def inB (l g n : Int) : Bool := decide (l ≤ n ∧ n ≤ g)
theorem ahas_any (l g n : Int) (w : World) :
    Calls Tryz.prog 38 #[.agg #[.int .i64 l, .int .i64 g], .int .i64 n] w fun e w' => e = .returned (.bool (inB l g n)) ∧ Only none_ w w' := by
  by_cases h1 : l ≤ n
  · by_cases h2 : n ≤ g
    · go_enter Tryz.func38, Tryz.ntmps38
      go_wp2
      go_ret
      refine ⟨by rw [show inB l g n = true from decide_eq_true (by omega)]; rfl, ?_⟩
      exact ((Only.refl none_ w).alloc _)
    · go_enter Tryz.func38, Tryz.ntmps38
      go_wp2
      go_ret
      refine ⟨by rw [show inB l g n = false from decide_eq_false (by omega)]; rfl, ?_⟩
      exact ((Only.refl none_ w).alloc _)
  · go_enter Tryz.func38, Tryz.ntmps38
    go_wp2
    go_ret
    refine ⟨by rw [show inB l g n = false from decide_eq_false (by omega)]; rfl, ?_⟩
    exact ((Only.refl none_ w).alloc _)

/-- the options, as numbers -/
structure Opt where
  (b0 b1 b2 b3 b4 b5 b6 b7 b8 b9 b10 b11 b12 b13 : Int)
  deriving DecidableEq
def Opt.cells (o : Opt) : Array Value := #[.int .i64 o.b0, .int .i64 o.b1, .int .i64 o.b2, .int .i64 o.b3, .int .i64 o.b4, .int .i64 o.b5, .int .i64 o.b6, .int .i64 o.b7, .int .i64 o.b8, .int .i64 o.b9, .int .i64 o.b10, .int .i64 o.b11, .int .i64 o.b12, .int .i64 o.b13]
def Opt.val (o : Opt) : Value := .agg #[.int .i64 o.b0, .int .i64 o.b1, .int .i64 o.b2, .int .i64 o.b3, .int .i64 o.b4, .int .i64 o.b5, .int .i64 o.b6, .int .i64 o.b7, .int .i64 o.b8, .int .i64 o.b9, .int .i64 o.b10, .int .i64 o.b11, .int .i64 o.b12, .int .i64 o.b13]

/-- a whole row, and one value beside it, as a call's answer -/
theorem results_row_tmpO {P : Program} {fn : Func} {p q : Tmp} {ty : TypeId} (h : fn.results = #[.cell p ty, .tmp q]) (tmps : Array Value) (w : World) (g : Nat) (t : TypeId) (cs : Array Value) (fr : Nat × Nat) (d : TypeDesc)
    (hp : tmps.getD p undef = .pointer (some ⟨g, 0, none⟩)) (hg : w.heap[g]? = some (.cells cs t fr))
    (hu : P.underlying ty = some d) (hd : (match d with | .struct _ | .array _ _ => true | _ => false) = true) (hi : (P.info? ty).map (·.size) = some cs.size) :
    (results fn tmps).run P w = .ok (.tuple #[.agg cs, tmps.getD q undef]) w := by
  have hp' : tmps[p]?.getD undef = .pointer (some ⟨g, 0, none⟩) := by simpa using hp
  simp [results, h, hp', asAddr, run_loadVar_row w g t ty cs fr d hg hu hd hi]
theorem info_opt : (Tryz.prog.info? 23).map (·.size) = some 14 := by kernel_rfl
theorem info_nums : (Tryz.prog.info? 88).map (·.size) = some 14 := by kernel_rfl
theorem results_nums {fn : Func} {p : Tmp} (h : fn.results = #[.cell p 88]) (tmps : Array Value) (w : World) (g : Nat) (o : Opt)
    (hp : tmps.getD p undef = .pointer (some ⟨g, 0, none⟩)) (hg : Row w g 88 o.cells) : (results fn tmps).run Tryz.prog w = .ok o.val w :=
  results_cell_row h tmps w g 88 _ (0, 0) _ hp hg Tryz.underlying88 rfl info_nums
theorem results_opt {fn : Func} {p : Tmp} (h : fn.results = #[.cell p 23]) (tmps : Array Value) (w : World) (g : Nat) (o : Opt)
    (hp : tmps.getD p undef = .pointer (some ⟨g, 0, none⟩)) (hg : Row w g 23 o.cells) : (results fn tmps).run Tryz.prog w = .ok o.val w :=
  results_cell_row h tmps w g 23 _ (0, 0) _ hp hg Tryz.underlying23 rfl info_opt
theorem results_opt2 {fn : Func} {p q : Tmp} (h : fn.results = #[.cell p 23, .tmp q]) (tmps : Array Value) (w : World) (g : Nat) (o : Opt)
    (hp : tmps.getD p undef = .pointer (some ⟨g, 0, none⟩)) (hg : Row w g 23 o.cells) : (results fn tmps).run Tryz.prog w = .ok (.tuple #[o.val, tmps.getD q undef]) w :=
  results_row_tmpO h tmps w g 23 _ (0, 0) _ hp hg Tryz.underlying23 rfl info_opt
theorem numbers_any (o : Opt) (w : World) :
    Calls Tryz.prog 37 #[o.val] w fun e w' => e = .returned o.val ∧ Only none_ w w' := by
  obtain ⟨b0, b1, b2, b3, b4, b5, b6, b7, b8, b9, b10, b11, b12, b13⟩ := o
  unfold Opt.val
  dsimp only
  go_enter Tryz.func37, Tryz.ntmps37
  go_wp2
  refine bodyPost_ret (results_nums rfl _ _ (w.heap.size + 1) ⟨b0, b1, b2, b3, b4, b5, b6, b7, b8, b9, b10, b11, b12, b13⟩ rfl ?_) rfl ⟨rfl, ?_⟩
  · have r := Row.fresh (w.alloc (.cells #[.int .i64 b0, .int .i64 b1, .int .i64 b2, .int .i64 b3, .int .i64 b4, .int .i64 b5, .int .i64 b6, .int .i64 b7, .int .i64 b8, .int .i64 b9, .int .i64 b10, .int .i64 b11, .int .i64 b12, .int .i64 b13] 23)) 88 (Opt.cells ⟨b0, b1, b2, b3, b4, b5, b6, b7, b8, b9, b10, b11, b12, b13⟩)
    rw [World.size_alloc] at r
    exact r
  · exact (((Only.refl none_ w).alloc _).alloc _)
end Go.Proofs.YtlfnncahhbbmpaaGreatDoor

namespace Go.Proofs.YtlfnncahhbbmpaaGreatDoor
open Go.RowKit
set_option linter.unusedVariables false
set_option maxRecDepth 100000

/-- the least and the greatest of option i -/
def lows : List Int := [1, 1, 1, 1, 0, 1, 1, 1, 1, 1, 1, 1, 1, 1]
def tops : List Int := [256, 64, 64, 64, 64, 16, 8, 8, 16, 64, 16, 32, 64, 16]
/-- the table of bounds lies in package ask's variable -/
structure Bd (w : World) : Prop where
  lo : ∀ i l, lows[i]? = some l → w.cell? ⟨0, i * 2, none⟩ = some (.int .i64 l)
  hi : ∀ i g, tops[i]? = some g → w.cell? ⟨0, i * 2 + 1, none⟩ = some (.int .i64 g)
theorem Bd.still {w w' : World} (h : Bd w) (o : Only none_ w w') : Bd w' :=
  ⟨fun i l e => o.cell (h.lo i l e) (fun s => s), fun i g e => o.cell (h.hi i g e) (fun s => s)⟩
def Opt.list (o : Opt) : List Int := [o.b0, o.b1, o.b2, o.b3, o.b4, o.b5, o.b6, o.b7, o.b8, o.b9, o.b10, o.b11, o.b12, o.b13]
/-- may options be? -/
def Opt.May (o : Opt) : Prop := (∀ (i : Nat) (l g x : Int), lows[i]? = some l → tops[i]? = some g → o.list[i]? = some x → l ≤ x ∧ x ≤ g) ∧ o.b2 ≤ o.b1
theorem opt_index (o : Opt) (w : World) : ∀ (i : Nat) (x : Int), o.list[i]? = some x → (Instr.index 88 o.val (.int .i64 (i : Int))).run Tryz.prog w = .ok (.int .i64 x) w
  | 0, x, h => by obtain rfl := Option.some.inj h; kernel_rfl
  | 1, x, h => by obtain rfl := Option.some.inj h; kernel_rfl
  | 2, x, h => by obtain rfl := Option.some.inj h; kernel_rfl
  | 3, x, h => by obtain rfl := Option.some.inj h; kernel_rfl
  | 4, x, h => by obtain rfl := Option.some.inj h; kernel_rfl
  | 5, x, h => by obtain rfl := Option.some.inj h; kernel_rfl
  | 6, x, h => by obtain rfl := Option.some.inj h; kernel_rfl
  | 7, x, h => by obtain rfl := Option.some.inj h; kernel_rfl
  | 8, x, h => by obtain rfl := Option.some.inj h; kernel_rfl
  | 9, x, h => by obtain rfl := Option.some.inj h; kernel_rfl
  | 10, x, h => by obtain rfl := Option.some.inj h; kernel_rfl
  | 11, x, h => by obtain rfl := Option.some.inj h; kernel_rfl
  | 12, x, h => by obtain rfl := Option.some.inj h; kernel_rfl
  | 13, x, h => by obtain rfl := Option.some.inj h; kernel_rfl
  | i + 14, x, h => by simp [Opt.list] at h
theorem options_any (o : Opt) (c : Int) (w : World) (hb : Bd w) (hc : (o.May ∧ c = 0) ∨ (¬ o.May ∧ c = 1)) :
    Calls Tryz.prog 22 #[o.val] w fun e w' => e = .returned (.int .i64 c) ∧ Only none_ w w' := by
  obtain ⟨b0, b1, b2, b3, b4, b5, b6, b7, b8, b9, b10, b11, b12, b13⟩ := o
  have HB := Lib.hid hb
  clear hb
  have HC := Lib.hid hc
  clear hc
  have IX := Lib.hid (opt_index ⟨b0, b1, b2, b3, b4, b5, b6, b7, b8, b9, b10, b11, b12, b13⟩)
  have NA := Lib.hid (numbers_any ⟨b0, b1, b2, b3, b4, b5, b6, b7, b8, b9, b10, b11, b12, b13⟩)
  unfold Opt.val at *
  dsimp only at *
  have RB := Lib.hid (Row.fresh w 23 (Opt.cells ⟨b0, b1, b2, b3, b4, b5, b6, b7, b8, b9, b10, b11, b12, b13⟩))
  have OB := Lib.hid ((Only.refl none_ w).alloc (.cells (Opt.cells ⟨b0, b1, b2, b3, b4, b5, b6, b7, b8, b9, b10, b11, b12, b13⟩) 23))
  go_enter Tryz.func22, Tryz.ntmps22
  go_wp2_with fail
  (with_reducible refine (NA.out _).mono ?_)
  rintro e w2 ⟨rfl, o⟩
  have R2 := Lib.hid (o.still RB.out)
  have O2 := Lib.hid (OB.out.same o)
  have B2 := Lib.hid (HB.out.still O2.out)
  clear o RB OB
  go_wp2_with fail
  go_loopw [7] (fun i wr => ∃ k : Nat, k ≤ 14 ∧ i = .int .i64 k ∧ (∀ (j : Nat) (l g x : Int), j < k → lows[j]? = some l → tops[j]? = some g → (Opt.list ⟨b0, b1, b2, b3, b4, b5, b6, b7, b8, b9, b10, b11, b12, b13⟩)[j]? = some x → l ≤ x ∧ x ≤ g) ∧ Only none_ w2 wr) (fun i _ => 14 - (intOf i).toNat)
  case atStart => exact ⟨0, Nat.zero_le _, rfl, fun j l g x h => absurd h (Nat.not_lt_zero j), Only.refl _ _⟩
  case round =>
    obtain ⟨k, hk, rfl, hv, ho⟩ := hrel
    have V := Lib.hid hv
    have O := Lib.hid ho
    have R := Lib.hid (ho.still R2.out)
    have B := Lib.hid (B2.out.still ho)
    clear hv ho
    by_cases hlt : k < 14
    · have t0 : decide ((k : Int) < 14) = true := decide_eq_true (by omega)
      obtain ⟨x, hx⟩ : ∃ x, (Opt.list ⟨b0, b1, b2, b3, b4, b5, b6, b7, b8, b9, b10, b11, b12, b13⟩)[k]? = some x := ⟨_, List.getElem?_eq_getElem (show k < 14 from hlt)⟩
      obtain ⟨l, hl⟩ : ∃ l, lows[k]? = some l := ⟨_, List.getElem?_eq_getElem (show k < 14 from hlt)⟩
      obtain ⟨g, hg⟩ : ∃ l, tops[k]? = some l := ⟨_, List.getElem?_eq_getElem (show k < 14 from hlt)⟩
      have ix := IX.out wr k x hx
      have c0 := B.out.lo k l hl
      have c1 := B.out.hi k g hg
      have HX := Lib.hid hx
      have HL := Lib.hid hl
      have HG := Lib.hid hg
      clear hx hl hg
      go_wp2_with fail
      (with_reducible refine (ahas_any _ _ _ _).mono ?_)
      rintro e w3 ⟨rfl, o⟩
      have O3 := Lib.hid (O.out.same o)
      clear o ix c0 c1
      cases q : inB l g x with
      | true =>
        have hq : l ≤ x ∧ x ≤ g := of_decide_eq_true q
        have HQ := Lib.hid hq
        clear q hq
        go_wp2_with fail
        go_roundw
        case rel =>
          refine ⟨k + 1, hlt, by go_num, fun j l' g' x' hj h1 h2 h3 => ?_, O3.out⟩
          rcases Nat.lt_or_ge j k with q | q
          · exact V.out j l' g' x' q h1 h2 h3
          · obtain rfl : j = k := by omega
            obtain rfl := Option.some.inj (HL.out.symm.trans h1)
            obtain rfl := Option.some.inj (HG.out.symm.trans h2)
            obtain rfl := Option.some.inj (HX.out.symm.trans h3)
            exact HQ.out
        case measure => simp [intOf]; omega
      | false =>
        have hq : ¬ (l ≤ x ∧ x ≤ g) := of_decide_eq_false q
        have NM := Lib.hid (fun h : Opt.May ⟨b0, b1, b2, b3, b4, b5, b6, b7, b8, b9, b10, b11, b12, b13⟩ => hq (h.1 k l g x HL.out HG.out HX.out))
        clear q hq
        go_wp2_with fail
        go_ret
        rcases HC.out with h | h
        · exact absurd h.1 NM.out
        · rw [h.2]
          exact ⟨rfl, O2.out.same O3.out⟩
    · obtain rfl : k = 14 := by omega
      have c1 : wr.cell? ⟨w.heap.size, 1, none⟩ = some (.int .i64 b1) := (R.out.cell 1).trans rfl
      have c2 : wr.cell? ⟨w.heap.size, 2, none⟩ = some (.int .i64 b2) := (R.out.cell 2).trans rfl
      by_cases q : b2 ≤ b1
      · have HM := Lib.hid (show Opt.May ⟨b0, b1, b2, b3, b4, b5, b6, b7, b8, b9, b10, b11, b12, b13⟩ from ⟨fun i l g x h1 h2 h3 => V.out i l g x (lt_of_get h1) h1 h2 h3, q⟩)
        go_wp2_with fail
        go_ret
        rcases HC.out with h | h
        · rw [h.2]
          exact ⟨rfl, O2.out.same O.out⟩
        · exact absurd HM.out h.1
      · have HM := Lib.hid (fun h : Opt.May ⟨b0, b1, b2, b3, b4, b5, b6, b7, b8, b9, b10, b11, b12, b13⟩ => q h.2)
        go_wp2_with fail
        go_ret
        rcases HC.out with h | h
        · exact absurd h.1 HM.out
        · rw [h.2]
          exact ⟨rfl, O2.out.same O.out⟩
end Go.Proofs.YtlfnncahhbbmpaaGreatDoor

namespace Go.Proofs.YtlfnncahhbbmpaaGreatDoor
open Go.RowKit
set_option linter.unusedVariables false
set_option maxRecDepth 100000

def Opt.MayC (o : Opt) : Prop :=
  (1 ≤ o.b0 ∧ o.b0 ≤ 256 ∧ 1 ≤ o.b1 ∧ o.b1 ≤ 64 ∧ 1 ≤ o.b2 ∧ o.b2 ≤ o.b1) ∧ (1 ≤ o.b3 ∧ o.b3 ≤ 64 ∧ 0 ≤ o.b4 ∧ o.b4 ≤ 64 ∧ 1 ≤ o.b5 ∧ o.b5 ≤ 16 ∧ 1 ≤ o.b6 ∧ o.b6 ≤ 8) ∧
  (1 ≤ o.b7 ∧ o.b7 ≤ 8 ∧ 1 ≤ o.b8 ∧ o.b8 ≤ 16 ∧ 1 ≤ o.b9 ∧ o.b9 ≤ 64) ∧ (1 ≤ o.b10 ∧ o.b10 ≤ 16 ∧ 1 ≤ o.b11 ∧ o.b11 ≤ 32 ∧ 1 ≤ o.b12 ∧ o.b12 ≤ 64 ∧ 1 ≤ o.b13 ∧ o.b13 ≤ 16)
instance (o : Opt) : Decidable o.MayC := by unfold Opt.MayC; infer_instance
def Opt.mayB (o : Opt) : Bool := decide o.MayC
theorem may_iff (o : Opt) : o.May ↔ o.MayC := by
  constructor
  · rintro ⟨h, h2⟩
    have q0 := h 0 1 256 o.b0 rfl rfl rfl
    have q1 := h 1 1 64 o.b1 rfl rfl rfl
    have q2 := h 2 1 64 o.b2 rfl rfl rfl
    have q3 := h 3 1 64 o.b3 rfl rfl rfl
    have q4 := h 4 0 64 o.b4 rfl rfl rfl
    have q5 := h 5 1 16 o.b5 rfl rfl rfl
    have q6 := h 6 1 8 o.b6 rfl rfl rfl
    have q7 := h 7 1 8 o.b7 rfl rfl rfl
    have q8 := h 8 1 16 o.b8 rfl rfl rfl
    have q9 := h 9 1 64 o.b9 rfl rfl rfl
    have q10 := h 10 1 16 o.b10 rfl rfl rfl
    have q11 := h 11 1 32 o.b11 rfl rfl rfl
    have q12 := h 12 1 64 o.b12 rfl rfl rfl
    have q13 := h 13 1 16 o.b13 rfl rfl rfl
    exact ⟨⟨q0.1, q0.2, q1.1, q1.2, q2.1, h2⟩, ⟨q3.1, q3.2, q4.1, q4.2, q5.1, q5.2, q6.1, q6.2⟩, ⟨q7.1, q7.2, q8.1, q8.2, q9.1, q9.2⟩, q10.1, q10.2, q11.1, q11.2, q12.1, q12.2, q13.1, q13.2⟩
  · rintro ⟨⟨p0, p0', p1, p1', p2, p2'⟩, ⟨p3, p3', p4, p4', p5, p5', p6, p6'⟩, ⟨p7, p7', p8, p8', p9, p9'⟩, p10, p10', p11, p11', p12, p12', p13, p13'⟩
    refine ⟨fun i l g x hl hg hx => ?_, p2'⟩
    match i, hl, hg, hx with
    | 0, hl, hg, hx => (obtain rfl := Option.some.inj hl; obtain rfl := Option.some.inj hg; obtain rfl := Option.some.inj hx; exact ⟨p0, p0'⟩)
    | 1, hl, hg, hx => (obtain rfl := Option.some.inj hl; obtain rfl := Option.some.inj hg; obtain rfl := Option.some.inj hx; exact ⟨p1, p1'⟩)
    | 2, hl, hg, hx => (obtain rfl := Option.some.inj hl; obtain rfl := Option.some.inj hg; obtain rfl := Option.some.inj hx; exact ⟨p2, by omega⟩)
    | 3, hl, hg, hx => (obtain rfl := Option.some.inj hl; obtain rfl := Option.some.inj hg; obtain rfl := Option.some.inj hx; exact ⟨p3, p3'⟩)
    | 4, hl, hg, hx => (obtain rfl := Option.some.inj hl; obtain rfl := Option.some.inj hg; obtain rfl := Option.some.inj hx; exact ⟨p4, p4'⟩)
    | 5, hl, hg, hx => (obtain rfl := Option.some.inj hl; obtain rfl := Option.some.inj hg; obtain rfl := Option.some.inj hx; exact ⟨p5, p5'⟩)
    | 6, hl, hg, hx => (obtain rfl := Option.some.inj hl; obtain rfl := Option.some.inj hg; obtain rfl := Option.some.inj hx; exact ⟨p6, p6'⟩)
    | 7, hl, hg, hx => (obtain rfl := Option.some.inj hl; obtain rfl := Option.some.inj hg; obtain rfl := Option.some.inj hx; exact ⟨p7, p7'⟩)
    | 8, hl, hg, hx => (obtain rfl := Option.some.inj hl; obtain rfl := Option.some.inj hg; obtain rfl := Option.some.inj hx; exact ⟨p8, p8'⟩)
    | 9, hl, hg, hx => (obtain rfl := Option.some.inj hl; obtain rfl := Option.some.inj hg; obtain rfl := Option.some.inj hx; exact ⟨p9, p9'⟩)
    | 10, hl, hg, hx => (obtain rfl := Option.some.inj hl; obtain rfl := Option.some.inj hg; obtain rfl := Option.some.inj hx; exact ⟨p10, p10'⟩)
    | 11, hl, hg, hx => (obtain rfl := Option.some.inj hl; obtain rfl := Option.some.inj hg; obtain rfl := Option.some.inj hx; exact ⟨p11, p11'⟩)
    | 12, hl, hg, hx => (obtain rfl := Option.some.inj hl; obtain rfl := Option.some.inj hg; obtain rfl := Option.some.inj hx; exact ⟨p12, p12'⟩)
    | 13, hl, hg, hx => (obtain rfl := Option.some.inj hl; obtain rfl := Option.some.inj hg; obtain rfl := Option.some.inj hx; exact ⟨p13, p13'⟩)
    | i + 14, hl, hg, hx => simp [lows] at hl
theorem opt_may (o : Opt) (w : World) (hb : Bd w) : Calls Tryz.prog 22 #[o.val] w fun e w' => e = .returned (.int .i64 (if o.mayB = true then 0 else 1)) ∧ Only none_ w w' := by
  refine options_any o _ w hb ?_
  by_cases h : o.MayC
  · exact .inl ⟨(may_iff o).2 h, by rw [show o.mayB = true from decide_eq_true h]; rfl⟩
  · exact .inr ⟨fun k => h ((may_iff o).1 k), by rw [show o.mayB = false from decide_eq_false h]; rfl⟩

set_option maxHeartbeats 4000000 in
/-- the document's own -/
theorem ropt_may (o : Opt) (w : World) : Calls Tryz.prog 10 #[o.val] w fun e w' => e = .returned (.bool o.mayB) ∧ Only none_ w w' := by
  obtain ⟨b0, b1, b2, b3, b4, b5, b6, b7, b8, b9, b10, b11, b12, b13⟩ := o
  have HT := Lib.hid (fun h => show Opt.mayB ⟨b0, b1, b2, b3, b4, b5, b6, b7, b8, b9, b10, b11, b12, b13⟩ = true from decide_eq_true h)
  have HF := Lib.hid (fun h => show Opt.mayB ⟨b0, b1, b2, b3, b4, b5, b6, b7, b8, b9, b10, b11, b12, b13⟩ = false from decide_eq_false h)
  unfold Opt.val
  dsimp only
  generalize Opt.mayB ⟨b0, b1, b2, b3, b4, b5, b6, b7, b8, b9, b10, b11, b12, b13⟩ = m at *
  go_enter Tryz.func10, Tryz.ntmps10
  go_wp2_with fail
  all_goals
    go_ret
    refine ⟨?_, (Only.refl none_ w).alloc _⟩
  all_goals
    first
      | (rw [HF.out (fun h => by simp only [Opt.MayC] at h; omega)]; done)
      | (rw [HF.out (fun h => by simp only [Opt.MayC] at h; omega)]; rfl)
      | (rw [HT.out (by simp only [Opt.MayC]; omega)]; done)
      | (rw [HT.out (by simp only [Opt.MayC]; omega)]; rfl)
      | (by_cases hq : b13 ≤ 16
         · rw [HT.out (by simp only [Opt.MayC]; omega)]
           exact congrArg (fun b => Ending.returned (.bool b)) (decide_eq_true hq)
         · rw [HF.out (fun h => by simp only [Opt.MayC] at h; omega)]
           exact congrArg (fun b => Ending.returned (.bool b)) (decide_eq_false hq))
      | fail
end Go.Proofs.YtlfnncahhbbmpaaGreatDoor

namespace Go.Proofs.YtlfnncahhbbmpaaGreatDoor
open Go.RowKit
set_option linter.unusedVariables false
set_option maxRecDepth 100000

/-- a whole row into its block -/
theorem Row.wholeO {w : World} {g : Nat} {t : TypeId} {cs : Array Value} (h : Row w g t cs) (ds : Array Value) : Row (w.setRow g ds) g t ds := setRow_heap w g cs ds t (0, 0) h
theorem Only.wholeO {S : Nat → Prop} {a w : World} (h : Only S a w) {g : Nat} (hg : g < a.heap.size → S g) (cs : Array Value) : Only S a (w.setRow g cs) :=
  h.trans (S' := fun k => k = g) ⟨rfl, rfl, rfl, by simp, fun k _ hn => setRow_other _ _ _ _ hn⟩ (fun i hi s => by subst s; exact hg hi)
def usual (b : Int) : Opt := ⟨b, 8, 2, 16, 8, 4, 4, 3, 8, 32, 4, 8, 16, 4⟩
def nought : Opt := ⟨0, 0, 0, 0, 0, 0, 0, 0, 0, 0, 0, 0, 0, 0⟩
theorem usual_may (b : Int) (h1 : 1 ≤ b) (h2 : b ≤ 256) : (usual b).mayB = true := decide_eq_true (by simp only [usual, Opt.MayC]; omega)
theorem usual_not (b : Int) (h : b < 1 ∨ 256 < b) : (usual b).mayB = false := decide_eq_false (by simp only [usual, Opt.MayC]; omega)
theorem rusual_any (b : Int) (w : World) : Calls Tryz.prog 20 #[.int .i64 b] w fun e w' => e = .returned (usual b).val ∧ Only none_ w w' := by
  go_enter Tryz.func20, Tryz.ntmps20
  go_wp2
  exact bodyPost_ret (results_opt rfl _ _ w.heap.size (usual b) rfl (Row.fresh w 23 (usual b).cells)) rfl ⟨rfl, (Only.refl none_ w).alloc _⟩
end Go.Proofs.YtlfnncahhbbmpaaGreatDoor

namespace Go.Proofs.YtlfnncahhbbmpaaGreatDoor
open Go.ChangeShapes Go.WideShapes Go.ChangeAt Go.RowKit Go.Lib
set_option linter.unusedVariables false
set_option maxRecDepth 100000

def laidB : List (String × DataW Unit) := [("forerunner/ask.bounds", Rows.laid_forerunner_ask_bounds)]
theorem bounds_told : Rows.laid_forerunner_ask_bounds = .agg ((lows.zip tops).map fun q => .agg ([q.1, q.2].map fun z => (.lit (.int .i64 z) : DataW Unit))) := rfl
theorem bd_of {W : World} (h : laidMetH Tryz.prog laidB W) : Bd W := by
  rw [MakeChecks.laidMetH_plain _ _ _ (by kernel_rfl)] at h
  obtain ⟨ps, ⟨g, t, cs, fuel, p, q, hg, ht, hv, hd, _, _⟩, _, _⟩ := h
  obtain rfl := Option.some.inj ((show Tryz.prog.globalNamed "forerunner/ask.bounds" = some 0 by kernel_rfl).symm.trans hg)
  obtain rfl := Option.some.inj ((show (Tryz.prog.globals[0]?).map (·.type) = some 92 by kernel_rfl).symm.trans ht)
  rw [bounds_told] at hd
  have c46 : Tryz.prog.cellsOf 91 = 2 := by kernel_rfl
  have cI : Tryz.prog.cellsOf 3 = 1 := by kernel_rfl
  have both : ∀ (i : Nat) (l g : Int), lows[i]? = some l → tops[i]? = some g → W.cell? ⟨0, i * 2, none⟩ = some (.int .i64 l) ∧ W.cell? ⟨0, i * 2 + 1, none⟩ = some (.int .i64 g) := by
    intro i l g hl hg2
    have hi : i < 14 := lt_of_get hl
    obtain ⟨fuel', d, q, hdi, he⟩ := array_elem Tryz.underlying92 hd i hi
    have hz : (lows.zip tops)[i]? = some (l, g) := by
      rw [List.getElem?_zip_eq_some]
      exact ⟨hl, hg2⟩
    rw [List.getElem?_map, hz] at hdi
    obtain rfl := Option.some.inj hdi
    rw [c46] at he
    have hcs := ints_of_struct Tryz.underlying91 (fun j f hj => by
      match j, hj with
      | 0, hj => simp at hj; subst hj; exact ⟨Tryz.underlying3, rfl, cI⟩
      | 1, hj => simp at hj; subst hj; exact ⟨Tryz.underlying3, rfl, cI⟩
      | j + 2, hj => simp at hj) (by rw [c46]; rfl) he
    have e0 := congrArg (·[0]?) hcs
    have e1 := congrArg (·[1]?) hcs
    simp only [List.getElem?_take, List.getElem?_drop] at e0 e1
    constructor
    · rw [World.var?_cell hg hv (i * 2), ← Array.getElem?_toList]
      simpa using e0
    · rw [World.var?_cell hg hv (i * 2 + 1), ← Array.getElem?_toList]
      simpa using e1
  constructor
  · intro i l hl
    obtain ⟨g, hg2⟩ : ∃ g, tops[i]? = some g := ⟨_, List.getElem?_eq_getElem (show i < 14 from lt_of_get hl)⟩
    exact (both i l g hl hg2).1
  · intro i g hg2
    obtain ⟨l, hl⟩ : ∃ l, lows[i]? = some l := ⟨_, List.getElem?_eq_getElem (show i < 14 from lt_of_get hg2)⟩
    exact (both i l g hl hg2).2
theorem laid_met (os : Os) (args : Array Value) : laidMetH Tryz.prog laidB ((World.laidAll Tryz.prog os laidB).forCall (fun _ _ => 0) ⟨#[], args, []⟩).memory := by
  rw [MakeChecks.laidMetH_plain _ _ _ (by kernel_rfl)]
  exact laidMet_laidAll _ (by kernel_rfl) (by kernel_rfl)
theorem laid_shaped (os : Os) : (World.laidAll Tryz.prog os laidB).Shaped Tryz.prog := World.shaped_of_ZipB (by kernel_rfl) (by kernel_rfl)
end Go.Proofs.YtlfnncahhbbmpaaGreatDoor
