/- Options of package ask, where the table of bounds is as the program's text lays it. No condition but what each says. -/
import Derived.Test.YtnhcgnmanonmaaaDoorAk
import Derived.Handy
namespace Go.Proofs.YtnhcgnmanonmaaaDoor
open Go.RowKit
set_option linter.unusedVariables false

/-- the least and the greatest of option i -/
def lows : List Int := [1, 1, 1, 1, 0, 1, 1, 1, 1, 1, 1, 1, 1, 1]
def tops : List Int := [256, 64, 64, 64, 64, 16, 8, 8, 16, 64, 16, 32, 64, 16]
/-- the table of bounds lies in package ask's variable -/
structure Bd (w : World) : Prop where
  lo : ∀ i l, lows[i]? = some l → w.cell? ⟨0, i * 2, none⟩ = some (.int .i64 l)
  hi : ∀ i g, tops[i]? = some g → w.cell? ⟨0, i * 2 + 1, none⟩ = some (.int .i64 g)
theorem Bd.still {w w' : World} (h : Bd w) (o : Only none_ w w') : Bd w' :=
  ⟨fun i l e => o.cell (h.lo i l e) (fun s => s), fun i g e => o.cell (h.hi i g e) (fun s => s)⟩
def Opt.list (o : Opt) : List Int := [o.b0, o.b1, o.b2, o.b3, o.b4, o.b5, o.b6, o.b7, o.b8, o.b9, o.b10, o.b11, o.b12, o.b13]
/-- may options be? -/
def Opt.May (o : Opt) : Prop := (∀ (i : Nat) (l g x : Int), lows[i]? = some l → tops[i]? = some g → o.list[i]? = some x → l ≤ x ∧ x ≤ g) ∧ o.b2 ≤ o.b1
theorem opt_index (o : Opt) (w : World) : ∀ (i : Nat) (x : Int), o.list[i]? = some x → (Instr.index 43 o.val (.int .i64 (i : Int))).run Tryd.prog w = .ok (.int .i64 x) w
  | 0, x, h => by obtain rfl := Option.some.inj h; kernel_rfl
  | 1, x, h => by obtain rfl := Option.some.inj h; kernel_rfl
  | 2, x, h => by obtain rfl := Option.some.inj h; kernel_rfl
  | 3, x, h => by obtain rfl := Option.some.inj h; kernel_rfl
  | 4, x, h => by obtain rfl := Option.some.inj h; kernel_rfl
  | 5, x, h => by obtain rfl := Option.some.inj h; kernel_rfl
  | 6, x, h => by obtain rfl := Option.some.inj h; kernel_rfl
  | 7, x, h => by obtain rfl := Option.some.inj h; kernel_rfl
  | 8, x, h => by obtain rfl := Option.some.inj h; kernel_rfl
  | 9, x, h => by obtain rfl := Option.some.inj h; kernel_rfl
  | 10, x, h => by obtain rfl := Option.some.inj h; kernel_rfl
  | 11, x, h => by obtain rfl := Option.some.inj h; kernel_rfl
  | 12, x, h => by obtain rfl := Option.some.inj h; kernel_rfl
  | 13, x, h => by obtain rfl := Option.some.inj h; kernel_rfl
  | i + 14, x, h => by simp [Opt.list] at h
theorem options_any (o : Opt) (c : Int) (w : World) (hb : Bd w) (hc : (o.May ∧ c = 0) ∨ (¬ o.May ∧ c = 1)) :
    Calls Tryd.prog 11 #[o.val] w fun e w' => e = .returned (.int .i64 c) ∧ Only none_ w w' := by
  obtain ⟨b0, b1, b2, b3, b4, b5, b6, b7, b8, b9, b10, b11, b12, b13⟩ := o
  have HB := Lib.hid hb
  clear hb
  have HC := Lib.hid hc
  clear hc
  have IX := Lib.hid (opt_index ⟨b0, b1, b2, b3, b4, b5, b6, b7, b8, b9, b10, b11, b12, b13⟩)
  have NA := Lib.hid (numbers_any ⟨b0, b1, b2, b3, b4, b5, b6, b7, b8, b9, b10, b11, b12, b13⟩)
  unfold Opt.val at *
  dsimp only at *
  have RB := Lib.hid (Row.fresh w 23 (Opt.cells ⟨b0, b1, b2, b3, b4, b5, b6, b7, b8, b9, b10, b11, b12, b13⟩))
  have OB := Lib.hid ((Only.refl none_ w).alloc (.cells (Opt.cells ⟨b0, b1, b2, b3, b4, b5, b6, b7, b8, b9, b10, b11, b12, b13⟩) 23))
  go_enter Tryd.func11, Tryd.ntmps11
  go_wp2_with fail
  (with_reducible refine (NA.out _).mono ?_)
  rintro e w2 ⟨rfl, o⟩
  have R2 := Lib.hid (o.still RB.out)
  have O2 := Lib.hid (OB.out.same o)
  have B2 := Lib.hid (HB.out.still O2.out)
  clear o RB OB
  go_wp2_with fail
  go_loopw [7] (fun i wr => ∃ k : Nat, k ≤ 14 ∧ i = .int .i64 k ∧ (∀ (j : Nat) (l g x : Int), j < k → lows[j]? = some l → tops[j]? = some g → (Opt.list ⟨b0, b1, b2, b3, b4, b5, b6, b7, b8, b9, b10, b11, b12, b13⟩)[j]? = some x → l ≤ x ∧ x ≤ g) ∧ Only none_ w2 wr) (fun i _ => 14 - (intOf i).toNat)
  case atStart => exact ⟨0, Nat.zero_le _, rfl, fun j l g x h => absurd h (Nat.not_lt_zero j), Only.refl _ _⟩
  case round =>
    obtain ⟨k, hk, rfl, hv, ho⟩ := hrel
    have V := Lib.hid hv
    have O := Lib.hid ho
    have R := Lib.hid (ho.still R2.out)
    have B := Lib.hid (B2.out.still ho)
    clear hv ho
    by_cases hlt : k < 14
    · have t0 : decide ((k : Int) < 14) = true := decide_eq_true (by omega)
      obtain ⟨x, hx⟩ : ∃ x, (Opt.list ⟨b0, b1, b2, b3, b4, b5, b6, b7, b8, b9, b10, b11, b12, b13⟩)[k]? = some x := ⟨_, List.getElem?_eq_getElem (show k < 14 from hlt)⟩
      obtain ⟨l, hl⟩ : ∃ l, lows[k]? = some l := ⟨_, List.getElem?_eq_getElem (show k < 14 from hlt)⟩
      obtain ⟨g, hg⟩ : ∃ l, tops[k]? = some l := ⟨_, List.getElem?_eq_getElem (show k < 14 from hlt)⟩
      have ix := IX.out wr k x hx
      have c0 := B.out.lo k l hl
      have c1 := B.out.hi k g hg
      have HX := Lib.hid hx
      have HL := Lib.hid hl
      have HG := Lib.hid hg
      clear hx hl hg
      go_wp2_with fail
      (with_reducible refine (has_any _ _ _ _).mono ?_)
      rintro e w3 ⟨rfl, o⟩
      have O3 := Lib.hid (O.out.same o)
      clear o ix c0 c1
      cases q : inB l g x with
      | true =>
        have hq : l ≤ x ∧ x ≤ g := of_decide_eq_true q
        have HQ := Lib.hid hq
        clear q hq
        go_wp2_with fail
        go_roundw
        case rel =>
          refine ⟨k + 1, hlt, by go_num, fun j l' g' x' hj h1 h2 h3 => ?_, O3.out⟩
          rcases Nat.lt_or_ge j k with q | q
          · exact V.out j l' g' x' q h1 h2 h3
          · obtain rfl : j = k := by omega
            obtain rfl := Option.some.inj (HL.out.symm.trans h1)
            obtain rfl := Option.some.inj (HG.out.symm.trans h2)
            obtain rfl := Option.some.inj (HX.out.symm.trans h3)
            exact HQ.out
        case measure => simp [intOf]; omega
      | false =>
        have hq : ¬ (l ≤ x ∧ x ≤ g) := of_decide_eq_false q
        have NM := Lib.hid (fun h : Opt.May ⟨b0, b1, b2, b3, b4, b5, b6, b7, b8, b9, b10, b11, b12, b13⟩ => hq (h.1 k l g x HL.out HG.out HX.out))
        clear q hq
        go_wp2_with fail
        go_ret
        rcases HC.out with h | h
        · exact absurd h.1 NM.out
        · rw [h.2]
          exact ⟨rfl, O2.out.same O3.out⟩
    · obtain rfl : k = 14 := by omega
      have c1 : wr.cell? ⟨w.heap.size, 1, none⟩ = some (.int .i64 b1) := (R.out.cell 1).trans rfl
      have c2 : wr.cell? ⟨w.heap.size, 2, none⟩ = some (.int .i64 b2) := (R.out.cell 2).trans rfl
      by_cases q : b2 ≤ b1
      · have HM := Lib.hid (show Opt.May ⟨b0, b1, b2, b3, b4, b5, b6, b7, b8, b9, b10, b11, b12, b13⟩ from ⟨fun i l g x h1 h2 h3 => V.out i l g x (lt_of_get h1) h1 h2 h3, q⟩)
        go_wp2_with fail
        go_ret
        rcases HC.out with h | h
        · rw [h.2]
          exact ⟨rfl, O2.out.same O.out⟩
        · exact absurd HM.out h.1
      · have HM := Lib.hid (fun h : Opt.May ⟨b0, b1, b2, b3, b4, b5, b6, b7, b8, b9, b10, b11, b12, b13⟩ => q h.2)
        go_wp2_with fail
        go_ret
        rcases HC.out with h | h
        · exact absurd h.1 HM.out
        · rw [h.2]
          exact ⟨rfl, O2.out.same O.out⟩
end Go.Proofs.YtnhcgnmanonmaaaDoor
