/- Rows of looks, opened; awake answers true. -/
import Derived.Test.YtpplhgnelbddbaaTpLook
import Derived.Test.YtpplhgnelbddbaaTpTell
import Derived.Test.YtpplhgnelbddbaaRtLook
import Derived.Test.YtpplhgnelbddbaaSame8
namespace Go.Proofs.Ytpplhgnelbddbaa
open Go.RowKit Go.ChangeShapes Go.WideShapes Go.Deep
set_option linter.unusedVariables false

structure Look1 where
  first : Int
  count : Int
def Look1.cells (a : Look1) : List Value := [.int .i64 a.first, .int .i64 a.count]
instance : Inhabited Look1 := ⟨⟨0, 0⟩⟩
theorem cellsLook : Try.prog.cellsOf 34 = 2 := by kernel_rfl

theorem open_looks {H : Type} {enc : TypeId × Value → H} {W : World} {fuel : Nat} {A : Option Addr} {len cap : Nat} {x : DataW H × List MemPlace} (h : DataW.trod enc Try.prog W 0 (fun _ => true) true fuel 22 [.slice A len cap] = some x) :
    len ≤ maxLen ∧ ∃ xs : List Look1, xs.length = len ∧ Holds W A 2 Look1.cells xs ∧ ∀ a ∈ xs, True := by
  refine open_rows (c := Look1.cells) (wf := fun _ => True) Try.underlying22 cellsLook (by decide) (fun _ => rfl) ?_ h
  intro n cs x hx
  obtain ⟨hl, m, hf⟩ := open_fields Try.underlying34 (by kernel_rfl) cellsLook hx
  obtain ⟨v0, y0, e0, t0⟩ := hf 0 _ rfl
  obtain ⟨v1, y1, e1, t1⟩ := hf 1 _ rfl
  obtain ⟨a0, q0, _, _⟩ := DataW.trod_int Try.underlying3 t0
  obtain ⟨a1, q1, _, _⟩ := DataW.trod_int Try.underlying3 t1
  simp only [List.cons.injEq, and_true] at q0 q1
  subst q0 q1
  refine ⟨⟨a0, a1⟩, ?_, trivial⟩
  apply List.ext_getElem?
  intro j
  match j with
  | 0 => exact e0
  | 1 => exact e1
  | j + 2 => rw [List.getElem?_eq_none (by rw [hl]; show 2 ≤ j + 2; omega), List.getElem?_eq_none (by show 2 ≤ j + 2; omega)]
theorem look_at {w w' : World} {A : Option Addr} {xs : List Look1} (h : Holds w A 2 Look1.cells xs) (hb : Below w.heap.size w w') {i : Nat} {a : Look1} (hi : xs[i]? = some a) :
    ∃ b o, A = some ⟨b, o, none⟩ ∧ b < w.heap.size ∧ w'.cell? ⟨b, o + i * 2, none⟩ = some (.int .i64 a.first) ∧ w'.cell? ⟨b, o + i * 2 + 1, none⟩ = some (.int .i64 a.count) := by
  obtain ⟨b, o, e, hlt, hc⟩ := h.at_ hb hi
  exact ⟨b, o, e, hlt, by rw [show o + i * 2 = o + (i * 2 + 0) from rfl]; exact hc 0 _ rfl, by rw [Nat.add_assoc]; exact hc 1 _ rfl⟩
theorem look_more {w : World} {sb so : Nat} {xs : List Look1} (h : Holds w (some ⟨sb, so, none⟩) 2 Look1.cells xs) {i : Nat} {a : Look1} (hi : xs[i]? = some a) :
    ∀ w', Below w.heap.size w w' → w'.cell? ⟨sb, so + i * 2, none⟩ = some (.int .i64 a.first) ∧ w'.cell? ⟨sb, so + i * 2 + 1, none⟩ = some (.int .i64 a.count) := by
  intro w' hb
  obtain ⟨b, o, e, hlt, c0, c1⟩ := look_at h hb hi
  injection e with e
  injection e with e1 e2
  subst e1 e2
  exact ⟨c0, c1⟩
theorem bd_u8 {a : Int} (h : (Lit.int .u8 a).wf = true) : 0 ≤ a ∧ a ≤ 255 := by
  simp only [Lit.wf, Bool.and_eq_true, decide_eq_true_eq] at h
  exact h
theorem size_of (a : Int) (h : 0 ≤ a) : ∃ N : Nat, 1 + a % 32 = (N : Int) ∧ 1 ≤ N ∧ N ≤ 32 := ⟨(1 + a % 32).toNat, by omega, by omega, by omega⟩
theorem life_of (a : Int) (h : 0 ≤ a) : ∃ N : Nat, 1 + a % 64 = (N : Int) ∧ 1 ≤ N ∧ N ≤ 64 := ⟨(1 + a % 64).toNat, by omega, by omega, by omega⟩

theorem Only.to_below8 {a b : World} (h : Only none_ a b) : Below a.heap.size a b := h.below (Nat.le_refl _) (fun _ _ s => s)
theorem below_on8 {w w1 w2 : World} (h : Below w.heap.size w w1) (o : Only none_ w1 w2) : Below w.heap.size w w2 := Only.below_to h o (Nat.le_refl _) (fun _ _ s => s)
theorem below_two {w w1 w2 : World} {p b : Nat} (h : Below w.heap.size w w1) (o : Only (two8 p b) w1 w2) (hp : w.heap.size ≤ p) (hb : w.heap.size ≤ b) : Below w.heap.size w w2 :=
  Only.below_to h o (Nat.le_refl _) (fun i hi e => by unfold two8 at e; omega)

theorem Holds.still8 {α : Type} {w w' : World} {A : Option Addr} {k : Nat} {c : α → List Value} {xs : List α} (h : Holds w A k c xs) (o : Only none_ w w') : Holds w' A k c xs := h.below o.to_below8
theorem same8_self (A B : Option Addr) (ca cb : Nat) (es : List En) (w : World) (ha : Holds w A 2 En.cells es) (hb : Holds w B 2 En.cells es) (le : es.length ≤ 32) :
    Calls Try.prog 12 #[.slice A es.length ca, .slice B es.length cb] w fun e w' => e = .returned (.bool true) ∧ Only none_ w w' := by
  have := same8_any A B ca cb es es w ha hb (by omega) (by omega)
  rw [show decide (es = es) = true by simp] at this
  exact this
theorem aw_a : lookB 2 9 [] 10 2 = false ∧ lookC 10 2 = 0 ∧ lookT 2 9 [] 10 2 = [⟨12, 0⟩] := by decide +kernel
theorem aw_b : lookB 2 9 [⟨12, 0⟩] 12 1 = true ∧ lookC 12 1 = 0 ∧ lookT 2 9 [⟨12, 0⟩] 12 1 = [] := by decide +kernel
theorem aw_c : lookB 2 9 [] (-1) 1 = false ∧ lookC (-1) 1 = 1 ∧ lookT 2 9 [] (-1) 1 = [] := by decide +kernel

section
variable (p b L : Nat) (w : World)
theorem k_new : Calls Try.prog 7 #[.int .i64 2, .int .i64 9] w (Makes8 2 9 w) := new8_yes 2 9 w (by decide) (by decide) (by decide) (by decide)
theorem k_no : Calls Try.prog 7 #[.int .i64 0, .int .i64 9] w fun e w' => e = .returned (.tuple #[.pointer none, .int .i64 1]) ∧ w = w' := new8_no 0 9 w (by omega)
theorem k_a (h : Tb w p b 0 2 9 []) : Calls Try.prog 10 #[.pointer (some ⟨p, 0, none⟩), .int .i64 10, .int .i64 2] w fun e w' => e = .returned (.tuple #[.bool false, .int .i64 0]) ∧ (∃ L', L' ≤ 1 ∧ Tb w' p b L' 2 9 [⟨12, 0⟩]) ∧ Only (two8 p b) w w' := by
  have := look_any p b 0 2 9 [] 10 2 w h (by decide)
  unfold Looks8 at this
  rw [aw_a.1, aw_a.2.1, aw_a.2.2] at this
  exact this.mono (fun e w' ⟨h1, ⟨L', _, h3, h4⟩, h5⟩ => ⟨h1, ⟨L', by omega, h4⟩, h5⟩)
theorem k_b (h : Tb w p b L 2 9 [⟨12, 0⟩]) (hL : L ≤ 1) : Calls Try.prog 10 #[.pointer (some ⟨p, 0, none⟩), .int .i64 12, .int .i64 1] w fun e w' => e = .returned (.tuple #[.bool true, .int .i64 0]) ∧ (∃ L', L' ≤ 2 ∧ Tb w' p b L' 2 9 []) ∧ Only (two8 p b) w w' := by
  have := look_any p b L 2 9 [⟨12, 0⟩] 12 1 w h (by omega)
  unfold Looks8 at this
  rw [aw_b.1, aw_b.2.1, aw_b.2.2] at this
  exact this.mono (fun e w' ⟨h1, ⟨L', _, h3, h4⟩, h5⟩ => ⟨h1, ⟨L', by omega, h4⟩, h5⟩)
theorem k_c (h : Tb w p b L 2 9 []) (hL : L ≤ 2) : Calls Try.prog 10 #[.pointer (some ⟨p, 0, none⟩), .int .i64 (-1), .int .i64 1] w fun e w' => e = .returned (.tuple #[.bool false, .int .i64 1]) ∧ (∃ L', L' ≤ 3 ∧ Tb w' p b L' 2 9 []) ∧ Only (two8 p b) w w' := by
  have := look_any p b L 2 9 [] (-1) 1 w h (by omega)
  unfold Looks8 at this
  rw [aw_c.1, aw_c.2.1, aw_c.2.2] at this
  exact this.mono (fun e w' ⟨h1, ⟨L', _, h3, h4⟩, h5⟩ => ⟨h1, ⟨L', by omega, h4⟩, h5⟩)
end
set_option maxHeartbeats 4000000 in
theorem awake_any (w : World) : Calls Try.prog 6 #[] w fun e w' => e = .returned (.bool true) ∧ Below w.heap.size w w' := by
  go_enter Try.func6, Try.ntmps6
  go_wp2_with fail
  (with_reducible refine (k_new _).mono ?_)
  rintro e w1 ⟨p, b, rfl, h, lp, lb, o⟩
  have H1 := Lib.hid h
  have B1 := Lib.hid (o.to_below8)
  clear h o
  go_wp2_with fail
  (with_reducible refine (k_no _).mono ?_)
  rintro e w' ⟨rfl, rfl⟩
  go_wp2_with fail
  (with_reducible refine (k_a p b _ H1.out).mono ?_)
  rintro e w2 ⟨rfl, ⟨L2, l2, h⟩, o⟩
  have H2 := Lib.hid h
  have B2 := Lib.hid (below_two B1.out o lp lb)
  clear h o H1 B1
  go_wp2_with fail
  (with_reducible refine (list_any p b L2 2 9 _ _ H2.out (by omega)).mono ?_)
  rintro e w3 ⟨A, cap, rfl, hh, nw, o⟩
  obtain ⟨gb, go, rfl, lg, hc⟩ := hh 0 ⟨12, 0⟩ rfl
  have ng : ¬ two8 p b gb := fun q => by have h1 := nw _ rfl; have h2 := H2.out.lt; unfold two8 at q; have h3 : w2.heap.size ≤ gb := h1; omega
  have NG := Lib.hid ng
  clear nw ng
  have c0 : w3.cell? ⟨gb, go, none⟩ = some (.int .i64 12) := hc 0 _ rfl
  have c1 : w3.cell? ⟨gb, go + 1, none⟩ = some (.int .i64 0) := hc 1 _ rfl
  have H3 := Lib.hid (H2.out.still o)
  have B3 := Lib.hid (below_on8 B2.out o)
  clear o hh hc H2 B2
  go_wp2_with fail
  (with_reducible refine (k_b p b L2 _ H3.out l2).mono ?_)
  rintro e w4 ⟨rfl, ⟨L4, l4, h⟩, o⟩
  have H4 := Lib.hid h
  have B4 := Lib.hid (below_two B3.out o lp lb)
  have d0 := o.cell c0 NG.out
  have d1 := o.cell c1 NG.out
  clear h o H3 B3 c0 c1
  go_wp2_with fail
  (with_reducible refine (k_c p b L4 _ H4.out l4).mono ?_)
  rintro e w5 ⟨rfl, ⟨L5, l5, h⟩, o⟩
  have H5 := Lib.hid h
  have B5 := Lib.hid (below_two B4.out o lp lb)
  have c0 := o.cell d0 NG.out
  have c1 := o.cell d1 NG.out
  have LS := Lib.hid (fun w' (oo : Only none_ w5 w') => list_any p b L5 2 9 [] w' (H5.out.still oo) (by omega))
  clear h o H4 B4 d0 d1
  go_wp2_with fail
  (with_reducible refine (LS.out _ (Only.refl none_ w5)).mono ?_)
  rintro e w6 ⟨A6, cap6, rfl, _, _, o⟩
  have B6 := Lib.hid (below_on8 B5.out o)
  clear o
  go_wp2_with fail
  go_ret
  exact ⟨rfl, B6.out⟩
end Go.Proofs.Ytpplhgnelbddbaa
