/- Lanes in memory: a ticket is pushed. -/
import Derived.Test.YtjeiaialnanemaaLnTurn
import Derived.Deep.RegionLaw
namespace Go.Proofs.Ytjeiaialnanemaa
open Go.RowKit Go.Maps
set_option linter.unusedVariables false

def lpushTo (p : Nat) (M : Nat → Prop) (n room : Nat) (ss : List Sd) (b x : Int) (w : World) (e : Ending) (w' : World) : Prop := e = .returned (.int .i64 (pushC n room ss b x)) ∧ LnTo w p M n room (pushS n room ss b x) w'
theorem int_form {w : World} {v : Value} {n : Nat} {xs : List Value} (h : w.ownsRow 0 3 1 v n xs) : ∃ a n c, v = .slice a n c := by
  rcases h.2 with ⟨h0, _⟩ | ⟨g, cap, cur, hv, _⟩
  · exact ⟨none, 0, 0, h0⟩
  · exact ⟨_, _, _, hv⟩
theorem lpush_arg {p r mb : Nat} {vs : List Value} {M : Nat → Prop} {n room : Nat} {ss : List Sd} (b x : Int) (w : World) (h : LL w p r mb vs M n room ss) (hin : ¬ (0 ≤ b ∧ b < n ∧ 1 ≤ x)) :
    Calls Try.prog 12 #[.pointer (some ⟨p, 0, none⟩), .int .i64 b, .int .i64 x] w (lpushTo p M n room ss b x w) := by
  have HAS := Lib.hid (lhas_any b w h)
  have PC := Lib.hid (show pushC n room ss b x = 1 from by unfold pushC; rw [if_neg hin])
  have PS := Lib.hid (show pushS n room ss b x = ss from by unfold pushS; rw [PC.out]; rfl)
  have H := Lib.hid (show Ln w p M n room ss from ⟨r, mb, vs, h⟩)
  by_cases hb : 0 ≤ b ∧ b < n
  · have E := Lib.hid (show decide (0 ≤ b ∧ b < n) = true from decide_eq_true hb)
    have d : decide (x < 1) = true := by simp; omega
    clear h hin hb
    go_enter Try.func12, Try.ntmps12
    go_wp2_with fail
    (with_reducible refine HAS.out.mono ?_)
    rintro e w' ⟨rfl, rfl⟩
    rw [E.out]
    go_wp2_with fail
    go_ret
    exact ⟨by rw [PC.out]; rfl, by rw [PS.out]; exact H.out.to (Only.refl _ _)⟩
  · have E := Lib.hid (show decide (0 ≤ b ∧ b < n) = false from decide_eq_false hb)
    clear h hin hb
    go_enter Try.func12, Try.ntmps12
    go_wp2_with fail
    (with_reducible refine HAS.out.mono ?_)
    rintro e w' ⟨rfl, rfl⟩
    rw [E.out]
    go_wp2_with fail
    go_ret
    exact ⟨by rw [PC.out]; rfl, by rw [PS.out]; exact H.out.to (Only.refl _ _)⟩
theorem lpush_exists {p r mb : Nat} {vs : List Value} {M : Nat → Prop} {n room : Nat} {ss : List Sd} (b x : Int) (w : World) (h : LL w p r mb vs M n room ss) (hin : 0 ≤ b ∧ b < n ∧ 1 ≤ x) (hx : (Lit.int .i64 x).wf = true) (hk : hasK ss x = true) :
    Calls Try.prog 12 #[.pointer (some ⟨p, 0, none⟩), .int .i64 b, .int .i64 x] w (lpushTo p M n room ss b x w) := by
  have HAS := Lib.hid (lhas_any b w h)
  rw [decide_eq_true (show 0 ≤ b ∧ b < (n : Int) by omega)] at HAS
  have PC := Lib.hid (show pushC n room ss b x = 4 from by unfold pushC; rw [if_pos hin, tk_has, hk, if_pos rfl])
  have PS := Lib.hid (show pushS n room ss b x = ss from by unfold pushS; rw [PC.out]; rfl)
  have H := Lib.hid (show Ln w p M n room ss from ⟨r, mb, vs, h⟩)
  have c2 : w.cell? ⟨p, 2, none⟩ = some (.map (some mb)) := by rw [h.row.cell]; rfl
  obtain ⟨D, hown, hr⟩ := h.md
  have hkey := keyOf_int_mk Try.underlying3 hx
  have OW := Lib.hid hown
  have q := hr.1 x
  rw [hk] at q
  have d : decide (x < 1) = false := by simp; omega
  clear h hin hk hown hr hx
  go_enter Try.func12, Try.ntmps12
  go_wp2_with fail
  (with_reducible refine HAS.out.mono ?_)
  rintro e w' ⟨rfl, rfl⟩
  go_wp2_with (first
    | (at_lookup; refine wpList_lookup_own_ok_int _ rfl _ _ 53 rfl 3 3 .i64 lawI Try.underlying53 Try.underlying3 (zeroI _) mb _ D rfl OW.out _ _ rfl hkey ?_; intro c1 hat hwc)
    | go_in)
  go_ret
  exact ⟨by rw [PC.out]; rfl, by rw [PS.out]; exact H.out.to (Only.refl _ _)⟩
set_option maxHeartbeats 1000000 in
theorem lpush_full {p r mb : Nat} {vs : List Value} {M : Nat → Prop} {n room : Nat} {ss : List Sd} (b x : Int) (w : World) (h : LL w p r mb vs M n room ss) (hin : 0 ≤ b ∧ b < n ∧ 1 ≤ x) (hx : (Lit.int .i64 x).wf = true) (hk : hasK ss x = false) (hr : ss.length = room) :
    Calls Try.prog 12 #[.pointer (some ⟨p, 0, none⟩), .int .i64 b, .int .i64 x] w (lpushTo p M n room ss b x w) := by
  have HAS := Lib.hid (lhas_any b w h)
  rw [decide_eq_true (show 0 ≤ b ∧ b < (n : Int) by omega)] at HAS
  have PC := Lib.hid (show pushC n room ss b x = 2 from by unfold pushC; rw [if_pos hin, tk_has, hk, if_neg (by decide), if_pos (by omega)])
  have PS := Lib.hid (show pushS n room ss b x = ss from by unfold pushS; rw [PC.out]; rfl)
  have H := Lib.hid (show Ln w p M n room ss from ⟨r, mb, vs, h⟩)
  have c2 : w.cell? ⟨p, 2, none⟩ = some (.map (some mb)) := by rw [h.row.cell]; rfl
  have c2' : w.drew.cell? ⟨p, 2, none⟩ = some (.map (some mb)) := c2
  have c1' : w.drew.cell? ⟨p, 1, none⟩ = some (.int .i64 room) := by show w.cell? _ = _; rw [h.row.cell]; rfl
  have LEN := (h.md.still (Only.refl none_ w).drew).len h.once
  have t : ((ss.length : Int) == (room : Int)) = true := by simp; omega
  obtain ⟨D, hown, hrd⟩ := h.md
  have hkey := keyOf_int_mk Try.underlying3 hx
  have OW := Lib.hid hown
  have q := hrd.1 x
  rw [hk] at q
  have d : decide (x < 1) = false := by simp; omega
  clear h hin hk hown hrd hx hr
  generalize ss.length = m at LEN t OW
  go_enter Try.func12, Try.ntmps12
  go_wp2_with fail
  (with_reducible refine HAS.out.mono ?_)
  rintro e w' ⟨rfl, rfl⟩
  go_wp2_with (first
    | (at_lookup; refine wpList_lookup_own_ok_int _ rfl _ _ 53 rfl 3 3 .i64 lawI Try.underlying53 Try.underlying3 (zeroI _) mb _ D rfl OW.out _ _ rfl hkey ?_; intro c1 hat hwc)
    | go_in)
  go_region
  all_goals
    go_wp2_with fail
    go_ret
    exact ⟨by rw [PC.out]; rfl, by rw [PS.out]; exact H.out.to (Only.refl _ _).drew⟩
end Go.Proofs.Ytjeiaialnanemaa
