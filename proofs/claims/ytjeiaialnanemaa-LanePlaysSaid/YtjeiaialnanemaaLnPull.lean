/- Lanes in memory: a ticket is pulled. -/
import Derived.Test.YtjeiaialnanemaaLnTurn
import Derived.Deep.RegionHeld3
namespace Go.Proofs.Ytjeiaialnanemaa
open Go.RowKit Go.Maps
set_option linter.unusedVariables false

def lpullTo (p : Nat) (M : Nat → Prop) (n room : Nat) (ss : List Sd) (x : Int) (w : World) (e : Ending) (w' : World) : Prop := e = .returned (.tuple #[.int .i64 (blockI ss x), .int .i64 (pullC ss x)]) ∧ LnTo w p M n room (pullS ss x) w'
theorem int_form11 {w : World} {v : Value} {l : List Int} (h : OwnsInts w 0 v l) : ∃ a n c, v = .slice a n c := by
  rcases h.2 with ⟨h0, _⟩ | ⟨g, cap, cur, hv, _⟩
  · exact ⟨none, 0, 0, h0⟩
  · exact ⟨_, _, _, hv⟩
theorem lpull_no {p r mb : Nat} {vs : List Value} {M : Nat → Prop} {n room : Nat} {ss : List Sd} (x : Int) (w : World) (h : LL w p r mb vs M n room ss) (hx : (Lit.int .i64 x).wf = true) (hk : hasK ss x = false) :
    Calls Try.prog 14 #[.pointer (some ⟨p, 0, none⟩), .int .i64 x] w (lpullTo p M n room ss x w) := by
  have PC := Lib.hid (show blockI ss x = 0 ∧ pullC ss x = 3 ∧ pullS ss x = ss from ⟨blockI_no hk, by unfold pullC; rw [tk_has, hk]; rfl, by
    have e := hk
    rw [← tk_has] at e
    unfold pullS
    cases q : tkAt ss x with
    | none => rfl
    | some k => rw [q] at e; cases e⟩)
  have H := Lib.hid (show Ln w p M n room ss from ⟨r, mb, vs, h⟩)
  have c2 : w.cell? ⟨p, 2, none⟩ = some (.map (some mb)) := by rw [h.row.cell]; rfl
  obtain ⟨D, hown, hr⟩ := h.md
  have hkey := keyOf_int_mk Try.underlying3 hx
  have OW := Lib.hid hown
  have q := hr.1 x
  rw [hk] at q
  clear h hk hown hr hx
  go_enter Try.func14, Try.ntmps14
  go_wp2_with (first
    | (at_lookup; refine wpList_lookup_own_ok_int _ rfl _ _ 53 rfl 3 3 .i64 lawI Try.underlying53 Try.underlying3 (zeroI _) mb _ D rfl OW.out _ _ rfl hkey ?_; intro c1 hat hwc)
    | go_in)
  go_ret2
  exact ⟨by rw [PC.out.1, PC.out.2.1]; rfl, by rw [PC.out.2.2]; exact H.out.to (Only.refl _ _)⟩

set_option maxRecDepth 100000 in
set_option maxHeartbeats 1000000 in
theorem lpull_yes {p r mb : Nat} {vs : List Value} {M : Nat → Prop} {n room : Nat} {ss : List Sd} (x : Int) (w : World) (h : LL w p r mb vs M n room ss) (hn : n ≤ 1000) (hl : ss.length ≤ 1000) (hx : (Lit.int .i64 x).wf = true) (hk : hasK ss x = true) :
    Calls Try.prog 14 #[.pointer (some ⟨p, 0, none⟩), .int .i64 x] w (lpullTo p M n room ss x w) := by
  have PC := Lib.hid (show pullC ss x = 0 ∧ pullS ss x = cutK ss x from ⟨by unfold pullC; rw [tk_has, hk]; rfl, pull_cut h.once x⟩)
  have hb : 0 ≤ blockI ss x ∧ blockI ss x < n := by
    obtain ⟨s, hs, rfl⟩ := hasK_iff.1 hk
    rw [blockI_of h.once hs]
    exact h.inb s hs
  have MEM := Lib.hid (lane_mem h.once hk)
  have OTH := Lib.hid (fun (i : Int) (hi : i ≠ blockI ss x) => (lane_cut ss x i).trans (out_not (lane_other h.once hi)))
  have CUT := Lib.hid (lane_cut ss x (blockI ss x))
  have NOD := Lib.hid (lane_nodup h.once (blockI ss x))
  have LLE := Lib.hid (Nat.le_trans (lane_le ss (blockI ss x)) hl)
  unfold lpullTo
  rw [PC.out.1, PC.out.2]
  have H := Lib.hid h
  have c2 : w.cell? ⟨p, 2, none⟩ = some (.map (some mb)) := by rw [h.row.cell]; rfl
  obtain ⟨D, hown, hr⟩ := h.md
  have hkey := keyOf_int_mk Try.underlying3 hx
  have OW := Lib.hid hown
  have q := hr.1 x
  rw [hk] at q
  have RD := Lib.hid (hr.look h.once x)
  have HR := Lib.hid hr
  obtain ⟨k, hbk⟩ : ∃ k : Nat, blockI ss x = k := ⟨(blockI ss x).toNat, by omega⟩
  rw [hbk] at MEM OTH CUT NOD LLE hb RD ⊢
  have hkn : k < n := by omega
  obtain ⟨v, hv⟩ : ∃ v, vs[k]? = some v := ⟨_, List.getElem?_eq_getElem (by rw [h.len]; exact hkn)⟩
  have HV := Lib.hid hv
  have NGV := Lib.hid (fun g (hg : v.ownBlock = some g) => h.gp hv hg)
  have lp := h.row.lt
  have lr := h.rows.lt
  have pr := h.pr.1
  have KS := Lib.hid (fun w' (o : Only (fun j => some j = v.ownBlock) w w') => (show w'.cell? ⟨p, 0, none⟩ = some (.slice (some ⟨r, 0, none⟩) n n) ∧ w'.cell? ⟨p, 2, none⟩ = some (.map (some mb)) ∧ w'.cell? ⟨r, k, none⟩ = some v ∧ w'.frozen? ⟨r, k, none⟩ = false from by
    have r1 := o.row h.row (fun e => (NGV.out p e.symm).1 rfl)
    have r2 := o.row h.rows (fun e => (NGV.out r e.symm).2.1 rfl)
    exact ⟨by rw [r1.cell]; rfl, by rw [r1.cell]; rfl, by rw [r2.cell]; simpa using hv, r2.frozen k⟩))
  have WITH := Lib.hid (with_any v _ x w.drew ((h.lanes k v hv).still (Only.refl none_ w).drew) NOD.out MEM.out LLE.out)
  have kn : (k : Int) < (n : Int) := by omega
  clear h hk hown hr hx hbk hv hb
  go_enter Try.func14, Try.ntmps14
  go_wp2_with (first
    | (at_lookup; refine wpList_lookup_own_ok_int _ rfl _ _ 53 rfl 3 3 .i64 lawI Try.underlying53 Try.underlying3 (zeroI _) mb _ D rfl OW.out _ _ rfl hkey ?_; intro c1 hat hwc)
    | go_in)
  have hc := RD.out _ hat
  subst hc
  clear hat hwc c2
  obtain ⟨g0, g2, g3, z2⟩ := KS.out _ (Only.refl _ w)
  obtain ⟨e0, e2, e3, z3⟩ := KS.out _ ((Only.refl _ w).drew)
  go_region_with (first
    | (go_at_call 30; (with_reducible refine (WITH.out).mono ?_); rintro e w5 ⟨v5, rfl, h5, a5, o5⟩; obtain ⟨b5, n5, k5, rfl⟩ := int_form11 h5; dsimp only
       have W5 := Lib.hid h5
       have A5 := Lib.hid a5
       have O5 := Lib.hid ((Only.refl _ w).drew.same o5)
       obtain ⟨y0, y2, y3, y4⟩ := KS.out _ O5.out
       have lp5 : p < w5.heap.size := Nat.lt_of_lt_of_le lp O5.out.size
       have lr5 : r < w5.heap.size := Nat.lt_of_lt_of_le lr O5.out.size
       clear h5 a5 o5)
    | fail)
  all_goals
    have O6 := Lib.hid ((Only.refl (fun j => j = r) w5).into rfl k (.slice b5 n5 k5))
    have OW6 := Lib.hid (owns_keep (owns_keep OW.out O5.out (fun e => (NGV.out mb e.symm).2.2 rfl)) O6.out (fun e => H.out.pr.2.2 e.symm))
    have c6 : (w5.setCell ⟨r, k, none⟩ (.slice b5 n5 k5)).cell? ⟨p, 2, none⟩ = some (.map (some mb)) := O6.out.cell y2 pr
    have K := Lib.hid (fun w7 (own2 : w7.ownsMap Try.prog 3 (plainElem Try.prog 3) mb ss.length (D.del (.int .i64 x))) (turn2 : (w5.setCell ⟨r, k, none⟩ (.slice b5 n5 k5)).mapTurned w7 mb) => H.out.turned (w7 := w7) (fs := cutK ss x) HV.out O5.out (by rw [CUT.out]; exact W5.out) (.inl A5.out) (only_turned turn2) (Md.of own2 (HR.out.del x) (H.out.once.cut x)) (fun i hi => OTH.out i hi) (H.out.once.cut x) (fun s hs => H.out.inb s (List.mem_filter.1 hs).1))
    generalize w5.setCell ⟨r, k, none⟩ (.slice b5 n5 k5) = w6 at *
    clear y0 y2 y3 y4 e0 e2 e3 z3 g0 g2 g3 z2 O6 W5 A5 O5
    go_wp2_with (first
      | (at_delete; refine wpList_delete_own _ rfl _ _ 53 3 rfl 3 lawI Try.underlying53 _ mb _ D rfl OW6.out _ _ rfl hkey ?_; intro w7 own2 turn2)
      | go_in)
    go_ret2
    exact ⟨rfl, K.out w7 own2 turn2⟩
theorem lpull_any {p : Nat} {M : Nat → Prop} {n room : Nat} {ss : List Sd} (x : Int) (w : World) (h : Ln w p M n room ss) (hn : n ≤ 1000) (hl : ss.length ≤ 1000) (hx : (Lit.int .i64 x).wf = true) :
    Calls Try.prog 14 #[.pointer (some ⟨p, 0, none⟩), .int .i64 x] w (lpullTo p M n room ss x w) := by
  obtain ⟨r, mb, vs, h⟩ := h
  cases hk : hasK ss x with
  | true => exact lpull_yes x w h hn hl hx hk
  | false => exact lpull_no x w h hx hk
end Go.Proofs.Ytjeiaialnanemaa
