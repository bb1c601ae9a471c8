/- Lanes in memory: slices.Index, slices.Delete of one ticket, in place; a lane without one ticket. -/
import Derived.Test.YtjeiaialnanemaaLnList
import Derived.Test.YtjeiaialnanemaaRlPull
import Derived.Deep.RegionLaw
namespace Go.Proofs.Ytjeiaialnanemaa
open Go.RowKit Go.Maps
set_option linter.unusedVariables false

theorem Owns.row11 {α : Type} {w : World} {base : Nat} {e : TypeId} {k : Nat} {c : α → List Value} {n g cap : Nat} {xs : List α} (h : Owns w base e k c (.slice (some ⟨g, 0, none⟩) n cap) xs) :
    ∃ cur : Array Value, Row w g e cur ∧ base ≤ g ∧ n = xs.length ∧ n ≤ cap ∧ cap ≤ maxLen ∧ cur.size = cap * k ∧ cur.toList.take (n * k) = xs.flatMap c := by
  obtain ⟨h1, h2⟩ := h
  rcases h2 with ⟨h', _⟩ | ⟨g', cap', cur, h', hb, hg, h3, h4, h5, h6⟩
  · simp at h'
  · simp only [Value.slice.injEq, Option.some.injEq, Addr.mk.injEq, and_true] at h'
    obtain ⟨rfl, rfl, rfl⟩ := h'
    exact ⟨cur, hg, hb, rfl, h3, h4, h5, h6⟩
theorem Row.lays {t : TypeId} {g : Nat} : ∀ (vs : List Value) (o : Nat) (w : World) (cs : Array Value), Row w g t cs →
    ∃ cs', Row (w.setCells g o vs) g t cs' ∧ cs'.size = cs.size ∧ ∀ j, cs'[j]? = if o ≤ j ∧ j < o + vs.length ∧ j < cs.size then vs[j - o]? else cs[j]?
  | [], o, w, cs, h => ⟨cs, h, rfl, fun j => by rw [if_neg (by simp; omega)]⟩
  | v :: r, o, w, cs, h => by
    obtain ⟨cs', h1, h2, h3⟩ := Row.lays r (o + 1) _ _ (h.put o v)
    refine ⟨cs', h1, by rw [h2, Array.size_setIfInBounds], fun j => ?_⟩
    rw [h3, Array.size_setIfInBounds, List.length_cons]
    by_cases q : o + 1 ≤ j ∧ j < o + 1 + r.length ∧ j < cs.size
    · rw [if_pos q, if_pos (by omega), show j - o = (j - (o + 1)) + 1 by omega, List.getElem?_cons_succ]
    · rw [if_neg q, Array.getElem?_setIfInBounds]
      by_cases e : o = j
      · subst e
        rw [if_pos rfl]
        by_cases l : o < cs.size
        · rw [if_pos l, if_pos (by omega), Nat.sub_self, List.getElem?_cons_zero]
        · rw [if_neg l, if_neg (by omega), Array.getElem?_eq_none (by omega)]
      · rw [if_neg e, if_neg (by omega)]
theorem Only.lays {S : Nat → Prop} {g : Nat} (hg : S g) {a : World} : ∀ (vs : List Value) (o : Nat) (w : World), Only S a w → Only S a (w.setCells g o vs)
  | [], _, _, h => h
  | v :: r, o, w, h => Only.lays hg r (o + 1) _ (h.into hg o v)
theorem one_len (l : List Int) : (l.flatMap one).length = l.length := by rw [one_flat_len, Nat.mul_one]
theorem one_erase (l : List Int) (k : Nat) : (l.eraseIdx k).flatMap one = (l.flatMap one).take k ++ (l.drop (k + 1)).flatMap one := by
  rw [List.eraseIdx_eq_take_drop_succ, List.flatMap_append, flat_takeL one1, Nat.mul_one]
/-- one is taken out, and those behind it lie one place nearer -/
theorem Owns.out11 {w : World} {g cap k n : Nat} {ss : List Int} (h : OwnsInts w 0 (.slice (some ⟨g, 0, none⟩) n cap) ss) (hk : k < ss.length) (z : Value) :
    OwnsInts ((w.drew.setCells g k ((ss.drop (k + 1)).flatMap one)).setCells g (n - 1) [z]) 0 (.slice (some ⟨g, 0, none⟩) (n - 1) cap) (ss.eraseIdx k) := by
  obtain ⟨cur, r, hb, hn, h3, h4, h5, h6⟩ := Owns.row11 h
  rw [Nat.mul_one] at h5 h6
  obtain ⟨c1, r1, s1, e1⟩ := Row.lays ((ss.drop (k + 1)).flatMap one) k _ _ r.drew
  obtain ⟨c2, r2, s2, e2⟩ := Row.lays [z] (n - 1) _ _ r1
  have e : c2.toList.take (n - 1) = (ss.eraseIdx k).flatMap one := by
    apply List.ext_getElem?
    intro j
    rcases Nat.lt_or_ge j (n - 1) with q | q
    · rw [List.getElem?_take_of_lt q, Array.getElem?_toList, e2, if_neg (by omega), e1, one_len, List.length_drop, one_erase]
      have e6 : ∀ j, j < n → cur[j]? = (ss.flatMap one)[j]? := fun j hj => by
        rw [← h6, List.getElem?_take_of_lt hj, Array.getElem?_toList]
      by_cases a : j < k
      · rw [if_neg (by omega), List.getElem?_append_left (by rw [List.length_take, one_len]; omega), List.getElem?_take_of_lt a, e6 j (by omega)]
      · rw [if_pos ⟨by omega, by omega, by omega⟩, List.getElem?_append_right (by rw [List.length_take, one_len]; omega), List.length_take, one_len]
        congr 1
        omega
    · rw [List.getElem?_eq_none (by rw [List.length_take]; omega), List.getElem?_eq_none (by rw [one_len, List.length_eraseIdx, if_pos hk]; omega)]
  refine ⟨?_, .inr ⟨g, cap, c2, by rw [List.length_eraseIdx, if_pos hk, hn], hb, r2, by rw [List.length_eraseIdx, if_pos hk]; omega, h4, by rw [s2, s1, Nat.mul_one]; exact h5, ?_⟩⟩
  · rw [one_flat_len]
  · rw [List.length_eraseIdx, if_pos hk, ← hn, Nat.mul_one]; exact e
theorem clear_one (g m n c : Nat) (ty : TypeId) (w : World) (cs : Array Value) (hn : n = 1) (r : Row w g 3 cs) (h : m + 1 ≤ cs.size) (zs : List Value) (hz : zs = [.int .i64 0]) :
    (Builtin.clear_ #[57] ty #[.slice (some ⟨g, m, none⟩) n c]).run Try.prog w = .ok (.tuple #[]) (w.setCells g m zs) := by
  subst hn
  have hst := run_storeCells_cells (P := Try.prog) g m zs 0 w (fun j hj => by
    have hj : j < 1 := by simpa [hz] using hj
    rw [r.cell, Array.getElem?_eq_getElem (by omega)]; rfl) (fun j hj => r.frozen _) (by intro v hv; rw [hz] at hv; rw [List.mem_singleton.1 hv]; rfl)
  simp only [Nat.add_zero] at hst
  have zi : ∀ w : World, (zeroValue 3).run Try.prog w = .ok (.int .i64 0) w := zeroI
  have e : (Builtin.zeroCells (Value.int .i64 0).cells 1).toList = zs := by rw [hz]; kernel_rfl
  clear hz
  simp [Builtin.clear_, run_underlying Try.underlying57, e, hst, zi]

set_option maxRecDepth 100000 in
set_option maxHeartbeats 4000000 in
theorem del11_any (g cap k : Nat) (ss : List Int) (w : World) (h : OwnsInts w 0 (.slice (some ⟨g, 0, none⟩) ss.length cap) ss) (hk : k < ss.length) (hl : ss.length ≤ 1000) :
    Calls Try.prog 35 #[.slice (some ⟨g, 0, none⟩) ss.length cap, .int .i64 k, .int .i64 ((k : Int) + 1)] w fun e w' => e = .returned (.slice (some ⟨g, 0, none⟩) (ss.length - 1) cap) ∧ OwnsInts w' 0 (.slice (some ⟨g, 0, none⟩) (ss.length - 1) cap) (ss.eraseIdx k) ∧ Only (fun j => j = g) w w' := by
  have OUT := Lib.hid (Owns.out11 h hk (.int .i64 0))
  obtain ⟨cur, r, _, _, hc1, hc2, hc3, hc4⟩ := Owns.row11 h
  rw [Nat.mul_one] at hc3
  have lw := r.lt
  have R := Lib.hid r
  have H := Lib.hid h
  obtain ⟨i0, hi0, hz0, hz1, hz2⟩ := info_parts info_int8
  have I0 := Lib.hid hi0
  have I2 := Lib.hid hz1
  clear hi0 hz0 hz1 hz2
  have CS := Lib.hid hc3
  have HC := Lib.hid hc1
  have q0 : ((k : Int) == (k : Int) + 1) = false := by simp; omega
  have q1 : (0 : Int) ≤ (k : Int) + 1 := by omega
  have q2 : (k : Int) + 1 ≤ (ss.length : Int) := by omega
  have q3 : ((k : Int) + 1).toNat = k + 1 := by omega
  have q4 : (k : Int) ≤ (k : Int) + 1 := by omega
  have q5 : k ≤ cap := by omega
  have q6 : ss.length ≤ cap := hc1
  have q7 : (k : Int) ≤ (ss.length : Int) := by omega
  clear h r hc3 hc4
  go_enter Try.func35, Try.ntmps35
  go_wp2_with fail
  by_cases hcc : cap = k + 1
  · subst hcc
    have SP := Lib.hid (show ∀ j, j < ((ss.drop (k + 1)).flatMap one).length → (w.drew.cell? ⟨g, 0 + k * 1 + j, none⟩).isSome = true ∧ w.drew.frozen? ⟨g, 0 + k * 1 + j, none⟩ = false from fun j hj => by
      rw [one_len, List.length_drop] at hj
      refine ⟨?_, R.out.drew.frozen _⟩
      rw [R.out.drew.cell, Array.getElem?_eq_getElem (by have := CS.out; omega)]
      rfl)
    have N2 := Lib.hid (show ((ss.drop (k + 1)).flatMap one).length = 0 * 1 by rw [one_len, List.length_drop]; omega)
    have xl : ss.length - 1 = k := by omega
    rw [xl] at OUT
    have XL := Lib.hid xl
    clear xl
    have C2 := Lib.hid (show ∀ j u, ((ss.drop (k + 1)).flatMap one)[j]? = some u → w.drew.cell? ((Addr.mk g 0 none).add j) = some u from fun j u hj => by
      rw [List.drop_of_length_le (by omega)] at hj
      simp at hj)
    go_region_law (refine step_append_room rfl (.tmp 22) (.tmp 25) 57 rfl 3 i0 1 Try.underlying57 I0.out I2.out g 0 k (k + 1) (by simp [Act.eval, Act.put]) ⟨g, 0, none⟩ 0 0 ((ss.drop (k + 1)).flatMap one) (by simp [Act.eval, Act.put]) N2.out C2.out (one_cells_one _) (by omega) SP.out ?_)
    have RW := Lib.hid (Row.lays ((ss.drop (k + 1)).flatMap one) k _ _ R.out.drew)
    have OW := Lib.hid (Only.lays (S := fun j => j = g) rfl ((ss.drop (k + 1)).flatMap one) k _ (Only.refl (fun j => j = g) w).drew)
    obtain ⟨c1, rw1, rw2, rw3⟩ := RW.out
    have R1 := Lib.hid rw1
    have RS := Lib.hid rw2
    obtain ⟨zs, hzs⟩ : ∃ zs : List Value, zs = [.int .i64 0] := ⟨_, rfl⟩
    rw [← hzs] at OUT
    have ZS := Lib.hid hzs
    clear rw1 rw2 rw3 RW hzs
    generalize w.drew.setCells g k ((ss.drop (k + 1)).flatMap one) = W1 at *
    have CL := fun ty => clear_one g k (ss.length - k) 1 ty W1 c1 (by omega) R1.out (by have := CS.out; have := RS.out; omega) zs ZS.out
    have OZ := Lib.hid (Only.lays (S := fun j => j = g) rfl zs k _ OW.out)
    go_wp2
    go_ret
    rw [XL.out]
    exact ⟨rfl, OUT.out, OZ.out⟩
  · have SP := Lib.hid (show ∀ j, j < ((ss.drop (k + 1)).flatMap one).length → (w.drew.cell? ⟨g, 0 + k * 1 + j, none⟩).isSome = true ∧ w.drew.frozen? ⟨g, 0 + k * 1 + j, none⟩ = false from fun j hj => by
      rw [one_len, List.length_drop] at hj
      refine ⟨?_, R.out.drew.frozen _⟩
      rw [R.out.drew.cell, Array.getElem?_eq_getElem (by have := CS.out; omega)]
      rfl)
    have N2 := Lib.hid (show ((ss.drop (k + 1)).flatMap one).length = (ss.length - (k + 1)) * 1 by rw [one_flat_len, List.length_drop])
    have C2 := Lib.hid (show ∀ j u, ((ss.drop (k + 1)).flatMap one)[j]? = some u → w.drew.cell? ((Addr.mk g (k + 1) none).add j) = some u from fun j u hj => by
      rw [flat_dropL one1, List.getElem?_drop] at hj
      have := World.ownsRow.cells H.out (g := g) rfl _ u hj
      rw [add11] at this ⊢
      simpa using this)
    go_region_law (refine step_append_room rfl (.tmp 22) (.tmp 25) 57 rfl 3 i0 1 Try.underlying57 I0.out I2.out g 0 k cap (by simp [Act.eval, Act.put]) ⟨g, k + 1, none⟩ (ss.length - (k + 1)) (cap - (k + 1)) ((ss.drop (k + 1)).flatMap one) (by simp [Act.eval, Act.put]) N2.out C2.out (one_cells_one _) (by omega) SP.out ?_)
    rw [show k + (ss.length - (k + 1)) = ss.length - 1 from by omega]
    have RW := Lib.hid (Row.lays ((ss.drop (k + 1)).flatMap one) k _ _ R.out.drew)
    have OW := Lib.hid (Only.lays (S := fun j => j = g) rfl ((ss.drop (k + 1)).flatMap one) k _ (Only.refl (fun j => j = g) w).drew)
    obtain ⟨c1, rw1, rw2, rw3⟩ := RW.out
    have R1 := Lib.hid rw1
    have RS := Lib.hid rw2
    obtain ⟨zs, hzs⟩ : ∃ zs : List Value, zs = [.int .i64 0] := ⟨_, rfl⟩
    rw [← hzs] at OUT
    have ZS := Lib.hid hzs
    clear rw1 rw2 rw3 RW hzs
    generalize w.drew.setCells g k ((ss.drop (k + 1)).flatMap one) = W1 at *
    have CL := fun ty => clear_one g (ss.length - 1) (ss.length - (ss.length - 1)) (cap - (ss.length - 1)) ty W1 c1 (by omega) R1.out (by have := CS.out; have := RS.out; omega) zs ZS.out
    have OZ := Lib.hid (Only.lays (S := fun j => j = g) rfl zs (ss.length - 1) _ OW.out)
    go_wp2
    go_ret
    exact ⟨rfl, OUT.out, OZ.out⟩
end Go.Proofs.Ytjeiaialnanemaa
