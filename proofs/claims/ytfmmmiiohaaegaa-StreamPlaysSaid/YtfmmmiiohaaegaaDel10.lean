/- slices.Delete of one stream, in place; slices.Clone. -/
import Derived.Test.YtfmmmiiohaaegaaRs
import Derived.Deep.RegionLaw
namespace Go.Proofs.Ytfmmmiiohaaegaa
open Go.RowKit Go.Maps
set_option linter.unusedVariables false

theorem Row.lays {t : TypeId} {g : Nat} : ∀ (vs : List Value) (o : Nat) (w : World) (cs : Array Value), Row w g t cs →
    ∃ cs', Row (w.setCells g o vs) g t cs' ∧ cs'.size = cs.size ∧ ∀ j, cs'[j]? = if o ≤ j ∧ j < o + vs.length ∧ j < cs.size then vs[j - o]? else cs[j]?
  | [], o, w, cs, h => ⟨cs, h, rfl, fun j => by rw [if_neg (by simp; omega)]⟩
  | v :: r, o, w, cs, h => by
    obtain ⟨cs', h1, h2, h3⟩ := Row.lays r (o + 1) _ _ (h.put o v)
    refine ⟨cs', h1, by rw [h2, Array.size_setIfInBounds], fun j => ?_⟩
    rw [h3, Array.size_setIfInBounds, List.length_cons]
    by_cases q : o + 1 ≤ j ∧ j < o + 1 + r.length ∧ j < cs.size
    · rw [if_pos q, if_pos (by omega), show j - o = (j - (o + 1)) + 1 by omega, List.getElem?_cons_succ]
    · rw [if_neg q, Array.getElem?_setIfInBounds]
      by_cases e : o = j
      · subst e
        rw [if_pos rfl]
        by_cases l : o < cs.size
        · rw [if_pos l, if_pos (by omega), Nat.sub_self, List.getElem?_cons_zero]
        · rw [if_neg l, if_neg (by omega), Array.getElem?_eq_none (by omega)]
      · rw [if_neg e, if_neg (by omega)]
theorem Only.lays {S : Nat → Prop} {g : Nat} (hg : S g) {a : World} : ∀ (vs : List Value) (o : Nat) (w : World), Only S a w → Only S a (w.setCells g o vs)
  | [], _, _, h => h
  | v :: r, o, w, h => Only.lays hg r (o + 1) _ (h.into hg o v)

theorem flat_erase {α : Type} {c : α → List Value} (l : List α) (k : Nat) : (l.eraseIdx k).flatMap c = (l.take k).flatMap c ++ (l.drop (k + 1)).flatMap c := by
  rw [List.eraseIdx_eq_take_drop_succ, List.flatMap_append]

/-- one is taken out, and those behind it lie one place nearer -/
theorem Owns.out10 {w : World} {g cap k n : Nat} {ss : List Sm} (h : Owns w 0 59 6 Sm.cells (.slice (some ⟨g, 0, none⟩) n cap) ss) (hk : k < ss.length) (zs : List Value) (hz : zs.length = 6) :
    Owns ((w.drew.setCells g (k * 6) ((ss.drop (k + 1)).flatMap Sm.cells)).setCells g ((n - 1) * 6) zs) 0 59 6 Sm.cells (.slice (some ⟨g, 0, none⟩) (n - 1) cap) (ss.eraseIdx k) := by
  obtain ⟨cur, r, hb, hn, h3, h4, h5, h6⟩ := h.row10
  have hl : ∀ l : List Sm, (l.flatMap Sm.cells).length = l.length * 6 := fun l => by
    have := flat_size sm6 l
    unfold flat at this
    simpa using this
  obtain ⟨c1, r1, s1, e1⟩ := Row.lays ((ss.drop (k + 1)).flatMap Sm.cells) (k * 6) _ _ r.drew
  obtain ⟨c2, r2, s2, e2⟩ := Row.lays zs ((n - 1) * 6) _ _ r1
  have e : c2.toList.take ((n - 1) * 6) = (ss.eraseIdx k).flatMap Sm.cells := by
    apply List.ext_getElem?
    intro j
    rcases Nat.lt_or_ge j ((n - 1) * 6) with q | q
    · rw [List.getElem?_take_of_lt q, Array.getElem?_toList, e2, if_neg (by omega), e1, hl, List.length_drop, flat_erase]
      have e6 : ∀ j, j < n * 6 → cur[j]? = (ss.flatMap Sm.cells)[j]? := fun j hj => by
        rw [← h6, List.getElem?_take_of_lt hj, Array.getElem?_toList]
      by_cases a : j < k * 6
      · rw [if_neg (by omega), List.getElem?_append_left (by rw [hl, List.length_take]; omega), flat_takeL sm6, List.getElem?_take_of_lt a, e6 j (by omega)]
      · rw [if_pos ⟨by omega, by omega, by have : n * 6 ≤ cap * 6 := Nat.mul_le_mul_right 6 h3; omega⟩, List.getElem?_append_right (by rw [hl, List.length_take]; omega), hl, List.length_take]
        congr 1
        omega
    · rw [List.getElem?_eq_none (by rw [List.length_take]; omega), List.getElem?_eq_none (by rw [hl, List.length_eraseIdx, if_pos hk]; omega)]
  refine ⟨?_, .inr ⟨g, cap, c2, by rw [List.length_eraseIdx, if_pos hk, hn], hb, r2, by rw [List.length_eraseIdx, if_pos hk]; omega, h4, by rw [s2, s1]; exact h5, ?_⟩⟩
  · rw [hl]
  · rw [List.length_eraseIdx, if_pos hk, ← hn]; exact e

theorem sm_one (s : Sm) : ∀ u ∈ s.cells, u.oneCell' = true := by
  intro u hu
  simp only [Sm.cells, List.mem_cons, List.not_mem_nil, or_false] at hu
  rcases hu with rfl | rfl | rfl | rfl | rfl | rfl <;> rfl
theorem sm_cells_one (l : List Sm) : ∀ u ∈ l.flatMap Sm.cells, u.oneCell' = true := fun u hu => by
  obtain ⟨x, _, hx⟩ := List.mem_flatMap.1 hu
  exact sm_one x u hx
theorem sm_flat_len (l : List Sm) : (l.flatMap Sm.cells).length = l.length * 6 := by
  have := flat_size sm6 l
  unfold flat at this
  simpa using this
theorem info_sm : (Try.prog.info? 59).map (fun i => (i.zero, i.size, i.bytes)) = some (some (.agg #[.int .i64 0, .int .i64 0, .int .i64 0, .int .i64 0, .int .i64 0, .int .i64 0]), 6, 48) := by kernel_rfl

theorem zero_sm (w : World) : (zeroValue 59).run Try.prog w = .ok (.agg #[.int .i64 0, .int .i64 0, .int .i64 0, .int .i64 0, .int .i64 0, .int .i64 0]) w := by kernel_rfl
theorem clear_sm (g m n c : Nat) (ty : TypeId) (w : World) (cs : Array Value) (hn : n = 1) (r : Row w g 59 cs) (h : m * 6 + 6 ≤ cs.size) (zs : List Value) (hz : zs = List.replicate 6 (.int .i64 0)) :
    (Builtin.clear_ #[44] ty #[.slice (some ⟨g, m * 6, none⟩) n c]).run Try.prog w = .ok (.tuple #[]) (w.setCells g (m * 6) zs) := by
  subst hn
  have hst := run_storeCells_cells (P := Try.prog) g (m * 6) zs 0 w (fun j hj => by
    have hj : j < 6 := by simpa [hz] using hj
    rw [r.cell, Array.getElem?_eq_getElem (by omega)]; rfl) (fun j hj => r.frozen _) (by intro v hv; rw [hz] at hv; rw [List.eq_of_mem_replicate hv]; rfl)
  simp only [Nat.add_zero] at hst
  have e : (Builtin.zeroCells (Value.agg #[.int .i64 0, .int .i64 0, .int .i64 0, .int .i64 0, .int .i64 0, .int .i64 0]).cells 1).toList = zs := by rw [hz]; kernel_rfl
  clear hz
  simp [Builtin.clear_, run_underlying Try.underlying44, e, hst]

set_option maxRecDepth 100000 in
set_option maxHeartbeats 4000000 in
theorem del10_any (g cap k : Nat) (ss : List Sm) (w : World) (h : Owns w 0 59 6 Sm.cells (.slice (some ⟨g, 0, none⟩) ss.length cap) ss) (hk : k < ss.length) (hl : ss.length ≤ 1000) :
    Calls Try.prog 47 #[.slice (some ⟨g, 0, none⟩) ss.length cap, .int .i64 k, .int .i64 ((k : Int) + 1)] w fun e w' => e = .returned (.slice (some ⟨g, 0, none⟩) (ss.length - 1) cap) ∧ Owns w' 0 59 6 Sm.cells (.slice (some ⟨g, 0, none⟩) (ss.length - 1) cap) (ss.eraseIdx k) ∧ Only (fun j => j = g) w w' := by
  have OUT := Lib.hid (h.out10 hk (List.replicate 6 (.int .i64 0)) (by simp))
  obtain ⟨cur, r, _, _, hc1, hc2, hc3, hc4⟩ := h.row10
  have lw := r.lt
  have R := Lib.hid r
  have H := Lib.hid h
  obtain ⟨i0, hi0, hz0, hz1, hz2⟩ := info_parts info_sm
  have I0 := Lib.hid hi0
  have I2 := Lib.hid hz1
  clear hi0 hz0 hz1 hz2
  have CS := Lib.hid hc3
  have HC := Lib.hid hc1
  have q0 : ((k : Int) == (k : Int) + 1) = false := by simp; omega
  have q1 : (0 : Int) ≤ (k : Int) + 1 := by omega
  have q2 : (k : Int) + 1 ≤ (ss.length : Int) := by omega
  have q3 : ((k : Int) + 1).toNat = k + 1 := by omega
  have q4 : (k : Int) ≤ (k : Int) + 1 := by omega
  have q5 : k ≤ cap := by omega
  have q6 : ss.length ≤ cap := hc1
  have q7 : (k : Int) ≤ (ss.length : Int) := by omega
  clear h r hc3 hc4
  go_enter Try.func47, Try.ntmps47
  go_wp2_with fail
  by_cases hcc : cap = k + 1
  · subst hcc
    have SP := Lib.hid (show ∀ j, j < ((ss.drop (k + 1)).flatMap Sm.cells).length → (w.drew.cell? ⟨g, 0 + k * 6 + j, none⟩).isSome = true ∧ w.drew.frozen? ⟨g, 0 + k * 6 + j, none⟩ = false from fun j hj => by
      rw [sm_flat_len, List.length_drop] at hj
      refine ⟨?_, R.out.drew.frozen _⟩
      rw [R.out.drew.cell, Array.getElem?_eq_getElem (by have := CS.out; omega)]
      rfl)
    have N2 := Lib.hid (show ((ss.drop (k + 1)).flatMap Sm.cells).length = 0 * 6 by rw [sm_flat_len, List.length_drop]; omega)
    have xl : ss.length - 1 = k := by omega
    rw [xl] at OUT
    have XL := Lib.hid xl
    clear xl
    have C2 := Lib.hid (show ∀ j u, ((ss.drop (k + 1)).flatMap Sm.cells)[j]? = some u → w.drew.cell? ((Addr.mk g 0 none).add j) = some u from fun j u hj => by
      rw [List.drop_of_length_le (by omega)] at hj
      simp at hj)
    go_region_law (refine step_append_room rfl (.tmp 22) (.tmp 25) 44 rfl 59 i0 6 Try.underlying44 I0.out I2.out g 0 k (k + 1) (by simp [Act.eval, Act.put]) ⟨g, 0, none⟩ 0 0 ((ss.drop (k + 1)).flatMap Sm.cells) (by simp [Act.eval, Act.put]) N2.out C2.out (sm_cells_one _) (by omega) SP.out ?_)
    have RW := Lib.hid (Row.lays ((ss.drop (k + 1)).flatMap Sm.cells) (k * 6) _ _ R.out.drew)
    have OW := Lib.hid (Only.lays (S := fun j => j = g) rfl ((ss.drop (k + 1)).flatMap Sm.cells) (k * 6) _ (Only.refl (fun j => j = g) w).drew)
    obtain ⟨c1, rw1, rw2, rw3⟩ := RW.out
    have R1 := Lib.hid rw1
    have RS := Lib.hid rw2
    obtain ⟨zs, hzs⟩ : ∃ zs : List Value, zs = List.replicate 6 (.int .i64 0) := ⟨_, rfl⟩
    rw [← hzs] at OUT
    have ZS := Lib.hid hzs
    clear rw1 rw2 rw3 RW hzs
    generalize w.drew.setCells g (k * 6) ((ss.drop (k + 1)).flatMap Sm.cells) = W1 at *
    have CL := fun ty => clear_sm g k (ss.length - k) 1 ty W1 c1 (by omega) R1.out (by have := CS.out; have := RS.out; omega) zs ZS.out
    have OZ := Lib.hid (Only.lays (S := fun j => j = g) rfl zs (k * 6) _ OW.out)
    go_wp2
    go_ret
    rw [XL.out]
    exact ⟨rfl, OUT.out, OZ.out⟩
  · have SP := Lib.hid (show ∀ j, j < ((ss.drop (k + 1)).flatMap Sm.cells).length → (w.drew.cell? ⟨g, 0 + k * 6 + j, none⟩).isSome = true ∧ w.drew.frozen? ⟨g, 0 + k * 6 + j, none⟩ = false from fun j hj => by
      rw [sm_flat_len, List.length_drop] at hj
      refine ⟨?_, R.out.drew.frozen _⟩
      rw [R.out.drew.cell, Array.getElem?_eq_getElem (by have := CS.out; omega)]
      rfl)
    have N2 := Lib.hid (show ((ss.drop (k + 1)).flatMap Sm.cells).length = (ss.length - (k + 1)) * 6 by rw [sm_flat_len, List.length_drop])
    have C2 := Lib.hid (show ∀ j u, ((ss.drop (k + 1)).flatMap Sm.cells)[j]? = some u → w.drew.cell? ((Addr.mk g ((k + 1) * 6) none).add j) = some u from fun j u hj => by
      rw [flat_dropL sm6, List.getElem?_drop] at hj
      have := World.ownsRow.cells H.out (g := g) rfl _ u hj
      rw [add8] at this ⊢
      simpa using this)
    go_region_law (refine step_append_room rfl (.tmp 22) (.tmp 25) 44 rfl 59 i0 6 Try.underlying44 I0.out I2.out g 0 k cap (by simp [Act.eval, Act.put]) ⟨g, (k + 1) * 6, none⟩ (ss.length - (k + 1)) (cap - (k + 1)) ((ss.drop (k + 1)).flatMap Sm.cells) (by simp [Act.eval, Act.put]) N2.out C2.out (sm_cells_one _) (by omega) SP.out ?_)
    rw [show k + (ss.length - (k + 1)) = ss.length - 1 from by omega]
    have RW := Lib.hid (Row.lays ((ss.drop (k + 1)).flatMap Sm.cells) (k * 6) _ _ R.out.drew)
    have OW := Lib.hid (Only.lays (S := fun j => j = g) rfl ((ss.drop (k + 1)).flatMap Sm.cells) (k * 6) _ (Only.refl (fun j => j = g) w).drew)
    obtain ⟨c1, rw1, rw2, rw3⟩ := RW.out
    have R1 := Lib.hid rw1
    have RS := Lib.hid rw2
    obtain ⟨zs, hzs⟩ : ∃ zs : List Value, zs = List.replicate 6 (.int .i64 0) := ⟨_, rfl⟩
    rw [← hzs] at OUT
    have ZS := Lib.hid hzs
    clear rw1 rw2 rw3 RW hzs
    generalize w.drew.setCells g (k * 6) ((ss.drop (k + 1)).flatMap Sm.cells) = W1 at *
    have CL := fun ty => clear_sm g (ss.length - 1) (ss.length - (ss.length - 1)) (cap - (ss.length - 1)) ty W1 c1 (by omega) R1.out (by have := CS.out; have := RS.out; omega) zs ZS.out
    have OZ := Lib.hid (Only.lays (S := fun j => j = g) rfl zs ((ss.length - 1) * 6) _ OW.out)
    go_wp2
    go_ret
    exact ⟨rfl, OUT.out, OZ.out⟩

/-- all streams, told in memory of the call's own -/
def Told10 (ss : List Sm) (w : World) (e : Ending) (w' : World) : Prop := ∃ A cap, e = .returned (.slice A ss.length cap) ∧ Holds w' A 6 Sm.cells ss ∧ (∀ a, A = some a → w.heap.size ≤ a.block) ∧ Only none_ w w'
theorem own_form10 {w : World} {base : Nat} {v : Value} {ss : List Sm} (h : Owns w base 59 6 Sm.cells v ss) : ∃ a n c, v = .slice a n c := by
  rcases h.2 with ⟨h0, _⟩ | ⟨g, cap, cur, hv, _⟩
  · exact ⟨none, 0, 0, h0⟩
  · exact ⟨_, _, _, hv⟩
theorem Owns.told10 {w : World} {base : Nat} {v : Value} {ss : List Sm} (h : Owns w base 59 6 Sm.cells v ss) : ∃ A cap, v = .slice A ss.length cap ∧ Holds w A 6 Sm.cells ss ∧ ∀ a, A = some a → base ≤ a.block := by
  have h0 : Owns w 0 59 6 Sm.cells v ss := ⟨h.1, h.2.imp id (fun ⟨g, cap, cur, hv, _, r⟩ => ⟨g, cap, cur, hv, Nat.zero_le _, r⟩)⟩
  obtain ⟨A, cap, hv, hh, _⟩ := OwnsSm.form (M := fun _ => True) ⟨h0, fun _ _ => trivial⟩
  refine ⟨A, cap, hv, hh, fun a ha => ?_⟩
  rcases h.2 with ⟨h0, _⟩ | ⟨g, cap', cur, hv', hb, _⟩
  · rw [hv] at h0
    injection h0 with h0
    rw [h0] at ha; cases ha
  · rw [hv] at hv'
    injection hv' with h0
    rw [h0] at ha
    injection ha with ha
    rw [← ha]; exact hb
set_option maxRecDepth 100000 in
set_option maxHeartbeats 1000000 in
theorem clone10_any (v : Value) (ss : List Sm) (w : World) (h : Owns w 0 59 6 Sm.cells v ss) (hl : ss.length ≤ 1000) :
    Calls Try.prog 38 #[v] w (Told10 ss w) := by
  rcases h.2 with ⟨hv, h2⟩ | ⟨g, cap, cur, hv, _⟩
  · subst hv
    have hs : ss = [] := List.eq_nil_of_length_eq_zero h2
    subst hs
    have he : ∀ w : World, (binOp .eql 44 (.slice none 0 0) (.slice none 0 0)).run Try.prog w = .ok (.bool true) w := fun _ => rfl
    clear h
    go_enter Try.func38, Try.ntmps38
    go_wp2_with fail
    go_ret
    exact ⟨none, 0, rfl, (fun i a hi => by simp at hi), (fun a q => by cases q), Only.refl none_ w⟩
  · subst hv
    obtain ⟨i0, hi0, hz0, hz1, hz2⟩ := info_parts info_sm
    have own0 : (w.alloc (.cells #[] 59)).ownsRow w.heap.size 59 6 (.slice (some ⟨w.heap.size, 0, none⟩) 0 0) 0 [] := by
      refine ⟨rfl, .inr ⟨w.heap.size, 0, #[], rfl, Nat.le_refl _, ?_, Nat.le_refl _, Nat.zero_le _, rfl, rfl⟩⟩
      exact Row.fresh w 59 #[]
    have O0 := Lib.hid ((Only.refl none_ w).alloc (.cells #[] 59))
    have H := Lib.hid h
    have all_ := Lib.hid (fun j u (hj : (ss.flatMap Sm.cells)[j]? = some u) => O0.out.cell (World.ownsRow.cells h (g := g) rfl j u hj) (fun s => s))
    have OW := Lib.hid own0
    have zz : w.heap.size ≤ (w.alloc (.cells #[] 59)).heap.size := O0.out.size
    have he : ∀ w : World, (binOp .eql 44 (.slice (some ⟨g, 0, none⟩) ss.length cap) (.slice none 0 0)).run Try.prog w = .ok (.bool false) w := fun _ => rfl
    clear h own0
    go_enter Try.func38, Try.ntmps38
    go_wp2_with (at_builtin; go_loud (refine wpList_append_own _ rfl (.tmp 5) (.tmp 6) 44 rfl w.heap.size 59 i0 _ 6 48 Try.underlying44 hi0 hz0 hz1 hz2 rfl (by decide) _ 0 [] rfl OW.out ⟨g, 0, none⟩ ss.length cap _ rfl (sm_flat_len _) all_.out (sm_cells_one _) (by unfold maxLen; omega) (by omega) zz ?_))
    intro v1 w1 hown1 hgrow1 _
    have O1 := Lib.hid (O0.out.trans (Only.of_grown hgrow1) (fun j hj q => by have q2 : some j = some w.heap.size := q; injection q2; omega))
    have OW1 : Owns w1 w.heap.size 59 6 Sm.cells v1 ss := by
      unfold Owns
      simpa using hown1
    obtain ⟨A, c1, rfl, hh, hA⟩ := OW1.told10
    have HH := Lib.hid hh
    have HA := Lib.hid hA
    clear hown1 hgrow1 OW1 hh hA
    go_wp2_with fail
    go_ret
    exact ⟨A, c1, rfl, HH.out, HA.out, O1.out⟩
end Go.Proofs.Ytfmmmiiohaaegaa
