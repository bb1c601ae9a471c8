/- Texts of the layers below, one behind the other. -/
import Derived.Test.YtlfnncahhbbmpaaGreatDoorQL
import Derived.BigQuiet
import Derived.Test.YtlfnncahhbbmpaaGreatDoorQG
import Derived.Deep.RegionLaw
import Derived.Maps.AppendAt
namespace Go.Proofs.YtlfnncahhbbmpaaGreatDoor
open Go.RowKit
set_option linter.unusedVariables false
set_option maxRecDepth 100000

abbrev Sm.val (s : Sm) : Value := .agg #[.int .i64 s.id, .int .i64 s.f.n, .int .i64 s.f.a, .int .i64 s.f.p, .int .i64 s.f.g, .int .i64 s.used]
set_option maxHeartbeats 1000000 in
theorem reader1_any (s : Sm) (n : Nat) (x : Int) (w : World) (h : w.cell? ⟨n, 0, none⟩ = some (.int .i64 x)) (hn : n < w.heap.size) :
    Calls Tryz.prog 142 (#[s.val] ++ #[.pointer (some ⟨n, 0, none⟩)]) w fun e w' => e = .returned (.tuple #[.int .i64 s.used, .bool (fits x s)]) ∧ Only none_ w w' := by
  show Calls Tryz.prog 142 #[s.val, .pointer (some ⟨n, 0, none⟩)] w _
  have F := Lib.hid (show fits x s = (s.f.n == x) from rfl)
  go_enter Tryz.func142, Tryz.ntmps142
  go_wp2_with fail
  go_region
  all_goals
    go_wp2_with fail
    exact bodyPost_ret (v := .tuple #[.int .i64 s.used, .bool (s.f.n == x)]) (by simp [results, Tryz.results142, go_sem]) rfl ⟨by rw [F.out], ((Only.refl none_ w).alloc _).drew⟩

set_option maxHeartbeats 1000000 in
theorem change1_any (s : Sm) (n : Nat) (x : Int) (w : World) (h : w.cell? ⟨n, 0, none⟩ = some (.int .i64 x)) (hn : n < w.heap.size) :
    Calls Tryz.prog 155 (#[s.val] ++ #[.pointer (some ⟨n, 0, none⟩)]) w fun e w' => e = .returned (.tuple #[.int .i64 0, .bool ((s.id : Int) == x)]) ∧ Only none_ w w' := by
  show Calls Tryz.prog 155 #[s.val, .pointer (some ⟨n, 0, none⟩)] w _
  go_enter Tryz.func155, Tryz.ntmps155
  go_wp2_with fail
  go_region
  all_goals
    go_wp2_with fail
    exact bodyPost_ret (v := .tuple #[.int .i64 0, .bool ((s.id : Int) == x)]) (by simp [results, Tryz.results155, go_sem]) rfl ⟨rfl, ((Only.refl none_ w).alloc _).drew⟩

theorem oldest1_any (s : Sm) (w : World) (hu : s.used ≤ 1000000) :
    Calls Tryz.prog 160 (#[s.val] ++ #[]) w fun e w' => e = .returned (.tuple #[.int .i64 (-(s.used : Int)), .bool true]) ∧ Only none_ w w' := by
  show Calls Tryz.prog 160 #[s.val] w _
  have hw : IntKind.i64.wrap (-(s.used : Int)) = -(s.used : Int) := by rw [IntKind.wrap_i64]; omega
  go_enter Tryz.func160, Tryz.ntmps160
  go_wp2_with fail
  exact bodyPost_ret (v := .tuple #[.int .i64 (-(s.used : Int)), .bool true]) (by simp [results, Tryz.results160, go_sem]) rfl ⟨rfl, ((Only.refl none_ w).alloc _)⟩

set_option maxHeartbeats 1000000 in
theorem reader_any {q p b L : Nat} {v : Value} {M : Nat → Prop} {c : Cf} {t : Tr} (x : Int) (w : World) (h : StAt w q p b L v M c t) (hf : Fine10 c t) (hu : t.uses ≤ 1000) :
    Calls Tryz.prog 110 #[.pointer (some ⟨q, 0, none⟩), .int .i64 x] w fun e w' => e = .returned (.int .i64 (placeI (topOf t.ss x))) ∧ Only none_ w w' := by
  have hmf : ∀ (fn : Fn) (first cap : Array Value) (w : World), (Instr.makeFunc fn first cap).run Tryz.prog w = .ok (.func fn first cap) w := fun _ _ _ _ => rfl
  obtain ⟨A, cap, rfl, hh, _⟩ := h.own.form
  have c4 : w.cell? ⟨q, 4, none⟩ = some (.slice A t.ss.length cap) := by rw [h.row.cell]; rfl
  have lq := h.row.lt
  have HF := Lib.hid hf
  have r1 := Row.fresh w 3 #[.int .i64 x]
  have oa := (Only.refl none_ w).alloc (.cells #[.int .i64 x] 3)
  have FD := Lib.hid (sfind_any A cap t.ss (w.alloc (.cells #[.int .i64 x] 3)) 142 #[.pointer (some ⟨w.heap.size, 0, none⟩)] (fun s => s.used) (fits x) (hh.still8 oa) (by have := hf.few; have := hf.ok.m16; omega)
    (fun s hs => by have := (hf.uses s hs).2; constructor <;> (show _ ≤ _; omega)) (fun a w => rfl)
    (fun s hs w' o => reader1_any s w.heap.size x w' (o.cell (by rw [r1.cell]; rfl) (fun s => s)) (Nat.lt_of_lt_of_le r1.lt o.size)))
  have OA := Lib.hid oa
  clear h hh hf r1 oa
  go_enter Tryz.func110, Tryz.ntmps110
  go_wp2_with fail
  (with_reducible refine FD.out.mono ?_)
  rintro e w2 ⟨⟨a, g, rfl, hb⟩, o⟩
  have E := Lib.hid (best_top HF.out.rank.apart hb)
  have O2 := Lib.hid (OA.out.same o)
  clear hb o
  go_wp2_with fail
  go_ret
  exact ⟨by rw [E.out]; rfl, O2.out⟩

theorem oldest10_any {q p b L : Nat} {v : Value} {M : Nat → Prop} {c : Cf} {t : Tr} (w : World) (h : StAt w q p b L v M c t) (hf : Fine10 c t) (hu : t.uses ≤ 1000) (hne : t.ss ≠ []) :
    Calls Tryz.prog 144 #[.pointer (some ⟨q, 0, none⟩)] w fun e w' => e = .returned (.int .i64 ((lowOf t.ss).getD 0 : Nat)) ∧ (lowOf t.ss).getD 0 < t.ss.length ∧ Only none_ w w' := by
  obtain ⟨A, cap, rfl, hh, _⟩ := h.own.form
  have c4 : w.cell? ⟨q, 4, none⟩ = some (.slice A t.ss.length cap) := by rw [h.row.cell]; rfl
  have HF := Lib.hid hf
  have NE := Lib.hid hne
  have FD := Lib.hid (sfind_any A cap t.ss w 160 #[] (fun s => -(s.used : Int)) (fun _ => true) hh (by have := hf.few; have := hf.ok.m16; omega)
    (fun s hs => by have := (hf.uses s hs).2; constructor <;> (show _ ≤ _; omega)) (fun a w => rfl)
    (fun s hs w' o => oldest1_any s w' (by have := (hf.uses s hs).2; omega)))
  clear h hh hf hne
  go_enter Tryz.func144, Tryz.ntmps144
  go_wp2_with fail
  (with_reducible refine FD.out.mono ?_)
  rintro e w2 ⟨⟨a, g, rfl, hb⟩, o⟩
  have E := Lib.hid (best_low HF.out.rank.apart NE.out hb)
  have O2 := Lib.hid o
  clear hb o
  go_wp2_with fail
  go_ret
  exact ⟨by rw [E.out.1]; rfl, E.out.2, O2.out⟩
end Go.Proofs.YtlfnncahhbbmpaaGreatDoor

namespace Go.Proofs.YtlfnncahhbbmpaaGreatDoor
open Go.RowKit Go.Maps
set_option linter.unusedVariables false
set_option maxRecDepth 100000

theorem Row.lays {t : TypeId} {g : Nat} : ∀ (vs : List Value) (o : Nat) (w : World) (cs : Array Value), Row w g t cs →
    ∃ cs', Row (w.setCells g o vs) g t cs' ∧ cs'.size = cs.size ∧ ∀ j, cs'[j]? = if o ≤ j ∧ j < o + vs.length ∧ j < cs.size then vs[j - o]? else cs[j]?
  | [], o, w, cs, h => ⟨cs, h, rfl, fun j => by rw [if_neg (by simp; omega)]⟩
  | v :: r, o, w, cs, h => by
    obtain ⟨cs', h1, h2, h3⟩ := Row.lays r (o + 1) _ _ (h.put o v)
    refine ⟨cs', h1, by rw [h2, Array.size_setIfInBounds], fun j => ?_⟩
    rw [h3, Array.size_setIfInBounds, List.length_cons]
    by_cases q : o + 1 ≤ j ∧ j < o + 1 + r.length ∧ j < cs.size
    · rw [if_pos q, if_pos (by omega), show j - o = (j - (o + 1)) + 1 by omega, List.getElem?_cons_succ]
    · rw [if_neg q, Array.getElem?_setIfInBounds]
      by_cases e : o = j
      · subst e
        rw [if_pos rfl]
        by_cases l : o < cs.size
        · rw [if_pos l, if_pos (by omega), Nat.sub_self, List.getElem?_cons_zero]
        · rw [if_neg l, if_neg (by omega), Array.getElem?_eq_none (by omega)]
      · rw [if_neg e, if_neg (by omega)]
theorem Only.lays {S : Nat → Prop} {g : Nat} (hg : S g) {a : World} : ∀ (vs : List Value) (o : Nat) (w : World), Only S a w → Only S a (w.setCells g o vs)
  | [], _, _, h => h
  | v :: r, o, w, h => Only.lays hg r (o + 1) _ (h.into hg o v)

theorem flat_erase {α : Type} {c : α → List Value} (l : List α) (k : Nat) : (l.eraseIdx k).flatMap c = (l.take k).flatMap c ++ (l.drop (k + 1)).flatMap c := by
  rw [List.eraseIdx_eq_take_drop_succ, List.flatMap_append]

/-- one is taken out, and those behind it lie one place nearer -/
theorem Owns.out10 {w : World} {g cap k n : Nat} {ss : List Sm} (h : Owns w 0 118 6 Sm.cells (.slice (some ⟨g, 0, none⟩) n cap) ss) (hk : k < ss.length) (zs : List Value) (hz : zs.length = 6) :
    Owns ((w.drew.setCells g (k * 6) ((ss.drop (k + 1)).flatMap Sm.cells)).setCells g ((n - 1) * 6) zs) 0 118 6 Sm.cells (.slice (some ⟨g, 0, none⟩) (n - 1) cap) (ss.eraseIdx k) := by
  obtain ⟨cur, r, hb, hn, h3, h4, h5, h6⟩ := h.row10
  have hl : ∀ l : List Sm, (l.flatMap Sm.cells).length = l.length * 6 := fun l => by
    have := flat_size sm6 l
    unfold flat at this
    simpa using this
  obtain ⟨c1, r1, s1, e1⟩ := Row.lays ((ss.drop (k + 1)).flatMap Sm.cells) (k * 6) _ _ r.drew
  obtain ⟨c2, r2, s2, e2⟩ := Row.lays zs ((n - 1) * 6) _ _ r1
  have e : c2.toList.take ((n - 1) * 6) = (ss.eraseIdx k).flatMap Sm.cells := by
    apply List.ext_getElem?
    intro j
    rcases Nat.lt_or_ge j ((n - 1) * 6) with q | q
    · rw [List.getElem?_take_of_lt q, Array.getElem?_toList, e2, if_neg (by omega), e1, hl, List.length_drop, flat_erase]
      have e6 : ∀ j, j < n * 6 → cur[j]? = (ss.flatMap Sm.cells)[j]? := fun j hj => by
        rw [← h6, List.getElem?_take_of_lt hj, Array.getElem?_toList]
      by_cases a : j < k * 6
      · rw [if_neg (by omega), List.getElem?_append_left (by rw [hl, List.length_take]; omega), flat_takeL sm6, List.getElem?_take_of_lt a, e6 j (by omega)]
      · rw [if_pos ⟨by omega, by omega, by have : n * 6 ≤ cap * 6 := Nat.mul_le_mul_right 6 h3; omega⟩, List.getElem?_append_right (by rw [hl, List.length_take]; omega), hl, List.length_take]
        congr 1
        omega
    · rw [List.getElem?_eq_none (by rw [List.length_take]; omega), List.getElem?_eq_none (by rw [hl, List.length_eraseIdx, if_pos hk]; omega)]
  refine ⟨?_, .inr ⟨g, cap, c2, by rw [List.length_eraseIdx, if_pos hk, hn], hb, r2, by rw [List.length_eraseIdx, if_pos hk]; omega, h4, by rw [s2, s1]; exact h5, ?_⟩⟩
  · rw [hl]
  · rw [List.length_eraseIdx, if_pos hk, ← hn]; exact e

theorem sm_one (s : Sm) : ∀ u ∈ s.cells, u.oneCell' = true := by
  intro u hu
  simp only [Sm.cells, List.mem_cons, List.not_mem_nil, or_false] at hu
  rcases hu with rfl | rfl | rfl | rfl | rfl | rfl <;> rfl
theorem sm_cells_one (l : List Sm) : ∀ u ∈ l.flatMap Sm.cells, u.oneCell' = true := fun u hu => by
  obtain ⟨x, _, hx⟩ := List.mem_flatMap.1 hu
  exact sm_one x u hx
theorem sm_flat_len (l : List Sm) : (l.flatMap Sm.cells).length = l.length * 6 := by
  have := flat_size sm6 l
  unfold flat at this
  simpa using this
theorem info_sm : (Tryz.prog.info? 118).map (fun i => (i.zero, i.size, i.bytes)) = some (some (.agg #[.int .i64 0, .int .i64 0, .int .i64 0, .int .i64 0, .int .i64 0, .int .i64 0]), 6, 48) := by kernel_rfl

theorem zero_sm (w : World) : (zeroValue 118).run Tryz.prog w = .ok (.agg #[.int .i64 0, .int .i64 0, .int .i64 0, .int .i64 0, .int .i64 0, .int .i64 0]) w := by kernel_rfl
theorem clear_sm (g m n c : Nat) (ty : TypeId) (w : World) (cs : Array Value) (hn : n = 1) (r : Row w g 118 cs) (h : m * 6 + 6 ≤ cs.size) (zs : List Value) (hz : zs = List.replicate 6 (.int .i64 0)) :
    (Builtin.clear_ #[51] ty #[.slice (some ⟨g, m * 6, none⟩) n c]).run Tryz.prog w = .ok (.tuple #[]) (w.setCells g (m * 6) zs) := by
  subst hn
  have hst := run_storeCells_cells (P := Tryz.prog) g (m * 6) zs 0 w (fun j hj => by
    have hj : j < 6 := by simpa [hz] using hj
    rw [r.cell, Array.getElem?_eq_getElem (by omega)]; rfl) (fun j hj => r.frozen _) (by intro v hv; rw [hz] at hv; rw [List.eq_of_mem_replicate hv]; rfl)
  simp only [Nat.add_zero] at hst
  have e : (Builtin.zeroCells (Value.agg #[.int .i64 0, .int .i64 0, .int .i64 0, .int .i64 0, .int .i64 0, .int .i64 0]).cells 1).toList = zs := by rw [hz]; kernel_rfl
  clear hz
  simp [Builtin.clear_, run_underlying Tryz.underlying51, e, hst]

set_option maxRecDepth 100000 in
set_option maxHeartbeats 4000000 in
theorem del10_any (g cap k : Nat) (ss : List Sm) (w : World) (h : Owns w 0 118 6 Sm.cells (.slice (some ⟨g, 0, none⟩) ss.length cap) ss) (hk : k < ss.length) (hl : ss.length ≤ 1000) :
    Calls Tryz.prog 145 #[.slice (some ⟨g, 0, none⟩) ss.length cap, .int .i64 k, .int .i64 ((k : Int) + 1)] w fun e w' => e = .returned (.slice (some ⟨g, 0, none⟩) (ss.length - 1) cap) ∧ Owns w' 0 118 6 Sm.cells (.slice (some ⟨g, 0, none⟩) (ss.length - 1) cap) (ss.eraseIdx k) ∧ Only (fun j => j = g) w w' := by
  have OUT := Lib.hid (h.out10 hk (List.replicate 6 (.int .i64 0)) (by simp))
  obtain ⟨cur, r, _, _, hc1, hc2, hc3, hc4⟩ := h.row10
  have lw := r.lt
  have R := Lib.hid r
  have H := Lib.hid h
  obtain ⟨i0, hi0, hz0, hz1, hz2⟩ := info_parts info_sm
  have I0 := Lib.hid hi0
  have I2 := Lib.hid hz1
  clear hi0 hz0 hz1 hz2
  have CS := Lib.hid hc3
  have HC := Lib.hid hc1
  have q0 : ((k : Int) == (k : Int) + 1) = false := by simp; omega
  have q1 : (0 : Int) ≤ (k : Int) + 1 := by omega
  have q2 : (k : Int) + 1 ≤ (ss.length : Int) := by omega
  have q3 : ((k : Int) + 1).toNat = k + 1 := by omega
  have q4 : (k : Int) ≤ (k : Int) + 1 := by omega
  have q5 : k ≤ cap := by omega
  have q6 : ss.length ≤ cap := hc1
  have q7 : (k : Int) ≤ (ss.length : Int) := by omega
  clear h r hc3 hc4
  go_enter Tryz.func145, Tryz.ntmps145
  go_wp2_with fail
  by_cases hcc : cap = k + 1
  · subst hcc
    have SP := Lib.hid (show ∀ j, j < ((ss.drop (k + 1)).flatMap Sm.cells).length → (w.drew.cell? ⟨g, 0 + k * 6 + j, none⟩).isSome = true ∧ w.drew.frozen? ⟨g, 0 + k * 6 + j, none⟩ = false from fun j hj => by
      rw [sm_flat_len, List.length_drop] at hj
      refine ⟨?_, R.out.drew.frozen _⟩
      rw [R.out.drew.cell, Array.getElem?_eq_getElem (by have := CS.out; omega)]
      rfl)
    have N2 := Lib.hid (show ((ss.drop (k + 1)).flatMap Sm.cells).length = 0 * 6 by rw [sm_flat_len, List.length_drop]; omega)
    have xl : ss.length - 1 = k := by omega
    rw [xl] at OUT
    have XL := Lib.hid xl
    clear xl
    have C2 := Lib.hid (show ∀ j u, ((ss.drop (k + 1)).flatMap Sm.cells)[j]? = some u → w.drew.cell? ((Addr.mk g 0 none).add j) = some u from fun j u hj => by
      rw [List.drop_of_length_le (by omega)] at hj
      simp at hj)
    go_region_law (refine step_append_room rfl (.tmp 22) (.tmp 25) 51 rfl 118 i0 6 Tryz.underlying51 I0.out I2.out g 0 k (k + 1) (by simp [Act.eval, Act.put]) ⟨g, 0, none⟩ 0 0 ((ss.drop (k + 1)).flatMap Sm.cells) (by simp [Act.eval, Act.put]) N2.out C2.out (sm_cells_one _) (by omega) SP.out ?_)
    have RW := Lib.hid (Row.lays ((ss.drop (k + 1)).flatMap Sm.cells) (k * 6) _ _ R.out.drew)
    have OW := Lib.hid (Only.lays (S := fun j => j = g) rfl ((ss.drop (k + 1)).flatMap Sm.cells) (k * 6) _ (Only.refl (fun j => j = g) w).drew)
    obtain ⟨c1, rw1, rw2, rw3⟩ := RW.out
    have R1 := Lib.hid rw1
    have RS := Lib.hid rw2
    obtain ⟨zs, hzs⟩ : ∃ zs : List Value, zs = List.replicate 6 (.int .i64 0) := ⟨_, rfl⟩
    rw [← hzs] at OUT
    have ZS := Lib.hid hzs
    clear rw1 rw2 rw3 RW hzs
    generalize w.drew.setCells g (k * 6) ((ss.drop (k + 1)).flatMap Sm.cells) = W1 at *
    have CL := fun ty => clear_sm g k (ss.length - k) 1 ty W1 c1 (by omega) R1.out (by have := CS.out; have := RS.out; omega) zs ZS.out
    have OZ := Lib.hid (Only.lays (S := fun j => j = g) rfl zs (k * 6) _ OW.out)
    go_wp2
    go_ret
    rw [XL.out]
    exact ⟨rfl, OUT.out, OZ.out⟩
  · have SP := Lib.hid (show ∀ j, j < ((ss.drop (k + 1)).flatMap Sm.cells).length → (w.drew.cell? ⟨g, 0 + k * 6 + j, none⟩).isSome = true ∧ w.drew.frozen? ⟨g, 0 + k * 6 + j, none⟩ = false from fun j hj => by
      rw [sm_flat_len, List.length_drop] at hj
      refine ⟨?_, R.out.drew.frozen _⟩
      rw [R.out.drew.cell, Array.getElem?_eq_getElem (by have := CS.out; omega)]
      rfl)
    have N2 := Lib.hid (show ((ss.drop (k + 1)).flatMap Sm.cells).length = (ss.length - (k + 1)) * 6 by rw [sm_flat_len, List.length_drop])
    have C2 := Lib.hid (show ∀ j u, ((ss.drop (k + 1)).flatMap Sm.cells)[j]? = some u → w.drew.cell? ((Addr.mk g ((k + 1) * 6) none).add j) = some u from fun j u hj => by
      rw [flat_dropL sm6, List.getElem?_drop] at hj
      have := World.ownsRow.cells H.out (g := g) rfl _ u hj
      rw [add8] at this ⊢
      simpa using this)
    go_region_law (refine step_append_room rfl (.tmp 22) (.tmp 25) 51 rfl 118 i0 6 Tryz.underlying51 I0.out I2.out g 0 k cap (by simp [Act.eval, Act.put]) ⟨g, (k + 1) * 6, none⟩ (ss.length - (k + 1)) (cap - (k + 1)) ((ss.drop (k + 1)).flatMap Sm.cells) (by simp [Act.eval, Act.put]) N2.out C2.out (sm_cells_one _) (by omega) SP.out ?_)
    rw [show k + (ss.length - (k + 1)) = ss.length - 1 from by omega]
    have RW := Lib.hid (Row.lays ((ss.drop (k + 1)).flatMap Sm.cells) (k * 6) _ _ R.out.drew)
    have OW := Lib.hid (Only.lays (S := fun j => j = g) rfl ((ss.drop (k + 1)).flatMap Sm.cells) (k * 6) _ (Only.refl (fun j => j = g) w).drew)
    obtain ⟨c1, rw1, rw2, rw3⟩ := RW.out
    have R1 := Lib.hid rw1
    have RS := Lib.hid rw2
    obtain ⟨zs, hzs⟩ : ∃ zs : List Value, zs = List.replicate 6 (.int .i64 0) := ⟨_, rfl⟩
    rw [← hzs] at OUT
    have ZS := Lib.hid hzs
    clear rw1 rw2 rw3 RW hzs
    generalize w.drew.setCells g (k * 6) ((ss.drop (k + 1)).flatMap Sm.cells) = W1 at *
    have CL := fun ty => clear_sm g (ss.length - 1) (ss.length - (ss.length - 1)) (cap - (ss.length - 1)) ty W1 c1 (by omega) R1.out (by have := CS.out; have := RS.out; omega) zs ZS.out
    have OZ := Lib.hid (Only.lays (S := fun j => j = g) rfl zs ((ss.length - 1) * 6) _ OW.out)
    go_wp2
    go_ret
    exact ⟨rfl, OUT.out, OZ.out⟩

/-- all streams, told in memory of the call's own -/
def Told10 (ss : List Sm) (w : World) (e : Ending) (w' : World) : Prop := ∃ A cap, e = .returned (.slice A ss.length cap) ∧ Holds w' A 6 Sm.cells ss ∧ (∀ a, A = some a → w.heap.size ≤ a.block) ∧ Only none_ w w'
theorem own_form10 {w : World} {base : Nat} {v : Value} {ss : List Sm} (h : Owns w base 118 6 Sm.cells v ss) : ∃ a n c, v = .slice a n c := by
  rcases h.2 with ⟨h0, _⟩ | ⟨g, cap, cur, hv, _⟩
  · exact ⟨none, 0, 0, h0⟩
  · exact ⟨_, _, _, hv⟩
theorem Owns.told10 {w : World} {base : Nat} {v : Value} {ss : List Sm} (h : Owns w base 118 6 Sm.cells v ss) : ∃ A cap, v = .slice A ss.length cap ∧ Holds w A 6 Sm.cells ss ∧ ∀ a, A = some a → base ≤ a.block := by
  have h0 : Owns w 0 118 6 Sm.cells v ss := ⟨h.1, h.2.imp id (fun ⟨g, cap, cur, hv, _, r⟩ => ⟨g, cap, cur, hv, Nat.zero_le _, r⟩)⟩
  obtain ⟨A, cap, hv, hh, _⟩ := OwnsSm.form (M := fun _ => True) ⟨h0, fun _ _ => trivial⟩
  refine ⟨A, cap, hv, hh, fun a ha => ?_⟩
  rcases h.2 with ⟨h0, _⟩ | ⟨g, cap', cur, hv', hb, _⟩
  · rw [hv] at h0
    injection h0 with h0
    rw [h0] at ha; cases ha
  · rw [hv] at hv'
    injection hv' with h0
    rw [h0] at ha
    injection ha with ha
    rw [← ha]; exact hb
set_option maxRecDepth 100000 in
set_option maxHeartbeats 1000000 in
theorem clone10_any (v : Value) (ss : List Sm) (w : World) (h : Owns w 0 118 6 Sm.cells v ss) (hl : ss.length ≤ 1000) :
    Calls Tryz.prog 70 #[v] w (Told10 ss w) := by
  rcases h.2 with ⟨hv, h2⟩ | ⟨g, cap, cur, hv, _⟩
  · subst hv
    have hs : ss = [] := List.eq_nil_of_length_eq_zero h2
    subst hs
    have he : ∀ w : World, (binOp .eql 51 (.slice none 0 0) (.slice none 0 0)).run Tryz.prog w = .ok (.bool true) w := fun _ => rfl
    clear h
    go_enter Tryz.func70, Tryz.ntmps70
    go_wp2_with fail
    go_ret
    exact ⟨none, 0, rfl, (fun i a hi => by simp at hi), (fun a q => by cases q), Only.refl none_ w⟩
  · subst hv
    obtain ⟨i0, hi0, hz0, hz1, hz2⟩ := info_parts info_sm
    have own0 : (w.alloc (.cells #[] 118)).ownsRow w.heap.size 118 6 (.slice (some ⟨w.heap.size, 0, none⟩) 0 0) 0 [] := by
      refine ⟨rfl, .inr ⟨w.heap.size, 0, #[], rfl, Nat.le_refl _, ?_, Nat.le_refl _, Nat.zero_le _, rfl, rfl⟩⟩
      exact Row.fresh w 118 #[]
    have O0 := Lib.hid ((Only.refl none_ w).alloc (.cells #[] 118))
    have H := Lib.hid h
    have all_ := Lib.hid (fun j u (hj : (ss.flatMap Sm.cells)[j]? = some u) => O0.out.cell (World.ownsRow.cells h (g := g) rfl j u hj) (fun s => s))
    have OW := Lib.hid own0
    have zz : w.heap.size ≤ (w.alloc (.cells #[] 118)).heap.size := O0.out.size
    have he : ∀ w : World, (binOp .eql 51 (.slice (some ⟨g, 0, none⟩) ss.length cap) (.slice none 0 0)).run Tryz.prog w = .ok (.bool false) w := fun _ => rfl
    clear h own0
    go_enter Tryz.func70, Tryz.ntmps70
    go_wp2_with (at_builtin; go_loud (refine wpList_append_own _ rfl (.tmp 5) (.tmp 6) 51 rfl w.heap.size 118 i0 _ 6 48 Tryz.underlying51 hi0 hz0 hz1 hz2 rfl (by decide) _ 0 [] rfl OW.out ⟨g, 0, none⟩ ss.length cap _ rfl (sm_flat_len _) all_.out (sm_cells_one _) (by unfold maxLen; omega) (by omega) zz ?_))
    intro v1 w1 hown1 hgrow1 _
    have O1 := Lib.hid (O0.out.trans (Only.of_grown hgrow1) (fun j hj q => by have q2 : some j = some w.heap.size := q; injection q2; omega))
    have OW1 : Owns w1 w.heap.size 118 6 Sm.cells v1 ss := by
      unfold Owns
      simpa using hown1
    obtain ⟨A, c1, rfl, hh, hA⟩ := OW1.told10
    have HH := Lib.hid hh
    have HA := Lib.hid hA
    clear hown1 hgrow1 OW1 hh hA
    go_wp2_with fail
    go_ret
    exact ⟨A, c1, rfl, HH.out, HA.out, O1.out⟩
end Go.Proofs.YtlfnncahhbbmpaaGreatDoor

namespace Go.Proofs.YtlfnncahhbbmpaaGreatDoor
open Go.RowKit Go.Maps
set_option linter.unusedVariables false
set_option maxRecDepth 100000

theorem start_may_iff (d b : Int) : (Fl.start 0).May d b ↔ 1 ≤ d ∧ d ≤ 16 ∧ 1 ≤ b ∧ b ≤ 256 := by
  constructor
  · rintro ⟨h1, h2, h3, h4, _⟩
    exact ⟨h1, h2, h3, h4⟩
  · rintro ⟨h1, h2, h3, h4⟩
    unfold Fl.start
    constructor <;> (try dsimp only) <;> omega

set_option maxHeartbeats 1000000 in
theorem new10_yes (c : Cf) (w : World) (h : c.Ok) :
    Calls Tryz.prog 24 #[.int .i64 c.most, .int .i64 c.size, .int .i64 c.life, .int .i64 c.deg, .int .i64 c.blk] w fun e w' => ∃ q, e = .returned (.tuple #[.pointer (some ⟨q, 0, none⟩), .int .i64 0]) ∧ (∃ M : Nat → Prop, ST w' q M c ⟨[], [], 0, 0⟩ ∧ ∀ g, M g → w.heap.size ≤ g) ∧ Only none_ w w' := by
  have h1 := h.m1
  have h2 := h.m16
  have d1 : decide ((c.most : Int) < 1) = false := by simp; omega
  have d2 : decide ((16 : Int) < (c.most : Int)) = false := by simp; omega
  have S := Lib.hid (fun w => start_any 0 w)
  have M := Lib.hid (fun w => may_any (Fl.start 0) c.deg c.blk w)
  have hm := decide_eq_true ((start_may_iff c.deg c.blk).2 ⟨by have := h.d1; omega, by have := h.d16; omega, by have := h.b1; omega, by have := h.b256; omega⟩)
  rw [hm] at M
  have T := Lib.hid (fun w => new8_yes c.size c.life w h.s1 h.s32 h.l1 h.l64)
  clear hm h h1 h2
  go_enter Tryz.func24, Tryz.ntmps24
  go_wp2_with fail
  (with_reducible refine (S.out _).mono ?_)
  rintro e w1 ⟨rfl, o1⟩
  go_wp2_with fail
  (with_reducible refine (M.out _).mono ?_)
  rintro e w2 ⟨rfl, o2⟩
  go_wp2_with fail
  (with_reducible refine (T.out _).mono ?_)
  rintro e w3 ⟨p, b, rfl, ht, lp, lb, o3⟩
  have O3 := Lib.hid ((o1.same o2).same o3)
  have HT := Lib.hid ht
  have lp3 := ht.lt.1
  have lb3 := ht.lt.2
  have LPB := Lib.hid (show w.heap.size ≤ p ∧ w.heap.size ≤ b from ⟨by have := (o1.same o2).size; omega, by have := (o1.same o2).size; omega⟩)
  clear o1 o2 o3 ht lp lb S M T
  go_wp2_with fail
  go_ret2
  have oa := (Only.refl none_ w3).alloc (.cells #[.int .i64 c.most, .int .i64 c.deg, .int .i64 c.blk, .pointer (some ⟨p, 0, none⟩), .slice none 0 0, .int .i64 0, .int .i64 0] 108)
  have r1 := Row.fresh w3 108 #[.int .i64 c.most, .int .i64 c.deg, .int .i64 c.blk, .pointer (some ⟨p, 0, none⟩), .slice none 0 0, .int .i64 0, .int .i64 0]
  refine ⟨w3.heap.size, rfl, ⟨fun g => g = w3.heap.size ∨ g = p ∨ g = b, ⟨p, b, 0, _, r1, ⟨Owns.start _ _ _ _ _, fun g hg => by cases hg⟩, HT.out.still oa, Nat.le_refl _, .inl rfl, .inr (.inl rfl), .inr (.inr rfl), fun g hg => ?_⟩, fun g hg => ?_⟩, O3.out.same oa⟩
  · simp only [World.size_alloc]; omega
  · have := LPB.out
    have := O3.out.size
    omega

set_option maxHeartbeats 1000000 in
theorem new10_no (m s l d b : Int) (w : World) (h : mayCf m s l d b = false) :
    Calls Tryz.prog 24 #[.int .i64 m, .int .i64 s, .int .i64 l, .int .i64 d, .int .i64 b] w fun e w' => e = .returned (.tuple #[.pointer none, .int .i64 1]) ∧ Only none_ w w' := by
  have hn : ¬ (1 ≤ m ∧ m ≤ 16 ∧ (1 ≤ s ∧ s ≤ 32 ∧ 1 ≤ l ∧ l ≤ 64) ∧ 1 ≤ d ∧ d ≤ 16 ∧ 1 ≤ b ∧ b ≤ 256) := of_decide_eq_false h
  clear h
  by_cases h1 : m < 1
  · have d1 : decide (m < 1) = true := by simpa using h1
    clear hn h1
    go_enter Tryz.func24, Tryz.ntmps24
    go_wp2_with fail
    go_ret2
    exact ⟨rfl, Only.refl none_ w⟩
  · have d1 : decide (m < 1) = false := by simpa using h1
    by_cases h2 : 16 < m
    · have d2 : decide (16 < m) = true := by simpa using h2
      clear hn h1 h2
      go_enter Tryz.func24, Tryz.ntmps24
      go_wp2_with fail
      go_ret2
      exact ⟨rfl, Only.refl none_ w⟩
    · have d2 : decide (16 < m) = false := by simpa using h2
      have S := Lib.hid (fun w => start_any 0 w)
      have M := Lib.hid (fun w => may_any (Fl.start 0) d b w)
      by_cases h3 : 1 ≤ d ∧ d ≤ 16 ∧ 1 ≤ b ∧ b ≤ 256
      · rw [decide_eq_true ((start_may_iff d b).2 h3)] at M
        have T := Lib.hid (fun w => new8_no s l w (fun q => hn ⟨by omega, by omega, q, h3⟩))
        clear hn h1 h2 h3
        go_enter Tryz.func24, Tryz.ntmps24
        go_wp2_with fail
        (with_reducible refine (S.out _).mono ?_)
        rintro e w1 ⟨rfl, o1⟩
        go_wp2_with fail
        (with_reducible refine (M.out _).mono ?_)
        rintro e w2 ⟨rfl, o2⟩
        go_wp2_with fail
        (with_reducible refine (T.out _).mono ?_)
        rintro e w3 ⟨rfl, rfl⟩
        have O2 := Lib.hid (o1.same o2)
        clear o1 o2
        go_wp2_with fail
        go_ret2
        exact ⟨rfl, O2.out⟩
      · rw [decide_eq_false (fun q => h3 ((start_may_iff d b).1 q))] at M
        clear hn h1 h2 h3
        go_enter Tryz.func24, Tryz.ntmps24
        go_wp2_with fail
        (with_reducible refine (S.out _).mono ?_)
        rintro e w1 ⟨rfl, o1⟩
        go_wp2_with fail
        (with_reducible refine (M.out _).mono ?_)
        rintro e w2 ⟨rfl, o2⟩
        have O2 := Lib.hid (o1.same o2)
        clear o1 o2
        go_wp2_with fail
        go_ret2
        exact ⟨rfl, O2.out⟩

theorem streams_any {q : Nat} {M : Nat → Prop} {c : Cf} {t : Tr} (w : World) (h : ST w q M c t) (hl : t.ss.length ≤ 1000) :
    Calls Tryz.prog 36 #[.pointer (some ⟨q, 0, none⟩)] w (Told10 t.ss w) := by
  obtain ⟨p, b, L, v, h⟩ := h
  have C := Lib.hid (clone10_any v t.ss w h.own.1 hl)
  have c4 : w.cell? ⟨q, 4, none⟩ = some v := by rw [h.row.cell]; rfl
  obtain ⟨A, n, cap, rfl⟩ := own_form10 h.own.1
  clear h
  go_enter Tryz.func36, Tryz.ntmps36
  go_wp2_with fail
  (with_reducible refine C.out.mono ?_)
  rintro e w1 ⟨B, c1, rfl, hh, hA, o⟩
  have HH := Lib.hid hh
  have HA := Lib.hid hA
  have O := Lib.hid o
  clear hh hA o
  go_wp2_with fail
  go_ret
  exact ⟨B, c1, rfl, HH.out, HA.out, O.out⟩

/-- the table's look, of an access that may be -/
theorem expects_any {q p b L : Nat} {v : Value} {M : Nat → Prop} {c : Cf} {t : Tr} (f n : Int) (w : World) (h : StAt w q p b L v M c t) (hu : t.uses ≤ 1000) (hL : L + 1 ≤ t.uses) :
    Calls Tryz.prog 111 #[.pointer (some ⟨q, 0, none⟩), .int .i64 f, .int .i64 n] w fun e w' => e = .returned (.bool (lookB c.size c.life t.es f n)) ∧ (∃ L', StAt w' q p b L' v M c ⟨t.ss, lookT c.size c.life t.es f n, t.uses, t.begun⟩) ∧ Only M w w' := by
  have C := Lib.hid (look_any p b L c.size c.life t.es f n w h.tab (by omega))
  have c4 : w.cell? ⟨q, 3, none⟩ = some (.pointer (some ⟨p, 0, none⟩)) := by rw [h.row.cell]; rfl
  have H := Lib.hid h
  clear h
  go_enter Tryz.func111, Tryz.ntmps111
  go_wp2_with fail
  (with_reducible refine C.out.mono ?_)
  rintro e w1 ⟨rfl, ⟨L', l1, l2, ht⟩, o⟩
  have HT := Lib.hid ht
  have O := Lib.hid o
  have LL := Lib.hid (show L' ≤ t.uses by omega)
  clear ht o l1 l2 C c4
  go_wp2_with fail
  go_ret
  have K := H.out
  have nq : ¬ two8 p b q := fun k => by have h1 := K.qp; have h2 := K.qb; unfold two8 at k; omega
  have ng : ∀ g, v.ownBlock = some g → ¬ two8 p b g := fun g hg k => by have h1 := K.gp hg; have h2 := K.gb hg; unfold two8 at k; omega
  exact ⟨rfl, ⟨L', O.out.row K.row nq, K.own.keep' O.out ng, HT.out, LL.out, K.mq, K.mp, K.mb, fun g hg => Nat.lt_of_lt_of_le (K.lt g hg) O.out.size⟩, O.out.more (fun i _ k => by unfold two8 at k; rcases k with rfl | rfl; exact K.mp; exact K.mb)⟩
end Go.Proofs.YtlfnncahhbbmpaaGreatDoor

namespace Go.Proofs.YtlfnncahhbbmpaaGreatDoor
open Go.RowKit Go.Maps
set_option linter.unusedVariables false
set_option maxRecDepth 100000

theorem StAt.greater {w : World} {q p b L : Nat} {v : Value} {M : Nat → Prop} {c : Cf} {ss : List Sm} {es : List En} {u n : Nat} (h : StAt w q p b L v M c ⟨ss, es, u, n⟩) : StAt (w.setCell ⟨q, 5, none⟩ (.int .i64 ((n : Int) + 1))) q p b L v M c ⟨ss, es, u, n + 1⟩ := by
  have o := (Only.refl (fun k => k = q) w).into rfl 5 (.int .i64 ((n : Int) + 1))
  have e : (((n + 1 : Nat) : Int)) = (n : Int) + 1 := by omega
  refine ⟨?_, h.own.keep' o (fun g hg => h.gq hg), h.tab.keep o (fun k => h.qp k.symm) (fun k => h.qb k.symm), h.le, h.mq, h.mp, h.mb, fun g hg => Nat.lt_of_lt_of_le (h.lt g hg) o.size⟩
  have r := h.row.put 5 (.int .i64 ((n : Int) + 1))
  rw [← e] at r ⊢
  exact r
/-- the streams lie elsewhere, or are others -/
theorem StAt.other {w w' : World} {q p b L : Nat} {v v' : Value} {M M' : Nat → Prop} {c : Cf} {ss fs : List Sm} {es : List En} {u n : Nat} (h : StAt w q p b L v M c ⟨ss, es, u, n⟩) (o : Only (fun k => some k = v.ownBlock) w w') (ho : OwnsSm w' M' v' fs)
    (hm : ∀ g, M g → M' g) (hl : ∀ g, M' g → g < w'.heap.size) (hn : ∀ g, v'.ownBlock = some g → M g → some g = v.ownBlock) : StAt (w'.setCell ⟨q, 4, none⟩ v') q p b L v' M' c ⟨fs, es, u, n⟩ := by
  have nq : ¬ some q = v.ownBlock := fun k => h.gq k.symm rfl
  have np : ¬ some p = v.ownBlock := fun k => h.gp k.symm rfl
  have nb : ¬ some b = v.ownBlock := fun k => h.gb k.symm rfl
  have o2 := (Only.refl (fun k => k = q) w').into rfl 4 v'
  refine ⟨(o.row h.row nq).put 4 v', ho.keep' o2 (fun g hg k => ?_), (h.tab.keep o np nb).keep o2 (fun k => h.qp k.symm) (fun k => h.qb k.symm), h.le, hm _ h.mq, hm _ h.mp, hm _ h.mb, fun g hg => Nat.lt_of_lt_of_le (hl g hg) o2.size⟩
  subst k
  exact nq (hn _ hg h.mq)

theorem row_form10 {w : World} {base n : Nat} {v : Value} {xs : List Value} (h : w.ownsRow base 118 6 v n xs) : ∃ a n c, v = .slice a n c := by
  rcases h.2 with ⟨h0, _⟩ | ⟨g, cap, cur, hv, _⟩
  · exact ⟨none, 0, 0, h0⟩
  · exact ⟨_, _, _, hv⟩
/-- append to a slice of the call's own, as one step of a region that draws; where it lies behind it -/
theorem step_append_at10 {P : Program} {ops : Array Oper} {o : Oper} {a : Act} {w : World} {K : Act → World → Prop} {Q : Exit → Act → World → Prop} {E : Prop}
    (hg : o.guard = none) (s x : Operand) (t : TypeId) (hop : o.op = Op.call { callee := Callee.builtin Builtin.append, args := #[s, x], argTypes := #[t, t] })
    (base : Nat) (e : TypeId) (i : TypeInfo) (z : Value) (size bytes : Nat) (h1 : P.underlying t = some (.slice e)) (h2 : P.info? e = some i) (h3 : i.zero = some z) (h4 : i.size = size) (h5 : i.bytes = bytes) (h6 : z.cells.size = size) (h7 : 0 < size)
    (v : Value) (k : Nat) (xs : List Value) (hs : a.eval s = v) (hown : w.ownsRow base e size v k xs)
    (ad : Addr) (m c : Nat) (news : List Value) (hx : a.eval x = .slice (some ad) m c) (hn : news.length = m * size) (hc : ∀ j u, news[j]? = some u → w.cell? (ad.add j) = some u) (h1c : ∀ u ∈ news, u.oneCell' = true)
    (b1 : k + m ≤ maxLen) (b2 : (k + m) * bytes ≤ 140737488355328) (b3 : base ≤ w.heap.size)
    (hK : ∀ v' w', w'.ownsRow base e size v' (k + m) (xs ++ news) → w.grownBy w' v.ownBlock → (v'.ownBlock = v.ownBlock ∨ v'.ownBlock = some w.heap.size) → K (a.put o.dst v') w') :
    if Region.wanted o (yielded ops a.tmps) = true then Oper.wp P o a w K Q else E := by
  have hw : Region.wanted o (yielded ops a.tmps) = true := by simp [Region.wanted, hg]
  rw [if_pos hw]
  obtain ⟨v', w', hrun, r1, r2, _, r4⟩ := run_append_own_at (P := P) w base t o.type e i z size bytes h1 h2 h3 h4 h5 h6 h7 v k xs hown ad m c news hn hc h1c b1 b2 b3
  unfold Oper.wp
  simp [execOp, hop, resolve, invoke, builtin, hs, hx, hrun, Result.andThen]
  exact hK v' w' r1 r2 r4
/-- with one more behind all others -/
def Begun (w : World) (q p b L : Nat) (M : Nat → Prop) (c : Cf) (t : Tr) (fs : List Sm) (f : Int) (e : Ending) (w' : World) : Prop :=
  e = .returned (.int .i64 fs.length) ∧ (∃ v' M', StAt w' q p b L v' M' c ⟨fs ++ [⟨t.begun + 1, Fl.start f, 0⟩], t.es, t.uses, t.begun + 1⟩ ∧ ∀ g, M' g → M g ∨ w.heap.size ≤ g) ∧ Only M w w'

set_option maxRecDepth 100000 in
set_option maxHeartbeats 4000000 in
theorem begin_any {q p b L : Nat} {v : Value} {M : Nat → Prop} {c : Cf} {t : Tr} (f : Int) (w : World) (h : StAt w q p b L v M c t) (hf : Fine10 c t) (hu : t.uses ≤ 1000) :
    Calls Tryz.prog 112 #[.pointer (some ⟨q, 0, none⟩), .int .i64 f] w (Begun w q p b L M c t (fewer c.most t.ss) f) := by
  have hfew := hf.few
  have hm16 := hf.ok.m16
  have hm1 := hf.ok.m1
  have hbu := hf.beg
  have SA := Lib.hid (fun w => start_any f w)
  unfold Fl.start Fl.val at SA
  have hw : IntKind.i64.wrap ((t.begun : Int) + 1) = (t.begun : Int) + 1 := by rw [IntKind.wrap_i64]; omega
  obtain ⟨A0, cap0, rfl, hh0, ha0⟩ := h.own.form
  have H := Lib.hid h
  have HF := Lib.hid hf
  have c4 : w.drew.cell? ⟨q, 4, none⟩ = some (.slice A0 t.ss.length cap0) := by show w.cell? _ = _; rw [h.row.cell]; rfl
  have c0 : w.drew.cell? ⟨q, 0, none⟩ = some (.int .i64 c.most) := by show w.cell? _ = _; rw [h.row.cell]; rfl
  clear h hf hh0
  by_cases hlt : t.ss.length = c.most
  · have d1 : ((t.ss.length : Int) == (c.most : Int)) = true := by simp; omega
    have hne : t.ss ≠ [] := fun e => by rw [e] at hlt; simp at hlt; omega
    have FE := Lib.hid (show fewer c.most t.ss = t.ss.eraseIdx ((lowOf t.ss).getD 0) from by unfold fewer; rw [if_pos (by omega)])
    rw [FE.out]
    obtain ⟨g, rfl, _, _, _, hMg⟩ := ha0 hne
    have OL := Lib.hid (oldest10_any w.drew (H.out.still (Only.refl none_ w).drew) HF.out hu hne)
    obtain ⟨k, hk⟩ : ∃ k, k = (lowOf t.ss).getD 0 := ⟨_, rfl⟩
    rw [← hk] at OL ⊢
    obtain ⟨fs, hfs⟩ : ∃ fs, fs = t.ss.eraseIdx k := ⟨_, rfl⟩
    rw [← hfs]
    have FS := Lib.hid hfs
    have hlen : t.ss.length ≤ 1000 := by omega
    have hw1 : IntKind.i64.wrap ((k : Int) + 1) = (k : Int) + 1 ∨ ¬ k < t.ss.length := by
      by_cases q : k < t.ss.length
      · left; rw [IntKind.wrap_i64]; omega
      · right; exact q
    clear FE ha0 hk hfs hne hlt
    go_enter Tryz.func112, Tryz.ntmps112
    go_wp2_with fail
    go_region
    clear c4 c0
    go_wp2_with fail
    (with_reducible refine OL.out.mono ?_)
    rintro e w1 ⟨rfl, hk, o1⟩
    have hw1 : IntKind.i64.wrap ((k : Int) + 1) = (k : Int) + 1 := hw1.resolve_right (fun q => q hk)
    have H1 := Lib.hid (H.out.still ((Only.refl none_ w).drew.same o1))
    have lf : fs.length = t.ss.length - 1 := by rw [FS.out, List.length_eraseIdx, if_pos hk]
    have D := del10_any g cap0 k t.ss w1 H1.out.own.1 hk hlen
    rw [← FS.out, ← lf] at D
    have DD := Lib.hid D
    have O1 := Lib.hid (show Only M w w1 from ((Only.refl none_ w).drew.same o1).up)
    have c4 : w1.cell? ⟨q, 4, none⟩ = some (.slice (some ⟨g, 0, none⟩) t.ss.length cap0) := by rw [H1.out.row.cell]; rfl
    have LF := Lib.hid lf
    clear D lf o1 OL H
    go_wp2_with fail
    (with_reducible refine DD.out.mono ?_)
    rintro e w2 ⟨rfl, hd, o2⟩
    have K := H1.out.other (v' := .slice (some ⟨g, 0, none⟩) fs.length cap0) (M' := M) (o2.more (fun i _ s => by rw [s]; rfl)) ⟨hd, fun g' hg => by injection hg with hg; rw [← hg]; exact hMg⟩ (fun g hg => hg) (fun g hg => Nat.lt_of_lt_of_le (H1.out.lt g hg) o2.size) (fun g' hg _ => hg.symm)
    have H2' := Lib.hid K
    have O2' := Lib.hid ((O1.out.trans o2 (fun i _ s => by subst s; exact hMg)).into H1.out.mq 4 (.slice (some ⟨g, 0, none⟩) fs.length cap0))
    have hfl : fs.length ≤ 1000 := by have := LF.out; omega
    have r2 := o2.row H1.out.row (fun k => H1.out.gq (g := g) rfl k.symm)
    have z4 : w2.frozen? ⟨q, 4, none⟩ = false := r2.frozen 4
    have lq2 := r2.lt
    have k4 : w2.cell? ⟨q, 4, none⟩ = some (.slice (some ⟨g, 0, none⟩) t.ss.length cap0) := by rw [r2.cell]; rfl
    have k5 : (w2.setCell ⟨q, 4, none⟩ (.slice (some ⟨g, 0, none⟩) fs.length cap0)).cell? ⟨q, 5, none⟩ = some (.int .i64 t.begun) := by rw [H2'.out.row.cell]; rfl
    have z5' : (w2.setCell ⟨q, 4, none⟩ (.slice (some ⟨g, 0, none⟩) fs.length cap0)).frozen? ⟨q, 5, none⟩ = false := H2'.out.row.frozen 5
    have H3 := Lib.hid H2'.out.greater
    have O3 := Lib.hid (O2'.out.into H2'.out.mq 5 (.int .i64 ((t.begun : Int) + 1)))
    clear hd o2 K O1 H1 DD c4 r2 H2' O2'
    go_wp2_with fail
    generalize (w2.setCell ⟨q, 4, none⟩ (.slice (some ⟨g, 0, none⟩) fs.length cap0)).setCell ⟨q, 5, none⟩ (.int .i64 ((t.begun : Int) + 1)) = w3 at *
    clear k5 z5' z4 lq2 k4
    obtain ⟨i0, hi0, hz0, hz1, hz2⟩ := info_parts info_sm
    have I0 := Lib.hid hi0
    have I1 := Lib.hid hz0
    have I2 := Lib.hid hz1
    have I3 := Lib.hid hz2
    clear hi0 hz0 hz1 hz2
    have OD := Lib.hid (Only.refl none_ w3).drew
    have KS := Lib.hid (fun w' (o : Only (fun k => k ≠ q) w3 w') => (show w'.cell? ⟨q, 4, none⟩ = some (.slice (some ⟨g, 0, none⟩) fs.length cap0) ∧ w'.cell? ⟨q, 5, none⟩ = some (.int .i64 ((t.begun : Int) + 1)) ∧ w'.frozen? ⟨q, 4, none⟩ = false from by
      have r := o.row H3.out.row (fun k => k rfl)
      exact ⟨by rw [r.cell]; rfl, by rw [r.cell]; rfl, r.frozen 4⟩))
    have OWN := Lib.hid (fun w' (o : Only none_ w3 w') => show w'.ownsRow 0 118 6 (.slice (some ⟨g, 0, none⟩) fs.length cap0) fs.length (fs.flatMap Sm.cells) from (H3.out.own.1.still o))
    have ONES := Lib.hid (show ∀ u ∈ ([.int .i64 ((t.begun : Int) + 1), .int .i64 f, .int .i64 f, .int .i64 1, .int .i64 0, .int .i64 0] : List Value), u.oneCell' = true from fun u hu => by simp only [List.mem_cons, List.not_mem_nil, or_false] at hu; rcases hu with rfl | rfl | rfl | rfl | rfl | rfl <;> rfl)
    obtain ⟨c4, c5, z4⟩ := KS.out _ (OD.out.up)
    have lq3 := H3.out.row.lt
    go_region_law
      (first
        | (refine step_append_at10 rfl (.tmp 40) (.tmp 48) 51 rfl 0 118 i0 _ 6 48 Tryz.underlying51 I0.out I1.out I2.out I3.out rfl (by decide) _ fs.length (fs.flatMap Sm.cells) (by simp [Act.eval]) (OWN.out _ OA.out) ⟨w4.heap.size, 0, none⟩ 1 1 [.int .i64 ((t.begun : Int) + 1), .int .i64 f, .int .i64 f, .int .i64 1, .int .i64 0, .int .i64 0] (by simp [Act.eval]) rfl NEWS.out ONES.out (by unfold maxLen; omega) (by omega) (Nat.zero_le _) ?_
           intro v5 w5 hown5 hgrow5 hat5
           obtain ⟨a5, n5, k5, rfl⟩ := row_form10 hown5
           have G5 := Lib.hid hgrow5
           have AT := Lib.hid hat5
           have W5 := Lib.hid hown5
           have O5 := Lib.hid (OA.out.up.trans (S' := fun k => some k = (Value.slice (some ⟨g, 0, none⟩) fs.length cap0).ownBlock) (Only.of_grown hgrow5) (fun i _ s => fun e => H3.out.gq s.symm e))
           obtain ⟨_, _, y5⟩ := KS.out _ O5.out
           have lq5 : q < w5.heap.size := Nat.lt_of_lt_of_le lq3 O5.out.size
           clear hown5 hgrow5 hat5)
        | (go_simp; go_at_call 41; (with_reducible refine (SA.out _).mono ?_); rintro e w4 ⟨rfl, o4⟩; dsimp only
           have O4 := Lib.hid (OD.out.same o4)
           have OA := Lib.hid (O4.out.alloc (.cells #[.int .i64 ((t.begun : Int) + 1), .int .i64 f, .int .i64 f, .int .i64 1, .int .i64 0, .int .i64 0] 118))
           have NEWS := Lib.hid (show ∀ j u, ([.int .i64 ((t.begun : Int) + 1), .int .i64 f, .int .i64 f, .int .i64 1, .int .i64 0, .int .i64 0] : List Value)[j]? = some u → (w4.alloc (.cells #[.int .i64 ((t.begun : Int) + 1), .int .i64 f, .int .i64 f, .int .i64 1, .int .i64 0, .int .i64 0] 118)).cell? ((Addr.mk w4.heap.size 0 none).add j) = some u from fun j u hj => by rw [add8, Nat.zero_add, (Row.fresh w4 _ _).cell, List.getElem?_toArray]; exact hj)
           obtain ⟨e4, e5, y4⟩ := KS.out _ O4.out.up
           obtain ⟨f4, f5, g4⟩ := KS.out _ OA.out.up
           have lq4 : q < w4.heap.size := Nat.lt_of_lt_of_le lq3 O4.out.size
           clear o4)
        | fail)
    all_goals
      have ow : Owns w5 0 118 6 Sm.cells (.slice a5 n5 k5) (fs ++ [⟨t.begun + 1, Fl.start f, 0⟩]) := by
        unfold Owns
        have k := W5.out
        rw [List.flatMap_append, List.length_append]
        simpa [Sm.cells, Fl.start] using k
      have z0 : w3.heap.size ≤ w5.heap.size := O5.out.size
      have zA := OA.out.size
      have K := (H3.out.still OA.out).other (v' := .slice a5 n5 k5) (M' := fun g => M g ∨ (w3.heap.size ≤ g ∧ g < w5.heap.size)) (Only.of_grown G5.out) ⟨ow, fun g hg => by
          rcases AT.out with k | k
          · exact .inl (H3.out.own.2 g (by rw [← k]; exact hg))
          · have lg := (ow.base_le hg).2
            rw [k] at hg
            injection hg with hg
            exact .inr ⟨by omega, by omega⟩⟩ (fun g hg => .inl hg) (fun g hg => by
          rcases hg with hg | hg
          · have := H3.out.lt g hg; omega
          · exact hg.2) (fun g hg hm => by
          rcases AT.out with k | k
          · rw [← k]; exact hg.symm
          · rw [k] at hg
            injection hg with hg
            have := H3.out.lt g hm
            omega)
      have RW := Lib.hid K.row
      have O6 := Lib.hid (show Only M w (w5.setCell ⟨q, 4, none⟩ (.slice a5 n5 k5)) from ((O3.out.idle OA.out).trans (S' := fun k => some k = (Value.slice (some ⟨g, 0, none⟩) fs.length cap0).ownBlock) (Only.of_grown G5.out) (fun i _ s => H3.out.own.2 i s.symm)).into H3.out.mq 4 _)
      have KK := Lib.hid K
      have zz := O3.out.size
      have LN := Lib.hid (show a5 = a5 ∧ n5 = fs.length + 1 from ⟨rfl, by
        have h5 := W5.out.2
        rcases h5 with ⟨_, h5⟩ | ⟨g, c', cur, hv, _⟩
        · omega
        · injection hv⟩)
      clear K ow
      generalize w5.setCell ⟨q, 4, none⟩ (.slice a5 n5 k5) = w6 at *
      have c4 : w6.cell? ⟨q, 4, none⟩ = some (.slice a5 n5 k5) := by rw [RW.out.cell]; rfl
      have nn : n5 = fs.length + 1 := LN.out.2
      subst nn
      go_wp2_with fail
      go_ret
      exact ⟨rfl, ⟨_, _, KK.out, fun g hg => hg.imp id (fun k => by omega)⟩, O6.out⟩
  · have d1 : ((t.ss.length : Int) == (c.most : Int)) = false := by simp; omega
    have FE := Lib.hid (show fewer c.most t.ss = t.ss from by unfold fewer; rw [if_neg (by omega)])
    rw [FE.out]
    clear FE ha0
    go_enter Tryz.func112, Tryz.ntmps112
    go_wp2_with fail
    go_region
    clear c4 c0
    obtain ⟨w2, hw2⟩ : ∃ w2, w2 = w.drew := ⟨_, rfl⟩
    have O2 := Lib.hid (show Only M w w2 from by rw [hw2]; exact (Only.refl M w).drew)
    have H2 := Lib.hid (show StAt w2 q p b L (.slice A0 t.ss.length cap0) M c ⟨t.ss, t.es, t.uses, t.begun⟩ from by rw [hw2]; exact H.out.still (Only.refl none_ w).drew)
    rw [← hw2]
    clear hw2 H
    have c5 : w2.cell? ⟨q, 5, none⟩ = some (.int .i64 t.begun) := by rw [H2.out.row.cell]; rfl
    have z5 : w2.frozen? ⟨q, 5, none⟩ = false := H2.out.row.frozen 5
    have H3 := Lib.hid H2.out.greater
    have O3 := Lib.hid (O2.out.into H2.out.mq 5 (.int .i64 ((t.begun : Int) + 1)))
    clear H2 O2
    go_wp2_with fail
    generalize w2.setCell ⟨q, 5, none⟩ (.int .i64 ((t.begun : Int) + 1)) = w3 at *
    clear c5 z5
    obtain ⟨i0, hi0, hz0, hz1, hz2⟩ := info_parts info_sm
    have I0 := Lib.hid hi0
    have I1 := Lib.hid hz0
    have I2 := Lib.hid hz1
    have I3 := Lib.hid hz2
    clear hi0 hz0 hz1 hz2
    have OD := Lib.hid (Only.refl none_ w3).drew
    have KS := Lib.hid (fun w' (o : Only (fun k => k ≠ q) w3 w') => (show w'.cell? ⟨q, 4, none⟩ = some (.slice A0 t.ss.length cap0) ∧ w'.cell? ⟨q, 5, none⟩ = some (.int .i64 ((t.begun : Int) + 1)) ∧ w'.frozen? ⟨q, 4, none⟩ = false from by
      have r := o.row H3.out.row (fun k => k rfl)
      exact ⟨by rw [r.cell]; rfl, by rw [r.cell]; rfl, r.frozen 4⟩))
    have OWN := Lib.hid (fun w' (o : Only none_ w3 w') => show w'.ownsRow 0 118 6 (.slice A0 t.ss.length cap0) t.ss.length (t.ss.flatMap Sm.cells) from (H3.out.own.1.still o))
    have ONES := Lib.hid (show ∀ u ∈ ([.int .i64 ((t.begun : Int) + 1), .int .i64 f, .int .i64 f, .int .i64 1, .int .i64 0, .int .i64 0] : List Value), u.oneCell' = true from fun u hu => by simp only [List.mem_cons, List.not_mem_nil, or_false] at hu; rcases hu with rfl | rfl | rfl | rfl | rfl | rfl <;> rfl)
    obtain ⟨c4, c5, z4⟩ := KS.out _ (OD.out.up)
    have lq3 := H3.out.row.lt
    go_region_law
      (first
        | (refine step_append_at10 rfl (.tmp 40) (.tmp 48) 51 rfl 0 118 i0 _ 6 48 Tryz.underlying51 I0.out I1.out I2.out I3.out rfl (by decide) _ t.ss.length (t.ss.flatMap Sm.cells) (by simp [Act.eval]) (OWN.out _ OA.out) ⟨w4.heap.size, 0, none⟩ 1 1 [.int .i64 ((t.begun : Int) + 1), .int .i64 f, .int .i64 f, .int .i64 1, .int .i64 0, .int .i64 0] (by simp [Act.eval]) rfl NEWS.out ONES.out (by unfold maxLen; omega) (by omega) (Nat.zero_le _) ?_
           intro v5 w5 hown5 hgrow5 hat5
           obtain ⟨a5, n5, k5, rfl⟩ := row_form10 hown5
           have G5 := Lib.hid hgrow5
           have AT := Lib.hid hat5
           have W5 := Lib.hid hown5
           have O5 := Lib.hid (OA.out.up.trans (S' := fun k => some k = (Value.slice A0 t.ss.length cap0).ownBlock) (Only.of_grown hgrow5) (fun i _ s => fun e => H3.out.gq s.symm e))
           obtain ⟨_, _, y5⟩ := KS.out _ O5.out
           have lq5 : q < w5.heap.size := Nat.lt_of_lt_of_le lq3 O5.out.size
           clear hown5 hgrow5 hat5)
        | (go_simp; go_at_call 41; (with_reducible refine (SA.out _).mono ?_); rintro e w4 ⟨rfl, o4⟩; dsimp only
           have O4 := Lib.hid (OD.out.same o4)
           have OA := Lib.hid (O4.out.alloc (.cells #[.int .i64 ((t.begun : Int) + 1), .int .i64 f, .int .i64 f, .int .i64 1, .int .i64 0, .int .i64 0] 118))
           have NEWS := Lib.hid (show ∀ j u, ([.int .i64 ((t.begun : Int) + 1), .int .i64 f, .int .i64 f, .int .i64 1, .int .i64 0, .int .i64 0] : List Value)[j]? = some u → (w4.alloc (.cells #[.int .i64 ((t.begun : Int) + 1), .int .i64 f, .int .i64 f, .int .i64 1, .int .i64 0, .int .i64 0] 118)).cell? ((Addr.mk w4.heap.size 0 none).add j) = some u from fun j u hj => by rw [add8, Nat.zero_add, (Row.fresh w4 _ _).cell, List.getElem?_toArray]; exact hj)
           obtain ⟨e4, e5, y4⟩ := KS.out _ O4.out.up
           obtain ⟨f4, f5, g4⟩ := KS.out _ OA.out.up
           have lq4 : q < w4.heap.size := Nat.lt_of_lt_of_le lq3 O4.out.size
           clear o4)
        | fail)
    all_goals
      have ow : Owns w5 0 118 6 Sm.cells (.slice a5 n5 k5) (t.ss ++ [⟨t.begun + 1, Fl.start f, 0⟩]) := by
        unfold Owns
        have k := W5.out
        rw [List.flatMap_append, List.length_append]
        simpa [Sm.cells, Fl.start] using k
      have z0 : w3.heap.size ≤ w5.heap.size := O5.out.size
      have zA := OA.out.size
      have K := (H3.out.still OA.out).other (v' := .slice a5 n5 k5) (M' := fun g => M g ∨ (w3.heap.size ≤ g ∧ g < w5.heap.size)) (Only.of_grown G5.out) ⟨ow, fun g hg => by
          rcases AT.out with k | k
          · exact .inl (H3.out.own.2 g (by rw [← k]; exact hg))
          · have lg := (ow.base_le hg).2
            rw [k] at hg
            injection hg with hg
            exact .inr ⟨by omega, by omega⟩⟩ (fun g hg => .inl hg) (fun g hg => by
          rcases hg with hg | hg
          · have := H3.out.lt g hg; omega
          · exact hg.2) (fun g hg hm => by
          rcases AT.out with k | k
          · rw [← k]; exact hg.symm
          · rw [k] at hg
            injection hg with hg
            have := H3.out.lt g hm
            omega)
      have RW := Lib.hid K.row
      have O6 := Lib.hid (show Only M w (w5.setCell ⟨q, 4, none⟩ (.slice a5 n5 k5)) from ((O3.out.idle OA.out).trans (S' := fun k => some k = (Value.slice A0 t.ss.length cap0).ownBlock) (Only.of_grown G5.out) (fun i _ s => H3.out.own.2 i s.symm)).into H3.out.mq 4 _)
      have KK := Lib.hid K
      have zz := O3.out.size
      have LN := Lib.hid (show a5 = a5 ∧ n5 = t.ss.length + 1 from ⟨rfl, by
        have h5 := W5.out.2
        rcases h5 with ⟨_, h5⟩ | ⟨g, c', cur, hv, _⟩
        · omega
        · injection hv⟩)
      clear K ow
      generalize w5.setCell ⟨q, 4, none⟩ (.slice a5 n5 k5) = w6 at *
      have c4 : w6.cell? ⟨q, 4, none⟩ = some (.slice a5 n5 k5) := by rw [RW.out.cell]; rfl
      have nn : n5 = t.ss.length + 1 := LN.out.2
      subst nn
      go_wp2_with fail
      go_ret
      exact ⟨rfl, ⟨_, _, KK.out, fun g hg => hg.imp id (fun k => by omega)⟩, O6.out⟩
end Go.Proofs.YtlfnncahhbbmpaaGreatDoor
