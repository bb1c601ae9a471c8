/- The document's own Find and Without. -/
import Derived.Test.YtpmhpamajkhhiaaInt
import Derived.Deep.RegionLaw
namespace Go.Proofs.Ytpmhpamajkhhiaa
open Go.RowKit
set_option linter.unusedVariables false

/-- the place of a number in a list; -1: it isn't there -/
def findI (xs : List Int) (x : Int) : Int := if x ∈ xs then (xs.idxOf x : Int) else -1
theorem findI_at {xs : List Int} {x : Int} {k : Nat} (h : xs[k]? = some x) (hb : x ∉ xs.take k) : findI xs x = k := by
  have hm : x ∈ xs := List.mem_of_getElem? h
  unfold findI
  rw [if_pos hm]
  have hk : k < xs.length := by
    rcases Nat.lt_or_ge k xs.length with c | c
    · exact c
    · rw [List.getElem?_eq_none c] at h; cases h
  have e : xs = xs.take k ++ x :: xs.drop (k + 1) := by
    have h1 := List.take_append_drop k xs
    rw [List.drop_eq_getElem_cons hk] at h1
    rw [List.getElem?_eq_getElem hk] at h
    injection h with h
    rw [h] at h1
    exact h1.symm
  rw [e, List.idxOf_append, if_neg hb, List.idxOf_cons_self]
  simp
  omega
theorem findI_no {xs : List Int} {x : Int} (h : x ∉ xs) : findI xs x = -1 := by
  unfold findI; rw [if_neg h]
theorem not_take_more {xs : List Int} {x y : Int} {k : Nat} (h : x ∉ xs.take k) (hk : xs[k]? = some y) (hne : ¬ y = x) : x ∉ xs.take (k + 1) := by
  rw [List.take_add_one, hk]
  simp only [Option.toList_some, List.mem_append, List.mem_singleton, not_or]
  exact ⟨h, fun e => hne e.symm⟩

set_option maxHeartbeats 1000000 in
theorem find_any (v : Value) (xs : List Int) (x : Int) (w : World) (hr : Reads w v xs) (hm : xs.length ≤ 1000000) :
    Calls Try.prog 19 #[v, .int .i64 x] w fun e w' => e = .returned (.int .i64 (findI xs x)) ∧ w = w' := by
  obtain ⟨a, ca, rfl, ha⟩ := hr
  have HA := Lib.hid ha
  clear ha
  go_enter Try.func19, Try.ntmps19
  go_wp2_with fail
  go_loop [5] (fun i => ∃ k : Nat, k ≤ xs.length ∧ i = .int .i64 k ∧ x ∉ xs.take k) (fun i => xs.length - (intOf i).toNat)
  case atStart => exact ⟨0, Nat.zero_le _, rfl, by simp⟩
  case round =>
    obtain ⟨k, hk, rfl, hn⟩ := hrel
    have HN := Lib.hid hn
    clear hn
    by_cases hlt : k < xs.length
    · obtain ⟨y, hy⟩ : ∃ y, xs[k]? = some y := ⟨_, List.getElem?_eq_getElem hlt⟩
      obtain ⟨g1, o1, rfl, c1⟩ := HA.out k y hy
      have HY := Lib.hid hy
      clear hy
      by_cases e : y = x
      · have t : (y == x) = true := by simp [e]
        have FE := Lib.hid (findI_at (HY.out.trans (by rw [e])) HN.out)
        clear e
        go_wp2_with fail
        go_ret
        exact ⟨by rw [FE.out]; rfl, rfl⟩
      · have t : (y == x) = false := by simpa using e
        have NX := Lib.hid (not_take_more HN.out HY.out e)
        clear e
        go_wp2_with fail
        go_round
        case rel => exact ⟨k + 1, by omega, by go_num, NX.out⟩
        case measure => simp [intOf]; omega
    · have hge : xs.length ≤ k := by omega
      have FE := Lib.hid (findI_no (xs := xs) (x := x) (by
        have := HN.out
        rw [List.take_of_length_le hge] at this
        exact this))
      go_wp2_with fail
      go_ret
      exact ⟨by rw [FE.out]; rfl, rfl⟩

/-- append to a slice of the call's own, as one step of a region that draws -/
theorem step_append_mine {P : Program} {ops : Array Oper} {o : Oper} {a : Act} {w : World} {K : Act → World → Prop} {Q : Exit → Act → World → Prop} {E : Prop}
    (hg : o.guard = none) (s x : Operand) (t : TypeId) (hop : o.op = Op.call { callee := Callee.builtin Builtin.append, args := #[s, x], argTypes := #[t, t] })
    (base : Nat) (e : TypeId) (i : TypeInfo) (z : Value) (size bytes : Nat) (h1 : P.underlying t = some (.slice e)) (h2 : P.info? e = some i) (h3 : i.zero = some z) (h4 : i.size = size) (h5 : i.bytes = bytes) (h6 : z.cells.size = size) (h7 : 0 < size)
    (v : Value) (k : Nat) (xs : List Value) (hs : a.eval s = v) (hown : w.ownsRow base e size v k xs)
    (ad : Addr) (m c : Nat) (news : List Value) (hx : a.eval x = .slice (some ad) m c) (hn : news.length = m * size) (hc : ∀ j u, news[j]? = some u → w.cell? (ad.add j) = some u) (h1c : ∀ u ∈ news, u.oneCell' = true)
    (b1 : k + m ≤ maxLen) (b2 : (k + m) * bytes ≤ 140737488355328) (b3 : base ≤ w.heap.size)
    (hK : ∀ v' w', w'.ownsRow base e size v' (k + m) (xs ++ news) → w.grownBy w' v.ownBlock → K (a.put o.dst v') w') :
    if Region.wanted o (yielded ops a.tmps) = true then Oper.wp P o a w K Q else E := by
  have hw : Region.wanted o (yielded ops a.tmps) = true := by simp [Region.wanted, hg]
  rw [if_pos hw]
  obtain ⟨v', w', hrun, r1, r2, _⟩ := run_append_own (P := P) w base t o.type e i z size bytes h1 h2 h3 h4 h5 h6 h7 v k xs hown ad m c news hn hc h1c b1 b2 b3
  unfold Oper.wp
  simp [execOp, hop, resolve, invoke, builtin, hs, hx, hrun, Result.andThen]
  exact hK v' w' r1 r2

set_option maxHeartbeats 4000000 in
theorem without_any (v : Value) (xs : List Int) (i base : Nat) (w : World) (hr : OwnsInts w base v xs) (hm : xs.length ≤ 1000000) (hi : i < xs.length) :
    Calls Try.prog 24 #[v, .int .i64 i] w fun e w' => ∃ v', e = .returned v' ∧ OwnsInts w' w.heap.size v' (xs.take i ++ xs.drop (i + 1)) ∧ Only none_ w w' := by
  obtain ⟨g, ca, rfl, hg, hg2, hca, hmx⟩ := hr.form (by intro e; rw [e] at hi; cases hi)
  have HR := Lib.hid hr
  clear hr
  obtain ⟨i0, hi0, hz0, hz1, hz2⟩ := info_parts info_int8
  have I0 := Lib.hid hi0
  have I1 := Lib.hid hz0
  have I2 := Lib.hid hz1
  have I3 := Lib.hid hz2
  clear hi0 hz0 hz1 hz2
  have hw : IntKind.i64.wrap ((i : Int) + 1) = ((i + 1 : Nat) : Int) := by rw [IntKind.wrap_i64]; omega
  have hw2 : IntKind.i64.wrap ((i : Int) + 1) = (i : Int) + 1 := by rw [IntKind.wrap_i64]; omega
  have b1 : i ≤ ca := by omega
  have b2 : (i : Int) + 1 ≤ (xs.length : Int) := by omega
  have b3 : i + 1 ≤ xs.length := by omega
  have b4 : (0 : Int) ≤ (i : Int) + 1 := by omega
  have hadd : ∀ b o n, (Addr.mk b o none).add n = ⟨b, o + n, none⟩ := fun b o n => by
    unfold Addr.add
    split
    · rename_i z; rw [z]; rfl
    · rfl
  have hc1 : ∀ (W : World), Only none_ w W → ∀ j u, ((xs.take i).map (Value.int .i64))[j]? = some u → W.cell? ((Addr.mk g 0 none).add j) = some u := fun W o j u hj => by
    rw [List.getElem?_map, Option.map_eq_some_iff] at hj
    obtain ⟨x, hx, rfl⟩ := hj
    have hji : j < i := by have := lt_of_get hx; rw [List.length_take] at this; omega
    rw [List.getElem?_take_of_lt hji] at hx
    rw [hadd]
    have := Owns.cell HR.out one1 hx (j := 0) (by decide)
    refine o.cell ?_ (fun s => s)
    simpa [one] using this
  have hc2 : ∀ (W : World), Only none_ w W → ∀ j u, ((xs.drop (i + 1)).map (Value.int .i64))[j]? = some u → W.cell? ((Addr.mk g (i + 1) none).add j) = some u := fun W o j u hj => by
    rw [List.getElem?_map, Option.map_eq_some_iff] at hj
    obtain ⟨x, hx, rfl⟩ := hj
    rw [List.getElem?_drop] at hx
    rw [hadd]
    have := Owns.cell HR.out one1 hx (j := 0) (by decide)
    refine o.cell ?_ (fun s => s)
    simpa [one] using this
  have n1 : ((xs.take i).map (Value.int .i64)).length = i * 1 := by rw [List.length_map, List.length_take]; omega
  have n2 : ((xs.drop (i + 1)).map (Value.int .i64)).length = (xs.length - (i + 1)) * 1 := by rw [List.length_map, List.length_drop]; omega
  have oc : ∀ l : List Int, ∀ u ∈ l.map (Value.int .i64), u.oneCell' = true := fun l u hu => by
    obtain ⟨x, _, rfl⟩ := List.mem_map.1 hu
    rfl
  have own0 : ((w.alloc (.cells #[] 3)).drew).ownsRow w.heap.size 3 1 (.slice (some ⟨w.heap.size, 0, none⟩) 0 0) 0 [] := by
    refine ⟨rfl, .inr ⟨w.heap.size, 0, #[], rfl, Nat.le_refl _, ?_, Nat.le_refl _, Nat.zero_le _, rfl, rfl⟩⟩
    exact Row.fresh w 3 #[]
  have O0 := ((Only.refl none_ w).alloc (.cells #[] 3)).drew
  have zO : w.heap.size ≤ ((w.alloc (.cells #[] 3)).drew).heap.size := O0.size
  have HC1 := Lib.hid hc1
  have HC2 := Lib.hid hc2
  have N1 := Lib.hid n1
  have N2 := Lib.hid n2
  have OW0 := Lib.hid own0
  have OO0 := Lib.hid O0
  clear hc1 hc2 n1 n2 own0 O0 hadd
  by_cases hcc : ca = i + 1
  · subst hcc
    have xl : xs.length = i + 1 := by omega
    have F := Lib.hid (show ∀ v2 w2, w2.ownsRow w.heap.size 3 1 v2 (0 + i + 0) ([] ++ (xs.take i).map (Value.int .i64) ++ ([] : List Int).map (Value.int .i64)) → OwnsInts w2 w.heap.size v2 (xs.take i ++ xs.drop (i + 1)) from fun v2 w2 h => by
      have D3 : xs.drop (i + 1) = [] := List.drop_of_length_le (by omega)
      show World.ownsRow _ _ _ _ _ _ _
      rw [D3, one_map, List.map_append, List.length_append, List.length_take]
      have e : min i xs.length + ([] : List Int).length = 0 + i + 0 := by simp; omega
      rw [e]
      simpa using h)
    have b5 : (i : Int) ≤ (i : Int) + 1 := by omega
    have N3 := Lib.hid (show (([] : List Int).map (Value.int .i64)).length = 0 * 1 from rfl)
    go_enter Try.func24, Try.ntmps24
    go_wp2_with fail
    go_region_law (first
      | (refine step_append_mine rfl (.tmp 5) (.tmp 8) 35 rfl w.heap.size 3 i0 _ 1 8 Try.underlying35 I0.out I1.out I2.out I3.out rfl (by decide) _ 0 [] rfl OW0.out ⟨g, 0, none⟩ i (i + 1) _ rfl N1.out (HC1.out _ OO0.out) (oc _) (by unfold maxLen; omega) (by omega) zO ?_
         intro v1 w1 hown1 hgrow1
         have O1 := Lib.hid (OO0.out.trans (Only.of_grown hgrow1) (fun j hj q => by have q2 : some j = some w.heap.size := q; injection q2; omega))
         have OW1 := Lib.hid hown1
         have z1 : w.heap.size ≤ w1.heap.size := O1.out.size
         clear hown1 hgrow1)
      | (refine step_append_mine rfl (.tmp 9) (.tmp 13) 35 rfl w.heap.size 3 i0 _ 1 8 Try.underlying35 I0.out I1.out I2.out I3.out rfl (by decide) _ (0 + i) _ rfl OW1.out ⟨g, 0, none⟩ 0 0 _ rfl N3.out (fun j u hj => by simp at hj) (oc _) (by unfold maxLen; omega) (by omega) z1 ?_
         intro v2 w2 hown2 hgrow2
         have O2 := Lib.hid (O1.out.trans (Only.of_grown hgrow2) (fun j hj q => by have := (World.ownsRow.lt OW1.out j q.symm).1; omega))
         have OW2 := Lib.hid hown2
         clear hown2 hgrow2))
    all_goals
      go_wp2
      go_ret
      exact ⟨_, rfl, F.out _ _ OW2.out, O2.out⟩
  · have F := Lib.hid (show ∀ v2 w2, w2.ownsRow w.heap.size 3 1 v2 (0 + i + (xs.length - (i + 1))) ([] ++ (xs.take i).map (Value.int .i64) ++ (xs.drop (i + 1)).map (Value.int .i64)) → OwnsInts w2 w.heap.size v2 (xs.take i ++ xs.drop (i + 1)) from fun v2 w2 h => by
      show World.ownsRow _ _ _ _ _ _ _
      rw [one_map, List.map_append, List.length_append, List.length_take, List.length_drop]
      have e : min i xs.length + (xs.length - (i + 1)) = 0 + i + (xs.length - (i + 1)) := by omega
      rw [e]
      simpa using h)
    go_enter Try.func24, Try.ntmps24
    go_wp2_with fail
    go_region_law (first
      | (refine step_append_mine rfl (.tmp 5) (.tmp 8) 35 rfl w.heap.size 3 i0 _ 1 8 Try.underlying35 I0.out I1.out I2.out I3.out rfl (by decide) _ 0 [] rfl OW0.out ⟨g, 0, none⟩ i ca _ rfl N1.out (HC1.out _ OO0.out) (oc _) (by unfold maxLen; omega) (by omega) zO ?_
         intro v1 w1 hown1 hgrow1
         have O1 := Lib.hid (OO0.out.trans (Only.of_grown hgrow1) (fun j hj q => by have q2 : some j = some w.heap.size := q; injection q2; omega))
         have OW1 := Lib.hid hown1
         have z1 : w.heap.size ≤ w1.heap.size := O1.out.size
         clear hown1 hgrow1)
      | (refine step_append_mine rfl (.tmp 9) (.tmp 13) 35 rfl w.heap.size 3 i0 _ 1 8 Try.underlying35 I0.out I1.out I2.out I3.out rfl (by decide) _ (0 + i) _ rfl OW1.out ⟨g, i + 1, none⟩ (xs.length - (i + 1)) (ca - (i + 1)) _ rfl N2.out (HC2.out _ O1.out) (oc _) (by unfold maxLen; omega) (by omega) z1 ?_
         intro v2 w2 hown2 hgrow2
         have O2 := Lib.hid (O1.out.trans (Only.of_grown hgrow2) (fun j hj q => by have := (World.ownsRow.lt OW1.out j q.symm).1; omega))
         have OW2 := Lib.hid hown2
         clear hown2 hgrow2))
    all_goals
      go_wp2
      go_ret
      exact ⟨_, rfl, F.out _ _ OW2.out, O2.out⟩
end Go.Proofs.Ytpmhpamajkhhiaa
