/- However many read one block, plainly: one ticket, one move. -/
import Derived.Test.YtfbpjobobdidiaaGreatDoorSp16
namespace Go.Proofs.YtfbpjobobdidiaaGreatDoor
open Go.RowKit Go.Maps
set_option linter.unusedVariables false
set_option maxRecDepth 100000
def tkJ (b : Int) (out : Bool) : Tk := ⟨1, 1, b, 1, 0, out, out, false, 0⟩
def gJ (n : Nat) : List Sx := (List.range n).map (fun j : Nat => ⟨1, wtS j⟩)
def mvJ (b : Int) : Mv := ⟨1, false, b, 1, [1], [], [b]⟩
/-- n have read block b; behind the (k + 1)st the move went out -/
def jnE (o : Opt) (b : Int) (n : Nat) (out : Bool) : Eng := ⟨o, [⟨1, false, !out⟩], gJ n, [tkJ b out], if out then [mvJ b] else [], 1, if out then 1 else 0⟩
def stJ (o : Opt) (b : Int) (k i : Nat) : Eng := if i = 0 then E0 o else jnE o b i (decide (k < i))
theorem gJ_more (n : Nat) : gJ (n + 1) = gJ n ++ [⟨1, wtS n⟩] := by unfold gJ; rw [List.range_succ, List.map_append]; rfl
theorem gJ_len (n : Nat) : (gJ n).length = n := by unfold gJ; rw [List.length_map, List.length_range]
theorem gJ_waits (n : Nat) : waitsB (gJ n) (wtS n) = false := by
  cases q : waitsB (gJ n) (wtS n) with
  | false => rfl
  | true =>
    unfold waitsB at q
    rw [List.any_eq_true] at q
    obtain ⟨x, hx, e⟩ := q
    obtain ⟨j, hj, rfl⟩ := List.mem_map.1 hx
    have := List.mem_range.1 hj
    have e2 : wtS j = wtS n := by simpa using e
    unfold wtS at e2
    simp only [Wt.mk.injEq] at e2
    omega
theorem gJ_of (n : Nat) : ofL (gJ n) 1 = (List.range n).map wtS := by
  unfold ofL gJ
  rw [List.filter_eq_self.2 (fun q hq => by
    obtain ⟨j, _, rfl⟩ := List.mem_map.1 hq
    exact decide_eq_true rfl), List.map_map]
  rfl
section
variable {o : Opt} {b : Int} {n k i : Nat} {out : Bool}
theorem mayP_w (j : Nat) : mayP (wtS j) := by unfold mayP wtS; dsimp only; omega
theorem jn_head : (jnE o b n out).head b = some (tkJ b out) := by
  unfold Eng.head Eng.lane jnE
  simp [tkJ]
theorem jn_last : (jnE o b n out).last b = some (tkJ b out) := by
  unfold Eng.last Eng.lane jnE
  simp [tkJ]
theorem jn_read (h0 : 0 ≤ b) (h1 : b < o.b0) (h3 : (n : Int) < o.b9) : (jnE o b n out).readC b 1 (wtS n) = 0 ∧ (jnE o b n out).read b 1 (wtS n) = jnE o b (n + 1) out := by
  have hs : (jnE o b n out).has b = true := decide_eq_true ⟨h0, h1⟩
  have nd : (jnE o b n out).needs b = false := by
    unfold Eng.needs
    rw [hs, jn_last]
    rfl
  have rc : (jnE o b n out).readC b 1 (wtS n) = 0 := by
    unfold Eng.readC
    rw [if_pos ⟨hs, .inr rfl⟩, nd]
    unfold Eng.refC
    rw [if_pos (mayP_w n), show waitsB (jnE o b n out).g (wtS n) = false from gJ_waits n, if_neg (by decide), if_neg]
    unfold Eng.fw
    rw [show (jnE o b n out).g.length = n from gJ_len n]
    show ¬ (o.b9 - (n : Int) = 0 ∨ _)
    rintro (q | ⟨q, _⟩)
    · omega
    · cases q
  refine ⟨rc, ?_⟩
  have jn : joins ((jnE o b n out).last b) = true := by rw [jn_last]; rfl
  have rt : (jnE o b n out).readT b = 1 := by
    unfold Eng.readT
    rw [jn, if_pos rfl, jn_last]
    rfl
  have rb : (jnE o b n out).readB b = jnE o b n out := by
    unfold Eng.readB
    rw [jn, if_pos rfl, jn_last, if_neg (show ¬ ((some (tkJ b out)).getD default).kind = 3 from fun q => absurd (show (1 : Int) = 3 from q) (by decide))]
  unfold Eng.read
  rw [if_pos rc, rt, rb]
  unfold Eng.add Eng.upd jnE
  dsimp only
  rw [gJ_more]
  rfl
theorem j0_read (h0 : 0 ≤ b) (h1 : b < o.b0) (h2 : 1 ≤ o.b3) (h3 : 1 ≤ o.b9) : (E0 o).readC b 1 (wtS 0) = 0 ∧ (E0 o).read b 1 (wtS 0) = jnE o b 1 false := by
  have hs : (E0 o).has b = true := decide_eq_true ⟨h0, h1⟩
  have rc : (E0 o).readC b 1 (wtS 0) = 0 := by
    unfold Eng.readC
    rw [if_pos ⟨hs, .inr rfl⟩]
    unfold Eng.refC
    rw [if_pos (mayP_w 0), show waitsB (E0 o).g (wtS 0) = false from rfl, if_neg (by decide), if_neg]
    show ¬ (o.b9 - (0 : Int) = 0 ∨ _ ∧ o.b3 - (0 : Int) = 0)
    omega
  refine ⟨rc, ?_⟩
  unfold Eng.read
  rw [if_pos rc]
  rfl
theorem stJ_read (h0 : 0 ≤ b) (h1 : b < o.b0) (h2 : 1 ≤ o.b3) (h3 : (i : Int) < o.b9) (iv : Inv (stJ o b k i)) :
    (stJ o b k i).read b 1 (wtS i) = jnE o b (i + 1) (decide (k < i)) ∧ readA (stJ o b k i) b 1 (wtS i) = .tuple #[.agg #[.int .i64 1, .int .i64 1, .int .i64 b, .int .i64 1, .int .i64 0, .int .i64 ((i : Int) + 1), .bool (decide (k < i)), .bool (decide (k < i)), .bool false], .bool (decide (0 < i)), .bool false, .int .i64 0] := by
  have cnt : ∀ (n : Nat) (out : Bool), (jnE o b n out).cnt 1 = (n : Int) := fun n out => by
    unfold Eng.cnt
    rw [show (jnE o b n out).g = gJ n from rfl, gJ_of, List.length_map, List.length_range]
  unfold stJ at iv ⊢
  by_cases hi : i = 0
  · subst hi
    rw [if_pos rfl] at iv ⊢
    obtain ⟨rc, rd⟩ := j0_read h0 h1 h2 (by omega)
    rw [decide_eq_false (show ¬ k < 0 by omega)]
    refine ⟨rd, ?_⟩
    have tm : (⟨1, 1, b, 0, 0, false, false, false, 0⟩ : Tk) ∈ ((E0 o).readB b).ts := by
      show _ ∈ [_]
      exact List.mem_singleton.2 rfl
    have e := (read_yes iv rc tm rfl).1
    rw [rd] at e
    rw [e]
    show Value.tuple #[.agg #[.int .i64 1, .int .i64 1, .int .i64 b, .int .i64 1, .int .i64 0, .int .i64 ((jnE o b 1 false).cnt 1), .bool false, .bool false, .bool false], .bool false, .bool false, .int .i64 0] = _
    rw [cnt]
    rfl
  · rw [if_neg hi] at iv ⊢
    obtain ⟨rc, rd⟩ := jn_read (out := decide (k < i)) h0 h1 h3
    refine ⟨rd, ?_⟩
    have jn : joins ((jnE o b i (decide (k < i))).last b) = true := by rw [jn_last]; rfl
    have rb : (jnE o b i (decide (k < i))).readB b = jnE o b i (decide (k < i)) := by
      unfold Eng.readB
      rw [jn, if_pos rfl, jn_last, if_neg (show ¬ ((some (tkJ b (decide (k < i)))).getD default).kind = 3 from fun q => absurd (show (1 : Int) = 3 from q) (by decide))]
    have rt : (jnE o b i (decide (k < i))).readT b = 1 := by
      unfold Eng.readT
      rw [jn, if_pos rfl, jn_last]
      rfl
    have tm : tkJ b (decide (k < i)) ∈ ((jnE o b i (decide (k < i))).readB b).ts := by
      rw [rb]
      exact List.mem_singleton.2 rfl
    have e := (read_yes iv rc tm (by rw [rt]; rfl)).1
    rw [rd, jn_last] at e
    rw [e]
    show Value.tuple #[.agg #[.int .i64 1, .int .i64 1, .int .i64 b, .int .i64 1, .int .i64 0, .int .i64 ((jnE o b (i + 1) (decide (k < i))).cnt 1), .bool (decide (k < i)), .bool (decide (k < i)), .bool false], .bool true, .bool false, .int .i64 0] = _
    rw [cnt, decide_eq_true (show 0 < i by omega)]
    rfl
theorem jn_next (iv : Inv (jnE o b n false)) (h0 : 0 ≤ b) (h1 : b < o.b0) (h5 : 1 ≤ o.b5) : (jnE o b n false).next 8 = (jnE o b n true, [], some (mvJ b)) := by
  have may := iv.may
  unfold Opt.MayC at may
  have hb : 0 ≤ o.b0 ∧ o.b0 ≤ 256 ∧ 1 ≤ o.b6 ∧ o.b6 ≤ 8 := by
    have : (jnE o b n false).o = o := rfl
    rw [this] at may
    omega
  have hh := jn_head (o := o) (b := b) (n := n) (out := false)
  have tin : tkJ b false ∈ (jnE o b n false).ts := List.mem_singleton.2 rfl
  have isH : (jnE o b n false).isHead (tkJ b false) = true := (isHead_iff iv tin).2 hh
  have at_ : at16 (jnE o b n false).ts 1 = some (tkJ b false) := find16 iv.ids tin
  have nx : (jnE o b n false).next 8 = ((jnE o b n false).begin_ (tkJ b false) 8, [], some ((jnE o b n false).begun (tkJ b false) 8).2) := by
    unfold Eng.next
    rw [if_neg (show ¬ (jnE o b n false).o.b5 ≤ ((jnE o b n false).ms.length : Int) from by show ¬ o.b5 ≤ (0 : Int); omega)]
    rw [show waitL (jnE o b n false).qs = [1] from rfl, Eng.nextL]
    rw [at_, Option.getD_some, isH, if_pos rfl, if_pos (.inl (by decide))]
    rfl
  have ready : ∀ x : Int, hasB (((jnE o b n false).ready 1).map (·.b)) x = decide (b ≤ x ∧ x < b + 1) := fun x => by
    unfold hasB
    rw [decide_eq_decide]
    constructor
    · rintro ⟨x0, x1, hx⟩
      obtain ⟨u, hu, rfl⟩ := List.mem_map.1 hx
      obtain ⟨h1, h2, h3⟩ := (mem_ready iv).1 hu
      have ut : u ∈ [tkJ b false] := (mem_head h1).1
      rw [List.mem_singleton.1 ut]
      show b ≤ b ∧ b < b + 1
      omega
    · rintro ⟨x0, x1⟩
      obtain rfl : x = b := by omega
      exact ⟨by omega, by omega, List.mem_map.2 ⟨tkJ x false, (mem_ready iv).2 ⟨jn_head, rfl, rfl⟩, rfl⟩⟩
  have hN : hasB (((jnE o b n false).ready 1).map (·.b)) b = true := by rw [ready]; exact decide_eq_true ⟨by omega, by omega⟩
  have run : (jnE o b n false).run (tkJ b false) 8 = ⟨b, 1⟩ := by
    have cost := costB_cases (hasB (((((jnE o b n false).ready 1).filter (·.needs)).map (·.b)))) b
    have k : costB (hasB (((((jnE o b n false).ready 1).filter (·.needs)).map (·.b)))) b ≤ 8 := by rcases cost with ⟨_, e⟩ | ⟨_, e⟩ <;> rw [e] <;> omega
    have na : ¬ argB (((jnE o b n false).ready 1).map (·.b)) b o.b6 8 := by
      unfold argB mayMost
      rw [hN]
      simp
      omega
    show aroundR (((jnE o b n false).ready 1).map (·.b)) ((((jnE o b n false).ready 1).filter (·.needs)).map (·.b)) b o.b6 8 = _
    rw [(around_ok na k).2]
    unfold growTo
    rw [grow_top ready _ _ _ (by omega) (by omega) (by rcases cost with ⟨_, e⟩ | ⟨_, e⟩ <;> rw [e] <;> omega)]
    have : min (b + ((o.b6 - 1).toNat : Int)) (b + 1 - 1) - b + 1 = 1 := by omega
    rw [this]
  have bl : blocksOf ((jnE o b n false).run (tkJ b false) 8) = [b] := by
    rw [run]
    unfold blocksOf
    rw [if_pos (by unfold Rn.Ok; dsimp only; omega)]
    simp
  have bg : (jnE o b n false).begun (tkJ b false) 8 = ({ jnE o b n true with ms := [], ng := 0 }, mvJ b) := by
    unfold Eng.begun
    rw [bl, alongs_cons _ _ _ _ hh]
    unfold Eng.move0
    rw [run]
    rfl
  rw [nx]
  unfold Eng.begin_
  rw [bg]
  rfl
theorem jn_idle (h5 : (1 : Int) < o.b5) : ((jnE o b n true).next 8).2 = ([], none) := by
  unfold Eng.next
  rw [if_neg (show ¬ (jnE o b n true).o.b5 ≤ ((jnE o b n true).ms.length : Int) from by show ¬ o.b5 ≤ (1 : Int); omega)]
  rfl
theorem jn_idle1 (h5 : (1 : Int) < o.b5) : ((jnE o b n true).next 8).1 = jnE o b n true := by
  unfold Eng.next
  rw [if_neg (show ¬ (jnE o b n true).o.b5 ≤ ((jnE o b n true).ms.length : Int) from by show ¬ o.b5 ≤ (1 : Int); omega)]
  rfl
theorem jn_finish (n : Nat) : (jnE o b n true).finishC 1 = 0 ∧ (jnE o b n true).finishO 1 true = [⟨tkJ b true, (n : Int), 0, (List.range n).map wtS⟩] ∧ (jnE o b n true).finish 1 true = ⟨o, [], [], [], [], 1, 1⟩ := by
  have hg : ofL (gJ n) 1 = (List.range n).map wtS := gJ_of n
  have hl : leftT (gJ n) 1 = [] := by
    unfold leftT gJ
    exact List.filter_eq_nil_iff.2 (fun q hq => by
      obtain ⟨j, _, rfl⟩ := List.mem_map.1 hq
      simp)
  refine ⟨rfl, ?_, ?_⟩
  · show [(⟨tkJ b true, ((ofL (gJ n) 1).length : Int), 0, ofL (gJ n) 1⟩ : Oc)] = _
    rw [hg, List.length_map, List.length_range]
  · show (⟨o, [], leftT (gJ n) 1, [], [], 1, 1⟩ : Eng) = _
    rw [hl]
end
end Go.Proofs.YtfbpjobobdidiaaGreatDoor
