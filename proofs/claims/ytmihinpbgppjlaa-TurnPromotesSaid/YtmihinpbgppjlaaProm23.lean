/- TurnPromotes: the region that takes one ticket out of a slice, as a lemma of its own. -/
import Derived.Test.YtmihinpbgppjlaaProm12
import Derived.Test.YtmihinpbgppjlaaPart
import Derived.BigRegion
import Derived.Deep.RegionLaw
namespace Go.Proofs.Ytmihinpbgppjlaa
open Go.RowKit Go.Maps
set_option linter.unusedVariables false

set_option maxRecDepth 100000 in
set_option maxHeartbeats 4000000 in
theorem prom23 {g ac m r : Nat} {al : List Int} (w5 : World) (hS : OwnsInts w5 0 (.slice (some ⟨g, 0, none⟩) m ac) al) (hm : al.length = m) (rm : r < m) (hl2 : m ≤ 20) (ha : m ≤ ac) (l : List Oper) (hl : l = opsAt Try.f7 23) (s0 s1 s2 s3 s4 s5 s7 s8 s10 s11 s12 s13 s14 s15 s16 s17 s18 s19 s20 s21 s22 s23 s24 s25 s26 s27 s28 s29 s30 s31 s32 s33 s34 s35 s36 s37 s38 s39 s40 s41 s42 s43 s44 s45 s46 s47 s48 s49 s50 s51 s52 s53 s54 s55 s56 s57 s58 s59 s60 s61 s62 s63 s64 s65 s66 s67 s68 s69 s70 s71 s72 s73 s74 s75 s76 s77 s78 s79 s80 s81 s82 s83 s84 s85 s86 s87 s88 s89 s90 s91 s92 s93 s94 s95 s96 s97 s98 s99 s100 s101 s102 s103 s104 s105 s106 s107 s108 s109 s110 s111 s112 s113 s114 s115 s116 s117 s118 s119 : Value) :
    Code.wp Try.prog (Code.region 23 l.toArray true) (PostN fun a' w' => ∃ (v r82 r83 r84 r85 r86 r87 r88 r89 r90 r91 : Value), a' = { tmps := List.toArray (s0 :: s1 :: s2 :: s3 :: s4 :: s5 :: v :: s7 :: s8 :: .int .i64 r :: s10 :: s11 :: s12 :: s13 :: s14 :: s15 :: s16 :: s17 :: s18 :: s19 :: s20 :: s21 :: s22 :: s23 :: s24 :: s25 :: s26 :: s27 :: s28 :: s29 :: s30 :: s31 :: s32 :: s33 :: s34 :: s35 :: s36 :: s37 :: s38 :: s39 :: s40 :: s41 :: s42 :: s43 :: s44 :: s45 :: s46 :: s47 :: s48 :: s49 :: s50 :: s51 :: s52 :: s53 :: s54 :: s55 :: s56 :: s57 :: s58 :: s59 :: s60 :: s61 :: s62 :: s63 :: s64 :: s65 :: s66 :: s67 :: s68 :: s69 :: s70 :: s71 :: s72 :: s73 :: s74 :: s75 :: s76 :: s77 :: s78 :: s79 :: s80 :: s81 :: r82 :: r83 :: r84 :: r85 :: r86 :: r87 :: r88 :: r89 :: r90 :: r91 :: s92 :: s93 :: s94 :: s95 :: s96 :: s97 :: s98 :: s99 :: s100 :: s101 :: s102 :: s103 :: s104 :: s105 :: s106 :: s107 :: s108 :: s109 :: s110 :: s111 :: s112 :: s113 :: s114 :: s115 :: s116 :: s117 :: s118 :: s119 :: []), defers := [] } ∧ OwnsInts w' w5.heap.size v (al.take r ++ al.drop (r + 1)) ∧ Only none_ w5 w') { tmps := List.toArray (s0 :: s1 :: s2 :: s3 :: s4 :: s5 :: .slice (some ⟨g, 0, none⟩) m ac :: s7 :: s8 :: .int .i64 r :: s10 :: s11 :: s12 :: s13 :: s14 :: s15 :: s16 :: s17 :: s18 :: s19 :: s20 :: s21 :: s22 :: s23 :: s24 :: s25 :: s26 :: s27 :: s28 :: s29 :: s30 :: s31 :: s32 :: s33 :: s34 :: s35 :: s36 :: s37 :: s38 :: s39 :: s40 :: s41 :: s42 :: s43 :: s44 :: s45 :: s46 :: s47 :: s48 :: s49 :: s50 :: s51 :: s52 :: s53 :: s54 :: s55 :: s56 :: s57 :: s58 :: s59 :: s60 :: s61 :: s62 :: s63 :: s64 :: s65 :: s66 :: s67 :: s68 :: s69 :: s70 :: s71 :: s72 :: s73 :: s74 :: s75 :: s76 :: s77 :: s78 :: s79 :: s80 :: s81 :: s82 :: s83 :: s84 :: s85 :: s86 :: s87 :: s88 :: s89 :: s90 :: s91 :: s92 :: s93 :: s94 :: s95 :: s96 :: s97 :: s98 :: s99 :: s100 :: s101 :: s102 :: s103 :: s104 :: s105 :: s106 :: s107 :: s108 :: s109 :: s110 :: s111 :: s112 :: s113 :: s114 :: s115 :: s116 :: s117 :: s118 :: s119 :: []), defers := [] } w5 := by
  subst hl
  conv => arg 2; arg 2; arg 1; whnf
  obtain ⟨i0, hi0, hz0, hz1, hz2⟩ := info_parts info_int8
  have I0 := Lib.hid hi0
  have I1 := Lib.hid hz0
  have I2 := Lib.hid hz1
  have I3 := Lib.hid hz2
  clear hi0 hz0 hz1 hz2
  have all_ : ∀ j u, (al.flatMap one)[j]? = some u → w5.cell? ((Addr.mk g 0 none).add j) = some u := World.ownsRow.cells hS (g := g) rfl
  have N1 := Lib.hid (show ((al.take r).flatMap one).length = r * 1 from by rw [one_len, List.length_take]; congr 1; omega)
  have N2 := Lib.hid (show ((al.drop (r + 1)).flatMap one).length = (m - (r + 1)) * 1 from by rw [one_len, List.length_drop, hm])
  have HC1 := Lib.hid (show ∀ (W : World), Only none_ w5 W → ∀ j u, ((al.take r).flatMap one)[j]? = some u → W.cell? ((Addr.mk g 0 none).add j) = some u from fun W o j u hj => by
    have hj2 : j < r := by have := lt_of_get hj; rw [N1.out] at this; omega
    rw [flat_takeL one1] at hj
    rw [List.getElem?_take_of_lt (by omega)] at hj
    exact o.cell (all_ j u hj) (fun s => s))
  have HC2 := Lib.hid (show ∀ (W : World), Only none_ w5 W → ∀ j u, ((al.drop (r + 1)).flatMap one)[j]? = some u → W.cell? ((Addr.mk g (r + 1) none).add j) = some u from fun W o j u hj => by
    rw [flat_dropL one1, List.getElem?_drop] at hj
    have := all_ _ u hj
    rw [add12] at this
    rw [add12]
    refine o.cell ?_ (fun s => s)
    simpa using this)
  have OO0 := Lib.hid (((Only.refl none_ w5).alloc (.cells #[] 3)).drew)
  have OW0 := Lib.hid (show ((w5.alloc (.cells #[] 3)).drew).ownsRow w5.heap.size 3 1 (.slice (some ⟨w5.heap.size, 0, none⟩) 0 0) 0 [] from ⟨rfl, .inr ⟨w5.heap.size, 0, #[], rfl, Nat.le_refl _, Row.fresh w5 3 #[], Nat.le_refl _, Nat.zero_le _, rfl, rfl⟩⟩)
  have zO : w5.heap.size ≤ ((w5.alloc (.cells #[] 3)).drew).heap.size := OO0.out.size
  have B1 := Lib.hid (show 0 + r ≤ maxLen from by unfold maxLen; omega)
  have B2 := Lib.hid (show (0 + r) * 8 ≤ 140737488355328 from by omega)
  have B3 := Lib.hid (show 0 + r + (m - (r + 1)) ≤ maxLen from by unfold maxLen; omega)
  have B4 := Lib.hid (show (0 + r + (m - (r + 1))) * 8 ≤ 140737488355328 from by omega)
  have F := Lib.hid (show ∀ v2 w2, w2.ownsRow w5.heap.size 3 1 v2 (0 + r + (m - (r + 1))) ([] ++ (al.take r).flatMap one ++ (al.drop (r + 1)).flatMap one) → OwnsInts w2 w5.heap.size v2 (al.take r ++ al.drop (r + 1)) from fun v2 w2 h => by
    show World.ownsRow _ _ _ _ _ _ _
    rw [List.flatMap_append, List.length_append, List.length_take, List.length_drop, hm]
    have e : min r m + (m - (r + 1)) = 0 + r + (m - (r + 1)) := by omega
    rw [e]
    simpa using h)
  have hw2 : IntKind.i64.wrap ((r : Int) + 1) = (r : Int) + 1 := by rw [IntKind.wrap_i64]; omega
  have hw3 : wrap64 ((r : Int) + 1) = (r : Int) + 1 := by unfold wrap64; omega
  have b1 : r ≤ ac := by omega
  have b2 : (r : Int) + 1 ≤ (m : Int) := by omega
  have b3 : r + 1 ≤ m := by omega
  have b4 : (0 : Int) ≤ (r : Int) + 1 := by omega
  have HM := Lib.hid hm
  clear all_ hS hm hl2
  by_cases hcc : ac = r + 1
  · subst hcc
    have xl : m = r + 1 := by omega
    have b5 : (r : Int) ≤ (r : Int) + 1 := by omega
    have SS := Lib.hid (show ∀ W : World, Src W (.slice (some ⟨g, 0, none⟩) (m - (r + 1)) 0) (m - (r + 1)) ((al.drop (r + 1)).flatMap one) from fun W => .inr ⟨_, _, rfl, fun j u hj => by rw [List.drop_of_length_le (by have := HM.out; omega)] at hj; simp at hj⟩)
    clear xl ha rm
    go_region_law (first
      | (refine step_append_src rfl (.tmp 82) (.tmp 85) 42 rfl w5.heap.size 3 i0 _ 1 8 Try.underlying42 I0.out I1.out I2.out I3.out rfl (by decide) _ 0 [] rfl OW0.out _ r _ rfl (.inr ⟨⟨g, 0, none⟩, _, rfl, HC1.out _ OO0.out⟩) N1.out (one_cells _) B1.out B2.out zO ?_
         intro v1 w6 hown1 hgrow1
         have O1 := Lib.hid (OO0.out.trans (Only.of_grown hgrow1) (fun j hj q => by have q2 : some j = some w5.heap.size := q; injection q2; omega))
         have OW1 := Lib.hid hown1
         have z1 : w5.heap.size ≤ w6.heap.size := O1.out.size
         clear hown1 hgrow1)
      | (refine step_append_src rfl (.tmp 86) (.tmp 90) 42 rfl w5.heap.size 3 i0 _ 1 8 Try.underlying42 I0.out I1.out I2.out I3.out rfl (by decide) _ (0 + r) _ rfl OW1.out _ (m - (r + 1)) _ rfl (SS.out _) N2.out (one_cells _) B3.out B4.out z1 ?_
         intro v2 w7 hown2 hgrow2
         have O2 := Lib.hid (O1.out.trans (Only.of_grown hgrow2) (fun j hj q => by have := (World.ownsRow.lt OW1.out j q.symm).1; omega))
         have OW2 := Lib.hid (F.out _ _ hown2)
         clear hown2 hgrow2)
      | fail)
    all_goals
      go_wp2_with fail
      exact ⟨v2, _, _, _, _, _, _, _, _, _, _, rfl, OW2.out, O2.out⟩
  · clear ha rm
    go_region_law (first
      | (refine step_append_src rfl (.tmp 82) (.tmp 85) 42 rfl w5.heap.size 3 i0 _ 1 8 Try.underlying42 I0.out I1.out I2.out I3.out rfl (by decide) _ 0 [] rfl OW0.out _ r _ rfl (.inr ⟨⟨g, 0, none⟩, _, rfl, HC1.out _ OO0.out⟩) N1.out (one_cells _) B1.out B2.out zO ?_
         intro v1 w6 hown1 hgrow1
         have O1 := Lib.hid (OO0.out.trans (Only.of_grown hgrow1) (fun j hj q => by have q2 : some j = some w5.heap.size := q; injection q2; omega))
         have OW1 := Lib.hid hown1
         have z1 : w5.heap.size ≤ w6.heap.size := O1.out.size
         clear hown1 hgrow1)
      | (refine step_append_src rfl (.tmp 86) (.tmp 90) 42 rfl w5.heap.size 3 i0 _ 1 8 Try.underlying42 I0.out I1.out I2.out I3.out rfl (by decide) _ (0 + r) _ rfl OW1.out _ (m - (r + 1)) _ rfl (.inr ⟨⟨g, r + 1, none⟩, _, rfl, HC2.out _ O1.out⟩) N2.out (one_cells _) B3.out B4.out z1 ?_
         intro v2 w7 hown2 hgrow2
         have O2 := Lib.hid (O1.out.trans (Only.of_grown hgrow2) (fun j hj q => by have := (World.ownsRow.lt OW1.out j q.symm).1; omega))
         have OW2 := Lib.hid (F.out _ _ hown2)
         clear hown2 hgrow2)
      | fail)
    all_goals
      go_wp2_with fail
      exact ⟨v2, _, _, _, _, _, _, _, _, _, _, rfl, OW2.out, O2.out⟩
end Go.Proofs.Ytmihinpbgppjlaa
