/- The walk through TurnPromotes's own text. -/
import Derived.WalkKit
import Derived.ProofKit
import Derived.OpenShut
import Derived.Below
import Derived.Test.YtmihinpbgppjlaaArgs
import Derived.Test.YtmihinpbgppjlaaProm23
namespace Go.Proofs.Ytmihinpbgppjlaa.turnPromotes
open Go.ChangeShapes Go.WideShapes Go.ChangeAt Go.RowKit
set_option linter.unusedVariables false


set_option maxHeartbeats 2000000 in
set_option maxRecDepth 100000 in
theorem walk (w : World) (A : Option Addr) (len cap : Nat) (xs : List Int) (hmax : len ≤ maxLen) (hlen : xs.length = len) (hold : Holds w A 1 byteC xs) (wf : ∀ a ∈ xs, (0 ≤ a ∧ a ≤ 255)) :
    Calls Try.prog 7 #[.slice A len cap] w fun e w' => e = .returned (.bool true) ∧ Below w.heap.size w w' := by
  unfold maxLen at hmax
  have HL := Lib.hid hlen
  have HO := Lib.hid hold
  have WF := Lib.hid wf
  clear hlen hold wf
  have S0 := Lib.hid (show Sg w w Asr.none from ⟨⟨fun _ => False, fun _ s => s, fun _ s => s.elim⟩, Only.refl _ _⟩)
  obtain ⟨i0, hi0, hz0, hz1, hz2⟩ := info_parts info_int8
  have I0 := Lib.hid hi0
  have I1 := Lib.hid hz0
  have I2 := Lib.hid hz1
  have I3 := Lib.hid hz2
  clear hi0 hz0 hz1 hz2
  go_enter Try.func7, Try.ntmps7
  go_wp2_with fail
  (with_reducible refine (awake12_any _).mono ?_)
  rintro e w1 ⟨rfl, o⟩
  have S1 := Lib.hid (S0.out.still o)
  clear o S0
  have NW := Lib.hid (show Calls Try.prog 9 #[.int .i64 60, .int .i64 20] w1 _ from sg_new 60 20 w _ S1.out (by decide) (by decide) (by decide))
  go_wp2_with fail
  (with_reducible refine (NW.out).mono ?_)
  rintro e w2 ⟨p, rfl, h, _⟩
  have S2 := Lib.hid (show Sg w w2 ((AT p 60 20 0 []).and ((AI (.slice none 0 0) []).and (AI (.slice none 0 0) []))) from ((h.fst.told (Owns.start _ _ _ _ _) (Only.refl _ _)).told (Owns.start _ _ _ _ _) (Only.refl _ _)).assoc)
  clear h S1 NW
  go_wp2_with fail
  go_loopw [5, 6, 7] (fun dv av iv wr => ∃ (i : Nat) (ss : List Sl), i ≤ 20 ∧ iv = .int .i64 ((i : Int) + 1) ∧ Pr ss (upL 1 i) (upL 21 i) ∧ Sg w wr ((AT p 60 20 (2 * i) ss).and ((AI dv (upL 1 i)).and (AI av (upL 21 i))))) (fun _ _ iv _ => 21 - (intOf iv).toNat)
  case atStart => exact ⟨0, [], by omega, rfl, Pr.nil, S2.out⟩
  case round =>
    obtain ⟨i, ss, hi, rfl, hpr, h⟩ := hrel
    have H := Lib.hid h
    have PR := Lib.hid hpr
    clear h hpr S2
    by_cases hlt : i < 20
    · obtain ⟨PC1, PR1⟩ := PR.out.putD (nd := 60) (na := 20) (x := (i : Int) + 1) (by omega) (fun q => by have := up_in q; omega) (fun q => by have := up_in q; omega) (by rw [up_len]; omega)
      have P1 := sg_put ((i : Int) + 1) false H.out (wf_i _ (by omega)) (by omega)
      rw [PC1] at P1
      have P1 := Lib.hid P1
      have PR1 := Lib.hid PR1
      obtain ⟨PC2, PR2⟩ := PR1.out.putA (nd := 60) (na := 20) (x := 20 + ((i : Int) + 1)) (by omega) (fun q => by rw [← up_more] at q; have := up_in q; omega) (fun q => by have := up_in q; omega) (by rw [up_len]; omega)
      have PC2 := Lib.hid PC2
      have PR2 := Lib.hid PR2
      clear PC1
      go_wp2_with fail
      (with_reducible refine P1.out.mono ?_)
      rintro e w3 ⟨rfl, h⟩
      have P2 := sg_put (20 + ((i : Int) + 1)) true h (wf_i _ (by omega)) (by omega)
      rw [PC2.out] at P2
      have P2 := Lib.hid P2
      clear h P1 H
      generalize putS 60 20 ss ((i : Int) + 1) false = s1 at *
      generalize putS 60 20 s1 (20 + ((i : Int) + 1)) true = s2 at *
      go_wp2_with fail
      (with_reducible refine P2.out.mono ?_)
      rintro e w4 ⟨rfl, h⟩
      have S4 := Lib.hid h
      have OA := Lib.hid ((Only.refl none_ w4).alloc (.cells #[.int .i64 ((i : Int) + 1)] 3))
      have S5 := Lib.hid ((S4.out.still OA.out).up2)
      have B5 := Lib.hid (show (upL 1 i).length + 1 ≤ maxLen ∧ ((upL 1 i).length + 1) * 8 ≤ 140737488355328 from by rw [up_len]; unfold maxLen; omega)
      have B6 := Lib.hid (show (upL 21 i).length + 1 ≤ maxLen ∧ ((upL 21 i).length + 1) * 8 ≤ 140737488355328 from by rw [up_len]; unfold maxLen; omega)
      clear h P2 S4 OA
      go_wp2_with (first
        | (at_builtin; first
          | (refine wpList_append_src _ rfl (.tmp 36) (.tmp 38) 42 rfl 0 3 i0 _ 1 8 Try.underlying42 I0.out I1.out I2.out I3.out rfl (by decide) u5 (upL 1 i).length ((upL 1 i).flatMap one) rfl S5.out.fst.ints _ 1 (one ((i : Int) + 1)) rfl (src_one _ _) rfl (one_one _) B5.out.1 B5.out.2 (Nat.zero_le _) ?_
             intro v5 w5 hown5 hgrow5 hat5
             have S6 := Lib.hid ((S5.out.grow (ints_more rfl hown5) hat5 hgrow5).up2)
             have S7 := Lib.hid ((show Sg w w5 ((AI u6 (upL 21 i)).and ((AT p 60 20 (2 * i + 1 + 1) s2).and (AI v5 (upL 1 i ++ [(i : Int) + 1])))) from (S6.out.assoc2.swap)).still ((Only.refl none_ w5).alloc (.cells #[.int .i64 (20 + ((i : Int) + 1))] 3)))
             clear hown5 hgrow5 hat5)
          | (refine wpList_append_src _ rfl (.tmp 40) (.tmp 43) 42 rfl 0 3 i0 _ 1 8 Try.underlying42 I0.out I1.out I2.out I3.out rfl (by decide) u6 (upL 21 i).length ((upL 21 i).flatMap one) rfl S7.out.fst.ints _ 1 (one (20 + ((i : Int) + 1))) rfl (src_one _ _) rfl (one_one _) B6.out.1 B6.out.2 (Nat.zero_le _) ?_
             intro v6 w6 hown6 hgrow6 hat6
             have S8 := Lib.hid ((S7.out.grow (ints_more rfl hown6) hat6 hgrow6).swap.assoc)
             clear hown6 hgrow6 hat6))
        | go_in)
      have E1 := up_more 1 i
      have E2 := up_more 21 i
      rw [show (i : Int) + 21 = 20 + ((i : Int) + 1) from by omega] at E2
      go_wp2_with fail
      go_roundw
      case rel => exact ⟨i + 1, s2, by omega, by go_num, by rw [E1, E2]; exact PR2.out, by rw [E1, E2]; exact S8.out⟩
      case measure => simp [intOf]; omega
    · obtain rfl : i = 20 := by omega
      rw [show ((20 : Nat) : Int) + 1 = 21 from rfl]
      have D20 := Lib.hid (up_len 1 20)
      have A20 := Lib.hid (up_len 21 20)
      generalize upL 1 20 = d0 at *
      generalize upL 21 20 = a0 at *
      go_wp2_with fail
      go_loopw [5, 6, 8] (fun dv av iv wr => ∃ (j : Nat) (ss : List Sl) (dl al : List Int), j ≤ len ∧ iv = .int .i64 j ∧ Pr ss dl al ∧ dl.length + al.length = 40 ∧ al.length ≤ 20 ∧ Sg w wr ((AT p 60 20 (80 - 2 * al.length) ss).and ((AI dv dl).and (AI av al)))) (fun _ _ iv _ => len - (intOf iv).toNat)
      case atStart => exact ⟨0, ss, d0, a0, Nat.zero_le _, rfl, PR.out, by have := D20.out; have := A20.out; omega, by have := A20.out; omega, by rw [A20.out]; exact H.out⟩
      case round =>
        obtain ⟨j, s0, dl, al, hj, rfl, hpr, hl1, hl2, h⟩ := hrel
        clear PR H D20 A20
        have H := Lib.hid h
        have PR := Lib.hid hpr
        clear h hpr
        have W3 := Lib.hid H.out.only.to_below12
        obtain ⟨aa, ac, eav⟩ := own_len H.out.snd.snd.ints
        have EAV := Lib.hid eav
        subst eav
        by_cases q1 : j < len
        · by_cases q2 : 0 < al.length
          · obtain ⟨x, hx⟩ : ∃ x, xs[j]? = some x := ⟨_, List.getElem?_eq_getElem (by rw [HL.out]; exact q1)⟩
            obtain ⟨xb, xo, hA, hxb, x0⟩ := byte_at HO.out H.out.only.to_below12 hx
            subst hA
            have hxr := WF.out x (List.mem_of_getElem? hx)
            obtain ⟨u, hu⟩ : ∃ u : Nat, x = u := ⟨x.toNat, by omega⟩
            subst hu
            obtain ⟨m, hm⟩ : ∃ m, al.length = m := ⟨_, rfl⟩
            obtain ⟨r, hr⟩ : ∃ r, u % m = r := ⟨_, rfl⟩
            have rm : r < m := by rw [← hr]; exact Nat.mod_lt _ (by omega)
            obtain ⟨n, hn⟩ : ∃ n, al[r]? = some n := ⟨_, List.getElem?_eq_getElem (by omega)⟩
            have nm : hasL s0 n = true := (PR.out.has n).2 (.inr (List.mem_of_getElem? hn))
            have NW := Lib.hid (show (Lit.int .i64 n).wf = true from by
              have := atL_has nm
              rw [← this.2]
              exact H.out.fst.wfs _ this.1)
            obtain ⟨PC1, PR1, PC2, PS2⟩ := PR.out.prom (nd := 60) hn (by omega)
            have P1 := sg_promote n H.out NW.out (by omega)
            rw [PC1] at P1
            have P1 := Lib.hid P1
            generalize promS 60 s0 n = s1 at *
            have PR1 := Lib.hid PR1
            have PC2 := Lib.hid PC2
            have PS2 := Lib.hid PS2
            obtain ⟨g, o, eg, c0⟩ : ∃ g o, aa = some ⟨g, o, none⟩ ∧ wr.cell? ⟨g, o + r, none⟩ = some (.int .i64 n) := by
              obtain ⟨a, cap', e, hc⟩ := Reads.of_owns H.out.snd.snd.ints
              injection e with e1 _ _
              subst e1
              exact hc r n hn
            subst eg
            have og : o = 0 := by
              rcases H.out.snd.snd.ints.2 with ⟨hv, _⟩ | ⟨g', cap', cur, hv, _⟩
              · cases hv
              · injection hv with hv; injection hv with hv; injection hv with _ hv
            subst og
            rw [Nat.zero_add] at c0
            have HA := Lib.hid (show m ≤ ac from by
              rcases H.out.snd.snd.ints.2 with ⟨hv, _⟩ | ⟨g', cap', cur, hv, _, _, h3, _⟩
              · cases hv
              · injection hv with _ _ hv
                subst hv
                omega)
            have tm : ((u : Int).tmod (m : Int)) = (r : Int) := by rw [Int.tmod_eq_emod_of_nonneg (by omega), ← hr]; rfl
            have tw : wrap64 ((u : Int).tmod (m : Int)) = (r : Int) := by rw [tm]; unfold wrap64; omega
            have mz : ((m : Int) == 0) = false := by simp; omega
            have mz2 : ¬ (m : Int) = 0 := by omega
            have mz3 : ¬ m = 0 := by omega
            have mp : decide ((0 : Int) < (m : Int)) = true := by simp; omega
            have CB := Lib.hid (show 80 - 2 * al.length + 1 < 100000000 from Nat.lt_of_le_of_lt (Nat.succ_le_succ (Nat.sub_le 80 (2 * al.length))) (by decide))
            have HM := Lib.hid hm
            have HN := Lib.hid hn
            rw [hm]
            clear hx hn nm PC1 hr EAV W3
            go_wp2_with fail
            (with_reducible refine P1.out.mono ?_)
            rintro e w3 ⟨rfl, h⟩
            clear tm tw mz mz2 mz3 mp hxr
            have P2 := sg_promote n h NW.out CB.out
            rw [PC2.out, PS2.out] at P2
            have P2 := Lib.hid P2
            clear h P1 H c0 x0
            go_wp2_with fail
            (with_reducible refine P2.out.mono ?_)
            rintro e w4 ⟨rfl, h⟩
            have S5 := Lib.hid ((h.still ((Only.refl none_ w4).alloc (.cells #[.int .i64 n] 3))).up2)
            have B5 := Lib.hid (show dl.length + 1 ≤ maxLen ∧ (dl.length + 1) * 8 ≤ 140737488355328 from by unfold maxLen; omega)
            clear h P2
            go_wp2_with (first
              | (at_builtin; first
                | (refine wpList_append_src _ rfl (.tmp 78) (.tmp 80) 42 rfl 0 3 i0 _ 1 8 Try.underlying42 I0.out I1.out I2.out I3.out rfl (by decide) u5 dl.length (dl.flatMap one) rfl S5.out.fst.ints _ 1 (one n) rfl (src_one _ _) rfl (one_one _) B5.out.1 B5.out.2 (Nat.zero_le _) ?_
                   intro v5 w5 hown5 hgrow5 hat5
                   have S6 := Lib.hid ((S5.out.grow (ints_more rfl hown5) hat5 hgrow5).up2)
                   clear hown5 hgrow5 hat5))
              | go_in)
            have ml := HM.out
            have P23 := S6.out.snd.snd.ints
            rw [ml] at P23
            refine wp_of_postN (prom23 w5 P23 ml rm (by omega) HA.out _ (by kernel_rfl) _ _ _ _ _ _ _ _ _ _ _ _ _ _ _ _ _ _ _ _ _ _ _ _ _ _ _ _ _ _ _ _ _ _ _ _ _ _ _ _ _ _ _ _ _ _ _ _ _ _ _ _ _ _ _ _ _ _ _ _ _ _ _ _ _ _ _ _ _ _ _ _ _ _ _ _ _ _ _ _ _ _ _ _ _ _ _ _ _ _ _ _ _ _ _ _ _ _ _ _ _ _ _ _ _ _ _ _ _ _ _ _ _ _ _ _ _ _) ?_
            rintro a' w' ⟨v7, r82, r83, r84, r85, r86, r87, r88, r89, r90, r91, rfl, ho, oo⟩
            simp only [Exit.then]
            have S7 := Lib.hid (S6.out.told ho oo).assoc.swap.assoc.assoc.up2.snd.assoc2.swap
            have NX := Lib.hid (next_len (n := n) hl1 hl2 ml rm)
            clear ho oo S6 P23 ml
            obtain ⟨d2, hd2⟩ : ∃ d2, dl ++ [n] = d2 := ⟨_, rfl⟩
            obtain ⟨a2, ha2⟩ : ∃ a2, al.take r ++ al.drop (r + 1) = a2 := ⟨_, rfl⟩
            rw [hd2, ha2] at NX PR1
            have S7 := S7.out
            rw [hd2, ha2, NX.out.2.2] at S7
            have S7 := Lib.hid S7
            have bd : d2.length ≤ 40 := Nat.le_trans (Nat.le_add_right _ _) (Nat.le_of_eq NX.out.1)
            have ba : a2.length ≤ 20 := NX.out.2.1
            have CB2 := Lib.hid (show 80 - 2 * a2.length < 100000000 from Nat.lt_of_le_of_lt (Nat.sub_le 80 (2 * a2.length)) (by decide))
            obtain ⟨e5, f5, ev5⟩ := own_len S7.out.snd.fst.ints
            obtain ⟨e7, f7, ev7⟩ := own_len S7.out.snd.snd.ints
            subst ev5 ev7
            have FR := Lib.hid (free_pr S7.out.fst PR1.out)
            clear hd2 ha2 rm hl1 hl2
            go_wp2_with fail
            (with_reducible refine FR.out.mono ?_)
            rintro e w8 ⟨rfl, o⟩
            have S8 := Lib.hid (S7.out.still o)
            have WT := sg_waiting S8.out.fst CB2.out
            rw [PR1.out.wait] at WT
            have WT := Lib.hid WT
            clear o FR S7
            go_wp2_with fail
            (with_reducible refine WT.out.mono ?_)
            rintro e w9 ⟨a9, c9, rfl, h9, o9⟩
            have R9 := Lib.hid (Reads.of_owns h9)
            have S9 := Lib.hid (S8.out.still o9)
            have WA := Lib.hid ((Only.refl none_ w9).alloc (.cells #[] 3))
            have EMP := Lib.hid (show (w9.alloc (.cells #[] 3)).ownsRow w9.heap.size 3 1 (.slice (some ⟨w9.heap.size, 0, none⟩) 0 0) 0 [] from ⟨rfl, .inr ⟨w9.heap.size, 0, #[], rfl, Nat.le_refl _, Row.fresh w9 3 #[], Nat.le_refl _, Nat.zero_le _, rfl, rfl⟩⟩)
            have zA : w9.heap.size ≤ (w9.alloc (.cells #[] 3)).heap.size := WA.out.size
            have B1 := Lib.hid (show 0 + d2.length ≤ maxLen ∧ (0 + d2.length) * 8 ≤ 140737488355328 from by unfold maxLen; omega)
            have B3 := Lib.hid (show 0 + d2.length + a2.length ≤ maxLen ∧ (0 + d2.length + a2.length) * 8 ≤ 140737488355328 from by unfold maxLen; omega)
            have S10 := Lib.hid (S9.out.still WA.out)
            clear h9 o9 WT S8
            go_wp2_with (first
              | (at_builtin; first
                | (refine wpList_append_src _ rfl (.tmp 99) (.tmp 100) 42 rfl w9.heap.size 3 i0 _ 1 8 Try.underlying42 I0.out I1.out I2.out I3.out rfl (by decide) _ 0 [] rfl EMP.out _ d2.length (d2.flatMap one) rfl (Src.own S10.out.snd.fst.ints) (one_len _) (one_cells _) B1.out.1 B1.out.2 zA ?_
                   intro v11 w11 hown11 hgrow11 _
                   have O11 := Lib.hid (WA.out.trans (Only.of_grown hgrow11) (fun j hj q' => by have q2 : some j = some w9.heap.size := q'; injection q2 with q2; rw [q2] at hj; exact absurd hj (Nat.lt_irrefl _)))
                   have OW11 := Lib.hid hown11
                   have z11 : w9.heap.size ≤ w11.heap.size := O11.out.size
                   have S11 := Lib.hid (S9.out.still O11.out)
                   clear hown11 hgrow11)
                | (refine wpList_append_src _ rfl (.tmp 101) (.tmp 102) 42 rfl w9.heap.size 3 i0 _ 1 8 Try.underlying42 I0.out I1.out I2.out I3.out rfl (by decide) _ (0 + d2.length) _ rfl OW11.out _ a2.length (a2.flatMap one) rfl (Src.own S11.out.snd.snd.ints) (one_len _) (one_cells _) B3.out.1 B3.out.2 z11 ?_
                   intro v12 w12 hown12 hgrow12 _
                   have O12 := Lib.hid (O11.out.trans (Only.of_grown hgrow12) (fun j hj q' => absurd hj (Nat.not_lt.2 (World.ownsRow.lt OW11.out j q'.symm).1)))
                   have OW12 := Lib.hid (ints_both hown12)
                   have S12 := Lib.hid (S9.out.still O12.out)
                   have R12 := Lib.hid (R9.out.still O12.out)
                   have IN := ints_any _ _ _ _ _ R12.out (Reads.of_owns OW12.out) (by rw [List.length_append]; omega) (by rw [List.length_append]; omega)
                   rw [decide_eq_true rfl, List.length_append] at IN
                   have IN := Lib.hid IN
                   clear hown12 hgrow12))
              | (go_at_call 16; (with_reducible refine IN.out.mono ?_); rintro e w13 ⟨rfl, o13⟩; have S13 := Lib.hid (S12.out.still o13); clear o13)
              | go_in)
            go_roundw
            case rel => exact ⟨j + 1, s1, d2, a2, Nat.succ_le_of_lt q1, by go_num, PR1.out, NX.out.1, NX.out.2.1, S13.out⟩
            case measure =>
              simp [intOf]
              exact less_more q1
          · have q3 : al.length = 0 := by omega
            rw [q3]
            go_wp2_with fail
            go_ret
            exact ⟨rfl, W3.out⟩
        · go_wp2_with fail
          go_ret
          exact ⟨rfl, W3.out⟩



end Go.Proofs.Ytmihinpbgppjlaa.turnPromotes
