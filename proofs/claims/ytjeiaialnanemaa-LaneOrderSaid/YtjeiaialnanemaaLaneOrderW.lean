/- The walk through LaneOrder's own text. -/
import Derived.WalkKit
import Derived.ProofKit
import Derived.OpenShut
import Derived.Below
import Derived.Test.YtjeiaialnanemaaArgs
import Derived.Test.YtjeiaialnanemaaApart11
import Derived.Test.YtjeiaialnanemaaOrder11
import Derived.Test.YtjeiaialnanemaaActs11
import Derived.Deep.RegionLaw
import Derived.Deep.CutRange
namespace Go.Proofs.Ytjeiaialnanemaa.laneOrder
open Go.ChangeShapes Go.WideShapes Go.ChangeAt Go.RowKit
set_option linter.unusedVariables false


set_option maxHeartbeats 2000000 in
set_option maxRecDepth 100000 in
theorem walk (w : World) (A : Option Addr) (len cap : Nat) (xs : List Act1) (hmax : len ≤ maxLen) (hlen : xs.length = len) (hold : Holds w A 3 Act1.cells xs) (wf : ∀ a ∈ xs, (Lit.int .i64 a.b).wf = true) (own : Int) (wo : (Lit.int .u8 own).wf = true) :
    Calls Try.prog 5 #[.slice A len cap, .int .u8 own] w fun e w' => e = .returned (.bool true) ∧ Below w.heap.size w w' := by
  unfold maxLen at hmax
  have HL := Lib.hid hlen
  have HO := Lib.hid hold
  have WF := Lib.hid wf
  clear hlen hold wf
  have S0 := Lib.hid (show Sg w w Asr.none from ⟨⟨fun _ => False, fun _ s => s, fun _ s => s.elim⟩, Only.refl _ _⟩)
  have b0 := bd_u8 wo
  clear wo
  have wy : IntKind.i64.wrap own = own := by rw [IntKind.wrap_i64]; omega
  go_enter Try.func5, Try.ntmps5
  go_wp2_with fail
  (with_reducible refine (awake11_any _).mono ?_)
  rintro e w1 ⟨rfl, o⟩
  have S1 := Lib.hid (S0.out.still o)
  clear o S0
  have NW := Lib.hid (sg_new256 w _ S1.out)
  go_wp2_with fail
  (with_reducible refine (NW.out).mono ?_)
  rintro e w2 ⟨p, rfl, h, _⟩
  have S3 := Lib.hid (show Sg w w2 ((AL p 256 128 []).and (AI (.slice none 0 0) [])) from h.fst.told (Only.refl _ _) (Owns.start _ _ _ _ _))
  clear h NW S1
  go_wp2_with fail
  go_loopw [8, 9] (fun v i wr => ∃ (j : Nat) (ss : List Sd) (l : List Int), j ≤ len ∧ j ≤ 150 ∧ i = .int .i64 j ∧ Sg w wr ((AL p 256 128 ss).and (AI v l)) ∧ l = laneL ss own ∧ ss.length ≤ 128) (fun _ i _ => len - (intOf i).toNat)
  case atStart => exact ⟨0, [], [], Nat.zero_le _, Nat.zero_le _, rfl, S3.out, rfl, Nat.zero_le _⟩
  case round =>
    obtain ⟨j, ss, l, hj, hj2, rfl, h, hll, hle⟩ := hrel
    clear S3
    have H := Lib.hid h
    have LL0 := Lib.hid hll
    have lle : l.length ≤ 128 := by rw [hll]; exact Nat.le_trans (lane_le _ _) hle
    clear h hll
    have t12 : (j < len ∧ j < 150) ∨ (j < len ∧ 150 ≤ j) ∨ len ≤ j := by omega
    rcases t12 with ⟨q1, q2⟩ | q1
    · obtain ⟨act, hact⟩ : ∃ act, xs[j]? = some act := ⟨_, List.getElem?_eq_getElem (by rw [HL.out]; exact q1)⟩
      obtain ⟨sb, so, hA, hsb, k0, k1, k2⟩ := act_at HO.out H.out.only.to_below11 hact
      have WX := Lib.hid (WF.out act (List.mem_of_getElem? hact))
      subst hA
      clear hact
      obtain ⟨va, vc, rfl⟩ := own_len H.out.snd.ints
      have FORM : (va = none ∧ l = [] ∧ vc = 0) ∨ ∃ vg, va = some ⟨vg, 0, none⟩ := by
        rcases H.out.snd.ints.2 with ⟨hv, h2⟩ | ⟨g, cap', cur, hv, _⟩
        · injection hv with h3 h4 h5
          exact .inl ⟨h3, List.eq_nil_of_length_eq_zero h2, h5⟩
        · injection hv with h3
          exact .inr ⟨g, h3⟩
      have SF := Lib.hid ((H.out.fresh 32 #[.int .i64 act.kind, .int .i64 act.a, .int .i64 act.b]).assoc)
      have ON := Lib.hid H.out.once.1
      go_upto_region 12 with fail
      obtain ⟨xa, hxa⟩ : ∃ xa, wr.heap.size = xa := ⟨_, rfl⟩
      rw [hxa] at SF ⊢
      clear hxa k0 k1 k2 H
      generalize wr.alloc (.cells #[.int .i64 act.kind, .int .i64 act.a, .int .i64 act.b] 32) = wb at *
      have KS := Lib.hid (fun (w' : World) (X Y : Asr) (h : Sg w w' (X.and (Y.and (Asr.row xa 32 #[.int .i64 act.kind, .int .i64 act.a, .int .i64 act.b])))) => h.snd.snd.row.three)
      have sl : ss.length ≤ 1000 := by omega
      obtain ⟨c0, c1, c2⟩ := KS.out _ _ _ SF.out
      go_upto_if 43 with fail
      go_cut [8] from 27 to 138 (fun v wx => ∃ (s2 : List Sd) (l2 : List Int), Sg w wx ((AL p 256 128 s2).and (AI v l2)) ∧ l2 = laneL s2 own ∧ s2.length ≤ 128)
      case first =>
        by_cases kk : act.kind = 0
        · have kd : (act.kind == 0) = true := by simp [kk]
          have PX := Lib.hid (sg_push act.a act.b SF.out (by decide) hle (by decide) WX.out)
          have LE2 := pushS_le (n := 256) (b := act.a) (x := act.b) hle
          clear kk c0
          by_cases hp : pushC 256 128 ss act.a act.b = 0
          · have pd : (pushC 256 128 ss act.a act.b == 0) = true := by simp [hp]
            by_cases mm : act.a = own
            · have md : (act.a == own) = true := by simp [mm]
              have LP := Lib.hid (show laneL (pushS 256 128 ss act.a act.b) own = l ++ [act.b] from by rw [LL0.out, ← mm, lane_push_yes hp])
              generalize hs2 : pushS 256 128 ss act.a act.b = s2 at *
              generalize hpc : pushC 256 128 ss act.a act.b = pc at *
              clear mm hp hpc hs2
              go_wp2_with fail
              (with_reducible refine PX.out.mono ?_)
              rintro e w4 ⟨rfl, h4⟩
              obtain ⟨d0, d1, d2⟩ := KS.out _ _ _ h4
              clear PX SF c1 c2 d0
              rcases FORM with ⟨rfl, rfl, rfl⟩ | ⟨vg, rfl⟩
              · go_upto_region 14 with fail
                have h6 := h4
                generalize w4 = W at *
                obtain ⟨i0, hi0, hz0, hz1, hz2⟩ := info_parts info_int8
                have I0 := Lib.hid hi0
                have I1 := Lib.hid hz0
                have I2 := Lib.hid hz1
                have I3 := Lib.hid hz2
                clear hi0 hz0 hz1 hz2
                have KX := Lib.hid (fun (w' : World) (o : Only none_ W w') => (show w'.cell? ⟨xa, 2, none⟩ = some (.int .i64 act.b) from (KS.out _ _ _ (h6.still o)).2.2))
                have EMP := Lib.hid (fun (w' : World) (E : Nat) (r : Row w' E 3 #[]) (hE : W.heap.size ≤ E) => (show w'.ownsRow W.heap.size 3 1 (.slice (some ⟨E, 0, none⟩) 0 0) 0 [] from ⟨rfl, .inr ⟨E, 0, #[], rfl, hE, r, Nat.le_refl _, Nat.zero_le _, rfl, rfl⟩⟩))
                have NEWS := Lib.hid (fun (w' : World) (E : Nat) (r : Row w' E 3 #[.int .i64 act.b]) => (show ∀ j u, ([.int .i64 act.b] : List Value)[j]? = some u → w'.cell? ((Addr.mk E 0 none).add j) = some u from fun j u hj => by rw [add11, Nat.zero_add, r.cell, List.getElem?_toArray]; exact hj))
                have ONES := Lib.hid (show ∀ u ∈ ([.int .i64 act.b] : List Value), u.oneCell' = true from fun u hu => by rw [List.mem_singleton.1 hu]; rfl)
                have OA := Lib.hid (((Only.refl none_ W).drew).alloc (.cells #[] 3))
                have RA := Lib.hid (Row.fresh W.drew 3 #[])
                have OB := Lib.hid (OA.out.alloc (.cells #[.int .i64 act.b] 3))
                have RB := Lib.hid (RA.out.alloc (.cells #[.int .i64 act.b] 3))
                have RB1 := Lib.hid (show Row ((W.drew.alloc (.cells #[] 3)).alloc (.cells #[.int .i64 act.b] 3)) (W.heap.size + 1) 3 #[.int .i64 act.b] from by
                  have k := Row.fresh (W.drew.alloc (.cells #[] 3)) 3 #[.int .i64 act.b]
                  rw [World.size_alloc] at k
                  exact k)
                have OC0 := Lib.hid (((Only.refl none_ W).drew).alloc (.cells #[.int .i64 act.b] 3))
                have OC := Lib.hid (OC0.out.alloc (.cells #[] 3))
                have RC1 := Lib.hid ((Row.fresh W.drew 3 #[.int .i64 act.b]).alloc (.cells #[] 3))
                have RC := Lib.hid (show Row ((W.drew.alloc (.cells #[.int .i64 act.b] 3)).alloc (.cells #[] 3)) (W.heap.size + 1) 3 #[] from by
                  have k := Row.fresh (W.drew.alloc (.cells #[.int .i64 act.b] 3)) 3 #[]
                  rw [World.size_alloc] at k
                  exact k)
                have kx0 := KX.out _ (Only.refl _ W)
                have kx1 := KX.out _ (Only.refl none_ W).drew
                have kx2 := KX.out _ OA.out
                have lx : xa < W.heap.size := h6.snd.snd.row.lt
                have lxd : xa < W.drew.heap.size := lx
                have BK1 := Lib.hid (show 0 + 1 ≤ maxLen from by unfold maxLen; omega)
                have BK2 := Lib.hid (show (0 + 1) * 8 ≤ 140737488355328 from by omega)
                have F := Lib.hid (fun v6 w6 (h : World.ownsRow w6 W.heap.size 3 1 v6 (0 + 1) ([] ++ [.int .i64 act.b])) => (show OwnsInts w6 W.heap.size v6 [act.b] from by
                  show World.ownsRow _ _ _ _ _ _ _
                  simpa [one] using h))
                go_region_law (first
                  | (refine step_append_mine8 rfl (.tmp 59) (.tmp 62) 43 rfl W.heap.size 3 i0 _ 1 8 Try.underlying43 I0.out I1.out I2.out I3.out rfl (by decide) _ 0 _ ?_ (EMP.out _ _ RB.out (Nat.le_refl _)) ⟨(W.heap.size + 1), 0, none⟩ 1 1 [.int .i64 act.b] ?_ rfl (NEWS.out _ _ RB1.out) ONES.out BK1.out BK2.out OB.out.size ?_
                     · first | (simp [Act.eval]; done) | (simp [Act.eval, Act.put]; done)
                     · first | (simp [Act.eval]; done) | (simp [Act.eval, Act.put]; done)
                     intro v6 w6 hown6 hgrow6
                     have O6 := Lib.hid (OB.out.trans (Only.of_grown hgrow6) (fun j hj q => by have := (World.ownsRow.lt (EMP.out _ _ RB.out (Nat.le_refl _)) j q.symm).1; omega))
                     have OW6 := Lib.hid (F.out _ _ hown6)
                     obtain ⟨a6, n6, c6, rfl⟩ := int_formb OW6.out
                     clear hown6 hgrow6)
                  | (refine step_append_mine8 rfl (.tmp 59) (.tmp 62) 43 rfl W.heap.size 3 i0 _ 1 8 Try.underlying43 I0.out I1.out I2.out I3.out rfl (by decide) _ 0 _ ?_ (EMP.out _ _ RC.out (Nat.le_succ _)) ⟨W.heap.size, 0, none⟩ 1 1 [.int .i64 act.b] ?_ rfl (NEWS.out _ _ RC1.out) ONES.out BK1.out BK2.out OC.out.size ?_
                     · first | (simp [Act.eval]; done) | (simp [Act.eval, Act.put]; done)
                     · first | (simp [Act.eval]; done) | (simp [Act.eval, Act.put]; done)
                     intro v6 w6 hown6 hgrow6
                     have O6 := Lib.hid (OC.out.trans (Only.of_grown hgrow6) (fun j hj q => by have := (World.ownsRow.lt (EMP.out _ _ RC.out (Nat.le_succ _)) j q.symm).1; omega))
                     have OW6 := Lib.hid (F.out _ _ hown6)
                     obtain ⟨a6, n6, c6, rfl⟩ := int_formb OW6.out
                     clear hown6 hgrow6)
                  | fail)
                all_goals
                  go_wp2_with fail
                  go_meet
                  case rel => exact ⟨_, _, (h6.told O6.out OW6.out).assoc.up2.snd, by rw [LP.out]; rfl, LE2⟩

              · go_upto_region 14 with fail
                have h6 := h4
                generalize w4 = W at *
                obtain ⟨i0, hi0, hz0, hz1, hz2⟩ := info_parts info_int8
                have I0 := Lib.hid hi0
                have I1 := Lib.hid hz0
                have I2 := Lib.hid hz1
                have I3 := Lib.hid hz2
                clear hi0 hz0 hz1 hz2
                have KX := Lib.hid (fun (w' : World) (o : Only none_ W w') => (show w'.cell? ⟨xa, 2, none⟩ = some (.int .i64 act.b) from (KS.out _ _ _ (h6.still o)).2.2))
                have EMP := Lib.hid (fun (w' : World) (E : Nat) (r : Row w' E 3 #[]) (hE : W.heap.size ≤ E) => (show w'.ownsRow W.heap.size 3 1 (.slice (some ⟨E, 0, none⟩) 0 0) 0 [] from ⟨rfl, .inr ⟨E, 0, #[], rfl, hE, r, Nat.le_refl _, Nat.zero_le _, rfl, rfl⟩⟩))
                have NEWS := Lib.hid (fun (w' : World) (E : Nat) (r : Row w' E 3 #[.int .i64 act.b]) => (show ∀ j u, ([.int .i64 act.b] : List Value)[j]? = some u → w'.cell? ((Addr.mk E 0 none).add j) = some u from fun j u hj => by rw [add11, Nat.zero_add, r.cell, List.getElem?_toArray]; exact hj))
                have ONES := Lib.hid (show ∀ u ∈ ([.int .i64 act.b] : List Value), u.oneCell' = true from fun u hu => by rw [List.mem_singleton.1 hu]; rfl)
                have OA := Lib.hid (((Only.refl none_ W).drew).alloc (.cells #[] 3))
                have RA := Lib.hid (Row.fresh W.drew 3 #[])
                have OB := Lib.hid (OA.out.alloc (.cells #[.int .i64 act.b] 3))
                have RB := Lib.hid (RA.out.alloc (.cells #[.int .i64 act.b] 3))
                have RB1 := Lib.hid (show Row ((W.drew.alloc (.cells #[] 3)).alloc (.cells #[.int .i64 act.b] 3)) (W.heap.size + 1) 3 #[.int .i64 act.b] from by
                  have k := Row.fresh (W.drew.alloc (.cells #[] 3)) 3 #[.int .i64 act.b]
                  rw [World.size_alloc] at k
                  exact k)
                have OC0 := Lib.hid (((Only.refl none_ W).drew).alloc (.cells #[.int .i64 act.b] 3))
                have OC := Lib.hid (OC0.out.alloc (.cells #[] 3))
                have RC1 := Lib.hid ((Row.fresh W.drew 3 #[.int .i64 act.b]).alloc (.cells #[] 3))
                have RC := Lib.hid (show Row ((W.drew.alloc (.cells #[.int .i64 act.b] 3)).alloc (.cells #[] 3)) (W.heap.size + 1) 3 #[] from by
                  have k := Row.fresh (W.drew.alloc (.cells #[.int .i64 act.b] 3)) 3 #[]
                  rw [World.size_alloc] at k
                  exact k)
                have kx0 := KX.out _ (Only.refl _ W)
                have kx1 := KX.out _ (Only.refl none_ W).drew
                have kx2 := KX.out _ OA.out
                have lx : xa < W.heap.size := h6.snd.snd.row.lt
                have lxd : xa < W.drew.heap.size := lx
                have SRC := Lib.hid (fun (w' : World) (o : Only none_ W w') => (show ∀ j u, (l.flatMap one)[j]? = some u → w'.cell? ((Addr.mk vg 0 none).add j) = some u from fun j u hj => o.cell (World.ownsRow.cells h6.snd.fst.ints (g := vg) rfl j u hj) (fun s => s)))
                have B1 := Lib.hid (show 0 + l.length ≤ maxLen from by unfold maxLen; omega)
                have B2 := Lib.hid (show (0 + l.length) * 8 ≤ 140737488355328 from by omega)
                have BK1 := Lib.hid (show 0 + l.length + 1 ≤ maxLen from by unfold maxLen; omega)
                have BK2 := Lib.hid (show (0 + l.length + 1) * 8 ≤ 140737488355328 from by omega)
                have F := Lib.hid (fun v6 w6 (h : World.ownsRow w6 W.heap.size 3 1 v6 (0 + l.length + 1) ([] ++ l.flatMap one ++ [.int .i64 act.b])) => (show OwnsInts w6 W.heap.size v6 (l ++ [act.b]) from by
                  show World.ownsRow _ _ _ _ _ _ _
                  rw [List.flatMap_append, List.length_append]
                  simpa [one] using h))
                go_region_law (first
                  | (refine step_append_mine8 rfl (.tmp 57) (.tmp 58) 43 rfl W.heap.size 3 i0 _ 1 8 Try.underlying43 I0.out I1.out I2.out I3.out rfl (by decide) _ 0 [] ?_ (EMP.out _ _ RA.out (Nat.le_refl _)) ⟨vg, 0, none⟩ l.length vc (l.flatMap one) ?_ (one_flat_len _) (SRC.out _ OA.out) (one_cells_one _) B1.out B2.out OA.out.size ?_
                     · first | (simp [Act.eval]; done) | (simp [Act.eval, Act.put]; done)
                     · first | (simp [Act.eval]; done) | (simp [Act.eval, Act.put]; done)
                     intro v5 w5 hown5 hgrow5
                     have O5 := Lib.hid (OA.out.trans (Only.of_grown hgrow5) (fun j hj q' => by have q2 : some j = some W.heap.size := q'; injection q2; omega))
                     have OW5 := Lib.hid hown5
                     have KX5 := KX.out _ O5.out
                     have R1A := Lib.hid (Row.fresh w5 3 #[.int .i64 act.b])
                     have O7 := Lib.hid (O5.out.alloc (.cells #[.int .i64 act.b] 3))
                     have OW7 := Lib.hid (World.ownsRow.alloc OW5.out (.cells #[.int .i64 act.b] 3))
                     have lx5 : xa < w5.heap.size := Nat.lt_of_lt_of_le lx O5.out.size
                     clear hown5 hgrow5)
                  | (refine step_append_mine8 rfl (.tmp 57) (.tmp 58) 43 rfl W.heap.size 3 i0 _ 1 8 Try.underlying43 I0.out I1.out I2.out I3.out rfl (by decide) _ 0 [] ?_ (EMP.out _ _ RB.out (Nat.le_refl _)) ⟨vg, 0, none⟩ l.length vc (l.flatMap one) ?_ (one_flat_len _) (SRC.out _ OB.out) (one_cells_one _) B1.out B2.out OB.out.size ?_
                     · first | (simp [Act.eval]; done) | (simp [Act.eval, Act.put]; done)
                     · first | (simp [Act.eval]; done) | (simp [Act.eval, Act.put]; done)
                     intro v5 w5 hown5 hgrow5
                     have O5 := Lib.hid (OB.out.trans (Only.of_grown hgrow5) (fun j hj q' => by have q2 : some j = some W.heap.size := q'; injection q2; omega))
                     have OW5 := Lib.hid hown5
                     have KX5 := KX.out _ O5.out
                     have R1B := Lib.hid ((Only.of_grown hgrow5).row RB1.out (fun q' => by have q2 : some (W.heap.size + 1) = some W.heap.size := q'; injection q2; omega))
                     have lx5 : xa < w5.heap.size := Nat.lt_of_lt_of_le lx O5.out.size
                     clear hown5 hgrow5)
                  | (refine step_append_mine8 rfl (.tmp 57) (.tmp 58) 43 rfl W.heap.size 3 i0 _ 1 8 Try.underlying43 I0.out I1.out I2.out I3.out rfl (by decide) _ 0 [] ?_ (EMP.out _ _ RC.out (Nat.le_succ _)) ⟨vg, 0, none⟩ l.length vc (l.flatMap one) ?_ (one_flat_len _) (SRC.out _ OC.out) (one_cells_one _) B1.out B2.out OC.out.size ?_
                     · first | (simp [Act.eval]; done) | (simp [Act.eval, Act.put]; done)
                     · first | (simp [Act.eval]; done) | (simp [Act.eval, Act.put]; done)
                     intro v5 w5 hown5 hgrow5
                     have O5 := Lib.hid (OC.out.trans (Only.of_grown hgrow5) (fun j hj q' => by have q2 : some j = some (W.heap.size + 1) := q'; injection q2; omega))
                     have OW5 := Lib.hid hown5
                     have KX5 := KX.out _ O5.out
                     have R1C := Lib.hid ((Only.of_grown hgrow5).row RC1.out (fun q' => by have q2 : some W.heap.size = some (W.heap.size + 1) := q'; injection q2; omega))
                     have lx5 : xa < w5.heap.size := Nat.lt_of_lt_of_le lx O5.out.size
                     clear hown5 hgrow5)
                  | (refine step_append_mine8 rfl (.tmp 59) (.tmp 62) 43 rfl W.heap.size 3 i0 _ 1 8 Try.underlying43 I0.out I1.out I2.out I3.out rfl (by decide) _ (0 + l.length) _ ?_ OW7.out ⟨w5.heap.size, 0, none⟩ 1 1 [.int .i64 act.b] ?_ rfl (NEWS.out _ _ R1A.out) ONES.out BK1.out BK2.out O7.out.size ?_
                     · first | (simp [Act.eval]; done) | (simp [Act.eval, Act.put]; done)
                     · first | (simp [Act.eval]; done) | (simp [Act.eval, Act.put]; done)
                     intro v6 w6 hown6 hgrow6
                     have O6 := Lib.hid (O7.out.trans (Only.of_grown hgrow6) (fun j hj q => by have := (World.ownsRow.lt OW7.out j q.symm).1; omega))
                     have OW6 := Lib.hid (F.out _ _ hown6)
                     obtain ⟨a6, n6, c6, rfl⟩ := int_formb OW6.out
                     clear hown6 hgrow6)
                  | (refine step_append_mine8 rfl (.tmp 59) (.tmp 62) 43 rfl W.heap.size 3 i0 _ 1 8 Try.underlying43 I0.out I1.out I2.out I3.out rfl (by decide) _ (0 + l.length) _ ?_ OW5.out ⟨(W.heap.size + 1), 0, none⟩ 1 1 [.int .i64 act.b] ?_ rfl (NEWS.out _ _ R1B.out) ONES.out BK1.out BK2.out O5.out.size ?_
                     · first | (simp [Act.eval]; done) | (simp [Act.eval, Act.put]; done)
                     · first | (simp [Act.eval]; done) | (simp [Act.eval, Act.put]; done)
                     intro v6 w6 hown6 hgrow6
                     have O6 := Lib.hid (O5.out.trans (Only.of_grown hgrow6) (fun j hj q => by have := (World.ownsRow.lt OW5.out j q.symm).1; omega))
                     have OW6 := Lib.hid (F.out _ _ hown6)
                     obtain ⟨a6, n6, c6, rfl⟩ := int_formb OW6.out
                     clear hown6 hgrow6)
                  | (refine step_append_mine8 rfl (.tmp 59) (.tmp 62) 43 rfl W.heap.size 3 i0 _ 1 8 Try.underlying43 I0.out I1.out I2.out I3.out rfl (by decide) _ (0 + l.length) _ ?_ OW5.out ⟨W.heap.size, 0, none⟩ 1 1 [.int .i64 act.b] ?_ rfl (NEWS.out _ _ R1C.out) ONES.out BK1.out BK2.out O5.out.size ?_
                     · first | (simp [Act.eval]; done) | (simp [Act.eval, Act.put]; done)
                     · first | (simp [Act.eval]; done) | (simp [Act.eval, Act.put]; done)
                     intro v6 w6 hown6 hgrow6
                     have O6 := Lib.hid (O5.out.trans (Only.of_grown hgrow6) (fun j hj q => by have := (World.ownsRow.lt OW5.out j q.symm).1; omega))
                     have OW6 := Lib.hid (F.out _ _ hown6)
                     obtain ⟨a6, n6, c6, rfl⟩ := int_formb OW6.out
                     clear hown6 hgrow6)
                  | fail)
                all_goals
                  go_wp2_with fail
                  go_meet
                  case rel => exact ⟨_, _, (h6.told O6.out OW6.out).assoc.up2.snd, by rw [LP.out], LE2⟩

            · have md : (act.a == own) = false := by simpa using mm
              have LP := Lib.hid (show laneL (pushS 256 128 ss act.a act.b) own = l from by rw [LL0.out, lane_push_no (.inr mm)])
              generalize hs2 : pushS 256 128 ss act.a act.b = s2 at *
              generalize hpc : pushC 256 128 ss act.a act.b = pc at *
              clear mm hp hpc hs2
              go_wp2_with fail
              (with_reducible refine PX.out.mono ?_)
              rintro e w4 ⟨rfl, h4⟩
              obtain ⟨d0, d1, d2⟩ := KS.out _ _ _ h4
              have H4 := Lib.hid h4
              clear PX SF h4 c1 c2 d0
              go_wp2_with fail
              go_meet
              case rel => exact ⟨_, _, H4.out.assoc2.fst, LP.out.symm, LE2⟩
          · have pd : (pushC 256 128 ss act.a act.b == 0) = false := by simpa using hp
            have LP := Lib.hid (show laneL (pushS 256 128 ss act.a act.b) own = l from by rw [LL0.out, lane_push_no (.inl hp)])
            generalize hs2 : pushS 256 128 ss act.a act.b = s2 at *
            generalize hpc : pushC 256 128 ss act.a act.b = pc at *
            clear hp hpc hs2
            go_wp2_with fail
            (with_reducible refine PX.out.mono ?_)
            rintro e w4 ⟨rfl, h4⟩
            obtain ⟨d0, d1, d2⟩ := KS.out _ _ _ h4
            have H4 := Lib.hid h4
            clear PX SF h4 c1 c2 d0
            go_wp2_with fail
            go_meet
            case rel => exact ⟨_, _, H4.out.assoc2.fst, LP.out.symm, LE2⟩
        · have kd : (act.kind == 0) = false := by simpa using kk
          have PX := sg_pull act.b SF.out (by decide) sl WX.out
          have LE2 := Nat.le_trans (pullS_le (ss := ss) (x := act.b)) hle
          have LP := Lib.hid (show laneL (pullS ss act.b) own = outI l act.b from by rw [LL0.out, lane_pull ON.out])
          generalize hs2 : pullS ss act.b = s2 at *
          have PX := Lib.hid PX
          clear kk hs2 c1
          go_wp2_with fail
          (with_reducible refine PX.out.mono ?_)
          rintro e w4 ⟨rfl, h4⟩
          obtain ⟨d0, d1, d2⟩ := KS.out _ _ _ h4
          have H4 := Lib.hid h4
          have RW := Lib.hid (Reads.of_owns h4.snd.fst.ints)
          clear PX SF h4 d0 d1
          have KX := Lib.hid (fun (w' : World) (o : Only none_ w4 w') => (show w'.cell? ⟨xa, 2, none⟩ = some (.int .i64 act.b) from (KS.out _ _ _ (H4.out.still o)).2.2))
          obtain ⟨i0, hi0, hz0, hz1, hz2⟩ := info_parts info_int8
          have I0 := Lib.hid hi0
          have I1 := Lib.hid hz0
          have I2 := Lib.hid hz1
          have I3 := Lib.hid hz2
          clear hi0 hz0 hz1 hz2 c0 c2 d2
          obtain ⟨ln, hln⟩ : ∃ ln, l.length = ln := ⟨_, rfl⟩
          rw [hln]
          have LNE := Lib.hid hln
          rw [hln] at lle
          clear hln
          go_wp2_with fail
          go_loopw [11, 12] (fun u i wx => ∃ (k : Nat), k ≤ ln ∧ i = .int .i64 k ∧ OwnsInts wx w4.heap.size u (outI (l.take k) act.b) ∧ Only none_ w4 wx) (fun _ i _ => ln - (intOf i).toNat)
          case atStart => exact ⟨0, Nat.zero_le _, rfl, Owns.start _ _ _ _ _, Only.refl _ _⟩
          case round =>
            obtain ⟨k, hk, rfl, hV, hO⟩ := hrel
            have HO2 := Lib.hid hO
            have HW := Lib.hid hV
            clear hV hO
            by_cases hlt : k < ln
            · obtain ⟨y, hy⟩ : ∃ y, l[k]? = some y := ⟨_, List.getElem?_eq_getElem (by rw [LNE.out]; exact hlt)⟩
              obtain ⟨ra, rc, e, hc⟩ := RW.out
              injection e with e1 _ e2
              subst e1 e2
              obtain ⟨g, o', rfl, cc⟩ := hc k y hy
              have n0 := HO2.out.cell cc (fun s => s)
              have n1 := KX.out _ HO2.out
              have HY := Lib.hid hy
              have kln : (k : Int) < (ln : Int) := by omega
              have CC := Lib.hid cc
              clear hc cc hy
              by_cases e : y = act.b
              · have t : (y != act.b) = false := by simp [e]
                have MORE := Lib.hid (out_skip HY.out e)
                clear e
                go_wp2_with fail
                go_quiet (fail)
                go_wp2_with fail
                go_roundw
                case rel => exact ⟨k + 1, by omega, by go_num, by rw [MORE.out]; exact HW.out.still ((Only.refl none_ _).drewN _), HO2.out.drewN _⟩
                case measure => simp [intOf]; omega
              · have t : (y != act.b) = true := by simpa using e
                have MORE := Lib.hid (out_yes HY.out e)
                clear e
                go_wp2_with fail
                go_quiet (fail)
                have HO3 := Lib.hid (HO2.out.drewN nq)
                have HW3 := Lib.hid (HW.out.still ((Only.refl none_ wr).drewN nq))
                generalize hwq : wr.drewN nq = wq at *
                have n2 := HO3.out.cell (show w4.cell? ⟨g, o' + k, none⟩ = some (.int .i64 y) from CC.out) (fun s => s)
                have RF := Lib.hid (Row.fresh wq 3 #[.int .i64 y])
                have HW4 := Lib.hid (HW3.out.still ((Only.refl none_ wq).alloc (.cells #[.int .i64 y] 3)))
                have HO4 := Lib.hid (HO3.out.idle ((Only.refl none_ wq).alloc (.cells #[.int .i64 y] 3)))
                have sz : w4.heap.size ≤ (wq.alloc (.cells #[.int .i64 y] 3)).heap.size := HO4.out.size
                have ole := Nat.le_trans (out_le (l.take k) act.b) (show (l.take k).length ≤ 128 by rw [List.length_take]; have := LNE.out; omega)
                have l1 := Lib.hid (show (outI (l.take k) act.b).length < 9223372036854775807 from by omega)
                have l2 := Lib.hid (show ((outI (l.take k) act.b).length + 1) * 8 ≤ 140737488355328 from by omega)
                clear ole HW3 n0 n1
                go_wp2_with (at_builtin; go_loud (refine wpList_append_one rfl (.tmp 81) (.tmp 86) 43 rfl (c := one) i0 _ 8 Try.underlying43 I0.out I1.out I2.out I3.out rfl (by decide) one1 one_one rfl HW4.out (y := y) rfl RF.out l1.out l2.out sz ?_; intro v5 w5 hown5 hO5))
                rw [← MORE.out] at hown5
                have HO5 := Lib.hid (HO4.out.trans hO5 (fun i hi q => by omega))
                have W5 := Lib.hid hown5
                clear hown5 hO5
                go_wp2_with fail
                go_roundw
                case rel => exact ⟨k + 1, by omega, by go_num, W5.out, HO5.out⟩
                case measure => simp [intOf]; omega
            · have ALL := Lib.hid (out_all (x := act.b) (show l.length ≤ k by have := LNE.out; omega))
              rw [ALL.out] at HW
              have T4 := Lib.hid ((H4.out.told HO2.out HW.out).assoc.up2.snd)
              obtain ⟨a6, n6, c6, rfl⟩ := int_formb HW.out
              go_wp2_with fail
              go_meet
              case rel => exact ⟨_, _, T4.out, LP.out.symm, LE2⟩
      case rest =>
        obtain ⟨s2, l2, h2, hl2, hle2⟩ := hcut
        have S2 := Lib.hid h2
        have sl2 : s2.length ≤ 1000 := by omega
        have l2le : l2.length ≤ 1000 := by rw [hl2]; exact Nat.le_trans (lane_le _ _) sl2
        have HL2 := Lib.hid hl2
        have HD := sg_head own h2.fst (by decide) sl2
        have LA := sg_last own h2.fst (by decide) sl2
        have LN := sg_lane own h2.fst (by decide) sl2
        rw [← hl2] at HD LA LN
        have HD := Lib.hid HD
        have LA := Lib.hid LA
        have LN := Lib.hid LN
        have RD := Lib.hid (Reads.of_owns h2.snd.ints)
        clear h2 hl2 c0 c1 c2 SF KS
        by_cases hx : l2 = []
        · subst hx
          have E0 := Lib.hid (show headI [] = 0 ∧ lastI [] = 0 ∧ someB [] = false from ⟨rfl, rfl, rfl⟩)
          rw [E0.out.1, E0.out.2.2] at HD
          rw [E0.out.2.1, E0.out.2.2] at LA
          obtain ⟨a8, c8, e8, _⟩ := RD.out
          subst e8
          go_wp2_with fail
          (with_reducible refine (HD.out).mono ?_)
          rintro e w' ⟨rfl, rfl⟩
          go_wp2_with fail
          (with_reducible refine (LA.out).mono ?_)
          rintro e w' ⟨rfl, rfl⟩
          go_wp2_with fail
          (with_reducible refine (LN.out).mono ?_)
          rintro e w6 ⟨a6, c6, rfl, h6, o6⟩
          have R6 := Lib.hid (Reads.of_owns h6)
          have IN := ints_told a6 a8 c6 c8 [] [] _ R6.out (RD.out.still o6) (by decide) (by decide)
          simp only [decide_true] at IN
          have IN := Lib.hid IN
          have S6 := Lib.hid (S2.out.still o6)
          clear h6 HD LA LN R6 o6
          rw [List.length_nil] at IN ⊢
          go_wp2_with fail
          (with_reducible refine (IN.out).mono ?_)
          rintro e w7 ⟨rfl, o7⟩
          have S7 := Lib.hid (S6.out.still o7)
          clear IN S6 o7
          go_wp2_with fail
          go_roundw
          case rel => exact ⟨j + 1, s2, [], by omega, by omega, by go_num, S7.out, HL2.out, hle2⟩
          case measure => simp [intOf]; omega
        · obtain ⟨m, c8, g8, o8, e8, hm, c0, c1, hs⟩ := ends_at RD.out hx
          have mb : m ≤ 1000 := by omega
          rw [hs] at HD LA
          subst e8
          generalize hhi : headI l2 = hi at *
          generalize hli : lastI l2 = li at *
          clear hhi hli hs hx
          go_wp2_with fail
          (with_reducible refine (HD.out).mono ?_)
          rintro e w' ⟨rfl, rfl⟩
          go_wp2_with fail
          (with_reducible refine (LA.out).mono ?_)
          rintro e w' ⟨rfl, rfl⟩
          go_wp2_with fail
          (with_reducible refine (LN.out).mono ?_)
          rintro e w6 ⟨a6, c6, rfl, h6, o6⟩
          have R6 := Lib.hid (Reads.of_owns h6)
          have d0 := o6.cell c0 (fun s => s)
          have d1 := o6.cell c1 (fun s => s)
          have IN := ints_told a6 (some ⟨g8, o8, none⟩) c6 c8 l2 l2 _ R6.out (by rw [hm]; exact RD.out.still o6) l2le l2le
          simp only [decide_true] at IN
          rw [hm] at IN ⊢
          have IN := Lib.hid IN
          have S6 := Lib.hid (S2.out.still o6)
          clear h6 HD LA LN R6 o6 hm
          go_wp2_with fail
          (with_reducible refine (IN.out).mono ?_)
          rintro e w7 ⟨rfl, o7⟩
          have S7 := Lib.hid (S6.out.still o7)
          have f0 := o7.cell d0 (fun s => s)
          have f1 := o7.cell d1 (fun s => s)
          have t1 : decide ((0 : Int) < ((m : Int) + 1)) = true := decide_eq_true (by omega)
          have t2 : (hi != hi) = false := by simp
          have t3 : (li != li) = false := by simp
          have hwi : IntKind.i64.wrap ((m : Int) + 1 - 1) = (m : Int) := by rw [IntKind.wrap_i64]; omega
          clear IN S6 o7 c0 c1 d0 d1
          go_wp2_with fail
          go_roundw
          case rel => exact ⟨j + 1, s2, l2, by omega, by omega, by go_num, S7.out, HL2.out, hle2⟩
          case measure => simp [intOf]; omega
    · have W3 := Lib.hid H.out.only.to_below11
      rcases q1 with ⟨q1, q2⟩ | q1
      all_goals
        go_wp2_with fail
        go_ret
        exact ⟨rfl, W3.out⟩



end Go.Proofs.Ytjeiaialnanemaa.laneOrder
