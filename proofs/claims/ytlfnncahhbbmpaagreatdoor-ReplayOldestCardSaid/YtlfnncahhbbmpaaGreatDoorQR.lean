/- Texts of the layers below, one behind the other. -/
import Derived.Test.YtlfnncahhbbmpaaGreatDoorQF
import Derived.BigRegion
namespace Go.Proofs.YtlfnncahhbbmpaaGreatDoor
open Go.RowKit Go.Maps
set_option linter.unusedVariables false
set_option maxRecDepth 100000

theorem rlook_no (q : Nat) (f c : Int) (w : World) (hm : mayLook f c = false) :
    Calls Tryz.prog 85 #[.pointer (some ⟨q, 0, none⟩), .int .i64 f, .int .i64 c] w fun e w' => e = .returned (.tuple #[.bool false, .int .i64 1]) ∧ w = w' := by
  have hm : ¬ (0 ≤ f ∧ f ≤ 1048576 ∧ 1 ≤ c ∧ c ≤ 8) := of_decide_eq_false hm
  by_cases h1 : f < 0
  · have d1 : decide (f < 0) = true := by simpa using h1
    clear hm h1
    go_enter Tryz.func85, Tryz.ntmps85
    go_wp2
    go_ret2
    exact ⟨rfl, rfl⟩
  · have d1 : decide (f < 0) = false := by simpa using h1
    by_cases h2 : 1048576 < f
    · have d2 : decide (1048576 < f) = true := by simpa using h2
      clear hm h1 h2
      go_enter Tryz.func85, Tryz.ntmps85
      go_wp2
      go_ret2
      exact ⟨rfl, rfl⟩
    · have d2 : decide (1048576 < f) = false := by simpa using h2
      by_cases h3 : c < 1
      · have d3 : decide (c < 1) = true := by simpa using h3
        clear hm h1 h2 h3
        go_enter Tryz.func85, Tryz.ntmps85
        go_wp2
        go_ret2
        exact ⟨rfl, rfl⟩
      · have d3 : decide (c < 1) = false := by simpa using h3
        have d4 : decide (8 < c) = true := by simp; omega
        clear hm h1 h2 h3
        go_enter Tryz.func85, Tryz.ntmps85
        go_wp2
        go_ret2
        exact ⟨rfl, rfl⟩

theorem en_cases {w : World} {ok : Nat → Prop} {v : Value} {es : List En} (h : OwnsEn w ok v es) : (v = .slice none 0 0 ∧ es = []) ∨ ∃ g cap, v = .slice (some ⟨g, 0, none⟩) es.length cap ∧ ok g ∧ g < w.heap.size ∧ ∀ j u, (es.flatMap En.cells)[j]? = some u → w.cell? ((Addr.mk g 0 none).add j) = some u := by
  have ho := h.2
  have h1 := h.1
  rcases h.1.2 with ⟨h0, h2⟩ | ⟨g, cap, cur, hv, hg, hh, _⟩
  · exact .inl ⟨h0, List.eq_nil_of_length_eq_zero h2⟩
  · exact .inr ⟨g, cap, hv, ho g (by rw [hv]; rfl), (Array.getElem?_eq_some_iff.1 hh).1, World.ownsRow.cells h1 (g := g) (by rw [hv]; rfl)⟩
theorem own_one8 {W : World} {g : Nat} {x : En} (h : Row W g 173 x.cells.toArray) : Owns W g 173 2 En.cells (.slice (some ⟨g, 0, none⟩) 1 1) [x] :=
  ⟨rfl, .inr ⟨g, 1, x.cells.toArray, rfl, Nat.le_refl _, h, Nat.le_refl _, by unfold maxLen; omega, rfl, rfl⟩⟩

theorem tail8 {W W' : World} {q : Nat} {cs : Array Value} {x : En} {es : List En} {v5 : Value} {w5 : World} (hv : Owns W' W.heap.size 173 2 En.cells (.slice (some ⟨W.heap.size, 0, none⟩) 1 1) [x]) (oa : Only none_ W W') (r : Row W q 136 cs) {u : Value} (hu : cs[2]? = some u)
    (h : w5.ownsRow W.heap.size 173 2 v5 (1 + es.length) (x.cells ++ es.flatMap En.cells)) (g : W'.grownBy w5 (Value.ownBlock (.slice (some ⟨W.heap.size, 0, none⟩) 1 1))) :
    ∃ a n k, v5 = .slice a n k ∧ Owns w5 W.heap.size 173 2 En.cells v5 (x :: es) ∧ Only none_ W w5 ∧ Row w5 q 136 cs ∧ w5.cell? ⟨q, 2, none⟩ = some u := by
  have V5 : Owns w5 W.heap.size 173 2 En.cells v5 (x :: es) := by
    unfold Owns
    rw [List.flatMap_cons, List.length_cons, Nat.add_comm]
    exact h
  obtain ⟨a, n, k, e⟩ := own_form8 V5
  have O5 : Only none_ W w5 := oa.trans (Only.of_grown g) (fun j hj q => by have := (hv.base_le q.symm).1; omega)
  exact ⟨a, n, k, e, V5, O5, O5.still r, by rw [(O5.still r).cell, hu]⟩
theorem wrap_age {a : Nat} (h : a ≤ 1000) : wrap64 ((a : Int) + 1) = (a : Int) + 1 := by unfold wrap64; omega
theorem wrap_age2 {a : Nat} (h : a ≤ 1000) : IntKind.i64.wrap ((a : Int) + 1) = (a : Int) + 1 := by rw [IntKind.wrap_i64]; omega
theorem age_yes {a life : Nat} (h : a + 1 ≤ life) : decide ((a : Int) + 1 ≤ (life : Int)) = true := by simp; omega
theorem age_not {a life : Nat} (h : ¬ a + 1 ≤ life) : decide ((a : Int) + 1 ≤ (life : Int)) = false := by simp; omega

set_option maxHeartbeats 1000000 in
theorem rlook_any (q size life : Nat) (ok : Nat → Prop) (es : List En) (f c : Int) (w : World) (h : RT w q ok size life es) (hf : Fine8 size life es) :
    Calls Tryz.prog 85 #[.pointer (some ⟨q, 0, none⟩), .int .i64 f, .int .i64 c] w fun e w' => e = .returned (.tuple #[.bool (lookB size life es f c), .int .i64 (lookC f c)]) ∧ RT w' q ok size life (lookT size life es f c) ∧ Only (fun k => k = q) w w' := by
  cases hm : mayLook f c with
  | false =>
    refine (rlook_no q f c w hm).mono ?_
    rintro e w' ⟨rfl, rfl⟩
    refine ⟨by unfold lookB lookC; rw [hm]; rfl, ?_, Only.refl _ _⟩
    unfold lookT
    rw [hm]
    exact h
  | true =>
    have hm2 := mayLook_iff.1 hm
    have d1 : decide (f < 0) = false := by simp; omega
    have d2 : decide (1048576 < f) = false := by simp; omega
    have d3 : decide (c < 1) = false := by simp; omega
    have d4 : decide (8 < c) = false := by simp; omega
    have eC : lookC f c = 0 := by unfold lookC; rw [hm]; rfl
    have eT : lookT size life es f c = (lookE size life es f c).1 := by unfold lookT; rw [hm]; rfl
    have eB : lookB size life es f c = (lookE size life es f c).2 := by unfold lookB; rw [hm]; rfl
    have f0 := hm2.1
    have f1 := hm2.2.1
    have g0 := hm2.2.2.1
    have g1 := hm2.2.2.2
    have es32 : es.length ≤ 32 := Nat.le_trans hf.few hf.s32
    have l64 := hf.l64
    have HF := Lib.hid hf
    have H := Lib.hid h
    rw [eC, eB, eT]
    have lq := h.lt
    obtain ⟨⟨v, r, o⟩, l1, l2⟩ := h
    have LQ := Lib.hid l1
    have LB := Lib.hid l2
    obtain ⟨A, ca, rfl, ha, _⟩ := o.form
    have HA := Lib.hid ha
    have R := Lib.hid r
    have OS := Lib.hid o
    obtain ⟨i0, hi0, hz0, hz1, hz2⟩ := info_parts info_en
    have I0 := Lib.hid hi0
    have I1 := Lib.hid hz0
    have I2 := Lib.hid hz1
    have I3 := Lib.hid hz2
    clear hm hm2 eC eT eB r o l1 l2 ha hf hi0 hz0 hz1 hz2
    go_enter Tryz.func85, Tryz.ntmps85
    go_wp2_with fail
    go_loopw [8, 9] (fun v i wr => ∃ k : Nat, k ≤ es.length ∧ i = .int .i64 k ∧ Owns wr w.heap.size 173 2 En.cells v (older life (es.take k)) ∧ Only none_ w wr) (fun _ i _ => es.length - (intOf i).toNat)
    case atStart => exact ⟨0, Nat.zero_le _, rfl, Owns.start _ _ _ _ _, Only.refl _ _⟩
    case round =>
      obtain ⟨k, hk, rfl, hv, hO⟩ := hrel
      have OO := Lib.hid hO
      have V := Lib.hid hv
      have cq : wr.cell? ⟨q, 2, none⟩ = some (.slice A es.length ca) := by rw [(hO.still R.out).cell]; rfl
      have cq' : wr.drew.cell? ⟨q, 2, none⟩ = some (.slice A es.length ca) := cq
      have cl : wr.drew.cell? ⟨q, 1, none⟩ = some (.int .i64 life) := by show wr.cell? _ = _; rw [(hO.still R.out).cell]; rfl
      have lqr := Nat.lt_of_lt_of_le lq hO.size
      clear hO hv
      by_cases hlt : k < es.length
      · obtain ⟨y, hy⟩ : ∃ y, es[k]? = some y := ⟨_, List.getElem?_eq_getElem hlt⟩
        obtain ⟨ag, ao, rfl, lt1, c1⟩ := HA.out k y hy
        have HY := Lib.hid hy
        have OT := Lib.hid (older_take (life := life) hy)
        have ya := HF.out.young y (List.mem_of_getElem? hy)
        have c0 : wr.drew.cell? ⟨ag, ao + k * 2, none⟩ = some (.int .i64 y.next) := OO.out.cell (c1 0 (.int .i64 y.next) rfl) (fun s => s)
        have c1' : wr.drew.cell? ⟨ag, ao + k * 2 + 1, none⟩ = some (.int .i64 y.age) := OO.out.cell (c1 1 (.int .i64 y.age) rfl) (fun s => s)
        clear hy c1
        by_cases hy : y.age + 1 ≤ life
        · have d5 : decide ((y.age : Int) + 1 ≤ (life : Int)) = true := age_yes hy
          have OT2 := Lib.hid (show older life (es.take (k + 1)) = older life (es.take k) ++ [⟨y.next, y.age + 1⟩] by rw [OT.out, if_pos hy])
          have hw2 : IntKind.i64.wrap ((y.age : Int) + 1) = (y.age : Int) + 1 := wrap_age2 (Nat.le_trans ya (Nat.le_trans l64 (by decide)))
          have OA := Lib.hid (((Only.refl none_ wr).alloc (.cells #[.int .i64 y.next, .int .i64 ((y.age : Int) + 1)] 173)).drew.drew)
          have RF := Lib.hid (show Row ((wr.alloc (.cells #[.int .i64 y.next, .int .i64 ((y.age : Int) + 1)] 173)).drew.drew) wr.heap.size 173 (En.cells ⟨y.next, y.age + 1⟩).toArray from (Row.fresh wr _ _).drew.drew)
          have SB := Lib.hid (show w.heap.size ≤ ((wr.alloc (.cells #[.int .i64 y.next, .int .i64 ((y.age : Int) + 1)] 173)).drew.drew).heap.size from Nat.le_trans OO.out.size OA.out.size)
          have yl : (older life (es.take k)).length ≤ 32 := Nat.le_trans (older_len _ _) (by rw [List.length_take]; omega)
          have YL := Lib.hid yl
          clear OT hy yl
          go_wp2_with fail
          go_region
          all_goals
            go_wp2_with fail
            go_region_law (refine step_append_mine8 rfl (.tmp 48) (.tmp 67) 134 rfl w.heap.size 173 i0 _ 2 16 Tryz.underlying134 I0.out I1.out I2.out I3.out rfl (by decide) _ _ _ rfl (V.out.still OA.out) ⟨wr.heap.size, 0, none⟩ 1 1 (En.cells ⟨y.next, y.age + 1⟩) rfl rfl (fun j u hj => by rw [add8, Nat.zero_add, RF.out.cell]; simpa using hj) (en_one _) (by unfold maxLen; have := YL.out; omega) (by have := YL.out; omega) SB.out ?_
                           intro v5 w5 hown5 hgrow5)
            all_goals
              have HO5 := Lib.hid ((OO.out.idle OA.out).trans (Only.of_grown hgrow5) (fun j hj q => by have := ((V.out.still OA.out).base_le q.symm).1; omega))
              have V5 := Lib.hid (show Owns w5 w.heap.size 173 2 En.cells v5 (older life (es.take (k + 1))) from by
                unfold Owns
                rw [OT2.out, List.flatMap_append, List.length_append]
                simpa using hown5)
              clear hown5 hgrow5
              go_wp2_with fail
              go_roundw
              case rel => exact ⟨k + 1, by omega, by go_num, V5.out, HO5.out⟩
              case measure => simp [intOf]; omega
        · have d5 : decide ((y.age : Int) + 1 ≤ (life : Int)) = false := age_not hy
          have OT2 := Lib.hid (show older life (es.take (k + 1)) = older life (es.take k) by rw [OT.out, if_neg hy, List.append_nil])
          clear OT hy
          go_wp2_with fail
          go_region
          all_goals
            go_wp2_with fail
            go_roundw
            case rel => exact ⟨k + 1, by omega, by go_num, by rw [OT2.out]; exact V.out.still (Only.refl none_ wr).drew, OO.out.drew⟩
            case measure => simp [intOf]; omega
      · -- the end
        have hk2 : es.take k = es := List.take_of_length_le (by omega)
        have V2 := V.out
        rw [hk2] at V2
        obtain ⟨va, vn, vc, rfl⟩ := own_form8 V2
        have RW := (OO.out.still R.out).put 2 (.slice va vn vc)
        have OP := (Only.refl (fun k => k = q) wr).into rfl 2 (.slice va vn vc)
        have KP := V2.keep OP (fun g hg e => by have := (V2.base_le hg).1; omega)
        have h1 : RT (wr.setCell ⟨q, 2, none⟩ (.slice va vn vc)) q ok size life (older life es) := ⟨⟨_, RW, OwnsEn.new KP LB.out⟩, LQ.out, fun g hg => LB.out g (by have := OO.out.size; simp [World.setCell] at hg; omega)⟩
        have O1 := Lib.hid (show Only (fun k => k = q) w _ from OO.out.then_ OP)
        have H1 := Lib.hid h1
        have zz := (OO.out.still R.out).frozen
        have FY := Lib.hid (older_fine HF.out)
        have yl : (older life es).length ≤ 32 := Nat.le_trans (older_len _ _) es32
        have A1 := Lib.hid (at8_any q size life ok (older life es) f _ h1 (by omega))
        have ER := Lib.hid (show (room size (older life es) (f + c)).length ≤ 32 from Nat.le_trans (room_sub _ _ _).length_le yl)
        clear V V2 RW OP KP h1 hk2
        cases hh : hasE (older life es) f with
        | true =>
          have e1 : lookE size life es f c = (cut (older life es) f, true) := by unfold lookE; rw [hh]; rfl
          have il := atE_lt hh
          have e2 : atI (older life es) f = (atE (older life es) f : Int) := by unfold atI; rw [hh]; rfl
          have e3 := cut_at FY.out.apart hh
          have E1 := Lib.hid e1
          rw [e2] at A1
          have E3 := Lib.hid e3
          have IL := Lib.hid il
          clear e1 e2 e3 hh il
          generalize atE (older life es) f = ix at *
          have d6 : decide ((0 : Int) ≤ (ix : Int)) = true := by simp
          go_wp2_with fail
          generalize wr.setCell ⟨q, 2, none⟩ (.slice va vn vc) = W1 at *
          (with_reducible refine (A1.out).mono ?_)
          rintro e w' ⟨rfl, rfl⟩
          have B1 := Lib.hid (without8_any q size life ix ok (older life es) W1 H1.out (by omega) IL.out)
          go_wp2_with fail
          (with_reducible refine (B1.out).mono ?_)
          rintro e w2 ⟨rfl, h2, o2⟩
          rw [E3.out] at h2
          have H2 := Lib.hid h2
          have O2 := Lib.hid (O1.out.same o2)
          clear h2 o2
          go_wp2_with fail
          go_ret2
          rw [E1.out]
          exact ⟨rfl, H2.out, O2.out⟩
        | false =>
          have e1 : lookE size life es f c = (noteE size (older life es) (f + c), false) := by unfold lookE; rw [hh]; rfl
          have e2 : atI (older life es) f = -1 := by unfold atI; rw [hh]; rfl
          have E1 := Lib.hid e1
          rw [e2] at A1
          have A2 := Lib.hid (at8_any q size life ok (older life es) (f + c) _ H1.out (by omega))
          clear e1 e2 hh
          cases hc : hasE (older life es) (f + c) with
          | true =>
            have il := atE_lt hc
            have e2 : atI (older life es) (f + c) = (atE (older life es) (f + c) : Int) := by unfold atI; rw [hc]; rfl
            have e3 := cut_at FY.out.apart hc
            have RM := Lib.hid (show room size (older life es) (f + c) = cut (older life es) (f + c) by unfold room; rw [if_pos hc])
            rw [e2] at A2
            have E3 := Lib.hid e3
            have IL := Lib.hid il
            clear e2 e3 hc il
            generalize atE (older life es) (f + c) = ix at *
            have d6 : decide ((0 : Int) ≤ (ix : Int)) = true := by simp
            go_wp2_with fail
            generalize wr.setCell ⟨q, 2, none⟩ (.slice va vn vc) = W1 at *
            (with_reducible refine (A1.out).mono ?_)
            rintro e w' ⟨rfl, rfl⟩
            have B1 := Lib.hid (without8_any q size life ix ok (older life es) W1 H1.out (by omega) IL.out)
            go_wp2_with fail
            (with_reducible refine (A2.out).mono ?_)
            rintro e w' ⟨rfl, rfl⟩
            go_wp2_with fail
            (with_reducible refine (B1.out).mono ?_)
            rintro e w2 ⟨rfl, h2, o2⟩
            rw [E3.out] at h2
            have H2 := Lib.hid h2
            have O2 := Lib.hid (O1.out.same o2)
            clear h2 o2
            obtain ⟨⟨v3, r3, o3⟩, _, lb3⟩ := H2.out
            have szW := O2.out.size
            have e3l : (room size (older life es) (f + c)).length ≤ 32 := ER.out
            rw [RM.out] at e3l
            rcases en_cases o3 with ⟨rfl, eq3⟩ | ⟨g3, cap3, rfl, ok3, lt3, cell3⟩
            · have c23 : (w2.alloc (.cells #[.int .i64 (f + c), .int .i64 0] 173)).cell? ⟨q, 2, none⟩ = some (.slice none 0 0) := by rw [(r3.alloc _).cell]; rfl
              have zz3 := (r3.alloc (.cells #[.int .i64 (f + c), .int .i64 0] 173)).frozen
              have lq3 := r3.lt
              have R3 := Lib.hid (r3.alloc (.cells #[.int .i64 (f + c), .int .i64 0] 173))
              have OA := Lib.hid ((Only.refl none_ w2).alloc (.cells #[.int .i64 (f + c), .int .i64 0] 173))
              have V3 := Lib.hid (own_one8 (x := ⟨f + c, 0⟩) (Row.fresh w2 173 #[.int .i64 (f + c), .int .i64 0]))
              have EQ := Lib.hid eq3
              have R30 := Lib.hid r3
              clear r3 o3 eq3 lb3
              go_wp2_with fail
              go_ret2
              have OP := (((Only.refl (fun k => k = q) w2).into rfl 2 (.slice (some ⟨w2.heap.size, 0, none⟩) 1 1)).alloc (.cells #[.int .i64 (f + c), .int .i64 0] 173))
              have RP := (R30.out.put 2 (.slice (some ⟨w2.heap.size, 0, none⟩) 1 1)).alloc (.cells #[.int .i64 (f + c), .int .i64 0] 173)
              have KP := own_one8 (x := ⟨f + c, 0⟩) (show Row ((w2.setCell ⟨q, 2, none⟩ (.slice (some ⟨w2.heap.size, 0, none⟩) 1 1)).alloc (.cells #[.int .i64 (f + c), .int .i64 0] 173)) w2.heap.size 173 (En.cells ⟨f + c, 0⟩).toArray from by
                have := Row.fresh (w2.setCell ⟨q, 2, none⟩ (.slice (some ⟨w2.heap.size, 0, none⟩) 1 1)) 173 #[.int .i64 (f + c), .int .i64 0]
                rw [show (w2.setCell ⟨q, 2, none⟩ (.slice (some ⟨w2.heap.size, 0, none⟩) 1 1)).heap.size = w2.heap.size by simp [World.setCell]] at this
                exact this)
              rw [E1.out]
              refine ⟨rfl, ⟨⟨_, RP, OwnsEn.new (b := w2.heap.size) ?_ (fun g hg => LB.out g (by omega))⟩, LQ.out, fun g hg => LB.out g (by simp [World.setCell] at hg; omega)⟩, O2.out.trans OP (fun i _ q => q)⟩
              unfold noteE
              rw [RM.out, EQ.out]
              exact KP
            · have c23 : (w2.alloc (.cells #[.int .i64 (f + c), .int .i64 0] 173)).cell? ⟨q, 2, none⟩ = some (.slice (some ⟨g3, 0, none⟩) (cut (older life es) (f + c)).length cap3) := by rw [(r3.alloc _).cell]; rfl
              have lq3 := r3.lt
              have R3 := Lib.hid (r3.alloc (.cells #[.int .i64 (f + c), .int .i64 0] 173))
              have OA := Lib.hid ((Only.refl none_ w2).alloc (.cells #[.int .i64 (f + c), .int .i64 0] 173))
              have V3 := Lib.hid (own_one8 (x := ⟨f + c, 0⟩) (Row.fresh w2 173 #[.int .i64 (f + c), .int .i64 0]))
              have C3 := Lib.hid (fun j u hj => OA.out.cell (cell3 j u hj) (fun s => s))
              have EL := Lib.hid e3l
              have SZ3 := Lib.hid OA.out.size
              have R33 := Lib.hid r3
              clear r3 o3 lb3 cell3 lt3
              go_wp2_with (at_builtin; go_loud (refine wpList_append_own _ rfl (.tmp 114) (.tmp 118) 134 rfl w2.heap.size 173 i0 _ 2 16 Tryz.underlying134 I0.out I1.out I2.out I3.out rfl (by decide) _ 1 _ rfl V3.out ⟨g3, 0, none⟩ (cut (older life es) (f + c)).length cap3 _ rfl (en_flat_len _) C3.out (en_cells_one _) (by have := EL.out; unfold maxLen; omega) (by have := EL.out; omega) SZ3.out ?_; intro v5 w5 hown5 hgrow5 _; obtain ⟨a5, n5, k5, rfl, v5', o5', r5', cq5⟩ := tail8 V3.out OA.out R33.out rfl hown5 hgrow5; have V5 := Lib.hid v5'; have O5 := Lib.hid o5'; have R5 := Lib.hid r5'; have zz5 := R5.out.frozen; have lq5 := R5.out.lt; clear v5' o5' r5' hown5 hgrow5))
              go_ret2
              have OP := (Only.refl (fun k => k = q) w5).into rfl 2 (.slice a5 n5 k5)
              have KP := V5.out.keep OP (fun g hg e => by have := (V5.out.base_le hg).1; omega)
              rw [E1.out]
              refine ⟨rfl, ⟨⟨_, R5.out.put 2 _, OwnsEn.new (b := w2.heap.size) ?_ (fun g hg => LB.out g (by omega))⟩, LQ.out, fun g hg => LB.out g (by have := O5.out.size; simp [World.setCell] at hg; omega)⟩, O2.out.trans (O5.out.then_ OP) (fun i _ q => q)⟩
              unfold noteE
              rw [RM.out]
              exact KP
          | false =>
            have e2 : atI (older life es) (f + c) = -1 := by unfold atI; rw [hc]; rfl
            rw [e2] at A2
            obtain ⟨⟨v2, r2, o2'⟩, _, _⟩ := H1.out
            obtain ⟨A3, ca3, rfl, _, _⟩ := o2'.form
            have cE0 : (wr.setCell ⟨q, 2, none⟩ (.slice va vn vc)).drew.cell? ⟨q, 2, none⟩ = some (.slice A3 (older life es).length ca3) := by show (wr.setCell ⟨q, 2, none⟩ (.slice va vn vc)).cell? _ = _; rw [r2.cell]; rfl
            have cE1 : (wr.setCell ⟨q, 2, none⟩ (.slice va vn vc)).drew.cell? ⟨q, 0, none⟩ = some (.int .i64 size) := by show (wr.setCell ⟨q, 2, none⟩ (.slice va vn vc)).cell? _ = _; rw [r2.cell]; rfl
            have lr2 := r2.lt
            clear r2 o2'
            by_cases hs : size ≤ (older life es).length
            · have RM := Lib.hid (show room size (older life es) (f + c) = (older life es).dropLast by unfold room; rw [if_neg (by rw [hc]; simp), if_pos hs])
              have d7 : decide ((size : Int) ≤ ((older life es).length : Int)) = true := by simp; omega
              have d8 : decide (size ≤ (older life es).length) = true := by simp; omega
              have pos : 1 ≤ (older life es).length := Nat.le_trans FY.out.s1 hs
              have E4 := Lib.hid (show (older life es).take ((older life es).length - 1) ++ (older life es).drop ((older life es).length - 1 + 1) = (older life es).dropLast by
                rw [show (older life es).length - 1 + 1 = (older life es).length by omega, List.drop_length, List.append_nil, List.dropLast_eq_take])
              have LEN := Lib.hid (show (older life es).length - 1 < (older life es).length by omega)
              have cast : (((older life es).length : Int) - 1) = (((older life es).length - 1 : Nat) : Int) := by omega
              clear hc e2 hs
              generalize (older life es).dropLast = DL at *
              go_wp2_with fail
              generalize wr.setCell ⟨q, 2, none⟩ (.slice va vn vc) = W1 at *
              (with_reducible refine (A1.out).mono ?_)
              rintro e w' ⟨rfl, rfl⟩
              go_wp2_with fail
              (with_reducible refine (A2.out).mono ?_)
              rintro e w' ⟨rfl, rfl⟩
              have cE2 : W1.cell? ⟨q, 2, none⟩ = some (.slice A3 (older life es).length ca3) := cE0
              have B1 := Lib.hid (without8_any q size life ((older life es).length - 1) ok (older life es) W1.drew (H1.out.still (Only.refl none_ W1).drew) (by omega) LEN.out)
              go_wp2_with fail
              go_region
              all_goals
                go_wp2_with fail
                (with_reducible refine (B1.out).mono ?_)
                rintro e w2 ⟨rfl, h2, o2⟩
                rw [E4.out] at h2
                have H2 := Lib.hid h2
                have O2 := Lib.hid (O1.out.drew.same o2)
                clear h2 o2
                obtain ⟨⟨v3, r3, o3⟩, _, lb3⟩ := H2.out
                have szW := O2.out.size
                have e3l : (room size (older life es) (f + c)).length ≤ 32 := ER.out
                rw [RM.out] at e3l
                rcases en_cases o3 with ⟨rfl, eq3⟩ | ⟨g3, cap3, rfl, ok3, lt3, cell3⟩
                · have c23 : (w2.alloc (.cells #[.int .i64 (f + c), .int .i64 0] 173)).cell? ⟨q, 2, none⟩ = some (.slice none 0 0) := by rw [(r3.alloc _).cell]; rfl
                  have zz3 := (r3.alloc (.cells #[.int .i64 (f + c), .int .i64 0] 173)).frozen
                  have lq3 := r3.lt
                  have R3 := Lib.hid (r3.alloc (.cells #[.int .i64 (f + c), .int .i64 0] 173))
                  have OA := Lib.hid ((Only.refl none_ w2).alloc (.cells #[.int .i64 (f + c), .int .i64 0] 173))
                  have V3 := Lib.hid (own_one8 (x := ⟨f + c, 0⟩) (Row.fresh w2 173 #[.int .i64 (f + c), .int .i64 0]))
                  have EQ := Lib.hid eq3
                  have R30 := Lib.hid r3
                  clear r3 o3 eq3 lb3
                  go_wp2_with fail
                  go_ret2
                  have OP := (((Only.refl (fun k => k = q) w2).into rfl 2 (.slice (some ⟨w2.heap.size, 0, none⟩) 1 1)).alloc (.cells #[.int .i64 (f + c), .int .i64 0] 173))
                  have RP := (R30.out.put 2 (.slice (some ⟨w2.heap.size, 0, none⟩) 1 1)).alloc (.cells #[.int .i64 (f + c), .int .i64 0] 173)
                  have KP := own_one8 (x := ⟨f + c, 0⟩) (show Row ((w2.setCell ⟨q, 2, none⟩ (.slice (some ⟨w2.heap.size, 0, none⟩) 1 1)).alloc (.cells #[.int .i64 (f + c), .int .i64 0] 173)) w2.heap.size 173 (En.cells ⟨f + c, 0⟩).toArray from by
                    have := Row.fresh (w2.setCell ⟨q, 2, none⟩ (.slice (some ⟨w2.heap.size, 0, none⟩) 1 1)) 173 #[.int .i64 (f + c), .int .i64 0]
                    rw [show (w2.setCell ⟨q, 2, none⟩ (.slice (some ⟨w2.heap.size, 0, none⟩) 1 1)).heap.size = w2.heap.size by simp [World.setCell]] at this
                    exact this)
                  rw [E1.out]
                  refine ⟨rfl, ⟨⟨_, RP, OwnsEn.new (b := w2.heap.size) ?_ (fun g hg => LB.out g (by omega))⟩, LQ.out, fun g hg => LB.out g (by simp [World.setCell] at hg; omega)⟩, O2.out.trans OP (fun i _ q => q)⟩
                  unfold noteE
                  rw [RM.out, EQ.out]
                  exact KP
                · have c23 : (w2.alloc (.cells #[.int .i64 (f + c), .int .i64 0] 173)).cell? ⟨q, 2, none⟩ = some (.slice (some ⟨g3, 0, none⟩) DL.length cap3) := by rw [(r3.alloc _).cell]; rfl
                  have lq3 := r3.lt
                  have R3 := Lib.hid (r3.alloc (.cells #[.int .i64 (f + c), .int .i64 0] 173))
                  have OA := Lib.hid ((Only.refl none_ w2).alloc (.cells #[.int .i64 (f + c), .int .i64 0] 173))
                  have V3 := Lib.hid (own_one8 (x := ⟨f + c, 0⟩) (Row.fresh w2 173 #[.int .i64 (f + c), .int .i64 0]))
                  have C3 := Lib.hid (fun j u hj => OA.out.cell (cell3 j u hj) (fun s => s))
                  have EL := Lib.hid e3l
                  have SZ3 := Lib.hid OA.out.size
                  have R33 := Lib.hid r3
                  clear r3 o3 lb3 cell3 lt3
                  go_wp2_with (at_builtin; go_loud (refine wpList_append_own _ rfl (.tmp 114) (.tmp 118) 134 rfl w2.heap.size 173 i0 _ 2 16 Tryz.underlying134 I0.out I1.out I2.out I3.out rfl (by decide) _ 1 _ rfl V3.out ⟨g3, 0, none⟩ DL.length cap3 _ rfl (en_flat_len _) C3.out (en_cells_one _) (by have := EL.out; unfold maxLen; omega) (by have := EL.out; omega) SZ3.out ?_; intro v5 w5 hown5 hgrow5 _; obtain ⟨a5, n5, k5, rfl, v5', o5', r5', cq5⟩ := tail8 V3.out OA.out R33.out rfl hown5 hgrow5; have V5 := Lib.hid v5'; have O5 := Lib.hid o5'; have R5 := Lib.hid r5'; have zz5 := R5.out.frozen; have lq5 := R5.out.lt; clear v5' o5' r5' hown5 hgrow5))
                  go_ret2
                  have OP := (Only.refl (fun k => k = q) w5).into rfl 2 (.slice a5 n5 k5)
                  have KP := V5.out.keep OP (fun g hg e => by have := (V5.out.base_le hg).1; omega)
                  rw [E1.out]
                  refine ⟨rfl, ⟨⟨_, R5.out.put 2 _, OwnsEn.new (b := w2.heap.size) ?_ (fun g hg => LB.out g (by omega))⟩, LQ.out, fun g hg => LB.out g (by have := O5.out.size; simp [World.setCell] at hg; omega)⟩, O2.out.trans (O5.out.then_ OP) (fun i _ q => q)⟩
                  unfold noteE
                  rw [RM.out]
                  exact KP
            · have RM := Lib.hid (show room size (older life es) (f + c) = older life es by unfold room; rw [if_neg (by rw [hc]; simp), if_neg hs])
              have d7 : decide ((size : Int) ≤ ((older life es).length : Int)) = false := by simp; omega
              have d8 : decide (size ≤ (older life es).length) = false := by simp; omega
              clear hc e2 hs
              go_wp2_with fail
              generalize wr.setCell ⟨q, 2, none⟩ (.slice va vn vc) = W1 at *
              (with_reducible refine (A1.out).mono ?_)
              rintro e w' ⟨rfl, rfl⟩
              go_wp2_with fail
              (with_reducible refine (A2.out).mono ?_)
              rintro e w' ⟨rfl, rfl⟩
              have H2 := Lib.hid (H1.out.still (Only.refl none_ W1).drew)
              have O2 := Lib.hid O1.out.drew
              go_wp2_with fail
              go_region
              all_goals
                generalize W1.drew = w2 at *
                obtain ⟨⟨v3, r3, o3⟩, _, lb3⟩ := H2.out
                have szW := O2.out.size
                have e3l : (room size (older life es) (f + c)).length ≤ 32 := ER.out
                rw [RM.out] at e3l
                rcases en_cases o3 with ⟨rfl, eq3⟩ | ⟨g3, cap3, rfl, ok3, lt3, cell3⟩
                · have c23 : (w2.alloc (.cells #[.int .i64 (f + c), .int .i64 0] 173)).cell? ⟨q, 2, none⟩ = some (.slice none 0 0) := by rw [(r3.alloc _).cell]; rfl
                  have zz3 := (r3.alloc (.cells #[.int .i64 (f + c), .int .i64 0] 173)).frozen
                  have lq3 := r3.lt
                  have R3 := Lib.hid (r3.alloc (.cells #[.int .i64 (f + c), .int .i64 0] 173))
                  have OA := Lib.hid ((Only.refl none_ w2).alloc (.cells #[.int .i64 (f + c), .int .i64 0] 173))
                  have V3 := Lib.hid (own_one8 (x := ⟨f + c, 0⟩) (Row.fresh w2 173 #[.int .i64 (f + c), .int .i64 0]))
                  have EQ := Lib.hid eq3
                  have R30 := Lib.hid r3
                  clear r3 o3 eq3 lb3
                  go_wp2_with fail
                  go_ret2
                  have OP := (((Only.refl (fun k => k = q) w2).into rfl 2 (.slice (some ⟨w2.heap.size, 0, none⟩) 1 1)).alloc (.cells #[.int .i64 (f + c), .int .i64 0] 173))
                  have RP := (R30.out.put 2 (.slice (some ⟨w2.heap.size, 0, none⟩) 1 1)).alloc (.cells #[.int .i64 (f + c), .int .i64 0] 173)
                  have KP := own_one8 (x := ⟨f + c, 0⟩) (show Row ((w2.setCell ⟨q, 2, none⟩ (.slice (some ⟨w2.heap.size, 0, none⟩) 1 1)).alloc (.cells #[.int .i64 (f + c), .int .i64 0] 173)) w2.heap.size 173 (En.cells ⟨f + c, 0⟩).toArray from by
                    have := Row.fresh (w2.setCell ⟨q, 2, none⟩ (.slice (some ⟨w2.heap.size, 0, none⟩) 1 1)) 173 #[.int .i64 (f + c), .int .i64 0]
                    rw [show (w2.setCell ⟨q, 2, none⟩ (.slice (some ⟨w2.heap.size, 0, none⟩) 1 1)).heap.size = w2.heap.size by simp [World.setCell]] at this
                    exact this)
                  rw [E1.out]
                  refine ⟨rfl, ⟨⟨_, RP, OwnsEn.new (b := w2.heap.size) ?_ (fun g hg => LB.out g (by omega))⟩, LQ.out, fun g hg => LB.out g (by simp [World.setCell] at hg; omega)⟩, O2.out.trans OP (fun i _ q => q)⟩
                  unfold noteE
                  rw [RM.out, EQ.out]
                  exact KP
                · have c23 : (w2.alloc (.cells #[.int .i64 (f + c), .int .i64 0] 173)).cell? ⟨q, 2, none⟩ = some (.slice (some ⟨g3, 0, none⟩) (older life es).length cap3) := by rw [(r3.alloc _).cell]; rfl
                  have lq3 := r3.lt
                  have R3 := Lib.hid (r3.alloc (.cells #[.int .i64 (f + c), .int .i64 0] 173))
                  have OA := Lib.hid ((Only.refl none_ w2).alloc (.cells #[.int .i64 (f + c), .int .i64 0] 173))
                  have V3 := Lib.hid (own_one8 (x := ⟨f + c, 0⟩) (Row.fresh w2 173 #[.int .i64 (f + c), .int .i64 0]))
                  have C3 := Lib.hid (fun j u hj => OA.out.cell (cell3 j u hj) (fun s => s))
                  have EL := Lib.hid e3l
                  have SZ3 := Lib.hid OA.out.size
                  have R33 := Lib.hid r3
                  clear r3 o3 lb3 cell3 lt3
                  go_wp2_with (at_builtin; go_loud (refine wpList_append_own _ rfl (.tmp 114) (.tmp 118) 134 rfl w2.heap.size 173 i0 _ 2 16 Tryz.underlying134 I0.out I1.out I2.out I3.out rfl (by decide) _ 1 _ rfl V3.out ⟨g3, 0, none⟩ (older life es).length cap3 _ rfl (en_flat_len _) C3.out (en_cells_one _) (by have := EL.out; unfold maxLen; omega) (by have := EL.out; omega) SZ3.out ?_; intro v5 w5 hown5 hgrow5 _; obtain ⟨a5, n5, k5, rfl, v5', o5', r5', cq5⟩ := tail8 V3.out OA.out R33.out rfl hown5 hgrow5; have V5 := Lib.hid v5'; have O5 := Lib.hid o5'; have R5 := Lib.hid r5'; have zz5 := R5.out.frozen; have lq5 := R5.out.lt; clear v5' o5' r5' hown5 hgrow5))
                  go_ret2
                  have OP := (Only.refl (fun k => k = q) w5).into rfl 2 (.slice a5 n5 k5)
                  have KP := V5.out.keep OP (fun g hg e => by have := (V5.out.base_le hg).1; omega)
                  rw [E1.out]
                  refine ⟨rfl, ⟨⟨_, R5.out.put 2 _, OwnsEn.new (b := w2.heap.size) ?_ (fun g hg => LB.out g (by omega))⟩, LQ.out, fun g hg => LB.out g (by have := O5.out.size; simp [World.setCell] at hg; omega)⟩, O2.out.trans (O5.out.then_ OP) (fun i _ q => q)⟩
                  unfold noteE
                  rw [RM.out]
                  exact KP
end Go.Proofs.YtlfnncahhbbmpaaGreatDoor
