/- The document's own lanes: a ticket is pushed. -/
import Derived.Test.YtjeiaialnanemaaRl
import Derived.BigQuiet
namespace Go.Proofs.Ytjeiaialnanemaa
open Go.RowKit
set_option linter.unusedVariables false

theorem info_sd : (Try.prog.info? 60).map (fun i => (i.zero, i.size, i.bytes)) = some (some (.agg #[.int .i64 0, .int .i64 0]), 2, 16) := by kernel_rfl
theorem sd_flat_len (l : List Sd) : (l.flatMap Sd.cells).length = l.length * 2 := by
  have := flat_size sd2 l
  unfold flat at this
  simpa using this
theorem sd_cells_one (l : List Sd) : ∀ u ∈ l.flatMap Sd.cells, u.oneCell' = true := fun u hu => by
  obtain ⟨x, _, hx⟩ := List.mem_flatMap.1 hu
  exact sd_one x u hx
theorem add11 (b o n : Nat) : (Addr.mk b o none).add n = ⟨b, o + n, none⟩ := by
  unfold Addr.add
  split
  · rename_i z; rw [z]; rfl
  · rfl
theorem own_form11 {w : World} {base : Nat} {v : Value} {es : List Sd} (h : Owns w base 60 2 Sd.cells v es) : ∃ a n c, v = .slice a n c := by
  rcases h.2 with ⟨h0, _⟩ | ⟨g, cap, cur, hv, _⟩
  · exact ⟨none, 0, 0, h0⟩
  · exact ⟨_, _, _, hv⟩
/-- the tickets lie elsewhere -/
theorem RL.other {w w' : World} {q : Nat} {v v' : Value} {M : Nat → Prop} {n room : Nat} {ss fs : List Sd} (h : RL w q v M n room ss) (o : Only none_ w w') (ho : Owns w' w.heap.size 60 2 Sd.cells v' fs) :
    RLto w q M n room fs (w'.setCell ⟨q, 2, none⟩ v') := by
  have o2 := (Only.refl (fun k => k = q) w').into rfl 2 v'
  have ql := h.row.lt
  have zz := o.size
  have ng : ∀ g, v'.ownBlock = some g → ¬ g = q := fun g hg k => by have := (ho.base_le hg).1; omega
  refine ⟨⟨v', fun j => M j ∨ (w.heap.size ≤ j ∧ j < w'.heap.size), ⟨(o.still h.row).put 2 v', ⟨(ho.keep o2 ng).lower11 (Nat.zero_le _), fun g hg => .inr (ho.base_le hg)⟩, .inl h.mq, fun g hg => ?_⟩, fun g hg => hg.imp id (·.1)⟩, o.then_ (o2.more (fun i _ k => by rw [k]; exact h.mq))⟩
  simp only [World.setCell]
  have := o2.size
  rcases hg with hg | hg
  · exact Nat.lt_of_lt_of_le (Nat.lt_of_lt_of_le (h.lt g hg) zz) this
  · exact Nat.lt_of_lt_of_le hg.2 this
def pushTo (q : Nat) (M : Nat → Prop) (n room : Nat) (ss : List Sd) (b x : Int) (w : World) (e : Ending) (w' : World) : Prop := e = .returned (.int .i64 (pushC n room ss b x)) ∧ RLto w q M n room (pushS n room ss b x) w'
theorem RL.to {w w' : World} {q : Nat} {v : Value} {M : Nat → Prop} {n room : Nat} {ss : List Sd} (h : RL w q v M n room ss) (o : Only none_ w w') : RLto w q M n room ss w' := ⟨⟨v, M, h.still o, fun g hg => .inl hg⟩, o.more (fun _ _ k => k.elim)⟩

set_option maxHeartbeats 1000000 in
theorem push11_any {q : Nat} {v : Value} {M : Nat → Prop} {n room : Nat} {ss : List Sd} (b x : Int) (w : World) (h : RL w q v M n room ss) (hl : ss.length ≤ 1000) (hn : n ≤ 1000) (hr : room ≤ 1000) :
    Calls Try.prog 13 #[.pointer (some ⟨q, 0, none⟩), .int .i64 b, .int .i64 x] w (pushTo q M n room ss b x w) := by
  have AT := Lib.hid (at11_any x w h hl)
  have H := Lib.hid h
  have s0 : w.cell? ⟨q, 0, none⟩ = some (.int .i64 n) := by rw [h.row.cell]; rfl
  have s1 : w.cell? ⟨q, 1, none⟩ = some (.int .i64 room) := by rw [h.row.cell]; rfl
  by_cases h0 : b < 0
  · have d0 : decide (b < 0) = true := by simpa using h0
    have PC := Lib.hid (show pushC n room ss b x = 1 from by unfold pushC; rw [if_neg (by omega)])
    have PS := Lib.hid (show pushS n room ss b x = ss from by unfold pushS; rw [PC.out]; rfl)
    clear h0 h
    go_enter Try.func13, Try.ntmps13
    go_wp2_with fail
    go_ret
    exact ⟨by rw [PC.out]; try rfl, by rw [PS.out]; exact H.out.to (Only.refl _ _)⟩
  · have d0 : decide (b < 0) = false := by simpa using h0
    by_cases h1 : (n : Int) ≤ b
    · have d1 : decide ((n : Int) ≤ b) = true := by simpa using h1
      have PC := Lib.hid (show pushC n room ss b x = 1 from by unfold pushC; rw [if_neg (by omega)])
      have PS := Lib.hid (show pushS n room ss b x = ss from by unfold pushS; rw [PC.out]; rfl)
      clear h0 h1 h
      go_enter Try.func13, Try.ntmps13
      go_wp2_with fail
      go_ret
      exact ⟨by rw [PC.out]; try rfl, by rw [PS.out]; exact H.out.to (Only.refl _ _)⟩
    · have d1 : decide ((n : Int) ≤ b) = false := by simpa using h1
      by_cases h2 : x < 1
      · have d2 : decide (x < 1) = true := by simpa using h2
        have PC := Lib.hid (show pushC n room ss b x = 1 from by unfold pushC; rw [if_neg (by omega)])
        have PS := Lib.hid (show pushS n room ss b x = ss from by unfold pushS; rw [PC.out]; rfl)
        clear h0 h1 h2 h
        go_enter Try.func13, Try.ntmps13
        go_wp2_with fail
        go_ret
        exact ⟨by rw [PC.out]; try rfl, by rw [PS.out]; exact H.out.to (Only.refl _ _)⟩
      · have d2 : decide (x < 1) = false := by simpa using h2
        have hin : 0 ≤ b ∧ b < n ∧ 1 ≤ x := by omega
        cases hk : tkAt ss x with
        | some k =>
          have TI := Lib.hid (show tkI ss x = k from by unfold tkI; rw [hk])
          have PC := Lib.hid (show pushC n room ss b x = 4 from by unfold pushC; rw [if_pos hin, hk]; rfl)
          have PS := Lib.hid (show pushS n room ss b x = ss from by unfold pushS; rw [PC.out]; rfl)
          have dk : decide ((0 : Int) ≤ (k : Int)) = true := by simp
          clear h0 h1 h2 h hin hk
          go_enter Try.func13, Try.ntmps13
          go_wp2_with fail
          (with_reducible refine AT.out.mono ?_)
          rintro e w' ⟨rfl, rfl⟩
          rw [TI.out]
          go_wp2_with fail
          go_ret
          exact ⟨by rw [PC.out]; try rfl, by rw [PS.out]; exact H.out.to (Only.refl _ _)⟩
        | none =>
          have TI := Lib.hid (show tkI ss x = -1 from by unfold tkI; rw [hk])
          obtain ⟨A, cap, rfl, hold⟩ := h.own.form
          have s2 : w.cell? ⟨q, 2, none⟩ = some (.slice A ss.length cap) := by rw [h.row.cell]; rfl
          by_cases h3 : room ≤ ss.length
          · have d3 : decide ((room : Int) ≤ (ss.length : Int)) = true := by simp; omega
            have d4 : decide (room ≤ ss.length) = true := by simp; omega
            have PC := Lib.hid (show pushC n room ss b x = 2 from by unfold pushC; rw [if_pos hin, hk, if_neg (by simp), if_pos h3])
            have PS := Lib.hid (show pushS n room ss b x = ss from by unfold pushS; rw [PC.out]; rfl)
            clear h0 h1 h2 h3 h hin hk hold
            go_enter Try.func13, Try.ntmps13
            go_wp2_with fail
            (with_reducible refine AT.out.mono ?_)
            rintro e w' ⟨rfl, rfl⟩
            rw [TI.out]
            go_wp2_with fail
            go_quiet (fail)
            go_wp2_with fail
            go_ret
            exact ⟨by rw [PC.out]; try rfl, by rw [PS.out]; exact H.out.to ((Only.refl _ _).drewN _)⟩
          · have d3 : decide ((room : Int) ≤ (ss.length : Int)) = false := by simp; omega
            have d4 : decide (room ≤ ss.length) = false := by simp; omega
            have PC := Lib.hid (show pushC n room ss b x = 0 from by unfold pushC; rw [if_pos hin, hk, if_neg (by simp), if_neg h3])
            have PS := Lib.hid (show pushS n room ss b x = ss ++ [⟨b, x⟩] from by unfold pushS; rw [PC.out]; rfl)
            have FORM := Lib.hid (show (Value.slice A ss.length cap = .slice none 0 0 ∧ ss = []) ∨ ∃ g, A = some ⟨g, 0, none⟩ from by
              rcases h.own.1.2 with ⟨hv, hz⟩ | ⟨g, cap', cur, hv, _⟩
              · exact .inl ⟨hv, List.eq_nil_of_length_eq_zero hz⟩
              · injection hv with hv; exact .inr ⟨g, hv⟩)
            obtain ⟨i0, hi0, hz0, hz1, hz2⟩ := info_parts info_sd
            have I0 := Lib.hid hi0
            have I1 := Lib.hid hz0
            have I2 := Lib.hid hz1
            have I3 := Lib.hid hz2
            clear h0 h1 h2 h3 h hin hk hold hi0 hz0 hz1 hz2
            go_enter Try.func13, Try.ntmps13
            go_wp2_with fail
            (with_reducible refine AT.out.mono ?_)
            rintro e w' ⟨rfl, rfl⟩
            rw [TI.out]
            go_wp2_with fail
            go_quiet (fail)
            obtain ⟨w3, hw3⟩ : ∃ w3, w3 = w.drewN nq := ⟨_, rfl⟩
            have N3 := Lib.hid (show Only none_ w w3 from by rw [hw3]; exact (Only.refl none_ w).drewN _)
            rw [← hw3]
            have H3 := Lib.hid (H.out.still N3.out)
            clear hw3 H s0 s1 s2 AT
            have KQ := Lib.hid (fun w' (o : Only none_ w3 w') => (show w'.cell? ⟨q, 2, none⟩ = some (.slice A ss.length cap) ∧ w'.frozen? ⟨q, 2, none⟩ = false ∧ q < w'.heap.size from by
              have r := o.still H3.out.row
              exact ⟨by rw [r.cell]; rfl, r.frozen 2, r.lt⟩))
            have WA := Lib.hid ((Only.refl none_ w3).alloc (.cells #[] 60))
            have RA := Lib.hid (Row.fresh w3 60 #[])
            have EMP := Lib.hid (show (w3.alloc (.cells #[] 60)).ownsRow w3.heap.size 60 2 (.slice (some ⟨w3.heap.size, 0, none⟩) 0 0) 0 [] from ⟨rfl, .inr ⟨w3.heap.size, 0, #[], rfl, Nat.le_refl _, RA.out, Nat.le_refl _, Nat.zero_le _, rfl, rfl⟩⟩)
            have zA : w3.heap.size ≤ (w3.alloc (.cells #[] 60)).heap.size := WA.out.size
            obtain ⟨ea0, ea1, ea2⟩ := KQ.out _ WA.out
            obtain ⟨ed0, ed1, ed2⟩ := KQ.out _ (Only.refl none_ w3)
            rcases FORM.out with ⟨hv, hss⟩ | ⟨g, hv⟩
            · injection hv with v1 v2 v3
              subst v1 v3 hss
              have s2' : w3.cell? ⟨q, 2, none⟩ = some (.slice none 0 0) := ed0
              have RX := Lib.hid (Row.fresh (w3.alloc (.cells #[] 60)) 60 #[.int .i64 b, .int .i64 x])
              have WB := Lib.hid (WA.out.alloc (.cells #[.int .i64 b, .int .i64 x] 60))
              have EM2 := Lib.hid (World.ownsRow.alloc EMP.out (.cells #[.int .i64 b, .int .i64 x] 60))
              have zB : w3.heap.size ≤ ((w3.alloc (.cells #[] 60)).alloc (.cells #[.int .i64 b, .int .i64 x] 60)).heap.size := WB.out.size
              have NC := Lib.hid (show ∀ j u, ([.int .i64 b, .int .i64 x] : List Value)[j]? = some u → ((w3.alloc (.cells #[] 60)).alloc (.cells #[.int .i64 b, .int .i64 x] 60)).cell? ((Addr.mk (w3.heap.size + 1) 0 none).add j) = some u from fun j u hj => by
                have r := RX.out
                rw [World.size_alloc] at r
                rw [add11, Nat.zero_add, r.cell, List.getElem?_toArray]; exact hj)
              have ON := Lib.hid (sd_one ⟨b, x⟩)
              go_wp2_with (at_builtin; first
                | (refine wpList_append_own _ rfl (.tmp 41) (.tmp 45) 39 rfl w3.heap.size 60 i0 _ 2 16 Try.underlying39 I0.out I1.out I2.out I3.out rfl (by decide) _ 0 [] rfl EM2.out ⟨w3.heap.size + 1, 0, none⟩ 1 1 [.int .i64 b, .int .i64 x] rfl rfl NC.out ON.out (by unfold maxLen; omega) (by omega) zB ?_
                   intro v6 w6 hown6 hgrow6 _
                   have W6 := Lib.hid (WB.out.trans (Only.of_grown hgrow6) (fun j hj q' => by have q2 : some j = some w3.heap.size := q'; injection q2; omega))
                   have OW6 := Lib.hid (show Owns w6 w3.heap.size 60 2 Sd.cells v6 [⟨b, x⟩] from by
                     unfold Owns
                     simpa [Sd.cells] using hown6)
                   obtain ⟨a6, n6, k6, rfl⟩ := own_form11 OW6.out
                   obtain ⟨ef0, ef1, ef2⟩ := KQ.out _ W6.out
                   clear hown6 hgrow6)
                | fail)
              go_ret
              have FIN := H3.out.other W6.out OW6.out
              exact ⟨by rw [PC.out]; try rfl, by rw [PS.out]; exact ⟨FIN.1.imp (fun v' h => h.imp (fun M' h => ⟨h.1, fun g hg => (h.2 g hg).imp id (Nat.le_trans N3.out.size)⟩)), N3.out.then_ FIN.2⟩⟩
            · subst hv
              have CS := Lib.hid (show ∀ j u, (ss.flatMap Sd.cells)[j]? = some u → (w3.alloc (.cells #[] 60)).cell? ((Addr.mk g 0 none).add j) = some u from World.ownsRow.cells (H3.out.own.1.still WA.out) (g := g) rfl)
              go_wp2_with (at_builtin; first
                | (refine wpList_append_own _ rfl (.tmp 36) (.tmp 40) 39 rfl w3.heap.size 60 i0 _ 2 16 Try.underlying39 I0.out I1.out I2.out I3.out rfl (by decide) _ 0 [] rfl EMP.out ⟨g, 0, none⟩ ss.length cap _ rfl (sd_flat_len _) CS.out (sd_cells_one _) (by unfold maxLen; omega) (by omega) zA ?_
                   intro v5 w5 hown5 hgrow5 _
                   have O5 := Lib.hid (WA.out.trans (Only.of_grown hgrow5) (fun j hj q' => by have q2 : some j = some w3.heap.size := q'; injection q2; omega))
                   have OW5 := Lib.hid (World.ownsRow.alloc hown5 (.cells #[.int .i64 b, .int .i64 x] 60))
                   have RX := Lib.hid (Row.fresh w5 60 #[.int .i64 b, .int .i64 x])
                   have O6 := Lib.hid (O5.out.alloc (.cells #[.int .i64 b, .int .i64 x] 60))
                   have z6 : w3.heap.size ≤ (w5.alloc (.cells #[.int .i64 b, .int .i64 x] 60)).heap.size := O6.out.size
                   have L5 := Lib.hid (fun j (hj : some j = v5.ownBlock) => (World.ownsRow.lt hown5 j hj.symm).1)
                   have NC := Lib.hid (show ∀ j u, ([.int .i64 b, .int .i64 x] : List Value)[j]? = some u → (w5.alloc (.cells #[.int .i64 b, .int .i64 x] 60)).cell? ((Addr.mk w5.heap.size 0 none).add j) = some u from fun j u hj => by rw [add11, Nat.zero_add, RX.out.cell, List.getElem?_toArray]; exact hj)
                   have ON := Lib.hid (sd_one ⟨b, x⟩)
                   clear hown5 hgrow5)
                | (refine wpList_append_own _ rfl (.tmp 41) (.tmp 45) 39 rfl w3.heap.size 60 i0 _ 2 16 Try.underlying39 I0.out I1.out I2.out I3.out rfl (by decide) _ (0 + ss.length) _ rfl OW5.out ⟨w5.heap.size, 0, none⟩ 1 1 [.int .i64 b, .int .i64 x] rfl rfl NC.out ON.out (by unfold maxLen; omega) (by omega) z6 ?_
                   intro v6 w6 hown6 hgrow6 _
                   have W6 := Lib.hid (O6.out.trans (Only.of_grown hgrow6) (fun j hj q' => by have := L5.out j q'; omega))
                   have OW6 := Lib.hid (show Owns w6 w3.heap.size 60 2 Sd.cells v6 (ss ++ [⟨b, x⟩]) from by
                     unfold Owns
                     rw [List.flatMap_append, List.length_append]
                     simpa [Sd.cells] using hown6)
                   obtain ⟨a6, n6, k6, rfl⟩ := own_form11 OW6.out
                   obtain ⟨ef0, ef1, ef2⟩ := KQ.out _ W6.out
                   clear hown6 hgrow6)
                | fail)
              go_ret
              have FIN := H3.out.other W6.out OW6.out
              exact ⟨by rw [PC.out]; try rfl, by rw [PS.out]; exact ⟨FIN.1.imp (fun v' h => h.imp (fun M' h => ⟨h.1, fun g hg => (h.2 g hg).imp id (Nat.le_trans N3.out.size)⟩)), N3.out.then_ FIN.2⟩⟩
end Go.Proofs.Ytjeiaialnanemaa
