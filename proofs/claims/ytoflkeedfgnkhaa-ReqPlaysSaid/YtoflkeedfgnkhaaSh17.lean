/- Package req: a place is given, or lost. -/
import Derived.Test.YtoflkeedfgnkhaaEn17
namespace Go.Proofs.Ytoflkeedfgnkhaa
open Go.RowKit Go.Maps
set_option linter.unusedVariables false
set_option maxRecDepth 100000

theorem note_give (a b6 b7 k : Nat) (v u : Int) (cs : Array Value) (w : World) (ha : Row w a 75 cs) (h6 : Row w b6 3 #[.int .i64 k]) (h7 : Row w b7 30 #[.int .u64 v]) (hk : k < 8) (hc : cs[11 + k]? = some (.int .u64 u)) :
    Calls Try.prog 36 #[.pointer (some ⟨a, 0, none⟩), .pointer (some ⟨b7, 0, none⟩), .pointer (some ⟨b6, 0, none⟩)] w fun e w' => e = .returned (.tuple #[]) ∧ Row w' a 75 (cs.setIfInBounds (11 + k) (.int .u64 v)) ∧ Only (fun g => g = a) w w' := by
  have c6 : w.drew.cell? ⟨b6, 0, none⟩ = some (.int .i64 k) := h6.cell 0
  have c7 : w.drew.cell? ⟨b7, 0, none⟩ = some (.int .u64 v) := h7.cell 0
  have ca : w.drew.cell? ⟨a, 11 + k, none⟩ = some (.int .u64 u) := by show w.cell? _ = _; rw [ha.cell]; exact hc
  have fa : w.drew.frozen? ⟨a, 11 + k, none⟩ = false := ha.frozen _
  have FIN := Lib.hid (show Row (w.drew.setCell ⟨a, 11 + k, none⟩ (.int .u64 v)) a 75 (cs.setIfInBounds (11 + k) (.int .u64 v)) from (ha.drew).put _ _)
  have FO := Lib.hid (show Only (fun g => g = a) w (w.drew.setCell ⟨a, 11 + k, none⟩ (.int .u64 v)) from ((Only.refl (fun g => g = a) w).drew).into rfl _ _)
  have al := ha.lt
  clear ha h6 h7 hc
  go_enter Try.func36, Try.ntmps36
  go_upto_region 0 with fail
  go_region
  all_goals
    go_wp2_with fail
    go_end0
    exact ⟨rfl, FIN.out, FO.out⟩
theorem note_lose (a : Nat) (l : Bool) (cs : Array Value) (w : World) (ha : Row w a 75 cs) (hc : cs[10]? = some (.bool l)) :
    Calls Try.prog 37 #[.pointer (some ⟨a, 0, none⟩)] w fun e w' => e = .returned (.tuple #[]) ∧ Row w' a 75 (cs.setIfInBounds 10 (.bool true)) ∧ Only (fun g => g = a) w w' := by
  have ca : w.cell? ⟨a, 10, none⟩ = some (.bool l) := by rw [ha.cell]; exact hc
  have fa : w.frozen? ⟨a, 10, none⟩ = false := ha.frozen _
  have FIN := Lib.hid (show Row (w.setCell ⟨a, 10, none⟩ (.bool true)) a 75 (cs.setIfInBounds 10 (.bool true)) from ha.put _ _)
  have FO := Lib.hid (show Only (fun g => g = a) w (w.setCell ⟨a, 10, none⟩ (.bool true)) from (Only.refl (fun g => g = a) w).into rfl _ _)
  have al := ha.lt
  clear ha hc
  go_enter Try.func37, Try.ntmps37
  go_wp2_with fail
  go_end0
  exact ⟨rfl, FIN.out, FO.out⟩
theorem Rq.cells_op (r : Rq) {j : Nat} (h : j < 8) : r.cells[2 + j]? = some (.bool (opQ r j)) := rqC_op _ _ _ _ _ h
theorem op_true {r : Rq} {k : Nat} : opQ r k = true ↔ r.pl[k]? = some 0 := by unfold opQ; simp
section
variable {w w' : World} {p : Nat} {c : Nat → Nat} {X : Loc17} {room L : Nat} {t : Tq}
theorem TW.same (h : TW w p c X room L t) (o : Only none_ w w') : TWto w p c room (L + 1) t w' := ⟨⟨c, X, (h.still o).up (Nat.le_succ _), Gw.refl _ _⟩, o.up⟩
theorem upd_cut (rs : List Rq) (x : Int) (f : Rq → Rq) (hf : ∀ s, (f s).id = s.id) : cutQ (updQ rs x f) x = cutQ rs x := by
  unfold cutQ updQ
  induction rs with
  | nil => rfl
  | cons s rs ih =>
    rw [List.map_cons]
    by_cases e : s.id = x
    · have e1 : (!((if s.id = x then f s else s).id == x)) = false := by rw [if_pos e, hf]; simp [e]
      have e2 : (!(s.id == x)) = false := by simp [e]
      rw [List.filter_cons_of_neg (by rw [e1]; decide), List.filter_cons_of_neg (by rw [e2]; decide), ih]
    · have e1 : (!((if s.id = x then f s else s).id == x)) = true := by rw [if_neg e]; simp [e]
      have e2 : (!(s.id == x)) = true := by simp [e]
      rw [List.filter_cons_of_pos (by rw [e1]), List.filter_cons_of_pos (by rw [e2]), ih, if_neg e]
theorem cut_no {rs : List Rq} {x : Int} : ∀ r ∈ cutQ rs x, r.id ≠ x := fun r hr => by
  have := (List.mem_filter.1 hr).2
  simpa using this

set_option maxHeartbeats 2000000 in
theorem shut_give (x : Int) (place v : Int) (b6 b7 : Nat) (w : World) (h : TW w p c X room L t) (wx : (Lit.int .i64 x).wf = true) (h6 : Row w b6 3 #[.int .i64 place]) (h7 : Row w b7 30 #[.int .u64 v]) (z6 : c b6 = 0) (z7 : c b7 = 0) (hL : L < 1000000) :
    Calls Try.prog 35 #[.pointer (some ⟨p, 0, none⟩), .int .i64 x, .int .i64 place, .func (.func 36) #[] #[.pointer (some ⟨b7, 0, none⟩), .pointer (some ⟨b6, 0, none⟩)]] w fun e w' => e = .returned (.int .i64 (putI t.rs x place)) ∧ TWto w p c room (L + 1) (putS t x place 1 v) w' := by
  have LK := h.look wx
  have q1 : w.cell? ⟨p, 1, none⟩ = some (.map (some X.b)) := h.row.cell 1
  have PI := Lib.hid (show putI t.rs x place = match findQ t.rs x with | none => 3 | some r => if 0 ≤ place ∧ place < r.pl.length then (if r.pl[place.toNat]? = some 0 then 0 else 4) else 1 from rfl)
  have PS := Lib.hid (show putS t x place 1 v = match findQ t.rs x with | none => t | some r => if putI t.rs x place = 0 then (if doneQ (mark place.toNat 1 v r) then cutT t x (ansQ (mark place.toNat 1 v r)) else ⟨updQ t.rs x (mark place.toNat 1 v), t.kept⟩) else t from rfl)
  have H := Lib.hid h
  have WX := Lib.hid wx
  have HL := Lib.hid hL
  have B6 := Lib.hid h6; have B7 := Lib.hid h7; have Z6 := Lib.hid z6; have Z7 := Lib.hid z7; clear h6 h7 z6 z7
  clear h wx hL
  cases hf : findQ t.rs x with
  | none =>
    rw [hf] at LK PI PS
    have P3 := Lib.hid (show putI t.rs x place = 3 from PI.out)
    have S3 := Lib.hid (show putS t x place 1 v = t from PS.out)
    clear PI PS hf
    go_enter Try.func35, Try.ntmps35
    go_wp2_with fail
    go_ret
    exact ⟨by rw [P3.out]; rfl, by rw [S3.out]; exact TW.same H.out (Only.refl _ _)⟩
  | some r =>
    rw [hf] at LK PI PS
    obtain ⟨hr, hid, _⟩ := find_some hf
    have fine := H.out.good.fine r hr
    have n8 := fine.n8
    obtain ⟨ra, ca⟩ := H.out.rq r hr
    change (Instr.lookup 57 (.map (some X.b)) (.int .i64 x) false).run Try.prog w = .ok (.pointer (some ⟨X.A r.id, 0, none⟩)) w at LK
    obtain ⟨a, hA⟩ : ∃ a, X.A r.id = a := ⟨_, rfl⟩
    have HA := Lib.hid hA
    rw [hA] at LK ra ca
    have al := ra.lt
    have cn : w.cell? ⟨a, 1, none⟩ = some (.int .i64 r.pl.length) := ra.cell 1
    have RA := Lib.hid ra
    have CA := Lib.hid ca
    have HR := Lib.hid hr
    have ID := Lib.hid hid
    have FI := Lib.hid fine
    have N8 := Lib.hid n8
    have x1 := fine.id1
    have X1 := Lib.hid x1
    clear ra ca hA hr hid fine hf x1
    by_cases hp : 0 ≤ place ∧ place < r.pl.length
    · obtain ⟨k, rfl⟩ := Int.eq_ofNat_of_zero_le hp.1
      have hk : k < r.pl.length := by omega
      have t1 : decide ((k : Int) < 0) = false := decide_eq_false (by omega)
      have t2 : decide ((r.pl.length : Int) ≤ (k : Int)) = false := decide_eq_false (by omega)
      have t3 : decide (r.pl.length ≤ k) = false := decide_eq_false (by omega)
      have HK := Lib.hid hk
      have k8 : k < 8 := by omega
      have HP := Lib.hid hp
      have co : w.cell? ⟨a, 2 + k, none⟩ = some (.bool (opQ r k)) := by rw [RA.out.cell]; exact r.cells_op k8
      clear hp hk n8
      have PI := PI.out
      simp only [HP.out, and_self, if_true, Int.toNat_natCast] at PI
      cases ho : opQ r k with
      | false =>
        have P4 := Lib.hid (show putI t.rs x (k : Int) = 4 from by rw [PI, if_neg (fun q => by rw [op_true.2 q] at ho; cases ho)])
        have S4 := Lib.hid (show putS t x (k : Int) 1 v = t from by
          have := PS.out
          rw [P4.out] at this
          simpa using this)
        rw [ho] at co
        clear PI PS ho
        generalize r.pl.length = n at *
        go_enter Try.func35, Try.ntmps35
        go_wp2_with fail
        go_ret
        exact ⟨by rw [P4.out]; rfl, by rw [S4.out]; exact TW.same H.out (Only.refl _ _)⟩
      | true =>
        have hz := op_true.1 ho
        have P0 := Lib.hid (show putI t.rs x (k : Int) = 0 from by rw [PI, if_pos hz])
        have S0 := Lib.hid (show putS t x (k : Int) 1 v = (if doneQ (mark k 1 v r) then cutT t x (ansQ (mark k 1 v r)) else ⟨updQ t.rs x (mark k 1 v), t.kept⟩) from by
          have := PS.out
          rw [P0.out] at this
          simpa using this)
        rw [ho] at co
        have ff : w.frozen? ⟨a, 2 + k, none⟩ = false := RA.out.frozen _
        clear PI PS ho
        obtain ⟨w1, hw1⟩ : ∃ w1, w1 = w.setCell ⟨a, 2 + k, none⟩ (.bool false) := ⟨_, rfl⟩
        have o1 : Only (fun g => g = a) w w1 := by rw [hw1]; exact (Only.refl (fun g => g = a) w).into rfl _ _
        have r1 : Row w1 a 75 (r.cells.setIfInBounds (2 + k) (.bool false)) := by rw [hw1]; exact RA.out.put _ _
        have NT := Lib.hid (note_give a b6 b7 k v (vlQ r k) _ w1 r1 (o1.row B6.out (fun q => by have := CA.out; rw [← q, Z6.out] at this; omega)) (o1.row B7.out (fun q => by have := CA.out; rw [← q, Z7.out] at this; omega)) k8 (by
          unfold Rq.cells
          rw [rqC_shut _ _ _ _ _ k8, rqC_vl _ _ _ _ _ k8]))
        rw [cells_give FI.out hz] at NT
        have FM := Lib.hid (show FineQ (mark k 1 v r) from FI.out.mark (by decide))
        have O1 := Lib.hid o1
        clear r1 o1 hz
        generalize hn : r.pl.length = n at *
        generalize hr' : mark k 1 v r = r' at *
        have HR' := Lib.hid hr'
        clear hr' hn
        go_enter Try.func35, Try.ntmps35
        go_upto_region 9 with fail
        rw [← hw1]
        clear hw1
        go_wp2_with fail
        (with_reducible refine NT.out.mono ?_)
        rintro e w2 ⟨rfl, r2, o2⟩
        have O2 := Lib.hid (O1.out.same o2)
        have R2 := Lib.hid r2
        have d0 : w2.cell? ⟨a, 2, none⟩ = some (.bool (opQ r' 0)) := by rw [r2.cell]; rfl
        have d1 : w2.cell? ⟨a, 3, none⟩ = some (.bool (opQ r' 1)) := by rw [r2.cell]; rfl
        have d2 : w2.cell? ⟨a, 4, none⟩ = some (.bool (opQ r' 2)) := by rw [r2.cell]; rfl
        have d3 : w2.cell? ⟨a, 5, none⟩ = some (.bool (opQ r' 3)) := by rw [r2.cell]; rfl
        have d4 : w2.cell? ⟨a, 6, none⟩ = some (.bool (opQ r' 4)) := by rw [r2.cell]; rfl
        have d5 : w2.cell? ⟨a, 7, none⟩ = some (.bool (opQ r' 5)) := by rw [r2.cell]; rfl
        have d6 : w2.cell? ⟨a, 8, none⟩ = some (.bool (opQ r' 6)) := by rw [r2.cell]; rfl
        have d7 : w2.cell? ⟨a, 9, none⟩ = some (.bool (opQ r' 7)) := by rw [r2.cell]; rfl
        have ZS : ∀ w : World, (zeroValue 73).run Try.prog w = .ok (.agg #[.bool false, .bool false, .bool false, .bool false, .bool false, .bool false, .bool false, .bool false]) w := zero_pl
        have DN : doneQ r' = eq8 (opQ r') (fun _ => false) := by
          rw [done_op FM.out.n8]
          unfold eq8
          simp
        have EQ := fun w => run_eql_arr8 (opQ r') (fun _ => false) w
        rw [← DN] at EQ
        have EQ : ∀ w : World, (binOp .eql 73 (.agg #[.bool (opQ r' 0), .bool (opQ r' 1), .bool (opQ r' 2), .bool (opQ r' 3), .bool (opQ r' 4), .bool (opQ r' 5), .bool (opQ r' 6), .bool (opQ r' 7)]) (.agg #[.bool false, .bool false, .bool false, .bool false, .bool false, .bool false, .bool false, .bool false])).run Try.prog w = .ok (.bool (doneQ r')) w := EQ
        clear r2 o2 DN co cn LK q1 t1 t2 t3
        cases hd : doneQ r' with
        | false =>
          rw [hd] at EQ
          have FIN := Lib.hid (show TWto w p c room (L + 1) (putS t x (k : Int) 1 v) w2 from by
            rw [S0.out, hd, if_neg (by decide)]
            have R2' := R2.out
            rw [← HR'.out, ← HA.out] at R2'
            have O2' := O2.out
            rw [← HA.out] at O2'
            have e2 := H.out.tick HR.out (q := k) (a := 1) (v := v) (by decide) (by rw [HR'.out]; exact hd) R2' O2'
            rw [ID.out] at e2
            refine ⟨⟨c, X, ?_, Gw.refl _ _⟩, O2'.more (fun i _ q => by rw [q, HA.out, CA.out]; omega)⟩
            have e3 := e2.up (Nat.le_succ L)
            unfold TW
            rw [ent_upd X.A t.rs x (mark k 1 v) (fun _ => rfl)]
            exact e3)
          clear hd
          generalize opQ r' 0 = u0 at *
          generalize opQ r' 1 = u1 at *
          generalize opQ r' 2 = u2 at *
          generalize opQ r' 3 = u3 at *
          generalize opQ r' 4 = u4 at *
          generalize opQ r' 5 = u5 at *
          generalize opQ r' 6 = u6 at *
          generalize opQ r' 7 = u7 at *
          go_wp2_with fail
          go_ret
          exact ⟨by rw [P0.out]; rfl, FIN.out⟩
        | true =>
          rw [hd] at EQ
          have OC := Lib.hid (outcome_any r' a w2 R2.out FM.out)
          have S1 := Lib.hid (show putS t x (k : Int) 1 v = cutT t x (ansQ r') from by rw [S0.out, hd, if_pos rfl])
          have E2 := Lib.hid (show TB w2 p c X room L (t.rs.map (ent17 X.A)) ⟨cutQ t.rs x, t.kept⟩ from (H.out.less x).other (a := a) (x := x) (by rw [← ID.out]; exact CA.out) (by rw [← ID.out]; exact X1.out) cut_no O2.out)
          have IDR := Lib.hid (show r'.id = x from by rw [← HR'.out]; exact ID.out)
          clear hd
          generalize opQ r' 0 = u0 at *
          generalize opQ r' 1 = u1 at *
          generalize opQ r' 2 = u2 at *
          generalize opQ r' 3 = u3 at *
          generalize opQ r' 4 = u4 at *
          generalize opQ r' 5 = u5 at *
          generalize opQ r' 6 = u6 at *
          generalize opQ r' 7 = u7 at *
          go_wp2_with fail
          (with_reducible refine OC.out.mono ?_)
          rintro e w3 ⟨u, rfl, hu, o3⟩
          have TE := Lib.hid (tend_any x (codeQ r') u (valsQ r') (fun g => w2.heap.size ≤ g ∧ g < w3.heap.size) w3 (E2.out.still o3) (ent_cut _ _ _) WX.out hu (fun g hg => ⟨E2.out.zero hg.1, hg.2⟩) HL.out)
          have O3 := Lib.hid ((O2.out.more (S' := fun g => c g ≠ 0) (fun i _ q => by rw [q, CA.out]; omega)).idle o3)
          clear hu o3
          go_wp2_with fail
          (with_reducible refine TE.out.mono ?_)
          rintro e w4 ⟨rfl, ⟨c', X', h4, g4⟩, o4⟩
          have H4 := Lib.hid h4
          have G4 := Lib.hid g4
          have O4 := Lib.hid (O3.out.same o4)
          have SZ := Lib.hid (show w.heap.size ≤ w2.heap.size ∧ w.heap.size ≤ w3.heap.size from ⟨O2.out.size, O3.out.size⟩)
          clear h4 g4 o4
          go_wp2_with fail
          go_ret
          refine ⟨by rw [P0.out]; rfl, ?_⟩
          rw [S1.out]
          refine ⟨⟨c', X', ?_, fun g hg => ?_⟩, O4.out⟩
          · unfold cutT ansQ
            rw [IDR.out]
            exact H4.out
          · have := SZ.out
            rcases G4.out g hg with q | q | q
            · exact .inl q
            · exact .inr (by omega)
            · exact .inr (by omega)
    · have P1 := Lib.hid (show putI t.rs x place = 1 from by
        have := PI.out
        simpa [hp] using this)
      have S1 := Lib.hid (show putS t x place 1 v = t from by
        have := PS.out
        rw [P1.out] at this
        simpa using this)
      have ways : decide (place < 0) = true ∨ (decide (place < 0) = false ∧ decide ((r.pl.length : Int) ≤ place) = true) := by
        by_cases q : place < 0
        · exact .inl (decide_eq_true q)
        · exact .inr ⟨decide_eq_false q, decide_eq_true (by omega)⟩
      clear PI PS hp
      generalize r.pl.length = n at *
      rcases ways with t1 | ⟨t1, t2⟩
      all_goals
        go_enter Try.func35, Try.ntmps35
        go_wp2_with fail
        go_ret
        exact ⟨by rw [P1.out]; rfl, by rw [S1.out]; exact TW.same H.out (Only.refl _ _)⟩

set_option maxHeartbeats 2000000 in
theorem shut_lose (x : Int) (place : Int) (w : World) (h : TW w p c X room L t) (wx : (Lit.int .i64 x).wf = true) (hL : L < 1000000) :
    Calls Try.prog 35 #[.pointer (some ⟨p, 0, none⟩), .int .i64 x, .int .i64 place, .func (.func 37) #[] #[]] w fun e w' => e = .returned (.int .i64 (putI t.rs x place)) ∧ TWto w p c room (L + 1) (putS t x place 2 0) w' := by
  have LK := h.look wx
  have q1 : w.cell? ⟨p, 1, none⟩ = some (.map (some X.b)) := h.row.cell 1
  have PI := Lib.hid (show putI t.rs x place = match findQ t.rs x with | none => 3 | some r => if 0 ≤ place ∧ place < r.pl.length then (if r.pl[place.toNat]? = some 0 then 0 else 4) else 1 from rfl)
  have PS := Lib.hid (show putS t x place 2 0 = match findQ t.rs x with | none => t | some r => if putI t.rs x place = 0 then (if doneQ (mark place.toNat 2 0 r) then cutT t x (ansQ (mark place.toNat 2 0 r)) else ⟨updQ t.rs x (mark place.toNat 2 0), t.kept⟩) else t from rfl)
  have H := Lib.hid h
  have WX := Lib.hid wx
  have HL := Lib.hid hL

  clear h wx hL
  cases hf : findQ t.rs x with
  | none =>
    rw [hf] at LK PI PS
    have P3 := Lib.hid (show putI t.rs x place = 3 from PI.out)
    have S3 := Lib.hid (show putS t x place 2 0 = t from PS.out)
    clear PI PS hf
    go_enter Try.func35, Try.ntmps35
    go_wp2_with fail
    go_ret
    exact ⟨by rw [P3.out]; rfl, by rw [S3.out]; exact TW.same H.out (Only.refl _ _)⟩
  | some r =>
    rw [hf] at LK PI PS
    obtain ⟨hr, hid, _⟩ := find_some hf
    have fine := H.out.good.fine r hr
    have n8 := fine.n8
    obtain ⟨ra, ca⟩ := H.out.rq r hr
    change (Instr.lookup 57 (.map (some X.b)) (.int .i64 x) false).run Try.prog w = .ok (.pointer (some ⟨X.A r.id, 0, none⟩)) w at LK
    obtain ⟨a, hA⟩ : ∃ a, X.A r.id = a := ⟨_, rfl⟩
    have HA := Lib.hid hA
    rw [hA] at LK ra ca
    have al := ra.lt
    have cn : w.cell? ⟨a, 1, none⟩ = some (.int .i64 r.pl.length) := ra.cell 1
    have RA := Lib.hid ra
    have CA := Lib.hid ca
    have HR := Lib.hid hr
    have ID := Lib.hid hid
    have FI := Lib.hid fine
    have N8 := Lib.hid n8
    have x1 := fine.id1
    have X1 := Lib.hid x1
    clear ra ca hA hr hid fine hf x1
    by_cases hp : 0 ≤ place ∧ place < r.pl.length
    · obtain ⟨k, rfl⟩ := Int.eq_ofNat_of_zero_le hp.1
      have hk : k < r.pl.length := by omega
      have t1 : decide ((k : Int) < 0) = false := decide_eq_false (by omega)
      have t2 : decide ((r.pl.length : Int) ≤ (k : Int)) = false := decide_eq_false (by omega)
      have t3 : decide (r.pl.length ≤ k) = false := decide_eq_false (by omega)
      have HK := Lib.hid hk
      have k8 : k < 8 := by omega
      have HP := Lib.hid hp
      have co : w.cell? ⟨a, 2 + k, none⟩ = some (.bool (opQ r k)) := by rw [RA.out.cell]; exact r.cells_op k8
      clear hp hk n8
      have PI := PI.out
      simp only [HP.out, and_self, if_true, Int.toNat_natCast] at PI
      cases ho : opQ r k with
      | false =>
        have P4 := Lib.hid (show putI t.rs x (k : Int) = 4 from by rw [PI, if_neg (fun q => by rw [op_true.2 q] at ho; cases ho)])
        have S4 := Lib.hid (show putS t x (k : Int) 2 0 = t from by
          have := PS.out
          rw [P4.out] at this
          simpa using this)
        rw [ho] at co
        clear PI PS ho
        generalize r.pl.length = n at *
        go_enter Try.func35, Try.ntmps35
        go_wp2_with fail
        go_ret
        exact ⟨by rw [P4.out]; rfl, by rw [S4.out]; exact TW.same H.out (Only.refl _ _)⟩
      | true =>
        have hz := op_true.1 ho
        have P0 := Lib.hid (show putI t.rs x (k : Int) = 0 from by rw [PI, if_pos hz])
        have S0 := Lib.hid (show putS t x (k : Int) 2 0 = (if doneQ (mark k 2 0 r) then cutT t x (ansQ (mark k 2 0 r)) else ⟨updQ t.rs x (mark k 2 0), t.kept⟩) from by
          have := PS.out
          rw [P0.out] at this
          simpa using this)
        rw [ho] at co
        have ff : w.frozen? ⟨a, 2 + k, none⟩ = false := RA.out.frozen _
        clear PI PS ho
        obtain ⟨w1, hw1⟩ : ∃ w1, w1 = w.setCell ⟨a, 2 + k, none⟩ (.bool false) := ⟨_, rfl⟩
        have o1 : Only (fun g => g = a) w w1 := by rw [hw1]; exact (Only.refl (fun g => g = a) w).into rfl _ _
        have r1 : Row w1 a 75 (r.cells.setIfInBounds (2 + k) (.bool false)) := by rw [hw1]; exact RA.out.put _ _
        have NT := Lib.hid (note_lose a (lostQ r) _ w1 r1 (by
          unfold Rq.cells
          rw [rqC_shut _ _ _ _ _ k8]
          rfl))
        rw [cells_lose FI.out hz] at NT
        have FM := Lib.hid (show FineQ (mark k 2 0 r) from FI.out.mark (by decide))
        have O1 := Lib.hid o1
        clear r1 o1 hz
        generalize hn : r.pl.length = n at *
        generalize hr' : mark k 2 0 r = r' at *
        have HR' := Lib.hid hr'
        clear hr' hn
        go_enter Try.func35, Try.ntmps35
        go_upto_region 9 with fail
        rw [← hw1]
        clear hw1
        go_wp2_with fail
        (with_reducible refine NT.out.mono ?_)
        rintro e w2 ⟨rfl, r2, o2⟩
        have O2 := Lib.hid (O1.out.same o2)
        have R2 := Lib.hid r2
        have d0 : w2.cell? ⟨a, 2, none⟩ = some (.bool (opQ r' 0)) := by rw [r2.cell]; rfl
        have d1 : w2.cell? ⟨a, 3, none⟩ = some (.bool (opQ r' 1)) := by rw [r2.cell]; rfl
        have d2 : w2.cell? ⟨a, 4, none⟩ = some (.bool (opQ r' 2)) := by rw [r2.cell]; rfl
        have d3 : w2.cell? ⟨a, 5, none⟩ = some (.bool (opQ r' 3)) := by rw [r2.cell]; rfl
        have d4 : w2.cell? ⟨a, 6, none⟩ = some (.bool (opQ r' 4)) := by rw [r2.cell]; rfl
        have d5 : w2.cell? ⟨a, 7, none⟩ = some (.bool (opQ r' 5)) := by rw [r2.cell]; rfl
        have d6 : w2.cell? ⟨a, 8, none⟩ = some (.bool (opQ r' 6)) := by rw [r2.cell]; rfl
        have d7 : w2.cell? ⟨a, 9, none⟩ = some (.bool (opQ r' 7)) := by rw [r2.cell]; rfl
        have ZS : ∀ w : World, (zeroValue 73).run Try.prog w = .ok (.agg #[.bool false, .bool false, .bool false, .bool false, .bool false, .bool false, .bool false, .bool false]) w := zero_pl
        have DN : doneQ r' = eq8 (opQ r') (fun _ => false) := by
          rw [done_op FM.out.n8]
          unfold eq8
          simp
        have EQ := fun w => run_eql_arr8 (opQ r') (fun _ => false) w
        rw [← DN] at EQ
        have EQ : ∀ w : World, (binOp .eql 73 (.agg #[.bool (opQ r' 0), .bool (opQ r' 1), .bool (opQ r' 2), .bool (opQ r' 3), .bool (opQ r' 4), .bool (opQ r' 5), .bool (opQ r' 6), .bool (opQ r' 7)]) (.agg #[.bool false, .bool false, .bool false, .bool false, .bool false, .bool false, .bool false, .bool false])).run Try.prog w = .ok (.bool (doneQ r')) w := EQ
        clear r2 o2 DN co cn LK q1 t1 t2 t3
        cases hd : doneQ r' with
        | false =>
          rw [hd] at EQ
          have FIN := Lib.hid (show TWto w p c room (L + 1) (putS t x (k : Int) 2 0) w2 from by
            rw [S0.out, hd, if_neg (by decide)]
            have R2' := R2.out
            rw [← HR'.out, ← HA.out] at R2'
            have O2' := O2.out
            rw [← HA.out] at O2'
            have e2 := H.out.tick HR.out (q := k) (a := 2) (v := 0) (by decide) (by rw [HR'.out]; exact hd) R2' O2'
            rw [ID.out] at e2
            refine ⟨⟨c, X, ?_, Gw.refl _ _⟩, O2'.more (fun i _ q => by rw [q, HA.out, CA.out]; omega)⟩
            have e3 := e2.up (Nat.le_succ L)
            unfold TW
            rw [ent_upd X.A t.rs x (mark k 2 0) (fun _ => rfl)]
            exact e3)
          clear hd
          generalize opQ r' 0 = u0 at *
          generalize opQ r' 1 = u1 at *
          generalize opQ r' 2 = u2 at *
          generalize opQ r' 3 = u3 at *
          generalize opQ r' 4 = u4 at *
          generalize opQ r' 5 = u5 at *
          generalize opQ r' 6 = u6 at *
          generalize opQ r' 7 = u7 at *
          go_wp2_with fail
          go_ret
          exact ⟨by rw [P0.out]; rfl, FIN.out⟩
        | true =>
          rw [hd] at EQ
          have OC := Lib.hid (outcome_any r' a w2 R2.out FM.out)
          have S1 := Lib.hid (show putS t x (k : Int) 2 0 = cutT t x (ansQ r') from by rw [S0.out, hd, if_pos rfl])
          have E2 := Lib.hid (show TB w2 p c X room L (t.rs.map (ent17 X.A)) ⟨cutQ t.rs x, t.kept⟩ from (H.out.less x).other (a := a) (x := x) (by rw [← ID.out]; exact CA.out) (by rw [← ID.out]; exact X1.out) cut_no O2.out)
          have IDR := Lib.hid (show r'.id = x from by rw [← HR'.out]; exact ID.out)
          clear hd
          generalize opQ r' 0 = u0 at *
          generalize opQ r' 1 = u1 at *
          generalize opQ r' 2 = u2 at *
          generalize opQ r' 3 = u3 at *
          generalize opQ r' 4 = u4 at *
          generalize opQ r' 5 = u5 at *
          generalize opQ r' 6 = u6 at *
          generalize opQ r' 7 = u7 at *
          go_wp2_with fail
          (with_reducible refine OC.out.mono ?_)
          rintro e w3 ⟨u, rfl, hu, o3⟩
          have TE := Lib.hid (tend_any x (codeQ r') u (valsQ r') (fun g => w2.heap.size ≤ g ∧ g < w3.heap.size) w3 (E2.out.still o3) (ent_cut _ _ _) WX.out hu (fun g hg => ⟨E2.out.zero hg.1, hg.2⟩) HL.out)
          have O3 := Lib.hid ((O2.out.more (S' := fun g => c g ≠ 0) (fun i _ q => by rw [q, CA.out]; omega)).idle o3)
          clear hu o3
          go_wp2_with fail
          (with_reducible refine TE.out.mono ?_)
          rintro e w4 ⟨rfl, ⟨c', X', h4, g4⟩, o4⟩
          have H4 := Lib.hid h4
          have G4 := Lib.hid g4
          have O4 := Lib.hid (O3.out.same o4)
          have SZ := Lib.hid (show w.heap.size ≤ w2.heap.size ∧ w.heap.size ≤ w3.heap.size from ⟨O2.out.size, O3.out.size⟩)
          clear h4 g4 o4
          go_wp2_with fail
          go_ret
          refine ⟨by rw [P0.out]; rfl, ?_⟩
          rw [S1.out]
          refine ⟨⟨c', X', ?_, fun g hg => ?_⟩, O4.out⟩
          · unfold cutT ansQ
            rw [IDR.out]
            exact H4.out
          · have := SZ.out
            rcases G4.out g hg with q | q | q
            · exact .inl q
            · exact .inr (by omega)
            · exact .inr (by omega)
    · have P1 := Lib.hid (show putI t.rs x place = 1 from by
        have := PI.out
        simpa [hp] using this)
      have S1 := Lib.hid (show putS t x place 2 0 = t from by
        have := PS.out
        rw [P1.out] at this
        simpa using this)
      have ways : decide (place < 0) = true ∨ (decide (place < 0) = false ∧ decide ((r.pl.length : Int) ≤ place) = true) := by
        by_cases q : place < 0
        · exact .inl (decide_eq_true q)
        · exact .inr ⟨decide_eq_false q, decide_eq_true (by omega)⟩
      clear PI PS hp
      generalize r.pl.length = n at *
      rcases ways with t1 | ⟨t1, t2⟩
      all_goals
        go_enter Try.func35, Try.ntmps35
        go_wp2_with fail
        go_ret
        exact ⟨by rw [P1.out]; rfl, by rw [S1.out]; exact TW.same H.out (Only.refl _ _)⟩

theorem tgive_any (x place v : Int) (w : World) (h : TW w p c X room L t) (wx : (Lit.int .i64 x).wf = true) (hL : L < 1000000) :
    Calls Try.prog 23 #[.pointer (some ⟨p, 0, none⟩), .int .i64 x, .int .i64 place, .int .u64 v] w fun e w' => e = .returned (.int .i64 (putI t.rs x place)) ∧ TWto w p c room (L + 1) (putS t x place 1 v) w' := by
  obtain ⟨W1, hW1⟩ : ∃ W1, W1 = (w.alloc (.cells #[.int .i64 place] 3)).alloc (.cells #[.int .u64 v] 30) := ⟨_, rfl⟩
  have o0 : Only none_ w (w.alloc (.cells #[.int .i64 place] 3)) := (Only.refl _ _).alloc _
  have o1 : Only none_ (w.alloc (.cells #[.int .i64 place] 3)) W1 := by rw [hW1]; exact (Only.refl _ _).alloc _
  have r6 : Row W1 w.heap.size 3 #[.int .i64 place] := o1.still (Row.fresh _ _ _)
  have r7 : Row W1 (w.heap.size + 1) 30 #[.int .u64 v] := by
    have := Row.fresh (w.alloc (.cells #[.int .i64 place] 3)) 30 #[.int .u64 v]
    rw [← hW1] at this
    simpa using this
  have SH := Lib.hid (shut_give x place v w.heap.size (w.heap.size + 1) W1 ((h.still o0).still o1) wx r6 r7 (h.zero (Nat.le_refl _)) (h.zero (Nat.le_succ _)) hL)
  have c6 : W1.cell? ⟨w.heap.size, 0, none⟩ = some (.int .i64 place) := r6.cell 0
  have O1 := Lib.hid (o0.same o1)
  clear h r6 r7 o0 o1
  go_enter Try.func23, Try.ntmps23
  go_upto_region 1 with fail
  rw [← hW1]
  clear hW1
  go_wp2_with fail
  (with_reducible refine SH.out.mono ?_)
  rintro e w2 ⟨rfl, ⟨c', X', h2, g2⟩, o2⟩
  go_wp2_with fail
  go_ret
  refine ⟨rfl, ⟨c', X', h2, (fun g hg => ?_)⟩, O1.out.then_ o2⟩
  rcases g2 g hg with q | q
  · exact .inl q
  · exact .inr (by have := O1.out.size; omega)
theorem tlose_any (x place : Int) (w : World) (h : TW w p c X room L t) (wx : (Lit.int .i64 x).wf = true) (hL : L < 1000000) :
    Calls Try.prog 24 #[.pointer (some ⟨p, 0, none⟩), .int .i64 x, .int .i64 place] w fun e w' => e = .returned (.int .i64 (putI t.rs x place)) ∧ TWto w p c room (L + 1) (putS t x place 2 0) w' := by
  have SH := Lib.hid (shut_lose x place w h wx hL)
  clear h
  go_enter Try.func24, Try.ntmps24
  go_wp2_with fail
  (with_reducible refine SH.out.mono ?_)
  rintro e w2 ⟨rfl, h2⟩
  go_wp2_with fail
  go_ret
  exact ⟨rfl, h2⟩
end
end Go.Proofs.Ytoflkeedfgnkhaa
