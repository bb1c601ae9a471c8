/- Texts of the layers below, side by side. -/
import Derived.Test.YtfbpjobobdidiaaGreatDoorGrpM
import Derived.Test.YtfbpjobobdidiaaGreatDoorGrpJ
import Derived.Test.YtfbpjobobdidiaaGreatDoorGrpC
import Derived.Test.YtfbpjobobdidiaaGreatDoorGrpB
/- An engine in memory: what only reads it, and asks the register: Of, told, Free, refusal, Needs, Idle, isWaitedForBy. -/
namespace Go.Proofs.YtfbpjobobdidiaaGreatDoor
open Go.RowKit Go.Maps
set_option linter.unusedVariables false
set_option maxRecDepth 100000

theorem RdW.keep {w w' : World} {base : Nat} {v : Value} {xs : List Wt} (h : RdW w base v xs) {S : Nat → Prop} (o : Only S w w') (hn : ∀ g, v.ownBlock = some g → ¬ S g) : RdW w' base v xs := by
  obtain ⟨⟨a, cap, rfl, rd⟩, lt⟩ := h
  refine ⟨⟨a, cap, rfl, fun i x hx => ?_⟩, fun g hg => ⟨(lt g hg).1, Nat.lt_of_lt_of_le (lt g hg).2 o.size⟩⟩
  obtain ⟨g, o1, e, c1, c2⟩ := rd i x hx
  subst e
  exact ⟨g, o1, rfl, o.cell c1 (hn g rfl), o.cell c2 (hn g rfl)⟩
theorem RdW.still {w w' : World} {base : Nat} {v : Value} {xs : List Wt} (h : RdW w base v xs) (o : Only none_ w w') : RdW w' base v xs := h.keep o (fun _ _ s => s)
theorem RdW.len {w : World} {base : Nat} {v : Value} {xs : List Wt} (h : RdW w base v xs) : ∃ a cap, v = .slice a xs.length cap := by
  obtain ⟨⟨a, cap, rfl, rd⟩, lt⟩ := h
  exact ⟨a, cap, rfl⟩
theorem Row.nine {w : World} {g : Nat} {t : TypeId} {c0 c1 c2 c3 c4 c5 c6 c7 c8 : Value} (h : Row w g t #[c0, c1, c2, c3, c4, c5, c6, c7, c8]) : w.cell? ⟨g, 0, none⟩ = some c0 ∧ w.cell? ⟨g, 1, none⟩ = some c1 ∧ w.cell? ⟨g, 2, none⟩ = some c2 ∧ w.cell? ⟨g, 3, none⟩ = some c3 ∧ w.cell? ⟨g, 4, none⟩ = some c4 ∧ w.cell? ⟨g, 5, none⟩ = some c5 ∧ w.cell? ⟨g, 6, none⟩ = some c6 ∧ w.cell? ⟨g, 7, none⟩ = some c7 ∧ w.cell? ⟨g, 8, none⟩ = some c8 :=
  ⟨h.cell 0, h.cell 1, h.cell 2, h.cell 3, h.cell 4, h.cell 5, h.cell 6, h.cell 7, h.cell 8⟩
theorem Row.ten {w : World} {g : Nat} {t : TypeId} {c0 c1 c2 c3 c4 c5 c6 c7 c8 c9 : Value} (h : Row w g t #[c0, c1, c2, c3, c4, c5, c6, c7, c8, c9]) : w.cell? ⟨g, 0, none⟩ = some c0 ∧ w.cell? ⟨g, 1, none⟩ = some c1 ∧ w.cell? ⟨g, 2, none⟩ = some c2 ∧ w.cell? ⟨g, 3, none⟩ = some c3 ∧ w.cell? ⟨g, 4, none⟩ = some c4 ∧ w.cell? ⟨g, 5, none⟩ = some c5 ∧ w.cell? ⟨g, 6, none⟩ = some c6 ∧ w.cell? ⟨g, 7, none⟩ = some c7 ∧ w.cell? ⟨g, 8, none⟩ = some c8 :=
  ⟨h.cell 0, h.cell 1, h.cell 2, h.cell 3, h.cell 4, h.cell 5, h.cell 6, h.cell 7, h.cell 8⟩
theorem two_new16 (w : World) (t0 t1 : TypeId) (c0 c1 : Array Value) : Row ((w.alloc (.cells c0 t0)).alloc (.cells c1 t1)) w.heap.size t0 c0 ∧ Row ((w.alloc (.cells c0 t0)).alloc (.cells c1 t1)) (w.heap.size + 1) t1 c1 ∧ Only none_ w ((w.alloc (.cells c0 t0)).alloc (.cells c1 t1)) := by
  have q := Row.fresh (w.alloc (.cells c0 t0)) t1 c1
  rw [World.size_alloc] at q
  exact ⟨(Row.fresh w t0 c0).alloc _, q, ((Only.refl _ _).alloc _).alloc _⟩
theorem Row.put9 {w : World} {g : Nat} {t : TypeId} {c0 c1 c2 c3 c4 c5 c6 c7 c8 : Value} (h : Row w g t #[c0, c1, c2, c3, c4, c5, c6, c7, c8]) (d0 d1 d2 d3 d4 d5 d6 d7 d8 : Value) :
    Row (((((((((w.setCell ⟨g, 0, none⟩ d0).setCell ⟨g, 1, none⟩ d1).setCell ⟨g, 2, none⟩ d2).setCell ⟨g, 3, none⟩ d3).setCell ⟨g, 4, none⟩ d4).setCell ⟨g, 5, none⟩ d5).setCell ⟨g, 6, none⟩ d6).setCell ⟨g, 7, none⟩ d7).setCell ⟨g, 8, none⟩ d8) g t #[d0, d1, d2, d3, d4, d5, d6, d7, d8] := by
  have e := ((((((((h.put 0 d0).put 1 d1).put 2 d2).put 3 d3).put 4 d4).put 5 d5).put 6 d6).put 7 d7).put 8 d8
  simp only [List.setIfInBounds_toArray, List.set_cons_succ, List.set_cons_zero] at e
  exact e
theorem only9 {S : Nat → Prop} {a w : World} (o : Only S a w) {g : Nat} (hg : a.heap.size ≤ g) (d0 d1 d2 d3 d4 d5 d6 d7 d8 : Value) :
    Only S a (((((((((w.setCell ⟨g, 0, none⟩ d0).setCell ⟨g, 1, none⟩ d1).setCell ⟨g, 2, none⟩ d2).setCell ⟨g, 3, none⟩ d3).setCell ⟨g, 4, none⟩ d4).setCell ⟨g, 5, none⟩ d5).setCell ⟨g, 6, none⟩ d6).setCell ⟨g, 7, none⟩ d7).setCell ⟨g, 8, none⟩ d8) :=
  ((((((((o.new hg 0 d0).new hg 1 d1).new hg 2 d2).new hg 3 d3).new hg 4 d4).new hg 5 d5).new hg 6 d6).new hg 7 d7).new hg 8 d8
theorem info_tick : (Tryz.prog.info? 54).map (·.size) = some 9 := by kernel_rfl
theorem results_tick {fn : Func} {q : Tmp} (h : fn.results = #[.cell q 54]) (tmps : Array Value) (w : World) (g : Nat) (cs : Array Value) (h9 : cs.size = 9)
    (hp : tmps.getD q undef = .pointer (some ⟨g, 0, none⟩)) (hg : Row w g 54 cs) : (results fn tmps).run Tryz.prog w = .ok (.agg cs) w :=
  results_cell_row h tmps w g 54 _ (0, 0) _ hp hg Tryz.underlying54 rfl (by rw [info_tick, h9])
section
variable {p : Nat} {c : Nat → Nat} {X : Loc} {F H : Nat} {ks : List Tk} {E : Eng}
theorem eof_any (x : Int) (w : World) (h : EP w p c X F H ks E) :
    Calls Tryz.prog 26 #[ptrTo p, .int .i64 x] w fun e w' => ∃ v', e = .returned v' ∧ RdW w' w.heap.size v' (ofL E.g x) ∧ Only none_ w w' := by
  have c16 : w.cell? ⟨p, 16, none⟩ = some (.pointer (some ⟨X.pg, 0, none⟩)) := h.cell 16
  have OF := Lib.hid (wof_any x w h.eo.wg)
  unfold ptrTo
  clear h
  go_enter Tryz.func26, Tryz.ntmps26
  go_wp2_with fail
  (with_reducible refine (OF.out).mono ?_)
  rintro e w' ⟨v', rfl, r, o⟩
  obtain ⟨a, k, rfl⟩ := r.len
  have R := Lib.hid r
  have O := Lib.hid o
  clear r o
  go_wp2_with fail
  go_ret
  exact ⟨_, rfl, R.out, O.out⟩
theorem eof_len (x : Int) (w : World) (h : EP w p c X F H ks E) : (ofL E.g x).length ≤ 64 := by
  have h1 := of_le E.g x
  have h2 := h.eo.wg.good
  have := h2.len; have := h2.high
  omega
set_option maxHeartbeats 1000000 in
theorem etold_any (t : Tk) (g : Nat) (w : World) (h : EP w p c X F H ks E) (r : Row w g 123 t.cells) :
    Calls Tryz.prog 55 #[ptrTo p, ptrTo g] w fun e w' => e = .returned (t.told (E.cnt t.id)) ∧ Only none_ w w' := by
  have OF := Lib.hid (fun w' (o : Only none_ w w') => eof_any t.id w' (h.still o))
  have LE := Lib.hid (eof_len t.id w h)
  have lg := r.lt
  unfold Eng.cnt Tk.told
  obtain ⟨id, kind, b, l, tries, out, fr, cut, v⟩ := t
  unfold ptrTo at *
  dsimp only at *
  obtain ⟨c0, c1, c2, c3, c4, c5, c6, c7, c8⟩ := r.ten
  generalize ofL E.g id = ws at *
  obtain ⟨W1, hW1⟩ : ∃ W1, W1 = (w.alloc (.cells #[.int .i64 0, .int .i64 0, .int .i64 0, .int .i64 0, .int .i64 0, .int .i64 0, .bool false, .bool false, .bool false] 54)).alloc (.cells #[.int .i64 id, .int .i64 kind, .int .i64 b, .int .i64 l, .int .i64 tries, .int .i64 0, .bool out, .bool fr, .bool cut] 54) := ⟨_, rfl⟩
  have o1 : Only none_ w W1 := by rw [hW1]; exact ((Only.refl _ _).alloc _).alloc _
  obtain ⟨r0, r1, _⟩ := two_new16 w 54 54 #[.int .i64 0, .int .i64 0, .int .i64 0, .int .i64 0, .int .i64 0, .int .i64 0, .bool false, .bool false, .bool false] #[.int .i64 id, .int .i64 kind, .int .i64 b, .int .i64 l, .int .i64 tries, .int .i64 0, .bool out, .bool fr, .bool cut]
  rw [← hW1] at r0 r1
  have O1 := Lib.hid o1
  have R1 := Lib.hid r1
  have R0 := Lib.hid r0
  have R := Lib.hid r
  clear h r o1 r1 r0
  go_enter Tryz.func55, Tryz.ntmps55
  go_wp2_with fail
  rw [← hW1]
  (with_reducible refine (OF.out W1 O1.out).mono ?_)
  rintro e w2 ⟨v', rfl, rd, o2⟩
  obtain ⟨a, k, rfl⟩ := rd.len
  have O2 := Lib.hid (O1.out.idle o2)
  have R2 := Lib.hid (o2.still R1.out)
  have Z2 := Lib.hid (o2.still R0.out)
  clear rd o2 hW1 c0 c1 c2 c3 c4 c5 c6 c7 c8
  obtain ⟨c0, c1, c2, c3, c4, c5, c6, c7, c8⟩ := R2.out.nine
  have f5 := R2.out.frozen 5
  have l2 := R2.out.lt
  have l0 := Z2.out.lt
  obtain ⟨d0, d1, d2, d3, d4, d5, d6, d7, d8⟩ := Z2.out.nine
  have z0 := Z2.out.frozen 0
  have z1 := Z2.out.frozen 1
  have z2 := Z2.out.frozen 2
  have z3 := Z2.out.frozen 3
  have z4 := Z2.out.frozen 4
  have z5 := Z2.out.frozen 5
  have z6 := Z2.out.frozen 6
  have z7 := Z2.out.frozen 7
  have z8 := Z2.out.frozen 8
  go_wp2_with fail
  have FR := Row.put9 (Z2.out.far (p := ⟨w.heap.size + 1, 5, none⟩) (by show w.heap.size ≠ w.heap.size + 1; omega) (.int .i64 ws.length)) (.int .i64 id) (.int .i64 kind) (.int .i64 b) (.int .i64 l) (.int .i64 tries) (.int .i64 ws.length) (.bool out) (.bool fr) (.bool cut)
  have FO := only9 (O2.out.new (b := w.heap.size + 1) (by omega) 5 (.int .i64 ws.length)) (g := w.heap.size) (by omega) (.int .i64 id) (.int .i64 kind) (.int .i64 b) (.int .i64 l) (.int .i64 tries) (.int .i64 ws.length) (.bool out) (.bool fr) (.bool cut)
  exact bodyPost_ret (results_tick rfl _ _ w.heap.size _ rfl rfl FR) rfl ⟨rfl, FO⟩
theorem efree_any (w : World) (h : EP w p c X F H ks E) :
    Calls Tryz.prog 17 #[ptrTo p] w fun e w' => e = .returned (.tuple #[.int .i64 E.fd, .int .i64 E.fa, .int .i64 E.fw]) ∧ Only none_ w w' := by
  have c15 : w.cell? ⟨p, 15, none⟩ = some (.pointer (some ⟨X.pt, 0, none⟩)) := h.cell 15
  have c16 : w.cell? ⟨p, 16, none⟩ = some (.pointer (some ⟨X.pg, 0, none⟩)) := h.cell 16
  have m := h.may
  unfold Opt.MayC at m
  obtain ⟨L, ps, tn, hq, _⟩ := h.eo.tn
  have TF := tfree_any w tn
  unfold Freed12 at TF
  have e1 : ((E.o.b3.toNat : Int) - (ps.filter (fun q => q.a == false)).length) = E.fd := by
    unfold Eng.fd
    rw [← hq, row_len]
    omega
  have e2 : ((E.o.b4.toNat : Int) - (ps.filter (fun q => q.a == true)).length) = E.fa := by
    unfold Eng.fa
    rw [← hq, row_len]
    omega
  rw [e1, e2] at TF
  have TF := Lib.hid TF
  have WF := Lib.hid (fun w' (o : Only none_ w w') => show Calls Tryz.prog 53 #[.pointer (some ⟨X.pg, 0, none⟩)] w' fun e w'' => e = .returned (.int .i64 E.fw) ∧ Only none_ w' w'' from by
    have := wfree_any w' (h.still o).eo.wg
    rw [show ((E.o.b9.toNat : Int) - (E.g.length : Int)) = E.fw from by unfold Eng.fw; omega] at this
    exact this)
  clear h tn m hq e1 e2
  unfold ptrTo
  generalize E.fd = fd at *
  generalize E.fa = fa at *
  generalize E.fw = fw at *
  go_enter Tryz.func17, Tryz.ntmps17
  go_wp2_with fail
  (with_reducible refine (TF.out).mono ?_)
  rintro e w1 ⟨rfl, o⟩
  have O1 := Lib.hid o
  have d16 := o.cell c16 (fun s => s)
  clear o c16 c15
  go_wp2_with fail
  (with_reducible refine (WF.out w1 O1.out).mono ?_)
  rintro e w2 ⟨rfl, o⟩
  have O2 := Lib.hid (O1.out.same o)
  clear o
  go_wp2_with fail
  go_ret3
  exact ⟨rfl, O2.out⟩
set_option maxHeartbeats 1000000 in
theorem erefuse_any (x : Wt) (need : Bool) (w : World) (h : EP w p c X F H ks E) (wx : wfW x) :
    Calls Tryz.prog 63 #[ptrTo p, x.val, .bool need] w fun e w' => e = .returned (.int .i64 (E.refC x need)) ∧ Only none_ w w' := by
  have c16 : w.cell? ⟨p, 16, none⟩ = some (.pointer (some ⟨X.pg, 0, none⟩)) := h.cell 16
  have FR := Lib.hid (fun w' (o : Only none_ w w') => efree_any w' (h.still o))
  have WT := Lib.hid (fun w' (o : Only none_ w w') => wwaits_any x w' (h.still o).eo.wg wx)
  have lp := h.eo.row.lt
  have EQ := Lib.hid (show E.refC x need = if mayP x then if waitsB E.g x then 4 else if E.fw = 0 ∨ (need = true ∧ E.fd = 0) then 2 else 0 else 1 from rfl)
  generalize E.refC x need = cc at *
  unfold ptrTo at *
  generalize waitsB E.g x = wb at *
  generalize E.fd = fd at *
  generalize E.fa = fa at *
  generalize E.fw = fw at *
  clear h wx
  obtain ⟨r, q⟩ := x
  unfold Wt.val at *
  dsimp only at *
  obtain ⟨W1, hW1⟩ : ∃ W1, W1 = w.alloc (.cells #[.int .i64 r, .int .i64 q] 36) := ⟨_, rfl⟩
  have o1 : Only none_ w W1 := by rw [hW1]; exact (Only.refl _ _).alloc _
  have r1 : Row W1 w.heap.size 36 #[.int .i64 r, .int .i64 q] := by rw [hW1]; exact Row.fresh _ _ _
  have O1 := Lib.hid o1
  have R1 := Lib.hid r1
  clear o1 r1
  go_enter Tryz.func63, Tryz.ntmps63
  go_wp2_with fail
  rw [← hW1]
  clear hW1
  (with_reducible refine (FR.out W1 O1.out).mono ?_)
  rintro e w2 ⟨rfl, o⟩
  have O2 := Lib.hid (O1.out.same o)
  have R2 := Lib.hid (o.still R1.out)
  have d16 := O2.out.cell c16 (fun s => s)
  clear o c16
  obtain ⟨x0, x1⟩ := R2.out.two
  by_cases k : mayP ⟨r, q⟩
  · have k' : 1 ≤ r ∧ 0 ≤ q ∧ q < 8 := k
    have t1 : decide (r < 1) = false := decide_eq_false (by omega)
    have t2 : decide (q < 0) = false := decide_eq_false (by omega)
    have t3 : decide (8 ≤ q) = false := decide_eq_false (by omega)
    rw [if_pos k] at EQ
    clear k k'
    have WT2 := Lib.hid (WT.out w2.drew O2.out.drew)
    go_wp2_with fail
    go_region_with (first
      | (go_at_call 107; (with_reducible refine WT2.out.mono ?_); rintro e w3 ⟨rfl, o3⟩)
      | fail)
    all_goals
      have O3 := Lib.hid (O2.out.drew.same o3)
      clear o3
      cases wb with
      | true =>
        have C4 := Lib.hid (show cc = 4 from by rw [EQ.out]; rfl)
        go_wp2_with fail
        go_ret
        exact ⟨by rw [C4.out]; rfl, O3.out⟩
      | false =>
        by_cases k1 : fw = 0
        · have C2 := Lib.hid (show cc = 2 from by rw [EQ.out, if_neg (by decide), if_pos (.inl k1)])
          subst k1
          go_wp2_with fail
          go_ret
          exact ⟨by rw [C2.out]; rfl, O3.out⟩
        · have t4 : (fw == 0) = false := by simpa using k1
          cases need with
          | false =>
            have C0 := Lib.hid (show cc = 0 from by rw [EQ.out, if_neg (by decide), if_neg (by simp [k1])])
            clear k1
            go_wp2_with fail
            go_ret
            exact ⟨by rw [C0.out]; rfl, O3.out⟩
          | true =>
            by_cases k2 : fd = 0
            · have C2 := Lib.hid (show cc = 2 from by rw [EQ.out, if_neg (by decide), if_pos (.inr ⟨rfl, k2⟩)])
              subst k2
              clear k1
              go_wp2_with fail
              go_ret
              exact ⟨by rw [C2.out]; rfl, O3.out⟩
            · have t5 : (fd == 0) = false := by simpa using k2
              have C0 := Lib.hid (show cc = 0 from by rw [EQ.out, if_neg (by decide), if_neg (by simp [k1, k2])])
              clear k1 k2
              go_wp2_with fail
              go_ret
              exact ⟨by rw [C0.out]; rfl, O3.out⟩
  · have C1 := Lib.hid (show cc = 1 from by rw [EQ.out, if_neg k])
    by_cases k1 : r < 1
    · have t1 : decide (r < 1) = true := decide_eq_true k1
      clear k k1
      go_wp2_with fail
      go_ret
      exact ⟨by rw [C1.out]; rfl, O2.out⟩
    · have t1 : decide (r < 1) = false := decide_eq_false k1
      by_cases k2 : q < 0
      · have t2 : decide (q < 0) = true := decide_eq_true k2
        clear k k1 k2
        go_wp2_with fail
        go_ret
        exact ⟨by rw [C1.out]; rfl, O2.out⟩
      · have t2 : decide (q < 0) = false := decide_eq_false k2
        have t3 : decide (8 ≤ q) = true := decide_eq_true (by
          unfold mayP at k
          simp only at k
          omega)
        clear k k1 k2
        go_wp2_with fail
        go_ret
        exact ⟨by rw [C1.out]; rfl, O2.out⟩
end
end Go.Proofs.YtfbpjobobdidiaaGreatDoor


/- An engine in memory, what only reads it: Needs, Idle, isWaitedForBy, fate. -/
namespace Go.Proofs.YtfbpjobobdidiaaGreatDoor
open Go.RowKit Go.Maps
set_option linter.unusedVariables false
set_option maxRecDepth 100000

section
variable {p : Nat} {c : Nat → Nat} {X : Loc} {F H : Nat} {ks : List Tk} {E : Eng}
theorem EP.rowOf {w : World} (h : EP w p c X F H ks E) {t : Tk} (ht : t ∈ E.ts) : Row w (X.A t.id) 123 t.cells := (h.eo.tk t (h.sub t ht)).1
theorem EP.lastRow {w : World} (h : EP w p c X F H ks E) (b : Int) : ∀ t, E.last b = some t → Row w (X.A t.id) 123 t.cells := fun t ht => h.rowOf (last_in ht).1
theorem EP.headRow {w : World} (h : EP w p c X F H ks E) (b : Int) : ∀ t, E.head b = some t → Row w (X.A t.id) 123 t.cells := fun t ht => h.rowOf (head_in ht).1
theorem eneed_any (b : Int) (w : World) (h : EP w p c X F H ks E) :
    Calls Tryz.prog 64 #[ptrTo p, .int .i64 b] w fun e w' => e = .returned (.bool (E.needs b)) ∧ Only none_ w w' := by
  have EL := Lib.hid (elast_any b w h)
  have EH := Lib.hid (fun w' (o : Only none_ w w') => ehas_any b w' (h.still o))
  have RW := Lib.hid (h.lastRow b)
  have EJ := Lib.hid (fun w' (o : Only none_ w w') => ejoin_any X.A (E.last b) w' (fun t ht => o.still (h.lastRow b t ht)))
  unfold Eng.needs
  generalize E.last b = ol at *
  generalize E.has b = hs at *
  unfold ptrTo at *
  clear h
  cases hs with
  | false =>
    cases hj : joins ol with
    | _ =>
      cases hq : optPtr X.A ol with
      | pointer a =>
        rw [hq] at EL
        clear hq hj
        go_enter Tryz.func64, Tryz.ntmps64
        go_wp2_with fail
        (with_reducible refine (EL.out).mono ?_)
        rintro e w1 ⟨rfl, o1⟩
        have O1 := Lib.hid o1
        clear o1
        go_wp2_with fail
        (with_reducible refine (EH.out w1 O1.out).mono ?_)
        rintro e w2 ⟨rfl, o2⟩
        have O2 := Lib.hid (O1.out.same o2)
        clear o2
        go_wp2_with fail
        go_ret
        exact ⟨rfl, O2.out⟩
      | _ => unfold optPtr ptrTo at hq; split at hq <;> cases hq
  | true =>
    cases ol with
    | none =>
      unfold optPtr joins isRead at *
      go_enter Tryz.func64, Tryz.ntmps64
      go_wp2_with fail
      (with_reducible refine (EL.out).mono ?_)
      rintro e w1 ⟨rfl, o1⟩
      have O1 := Lib.hid o1
      clear o1
      go_wp2_with fail
      (with_reducible refine (EH.out w1 O1.out).mono ?_)
      rintro e w2 ⟨rfl, o2⟩
      have O2 := Lib.hid (O1.out.same o2)
      clear o2
      go_wp2_with fail
      (with_reducible refine (EJ.out w2 O2.out).mono ?_)
      rintro e w3 ⟨rfl, o3⟩
      have O3 := Lib.hid (O2.out.same o3)
      clear o3
      go_wp2_with fail
      go_ret
      exact ⟨rfl, O3.out⟩
    | some t =>
      have r := RW.out t rfl
      obtain ⟨g, hg⟩ : ∃ g, X.A t.id = g := ⟨_, rfl⟩
      unfold optPtr at *
      simp only [hg] at EL EJ r
      unfold ptrTo at *
      have ISR : isRead (some t) = (t.kind == 1) := rfl
      rw [ISR]
      generalize joins (some t) = j at *
      clear hg
      cases j with
      | false =>
        go_enter Tryz.func64, Tryz.ntmps64
        go_wp2_with fail
        (with_reducible refine (EL.out).mono ?_)
        rintro e w1 ⟨rfl, o1⟩
        have O1 := Lib.hid o1
        clear o1
        go_wp2_with fail
        (with_reducible refine (EH.out w1 O1.out).mono ?_)
        rintro e w2 ⟨rfl, o2⟩
        have O2 := Lib.hid (O1.out.same o2)
        clear o2
        go_wp2_with fail
        (with_reducible refine (EJ.out w2 O2.out).mono ?_)
        rintro e w3 ⟨rfl, o3⟩
        have O3 := Lib.hid (O2.out.same o3)
        clear o3
        go_wp2_with fail
        go_ret
        exact ⟨rfl, O3.out⟩
      | true =>
        have R := Lib.hid r
        clear r
        go_enter Tryz.func64, Tryz.ntmps64
        go_wp2_with fail
        (with_reducible refine (EL.out).mono ?_)
        rintro e w1 ⟨rfl, o1⟩
        have O1 := Lib.hid o1
        clear o1
        go_wp2_with fail
        (with_reducible refine (EH.out w1 O1.out).mono ?_)
        rintro e w2 ⟨rfl, o2⟩
        have O2 := Lib.hid (O1.out.same o2)
        clear o2
        go_wp2_with fail
        (with_reducible refine (EJ.out w2 O2.out).mono ?_)
        rintro e w3 ⟨rfl, o3⟩
        have O3 := Lib.hid (O2.out.same o3)
        clear o3
        have c1 : w3.cell? ⟨g, 1, none⟩ = some (.int .i64 t.kind) := (O3.out.still R.out).cell 1
        go_wp2_with fail
        go_ret
        exact ⟨rfl, O3.out⟩
theorem eidle_any (b : Int) (w : World) (h : EP w p c X F H ks E) :
    Calls Tryz.prog 30 #[ptrTo p, .int .i64 b] w fun e w' => e = .returned (.bool (E.idle b)) ∧ Only none_ w w' := by
  have EH := Lib.hid (ehas_any b w h)
  have HD := Lib.hid (fun w' (o : Only none_ w w') => ehead_any b w' (h.still o))
  unfold Eng.idle
  generalize E.head b = ol at *
  generalize E.has b = hs at *
  unfold ptrTo at *
  clear h
  cases hs with
  | false =>
    go_enter Tryz.func30, Tryz.ntmps30
    go_wp2_with fail
    (with_reducible refine (EH.out).mono ?_)
    rintro e w1 ⟨rfl, o1⟩
    have O1 := Lib.hid o1
    clear o1
    go_wp2_with fail
    go_ret
    exact ⟨rfl, O1.out⟩
  | true =>
    cases ol with
    | none =>
      unfold optPtr at *
      go_enter Tryz.func30, Tryz.ntmps30
      go_wp2_with fail
      (with_reducible refine (EH.out).mono ?_)
      rintro e w1 ⟨rfl, o1⟩
      have O1 := Lib.hid o1
      clear o1
      go_wp2_with fail
      (with_reducible refine (HD.out w1 O1.out).mono ?_)
      rintro e w2 ⟨rfl, o2⟩
      have O2 := Lib.hid (O1.out.same o2)
      clear o2
      go_wp2_with fail
      go_ret
      exact ⟨rfl, O2.out⟩
    | some t =>
      unfold optPtr ptrTo at *
      go_enter Tryz.func30, Tryz.ntmps30
      go_wp2_with fail
      (with_reducible refine (EH.out).mono ?_)
      rintro e w1 ⟨rfl, o1⟩
      have O1 := Lib.hid o1
      clear o1
      go_wp2_with fail
      (with_reducible refine (HD.out w1 O1.out).mono ?_)
      rintro e w2 ⟨rfl, o2⟩
      have O2 := Lib.hid (O1.out.same o2)
      clear o2
      go_wp2_with fail
      go_ret
      exact ⟨rfl, O2.out⟩
end
end Go.Proofs.YtfbpjobobdidiaaGreatDoor


/- slices.ContainsFunc of waiters; whether a request's waiter waits for a ticket. -/
namespace Go.Proofs.YtfbpjobobdidiaaGreatDoor
open Go.RowKit Go.Maps
set_option linter.unusedVariables false
set_option maxRecDepth 100000

set_option maxHeartbeats 1000000 in
theorem index16 (v : Value) (ws : List Wt) (w : World) (G : FuncId) (caps : Array Value) (f : Wt → Bool) (hv : ReadsW w v ws) (hl : ws.length ≤ 1000)
    (hG : ∀ (a : Value) (w : World), (callFunc G (#[a] ++ caps)).run Tryz.prog w = .ok (.enter G (#[a] ++ caps)) w)
    (hL : ∀ x : Wt, ∀ w', Only none_ w w' → Calls Tryz.prog G (#[.agg #[.int .i64 x.r, .int .i64 x.p]] ++ caps) w' fun e w'' => e = .returned (.bool (f x)) ∧ Only none_ w' w'') :
    Calls Tryz.prog 148 #[v, .func (.func G) #[] caps] w fun e w' => ∃ n : Int, e = .returned (.int .i64 n) ∧ decide (0 ≤ n) = ws.any f ∧ Only none_ w w' := by
  obtain ⟨a, cap, rfl, rd⟩ := hv
  have RD := Lib.hid rd
  have HL := Lib.hid hL
  clear rd hL
  go_enter Tryz.func148, Tryz.ntmps148
  go_wp2_with fail
  go_loopw [5, 8] (fun _ i wr => ∃ k : Nat, k ≤ ws.length ∧ i = .int .i64 k ∧ Only none_ w wr ∧ ∀ x ∈ ws.take k, f x = false) (fun _ i _ => ws.length - (intOf i).toNat)
  case atStart => exact ⟨0, Nat.zero_le _, rfl, Only.refl _ _, fun x hx => by simp at hx⟩
  case round =>
    obtain ⟨k, hk, rfl, ho, hn⟩ := hrel
    have OO := Lib.hid ho
    have HN := Lib.hid hn
    clear ho hn
    by_cases hlt : k < ws.length
    · obtain ⟨x, hx⟩ : ∃ x, ws[k]? = some x := ⟨_, List.getElem?_eq_getElem hlt⟩
      obtain ⟨g, o1, rfl, d0, d1⟩ := RD.out k x hx
      have a0 := OO.out.cell d0 (fun s => s)
      have a1 := OO.out.cell d1 (fun s => s)
      have HX := Lib.hid hx
      have LX := Lib.hid (HL.out x wr OO.out)
      clear hx d0 d1
      obtain ⟨r, q⟩ := x
      dsimp only at *
      go_wp2_with fail
      (with_reducible refine LX.out.mono ?_)
      rintro e w2 ⟨rfl, o2⟩
      have O2 := Lib.hid (OO.out.same o2)
      clear o2 LX a0 a1
      cases hf : f ⟨r, q⟩ with
      | true =>
        have ANY := Lib.hid (show ws.any f = true from List.any_eq_true.2 ⟨⟨r, q⟩, List.mem_of_getElem? HX.out, hf⟩)
        clear hf
        go_wp2_with fail
        go_ret
        exact ⟨(k : Int), rfl, by rw [ANY.out]; simp, O2.out⟩
      | false =>
        have NX := Lib.hid (show ∀ x ∈ ws.take (k + 1), f x = false from by
          intro x hx
          rw [sxtake HX.out] at hx
          rcases List.mem_append.1 hx with q | q
          · exact HN.out x q
          · rw [List.mem_singleton.1 q]; exact hf)
        clear hf
        go_wp2_with fail
        go_roundw
        case rel => exact ⟨k + 1, by omega, by go_num, O2.out, NX.out⟩
        case measure => simp [intOf]; omega
    · have e : k = ws.length := by omega
      subst e
      have ANY := Lib.hid (show ws.any f = false from by
        rw [List.any_eq_false]
        intro x hx
        have := HN.out x (by rw [List.take_length]; exact hx)
        simp [this])
      go_wp2_with fail
      go_ret
      exact ⟨-1, rfl, by rw [ANY.out]; rfl, OO.out⟩
theorem contains16 (v : Value) (ws : List Wt) (w : World) (G : FuncId) (caps : Array Value) (f : Wt → Bool) (hv : ReadsW w v ws) (hl : ws.length ≤ 1000)
    (hG : ∀ (a : Value) (w : World), (callFunc G (#[a] ++ caps)).run Tryz.prog w = .ok (.enter G (#[a] ++ caps)) w)
    (hL : ∀ x : Wt, ∀ w', Only none_ w w' → Calls Tryz.prog G (#[.agg #[.int .i64 x.r, .int .i64 x.p]] ++ caps) w' fun e w'' => e = .returned (.bool (f x)) ∧ Only none_ w' w'') :
    Calls Tryz.prog 115 #[v, .func (.func G) #[] caps] w fun e w' => e = .returned (.bool (ws.any f)) ∧ Only none_ w w' := by
  have IX := Lib.hid (index16 v ws w G caps f hv hl hG hL)
  obtain ⟨a, cap, rfl, rd⟩ := hv
  clear hL rd
  go_enter Tryz.func115, Tryz.ntmps115
  go_wp2_with fail
  (with_reducible refine (IX.out).mono ?_)
  rintro e w1 ⟨n, rfl, hn, o⟩
  have O := Lib.hid o
  have HN := Lib.hid hn
  clear o hn
  go_wp2_with fail
  go_ret
  exact ⟨by rw [← HN.out]; rfl, O.out⟩
theorem isreq_any (x : Wt) (g : Nat) (r : Int) (w : World) (h : w.cell? ⟨g, 0, none⟩ = some (.int .i64 r)) :
    Calls Tryz.prog 116 #[.agg #[.int .i64 x.r, .int .i64 x.p], .pointer (some ⟨g, 0, none⟩)] w fun e w' => e = .returned (.bool (decide (x.r = r))) ∧ Only none_ w w' := by
  have lg : g < w.heap.size := by
    rcases Nat.lt_or_ge g w.heap.size with k | k
    · exact k
    · simp [World.cell?, Array.getElem?_eq_none k] at h
  have O1 := Lib.hid ((Only.refl none_ w).alloc (.cells #[.int .i64 x.r, .int .i64 x.p] 36))
  go_enter Tryz.func116, Tryz.ntmps116
  go_wp2_with fail
  go_ret
  refine ⟨?_, O1.out⟩
  congr 2
section
variable {p : Nat} {c : Nat → Nat} {X : Loc} {F H : Nat} {ks : List Tk} {E : Eng}
theorem ewaited_any (t : Tk) (g : Nat) (r : Int) (w : World) (h : EP w p c X F H ks E) (rw_ : Row w g 123 t.cells) :
    Calls Tryz.prog 71 #[ptrTo p, ptrTo g, .int .i64 r] w fun e w' => e = .returned (.bool ((ofL E.g t.id).any (fun x => decide (x.r = r)))) ∧ Only none_ w w' := by
  have OF := Lib.hid (fun w' (o : Only none_ w w') => eof_any t.id w' (h.still o))
  have LE := Lib.hid (eof_len t.id w h)
  have lg := rw_.lt
  have c0 : w.cell? ⟨g, 0, none⟩ = some (.int .i64 t.id) := rw_.cell 0
  generalize ofL E.g t.id = ws at *
  generalize t.id = id at *
  unfold ptrTo at *
  clear h rw_
  obtain ⟨W1, hW1⟩ : ∃ W1, W1 = w.alloc (.cells #[.int .i64 r] 3) := ⟨_, rfl⟩
  have o1 : Only none_ w W1 := by rw [hW1]; exact (Only.refl _ _).alloc _
  have r1 : Row W1 w.heap.size 3 #[.int .i64 r] := by rw [hW1]; exact Row.fresh _ _ _
  have O1 := Lib.hid o1
  have R1 := Lib.hid r1
  clear o1 r1
  go_enter Tryz.func71, Tryz.ntmps71
  go_wp2_with fail
  rw [← hW1]
  clear hW1 c0
  (with_reducible refine (OF.out W1 O1.out).mono ?_)
  rintro e w2 ⟨v', rfl, rd, o2⟩
  obtain ⟨a, k, rfl⟩ := rd.len
  have RD := Lib.hid rd
  have O2 := Lib.hid (O1.out.same o2)
  have R2 := Lib.hid (o2.still R1.out)
  clear rd o2
  have CF := Lib.hid (contains16 _ ws w2 116 #[.pointer (some ⟨w.heap.size, 0, none⟩)] (fun x => decide (x.r = r)) RD.out.reads (by have := LE.out; omega)
    (fun a w => enters_of Tryz.func116 (by kernel_rfl) rfl _ w) (fun x w' o => isreq_any x w.heap.size r w' ((o.still R2.out).cell 0)))
  go_wp2_with fail
  (with_reducible refine CF.out.mono ?_)
  rintro e w3 ⟨rfl, o3⟩
  have O3 := Lib.hid (O2.out.same o3)
  clear o3
  go_wp2_with fail
  go_ret
  exact ⟨rfl, O3.out⟩
end
end Go.Proofs.YtfbpjobobdidiaaGreatDoor


/- An engine in memory: a ticket ends; a new one comes. -/
namespace Go.Proofs.YtfbpjobobdidiaaGreatDoor
open Go.RowKit Go.Maps
set_option linter.unusedVariables false
set_option maxRecDepth 100000

/-! ### the turns' calls -/
section
variable {X : Loc} {nd na F : Nat} {qs : List Sl} {w : World}
theorem TnF.of_to {w' : World} {ss : List Sl} {L : Nat} (hL : L ≤ F) (h : TurnTo w' X.pt X.bq nd na L ss) : TnF w' X nd na (F + 1) ss := by
  obtain ⟨L', ps, h1, h2, h3⟩ := h
  exact ⟨L', ps, h1, h2, by omega⟩
theorem tendF (x : Int) (h : TnF w X nd na F qs) (wx : (Lit.int .i64 x).wf = true) :
    Calls Tryz.prog 106 #[.pointer (some ⟨X.pt, 0, none⟩), .int .i64 x] w fun e w' => e = .returned (.int .i64 (endC qs x)) ∧ TnF w' X nd na (F + 1) (cutL qs x) ∧ Only (two12 X.pt X.bq) w w' := by
  obtain ⟨L, ps, tn, rfl, hL⟩ := h
  refine (tend_any x w tn wx).mono ?_
  rintro e w' ⟨he, ht, ho⟩
  exact ⟨he, TnF.of_to hL ht, ho⟩
theorem tputF (x : Int) (a : Bool) (h : TnF w X nd na F qs) (wx : (Lit.int .i64 x).wf = true) (hF : F < 100000000) :
    Calls Tryz.prog 110 #[.pointer (some ⟨X.pt, 0, none⟩), .int .i64 x, .bool a] w fun e w' => e = .returned (.int .i64 (putC nd na qs x a)) ∧ TnF w' X nd na (F + 1) (putS nd na qs x a) ∧ Only (two12 X.pt X.bq) w w' := by
  obtain ⟨L, ps, tn, rfl, hL⟩ := h
  refine (tput_any x a w tn wx (by omega)).mono ?_
  rintro e w' ⟨he, ht, ho⟩
  exact ⟨he, TnF.of_to hL ht, ho⟩
theorem tstartF (x : Int) (h : TnF w X nd na F qs) (wx : (Lit.int .i64 x).wf = true) :
    Calls Tryz.prog 142 #[.pointer (some ⟨X.pt, 0, none⟩), .int .i64 x] w fun e w' => e = .returned (.int .i64 (waitC qs x false)) ∧ TnF w' X nd na (F + 1) (waitS qs x false) ∧ Only (two12 X.pt X.bq) w w' := by
  obtain ⟨L, ps, tn, rfl, hL⟩ := h
  refine (tstart_any x w tn wx).mono ?_
  rintro e w' ⟨he, ht, ho⟩
  exact ⟨he, TnF.of_to hL ht, ho⟩
theorem tagainF (x : Int) (h : TnF w X nd na F qs) (wx : (Lit.int .i64 x).wf = true) :
    Calls Tryz.prog 121 #[.pointer (some ⟨X.pt, 0, none⟩), .int .i64 x] w fun e w' => e = .returned (.int .i64 (waitC qs x true)) ∧ TnF w' X nd na (F + 1) (waitS qs x true) ∧ Only (two12 X.pt X.bq) w w' := by
  obtain ⟨L, ps, tn, rfl, hL⟩ := h
  refine (tagain_any x w tn wx).mono ?_
  rintro e w' ⟨he, ht, ho⟩
  exact ⟨he, TnF.of_to hL ht, ho⟩
theorem tpromF (x : Int) (h : TnF w X nd na F qs) (wx : (Lit.int .i64 x).wf = true) (hF : F < 100000000) :
    Calls Tryz.prog 68 #[.pointer (some ⟨X.pt, 0, none⟩), .int .i64 x] w fun e w' => e = .returned (.int .i64 (promC nd qs x)) ∧ TnF w' X nd na (F + 1) (promS nd qs x) ∧ Only (two12 X.pt X.bq) w w' := by
  obtain ⟨L, ps, tn, rfl, hL⟩ := h
  refine (tpromote_any x w tn wx (by omega)).mono ?_
  rintro e w' ⟨he, ht, ho⟩
  exact ⟨he, TnF.of_to hL ht, ho⟩
end

theorem wf_id {w : World} {p : Nat} {c : Nat → Nat} {X : Loc} {F H : Nat} {ks : List Tk} {E : Eng} (h : EP w p c X F H ks E) {t : Tk} (ht : t ∈ ks) : (Lit.int .i64 t.id).wf = true := by
  have := h.idr t ht
  have := h.ntH; have := h.hH
  exact wf_i _ (by omega)
theorem sd_filter (ts : List Tk) (x : Int) : cutK (ts.map Tk.sd) x = (ts.filter (fun t => !(t.id == x))).map Tk.sd := by
  unfold cutK
  rw [List.filter_map]
  rfl
theorem ent_filter (A : Int → Nat) (ts : List Tk) (x : Int) : cutV (ts.map (tkEnt A)) x = (ts.filter (fun t => !(t.id == x))).map (tkEnt A) := by
  unfold cutV
  rw [List.filter_map]
  rfl
theorem once_sd {ts : List Tk} (h : ts.Pairwise (fun s t => s.id ≠ t.id)) : Once (ts.map Tk.sd) := by
  unfold Once
  rw [List.pairwise_map]
  exact h
section
variable {p : Nat} {c : Nat → Nat} {X : Loc} {F H : Nat} {ks : List Tk} {E : Eng}
set_option maxHeartbeats 2000000 in
theorem eend_any (t : Tk) (w : World) (h : EP w p c X F H ks E) (ht : t ∈ ks) (hF : F + 1 < 100000000) :
    Calls Tryz.prog 60 #[ptrTo p, ptrTo (X.A t.id)] w fun e w' => e = .returned (.tuple #[]) ∧ (∃ c', EP w' p c' X (F + 1) H ks (E.end_ t.id) ∧ Gw w c c') ∧ Only (fun g => c g ≠ 0 ∧ c g ≠ 6) w w' := by
  have hp := h.eo.cp
  have wx := wf_id h ht
  have r0 := (h.eo.tk t ht).1
  have hc6 := (h.eo.tk t ht).2
  have od : Only none_ w w.drew := (Only.refl _ _).drew
  obtain ⟨w5, run5, m5, o5⟩ := (h.eo.still od).tm.drop Tryz.underlying96 t.id wx 0
  have e5 := (h.eo.still od).tmap m5 o5
  rw [ent_filter] at e5
  have once := h.once
  have bd := h.bd
  have H0 := Lib.hid h
  have O5 := Lib.hid (show Only (fun g => c g ≠ 0 ∧ c g ≠ 6) w w5 from od.then_ (o5.more (fun i _ e => by rw [e, h.eo.cb]; exact ⟨by decide, by decide⟩)))
  have PL := Lib.hid (lpull_any t.id w5.drew (e5.still ((Only.refl _ _).drew)).ln bd.1 bd.2 wx)
  have E5 := Lib.hid e5
  have WX := Lib.hid wx
  have ON := Lib.hid (once_sd once)
  have c17 : w.drew.cell? ⟨p, 17, none⟩ = some (.map (some X.bt)) := h.cell 17
  have c0 : w.drew.cell? ⟨X.A t.id, 0, none⟩ = some (.int .i64 t.id) := r0.cell 0
  have d14 : w5.drew.cell? ⟨p, 14, none⟩ = some (.pointer (some ⟨X.pl, 0, none⟩)) := e5.row.cell 14
  have d0 : w5.drew.cell? ⟨X.A t.id, 0, none⟩ = some (.int .i64 t.id) := (e5.tk t ht).1.cell 0
  clear m5 o5 e5 od r0 once bd hp hc6 wx h
  unfold ptrTo
  go_enter Tryz.func60, Tryz.ntmps60
  go_upto_region 0 with fail
  go_region
  clear run5 c17 c0
  go_wp2_with fail
  go_region_with (first
    | (go_at_call 105; (with_reducible refine PL.out.mono ?_); rintro e w6 ⟨rfl, lt6⟩)
    | fail)
  all_goals
    obtain ⟨c6, e6, g6, o6⟩ := (E5.out.still ((Only.refl _ _).drew)).lanes lt6
    rw [pull_cut ON.out, sd_filter] at e6
    have E6 := Lib.hid e6
    have G6 := Lib.hid g6
    have O6 := Lib.hid (O5.out.same (((Only.refl none_ w5).drew).then_ (o6.more (S' := fun g => c g ≠ 0 ∧ c g ≠ 6) (fun i _ e => by rw [e]; exact ⟨by decide, by decide⟩))))
    have TE := Lib.hid (tendF t.id (E6.out.still ((Only.refl _ _).drew)).tn WX.out)
    have y15 : w6.drew.cell? ⟨p, 15, none⟩ = some (.pointer (some ⟨X.pt, 0, none⟩)) := e6.row.cell 15
    have y0 : w6.drew.cell? ⟨X.A t.id, 0, none⟩ = some (.int .i64 t.id) := (e6.tk t ht).1.cell 0
    have O5S := Lib.hid (show w.heap.size ≤ w5.drew.heap.size from O5.out.size)
    clear lt6 e6 g6 o6 d14 d0 E5 O5
    go_wp2_with fail
    go_region_with (first
      | (go_at_call 106; (with_reducible refine TE.out.mono ?_); rintro e w7 ⟨rfl, t7, o7⟩)
      | fail)
    all_goals
      have e7 := (E6.out.still ((Only.refl _ _).drew)).turns (Nat.le_succ F) t7 o7
      have o8 : Only (fun g => c g ≠ 0 ∧ c g ≠ 6) w w7 := O6.out.same (((Only.refl none_ w6).drew).then_ (o7.more (S' := fun g => c g ≠ 0 ∧ c g ≠ 6) (fun i _ e => by
        rcases e with e | e
        · rw [e, H0.out.eo.ct.1]; exact ⟨by decide, by decide⟩
        · rw [e, H0.out.eo.ct.2]; exact ⟨by decide, by decide⟩)))
      go_wp2_with fail
      go_end0
      refine ⟨rfl, ⟨c6, ?_, (Gw.refl w c).trans G6.out O5S.out⟩, o8⟩
      exact { eo := e7, sub := fun s hs => H0.out.sub s (List.mem_filter.1 hs).1, may := H0.out.may, idr := H0.out.idr, tag := H0.out.tag, few := Nat.le_trans (List.length_filter_le _ _) H0.out.few, mfew := H0.out.mfew, ntH := H0.out.ntH, ngH := H0.out.ngH, hF := hF, hH := H0.out.hH }
end
end Go.Proofs.YtfbpjobobdidiaaGreatDoor

