/- Slices are cloned; a move with memory of its own. -/
import Derived.Test.YtfbpjobobdidiaaGreatDoorGrpO
import Derived.Test.YtfbpjobobdidiaaGreatDoorGrpB
namespace Go.Proofs.YtfbpjobobdidiaaGreatDoor
open Go.RowKit Go.Maps
set_option linter.unusedVariables false
set_option maxRecDepth 100000

theorem info_u64 : (Tryz.prog.info? 34).map (fun i => (i.zero, i.size, i.bytes)) = some (some (.int .u64 0), 1, 8) := by kernel_rfl
theorem oneU_cells_one (l : List Int) : ∀ u ∈ l.flatMap oneU, u.oneCell' = true := fun u hu => by
  obtain ⟨x, _, hx⟩ := List.mem_flatMap.1 hu
  exact oneU_one x u hx
theorem oneU_flat_len (l : List Int) : (l.flatMap oneU).length = l.length * 1 := by
  have := flat_size oneU1 l
  unfold flat at this
  simpa using this
set_option maxHeartbeats 1000000 in
theorem clonei_any (v : Value) (l : List Int) (w : World) (h : OwnsInts w 0 v l) (hl : l.length ≤ 1000) :
    Calls Tryz.prog 94 #[v] w fun e w' => ∃ v', e = .returned v' ∧ OwnsInts w' w.heap.size v' l ∧ Only none_ w w' := by
  rcases h.2 with ⟨hv, h2⟩ | ⟨g, cap, cur, hv, _⟩
  · subst hv
    have hs : l = [] := List.eq_nil_of_length_eq_zero h2
    subst hs
    have he : ∀ w : World, (binOp .eql 44 (.slice none 0 0) (.slice none 0 0)).run Tryz.prog w = .ok (.bool true) w := fun _ => rfl
    clear h
    go_enter Tryz.func94, Tryz.ntmps94
    go_wp2_with fail
    go_ret
    exact ⟨_, rfl, Owns.start _ _ _ _ _, Only.refl none_ w⟩
  · subst hv
    obtain ⟨i0, hi0, hz0, hz1, hz2⟩ := info_parts info_int8
    have own0 : (w.alloc (.cells #[] 3)).ownsRow w.heap.size 3 1 (.slice (some ⟨w.heap.size, 0, none⟩) 0 0) 0 [] := by
      refine ⟨rfl, .inr ⟨w.heap.size, 0, #[], rfl, Nat.le_refl _, ?_, Nat.le_refl _, Nat.zero_le _, rfl, rfl⟩⟩
      exact Row.fresh w 3 #[]
    have O0 := Lib.hid ((Only.refl none_ w).alloc (.cells #[] 3))
    have H := Lib.hid h
    have all_ := Lib.hid (fun j u (hj : (l.flatMap one)[j]? = some u) => O0.out.cell (World.ownsRow.cells h (g := g) rfl j u hj) (fun s => s))
    have OW := Lib.hid own0
    have zz : w.heap.size ≤ (w.alloc (.cells #[] 3)).heap.size := O0.out.size
    have he : ∀ w : World, (binOp .eql 44 (.slice (some ⟨g, 0, none⟩) l.length cap) (.slice none 0 0)).run Tryz.prog w = .ok (.bool false) w := fun _ => rfl
    clear h own0
    go_enter Tryz.func94, Tryz.ntmps94
    go_wp2_with (at_builtin; go_loud (refine wpList_append_own _ rfl (.tmp 5) (.tmp 6) 44 rfl w.heap.size 3 i0 _ 1 8 Tryz.underlying44 hi0 hz0 hz1 hz2 rfl (by decide) _ 0 [] rfl OW.out ⟨g, 0, none⟩ l.length cap _ rfl (one_flat_len _) all_.out (one_cells_one _) (by unfold maxLen; omega) (by omega) zz ?_))
    intro v1 w1 hown1 hgrow1 _
    have O1 := Lib.hid (O0.out.trans (Only.of_grown hgrow1) (fun j hj q => by have q2 : some j = some w.heap.size := q; injection q2; omega))
    have OW1 := Lib.hid (show OwnsInts w1 w.heap.size v1 l from by
      show Owns _ _ _ _ _ _ _
      unfold Owns
      simpa using hown1)
    clear hown1 hgrow1
    go_wp2_with fail
    go_ret
    exact ⟨v1, rfl, OW1.out, O1.out⟩
set_option maxHeartbeats 1000000 in
theorem cloneu_any (v : Value) (l : List Int) (w : World) (h : OwnsU w 0 v l) (hl : l.length ≤ 1000) :
    Calls Tryz.prog 95 #[v] w fun e w' => ∃ v', e = .returned v' ∧ OwnsU w' w.heap.size v' l ∧ Only none_ w w' := by
  rcases h.2 with ⟨hv, h2⟩ | ⟨g, cap, cur, hv, _⟩
  · subst hv
    have hs : l = [] := List.eq_nil_of_length_eq_zero h2
    subst hs
    have he : ∀ w : World, (binOp .eql 45 (.slice none 0 0) (.slice none 0 0)).run Tryz.prog w = .ok (.bool true) w := fun _ => rfl
    clear h
    go_enter Tryz.func95, Tryz.ntmps95
    go_wp2_with fail
    go_ret
    exact ⟨_, rfl, Owns.start _ _ _ _ _, Only.refl none_ w⟩
  · subst hv
    obtain ⟨i0, hi0, hz0, hz1, hz2⟩ := info_parts info_u64
    have own0 : (w.alloc (.cells #[] 34)).ownsRow w.heap.size 34 1 (.slice (some ⟨w.heap.size, 0, none⟩) 0 0) 0 [] := by
      refine ⟨rfl, .inr ⟨w.heap.size, 0, #[], rfl, Nat.le_refl _, ?_, Nat.le_refl _, Nat.zero_le _, rfl, rfl⟩⟩
      exact Row.fresh w 34 #[]
    have O0 := Lib.hid ((Only.refl none_ w).alloc (.cells #[] 34))
    have H := Lib.hid h
    have all_ := Lib.hid (fun j u (hj : (l.flatMap oneU)[j]? = some u) => O0.out.cell (World.ownsRow.cells h (g := g) rfl j u hj) (fun s => s))
    have OW := Lib.hid own0
    have zz : w.heap.size ≤ (w.alloc (.cells #[] 34)).heap.size := O0.out.size
    have he : ∀ w : World, (binOp .eql 45 (.slice (some ⟨g, 0, none⟩) l.length cap) (.slice none 0 0)).run Tryz.prog w = .ok (.bool false) w := fun _ => rfl
    clear h own0
    go_enter Tryz.func95, Tryz.ntmps95
    go_wp2_with (at_builtin; go_loud (refine wpList_append_own _ rfl (.tmp 5) (.tmp 6) 45 rfl w.heap.size 34 i0 _ 1 8 Tryz.underlying45 hi0 hz0 hz1 hz2 rfl (by decide) _ 0 [] rfl OW.out ⟨g, 0, none⟩ l.length cap _ rfl (oneU_flat_len _) all_.out (oneU_cells_one _) (by unfold maxLen; omega) (by omega) zz ?_))
    intro v1 w1 hown1 hgrow1 _
    have O1 := Lib.hid (O0.out.trans (Only.of_grown hgrow1) (fun j hj q => by have q2 : some j = some w.heap.size := q; injection q2; omega))
    have OW1 := Lib.hid (show OwnsU w1 w.heap.size v1 l from by
      show Owns _ _ _ _ _ _ _
      unfold Owns
      simpa using hown1)
    clear hown1 hgrow1
    go_wp2_with fail
    go_ret
    exact ⟨v1, rfl, OW1.out, O1.out⟩

/-- a move's slices in memory of the call's own -/
structure MvW (w : World) (base : Nat) (v : Value × Value × Value) (m : Mv) : Prop where
  ks : OwnsInts w base v.1 m.ks
  vs : OwnsU w base v.2.1 m.vs
  fs : OwnsInts w base v.2.2 m.fs
theorem MvW.still {w w' : World} {base : Nat} {v : Value × Value × Value} {m : Mv} (h : MvW w base v m) (o : Only none_ w w') : MvW w' base v m := ⟨h.ks.still o, h.vs.still o, h.fs.still o⟩
theorem MvW.keep {w w' : World} {base : Nat} {v : Value × Value × Value} {m : Mv} (h : MvW w base v m) {S : Nat → Prop} (o : Only S w w') (hn : ∀ g, base ≤ g → g < w.heap.size → ¬ S g) : MvW w' base v m :=
  ⟨h.ks.keep o (fun g hg => hn g (h.ks.base_le hg).1 (h.ks.base_le hg).2), h.vs.keep o (fun g hg => hn g (h.vs.base_le hg).1 (h.vs.base_le hg).2), h.fs.keep o (fun g hg => hn g (h.fs.base_le hg).1 (h.fs.base_le hg).2)⟩
theorem MvW.lower {w : World} {base base' : Nat} {v : Value × Value × Value} {m : Mv} (h : MvW w base v m) (k : base' ≤ base) : MvW w base' v m := ⟨h.ks.lower11 k, h.vs.lower11 k, h.fs.lower11 k⟩
theorem owns_form {α : Type} {w : World} {base : Nat} {e : TypeId} {k : Nat} {c : α → List Value} {v : Value} {xs : List α} (h : Owns w base e k c v xs) : ∃ a cap, v = .slice a xs.length cap := by
  rcases h.2 with ⟨h0, h2⟩ | ⟨g, cap, cur, hv, _⟩
  · exact ⟨none, 0, by rw [h0, h2]⟩
  · exact ⟨_, _, hv⟩
theorem info_move : (Tryz.prog.info? 47).map (·.size) = some 7 := by kernel_rfl
theorem Row.seven {w : World} {g : Nat} {t : TypeId} {c0 c1 c2 c3 c4 c5 c6 : Value} (h : Row w g t #[c0, c1, c2, c3, c4, c5, c6]) : w.cell? ⟨g, 0, none⟩ = some c0 ∧ w.cell? ⟨g, 1, none⟩ = some c1 ∧ w.cell? ⟨g, 2, none⟩ = some c2 ∧ w.cell? ⟨g, 3, none⟩ = some c3 ∧ w.cell? ⟨g, 4, none⟩ = some c4 ∧ w.cell? ⟨g, 5, none⟩ = some c5 ∧ w.cell? ⟨g, 6, none⟩ = some c6 :=
  ⟨h.cell 0, h.cell 1, h.cell 2, h.cell 3, h.cell 4, h.cell 5, h.cell 6⟩
theorem Row.put7 {w : World} {g : Nat} {t : TypeId} {c0 c1 c2 c3 c4 c5 c6 : Value} (h : Row w g t #[c0, c1, c2, c3, c4, c5, c6]) (d0 d1 d2 d3 d4 d5 d6 : Value) :
    Row (((((((w.setCell ⟨g, 0, none⟩ d0).setCell ⟨g, 1, none⟩ d1).setCell ⟨g, 2, none⟩ d2).setCell ⟨g, 3, none⟩ d3).setCell ⟨g, 4, none⟩ d4).setCell ⟨g, 5, none⟩ d5).setCell ⟨g, 6, none⟩ d6) g t #[d0, d1, d2, d3, d4, d5, d6] := by
  have e := ((((((h.put 0 d0).put 1 d1).put 2 d2).put 3 d3).put 4 d4).put 5 d5).put 6 d6
  simp only [List.setIfInBounds_toArray, List.set_cons_succ, List.set_cons_zero] at e
  exact e
theorem only7 {S : Nat → Prop} {a w : World} (o : Only S a w) {g : Nat} (hg : g < a.heap.size → S g) (d0 d1 d2 d3 d4 d5 d6 : Value) :
    Only S a (((((((w.setCell ⟨g, 0, none⟩ d0).setCell ⟨g, 1, none⟩ d1).setCell ⟨g, 2, none⟩ d2).setCell ⟨g, 3, none⟩ d3).setCell ⟨g, 4, none⟩ d4).setCell ⟨g, 5, none⟩ d5).setCell ⟨g, 6, none⟩ d6) :=
  ((((((o.put (p := ⟨g, 0, none⟩) hg d0).put (p := ⟨g, 1, none⟩) hg d1).put (p := ⟨g, 2, none⟩) hg d2).put (p := ⟨g, 3, none⟩) hg d3).put (p := ⟨g, 4, none⟩) hg d4).put (p := ⟨g, 5, none⟩) hg d5).put (p := ⟨g, 6, none⟩) hg d6
theorem results_move {fn : Func} {q : Tmp} (h : fn.results = #[.cell q 47]) (tmps : Array Value) (w : World) (g : Nat) (cs : Array Value) (h7 : cs.size = 7)
    (hp : tmps.getD q undef = .pointer (some ⟨g, 0, none⟩)) (hg : Row w g 47 cs) : (results fn tmps).run Tryz.prog w = .ok (.agg cs) w :=
  results_cell_row h tmps w g 47 _ (0, 0) _ hp hg Tryz.underlying47 rfl (by rw [info_move, h7])
set_option maxHeartbeats 4000000 in
theorem cloned_any (m : Mv) (v : Value × Value × Value) (w : World) (h : MvW w 0 v m) (l1 : m.ks.length ≤ 1000) (l2 : m.vs.length ≤ 1000) (l3 : m.fs.length ≤ 1000) :
    Calls Tryz.prog 50 #[m.val v] w fun e w' => ∃ v', e = .returned (m.val v') ∧ MvW w' w.heap.size v' m ∧ Only none_ w w' := by
  obtain ⟨v1, v2, v3⟩ := v
  obtain ⟨tag, wr, lo, n, ks, vs, fs⟩ := m
  unfold Mv.val
  dsimp only at *
  obtain ⟨W1, hW1⟩ : ∃ W1, W1 = (w.alloc (.cells #[.int .i64 tag, .bool wr, .int .i64 lo, .int .i64 n, v1, v2, v3] 47)).alloc (.cells #[.int .i64 0, .bool false, .int .i64 0, .int .i64 0, .slice none 0 0, .slice none 0 0, .slice none 0 0] 47) := ⟨_, rfl⟩
  obtain ⟨bx, tx, o1⟩ := two_new16 w 47 47 #[.int .i64 tag, .bool wr, .int .i64 lo, .int .i64 n, v1, v2, v3] #[.int .i64 0, .bool false, .int .i64 0, .int .i64 0, .slice none 0 0, .slice none 0 0, .slice none 0 0]
  rw [← hW1] at bx tx o1
  have C1 := Lib.hid (clonei_any v1 ks W1 (h.ks.still o1) l1)
  have C2 := Lib.hid (fun w' (o : Only (fun g => w.heap.size ≤ g) w w') => cloneu_any v2 vs w' (h.vs.keep o (fun g hg e => by have := (h.vs.base_le hg).2; omega)) l2)
  have C3 := Lib.hid (fun w' (o : Only (fun g => w.heap.size ≤ g) w w') => clonei_any v3 fs w' (h.fs.keep o (fun g hg e => by have := (h.fs.base_le hg).2; omega)) l3)
  obtain ⟨a1, k1, rfl⟩ := owns_form h.ks
  obtain ⟨a2, k2, rfl⟩ := owns_form h.vs
  obtain ⟨a3, k3, rfl⟩ := owns_form h.fs
  have O1 := Lib.hid o1
  have BX := Lib.hid bx
  have TX := Lib.hid tx
  have q4 : W1.cell? ⟨w.heap.size, 4, none⟩ = some (.slice a1 ks.length k1) := bx.cell 4
  have lb := bx.lt
  have lw1 : w.heap.size + 2 ≤ W1.heap.size := by have := tx.lt; omega
  clear h o1 bx tx
  go_enter Tryz.func50, Tryz.ntmps50
  go_wp2_with fail
  rw [← hW1]
  clear hW1
  (with_reducible refine C1.out.mono ?_)
  rintro e w2 ⟨u1, rfl, h1, o2⟩
  obtain ⟨b1, j1, rfl⟩ := owns_form h1
  have r2 := o2.still BX.out
  have t2 := o2.still TX.out
  have p4 : w2.cell? ⟨w.heap.size, 4, none⟩ = some (.slice a1 ks.length k1) := r2.cell 4
  have f4 := r2.frozen 4
  have lb2 := r2.lt
  obtain ⟨w3, hw3⟩ : ∃ w3, w3 = w2.setCell ⟨w.heap.size, 4, none⟩ (.slice b1 ks.length j1) := ⟨_, rfl⟩
  have o3 : Only (fun g => g = w.heap.size) w2 w3 := by rw [hw3]; exact (Only.refl (fun k => k = w.heap.size) w2).into rfl _ _
  have r3 : Row w3 w.heap.size 47 #[.int .i64 tag, .bool wr, .int .i64 lo, .int .i64 n, .slice b1 ks.length j1, .slice a2 vs.length k2, .slice a3 fs.length k3] := by rw [hw3]; exact r2.put 4 _
  have t3 := o3.row t2 (by omega)
  have s1 := O1.out.size
  have sW := Lib.hid (show W1.heap.size ≤ w3.heap.size from Nat.le_trans o2.size o3.size)
  have O3 := Lib.hid (((O1.out.same o2).up (S := fun g => w.heap.size ≤ g)).same (o3.more (fun i _ e => by rw [e]; exact Nat.le_refl _)))
  have M1 := Lib.hid (h1.keep o3 (fun g hg e => by have := (h1.base_le hg).1; have e1 : g = w.heap.size := e; omega))
  have R3 := Lib.hid r3
  have T3 := Lib.hid t3
  have q5 : w3.cell? ⟨w.heap.size, 5, none⟩ = some (.slice a2 vs.length k2) := r3.cell 5
  clear h1 o2 r2 t2 o3 r3 t3 q4
  go_upto_region 2 with fail
  rw [← hw3]
  clear hw3 p4 f4
  go_wp2_with fail
  (with_reducible refine (C2.out w3 O3.out).mono ?_)
  rintro e w4 ⟨u2, rfl, h2, o4⟩
  obtain ⟨b2, j2, rfl⟩ := owns_form h2
  have r4 := o4.still R3.out
  have t4 := o4.still T3.out
  have p5 : w4.cell? ⟨w.heap.size, 5, none⟩ = some (.slice a2 vs.length k2) := r4.cell 5
  have f5 := r4.frozen 5
  have lb4 := r4.lt
  obtain ⟨w5, hw5⟩ : ∃ w5, w5 = w4.setCell ⟨w.heap.size, 5, none⟩ (.slice b2 vs.length j2) := ⟨_, rfl⟩
  have o5 : Only (fun g => g = w.heap.size) w4 w5 := by rw [hw5]; exact (Only.refl (fun k => k = w.heap.size) w4).into rfl _ _
  have r5 : Row w5 w.heap.size 47 #[.int .i64 tag, .bool wr, .int .i64 lo, .int .i64 n, .slice b1 ks.length j1, .slice b2 vs.length j2, .slice a3 fs.length k3] := by rw [hw5]; exact r4.put 5 _
  have t5 := o5.row t4 (by omega)
  have s3 := O3.out.size
  have s35 : w3.heap.size ≤ w5.heap.size := Nat.le_trans o4.size o5.size
  have O5 := Lib.hid ((O3.out.idle o4).same (o5.more (fun i _ e => by rw [e]; exact Nat.le_refl _)))
  have M1b := Lib.hid ((M1.out.still o4).keep o5 (fun g hg e => by have := (M1.out.base_le hg).1; have e1 : g = w.heap.size := e; omega))
  have M2 := Lib.hid (h2.keep o5 (fun g hg e => by have := (h2.base_le hg).1; have e1 : g = w.heap.size := e; have := R3.out.lt; omega))
  have R5 := Lib.hid r5
  have T5 := Lib.hid t5
  have q6 : w5.cell? ⟨w.heap.size, 6, none⟩ = some (.slice a3 fs.length k3) := r5.cell 6
  clear h2 o4 r4 t4 o5 r5 t5 q5 M1
  go_upto_region 3 with fail
  rw [← hw5]
  clear hw5 p5 f5
  go_wp2_with fail
  (with_reducible refine (C3.out w5 O5.out).mono ?_)
  rintro e w6 ⟨u3, rfl, h3, o6⟩
  obtain ⟨b3, j3, rfl⟩ := owns_form h3
  have r6 := o6.still R5.out
  have t6 := o6.still T5.out
  obtain ⟨c0, c1, c2, c3, c4, c5, c6⟩ := r6.seven
  have f6 := r6.frozen 6
  have lb6 := r6.lt
  obtain ⟨d0, d1, d2, d3, d4, d5, d6⟩ := t6.seven
  have z0 := t6.frozen 0
  have z1 := t6.frozen 1
  have z2 := t6.frozen 2
  have z3 := t6.frozen 3
  have z4 := t6.frozen 4
  have z5 := t6.frozen 5
  have z6 := t6.frozen 6
  have lt6 := t6.lt
  have O6 := Lib.hid (O5.out.idle o6)
  have T6 := Lib.hid t6
  have M1c := Lib.hid (M1b.out.still o6)
  have M2c := Lib.hid (M2.out.still o6)
  have M3 := Lib.hid h3
  have S6 := Lib.hid (show w.heap.size + 2 ≤ W1.heap.size ∧ W1.heap.size ≤ w3.heap.size ∧ w3.heap.size ≤ w5.heap.size from ⟨lw1, sW.out, s35⟩)
  clear h3 o6 r6 t6 q6 M1b M2
  go_wp2_with fail
  have FR := (T6.out.far (p := ⟨w.heap.size, 6, none⟩) (by show w.heap.size + 1 ≠ w.heap.size; omega) (.slice b3 fs.length j3)).put7 (.int .i64 tag) (.bool wr) (.int .i64 lo) (.int .i64 n) (.slice b1 ks.length j1) (.slice b2 vs.length j2) (.slice b3 fs.length j3)
  have FO := only7 (((Only.refl (fun g => g = w.heap.size ∨ g = w.heap.size + 1) w6).put (p := ⟨w.heap.size, 6, none⟩) (fun _ => .inl rfl) (.slice b3 fs.length j3))) (g := w.heap.size + 1) (fun _ => .inr rfl) (.int .i64 tag) (.bool wr) (.int .i64 lo) (.int .i64 n) (.slice b1 ks.length j1) (.slice b2 vs.length j2) (.slice b3 fs.length j3)
  have NN : ∀ (base : Nat) (v : Value), base ≥ w.heap.size + 2 → ∀ g, base ≤ g → ¬ (g = w.heap.size ∨ g = w.heap.size + 1) := fun base v hb g hg e => by omega
  refine bodyPost_ret (results_move rfl _ _ (w.heap.size + 1) _ rfl rfl FR) rfl ⟨(.slice b1 ks.length j1, .slice b2 vs.length j2, .slice b3 fs.length j3), rfl, ⟨?_, ?_, ?_⟩, ?_⟩
  · exact (M1c.out.keep FO (fun g hg e => by have := (M1c.out.base_le hg).1; have := S6.out; have e1 : g = w.heap.size ∨ g = w.heap.size + 1 := e; omega)).lower11 (by have := S6.out; omega)
  · exact (M2c.out.keep FO (fun g hg e => by have := (M2c.out.base_le hg).1; have := S6.out; have e1 : g = w.heap.size ∨ g = w.heap.size + 1 := e; omega)).lower11 (by have := S6.out; omega)
  · exact (M3.out.keep FO (fun g hg e => by have := (M3.out.base_le hg).1; have := S6.out; have e1 : g = w.heap.size ∨ g = w.heap.size + 1 := e; omega)).lower11 (by have := S6.out; omega)
  · exact (O6.out.same (FO.more (fun i _ e => by have e1 : i = w.heap.size ∨ i = w.heap.size + 1 := e; show w.heap.size ≤ i; omega))).more (fun i hi e => absurd hi (by have e1 : w.heap.size ≤ i := e; omega))
end Go.Proofs.YtfbpjobobdidiaaGreatDoor
