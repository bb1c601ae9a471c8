/- Package req: what only reads a table; its answers are taken; a request is cancelled. -/
import Derived.Test.YtoflkeedfgnkhaaOp17
import Derived.Test.YtoflkeedfgnkhaaInt11
import Derived.Test.YtoflkeedfgnkhaaShelf
import Derived.Test.YtoflkeedfgnkhaaAfter
import Derived.Shelf.AbstractIn
namespace Go.Proofs.Ytoflkeedfgnkhaa
open Go.RowKit Go.Maps Go.Sort Go.Shelf
set_option linter.unusedVariables false
set_option maxRecDepth 100000

def sortI (l : List Int) : List Int := l.mergeSort leI
theorem sortI_len (l : List Int) : (sortI l).length = l.length := List.length_mergeSort l
theorem Mg.perm {w : World} {b : Nat} {es : List Ent} {D : DataW Value} (hn : OnceV es) (h1 : w.ownsMap Try.prog 3 anyE b es.length D) (h2 : ReadsV D es) : (es.map (·.1)).Perm (intKeys D) :=
  CollectedI.perm (left := fun _ => false) ⟨hn.keys, fun x => by rw [h2.1 x, hasV_iff]; simp⟩ h1 lawI Try.underlying3 (fun _ => rfl)
theorem sorts17 (m : Nat) : AnyZI.SortsIn Try.prog Try.sortedA_ren Fence.wide m :=
  ⟨fun blk off cap ss W hH hblk hsz => callsIn_wide.2 (AnyM.slices_Sort_int Try.sortA blk off cap ss W hH hblk hsz),
   fun p cap W => callsIn_wide.2 (AnyM.slices_Sort_int_none Try.sortA p cap W)⟩
section
variable {w w' : World} {p : Nat} {c : Nat → Nat} {X : Loc17} {room L : Nat} {t : Tq}
set_option maxHeartbeats 1000000 in
theorem tpending_any (w : World) (h : TW w p c X room L t) :
    Calls Try.prog 13 #[.pointer (some ⟨p, 0, none⟩)] w fun e w' => ∃ v, e = .returned v ∧ OwnsInts w' w.heap.size v (sortI (t.rs.map (·.id))) ∧ Only none_ w w' := by
  refine (callsIn_wide (n := 6)).1 ?_
  obtain ⟨hn, D, h1, h2⟩ := h.mp
  have hbl := h1.lt
  have hsz : Maps.size D = t.rs.length := by rw [h2.size h1 hn, List.length_map]
  have hle : t.rs.length ≤ 16 := Nat.le_trans h.good.len h.good.high
  have PP := Mg.perm hn h1 h2
  rw [List.map_map] at PP
  change (t.rs.map (·.id)).Perm _ at PP
  have hseq : SeqGives Fence.wide 2 Try.prog 42 #[.pointer (some ⟨w.heap.size, 0, none⟩)] encZ (fun ss => ss.Perm (intKeys D)) (Maps.size D) (w.alloc (.cells #[.map (some X.b)] 57)) :=
    AnyZI.keys_gives (ρ := Try.keysA_ren) { Try.keysA with } Fence.wide _ trivial rfl (by omega) w.heap.size X.b _ D _ (by simp) (by simp) (by
      obtain ⟨es, clock, hb, Ft, hs, hD⟩ := h1
      exact ⟨es, clock, (Below.heap_alloc _ _ X.b hbl).trans hb, Ft, hs, hD⟩)
  have cK : ∀ mb W, CallsIn Fence.wide 5 Try.prog 30 #[.map mb] W fun e w' => e = .returned (.func (.func 42) #[] #[.pointer (some ⟨W.heap.size, 0, none⟩)]) ∧ w' = W.alloc (.cells #[.map mb] 57) := fun mb W => AnyZI.keys_in Try.keysA Fence.wide 5 trivial rfl mb W
  have cS := AnyZI.sorted_in Try.sortedA Fence.wide 5 trivial trivial trivial trivial rfl (by omega) (sorts17 _) (enters_of Try.func41 (by kernel_rfl) rfl) 42 #[.pointer (some ⟨w.heap.size, 0, none⟩)] trivial (enters_of Try.func42 (by kernel_rfl) rfl) _ _ (by rw [hsz]; unfold maxLen; omega) (by rw [hsz]; omega) _ hseq
  change CallsIn _ _ Try.prog 29 _ _ _ at cS
  have hfK : Fence.wide.fn 30 := trivial
  have hfS : Fence.wide.fn 29 := trivial
  have q1 : w.cell? ⟨p, 1, none⟩ = some (.map (some X.b)) := h.row.cell 1
  have PP := Lib.hid PP
  clear hseq h1 h2 hn hsz h
  refine callsIn_of_wp Try.func13 rfl trivial ?_ rfl
  simp only [Try.ntmps13, List.size_toArray, List.length_cons, List.length_nil, Nat.reduceAdd, Nat.reduceSub, Array.replicate_succ, Array.replicate_zero, List.push_toArray, List.append_toArray, List.nil_append, List.cons_append]
  gi_wp2_with (first
    | (gi_at_call 30; refine (cK _ _).mono ?_; rintro e w' ⟨rfl, rfl⟩)
    | (gi_at_call 29; refine cS.mono ?_; rintro e w' ⟨v, ss, rfl, hS, hrow, hnil, hb⟩))
  go_ret
  have e1 : ss.mergeSort (fun x y => decide (x ≤ y)) = sortI (t.rs.map (·.id)) := mergeSort_of_perm_i (hS.trans PP.out.symm)
  rw [e1] at hrow
  have el : ss.length = (sortI (t.rs.map (·.id))).length := by rw [← e1, List.length_mergeSort]
  rw [el] at hrow
  have ob := (Only.of_below hb).more (S' := fun k => w.heap.size ≤ k) (fun i _ q => by simp at q; omega)
  refine ⟨v, rfl, ?_, ?_⟩
  · show Owns _ _ _ _ _ _ _
    unfold Owns
    rw [one_map]
    exact ownsRow_base_a hrow (by simp)
  · exact (((Only.refl (fun k => w.heap.size ≤ k) w).alloc _).same ob).more (fun i hi q => absurd q (Nat.not_le.2 hi))
theorem tkind_any (x : Int) (w : World) (h : TW w p c X room L t) (wx : (Lit.int .i64 x).wf = true) :
    Calls Try.prog 17 #[.pointer (some ⟨p, 0, none⟩), .int .i64 x] w fun e w' => e = .returned (.int .i64 (kindI t.rs x)) ∧ Only none_ w w' := by
  have LK := h.look wx
  have q1 : w.cell? ⟨p, 1, none⟩ = some (.map (some X.b)) := h.row.cell 1
  have RQ := h.rq
  have KI := Lib.hid (show kindI t.rs x = match findQ t.rs x with | none => 0 | some r => r.kind from rfl)
  clear h wx
  cases hf : findQ t.rs x with
  | none =>
    rw [hf] at LK KI
    change (Instr.lookup 57 (.map (some X.b)) (.int .i64 x) false).run Try.prog w = .ok (.pointer none) w at LK
    clear RQ hf
    go_enter Try.func17, Try.ntmps17
    go_wp2_with fail
    go_ret
    exact ⟨by rw [KI.out]; rfl, Only.refl _ _⟩
  | some r =>
    rw [hf] at LK KI
    change (Instr.lookup 57 (.map (some X.b)) (.int .i64 x) false).run Try.prog w = .ok (.pointer (some ⟨X.A r.id, 0, none⟩)) w at LK
    have ra := (RQ r (find_some hf).1).1
    generalize X.A r.id = a at LK ra
    have c0 : w.cell? ⟨a, 0, none⟩ = some (.int .i64 r.kind) := ra.cell 0
    clear RQ hf ra
    go_enter Try.func17, Try.ntmps17
    go_wp2_with fail
    go_ret
    exact ⟨by rw [KI.out]; rfl, Only.refl _ _⟩
set_option maxHeartbeats 1000000 in
theorem ttouched_any (x : Int) (w : World) (h : TW w p c X room L t) (wx : (Lit.int .i64 x).wf = true) :
    Calls Try.prog 15 #[.pointer (some ⟨p, 0, none⟩), .int .i64 x] w fun e w' => e = .returned (.bool (touchedB t.rs x)) ∧ Only none_ w w' := by
  have LK := h.look wx
  have q1 : w.cell? ⟨p, 1, none⟩ = some (.map (some X.b)) := h.row.cell 1
  have RQ := h.rq
  have GD := h.good
  have KI := Lib.hid (show touchedB t.rs x = match findQ t.rs x with | none => false | some r => r.pl.any (fun a => !(a == 0)) from rfl)
  clear h wx
  cases hf : findQ t.rs x with
  | none =>
    rw [hf] at LK KI
    change (Instr.lookup 57 (.map (some X.b)) (.int .i64 x) false).run Try.prog w = .ok (.pointer none) w at LK
    clear RQ hf GD
    go_enter Try.func15, Try.ntmps15
    go_upto_region 2 with fail
    go_quiet (fail)
    go_wp2_with fail
    go_ret
    exact ⟨by rw [KI.out]; rfl, (Only.refl _ _).drewN _⟩
  | some r =>
    rw [hf] at LK KI
    change (Instr.lookup 57 (.map (some X.b)) (.int .i64 x) false).run Try.prog w = .ok (.pointer (some ⟨X.A r.id, 0, none⟩)) w at LK
    have ra := (RQ r (find_some hf).1).1
    have fine := GD.fine r (find_some hf).1
    generalize X.A r.id = a at LK ra
    have n8 := fine.n8
    have TE := touched_op n8
    have EQ := fun w => run_neq_arr8 (opQ r) (fun j => decide (j < r.pl.length)) w
    rw [show (!eq8 (opQ r) (fun j => decide (j < r.pl.length))) = r.pl.any (fun a => !(a == 0)) from TE] at EQ
    unfold b8 at EQ
    have RA := Lib.hid ra
    have KJ := Lib.hid (show touchedB t.rs x = r.pl.any (fun a => !(a == 0)) from KI.out)
    have UT : ∀ w : World, Calls Try.prog 32 #[.int .i64 r.pl.length] w fun e w' => e = .returned (.agg (b8 (fun j => decide (j < r.pl.length)))) ∧ Only none_ w w' := fun w => untouched_any r.pl.length w n8
    unfold b8 at UT
    clear RQ hf ra GD fine KI TE n8
    dsimp only at EQ UT
    have FA := Lib.hid (fun (w' : World) (o : Only none_ w w') => show w'.cell? ⟨a, 1, none⟩ = some (.int .i64 r.pl.length) ∧ w'.cell? ⟨a, 2, none⟩ = some (.bool (opQ r 0)) ∧ w'.cell? ⟨a, 3, none⟩ = some (.bool (opQ r 1)) ∧ w'.cell? ⟨a, 4, none⟩ = some (.bool (opQ r 2)) ∧ w'.cell? ⟨a, 5, none⟩ = some (.bool (opQ r 3)) ∧ w'.cell? ⟨a, 6, none⟩ = some (.bool (opQ r 4)) ∧ w'.cell? ⟨a, 7, none⟩ = some (.bool (opQ r 5)) ∧ w'.cell? ⟨a, 8, none⟩ = some (.bool (opQ r 6)) ∧ w'.cell? ⟨a, 9, none⟩ = some (.bool (opQ r 7)) from
      have k := o.still RA.out
      ⟨k.cell 1, k.cell 2, k.cell 3, k.cell 4, k.cell 5, k.cell 6, k.cell 7, k.cell 8, k.cell 9⟩)
    generalize r.pl.any (fun a => !(a == 0)) = tv at *
    generalize opQ r 0 = u0 at *
    generalize opQ r 1 = u1 at *
    generalize opQ r 2 = u2 at *
    generalize opQ r 3 = u3 at *
    generalize opQ r 4 = u4 at *
    generalize opQ r 5 = u5 at *
    generalize opQ r 6 = u6 at *
    generalize opQ r 7 = u7 at *
    generalize decide (0 < r.pl.length) = v0 at *
    generalize decide (1 < r.pl.length) = v1 at *
    generalize decide (2 < r.pl.length) = v2 at *
    generalize decide (3 < r.pl.length) = v3 at *
    generalize decide (4 < r.pl.length) = v4 at *
    generalize decide (5 < r.pl.length) = v5 at *
    generalize decide (6 < r.pl.length) = v6 at *
    generalize decide (7 < r.pl.length) = v7 at *
    generalize r.pl.length = n at *
    go_enter Try.func15, Try.ntmps15
    go_upto_region 2 with fail
    have CU := Lib.hid (fun i : After w => Calls.after i (UT i.val))
    have b1 : ∀ i : After w, i.val.cell? ⟨a, 1, none⟩ = some (.int .i64 n) := fun i => (FA.out i.val i.only).1
    have b2 : ∀ i : After w, i.val.cell? ⟨a, 2, none⟩ = some (.bool u0) := fun i => (FA.out i.val i.only).2.1
    have b3 : ∀ i : After w, i.val.cell? ⟨a, 3, none⟩ = some (.bool u1) := fun i => (FA.out i.val i.only).2.2.1
    have b4 : ∀ i : After w, i.val.cell? ⟨a, 4, none⟩ = some (.bool u2) := fun i => (FA.out i.val i.only).2.2.2.1
    have b5 : ∀ i : After w, i.val.cell? ⟨a, 5, none⟩ = some (.bool u3) := fun i => (FA.out i.val i.only).2.2.2.2.1
    have b6 : ∀ i : After w, i.val.cell? ⟨a, 6, none⟩ = some (.bool u4) := fun i => (FA.out i.val i.only).2.2.2.2.2.1
    have b7 : ∀ i : After w, i.val.cell? ⟨a, 7, none⟩ = some (.bool u5) := fun i => (FA.out i.val i.only).2.2.2.2.2.2.1
    have b8' : ∀ i : After w, i.val.cell? ⟨a, 8, none⟩ = some (.bool u6) := fun i => (FA.out i.val i.only).2.2.2.2.2.2.2.1
    have b9 : ∀ i : After w, i.val.cell? ⟨a, 9, none⟩ = some (.bool u7) := fun i => (FA.out i.val i.only).2.2.2.2.2.2.2.2
    replace UT := Lib.hid UT
    refine wp_region_after (w0 := w) (by kernel_rfl) (by kernel_rfl) (Only.refl _ _) ?_
    repeat (go_big_quiet_step (first | (with_reducible exact CU.out _)))
    refine wpQuiet_nil ?_
    intro w4 hw'
    obtain ⟨i4, e4⟩ := hw'
    have o4 := i4.only
    rw [← e4] at o4
    clear e4 i4 b1 b2 b3 b4 b5 b6 b7 b8' b9 CU
    have O4 := Lib.hid o4
    clear o4
    go_wp2_with fail
    go_ret
    exact ⟨by rw [KJ.out]; rfl, O4.out⟩
theorem ttake_any (w : World) (h : TW w p c X room L t) :
    Calls Try.prog 20 #[.pointer (some ⟨p, 0, none⟩)] w fun e w' => ∃ v, e = .returned v ∧ ∃ (c' : Nat → Nat) (X' : Loc17), TW w' p c' X' room L ⟨t.rs, []⟩ ∧ AR w' (fun g => c g ≠ 0 ∧ c' g = 0) v t.kept ∧ (∀ g, c' g ≠ 0 → c g ≠ 0) ∧ Only (fun g => c g ≠ 0) w w' := by
  have q2 : w.cell? ⟨p, 2, none⟩ = some X.v := h.row.cell 2
  have f2 : w.frozen? ⟨p, 2, none⟩ = false := h.row.frozen 2
  obtain ⟨w1, hw1⟩ : ∃ w1, w1 = w.setCell ⟨p, 2, none⟩ (.slice none 0 0) := ⟨_, rfl⟩
  have o1 : Only (fun g => g = p) w w1 := by rw [hw1]; exact (Only.refl (fun g => g = p) w).into rfl _ _
  have r1 : Row w1 p 59 #[.int .i64 room, .map (some X.b), .slice none 0 0] := by rw [hw1]; exact h.row.put 2 _
  have np : ∀ g, c g ≠ 1 → ¬ g = p := fun g hg q => hg (by rw [q]; exact h.cp)
  have cc : ∀ g, c g ≠ 0 → c g ≠ 3 → c g ≠ 4 → (if c g = 3 ∨ c g = 4 then 0 else c g) = c g := fun g _ h3 h4 => if_neg (fun q => by rcases q with q | q <;> contradiction)
  have T1 : TW w1 p (fun g => if c g = 3 ∨ c g = 4 then 0 else c g) { X with v := .slice none 0 0, ks := [] } room L ⟨t.rs, []⟩ := by
    refine { row := r1, cp := ?_, mp := h.mp.keep o1 (np _ (by rw [h.cb]; decide)), cb := ?_, own := Owns.start _ _ _ _ _, co := fun g hg => (by cases hg), kept := KeptAt.nil _ _, rq := fun r hr => ⟨o1.row (h.rq r hr).1 (np _ (by rw [(h.rq r hr).2]; omega)), ?_⟩, lt := fun g hg => ?_, good := h.good, kl := Nat.zero_le _ }
    · show (if c p = 3 ∨ c p = 4 then 0 else c p) = 1
      rw [cc _ (by rw [h.cp]; decide) (by rw [h.cp]; decide) (by rw [h.cp]; decide)]; exact h.cp
    · show (if c X.b = 3 ∨ c X.b = 4 then 0 else c X.b) = 2
      rw [cc _ (by rw [h.cb]; decide) (by rw [h.cb]; decide) (by rw [h.cb]; decide)]; exact h.cb
    · show (if c _ = 3 ∨ c _ = 4 then 0 else c _) = _
      rw [cc _ (by rw [(h.rq r hr).2]; omega) (by rw [(h.rq r hr).2]; omega) (by rw [(h.rq r hr).2]; omega)]; exact (h.rq r hr).2
    · refine Nat.lt_of_lt_of_le (h.lt g (fun q => hg ?_)) o1.size
      rw [q]; rfl
  have A0 : AR w (fun g => c g = 3 ∨ c g = 4) X.v t.kept := AR.of_owns h.own (h.kept.more (fun g _ q => .inr q)) (fun g hg => .inl (h.co g hg))
  have A1 : AR w1 (fun g => c g ≠ 0 ∧ (if c g = 3 ∨ c g = 4 then 0 else c g) = 0) X.v t.kept := by
    refine (A0.keep o1 (fun g hg => np g (by rcases hg with q | q <;> (rw [q]; decide)))).more (fun g _ q => ⟨?_, if_pos q⟩)
    rcases q with q | q <;> (rw [q]; decide)
  obtain ⟨va, vc, hv⟩ := owns_form h.own
  have FIN := Lib.hid T1
  have FA := Lib.hid A1
  have FO := Lib.hid (o1.more (S' := fun g => c g ≠ 0) (fun i _ q => by rw [q, h.cp]; decide))
  have FC := Lib.hid (show ∀ g, (if c g = 3 ∨ c g = 4 then 0 else c g) ≠ 0 → c g ≠ 0 from fun g hg q => hg (by rw [q]; rfl))
  have HV := Lib.hid hv
  rw [hv] at q2
  have lp := h.row.lt
  clear h o1 r1 np cc T1 A0 A1 hv
  go_enter Try.func20, Try.ntmps20
  go_wp2_with fail
  rw [← hw1]
  go_ret
  exact ⟨_, rfl, _, _, FIN.out, (by rw [← HV.out]; exact FA.out), FC.out, FO.out⟩
theorem tcancel_any (x : Int) (w : World) (h : TW w p c X room L t) (wx : (Lit.int .i64 x).wf = true) (hL : L < 1000000) :
    Calls Try.prog 25 #[.pointer (some ⟨p, 0, none⟩), .int .i64 x] w fun e w' => e = .returned (.int .i64 (cancelI t.rs x)) ∧ TWto w p c room (L + 1) (cancelS t x) w' := by
  have LK := h.look wx
  have q1 : w.cell? ⟨p, 1, none⟩ = some (.map (some X.b)) := h.row.cell 1
  have CI := Lib.hid (show cancelI t.rs x = if hasQ t.rs x then 0 else 3 from rfl)
  have CS := Lib.hid (show cancelS t x = if hasQ t.rs x then cutT t x ⟨x, 8, []⟩ else t from rfl)
  have H := Lib.hid h
  cases hf : findQ t.rs x with
  | none =>
    rw [hf] at LK
    rw [find_none hf] at CI CS
    change (Instr.lookup 57 (.map (some X.b)) (.int .i64 x) false).run Try.prog w = .ok (.pointer none) w at LK
    clear hf h wx
    go_enter Try.func25, Try.ntmps25
    go_wp2_with fail
    go_ret
    exact ⟨by rw [CI.out]; rfl, by rw [CS.out]; exact TW.same H.out (Only.refl _ _)⟩
  | some r =>
    rw [hf] at LK
    rw [(find_some hf).2.2] at CI CS
    change (Instr.lookup 57 (.map (some X.b)) (.int .i64 x) false).run Try.prog w = .ok (.pointer (some ⟨X.A r.id, 0, none⟩)) w at LK
    generalize X.A r.id = a at LK
    have TE := Lib.hid (tend_any x 8 (.slice none 0 0) [] (fun _ => False) w (h.less x) (ent_cut _ _ _) wx (VR.none _ _) (fun g hg => hg.elim) hL)
    clear hf h wx
    go_enter Try.func25, Try.ntmps25
    go_wp2_with fail
    (with_reducible refine TE.out.mono ?_)
    rintro e w2 ⟨rfl, ⟨c', X', h2, g2⟩, o2⟩
    go_wp2_with fail
    go_ret
    refine ⟨by rw [CI.out]; rfl, ?_⟩
    rw [CS.out]
    refine ⟨⟨c', X', h2, fun g hg => ?_⟩, o2⟩
    rcases g2 g hg with q | q | q
    · exact .inl q
    · exact q.elim
    · exact .inr q
end
end Go.Proofs.Ytoflkeedfgnkhaa
