/- Package req: a request is opened. -/
import Derived.Test.YtoflkeedfgnkhaaSh17
import Derived.Deep.RegionHeld3
import Derived.Deep.RegionWith
namespace Go.Proofs.Ytoflkeedfgnkhaa
open Go.RowKit Go.Maps
set_option linter.unusedVariables false
set_option maxRecDepth 100000

def setI {α : Type} (f : Int → α) (x : Int) (a : α) : Int → α := fun y => if y = x then a else f y
def setN (f : Nat → Nat) (x : Nat) (a : Nat) : Nat → Nat := fun y => if y = x then a else f y
theorem op_new {x k : Int} {m : Nat} (j : Nat) : opQ (newQ x k m) j = decide (j < m) := by
  unfold opQ newQ
  simp only [Int.toNat_natCast]
  rw [List.getElem?_replicate]
  by_cases h : j < m
  · rw [if_pos h, decide_eq_true h]; rfl
  · rw [if_neg h, decide_eq_false h]; rfl
theorem lost_new {x k : Int} {m : Nat} : lostQ (newQ x k m) = false := by
  unfold lostQ newQ
  rw [List.any_eq_false]
  intro a ha
  rw [List.eq_of_mem_replicate ha]
  decide
theorem vl_new {x k : Int} {m : Nat} (j : Nat) : vlQ (newQ x k m) j = 0 := by
  unfold vlQ newQ
  simp only [Int.toNat_natCast]
  rw [List.getD_eq_getElem?_getD, List.getElem?_replicate]
  split <;> rfl
theorem cells_new {x k : Int} {m : Nat} : (newQ x k m).cells = rqC k m (opQ (newQ x k m)) false (fun _ => 0) := by
  unfold Rq.cells
  rw [show (newQ x k m).kind = k from rfl, show (newQ x k m).pl.length = m from by unfold newQ; simp]
  exact rqC_same (fun j => rfl) lost_new vl_new
section
variable {w w' : World} {p : Nat} {c : Nat → Nat} {X : Loc17} {room L : Nat} {es : List Ent} {t : Tq}
theorem TB.born (h : TB w p c X room L es t) {x k n : Int} (hm : mayO x k n) (wx : (Lit.int .i64 x).wf = true) (hx : hasQ t.rs x = false) (hl : t.rs.length < room) {g : Nat} (o : Only none_ w w') (hg : w.heap.size ≤ g) (r : Row w' g 75 (newQ x k n).cells) :
    TB w' p (setN c g (10 + x.toNat)) { X with A := setI X.A x g } room L es ⟨t.rs ++ [newQ x k n], t.kept⟩ := by
  have q := h.still o
  have c0 := h.zero hg
  have cc : ∀ i, c i ≠ 0 → setN c g (10 + x.toNat) i = c i := fun i hi => if_neg (fun e => hi (by rw [e]; exact c0))
  have hne : ∀ r ∈ t.rs, r.id ≠ x := fun r hr e => by
    rw [hasQ_iff.2 ⟨r, hr, e⟩] at hx; cases hx
  refine { row := q.row, cp := (by rw [cc _ (by rw [h.cp]; decide)]; exact h.cp), mp := q.mp, cb := (by show setN c g _ X.b = 2; rw [cc _ (by rw [h.cb]; decide)]; exact h.cb), own := q.own, co := fun i hi => (by rw [cc _ (by rw [h.co i hi]; decide)]; exact h.co i hi), kept := q.kept.more (fun i _ hi => (by have e : c i = 4 := hi; rw [cc _ (by rw [e]; decide)]; exact e)),
           rq := fun s hs => ?_, lt := fun i hi => ?_, good := h.good.more hm wx hx hl, kl := h.kl }
  · rcases List.mem_append.1 hs with hs | hs
    · show Row w' (setI X.A x g s.id) _ _ ∧ setN c g _ (setI X.A x g s.id) = _
      unfold setI
      rw [if_neg (hne s hs), cc _ (by rw [(h.rq s hs).2]; omega)]
      exact q.rq s hs
    · rw [List.mem_singleton.1 hs]
      show Row w' (setI X.A x g x) _ _ ∧ setN c g _ (setI X.A x g x) = 10 + x.toNat
      unfold setI setN
      rw [if_pos rfl, if_pos rfl]
      exact ⟨r, rfl⟩
  · unfold setN at hi
    by_cases e : i = g
    · rw [e]; exact r.lt
    · rw [if_neg e] at hi
      exact q.lt i hi
theorem ent_more (A : Int → Nat) (rs : List Rq) (x k n : Int) (g : Nat) (h : hasQ rs x = false) : rs.map (ent17 A) ++ [(x, ptr17 g)] = (rs ++ [newQ x k n]).map (ent17 (setI A x g)) := by
  have hne : ∀ r ∈ rs, r.id ≠ x := fun r hr e => by
    rw [hasQ_iff.2 ⟨r, hr, e⟩] at h; cases h
  rw [List.map_append]
  congr 1
  · apply List.map_congr_left
    intro s hs
    unfold ent17 setI
    rw [if_neg (hne s hs)]
  · unfold ent17 setI newQ
    simp
set_option maxHeartbeats 2000000 in
theorem topen_any (x k n : Int) (w : World) (h : TW w p c X room L t) (wx : (Lit.int .i64 x).wf = true) :
    Calls Try.prog 22 #[.pointer (some ⟨p, 0, none⟩), .int .i64 x, .int .i64 k, .int .i64 n] w fun e w' => e = .returned (.int .i64 (openI room t.rs x k n)) ∧ TWto w p c room (L + 1) ⟨openS room t.rs x k n, t.kept⟩ w' := by
  have OI := Lib.hid (show openI room t.rs x k n = if mayO x k n then (if hasQ t.rs x then 4 else if room ≤ t.rs.length then 2 else 0) else 1 from rfl)
  have H := Lib.hid h
  have NO := Lib.hid (fun (q : openI room t.rs x k n ≠ 0) => show openS room t.rs x k n = t.rs from if_neg q)
  by_cases hm : mayO x k n
  · obtain ⟨m1, m2, m3, m4⟩ := id hm
    have t1 : decide (x < 1) = false := decide_eq_false (by omega)
    have t4 : decide (n < 1) = false := decide_eq_false (by omega)
    have t5 : decide (8 < n) = false := decide_eq_false (by omega)
    have LK := h.look wx
    have q1 : w.cell? ⟨p, 1, none⟩ = some (.map (some X.b)) := h.row.cell 1
    have HM := Lib.hid hm
    have OI1 := Lib.hid (show openI room t.rs x k n = if hasQ t.rs x then 4 else if room ≤ t.rs.length then 2 else 0 from by rw [OI.out, if_pos hm])
    have KK : k = 1 ∨ k = 2 := m2
    have kd : (k != 1) = false ∨ (k != 1) = true ∧ (k != 2) = false := by
      rcases m2 with q | q
      · exact .inl (by rw [q]; rfl)
      · exact .inr ⟨by rw [q]; rfl, by rw [q]; rfl⟩
    clear OI hm m1 m2 KK
    cases hf : findQ t.rs x with
    | some r =>
      rw [hf] at LK
      have C4 := Lib.hid (show openI room t.rs x k n = 4 from by rw [OI1.out, (find_some hf).2.2]; rfl)
      have S4 := Lib.hid (NO.out (by rw [C4.out]; decide))
      change (Instr.lookup 57 (.map (some X.b)) (.int .i64 x) false).run Try.prog w = .ok (.pointer (some ⟨X.A r.id, 0, none⟩)) w at LK
      generalize X.A r.id = a at LK
      clear hf m3 m4 h wx OI1 NO
      rcases kd with k1 | ⟨k1, k2⟩
      all_goals
        go_enter Try.func22, Try.ntmps22
        go_wp2_with fail
        go_ret
        exact ⟨by rw [C4.out]; rfl, by rw [S4.out]; exact TW.same H.out (Only.refl _ _)⟩
    | none =>
      rw [hf] at LK
      change (Instr.lookup 57 (.map (some X.b)) (.int .i64 x) false).run Try.prog w = .ok (.pointer none) w at LK
      have hx := find_none hf
      have LN := h.still ((Only.refl none_ w).drew) |>.len 3
      have d1 : w.drew.cell? ⟨p, 1, none⟩ = some (.map (some X.b)) := h.row.cell 1
      have d0 : w.drew.cell? ⟨p, 0, none⟩ = some (.int .i64 room) := h.row.cell 0
      have LE := h.good.len
      by_cases hl : room ≤ t.rs.length
      · have C2 := Lib.hid (show openI room t.rs x k n = 2 from by rw [OI1.out, hx, if_neg (by decide), if_pos hl])
        have S2 := Lib.hid (NO.out (by rw [C2.out]; decide))
        have tl : ((t.rs.length : Int) == (room : Int)) = true := by rw [beq_iff_eq]; omega
        clear hf m3 m4 h wx OI1 NO hx hl LE
        rcases kd with k1 | ⟨k1, k2⟩
        all_goals
          go_enter Try.func22, Try.ntmps22
          go_upto_region 5 with fail
          go_region
          go_wp2_with fail
          go_ret
          exact ⟨by rw [C2.out]; rfl, by rw [S2.out]; exact TW.same H.out ((Only.refl _ _).drew)⟩
      · obtain ⟨m, rfl⟩ := Int.eq_ofNat_of_zero_le (show 0 ≤ n by omega)
        have C0 := Lib.hid (show openI room t.rs x k m = 0 from by rw [OI1.out, hx, if_neg (by decide), if_neg hl])
        have S0 := Lib.hid (show openS room t.rs x k m = t.rs ++ [newQ x k m] from if_pos C0.out)
        have tl : ((t.rs.length : Int) == (room : Int)) = false := by rw [beq_eq_false_iff_ne]; omega
        have m8 : m ≤ 8 := by omega
        have HLT := Lib.hid (show t.rs.length < room from by omega)
        have HX := Lib.hid hx
        have WX := Lib.hid wx
        have HI := Lib.hid (show room ≤ 16 from H.out.good.high)
        have UT : ∀ w : World, Calls Try.prog 32 #[.int .i64 m] w fun e w' => e = .returned (.agg (b8 (opQ (newQ x k m)))) ∧ Only none_ w w' := fun w => by
          have := untouched_any m w m8
          rw [b8_same (g := opQ (newQ x k m)) (fun j _ => (op_new j).symm)] at this
          exact this
        -- the new block, and the map
        have ST : ∀ w2 : World, Only none_ w w2 → ∃ w5, (Instr.mapUpdate 57 (.map (some X.b)) (.int .i64 x) (.pointer (some ⟨w2.heap.size, 0, none⟩))).run Try.prog (w2.alloc (.cells (rqC k m (opQ (newQ x k m)) false (fun _ => 0)) 75)) = .ok () w5 ∧
            TWto w p c room (L + 1) ⟨t.rs ++ [newQ x k m], t.kept⟩ w5 ∧ w5.cell? ⟨p, 1, none⟩ = some (.map (some X.b)) ∧ (w2.alloc (.cells (rqC k m (opQ (newQ x k m)) false (fun _ => 0)) 75)).cell? ⟨p, 1, none⟩ = some (.map (some X.b)) := fun w2 o2 => by
          have o3 : Only none_ w2 (w2.alloc (.cells (rqC k m (opQ (newQ x k m)) false (fun _ => 0)) 75)) := (Only.refl _ _).alloc _
          have r3 : Row (w2.alloc (.cells (rqC k m (opQ (newQ x k m)) false (fun _ => 0)) 75)) w2.heap.size 75 (newQ x k m).cells := by rw [cells_new]; exact Row.fresh _ _ _
          have e3 := H.out.born HM.out WX.out HX.out HLT.out (o2.same o3) o2.size r3
          obtain ⟨w5, run5, m5, o5⟩ := e3.mp.store Try.underlying57 (by rw [List.length_map]; have := HLT.out; have := HI.out; omega) x (ptr17 w2.heap.size) WX.out (by rw [H.out.has]; exact HX.out)
          have e5 := e3.mapped m5 o5
          rw [ent_more X.A t.rs x k m w2.heap.size HX.out] at e5
          refine ⟨w5, run5, ⟨⟨_, _, e5.up (Nat.le_succ _), fun g hg => ?_⟩, (o2.same o3).then_ (o5.more (fun i _ e => by rw [e]; show c X.b ≠ 0; rw [H.out.cb]; decide))⟩, e5.row.cell 1, e3.row.cell 1⟩
          unfold setN at hg
          by_cases q : g = w2.heap.size
          · exact .inr (by rw [q]; exact o2.size)
          · rw [if_neg q] at hg; exact .inl hg
        unfold b8 at UT
        unfold rqC at ST
        have QQ := Lib.hid (fun (w2 : World) (o : Only none_ w w2) => show w2.cell? ⟨p, 1, none⟩ = some (.map (some X.b)) from (H.out.still o).row.cell 1)
        clear hf m3 m4 h wx OI1 NO hx hl LE
        dsimp only at ST
        generalize opQ (newQ x k m) 0 = u0 at *
        generalize opQ (newQ x k m) 1 = u1 at *
        generalize opQ (newQ x k m) 2 = u2 at *
        generalize opQ (newQ x k m) 3 = u3 at *
        generalize opQ (newQ x k m) 4 = u4 at *
        generalize opQ (newQ x k m) 5 = u5 at *
        generalize opQ (newQ x k m) 6 = u6 at *
        generalize opQ (newQ x k m) 7 = u7 at *
        replace UT := Lib.hid UT
        replace ST := Lib.hid ST
        rcases kd with k1 | ⟨k1, k2⟩
        all_goals
          go_enter Try.func22, Try.ntmps22
          go_upto_region 5 with fail
          go_region
          have z1 : w.drew.drew.cell? ⟨p, 1, none⟩ = some (.map (some X.b)) := d1
          clear LK LN d0 d1
          go_upto_region 7 with fail
          go_region_held3 (fun w' => w'.cell? ⟨p, 1, none⟩ = some (.map (some X.b)))
            (first
              | (with_reducible exact Y5.out)
              | (with_reducible exact Y3.out)
              | (with_reducible exact Y2.out)
              | (with_reducible exact z1)
              | fail)
            (first
              | (go_at_call 32; (with_reducible refine (UT.out _).mono ?_); rintro e w2 ⟨rfl, o2⟩; obtain ⟨w5, run5, h5, y5, y3⟩ := ST.out w2 (((Only.refl none_ w).drew.drew).same o2); have Y2 := Lib.hid (QQ.out w2 (((Only.refl none_ w).drew.drew).same o2)); have H5 := Lib.hid h5; have Y5 := Lib.hid y5; have Y3 := Lib.hid y3; clear h5 y5 y3)
              | fail)
          all_goals
            go_wp2_with fail
            go_ret
            exact ⟨by rw [C0.out]; rfl, by rw [S0.out]; exact H5.out⟩
  · have C1 := Lib.hid (show openI room t.rs x k n = 1 from by rw [OI.out, if_neg hm])
    have S1 := Lib.hid (NO.out (by rw [C1.out]; decide))
    have ways : decide (x < 1) = true ∨ (decide (x < 1) = false ∧ ((k != 1) = true ∧ (k != 2) = true ∨ (((k != 1) = false ∨ (k != 1) = true ∧ (k != 2) = false) ∧ (decide (n < 1) = true ∨ (decide (n < 1) = false ∧ decide (8 < n) = true))))) := by
      unfold mayO at hm
      by_cases a1 : x < 1
      · exact .inl (decide_eq_true a1)
      · refine .inr ⟨decide_eq_false a1, ?_⟩
        by_cases a2 : k = 1 ∨ k = 2
        · refine .inr ⟨?_, ?_⟩
          · rcases a2 with q | q
            · exact .inl (by rw [q]; rfl)
            · exact .inr ⟨by rw [q]; rfl, by rw [q]; rfl⟩
          · by_cases a3 : n < 1
            · exact .inl (decide_eq_true a3)
            · exact .inr ⟨decide_eq_false a3, decide_eq_true (by omega)⟩
        · exact .inl ⟨by simp; omega, by simp; omega⟩
    clear hm OI h wx NO
    rcases ways with a1 | ⟨a1, ⟨a2, a3⟩ | ⟨a2 | ⟨a2, a3⟩, a4 | ⟨a4, a5⟩⟩⟩
    all_goals
      go_enter Try.func22, Try.ntmps22
      go_wp2_with fail
      go_ret
      exact ⟨by rw [C1.out]; rfl, by rw [S1.out]; exact TW.same H.out (Only.refl _ _)⟩
end
end Go.Proofs.Ytoflkeedfgnkhaa
