/- What awake asks: answers that the document fixes. -/
import Derived.Test.YtobeoknaanbakaaSr
import Derived.Test.YtobeoknaanbakaaRkB
import Derived.Test.YtobeoknaanbakaaAr
import Derived.Deep.RegionHeld3
namespace Go.Proofs.Ytobeoknaanbakaa
open Go.RowKit
set_option linter.unusedVariables false

theorem reads_row {w : World} {g : Nat} {l : List Int} (h : Row w g 3 (l.map (Value.int .i64)).toArray) : Reads w (.slice (some ⟨g, 0, none⟩) l.length l.length) l := by
  refine ⟨_, l.length, rfl, fun i x hx => ⟨g, 0, rfl, ?_⟩⟩
  rw [Nat.zero_add, h.cell, List.getElem?_toArray, List.getElem?_map, hx]
  rfl
theorem reads_nil (w : World) : Reads w (.slice none 0 0) [] := ⟨none, 0, rfl, fun i x hx => by simp at hx⟩
theorem readsR_row {w : World} {g : Nat} {l : List Rn} (h : Row w g 27 (flat Rn.cells l)) : ReadsR w (.slice (some ⟨g, 0, none⟩) l.length l.length) l := by
  refine ⟨_, l.length, rfl, fun i r hx => ⟨g, 0, rfl, ?_, ?_⟩⟩
  · rw [Nat.zero_add, h.cell]
    exact flat_get rn2 hx (j := 0) (by decide)
  · rw [Nat.zero_add, h.cell]
    exact flat_get rn2 hx (j := 1) (by decide)
theorem k_around (l m : List Int) (b most room : Int) (v u : Value) (w : World) (f c q : Int) (hv : Reads w v l) (hu : Reads w u m) (hl : l.length ≤ 1000000) (hm : m.length ≤ 1000000) (hr : room ≤ 9223372036854775807)
    (h1 : aroundR l m b most room = ⟨f, c⟩) (h2 : aroundC l m b most room = q) :
    Calls Try.prog 8 #[v, u, .int .i64 b, .int .i64 most, .int .i64 room] w fun e w' => e = .returned (.tuple #[.agg #[.int .i64 f, .int .i64 c], .int .i64 q]) ∧ Only none_ w w' := by
  have := around_any v u l m b most room w hv hu hl hm hr
  rw [h1, h2] at this
  exact this
theorem k1 (g : Nat) (w : World) (h : Row w g 3 #[.int .i64 3, .int .i64 4, .int .i64 5, .int .i64 7]) :
    Calls Try.prog 8 #[.slice (some ⟨g, 0, none⟩) 4 4, .slice none 0 0, .int .i64 4, .int .i64 3, .int .i64 0] w fun e w' => e = .returned (.tuple #[.agg #[.int .i64 3, .int .i64 3], .int .i64 0]) ∧ Only none_ w w' :=
  k_around [3, 4, 5, 7] [] 4 3 0 _ _ w 3 3 0 (reads_row (l := [3, 4, 5, 7]) h) (reads_nil w) (by decide) (by decide) (by decide) (by decide +kernel) (by decide +kernel)
theorem k2 (g g' : Nat) (w : World) (h : Row w g 3 #[.int .i64 3, .int .i64 4, .int .i64 5, .int .i64 7]) (h' : Row w g' 3 #[.int .i64 5]) :
    Calls Try.prog 8 #[.slice (some ⟨g, 0, none⟩) 4 4, .slice (some ⟨g', 0, none⟩) 1 1, .int .i64 4, .int .i64 2, .int .i64 0] w fun e w' => e = .returned (.tuple #[.agg #[.int .i64 3, .int .i64 2], .int .i64 0]) ∧ Only none_ w w' :=
  k_around [3, 4, 5, 7] [5] 4 2 0 _ _ w 3 2 0 (reads_row (l := [3, 4, 5, 7]) h) (reads_row (l := [5]) h') (by decide) (by decide) (by decide) (by decide +kernel) (by decide +kernel)
theorem k3 (g g' : Nat) (w : World) (h : Row w g 3 #[.int .i64 3]) (h' : Row w g' 3 #[.int .i64 3]) :
    Calls Try.prog 8 #[.slice (some ⟨g, 0, none⟩) 1 1, .slice (some ⟨g', 0, none⟩) 1 1, .int .i64 3, .int .i64 2, .int .i64 0] w fun e w' => e = .returned (.tuple #[.agg #[.int .i64 0, .int .i64 0], .int .i64 2]) ∧ Only none_ w w' :=
  k_around [3] [3] 3 2 0 _ _ w 0 0 2 (reads_row (l := [3]) h) (reads_row (l := [3]) h') (by decide) (by decide) (by decide) (by decide +kernel) (by decide +kernel)
theorem k4 (g : Nat) (w : World) (h : Row w g 3 #[.int .i64 7, .int .i64 3, .int .i64 1, .int .i64 2]) :
    Calls Try.prog 10 #[.slice (some ⟨g, 0, none⟩) 4 4, .int .i64 2] w fun e w' => ∃ al cl, e = .returned (.tuple #[.slice al 3 cl, .int .i64 0]) ∧ ReadsR w' (.slice al 3 cl) [⟨1, 2⟩, ⟨3, 1⟩, ⟨7, 1⟩] ∧ Only none_ w w' := by
  have := cover_any _ [7, 3, 1, 2] 2 w (reads_row (l := [7, 3, 1, 2]) h) (by decide)
  rw [show coverC [7, 3, 1, 2] 2 = 0 from by decide +kernel, show coverL [7, 3, 1, 2] 2 = [⟨1, 2⟩, ⟨3, 1⟩, ⟨7, 1⟩] from by decide +kernel] at this
  exact this.mono (fun e w' ⟨v', e1, e2, e3⟩ => by
    obtain ⟨al, cl, hv, hc⟩ := ReadsR.of_owns e2
    subst hv
    exact ⟨al, cl, e1, ⟨al, cl, rfl, hc⟩, e3⟩)
theorem k5 (g : Nat) (w : World) (h : Row w g 3 #[.int .i64 256]) :
    Calls Try.prog 10 #[.slice (some ⟨g, 0, none⟩) 1 1, .int .i64 2] w fun e w' => ∃ v', e = .returned (.tuple #[v', .int .i64 1]) ∧ Only none_ w w' := by
  have := cover_any _ [256] 2 w (reads_row (l := [256]) h) (by decide)
  rw [show coverC [256] 2 = 1 from by decide +kernel] at this
  exact this.mono (fun e w' ⟨v', e1, e2, e3⟩ => ⟨v', e1, e3⟩)
set_option maxHeartbeats 1000000 in
theorem awake_any (w : World) : Calls Try.prog 7 #[] w fun e w' => e = .returned (.bool true) ∧ Only none_ w w' := by
  go_enter Try.func7, Try.ntmps7
  go_wp2_with fail
  have O1 := Lib.hid ((Only.refl none_ w).alloc (.cells #[.int .i64 3, .int .i64 4, .int .i64 5, .int .i64 7] 3))
  (with_reducible refine (k1 _ _ (Row.fresh _ _ _)).mono ?_)
  rintro e w1 ⟨rfl, o⟩
  have O2 := Lib.hid (O1.out.same o)
  clear o O1
  go_wp2_with fail
  obtain ⟨q0, q1, q2, q3⟩ := three_new w1 27 3 3 #[.int .i64 3, .int .i64 3] #[.int .i64 3, .int .i64 4, .int .i64 5, .int .i64 7] #[.int .i64 5]
  (with_reducible refine (k2 _ _ _ q1 q2).mono ?_)
  rintro e w3 ⟨rfl, o⟩
  have A4 := Lib.hid (o.still q0)
  have O5 := Lib.hid ((O2.out.same q3).same o)
  clear o q0 q1 q2 q3 O2
  revert A4
  generalize w1.heap.size = ga
  intro A4
  go_wp2_with fail
  obtain ⟨q0, q1, q2, q3⟩ := three_new w3 27 3 3 #[.int .i64 3, .int .i64 2] #[.int .i64 3] #[.int .i64 3]
  (with_reducible refine (k3 _ _ _ q1 q2).mono ?_)
  rintro e w5 ⟨rfl, o⟩
  have A7 := Lib.hid (o.still (q3.still A4.out))
  have B7 := Lib.hid (o.still q0)
  have O8 := Lib.hid ((O5.out.same q3).same o)
  clear o q0 q1 q2 q3 O5 A4
  revert B7
  generalize w3.heap.size = gb
  intro B7
  go_wp2_with fail
  have q1 := Row.fresh (w5.alloc (.cells #[.int .i64 0, .int .i64 0] 27)) 3 #[.int .i64 7, .int .i64 3, .int .i64 1, .int .i64 2]
  rw [World.size_alloc] at q1
  have A8 := Lib.hid ((A7.out.alloc (.cells #[.int .i64 0, .int .i64 0] 27)).alloc (.cells #[.int .i64 7, .int .i64 3, .int .i64 1, .int .i64 2] 3))
  have B8 := Lib.hid ((B7.out.alloc (.cells #[.int .i64 0, .int .i64 0] 27)).alloc (.cells #[.int .i64 7, .int .i64 3, .int .i64 1, .int .i64 2] 3))
  have O9 := Lib.hid ((O8.out.alloc (.cells #[.int .i64 0, .int .i64 0] 27)).alloc (.cells #[.int .i64 7, .int .i64 3, .int .i64 1, .int .i64 2] 3))
  (with_reducible refine (k4 _ _ q1).mono ?_)
  rintro e w7 ⟨al, cl, rfl, hl, o⟩
  have A9 := Lib.hid ((o.still A8.out).alloc (.cells #[.int .i64 256] 3))
  have B9 := Lib.hid ((o.still B8.out).alloc (.cells #[.int .i64 256] 3))
  have O10 := Lib.hid ((O9.out.same o).alloc (.cells #[.int .i64 256] 3))
  have VL := Lib.hid (hl.still ((Only.refl none_ w7).alloc (.cells #[.int .i64 256] 3)))
  clear o hl A7 B7 O8 A8 B8 O9 q1
  go_wp2_with fail
  (with_reducible refine (k5 _ _ (Row.fresh _ _ _)).mono ?_)
  rintro e w8 ⟨vz, rfl, o⟩
  have A10 := Lib.hid (o.still A9.out)
  have B10 := Lib.hid (o.still B9.out)
  have O11 := Lib.hid (O10.out.same o)
  have VM := Lib.hid (VL.out.still o)
  clear o A9 B9 O10 VL
  go_wp2_with fail
  have VN := Lib.hid VM.out
  clear VM
  have NF := Lib.hid (Only.refl none_ w8)
  have ND := Lib.hid (Only.refl none_ w8).drew
  have KK := Lib.hid (fun (w' : World) (o : Only none_ w8 w') => And.intro (o.still A10.out).two (o.still B10.out).two)
  obtain ⟨⟨a0, a1⟩, b0, b1⟩ := KK.out _ ND.out
  have er1 := fun w => eq_rn ⟨3, 3⟩ ⟨3, 3⟩ w
  have er2 := fun w => eq_rn ⟨3, 2⟩ ⟨3, 2⟩ w
  simp only [decide_true] at er1 er2
  have SA := Lib.hid (fun (g : Nat) (w' : World) (o : Only none_ w8 w') (h : Row w' g 27 #[.int .i64 1, .int .i64 2, .int .i64 3, .int .i64 1, .int .i64 7, .int .i64 1]) =>
    show Calls Try.prog 12 #[.slice al 3 cl, .slice (some ⟨g, 0, none⟩) 3 3] w' (fun e w'' => e = .returned (.bool true) ∧ Only none_ w' w'') from
      same_any _ _ [⟨1, 2⟩, ⟨3, 1⟩, ⟨7, 1⟩] [⟨1, 2⟩, ⟨3, 1⟩, ⟨7, 1⟩] w' (VN.out.still o) (readsR_row (l := [⟨1, 2⟩, ⟨3, 1⟩, ⟨7, 1⟩]) h) (by decide) (by decide))
  have MA := Lib.hid (fun (w' : World) => show Calls Try.prog 13 #[.agg #[.int .i64 3, .int .i64 3], .agg #[.int .i64 3, .int .i64 2]] w' (fun e w'' => e = .returned (.agg #[.int .i64 3, .int .i64 2]) ∧ Only none_ w' w'') from by
    have := meet_any ⟨3, 3⟩ ⟨3, 2⟩ w'
    rw [show meet ⟨3, 3⟩ ⟨3, 2⟩ = ⟨3, 2⟩ from by decide +kernel] at this
    exact this)
  have BA := Lib.hid (fun (w' : World) => show Calls Try.prog 16 #[.agg #[.int .i64 3, .int .i64 2]] w' (fun e w'' => ∃ v, e = .returned v ∧ Reads w'' v [3, 4] ∧ Only none_ w' w'') from by
    have := blocks_any ⟨3, 2⟩ w'
    rw [show blocksOf ⟨3, 2⟩ = [3, 4] from by decide +kernel] at this
    exact this.mono (fun e w'' ⟨v, e1, e2, e3⟩ => ⟨v, e1, Reads.of_owns e2, e3⟩))
  have IA := Lib.hid (fun (g : Nat) (v : Value) (w' : World) (h : Reads w' v [3, 4]) (k : Row w' g 3 #[.int .i64 3, .int .i64 4]) =>
    show Calls Try.prog 15 #[v, .slice (some ⟨g, 0, none⟩) 2 2] w' (fun e w'' => e = .returned (.bool true) ∧ Only none_ w' w'') from
      ints_any _ _ [3, 4] [3, 4] w' h (reads_row (l := [3, 4]) k) (by decide) (by decide))
  clear A10 B10 VN
  go_region_held3 (fun w' => (w'.cell? ⟨ga, 0, none⟩ = some (.int .i64 3) ∧ w'.cell? ⟨ga, 1, none⟩ = some (.int .i64 3)) ∧ (w'.cell? ⟨gb, 0, none⟩ = some (.int .i64 3) ∧ w'.cell? ⟨gb, 1, none⟩ = some (.int .i64 2)))
    (first
      | (with_reducible exact KK.out _ Q4.out)
      | (with_reducible exact KK.out _ (Q3.out.alloc _))
      | (with_reducible exact KK.out _ Q3.out)
      | (with_reducible exact KK.out _ (Q2.out.alloc _))
      | (with_reducible exact KK.out _ Q2.out)
      | (with_reducible exact KK.out _ Q1.out)
      | (with_reducible exact KK.out _ ((NF.out.alloc _).drew))
      | (with_reducible exact KK.out _ (ND.out.alloc _))
      | (with_reducible exact KK.out _ ND.out)
      | fail)
    (first
      | (go_at_call 12; (with_reducible refine (SA.out _ _ ((NF.out.alloc _).drew) (Row.drew (Row.fresh _ _ _))).mono ?_); rintro e u1 ⟨rfl, o1⟩; have Q1 := Lib.hid (((NF.out.alloc _).drew).same o1))
      | (go_at_call 13; (with_reducible refine (MA.out _).mono ?_); rintro e u2 ⟨rfl, o2⟩; have Q2 := Lib.hid (Q1.out.same o2))
      | (go_at_call 16; (with_reducible refine (BA.out _).mono ?_); rintro e u3 ⟨vb, rfl, rb, o3⟩; have Q3 := Lib.hid (Q2.out.same o3); have RB := Lib.hid rb)
      | (go_at_call 16; (with_reducible refine (BA.out _).mono ?_); rintro e u3 ⟨vb, rfl, rb, o3⟩; have Q3 := Lib.hid ((Q2.out.alloc _).same o3); have RB := Lib.hid rb; have RW := Lib.hid (o3.still (Row.fresh _ _ _)))
      | (go_at_call 15; (with_reducible refine (IA.out _ _ _ RB.out RW.out).mono ?_); rintro e u4 ⟨rfl, o4⟩; have Q4 := Lib.hid (Q3.out.same o4))
      | (go_at_call 15; (with_reducible refine (IA.out _ _ _ (RB.out.still ((Only.refl none_ _).alloc _)) (Row.fresh _ _ _)).mono ?_); rintro e u4 ⟨rfl, o4⟩; have Q4 := Lib.hid ((Q3.out.alloc _).same o4))
      | fail)
  all_goals
    go_wp2_with fail
    go_ret
    exact ⟨rfl, O11.out.same Q4.out⟩
end Go.Proofs.Ytobeoknaanbakaa
