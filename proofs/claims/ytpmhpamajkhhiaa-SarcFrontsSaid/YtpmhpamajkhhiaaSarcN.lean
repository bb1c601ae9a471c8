/- What Room, Policy and New answer, of any policy that lies in memory. -/
import Derived.Test.YtpmhpamajkhhiaaVictim
namespace Go.Proofs.Ytpmhpamajkhhiaa
open Go.RowKit
set_option linter.unusedVariables false

theorem held_room {c : Sc} (f : c.Fine) : c.s.heldL.length ≤ c.s.l0.length + c.s.l1.length := by
  rw [← List.length_append]
  refine sub_len (List.nodup_range.filter _) (fun x hx => ?_)
  have := f.held x (List.mem_filter.1 hx).2
  exact List.mem_append.2 (lst_ne.1 this)

set_option maxRecDepth 100000 in
set_option maxHeartbeats 4000000 in
theorem room_any (P p b : Nat) (c : Sc) (w : World) (h : SLies w P p b c) :
    Calls Try.prog 16 #[.pointer (some ⟨P, 0, none⟩)] w fun e w' => e = .returned (.int .i64 c.room) ∧ Below w.heap.size w w' := by
  have H := Lib.hid h
  have n64 := h.fine.s.n64
  have l0 := fine_len0 h.fine.s
  have l1 := fine_len1 h.fine.s
  have hh := held_len7 h.fine.s
  have hr := held_room h.fine
  have L0 := Lib.hid (fun w' (o : Only none_ w w') => len0_any p b c.s w' (h.raw.still o).shelf)
  have L1 := Lib.hid (fun w' (o : Only none_ w w') => len1_any p b c.s w' (h.raw.still o).shelf)
  have HE := Lib.hid (fun w' (o : Only none_ w w') => (held_any p b c.s w' (h.raw.still o).shelf).mono (R' := fun e w'' => ∃ a cp, e = .returned (.slice a c.s.heldL.length cp) ∧ Below w'.heap.size w' w'') (by
    rintro e w'' ⟨v, rfl, hv, o'⟩
    obtain ⟨a, cp, rfl, _⟩ := Reads.of_owns hv
    rw [ints_len]
    exact ⟨a, cp, rfl, o'⟩))
  have RM := Lib.hid (show (c.room : Int) = (c.s.l0.length : Int) + (c.s.l1.length : Int) - (c.s.heldL.length : Int) from by unfold Sc.room; omega)
  clear h
  go_enter Try.func16, Try.ntmps16
  go_wp2_with fail
  have OD := Lib.hid (Only.refl none_ w).drew
  have c0 := (H.out.still OD.out).raw.c0
  have v1 : IntKind.i64.wrap ((c.s.l0.length : Int) + (c.s.l1.length : Int)) = (c.s.l0.length : Int) + (c.s.l1.length : Int) := by rw [IntKind.wrap_i64]; omega
  have v2 : IntKind.i64.wrap ((c.s.l0.length : Int) + (c.s.l1.length : Int) - (c.s.heldL.length : Int)) = (c.s.l0.length : Int) + (c.s.l1.length : Int) - (c.s.heldL.length : Int) := by rw [IntKind.wrap_i64]; omega
  go_region_held3 (fun w' => w'.cell? ⟨P, 0, none⟩ = some (.pointer (some ⟨p, 0, none⟩)))
    (first
      | (go_keep; done)
      | (exact HS1.out.raw.c0)
      | (exact HS2.out.raw.c0)
      | (exact HS3.out.raw.c0))
    (first
      | (go_at_call 38; (with_reducible refine (L0.out _ OD.out).mono ?_); rintro e w1 ⟨rfl, o1⟩; have O1 := Lib.hid (OD.out.same (below_only o1)); have HS1 := Lib.hid (H.out.still O1.out))
      | (go_at_call 38; (with_reducible refine (L1.out _ O1.out).mono ?_); rintro e w2 ⟨rfl, o2⟩; have O2 := Lib.hid (O1.out.same (below_only o2)); have HS2 := Lib.hid (H.out.still O2.out))
      | (go_at_call 37; (with_reducible refine (HE.out _ O2.out).mono ?_); rintro e w3 ⟨a3, k3, rfl, o3⟩; have O3 := Lib.hid (O2.out.same (below_only o3)); have HS3 := Lib.hid (H.out.still O3.out)))
  all_goals
    clear c0 v1 v2 o1 o2 o3 L0 L1 HE
    go_wp2_with fail
    go_ret
    exact ⟨by rw [RM.out]; rfl, O3.out.to_below⟩

/-- what a policy tells -/
def polV (v0 v1 v2 : Value) (c : Sc) : Value := .agg #[v0, v1, v2, .int .i64 c.want, .int .u64 c.miss, .int .u64 c.hits]
def Told7 (c : Sc) (w : World) (v : Value) (w' : World) : Prop := ∃ v0 v1 v2, v = polV v0 v1 v2 c ∧ OwnsInts w' w.heap.size v0 (ints c.s.l0) ∧ OwnsInts w' w.heap.size v1 (ints c.s.l1) ∧ OwnsInts w' w.heap.size v2 (ints c.s.heldL)

set_option maxRecDepth 100000 in
set_option maxHeartbeats 400000 in
theorem policy_any (P p b : Nat) (c : Sc) (w : World) (h : SLies w P p b c) :
    Calls Try.prog 15 #[.pointer (some ⟨P, 0, none⟩)] w fun e w' => ∃ v, e = .returned v ∧ Told7 c w v w' ∧ Below w.heap.size w w' := by
  have H := Lib.hid h
  have LI := Lib.hid (fun k w' (o : Only none_ w w') => list_any p b c.s k w' (h.raw.still o).shelf)
  have HE := Lib.hid (fun w' (o : Only none_ w w') => held_any p b c.s w' (h.raw.still o).shelf)
  clear h
  go_enter Try.func15, Try.ntmps15
  go_wp2_with fail
  have oa := ((Only.refl none_ w).alloc (.cells #[.slice none 0 0, .slice none 0 0, .slice none 0 0, .int .i64 0, .int .u64 0, .int .u64 0] 39))
  have ra := Row.fresh w 39 #[.slice none 0 0, .slice none 0 0, .slice none 0 0, .int .i64 0, .int .u64 0, .int .u64 0]
  generalize (w.alloc (.cells #[.slice none 0 0, .slice none 0 0, .slice none 0 0, .int .i64 0, .int .u64 0, .int .u64 0] 39)) = w0 at *
  have OD := Lib.hid oa.drew
  have RD := Lib.hid ra.drew
  have HD := Lib.hid (H.out.still OD.out)
  have c0 := HD.out.raw.c0
  have c68 := HD.out.raw.c68
  have c69 := HD.out.raw.c69
  have c70 := HD.out.raw.c70
  clear oa ra
  go_region_held3 (fun w' => w'.cell? ⟨P, 0, none⟩ = some (.pointer (some ⟨p, 0, none⟩)) ∧ w'.cell? ⟨P, 68, none⟩ = some (.int .i64 c.want) ∧ w'.cell? ⟨P, 69, none⟩ = some (.int .u64 c.miss) ∧ w'.cell? ⟨P, 70, none⟩ = some (.int .u64 c.hits))
    (first
      | (refine KP3.out _ ?_; refine Only.into (S := fun k => k = w.heap.size) ?_ rfl _ _; refine Only.into (S := fun k => k = w.heap.size) ?_ rfl _ _; refine Only.into (S := fun k => k = w.heap.size) ?_ rfl _ _; refine Only.into (S := fun k => k = w.heap.size) ?_ rfl _ _; refine Only.into (S := fun k => k = w.heap.size) ?_ rfl _ _; refine Only.into (S := fun k => k = w.heap.size) ?_ rfl _ _; exact Only.refl _ _)
      | (go_split_ands; with_reducible exact ⟨c0, c68, c69, c70⟩)
      | (go_split_ands; with_reducible exact ⟨HS1.out.raw.c0, HS1.out.raw.c68, HS1.out.raw.c69, HS1.out.raw.c70⟩)
      | (go_split_ands; with_reducible exact ⟨HS2.out.raw.c0, HS2.out.raw.c68, HS2.out.raw.c69, HS2.out.raw.c70⟩)
      | (go_split_ands; with_reducible exact ⟨HS3.out.raw.c0, HS3.out.raw.c68, HS3.out.raw.c69, HS3.out.raw.c70⟩))
    (first
      | (go_at_call 36; (with_reducible refine (LI.out 0 _ OD.out).mono ?_); rintro e w1 ⟨v1, rfl, hv1, o1⟩; have O1 := Lib.hid (OD.out.same (below_only o1)); have RD1 := Lib.hid ((below_only o1).still RD.out); have HS1 := Lib.hid (H.out.still O1.out); obtain ⟨a1, n1, k1, rfl⟩ := own_form hv1; have V1 := Lib.hid hv1; clear hv1)
      | (go_at_call 36; (with_reducible refine (LI.out 1 _ O1.out).mono ?_); rintro e w2 ⟨v2, rfl, hv2, o2⟩; have O2 := Lib.hid (O1.out.same (below_only o2)); have RD2 := Lib.hid ((below_only o2).still RD1.out); have HS2 := Lib.hid (H.out.still O2.out); obtain ⟨a2, n2, k2, rfl⟩ := own_form hv2; have V2 := Lib.hid hv2; clear hv2)
      | (go_at_call 37; (with_reducible refine (HE.out _ O2.out).mono ?_); rintro e w3 ⟨v3, rfl, hv3, o3⟩; have O3 := Lib.hid (O2.out.same (below_only o3)); have RD3 := Lib.hid ((below_only o3).still RD2.out); have HS3 := Lib.hid (H.out.still O3.out); have KP3 := Lib.hid (fun W (o : Only (fun k => k = w.heap.size) w3 W) => (fun (h : SLies W P p b c) => And.intro h.raw.c0 (And.intro h.raw.c68 (And.intro h.raw.c69 h.raw.c70))) (HS3.out.keep o (by have := H.out.raw.lt; omega) (by have := H.out.raw.lt; omega) (by have := H.out.raw.lt; omega))); have z3 := RD3.out.frozen; have lt3 := RD3.out.lt; have q0 : w3.cell? ⟨w.heap.size, 0, none⟩ = some (.slice none 0 0) := (RD3.out.cell 0).trans rfl; have q1 : w3.cell? ⟨w.heap.size, 1, none⟩ = some (.slice none 0 0) := (RD3.out.cell 1).trans rfl; have q2 : w3.cell? ⟨w.heap.size, 2, none⟩ = some (.slice none 0 0) := (RD3.out.cell 2).trans rfl; have q3 : w3.cell? ⟨w.heap.size, 3, none⟩ = some (.int .i64 0) := (RD3.out.cell 3).trans rfl; have q4 : w3.cell? ⟨w.heap.size, 4, none⟩ = some (.int .u64 0) := (RD3.out.cell 4).trans rfl; have q5 : w3.cell? ⟨w.heap.size, 5, none⟩ = some (.int .u64 0) := (RD3.out.cell 5).trans rfl; obtain ⟨a3, n3, k3, rfl⟩ := own_form hv3; have V3 := Lib.hid hv3; clear hv3))
  have R4 := Lib.hid ((((((RD3.out.put 0 (.slice a1 n1 k1)).put 1 (.slice a2 n2 k2)).put 2 (.slice a3 n3 k3)).put 3 (.int .i64 c.want)).put 4 (.int .u64 c.miss)).put 5 (.int .u64 c.hits))
  have O4 := Lib.hid (((((((O3.out.new (Nat.le_refl _) 0 (.slice a1 n1 k1)).new (Nat.le_refl _) 1 (.slice a2 n2 k2)).new (Nat.le_refl _) 2 (.slice a3 n3 k3)).new (Nat.le_refl _) 3 (.int .i64 c.want)).new (Nat.le_refl _) 4 (.int .u64 c.miss)).new (Nat.le_refl _) 5 (.int .u64 c.hits)))
  have o34 := (((((((Only.refl (fun k => k = w.heap.size) w3).into rfl 0 (.slice a1 n1 k1)).into rfl 1 (.slice a2 n2 k2)).into rfl 2 (.slice a3 n3 k3)).into rfl 3 (.int .i64 c.want)).into rfl 4 (.int .u64 c.miss)).into rfl 5 (.int .u64 c.hits))
  have o23 := below_only o3
  have o12 := below_only o2
  have g0 := OD.out.size
  have g1 := O1.out.size
  have g2 := O2.out.size
  have s0 : w.heap.size < w0.drew.heap.size := RD.out.lt
  have W1 := Lib.hid (((V1.out.still o12).still o23).keep o34 (fun g hg q => by have := (V1.out.base_le hg).1; omega))
  have W2 := Lib.hid ((V2.out.still o23).keep o34 (fun g hg q => by have := (V2.out.base_le hg).1; have := RD1.out.lt; omega))
  have W3 := Lib.hid (V3.out.keep o34 (fun g hg q => by have := (V3.out.base_le hg).1; have := RD2.out.lt; omega))
  have U1 := Lib.hid (Owns.lower W1.out g0)
  have U2 := Lib.hid (Owns.lower W2.out g1)
  have U3 := Lib.hid (Owns.lower W3.out g2)
  rename_i hHeld
  clear hHeld o34 o23 o12 o1 o2 o3 c0 c68 c69 c70 z3 lt3 q0 q1 q2 q3 q4 q5 KP3 W1 W2 W3 V1 V2 V3 HS1 HS2 HS3 LI HE HD RD RD1 RD2 RD3
  generalize (((((w3.setCell ⟨w.heap.size, 0, none⟩ (.slice a1 n1 k1)).setCell ⟨w.heap.size, 1, none⟩ (.slice a2 n2 k2)).setCell ⟨w.heap.size, 2, none⟩ (.slice a3 n3 k3)).setCell ⟨w.heap.size, 3, none⟩ (.int .i64 c.want)).setCell ⟨w.heap.size, 4, none⟩ (.int .u64 c.miss)).setCell ⟨w.heap.size, 5, none⟩ (.int .u64 c.hits) = w4 at *
  replace R4 := Lib.hid (show Row w4 w.heap.size 39 #[.slice a1 n1 k1, .slice a2 n2 k2, .slice a3 n3 k3, .int .i64 c.want, .int .u64 c.miss, .int .u64 c.hits] from R4.out)
  have q0 : w4.cell? ⟨w.heap.size, 0, none⟩ = some (.slice a1 n1 k1) := (R4.out.cell 0).trans rfl
  have q1 : w4.cell? ⟨w.heap.size, 1, none⟩ = some (.slice a2 n2 k2) := (R4.out.cell 1).trans rfl
  have q2 : w4.cell? ⟨w.heap.size, 2, none⟩ = some (.slice a3 n3 k3) := (R4.out.cell 2).trans rfl
  have q3 : w4.cell? ⟨w.heap.size, 3, none⟩ = some (.int .i64 c.want) := (R4.out.cell 3).trans rfl
  have q4 : w4.cell? ⟨w.heap.size, 4, none⟩ = some (.int .u64 c.miss) := (R4.out.cell 4).trans rfl
  have q5 : w4.cell? ⟨w.heap.size, 5, none⟩ = some (.int .u64 c.hits) := (R4.out.cell 5).trans rfl
  go_wp2_with fail
  exact bodyPost_ret (v := .agg #[.slice a1 n1 k1, .slice a2 n2 k2, .slice a3 n3 k3, .int .i64 c.want, .int .u64 c.miss, .int .u64 c.hits]) (by simp [results, Try.results15, go_sem, q0, q1, q2, q3, q4, q5]) rfl ⟨_, rfl, ⟨_, _, _, rfl, U1.out, U2.out, U3.out⟩, O4.out.to_below⟩
end Go.Proofs.Ytpmhpamajkhhiaa
