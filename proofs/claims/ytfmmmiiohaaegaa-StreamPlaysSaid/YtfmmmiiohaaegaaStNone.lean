/- Package stream: what is refused, and what is told of a stream that there isn't: nothing turns. -/
import Derived.Test.YtfmmmiiohaaegaaStAcc
namespace Go.Proofs.Ytfmmmiiohaaegaa
open Go.RowKit Go.Maps
set_option linter.unusedVariables false

set_option maxHeartbeats 1000000 in
theorem acc_none0 {q : Nat} {M : Nat → Prop} {c : Cf} {t : Tr} (f n : Int) (w : World) (h : ST w q M c t) (hf : Fine10 c t) (hm : mayAcc c.blk f n = false) :
    Calls Try.prog 12 #[.pointer (some ⟨q, 0, none⟩), .int .i64 f, .int .i64 n] w fun e w' => Acc c t f n e ∧ Only none_ w w' := by
  have hn : ¬ (1 ≤ n ∧ n ≤ 8 ∧ 0 ≤ f ∧ f + n ≤ c.blk) := of_decide_eq_false hm
  have A := Lib.hid (show accI c t f n = 0 ∧ accR c t f n = ⟨0, 0⟩ ∧ accC c.blk f n = 1 ∧ accS c t f n = t from by
    unfold accI accR accC accS; rw [hm]; exact ⟨rfl, rfl, rfl, rfl⟩)
  have H := Lib.hid h
  have B := hf.ok.b256
  obtain ⟨p, b, L, v, h⟩ := h
  have oa := Lib.hid ((Only.refl none_ w).alloc (.cells #[.int .i64 0, .int .i64 0, .int .i64 0] 38))
  have c2 : (w.alloc (.cells #[.int .i64 0, .int .i64 0, .int .i64 0] 38)).cell? ⟨q, 2, none⟩ = some (.int .i64 c.blk) := by rw [(h.still oa.out).row.cell]; rfl
  clear h hm
  by_cases h0 : n < 1
  · have d0 : decide (n < 1) = true := by simpa using h0
    clear hn B h0
    go_enter Try.func12, Try.ntmps12
    go_wp2_with fail
    exact bodyPost_ret (v := .tuple #[.agg #[.int .i64 0, .int .i64 0, .int .i64 0], .int .i64 1]) (by simp [results, Try.results12, go_sem]) rfl ⟨by unfold Acc; rw [A.out.1, A.out.2.1, A.out.2.2.1]; rfl, oa.out⟩
  · have d0 : decide (n < 1) = false := by simpa using h0
    by_cases h1 : 8 < n
    · have d1 : decide (8 < n) = true := by simpa using h1
      clear hn B h0 h1
      go_enter Try.func12, Try.ntmps12
      go_wp2_with fail
      exact bodyPost_ret (v := .tuple #[.agg #[.int .i64 0, .int .i64 0, .int .i64 0], .int .i64 1]) (by simp [results, Try.results12, go_sem]) rfl ⟨by unfold Acc; rw [A.out.1, A.out.2.1, A.out.2.2.1]; rfl, oa.out⟩
    · have d1 : decide (8 < n) = false := by simpa using h1
      by_cases h2 : f < 0
      · have d2 : decide (f < 0) = true := by simpa using h2
        clear hn B h0 h1 h2
        go_enter Try.func12, Try.ntmps12
        go_wp2_with fail
        exact bodyPost_ret (v := .tuple #[.agg #[.int .i64 0, .int .i64 0, .int .i64 0], .int .i64 1]) (by simp [results, Try.results12, go_sem]) rfl ⟨by unfold Acc; rw [A.out.1, A.out.2.1, A.out.2.2.1]; rfl, oa.out⟩
      · have d2 : decide (f < 0) = false := by simpa using h2
        have hw : IntKind.i64.wrap ((c.blk : Int) - n) = (c.blk : Int) - n := by rw [IntKind.wrap_i64]; omega
        have d3 : decide ((c.blk : Int) - n < f) = true := by simp; omega
        clear hn B h0 h1 h2
        go_enter Try.func12, Try.ntmps12
        go_wp2_with fail
        exact bodyPost_ret (v := .tuple #[.agg #[.int .i64 0, .int .i64 0, .int .i64 0], .int .i64 1]) (by simp [results, Try.results12, go_sem]) rfl ⟨by unfold Acc; rw [A.out.1, A.out.2.1, A.out.2.2.1]; rfl, oa.out⟩

set_option maxRecDepth 100000 in
set_option maxHeartbeats 4000000 in
theorem none_late {q p b L : Nat} {v : Value} {M : Nat → Prop} {c : Cf} {t : Tr} (x : Int) (w : World) (h : StAt w q p b L v M c t) (hf : Fine10 c t) (hu : t.uses ≤ 1000) (hb0 : tuneB t x = false) :
    Calls Try.prog 33 #[.pointer (some ⟨q, 0, none⟩), .int .i64 x, .func (.func 34) #[] #[]] w fun e w' => e = .returned (.bool false) ∧ Only none_ w w' := by
  have hmf : ∀ (fn : Fn) (first cap : Array Value) (w : World), (Instr.makeFunc fn first cap).run Try.prog w = .ok (.func fn first cap) w := fun _ _ _ _ => rfl
  obtain ⟨A, cap, rfl, hh, ha⟩ := h.own.form
  have hlen : t.ss.length ≤ 16 := by have := hf.few; have := hf.ok.m16; omega
  have lq := h.row.lt
  have r1 := Row.fresh w 3 #[.int .i64 x]
  have oa := (Only.refl none_ w).alloc (.cells #[.int .i64 x] 3)
  have H1 := Lib.hid (h.still oa)
  have FD := Lib.hid (find_any A cap t.ss (w.alloc (.cells #[.int .i64 x] 3)) 51 #[.pointer (some ⟨w.heap.size, 0, none⟩)] (fun _ => 0) (fun s => (s.id : Int) == x) (hh.still8 oa) (by omega)
    (fun s hs => ⟨by decide, by decide⟩) (fun a w => rfl)
    (fun s hs w' o => change1_any s w.heap.size x w' (o.cell (by rw [r1.cell]; rfl) (fun s => s)) (Nat.lt_of_lt_of_le r1.lt o.size)))
  have c4 : (w.alloc (.cells #[.int .i64 x] 3)).cell? ⟨q, 4, none⟩ = some (.slice A t.ss.length cap) := by rw [H1.out.row.cell]; rfl
  have OA := Lib.hid oa
  have MAY := Lib.hid hf.may
  have E0 : ∀ a g, Best (fun _ => 0) (fun s => (s.id : Int) == x) t.ss t.ss.length a g → a = placeI (idOf t.ss x) := fun a g hb => best_id hb
  have EE := Lib.hid E0
  clear h hh hf r1 oa E0
  have hid : idOf t.ss x = none := by unfold tuneB at hb0; cases h : idOf t.ss x with
    | none => rfl
    | some k => rw [h] at hb0; cases hb0
  have PI : placeI (idOf t.ss x) = -1 := by rw [hid]; rfl
  rw [PI] at EE
  clear hid PI
  go_enter Try.func33, Try.ntmps33
  go_wp2_with fail
  (with_reducible refine FD.out.mono ?_)
  rintro e w2 ⟨⟨a, g, rfl, hb⟩, o⟩
  obtain rfl := EE.out a g hb
  have O2 := Lib.hid (OA.out.same o)
  have H2 := Lib.hid (H1.out.still o)
  clear hb o
  go_wp2_with fail
  go_ret
  exact ⟨rfl, O2.out⟩

theorem late10_none {q : Nat} {M : Nat → Prop} {c : Cf} {t : Tr} (x : Int) (w : World) (h : ST w q M c t) (hf : Fine10 c t) (hu : t.uses ≤ 1000) (hb0 : tuneB t x = false) :
    Calls Try.prog 14 #[.pointer (some ⟨q, 0, none⟩), .int .i64 x] w fun e w' => e = .returned (.bool false) ∧ Only none_ w w' := by
  obtain ⟨p, b, L, v, h⟩ := h
  have C := Lib.hid (none_late x w h hf hu hb0)
  clear h hf
  go_enter Try.func14, Try.ntmps14
  go_wp2_with fail
  (with_reducible refine C.out.mono ?_)
  rintro e w1 ⟨rfl, o⟩
  have O := Lib.hid o
  clear o
  go_wp2_with fail
  go_ret
  exact ⟨rfl, O.out⟩


set_option maxRecDepth 100000 in
set_option maxHeartbeats 4000000 in
theorem none_waste {q p b L : Nat} {v : Value} {M : Nat → Prop} {c : Cf} {t : Tr} (x : Int) (w : World) (h : StAt w q p b L v M c t) (hf : Fine10 c t) (hu : t.uses ≤ 1000) (hb0 : tuneB t x = false) :
    Calls Try.prog 33 #[.pointer (some ⟨q, 0, none⟩), .int .i64 x, .func (.func 37) #[] #[]] w fun e w' => e = .returned (.bool false) ∧ Only none_ w w' := by
  have hmf : ∀ (fn : Fn) (first cap : Array Value) (w : World), (Instr.makeFunc fn first cap).run Try.prog w = .ok (.func fn first cap) w := fun _ _ _ _ => rfl
  obtain ⟨A, cap, rfl, hh, ha⟩ := h.own.form
  have hlen : t.ss.length ≤ 16 := by have := hf.few; have := hf.ok.m16; omega
  have lq := h.row.lt
  have r1 := Row.fresh w 3 #[.int .i64 x]
  have oa := (Only.refl none_ w).alloc (.cells #[.int .i64 x] 3)
  have H1 := Lib.hid (h.still oa)
  have FD := Lib.hid (find_any A cap t.ss (w.alloc (.cells #[.int .i64 x] 3)) 51 #[.pointer (some ⟨w.heap.size, 0, none⟩)] (fun _ => 0) (fun s => (s.id : Int) == x) (hh.still8 oa) (by omega)
    (fun s hs => ⟨by decide, by decide⟩) (fun a w => rfl)
    (fun s hs w' o => change1_any s w.heap.size x w' (o.cell (by rw [r1.cell]; rfl) (fun s => s)) (Nat.lt_of_lt_of_le r1.lt o.size)))
  have c4 : (w.alloc (.cells #[.int .i64 x] 3)).cell? ⟨q, 4, none⟩ = some (.slice A t.ss.length cap) := by rw [H1.out.row.cell]; rfl
  have OA := Lib.hid oa
  have MAY := Lib.hid hf.may
  have E0 : ∀ a g, Best (fun _ => 0) (fun s => (s.id : Int) == x) t.ss t.ss.length a g → a = placeI (idOf t.ss x) := fun a g hb => best_id hb
  have EE := Lib.hid E0
  clear h hh hf r1 oa E0
  have hid : idOf t.ss x = none := by unfold tuneB at hb0; cases h : idOf t.ss x with
    | none => rfl
    | some k => rw [h] at hb0; cases hb0
  have PI : placeI (idOf t.ss x) = -1 := by rw [hid]; rfl
  rw [PI] at EE
  clear hid PI
  go_enter Try.func33, Try.ntmps33
  go_wp2_with fail
  (with_reducible refine FD.out.mono ?_)
  rintro e w2 ⟨⟨a, g, rfl, hb⟩, o⟩
  obtain rfl := EE.out a g hb
  have O2 := Lib.hid (OA.out.same o)
  have H2 := Lib.hid (H1.out.still o)
  clear hb o
  go_wp2_with fail
  go_ret
  exact ⟨rfl, O2.out⟩

theorem waste10_none {q : Nat} {M : Nat → Prop} {c : Cf} {t : Tr} (x : Int) (w : World) (h : ST w q M c t) (hf : Fine10 c t) (hu : t.uses ≤ 1000) (hb0 : tuneB t x = false) :
    Calls Try.prog 16 #[.pointer (some ⟨q, 0, none⟩), .int .i64 x] w fun e w' => e = .returned (.bool false) ∧ Only none_ w w' := by
  obtain ⟨p, b, L, v, h⟩ := h
  have C := Lib.hid (none_waste x w h hf hu hb0)
  clear h hf
  go_enter Try.func16, Try.ntmps16
  go_wp2_with fail
  (with_reducible refine C.out.mono ?_)
  rintro e w1 ⟨rfl, o⟩
  have O := Lib.hid o
  clear o
  go_wp2_with fail
  go_ret
  exact ⟨rfl, O.out⟩

end Go.Proofs.Ytfmmmiiohaaegaa
