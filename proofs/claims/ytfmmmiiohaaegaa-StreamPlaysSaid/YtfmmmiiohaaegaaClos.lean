/- The closures of package stream, and what finds by them: the stream that reads on, the one used longest ago. -/
import Derived.Test.YtfmmmiiohaaegaaFind10
import Derived.Test.YtfmmmiiohaaegaaSt
import Derived.BigQuiet
namespace Go.Proofs.Ytfmmmiiohaaegaa
open Go.RowKit
set_option linter.unusedVariables false

abbrev Sm.val (s : Sm) : Value := .agg #[.int .i64 s.id, .int .i64 s.f.n, .int .i64 s.f.a, .int .i64 s.f.p, .int .i64 s.f.g, .int .i64 s.used]
set_option maxHeartbeats 1000000 in
theorem reader1_any (s : Sm) (n : Nat) (x : Int) (w : World) (h : w.cell? ⟨n, 0, none⟩ = some (.int .i64 x)) (hn : n < w.heap.size) :
    Calls Try.prog 44 (#[s.val] ++ #[.pointer (some ⟨n, 0, none⟩)]) w fun e w' => e = .returned (.tuple #[.int .i64 s.used, .bool (fits x s)]) ∧ Only none_ w w' := by
  show Calls Try.prog 44 #[s.val, .pointer (some ⟨n, 0, none⟩)] w _
  have F := Lib.hid (show fits x s = (s.f.n == x) from rfl)
  go_enter Try.func44, Try.ntmps44
  go_wp2_with fail
  go_region
  all_goals
    go_wp2_with fail
    exact bodyPost_ret (v := .tuple #[.int .i64 s.used, .bool (s.f.n == x)]) (by simp [results, Try.results44, go_sem]) rfl ⟨by rw [F.out], ((Only.refl none_ w).alloc _).drew⟩

set_option maxHeartbeats 1000000 in
theorem change1_any (s : Sm) (n : Nat) (x : Int) (w : World) (h : w.cell? ⟨n, 0, none⟩ = some (.int .i64 x)) (hn : n < w.heap.size) :
    Calls Try.prog 51 (#[s.val] ++ #[.pointer (some ⟨n, 0, none⟩)]) w fun e w' => e = .returned (.tuple #[.int .i64 0, .bool ((s.id : Int) == x)]) ∧ Only none_ w w' := by
  show Calls Try.prog 51 #[s.val, .pointer (some ⟨n, 0, none⟩)] w _
  go_enter Try.func51, Try.ntmps51
  go_wp2_with fail
  go_region
  all_goals
    go_wp2_with fail
    exact bodyPost_ret (v := .tuple #[.int .i64 0, .bool ((s.id : Int) == x)]) (by simp [results, Try.results51, go_sem]) rfl ⟨rfl, ((Only.refl none_ w).alloc _).drew⟩

theorem oldest1_any (s : Sm) (w : World) (hu : s.used ≤ 1000000) :
    Calls Try.prog 61 (#[s.val] ++ #[]) w fun e w' => e = .returned (.tuple #[.int .i64 (-(s.used : Int)), .bool true]) ∧ Only none_ w w' := by
  show Calls Try.prog 61 #[s.val] w _
  have hw : IntKind.i64.wrap (-(s.used : Int)) = -(s.used : Int) := by rw [IntKind.wrap_i64]; omega
  go_enter Try.func61, Try.ntmps61
  go_wp2_with fail
  exact bodyPost_ret (v := .tuple #[.int .i64 (-(s.used : Int)), .bool true]) (by simp [results, Try.results61, go_sem]) rfl ⟨rfl, ((Only.refl none_ w).alloc _)⟩

set_option maxHeartbeats 1000000 in
theorem reader_any {q p b L : Nat} {v : Value} {M : Nat → Prop} {c : Cf} {t : Tr} (x : Int) (w : World) (h : StAt w q p b L v M c t) (hf : Fine10 c t) (hu : t.uses ≤ 1000) :
    Calls Try.prog 27 #[.pointer (some ⟨q, 0, none⟩), .int .i64 x] w fun e w' => e = .returned (.int .i64 (placeI (topOf t.ss x))) ∧ Only none_ w w' := by
  have hmf : ∀ (fn : Fn) (first cap : Array Value) (w : World), (Instr.makeFunc fn first cap).run Try.prog w = .ok (.func fn first cap) w := fun _ _ _ _ => rfl
  obtain ⟨A, cap, rfl, hh, _⟩ := h.own.form
  have c4 : w.cell? ⟨q, 4, none⟩ = some (.slice A t.ss.length cap) := by rw [h.row.cell]; rfl
  have lq := h.row.lt
  have HF := Lib.hid hf
  have r1 := Row.fresh w 3 #[.int .i64 x]
  have oa := (Only.refl none_ w).alloc (.cells #[.int .i64 x] 3)
  have FD := Lib.hid (find_any A cap t.ss (w.alloc (.cells #[.int .i64 x] 3)) 44 #[.pointer (some ⟨w.heap.size, 0, none⟩)] (fun s => s.used) (fits x) (hh.still8 oa) (by have := hf.few; have := hf.ok.m16; omega)
    (fun s hs => by have := (hf.uses s hs).2; constructor <;> (show _ ≤ _; omega)) (fun a w => rfl)
    (fun s hs w' o => reader1_any s w.heap.size x w' (o.cell (by rw [r1.cell]; rfl) (fun s => s)) (Nat.lt_of_lt_of_le r1.lt o.size)))
  have OA := Lib.hid oa
  clear h hh hf r1 oa
  go_enter Try.func27, Try.ntmps27
  go_wp2_with fail
  (with_reducible refine FD.out.mono ?_)
  rintro e w2 ⟨⟨a, g, rfl, hb⟩, o⟩
  have E := Lib.hid (best_top HF.out.rank.apart hb)
  have O2 := Lib.hid (OA.out.same o)
  clear hb o
  go_wp2_with fail
  go_ret
  exact ⟨by rw [E.out]; rfl, O2.out⟩

theorem oldest10_any {q p b L : Nat} {v : Value} {M : Nat → Prop} {c : Cf} {t : Tr} (w : World) (h : StAt w q p b L v M c t) (hf : Fine10 c t) (hu : t.uses ≤ 1000) (hne : t.ss ≠ []) :
    Calls Try.prog 46 #[.pointer (some ⟨q, 0, none⟩)] w fun e w' => e = .returned (.int .i64 ((lowOf t.ss).getD 0 : Nat)) ∧ (lowOf t.ss).getD 0 < t.ss.length ∧ Only none_ w w' := by
  obtain ⟨A, cap, rfl, hh, _⟩ := h.own.form
  have c4 : w.cell? ⟨q, 4, none⟩ = some (.slice A t.ss.length cap) := by rw [h.row.cell]; rfl
  have HF := Lib.hid hf
  have NE := Lib.hid hne
  have FD := Lib.hid (find_any A cap t.ss w 61 #[] (fun s => -(s.used : Int)) (fun _ => true) hh (by have := hf.few; have := hf.ok.m16; omega)
    (fun s hs => by have := (hf.uses s hs).2; constructor <;> (show _ ≤ _; omega)) (fun a w => rfl)
    (fun s hs w' o => oldest1_any s w' (by have := (hf.uses s hs).2; omega)))
  clear h hh hf hne
  go_enter Try.func46, Try.ntmps46
  go_wp2_with fail
  (with_reducible refine FD.out.mono ?_)
  rintro e w2 ⟨⟨a, g, rfl, hb⟩, o⟩
  have E := Lib.hid (best_low HF.out.rank.apart NE.out hb)
  have O2 := Lib.hid o
  clear hb o
  go_wp2_with fail
  go_ret
  exact ⟨by rw [E.out.1]; rfl, E.out.2, O2.out⟩
end Go.Proofs.Ytfmmmiiohaaegaa
