/- Rows that are made. -/
import Derived.Test.YtoflkeedfgnkhaaRp17
namespace Go.Proofs.Ytoflkeedfgnkhaa
open Go.RowKit Go.Maps
set_option linter.unusedVariables false
set_option maxRecDepth 100000
theorem info_int17 : (Try.prog.info? 3).map (fun i => (i.zero, i.size, i.bytes)) = some (some (.int .i64 0), 1, 8) := by kernel_rfl
theorem plC_zero (n : Nat) : flat one (List.replicate n 0) = plC (List.replicate n 0) := by
  unfold flat plC
  rw [one_map, List.map_replicate, List.map_replicate]
  rfl
theorem vsC_zero (n : Nat) : flat oneU (List.replicate n 0) = vsC (List.replicate n 0) := by
  unfold flat vsC
  rw [oneU_map, List.map_replicate]
theorem mk_ints (n : Nat) (h : n ≤ 8) (w : World) : (Instr.makeSlice 35 (.int .i64 (n : Int)) (.int .i64 (n : Int))).run Try.prog w = .ok (.slice (some ⟨w.heap.size, 0, none⟩) n n) (w.alloc (.cells (plC (List.replicate n 0)) 3)) := by
  obtain ⟨i, h1, h2, h3, h4⟩ := info_parts info_int17
  have := run_make_flat (P := Try.prog) (c := one) (0 : Int) (k := 1) one1 (by decide) 35 3 i _ Try.underlying35 h1 h2 h3 rfl .i64 .i64 n (by rw [h4]; omega) (by omega) w
  rw [plC_zero] at this
  exact this
theorem mk_u64s (n : Nat) (h : n ≤ 8) (w : World) : (Instr.makeSlice 47 (.int .i64 (n : Int)) (.int .i64 (n : Int))).run Try.prog w = .ok (.slice (some ⟨w.heap.size, 0, none⟩) n n) (w.alloc (.cells (vsC (List.replicate n 0)) 30)) := by
  obtain ⟨i, h1, h2, h3, h4⟩ := info_parts info_u64
  have := run_make_flat (P := Try.prog) (c := oneU) (0 : Int) (k := 1) oneU1 (by decide) 47 30 i _ Try.underlying47 h1 h2 h3 rfl .i64 .i64 n (by rw [h4]; omega) (by omega) w
  rw [vsC_zero] at this
  exact this
end Go.Proofs.Ytoflkeedfgnkhaa
