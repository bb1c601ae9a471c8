/- Package fetch's rising: a map's keys, the least first. -/
import Derived.Test.YtfbpjobobdidiaaGreatDoorGrpL
import Derived.Test.YtfbpjobobdidiaaGreatDoorGrpA
import Derived.Test.YtfbpjobobdidiaaGreatDoorShelfR
import Derived.Shelf.AbstractIn
namespace Go.Proofs.YtfbpjobobdidiaaGreatDoor
open Go.RowKit Go.Maps Go.Sort Go.Shelf
set_option linter.unusedVariables false
set_option maxRecDepth 100000

def sortI (l : List Int) : List Int := l.mergeSort leI
theorem sortI_len (l : List Int) : (sortI l).length = l.length := List.length_mergeSort l
theorem Mg.perm {w : World} {b : Nat} {es : List Ent} {D : DataW Value} (hn : OnceV es) (h1 : w.ownsMap Tryz.prog 3 anyE b es.length D) (h2 : ReadsV D es) : (es.map (·.1)).Perm (intKeys D) :=
  CollectedI.perm (left := fun _ => false) ⟨hn.keys, fun x => by rw [h2.1 x, hasV_iff]; simp⟩ h1 lawI Tryz.underlying3 (fun _ => rfl)
theorem sorts16 (m : Nat) : AnyZI.SortsIn Tryz.prog Tryz.sortedA_ren Fence.wide m :=
  ⟨fun blk off cap ss W hH hblk hsz => callsIn_wide.2 (AnyM.slices_Sort_int Tryz.sortA blk off cap ss W hH hblk hsz),
   fun p cap W => callsIn_wide.2 (AnyM.slices_Sort_int_none Tryz.sortA p cap W)⟩
set_option maxHeartbeats 1000000 in
theorem rising_tk (w : World) (b : Nat) (es : List Ent) (h : Mg w b es) (hle : es.length ≤ 1000) :
    Calls Tryz.prog 54 #[.map (some b)] w fun e w' => ∃ v, e = .returned v ∧ OwnsInts w' w.heap.size v (sortI (es.map (·.1))) ∧ Only none_ w w' := by
  refine (callsIn_wide (n := 6)).1 ?_
  obtain ⟨hn, D, h1, h2⟩ := h
  have hbl := h1.lt
  have hsz : Maps.size D = es.length := by rw [h2.size h1 hn]
  have PP := Mg.perm hn h1 h2
  have hseq : SeqGives Fence.wide 2 Tryz.prog 130 #[.pointer (some ⟨w.heap.size, 0, none⟩)] encZ (fun ss => ss.Perm (intKeys D)) (Maps.size D) (w.alloc (.cells #[.map (some b)] 96)) :=
    AnyZI.keys_gives (ρ := Tryz.keysT_ren) { Tryz.keysT with } Fence.wide _ trivial rfl (by omega) w.heap.size b _ D _ (by simp) (by simp) (by
      obtain ⟨es, clock, hb, Ft, hs, hD⟩ := h1
      exact ⟨es, clock, (Below.heap_alloc _ _ b hbl).trans hb, Ft, hs, hD⟩)
  have cK : ∀ mb W, CallsIn Fence.wide 5 Tryz.prog 96 #[.map mb] W fun e w' => e = .returned (.func (.func 130) #[] #[.pointer (some ⟨W.heap.size, 0, none⟩)]) ∧ w' = W.alloc (.cells #[.map mb] 96) := fun mb W => AnyZI.keys_in Tryz.keysT Fence.wide 5 trivial rfl mb W
  have cS := AnyZI.sorted_in Tryz.sortedA Fence.wide 5 trivial trivial trivial trivial rfl (by omega) (sorts16 _) (enters_of Tryz.func118 (by kernel_rfl) rfl) 130 #[.pointer (some ⟨w.heap.size, 0, none⟩)] trivial (enters_of Tryz.func130 (by kernel_rfl) rfl) _ _ (by rw [hsz]; unfold maxLen; omega) (by rw [hsz]; omega) _ hseq
  change CallsIn _ _ Tryz.prog 92 _ _ _ at cS
  have hfK : Fence.wide.fn 96 := trivial
  have hfS : Fence.wide.fn 92 := trivial
  have PP := Lib.hid PP
  clear hseq h1 h2 hn hsz
  refine callsIn_of_wp Tryz.func54 rfl trivial ?_ rfl
  simp only [Tryz.ntmps54, List.size_toArray, List.length_cons, List.length_nil, Nat.reduceAdd, Nat.reduceSub, Array.replicate_succ, Array.replicate_zero, List.push_toArray, List.append_toArray, List.nil_append, List.cons_append]
  gi_wp2_with (first
    | (gi_at_call 96; refine (cK _ _).mono ?_; rintro e w' ⟨rfl, rfl⟩)
    | (gi_at_call 92; refine cS.mono ?_; rintro e w' ⟨v, ss, rfl, hS, hrow, hnil, hb⟩))
  go_ret
  have e1 : ss.mergeSort (fun x y => decide (x ≤ y)) = sortI (es.map (·.1)) := mergeSort_of_perm_i (hS.trans PP.out.symm)
  rw [e1] at hrow
  have el : ss.length = (sortI (es.map (·.1))).length := by rw [← e1, List.length_mergeSort]
  rw [el] at hrow
  have ob := (Only.of_below hb).more (S' := fun k => w.heap.size ≤ k) (fun i _ q => by simp at q; omega)
  refine ⟨v, rfl, ?_, ?_⟩
  · show Owns _ _ _ _ _ _ _
    unfold Owns
    rw [one_map]
    exact ownsRow_base_a hrow (by simp)
  · exact (((Only.refl (fun k => w.heap.size ≤ k) w).alloc _).same ob).more (fun i hi q => absurd q (Nat.not_le.2 hi))
set_option maxHeartbeats 1000000 in
theorem rising_mv (w : World) (b : Nat) (es : List Ent) (h : Mg w b es) (hle : es.length ≤ 1000) :
    Calls Tryz.prog 49 #[.map (some b)] w fun e w' => ∃ v, e = .returned v ∧ OwnsInts w' w.heap.size v (sortI (es.map (·.1))) ∧ Only none_ w w' := by
  refine (callsIn_wide (n := 6)).1 ?_
  obtain ⟨hn, D, h1, h2⟩ := h
  have hbl := h1.lt
  have hsz : Maps.size D = es.length := by rw [h2.size h1 hn]
  have PP := Mg.perm hn h1 h2
  have hseq : SeqGives Fence.wide 2 Tryz.prog 129 #[.pointer (some ⟨w.heap.size, 0, none⟩)] encZ (fun ss => ss.Perm (intKeys D)) (Maps.size D) (w.alloc (.cells #[.map (some b)] 97)) :=
    AnyZI.keys_gives (ρ := Tryz.keysM_ren) { Tryz.keysM with } Fence.wide _ trivial rfl (by omega) w.heap.size b _ D _ (by simp) (by simp) (by
      obtain ⟨es, clock, hb, Ft, hs, hD⟩ := h1
      exact ⟨es, clock, (Below.heap_alloc _ _ b hbl).trans hb, Ft, hs, hD⟩)
  have cK : ∀ mb W, CallsIn Fence.wide 5 Tryz.prog 93 #[.map mb] W fun e w' => e = .returned (.func (.func 129) #[] #[.pointer (some ⟨W.heap.size, 0, none⟩)]) ∧ w' = W.alloc (.cells #[.map mb] 97) := fun mb W => AnyZI.keys_in Tryz.keysM Fence.wide 5 trivial rfl mb W
  have cS := AnyZI.sorted_in Tryz.sortedA Fence.wide 5 trivial trivial trivial trivial rfl (by omega) (sorts16 _) (enters_of Tryz.func118 (by kernel_rfl) rfl) 129 #[.pointer (some ⟨w.heap.size, 0, none⟩)] trivial (enters_of Tryz.func129 (by kernel_rfl) rfl) _ _ (by rw [hsz]; unfold maxLen; omega) (by rw [hsz]; omega) _ hseq
  change CallsIn _ _ Tryz.prog 92 _ _ _ at cS
  have hfK : Fence.wide.fn 93 := trivial
  have hfS : Fence.wide.fn 92 := trivial
  have PP := Lib.hid PP
  clear hseq h1 h2 hn hsz
  refine callsIn_of_wp Tryz.func49 rfl trivial ?_ rfl
  simp only [Tryz.ntmps49, List.size_toArray, List.length_cons, List.length_nil, Nat.reduceAdd, Nat.reduceSub, Array.replicate_succ, Array.replicate_zero, List.push_toArray, List.append_toArray, List.nil_append, List.cons_append]
  gi_wp2_with (first
    | (gi_at_call 93; refine (cK _ _).mono ?_; rintro e w' ⟨rfl, rfl⟩)
    | (gi_at_call 92; refine cS.mono ?_; rintro e w' ⟨v, ss, rfl, hS, hrow, hnil, hb⟩))
  go_ret
  have e1 : ss.mergeSort (fun x y => decide (x ≤ y)) = sortI (es.map (·.1)) := mergeSort_of_perm_i (hS.trans PP.out.symm)
  rw [e1] at hrow
  have el : ss.length = (sortI (es.map (·.1))).length := by rw [← e1, List.length_mergeSort]
  rw [el] at hrow
  have ob := (Only.of_below hb).more (S' := fun k => w.heap.size ≤ k) (fun i _ q => by simp at q; omega)
  refine ⟨v, rfl, ?_, ?_⟩
  · show Owns _ _ _ _ _ _ _
    unfold Owns
    rw [one_map]
    exact ownsRow_base_a hrow (by simp)
  · exact (((Only.refl (fun k => w.heap.size ≤ k) w).alloc _).same ob).more (fun i hi q => absurd q (Nat.not_le.2 hi))
end Go.Proofs.YtfbpjobobdidiaaGreatDoor
