/- What package index lifts from a place on: by a goto. -/
import Derived.Test.YtajphhalneaihaaIxOps
import Derived.Test.YtajphhalneaihaaOwn
namespace Go.Proofs.Ytajphhalneaihaa
open Go.RowKit
set_option linter.unusedVariables false

theorem info_place : (Try.prog.info? 55).map (fun i => (i.zero, i.size, i.bytes)) = some (some (.agg #[.bool false, .int .i64 0, .int .i64 0]), 3, 24) := by kernel_rfl
theorem pl_one : ∀ y : Pl, ∀ u ∈ y.cells, u.oneCell' = true := by
  intro y u hu
  simp only [Pl.cells, List.mem_cons, List.not_mem_nil, or_false] at hu
  rcases hu with rfl | rfl | rfl <;> rfl
/-- what lay from a place on is handed back; the table lacks it -/
def Lifts (base p b : Nat) (R T : List Pl) (w : World) (v : Value) (w' : World) : Prop := Owns w' base 55 3 Pl.cells v R ∧ Ix w' p b T ∧ Only (two p b) w w'
theorem clean_clear {ps : List Pl} {i : Nat} (hi : i < ps.length) (h : Clean ps) : Clean (ps.set i Pl.none_) := by
  intro j hj ht
  rw [List.length_set] at hj
  rw [at_set hi] at ht ⊢
  split
  · rfl
  · rename_i c
    rw [if_neg c] at ht
    exact h j hj ht

set_option maxHeartbeats 2000000 in
theorem liftFrom_any (p b : Nat) (ps : List Pl) (i0_ f : Nat) (w : World) (h : Ix w p b ps) (hi : i0_ < ps.length) (hc : Clean ps) (hf : cnt ps ≤ f) :
    Calls Try.prog 33 #[.pointer (some ⟨p, 0, none⟩), .int .i64 i0_] w fun e w' => ∃ v, e = .returned v ∧ Lifts w.heap.size p b (lift f ps i0_).1 (lift f ps i0_).2 w v w' := by
  obtain ⟨i0, hi0, hz0, hz1, hz2⟩ := info_parts info_place
  have I0 := Lib.hid hi0
  have I1 := Lib.hid hz0
  have I2 := Lib.hid hz1
  have I3 := Lib.hid hz2
  have n256 := h.pow.le.2
  have lt := h.head.lt
  have lb := h.row.lt
  have HI := Lib.hid h
  have HL := Lib.hid hi
  have HC := Lib.hid hc
  have HF := hf
  have HW := Lib.hid (Owns.start w w.heap.size 55 3 Pl.cells)
  have HO := Lib.hid (Only.refl (two p b) w)
  have LA := Lib.hid (show ([] : List Pl).length + cnt ps ≤ ps.length by have := cnt_le ps; simp; omega)
  clear h hi hc hi0 hz0 hz1 hz2 hf
  go_enter Try.func33, Try.ntmps33
  go_wp2
  refine wp_scope_jumps 0 (fun a' w' => ∃ (s : List Pl) (i g : Nat) (acc : List Pl) (v u2 u3 u6 u7 u8 u9 u10 u11 u12 u13 u14 u15 u16 u17 u18 : Value), a' = { tmps := #[.pointer (some ⟨p, 0, none⟩), .int .i64 i, u2, u3, .slice none 0 0, v, u6, u7, u8, u9, u10, u11, u12, u13, u14, u15, u16, u17, u18], defers := [] } ∧ Ix w' p b s ∧ i < s.length ∧ s.length = ps.length ∧ Clean s ∧ cnt s ≤ g ∧ acc.length + cnt s ≤ ps.length ∧ Owns w' w.heap.size 55 3 Pl.cells v acc ∧ Only (two p b) w w' ∧ acc ++ (lift g s i).1 = (lift f ps i0_).1 ∧ (lift g s i).2 = (lift f ps i0_).2) (fun a' w' => (intOf' ((w'.cell? ⟨p, 1, none⟩).getD undef)).toNat) rfl ?_ ?_
  · go_wp2_with fail
    go_step3
    by_cases ht : (at_ ps i0_).taken = true
    · have E1 := Lib.hid (empty_no p b _ _ _ HI.out HL.out ht)
      have L1 := Lib.hid (lift_any p b _ _ _ _ HI.out HL.out rfl ht)
      have cc := cnt_clear HL.out ht
      obtain ⟨f', ef⟩ : ∃ f', f = f' + 1 := ⟨f - 1, by have := cnt_pos HL.out ht; omega⟩
      have LS := Lib.hid (lift_some (f := f') ht)
      have HT := Lib.hid ht
      have CC := Lib.hid cc
      have EF := Lib.hid ef
      clear ht cc ef
      go_wp2_with fail
      (with_reducible refine (E1.out).mono ?_)
      rintro e w2 ⟨rfl, rfl⟩
      go_wp2_with fail
      (with_reducible refine (L1.out).mono ?_)
      rintro e w2 ⟨rfl, h2, o2⟩
      have O2 := Lib.hid (HO.out.same o2)
      have W2 := Lib.hid (HW.out.keep o2 (fun g hg => by have := (HW.out.base_le hg).1; simp only [two]; omega))
      have B2 := Lib.hid (sl_lt (k := 1) HL.out (by have := HL.out; omega))
      have H2 := Lib.hid (h2.alloc (.cells #[.bool true, .int .i64 (at_ ps i0_).key, .int .i64 (at_ ps i0_).n] 55))
      have sz : w.heap.size ≤ (w2.alloc (.cells #[.bool true, .int .i64 (at_ ps i0_).key, .int .i64 (at_ ps i0_).n] 55)).heap.size := by have := O2.out.size; simp; omega
      have RF := Lib.hid (Row.fresh w2 55 #[.bool true, .int .i64 (at_ ps i0_).key, .int .i64 (at_ ps i0_).n])
      have EC := Lib.hid (show (#[.bool true, .int .i64 (at_ ps i0_).key, .int .i64 (at_ ps i0_).n] : Array Value) = (at_ ps i0_).cells.toArray by unfold Pl.cells; rw [HT.out])
      clear h2 o2
      generalize hkk : (at_ ps i0_).key = kk at *
      generalize hnn : (at_ ps i0_).n = nn at *
      clear hkk hnn L1
      go_wp2_with (at_builtin; go_loud (refine wpList_append_one rfl (.tmp 10) (.tmp 14) 47 rfl (c := Pl.cells) i0 _ 24 Try.underlying47 I0.out I1.out I2.out I3.out rfl (by decide) pl3 pl_one rfl (W2.out.still ((Only.refl _ _).alloc _)) (y := at_ ps i0_) rfl (by rw [← EC.out]; exact RF.out) (by have := LA.out; omega) (by have := LA.out; omega) sz ?_); intro v5 w5 hown5 hO5)
      have W5 := Lib.hid hown5
      have O5 := Lib.hid (((O2.out.alloc (.cells #[.bool true, .int .i64 kk, .int .i64 nn] 55)).trans hO5 (fun j hj q => by omega)))
      have H5 := H2.out.keep hO5 (by omega) (by omega)
      have AF := after_any p b _ i0_ w5 H5 (by simpa using HL.out)
      rw [List.length_set] at AF
      have AF := Lib.hid AF
      have H5 := Lib.hid H5
      clear hown5 hO5
      go_wp2_with fail
      (with_reducible refine (AF.out).mono ?_)
      rintro e w2' ⟨rfl, rfl⟩
      go_wp2_with fail
      go_step3
      (try simp only [Exit.jump])
      have LS2 := LS.out
      rw [← EF.out] at LS2
      have LS3 := congrArg Prod.fst LS2
      have LS4 := congrArg Prod.snd LS2
      simp only at LS3 LS4
      exact ⟨rfl, _, _, f', _, v5, _, _, _, _, _, _, _, _, _, _, _, _, _, _, _, rfl, H5.out, by simpa using B2.out, by simp, clean_clear HL.out HC.out, by have := CC.out; have := EF.out; omega, by have := CC.out; have := LA.out; simp at this ⊢; omega, W5.out, O5.out, by rw [LS3]; rfl, by rw [LS4]⟩
    · have e0 := HC.out _ HL.out (by simpa using ht)
      have E1 := Lib.hid (empty_yes p b _ _ _ HI.out HL.out e0)
      have LN := Lib.hid (lift_none (f := f) (s := ps) (i := i0_) (by rw [e0]; rfl))
      clear ht e0
      go_wp2_with fail
      (with_reducible refine (E1.out).mono ?_)
      rintro e w2 ⟨rfl, rfl⟩
      go_wp2_with fail
      (try simp only [Exit.jump])
      go_ret
      exact ⟨_, rfl, by unfold Lifts; rw [LN.out]; exact ⟨HW.out, HI.out, HO.out⟩⟩
  · rintro a' w' ⟨s, i, g, acc, v, u2, u3, u6, u7, u8, u9, u10, u11, u12, u13, u14, u15, u16, u17, u18, rfl, hI, hL, hs, hC, hF', hA, hW, hO, e1, e2⟩
    clear HI HL HC HF HW HO LA
    have HI := Lib.hid hI
    have HL := Lib.hid hL
    have HC := Lib.hid hC
    have HF := hF'
    have HW := Lib.hid hW
    have HO := Lib.hid hO
    have LA := Lib.hid hA
    have LEN := Lib.hid hs
    have EQ1 := Lib.hid e1
    have EQ2 := Lib.hid e2
    have kd := hI.kd
    have KD := Lib.hid kd
    have n256' : s.length ≤ 256 := by omega
    clear hI hL hC hF' hW hO hA hs e1 e2 kd
    go_wp2_with fail
    by_cases ht : (at_ s i).taken = true
    · have E1 := Lib.hid (empty_no p b _ _ _ HI.out HL.out ht)
      have L1 := Lib.hid (lift_any p b _ _ _ _ HI.out HL.out rfl ht)
      have cc := cnt_clear HL.out ht
      obtain ⟨f', ef⟩ : ∃ f', g = f' + 1 := ⟨g - 1, by have := cnt_pos HL.out ht; omega⟩
      have LS := Lib.hid (lift_some (f := f') ht)
      have HT := Lib.hid ht
      have CC := Lib.hid cc
      have EF := Lib.hid ef
      clear ht cc ef
      go_wp2_with fail
      (with_reducible refine (E1.out).mono ?_)
      rintro e w2 ⟨rfl, rfl⟩
      go_wp2_with fail
      (with_reducible refine (L1.out).mono ?_)
      rintro e w2 ⟨rfl, h2, o2⟩
      have O2 := Lib.hid (HO.out.same o2)
      have W2 := Lib.hid (HW.out.keep o2 (fun g hg => by have := (HW.out.base_le hg).1; simp only [two]; omega))
      have B2 := Lib.hid (sl_lt (k := 1) HL.out (by have := HL.out; omega))
      have H2 := Lib.hid (h2.alloc (.cells #[.bool true, .int .i64 (at_ s i).key, .int .i64 (at_ s i).n] 55))
      have sz : w.heap.size ≤ (w2.alloc (.cells #[.bool true, .int .i64 (at_ s i).key, .int .i64 (at_ s i).n] 55)).heap.size := by have := O2.out.size; simp; omega
      have RF := Lib.hid (Row.fresh w2 55 #[.bool true, .int .i64 (at_ s i).key, .int .i64 (at_ s i).n])
      have EC := Lib.hid (show (#[.bool true, .int .i64 (at_ s i).key, .int .i64 (at_ s i).n] : Array Value) = (at_ s i).cells.toArray by unfold Pl.cells; rw [HT.out])
      clear h2 o2
      generalize hkk : (at_ s i).key = kk at *
      generalize hnn : (at_ s i).n = nn at *
      clear hkk hnn L1
      go_wp2_with (at_builtin; go_loud (refine wpList_append_one rfl (.tmp 10) (.tmp 14) 47 rfl (c := Pl.cells) i0 _ 24 Try.underlying47 I0.out I1.out I2.out I3.out rfl (by decide) pl3 pl_one rfl (W2.out.still ((Only.refl _ _).alloc _)) (y := at_ s i) rfl (by rw [← EC.out]; exact RF.out) (by have := LA.out; omega) (by have := LA.out; omega) sz ?_); intro v5 w5 hown5 hO5)
      have W5 := Lib.hid hown5
      have O5 := Lib.hid (((O2.out.alloc (.cells #[.bool true, .int .i64 kk, .int .i64 nn] 55)).trans hO5 (fun j hj q => by omega)))
      have H5 := H2.out.keep hO5 (by omega) (by omega)
      have AF := after_any p b _ i w5 H5 (by simpa using HL.out)
      rw [List.length_set] at AF
      have AF := Lib.hid AF
      have H5 := Lib.hid H5
      clear hown5 hO5
      go_wp2_with fail
      (with_reducible refine (AF.out).mono ?_)
      rintro e w2' ⟨rfl, rfl⟩
      go_wp2_with fail
      go_step3
      (try simp only [Exit.jump])
      have LS2 := LS.out
      rw [← EF.out] at LS2
      have LS3 := congrArg Prod.fst LS2
      have LS4 := congrArg Prod.snd LS2
      simp only at LS3 LS4
      exact ⟨rfl, ⟨_, _, f', _, v5, _, _, _, _, _, _, _, _, _, _, _, _, _, _, _, rfl, H5.out, by simpa using B2.out, by simpa using LEN.out, clean_clear HL.out HC.out, by have := CC.out; have := EF.out; omega, by have := CC.out; have := LA.out; simp at this ⊢; omega, W5.out, O5.out, by rw [← EQ1.out, LS3]; simp, by rw [← EQ2.out, LS4]⟩, by rw [H5.out.kd, KD.out]; have := CC.out; simp [intOf']; omega⟩
    · have e0 := HC.out _ HL.out (by simpa using ht)
      have E1 := Lib.hid (empty_yes p b _ _ _ HI.out HL.out e0)
      have LN := Lib.hid (lift_none (f := g) (s := s) (i := i) (by rw [e0]; rfl))
      clear ht e0
      go_wp2_with fail
      (with_reducible refine (E1.out).mono ?_)
      rintro e w2 ⟨rfl, rfl⟩
      go_wp2_with fail
      (try simp only [Exit.jump])
      go_ret
      exact ⟨_, rfl, by unfold Lifts; rw [← EQ1.out, ← EQ2.out, LN.out, List.append_nil]; exact ⟨HW.out, HI.out, HO.out⟩⟩
end Go.Proofs.Ytajphhalneaihaa
