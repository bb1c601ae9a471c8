/- Package fetch's Tickets: all tickets as they are told. -/
import Derived.Test.YtfbpjobobdidiaaGreatDoorRi16
import Derived.Test.YtfbpjobobdidiaaGreatDoorRy16
namespace Go.Proofs.YtfbpjobobdidiaaGreatDoor
open Go.RowKit Go.Maps Go.Sort Go.Shelf
set_option linter.unusedVariables false
set_option maxRecDepth 100000
/-- a ticket and how many wait for it, cell by cell -/
def tkC (q : Tk × Int) : List Value := [.int .i64 q.1.id, .int .i64 q.1.kind, .int .i64 q.1.b, .int .i64 q.1.l, .int .i64 q.1.tries, .int .i64 q.2, .bool q.1.out, .bool q.1.fr, .bool q.1.cut]
theorem tkC9 (q : Tk × Int) : (tkC q).length = 9 := rfl
theorem tkC_one : ∀ y, ∀ u ∈ tkC y, u.oneCell' = true := by
  intro y u hu
  simp only [tkC, List.mem_cons, List.not_mem_nil, or_false] at hu
  rcases hu with rfl | rfl | rfl | rfl | rfl | rfl | rfl | rfl | rfl <;> rfl
theorem info_tk9 : (Tryz.prog.info? 54).map (fun i => (i.zero, i.size, i.bytes)) = some (some noTk, 9, 56) := by kernel_rfl
abbrev OwnsTk (w : World) (base : Nat) (v : Value) (xs : List (Tk × Int)) : Prop := Owns w base 54 9 tkC v xs
theorem sort_sorted {l : List Int} (h : l.Pairwise (fun a b => a < b)) : sortI l = l := List.mergeSort_of_pairwise (h.imp (fun hab => by unfold leI; simp; omega))
/-- each ticket with how many wait for it -/
def Eng.tells (E : Eng) : List (Tk × Int) := E.ts.map (fun t => (t, E.cnt t.id))
section
variable {p : Nat} {c : Nat → Nat} {X : Loc} {F H : Nat} {ks : List Tk} {E : Eng}
set_option maxHeartbeats 4000000 in
theorem etickets_any (w : World) (h : EP w p c X F H ks E) (ids : E.ts.Pairwise (fun a b => a.id < b.id)) :
    Calls Tryz.prog 18 #[ptrTo p] w fun e w' => ∃ v, e = .returned v ∧ OwnsTk w' w.heap.size v E.tells ∧ Only none_ w w' := by
  have c17 : w.cell? ⟨p, 17, none⟩ = some (.map (some X.bt)) := h.cell 17
  have RS := rising_tk w X.bt _ h.eo.tm (by rw [List.length_map]; have := h.few; omega)
  rw [show (E.ts.map (tkEnt X.A)).map (·.1) = E.ts.map (·.id) from by rw [List.map_map]; rfl, sort_sorted (by rw [List.pairwise_map]; exact ids)] at RS
  have RS := Lib.hid RS
  have LH : E.ts.length ≤ 128 := h.few
  have H0 := Lib.hid h
  have ONC := Lib.hid h.once
  unfold Eng.tells
  generalize hts : E.ts = hs at *
  have INS := Lib.hid (fun t (ht : t ∈ hs) => show t ∈ E.ts from by rw [hts]; exact ht)
  have ONC := Lib.hid (show E.ts.Pairwise (fun s t => s.id ≠ t.id) from by rw [hts]; exact ONC.out)
  obtain ⟨i0, hi0, hz0, hz1, hz2⟩ := info_parts info_tk9
  have I0 := Lib.hid hi0
  have I1 := Lib.hid hz0
  have I2 := Lib.hid hz1
  have I3 := Lib.hid hz2
  clear hi0 hz0 hz1 hz2 h hts ids
  unfold ptrTo
  go_enter Tryz.func18, Tryz.ntmps18
  go_wp2_with fail
  (with_reducible refine (RS.out).mono ?_)
  rintro e w1 ⟨v1, rfl, own1, o1⟩
  have rd1 := Reads.of_owns own1
  obtain ⟨ra, rc, rfl, rd⟩ := rd1
  have O1 := Lib.hid o1
  have RD := Lib.hid rd
  rw [List.length_map]
  clear rd own1 o1
  go_wp2_with fail
  go_loopw [3, 5, 12] (fun v _ i wr => ∃ k : Nat, k ≤ hs.length ∧ i = .int .i64 k ∧ OwnsTk wr w1.heap.size v ((hs.take k).map (fun t => (t, E.cnt t.id))) ∧ Only none_ w1 wr) (fun _ _ i _ => hs.length - (intOf i).toNat)
  case atStart => exact ⟨0, Nat.zero_le _, rfl, Owns.start _ _ _ _ _, Only.refl _ _⟩
  case round =>
    obtain ⟨k, hk, rfl, hv, ho⟩ := hrel
    have HV := Lib.hid hv
    have HO := Lib.hid ho
    clear hv ho
    by_cases hlt : k < hs.length
    · have t1 : decide (k < hs.length) = true := decide_eq_true hlt
      obtain ⟨t, ht⟩ : ∃ t, hs[k]? = some t := ⟨_, List.getElem?_eq_getElem hlt⟩
      have tm := INS.out t (List.mem_of_getElem? ht)
      have hw0 := (H0.out.still (O1.out.same HO.out))
      have rdw := (show Reads w1 (.slice ra (hs.map (·.id)).length rc) (hs.map (·.id)) from ⟨ra, rc, rfl, RD.out⟩).still HO.out
      obtain ⟨ra', rc', e1, rd'⟩ := rdw
      obtain ⟨g, ao, e2, ck⟩ := rd' k t.id (by rw [List.getElem?_map, ht]; rfl)
      cases e1
      subst e2
      have c17 : wr.cell? ⟨p, 17, none⟩ = some (.map (some X.bt)) := hw0.cell 17
      have tid := H0.out.idr t (H0.out.sub t tm)
      have wx : (Lit.int .i64 t.id).wf = true := wf_i _ (by have := H0.out.ntH; have := H0.out.hH; omega)
      have LK := hw0.eo.tm.look Tryz.underlying96 (zeroPtr wr) wx
      rw [at16_tk, at16_mem ONC.out tm] at LK
      have r := hw0.rowOf tm
      have TD := etold_any t (X.A t.id) wr hw0 r
      obtain ⟨gt, hgt⟩ : ∃ gt, X.A t.id = gt := ⟨_, rfl⟩
      unfold optPtr ptrTo at LK
      unfold ptrTo Tk.told at TD
      simp only [hgt] at LK TD
      have TD := Lib.hid TD
      have TKE := Lib.hid (show (hs.take (k + 1)).map (fun t => (t, E.cnt t.id)) = (hs.take k).map (fun t => (t, E.cnt t.id)) ++ [(t, E.cnt t.id)] from by rw [List.take_add_one, ht, List.map_append]; rfl)
      have TL := Lib.hid (show ((hs.take k).map (fun t => (t, E.cnt t.id))).length ≤ 256 from by rw [List.length_map, List.length_take]; omega)
      clear hw0 rd' tid wx hgt tm ht r
      go_wp2_with fail
      (with_reducible refine TD.out.mono ?_)
      rintro e w2 ⟨rfl, o2⟩
      have HV1 := Lib.hid (HV.out.still o2)
      have HO1 := Lib.hid (HO.out.same o2)
      clear o2 TD
      obtain ⟨W2, hW2⟩ : ∃ W, W = w2.alloc (.cells #[.int .i64 t.id, .int .i64 t.kind, .int .i64 t.b, .int .i64 t.l, .int .i64 t.tries, .int .i64 (E.cnt t.id), .bool t.out, .bool t.fr, .bool t.cut] 54) := ⟨_, rfl⟩
      have oa : Only none_ w2 W2 := by rw [hW2]; exact (Only.refl _ _).alloc _
      have RF := Lib.hid (show Row W2 w2.heap.size 54 (tkC (t, E.cnt t.id)).toArray from by rw [hW2]; exact Row.fresh _ _ _)
      have HV2 := Lib.hid (HV1.out.still oa)
      have HO2 := Lib.hid (HO1.out.same oa)
      have sz := HO2.out.size
      have l1 : ((hs.take k).map (fun t => (t, E.cnt t.id))).length < 9223372036854775807 := by have := TL.out; omega
      have l2 : (((hs.take k).map (fun t => (t, E.cnt t.id))).length + 1) * 56 ≤ 140737488355328 := by have := TL.out; omega
      clear oa
      go_wp2_with (at_builtin; go_loud (first | rw [← hW2] | skip); (refine wpList_append_one rfl (.tmp 16) (.tmp 25) 51 rfl i0 _ 56 Tryz.underlying51 I0.out I1.out I2.out I3.out rfl (by decide) tkC9 tkC_one rfl HV2.out rfl RF.out l1 l2 sz ?_))
      intro v7 w7 own7 o7
      rw [← hW2] at o7
      have o7' : Only none_ w1 w7 := HO2.out.trans o7 (fun i hi s => absurd s (Nat.not_le.2 hi))
      have OW7 := Lib.hid own7
      have OO7 := Lib.hid o7'
      clear own7 o7 o7' hW2
      go_wp2_with fail
      go_roundw
      case rel => exact ⟨k + 1, by omega, by go_num, by rw [TKE.out, List.map_take]; exact OW7.out, OO7.out⟩
      case measure => simp [intOf]; omega
    · have t1 : decide (k < hs.length) = false := decide_eq_false hlt
      obtain rfl : k = hs.length := by omega
      go_wp2_with fail
      go_ret
      have q := HV.out
      rw [List.take_length] at q
      exact ⟨_, rfl, q.lower11 O1.out.size, O1.out.same HO.out⟩
end
end Go.Proofs.YtfbpjobobdidiaaGreatDoor
