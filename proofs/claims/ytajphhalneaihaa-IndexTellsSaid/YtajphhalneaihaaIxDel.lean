/- What package index's Del answers. -/
import Derived.Test.YtajphhalneaihaaIxCalls
namespace Go.Proofs.Ytajphhalneaihaa
open Go.RowKit
set_option linter.unusedVariables false

theorem layAll_next {T R : List Pl} (g : Good T) (hc : cnt T + R.length < T.length) (hp : ∀ p ∈ R, p.taken = true ∧ 0 ≤ p.key ∧ p.key ≤ 1048576) (hn : (R.map (·.key)).Nodup) (hl : ∀ p ∈ R, Lacks T p.key) {k : Nat} {p : Pl} (h : R[k]? = some p) :
    Good (layAll T (R.take k)) ∧ Go.Proofs.Ytajphhalneaihaa.at_ (layAll T (R.take k)) (findP (layAll T (R.take k)) p.key) = Pl.none_ ∧ layAll T (R.take (k + 1)) = (layAll T (R.take k)).set (findP (layAll T (R.take k)) p.key) p := by
  have lt : k < R.length := (List.getElem?_eq_some_iff.1 h).1
  have sub : ∀ q ∈ R.take k, q ∈ R := fun q hq => List.mem_of_mem_take hq
  have nd : ((R.take k).map (·.key)).Nodup := by
    rw [List.map_take]
    exact hn.sublist (List.take_sublist _ _)
  obtain ⟨g1, c1, m1⟩ := layAll_good (R.take k) T g (by rw [List.length_take]; omega) (fun q hq => hp q (sub q hq)) nd (fun q hq => hl q (sub q hq))
  have pR := List.mem_of_getElem? h
  have lk : Lacks (layAll T (R.take k)) p.key := by
    intro q hq ht e
    rcases (m1 q ht).1 hq with a | a
    · obtain ⟨j, hj, ej⟩ := List.getElem_of_mem a
      rw [List.length_take] at hj
      rw [List.getElem_take] at ej
      unfold List.Nodup at hn
      rw [List.pairwise_iff_getElem] at hn
      have := hn j k (by simp; omega) (by simpa using lt) (by omega)
      rw [List.getElem_map, List.getElem_map, ej, e] at this
      have e2 : R[k] = p := (List.getElem?_eq_some_iff.1 h).2
      rw [e2] at this
      exact this rfl
    · exact hl p pR q a ht e
  have h0 := (g1.lacks_iff p.key).2 lk
  refine ⟨g1, g1.clean _ (findP_lt _ g1.gap) h0, ?_⟩
  rw [List.take_add_one, h]
  unfold layAll
  rw [List.foldl_append]
  rfl

theorem Owns.shape {α : Type} {w : World} {base : Nat} {e : TypeId} {k : Nat} {c : α → List Value} {v : Value} {xs : List α} (h : Owns w base e k c v xs) :
    ∃ a cap, v = .slice a xs.length cap ∧ (xs ≠ [] → ∃ g, a = some ⟨g, 0, none⟩ ∧ base ≤ g ∧ g < w.heap.size) := by
  rcases h.2 with ⟨hv, h2⟩ | ⟨g, cap, cur, hv, hg, hh, h3, h4, _⟩
  · exact ⟨none, 0, by rw [h2]; exact hv, fun hx => absurd (List.eq_nil_of_length_eq_zero h2) hx⟩
  · exact ⟨some ⟨g, 0, none⟩, cap, hv, fun _ => ⟨g, rfl, hg, (Array.getElem?_eq_some_iff.1 hh).1⟩⟩

set_option maxHeartbeats 4000000 in
theorem del_any (p b : Nat) (ps : List Pl) (key : Int) (w : World) (h : Ix w p b ps) (g : Good ps) :
    Calls Try.prog 14 #[.pointer (some ⟨p, 0, none⟩), .int .i64 key] w fun e w' => e = .returned (.bool (hasP ps key)) ∧ Puts p b (delP ps key) w w' := by
  have A := Lib.hid (find_any p b ps key w h g.gap g.clean)
  have lt := findP_lt key g.gap
  have n256 := h.pow.le.2
  have lp := h.head.lt
  have lb := h.row.lt
  unfold hasP
  by_cases ht : (Go.Proofs.Ytajphhalneaihaa.at_ ps (findP ps key)).taken = true
  · rw [ht]
    obtain ⟨z, em0⟩ := emptied g lt ht (Nat.le_refl _)
    have em : Emptied ps (findP ps key) (gone ps (findP ps key)).1 (gone ps (findP ps key)).2 z := em0
    clear em0
    obtain ⟨a1, a2, a3, a4, a5⟩ := em.all g lt ht
    have gT := em.good g lt
    have cg := cnt_of_gap g.gap
    have lenT := (em.cell lt).1
    have e : delP ps key = layAll (gone ps (findP ps key)).2 (gone ps (findP ps key)).1 := by unfold delP; rw [if_pos ht]
    rw [e]
    have NX := fun k q => layAll_next (k := k) (p := q) gT (by rw [lenT]; omega) a2 a3 a4
    have SM := em.far
    have c2 := cnt_clear lt ht
    have E1 := Lib.hid (empty_no p b _ _ w h lt ht)
    have L1 := Lib.hid (lift_any p b _ _ _ w h lt rfl ht)
    have L2 := Lib.hid (fun w2 (h2 : Ix w2 p b (ps.set (findP ps key) Pl.none_)) => liftFrom_any p b _ _ (cnt ps) w2 h2 (by rw [List.length_set]; exact sl_lt (k := 1) lt (by omega)) (clean_clear lt g.clean) (by omega))
    have AF := Lib.hid (fun w2 (h2 : Ix w2 p b (ps.set (findP ps key) Pl.none_)) => after_any p b _ (findP ps key) w2 h2 (by rw [List.length_set]; exact lt))
    simp only [List.length_set] at L2 AF
    change Hid (∀ w2, Ix w2 p b (ps.set (findP ps key) Pl.none_) → Calls _ _ _ w2 fun e w' => ∃ v, e = .returned v ∧ Lifts w2.heap.size p b (gone ps (findP ps key)).1 (gone ps (findP ps key)).2 w2 v w') at L2
    clear h g ht e a1 a3 a4 a5 gT cg em
    have NXH := Lib.hid NX
    have A2 := Lib.hid a2
    have LT := Lib.hid lenT
    clear a2 lenT NX c2
    generalize (gone ps (findP ps key)).1 = R at *
    generalize (gone ps (findP ps key)).2 = T at *
    generalize findP ps key = i at *
    go_enter Try.func14, Try.ntmps14
    go_wp2_with fail
    (with_reducible refine (A.out).mono ?_)
    rintro e w' ⟨rfl, rfl⟩
    go_wp2_with fail
    (with_reducible refine (E1.out).mono ?_)
    rintro e w' ⟨rfl, rfl⟩
    go_wp2_with fail
    (with_reducible refine (L1.out).mono ?_)
    rintro e w2 ⟨rfl, h2, o2⟩
    have H2 := Lib.hid h2
    have O2 := Lib.hid o2
    have sz2 := o2.size
    clear h2 o2
    go_wp2_with fail
    (with_reducible refine ((AF.out _ H2.out)).mono ?_)
    rintro e w' ⟨rfl, rfl⟩
    go_wp2_with fail
    (with_reducible refine ((L2.out _ H2.out)).mono ?_)
    rintro e w3 ⟨v, rfl, hv, h3, o3⟩
    obtain ⟨a, cap, rfl, hform⟩ := hv.shape
    have HV := Lib.hid hv
    have HF := Lib.hid hform
    have H3 := Lib.hid h3
    have O3 := Lib.hid (O2.out.same o3)
    clear hv hform h3 o3 H2 O2
    go_wp2_with fail
    go_loopw [23] (fun i wr => ∃ k : Nat, k ≤ R.length ∧ i = .int .i64 k ∧ Ix wr p b (layAll T (R.take k)) ∧ Owns wr w2.heap.size 55 3 Pl.cells (.slice a R.length cap) R ∧ Only (two p b) w wr) (fun i _ => R.length - (intOf i).toNat)
    case atStart => exact ⟨0, Nat.zero_le _, rfl, H3.out, HV.out, O3.out⟩
    case round =>
      obtain ⟨k, hk, rfl, hI, hV, hO⟩ := hrel
      have HI := Lib.hid hI
      have HO := Lib.hid hO
      have HW := Lib.hid hV
      clear hI hO hV HV H3 O3
      by_cases hlt : k < R.length
      · obtain ⟨q, hq⟩ : ∃ q, R[k]? = some q := ⟨_, List.getElem?_eq_getElem hlt⟩
        have qt := (A2.out q (List.mem_of_getElem? hq)).1
        obtain ⟨g1, e1, n1⟩ := NXH.out k q hq
        obtain ⟨g, rfl, hg, hg2⟩ := HF.out (by intro c; rw [c] at hlt; simp at hlt)
        have hgw := (HW.out.base_le (g := g) rfl).2
        have c0 := HW.out.cell pl3 hq (j := 0) (by decide)
        have c1 := HW.out.cell pl3 hq (j := 1) (by decide)
        have c2 := HW.out.cell pl3 hq (j := 2) (by decide)
        simp only [Pl.cells, List.getElem?_cons_zero, List.getElem?_cons_succ, Nat.add_zero, qt] at c0 c1 c2
        have QE := Lib.hid (show q = ⟨true, q.key, q.n⟩ by obtain ⟨x, y, z⟩ := q; simp only at qt; rw [qt])
        have LK := layAll_len (R.take k) T
        have lt1 := findP_lt q.key g1.gap
        have ltb := HI.out.row.lt
        have ltp := HI.out.head.lt
        have WF := Row.fresh wr 55 #[.bool true, .int .i64 q.key, .int .i64 q.n]
        have HIW := HI.out.alloc (.cells #[.bool true, .int .i64 q.key, .int .i64 q.n] 55)
        have HOW := HO.out.alloc (.cells #[.bool true, .int .i64 q.key, .int .i64 q.n] 55)
        have HWW := HW.out.still ((Only.refl none_ wr).alloc (.cells #[.bool true, .int .i64 q.key, .int .i64 q.n] 55))
        have N1 := Lib.hid n1
        have G1 := Lib.hid g1
        have E1' := Lib.hid e1
        have LT1 := Lib.hid lt1
        clear g1 e1 n1 LK lt1 hq qt
        generalize hqk : q.key = qk at *
        generalize hqn : q.n = qn at *
        clear hqk hqn
        obtain ⟨j, hj⟩ : ∃ j, findP (layAll T (R.take k)) qk = j := ⟨_, rfl⟩
        go_wp2_with fail
        generalize wr.alloc (.cells #[.bool true, .int .i64 qk, .int .i64 qn] 55) = W at *
        have F := Lib.hid ((find_any p b _ qk W.drew HIW.drew G1.out.gap G1.out.clean).mono (fun e w'' h => And.intro h.1 h.2.symm))
        have L := Lib.hid (lay_new p b _ _ qk qn W.drew HIW.drew LT1.out E1'.out)
        have d0 := (WF.drew).cell 0
        have d1 := (WF.drew).cell 1
        have d2 := (WF.drew).cell 2
        simp only [List.getElem?_toArray, List.getElem?_cons_zero, List.getElem?_cons_succ] at d0 d1 d2
        have HOD := Lib.hid HOW.drew
        have HWD := Lib.hid (HWW.still (Only.refl none_ W).drew)
        have JE := Lib.hid hj
        rw [hj] at F L
        clear HIW HOW HWW WF hj
        refine wp_region_still_tail 6 (by kernel_rfl) (by kernel_rfl) ?_
        change wpStill _ _ (World.drew W) (fun a' => wpList _ _ _ _ a' (World.drew W)) _ _
        simp only [List.take_succ_cons, List.take_zero, List.drop_succ_cons, List.drop_zero]
        generalize World.drew W = W2 at *
        repeat still_step
        still_call F.out
        repeat still_step
        refine wpStill_nil ?_
        go_wp2_with fail
        (with_reducible refine (L.out).mono ?_)
        rintro e w4 ⟨rfl, h4, o4⟩
        go_wp2_with fail
        go_roundw
        case rel => exact ⟨k + 1, by omega, by go_num, by rw [N1.out, QE.out, JE.out]; exact h4, HWD.out.keep o4 (fun g' hg' => by have := (HWD.out.base_le hg').1; simp only [two]; omega), HOD.out.same o4⟩
        case measure => simp [intOf]; omega
      · have e : R.take k = R := List.take_of_length_le (by omega)
        have h5 := HI.out
        rw [e] at h5
        have H5 := Lib.hid h5
        have hge : R.length ≤ k := by omega
        clear e h5 HI
        go_wp2_with fail
        go_ret
        exact ⟨rfl, H5.out, HO.out⟩
  · have hn := g.clean _ lt (by simpa using ht)
    have e : delP ps key = ps := by unfold delP; rw [if_neg ht]
    have e2 : (Go.Proofs.Ytajphhalneaihaa.at_ ps (findP ps key)).taken = false := by simpa using ht
    rw [e, e2]
    have E1 := Lib.hid (empty_yes p b _ _ w h lt hn)
    have H := Lib.hid h
    clear h g ht hn e e2
    generalize findP ps key = i at *
    go_enter Try.func14, Try.ntmps14
    go_wp2_with fail
    (with_reducible refine (A.out).mono ?_)
    rintro e w' ⟨rfl, rfl⟩
    go_wp2_with fail
    (with_reducible refine (E1.out).mono ?_)
    rintro e w' ⟨rfl, rfl⟩
    go_wp2_with fail
    go_ret
    exact ⟨rfl, H.out, Only.refl _ _⟩
end Go.Proofs.Ytajphhalneaihaa
