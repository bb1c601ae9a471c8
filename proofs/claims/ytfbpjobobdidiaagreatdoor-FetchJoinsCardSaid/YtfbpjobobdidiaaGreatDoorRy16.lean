/- Package fetch's readyWith: the blocks whose heads could go out with one of a kind. -/
import Derived.Test.YtfbpjobobdidiaaGreatDoorGrpO
import Derived.Test.YtfbpjobobdidiaaGreatDoorGrpB
import Derived.Test.YtfbpjobobdidiaaGreatDoorGrpD
namespace Go.Proofs.YtfbpjobobdidiaaGreatDoor
open Go.RowKit Go.Maps
set_option linter.unusedVariables false
set_option maxRecDepth 100000

theorem wpList_append_one16 {α : Type} {P : Program} {w : World} {ops : Array Oper} {rest : List Oper} {o : Oper} {a : Act} {Q : Exit → Act → World → Prop} (hgd : o.guard = none) (s x : Operand) (t : TypeId)
    (ho : o.op = .call { callee := .builtin .append, args := #[s, x], argTypes := #[t, t] })
    {base : Nat} {e : TypeId} {k : Nat} {c : α → List Value} (i : TypeInfo) (z : Value) (bytes : Nat) (ht : P.underlying t = some (.slice e)) (hi : P.info? e = some i) (hz : i.zero = some z)
    (hsize : i.size = k) (hby : i.bytes = bytes) (hzs : z.cells.size = k) (hk0 : 0 < k) (hk : ∀ y, (c y).length = k) (h1 : ∀ y, ∀ u ∈ c y, u.oneCell' = true)
    {v : Value} {xs : List α} (hs : a.eval s = v) (hown : Owns w base e k c v xs)
    {g cc : Nat} {y : α} (hx : a.eval x = .slice (some ⟨g, 0, none⟩) 1 cc) (hrow : Row w g e (c y).toArray)
    (hlen : xs.length < 9223372036854775807) (hbytes : (xs.length + 1) * bytes ≤ 140737488355328) (hbase : base ≤ w.heap.size)
    (h : ∀ v' w', Owns w' base e k c v' (xs ++ [y]) → Only (fun j => some j = v.ownBlock) w w' → (v'.ownBlock = v.ownBlock ∨ v'.ownBlock = some w.heap.size) → wpList P ops Q rest (a.put o.dst v') w') : wpList P ops Q (o :: rest) a w := by
  refine wpList_plain hgd fun K' hK' => ?_
  have news : ∀ j u, (c y)[j]? = some u → w.cell? ((⟨g, 0, none⟩ : Addr).add j) = some u := fun j u hj => by
    rw [add12, Nat.zero_add, hrow.cell, List.getElem?_toArray]
    exact hj
  obtain ⟨v', w', hrun, r1, r2, _, r4⟩ := run_append_own_at (P := P) w base t o.type e i z k bytes ht hi hz hsize hby hzs hk0 v xs.length (xs.flatMap c) hown ⟨g, 0, none⟩ 1 cc (c y) (by rw [hk]; omega) news (h1 y) (by unfold maxLen; omega) hbytes hbase
  unfold Oper.wp
  simp [execOp, ho, resolve, invoke, builtin, hs, hx, hrun, Result.andThen]
  refine hK' _ _ (h v' w' ?_ (Only.of_grown r2) r4)
  unfold Owns
  rw [List.flatMap_append, List.length_append]
  simpa using r1
section
variable {p : Nat} {c : Nat → Nat} {X : Loc} {F H : Nat} {ks : List Tk} {E : Eng}
def Eng.heads (E : Eng) : List Tk := (List.range E.o.b0.toNat).filterMap (fun b : Nat => E.head b)
theorem heads_tk (E : Eng) : headsL (E.ts.map Tk.sd) E.o.b0.toNat = E.heads.map (·.id) := by
  unfold headsL Eng.heads
  rw [List.map_filterMap]
  congr 1
  funext b
  rw [lane_sd, List.head?_map]
  rfl
theorem heads_in {E : Eng} {t : Tk} (h : t ∈ E.heads) : t ∈ E.ts := by
  unfold Eng.heads at h
  obtain ⟨b, hb, e⟩ := List.mem_filterMap.1 h
  exact (head_in e).1
def goes (kind : Int) (t : Tk) : Bool := !t.out && (t.kind == kind)
set_option maxHeartbeats 4000000 in
theorem eready_any (kind : Int) (w : World) (h : EP w p c X F H ks E) :
    Calls Tryz.prog 101 #[ptrTo p, .int .i64 kind] w fun e w' => ∃ v u, e = .returned (.tuple #[v, u]) ∧ OwnsInts w' w.heap.size v ((E.ready kind).map (·.b)) ∧ OwnsInts w' w.heap.size u (((E.ready kind).filter (·.needs)).map (·.b)) ∧ Only none_ w w' := by
  have c14 : w.cell? ⟨p, 14, none⟩ = some (.pointer (some ⟨X.pl, 0, none⟩)) := h.cell 14
  have HH := lheads_any w h.eo.ln h.bd.2 h.bd.1
  rw [heads_tk] at HH
  have HH := Lib.hid HH
  have LH : E.heads.length ≤ 256 := by
    have := h.may
    unfold Opt.MayC at this
    have h2 := List.length_filterMap_le (fun b : Nat => E.head b) (List.range E.o.b0.toNat)
    rw [List.length_range] at h2
    unfold Eng.heads
    omega
  have RE : E.ready kind = E.heads.filter (goes kind) := rfl
  rw [RE]
  have H0 := Lib.hid h
  have ONC := Lib.hid h.once
  clear RE
  generalize hts : E.heads = hs at *
  have INS := Lib.hid (fun t (ht : t ∈ hs) => show t ∈ E.ts from heads_in (by rw [hts]; exact ht))
  obtain ⟨i0, hi0, hz0, hz1, hz2⟩ := info_parts info_int8
  have I0 := Lib.hid hi0
  have I1 := Lib.hid hz0
  have I2 := Lib.hid hz1
  have I3 := Lib.hid hz2
  clear hi0 hz0 hz1 hz2 h hts
  unfold ptrTo
  go_enter Tryz.func101, Tryz.ntmps101
  go_wp2_with fail
  (with_reducible refine (HH.out).mono ?_)
  rintro e w1 ⟨v1, rfl, own1, o1⟩
  have rd1 := Reads.of_owns own1
  obtain ⟨ra, rc, rfl, rd⟩ := rd1
  have O1 := Lib.hid o1
  have RD := Lib.hid rd
  rw [List.length_map]
  clear rd own1 o1
  go_wp2_with fail
  go_loopw [4, 5, 7, 8, 15] (fun v u _ _ i wr => ∃ k : Nat, k ≤ hs.length ∧ i = .int .i64 k ∧ OwnsInts wr w1.heap.size v (((hs.take k).filter (goes kind)).map (·.b)) ∧ OwnsInts wr w1.heap.size u ((((hs.take k).filter (goes kind)).filter (·.needs)).map (·.b)) ∧ (∀ g, v.ownBlock = some g → u.ownBlock ≠ some g) ∧ Only none_ w1 wr) (fun _ _ _ _ i _ => hs.length - (intOf i).toNat)
  case atStart => exact ⟨0, Nat.zero_le _, rfl, Owns.start _ _ _ _ _, Owns.start _ _ _ _ _, fun g hg => (by cases hg), Only.refl _ _⟩
  case round =>
    obtain ⟨k, hk, rfl, hv, hu, ap, ho⟩ := hrel
    have HV := Lib.hid hv
    have HU := Lib.hid hu
    have AP := Lib.hid ap
    have HO := Lib.hid ho
    clear hv hu ap ho
    by_cases hlt : k < hs.length
    · obtain ⟨t, ht⟩ : ∃ t, hs[k]? = some t := ⟨_, List.getElem?_eq_getElem hlt⟩
      have tm := INS.out t (List.mem_of_getElem? ht)
      have hw0 := (H0.out.still (O1.out.same HO.out))
      have rdw := (show Reads w1 (.slice ra (hs.map (·.id)).length rc) (hs.map (·.id)) from ⟨ra, rc, rfl, RD.out⟩).still HO.out
      obtain ⟨ra', rc', e1, rd'⟩ := rdw
      obtain ⟨g, ao, e2, ck⟩ := rd' k t.id (by rw [List.getElem?_map, ht]; rfl)
      cases e1
      subst e2
      have c14 : wr.cell? ⟨p, 14, none⟩ = some (.pointer (some ⟨X.pl, 0, none⟩)) := hw0.cell 14
      have c17 : wr.cell? ⟨p, 17, none⟩ = some (.map (some X.bt)) := hw0.cell 17
      have tid := H0.out.idr t (H0.out.sub t tm)
      have wx : (Lit.int .i64 t.id).wf = true := wf_i _ (by have := H0.out.ntH; have := H0.out.hH; omega)
      have LK := hw0.eo.tm.look Tryz.underlying96 (zeroPtr wr) wx
      rw [at16_tk, at16_mem ONC.out tm] at LK
      have r := hw0.rowOf tm
      obtain ⟨gt, hgt⟩ : ∃ gt, X.A t.id = gt := ⟨_, rfl⟩
      unfold optPtr ptrTo at LK
      simp only [hgt] at LK r
      have R := Lib.hid r
      have c1 : wr.cell? ⟨gt, 1, none⟩ = some (.int .i64 t.kind) := r.cell 1
      have c2 : wr.cell? ⟨gt, 2, none⟩ = some (.int .i64 t.b) := r.cell 2
      have c6 : wr.cell? ⟨gt, 6, none⟩ = some (.bool t.out) := r.cell 6
      have TKE := Lib.hid (show hs.take (k + 1) = hs.take k ++ [t] from by rw [List.take_add_one, ht]; rfl)
      have TL := Lib.hid (show (hs.take k).length ≤ 256 from by rw [List.length_take]; omega)
      clear r hw0 rd' tid wx hgt tm ht
      cases hout : t.out with
      | true =>
        have GO := Lib.hid (show (hs.take (k + 1)).filter (goes kind) = (hs.take k).filter (goes kind) from by rw [TKE.out, List.filter_append]; simp [goes, hout])
        rw [hout] at c6
        clear hout
        go_wp2_with fail
        go_roundw
        case rel => exact ⟨k + 1, by omega, by go_num, by rw [GO.out]; exact HV.out, by rw [GO.out]; exact HU.out, AP.out, HO.out⟩
        case measure => simp [intOf]; omega
      | false =>
        rw [hout] at c6
        by_cases kk : t.kind = kind
        · have kb : (t.kind != kind) = false := by simpa using kk
          have GO := Lib.hid (show (hs.take (k + 1)).filter (goes kind) = (hs.take k).filter (goes kind) ++ [t] from by rw [TKE.out, List.filter_append]; simp [goes, hout, kk])
          have L1 := Lib.hid (show ((hs.take k).filter (goes kind)).length ≤ 256 from Nat.le_trans (List.length_filter_le _ _) TL.out)
          have L2 := Lib.hid (show (((hs.take k).filter (goes kind)).filter (·.needs)).length ≤ 256 from Nat.le_trans (List.length_filter_le _ _) L1.out)
          clear hout kk
          have RF := Lib.hid (Row.fresh wr 3 #[.int .i64 t.b])
          have oa : Only none_ wr (wr.alloc (.cells #[.int .i64 t.b] 3)) := (Only.refl none_ wr).alloc _
          have HV2 := Lib.hid (HV.out.still oa)
          have HU2 := Lib.hid (HU.out.still oa)
          have HO2 := Lib.hid (HO.out.same oa)
          have R2 := Lib.hid (R.out |> oa.still)
          have sz := HO2.out.size
          have l1 : (((hs.take k).filter (goes kind)).map (·.b)).length < 9223372036854775807 := by rw [List.length_map]; have := L1.out; omega
          have l2 : ((((hs.take k).filter (goes kind)).map (·.b)).length + 1) * 8 ≤ 140737488355328 := by rw [List.length_map]; have := L1.out; omega
          go_wp2_with (at_builtin; go_loud (refine wpList_append_one16 rfl (.tmp 39) (.tmp 45) 44 rfl (c := one) i0 _ 8 Tryz.underlying44 I0.out I1.out I2.out I3.out rfl (by decide) one1 one_one rfl HV2.out (y := t.b) rfl RF.out l1 l2 sz ?_; intro v5 w5 hown5 hO5 hb5))
          have hO5 : Only (fun j => some j = u4.ownBlock) (wr.alloc (.cells #[.int .i64 t.b] 3)) w5 := hO5
          have hb5 : v5.ownBlock = u4.ownBlock ∨ v5.ownBlock = some (wr.alloc (.cells #[.int .i64 t.b] 3)).heap.size := hb5
          have V5 := Lib.hid (show OwnsInts w5 w1.heap.size v5 (((hs.take (k + 1)).filter (goes kind)).map (·.b)) from by rw [GO.out, List.map_append]; exact hown5)
          have U5 := Lib.hid (HU2.out.keep hO5 (fun g hg e => AP.out g e.symm hg))
          have AP5 := Lib.hid (show ∀ g, v5.ownBlock = some g → u5.ownBlock ≠ some g from fun g hg e => hb5.elim (fun q => AP.out g (q ▸ hg) e) (fun q => by
            have := (HU2.out.base_le e).2
            rw [q] at hg
            cases hg
            omega))
          have HO5 := Lib.hid (HO2.out.trans hO5 (fun i hi q => by have := (HV2.out.base_le q.symm).1; omega))
          have R5 := Lib.hid (hO5.row R2.out (fun e => own_row HV2.out R2.out (by decide) e))
          have EN := Lib.hid (eneeds_any gt t w5 R5.out)
          clear hown5 hO5 hb5 HV2 HU2 HO2 HV HU AP l1 l2 sz
          unfold ptrTo at EN
          cases hn : t.needs with
          | false =>
            rw [hn] at EN
            have GU := Lib.hid (show ((hs.take (k + 1)).filter (goes kind)).filter (·.needs) = ((hs.take k).filter (goes kind)).filter (·.needs) from by rw [GO.out, List.filter_append]; simp [hn])
            clear hn
            (with_reducible refine EN.out.mono ?_)
            rintro e w6 ⟨rfl, o6⟩
            have U6 := Lib.hid (U5.out.still o6)
            have V6 := Lib.hid (V5.out.still o6)
            have HO6 := Lib.hid (HO5.out.same o6)
            clear o6 U5 V5 HO5
            go_wp2_with fail
            go_roundw
            case rel => exact ⟨k + 1, by omega, by go_num, V6.out, by rw [GU.out]; exact U6.out, AP5.out, HO6.out⟩
            case measure => simp [intOf]; omega
          | true =>
            rw [hn] at EN
            have GU := Lib.hid (show ((hs.take (k + 1)).filter (goes kind)).filter (·.needs) = ((hs.take k).filter (goes kind)).filter (·.needs) ++ [t] from by rw [GO.out, List.filter_append]; simp [hn])
            clear hn
            (with_reducible refine EN.out.mono ?_)
            rintro e w6 ⟨rfl, o6⟩
            have c2 : w6.cell? ⟨gt, 2, none⟩ = some (.int .i64 t.b) := (R5.out |> o6.still).cell 2
            have RF6 := Lib.hid (Row.fresh w6 3 #[.int .i64 t.b])
            have oa6 : Only none_ w6 (w6.alloc (.cells #[.int .i64 t.b] 3)) := (Only.refl none_ w6).alloc _
            have U6 := Lib.hid (U5.out.still (o6.same oa6))
            have V6 := Lib.hid (V5.out.still (o6.same oa6))
            have HO6 := Lib.hid (HO5.out.same (o6.same oa6))
            have sz := HO6.out.size
            have l1 : ((((hs.take k).filter (goes kind)).filter (·.needs)).map (·.b)).length < 9223372036854775807 := by rw [List.length_map]; have := L2.out; omega
            have l2 : (((((hs.take k).filter (goes kind)).filter (·.needs)).map (·.b)).length + 1) * 8 ≤ 140737488355328 := by rw [List.length_map]; have := L2.out; omega
            clear o6 U5 V5 HO5
            go_wp2_with (at_builtin; go_loud (refine wpList_append_one16 rfl (.tmp 49) (.tmp 55) 44 rfl (c := one) i0 _ 8 Tryz.underlying44 I0.out I1.out I2.out I3.out rfl (by decide) one1 one_one rfl U6.out (y := t.b) rfl RF6.out l1 l2 sz ?_; intro v7 w7 hown7 hO7 hb7))
            have hO7 : Only (fun j => some j = u5.ownBlock) (w6.alloc (.cells #[.int .i64 t.b] 3)) w7 := hO7
            have hb7 : v7.ownBlock = u5.ownBlock ∨ v7.ownBlock = some (w6.alloc (.cells #[.int .i64 t.b] 3)).heap.size := hb7
            have U7 := Lib.hid (show OwnsInts w7 w1.heap.size v7 ((((hs.take (k + 1)).filter (goes kind)).filter (·.needs)).map (·.b)) from by rw [GU.out, List.map_append]; exact hown7)
            have V7 := Lib.hid (V6.out.keep hO7 (fun g hg e => AP5.out g hg e.symm))
            have AP7 := Lib.hid (show ∀ g, v5.ownBlock = some g → v7.ownBlock ≠ some g from fun g hg e => hb7.elim (fun q => AP5.out g hg (q ▸ e)) (fun q => by
              have := (V6.out.base_le hg).2
              rw [q] at e
              cases e
              omega))
            have HO7 := Lib.hid (HO6.out.trans hO7 (fun i hi q => by have := (U6.out.base_le q.symm).1; omega))
            clear hown7 hO7 hb7 U6 V6 HO6
            go_wp2_with fail
            go_roundw
            case rel => exact ⟨k + 1, by omega, by go_num, V7.out, U7.out, AP7.out, HO7.out⟩
            case measure => simp [intOf]; omega
        · have kb : (t.kind != kind) = true := by simpa using kk
          have GO := Lib.hid (show (hs.take (k + 1)).filter (goes kind) = (hs.take k).filter (goes kind) from by rw [TKE.out, List.filter_append]; simp [goes, kk])
          clear hout kk
          go_wp2_with fail
          go_roundw
          case rel => exact ⟨k + 1, by omega, by go_num, by rw [GO.out]; exact HV.out, by rw [GO.out]; exact HU.out, AP.out, HO.out⟩
          case measure => simp [intOf]; omega
    · have e : k = hs.length := by omega
      subst e
      have HV2 := HV.out
      have HU2 := HU.out
      rw [List.take_length] at HV2 HU2
      obtain ⟨va, vc, rfl⟩ := own_len12 HV2
      obtain ⟨ua, uc, rfl⟩ := own_len12 HU2
      have HV2 := Lib.hid HV2
      have HU2 := Lib.hid HU2
      clear HV HU AP
      go_wp2_with fail
      go_ret2
      exact ⟨_, _, rfl, HV2.out.lower11 O1.out.size, HU2.out.lower11 O1.out.size, O1.out.same HO.out⟩
end
end Go.Proofs.YtfbpjobobdidiaaGreatDoor
