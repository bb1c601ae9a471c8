/- Package fetch's Finish. -/
import Derived.Test.YtfbpjobobdidiaaGreatDoorFh16
import Derived.Test.YtfbpjobobdidiaaGreatDoorCl16
namespace Go.Proofs.YtfbpjobobdidiaaGreatDoor
open Go.RowKit Go.Maps
set_option linter.unusedVariables false
set_option maxRecDepth 100000
/-- the loop over a move's tickets -/
structure FiR (w5 wr : World) (p : Nat) (c5 : Nat → Nat) (b1 : Value) (well : Bool) (mks : List Int) (F H : Nat) (E5 : Eng) (k : Nat) (E' : Eng) (c' : Nat → Nat) (X' : Loc) (ks' : List Tk) (v' : Value) (qs : List (Oc × Value)) : Prop where
  le : k ≤ mks.length
  iv : InvX E' [] (mks.drop k)
  fin : (E'.comes well (mks.drop k)).1 = (E5.comes well mks).1
  out : qs.map (·.1) ++ (E'.comes well (mks.drop k)).2 = (E5.comes well mks).2
  qn : qs.length = k
  ep : EP wr p c' X' (F + k) H ks' E'
  gw : Gw w5 c5 c'
  oc : OcAt wr w5.heap.size c' v' qs
  row : OwnsInts wr 0 b1 mks
  rc : ∀ g, b1.ownBlock = some g → c' g = 0 ∧ g < w5.heap.size
  only : Only (fun g => c5 g ≠ 0) w5 wr
section
variable {w5 wr w1 w7 : World} {p : Nat} {c5 : Nat → Nat} {b1 : Value} {well : Bool} {mks : List Int} {F H : Nat} {E5 : Eng} {k : Nat} {E' : Eng} {c' : Nat → Nat} {X' : Loc} {ks' : List Tk} {v' : Value} {qs : List (Oc × Value)}
theorem FiR.ticket (h : FiR w5 wr p c5 b1 well mks F H E5 k E' c' X' ks' v' qs) {x : Int} (hx : mks[k]? = some x) : ∃ t, t ∈ E'.ts ∧ t.id = x ∧ at16 E'.ts x = some t ∧ 0 ≤ t.tries ∧ t.tries ≤ 1000 := by
  have hl := lt_of_get hx
  have e : mks.drop k = x :: mks.drop (k + 1) := by rw [List.drop_eq_getElem_cons hl]; rw [List.getElem?_eq_getElem hl] at hx; injection hx with hx; rw [hx]
  obtain ⟨t, ht, e1, _⟩ := h.iv.rt x (by rw [e]; simp)
  have := h.iv.tri t ht
  have may := h.iv.may
  unfold Opt.MayC at may
  exact ⟨t, ht, e1, by rw [← e1]; exact at16_mem h.ep.once ht, this.1, by omega⟩
/-- one ticket more has come in -/
theorem FiR.next (h : FiR w5 wr p c5 b1 well mks F H E5 k E' c' X' ks' v' qs) {x : Int} (hx : mks[k]? = some x) {t : Tk} (ht : at16 E'.ts x = some t) (hid : t.id = x) {v1 : Value}
    (rd : RdW w1 wr.heap.size v1 (if fate16 E' t well = 1 then [] else ofL E'.g t.id)) (eg : EGtoV wr p c' (F + k + 1) H (if fate16 E' t well = 1 then { (E'.upd t.id Tk.back) with qs := waitS E'.qs t.id true } else (E'.end_ t.id).take t.id) v1 w1) :
    ∃ c2 X2 ks2, EP w1 p c2 X2 (F + (k + 1)) H ks2 (E'.come well x) ∧ Gw w5 c5 c2 ∧ OcAt w1 w5.heap.size c2 v' qs ∧ OwnsInts w1 0 b1 mks ∧ (∀ g, b1.ownBlock = some g → c2 g = 0 ∧ g < w5.heap.size) ∧ Only (fun g => c5 g ≠ 0) w5 w1 ∧ RdW w1 w5.heap.size v1 (E'.outc well x).ws ∧ (∀ g, v1.ownBlock = some g → c2 g = 0 ∧ v'.ownBlock ≠ some g) := by
  obtain ⟨⟨c2, X2, ks2, e2, g2, z2⟩, o2⟩ := eg
  have ec : E'.come well x = if fate16 E' t well = 1 then { (E'.upd t.id Tk.back) with qs := waitS E'.qs t.id true } else (E'.end_ t.id).take t.id := by
    unfold Eng.come
    rw [ht, hid]
    rfl
  have ew : (E'.outc well x).ws = if fate16 E' t well = 1 then [] else ofL E'.g t.id := by
    unfold Eng.outc
    rw [ht, hid]
    rfl
  refine ⟨c2, X2, ks2, by rw [ec]; exact e2, Gw.next h.only h.gw g2, h.oc.call g2 o2, h.row.keep o2 (fun g hg z => z (h.rc g hg).1), fun g hg => ⟨g2.zero (h.rc g hg).1 (h.row.base_le hg).2, (h.rc g hg).2⟩, Gw.only h.only h.gw o2 (fun g z => z), by rw [ew]; exact ⟨rd.1, fun g hg => ⟨Nat.le_trans h.only.size (rd.late g hg).1, (rd.late g hg).2⟩⟩, fun g hg => ⟨z2 g hg, fun q => ?_⟩⟩
  have := (rd.late g hg).1
  have := (h.oc.own.base_le q).2
  omega
theorem FiR.more {W2 : World} (h : FiR w5 wr p c5 b1 well mks F H E5 k E' c' X' ks' v' qs) {x : Int} (hx : mks[k]? = some x) {v1 : Value} {c2 : Nat → Nat} {X2 : Loc} {ks2 : List Tk}
    (ep : EP W2 p c2 X2 (F + (k + 1)) H ks2 (E'.come well x)) (gw : Gw w5 c5 c2) (oc : OcAt W2 w5.heap.size c2 v' qs) (row : OwnsInts W2 0 b1 mks) (rc : ∀ g, b1.ownBlock = some g → c2 g = 0 ∧ g < w5.heap.size) (only : Only (fun g => c5 g ≠ 0) w5 W2) (rd : RdW W2 w5.heap.size v1 (E'.outc well x).ws) (cq : ∀ g, v1.ownBlock = some g → c2 g = 0 ∧ v'.ownBlock ≠ some g)
    {v7 : Value} (own : OwnsOc w7 w5.heap.size v7 (qs ++ [(E'.outc well x, v1)])) (og : Only (fun j => some j = v'.ownBlock) W2 w7) (hv : v7.ownBlock = v'.ownBlock ∨ v7.ownBlock = some W2.heap.size) :
    FiR w5 w7 p c5 b1 well mks F H E5 (k + 1) (E'.come well x) c2 X2 ks2 v7 (qs ++ [(E'.outc well x, v1)]) := by
  have hl := lt_of_get hx
  have e : mks.drop k = x :: mks.drop (k + 1) := by rw [List.drop_eq_getElem_cons hl]; rw [List.getElem?_eq_getElem hl] at hx; injection hx with hx; rw [hx]
  have i := h.iv
  have f := h.fin
  have o := h.out
  rw [e] at i f o
  have nb : ∀ g, c2 g ≠ 0 → ¬ some g = v'.ownBlock := fun g hg z => hg (oc.cv g z.symm)
  exact {
    le := hl
    iv := i.come well
    fin := f
    out := by
      rw [List.map_append, List.append_assoc]
      exact o
    qn := by rw [List.length_append, h.qn]; rfl
    ep := ep.keep og nb
    gw := gw
    oc := oc.push (fun g hg => ep.zero hg) own og hv rd cq
    row := row.keep og (fun g hg z => by have := (oc.own.base_le z.symm).1; have := (rc g hg).2; omega)
    rc := rc
    only := only.trans og (fun i hi z => by have := (oc.own.base_le z.symm).1; omega) }
end
section
variable {p : Nat} {c : Nat → Nat} {X : Loc} {F H : Nat} {ks : List Tk} {E : Eng}
theorem zeroMv (w : World) : (zeroValue 47).run Tryz.prog w = .ok (.agg #[.int .i64 0, .bool false, .int .i64 0, .int .i64 0, .slice none 0 0, .slice none 0 0, .slice none 0 0]) w := by kernel_rfl
set_option maxHeartbeats 4000000 in
theorem efinish_any (tag : Int) (well : Bool) (w : World) (h : EP w p c X F H ks E) (iv : Inv E) (wt : (Lit.int .i64 tag).wf = true) (hF : F + 300 < 100000000) :
    Calls Tryz.prog 24 #[ptrTo p, .int .i64 tag, .bool well] w fun e w' => ∃ v qs, e = .returned (.tuple #[v, .int .i64 (E.finishC tag)]) ∧ qs.map (·.1) = E.finishO tag well ∧ (∃ c' X' ks', EP w' p c' X' (F + 300) H ks' (E.finish tag well) ∧ Gw w c c' ∧ OcAt w' w.heap.size c' v qs) ∧ Only (fun g => c g ≠ 0) w w' := by
  have c18 : w.cell? ⟨p, 18, none⟩ = some (.map (some X.bm)) := h.cell 18
  have LK := h.eo.mm.look_ok Tryz.underlying97 (zeroMv w) wt
  rw [at17_mv, has_mv] at LK
  have H0 := Lib.hid h
  unfold ptrTo
  cases hf : at17 E.ms tag with
  | none =>
    have EF := Lib.hid (show E.finish tag well = E ∧ E.finishC tag = 3 ∧ E.finishO tag well = [] from by unfold Eng.finish Eng.finishC Eng.finishO; rw [hf]; exact ⟨rfl, rfl, rfl⟩)
    rw [hf] at LK
    simp only [Option.isSome_none] at LK
    have HFF := Lib.hid hF
    clear h iv wt hf hF
    go_enter Tryz.func24, Tryz.ntmps24
    go_wp2_with fail
    go_ret2
    refine ⟨_, [], by rw [EF.out.2.1]; rfl, by rw [EF.out.2.2]; rfl, ⟨c, X, ks, ?_, Gw.refl _ _, OcAt.start _ _ _⟩, ?_⟩
    · rw [EF.out.1]
      exact (H0.out.still ((Only.refl none_ w).alloc _)).up (by omega) (Nat.le_refl _) HFF.out H0.out.hH
    · exact ((Only.refl none_ w).alloc _).up
  | some m =>
    obtain ⟨hm, ht⟩ := at17_some hf
    have EF := Lib.hid (show E.finish tag well = ((E.home tag).comes well m.ks).1 ∧ E.finishC tag = 0 ∧ E.finishO tag well = ((E.home tag).comes well m.ks).2 from by unfold Eng.finish Eng.finishC Eng.finishO; rw [hf]; exact ⟨rfl, rfl, rfl⟩)
    rw [hf] at LK
    simp only [Option.isSome_some] at LK
    have IV := Lib.hid (show InvX (E.home tag) [] m.ks from by rw [← ht]; exact iv.home hm)
    obtain ⟨⟨b1, b2, b3⟩, hB⟩ : ∃ v, X.B m.tag = v := ⟨_, rfl⟩
    have fm := h.eo.mv m hm
    rw [hB] at fm
    obtain ⟨ba, bc, e1⟩ := owns_form fm.ks
    obtain ⟨ba2, bc2, e2⟩ := owns_form fm.vs
    obtain ⟨ba3, bc3, e3⟩ := owns_form fm.fs
    dsimp only at e1 e2 e3
    subst e1 e2 e3
    rw [hB] at LK
    unfold Mv.val at LK
    obtain ⟨W1, hW1⟩ : ∃ W1, W1 = w.alloc (.cells #[.int .i64 m.tag, .bool m.wr, .int .i64 m.lo, .int .i64 m.n, .slice ba m.ks.length bc, .slice ba2 m.vs.length bc2, .slice ba3 m.fs.length bc3] 47) := ⟨_, rfl⟩
    have r1 : Row W1 w.heap.size 47 #[.int .i64 m.tag, .bool m.wr, .int .i64 m.lo, .int .i64 m.n, .slice ba m.ks.length bc, .slice ba2 m.vs.length bc2, .slice ba3 m.fs.length bc3] := by rw [hW1]; exact Row.fresh _ _ _
    have o1 : Only none_ w W1 := by rw [hW1]; exact (Only.refl _ _).alloc _
    have h1 := h.still o1
    have z0 := h.zero (Nat.le_refl w.heap.size)
    obtain ⟨w5, run5, m5, o5⟩ := h1.eo.mm.drop Tryz.underlying97 tag wt 0
    obtain ⟨c5, h5, ob, zb, g5⟩ := h1.home hm (by rw [ht]; exact m5) o5
    rw [ht] at h5
    rw [hB] at ob zb
    have r5 := o5.row r1 (fun e => by have := h.eo.cm; rw [← e, z0] at this; cases this)
    have kl : m.ks.length ≤ 256 := by
      have := iv.mok m hm
      have may := iv.may
      unfold Opt.MayC at may
      omega
    have c18' : W1.cell? ⟨p, 18, none⟩ = some (.map (some X.bm)) := h1.cell 18
    have q4 : w5.cell? ⟨w.heap.size, 4, none⟩ = some (.slice ba m.ks.length bc) := r5.cell 4
    dsimp only at ob zb
    clear fm
    have H5 := Lib.hid h5
    have OB := Lib.hid ob
    have ZB := Lib.hid zb
    have G5 := Lib.hid (show Gw w c c5 from fun g hg => .inl (g5 g hg))
    have C5 := Lib.hid g5
    have O5 := Lib.hid (show Only (fun g => c g ≠ 0) w w5 from (o1.up (S := fun g => c g ≠ 0)).same (o5.more (fun i _ e => by rw [e, h.eo.cm]; decide)))
    have KL := Lib.hid kl
    have HFF := Lib.hid hF
    obtain ⟨i0, hi0, hz0, hz1, hz2⟩ := info_parts info_oc12
    have I0 := Lib.hid hi0
    have I1 := Lib.hid hz0
    have I2 := Lib.hid hz1
    have I3 := Lib.hid hz2
    generalize hms : m.ks = mks at *
    clear h iv hf hm ht hi0 hz0 hz1 hz2 m5 o5 h5 ob zb g5 r5 r1 kl hB h1 z0 hms hF o1
    go_enter Tryz.func24, Tryz.ntmps24
    go_upto_region 4 with fail
    rw [← hW1]
    clear hW1
    go_wp2_with fail
    go_loopw [10, 12, 32] (fun v _ i wr => ∃ (k : Nat) (E' : Eng) (c' : Nat → Nat) (X' : Loc) (ks' : List Tk) (v' : Value) (qs : List (Oc × Value)), v' = v ∧ i = .int .i64 k ∧ FiR w5 wr p c5 (.slice ba mks.length bc) well mks F H (E.home tag) k E' c' X' ks' v' qs) (fun _ _ i _ => mks.length - (intOf i).toNat)
    case atStart =>
      exact ⟨0, E.home tag, c5, X, ks, _, [], rfl, rfl, { le := Nat.zero_le _, iv := IV.out, fin := rfl, out := rfl, qn := rfl, ep := H5.out, gw := Gw.refl _ _, oc := OcAt.start _ _ _, row := OB.out, rc := fun g hg => ⟨ZB.out g hg, (OB.out.base_le hg).2⟩, only := Only.refl _ _ }⟩
    case round =>
      obtain ⟨k, E', c', X', ks', v', qs, rfl, rfl, hR⟩ := hrel
      have R := Lib.hid hR
      clear hR
      by_cases hlt : k < mks.length
      · have t1 : decide (k < mks.length) = true := decide_eq_true hlt
        obtain ⟨x, hx⟩ : ∃ x, mks[k]? = some x := ⟨_, List.getElem?_eq_getElem hlt⟩
        obtain ⟨t, tm, tid, hat, tr0, tr1⟩ := R.out.ticket hx
        have K2 : k < 256 := by have := KL.out; omega
        obtain ⟨ra', rc', e1, rd'⟩ := Reads.of_owns R.out.row
        obtain ⟨g, ao, e2, ck⟩ := rd' k x hx
        cases e1
        subst e2
        have c17 : wr.cell? ⟨p, 17, none⟩ = some (.map (some X'.bt)) := R.out.ep.cell 17
        have wx : (Lit.int .i64 x).wf = true := by
          have := R.out.ep.idr t (R.out.ep.sub t tm)
          have := R.out.ep.ntH
          have := R.out.ep.hH
          exact wf_i _ (by omega)
        have LK2 := R.out.ep.eo.tm.look Tryz.underlying96 (zeroPtr wr) wx
        rw [at16_tk, hat] at LK2
        have OU := eoutcome_any t well wr R.out.ep tm ⟨tr0, tr1⟩ (by have := HFF.out; omega)
        obtain ⟨gt, hgt⟩ : ∃ gt, X'.A t.id = gt := ⟨_, rfl⟩
        unfold optPtr ptrTo at LK2
        unfold ptrTo Oc.val at OU
        simp only [hgt] at LK2 OU
        have OU := Lib.hid OU
        have HX := Lib.hid hx
        have HAT := Lib.hid hat
        have TID := Lib.hid tid
        clear hx hat tm tid rd' wx hgt tr0 tr1
        go_wp2_with fail
        (with_reducible refine OU.out.mono ?_)
        rintro e w6 ⟨v6, rfl, rd6, eg6⟩
        obtain ⟨c2, X2, ks2, e2, g2, oc2, ow2, rc2, on2, rdq, cq⟩ := R.out.next HX.out HAT.out TID.out rd6 eg6
        have OCE : ((E'.outc well x).t = t ∧ (E'.outc well x).n = E'.cnt t.id ∧ (E'.outc well x).f = fate16 E' t well) := by
          unfold Eng.outc
          rw [HAT.out, TID.out]
          exact ⟨rfl, rfl, rfl⟩
        obtain ⟨sa, sk, rfl⟩ := rdq.len
        obtain ⟨W7, hW7⟩ : ∃ W, W = w6.alloc (.cells #[.int .i64 t.id, .int .i64 t.kind, .int .i64 t.b, .int .i64 t.l, .int .i64 t.tries, .int .i64 (E'.cnt t.id), .bool t.out, .bool t.fr, .bool t.cut, .int .i64 (fate16 E' t well), .int .u64 t.v, .slice sa (E'.outc well x).ws.length sk] 73) := ⟨_, rfl⟩
        have oa : Only none_ w6 W7 := by rw [hW7]; exact (Only.refl _ _).alloc _
        have ES : W7.heap.size = w6.heap.size + 1 := by rw [hW7]; simp
        have SR := Lib.hid (show Src W7 (.slice (some ⟨w6.heap.size, 0, none⟩) 1 1) 1 (ocC (E'.outc well x, .slice sa (E'.outc well x).ws.length sk)) from .inr ⟨_, 1, rfl, fun j u hj => by
          have rf : Row W7 w6.heap.size 73 (ocC (E'.outc well x, .slice sa (E'.outc well x).ws.length sk)).toArray := by
            rw [hW7]
            unfold ocC
            rw [OCE.1, OCE.2.1, OCE.2.2]
            exact Row.fresh _ _ _
          rw [addL11, Nat.zero_add, rf.cell, List.getElem?_toArray]
          exact hj⟩)
        have E2 := Lib.hid (e2.still oa)
        have OC2 := Lib.hid (oc2.still oa)
        have OW2 := Lib.hid (ow2.still oa)
        have RC2 := Lib.hid rc2
        have ON2 := Lib.hid (on2.idle oa)
        have RD2 := Lib.hid (rdq.still oa)
        have CQ2 := Lib.hid cq
        have G2 := Lib.hid g2
        have QL := Lib.hid (show qs.length ≤ 256 from by rw [R.out.qn]; omega)
        have V2 := Lib.hid OC2.out.own
        have BSZ := Lib.hid (show w5.heap.size ≤ W7.heap.size from ON2.out.size)
        clear e2 oc2 ow2 rc2 on2 rdq cq g2 oa rd6 eg6 OCE OU LK2
        go_wp2_with (at_builtin; go_loud (first | rw [← hW7] | skip); (refine wpList_append_src _ rfl (.tmp 36) (.tmp 46) 69 rfl w5.heap.size 73 i0 _ 12 96 Tryz.underlying69 I0.out I1.out I2.out I3.out rfl (by decide) _ qs.length (qs.flatMap ocC) rfl V2.out _ 1 (ocC (E'.outc well x, .slice sa (E'.outc well x).ws.length sk)) rfl SR.out rfl (ocC_one _ rfl) (by have := QL.out; unfold maxLen; omega) (by have := QL.out; omega) BSZ.out ?_))
        intro v7 w7 hown hgrow hblk
        rw [← hW7] at hgrow
        rw [← ES] at hblk
        have V7 : OwnsOc w7 w5.heap.size v7 (qs ++ [(E'.outc well x, .slice sa (E'.outc well x).ws.length sk)]) := by
          show Owns _ _ _ _ _ _ _
          unfold Owns
          rw [List.flatMap_append, List.length_append]
          simpa using hown
        have RR := Lib.hid (R.out.more HX.out E2.out G2.out OC2.out OW2.out RC2.out ON2.out RD2.out CQ2.out V7 (Only.of_grown hgrow) hblk)
        clear hown hgrow hblk V7 hW7 ES
        go_wp2_with fail
        go_roundw
        case rel => exact ⟨k + 1, _, _, _, _, _, _, rfl, by go_num, RR.out⟩
        case measure => simp [intOf]; omega
      · have t1 : decide (k < mks.length) = false := decide_eq_false hlt
        have hk : k = mks.length := by have := R.out.le; omega
        have fi := R.out.fin
        have ou := R.out.out
        rw [List.drop_eq_nil_of_le (by omega)] at fi ou
        have FI := Lib.hid (show E' = E.finish tag well from by rw [EF.out.1, ← fi]; rfl)
        have OU := Lib.hid (show qs.map (·.1) = E.finishO tag well from by rw [EF.out.2.2, ← ou]; exact (List.append_nil _).symm)
        clear hk fi ou
        go_wp2_with fail
        go_ret2
        have s5 := O5.out.size
        have oc := R.out.oc
        refine ⟨_, qs, by rw [EF.out.2.1]; rfl, OU.out, ⟨c', X', ks', ?_, ?_, ?_⟩, ?_⟩
        · rw [← FI.out]
          exact R.out.ep.up (by have := R.out.le; have := KL.out; omega) (Nat.le_refl _) HFF.out H0.out.hH
        · exact Gw.next O5.out G5.out R.out.gw
        · exact ⟨oc.own.lower11 s5, oc.cv, fun q hq => ⟨(oc.rd q hq).1, fun g hg => ⟨Nat.le_trans s5 ((oc.rd q hq).late g hg).1, ((oc.rd q hq).late g hg).2⟩⟩, oc.cq⟩
        · exact O5.out.trans R.out.only (fun i hi z => C5.out i z)
end
end Go.Proofs.YtfbpjobobdidiaaGreatDoor
