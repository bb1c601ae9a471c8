/- Turns in memory: all that wait come out of a heap. -/
import Derived.Test.YtmihinpbgppjlaaTnN
import Derived.Test.YtmihinpbgppjlaaHpop
import Derived.Test.YtmihinpbgppjlaaInt11
namespace Go.Proofs.Ytmihinpbgppjlaa
open Go.RowKit Go.Maps
set_option linter.unusedVariables false

/-- append of one element, which lies at the head of a block: just the slice's own row may turn -/
theorem wpList_append_one8 {α : Type} {P : Program} {w : World} {ops : Array Oper} {rest : List Oper} {o : Oper} {a : Act} {Q : Exit → Act → World → Prop} (hgd : o.guard = none) (s x : Operand) (t : TypeId)
    (ho : o.op = .call { callee := .builtin .append, args := #[s, x], argTypes := #[t, t] })
    {base : Nat} {e : TypeId} {k : Nat} {c : α → List Value} (i : TypeInfo) (z : Value) (bytes : Nat) (ht : P.underlying t = some (.slice e)) (hi : P.info? e = some i) (hz : i.zero = some z)
    (hsize : i.size = k) (hby : i.bytes = bytes) (hzs : z.cells.size = k) (hk0 : 0 < k) (hk : ∀ y, (c y).length = k) (h1 : ∀ y, ∀ u ∈ c y, u.oneCell' = true)
    {v : Value} {xs : List α} (hs : a.eval s = v) (hown : Owns w base e k c v xs)
    {g cc : Nat} {y : α} (hx : a.eval x = .slice (some ⟨g, 0, none⟩) 1 cc) (hrow : Row w g e (c y).toArray)
    (hlen : xs.length < 9223372036854775807) (hbytes : (xs.length + 1) * bytes ≤ 140737488355328) (hbase : base ≤ w.heap.size)
    (h : ∀ v' w', Owns w' base e k c v' (xs ++ [y]) → Only (fun j => some j = v.ownBlock) w w' → wpList P ops Q rest (a.put o.dst v') w') : wpList P ops Q (o :: rest) a w := by
  refine wpList_append_own w hgd s x t ho base e i z k bytes ht hi hz hsize hby hzs hk0 v xs.length (xs.flatMap c) hs hown ⟨g, 0, none⟩ 1 cc (c y) hx (by rw [hk]; omega) ?_ (h1 y) (by unfold maxLen; omega) hbytes hbase ?_
  · intro j u hj
    rw [add12, Nat.zero_add, hrow.cell, List.getElem?_toArray]
    exact hj
  · intro v' w' h2 h3 _
    refine h v' w' ?_ (Only.of_grown h3)
    unfold Owns
    rw [List.flatMap_append, List.length_append]
    simpa using h2
theorem own_notMap {α : Type} {w : World} {base : Nat} {e : TypeId} {k : Nat} {c : α → List Value} {v : Value} {xs : List α} (h : Owns w base e k c v xs) {b n : Nat} {D : DataW Unit} (o : w.ownsMap Try.prog 3 plElem b n D) : some b ≠ v.ownBlock := by
  intro q
  obtain ⟨es, clock, hb, _⟩ := o
  rcases h.2 with ⟨rfl, _⟩ | ⟨g, cap, cur, rfl, _, hg, _⟩
  · cases q
  · have : b = g := by simpa [Value.ownBlock] using q
    subst this
    rw [hb] at hg
    cases hg
theorem own_notIter {α : Type} {w : World} {base : Nat} {e : TypeId} {k : Nat} {c : α → List Value} {v : Value} {xs : List α} (h : Owns w base e k c v xs) {b r n cnt : Nat} {D : DataW Unit} {left : Lit → Bool} (o : w.ranges Try.prog 3 plElem b r n D left cnt) : some r ≠ v.ownBlock := by
  intro q
  obtain ⟨_, _, _, _, _, _, _, _, _, hit, _⟩ := o
  rcases h.2 with ⟨rfl, _⟩ | ⟨g, cap, cur, rfl, _, hg, _⟩
  · cases q
  · have : r = g := by simpa [Value.ownBlock] using q
    subst this
    rw [hit] at hg
    cases hg
theorem row_notIter {w : World} {c : Nat} {t : TypeId} {cs : Array Value} (h : Row w c t cs) {b r n cnt : Nat} {D : DataW Unit} {left : Lit → Bool} (o : w.ranges Try.prog 3 plElem b r n D left cnt) : r ≠ c ∧ b ≠ c := by
  obtain ⟨_, _, _, _, _, hb, _, _, _, hit, _⟩ := o
  unfold Row at h
  constructor
  · rintro rfl; rw [h] at hit; cases hit
  · rintro rfl; rw [h] at hb; cases hb
/-- slices of different elements lie apart -/
theorem own_apart {α β : Type} {w : World} {base base' : Nat} {e e' : TypeId} {k k' : Nat} {c : α → List Value} {c' : β → List Value} {v v' : Value} {xs : List α} {ys : List β} (h : Owns w base e k c v xs) (h' : Owns w base' e' k' c' v' ys) (ne : e ≠ e') (g : Nat) (hg : v.ownBlock = some g) : v'.ownBlock ≠ some g := by
  intro q
  rcases h.2 with ⟨rfl, _⟩ | ⟨g1, cap, cur, rfl, _, h1, _⟩
  · cases hg
  · rcases h'.2 with ⟨rfl, _⟩ | ⟨g2, cap', cur', rfl, _, h2, _⟩
    · cases q
    · have e1 : g1 = g := by simpa [Value.ownBlock] using hg
      have e2 : g2 = g := by simpa [Value.ownBlock] using q
      subst e1 e2
      rw [h1] at h2
      injection h2 with h2
      injection h2 with _ h2
      exact ne h2
theorem own_row {α : Type} {w : World} {base c : Nat} {e t : TypeId} {k : Nat} {f : α → List Value} {v : Value} {xs : List α} {cs : Array Value} (h : Owns w base e k f v xs) (r : Row w c t cs) (ne : e ≠ t) : some c ≠ v.ownBlock := by
  intro q
  rcases h.2 with ⟨rfl, _⟩ | ⟨g1, cap, cur, rfl, _, h1, _⟩
  · cases q
  · have e1 : c = g1 := by simpa [Value.ownBlock] using q
    subst e1
    unfold Row at r
    rw [r] at h1
    injection h1 with h1
    injection h1 with _ h1
    exact ne h1.symm
theorem run_field_k (k n : Int) (a s : Bool) (w : World) : (Instr.field 59 (.agg #[.int .i64 k, .bool a, .int .i64 n, .bool s]) 0).run Try.prog w = .ok (.int .i64 k) w := by kernel_rfl
def lenV : Value → Nat
  | .slice _ n _ => n
  | _ => 0
theorem own_len {w : World} {base : Nat} {v : Value} {l : List Int} (h : OwnsInts w base v l) : ∃ a c, v = .slice a l.length c := by
  rcases h.2 with ⟨h0, h2⟩ | ⟨g, cap, cur, hv, _⟩
  · exact ⟨none, 0, by rw [h0, h2]⟩
  · exact ⟨_, _, hv⟩
theorem own_lenV {w : World} {base : Nat} {v : Value} {l : List Int} (h : OwnsInts w base v l) : lenV v = l.length := by
  obtain ⟨a, c, rfl⟩ := own_len h
  rfl
/-- a slice of integers, told in new memory -/
def Told (xs : List Int) (w : World) (e : Ending) (w' : World) : Prop := ∃ a cap, e = .returned (.slice a xs.length cap) ∧ OwnsInts w' w.heap.size (.slice a xs.length cap) xs ∧ Only none_ w w'
theorem filt_more {xs : List Pl} {q : Pl} (h : q.s = true) : (xs ++ [q]).filter (·.s) = xs.filter (·.s) ++ [q] := by
  rw [List.filter_append]
  simp [h]
theorem filt_less {xs : List Pl} {q : Pl} (h : q.s = false) : (xs ++ [q]).filter (·.s) = xs.filter (·.s) := by
  rw [List.filter_append]
  simp [h]

set_option maxHeartbeats 4000000 in
theorem twaiting_any {p b nd na L : Nat} {ps : List Pl} (w : World) (h : TnAt w p b nd na L ps) (hL : L < 100000000) :
    Calls Try.prog 17 #[.pointer (some ⟨p, 0, none⟩)] w (Told (waitL (ps.map Pl.sl)) w) := by
  have c2 : w.cell? ⟨p, 2, none⟩ = some (.map (some b)) := by rw [h.row.cell]; rfl
  have lp := h.row.lt
  have LE := h.len
  have PB := Lib.hid (show ∀ q ∈ ps, 0 ≤ q.n ∧ q.n < 1000000000 from fun q hq => by have := h.top q hq; omega)
  have RSE := Lib.hid h.rise
  have OC := Lib.hid h.once
  obtain ⟨D0, hown, hr0⟩ := h.md
  have HR := Lib.hid hr0
  have lb := hown.lt
  have o1 := (Only.refl none_ w).alloc (.cells #[.slice none 0 0] 65)
  have O1 := Lib.hid o1
  have OW := Lib.hid (owns_keep hown o1 (fun s => s))
  have Q0 := Lib.hid (show Qu (w.alloc (.cells #[.slice none 0 0] 65)) w.heap.size w.heap.size (.slice none 0 0) [] from ⟨Row.fresh _ _ _, Owns.start _ _ _ _ _, Nat.le_refl _⟩)
  have SZ := Lib.hid (show (w.alloc (.cells #[.slice none 0 0] 65)).heap.size = w.heap.size + 1 by simp)
  rw [wait_sl]
  have c2' : (w.alloc (.cells #[.slice none 0 0] 65)).cell? ⟨p, 2, none⟩ = some (.map (some b)) := o1.cell c2 (fun s => s)
  clear h hown hr0 o1
  generalize hW : w.alloc (.cells #[.slice none 0 0] 65) = W at *
  go_enter Try.func17, Try.ntmps17
  go_wp2_with (first
    | (at_range; refine wpList_range_own _ rfl _ 55 rfl 3 59 lawI Try.underlying55 _ b ps.length D0 rfl (by first | exact OW.out | (rw [hW]; exact OW.out)) ?_; intro w0 hrg0 hg0 hs0)
    | go_in)
  have RG0 := Lib.hid hrg0
  have G0 := Lib.hid (show Only none_ W w0 from (Only.of_grown hg0).more (fun _ _ e => by cases e))
  clear hrg0 hg0 hs0
  go_frame
  go_loopw [12] (fun _ wr => ∃ (left : Lit → Bool) (cnt : Nat) (xs d : List Pl) (v : Value), wr.ranges Try.prog 3 plElem b W.heap.size ps.length D0 left cnt ∧ Got ps left xs ∧ d.Perm (xs.filter (·.s)) ∧ Heaped (fv d) d.length ∧ Qu wr w.heap.size w.heap.size v d ∧ Only none_ w wr)
    (fun _ wr => wr.rangeLeft b W.heap.size)
  case atStart =>
    exact ⟨_, _, [], [], _, RG0.out, Got.start HR.out, List.Perm.refl _, fun i h0 h1 => absurd h1 (Nat.not_lt_zero _), Q0.out.still G0.out, O1.out.same G0.out⟩
  case round =>
    obtain ⟨left, cnt, xs, d, v, hrg, hg, hp, hh, hq, ow⟩ := hrel
    have RG := Lib.hid hrg
    have GO := Lib.hid hg
    have OO := Lib.hid ow
    have PP := Lib.hid hp
    have HH := Lib.hid hh
    have QU := Lib.hid hq
    have l1 := List.length_filter_le (fun q : Pl => q.s) xs
    have xl := hg.len
    have dl := hp.length_eq
    clear hrg ow hg hp hh hq
    go_wp2_with (first
      | (at_next; refine wpList_next_ranges _ rfl _ rfl 3 lawI plElem (Value.int .i64) plVal (fun key kl hkey => by obtain ⟨x, rfl, _⟩ := Maps.keyOf_int_inv Try.underlying3 hkey; exact ⟨x, rfl⟩) (fun v y hv => by obtain ⟨q, rfl, _⟩ := plElem_inv hv; exact ⟨q, rfl⟩) b W.heap.size ps.length _ _ _ rfl RG.out ?_ ?_)
      | go_in)
    · intro _ hl0
      have OV := Lib.hid (wait_perm RSE.out PB.out (GO.out.over OC.out hl0))
      have RSW := Lib.hid (wait_rise RSE.out PB.out)
      have TL := Lib.hid (Nat.le_trans (wait_len ps) LE)
      have TB := Lib.hid (show InB (waitP ps) from fun q hq => PB.out q (wait_mem.1 hq).1)
      generalize hT : waitP ps = tt at *
      have HT := Lib.hid hT
      clear hT
      have PT := Lib.hid (PP.out.trans OV.out)
      clear hl0 OV PP GO RG l1 xl dl
      obtain ⟨i0, hi0, hz0, hz1, hz2⟩ := info_parts info_int8
      have I0 := Lib.hid hi0
      have I1 := Lib.hid hz0
      have I2 := Lib.hid hz1
      have I3 := Lib.hid hz2
      clear hi0 hz0 hz1 hz2
      go_wp2_with fail
      go_loopw [6] (fun tv wr => ∃ (r : Nat) (d : List Pl) (v : Value), r + d.length = tt.length ∧ OwnsInts wr w.heap.size tv ((tt.take r).map (·.k)) ∧ d.Perm (tt.drop r) ∧ Heaped (fv d) d.length ∧ Qu wr w.heap.size w.heap.size v d ∧ Only none_ w wr) (fun tv _ => tt.length - lenV tv)
      case atStart => exact ⟨0, d, v, by rw [Nat.zero_add]; exact PT.out.length_eq, Owns.start _ _ _ _ _, PT.out, HH.out, QU.out, OO.out⟩
      case round =>
        obtain ⟨r, f, u, hl, ho, hp, hh, hq, ow⟩ := hrel
        clear HH QU PT OO
        have q0 := hq.cellv
        have QL := Lib.hid (qlen_any hq.own)
        have HO := Lib.hid ho
        have HQ := Lib.hid hq
        have OO := Lib.hid ow
        have PF := Lib.hid hp
        have HF := Lib.hid hh
        have LV := Lib.hid (own_lenV ho)
        have HL := Lib.hid hl
        clear ho hq ow hp hh
        cases hn : f.length with
        | zero =>
          have ET := Lib.hid (show tt.take r = tt from List.take_of_length_le (by omega))
          rw [hn] at QL
          have HO2 := HO.out
          rw [ET.out] at HO2
          obtain ⟨a, cap, rfl⟩ := own_len HO2
          have HO2 := Lib.hid HO2
          rw [List.length_map] at HO2
          clear HO LV
          rw [List.length_map]
          go_wp2_with fail
          (with_reducible refine QL.out.mono ?_)
          rintro e w' ⟨rfl, rfl⟩
          go_wp2_with fail
          go_ret
          show Told _ w _ _
          rw [HT.out]
          refine ⟨a, cap, by rw [List.length_map]; rfl, by rw [List.length_map]; exact HO2.out, OO.out⟩
        | succ n =>
          obtain ⟨x, hx⟩ : ∃ x, f[0]? = some x := ⟨_, List.getElem?_eq_getElem (by omega)⟩
          obtain ⟨t, ht⟩ : ∃ t, tt[r]? = some t := ⟨_, List.getElem?_eq_getElem (by omega)⟩
          have hd : tt.drop r = t :: tt.drop (r + 1) := by
            have hr := lt_of_get ht
            rw [List.getElem?_eq_getElem hr] at ht
            rw [List.drop_eq_getElem_cons hr, Option.some.inj ht]
          have hp := PF.out
          rw [hd] at hp
          have XT := Lib.hid (least_first hp (by have := RSW.out.drop (i := r); rw [hd] at this; exact this) HF.out hx)
          have PF2 := Lib.hid hp
          have IB := Lib.hid (show InB f from fun z hz => TB.out z (List.mem_of_mem_drop (PF.out.mem_iff.1 hz)))
          have POP := hpop_any HQ.out hn hx HF.out IB.out (by have := TL.out; omega)
          have ra := run_assert_place x.k x.n x.a x.s
          have rf := run_field_k x.k x.n x.a x.s
          have TK := Lib.hid (show (tt.take (r + 1)).map (·.k) = (tt.take r).map (·.k) ++ [x.k] from by rw [XT.out, List.take_add_one, ht]; simp)
          unfold Popped Pl.val at POP
          have POP := Lib.hid POP
          have l1 := Lib.hid (show ((tt.take r).map (·.k)).length < 9223372036854775807 from by have := TL.out; rw [List.length_map, List.length_take]; omega)
          have l2 := Lib.hid (show (((tt.take r).map (·.k)).length + 1) * 8 ≤ 140737488355328 from by have := TL.out; rw [List.length_map, List.length_take]; omega)
          have TR := Lib.hid (show ((tt.take r).map (·.k)).length = r ∧ ((tt.take (r + 1)).map (·.k)).length = r + 1 from by rw [List.length_map, List.length_take, List.length_map, List.length_take]; omega)
          have HN := Lib.hid hn
          have RT := Lib.hid (lt_of_get ht)
          rw [hn] at QL
          have dn : decide ((0 : Int) < ((n + 1 : Nat) : Int)) = true := by simp
          clear hx ht hd hp hl hn
          go_wp2_with fail
          (with_reducible refine QL.out.mono ?_)
          rintro e w' ⟨rfl, rfl⟩
          go_wp2_with fail
          (with_reducible refine POP.out.mono ?_)
          rintro e w3 ⟨rfl, u3, f3, p3, hh3, h3, o3⟩
          have H3 := Lib.hid h3
          have P3 := Lib.hid (perm_last PF2.out p3 XT.out)
          have HH3 := Lib.hid hh3
          have L3 := Lib.hid (show f3.length = n from by have := p3.length_eq; rw [List.length_append, HN.out] at this; simpa using this)
          have HO3 := Lib.hid (HO.out.keep o3 (fun g hg z => z.elim (fun z => own_row HO.out HQ.out.row (by decide) (by rw [← z, hg])) (fun z => own_apart HO.out HQ.out.own (by decide) g hg z.symm)))
          have O3 := Lib.hid (OO.out.trans o3 (fun i hi z => by
            rcases z with z | z
            · omega
            · have := (Owns.base_le HQ.out.own z.symm).1; omega))
          clear p3 hh3 h3 o3
          have oa := (Only.refl none_ w3).alloc (.cells #[.int .i64 x.k] 3)
          have OA := Lib.hid oa
          have RF := Lib.hid (Row.fresh w3 3 #[.int .i64 x.k])
          have HO4 := Lib.hid (HO3.out.still oa)
          have H4 := Lib.hid (H3.out.still oa)
          have O4 := Lib.hid (O3.out.idle oa)
          have sz : w.heap.size ≤ (w3.alloc (.cells #[.int .i64 x.k] 3)).heap.size := O4.out.size
          clear oa
          go_wp2_with (first
            | (at_builtin; go_loud (refine wpList_append_one8 rfl (.tmp 25) (.tmp 30) 42 rfl (c := one) i0 _ 8 Try.underlying42 I0.out I1.out I2.out I3.out rfl (by decide) one1 one_one rfl HO4.out (y := x.k) rfl RF.out l1.out l2.out sz ?_; intro v5 w5 hown5 hO5))
            | go_in)
          have H5 := Lib.hid (H4.out.keep hO5 (fun z => own_row HO4.out H4.out.row (by decide) z) (fun g hg z => own_apart HO4.out H4.out.own (by decide) g z.symm hg))
          have O5 := Lib.hid (O4.out.trans hO5 (fun i hi z => by have := (Owns.base_le HO4.out z.symm).1; omega))
          rw [← TK.out] at hown5
          have W5 := Lib.hid hown5
          clear hown5 hO5
          go_wp2_with fail
          go_roundw
          case rel => exact ⟨r + 1, f3, u3, by have := HL.out; have := HN.out; have := L3.out; omega, W5.out, P3.out, HH3.out, H5.out, O5.out⟩
          case measure =>
            rw [own_lenV W5.out, LV.out, TR.out.1, TR.out.2]
            have := RT.out
            omega
    · intro x q kl y zs w1 cnt1 hkey hlx hq hat hrg1 hlt hg1 hs1 hen
      obtain ⟨x', ex, rfl, hwx⟩ := Maps.keyOf_int_inv Try.underlying3 hkey
      cases ex
      rw [plElem_mk] at hq
      injection hq with hq
      injection hq with hq1 hq2
      subst hq1 hq2
      obtain ⟨qm, rfl⟩ := entry_of HR.out hat
      have G1 := Lib.hid (Only.of_grown hg1)
      have sz := SZ.out
      have O3 := Lib.hid (OO.out.trans G1.out (fun i hi z => by have := Option.some.inj z; omega))
      have GS := Lib.hid (GO.out.step OC.out qm hlx)
      have RA := Lib.hid (World.ranges.alloc (o := .cells #[.int .i64 q.k, .bool q.a, .int .i64 q.n, .bool q.s] 59) (show w1.ranges Try.prog 3 plElem b W.heap.size ps.length D0 (strike left q.k) cnt1 from hrg1))
      have ni := row_notIter QU.out.row RG.out
      have nv := own_notIter QU.out.own RG.out
      have nb := own_notMap QU.out.own RG.out.owns
      have Q1 := Lib.hid (QU.out.keep G1.out (fun z => ni.1 (Option.some.inj z).symm) (fun g hg z => nv (by rw [← z, hg])))
      have Q2 := Lib.hid (Q1.out.still ((Only.refl none_ w1).alloc (.cells #[.int .i64 q.k, .bool q.a, .int .i64 q.n, .bool q.s] 59)))
      have O4 := Lib.hid (O3.out.alloc (.cells #[.int .i64 q.k, .bool q.a, .int .i64 q.n, .bool q.s] 59))
      have NI := Lib.hid (show ¬ quB w.heap.size v b ∧ ¬ quB w.heap.size v W.heap.size from ⟨fun z => z.elim (fun z => ni.2 z) (fun z => nb z), fun z => z.elim (fun z => ni.1 z) (fun z => nv z)⟩)
      unfold plVal at hen ⊢
      clear hkey hat hrg1 hg1 hs1 hlx ni nv nb sz
      cases ha : q.s with
      | false =>
        rw [ha] at hen RA Q2 O4
        have FM := Lib.hid (filt_less (xs := xs) ha)
        go_wp2_with fail
        go_roundw
        case rel => exact ⟨strike left q.k, cnt1, xs ++ [q], d, v, RA.out, GS.out, by rw [FM.out]; exact PP.out, HH.out, Q2.out, O4.out⟩
        case measure => rw [World.ranges.left_eq RA.out, RG.out.left_eq]; exact hlt
      | true =>
        rw [ha] at hen RA Q2 O4
        have FM := Lib.hid (filt_more (xs := xs) ha)
        have IB := Lib.hid (show InB (d ++ [q]) from fun z hz => by
          rcases List.mem_append.1 hz with hz | hz
          · exact PB.out z ((GO.out.2 z).1 (List.mem_filter.1 (PP.out.mem_iff.1 hz)).1).1
          · rw [List.mem_singleton.1 hz]; exact PB.out q qm)
        have HP := hpush_any Q2.out q HH.out IB.out (by omega)
        unfold Pl.val at HP
        rw [ha] at HP
        have HP := Lib.hid HP
        go_wp2_with fail
        (with_reducible refine HP.out.mono ?_)
        rintro e w4 ⟨rfl, v4, d4, p4, hh4, h4, l4, o4⟩
        have R4 := Lib.hid (ranges_keep RA.out o4 NI.out.1 NI.out.2)
        have O5 := Lib.hid (O4.out.trans o4 (fun i hi z => by
          rcases z with z | z
          · omega
          · have := (Owns.base_le Q2.out.own z.symm).1; omega))
        have P4 := Lib.hid (p4.trans (PP.out.append_right [q]))
        have Q4 := Lib.hid h4
        have H4 := Lib.hid hh4
        clear o4 p4 h4 l4 hh4
        go_wp2_with fail
        go_roundw
        case rel => exact ⟨strike left q.k, cnt1, xs ++ [q], d4, v4, R4.out, GS.out, by rw [FM.out]; exact P4.out, H4.out, Q4.out, O5.out⟩
        case measure => rw [World.ranges.left_eq R4.out, RG.out.left_eq]; exact hlt
end Go.Proofs.Ytmihinpbgppjlaa
