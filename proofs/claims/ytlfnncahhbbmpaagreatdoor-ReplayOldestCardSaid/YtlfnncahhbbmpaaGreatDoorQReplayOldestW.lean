/- The walk through ReplayOldest's own text. -/
import Derived.Test.YtlfnncahhbbmpaaGreatDoorQOd19
import Derived.Test.YtlfnncahhbbmpaaGreatDoorQQ
import Derived.Deep.CutRange
import Derived.Maps.AppendAt
namespace Go.Proofs.YtlfnncahhbbmpaaGreatDoor.replayOldest
open Go.ChangeShapes Go.WideShapes Go.ChangeAt Go.RowKit Go.Maps
set_option linter.unusedVariables false
set_option maxRecDepth 100000
theorem add19 (g j : Nat) : (⟨g, 0, none⟩ : Addr).add j = ⟨g, 0 + j, none⟩ := by
  unfold Addr.add
  split
  · rename_i z; rw [z]
  · rfl
theorem drop19 {l : List Int} {t : Nat} {x : Int} (h : l[t]? = some x) : l.drop t = x :: l.drop (t + 1) := by
  obtain ⟨q, e⟩ := List.getElem?_eq_some_iff.1 h
  rw [List.drop_eq_getElem_cons q, e]
/-- append of one number, and in whose block it lies then -/
theorem wpList_append_one19 {P : Program} {w : World} {ops : Array Oper} {rest : List Oper} {o : Oper} {a : Act} {Q : Exit → Act → World → Prop} (hgd : o.guard = none) (s x : Operand) (t : TypeId)
    (ho : o.op = .call { callee := .builtin .append, args := #[s, x], argTypes := #[t, t] })
    {base : Nat} {e : TypeId} {k : Nat} {c : Int → List Value} (i : TypeInfo) (z : Value) (bytes : Nat) (ht : P.underlying t = some (.slice e)) (hi : P.info? e = some i) (hz : i.zero = some z)
    (hsize : i.size = k) (hby : i.bytes = bytes) (hzs : z.cells.size = k) (hk0 : 0 < k) (hk : ∀ y, (c y).length = k) (h1 : ∀ y, ∀ u ∈ c y, u.oneCell' = true)
    {v : Value} {xs : List Int} (hs : a.eval s = v) (hown : Owns w base e k c v xs)
    {g cc : Nat} {y : Int} (hx : a.eval x = .slice (some ⟨g, 0, none⟩) 1 cc) (hrow : Row w g e (c y).toArray)
    (hlen : xs.length < 9223372036854775807) (hbytes : (xs.length + 1) * bytes ≤ 140737488355328) (hbase : base ≤ w.heap.size)
    (h : ∀ v' w', Owns w' base e k c v' (xs ++ [y]) → Only (fun j => some j = v.ownBlock) w w' → (v'.ownBlock = v.ownBlock ∨ v'.ownBlock = some w.heap.size) → wpList P ops Q rest (a.put o.dst v') w') : wpList P ops Q (o :: rest) a w := by
  refine wpList_plain hgd fun K' hK' => ?_
  have news : ∀ j u, (c y)[j]? = some u → w.cell? ((⟨g, 0, none⟩ : Addr).add j) = some u := fun j u hj => by
    rw [add19, Nat.zero_add, hrow.cell, List.getElem?_toArray]
    exact hj
  obtain ⟨v', w', hrun, r1, r2, _, r4⟩ := run_append_own_at (P := P) w base t o.type e i z k bytes ht hi hz hsize hby hzs hk0 v xs.length (xs.flatMap c) hown ⟨g, 0, none⟩ 1 cc (c y) (by rw [hk]; omega) news (h1 y) (by unfold maxLen; omega) hbytes hbase
  unfold Oper.wp
  simp [execOp, ho, resolve, invoke, builtin, hs, hx, hrun, Result.andThen]
  refine hK' _ _ (h v' w' ?_ (Only.of_grown r2) r4)
  unfold Owns
  rw [List.flatMap_append, List.length_append]
  simpa using r1
/-- the row of the blocks' order: the law's own, apart from the model -/
structure OR (w1 wr : World) (K : Nat → Nat) (v : Value) (ord : List Int) : Prop where
  own : OwnsInts wr w1.heap.size v ord
  k : ∀ g, v.ownBlock = some g → K g = 0
theorem OR.still {w1 wr w' : World} {K : Nat → Nat} {v : Value} {ord : List Int} (h : OR w1 wr K v ord) (o : Only none_ wr w') : OR w1 w' K v ord := ⟨h.own.still o, h.k⟩
theorem OR.step {w1 wr w' : World} {K K' : Nat → Nat} {v : Value} {ord : List Int} (h : OR w1 wr K v ord) (o : Only (fun g => K g ≠ 0) wr w') (g' : Gn wr K K') : OR w1 w' K' v ord :=
  ⟨h.own.keep o (fun g hg z => z (h.k g hg)), fun g hg => g'.kept (h.own.base_le hg).2 (h.k g hg)⟩
/-- what was appended, and a model beside it -/
theorem OR.more {w1 wr w' : World} {p L : Nat} {K : Nat → Nat} {s : Option Mo} {v v' : Value} {ord : List Int} {x : Int} (m : LM w1 wr p K L s) (h : OR w1 wr K v ord) (own : OwnsInts w' w1.heap.size v' (ord ++ [x])) (o : Only (fun j => some j = v.ownBlock) wr w') (hb : v'.ownBlock = v.ownBlock ∨ v'.ownBlock = some wr.heap.size) :
    LM w1 w' p K L s ∧ OR w1 w' K v' (ord ++ [x]) := by
  refine ⟨m.keep o (fun g hg z => hg (h.k g z.symm)) (fun g z => (h.own.base_le z.symm).1), own, fun g hg => ?_⟩
  rcases hb with e | e
  · exact h.k g (e ▸ hg)
  · rw [hg] at e
    rw [Option.some.inj e]
    exact m.zero (Nat.le_refl _)
set_option maxHeartbeats 8000000 in
theorem walk (w : World) (hb : Bd w) (a0 : Int) (wa0 : (Lit.int .u8 a0).wf = true) (A : Option Addr) (len cap : Nat) (xs : List Int) (hmax : len ≤ maxLen) (hlen : xs.length = len) (hold : Holds w A 1 byteC xs) (hwf : ∀ x ∈ xs, 0 ≤ x ∧ x ≤ 255) (a2 : Int) (wa2 : (Lit.int .u8 a2).wf = true) :
    Calls Tryz.prog 6 #[.int .u8 a0, .slice A len cap, .int .u8 a2] w fun e w' => e = .returned (.bool true) ∧ Below w.heap.size w w' := by
  obtain ⟨p0, p1⟩ := bd_u8 wa0
  obtain ⟨t0, t1⟩ := bd_u8 wa2
  unfold maxLen at hmax
  obtain ⟨n, hn⟩ : ∃ n : Nat, 1 + a0 % 64 = (n : Int) := ⟨(1 + a0 % 64).toNat, by omega⟩
  have NB := Lib.hid (show 1 ≤ n ∧ n ≤ 64 from by omega)
  have HN := Lib.hid hn
  have HB := Lib.hid hb
  have HL := Lib.hid hlen
  have HO := Lib.hid hold
  have HW := Lib.hid hwf
  obtain ⟨i0, hi0, hz0, hz1, hz2⟩ := info_parts info_int8
  have I0 := Lib.hid hi0
  have I1 := Lib.hid hz0
  have I2 := Lib.hid hz1
  have I3 := Lib.hid hz2
  clear hb hn hlen hold hwf hi0 hz0 hz1 hz2
  go_enter Tryz.func6, Tryz.ntmps6
  go_wp2_with fail
  (with_reducible refine (awake19_any w HB.out).mono ?_)
  rintro e w1 ⟨rfl, o1⟩
  have O1 := Lib.hid o1
  clear o1
  go_wp2_with fail
  (with_reducible refine (rusual_any 256 w1).mono ?_)
  rintro e w2 ⟨rfl, o2⟩
  obtain ⟨W3, hW3⟩ : ∃ W, W = w2.alloc (.cells #[.int .i64 256, .int .i64 8, .int .i64 2, .int .i64 16, .int .i64 8, .int .i64 4, .int .i64 4, .int .i64 3, .int .i64 8, .int .i64 32, .int .i64 4, .int .i64 8, .int .i64 16, .int .i64 4] 23) := ⟨_, rfl⟩
  unfold usual Opt.val
  dsimp only
  go_upto_region 5 with fail
  rw [← hW3]
  have o3 : Only none_ w2 W3 := by rw [hW3]; exact (Only.refl _ _).alloc _
  have r3 : Row W3 w2.heap.size 23 #[.int .i64 256, .int .i64 8, .int .i64 2, .int .i64 16, .int .i64 8, .int .i64 4, .int .i64 4, .int .i64 3, .int .i64 8, .int .i64 32, .int .i64 4, .int .i64 8, .int .i64 16, .int .i64 4] := by rw [hW3]; exact Row.fresh _ _ _
  have O3 := Lib.hid ((O1.out.same o2).same o3)
  have G7 := Lib.hid (show w.heap.size ≤ w2.heap.size from (O1.out.same o2).size)
  clear hW3 o2 o3
  generalize w2.heap.size = g7 at *
  have R3 := Lib.hid r3
  have c1 : W3.cell? ⟨g7, 1, none⟩ = some (.int .i64 8) := r3.cell 1
  have c2 : W3.cell? ⟨g7, 2, none⟩ = some (.int .i64 2) := r3.cell 2
  have f5 := r3.frozen
  have lg := r3.lt
  clear r3
  go_upto_region 7 with fail
  rw [HN.out]
  obtain ⟨W5, hW5⟩ : ∃ W, W = (W3.setCell ⟨g7, 1, none⟩ (.int .i64 n)).setCell ⟨g7, 2, none⟩ (.int .i64 1) := ⟨_, rfl⟩
  have r5 : Row W5 g7 23 (opt19 256 n).cells := by rw [hW5]; exact (R3.out.put 1 _).put 2 _
  have o5 : Only (fun k => k = g7) W3 W5 := by rw [hW5]; exact ((Only.refl (fun k => k = g7) W3).into rfl _ _).into rfl _ _
  have O5 := Lib.hid (show Only none_ w W5 from O3.out.trans o5 (fun i hi e => by have e1 : i = g7 := e; have := G7.out; omega))
  rw [← hW5]
  have NW := lm_new (opt19 256 n) W5 (HB.out.still O5.out) (opt19_may ⟨by decide, by decide⟩ (by have := NB.out; omega))
  unfold opt19 Opt.val at NW
  unfold opt19 Opt.cells at r5
  dsimp only at NW r5
  have NW := Lib.hid NW
  have R5 := Lib.hid r5
  clear hW5 o5 r5 R3 c1 c2 f5 lg O3
  go_wp2_with (first | (refine wpList_load_row rfl 23 _ rfl g7 rfl 23 _ (0, 0) _ R5.out Tryz.underlying23 rfl info_opt ?_) | fail)
  (with_reducible refine NW.out.mono ?_)
  rintro E w6 ⟨p, K, rfl, l6⟩
  have L6 := Lib.hid (show LM W5 w6 p K 0 (some (newMo (opt19 256 n))) from l6)
  clear l6 NW R5
  go_wp2_with fail
  go_loopw [11, 12, 13] (fun v i _ wr => ∃ (j : Nat) (m : Mo) (K : Nat → Nat) (ord : List Int) (u : Value), u = v ∧ j ≤ n ∧ i = .int .i64 j ∧ LM W5 wr p K (2 * j) (some m) ∧ Ord m n [] ord ∧ ord.length = j ∧ (∀ x ∈ ord, ∃ t : Nat, t < j ∧ x = 255 - 3 * (t : Int)) ∧ (∀ t : Nat, t < j → (255 - 3 * (t : Int)) ∈ ord) ∧ OR W5 wr K u ord) (fun _ i _ _ => n - (intOf i).toNat)
  case atStart => exact ⟨0, _, K, [], _, rfl, Nat.zero_le _, rfl, L6.out, ord_new n, rfl, (fun x hx => by cases hx), (fun t ht => by omega), ⟨Owns.start _ _ _ _ _, fun g hg => by cases hg⟩⟩
  case round =>
    obtain ⟨j, m, K, ord, u, rfl, hj, rfl, lm, od, ol, o1, o2, hr⟩ := hrel
    have LL := Lib.hid lm
    have OD := Lib.hid od
    have OL := Lib.hid ol
    have OX := Lib.hid o1
    have OY := Lib.hid o2
    have RO := Lib.hid hr
    have WW := Lib.hid (O5.out.same lm.only)
    have NB1 := NB.out.1
    have NB2 := NB.out.2
    clear lm od ol o1 o2 hr L6
    by_cases lt : j < n
    · obtain ⟨x, hx⟩ : ∃ x : Int, x = 255 - 3 * (j : Int) := ⟨_, rfl⟩
      obtain ⟨m1, s1, d1⟩ := ord_enter OD.out (x := x) (by omega) (fun q => by
        obtain ⟨t, ht, e⟩ := OX.out x q
        omega) (by rw [OL.out]; exact lt)
      obtain ⟨m2, s2, d2⟩ := ord_ready d1
      have S1 := Lib.hid (lm_stepc ⟨4, x, 1, 0, 0⟩ (show (Lit.int .i64 4).wf = true from by decide) s1 (c := 0) rfl LL.out (by omega))
      have D2 := Lib.hid d2
      have SS2 := Lib.hid s2
      have x3 : 255 - 3 * (j : Int) = x := hx.symm
      have HX := Lib.hid hx
      clear s1 d1 s2 d2 hx
      go_upto_region 15 with fail
      try rw [x3]
      clear x3
      go_wp2_with fail
      (with_reducible refine S1.out.mono ?_)
      rintro E w7 ⟨rfl, K7, l7, g7', o7⟩
      have S2 := Lib.hid (lm_stepc ⟨5, x, 0, 0, 0⟩ (show (Lit.int .i64 5).wf = true from by decide) SS2.out (c := 0) rfl l7 (by omega))
      have R7 := Lib.hid (RO.out.step o7 g7')
      clear l7 g7' o7 S1 LL RO
      go_wp2_with fail
      (with_reducible refine S2.out.mono ?_)
      rintro E w8 ⟨rfl, K8, l8, g8', o8⟩
      have R8 := R7.out.step o8 g8'
      have al := (Only.refl none_ w8).alloc (.cells #[.int .i64 x] 3)
      obtain ⟨w9, hw9⟩ : ∃ w9, w9 = w8.alloc (.cells #[.int .i64 x] 3) := ⟨_, rfl⟩
      rw [← hw9] at al
      have RF := Lib.hid (show Row w9 w8.heap.size 3 (one x).toArray from by rw [hw9]; exact Row.fresh w8 _ _)
      have L9 := Lib.hid (l8.still al)
      have R9 := Lib.hid (R8.still al)
      have SZ := Lib.hid (show W5.heap.size ≤ w9.heap.size from L9.out.only.size)
      have LE := Lib.hid (show ord.length < 1000 from by rw [OL.out]; omega)
      clear l8 g8' o8 R8 al S2 R7
      go_wp2_with (at_builtin; (first | rw [← hw9] | skip); (refine wpList_append_one19 rfl (.tmp 57) (.tmp 59) 45 rfl (c := one) i0 _ 8 Tryz.underlying45 I0.out I1.out I2.out I3.out rfl (by decide) one1 one_one rfl R9.out.own (y := x) rfl RF.out (by have := LE.out; omega) (by have := LE.out; omega) SZ.out ?_); intro v9 w10 own9 o9 hblk)
      obtain ⟨l10, r10⟩ := OR.more L9.out R9.out own9 o9 hblk
      have L10 := Lib.hid l10
      have R10 := Lib.hid r10
      clear l10 r10 own9 o9 hblk hw9
      go_wp2_with fail
      go_roundw
      case rel => exact ⟨j + 1, m2, K8, ord ++ [x], _, rfl, by omega, by go_num, L10.out, D2.out, by rw [List.length_append, OL.out]; rfl, fun y hy => by
          rcases List.mem_append.1 hy with q | q
          · obtain ⟨t, ht, e⟩ := OX.out y q
            exact ⟨t, by omega, e⟩
          · exact ⟨j, by omega, (List.mem_singleton.1 q).trans HX.out⟩, fun t ht => by
          by_cases e : t = j
          · rw [e, ← HX.out]; simp
          · exact List.mem_append.2 (.inl (OY.out t (by omega))), R10.out⟩
      case measure => simp [intOf]; omega
    · obtain rfl : j = n := by omega
      have L0 := LL
      clear OX lt
      go_wp2_with fail
      go_loopw [11, 14, 15] (fun v i _ wr => ∃ (k : Nat) (m : Mo) (K : Nat → Nat) (ord : List Int) (u : Value), u = v ∧ k ≤ len ∧ k ≤ 200 ∧ i = .int .i64 k ∧ LM W5 wr p K (2 * j + k) (some m) ∧ Ord m j [] ord ∧ ord.length = j ∧ (∀ t : Nat, t < j → (255 - 3 * (t : Int)) ∈ ord) ∧ OR W5 wr K u ord) (fun _ i _ _ => len - (intOf i).toNat)
      case atStart => exact ⟨0, m, K, ord, _, rfl, Nat.zero_le _, Nat.zero_le _, rfl, LL.out, OD.out, OL.out, OY.out, RO.out⟩
      case round =>
        obtain ⟨k, m, K, ord, u, rfl, hk, hk2, rfl, lm, od, ol, o2, hr⟩ := hrel
        have LL := Lib.hid lm
        have OD := Lib.hid od
        have OL := Lib.hid ol
        have OY := Lib.hid o2
        have RO := Lib.hid hr
        have WW := Lib.hid (O5.out.same lm.only)
        clear lm od ol o2 hr L0
        have t12 : (k < len ∧ k < 200) ∨ (k < len ∧ 200 ≤ k) ∨ len ≤ k := by omega
        rcases t12 with ⟨q1, q2⟩ | q1
        · obtain ⟨b0, hb0⟩ : ∃ e, xs[k]? = some e := ⟨_, List.getElem?_eq_getElem (by rw [HL.out]; exact q1)⟩
          obtain ⟨sb, so, hA, hsb, k0⟩ := byte_at HO.out WW.out.to_below8 hb0
          subst hA
          have bb := HW.out b0 (List.mem_of_getElem? hb0)
          obtain ⟨t, ht⟩ : ∃ t : Nat, b0 % (j : Int) = (t : Int) := ⟨(b0 % (j : Int)).toNat, by have := Int.emod_nonneg b0 (show (j : Int) ≠ 0 by omega); omega⟩
          have htj : t < j := by have := Int.emod_lt_of_pos b0 (show (0 : Int) < (j : Int) by omega); omega
          obtain ⟨x, hx⟩ : ∃ x : Int, 255 - 3 * (t : Int) = x := ⟨_, rfl⟩
          have xm : x ∈ ord := hx ▸ OY.out t htj
          obtain ⟨m1, s1, d1, l1⟩ := ord_hit OD.out xm
          have S1 := Lib.hid (lm_stepc ⟨2, x, 1, 0, 0⟩ (show (Lit.int .i64 2).wf = true from by decide) s1 (c := 0) rfl LL.out (by omega))
          have D1 := Lib.hid d1
          have LN := Lib.hid (l1.trans OL.out)
          have XM := Lib.hid xm
          have OY2 := Lib.hid (fun (t : Nat) (ht : t < j) => (show (255 - 3 * (t : Int)) ∈ ord.erase x ++ [x] from by
            by_cases e : 255 - 3 * (t : Int) = x
            · rw [e]; simp
            · exact List.mem_append.2 (.inl ((List.mem_erase_of_ne e).2 (OY.out t ht)))))
          have nz : ((j : Int) == 0) = false := by simp; omega
          clear s1 d1 l1 hb0 hsb xm
          go_upto_region 22 with fail
          try rw [ht]
          try rw [hx]
          go_wp2_with fail
          (with_reducible refine S1.out.mono ?_)
          rintro E w7 ⟨rfl, K7, l7, g7', o7⟩
          have R7 := RO.out.step o7 g7'
          have lo : ord.length ≤ 1000 := by rw [OL.out]; omega
          have F7 := find_any _ _ x w7 (Reads.of_owns R7.own) (by omega)
          rw [show findI ord x = (ord.idxOf x : Int) from by unfold findI; rw [if_pos XM.out]] at F7
          have W7 := without_any _ _ (ord.idxOf x) _ w7 R7.own (by omega) (List.idxOf_lt_length_of_mem XM.out)
          rw [take_drop_erase XM.out] at W7
          have L7 := Lib.hid l7
          have F7 := Lib.hid F7
          have W7 := Lib.hid W7
          have EL := Lib.hid (show (ord.erase x).length < 1000 from by rw [List.length_erase_of_mem XM.out]; omega)
          clear l7 g7' o7 S1 LL R7 lo RO
          go_wp2_with fail
          (with_reducible refine F7.out.mono ?_)
          rintro E w' ⟨rfl, rfl⟩
          go_wp2_with fail
          (with_reducible refine W7.out.mono ?_)
          rintro E w8 ⟨v8, rfl, own8, o8⟩
          have al := (Only.refl none_ w8).alloc (.cells #[.int .i64 x] 3)
          obtain ⟨w9, hw9⟩ : ∃ w9, w9 = w8.alloc (.cells #[.int .i64 x] 3) := ⟨_, rfl⟩
          rw [← hw9] at al
          have RF := Lib.hid (show Row w9 w8.heap.size 3 (one x).toArray from by rw [hw9]; exact Row.fresh w8 _ _)
          have R8 : OR W5 w8 K7 v8 (ord.erase x) := ⟨Owns.lower own8 L7.out.only.size, fun g hg => L7.out.zero (own8.base_le hg).1⟩
          have L9 := Lib.hid ((L7.out.still o8).still al)
          have R9 := Lib.hid (R8.still al)
          have SZ := Lib.hid (show W5.heap.size ≤ w9.heap.size from L9.out.only.size)
          clear own8 o8 R8 al F7 W7
          go_wp2_with (at_builtin; (first | rw [← hw9] | skip); (refine wpList_append_one19 rfl (.tmp 89) (.tmp 91) 45 rfl (c := one) i0 _ 8 Tryz.underlying45 I0.out I1.out I2.out I3.out rfl (by decide) one1 one_one rfl R9.out.own (y := x) rfl RF.out (by have := EL.out; omega) (by have := EL.out; omega) SZ.out ?_); intro v9 w10 own9 o9 hblk)
          obtain ⟨l10, r10⟩ := OR.more L9.out R9.out own9 o9 hblk
          have L10 := Lib.hid l10
          have R10 := Lib.hid r10
          clear l10 r10 own9 o9 hblk hw9
          go_wp2_with fail
          go_roundw
          case rel => exact ⟨k + 1, m1, K7, _, _, rfl, by omega, by omega, by go_num, L10.out, D1.out, LN.out, OY2.out, R10.out⟩
          case measure => simp [intOf]; omega
        · have L1 := Lib.hid (LL.out.up (show 2 * j + k ≤ 2 * j + 200 by omega))
          rcases q1 with ⟨q1, q2⟩ | q1
          all_goals
            obtain ⟨kk, hkk⟩ : ∃ t : Nat, a2 % (j : Int) = (t : Int) := ⟨(a2 % (j : Int)).toNat, by have := Int.emod_nonneg a2 (show (j : Int) ≠ 0 by omega); omega⟩
            have kkj : kk < j := by have := Int.emod_lt_of_pos a2 (show (0 : Int) < (j : Int) by omega); omega
            have nz : ((j : Int) == 0) = false := by simp; omega
            clear LL
            go_upto_region 26 with fail
            try rw [hkk]
            go_wp2_with fail
            go_loopw [17] (fun i wr => ∃ (t : Nat) (m : Mo) (K : Nat → Nat), t ≤ kk ∧ i = .int .i64 t ∧ LM W5 wr p K (2 * j + 200 + t) (some m) ∧ Ord m j [] (ord.drop t) ∧ OR W5 wr K u ord) (fun i _ => kk - (intOf i).toNat)
            case atStart => exact ⟨0, m, K, Nat.zero_le _, rfl, L1.out, OD.out, RO.out⟩
            case round =>
              obtain ⟨t, m, K, ht, rfl, lm, od, hr⟩ := hrel
              obtain ⟨g, cap, hu, hc⟩ : ∃ (g cap : Nat), u = .slice (some ⟨g, 0, none⟩) j cap ∧ ∀ (i : Nat) (x : Int), ord[i]? = some x → wr.cell? ⟨g, i, none⟩ = some (.int .i64 x) := by
                rcases own_cases19 hr.own with ⟨_, e⟩ | ⟨g, cap, e, _, _, hc⟩
                · have := OL.out; rw [e] at this; simp at this; omega
                · exact ⟨g, cap, by rw [← OL.out]; exact e, hc⟩
              subst hu
              have LL := Lib.hid lm
              have OD := Lib.hid od
              have RR := Lib.hid hr
              have WW := Lib.hid (O5.out.same lm.only)
              clear lm od hr L1 RO
              by_cases lt : t < kk
              · obtain ⟨x, hx⟩ : ∃ x, ord[t]? = some x := ⟨_, List.getElem?_eq_getElem (by rw [OL.out]; omega)⟩
                have hc0 := hc t x hx
                have hdx : ord.drop t = x :: ord.drop (t + 1) := drop19 hx
                obtain ⟨m1, s1, d1⟩ := ord_gone (hdx ▸ OD.out)
                have S1 := Lib.hid (lm_stepc ⟨6, x, 0, 0, 0⟩ (show (Lit.int .i64 6).wf = true from by decide) s1 (c := 0) rfl LL.out (by omega))
                have D1 := Lib.hid d1
                clear s1 d1 hdx hx hc
                go_wp2_with fail
                (with_reducible refine S1.out.mono ?_)
                rintro E w7 ⟨rfl, K7, l7, g7', o7⟩
                have R7 := Lib.hid (RR.out.step o7 g7')
                have L7 := Lib.hid l7
                clear l7 g7' o7 S1 LL RR
                go_wp2_with fail
                go_roundw
                case rel => exact ⟨t + 1, m1, K7, by omega, by go_num, L7.out, D1.out, R7.out⟩
                case measure => simp [intOf]; omega
              · obtain rfl : t = kk := by omega
                obtain ⟨z, hz⟩ : ∃ x, ord[j - 1]? = some x := ⟨_, List.getElem?_eq_getElem (by rw [OL.out]; omega)⟩
                obtain ⟨y, hy⟩ : ∃ x, ord[t]? = some x := ⟨_, List.getElem?_eq_getElem (by rw [OL.out]; omega)⟩
                have hc0 := hc (j - 1) z hz
                have hdx : ord.drop t = y :: ord.drop (t + 1) := drop19 hy
                have od2 : Ord m j [] (y :: ord.drop (t + 1)) := hdx ▸ OD.out
                obtain ⟨j1, hj1⟩ : ∃ q, j = q + 1 := ⟨j - 1, by omega⟩
                have je : (j : Int) - 1 = (j1 : Int) := by omega
                have je2 : j - 1 = j1 := by omega
                rw [je2] at hc0
                by_cases last : t = j1
                · obtain rfl : y = z := by
                    rw [je2, ← last, hy] at hz
                    exact Option.some.inj hz
                  obtain ⟨m1, s1, d1⟩ := ord_gone od2
                  have S1 := Lib.hid (lm_stepc ⟨6, y, 0, 0, 0⟩ (show (Lit.int .i64 6).wf = true from by decide) s1 (c := 0) rfl LL.out (by omega))
                  clear s1 d1 hdx hz hy hc od2 hj1 je2
                  go_wp2_with fail
                  (with_reducible refine S1.out.mono ?_)
                  rintro E w7 ⟨rfl, K7, l7, g7', o7⟩
                  have OF := Lib.hid (O5.out.same l7.only)
                  have BK := Lib.hid (lm_broken l7)
                  clear l7 g7' o7 S1 LL RR
                  go_wp2_with fail
                  (with_reducible refine BK.out.mono ?_)
                  rintro E w8 ⟨rfl, rfl⟩
                  go_wp2_with fail
                  go_ret
                  exact ⟨rfl, OF.out.to_below8⟩
                · have yz : z ≠ y := by
                    intro e
                    subst e
                    have h1 := (List.nodup_cons.1 od2.nd).1
                    exact h1 (List.mem_of_getElem? (i := j1 - (t + 1)) (by rw [List.getElem?_drop, show t + 1 + (j1 - (t + 1)) = j - 1 by omega]; exact hz))
                  have S1 := Lib.hid (lm_stepc ⟨6, z, 0, 0, 0⟩ (show (Lit.int .i64 6).wf = true from by decide) (ord_wrong od2 yz) (c := 9) rfl LL.out (by omega))
                  have last2 : ((t : Int) == (j1 : Int)) = false := by simp; omega
                  clear hdx hz hy hc od2 hj1 je2 yz last
                  go_wp2_with fail
                  (with_reducible refine S1.out.mono ?_)
                  rintro E w7 ⟨rfl, K7, l7, g7', o7⟩
                  have OF := Lib.hid (O5.out.same l7.only)
                  have BK := Lib.hid (lm_broken l7)
                  clear l7 g7' o7 S1 LL RR
                  go_wp2_with fail
                  (with_reducible refine BK.out.mono ?_)
                  rintro E w8 ⟨rfl, rfl⟩
                  go_wp2_with fail
                  go_ret
                  exact ⟨rfl, OF.out.to_below8⟩
end Go.Proofs.YtlfnncahhbbmpaaGreatDoor.replayOldest
