/- Whether two answers, or two rows of answers, are the same. -/
import Derived.Test.YtoflkeedfgnkhaaTb17
import Derived.Test.YtoflkeedfgnkhaaInt11
import Derived.Deep.Cut
import Derived.Deep.CutRange
import Derived.BigQuiet
namespace Go.Proofs.Ytoflkeedfgnkhaa
open Go.RowKit
set_option linter.unusedVariables false
set_option maxRecDepth 100000

theorem two_new17 (w : World) (t u : TypeId) (cs ds : Array Value) : Row ((w.alloc (.cells cs t)).alloc (.cells ds u)) w.heap.size t cs ∧ Row ((w.alloc (.cells cs t)).alloc (.cells ds u)) (w.heap.size + 1) u ds ∧ Only none_ w ((w.alloc (.cells cs t)).alloc (.cells ds u)) := by
  have o1 : Only none_ w (w.alloc (.cells cs t)) := (Only.refl _ _).alloc _
  have o2 : Only none_ (w.alloc (.cells cs t)) ((w.alloc (.cells cs t)).alloc (.cells ds u)) := (Only.refl _ _).alloc _
  refine ⟨o2.still (Row.fresh _ _ _), ?_, o1.same o2⟩
  have := Row.fresh (w.alloc (.cells cs t)) u ds
  simpa using this
set_option maxHeartbeats 2000000 in
theorem answer_any (a b : Ak) (n m : An) (G G' : Nat → Prop) (w : World) (ha : AkOk w G a n) (hb : AkOk w G' b m) (h1 : n.vs.length ≤ 1000000) (h2 : m.vs.length ≤ 1000000) :
    Calls Try.prog 34 #[.agg #[.int .i64 a.id, .int .i64 a.code, a.v], .agg #[.int .i64 b.id, .int .i64 b.code, b.v]] w fun e w' => e = .returned (.bool (decide (n = m))) ∧ Only none_ w w' := by
  obtain ⟨ai, ac, av⟩ := a
  obtain ⟨bi, bc, bv⟩ := b
  obtain ⟨e1, e2, A, ca, e3, HA⟩ := ha
  obtain ⟨f1, f2, B, cb, f3, HB⟩ := hb
  obtain ⟨ni, nc, xs⟩ := n
  obtain ⟨mi, mc, ys⟩ := m
  dsimp only at *
  subst e1 e2 e3 f1 f2 f3
  obtain ⟨W1, hW1⟩ : ∃ W1, W1 = (w.alloc (.cells #[.int .i64 ai, .int .i64 ac, .slice A xs.length ca] 49)).alloc (.cells #[.int .i64 bi, .int .i64 bc, .slice B ys.length cb] 49) := ⟨_, rfl⟩
  obtain ⟨ra, rb, o1⟩ := two_new17 w 49 49 #[.int .i64 ai, .int .i64 ac, .slice A xs.length ca] #[.int .i64 bi, .int .i64 bc, .slice B ys.length cb]
  rw [← hW1] at ra rb o1
  have RA := Lib.hid ra
  have RB := Lib.hid rb
  have O1 := Lib.hid o1
  have a0 : W1.cell? ⟨w.heap.size, 0, none⟩ = some (.int .i64 ai) := ra.cell 0
  have a1 : W1.cell? ⟨w.heap.size, 1, none⟩ = some (.int .i64 ac) := ra.cell 1
  have a2 : W1.cell? ⟨w.heap.size, 2, none⟩ = some (.slice A xs.length ca) := ra.cell 2
  have b0 : W1.cell? ⟨w.heap.size + 1, 0, none⟩ = some (.int .i64 bi) := rb.cell 0
  have b1 : W1.cell? ⟨w.heap.size + 1, 1, none⟩ = some (.int .i64 bc) := rb.cell 1
  have b2 : W1.cell? ⟨w.heap.size + 1, 2, none⟩ = some (.slice B ys.length cb) := rb.cell 2
  have HA := Lib.hid HA
  have HB := Lib.hid HB
  have HM := Lib.hid h1
  clear ra rb o1 h1 h2
  have NE : ∀ {q : Prop}, (¬ q) → (ai = bi → ac = bc → xs = ys → q) → decide ((⟨ai, ac, xs⟩ : An) = ⟨bi, bc, ys⟩) = false := fun hq k => decide_eq_false (fun e => by
    injection e with e1 e2 e3
    exact hq (k e1 e2 e3))
  by_cases c1 : ai = bi
  · by_cases c2 : ac = bc
    · by_cases c3 : xs.length = ys.length
      · have t1 : (ai != bi) = false := by simp [c1]
        have t2 : (ac != bc) = false := by simp [c2]
        have t3 : ((xs.length : Int) != (ys.length : Int)) = false := by simp [c3]
        have HL := Lib.hid c3
        have EQ := Lib.hid (show decide ((⟨ai, ac, xs⟩ : An) = ⟨bi, bc, ys⟩) = decide (xs = ys) from by rw [c1, c2]; simp)
        rw [EQ.out]
        have le : xs.length ≤ ys.length := by omega
        clear c1 c2 c3 NE EQ
        go_enter Try.func34, Try.ntmps34
        go_upto_region 1 with fail
        rw [← hW1]
        clear hW1
        go_wp2_with fail
        clear a0 a1 b0 b1 t1 t2 t3
        go_loopw [5] (fun i wr => ∃ k : Nat, k ≤ xs.length ∧ i = .int .i64 k ∧ Only none_ W1 wr ∧ ∀ j, j < k → xs[j]? = ys[j]?) (fun i _ => xs.length - (intOf i).toNat)
        case atStart => exact ⟨0, Nat.zero_le _, rfl, Only.refl _ _, fun j hj => by omega⟩
        case round =>
          obtain ⟨k, hk, rfl, o, eq⟩ := hrel
          have O := Lib.hid o
          have EQ := Lib.hid eq
          have hm := HM.out
          have z2 : wr.cell? ⟨w.heap.size, 2, none⟩ = some (.slice A xs.length ca) := o.cell a2 (fun s => s)
          have y2 : wr.cell? ⟨w.heap.size + 1, 2, none⟩ = some (.slice B ys.length cb) := o.cell b2 (fun s => s)
          clear o eq
          by_cases hlt : k < xs.length
          · obtain ⟨x, hx⟩ : ∃ x, xs[k]? = some x := ⟨_, List.getElem?_eq_getElem hlt⟩
            have hlt2 : k < ys.length := by omega
            obtain ⟨y, hy⟩ : ∃ y, ys[k]? = some y := ⟨_, List.getElem?_eq_getElem hlt2⟩
            obtain ⟨g1, q1, rfl, _, k1⟩ := HA.out k x hx
            obtain ⟨g2, q2, rfl, _, k2⟩ := HB.out k y hy
            have d1 := O.out.cell (O1.out.cell k1 (fun s => s)) (fun s => s)
            have d2 := O.out.cell (O1.out.cell k2 (fun s => s)) (fun s => s)
            have HX := Lib.hid hx
            have HY := Lib.hid hy
            clear hx hy k1 k2 HA HB
            by_cases e : x = y
            · have t2 : (x != y) = false := by simp [e]
              have E2 := Lib.hid e
              clear e
              go_wp2_with fail
              go_quiet (fail)
              go_wp2_with fail
              go_roundw
              case rel => exact ⟨k + 1, by omega, by go_num, O.out.drewN _, fun j hj => by
                rcases Nat.lt_or_ge j k with c | c
                · exact EQ.out j c
                · obtain rfl : j = k := by omega
                  rw [HX.out, HY.out, E2.out]⟩
              case measure => simp [intOf]; omega
            · have t2 : (x != y) = true := by simpa using e
              have NE := Lib.hid (show decide (xs = ys) = false from by
                have : ¬ xs = ys := fun q => by
                  have := HX.out
                  rw [q, HY.out] at this
                  injection this with this
                  exact e this.symm
                simpa using this)
              clear e
              go_wp2_with fail
              go_quiet (fail)
              go_wp2_with fail
              go_ret
              exact ⟨by rw [NE.out]; rfl, O1.out.same (O.out.drewN _)⟩
          · have YE := Lib.hid (show decide (xs = ys) = true from by
              have : xs = ys := eq_upto HL.out (fun j hj => EQ.out j (by omega))
              simpa using this)
            go_wp2_with fail
            go_ret
            exact ⟨by rw [YE.out]; rfl, O1.out.same O.out⟩
      · have t1 : (ai != bi) = false := by simp [c1]
        have t2 : (ac != bc) = false := by simp [c2]
        have t3 : ((xs.length : Int) != (ys.length : Int)) = true := by simp; omega
        have N := Lib.hid (NE c3 (fun _ _ e => by rw [e]))
        clear c1 c2 c3 NE
        go_enter Try.func34, Try.ntmps34
        go_upto_region 1 with fail
        rw [← hW1]
        clear hW1
        go_wp2_with fail
        go_ret
        exact ⟨by rw [N.out]; rfl, O1.out⟩
    · have t1 : (ai != bi) = false := by simp [c1]
      have t2 : (ac != bc) = true := by simp [c2]
      have N := Lib.hid (NE c2 (fun _ e _ => e))
      clear c1 c2 NE
      go_enter Try.func34, Try.ntmps34
      go_upto_region 1 with fail
      rw [← hW1]
      clear hW1
      go_wp2_with fail
      go_ret
      exact ⟨by rw [N.out]; rfl, O1.out⟩
  · have t1 : (ai != bi) = true := by simp [c1]
    have N := Lib.hid (NE c1 (fun e _ _ => e))
    clear c1 NE
    go_enter Try.func34, Try.ntmps34
    go_upto_region 1 with fail
    rw [← hW1]
    clear hW1
    go_wp2_with fail
    go_ret
    exact ⟨by rw [N.out]; rfl, O1.out⟩
theorem an_upto {xs ys : List An} (hl : xs.length = ys.length) (h : ∀ j, j < xs.length → xs[j]? = ys[j]?) : xs = ys := by
  apply List.ext_getElem?
  intro j
  rcases Nat.lt_or_ge j xs.length with c | c
  · exact h j c
  · rw [List.getElem?_eq_none c, List.getElem?_eq_none (by omega)]
set_option maxHeartbeats 2000000 in
theorem answers_any (v u : Value) (xs ys : List An) (G G' : Nat → Prop) (w : World) (hx : AR w G v xs) (hy : AR w G' u ys) (h1 : xs.length ≤ 1000000) (h2 : ys.length ≤ 1000000) (b1 : ∀ n ∈ xs, n.vs.length ≤ 1000000) (b2 : ∀ n ∈ ys, n.vs.length ≤ 1000000) :
    Calls Try.prog 19 #[v, u] w fun e w' => e = .returned (.bool (decide (xs = ys))) ∧ Only none_ w w' := by
  obtain ⟨A, ca, ka, rfl, KA, ha⟩ := hx
  obtain ⟨B, cb, kb, rfl, KB, hb⟩ := hy
  by_cases hl : xs.length = ys.length
  · have HA := Lib.hid ha
    have HB := Lib.hid hb
    have HKA := Lib.hid KA
    have HKB := Lib.hid KB
    have B1 := Lib.hid b1
    have B2 := Lib.hid b2
    have t : ((xs.length : Int) != (ys.length : Int)) = false := by simp [hl]
    have HL := Lib.hid hl
    clear ha hb b1 b2
    have hl' : xs.length ≤ ys.length := by omega
    have la := KA.1
    have lb := KB.1
    have LA := Lib.hid la
    have LB := Lib.hid lb
    clear hl KA KB la lb
    go_enter Try.func19, Try.ntmps19
    go_wp2_with fail
    go_loopw [5] (fun i wr => ∃ k : Nat, k ≤ xs.length ∧ i = .int .i64 k ∧ Only none_ w wr ∧ ∀ j, j < k → xs[j]? = ys[j]?) (fun i _ => xs.length - (intOf i).toNat)
    case atStart => exact ⟨0, Nat.zero_le _, rfl, Only.refl _ _, fun j hj => by omega⟩
    case round =>
      obtain ⟨k, hk, rfl, o, eq⟩ := hrel
      have O := Lib.hid o
      have EQ := Lib.hid eq
      clear o eq
      by_cases hlt : k < xs.length
      · obtain ⟨x, hx⟩ : ∃ x, xs[k]? = some x := ⟨_, List.getElem?_eq_getElem hlt⟩
        have hlt2 : k < ys.length := by omega
        obtain ⟨y, hy⟩ : ∃ y, ys[k]? = some y := ⟨_, List.getElem?_eq_getElem hlt2⟩
        obtain ⟨a, hka⟩ : ∃ a, ka[k]? = some a := ⟨_, List.getElem?_eq_getElem (by have := LA.out; omega)⟩
        obtain ⟨b, hkb⟩ : ∃ b, kb[k]? = some b := ⟨_, List.getElem?_eq_getElem (by have := LB.out; omega)⟩
        obtain ⟨g1, q1, rfl, _, k1, k2, k3⟩ := HA.out k a hka
        obtain ⟨g2, q2, rfl, _, m1, m2, m3⟩ := HB.out k b hkb
        have aok := HKA.out.2 k a x hka hx
        have bok := HKB.out.2 k b y hkb hy
        have AN := Lib.hid (fun w' (o' : Only none_ w w') => answer_any a b x y G G' w' (aok.keep o' (fun _ _ s => s)) (bok.keep o' (fun _ _ s => s)) (B1.out x (List.mem_of_getElem? hx)) (B2.out y (List.mem_of_getElem? hy)))
        obtain ⟨ai, ac, av⟩ := a
        obtain ⟨bi, bc, bv⟩ := b
        obtain ⟨_, _, fa⟩ := aok
        obtain ⟨_, _, fb⟩ := bok
        obtain ⟨av', al, afc, rfl⟩ : ∃ a n c, av = .slice a n c := by obtain ⟨a, c, e, _⟩ := fa; exact ⟨a, _, c, e⟩
        obtain ⟨bv', bl, bfc, rfl⟩ : ∃ a n c, bv = .slice a n c := by obtain ⟨a, c, e, _⟩ := fb; exact ⟨a, _, c, e⟩
        dsimp only at AN k1 k2 k3 m1 m2 m3
        have OD := Lib.hid (O.out.drew)
        have c1 : wr.drew.cell? ⟨g1, q1 + k * 3, none⟩ = some (.int .i64 ai) := OD.out.cell k1 (fun s => s)
        have c2 : wr.drew.cell? ⟨g1, q1 + k * 3 + 1, none⟩ = some (.int .i64 ac) := OD.out.cell k2 (fun s => s)
        have c3 : wr.drew.cell? ⟨g1, q1 + k * 3 + 2, none⟩ = some (.slice av' al afc) := OD.out.cell k3 (fun s => s)
        have e1 : wr.drew.cell? ⟨g2, q2 + k * 3, none⟩ = some (.int .i64 bi) := OD.out.cell m1 (fun s => s)
        have e2 : wr.drew.cell? ⟨g2, q2 + k * 3 + 1, none⟩ = some (.int .i64 bc) := OD.out.cell m2 (fun s => s)
        have e3 : wr.drew.cell? ⟨g2, q2 + k * 3 + 2, none⟩ = some (.slice bv' bl bfc) := OD.out.cell m3 (fun s => s)
        have HX := Lib.hid hx
        have HY := Lib.hid hy
        have AC := Lib.hid (AN.out _ OD.out)
        clear hx hy k1 k2 k3 m1 m2 m3 HA HB HKA HKB fa fb hka hkb AN
        by_cases e : x = y
        · have E2 := Lib.hid e
          have AC := AC.out
          rw [decide_eq_true e] at AC
          have AC := Lib.hid AC
          clear e
          go_upto_region 6 with fail
          go_region_with (first
            | (go_at_call 34; (with_reducible refine AC.out.mono ?_); rintro e w2 ⟨rfl, o2⟩)
            | fail)
          all_goals
            have O2 := Lib.hid (OD.out.same o2)
            clear o2
            go_wp2_with fail
            go_roundw
            case rel => exact ⟨k + 1, by omega, by go_num, O2.out, fun j hj => by
              rcases Nat.lt_or_ge j k with c | c
              · exact EQ.out j c
              · obtain rfl : j = k := by omega
                rw [HX.out, HY.out, E2.out]⟩
            case measure => simp [intOf]; omega
        · have NE := Lib.hid (show decide (xs = ys) = false from by
            have : ¬ xs = ys := fun q => by
              have := HX.out
              rw [q, HY.out] at this
              injection this with this
              exact e this.symm
            simpa using this)
          have AC := AC.out
          rw [decide_eq_false e] at AC
          have AC := Lib.hid AC
          clear e
          go_upto_region 6 with fail
          go_region_with (first
            | (go_at_call 34; (with_reducible refine AC.out.mono ?_); rintro e w2 ⟨rfl, o2⟩)
            | fail)
          all_goals
            have O2 := Lib.hid (OD.out.same o2)
            clear o2
            go_wp2_with fail
            go_ret
            exact ⟨by rw [NE.out]; rfl, O2.out⟩
      · have YE := Lib.hid (show decide (xs = ys) = true from by
          have : xs = ys := an_upto HL.out (fun j hj => EQ.out j (by omega))
          simpa using this)
        go_wp2_with fail
        go_ret
        exact ⟨by rw [YE.out]; rfl, O.out⟩
  · have t : ((xs.length : Int) != (ys.length : Int)) = true := by simp; omega
    have NE := Lib.hid (show decide (xs = ys) = false from decide_eq_false (fun e => hl (by rw [e])))
    clear hl ha hb KA KB b1 b2
    go_enter Try.func19, Try.ntmps19
    go_wp2_with fail
    go_ret
    exact ⟨by rw [NE.out]; rfl, Only.refl _ _⟩
end Go.Proofs.Ytoflkeedfgnkhaa
