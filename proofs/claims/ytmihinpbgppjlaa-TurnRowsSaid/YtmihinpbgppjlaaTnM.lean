/- Turns in memory: what the closures of the exported calls do. -/
import Derived.Test.YtmihinpbgppjlaaTnC
namespace Go.Proofs.Ytmihinpbgppjlaa
open Go.RowKit Go.Maps
set_option linter.unusedVariables false

/-- a variable that a closure has: it lies at block q, and holds v -/
abbrev Var (w : World) (q : Nat) (v : Value) : Prop := w.cell? ⟨q, 0, none⟩ = some v
theorem Var.lt {w : World} {q : Nat} {v : Value} (h : Var w q v) : q < w.heap.size := by
  rcases Nat.lt_or_ge q w.heap.size with k | k
  · exact k
  · unfold Var at h
    simp [World.cell?, Array.getElem?_eq_none k] at h
/-- a code, as Catch has it -/
def coded (c : Int) : Option Int := if c = 0 then none else some c
theorem coded_get (c : Int) : (coded c).getD 0 = c := by unfold coded; split <;> simp_all

/-- behind a call -/
def TurnTo (w' : World) (p b nd na L : Nat) (ss : List Sl) : Prop := ∃ L' ps, TnAt w' p b nd na L' ps ∧ ps.map Pl.sl = ss ∧ L' ≤ L + 1
def Does (w : World) (p b nd na L : Nat) (c : Int) (ss : List Sl) (e : Ending) (w' : World) : Prop := e = done (coded c) ∧ TurnTo w' p b nd na L ss ∧ Only (two12 p b) w w'
theorem TnAt.to {w w' : World} {p b nd na L : Nat} {ps : List Pl} (h : TnAt w p b nd na L ps) (o : Only none_ w w') : TurnTo w' p b nd na L (ps.map Pl.sl) := ⟨L, ps, h.still o, rfl, by omega⟩
theorem row_len (ps : List Pl) (a : Bool) : (rowL a (ps.map Pl.sl)).length = (ps.filter (fun q => q.a == a)).length := by rw [row_sl, List.length_map]
theorem enter_sl {ps : List Pl} {L : Nat} {q : Pl} : (enterP ps L q).map Pl.sl = cutL (ps.map Pl.sl) q.k ++ [⟨q.k, q.a, q.s⟩] := by
  unfold enterP
  rw [List.map_append, cut_sl]
  rfl
theorem cut_no {ss : List Sl} {x : Int} (h : hasL ss x = false) : cutL ss x = ss := by
  unfold cutL
  rw [List.filter_eq_self]
  intro s hs
  have : s.k ≠ x := fun e => by
    have := hasL_iff.2 ⟨s, hs, e⟩
    rw [h] at this; cases this
  simpa using this

set_option maxHeartbeats 2000000 in
theorem put1_any {p b nd na L qk qt qa : Nat} {ps : List Pl} (x : Int) (a : Bool) (w : World) (h : TnAt w p b nd na L ps) (hk : Var w qk (.int .i64 x)) (ht : Var w qt (.pointer (some ⟨p, 0, none⟩))) (ha : Var w qa (.bool a)) (wx : (Lit.int .i64 x).wf = true) (hL : L < 100000000) :
    Calls Try.prog 36 #[.pointer (some ⟨qk, 0, none⟩), .pointer (some ⟨qt, 0, none⟩), .pointer (some ⟨qa, 0, none⟩)] w (Does w p b nd na L (putC nd na (ps.map Pl.sl) x a) (putS nd na (ps.map Pl.sl) x a)) := by
  have H := Lib.hid h
  have lk := hk.lt
  have lt' := ht.lt
  have la := ha.lt
  have hk' : w.drew.cell? ⟨qk, 0, none⟩ = some (.int .i64 x) := hk
  have ht' : w.drew.cell? ⟨qt, 0, none⟩ = some (.pointer (some ⟨p, 0, none⟩)) := ht
  have ha' : w.drew.cell? ⟨qa, 0, none⟩ = some (.bool a) := ha
  by_cases h1 : x < 1
  · have PC := Lib.hid (show putC nd na (ps.map Pl.sl) x a = 1 from by unfold putC; rw [if_pos h1])
    have PS := Lib.hid (show putS nd na (ps.map Pl.sl) x a = ps.map Pl.sl from by unfold putS; rw [PC.out]; rfl)
    have d : decide (1 ≤ x) = false := by simp; omega
    clear h h1
    go_enter Try.func36, Try.ntmps36
    go_wp2_with fail
    (with_reducible refine (unless_no _ _).mono ?_)
    rintro e w' ⟨rfl, rfl⟩
    go_wp2_with fail
    refine ⟨rfl, ?_⟩
    rw [PC.out, PS.out]
    exact ⟨rfl, H.out.to (Only.refl _ _), Only.refl _ _⟩
  · have d : decide (1 ≤ x) = true := by simp; omega
    have c2 : w.drew.cell? ⟨p, 2, none⟩ = some (.map (some b)) := by show w.cell? _ = _; rw [h.row.cell]; rfl
    have LK := (show Md w.drew b ps from h.md).look h.once wx
    have OZ := Lib.hid (((Only.refl none_ w).alloc (.cells #[.int .i64 0, .bool false, .int .i64 0, .bool false] 59)).drew)
    have c2z : ((w.alloc (.cells #[.int .i64 0, .bool false, .int .i64 0, .bool false] 59)).drew).cell? ⟨p, 2, none⟩ = some (.map (some b)) := OZ.out.cell (show w.cell? _ = _ by rw [h.row.cell]; rfl) (fun s => s)
    have hkz : ((w.alloc (.cells #[.int .i64 0, .bool false, .int .i64 0, .bool false] 59)).drew).cell? ⟨qk, 0, none⟩ = some (.int .i64 x) := OZ.out.cell hk (fun s => s)
    have htz : ((w.alloc (.cells #[.int .i64 0, .bool false, .int .i64 0, .bool false] 59)).drew).cell? ⟨qt, 0, none⟩ = some (.pointer (some ⟨p, 0, none⟩)) := OZ.out.cell ht (fun s => s)
    have LZ := (h.md.still OZ.out).look h.once wx
    have e0 := has_sl ps x
    cases hh : hasP ps x with
    | true =>
      have PC := Lib.hid (show putC nd na (ps.map Pl.sl) x a = 4 from by unfold putC; rw [if_neg h1, e0, hh]; rfl)
      have PS := Lib.hid (show putS nd na (ps.map Pl.sl) x a = ps.map Pl.sl from by unfold putS; rw [PC.out]; rfl)
      rw [hh] at LK LZ
      generalize atP ps x = q at LK LZ
      unfold plVal at LK LZ
      clear h h1 e0 hh
      go_enter Try.func36, Try.ntmps36
      go_wp2_with fail
      (with_reducible refine (unless_yes _ _).mono ?_)
      rintro e w' ⟨rfl, rfl⟩
      go_wp2_with fail
      go_region
      all_goals
        go_wp2_with fail
        (with_reducible refine (unless_no _ _).mono ?_)
        rintro e w' ⟨rfl, rfl⟩
        go_wp2_with fail
        refine ⟨rfl, ?_⟩
        rw [PC.out, PS.out]
        first
          | exact ⟨rfl, H.out.to ((Only.refl _ _).drew.alloc _), (Only.refl _ _).drew.alloc _⟩
          | exact ⟨rfl, H.out.to (((Only.refl _ _).alloc _).drew), ((Only.refl _ _).alloc _).drew⟩
    | false =>
      rw [hh] at LK LZ
      generalize atP ps x = q at LK LZ
      unfold plVal at LK LZ
      have hx0 : hasL (ps.map Pl.sl) x = false := e0.trans hh
      have RL := row_len ps a
      by_cases hr : 0 < roomP nd na ps a
      · have PC := Lib.hid (show putC nd na (ps.map Pl.sl) x a = 0 from by unfold putC; unfold roomP at hr; rw [if_neg h1, hx0, if_neg (by simp), if_neg (by omega)])
        have PS := Lib.hid (show (enterP ps L ⟨x, a, 0, true⟩).map Pl.sl = putS nd na (ps.map Pl.sl) x a from by unfold putS; rw [PC.out, if_pos rfl, enter_sl, cut_no hx0])
        have EN := Lib.hid (fun (W : World) (o : Only none_ w W) => tenter_yes (⟨x, a, 0, true⟩ : Pl) W (H.out.still o) hr hL wx)
        clear h h1 e0 hh hr hx0 RL
        go_enter Try.func36, Try.ntmps36
        go_wp2_with fail
        (with_reducible refine (unless_yes _ _).mono ?_)
        rintro e w' ⟨rfl, rfl⟩
        go_wp2_with fail
        go_region
        all_goals
          go_wp2_with fail
          (with_reducible refine (unless_yes _ _).mono ?_)
          rintro e w' ⟨rfl, rfl⟩
          go_wp2_with fail
          (with_reducible refine (EN.out _ ?_).mono ?_)
          · first | exact (Only.refl _ _).drew.alloc _ | exact ((Only.refl _ _).alloc _).drew
          rintro e w2 ⟨rfl, h2, o2⟩
          have H2 := Lib.hid h2
          have O2 := Lib.hid (show Only (two12 p b) w w2 from by first | exact ((Only.refl _ _).drew.alloc _).then_ o2 | exact (((Only.refl _ _).alloc _).drew).then_ o2)
          clear h2 o2
          go_wp2_with fail
          go_end0
          unfold Does
          rw [PC.out]
          exact ⟨rfl, ⟨_, _, H2.out, PS.out, Nat.le_refl _⟩, O2.out⟩
      · have PC := Lib.hid (show putC nd na (ps.map Pl.sl) x a = 2 from by unfold putC; unfold roomP at hr; rw [if_neg h1, hx0, if_neg (by simp), if_pos (by omega)])
        have PS := Lib.hid (show putS nd na (ps.map Pl.sl) x a = ps.map Pl.sl from by unfold putS; rw [PC.out]; rfl)
        have EN := Lib.hid (fun (W : World) (o : Only none_ w W) => tenter_no (⟨x, a, 0, true⟩ : Pl) W (H.out.still o) hr)
        clear h h1 e0 hh hr hx0 RL
        go_enter Try.func36, Try.ntmps36
        go_wp2_with fail
        (with_reducible refine (unless_yes _ _).mono ?_)
        rintro e w' ⟨rfl, rfl⟩
        go_wp2_with fail
        go_region
        all_goals
          go_wp2_with fail
          (with_reducible refine (unless_yes _ _).mono ?_)
          rintro e w' ⟨rfl, rfl⟩
          go_wp2_with fail
          (with_reducible refine (EN.out _ ?_).mono ?_)
          · first | exact (Only.refl _ _).drew.alloc _ | exact ((Only.refl _ _).alloc _).drew
          rintro e w2 ⟨rfl, o2⟩
          have O2 := Lib.hid (show Only none_ w w2 from by first | exact ((Only.refl _ _).drew.alloc _).same o2 | exact (((Only.refl _ _).alloc _).drew).same o2)
          clear o2
          go_wp2_with fail
          refine ⟨rfl, ?_⟩
          rw [PC.out, PS.out]
          exact ⟨rfl, H.out.to O2.out, O2.out.up⟩

set_option maxHeartbeats 2000000 in
theorem promote1_any {p b nd na L qk qt : Nat} {ps : List Pl} (x : Int) (w : World) (h : TnAt w p b nd na L ps) (ht : Var w qt (.pointer (some ⟨p, 0, none⟩))) (hk : Var w qk (.int .i64 x)) (wx : (Lit.int .i64 x).wf = true) (hL : L < 100000000) :
    Calls Try.prog 38 #[.pointer (some ⟨qt, 0, none⟩), .pointer (some ⟨qk, 0, none⟩)] w (Does w p b nd na L (promC nd (ps.map Pl.sl) x) (promS nd (ps.map Pl.sl) x)) := by
  have H := Lib.hid h
  have lk := hk.lt
  have lt' := ht.lt
  have e0 := has_sl ps x
  cases hh : hasP ps x with
  | false =>
    have PC := Lib.hid (show promC nd (ps.map Pl.sl) x = 3 from by unfold promC; rw [e0, hh]; rfl)
    have PS := Lib.hid (show promS nd (ps.map Pl.sl) x = ps.map Pl.sl from by unfold promS; rw [PC.out]; rfl)
    have AT := Lib.hid (tat_no x w h wx hh)
    clear h e0 hh
    go_enter Try.func38, Try.ntmps38
    go_wp2_with fail
    (with_reducible refine (AT.out).mono ?_)
    rintro e w1 ⟨rfl, o1⟩
    go_wp2_with fail
    refine ⟨rfl, ?_⟩
    rw [PC.out, PS.out]
    exact ⟨rfl, H.out.to o1, o1.up⟩
  | true =>
    have AT := Lib.hid (tat_yes x w h wx hh)
    have hx0 : hasL (ps.map Pl.sl) x = true := e0.trans hh
    have HK := Lib.hid (atP_has hh).2
    have ea := at_sl ps x
    generalize atP ps x = q at *
    cases ha : q.a with
    | false =>
      have PC := Lib.hid (show promC nd (ps.map Pl.sl) x = 5 from by unfold promC; rw [hx0, ea]; simp [Pl.sl, ha])
      have PS := Lib.hid (show promS nd (ps.map Pl.sl) x = ps.map Pl.sl from by unfold promS; rw [PC.out]; rfl)
      rw [ha] at AT
      clear h e0 hh hx0 ea
      go_enter Try.func38, Try.ntmps38
      go_wp2_with fail
      (with_reducible refine (AT.out).mono ?_)
      rintro e w1 ⟨rfl, o1⟩
      have O1 := Lib.hid o1
      clear o1
      go_wp2_with fail
      (with_reducible refine (unless_no _ _).mono ?_)
      rintro e w' ⟨rfl, rfl⟩
      go_wp2_with fail
      refine ⟨rfl, ?_⟩
      rw [PC.out, PS.out]
      exact ⟨rfl, H.out.to (O1.out.alloc _), (O1.out.alloc _).up⟩
    | true =>
      rw [ha] at AT
      have RL := row_len ps false
      by_cases hr : 0 < roomP nd na ps false
      · have PC := Lib.hid (show promC nd (ps.map Pl.sl) x = 0 from by unfold promC; unfold roomP mostL at hr; rw [hx0, ea]; simp [Pl.sl, ha] at hr RL ⊢; omega)
        have PS := Lib.hid (show (enterP ps L ⟨q.k, false, q.n, q.s⟩).map Pl.sl = promS nd (ps.map Pl.sl) x from by unfold promS; rw [PC.out, if_pos rfl, enter_sl, ea]; simp only [HK.out, Pl.sl])
        have WX := Lib.hid wx
        have EN := Lib.hid (fun (W : World) (o : Only none_ w W) => tenter_yes (⟨q.k, false, q.n, q.s⟩ : Pl) W (H.out.still o) hr hL (by rw [HK.out]; exact WX.out))
        clear h e0 hh hx0 ea hr RL wx
        go_enter Try.func38, Try.ntmps38
        go_wp2_with fail
        (with_reducible refine (AT.out).mono ?_)
        rintro e w1 ⟨rfl, o1⟩
        have O1 := Lib.hid o1
        have ht1 : w1.cell? ⟨qt, 0, none⟩ = some (.pointer (some ⟨p, 0, none⟩)) := o1.cell ht (fun s => s)
        have lt1 : qt < w1.heap.size := Nat.lt_of_lt_of_le lt' o1.size
        clear o1
        go_wp2_with fail
        (with_reducible refine (unless_yes _ _).mono ?_)
        rintro e w' ⟨rfl, rfl⟩
        go_wp2_with fail
        (with_reducible refine (EN.out _ ?_).mono ?_)
        · exact O1.out.alloc _
        rintro e w2 ⟨rfl, h2, o2⟩
        have H2 := Lib.hid h2
        have O2 := Lib.hid ((O1.out.alloc _).then_ o2)
        clear h2 o2
        go_wp2_with fail
        go_end0
        unfold Does
        rw [PC.out]
        exact ⟨rfl, ⟨_, _, H2.out, PS.out, Nat.le_refl _⟩, O2.out⟩
      · have PC := Lib.hid (show promC nd (ps.map Pl.sl) x = 2 from by unfold promC; unfold roomP mostL at hr; rw [hx0, ea]; simp [Pl.sl, ha] at hr RL ⊢; omega)
        have PS := Lib.hid (show promS nd (ps.map Pl.sl) x = ps.map Pl.sl from by unfold promS; rw [PC.out]; rfl)
        have EN := Lib.hid (fun (W : World) (o : Only none_ w W) => tenter_no (⟨q.k, false, q.n, q.s⟩ : Pl) W (H.out.still o) hr)
        clear h e0 hh hx0 ea hr RL
        go_enter Try.func38, Try.ntmps38
        go_wp2_with fail
        (with_reducible refine (AT.out).mono ?_)
        rintro e w1 ⟨rfl, o1⟩
        have O1 := Lib.hid o1
        have ht1 : w1.cell? ⟨qt, 0, none⟩ = some (.pointer (some ⟨p, 0, none⟩)) := o1.cell ht (fun s => s)
        have lt1 : qt < w1.heap.size := Nat.lt_of_lt_of_le lt' o1.size
        clear o1
        go_wp2_with fail
        (with_reducible refine (unless_yes _ _).mono ?_)
        rintro e w' ⟨rfl, rfl⟩
        go_wp2_with fail
        (with_reducible refine (EN.out _ ?_).mono ?_)
        · exact O1.out.alloc _
        rintro e w2 ⟨rfl, o2⟩
        have O2 := Lib.hid ((O1.out.alloc _).same o2)
        clear o2
        go_wp2_with fail
        refine ⟨rfl, ?_⟩
        rw [PC.out, PS.out]
        exact ⟨rfl, H.out.to O2.out, O2.out.up⟩
end Go.Proofs.Ytmihinpbgppjlaa
