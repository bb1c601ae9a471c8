/- Texts of the layers below, side by side. -/
import Derived.Test.YtfbpjobobdidiaaGreatDoorGrpA
import Derived.Test.YtfbpjobobdidiaaGreatDoorGrpB
import Derived.Test.YtfbpjobobdidiaaGreatDoorGrpC
import Derived.Test.YtfbpjobobdidiaaGreatDoorGrpF
import Derived.Test.YtfbpjobobdidiaaGreatDoorGrpK
import Derived.Test.YtfbpjobobdidiaaGreatDoorGrpE
import Derived.Test.YtfbpjobobdidiaaGreatDoorGrpI
/- An engine, told plainly: its tickets, turns, waiters and moves, and what each call makes of them. -/
namespace Go.Proofs.YtfbpjobobdidiaaGreatDoor
set_option linter.unusedVariables false
set_option maxRecDepth 100000

/-- a ticket as it is kept -/
structure Tk where
  id : Int
  kind : Int
  b : Int
  l : Int
  tries : Int
  out : Bool
  fr : Bool
  cut : Bool
  v : Int
  deriving DecidableEq
instance : Inhabited Tk := ⟨⟨0, 0, 0, 0, 0, false, false, false, 0⟩⟩
def Tk.cells (t : Tk) : Array Value := #[.int .i64 t.id, .int .i64 t.kind, .int .i64 t.b, .int .i64 t.l, .int .i64 t.tries, .int .i64 0, .bool t.out, .bool t.fr, .bool t.cut, .int .u64 t.v]
def Tk.told (t : Tk) (n : Int) : Value := .agg #[.int .i64 t.id, .int .i64 t.kind, .int .i64 t.b, .int .i64 t.l, .int .i64 t.tries, .int .i64 n, .bool t.out, .bool t.fr, .bool t.cut]
def noTk : Value := .agg #[.int .i64 0, .int .i64 0, .int .i64 0, .int .i64 0, .int .i64 0, .int .i64 0, .bool false, .bool false, .bool false]
def Tk.sd (t : Tk) : Sd := ⟨t.b, t.id⟩
def Tk.sl (t : Tk) : Sl := ⟨t.id, t.kind == 3, !t.out⟩
def Tk.needs (t : Tk) : Bool := !(t.kind == 2) && !t.fr
def joins : Option Tk → Bool
  | none => false
  | some t => !(t.kind == 2) && !t.cut
def rests : Option Tk → Bool
  | none => false
  | some t => t.kind == 3 && !t.out
/-- a move that is out -/
structure Mv where
  tag : Int
  wr : Bool
  lo : Int
  n : Int
  ks : List Int
  vs : List Int
  fs : List Int
  deriving DecidableEq
instance : Inhabited Mv := ⟨⟨0, false, 0, 0, [], [], []⟩⟩
/-- an engine: its options, turns, who waits, tickets, moves, and the greatest numbers -/
structure Eng where
  o : Opt
  qs : List Sl
  g : List Sx
  ts : List Tk
  ms : List Mv
  nt : Nat
  ng : Nat
def at16 (ts : List Tk) (x : Int) : Option Tk := ts.find? (fun t => t.id == x)
def Eng.lane (E : Eng) (b : Int) : List Tk := E.ts.filter (fun t => t.b == b)
def Eng.head (E : Eng) (b : Int) : Option Tk := (E.lane b).head?
def Eng.last (E : Eng) (b : Int) : Option Tk := (E.lane b).getLast?
def Eng.has (E : Eng) (b : Int) : Bool := decide (0 ≤ b ∧ b < E.o.b0)
def isRead : Option Tk → Bool
  | none => false
  | some t => t.kind == 1
def Eng.needs (E : Eng) (b : Int) : Bool := E.has b && !(joins (E.last b) && isRead (E.last b))
def Eng.idle (E : Eng) (b : Int) : Bool := E.has b && (E.head b).isNone
def Eng.cnt (E : Eng) (x : Int) : Int := (ofL E.g x).length
def Eng.fd (E : Eng) : Int := E.o.b3 - (rowL false E.qs).length
def Eng.fa (E : Eng) : Int := E.o.b4 - (rowL true E.qs).length
def Eng.fw (E : Eng) : Int := E.o.b9 - E.g.length
def mayP (w : Wt) : Prop := 1 ≤ w.r ∧ 0 ≤ w.p ∧ w.p < 8
instance (w : Wt) : Decidable (mayP w) := by unfold mayP; infer_instance
/-- why somebody can't wait -/
def Eng.refC (E : Eng) (w : Wt) (need : Bool) : Int := if mayP w then if waitsB E.g w then 4 else if E.fw = 0 ∨ (need = true ∧ E.fd = 0) then 2 else 0 else 1
def Eng.new (E : Eng) (kind b : Int) : Tk := ⟨E.nt + 1, kind, b, 0, 0, false, false, false, 0⟩
def Eng.enter (E : Eng) (kind b : Int) : Eng := { E with nt := E.nt + 1, ts := E.ts ++ [E.new kind b], qs := E.qs ++ [⟨E.nt + 1, kind == 3, true⟩] }
def Eng.end_ (E : Eng) (x : Int) : Eng := { E with ts := E.ts.filter (fun t => !(t.id == x)), qs := cutL E.qs x }
def upd (ts : List Tk) (x : Int) (f : Tk → Tk) : List Tk := ts.map (fun t => if t.id = x then f t else t)
def Eng.upd (E : Eng) (x : Int) (f : Tk → Tk) : Eng := { E with ts := Go.Proofs.YtfbpjobobdidiaaGreatDoor.upd E.ts x f }
def Eng.add (E : Eng) (x : Int) (w : Wt) : Eng := { E with g := E.g ++ [⟨x, w⟩] }
def Eng.prom (E : Eng) (x : Int) : Eng := { E with qs := cutL E.qs x ++ [⟨x, false, (atL E.qs x).s⟩] }
def Tk.read (t : Tk) : Tk := { t with kind := 1 }
def Tk.list (l : Int) (t : Tk) : Tk := { t with l := l }
def Tk.worth (v : Int) (t : Tk) : Tk := { t with v := v }
def Tk.cutIt (t : Tk) : Tk := { t with cut := true }
def Tk.go (t : Tk) : Tk := { t with out := true, fr := t.fr || t.needs }
def Tk.back (t : Tk) : Tk := { t with out := false, tries := t.tries + 1 }
/-! Read -/
def Eng.readC (E : Eng) (b l : Int) (w : Wt) : Int := if E.has b = true ∧ (l = 0 ∨ l = 1) then E.refC w (E.needs b) else 1
def Eng.readT (E : Eng) (b : Int) : Int := if joins (E.last b) then ((E.last b).getD default).id else E.nt + 1
def Eng.readB (E : Eng) (b : Int) : Eng := if joins (E.last b) then (if ((E.last b).getD default).kind = 3 then (E.prom (E.readT b)).upd (E.readT b) Tk.read else E) else E.enter 1 b
def Eng.read (E : Eng) (b l : Int) (w : Wt) : Eng := if E.readC b l w = 0 then ((E.readB b).upd (E.readT b) (Tk.list l)).add (E.readT b) w else E
/-! Write -/
def Eng.writeC (E : Eng) (b : Int) (w : Wt) : Int := if E.has b = true then E.refC w true else 1
def Eng.goneI (E : Eng) (b : Int) : Int := if rests (E.last b) then ((E.last b).getD default).id else 0
def Eng.writeB (E : Eng) (b : Int) : Eng := if rests (E.last b) then E.end_ (E.goneI b) else E
def Eng.write (E : Eng) (b v : Int) (w : Wt) : Eng := if E.writeC b w = 0 then ((((E.writeB b).enter 2 b).upd (E.nt + 1) (Tk.worth v)).add (E.nt + 1) w) else E
/-! Ahead -/
def Eng.aheadC (E : Eng) (b : Int) : Int := if E.has b = true then (if E.idle b = true then (if E.fa = 0 then 2 else 0) else 5) else 1
def Eng.ahead (E : Eng) (b : Int) : Eng := if E.aheadC b = 0 then E.enter 3 b else E
/-! Cut -/
def cuts : Option Tk → Bool
  | none => false
  | some t => !(t.kind == 2) && !t.cut && t.fr
def Eng.cutE (E : Eng) (b : Int) : Eng := if rests (E.head b) then E.end_ ((E.head b).getD default).id else if cuts (E.head b) then E.upd ((E.head b).getD default).id Tk.cutIt else E
/-! Serve -/
def serves : Option Tk → Bool
  | none => false
  | some t => t.kind == 1 && !t.out && !t.fr
def Eng.take (E : Eng) (x : Int) : Eng := { E with g := leftT E.g x }
def Eng.serve (E : Eng) (b : Int) : Eng := if serves (E.head b) then (E.end_ ((E.head b).getD default).id).take ((E.head b).getD default).id else E
/-! Quit -/
def Eng.quitC (E : Eng) (r : Int) : Int := if E.ts.any (fun t => t.kind == 2 && t.out && (ofL E.g t.id).any (fun w => decide (w.r = r))) then 5 else 0
def Eng.leave (E : Eng) (r : Int) : Eng := { E with g := leftR E.g r }
def gone16 (E : Eng) (x : Int) : Bool := decide (E.cnt x = 0) && !((at16 E.ts x).getD default).out
def Eng.quitL (E : Eng) : List Int → Eng
  | [] => E
  | x :: r => Eng.quitL (if gone16 E x then E.end_ x else E) r
def Eng.quit (E : Eng) (r : Int) : Eng := if E.quitC r = 0 then (E.leave r).quitL (quitI E.g r) else E
/-! Next -/
def Eng.ready (E : Eng) (kind : Int) : List Tk := ((List.range E.o.b0.toNat).filterMap (fun b : Nat => E.head b)).filter (fun t => !t.out && (t.kind == kind))
def Eng.run (E : Eng) (t : Tk) (room : Int) : Rn := aroundR ((E.ready t.kind).map (·.b)) (((E.ready t.kind).filter (·.needs)).map (·.b)) t.b E.o.b6 room
/-- one ticket goes out with a move -/
def Eng.along (E : Eng) (m : Mv) (t : Tk) : Eng × Mv :=
  ({ (E.upd t.id Tk.go) with qs := waitS E.qs t.id false }, { m with ks := m.ks ++ [t.id], fs := if t.needs then m.fs ++ [t.b] else m.fs, vs := if m.wr then m.vs ++ [t.v] else m.vs })
def Eng.alongs (E : Eng) (m : Mv) : List Int → Eng × Mv
  | [] => (E, m)
  | b :: r => let p := E.along m ((E.head b).getD default); Eng.alongs p.1 p.2 r
def Eng.move0 (E : Eng) (t : Tk) (room : Int) : Mv := ⟨E.ng + 1, t.kind == 2, (E.run t room).f, (E.run t room).c, [], [], []⟩
def Eng.begun (E : Eng) (t : Tk) (room : Int) : Eng × Mv := Eng.alongs E (E.move0 t room) (blocksOf (E.run t room))
def Eng.begin_ (E : Eng) (t : Tk) (room : Int) : Eng := { (E.begun t room).1 with ng := E.ng + 1, ms := E.ms ++ [(E.begun t room).2] }
def Eng.isHead (E : Eng) (t : Tk) : Bool := match E.head t.b with | some h => h.id == t.id | none => false
/-- the engine, what was dropped, and the move, if there is one -/
def Eng.nextL (E : Eng) (room : Int) (ds : List Int) : List Int → Eng × List Int × Option Mv
  | [] => (E, ds, none)
  | x :: r =>
    let t := (at16 E.ts x).getD default
    if E.isHead t then
      if 0 < room ∨ t.needs = false then (E.begin_ t room, ds, some (E.begun t room).2)
      else if t.kind = 3 then Eng.nextL (E.end_ x) room (ds ++ [t.b]) r
      else Eng.nextL E room ds r
    else Eng.nextL E room ds r
def Eng.next (E : Eng) (room : Int) : Eng × List Int × Option Mv := if E.o.b5 ≤ E.ms.length then (E, [], none) else E.nextL (max room 0) [] (waitL E.qs)
/-! Finish -/
def fate16 (E : Eng) (t : Tk) (well : Bool) : Int := if well then 0 else if 0 < E.cnt t.id ∧ t.tries + 1 < E.o.b7 then 1 else 2
/-- what is told of a ticket that comes in -/
structure Oc where
  t : Tk
  n : Int
  f : Int
  ws : List Wt
def Eng.outc (E : Eng) (well : Bool) (x : Int) : Oc := let t := (at16 E.ts x).getD default; ⟨t, E.cnt x, fate16 E t well, if fate16 E t well = 1 then [] else ofL E.g x⟩
def Eng.come (E : Eng) (well : Bool) (x : Int) : Eng := if fate16 E ((at16 E.ts x).getD default) well = 1 then { (E.upd x Tk.back) with qs := waitS E.qs x true } else (E.end_ x).take x
def Eng.comes (E : Eng) (well : Bool) : List Int → Eng × List Oc
  | [] => (E, [])
  | x :: r => let p := Eng.comes (E.come well x) well r; (p.1, E.outc well x :: p.2)
def at17 (ms : List Mv) (x : Int) : Option Mv := ms.find? (fun m => m.tag == x)
def Eng.home (E : Eng) (x : Int) : Eng := { E with ms := E.ms.filter (fun m => !(m.tag == x)) }
def Eng.finish (E : Eng) (tag : Int) (well : Bool) : Eng := match at17 E.ms tag with | some m => ((E.home tag).comes well m.ks).1 | none => E
def Eng.finishC (E : Eng) (tag : Int) : Int := if (at17 E.ms tag).isSome then 0 else 3
def Eng.finishO (E : Eng) (tag : Int) (well : Bool) : List Oc := match at17 E.ms tag with | some m => ((E.home tag).comes well m.ks).2 | none => []
end Go.Proofs.YtfbpjobobdidiaaGreatDoor


/- A map in memory whose keys are numbers, whatever its values are: what it has is a list of pairs, each number once. -/
namespace Go.Proofs.YtfbpjobobdidiaaGreatDoor
open Go.RowKit Go.Maps
set_option linter.unusedVariables false
set_option maxRecDepth 100000

/-- a value, as a map has it: just itself -/
def anyE (v : Value) : Option (DataW Value × List MemPlace) := some (.held v, [])
theorem anyE_mk (v : Value) : anyE v = some (.held v, []) := rfl
theorem anyE_inv {v : Value} {y : DataW Value × List MemPlace} (h : anyE v = some y) : y = (.held v, []) := (Option.some.inj h).symm
abbrev Ent := Int × Value
def hasV (es : List Ent) (x : Int) : Bool := es.any (fun p => p.1 == x)
theorem hasV_iff {es : List Ent} {x : Int} : hasV es x = true ↔ ∃ p ∈ es, p.1 = x := by
  unfold hasV
  rw [List.any_eq_true]
  simp
def atV (z : Value) (es : List Ent) (x : Int) : Value := match es.find? (fun p => p.1 == x) with | some p => p.2 | none => z
def OnceV (es : List Ent) : Prop := es.Pairwise (fun a b => a.1 ≠ b.1)
theorem OnceV.inj : ∀ {ss : List Ent}, OnceV ss → ∀ {a b : Ent}, a ∈ ss → b ∈ ss → a.1 = b.1 → a = b
  | [], _, _, _, ha, _, _ => by cases ha
  | s :: r, h, a, b, ha, hb, e => by
    have h' := List.pairwise_cons.1 h
    rcases List.mem_cons.1 ha with rfl | ha'
    · rcases List.mem_cons.1 hb with rfl | hb'
      · rfl
      · exact absurd e (h'.1 b hb')
    · rcases List.mem_cons.1 hb with rfl | hb'
      · exact absurd e.symm (h'.1 a ha')
      · exact OnceV.inj (show OnceV r from h'.2) ha' hb' e
theorem OnceV.keys {es : List Ent} (h : OnceV es) : (es.map (·.1)).Nodup := by
  unfold List.Nodup
  rw [List.pairwise_map]
  exact h
theorem atV_of {z : Value} {es : List Ent} (o : OnceV es) {p : Ent} (hp : p ∈ es) : atV z es p.1 = p.2 := by
  unfold atV
  cases hf : es.find? (fun q => q.1 == p.1) with
  | none => exact absurd (List.find?_eq_none.1 hf p hp) (by simp)
  | some q =>
    have h1 := List.find?_some hf
    have h2 := List.mem_of_find?_eq_some hf
    rw [o.inj h2 hp (by simpa using h1)]
theorem atV_no {z : Value} {es : List Ent} {x : Int} (h : hasV es x = false) : atV z es x = z := by
  unfold atV
  rw [List.find?_eq_none.2 (fun p hp => by
    intro q
    have : hasV es x = true := hasV_iff.2 ⟨p, hp, by simpa using q⟩
    rw [h] at this; cases this)]
/-- what a map reads as -/
def ReadsV (D : DataW Value) (es : List Ent) : Prop := (∀ x, has D (.int .i64 x) = hasV es x) ∧ ∀ p ∈ es, ∀ z, D.atKey (.int .i64 p.1) z = .held p.2
theorem ReadsV.nil : ReadsV (.map []) [] := ⟨fun _ => rfl, fun _ h => by cases h⟩
theorem ReadsV.put {D : DataW Value} {ps : List Ent} (h : ReadsV D ps) (m : IsMap D) (x : Int) (v : Value) (hx : hasV ps x = false) : ReadsV (D.put (.int .i64 x) (.held v)) (ps ++ [(x, v)]) := by
  have hx' : ∀ e ∈ ps, e.1 ≠ x := fun e he q => by
    have : hasV ps x = true := hasV_iff.2 ⟨e, he, q⟩
    rw [hx] at this; cases this
  refine ⟨fun y => ?_, fun e he z => ?_⟩
  · by_cases k : y = x
    · subst k
      rw [has_put_same m (keyI _)]
      simp [hasV]
    · rw [has_put_other (lit_ne k), h.1]
      have : (x == y) = false := by simp; exact fun q => k q.symm
      simp [hasV, this]
  · rcases List.mem_append.1 he with he' | he'
    · rw [atKey_put_other (lit_ne (hx' e he'))]
      exact h.2 e he' z
    · rw [List.mem_singleton.1 he', atKey_put_same m (keyI _)]
def cutV (es : List Ent) (x : Int) : List Ent := es.filter (fun p => !(p.1 == x))
theorem cutV_mem {es : List Ent} {x : Int} {p : Ent} : p ∈ cutV es x ↔ p ∈ es ∧ p.1 ≠ x := by
  unfold cutV
  rw [List.mem_filter]
  simp
theorem OnceV.cut {es : List Ent} (h : OnceV es) (x : Int) : OnceV (cutV es x) := h.filter _
theorem OnceV.more {es : List Ent} (h : OnceV es) (x : Int) (v : Value) (hx : hasV es x = false) : OnceV (es ++ [(x, v)]) := by
  unfold OnceV
  rw [List.pairwise_append]
  refine ⟨h, List.pairwise_singleton _ _, fun a ha c hc => ?_⟩
  rw [List.mem_singleton.1 hc]
  rintro e
  have : hasV es x = true := hasV_iff.2 ⟨a, ha, e⟩
  rw [hx] at this; cases this
theorem ReadsV.del {D : DataW Value} {ps : List Ent} (h : ReadsV D ps) (x : Int) : ReadsV (D.del (.int .i64 x)) (cutV ps x) := by
  refine ⟨fun y => ?_, fun e he z => ?_⟩
  · by_cases k : y = x
    · subst k
      rw [has_del_same]
      cases hq : hasV (cutV ps y) y with
      | false => rfl
      | true =>
        obtain ⟨p, hp, e⟩ := hasV_iff.1 hq
        exact absurd e (cutV_mem.1 hp).2
    · rw [has_del_other (lit_ne k), h.1, Bool.eq_iff_iff, hasV_iff, hasV_iff]
      constructor
      · rintro ⟨p, hp, rfl⟩
        exact ⟨p, cutV_mem.2 ⟨hp, k⟩, rfl⟩
      · rintro ⟨p, hp, rfl⟩
        exact ⟨p, (cutV_mem.1 hp).1, rfl⟩
  · have he' := cutV_mem.1 he
    rw [atKey_del_other (lit_ne he'.2)]
    exact h.2 e he'.1 z
theorem ReadsV.look {D : DataW Value} {ps : List Ent} (h : ReadsV D ps) (o : OnceV ps) (x : Int) (z : Value) : D.atKey (.int .i64 x) (.held z) = .held (atV z ps x) := by
  cases hc : hasV ps x with
  | true =>
    obtain ⟨p, hp, rfl⟩ := hasV_iff.1 hc
    rw [h.2 p hp, atV_of o hp]
  | false =>
    have := h.1 x
    rw [hc] at this
    rw [atKey_of_not_has this, atV_no hc]
theorem key_intV {w : World} {b n : Nat} {D : DataW Value} (h : w.ownsMap Tryz.prog 3 anyE b n D) : ∀ kl, has D kl = true → ∃ x, kl = .int .i64 x := by
  intro kl hk
  obtain ⟨es, clock, hb, F, _, rfl⟩ := h
  obtain ⟨p, hp, hpk⟩ := List.any_eq_true.1 hk
  obtain ⟨x, hx, rfl⟩ := List.mem_map.1 (mem_sorted.1 hp)
  obtain ⟨y, hy⟩ := F.reads x hx
  rw [WideElems.rg_of hy] at hpk
  obtain ⟨a, _, e2, _⟩ := keyOf_int_inv Tryz.underlying3 (WideElems.rd_key hy)
  have := WideAt.sameKey_eq hpk
  exact ⟨a, by rw [← this, e2]⟩
theorem tightV {w : World} {b n : Nat} {D : DataW Value} (h : w.ownsMap Tryz.prog 3 anyE b n D) : w.ownsMap Tryz.prog 3 anyE b (size D) D := by
  obtain ⟨es, clock, hb, F, _, rfl⟩ := h
  exact ⟨es, clock, hb, F, by rw [size_eq, length_sorted]; simp, rfl⟩
theorem ReadsV.size {w : World} {b n : Nat} {D : DataW Value} {ss : List Ent} (h : ReadsV D ss) (o : w.ownsMap Tryz.prog 3 anyE b n D) (hn : OnceV ss) : size D = ss.length := by
  have KI := key_intV o
  obtain ⟨ps, rfl, hp, hk⟩ := o.entries lawI
  show ps.length = ss.length
  have e1 : (ps.map (fun p => match p.1 with | .int .i64 x => x | _ => 0)).length = ps.length := List.length_map _
  have e2 : (ss.map (fun e => e.1)).length = ss.length := List.length_map _
  rw [← e1, ← e2]
  have hi : ∀ p ∈ ps, ∃ x, p.1 = .int .i64 x := fun p hp' => KI p.1 (List.any_eq_true.2 ⟨p, hp', WideAt.sameKey_self (hk p hp')⟩)
  refine same_len ?_ hn.keys ?_
  · unfold List.Nodup
    rw [List.pairwise_map]
    refine hp.imp_of_mem ?_
    intro p q hp1 hq1 hne e
    obtain ⟨x, hx⟩ := hi p hp1
    obtain ⟨y, hy⟩ := hi q hq1
    simp only [hx, hy] at e
    exact hne (by rw [hx, hy, e])
  · intro x
    have h1 := h.1 x
    constructor
    · intro hm
      obtain ⟨p, hp1, e⟩ := List.mem_map.1 hm
      obtain ⟨y, hy⟩ := hi p hp1
      simp only [hy] at e
      subst e
      have : has (DataW.map ps) (.int .i64 y) = true := List.any_eq_true.2 ⟨p, hp1, by rw [hy]; exact WideAt.sameKey_self (keyI _)⟩
      rw [h1] at this
      obtain ⟨a, ha, e⟩ := hasV_iff.1 this
      exact List.mem_map.2 ⟨a, ha, e⟩
    · intro hm
      obtain ⟨a, ha, e⟩ := List.mem_map.1 hm
      rw [hasV_iff.2 ⟨a, ha, e⟩] at h1
      obtain ⟨p, hp1, hpk⟩ := List.any_eq_true.1 h1
      have := WideAt.sameKey_eq hpk
      exact List.mem_map.2 ⟨p, hp1, by simp only [this]⟩

/-- block b is a map that has just these pairs -/
def Mg (w : World) (b : Nat) (es : List Ent) : Prop := OnceV es ∧ ∃ D, w.ownsMap Tryz.prog 3 anyE b es.length D ∧ ReadsV D es
theorem Mg.of {w : World} {b n : Nat} {D : DataW Value} {es : List Ent} (o : w.ownsMap Tryz.prog 3 anyE b n D) (h : ReadsV D es) (hn : OnceV es) : Mg w b es :=
  ⟨hn, D, by rw [← h.size o hn]; exact tightV o, h⟩
theorem owns_keepV {w w' : World} {b n : Nat} {D : DataW Value} (h : w.ownsMap Tryz.prog 3 anyE b n D) {S : Nat → Prop} (o : Only S w w') (hn : ¬ S b) : w'.ownsMap Tryz.prog 3 anyE b n D := by
  have lt := h.lt
  obtain ⟨es, clock, hb, r⟩ := h
  exact ⟨es, clock, (o.block b lt hn).trans hb, r⟩
theorem Mg.keep {w w' : World} {b : Nat} {es : List Ent} (h : Mg w b es) {S : Nat → Prop} (o : Only S w w') (hn : ¬ S b) : Mg w' b es := by
  obtain ⟨h0, D, h1, h2⟩ := h
  exact ⟨h0, D, owns_keepV h1 o hn, h2⟩
theorem Mg.still {w w' : World} {b : Nat} {es : List Ent} (h : Mg w b es) (o : Only none_ w w') : Mg w' b es := h.keep o (fun s => s)
theorem Mg.lt {w : World} {b : Nat} {es : List Ent} (h : Mg w b es) : b < w.heap.size := by
  obtain ⟨_, D, h1, _⟩ := h
  exact h1.lt
theorem Mg.ne {w : World} {p b : Nat} {es : List Ent} {t : TypeId} {cs : Array Value} (h : Mg w b es) (r : Row w p t cs) : p ≠ b := by
  rintro rfl
  obtain ⟨_, D, ⟨es, clock, hb, _⟩, _⟩ := h
  unfold Row at r
  rw [r] at hb
  cases hb
theorem Mg.made (w : World) : Mg (w.alloc (.map #[] 0)) w.heap.size [] := ⟨List.Pairwise.nil, _, World.ownsMap_made w Tryz.prog 3 anyE, ReadsV.nil⟩
theorem Mg.len {w : World} {b : Nat} {es : List Ent} (h : Mg w b es) {t e : TypeId} (ht : Tryz.prog.underlying t = some (.map 3 e)) (ty : TypeId) : (Builtin.len_ #[t] ty #[.map (some b)]).run Tryz.prog w = .ok (.int .i64 es.length) w := by
  obtain ⟨hn, D, h1, h2⟩ := h
  have := h1.len ht ty
  rw [h2.size h1 hn] at this
  exact this
/-- a lookup -/
theorem Mg.look {w : World} {b : Nat} {es : List Ent} (h : Mg w b es) {t e : TypeId} (ht : Tryz.prog.underlying t = some (.map 3 e)) {z : Value} (hz : (zeroValue e).run Tryz.prog w = .ok z w) {x : Int} (wx : (Lit.int .i64 x).wf = true) :
    (Instr.lookup t (.map (some b)) (.int .i64 x) false).run Tryz.prog w = .ok (atV z es x) w := by
  obtain ⟨o, D, h1, h2⟩ := h
  obtain ⟨v, zs, hrun, hv⟩ := h1.lookup lawI ht hz (anyE_mk z) (keyOf_int_mk Tryz.underlying3 wx)
  rw [h2.look o x] at hv
  have e := anyE_inv hv
  injection e with e
  injection e with e
  rw [e]
  exact hrun
theorem Mg.look_ok {w : World} {b : Nat} {es : List Ent} (h : Mg w b es) {t e : TypeId} (ht : Tryz.prog.underlying t = some (.map 3 e)) {z : Value} (hz : (zeroValue e).run Tryz.prog w = .ok z w) {x : Int} (wx : (Lit.int .i64 x).wf = true) :
    (Instr.lookup t (.map (some b)) (.int .i64 x) true).run Tryz.prog w = .ok (.tuple #[atV z es x, .bool (hasV es x)]) w := by
  obtain ⟨o, D, h1, h2⟩ := h
  obtain ⟨v, zs, hrun, hv⟩ := h1.look_ok lawI ht hz (anyE_mk z) (keyOf_int_mk Tryz.underlying3 wx)
  rw [h2.1 x] at hrun
  rw [h2.look o x] at hv
  have e := anyE_inv hv
  injection e with e
  injection e with e
  rw [e]
  exact hrun
/-- a new key -/
theorem Mg.store {w : World} {b : Nat} {es : List Ent} (h : Mg w b es) {t e : TypeId} (ht : Tryz.prog.underlying t = some (.map 3 e)) (hl : es.length ≤ 1000) (x : Int) (v : Value) (wx : (Lit.int .i64 x).wf = true) (hx : hasV es x = false) :
    ∃ w', (Instr.mapUpdate t (.map (some b)) (.int .i64 x) v).run Tryz.prog w = .ok () w' ∧ Mg w' b (es ++ [(x, v)]) ∧ Only (fun k => k = b) w w' := by
  obtain ⟨hn, D, k1, k2⟩ := h
  have IM : IsMap D := let ⟨es, _, _, _, _, e⟩ := k1; ⟨_, e⟩
  obtain ⟨w', e1, e2, e3⟩ := k1.store lawI ht (by unfold maxLen; omega) (keyOf_int_mk Tryz.underlying3 wx) (anyE_mk v)
  exact ⟨w', e1, Mg.of e2 (k2.put IM x v hx) (hn.more x v hx), only_turned e3⟩
/-- a key goes -/
theorem Mg.drop {w : World} {b : Nat} {es : List Ent} (h : Mg w b es) {t e : TypeId} (ht : Tryz.prog.underlying t = some (.map 3 e)) (x : Int) (wx : (Lit.int .i64 x).wf = true) (ty : TypeId) :
    ∃ w', (Builtin.delete_ #[t, 3] ty #[.map (some b), .int .i64 x]).run Tryz.prog w = .ok (.tuple #[]) w' ∧ Mg w' b (cutV es x) ∧ Only (fun k => k = b) w w' := by
  obtain ⟨hn, D, k1, k2⟩ := h
  obtain ⟨w', e1, e2, e3⟩ := k1.drop lawI ht (keyOf_int_mk Tryz.underlying3 wx) ty
  exact ⟨w', e1, Mg.of e2 (k2.del x) (hn.cut x), only_turned e3⟩

/-! ### a range under way -/
def GotV (es : List Ent) (left : Lit → Bool) (xs : List Ent) : Prop := (∀ p ∈ xs, p ∈ es) ∧ (xs.map (·.1)).Nodup ∧ ∀ e ∈ es, e.1 ∈ xs.map (·.1) ↔ left (.int .i64 e.1) = false
theorem GotV.start {D : DataW Value} {es : List Ent} (h : ReadsV D es) : GotV es (has D) [] := by
  refine ⟨fun p hp => (by cases hp), List.Pairwise.nil, fun e he => ⟨fun q => (by cases q), fun q => ?_⟩⟩
  rw [h.1, hasV_iff.2 ⟨e, he, rfl⟩] at q
  cases q
abbrev strikeV (left : Lit → Bool) (x : Int) : Lit → Bool := fun z => left z && !z.sameKey (.int .i64 x)
theorem key_eqV (x y : Int) : (Lit.int .i64 x).sameKey (.int .i64 y) = (x == y) := by
  simp [Lit.sameKey]
  rfl
theorem GotV.step {es xs : List Ent} {left : Lit → Bool} {e : Ent} (h : GotV es left xs) (he : e ∈ es) (hl : left (.int .i64 e.1) = true) : GotV es (strikeV left e.1) (xs ++ [e]) := by
  refine ⟨fun p hp => ?_, ?_, fun a ha => ?_⟩
  · rcases List.mem_append.1 hp with q | q
    · exact h.1 p q
    · rw [List.mem_singleton.1 q]; exact he
  · rw [List.map_append]
    unfold List.Nodup
    rw [List.pairwise_append]
    refine ⟨h.2.1, List.pairwise_singleton _ _, fun a ha b hb q => ?_⟩
    have : b = e.1 := by simpa using hb
    subst this
    subst q
    have := (h.2.2 e he).1 ha
    rw [hl] at this
    cases this
  · rw [List.map_append, List.mem_append, h.2.2 a ha]
    simp only [strikeV, key_eqV, List.map_cons, List.map_nil, List.mem_singleton]
    by_cases k : a.1 = e.1
    · simp [k]
    · have kf : (a.1 == e.1) = false := by simp [k]
      simp [k, kf]
theorem GotV.len {es xs : List Ent} {left : Lit → Bool} (h : GotV es left xs) : xs.length ≤ es.length := by
  have := sub_len (xs.map (·.1)) (es.map (·.1)) h.2.1 (fun x hx => by
    obtain ⟨p, hp, rfl⟩ := List.mem_map.1 hx
    exact List.mem_map.2 ⟨p, h.1 p hp, rfl⟩)
  simpa using this
theorem GotV.over {es xs : List Ent} {left : Lit → Bool} (h : GotV es left xs) (hl : ∀ kl, left kl = false) : ∀ x, x ∈ xs.map (·.1) ↔ x ∈ es.map (·.1) := fun x => by
  constructor
  · intro hx
    obtain ⟨p, hp, rfl⟩ := List.mem_map.1 hx
    exact List.mem_map.2 ⟨p, h.1 p hp, rfl⟩
  · intro hx
    obtain ⟨p, hp, rfl⟩ := List.mem_map.1 hx
    exact (h.2.2 p hp).2 (hl _)
theorem ranges_keepV {w w' : World} {b r n cnt : Nat} {D : DataW Value} {left : Lit → Bool} (h : w.ranges Tryz.prog 3 anyE b r n D left cnt) {S : Nat → Prop} (o : Only S w w') (hb : ¬ S b) (hr : ¬ S r) : w'.ranges Tryz.prog 3 anyE b r n D left cnt := by
  have h1 := h.owns.lt
  have h2 := h.lt
  obtain ⟨es, clock, since, seen, c0, k1, F, hs, hD, k2, rest⟩ := h
  exact ⟨es, clock, since, seen, c0, (o.block b h1 hb).trans k1, F, hs, hD, (o.block r h2 hr).trans k2, rest⟩
theorem entry_ofV {D : DataW Value} {es : List Ent} (h : ReadsV D es) {x : Int} {v : Value} (hat : ∀ zd, D.atKey (.int .i64 x) zd = .held v) : (x, v) ∈ es := by
  cases hc : hasV es x with
  | true =>
    obtain ⟨q, hq, rfl⟩ := hasV_iff.1 hc
    have := (h.2 q hq .nil).symm.trans (hat .nil)
    injection this with this
    rw [← this]
    exact hq
  | false =>
    have h1 := h.1 x
    rw [hc] at h1
    have e1 := hat .nil
    rw [atKey_of_not_has h1] at e1
    cases e1
end Go.Proofs.YtfbpjobobdidiaaGreatDoor


/- What holds of every engine, plainly; each small step keeps it. -/
namespace Go.Proofs.YtfbpjobobdidiaaGreatDoor
set_option linter.unusedVariables false

/-- all the tickets that are in moves -/
def Eng.inM (E : Eng) : List Int := E.ms.flatMap (·.ks)
/-- what holds of an engine; ex: writes that may have nobody who waits; rest: tickets that are out, in no move -/
structure InvX (E : Eng) (ex rest : List Int) : Prop where
  may : E.o.MayC
  ids : E.ts.Pairwise (fun a b => a.id < b.id)
  idr : ∀ t ∈ E.ts, 1 ≤ t.id ∧ t.id ≤ E.nt
  blk : ∀ t ∈ E.ts, 0 ≤ t.b ∧ t.b < E.o.b0
  kin : ∀ t ∈ E.ts, t.kind = 1 ∨ t.kind = 2 ∨ t.kind = 3
  tri : ∀ t ∈ E.ts, 0 ≤ t.tries ∧ t.tries < E.o.b7
  once : OnceL E.qs
  qs1 : ∀ s ∈ E.qs, ∃ t ∈ E.ts, s = t.sl
  qs2 : ∀ t ∈ E.ts, t.sl ∈ E.qs
  fewd : ((rowL false E.qs).length : Int) ≤ E.o.b3
  fewa : ((rowL true E.qs).length : Int) ≤ E.o.b4
  good : GoodR E.o.b9.toNat E.g
  g1 : ∀ x ∈ E.g, ∃ t ∈ E.ts, t.id = x.t ∧ t.kind ≠ 3
  wr : ∀ t ∈ E.ts, t.kind = 2 → t.id ∉ ex → ∃ x ∈ E.g, x.t = t.id
  hd : ∀ t ∈ E.ts, t.out = true → E.head t.b = some t
  tags : E.ms.Pairwise (fun a b => a.tag < b.tag)
  tagr : ∀ m ∈ E.ms, 1 ≤ m.tag ∧ m.tag ≤ E.ng
  mlen : (E.ms.length : Int) ≤ E.o.b5
  mok : ∀ m ∈ E.ms, 1 ≤ m.n ∧ m.n ≤ E.o.b6 ∧ 0 ≤ m.lo ∧ m.lo + m.n ≤ E.o.b0 ∧ (m.ks.length : Int) = m.n ∧ (m.vs.length : Int) = (if m.wr then m.n else 0) ∧ m.fs.length ≤ m.ks.length
  mt : ∀ m ∈ E.ms, ∀ (i : Nat) k, m.ks[i]? = some k → ∃ t ∈ E.ts, t.id = k ∧ t.b = m.lo + i ∧ t.out = true ∧ (t.kind = 2 ↔ m.wr = true)
  rt : ∀ k ∈ rest, ∃ t ∈ E.ts, t.id = k ∧ t.out = true
  nd : (E.inM ++ rest).Nodup
  all : ∀ t ∈ E.ts, t.out = true → t.id ∈ E.inM ++ rest
abbrev Inv (E : Eng) : Prop := InvX E [] []

/-! ### a ticket by its number -/
theorem ids_inj {ts : List Tk} (h : ts.Pairwise (fun a b => a.id < b.id)) {s t : Tk} (hs : s ∈ ts) (ht : t ∈ ts) (e : s.id = t.id) : s = t := by
  induction ts with
  | nil => cases hs
  | cons a r ih =>
    obtain ⟨h1, h2⟩ := List.pairwise_cons.1 h
    rcases List.mem_cons.1 hs with rfl | hs' <;> rcases List.mem_cons.1 ht with rfl | ht'
    · rfl
    · have := h1 t ht'; omega
    · have := h1 s hs'; omega
    · exact ih h2 hs' ht'
theorem InvX.inj {E : Eng} {ex rest : List Int} (h : InvX E ex rest) {s t : Tk} (hs : s ∈ E.ts) (ht : t ∈ E.ts) (e : s.id = t.id) : s = t := ids_inj h.ids hs ht e
theorem find16 {ts : List Tk} (h : ts.Pairwise (fun a b => a.id < b.id)) {t : Tk} (ht : t ∈ ts) : at16 ts t.id = some t := by
  unfold at16
  cases q : ts.find? (fun s => s.id == t.id) with
  | none => exact absurd (List.find?_eq_none.1 q t ht) (by simp)
  | some s =>
    have h1 := List.mem_of_find?_eq_some q
    have h2 : s.id = t.id := by simpa using List.find?_some q
    rw [ids_inj h h1 ht h2]
theorem upd_mem {ts : List Tk} {x : Int} {f : Tk → Tk} {s : Tk} (h : s ∈ upd ts x f) : ∃ t ∈ ts, s = if t.id = x then f t else t := by
  obtain ⟨t, ht, rfl⟩ := List.mem_map.1 h
  exact ⟨t, ht, rfl⟩
theorem mem_upd {ts : List Tk} {t : Tk} (f : Tk → Tk) (h : t ∈ ts) : f t ∈ upd ts t.id f := List.mem_map.2 ⟨t, h, if_pos rfl⟩
theorem mem_upd_other {ts : List Tk} {t : Tk} {x : Int} (f : Tk → Tk) (h : t ∈ ts) (e : t.id ≠ x) : t ∈ upd ts x f := List.mem_map.2 ⟨t, h, if_neg e⟩
/-- a change that keeps number and block -/
def Keeps (f : Tk → Tk) : Prop := ∀ t, (f t).id = t.id ∧ (f t).b = t.b
theorem keep_if {f : Tk → Tk} (h : Keeps f) (x : Int) (t : Tk) : (if t.id = x then f t else t).id = t.id ∧ (if t.id = x then f t else t).b = t.b := by
  split
  · exact h t
  · exact ⟨rfl, rfl⟩
theorem upd_ids {ts : List Tk} {x : Int} {f : Tk → Tk} (k : Keeps f) (h : ts.Pairwise (fun a b => a.id < b.id)) : (upd ts x f).Pairwise (fun a b => a.id < b.id) := by
  unfold upd
  rw [List.pairwise_map]
  refine h.imp ?_
  intro a b q
  rw [(keep_if k x a).1, (keep_if k x b).1]
  exact q
theorem head_upd {E : Eng} {x : Int} {f : Tk → Tk} (k : Keeps f) (b : Int) : (E.upd x f).head b = (E.head b).map (fun t => if t.id = x then f t else t) := by
  unfold Eng.head Eng.lane Eng.upd upd
  rw [List.filter_map, List.head?_map]
  congr 2
  apply List.filter_congr
  intro t _
  simp only [Function.comp]
  rw [(keep_if k x t).2]
theorem last_upd {E : Eng} {x : Int} {f : Tk → Tk} (k : Keeps f) (b : Int) : (E.upd x f).last b = (E.last b).map (fun t => if t.id = x then f t else t) := by
  unfold Eng.last Eng.lane Eng.upd upd
  rw [List.filter_map, List.getLast?_map]
  congr 2
  apply List.filter_congr
  intro t _
  simp only [Function.comp]
  rw [(keep_if k x t).2]
theorem mem_head {E : Eng} {b : Int} {t : Tk} (h : E.head b = some t) : t ∈ E.ts ∧ t.b = b := by
  have := List.mem_of_head? h
  unfold Eng.lane at this
  simpa using List.mem_filter.1 this
theorem mem_last {E : Eng} {b : Int} {t : Tk} (h : E.last b = some t) : t ∈ E.ts ∧ t.b = b := by
  have := List.mem_of_getLast? h
  unfold Eng.lane at this
  simpa using List.mem_filter.1 this

/-! ### a change of one ticket that leaves its turn as it is -/
structure Soft (f : Tk → Tk) : Prop where
  keeps : Keeps f
  kind : ∀ t, (f t).kind = t.kind
  out : ∀ t, (f t).out = t.out
  tries : ∀ t, (f t).tries = t.tries
theorem soft_list (l : Int) : Soft (Tk.list l) := ⟨fun _ => ⟨rfl, rfl⟩, fun _ => rfl, fun _ => rfl, fun _ => rfl⟩
theorem soft_worth (v : Int) : Soft (Tk.worth v) := ⟨fun _ => ⟨rfl, rfl⟩, fun _ => rfl, fun _ => rfl, fun _ => rfl⟩
theorem soft_cut : Soft Tk.cutIt := ⟨fun _ => ⟨rfl, rfl⟩, fun _ => rfl, fun _ => rfl, fun _ => rfl⟩
theorem soft_if {f : Tk → Tk} (h : Soft f) (x : Int) (t : Tk) : (if t.id = x then f t else t).id = t.id ∧ (if t.id = x then f t else t).b = t.b ∧ (if t.id = x then f t else t).kind = t.kind ∧ (if t.id = x then f t else t).out = t.out ∧ (if t.id = x then f t else t).tries = t.tries := by
  split
  · exact ⟨(h.keeps t).1, (h.keeps t).2, h.kind t, h.out t, h.tries t⟩
  · exact ⟨rfl, rfl, rfl, rfl, rfl⟩
theorem InvX.soft {E : Eng} {ex rest : List Int} (h : InvX E ex rest) {f : Tk → Tk} (k : Soft f) (x : Int) : InvX (E.upd x f) ex rest := by
  have sl : ∀ t : Tk, (if t.id = x then f t else t).sl = t.sl := fun t => by
    obtain ⟨e1, _, e2, e3, _⟩ := soft_if k x t
    unfold Tk.sl
    rw [e1, e2, e3]
  have up : ∀ t ∈ E.ts, (if t.id = x then f t else t) ∈ upd E.ts x f := fun t ht => List.mem_map.2 ⟨t, ht, rfl⟩
  refine { h with ids := upd_ids k.keeps h.ids, idr := fun s hs => ?_, blk := fun s hs => ?_, kin := fun s hs => ?_, tri := fun s hs => ?_, qs1 := fun s hs => ?_, qs2 := fun s hs => ?_, g1 := fun y hy => ?_, wr := fun s hs => ?_, hd := fun s hs => ?_, mt := fun m hm i q hi => ?_, rt := fun q hq => ?_, all := fun s hs => ?_ }
  all_goals first
    | (obtain ⟨t, ht, rfl⟩ := upd_mem hs; obtain ⟨e1, e2, e3, e4, e5⟩ := soft_if k x t)
    | skip
  · rw [e1]; exact h.idr t ht
  · rw [e2]; exact h.blk t ht
  · rw [e3]; exact h.kin t ht
  · rw [e5]; exact h.tri t ht
  · obtain ⟨t, ht, rfl⟩ := h.qs1 s hs
    exact ⟨_, up t ht, (sl t).symm⟩
  · rw [sl]; exact h.qs2 t ht
  · obtain ⟨t, ht, e, k3⟩ := h.g1 y hy
    obtain ⟨e1, e2, e3, e4, e5⟩ := soft_if k x t
    exact ⟨_, up t ht, by rw [e1]; exact e, by rw [e3]; exact k3⟩
  · rw [e1, e3]; exact h.wr t ht
  · rw [e4, e2, head_upd k.keeps]
    intro q
    rw [h.hd t ht q]
    rfl
  · obtain ⟨t, ht, a1, a2, a3, a4⟩ := h.mt m hm i q hi
    obtain ⟨e1, e2, e3, e4, e5⟩ := soft_if k x t
    exact ⟨_, up t ht, by rw [e1]; exact a1, by rw [e2]; exact a2, by rw [e4]; exact a3, by rw [e3]; exact a4⟩
  · obtain ⟨t, ht, a1, a2⟩ := h.rt q hq
    obtain ⟨e1, e2, e3, e4, e5⟩ := soft_if k x t
    exact ⟨_, up t ht, by rw [e1]; exact a1, by rw [e4]; exact a2⟩
  · rw [e1, e4]; exact h.all t ht
theorem InvX.less {E : Eng} {ex ex' rest : List Int} (h : InvX E ex rest) (k : ∀ t ∈ E.ts, t.kind = 2 → t.id ∉ ex' → t.id ∈ ex → ∃ x ∈ E.g, x.t = t.id) : InvX E ex' rest :=
  { h with wr := fun t ht k2 hn => (by
             by_cases q : t.id ∈ ex
             · exact k t ht k2 hn q
             · exact h.wr t ht k2 q) }

/-! ### a new ticket -/
theorem row_more (a : Bool) (qs : List Sl) (s : Sl) : (rowL a (qs ++ [s])).length = (rowL a qs).length + if s.a == a then 1 else 0 := by
  unfold rowL
  rw [List.filter_append, List.length_append]
  by_cases h : s.a == a
  · rw [if_pos h]; simp [h]
  · rw [if_neg h]; simp [h]
theorem InvX.new_id {E : Eng} {ex rest : List Int} (h : InvX E ex rest) : ∀ t ∈ E.ts, t.id ≠ (E.nt : Int) + 1 := fun t ht => by have := h.idr t ht; omega
theorem InvX.no_q {E : Eng} {ex rest : List Int} (h : InvX E ex rest) : hasL E.qs (E.nt + 1) = false := by
  cases q : hasL E.qs (E.nt + 1) with
  | false => rfl
  | true =>
    obtain ⟨s, hs, e⟩ := hasL_iff.1 q
    obtain ⟨t, ht, rfl⟩ := h.qs1 s hs
    exact absurd e (h.new_id t ht)
theorem head_more {E : Eng} {kind b b' : Int} {t : Tk} (h : E.head b' = some t) : (E.enter kind b).head b' = some t := by
  unfold Eng.head Eng.lane Eng.enter at *
  rw [List.filter_append]
  cases q : E.ts.filter (fun t => t.b == b') with
  | nil => rw [q] at h; cases h
  | cons a r => rw [q] at h; exact h
theorem InvX.enter {E : Eng} {ex rest : List Int} (h : InvX E ex rest) {kind b : Int} (hk : kind = 1 ∨ kind = 2 ∨ kind = 3) (hb : E.has b = true) (hf : if kind = 3 then E.fa ≠ 0 else E.fd ≠ 0) (he : kind = 2 → ∀ e ∈ [(E.nt : Int) + 1], e ∈ ex) :
    InvX (E.enter kind b) ex rest := by
  have hb' : 0 ≤ b ∧ b < E.o.b0 := of_decide_eq_true hb
  have hm := h.may
  unfold Opt.MayC at hm
  have mem : ∀ s ∈ E.ts ++ [E.new kind b], s ∈ E.ts ∨ s = E.new kind b := fun s hs => by
    rcases List.mem_append.1 hs with q | q
    · exact .inl q
    · exact .inr (List.mem_singleton.1 q)
  have old : ∀ s ∈ E.ts, s ∈ (E.enter kind b).ts := fun s hs => List.mem_append_left _ hs
  refine { may := h.may, ids := ?_, idr := fun s hs => ?_, blk := fun s hs => ?_, kin := fun s hs => ?_, tri := fun s hs => ?_, once := ?_, qs1 := fun s hs => ?_, qs2 := fun s hs => ?_, fewd := ?_, fewa := ?_, good := h.good, g1 := fun y hy => ?_, wr := fun s hs => ?_, hd := fun s hs => ?_, tags := h.tags, tagr := h.tagr, mlen := h.mlen, mok := h.mok, mt := fun m hm i q hi => ?_, rt := fun q hq => ?_, nd := h.nd, all := fun s hs => ?_ }
  · show (E.ts ++ [E.new kind b]).Pairwise _
    rw [List.pairwise_append]
    refine ⟨h.ids, List.pairwise_singleton _ _, fun a ha c hc => ?_⟩
    rw [List.mem_singleton.1 hc]
    have := h.idr a ha
    show a.id < (E.nt : Int) + 1
    omega
  · show 1 ≤ s.id ∧ s.id ≤ ((E.nt + 1 : Nat) : Int)
    rcases mem s hs with q | rfl
    · have := h.idr s q; omega
    · show 1 ≤ (E.nt : Int) + 1 ∧ (E.nt : Int) + 1 ≤ _; omega
  · rcases mem s hs with q | rfl
    · exact h.blk s q
    · exact hb'
  · rcases mem s hs with q | rfl
    · exact h.kin s q
    · exact hk
  · rcases mem s hs with q | rfl
    · exact h.tri s q
    · show 0 ≤ (0 : Int) ∧ (0 : Int) < E.o.b7; omega
  · show List.Pairwise (fun a b : Sl => a.k ≠ b.k) (E.qs ++ [⟨(E.nt : Int) + 1, kind == 3, true⟩])
    rw [List.pairwise_append]
    refine ⟨h.once, List.pairwise_singleton _ _, fun a ha c hc => ?_⟩
    rw [List.mem_singleton.1 hc]
    obtain ⟨t, ht, rfl⟩ := h.qs1 a ha
    exact h.new_id t ht
  · rcases List.mem_append.1 hs with q | q
    · obtain ⟨t, ht, e⟩ := h.qs1 s q
      exact ⟨t, old t ht, e⟩
    · rw [List.mem_singleton.1 q]
      exact ⟨E.new kind b, List.mem_append_right _ (by simp), rfl⟩
  · rcases mem s hs with q | rfl
    · exact List.mem_append_left _ (h.qs2 s q)
    · exact List.mem_append_right _ (by simp [Tk.sl, Eng.new])
  · show ((rowL false (E.qs ++ [⟨(E.nt : Int) + 1, kind == 3, true⟩])).length : Int) ≤ E.o.b3
    rw [row_more]
    have := h.fewd
    unfold Eng.fd at hf
    by_cases k : kind = 3
    · simp [k]; omega
    · rw [if_neg k] at hf
      simp [k]; omega
  · show ((rowL true (E.qs ++ [⟨(E.nt : Int) + 1, kind == 3, true⟩])).length : Int) ≤ E.o.b4
    rw [row_more]
    have := h.fewa
    unfold Eng.fa at hf
    by_cases k : kind = 3
    · rw [if_pos k] at hf
      simp [k]; omega
    · simp [k]; omega
  · obtain ⟨t, ht, e⟩ := h.g1 y hy
    exact ⟨t, old t ht, e⟩
  · rcases mem s hs with q | rfl
    · exact h.wr s q
    · intro k hn
      exact absurd (he k _ (by simp [Eng.new])) hn
  · rcases mem s hs with q | rfl
    · intro o; exact head_more (h.hd s q o)
    · intro o; cases o
  · obtain ⟨t, ht, e⟩ := h.mt m hm i q hi
    exact ⟨t, old t ht, e⟩
  · obtain ⟨t, ht, e⟩ := h.rt q hq
    exact ⟨t, old t ht, e⟩
  · rcases mem s hs with q | rfl
    · exact h.all s q
    · intro o; cases o
end Go.Proofs.YtfbpjobobdidiaaGreatDoor


/- What holds of every engine: the other small steps keep it, too. -/
namespace Go.Proofs.YtfbpjobobdidiaaGreatDoor
set_option linter.unusedVariables false

theorem cutL_mem {qs : List Sl} {x : Int} {s : Sl} : s ∈ cutL qs x ↔ s ∈ qs ∧ s.k ≠ x := by
  unfold cutL
  rw [List.mem_filter]
  simp
theorem InvX.atq {E : Eng} {ex rest : List Int} (h : InvX E ex rest) {t : Tk} (ht : t ∈ E.ts) : atL E.qs t.id = t.sl ∧ hasL E.qs t.id = true := by
  have hm := h.qs2 t ht
  refine ⟨?_, hasL_iff.2 ⟨_, hm, rfl⟩⟩
  unfold atL
  cases q : E.qs.find? (fun s => s.k == t.id) with
  | none => exact absurd (List.find?_eq_none.1 q _ hm) (by simp [Tk.sl])
  | some s =>
    have h1 := List.mem_of_find?_eq_some q
    have h2 : s.k = t.id := by simpa using List.find?_some q
    exact h.once.inj h1 hm h2
theorem row_sub (a : Bool) {l m : List Sl} (h : l.Sublist m) : (rowL a l).length ≤ (rowL a m).length := (h.filter _).length_le
theorem keeps_read : Keeps Tk.read := fun _ => ⟨rfl, rfl⟩
theorem keeps_go : Keeps Tk.go := fun _ => ⟨rfl, rfl⟩
theorem keeps_back : Keeps Tk.back := fun _ => ⟨rfl, rfl⟩
/-- an Ahead is a Read now, and a demand -/
theorem InvX.late {E : Eng} {ex rest : List Int} (h : InvX E ex rest) {t : Tk} (ht : t ∈ E.ts) (k3 : t.kind = 3) (hf : E.fd ≠ 0) : InvX ((E.prom t.id).upd t.id Tk.read) ex rest := by
  have out : ∀ s : Tk, (if s.id = t.id then s.read else s).out = s.out := fun s => by split <;> rfl
  have tri : ∀ s : Tk, (if s.id = t.id then s.read else s).tries = s.tries := fun s => by split <;> rfl
  have id_ := fun s => (keep_if keeps_read t.id s).1
  have bl := fun s => (keep_if keeps_read t.id s).2
  have up : ∀ s ∈ E.ts, (if s.id = t.id then s.read else s) ∈ upd E.ts t.id Tk.read := fun s hs => List.mem_map.2 ⟨s, hs, rfl⟩
  have k2 : ∀ s ∈ E.ts, ((if s.id = t.id then s.read else s).kind = 2 ↔ s.kind = 2) := fun s hs => by
    by_cases e : s.id = t.id
    · rw [if_pos e, h.inj hs ht e, k3]; show (1 : Int) = 2 ↔ _; simp
    · rw [if_neg e]
  obtain ⟨aq, hq⟩ := h.atq ht
  have sl : ∀ s ∈ E.ts, s.id ≠ t.id → (if s.id = t.id then s.read else s).sl = s.sl := fun s _ e => by rw [if_neg e]
  refine { may := h.may, ids := upd_ids keeps_read h.ids, idr := fun s hs => ?_, blk := fun s hs => ?_, kin := fun s hs => ?_, tri := fun s hs => ?_, once := ?_, qs1 := fun s hs => ?_, qs2 := fun s hs => ?_, fewd := ?_, fewa := ?_, good := h.good, g1 := fun y hy => ?_, wr := fun s hs => ?_, hd := fun s hs => ?_, tags := h.tags, tagr := h.tagr, mlen := h.mlen, mok := h.mok, mt := fun m hm i q hi => ?_, rt := fun q hq => ?_, nd := h.nd, all := fun s hs => ?_ }
  · obtain ⟨s, hs2, rfl⟩ := upd_mem hs; have hs := hs2; rw [id_]; exact h.idr s hs
  · obtain ⟨s, hs2, rfl⟩ := upd_mem hs; have hs := hs2; rw [bl]; exact h.blk s hs
  · obtain ⟨s, hs2, rfl⟩ := upd_mem hs; have hs := hs2
    by_cases e : s.id = t.id
    · rw [if_pos e]; exact .inl rfl
    · rw [if_neg e]; exact h.kin s hs
  · obtain ⟨s, hs2, rfl⟩ := upd_mem hs; have hs := hs2; rw [tri]; exact h.tri s hs
  · show List.Pairwise (fun a b : Sl => a.k ≠ b.k) (cutL E.qs t.id ++ [⟨t.id, false, (atL E.qs t.id).s⟩])
    rw [List.pairwise_append]
    refine ⟨h.once.filter _, List.pairwise_singleton _ _, fun a ha c hc => ?_⟩
    rw [List.mem_singleton.1 hc]
    exact (cutL_mem.1 ha).2
  · rcases List.mem_append.1 hs with q | q
    · obtain ⟨q1, q2⟩ := cutL_mem.1 q
      obtain ⟨u, hu, rfl⟩ := h.qs1 s q1
      exact ⟨_, up u hu, (sl u hu q2).symm⟩
    · rw [List.mem_singleton.1 q, aq]
      exact ⟨_, up t ht, by rw [if_pos rfl]; rfl⟩
  · obtain ⟨s, hs2, rfl⟩ := upd_mem hs; have hs := hs2
    by_cases e : s.id = t.id
    · rw [if_pos e, h.inj hs ht e]
      refine List.mem_append_right _ ?_
      rw [aq]
      simp [Tk.sl, Tk.read]
    · rw [if_neg e]
      exact List.mem_append_left _ (cutL_mem.2 ⟨h.qs2 s hs, e⟩)
  · show ((rowL false (cutL E.qs t.id ++ [⟨t.id, false, (atL E.qs t.id).s⟩])).length : Int) ≤ E.o.b3
    rw [row_more]
    have h1 := row_sub false (List.filter_sublist (p := fun s : Sl => !(s.k == t.id)) (l := E.qs))
    have h2 := h.fewd
    unfold Eng.fd at hf
    unfold cutL
    simp
    omega
  · show ((rowL true (cutL E.qs t.id ++ [⟨t.id, false, (atL E.qs t.id).s⟩])).length : Int) ≤ E.o.b4
    rw [row_more]
    have h1 := row_sub true (List.filter_sublist (p := fun s : Sl => !(s.k == t.id)) (l := E.qs))
    have h2 := h.fewa
    unfold cutL
    simp
    omega
  · obtain ⟨s, hs, e, k⟩ := h.g1 y hy
    refine ⟨_, up s hs, by rw [id_]; exact e, ?_⟩
    by_cases q : s.id = t.id
    · rw [if_pos q]; show (1 : Int) ≠ 3; decide
    · rw [if_neg q]; exact k
  · obtain ⟨s, hs2, rfl⟩ := upd_mem hs; have hs := hs2
    rw [id_, k2 s hs]
    exact h.wr s hs
  · obtain ⟨s, hs2, rfl⟩ := upd_mem hs; have hs := hs2
    rw [out, bl]
    intro o
    rw [show ((E.prom t.id).upd t.id Tk.read).head s.b = (E.head s.b).map (fun u => if u.id = t.id then u.read else u) from head_upd (E := E.prom t.id) keeps_read s.b, h.hd s hs o]
    rfl
  · obtain ⟨s, hs, a1, a2, a3, a4⟩ := h.mt m hm i q hi
    exact ⟨_, up s hs, by rw [id_]; exact a1, by rw [bl]; exact a2, by rw [out]; exact a3, by rw [k2 s hs]; exact a4⟩
  · obtain ⟨s, hs, a1, a2⟩ := h.rt q hq
    exact ⟨_, up s hs, by rw [id_]; exact a1, by rw [out]; exact a2⟩
  · obtain ⟨s, hs2, rfl⟩ := upd_mem hs; have hs := hs2
    rw [id_, out]
    exact h.all s hs
theorem good_filt16 {room : Nat} {g : List Sx} (h : GoodR room g) (p : Sx → Bool) : GoodR room (g.filter p) :=
  ⟨h.low, h.high, Nat.le_trans (List.length_filter_le _ _) h.len, ((List.filter_sublist (p := p) (l := g)).map Sx.w).nodup h.once, fun s hs => h.may s (List.mem_filter.1 hs).1⟩
theorem head_filter {E : Eng} {x : Int} {t : Tk} (h : E.head t.b = some t) (e : t.id ≠ x) : (E.end_ x).head t.b = some t := by
  unfold Eng.head Eng.lane Eng.end_ at *
  show ((E.ts.filter (fun u => !(u.id == x))).filter (fun u => u.b == t.b)).head? = some t
  rw [List.filter_filter]
  cases q : E.ts.filter (fun u => u.b == t.b) with
  | nil => rw [q] at h; cases h
  | cons a r =>
    rw [q] at h
    injection h with h
    subst h
    have e2 : E.ts.filter (fun u => u.b == a.b && !(u.id == x)) = (E.ts.filter (fun u => u.b == a.b)).filter (fun u => !(u.id == x)) := by
      rw [List.filter_filter]
      congr 1
      funext u
      rw [Bool.and_comm]
    rw [e2, q, List.filter_cons_of_pos (by simpa using e)]
    rfl
/-- a ticket ends, and nobody waits for it any more -/
def Eng.drop (E : Eng) (x : Int) : Eng := (E.end_ x).take x
theorem InvX.drop {E : Eng} {ex rest rest' : List Int} (h : InvX E ex rest) {t : Tk} (ht : t ∈ E.ts) (hx : t.id ∉ E.inM ++ rest') (hr : ∀ k ∈ rest, k = t.id ∨ k ∈ rest') (hs : ∀ k ∈ rest', k ∈ rest) (nd : (E.inM ++ rest').Nodup) : InvX (E.drop t.id) ex rest' := by
  have mem : ∀ s, s ∈ (E.drop t.id).ts ↔ s ∈ E.ts ∧ s.id ≠ t.id := fun s => by
    show s ∈ E.ts.filter (fun u => !(u.id == t.id)) ↔ _
    rw [List.mem_filter]; simp
  have memg : ∀ y, y ∈ (E.drop t.id).g ↔ y ∈ E.g ∧ y.t ≠ t.id := fun y => by
    show y ∈ leftT E.g t.id ↔ _
    unfold leftT
    rw [List.mem_filter]; simp
  refine { may := h.may, ids := h.ids.filter _, idr := fun s hs => h.idr s ((mem s).1 hs).1, blk := fun s hs => h.blk s ((mem s).1 hs).1, kin := fun s hs => h.kin s ((mem s).1 hs).1, tri := fun s hs => h.tri s ((mem s).1 hs).1, once := h.once.filter _, qs1 := fun s hs => ?_, qs2 := fun s hs => ?_, fewd := ?_, fewa := ?_, good := good_filt16 h.good _, g1 := fun y hy => ?_, wr := fun s hs => ?_, hd := fun s hs => ?_, tags := h.tags, tagr := h.tagr, mlen := h.mlen, mok := h.mok, mt := fun m hm i q hi => ?_, rt := fun q hq => ?_, nd := nd, all := fun s hs => ?_ }
  · obtain ⟨q1, q2⟩ := cutL_mem.1 hs
    obtain ⟨u, hu, rfl⟩ := h.qs1 s q1
    exact ⟨u, (mem u).2 ⟨hu, q2⟩, rfl⟩
  · obtain ⟨q1, q2⟩ := (mem s).1 hs
    exact cutL_mem.2 ⟨h.qs2 s q1, q2⟩
  · have h1 := row_sub false (List.filter_sublist (p := fun s : Sl => !(s.k == t.id)) (l := E.qs))
    have h2 := h.fewd
    show ((rowL false (cutL E.qs t.id)).length : Int) ≤ E.o.b3
    unfold cutL
    omega
  · have h1 := row_sub true (List.filter_sublist (p := fun s : Sl => !(s.k == t.id)) (l := E.qs))
    have h2 := h.fewa
    show ((rowL true (cutL E.qs t.id)).length : Int) ≤ E.o.b4
    unfold cutL
    omega
  · obtain ⟨q1, q2⟩ := (memg y).1 hy
    obtain ⟨s, hs, e, k⟩ := h.g1 y q1
    exact ⟨s, (mem s).2 ⟨hs, by rw [e]; exact q2⟩, e, k⟩
  · obtain ⟨q1, q2⟩ := (mem s).1 hs
    intro k hn
    obtain ⟨y, hy, e⟩ := h.wr s q1 k hn
    exact ⟨y, (memg y).2 ⟨hy, by rw [e]; exact q2⟩, e⟩
  · obtain ⟨q1, q2⟩ := (mem s).1 hs
    intro o
    exact head_filter (h.hd s q1 o) q2
  · obtain ⟨s, hs', a1, a2, a3, a4⟩ := h.mt m hm i q hi
    refine ⟨s, (mem s).2 ⟨hs', fun e => hx (List.mem_append_left _ ?_)⟩, a1, a2, a3, a4⟩
    rw [← e, a1]
    exact List.mem_flatMap.2 ⟨m, hm, List.mem_of_getElem? hi⟩
  · obtain ⟨s, hs', a1, a2⟩ := h.rt q (hs q hq)
    refine ⟨s, (mem s).2 ⟨hs', fun e => hx (List.mem_append_right _ ?_)⟩, a1, a2⟩
    rw [← e, a1]; exact hq
  · obtain ⟨q1, q2⟩ := (mem s).1 hs
    intro o
    rcases List.mem_append.1 (h.all s q1 o) with q | q
    · exact List.mem_append_left _ q
    · rcases hr _ q with e | e
      · exact absurd e q2
      · exact List.mem_append_right _ e
theorem InvX.notM {E : Eng} {ex rest : List Int} (h : InvX E ex rest) {t : Tk} (ht : t ∈ E.ts) (o : t.out = false) : t.id ∉ E.inM ++ rest := by
  intro q
  rcases List.mem_append.1 q with q | q
  · obtain ⟨m, hm, hk⟩ := List.mem_flatMap.1 q
    obtain ⟨i, hi⟩ := List.getElem?_of_mem hk
    obtain ⟨s, hs, a1, a2, a3, a4⟩ := h.mt m hm i _ hi
    rw [h.inj hs ht a1, o] at a3
    cases a3
  · obtain ⟨s, hs, a1, a2⟩ := h.rt _ q
    rw [h.inj hs ht a1, o] at a2
    cases a2
theorem InvX.drop_idle {E : Eng} {ex rest : List Int} (h : InvX E ex rest) {t : Tk} (ht : t ∈ E.ts) (o : t.out = false) : InvX (E.drop t.id) ex rest :=
  h.drop ht (h.notM ht o) (fun k hk => .inr hk) (fun k hk => hk) h.nd
theorem InvX.drop_back {E : Eng} {ex r : List Int} {t : Tk} (h : InvX E ex (t.id :: r)) (ht : t ∈ E.ts) : InvX (E.drop t.id) ex r := by
  have nd := h.nd
  rw [List.nodup_append] at nd
  obtain ⟨n1, n2, n3⟩ := nd
  obtain ⟨n4, n5⟩ := List.nodup_cons.1 n2
  refine h.drop ht ?_ (fun k hk => ?_) (fun k hk => List.mem_cons_of_mem _ hk) ?_
  · intro q
    rcases List.mem_append.1 q with q | q
    · exact n3 _ q _ (by simp) rfl
    · exact n4 q
  · rcases List.mem_cons.1 hk with q | q
    · exact .inl q
    · exact .inr q
  · rw [List.nodup_append]
    exact ⟨n1, n5, fun a ha b hb => n3 a ha b (List.mem_cons_of_mem _ hb)⟩
/-- an engine without waiters for a ticket: that they go is nothing -/
theorem take_none {E : Eng} {x : Int} (h : ∀ y ∈ E.g, y.t ≠ x) : E.take x = E := by
  unfold Eng.take leftT
  have : E.g.filter (fun s => decide (s.t ≠ x)) = E.g := List.filter_eq_self.2 (fun y hy => by simpa using h y hy)
  rw [this]
theorem InvX.none3 {E : Eng} {ex rest : List Int} (h : InvX E ex rest) {t : Tk} (ht : t ∈ E.ts) (k : t.kind = 3) : ∀ y ∈ E.g, y.t ≠ t.id := fun y hy e => by
  obtain ⟨s, hs, a, b⟩ := h.g1 y hy
  rw [h.inj hs ht (by rw [a, e])] at b
  exact b k
theorem end_drop {E : Eng} {x : Int} (h : ∀ y ∈ E.g, y.t ≠ x) : E.end_ x = E.drop x := (take_none (E := E.end_ x) h).symm
/-- somebody waits for a ticket -/
theorem InvX.add {E : Eng} {ex ex' rest : List Int} (h : InvX E ex rest) {t : Tk} (ht : t ∈ E.ts) (k : t.kind ≠ 3) {w : Wt} (m : mayP w) (n : waitsB E.g w = false) (l : (E.g.length : Int) < E.o.b9) (he : ∀ e ∈ ex, e = t.id ∨ e ∈ ex') : InvX (E.add t.id w) ex' rest := by
  have := (h.idr t ht).1
  have hm := h.may
  unfold Opt.MayC at hm
  refine { h with good := ?_, g1 := fun y hy => ?_, wr := fun s hs k2 hn => ?_ }
  · refine ⟨h.good.low, h.good.high, ?_, ?_, ?_⟩
    · show (E.g ++ [(⟨t.id, w⟩ : Sx)]).length ≤ E.o.b9.toNat
      rw [List.length_append, List.length_singleton]; omega
    · show ((E.g ++ [(⟨t.id, w⟩ : Sx)]).map Sx.w).Nodup
      rw [List.map_append, List.map_singleton, List.nodup_append]
      refine ⟨h.good.once, by simp, fun y hy z hz e => ?_⟩
      rw [List.mem_singleton] at hz
      obtain ⟨s, hs, e2⟩ := List.mem_map.1 hy
      have : waitsB E.g w = true := List.any_eq_true.2 ⟨s, hs, decide_eq_true (by rw [e2, e, hz])⟩
      rw [n] at this; cases this
    · intro s hs
      rcases List.mem_append.1 hs with q | q
      · exact h.good.may s q
      · rw [List.mem_singleton.1 q]
        unfold mayP at m
        unfold mayW
        simp only
        omega
  · rcases List.mem_append.1 hy with q | q
    · exact h.g1 y q
    · rw [List.mem_singleton.1 q]
      exact ⟨t, ht, rfl, k⟩
  · by_cases q : s.id ∈ ex
    · rcases he _ q with e | e
      · exact ⟨⟨t.id, w⟩, List.mem_append_right _ (by simp), e.symm⟩
      · exact absurd e hn
    · obtain ⟨y, hy, e⟩ := h.wr s hs k2 q
      exact ⟨y, List.mem_append_left _ hy, e⟩
theorem mem_put16 {l : List Int} {n k : Int} : k ∈ putI l n ↔ k = n ∨ k ∈ l := by
  induction l with
  | nil => simp [putI]
  | cons x l ih =>
    show k ∈ (if x < n then x :: putI l n else if x = n then x :: l else n :: x :: l) ↔ _
    split
    · rw [List.mem_cons, ih, List.mem_cons]
      constructor
      · rintro (q | q | q) <;> simp [q]
      · rintro (q | q | q) <;> simp [q]
    · split
      · rename_i e
        subst e
        rw [List.mem_cons]
        constructor
        · rintro (q | q) <;> simp [q]
        · rintro (q | q | q) <;> simp [q]
      · simp
theorem mem_quit16 {g : List Sx} {r k : Int} : k ∈ quitI g r ↔ ∃ y ∈ g, y.w.r = r ∧ y.t = k := by
  unfold quitI
  have : ∀ (l : List Sx) (m : List Int), k ∈ l.foldl (fun l s => putI l s.t) m ↔ k ∈ m ∨ ∃ y ∈ l, y.t = k := by
    intro l
    induction l with
    | nil => intro m; simp
    | cons s l ih =>
      intro m
      rw [List.foldl_cons, ih, mem_put16]
      constructor
      · rintro ((q | q) | ⟨y, hy, e⟩)
        · exact .inr ⟨s, by simp, q.symm⟩
        · exact .inl q
        · exact .inr ⟨y, by simp [hy], e⟩
      · rintro (q | ⟨y, hy, e⟩)
        · exact .inl (.inr q)
        · rcases List.mem_cons.1 hy with rfl | hy'
          · exact .inl (.inl e.symm)
          · exact .inr ⟨y, hy', e⟩
  rw [this]
  constructor
  · rintro (q | ⟨y, hy, e⟩)
    · cases q
    · obtain ⟨h1, h2⟩ := List.mem_filter.1 hy
      exact ⟨y, h1, by simpa using h2, e⟩
  · rintro ⟨y, hy, e1, e2⟩
    exact .inr ⟨y, List.mem_filter.2 ⟨hy, by simpa using e1⟩, e2⟩
/-- a request's waiters wait no more -/
theorem InvX.leave {E : Eng} (h : Inv E) (r : Int) : InvX (E.leave r) (quitI E.g r) [] := by
  refine { h with good := good_filt16 h.good _, g1 := fun y hy => h.g1 y (List.mem_filter.1 hy).1, wr := fun s hs k2 hn => ?_ }
  obtain ⟨y, hy, e⟩ := h.wr s hs k2 (by simp)
  refine ⟨y, List.mem_filter.2 ⟨hy, ?_⟩, e⟩
  have : y.w.r ≠ r := fun q => hn (mem_quit16.2 ⟨y, hy, q, e⟩)
  simpa using this

/-! ### a ticket goes out, or comes back -/
theorem wait_memS {qs : List Sl} {x : Int} {v : Bool} {s : Sl} : s ∈ waitS qs x v ↔ ∃ q ∈ qs, s = if q.k = x then { q with s := v } else q := by
  unfold waitS
  rw [List.mem_map]
  exact ⟨fun ⟨q, h, e⟩ => ⟨q, h, e.symm⟩, fun ⟨q, h, e⟩ => ⟨q, h, e.symm⟩⟩
theorem wait_once {qs : List Sl} (h : OnceL qs) (x : Int) (v : Bool) : OnceL (waitS qs x v) := by
  unfold OnceL waitS
  rw [List.pairwise_map]
  refine h.imp ?_
  intro a b q
  have : ∀ s : Sl, (if s.k = x then { s with s := v } else s).k = s.k := fun s => by split <;> rfl
  rw [this, this]
  exact q
theorem wait_row {qs : List Sl} (a : Bool) (x : Int) (v : Bool) : (rowL a (waitS qs x v)).length = (rowL a qs).length := by
  unfold rowL waitS
  rw [List.filter_map, List.length_map]
  congr 1
  apply List.filter_congr
  intro s _
  simp only [Function.comp]
  split <;> rfl
/-- one ticket's Out turns, and what goes with it -/
theorem InvX.flip {E : Eng} {ex rest rest' : List Int} (h : InvX E ex rest) {t : Tk} (ht : t ∈ E.ts) (f : Tk → Tk) (v : Bool) (kf : Keeps f) (k1 : ∀ s, (f s).kind = s.kind) (k2 : ∀ s, (f s).out = v) (k3 : 0 ≤ (f t).tries ∧ (f t).tries < E.o.b7)
    (hh : v = true → E.head t.b = some t) (hM : t.id ∉ E.inM) (h1 : ∀ k ∈ rest', k = t.id ∧ v = true ∨ k ∈ rest ∧ k ≠ t.id) (h2 : ∀ k ∈ rest, k ≠ t.id → k ∈ rest') (h3 : v = true → t.id ∈ rest') (nd : (E.inM ++ rest').Nodup) :
    InvX { (E.upd t.id f) with qs := waitS E.qs t.id (!v) } ex rest' := by
  have id_ := fun s => (keep_if kf t.id s).1
  have bl := fun s => (keep_if kf t.id s).2
  have ki : ∀ s : Tk, (if s.id = t.id then f s else s).kind = s.kind := fun s => by split; exact k1 s; rfl
  have up : ∀ s ∈ E.ts, (if s.id = t.id then f s else s) ∈ upd E.ts t.id f := fun s hs => List.mem_map.2 ⟨s, hs, rfl⟩
  have sl : ∀ s ∈ E.ts, (if s.id = t.id then f s else s).sl = if s.id = t.id then { s.sl with s := !v } else s.sl := fun s hs => by
    by_cases e : s.id = t.id
    · rw [if_pos e, if_pos e]
      unfold Tk.sl
      rw [(kf s).1, k1, k2]
    · rw [if_neg e, if_neg e]
  refine { may := h.may, ids := upd_ids kf h.ids, idr := fun s hs => ?_, blk := fun s hs => ?_, kin := fun s hs => ?_, tri := fun s hs => ?_, once := wait_once h.once _ _, qs1 := fun s hs => ?_, qs2 := fun s hs => ?_, fewd := ?_, fewa := ?_, good := h.good, g1 := fun y hy => ?_, wr := fun s hs => ?_, hd := fun s hs => ?_, tags := h.tags, tagr := h.tagr, mlen := h.mlen, mok := h.mok, mt := fun m hm i q hi => ?_, rt := fun q hq => ?_, nd := nd, all := fun s hs => ?_ }
  · obtain ⟨s, hs2, rfl⟩ := upd_mem hs; have hs := hs2; rw [id_]; exact h.idr s hs
  · obtain ⟨s, hs2, rfl⟩ := upd_mem hs; have hs := hs2; rw [bl]; exact h.blk s hs
  · obtain ⟨s, hs2, rfl⟩ := upd_mem hs; have hs := hs2; rw [ki]; exact h.kin s hs
  · obtain ⟨s, hs2, rfl⟩ := upd_mem hs; have hs := hs2
    by_cases e : s.id = t.id
    · rw [if_pos e, h.inj hs ht e]; exact k3
    · rw [if_neg e]; exact h.tri s hs
  · obtain ⟨q, hq, rfl⟩ := wait_memS.1 hs
    obtain ⟨u, hu, rfl⟩ := h.qs1 q hq
    exact ⟨_, up u hu, (sl u hu).symm⟩
  · obtain ⟨s, hs2, rfl⟩ := upd_mem hs; have hs := hs2
    rw [sl s hs]
    exact wait_memS.2 ⟨s.sl, h.qs2 s hs, rfl⟩
  · show ((rowL false (waitS E.qs t.id (!v))).length : Int) ≤ E.o.b3
    rw [wait_row]; exact h.fewd
  · show ((rowL true (waitS E.qs t.id (!v))).length : Int) ≤ E.o.b4
    rw [wait_row]; exact h.fewa
  · obtain ⟨s, hs, e, k⟩ := h.g1 y hy
    exact ⟨_, up s hs, by rw [id_]; exact e, by rw [ki]; exact k⟩
  · obtain ⟨s, hs2, rfl⟩ := upd_mem hs; have hs := hs2
    rw [id_, ki]
    exact h.wr s hs
  · obtain ⟨s, hs2, rfl⟩ := upd_mem hs; have hs := hs2
    rw [bl, show Eng.head { (E.upd t.id f) with qs := waitS E.qs t.id (!v) } s.b = (E.head s.b).map (fun u => if u.id = t.id then f u else u) from head_upd (E := E) kf s.b]
    intro o
    by_cases e : s.id = t.id
    · have := h.inj hs ht e
      subst this
      rw [if_pos rfl, k2] at o
      rw [hh o]
      rfl
    · rw [if_neg e] at o
      rw [h.hd s hs o]
      rfl
  · obtain ⟨s, hs, a1, a2, a3, a4⟩ := h.mt m hm i q hi
    have ne : s.id ≠ t.id := fun e => hM (by rw [← e, a1]; exact List.mem_flatMap.2 ⟨m, hm, List.mem_of_getElem? hi⟩)
    exact ⟨_, up s hs, by rw [id_]; exact a1, by rw [bl]; exact a2, by rw [if_neg ne]; exact a3, by rw [ki]; exact a4⟩
  · rcases h1 q hq with ⟨e, ev⟩ | ⟨e, ne⟩
    · exact ⟨_, up t ht, by rw [id_]; exact e.symm, by rw [if_pos rfl, k2]; exact ev⟩
    · obtain ⟨s, hs, a1, a2⟩ := h.rt q e
      exact ⟨_, up s hs, by rw [id_]; exact a1, by rw [if_neg (by rw [a1]; exact ne)]; exact a2⟩
  · obtain ⟨s, hs2, rfl⟩ := upd_mem hs; have hs := hs2
    rw [id_]
    intro o
    by_cases e : s.id = t.id
    · rw [if_pos e, k2] at o
      rw [e]
      exact List.mem_append_right _ (h3 o)
    · rw [if_neg e] at o
      rcases List.mem_append.1 (h.all s hs o) with q | q
      · exact List.mem_append_left _ q
      · exact List.mem_append_right _ (h2 _ q e)
theorem InvX.along {E : Eng} {ex rest : List Int} (h : InvX E ex rest) {t : Tk} (ht : E.head t.b = some t) (o : t.out = false) (m : Mv) : InvX (E.along m t).1 ex (rest ++ [t.id]) := by
  have tm := (mem_head ht).1
  have nM := h.notM tm o
  have nm1 : t.id ∉ E.inM := fun q => nM (List.mem_append_left _ q)
  have nm2 : t.id ∉ rest := fun q => nM (List.mem_append_right _ q)
  refine h.flip tm Tk.go true keeps_go (fun _ => rfl) (fun _ => rfl) (h.tri t tm) (fun _ => ht) nm1 (fun k hk => ?_) (fun k hk _ => List.mem_append_left _ hk) (fun _ => List.mem_append_right _ (by simp)) ?_
  · rcases List.mem_append.1 hk with q | q
    · exact .inr ⟨q, fun e => nm2 (by rw [← e]; exact q)⟩
    · exact .inl ⟨List.mem_singleton.1 q, rfl⟩
  · rw [← List.append_assoc, List.nodup_append]
    refine ⟨h.nd, by simp, fun a ha b hb e => ?_⟩
    rw [List.mem_singleton.1 hb] at e
    exact nM (by rw [← e]; exact ha)
theorem InvX.back {E : Eng} {ex r : List Int} {t : Tk} (h : InvX E ex (t.id :: r)) (ht : t ∈ E.ts) (k : t.tries + 1 < E.o.b7) : InvX { (E.upd t.id Tk.back) with qs := waitS E.qs t.id true } ex r := by
  have nd := h.nd
  rw [List.nodup_append] at nd
  obtain ⟨n1, n2, n3⟩ := nd
  obtain ⟨n4, n5⟩ := List.nodup_cons.1 n2
  have := h.tri t ht
  refine h.flip ht Tk.back false keeps_back (fun _ => rfl) (fun _ => rfl) ⟨(by show 0 ≤ t.tries + 1; omega), k⟩ (fun q => by cases q) (fun q => n3 _ q _ (by simp) rfl) (fun k hk => .inr ⟨List.mem_cons_of_mem _ hk, fun e => n4 (by rw [← e]; exact hk)⟩) (fun k hk ne => ?_) (fun q => by cases q) ?_
  · rcases List.mem_cons.1 hk with q | q
    · exact absurd q ne
    · exact q
  · rw [List.nodup_append]
    exact ⟨n1, n5, fun a ha b hb => n3 a ha b (List.mem_cons_of_mem _ hb)⟩
end Go.Proofs.YtfbpjobobdidiaaGreatDoor


/- What holds of every engine: Read, Write, Ahead, Cut, Serve and Finish keep it. -/
namespace Go.Proofs.YtfbpjobobdidiaaGreatDoor
set_option linter.unusedVariables false

theorem refC_ok {E : Eng} {ex rest : List Int} (h : InvX E ex rest) {w : Wt} {need : Bool} (k : E.refC w need = 0) : mayP w ∧ waitsB E.g w = false ∧ (E.g.length : Int) < E.o.b9 ∧ (need = true → E.fd ≠ 0) := by
  unfold Eng.refC at k
  by_cases m : mayP w
  · rw [if_pos m] at k
    by_cases a : waitsB E.g w = true
    · rw [if_pos a] at k; cases k
    · rw [if_neg a] at k
      by_cases b : E.fw = 0 ∨ (need = true ∧ E.fd = 0)
      · rw [if_pos b] at k; cases k
      · have hl := h.good.len
        have hm := h.may
        unfold Opt.MayC at hm
        refine ⟨m, by simpa using a, ?_, fun q e => b (.inr ⟨q, e⟩)⟩
        have : E.fw ≠ 0 := fun q => b (.inl q)
        unfold Eng.fw at this
        omega
  · rw [if_neg m] at k; cases k
theorem InvX.up {E : Eng} {ex ex' rest : List Int} (h : InvX E ex rest) (k : ∀ e ∈ ex, e ∈ ex') : InvX E ex' rest := { h with wr := fun t ht k2 hn => h.wr t ht k2 (fun q => hn (k _ q)) }
theorem readC_ok {E : Eng} {b l : Int} {w : Wt} (k : E.readC b l w = 0) : E.has b = true ∧ (l = 0 ∨ l = 1) ∧ E.refC w (E.needs b) = 0 := by
  unfold Eng.readC at k
  by_cases m : E.has b = true ∧ (l = 0 ∨ l = 1)
  · rw [if_pos m] at k; exact ⟨m.1, m.2, k⟩
  · rw [if_neg m] at k; cases k
theorem writeC_ok {E : Eng} {b : Int} {w : Wt} (k : E.writeC b w = 0) : E.has b = true ∧ E.refC w true = 0 := by
  unfold Eng.writeC at k
  by_cases m : E.has b = true
  · rw [if_pos m] at k; exact ⟨m, k⟩
  · rw [if_neg m] at k; cases k
theorem aheadC_ok {E : Eng} {b : Int} (k : E.aheadC b = 0) : E.has b = true ∧ E.idle b = true ∧ E.fa ≠ 0 := by
  unfold Eng.aheadC at k
  by_cases m : E.has b = true
  · rw [if_pos m] at k
    by_cases a : E.idle b = true
    · rw [if_pos a] at k
      by_cases c : E.fa = 0
      · rw [if_pos c] at k; cases k
      · exact ⟨m, a, c⟩
    · rw [if_neg a] at k; cases k
  · rw [if_neg m] at k; cases k
theorem joins_some {o : Option Tk} (h : joins o = true) : ∃ t, o = some t ∧ t.kind ≠ 2 ∧ t.cut = false := by
  cases o with
  | none => cases h
  | some t => exact ⟨t, rfl, by simpa [joins] using h⟩
theorem rests_some {o : Option Tk} (h : rests o = true) : ∃ t, o = some t ∧ t.kind = 3 ∧ t.out = false := by
  cases o with
  | none => cases h
  | some t => exact ⟨t, rfl, by simpa [rests] using h⟩
theorem cuts_some {o : Option Tk} (h : cuts o = true) : ∃ t, o = some t ∧ t.kind ≠ 2 ∧ t.cut = false ∧ t.fr = true := by
  cases o with
  | none => cases h
  | some t => exact ⟨t, rfl, by simpa [cuts, and_assoc] using h⟩
theorem serves_some {o : Option Tk} (h : serves o = true) : ∃ t, o = some t ∧ t.kind = 1 ∧ t.out = false ∧ t.fr = false := by
  cases o with
  | none => cases h
  | some t => exact ⟨t, rfl, by simpa [serves, and_assoc] using h⟩
theorem Inv.readB {E : Eng} (h : Inv E) {b : Int} (hb : E.has b = true) (hf : E.needs b = true → E.fd ≠ 0) : Inv (E.readB b) ∧ ∃ t ∈ (E.readB b).ts, t.id = E.readT b ∧ t.kind = 1 ∧ t.b = b := by
  unfold Eng.readB Eng.readT
  cases j : joins (E.last b) with
  | true =>
    obtain ⟨t, hl, k2, hc⟩ := joins_some j
    obtain ⟨tm, tb⟩ := mem_last hl
    simp only [hl, Option.getD_some, if_pos]
    by_cases k3 : t.kind = 3
    · rw [if_pos k3]
      have nd : E.needs b = true := by
        unfold Eng.needs
        rw [hb, j, hl]
        simp [isRead, k3]
      refine ⟨h.late tm k3 (hf nd), t.read, mem_upd Tk.read tm, rfl, rfl, tb⟩
    · rw [if_neg k3]
      refine ⟨h, t, tm, rfl, ?_, tb⟩
      rcases h.kin t tm with q | q | q
      · exact q
      · exact absurd q k2
      · exact absurd q k3
  | false =>
    have nd : E.needs b = true := by
      unfold Eng.needs
      rw [hb, j]; rfl
    refine ⟨h.enter (.inl rfl) hb (by rw [if_neg (by decide)]; exact hf nd) (fun q => by cases q), E.new 1 b, List.mem_append_right _ (by simp), rfl, rfl, rfl⟩
theorem Inv.read {E : Eng} (h : Inv E) (b l : Int) (w : Wt) : Inv (E.read b l w) := by
  unfold Eng.read
  by_cases k : E.readC b l w = 0
  · rw [if_pos k]
    obtain ⟨k1, k2, k3⟩ := readC_ok k
    obtain ⟨r1, r2, r3, r4⟩ := refC_ok h k3
    obtain ⟨iv, t, tm, ti, tk, _⟩ := h.readB k1 r4
    have gg : (E.readB b).g = E.g := by
      unfold Eng.readB
      split
      · split <;> rfl
      · rfl
    have oo : (E.readB b).o = E.o := by
      unfold Eng.readB
      split
      · split <;> rfl
      · rfl
    have i2 := iv.soft (soft_list l) (E.readT b)
    have tm2 : (t.list l) ∈ ((E.readB b).upd (E.readT b) (Tk.list l)).ts := by rw [← ti]; exact mem_upd (Tk.list l) tm
    have := i2.add (ex' := []) tm2 (by show t.kind ≠ 3; rw [tk]; decide) r1 (by show waitsB (E.readB b).g w = false; rw [gg]; exact r2) (by show ((E.readB b).g.length : Int) < (E.readB b).o.b9; rw [gg, oo]; exact r3) (fun e he => by cases he)
    rw [show (t.list l).id = E.readT b from ti] at this
    exact this
  · rw [if_neg k]; exact h
theorem Inv.writeB {E : Eng} (h : Inv E) (b : Int) : Inv (E.writeB b) ∧ (E.writeB b).o = E.o ∧ (E.writeB b).g = E.g ∧ (E.writeB b).nt = E.nt ∧ (E.writeB b).ms = E.ms ∧ (E.writeB b).ng = E.ng ∧ (rowL false (E.writeB b).qs).length ≤ (rowL false E.qs).length ∧ (rowL true (E.writeB b).qs).length ≤ (rowL true E.qs).length ∧ ∀ t ∈ (E.writeB b).ts, t ∈ E.ts := by
  unfold Eng.writeB Eng.goneI
  cases j : rests (E.last b) with
  | true =>
    obtain ⟨t, hl, k3, ho⟩ := rests_some j
    obtain ⟨tm, tb⟩ := mem_last hl
    simp only [hl, Option.getD_some, if_pos]
    refine ⟨?_, rfl, rfl, rfl, rfl, rfl, row_sub false (List.filter_sublist (p := fun s : Sl => !(s.k == t.id)) (l := E.qs)), row_sub true (List.filter_sublist (p := fun s : Sl => !(s.k == t.id)) (l := E.qs)), fun s hs => (List.mem_filter.1 hs).1⟩
    rw [end_drop (h.none3 tm k3)]
    exact h.drop_idle tm ho
  | false => exact ⟨h, rfl, rfl, rfl, rfl, rfl, Nat.le_refl _, Nat.le_refl _, fun t ht => ht⟩
theorem Inv.write {E : Eng} (h : Inv E) (b v : Int) (w : Wt) : Inv (E.write b v w) := by
  unfold Eng.write
  by_cases k : E.writeC b w = 0
  · rw [if_pos k]
    obtain ⟨k1, k3⟩ := writeC_ok k
    obtain ⟨r1, r2, r3, r4⟩ := refC_ok h k3
    obtain ⟨iv, e1, e2, e3, e4, e5, e6, e7, e8⟩ := h.writeB b
    generalize E.writeB b = E1 at *
    have f1 : E1.fd ≠ 0 := by
      have := r4 rfl
      have h1 := h.fewd
      unfold Eng.fd at *
      rw [e1]
      omega
    have i2 := (iv.up (ex' := [(E1.nt : Int) + 1]) (fun e he => by cases he)).enter (kind := 2) (b := b) (.inr (.inl rfl)) (by unfold Eng.has at *; rw [e1]; exact k1) (by rw [if_neg (by decide)]; exact f1) (fun _ e he => he)
    have i3 := i2.soft (soft_worth v) ((E1.nt : Int) + 1)
    have tm : (E1.new 2 b).worth v ∈ ((E1.enter 2 b).upd ((E1.nt : Int) + 1) (Tk.worth v)).ts := mem_upd (t := E1.new 2 b) (Tk.worth v) (List.mem_append_right _ (by simp))
    have i4 := i3.add (ex' := []) tm (by show (2 : Int) ≠ 3; decide) r1 (by show waitsB E1.g w = false; rw [e2]; exact r2) (by show (E1.g.length : Int) < E1.o.b9; rw [e1, e2]; exact r3) (fun e he => .inl (List.mem_singleton.1 he))
    rw [← e3]
    exact i4
  · rw [if_neg k]; exact h
theorem Inv.ahead {E : Eng} (h : Inv E) (b : Int) : Inv (E.ahead b) := by
  unfold Eng.ahead
  by_cases k : E.aheadC b = 0
  · rw [if_pos k]
    obtain ⟨k1, k2, k3⟩ := aheadC_ok k
    exact h.enter (.inr (.inr rfl)) k1 (by rw [if_pos rfl]; exact k3) (fun q => by cases q)
  · rw [if_neg k]; exact h
theorem Inv.cutE {E : Eng} (h : Inv E) (b : Int) : Inv (E.cutE b) := by
  unfold Eng.cutE
  cases j : rests (E.head b) with
  | true =>
    obtain ⟨t, hl, k3, ho⟩ := rests_some j
    obtain ⟨tm, tb⟩ := mem_head hl
    simp only [hl, Option.getD_some, if_pos]
    rw [end_drop (h.none3 tm k3)]
    exact h.drop_idle tm ho
  | false =>
    rw [if_neg (by decide)]
    split
    · exact h.soft soft_cut _
    · exact h
theorem Inv.serve {E : Eng} (h : Inv E) (b : Int) : Inv (E.serve b) := by
  unfold Eng.serve
  cases j : serves (E.head b) with
  | true =>
    obtain ⟨t, hl, k1, ho, _⟩ := serves_some j
    obtain ⟨tm, tb⟩ := mem_head hl
    simp only [hl, Option.getD_some, if_pos]
    exact h.drop_idle tm ho
  | false => rw [if_neg (by decide)]; exact h

/-! ### Finish -/
theorem tag_inj {ms : List Mv} (h : ms.Pairwise (fun a b => a.tag < b.tag)) {m : Mv} (hm : m ∈ ms) : at17 ms m.tag = some m ∧ ∃ l r, ms = l ++ m :: r ∧ ms.filter (fun x => !(x.tag == m.tag)) = l ++ r := by
  induction ms with
  | nil => cases hm
  | cons a s ih =>
    obtain ⟨h1, h2⟩ := List.pairwise_cons.1 h
    rcases List.mem_cons.1 hm with rfl | hm'
    · refine ⟨by simp [at17], [], s, rfl, ?_⟩
      rw [List.filter_cons_of_neg (by simp)]
      exact List.filter_eq_self.2 (fun x hx => by have := h1 x hx; simp; omega)
    · obtain ⟨i1, l, r, e1, e2⟩ := ih h2 hm'
      have ne : a.tag ≠ m.tag := by have := h1 m hm'; omega
      refine ⟨?_, a :: l, r, by rw [e1]; rfl, ?_⟩
      · unfold at17 at *
        rw [List.find?_cons_of_neg (by simpa using ne)]
        exact i1
      · rw [List.filter_cons_of_pos (by simpa using ne), e2]
        rfl
theorem at17_some {ms : List Mv} {x : Int} {m : Mv} (h : at17 ms x = some m) : m ∈ ms ∧ m.tag = x := ⟨List.mem_of_find?_eq_some h, by simpa using List.find?_some h⟩
theorem Inv.home {E : Eng} (h : Inv E) {m : Mv} (hm : m ∈ E.ms) : InvX (E.home m.tag) [] m.ks := by
  obtain ⟨_, l, r, e1, e2⟩ := tag_inj h.tags hm
  have em : (E.home m.tag).ms = l ++ r := e2
  have sub : ∀ x ∈ (E.home m.tag).ms, x ∈ E.ms := fun x hx => (List.mem_filter.1 hx).1
  have pm : (E.inM ++ []).Perm ((E.home m.tag).inM ++ m.ks) := by
    unfold Eng.inM
    rw [em, e1, List.append_nil, List.flatMap_append, List.flatMap_cons, List.flatMap_append, List.append_assoc]
    exact List.perm_append_comm.append_left _
  refine { h with tags := h.tags.filter _, tagr := fun x hx => h.tagr x (sub x hx), mlen := ?_, mok := fun x hx => h.mok x (sub x hx), mt := fun x hx => h.mt x (sub x hx), rt := fun k hk => ?_, nd := pm.nodup h.nd, all := fun t ht o => pm.subset (h.all t ht o) }
  · have := h.mlen
    have h2 := List.length_filter_le (fun x : Mv => !(x.tag == m.tag)) E.ms
    show ((E.ms.filter (fun x : Mv => !(x.tag == m.tag))).length : Int) ≤ E.o.b5
    omega
  · obtain ⟨i, hi⟩ := List.getElem?_of_mem hk
    obtain ⟨t, ht, a1, a2, a3, a4⟩ := h.mt m hm i k hi
    exact ⟨t, ht, a1, a3⟩
theorem InvX.come {E : Eng} {x : Int} {r : List Int} (h : InvX E [] (x :: r)) (well : Bool) : InvX (E.come well x) [] r := by
  obtain ⟨t, ht, rfl, ho⟩ := h.rt x (by simp)
  unfold Eng.come
  rw [find16 h.ids ht, Option.getD_some]
  by_cases f : fate16 E t well = 1
  · rw [if_pos f]
    refine h.back ht ?_
    unfold fate16 at f
    cases well with
    | true => cases f
    | false =>
      rw [if_neg (by decide)] at f
      by_cases q : 0 < E.cnt t.id ∧ t.tries + 1 < E.o.b7
      · exact q.2
      · rw [if_neg q] at f; cases f
  · rw [if_neg f]
    exact h.drop_back ht
theorem InvX.comes {well : Bool} : ∀ (r : List Int) {E : Eng}, InvX E [] r → Inv (E.comes well r).1
  | [], E, h => h
  | x :: r, E, h => InvX.comes r (h.come well)
theorem Inv.finish {E : Eng} (h : Inv E) (tag : Int) (well : Bool) : Inv (E.finish tag well) := by
  unfold Eng.finish
  cases q : at17 E.ms tag with
  | none => exact h
  | some m =>
    obtain ⟨hm, rfl⟩ := at17_some q
    exact InvX.comes m.ks (h.home hm)
end Go.Proofs.YtfbpjobobdidiaaGreatDoor


/- What holds of every engine: Quit and Next keep it. -/
namespace Go.Proofs.YtfbpjobobdidiaaGreatDoor
set_option linter.unusedVariables false

/-! ### Quit -/
theorem InvX.quitL : ∀ (l : List Int) {E : Eng}, InvX E l [] → l.Nodup → (∀ y ∈ l, ∃ t ∈ E.ts, t.id = y ∧ (t.kind = 2 → t.out = false)) → Inv (E.quitL l)
  | [], E, h, _, _ => h
  | x :: r, E, h, nd, hk => by
    obtain ⟨t, ht, rfl, ko⟩ := hk x (by simp)
    obtain ⟨n1, n2⟩ := List.nodup_cons.1 nd
    show Inv (Eng.quitL (if gone16 E t.id then E.end_ t.id else E) r)
    have gd : gone16 E t.id = (decide (E.cnt t.id = 0) && !t.out) := by unfold gone16; rw [find16 h.ids ht]; rfl
    cases g : gone16 E t.id with
    | true =>
      rw [if_pos rfl]
      rw [gd] at g
      have g' : E.cnt t.id = 0 ∧ t.out = false := by simpa using g
      have nw : ∀ y ∈ E.g, y.t ≠ t.id := fun y hy e => by
        have : y.w ∈ ofL E.g t.id := List.mem_map.2 ⟨y, List.mem_filter.2 ⟨hy, by simpa using e⟩, rfl⟩
        have h0 := g'.1
        unfold Eng.cnt at h0
        have h1 := List.length_pos_of_mem this
        omega
      rw [end_drop nw]
      refine InvX.quitL r ((h.drop_idle ht g'.2).less (fun s hs k2 hn hx => ?_)) n2 (fun y hy => ?_)
      · have hs' : s.id ≠ t.id := by
          have : s ∈ E.ts.filter (fun u => !(u.id == t.id)) := hs
          simpa using (List.mem_filter.1 this).2
        rcases List.mem_cons.1 hx with q | q
        · exact absurd q hs'
        · exact absurd q hn
      · obtain ⟨s, hs, e, k⟩ := hk y (List.mem_cons_of_mem _ hy)
        refine ⟨s, ?_, e, k⟩
        show s ∈ E.ts.filter (fun u => !(u.id == t.id))
        rw [List.mem_filter]
        refine ⟨hs, ?_⟩
        have : s.id ≠ t.id := fun q => n1 (by rw [← q, e]; exact hy)
        simpa using this
    | false =>
      rw [if_neg (by decide)]
      refine InvX.quitL r (h.less (fun s hs k2 hn hx => ?_)) n2 (fun y hy => hk y (List.mem_cons_of_mem _ hy))
      rcases List.mem_cons.1 hx with q | q
      · have := h.inj hs ht q
        subst this
        have o := ko k2
        rw [gd, o] at g
        have c0 : E.cnt s.id ≠ 0 := by simpa using g
        unfold Eng.cnt at c0
        cases hl : ofL E.g s.id with
        | nil => rw [hl] at c0; exact absurd rfl c0
        | cons a m =>
          have : a ∈ ofL E.g s.id := by rw [hl]; simp
          obtain ⟨y, hy, _⟩ := List.mem_map.1 this
          obtain ⟨y1, y2⟩ := List.mem_filter.1 hy
          exact ⟨y, y1, by simpa using y2⟩
      · exact absurd q hn
theorem quitC_ok {E : Eng} {r : Int} (h : E.quitC r = 0) : ∀ t ∈ E.ts, t.kind = 2 → t.out = true → ∀ w ∈ ofL E.g t.id, w.r ≠ r := by
  intro t ht k o w hw e
  unfold Eng.quitC at h
  have : E.ts.any (fun t => t.kind == 2 && t.out && (ofL E.g t.id).any (fun w => decide (w.r = r))) = true := by
    rw [List.any_eq_true]
    refine ⟨t, ht, ?_⟩
    rw [k, o]
    simp only [beq_self_eq_true, Bool.true_and, Bool.and_self]
    rw [List.any_eq_true]
    exact ⟨w, hw, decide_eq_true e⟩
  rw [if_pos this] at h
  cases h
theorem Inv.quit {E : Eng} (h : Inv E) (r : Int) : Inv (E.quit r) := by
  unfold Eng.quit
  by_cases k : E.quitC r = 0
  · rw [if_pos k]
    refine InvX.quitL _ (h.leave r) ((rise_quit E.g r).imp (fun {a b} q e => by omega)) (fun y hy => ?_)
    obtain ⟨z, hz, e1, e2⟩ := mem_quit16.1 hy
    obtain ⟨t, ht, e, _⟩ := h.g1 z hz
    refine ⟨t, ht, by rw [e, e2], fun k2 => ?_⟩
    cases o : t.out with
    | false => rfl
    | true =>
      have hw : z.w ∈ ofL E.g t.id := List.mem_map.2 ⟨z, List.mem_filter.2 ⟨hz, by simpa using e.symm⟩, rfl⟩
      exact absurd e1 (quitC_ok k t ht k2 o z.w hw)
  · rw [if_neg k]; exact h

/-! ### Next -/
theorem mem_ready {E : Eng} {ex rest : List Int} (h : InvX E ex rest) {kind : Int} {u : Tk} : u ∈ E.ready kind ↔ E.head u.b = some u ∧ u.out = false ∧ u.kind = kind := by
  unfold Eng.ready
  rw [List.mem_filter, List.mem_filterMap]
  constructor
  · rintro ⟨⟨b, hb, e⟩, k⟩
    have := (mem_head e).2
    rw [this]
    refine ⟨e, by simpa using k⟩
  · rintro ⟨e, o, k⟩
    obtain ⟨hm, _⟩ := mem_head e
    have := h.blk u hm
    refine ⟨⟨u.b.toNat, List.mem_range.2 (by omega), ?_⟩, by simp [o, k]⟩
    rw [show ((u.b.toNat : Nat) : Int) = u.b by omega]
    exact e
theorem isHead_iff {E : Eng} {ex rest : List Int} (h : InvX E ex rest) {t : Tk} (ht : t ∈ E.ts) : E.isHead t = true ↔ E.head t.b = some t := by
  unfold Eng.isHead
  cases q : E.head t.b with
  | none => simp
  | some u =>
    have := (mem_head q).1
    simp only [beq_iff_eq, Option.some.injEq]
    exact ⟨fun e => h.inj this ht e, fun e => by rw [e]⟩
/-- a move under way: it has the heads of some blocks one behind the other -/
structure Trip (E : Eng) (m : Mv) (bs : List Int) : Prop where
  iv : InvX E [] m.ks
  rel : ∀ (i : Nat) k, m.ks[i]? = some k → ∃ t ∈ E.ts, t.id = k ∧ t.b = m.lo + i ∧ t.out = true ∧ (t.kind = 2 ↔ m.wr = true)
  nx : ∀ (j : Nat) b, bs[j]? = some b → b = m.lo + (m.ks.length + j : Nat) ∧ ∃ t, E.head b = some t ∧ t.out = false ∧ (t.kind = 2 ↔ m.wr = true)
  vs : m.vs.length = if m.wr then m.ks.length else 0
  fs : m.fs.length ≤ m.ks.length
theorem Trip.step {E : Eng} {m : Mv} {b : Int} {r : List Int} (h : Trip E m (b :: r)) : ∃ t, E.head b = some t ∧ t ∈ E.ts ∧ t.b = b ∧ t.out = false ∧ Trip (E.along m t).1 (E.along m t).2 r := by
  obtain ⟨eb, t, ht, o, k2⟩ := h.nx 0 b rfl
  obtain ⟨tm, tb⟩ := mem_head ht
  refine ⟨t, ht, tm, tb, o, ?_⟩
  have iv := h.iv.along (t := t) (by rw [tb]; exact ht) o m
  have id_ := fun s => (keep_if keeps_go t.id s).1
  have bl := fun s => (keep_if keeps_go t.id s).2
  have ki : ∀ s : Tk, (if s.id = t.id then s.go else s).kind = s.kind := fun s => by split <;> rfl
  have ou : ∀ s : Tk, s.out = true → (if s.id = t.id then s.go else s).out = true := fun s q => by split; rfl; exact q
  have up : ∀ s ∈ E.ts, (if s.id = t.id then s.go else s) ∈ (E.along m t).1.ts := fun s hs => List.mem_map.2 ⟨s, hs, rfl⟩
  refine ⟨iv, fun i k hi => ?_, fun j b' hj => ?_, ?_, ?_⟩
  · have hi : (m.ks ++ [t.id])[i]? = some k := hi
    show ∃ s ∈ (E.along m t).1.ts, s.id = k ∧ s.b = m.lo + i ∧ s.out = true ∧ (s.kind = 2 ↔ m.wr = true)
    rcases Nat.lt_or_ge i m.ks.length with q | q
    · rw [List.getElem?_append_left q] at hi
      obtain ⟨s, hs, a1, a2, a3, a4⟩ := h.rel i k hi
      exact ⟨_, up s hs, by rw [id_]; exact a1, by rw [bl]; exact a2, ou s a3, by rw [ki]; exact a4⟩
    · rw [List.getElem?_append_right q] at hi
      have : i = m.ks.length := by
        rcases Nat.lt_or_ge m.ks.length i with z | z
        · rw [List.getElem?_eq_none (by simp; omega)] at hi; cases hi
        · omega
      subst this
      simp at hi
      subst hi
      exact ⟨_, up t tm, id_ t, by rw [bl, tb]; exact eb, by rw [if_pos rfl]; rfl, by rw [ki]; exact k2⟩
  · obtain ⟨e1, s, hs, so, sk⟩ := h.nx (j + 1) b' hj
    refine ⟨?_, s, ?_, so, sk⟩
    · show b' = m.lo + ((m.ks ++ [t.id]).length + j : Nat)
      rw [e1, List.length_append, List.length_singleton]
      congr 2
      omega
    · show ((E.along m t).1).head b' = some s
      rw [show ((E.along m t).1).head b' = (E.head b').map (fun u => if u.id = t.id then u.go else u) from head_upd (E := E) keeps_go b', hs]
      have : s.id ≠ t.id := fun e => by
        have e3 := h.iv.inj (mem_head hs).1 tm e
        subst e3
        rw [so] at o
        have e4 := (mem_head hs).2
        rw [tb] at e4
        rw [e1, eb] at e4
        simp at e4
        omega
      simp [this]
  · show (if m.wr then m.vs ++ [t.v] else m.vs).length = if m.wr then (m.ks ++ [t.id]).length else 0
    have := h.vs
    cases w : m.wr with
    | true => rw [w] at this; simp at this ⊢; exact this
    | false => rw [w] at this; simp at this ⊢; exact this
  · show (if t.needs then m.fs ++ [t.b] else m.fs).length ≤ (m.ks ++ [t.id]).length
    have := h.fs
    split <;> simp <;> omega
theorem alongs_cons (E : Eng) (m : Mv) (b : Int) (r : List Int) {t : Tk} (h : E.head b = some t) : Eng.alongs E m (b :: r) = Eng.alongs (E.along m t).1 (E.along m t).2 r := by
  show Eng.alongs (E.along m ((E.head b).getD default)).1 (E.along m ((E.head b).getD default)).2 r = _
  rw [h]; rfl
theorem Trip.all {bs : List Int} : ∀ {E : Eng} {m : Mv}, Trip E m bs → Trip (Eng.alongs E m bs).1 (Eng.alongs E m bs).2 [] ∧ (Eng.alongs E m bs).2.ks.length = m.ks.length + bs.length ∧ (Eng.alongs E m bs).2.tag = m.tag ∧ (Eng.alongs E m bs).2.wr = m.wr ∧ (Eng.alongs E m bs).2.lo = m.lo ∧ (Eng.alongs E m bs).2.n = m.n ∧
    (Eng.alongs E m bs).1.o = E.o ∧ (Eng.alongs E m bs).1.ms = E.ms ∧ (Eng.alongs E m bs).1.ng = E.ng ∧ (Eng.alongs E m bs).1.nt = E.nt ∧ (Eng.alongs E m bs).1.g = E.g := by
  induction bs with
  | nil => intro E m h; exact ⟨h, by simp [Eng.alongs], rfl, rfl, rfl, rfl, rfl, rfl, rfl, rfl, rfl⟩
  | cons b r ih =>
    intro E m h
    obtain ⟨t, ht, tm, tb, o, h2⟩ := h.step
    rw [alongs_cons E m b r ht]
    obtain ⟨a0, a1, a2, a3, a4, a5, a6, a7, a8, a9, a10⟩ := ih h2
    refine ⟨a0, ?_, a2, a3, a4, a5, a6, a7, a8, a9, a10⟩
    rw [a1]
    show (m.ks ++ [t.id]).length + r.length = _
    simp
    omega
theorem InvX.around {E : Eng} (h : Inv E) {t : Tk} (ht : E.head t.b = some t) (o : t.out = false) {room : Int} (r0 : 0 ≤ room) (hr : 0 < room ∨ t.needs = false) :
    aroundC ((E.ready t.kind).map (·.b)) (((E.ready t.kind).filter (·.needs)).map (·.b)) t.b E.o.b6 room = 0 := by
  have hm := h.may
  unfold Opt.MayC at hm
  have tm := (mem_head ht).1
  have bb := h.blk t tm
  have hin : t ∈ E.ready t.kind := (mem_ready h).2 ⟨ht, o, rfl⟩
  have hB : hasB ((E.ready t.kind).map (·.b)) t.b = true := by
    rw [hasB_in bb.1 (by omega)]
    exact decide_eq_true (List.mem_map.2 ⟨t, hin, rfl⟩)
  unfold aroundC
  rw [if_neg (by
    unfold argB mayMost
    rintro (q | q | q)
    · omega
    · omega
    · rw [hB] at q; cases q), if_neg]
  intro q
  rcases costB_cases (hasB (((E.ready t.kind).filter (·.needs)).map (·.b))) t.b with ⟨k1, k2⟩ | ⟨k1, k2⟩
  · rcases hr with hr | hr
    · omega
    · obtain ⟨_, _, hin2⟩ := hasB_yes k1
      obtain ⟨u, hu, e⟩ := List.mem_map.1 hin2
      obtain ⟨u1, u2⟩ := List.mem_filter.1 hu
      have := ((mem_ready h).1 u1).1
      rw [e, ht] at this
      injection this with this
      subst this
      rw [hr] at u2
      cases u2
  · omega
theorem run_ok {E : Eng} (h : Inv E) {t : Tk} (ht : E.head t.b = some t) (o : t.out = false) {room : Int} (r0 : 0 ≤ room) (hr : 0 < room ∨ t.needs = false) :
    (E.run t room).Ok ∧ 1 ≤ (E.run t room).c ∧ (E.run t room).c ≤ E.o.b6 ∧ 0 ≤ (E.run t room).f ∧ (E.run t room).f + (E.run t room).c ≤ E.o.b0 ∧ (E.run t room).f ≤ t.b ∧ t.b < (E.run t room).f + (E.run t room).c ∧ Trip E (E.move0 t room) (blocksOf (E.run t room)) := by
  have ac := h.around ht o r0 hr
  obtain ⟨s1, s2, s3, s4, s5, s6⟩ := around_spec ac
  have ok := s1
  have hh : ∀ x, (E.run t room).f ≤ x → x < (E.run t room).f + (E.run t room).c → ∃ u, E.head x = some u ∧ u.out = false ∧ u.kind = t.kind := fun x q1 q2 => by
    obtain ⟨u, hu, rfl⟩ := List.mem_map.1 (s5 x q1 q2)
    obtain ⟨a, b, c⟩ := (mem_ready h).1 hu
    exact ⟨u, a, b, c⟩
  obtain ⟨ok1, ok2, ok3, ok4⟩ := s1
  change 0 ≤ (E.run t room).f at ok1
  change 1 ≤ (E.run t room).c at ok2
  change (E.run t room).c ≤ E.o.b6 at s3
  obtain ⟨_, t1, t2⟩ := s2
  change (E.run t room).f ≤ t.b at t1
  change t.b - (E.run t room).f < (E.run t room).c at t2
  have hend : (E.run t room).f + (E.run t room).c ≤ E.o.b0 := by
    obtain ⟨u, hu, _⟩ := hh ((E.run t room).f + (E.run t room).c - 1) (by omega) (by omega)
    obtain ⟨um, ub⟩ := mem_head hu
    have := h.blk u um
    omega
  refine ⟨ok, ok2, s3, ok1, hend, t1, by omega, ⟨h, fun i k hi => by simp [Eng.move0] at hi, fun j b hj => ?_, ?_, Nat.le_refl _⟩⟩
  · unfold blocksOf at hj
    rw [if_pos (show (E.run t room).Ok from ok), List.getElem?_map] at hj
    obtain ⟨i, hi, rfl⟩ := Option.map_eq_some_iff.1 hj
    have hi2 := List.getElem?_eq_some_iff.1 hi
    obtain ⟨hl, e⟩ := hi2
    rw [List.length_range] at hl
    rw [List.getElem_range] at e
    subst e
    refine ⟨by show _ = (E.run t room).f + ((0 + j : Nat) : Int); rw [Nat.zero_add], ?_⟩
    obtain ⟨u, hu, uo, uk⟩ := hh ((E.run t room).f + (j : Int)) (by omega) (by omega)
    refine ⟨u, hu, uo, ?_⟩
    show u.kind = 2 ↔ (t.kind == 2) = true
    rw [uk]
    simp
  · show (0 : Nat) = if (t.kind == 2) = true then 0 else 0
    split <;> rfl
theorem Inv.begin {E : Eng} (h : Inv E) {t : Tk} (ht : E.head t.b = some t) (o : t.out = false) {room : Int} (r0 : 0 ≤ room) (hr : 0 < room ∨ t.needs = false) (hl : (E.ms.length : Int) < E.o.b5) : Inv (E.begin_ t room) := by
  obtain ⟨ok, c1, c2, c3, c4, _, _, tr⟩ := run_ok h ht o r0 hr
  obtain ⟨T, a1, a2, a3, a4, a5, a6, a7, a8, a9, a10⟩ := tr.all
  have bl := blocks_len ok
  unfold Eng.begin_ Eng.begun
  generalize Eng.alongs E (E.move0 t room) (blocksOf (E.run t room)) = q at *
  obtain ⟨E2, m⟩ := q
  dsimp only at *
  have kl : (m.ks.length : Int) = m.n := by
    rw [a1, a5, bl]
    show ((0 + (E.run t room).c.toNat : Nat) : Int) = (E.run t room).c
    omega
  have iv := T.iv
  have mt : m.tag = (E.ng : Int) + 1 := a2
  rw [← a7]
  refine { iv with tags := ?_, tagr := fun x hx => ?_, mlen := ?_, mok := fun x hx => ?_, mt := fun x hx => ?_, rt := fun k hk => (by cases hk), nd := ?_, all := fun s hs so => ?_ }
  · show (E2.ms ++ [m]).Pairwise _
    rw [List.pairwise_append]
    refine ⟨iv.tags, List.pairwise_singleton _ _, fun x hx y hy => ?_⟩
    rw [List.mem_singleton.1 hy, mt]
    have := iv.tagr x hx
    rw [a8] at this
    omega
  · show 1 ≤ x.tag ∧ x.tag ≤ ((E.ng + 1 : Nat) : Int)
    rcases List.mem_append.1 hx with q | q
    · have := iv.tagr x q
      rw [a8] at this
      omega
    · rw [List.mem_singleton.1 q, mt]; omega
  · show ((E2.ms ++ [m]).length : Int) ≤ E2.o.b5
    rw [List.length_append, List.length_singleton, a6, a7]
    omega
  · rcases List.mem_append.1 hx with q | q
    · exact iv.mok x q
    · rw [List.mem_singleton.1 q]
      show 1 ≤ m.n ∧ m.n ≤ E2.o.b6 ∧ 0 ≤ m.lo ∧ m.lo + m.n ≤ E2.o.b0 ∧ _
      refine ⟨by rw [a5]; exact c1, by rw [a5, a6]; exact c2, by rw [a4]; exact c3, by rw [a4, a5, a6]; exact c4, kl, ?_, T.fs⟩
      rw [T.vs]
      split
      · exact kl
      · rfl
  · rcases List.mem_append.1 hx with q | q
    · exact iv.mt x q
    · rw [List.mem_singleton.1 q]
      exact T.rel
  · show (List.flatMap Mv.ks (E2.ms ++ [m]) ++ []).Nodup
    rw [List.append_nil, List.flatMap_append]
    have := iv.nd
    simpa [Eng.inM] using this
  · show s.id ∈ List.flatMap Mv.ks (E2.ms ++ [m]) ++ []
    rw [List.append_nil, List.flatMap_append]
    have := iv.all s hs so
    simpa [Eng.inM] using this
theorem InvX.nextL {room : Int} (r0 : 0 ≤ room) : ∀ (l : List Int) (ds : List Int) {E : Eng}, Inv E → (E.ms.length : Int) < E.o.b5 → l.Nodup → (∀ x ∈ l, ∃ t ∈ E.ts, t.id = x ∧ t.out = false) → Inv (E.nextL room ds l).1
  | [], ds, E, h, _, _, _ => h
  | x :: r, ds, E, h, hl, nd, hx => by
    obtain ⟨t, ht, rfl, o⟩ := hx x (by simp)
    obtain ⟨n1, n2⟩ := List.nodup_cons.1 nd
    have hx2 : ∀ y ∈ r, ∃ s ∈ E.ts, s.id = y ∧ s.out = false := fun y hy => hx y (List.mem_cons_of_mem _ hy)
    unfold Eng.nextL
    rw [find16 h.ids ht, Option.getD_some]
    dsimp only
    cases q : E.isHead t with
    | false => rw [if_neg (by decide)]; exact InvX.nextL r0 r ds h hl n2 hx2
    | true =>
      rw [if_pos rfl]
      have hh := (isHead_iff h ht).1 q
      by_cases k : 0 < room ∨ t.needs = false
      · rw [if_pos k]
        exact h.begin hh o r0 k hl
      · rw [if_neg k]
        by_cases k3 : t.kind = 3
        · rw [if_pos k3, end_drop (h.none3 ht k3)]
          refine InvX.nextL r0 r _ (h.drop_idle ht o) hl n2 (fun y hy => ?_)
          obtain ⟨s, hs, e, so⟩ := hx2 y hy
          refine ⟨s, ?_, e, so⟩
          show s ∈ E.ts.filter (fun u => !(u.id == t.id))
          rw [List.mem_filter]
          refine ⟨hs, ?_⟩
          have : s.id ≠ t.id := fun z => n1 (by rw [← z, e]; exact hy)
          simpa using this
        · rw [if_neg k3]
          exact InvX.nextL r0 r ds h hl n2 hx2
theorem Inv.waits {E : Eng} {ex rest : List Int} (h : InvX E ex rest) : (waitL E.qs).Nodup ∧ ∀ x ∈ waitL E.qs, ∃ t ∈ E.ts, t.id = x ∧ t.out = false := by
  constructor
  · unfold waitL rowL List.Nodup
    rw [List.pairwise_map]
    refine List.Pairwise.filter _ ?_
    rw [List.pairwise_append]
    refine ⟨h.once.filter _, h.once.filter _, fun a ha b hb e => ?_⟩
    obtain ⟨a1, a2⟩ := List.mem_filter.1 ha
    obtain ⟨b1, b2⟩ := List.mem_filter.1 hb
    have := h.once.inj a1 b1 e
    subst this
    simp at a2 b2
    rw [a2] at b2; cases b2
  · intro x hx
    unfold waitL at hx
    obtain ⟨s, hs, rfl⟩ := List.mem_map.1 hx
    obtain ⟨h1, h2⟩ := List.mem_filter.1 hs
    have : s ∈ E.qs := by
      rcases List.mem_append.1 h1 with q | q
      · exact (List.mem_filter.1 q).1
      · exact (List.mem_filter.1 q).1
    obtain ⟨t, ht, rfl⟩ := h.qs1 s this
    exact ⟨t, ht, rfl, by simpa [Tk.sl] using h2⟩
theorem Inv.next {E : Eng} (h : Inv E) (room : Int) : Inv (E.next room).1 := by
  unfold Eng.next
  by_cases k : E.o.b5 ≤ (E.ms.length : Int)
  · rw [if_pos k]; exact h
  · rw [if_neg k]
    exact InvX.nextL (by omega) _ _ h (by omega) (Inv.waits h).1 (Inv.waits h).2
end Go.Proofs.YtfbpjobobdidiaaGreatDoor

