/- Package fetch: a move is none of an engine's any more; outcomes in memory. -/
import Derived.Test.YtfbpjobobdidiaaGreatDoorOu16
import Derived.Test.YtfbpjobobdidiaaGreatDoorGrpL
import Derived.Test.YtfbpjobobdidiaaGreatDoorGrpA
namespace Go.Proofs.YtfbpjobobdidiaaGreatDoor
open Go.RowKit Go.Maps
set_option linter.unusedVariables false
set_option maxRecDepth 100000
section
variable {w w' : World} {p : Nat} {c : Nat → Nat} {X : Loc} {F H : Nat} {o : Opt} {nt ng : Nat} {ss : List Sd} {qs : List Sl} {g : List Sx} {te : List Ent} {ks : List Tk} {me : List Ent} {ms : List Mv} {E : Eng}
/-- a move is let go: its tickets' row is nobody's now -/
theorem EO.home (h : EO w p c X F H o nt ng ss qs g te ks me ms) {m : Mv} (hm : m ∈ ms) :
    ∃ c', EO w p c' X F H o nt ng ss qs g te ks me (ms.filter (fun s => !(s.tag == m.tag))) ∧ (∀ g, (X.B m.tag).1.ownBlock = some g → c' g = 0) ∧ ∀ g, c' g ≠ 0 → c g ≠ 0 := by
  classical
  have c8 : ∀ g, (X.B m.tag).1.ownBlock = some g → c g = 8 := fun g hg => (h.mv m hm).ck g hg
  have rc : ∀ j, j ≠ 8 → j ≠ 0 → ∀ g, (if (X.B m.tag).1.ownBlock = some g then 0 else c g) = j ↔ c g = j := fun j hj j0 g => by
    by_cases q : (X.B m.tag).1.ownBlock = some g
    · rw [if_pos q, c8 g q]; exact ⟨fun e => absurd e.symm j0, fun e => absurd e.symm hj⟩
    · rw [if_neg q]
  refine ⟨fun g => if (X.B m.tag).1.ownBlock = some g then 0 else c g,
    { row := h.row, cp := (rc 1 (by decide) (by decide) p).2 h.cp, ln := ?_, tn := h.tn, ct := ⟨(rc 3 (by decide) (by decide) _).2 h.ct.1, (rc 3 (by decide) (by decide) _).2 h.ct.2⟩, wg := ?_, tm := h.tm, cb := (rc 5 (by decide) (by decide) _).2 h.cb,
      tk := fun t ht => ⟨(h.tk t ht).1, (rc 6 (by decide) (by decide) _).2 (h.tk t ht).2⟩, inj := h.inj, mm := h.mm, cm := (rc 7 (by decide) (by decide) _).2 h.cm, mv := fun s hs => ?_, ma := fun s hs u hu => h.ma s (List.mem_filter.1 hs).1 u (List.mem_filter.1 hu).1, lt := fun g hg => ?_ }, fun g hg => if_pos hg, fun g hg => ?_⟩
  · have e : (fun g => (if (X.B m.tag).1.ownBlock = some g then 0 else c g) = 2) = fun g => c g = 2 := by funext g; exact propext (rc 2 (by decide) (by decide) g)
    rw [e]; exact h.ln
  · have e : (fun g => (if (X.B m.tag).1.ownBlock = some g then 0 else c g) = 4) = fun g => c g = 4 := by funext g; exact propext (rc 4 (by decide) (by decide) g)
    rw [e]; exact h.wg
  · obtain ⟨hs1, hs2⟩ := List.mem_filter.1 hs
    have ne : m.tag ≠ s.tag := fun e => by simp [e] at hs2
    have q := h.mv s hs1
    have ap := h.ma m hm s hs1 ne
    exact ⟨q.ks, q.vs, q.fs,
      fun g hg => by show (if _ then _ else _) = 8; rw [if_neg (fun z => (ap g z).1 hg)]; exact q.ck g hg,
      fun g hg => by show (if _ then _ else _) = 8; rw [if_neg (fun z => (ap g z).2.1 hg)]; exact q.cv g hg,
      fun g hg => by show (if _ then _ else _) = 8; rw [if_neg (fun z => (ap g z).2.2 hg)]; exact q.cf g hg⟩
  · refine h.lt g (fun z => hg ?_)
    split
    · rfl
    · exact z
  · intro z
    refine hg ?_
    dsimp only
    split
    · rfl
    · exact z
theorem cut_mv (B : Int → Value × Value × Value) (ms : List Mv) (x : Int) : cutV (ms.map (mvEnt B)) x = (ms.filter (fun s => !(s.tag == x))).map (mvEnt B) := by
  unfold cutV
  rw [List.filter_map]
  rfl
theorem EP.home (h : EP w p c X F H ks E) {m : Mv} (hm : m ∈ E.ms) (hg : Mg w' X.bm (cutV (E.ms.map (mvEnt X.B)) m.tag)) (on : Only (fun k => k = X.bm) w w') :
    ∃ c', EP w' p c' X F H ks (E.home m.tag) ∧ OwnsInts w' 0 (X.B m.tag).1 m.ks ∧ (∀ g, (X.B m.tag).1.ownBlock = some g → c' g = 0) ∧ ∀ g, c' g ≠ 0 → c g ≠ 0 := by
  have e0 := h.eo.mmap hg on
  obtain ⟨c', h1, h2, h3⟩ := e0.home hm
  rw [cut_mv] at h1
  exact ⟨c', { eo := h1, sub := h.sub, may := h.may, idr := h.idr, tag := fun s hs => h.tag s (List.mem_filter.1 hs).1, few := h.few, mfew := Nat.le_trans (List.length_filter_le _ _) h.mfew, ntH := h.ntH, ngH := h.ngH, hF := h.hF, hH := h.hH }, (e0.mv m hm).ks, h2, h3⟩
theorem at17_mv (B : Int → Value × Value × Value) (z : Value) (ms : List Mv) (x : Int) : atV z (ms.map (mvEnt B)) x = match at17 ms x with | some m => m.val (B m.tag) | none => z := by
  unfold atV at17
  rw [List.find?_map]
  rw [show ((fun p : Ent => p.1 == x) ∘ mvEnt B) = (fun m : Mv => m.tag == x) from rfl]
  cases ms.find? (fun m => m.tag == x) <;> rfl
theorem has_mv (B : Int → Value × Value × Value) (ms : List Mv) (x : Int) : hasV (ms.map (mvEnt B)) x = (at17 ms x).isSome := by
  unfold hasV at17
  rw [Bool.eq_iff_iff, List.find?_isSome, List.any_map, List.any_eq_true]
  exact ⟨fun ⟨m, h1, h2⟩ => ⟨m, h1, h2⟩, fun ⟨m, h1, h2⟩ => ⟨m, h1, h2⟩⟩
end
/-! ### outcomes -/
def ocC (q : Oc × Value) : List Value := [.int .i64 q.1.t.id, .int .i64 q.1.t.kind, .int .i64 q.1.t.b, .int .i64 q.1.t.l, .int .i64 q.1.t.tries, .int .i64 q.1.n, .bool q.1.t.out, .bool q.1.t.fr, .bool q.1.t.cut, .int .i64 q.1.f, .int .u64 q.1.t.v, q.2]
theorem ocC12 (q : Oc × Value) : (ocC q).length = 12 := rfl
theorem ocC_one (q : Oc × Value) (h : q.2.oneCell' = true) : ∀ u ∈ ocC q, u.oneCell' = true := by
  intro u hu
  simp only [ocC, List.mem_cons, List.not_mem_nil, or_false] at hu
  rcases hu with rfl | rfl | rfl | rfl | rfl | rfl | rfl | rfl | rfl | rfl | rfl | rfl <;> first | rfl | exact h
theorem info_oc12 : (Tryz.prog.info? 73).map (fun i => (i.zero, i.size, i.bytes)) = some (some (.agg #[.int .i64 0, .int .i64 0, .int .i64 0, .int .i64 0, .int .i64 0, .int .i64 0, .bool false, .bool false, .bool false, .int .i64 0, .int .u64 0, .slice none 0 0]), 12, 96) := by kernel_rfl
abbrev OwnsOc (w : World) (base : Nat) (v : Value) (xs : List (Oc × Value)) : Prop := Owns w base 73 12 ocC v xs
/-- a row of outcomes, and who is told of each, all at base or behind; it is none of the engine's -/
structure OcAt (w : World) (base : Nat) (c : Nat → Nat) (v : Value) (xs : List (Oc × Value)) : Prop where
  own : OwnsOc w base v xs
  cv : ∀ g, v.ownBlock = some g → c g = 0
  rd : ∀ q ∈ xs, RdW w base q.2 q.1.ws
  cq : ∀ q ∈ xs, ∀ g, q.2.ownBlock = some g → c g = 0 ∧ v.ownBlock ≠ some g
theorem OcAt.start (w : World) (base : Nat) (c : Nat → Nat) : OcAt w base c (.slice none 0 0) [] := ⟨Owns.start _ _ _ _ _, fun g hg => (by cases hg), fun q hq => (by cases hq), fun q hq => (by cases hq)⟩
theorem OcAt.still {w w' : World} {base : Nat} {c : Nat → Nat} {v : Value} {xs : List (Oc × Value)} (h : OcAt w base c v xs) (o : Only none_ w w') : OcAt w' base c v xs := ⟨h.own.still o, h.cv, fun q hq => (h.rd q hq).still o, h.cq⟩
/-- the engine turns -/
theorem OcAt.call {w w' : World} {base : Nat} {c c' : Nat → Nat} {v : Value} {xs : List (Oc × Value)} (h : OcAt w base c v xs) (gw : Gw w c c') (o : Only (fun g => c g ≠ 0) w w') : OcAt w' base c' v xs where
  own := h.own.keep o (fun g hg z => z (h.cv g hg))
  cv := fun g hg => gw.zero (h.cv g hg) (h.own.base_le hg).2
  rd := fun q hq => (h.rd q hq).keep o (fun g hg z => z ((h.cq q hq g hg).1))
  cq := fun q hq g hg => ⟨gw.zero ((h.cq q hq g hg).1) ((h.rd q hq).late g hg).2, (h.cq q hq g hg).2⟩
/-- one outcome more -/
theorem OcAt.push {w w' : World} {base : Nat} {c : Nat → Nat} {v v' : Value} {xs : List (Oc × Value)} (h : OcAt w base c v xs) (z : ∀ g, w.heap.size ≤ g → c g = 0) {q : Oc × Value} (own : OwnsOc w' base v' (xs ++ [q])) (og : Only (fun j => some j = v.ownBlock) w w') (hv : v'.ownBlock = v.ownBlock ∨ v'.ownBlock = some w.heap.size) (rd : RdW w base q.2 q.1.ws) (cq : ∀ g, q.2.ownBlock = some g → c g = 0 ∧ v.ownBlock ≠ some g) : OcAt w' base c v' (xs ++ [q]) := by
  have all : ∀ r ∈ xs ++ [q], RdW w base r.2 r.1.ws ∧ ∀ g, r.2.ownBlock = some g → c g = 0 ∧ v.ownBlock ≠ some g := fun r hr => by
    rcases List.mem_append.1 hr with k | k
    · exact ⟨h.rd r k, h.cq r k⟩
    · rw [List.mem_singleton.1 k]; exact ⟨rd, cq⟩
  refine ⟨own, fun g hg => ?_, fun r hr => (all r hr).1.keep og (fun g hg k => ((all r hr).2 g hg).2 k.symm), fun r hr g hg => ⟨((all r hr).2 g hg).1, fun k => ?_⟩⟩
  · rcases hv with e | e
    · exact h.cv g (by rw [← e]; exact hg)
    · rw [hg] at e; injection e with e; exact z g (by omega)
  · rcases hv with e | e
    · exact ((all r hr).2 g hg).2 (by rw [← e]; exact k)
    · rw [k] at e; injection e with e
      have := ((all r hr).1.late g hg).2
      omega
end Go.Proofs.YtfbpjobobdidiaaGreatDoor
