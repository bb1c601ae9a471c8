/- Both registers side by side: the code's own, the document's own. -/
import Derived.Test.YtgngaimbpnlkjaaLw14
import Derived.Test.YtgngaimbpnlkjaaRgAdd2
import Derived.Test.YtgngaimbpnlkjaaRgQuit
import Derived.Test.YtgngaimbpnlkjaaActs14
namespace Go.Proofs.Ytgngaimbpnlkjaa
open Go.RowKit
set_option linter.unusedVariables false

theorem RdW.keep {w w' : World} {base : Nat} {v : Value} {xs : List Wt} (h : RdW w base v xs) {S : Nat → Prop} (o : Only S w w') (hn : ∀ g, v.ownBlock = some g → ¬ S g) : RdW w' base v xs := by
  obtain ⟨⟨a, cap, rfl, rd⟩, lt⟩ := h
  refine ⟨⟨a, cap, rfl, fun i x hx => ?_⟩, fun g hg => ⟨(lt g hg).1, Nat.lt_of_lt_of_le (lt g hg).2 o.size⟩⟩
  obtain ⟨g, o1, e, c1, c2⟩ := rd i x hx
  have : ¬ S g := hn g (by rw [e]; rfl)
  exact ⟨g, o1, e, o.cell c1 this, o.cell c2 this⟩
structure Duo (w0 w : World) (p : Nat) (M : Nat → Prop) (q : Nat) (v : Value) (N : Nat → Prop) (room L : Nat) (ss ts : List Sx) : Prop where
  lw : LW w0 w p M room L ss
  rg : RG w q v N room ts
  new : ∀ g, N g → w0.heap.size ≤ g
  apart : ∀ g, M g → ¬ N g
theorem Duo.still {w0 w w' : World} {p : Nat} {M : Nat → Prop} {q : Nat} {v : Value} {N : Nat → Prop} {room L : Nat} {ss ts : List Sx} (h : Duo w0 w p M q v N room L ss ts) (o : Only none_ w w') : Duo w0 w' p M q v N room L ss ts := ⟨h.lw.still o, h.rg.still o, h.new, h.apart⟩
theorem Duo.up {w0 w : World} {p : Nat} {M : Nat → Prop} {q : Nat} {v : Value} {N : Nat → Prop} {room L : Nat} {ss ts : List Sx} (h : Duo w0 w p M q v N room L ss ts) {L' : Nat} (k : L ≤ L') : Duo w0 w p M q v N room L' ss ts := ⟨h.lw.up k, h.rg, h.new, h.apart⟩
/-- the code's own turns -/
theorem Duo.code {w0 w w' : World} {p : Nat} {M : Nat → Prop} {q : Nat} {v : Value} {N : Nat → Prop} {room L L' : Nat} {ss ts fs : List Sx} (h : Duo w0 w p M q v N room L ss ts) (k : WGto w p M room L' fs w') :
    ∃ M' : Nat → Prop, Duo w0 w' p M' q v N room L' fs ts ∧ (∀ g, M' g → M g ∨ w.heap.size ≤ g) ∧ Only M w w' := by
  obtain ⟨M', hm, hM, o⟩ := h.lw.call k
  refine ⟨M', ⟨hm, h.rg.keep o (fun g hg hm => h.apart g hm hg), h.new, fun g hg hn => ?_⟩, hM, o⟩
  rcases hM g hg with z | z
  · exact h.apart g z hn
  · have := h.rg.lt g hn; omega
/-- the document's own turns -/
theorem Duo.doc {w0 w w' : World} {p : Nat} {M : Nat → Prop} {q : Nat} {v : Value} {N : Nat → Prop} {room L : Nat} {ss ts fs : List Sx} (h : Duo w0 w p M q v N room L ss ts) (k : RGto w q N room fs w') :
    ∃ v' N', Duo w0 w' p M q v' N' room L ss fs ∧ (∀ g, N' g → N g ∨ w.heap.size ≤ g) ∧ Only N w w' := by
  obtain ⟨⟨v', N', hm, hN⟩, o⟩ := k
  refine ⟨v', N', ⟨⟨h.lw.wg.keep o (fun g hg hn => h.apart g hg hn), h.lw.new, h.lw.only.trans o (fun i hi s => absurd (h.new i s) (Nat.not_le.2 hi))⟩, hm, fun g hg => ?_, fun g hg hn => ?_⟩, hN, o⟩
  · rcases hN g hg with z | z
    · exact h.new g z
    · exact Nat.le_trans h.lw.only.size z
  · rcases hN g hn with z | z
    · exact h.apart g hg z
    · have := h.lw.wg.lt g hg; omega
/-- .. and a block that is neither's -/
structure DR (w0 w : World) (p : Nat) (M : Nat → Prop) (q : Nat) (v : Value) (N : Nat → Prop) (room L : Nat) (ss ts : List Sx) (b : Nat) (cs : Array Value) : Prop where
  duo : Duo w0 w p M q v N room L ss ts
  row : Row w b 33 cs
  nm : ¬ M b
  nn : ¬ N b
theorem DR.still {w0 w w' : World} {p : Nat} {M : Nat → Prop} {q : Nat} {v : Value} {N : Nat → Prop} {room L : Nat} {ss ts : List Sx} {b : Nat} {cs : Array Value} (h : DR w0 w p M q v N room L ss ts b cs) (o : Only none_ w w') : DR w0 w' p M q v N room L ss ts b cs := ⟨h.duo.still o, o.still h.row, h.nm, h.nn⟩
theorem DR.up {w0 w : World} {p : Nat} {M : Nat → Prop} {q : Nat} {v : Value} {N : Nat → Prop} {room L : Nat} {ss ts : List Sx} {b : Nat} {cs : Array Value} (h : DR w0 w p M q v N room L ss ts b cs) {L' : Nat} (k : L ≤ L') : DR w0 w p M q v N room L' ss ts b cs := ⟨h.duo.up k, h.row, h.nm, h.nn⟩
theorem DR.code {w0 w w' : World} {p : Nat} {M : Nat → Prop} {q : Nat} {v : Value} {N : Nat → Prop} {room L L' : Nat} {ss ts fs : List Sx} {b : Nat} {cs : Array Value} (h : DR w0 w p M q v N room L ss ts b cs) (k : WGto w p M room L' fs w') :
    ∃ M' : Nat → Prop, DR w0 w' p M' q v N room L' fs ts b cs := by
  obtain ⟨M', d, hM, o⟩ := h.duo.code k
  have lb := h.row.lt
  refine ⟨M', d, o.row h.row h.nm, fun hb => ?_, h.nn⟩
  rcases hM b hb with z | z
  · exact h.nm z
  · omega
theorem DR.doc {w0 w w' : World} {p : Nat} {M : Nat → Prop} {q : Nat} {v : Value} {N : Nat → Prop} {room L : Nat} {ss ts fs : List Sx} {b : Nat} {cs : Array Value} (h : DR w0 w p M q v N room L ss ts b cs) (k : RGto w q N room fs w') :
    ∃ v' N', DR w0 w' p M q v' N' room L ss fs b cs := by
  obtain ⟨v', N', d, hN, o⟩ := h.duo.doc k
  have lb := h.row.lt
  refine ⟨v', N', d, o.row h.row h.nn, h.nm, fun hb => ?_⟩
  rcases hN b hb with z | z
  · exact h.nn z
  · omega
theorem len14 {w0 w : World} {p : Nat} {M : Nat → Prop} {q : Nat} {v : Value} {N : Nat → Prop} {room L : Nat} {ss ts : List Sx} (h : Duo w0 w p M q v N room L ss ts) (e : ts.length = ss.length) : ts.length ≤ 1000 := by
  have := h.lw.wg.good.len
  have := h.lw.wg.good.high
  omega
theorem c_add {w0 w : World} {p : Nat} {M : Nat → Prop} {q : Nat} {v : Value} {N : Nat → Prop} {room L : Nat} {ss ts : List Sx} {b : Nat} {cs : Array Value} (d : DR w0 w p M q v N room L ss ts b cs) (t r x : Int) (hw : wfW ⟨r, x⟩) (hL : L < 1000000) :
    Calls Try.prog 11 #[.pointer (some ⟨p, 0, none⟩), .int .i64 t, .agg #[.int .i64 r, .int .i64 x]] w fun e w' => e = .returned (.int .i64 (addI room ss t ⟨r, x⟩)) ∧ ∃ M', DR w0 w' p M' q v N room (L + 1) (addS room ss t ⟨r, x⟩) ts b cs :=
  (wadd_any t ⟨r, x⟩ w d.duo.lw.wg hw hL).mono (fun e w' k => ⟨k.1, d.code k.2⟩)
theorem d_add {w0 w : World} {p : Nat} {M : Nat → Prop} {q : Nat} {v : Value} {N : Nat → Prop} {room L : Nat} {ss ts : List Sx} {b : Nat} {cs : Array Value} (d : DR w0 w p M q v N room L ss ts b cs) (hl : ts.length ≤ 1000) (t r x : Int) :
    Calls Try.prog 12 #[.pointer (some ⟨q, 0, none⟩), .int .i64 t, .agg #[.int .i64 r, .int .i64 x]] w fun e w' => e = .returned (.int .i64 (addI room ts t ⟨r, x⟩)) ∧ ∃ v' N', DR w0 w' p M q v' N' room L ss (addS room ts t ⟨r, x⟩) b cs :=
  (radd14_any t ⟨r, x⟩ w d.duo.rg hl (by have := d.duo.lw.wg.good.high; omega)).mono (fun e w' k => ⟨k.1, d.doc k.2⟩)
theorem c_take {w0 w : World} {p : Nat} {M : Nat → Prop} {q : Nat} {v : Value} {N : Nat → Prop} {room L : Nat} {ss ts : List Sx} {b : Nat} {cs : Array Value} (d : DR w0 w p M q v N room L ss ts b cs) (t : Int) :
    Calls Try.prog 14 #[.pointer (some ⟨p, 0, none⟩), .int .i64 t] w fun e w' => ∃ u, e = .returned u ∧ RdW w' w.heap.size u (ofL ss t) ∧ (∀ g, u.ownBlock = some g → ¬ N g) ∧ ∃ M', DR w0 w' p M' q v N room L (leftT ss t) ts b cs :=
  (wtake_any t w d.duo.lw.wg).mono (fun e w' ⟨u, h1, h2, h3⟩ => ⟨u, h1, h2, fun g hg hn => by have := d.duo.rg.lt g hn; have := (h2.late g hg).1; omega, d.code h3.to⟩)
theorem d_take {w0 w : World} {p : Nat} {M : Nat → Prop} {q : Nat} {v : Value} {N : Nat → Prop} {room L : Nat} {ss ts : List Sx} {b : Nat} {cs : Array Value} (d : DR w0 w p M q v N room L ss ts b cs) (hl : ts.length ≤ 1000) (t : Int) :
    Calls Try.prog 15 #[.pointer (some ⟨q, 0, none⟩), .int .i64 t] w fun e w' => ∃ u, e = .returned u ∧ OwnsWt w' w.heap.size u (ofL ts t) ∧ Only N w w' ∧ ∃ v' N', DR w0 w' p M q v' N' room L ss (leftT ts t) b cs :=
  (rtake14_any t w d.duo.rg hl).mono (fun e w' ⟨u, h1, h2, h3⟩ => ⟨u, h1, h2, h3.2, d.doc h3⟩)
theorem c_quit {w0 w : World} {p : Nat} {M : Nat → Prop} {q : Nat} {v : Value} {N : Nat → Prop} {room L : Nat} {ss ts : List Sx} {b : Nat} {cs : Array Value} (d : DR w0 w p M q v N room L ss ts b cs) (r : Int) :
    Calls Try.prog 17 #[.pointer (some ⟨p, 0, none⟩), .int .i64 r] w fun e w' => ∃ u, e = .returned u ∧ OwnsInts w' w.heap.size u (quitI ss r) ∧ (∀ g, u.ownBlock = some g → ¬ N g) ∧ ∃ M', DR w0 w' p M' q v N room L (leftR ss r) ts b cs :=
  (wquit_any r w d.duo.lw.wg).mono (fun e w' ⟨u, h1, h2, h3⟩ => ⟨u, h1, h2, fun g hg hn => by have := d.duo.rg.lt g hn; have := (h2.base_le hg).1; omega, d.code h3.to⟩)
theorem d_quit {w0 w : World} {p : Nat} {M : Nat → Prop} {q : Nat} {v : Value} {N : Nat → Prop} {room L : Nat} {ss ts : List Sx} {b : Nat} {cs : Array Value} (d : DR w0 w p M q v N room L ss ts b cs) (hl : ts.length ≤ 1000) (r : Int) :
    Calls Try.prog 18 #[.pointer (some ⟨q, 0, none⟩), .int .i64 r] w fun e w' => ∃ u, e = .returned u ∧ OwnsInts w' w.heap.size u (quitI ts r) ∧ Only N w w' ∧ ∃ v' N', DR w0 w' p M q v' N' room L ss (leftR ts r) b cs :=
  (rquit14_any r w d.duo.rg hl).mono (fun e w' ⟨u, h1, h2, h3⟩ => ⟨u, h1, h2, h3.2, d.doc h3⟩)
theorem c_waits {w0 w : World} {p : Nat} {M : Nat → Prop} {q : Nat} {v : Value} {N : Nat → Prop} {room L : Nat} {ss ts : List Sx} {b : Nat} {cs : Array Value} (d : DR w0 w p M q v N room L ss ts b cs) (r x : Int) (hw : wfW ⟨r, x⟩) :
    Calls Try.prog 19 #[.pointer (some ⟨p, 0, none⟩), .agg #[.int .i64 r, .int .i64 x]] w fun e w' => e = .returned (.bool (waitsB ss ⟨r, x⟩)) ∧ Only none_ w w' := wwaits_any ⟨r, x⟩ w d.duo.lw.wg hw
theorem d_waits {w0 w : World} {p : Nat} {M : Nat → Prop} {q : Nat} {v : Value} {N : Nat → Prop} {room L : Nat} {ss ts : List Sx} {b : Nat} {cs : Array Value} (d : DR w0 w p M q v N room L ss ts b cs) (hl : ts.length ≤ 1000) (r x : Int) :
    Calls Try.prog 20 #[.pointer (some ⟨q, 0, none⟩), .agg #[.int .i64 r, .int .i64 x]] w fun e w' => e = .returned (.bool (waitsB ts ⟨r, x⟩)) ∧ Only none_ w w' := rwaits_any ⟨r, x⟩ w d.duo.rg hl
theorem c_of {w0 w : World} {p : Nat} {M : Nat → Prop} {q : Nat} {v : Value} {N : Nat → Prop} {room L : Nat} {ss ts : List Sx} {b : Nat} {cs : Array Value} (d : DR w0 w p M q v N room L ss ts b cs) (t : Int) :
    Calls Try.prog 21 #[.pointer (some ⟨p, 0, none⟩), .int .i64 t] w fun e w' => ∃ u, e = .returned u ∧ ReadsW w' u (ofL ss t) ∧ Only none_ w w' :=
  (wof_any t w d.duo.lw.wg).mono (fun e w' ⟨u, h1, h2, h3⟩ => ⟨u, h1, h2.reads, h3⟩)
theorem d_of {w0 w : World} {p : Nat} {M : Nat → Prop} {q : Nat} {v : Value} {N : Nat → Prop} {room L : Nat} {ss ts : List Sx} {b : Nat} {cs : Array Value} (d : DR w0 w p M q v N room L ss ts b cs) (hl : ts.length ≤ 1000) (t : Int) :
    Calls Try.prog 22 #[.pointer (some ⟨q, 0, none⟩), .int .i64 t] w fun e w' => ∃ u, e = .returned u ∧ ReadsW w' u (ofL ts t) ∧ Only none_ w w' :=
  (rof_any t w d.duo.rg hl).mono (fun e w' ⟨u, h1, h2, h3⟩ => ⟨u, h1, ReadsW.of_owns h2, h3⟩)
theorem c_free {w0 w : World} {p : Nat} {M : Nat → Prop} {q : Nat} {v : Value} {N : Nat → Prop} {room L : Nat} {ss ts : List Sx} {b : Nat} {cs : Array Value} (d : DR w0 w p M q v N room L ss ts b cs) :
    Calls Try.prog 23 #[.pointer (some ⟨p, 0, none⟩)] w fun e w' => e = .returned (.int .i64 ((room : Int) - (ss.length : Int))) ∧ Only none_ w w' := wfree_any w d.duo.lw.wg
theorem same_self (v u : Value) (xs : List Wt) (w : World) (hx : ReadsW w v xs) (hy : ReadsW w u xs) (hm : xs.length ≤ 1000000) :
    Calls Try.prog 13 #[v, u] w fun e w' => e = .returned (.bool true) ∧ Only none_ w w' := by
  have := same14_any v u xs xs w hx hy hm hm
  rwa [decide_eq_true rfl] at this
theorem ints_self (v u : Value) (xs : List Int) (w : World) (hx : Reads w v xs) (hy : Reads w u xs) (hm : xs.length ≤ 1000000) :
    Calls Try.prog 16 #[v, u] w fun e w' => e = .returned (.bool true) ∧ Only none_ w w' := by
  have := ints_any v u xs xs w hx hy hm hm
  rwa [decide_eq_true rfl] at this
end Go.Proofs.Ytgngaimbpnlkjaa
