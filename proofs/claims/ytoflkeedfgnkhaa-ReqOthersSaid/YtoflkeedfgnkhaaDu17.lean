/- Both tables side by side: the code's own, the document's own; one step on both. -/
import Derived.Test.YtoflkeedfgnkhaaLw17
import Derived.Test.YtoflkeedfgnkhaaRx17
import Derived.Test.YtoflkeedfgnkhaaRp17
namespace Go.Proofs.Ytoflkeedfgnkhaa
open Go.RowKit Go.Maps
set_option linter.unusedVariables false
set_option maxRecDepth 100000
/-- what a step makes of a table -/
def stepT (room : Nat) (t : Tq) (a : Act1) : Tq :=
  if a.kind = 0 then ⟨openS room t.rs a.id a.n a.place, t.kept⟩
  else if a.kind = 1 then putS t a.id a.place 1 a.v
  else if a.kind = 2 then putS t a.id a.place 2 0
  else if a.kind = 3 then cancelS t a.id
  else if a.kind = 4 then ⟨t.rs, []⟩ else t
structure D17 (w0 w : World) (p : Nat) (c : Nat → Nat) (q : Nat) (d : Nat → Nat) (room L : Nat) (t : Tq) (rm K : Nat) (s : Tq) : Prop where
  lt : LT w0 w p c room L t
  rw : ∃ X, RW w q d X rm K s
  new : ∀ g, d g ≠ 0 → w0.heap.size ≤ g
  apart : ∀ g, c g ≠ 0 → d g = 0
section
variable {w0 w w' : World} {p : Nat} {c : Nat → Nat} {q : Nat} {d : Nat → Nat} {room L : Nat} {t : Tq} {rm K : Nat} {s : Tq}
theorem D17.still (h : D17 w0 w p c q d room L t rm K s) (o : Only none_ w w') : D17 w0 w' p c q d room L t rm K s := ⟨h.lt.still o, h.rw.imp (fun X k => k.still o), h.new, h.apart⟩
theorem D17.up (h : D17 w0 w p c q d room L t rm K s) {L' K' : Nat} (k : L ≤ L') (k2 : K ≤ K') : D17 w0 w p c q d room L' t rm K' s := ⟨h.lt.up k, h.rw.imp (fun X z => z.up k2), h.new, h.apart⟩
theorem D17.rlt (h : D17 w0 w p c q d room L t rm K s) : ∀ g, d g ≠ 0 → g < w.heap.size := let ⟨_, k⟩ := h.rw; k.lt
/-- the code's own turns -/
theorem D17.code (h : D17 w0 w p c q d room L t rm K s) {L' : Nat} {t' : Tq} {c' : Nat → Nat} (hm : LT w0 w' p c' room L' t') (hg : Gw w c c') (o : Only (fun g => c g ≠ 0) w w') : D17 w0 w' p c' q d room L' t' rm K s := by
  refine ⟨hm, h.rw.imp (fun X k => k.keep o (fun g hd hc => hd (h.apart g hc))), h.new, fun g hg' => ?_⟩
  rcases hg g hg' with z | z
  · exact h.apart g z
  · exact Classical.byContradiction fun k => by have := h.rlt g k; omega
/-- the document's own turns -/
theorem D17.doc (h : D17 w0 w p c q d room L t rm K s) {K' : Nat} {s' : Tq} {d' : Nat → Nat} {X' : Loc18} (hm : RW w' q d' X' rm K' s') (hg : Gw w d d') (o : Only (fun g => d g ≠ 0) w w') : D17 w0 w' p c q d' room L t rm K' s' := by
  refine ⟨h.lt.keepN o (fun g hd => ⟨Classical.byContradiction fun k => hd (h.apart g k), h.new g hd⟩), ⟨_, hm⟩, fun g hg' => ?_, fun g hc => Classical.byContradiction fun k => ?_⟩
  · rcases hg g hg' with z | z
    · exact h.new g z
    · exact Nat.le_trans h.lt.only.size z
  · rcases hg g k with z | z
    · exact z (h.apart g hc)
    · have := h.lt.lt g hc; omega
/-- .. from a world on, with a block that is neither's -/
structure E17 (w0 u : World) (c0 d0 : Nat → Nat) (w : World) (p : Nat) (c : Nat → Nat) (q : Nat) (d : Nat → Nat) (room L : Nat) (t : Tq) (rm K : Nat) (s : Tq) (b : Nat) (cs : Array Value) : Prop where
  duo : D17 w0 w p c q d room L t rm K s
  row : Row w b 32 cs
  nc : c b = 0
  nd : d b = 0
  gc : Gw u c0 c
  gd : Gw u d0 d
  on : Only (fun g => c0 g ≠ 0 ∨ d0 g ≠ 0) u w
variable {u : World} {c0 d0 : Nat → Nat} {b : Nat} {cs : Array Value}
theorem E17.start (h : D17 w0 w p c q d room L t rm K s) : E17 w0 w c d (w.alloc (.cells cs 32)) p c q d room L t rm K s w.heap.size cs where
  duo := h.still ((Only.refl none_ w).alloc _)
  row := Row.fresh _ _ _
  nc := Classical.byContradiction fun k => Nat.lt_irrefl _ (h.lt.lt _ k)
  nd := Classical.byContradiction fun k => Nat.lt_irrefl _ (h.rlt _ k)
  gc := Gw.refl _ _
  gd := Gw.refl _ _
  on := (Only.refl _ w).alloc _
theorem E17.still (h : E17 w0 u c0 d0 w p c q d room L t rm K s b cs) (o : Only none_ w w') : E17 w0 u c0 d0 w' p c q d room L t rm K s b cs := ⟨h.duo.still o, o.row h.row (fun s => s), h.nc, h.nd, h.gc, h.gd, h.on.trans o (fun _ _ k => False.elim k)⟩
theorem E17.code (h : E17 w0 u c0 d0 w p c q d room L t rm K s b cs) {L' : Nat} {t' : Tq} {c' : Nat → Nat} (hm : LT w0 w' p c' room L' t') (hg : Gw w c c') (o : Only (fun g => c g ≠ 0) w w') : E17 w0 u c0 d0 w' p c' q d room L' t' rm K s b cs where
  duo := h.duo.code hm hg o
  row := o.row h.row (fun k => k h.nc)
  nc := Classical.byContradiction fun k => (by
    have := h.row.lt
    rcases hg b k with z | z
    · exact z h.nc
    · omega)
  nd := h.nd
  gc := fun g k => (by
    have := h.on.size
    rcases hg g k with z | z
    · exact h.gc g z
    · exact .inr (by omega))
  gd := h.gd
  on := h.on.trans o (fun i hi k => by
    rcases h.gc i k with z | z
    · exact .inl z
    · omega)
theorem E17.doc (h : E17 w0 u c0 d0 w p c q d room L t rm K s b cs) {K' : Nat} {s' : Tq} {d' : Nat → Nat} {X' : Loc18} (hm : RW w' q d' X' rm K' s') (hg : Gw w d d') (o : Only (fun g => d g ≠ 0) w w') : E17 w0 u c0 d0 w' p c q d' room L t rm K' s' b cs where
  duo := h.duo.doc hm hg o
  row := o.row h.row (fun k => k h.nd)
  nc := h.nc
  nd := Classical.byContradiction fun k => (by
    have := h.row.lt
    rcases hg b k with z | z
    · exact z h.nd
    · omega)
  gc := h.gc
  gd := fun g k => (by
    have := h.on.size
    rcases hg g k with z | z
    · exact h.gd g z
    · exact .inr (by omega))
  on := h.on.trans o (fun i hi k => by
    rcases h.gd i k with z | z
    · exact .inr z
    · omega)
theorem E17.up (h : E17 w0 u c0 d0 w p c q d room L t rm K s b cs) {L' K' : Nat} (k : L ≤ L') (k2 : K ≤ K') : E17 w0 u c0 d0 w p c q d room L' t rm K' s b cs := { h with duo := h.duo.up k k2 }
abbrev ecode (h : E17 w0 u c0 d0 w p c q d room L t rm K s b cs) {L' : Nat} {t' : Tq} (k : LTto w0 w p c room L' t' w') : ∃ c', E17 w0 u c0 d0 w' p c' q d room L' t' rm K s b cs := let ⟨c', hm, hg, o⟩ := k; ⟨c', h.code hm hg o⟩
theorem edoc (h : E17 w0 u c0 d0 w p c q d room L t rm K s b cs) {K' : Nat} {s' : Tq} (k : RBto w q d rm K' s' w') : ∃ d', E17 w0 u c0 d0 w' p c q d' room L t rm K' s' b cs := let ⟨⟨d', X', hm, hg⟩, o⟩ := k; ⟨d', h.doc hm hg o⟩
theorem e_open (h : E17 w0 u c0 d0 w p c q d room L t rm K s b cs) (x k n : Int) (wx : (Lit.int .i64 x).wf = true) :
    Calls Try.prog 22 #[.pointer (some ⟨p, 0, none⟩), .int .i64 x, .int .i64 k, .int .i64 n] w fun e w' => e = .returned (.int .i64 (openI room t.rs x k n)) ∧ ∃ c', E17 w0 u c0 d0 w' p c' q d room (L + 1) ⟨openS room t.rs x k n, t.kept⟩ rm K s b cs :=
  (lopen x k n h.duo.lt wx).mono (fun e w' z => ⟨z.1, ecode h z.2⟩)
theorem f_open (h : E17 w0 u c0 d0 w p c q d room L t rm K s b cs) (x k n : Int) (wx : (Lit.int .i64 x).wf = true) :
    Calls Try.prog 26 #[.pointer (some ⟨q, 0, none⟩), .int .i64 x, .int .i64 k, .int .i64 n] w fun e w' => e = .returned (.int .i64 (openI rm s.rs x k n)) ∧ ∃ d', E17 w0 u c0 d0 w' p c q d' room L t rm (K + 1) ⟨openS rm s.rs x k n, s.kept⟩ b cs := by
  obtain ⟨X, k'⟩ := h.duo.rw
  exact (ropen_any x k n w k' wx).mono (fun e w' z => ⟨z.1, edoc h z.2⟩)
theorem e_give (h : E17 w0 u c0 d0 w p c q d room L t rm K s b cs) (x k v : Int) (wx : (Lit.int .i64 x).wf = true) (hL : L < 1000000) :
    Calls Try.prog 23 #[.pointer (some ⟨p, 0, none⟩), .int .i64 x, .int .i64 k, .int .u64 v] w fun e w' => e = .returned (.int .i64 (putI t.rs x k)) ∧ ∃ c', E17 w0 u c0 d0 w' p c' q d room (L + 1) (putS t x k 1 v) rm K s b cs :=
  (lgive x k v h.duo.lt wx hL).mono (fun e w' z => ⟨z.1, ecode h z.2⟩)
theorem e_lose (h : E17 w0 u c0 d0 w p c q d room L t rm K s b cs) (x k : Int) (wx : (Lit.int .i64 x).wf = true) (hL : L < 1000000) :
    Calls Try.prog 24 #[.pointer (some ⟨p, 0, none⟩), .int .i64 x, .int .i64 k] w fun e w' => e = .returned (.int .i64 (putI t.rs x k)) ∧ ∃ c', E17 w0 u c0 d0 w' p c' q d room (L + 1) (putS t x k 2 0) rm K s b cs :=
  (llose x k h.duo.lt wx hL).mono (fun e w' z => ⟨z.1, ecode h z.2⟩)
theorem f_give (h : E17 w0 u c0 d0 w p c q d room L t rm K s b cs) (x k v : Int) (hK : K < 1000000) :
    Calls Try.prog 27 #[.pointer (some ⟨q, 0, none⟩), .int .i64 x, .int .i64 k, .int .i64 1, .int .u64 v] w fun e w' => e = .returned (.int .i64 (putI s.rs x k)) ∧ ∃ d', E17 w0 u c0 d0 w' p c q d' room L t rm (K + 1) (putS s x k 1 v) b cs := by
  obtain ⟨X, k'⟩ := h.duo.rw
  exact (rput_any x k 1 v w k' (.inl rfl) hK).mono (fun e w' z => ⟨z.1, edoc h z.2⟩)
theorem f_lose (h : E17 w0 u c0 d0 w p c q d room L t rm K s b cs) (x k : Int) (hK : K < 1000000) :
    Calls Try.prog 27 #[.pointer (some ⟨q, 0, none⟩), .int .i64 x, .int .i64 k, .int .i64 2, .int .u64 0] w fun e w' => e = .returned (.int .i64 (putI s.rs x k)) ∧ ∃ d', E17 w0 u c0 d0 w' p c q d' room L t rm (K + 1) (putS s x k 2 0) b cs := by
  obtain ⟨X, k'⟩ := h.duo.rw
  exact (rput_any x k 2 0 w k' (.inr rfl) hK).mono (fun e w' z => ⟨z.1, edoc h z.2⟩)
theorem e_cancel (h : E17 w0 u c0 d0 w p c q d room L t rm K s b cs) (x : Int) (wx : (Lit.int .i64 x).wf = true) (hL : L < 1000000) :
    Calls Try.prog 25 #[.pointer (some ⟨p, 0, none⟩), .int .i64 x] w fun e w' => e = .returned (.int .i64 (cancelI t.rs x)) ∧ ∃ c', E17 w0 u c0 d0 w' p c' q d room (L + 1) (cancelS t x) rm K s b cs :=
  (lcancel x h.duo.lt wx hL).mono (fun e w' z => ⟨z.1, ecode h z.2⟩)
theorem f_cancel (h : E17 w0 u c0 d0 w p c q d room L t rm K s b cs) (x : Int) (hK : K < 1000000) :
    Calls Try.prog 28 #[.pointer (some ⟨q, 0, none⟩), .int .i64 x] w fun e w' => e = .returned (.int .i64 (cancelI s.rs x)) ∧ ∃ d', E17 w0 u c0 d0 w' p c q d' room L t rm (K + 1) (cancelS s x) b cs := by
  obtain ⟨X, k'⟩ := h.duo.rw
  exact (rcancel_any x w k' hK).mono (fun e w' z => ⟨z.1, edoc h z.2⟩)
theorem e_take (h : E17 w0 u c0 d0 w p c q d room L t rm K s b cs) :
    Calls Try.prog 20 #[.pointer (some ⟨p, 0, none⟩)] w fun e w' => ∃ v, e = .returned v ∧ ∃ c', E17 w0 u c0 d0 w' p c' q d room (L + 1) ⟨t.rs, []⟩ rm K s b cs ∧ AR w' (fun g => d g = 0) v t.kept :=
  (ltake h.duo.lt).mono (fun e w' z => let ⟨v, e1, c', h1, h2, h3, h4⟩ := z; ⟨v, e1, c', (h.code (h1.up (Nat.zero_le (L + 1))) (fun g k => .inl (h3 g k)) h4), h2.more (fun g _ k => h.duo.apart g k.1)⟩)
theorem f_take (h : E17 w0 u c0 d0 w p c q d room L t rm K s b cs) :
    Calls Try.prog 21 #[.pointer (some ⟨q, 0, none⟩)] w fun e w' => ∃ v, e = .returned v ∧ ∃ d', E17 w0 u c0 d0 w' p c q d' room L t rm (K + 1) ⟨s.rs, []⟩ b cs ∧ AR w' (fun g => True) v s.kept ∧ Only (fun g => d g ≠ 0) w w' := by
  obtain ⟨X, k'⟩ := h.duo.rw
  exact (rtake_any w k').mono (fun e w' z => let ⟨v, e1, d', X', h1, h2, h3, h4⟩ := z; ⟨v, e1, d', h.doc (h1.up (Nat.le_succ _)) (fun g k => .inl (h3 g k)) h4, h2.more (fun g _ _ => trivial), h4⟩)
end
end Go.Proofs.Ytoflkeedfgnkhaa
