/- Package fetch: a move is added to an engine's moves. -/
import Derived.Test.YtfbpjobobdidiaaGreatDoorAl16
import Derived.Test.YtfbpjobobdidiaaGreatDoorGrpL
namespace Go.Proofs.YtfbpjobobdidiaaGreatDoor
open Go.RowKit Go.Maps
set_option linter.unusedVariables false
set_option maxRecDepth 100000
section
variable {w w' : World} {p : Nat} {c : Nat → Nat} {X : Loc} {F H : Nat} {o : Opt} {nt ng : Nat} {ss : List Sd} {qs : List Sl} {g : List Sx} {te : List Ent} {ks : List Tk} {me : List Ent} {ms : List Mv} {E : Eng}
/-- a move with rows of its own, all at base or behind, where nothing of the engine's lies -/
theorem EO.newm (h : EO w p c X F H o nt ng ss qs g te ks me ms) {m : Mv} {v : Value × Value × Value} {base : Nat} (hv : MvW w base v m) (hb : ∀ g, base ≤ g → c g = 0) (hk : ∀ s ∈ ms, s.tag ≠ m.tag) :
    ∃ c', EO w p c' { X with B := setI X.B m.tag v } F H o nt ng ss qs g te ks me (ms ++ [m]) ∧ ∀ g, c' g ≠ 0 → c g ≠ 0 ∨ base ≤ g := by
  classical
  have mb : ∀ g, (v.1.ownBlock = some g ∨ v.2.1.ownBlock = some g ∨ v.2.2.ownBlock = some g) → base ≤ g ∧ g < w.heap.size := fun g hg => by
    rcases hg with q | q | q
    · exact hv.ks.base_le q
    · exact hv.vs.base_le q
    · exact hv.fs.base_le q
  have c0 : ∀ g, (v.1.ownBlock = some g ∨ v.2.1.ownBlock = some g ∨ v.2.2.ownBlock = some g) → c g = 0 := fun g hg => hb g (mb g hg).1
  have rc : ∀ j, j ≠ 8 → j ≠ 0 → ∀ g, (if v.1.ownBlock = some g ∨ v.2.1.ownBlock = some g ∨ v.2.2.ownBlock = some g then 8 else c g) = j ↔ c g = j := fun j hj j0 g => by
    by_cases q : v.1.ownBlock = some g ∨ v.2.1.ownBlock = some g ∨ v.2.2.ownBlock = some g
    · rw [if_pos q, c0 g q]; exact ⟨fun e => absurd e.symm hj, fun e => absurd e.symm j0⟩
    · rw [if_neg q]
  have r8 : ∀ g, c g = 8 → (if v.1.ownBlock = some g ∨ v.2.1.ownBlock = some g ∨ v.2.2.ownBlock = some g then 8 else c g) = 8 := fun g hg => by
    split
    · rfl
    · exact hg
  have bo : ∀ s ∈ ms, setI X.B m.tag v s.tag = X.B s.tag := fun s hs => if_neg (hk s hs)
  have bn : setI X.B m.tag v m.tag = v := if_pos rfl
  refine ⟨fun g => if v.1.ownBlock = some g ∨ v.2.1.ownBlock = some g ∨ v.2.2.ownBlock = some g then 8 else c g,
    { row := h.row, cp := (rc 1 (by decide) (by decide) p).2 h.cp, ln := ?_, tn := h.tn, ct := ⟨(rc 3 (by decide) (by decide) _).2 h.ct.1, (rc 3 (by decide) (by decide) _).2 h.ct.2⟩, wg := ?_, tm := h.tm, cb := (rc 5 (by decide) (by decide) _).2 h.cb,
      tk := fun t ht => ⟨(h.tk t ht).1, (rc 6 (by decide) (by decide) _).2 (h.tk t ht).2⟩, inj := h.inj, mm := h.mm, cm := (rc 7 (by decide) (by decide) _).2 h.cm, mv := fun s hs => ?_, ma := fun s hs u hu e => ?_, lt := fun g hg => ?_ }, fun g hg => ?_⟩
  · have e : (fun g => (if v.1.ownBlock = some g ∨ v.2.1.ownBlock = some g ∨ v.2.2.ownBlock = some g then 8 else c g) = 2) = fun g => c g = 2 := by funext g; exact propext (rc 2 (by decide) (by decide) g)
    rw [e]; exact h.ln
  · have e : (fun g => (if v.1.ownBlock = some g ∨ v.2.1.ownBlock = some g ∨ v.2.2.ownBlock = some g then 8 else c g) = 4) = fun g => c g = 4 := by funext g; exact propext (rc 4 (by decide) (by decide) g)
    rw [e]; exact h.wg
  · rcases List.mem_append.1 hs with hs | hs
    · show MvAt _ _ (setI X.B m.tag v s.tag) s
      rw [bo s hs]
      exact (h.mv s hs).colour (fun g _ q => r8 g q)
    · rw [List.mem_singleton.1 hs]
      show MvAt _ _ (setI X.B m.tag v m.tag) m
      rw [bn]
      exact ⟨hv.ks.lower11 (Nat.zero_le _), hv.vs.lower11 (Nat.zero_le _), hv.fs.lower11 (Nat.zero_le _), fun g q => if_pos (.inl q), fun g q => if_pos (.inr (.inl q)), fun g q => if_pos (.inr (.inr q))⟩
  · intro g
    show (setI X.B m.tag v s.tag).1.ownBlock = some g → (setI X.B m.tag v u.tag).1.ownBlock ≠ some g ∧ (setI X.B m.tag v u.tag).2.1.ownBlock ≠ some g ∧ (setI X.B m.tag v u.tag).2.2.ownBlock ≠ some g
    rcases List.mem_append.1 hs with hs | hs <;> rcases List.mem_append.1 hu with hu | hu
    · rw [bo s hs, bo u hu]; exact h.ma s hs u hu e g
    · rw [bo s hs, List.mem_singleton.1 hu, bn]
      intro q
      have c8 := (h.mv s hs).ck g q
      have n : ¬ (v.1.ownBlock = some g ∨ v.2.1.ownBlock = some g ∨ v.2.2.ownBlock = some g) := fun z => by rw [c0 g z] at c8; cases c8
      exact ⟨fun z => n (.inl z), fun z => n (.inr (.inl z)), fun z => n (.inr (.inr z))⟩
    · rw [bo u hu, List.mem_singleton.1 hs, bn]
      intro q
      have z := c0 g (.inl q)
      exact ⟨fun k => (by have := (h.mv u hu).ck g k; rw [z] at this; cases this), fun k => (by have := (h.mv u hu).cv g k; rw [z] at this; cases this), fun k => (by have := (h.mv u hu).cf g k; rw [z] at this; cases this)⟩
    · rw [List.mem_singleton.1 hs, List.mem_singleton.1 hu] at e; exact absurd rfl e
  · by_cases q : v.1.ownBlock = some g ∨ v.2.1.ownBlock = some g ∨ v.2.2.ownBlock = some g
    · exact (mb g q).2
    · rw [if_neg q] at hg; exact h.lt g hg
  · dsimp only at hg
    by_cases q : v.1.ownBlock = some g ∨ v.2.1.ownBlock = some g ∨ v.2.2.ownBlock = some g
    · exact .inr (mb g q).1
    · rw [if_neg q] at hg; exact .inl hg
theorem MvW.other {base : Nat} {v : Value × Value × Value} {m : Mv} (h : MvW w base v m) {b : Nat} (o : Only (fun k => k = b) w w') (hb : b < base) : MvW w' base v m := h.keep o (fun g hg _ e => by have : g = b := e; omega)
/-- .. and laid in the map of moves -/
theorem EP.newm (h : EP w p c X F H ks E) {m : Mv} {v : Value × Value × Value} {base : Nat} (hv : MvW w base v m) (hb : ∀ g, base ≤ g → c g = 0) (hk : ∀ s ∈ E.ms, s.tag ≠ m.tag) (ht : 1 ≤ m.tag ∧ m.tag ≤ E.ng) (hf : E.ms.length < 16)
    (hm : Mg w' X.bm (E.ms.map (mvEnt X.B) ++ [(m.tag, m.val v)])) (on : Only (fun k => k = X.bm) w w') :
    ∃ c' X', EP w' p c' X' F H ks { E with ms := E.ms ++ [m] } ∧ ∀ g, c' g ≠ 0 → c g ≠ 0 ∨ base ≤ g := by
  have nb : X.bm < base := by
    rcases Nat.lt_or_ge X.bm base with q | q
    · exact q
    · have := hb _ q; rw [h.eo.cm] at this; cases this
  obtain ⟨c', h1, h2⟩ := (h.eo.mmap hm on).newm (hv.other on nb) hb hk
  have e : E.ms.map (mvEnt X.B) ++ [(m.tag, m.val v)] = (E.ms ++ [m]).map (mvEnt (setI X.B m.tag v)) := by
    rw [List.map_append]
    congr 1
    · apply List.map_congr_left
      intro s hs
      show (s.tag, s.val (X.B s.tag)) = (s.tag, s.val (setI X.B m.tag v s.tag))
      rw [show setI X.B m.tag v s.tag = X.B s.tag from if_neg (hk s hs)]
    · show [(m.tag, m.val v)] = [(m.tag, m.val (setI X.B m.tag v m.tag))]
      rw [show setI X.B m.tag v m.tag = v from if_pos rfl]
  rw [e] at h1
  refine ⟨c', _, { eo := h1, sub := h.sub, may := h.may, idr := h.idr, tag := fun s hs => ?_, few := h.few, mfew := ?_, ntH := h.ntH, ngH := h.ngH, hF := h.hF, hH := h.hH }, h2⟩
  · rcases List.mem_append.1 hs with q | q
    · exact h.tag s q
    · rw [List.mem_singleton.1 q]; exact ht
  · show (E.ms ++ [m]).length ≤ 16
    rw [List.length_append, List.length_singleton]; omega
/-- one number more -/
theorem EP.tagged (h : EP w p c X F H ks E) (r : Row w' p 99 (engCells X E.o E.nt (E.ng + 1))) (on : Only (fun k => k = p) w w') (hH : H + 1 < 1000000) : EP w' p c X F (H + 1) ks { E with ng := E.ng + 1 } :=
  { eo := (h.eo.own r on).up (Nat.le_refl _) (Nat.le_succ H), sub := h.sub, may := h.may, idr := h.idr, tag := fun s hs => by
      have := h.tag s hs
      show 1 ≤ s.tag ∧ s.tag ≤ ((E.ng + 1 : Nat) : Int)
      omega
    few := h.few, mfew := h.mfew, ntH := Nat.le_succ_of_le h.ntH, ngH := Nat.succ_le_succ h.ngH, hF := h.hF, hH := hH }
end
/-- the blocks of a move's rows -/
def MvB (v : Value × Value × Value) (g : Nat) : Prop := v.1.ownBlock = some g ∨ v.2.1.ownBlock = some g ∨ v.2.2.ownBlock = some g
theorem MvW.blocks {w : World} {base : Nat} {v : Value × Value × Value} {m : Mv} (h : MvW w base v m) {g : Nat} (hg : MvB v g) : base ≤ g ∧ g < w.heap.size := by
  rcases hg with q | q | q
  · exact h.ks.base_le q
  · exact h.vs.base_le q
  · exact h.fs.base_le q
theorem MvW.keepB {w w' : World} {base : Nat} {v : Value × Value × Value} {m : Mv} (h : MvW w base v m) {S : Nat → Prop} (o : Only S w w') (hn : ∀ g, MvB v g → ¬ S g) : MvW w' base v m := ⟨h.ks.keep o (fun g hg => hn g (.inl hg)), h.vs.keep o (fun g hg => hn g (.inr (.inl hg))), h.fs.keep o (fun g hg => hn g (.inr (.inr hg)))⟩
/-- an engine behind a call; what was answered lies in none of its blocks -/
def EGtoP (w : World) (p : Nat) (c : Nat → Nat) (F H : Nat) (E : Eng) (P : Nat → Prop) (w' : World) : Prop := (∃ c' X ks, EP w' p c' X F H ks E ∧ Gw w c c' ∧ ∀ g, P g → c' g = 0) ∧ Only (fun g => c g ≠ 0) w w'
theorem EGtoP.to {w w' : World} {p : Nat} {c : Nat → Nat} {F H : Nat} {E : Eng} {P : Nat → Prop} (h : EGtoP w p c F H E P w') : EGto w p c F H E w' := let ⟨⟨c', X, ks, a, b, _⟩, o⟩ := h; ⟨⟨c', X, ks, a, b⟩, o⟩
theorem EGtoP.fin {w W1 wn w' : World} {p : Nat} {c c' : Nat → Nat} {X : Loc} {F H F' H' : Nat} {ks : List Tk} {E : Eng} {P : Nat → Prop} (h : EP wn p c' X F H ks E) (o1 : Only none_ w W1) (g : Gw W1 c c') (o : Only (fun g => c g ≠ 0) W1 wn) {s : Nat} (hs : w.heap.size ≤ s) (hz : c' s = 0) (on : Only (fun g => g = s) wn w') (k : F ≤ F') (k2 : H ≤ H') (b : F' < 100000000) (b2 : H' < 1000000) (hv : ∀ g, P g → c' g = 0) : EGtoP w p c F' H' E P w' := by
  refine ⟨⟨c', X, ks, (h.keep on (fun i hi e => hi (by rw [e]; exact hz))).up k k2 b b2, g.less o1.size, hv⟩, ?_⟩
  refine (o1.then_ o).trans on (fun i hi e => ?_)
  have : i = s := e
  omega
end Go.Proofs.YtfbpjobobdidiaaGreatDoor
