/- What is done: a slice of steps, opened to cells. -/
import Derived.Test.YtllbdkjbcadeoaaArgs
import Derived.Test.YtllbdkjbcadeoaaAwake4
namespace Go.Proofs.Ytllbdkjbcadeoaa
open Go.RowKit Go.ChangeShapes Go.WideShapes Go.Deep
set_option linter.unusedVariables false

def Act1.cells (a : Act1) : List Value := [.int .i64 a.kind, .int .i64 a.i, .int .i64 a.n, .int .u64 a.v]
instance : Inhabited Act1 := ⟨⟨0, 0, 0, 0⟩⟩
theorem cellsAct : Try.prog.cellsOf 33 = 4 := by kernel_rfl

theorem open_acts {H : Type} {enc : TypeId × Value → H} {W : World} {fuel : Nat} {A : Option Addr} {len cap : Nat} {x : DataW H × List MemPlace} (h : DataW.trod enc Try.prog W 0 (fun _ => true) true fuel 22 [.slice A len cap] = some x) :
    len ≤ maxLen ∧ ∃ xs : List Act1, xs.length = len ∧ Holds W A 4 Act1.cells xs ∧ ∀ a ∈ xs, True := by
  refine open_rows (c := Act1.cells) (wf := fun _ => True) Try.underlying22 cellsAct (by decide) (fun _ => rfl) ?_ h
  intro n cs x hx
  obtain ⟨hl, m, hf⟩ := open_fields Try.underlying33 (by kernel_rfl) cellsAct hx
  obtain ⟨v0, y0, e0, t0⟩ := hf 0 _ rfl
  obtain ⟨v1, y1, e1, t1⟩ := hf 1 _ rfl
  obtain ⟨v2, y2, e2, t2⟩ := hf 2 _ rfl
  obtain ⟨v3, y3, e3, t3⟩ := hf 3 _ rfl
  obtain ⟨a0, q0, _, _⟩ := DataW.trod_int Try.underlying3 t0
  obtain ⟨a1, q1, _, _⟩ := DataW.trod_int Try.underlying3 t1
  obtain ⟨a2, q2, _, _⟩ := DataW.trod_int Try.underlying3 t2
  obtain ⟨a3, q3, _, _⟩ := DataW.trod_int Try.underlying31 t3
  simp only [List.cons.injEq, and_true] at q0 q1 q2 q3
  subst q0 q1 q2 q3
  have hl : cs.length = 4 := hl
  match cs, hl with
  | [c0, c1, c2, c3], _ =>
    simp at e0 e1 e2 e3
    subst e0 e1 e2 e3
    exact ⟨⟨a0, a1, a2, a3⟩, rfl, trivial⟩

/-- the cells of one step -/
theorem act_at {w w' : World} {A : Option Addr} {xs : List Act1} (h : Holds w A 4 Act1.cells xs) (hb : Below w.heap.size w w') {i : Nat} {a : Act1} (hi : xs[i]? = some a) :
    ∃ b o, A = some ⟨b, o, none⟩ ∧ b < w.heap.size ∧ w'.cell? ⟨b, o + i * 4, none⟩ = some (.int .i64 a.kind) ∧ w'.cell? ⟨b, o + i * 4 + 1, none⟩ = some (.int .i64 a.i) ∧ w'.cell? ⟨b, o + i * 4 + 2, none⟩ = some (.int .i64 a.n) ∧ w'.cell? ⟨b, o + i * 4 + 3, none⟩ = some (.int .u64 a.v) := by
  obtain ⟨b, o, e, hlt, hc⟩ := h.at_ hb hi
  exact ⟨b, o, e, hlt, by rw [show o + i * 4 = o + (i * 4 + 0) from rfl]; exact hc 0 _ rfl, by rw [Nat.add_assoc]; exact hc 1 _ rfl, by rw [Nat.add_assoc]; exact hc 2 _ rfl, by rw [Nat.add_assoc]; exact hc 3 _ rfl⟩

theorem step_call (p b q c : Nat) (fs gs : List Fr) (a : Act1) (w : World) (h : Both w p b q c fs gs) (hF : Fine 1000000 fs) (hG : Fine 1000000 gs) :
    Calls Try.prog 11 #[.pointer (some ⟨p, 0, none⟩), .pointer (some ⟨q, 0, none⟩), .agg #[.int .i64 a.kind, .int .i64 a.i, .int .i64 a.n, .int .u64 a.v]] w (Stepped p b q c fs gs (stepS fs a) (stepS gs a) w) := step_any p b q c fs gs a w h hF hG
theorem Both.fresh_ {w w' : World} {p b k : Nat} {fs : List Fr} (h : PoolIs w p b fs) (h' : RefIs w' (w.heap.size + 1) w.heap.size (fresh k)) (o : Only none_ w w') : Both w' p b (w.heap.size + 1) w.heap.size fs (fresh k) :=
  ⟨h.still o, h', by have := h.pl; omega, by have := h.bl; omega, by have := h.bl; omega⟩

/-- the four cells of one step -/
def Acts (w : World) (b o : Nat) (a : Act1) : Prop := w.cell? ⟨b, o, none⟩ = some (.int .i64 a.kind) ∧ w.cell? ⟨b, o + 1, none⟩ = some (.int .i64 a.i) ∧ w.cell? ⟨b, o + 2, none⟩ = some (.int .i64 a.n) ∧ w.cell? ⟨b, o + 3, none⟩ = some (.int .u64 a.v)
theorem acts_keep {S : Nat → Prop} {w w' : World} {b o : Nat} {a : Act1} (h : w.cell? ⟨b, o, none⟩ = some (.int .i64 a.kind) ∧ w.cell? ⟨b, o + 1, none⟩ = some (.int .i64 a.i) ∧ w.cell? ⟨b, o + 2, none⟩ = some (.int .i64 a.n) ∧ w.cell? ⟨b, o + 3, none⟩ = some (.int .u64 a.v)) (k : Only S w w') (hn : ¬ S b) :
    w'.cell? ⟨b, o, none⟩ = some (.int .i64 a.kind) ∧ w'.cell? ⟨b, o + 1, none⟩ = some (.int .i64 a.i) ∧ w'.cell? ⟨b, o + 2, none⟩ = some (.int .i64 a.n) ∧ w'.cell? ⟨b, o + 3, none⟩ = some (.int .u64 a.v) :=
  ⟨k.cell h.1 hn, k.cell h.2.1 hn, k.cell h.2.2.1 hn, k.cell h.2.2.2 hn⟩

/-- of the frames from place q on the least that is free: its place, and itself; or none -/
def Lowest (fs : List Fr) (q : Nat) (l : Int) (f : Fr) : Prop :=
  (l = -1 ∧ f = ⟨0, 0, 0, 0, 0⟩ ∧ ∀ (t : Nat) (g : Fr), q ≤ t → fs[t]? = some g → ¬ g.st = 0) ∨ (∃ n : Nat, l = n ∧ q ≤ n ∧ fs[n]? = some f ∧ f.st = 0 ∧ ∀ (t : Nat) (g : Fr), q ≤ t → t < n → fs[t]? = some g → ¬ g.st = 0)
theorem Lowest.start (fs : List Fr) {k : Nat} (hk : fs.length = k) : Lowest fs k (-1) ⟨0, 0, 0, 0, 0⟩ := .inl ⟨rfl, rfl, fun t g h e => by have := lt_of_get e; omega⟩
theorem Lowest.hit {fs : List Fr} {q : Nat} {g : Fr} (hg : fs[q]? = some g) (h0 : g.st = 0) : Lowest fs q q g := .inr ⟨q, rfl, Nat.le_refl _, hg, h0, fun t g h1 h2 => by omega⟩
theorem Lowest.miss {fs : List Fr} {q : Nat} {l : Int} {f g : Fr} (h : Lowest fs (q + 1) l f) (hg : fs[q]? = some g) (h0 : ¬ g.st = 0) : Lowest fs q l f := by
  rcases h with ⟨e1, e2, e3⟩ | ⟨n, e1, e2, e3, e4, e5⟩
  · refine .inl ⟨e1, e2, fun t g' h1 h2 => ?_⟩
    by_cases e : t = q
    · subst e; rw [hg] at h2; cases h2; exact h0
    · exact e3 t g' (by omega) h2
  · refine .inr ⟨n, e1, by omega, e3, e4, fun t g' h1 h2 h3 => ?_⟩
    by_cases e : t = q
    · subst e; rw [hg] at h3; cases h3; exact h0
    · exact e5 t g' (by omega) h2 h3
theorem Lowest.take {fs : List Fr} {l : Int} {f : Fr} (h : Lowest fs 0 l f) {n : Int} (hn : 0 ≤ n) : (l = -1 ∧ takeS fs n = (0, 2, fs)) ∨ ∃ m : Nat, l = m ∧ fs[m]? = some f ∧ takeS fs n = ((m : Int), 0, fs.set m ⟨1, n, f.gen + 1, 0, 0⟩) := by
  rcases h with ⟨e1, _, e3⟩ | ⟨m, e1, _, e3, e4, e5⟩
  · exact .inl ⟨e1, takeS_full hn (fun t g => e3 t g (Nat.zero_le _))⟩
  · exact .inr ⟨m, e1, e3, takeS_at hn e3 e4 (fun t g h => e5 t g (Nat.zero_le _) h)⟩

theorem keeps_cases {f g : Fr} {K : Int} (h : Keeps f g) (ff : f.Fine K) :
    (g.gen = f.gen + 1 ∧ f.st = 0 ∧ f.pins ≤ 0) ∨ (g.gen = f.gen ∧ f.pins ≤ 0) ∨ (g.gen = f.gen ∧ f.pins = 1 ∧ ¬ g.st = 0 ∧ g.blk = f.blk) ∨ (g.gen = f.gen ∧ f.pins = 1 ∧ g.st = 0 ∧ g.blk = f.blk) ∨ (g.gen = f.gen ∧ f.pins = 1 ∧ g.st = 0 ∧ ¬ g.blk = f.blk) ∨ (g.gen = f.gen ∧ 1 < f.pins ∧ ¬ g.st = 0 ∧ g.blk = f.blk) := by
  obtain ⟨h1, h2, h3, h4, h5⟩ := h
  by_cases e : g.gen = f.gen
  · by_cases p0 : f.pins ≤ 0
    · exact .inr (.inl ⟨e, p0⟩)
    · by_cases p1 : 1 < f.pins
      · have z := h4 p1
        exact .inr (.inr (.inr (.inr (.inr ⟨e, p1, z, (h5 (by omega) z).1⟩))))
      · by_cases z : g.st = 0
        · by_cases k : g.blk = f.blk
          · exact .inr (.inr (.inr (.inl ⟨e, by omega, z, k⟩)))
          · exact .inr (.inr (.inr (.inr (.inl ⟨e, by omega, z, k⟩))))
        · exact .inr (.inr (.inl ⟨e, by omega, z, (h5 (by omega) z).1⟩))
  · have z := h3 (by omega)
    exact .inl ⟨by omega, z, by have := (ff.clean z).2.1; omega⟩
end Go.Proofs.Ytllbdkjbcadeoaa
