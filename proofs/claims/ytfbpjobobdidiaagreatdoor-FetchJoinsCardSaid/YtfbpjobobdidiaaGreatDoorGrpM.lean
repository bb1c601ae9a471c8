/- Texts of the layers below, side by side. -/
import Derived.Test.YtfbpjobobdidiaaGreatDoorGrpL
import Derived.Test.YtfbpjobobdidiaaGreatDoorGrpB
import Derived.Test.YtfbpjobobdidiaaGreatDoorGrpC
import Derived.Test.YtfbpjobobdidiaaGreatDoorGrpI
import Derived.Test.YtfbpjobobdidiaaGreatDoorGrpA
import Derived.BigRegion
import Derived.BigQuiet
/- An engine in memory: its parts, each in blocks of a colour of its own. -/
namespace Go.Proofs.YtfbpjobobdidiaaGreatDoor
open Go.RowKit Go.Maps
set_option linter.unusedVariables false
set_option maxRecDepth 100000

def oneU (x : Int) : List Value := [.int .u64 x]
theorem oneU1 (x : Int) : (oneU x).length = 1 := rfl
theorem oneU_one : ∀ y : Int, ∀ u ∈ oneU y, u.oneCell' = true := by
  intro y u hu
  simp only [oneU, List.mem_cons, List.not_mem_nil, or_false] at hu
  rcases hu with rfl; rfl
/-- a slice of uint64s of the call's own -/
abbrev OwnsU (w : World) (base : Nat) (v : Value) (xs : List Int) : Prop := Owns w base 34 1 oneU v xs
/-- where an engine's parts lie -/
structure Loc where
  pl : Nat
  pt : Nat
  bq : Nat
  pg : Nat
  bt : Nat
  bm : Nat
  A : Int → Nat
  B : Int → Value × Value × Value
def ptrTo (g : Nat) : Value := .pointer (some ⟨g, 0, none⟩)
def tkEnt (A : Int → Nat) (t : Tk) : Ent := (t.id, ptrTo (A t.id))
def Mv.val (m : Mv) (v : Value × Value × Value) : Value := .agg #[.int .i64 m.tag, .bool m.wr, .int .i64 m.lo, .int .i64 m.n, v.1, v.2.1, v.2.2]
def mvEnt (B : Int → Value × Value × Value) (m : Mv) : Ent := (m.tag, m.val (B m.tag))
def engCells (X : Loc) (o : Opt) (nt ng : Nat) : Array Value :=
  #[.int .i64 o.b0, .int .i64 o.b1, .int .i64 o.b2, .int .i64 o.b3, .int .i64 o.b4, .int .i64 o.b5, .int .i64 o.b6, .int .i64 o.b7, .int .i64 o.b8, .int .i64 o.b9, .int .i64 o.b10, .int .i64 o.b11, .int .i64 o.b12, .int .i64 o.b13,
    ptrTo X.pl, ptrTo X.pt, ptrTo X.pg, .map (some X.bt), .map (some X.bm), .int .i64 nt, .int .i64 ng]
/-- a move's slices -/
structure MvAt (w : World) (c : Nat → Nat) (v : Value × Value × Value) (m : Mv) : Prop where
  ks : OwnsInts w 0 v.1 m.ks
  vs : OwnsU w 0 v.2.1 m.vs
  fs : OwnsInts w 0 v.2.2 m.fs
  ck : ∀ g, v.1.ownBlock = some g → c g = 8
  cv : ∀ g, v.2.1.ownBlock = some g → c g = 8
  cf : ∀ g, v.2.2.ownBlock = some g → c g = 8
theorem MvAt.keep {w w' : World} {c : Nat → Nat} {v : Value × Value × Value} {m : Mv} (h : MvAt w c v m) {S : Nat → Prop} (o : Only S w w') (hn : ∀ g, c g = 8 → ¬ S g) : MvAt w' c v m :=
  ⟨h.ks.keep o (fun g hg => hn g (h.ck g hg)), h.vs.keep o (fun g hg => hn g (h.cv g hg)), h.fs.keep o (fun g hg => hn g (h.cf g hg)), h.ck, h.cv, h.cf⟩
theorem MvAt.colour {w : World} {c c' : Nat → Nat} {v : Value × Value × Value} {m : Mv} (h : MvAt w c v m) (k : ∀ g, g < w.heap.size → c g = 8 → c' g = 8) : MvAt w c' v m :=
  ⟨h.ks, h.vs, h.fs, fun g hg => k g (h.ks.base_le hg).2 (h.ck g hg), fun g hg => k g (h.vs.base_le hg).2 (h.cv g hg), fun g hg => k g (h.fs.base_le hg).2 (h.cf g hg)⟩
/-- turns behind no more than F -/
def TnF (w : World) (X : Loc) (nd na F : Nat) (qs : List Sl) : Prop := ∃ L ps, TnAt w X.pt X.bq nd na L ps ∧ ps.map Pl.sl = qs ∧ L ≤ F
/-- no two moves have their tickets' row in one block with each other's rows -/
def Aside (B : Int → Value × Value × Value) (ms : List Mv) : Prop := ∀ m ∈ ms, ∀ n ∈ ms, m.tag ≠ n.tag → ∀ g, (B m.tag).1.ownBlock = some g → (B n.tag).1.ownBlock ≠ some g ∧ (B n.tag).2.1.ownBlock ≠ some g ∧ (B n.tag).2.2.ownBlock ≠ some g
/-- an engine's parts at block p, whatever each of them has: c tells the blocks of each (1 its own row, 2 lanes, 3 turns, 4 register, 5 the tickets' map, 6 the tickets, 7 the moves' map, 8 the moves' slices) -/
structure EO (w : World) (p : Nat) (c : Nat → Nat) (X : Loc) (F H : Nat) (o : Opt) (nt ng : Nat) (ss : List Sd) (qs : List Sl) (g : List Sx) (te : List Ent) (ks : List Tk) (me : List Ent) (ms : List Mv) : Prop where
  row : Row w p 99 (engCells X o nt ng)
  cp : c p = 1
  ln : Ln w X.pl (fun g => c g = 2) o.b0.toNat (o.b3 + o.b4).toNat ss
  tn : TnF w X o.b3.toNat o.b4.toNat F qs
  ct : c X.pt = 3 ∧ c X.bq = 3
  wg : WG w X.pg (fun g => c g = 4) o.b9.toNat H g
  tm : Mg w X.bt te
  cb : c X.bt = 5
  tk : ∀ t ∈ ks, Row w (X.A t.id) 123 t.cells ∧ c (X.A t.id) = 6
  inj : ∀ s ∈ ks, ∀ t ∈ ks, X.A s.id = X.A t.id → s = t
  mm : Mg w X.bm me
  cm : c X.bm = 7
  mv : ∀ m ∈ ms, MvAt w c (X.B m.tag) m
  ma : Aside X.B ms
  lt : ∀ g, c g ≠ 0 → g < w.heap.size
theorem TnF.keep {w w' : World} {X : Loc} {nd na F : Nat} {qs : List Sl} (h : TnF w X nd na F qs) {S : Nat → Prop} (o : Only S w w') (hp : ¬ S X.pt) (hb : ¬ S X.bq) : TnF w' X nd na F qs := by
  obtain ⟨L, ps, h1, h2, h3⟩ := h
  exact ⟨L, ps, h1.keep o hp hb, h2, h3⟩
section
variable {w w' : World} {p : Nat} {c : Nat → Nat} {X : Loc} {F H : Nat} {o : Opt} {nt ng : Nat} {ss : List Sd} {qs : List Sl} {g : List Sx} {te : List Ent} {ks : List Tk} {me : List Ent} {ms : List Mv}
theorem EO.keep (h : EO w p c X F H o nt ng ss qs g te ks me ms) {S : Nat → Prop} (k : Only S w w') (hn : ∀ g, c g ≠ 0 → ¬ S g) : EO w' p c X F H o nt ng ss qs g te ks me ms where
  row := k.row h.row (hn p (by rw [h.cp]; decide))
  cp := h.cp
  ln := h.ln.keep k (fun g hg => hn g (by rw [hg]; decide))
  tn := h.tn.keep k (hn _ (by rw [h.ct.1]; decide)) (hn _ (by rw [h.ct.2]; decide))
  ct := h.ct
  wg := h.wg.keep k (fun g hg => hn g (by rw [hg]; decide))
  tm := h.tm.keep k (hn _ (by rw [h.cb]; decide))
  cb := h.cb
  tk := fun t ht => ⟨k.row (h.tk t ht).1 (hn _ (by rw [(h.tk t ht).2]; decide)), (h.tk t ht).2⟩
  inj := h.inj
  mm := h.mm.keep k (hn _ (by rw [h.cm]; decide))
  cm := h.cm
  mv := fun m hm => (h.mv m hm).keep k (fun g hg => hn g (by rw [hg]; decide))
  ma := h.ma
  lt := fun g hg => Nat.lt_of_lt_of_le (h.lt g hg) k.size
theorem EO.still (h : EO w p c X F H o nt ng ss qs g te ks me ms) (k : Only none_ w w') : EO w' p c X F H o nt ng ss qs g te ks me ms := h.keep k (fun _ _ s => s)
theorem EO.up (h : EO w p c X F H o nt ng ss qs g te ks me ms) {F' H' : Nat} (k : F ≤ F') (k2 : H ≤ H') : EO w p c X F' H' o nt ng ss qs g te ks me ms :=
  { h with tn := (let ⟨L, ps, h1, h2, h3⟩ := h.tn; ⟨L, ps, h1, h2, Nat.le_trans h3 k⟩), wg := h.wg.up k2 }
/-- the blocks of one part are others now -/
def recol (c : Nat → Nat) (i : Nat) (M : Nat → Prop) [DecidablePred M] (g : Nat) : Nat := if M g then i else if c g = i then 0 else c g
/-- what is coloured is what was, or new -/
def Gw (w : World) (c c' : Nat → Nat) : Prop := ∀ g, c' g ≠ 0 → c g ≠ 0 ∨ w.heap.size ≤ g
theorem Gw.refl (w : World) (c : Nat → Nat) : Gw w c c := fun _ h => .inl h
theorem Gw.trans {w w' : World} {c c' c'' : Nat → Nat} (h : Gw w c c') (k : Gw w' c' c'') (s : w.heap.size ≤ w'.heap.size) : Gw w c c'' := fun g hg => by
  rcases k g hg with q | q
  · exact h g q
  · exact .inr (by omega)
/-- a part's own blocks have turned, and it has new ones -/
theorem recol_other {c : Nat → Nat} {i j : Nat} {M : Nat → Prop} [DecidablePred M] (lt : ∀ g, c g ≠ 0 → g < w.heap.size) (hM : ∀ g, M g → c g = i ∨ w.heap.size ≤ g) (hj : j ≠ i) (j0 : j ≠ 0) (g : Nat) : recol c i M g = j ↔ c g = j := by
  unfold recol
  by_cases m : M g
  · rw [if_pos m]
    constructor
    · intro q; exact absurd q.symm hj
    · intro q
      rcases hM g m with k | k
      · rw [q] at k; exact absurd k hj
      · have := lt g (by rw [q]; exact j0)
        omega
  · rw [if_neg m]
    by_cases k : c g = i
    · rw [if_pos k]
      constructor
      · intro q; exact absurd q.symm j0
      · intro q; rw [q] at k; exact absurd k hj
    · rw [if_neg k]
theorem recol_self {c : Nat → Nat} {i : Nat} {M : Nat → Prop} [DecidablePred M] (i0 : i ≠ 0) (g : Nat) : recol c i M g = i ↔ M g := by
  unfold recol
  by_cases m : M g
  · rw [if_pos m]; exact ⟨fun _ => m, fun _ => rfl⟩
  · rw [if_neg m]
    by_cases k : c g = i
    · rw [if_pos k]; exact ⟨fun q => absurd q.symm i0, fun q => absurd q m⟩
    · rw [if_neg k]; exact ⟨fun q => absurd q k, fun q => absurd q m⟩
theorem recol_gw {c : Nat → Nat} {i : Nat} {M : Nat → Prop} [DecidablePred M] (i0 : i ≠ 0) (hM : ∀ g, M g → c g = i ∨ w.heap.size ≤ g) : Gw w c (recol c i M) := fun g hg => by
  unfold recol at hg
  by_cases m : M g
  · rcases hM g m with k | k
    · exact .inl (by rw [k]; exact i0)
    · exact .inr k
  · rw [if_neg m] at hg
    by_cases k : c g = i
    · rw [if_pos k] at hg; exact absurd rfl hg
    · rw [if_neg k] at hg; exact .inl hg
/-- what a call of the lanes' leaves -/
theorem EO.lanes (h : EO w p c X F H o nt ng ss qs g te ks me ms) {ss' : List Sd} (k : LnTo w X.pl (fun g => c g = 2) o.b0.toNat (o.b3 + o.b4).toNat ss' w') :
    ∃ c', EO w' p c' X F H o nt ng ss' qs g te ks me ms ∧ Gw w c c' ∧ Only (fun g => c g = 2) w w' := by
  classical
  obtain ⟨⟨M, l, hM⟩, o2⟩ := k
  have rc := fun (j : Nat) (hj : j ≠ 2) (j0 : j ≠ 0) (g : Nat) => recol_other (M := M) (i := 2) h.lt hM hj j0 g
  refine ⟨recol c 2 M, ?_, recol_gw (by decide) hM, o2⟩
  have hn : ∀ (j g : Nat), j ≠ 2 → c g = j → ¬ c g = 2 := fun j g hj e q => hj (by rw [← e, q])
  refine { row := o2.row h.row (hn 1 p (by decide) h.cp), cp := (rc 1 (by decide) (by decide) p).2 h.cp, ln := ?_, tn := h.tn.keep o2 (hn 3 _ (by decide) h.ct.1) (hn 3 _ (by decide) h.ct.2), ct := ⟨(rc 3 (by decide) (by decide) _).2 h.ct.1, (rc 3 (by decide) (by decide) _).2 h.ct.2⟩,
           wg := ?_, tm := h.tm.keep o2 (hn 5 _ (by decide) h.cb), cb := (rc 5 (by decide) (by decide) _).2 h.cb, tk := fun t ht => ⟨o2.row (h.tk t ht).1 (hn 6 _ (by decide) (h.tk t ht).2), (rc 6 (by decide) (by decide) _).2 (h.tk t ht).2⟩, inj := h.inj,
           mm := h.mm.keep o2 (hn 7 _ (by decide) h.cm), cm := (rc 7 (by decide) (by decide) _).2 h.cm, mv := fun m hm => ?_, ma := h.ma, lt := fun g hg => ?_ }
  · have e : (fun g => recol c 2 M g = 2) = M := by funext g; exact propext (recol_self (by decide) g)
    rw [e]; exact l
  · have e : (fun g => recol c 2 M g = 4) = fun g => c g = 4 := by funext g; exact propext (rc 4 (by decide) (by decide) g)
    rw [e]; exact h.wg.keep o2 (fun g hg => hn 4 g (by decide) hg)
  · refine ((h.mv m hm).colour (c' := recol c 2 M) (fun g _ q => (rc 8 (by decide) (by decide) g).2 q)).keep o2 (fun g hg => hn 8 g (by decide) ((rc 8 (by decide) (by decide) g).1 hg))
  · obtain ⟨r, b, vs, ll⟩ := l
    by_cases m : M g
    · exact ll.lt g m
    · unfold recol at hg
      rw [if_neg m] at hg
      by_cases q : c g = 2
      · rw [if_pos q] at hg; exact absurd rfl hg
      · rw [if_neg q] at hg
        exact Nat.lt_of_lt_of_le (h.lt g hg) o2.size
/-- .. of the register's -/
theorem EO.reg (h : EO w p c X F H o nt ng ss qs g te ks me ms) {g' : List Sx} {H' : Nat} (hF : H ≤ H') (k : WGto w X.pg (fun g => c g = 4) o.b9.toNat H' g' w') :
    ∃ c', EO w' p c' X F H' o nt ng ss qs g' te ks me ms ∧ Gw w c c' ∧ Only (fun g => c g = 4) w w' := by
  classical
  replace h := h.up (Nat.le_refl F) hF
  obtain ⟨⟨M, l, hM⟩, o2⟩ := k
  have rc := fun (j : Nat) (hj : j ≠ 4) (j0 : j ≠ 0) (g : Nat) => recol_other (M := M) (i := 4) h.lt hM hj j0 g
  refine ⟨recol c 4 M, ?_, recol_gw (by decide) hM, o2⟩
  have hn : ∀ (j g : Nat), j ≠ 4 → c g = j → ¬ c g = 4 := fun j g hj e q => hj (by rw [← e, q])
  refine { row := o2.row h.row (hn 1 p (by decide) h.cp), cp := (rc 1 (by decide) (by decide) p).2 h.cp, ln := ?_, tn := h.tn.keep o2 (hn 3 _ (by decide) h.ct.1) (hn 3 _ (by decide) h.ct.2), ct := ⟨(rc 3 (by decide) (by decide) _).2 h.ct.1, (rc 3 (by decide) (by decide) _).2 h.ct.2⟩,
           wg := ?_, tm := h.tm.keep o2 (hn 5 _ (by decide) h.cb), cb := (rc 5 (by decide) (by decide) _).2 h.cb, tk := fun t ht => ⟨o2.row (h.tk t ht).1 (hn 6 _ (by decide) (h.tk t ht).2), (rc 6 (by decide) (by decide) _).2 (h.tk t ht).2⟩, inj := h.inj,
           mm := h.mm.keep o2 (hn 7 _ (by decide) h.cm), cm := (rc 7 (by decide) (by decide) _).2 h.cm, mv := fun m hm => ?_, ma := h.ma, lt := fun g hg => ?_ }
  · have e : (fun g => recol c 4 M g = 2) = fun g => c g = 2 := by funext g; exact propext (rc 2 (by decide) (by decide) g)
    rw [e]; exact h.ln.keep o2 (fun g hg => hn 2 g (by decide) hg)
  · have e : (fun g => recol c 4 M g = 4) = M := by funext g; exact propext (recol_self (by decide) g)
    rw [e]; exact l
  · refine ((h.mv m hm).colour (c' := recol c 4 M) (fun g _ q => (rc 8 (by decide) (by decide) g).2 q)).keep o2 (fun g hg => hn 8 g (by decide) ((rc 8 (by decide) (by decide) g).1 hg))
  · by_cases m : M g
    · exact l.lt g m
    · unfold recol at hg
      rw [if_neg m] at hg
      by_cases q : c g = 4
      · rw [if_pos q] at hg; exact absurd rfl hg
      · rw [if_neg q] at hg
        exact Nat.lt_of_lt_of_le (h.lt g hg) o2.size
/-- .. and what it answered is none of the engine's -/
theorem EO.regV (h : EO w p c X F H o nt ng ss qs g te ks me ms) {g' : List Sx} {H' : Nat} {v : Value} (hF : H ≤ H') (k : WGtoV w X.pg (fun g => c g = 4) o.b9.toNat H' g' v w') (hv : ∀ b, v.ownBlock = some b → c b = 0) :
    ∃ c', EO w' p c' X F H' o nt ng ss qs g' te ks me ms ∧ Gw w c c' ∧ Only (fun g => c g = 4) w w' ∧ ∀ b, v.ownBlock = some b → c' b = 0 := by
  classical
  replace h := h.up (Nat.le_refl F) hF
  obtain ⟨⟨M, l, hM, hV⟩, o2⟩ := k
  have rc := fun (j : Nat) (hj : j ≠ 4) (j0 : j ≠ 0) (g : Nat) => recol_other (M := M) (i := 4) h.lt hM hj j0 g
  refine ⟨recol c 4 M, ?_, recol_gw (by decide) hM, o2, fun b hb => by
    unfold recol
    rw [if_neg (hV b hb), hv b hb]
    rfl⟩
  have hn : ∀ (j g : Nat), j ≠ 4 → c g = j → ¬ c g = 4 := fun j g hj e q => hj (by rw [← e, q])
  refine { row := o2.row h.row (hn 1 p (by decide) h.cp), cp := (rc 1 (by decide) (by decide) p).2 h.cp, ln := ?_, tn := h.tn.keep o2 (hn 3 _ (by decide) h.ct.1) (hn 3 _ (by decide) h.ct.2), ct := ⟨(rc 3 (by decide) (by decide) _).2 h.ct.1, (rc 3 (by decide) (by decide) _).2 h.ct.2⟩,
           wg := ?_, tm := h.tm.keep o2 (hn 5 _ (by decide) h.cb), cb := (rc 5 (by decide) (by decide) _).2 h.cb, tk := fun t ht => ⟨o2.row (h.tk t ht).1 (hn 6 _ (by decide) (h.tk t ht).2), (rc 6 (by decide) (by decide) _).2 (h.tk t ht).2⟩, inj := h.inj,
           mm := h.mm.keep o2 (hn 7 _ (by decide) h.cm), cm := (rc 7 (by decide) (by decide) _).2 h.cm, mv := fun m hm => ?_, ma := h.ma, lt := fun g hg => ?_ }
  · have e : (fun g => recol c 4 M g = 2) = fun g => c g = 2 := by funext g; exact propext (rc 2 (by decide) (by decide) g)
    rw [e]; exact h.ln.keep o2 (fun g hg => hn 2 g (by decide) hg)
  · have e : (fun g => recol c 4 M g = 4) = M := by funext g; exact propext (recol_self (by decide) g)
    rw [e]; exact l
  · refine ((h.mv m hm).colour (c' := recol c 4 M) (fun g _ q => (rc 8 (by decide) (by decide) g).2 q)).keep o2 (fun g hg => hn 8 g (by decide) ((rc 8 (by decide) (by decide) g).1 hg))
  · by_cases m : M g
    · exact l.lt g m
    · unfold recol at hg
      rw [if_neg m] at hg
      by_cases q : c g = 4
      · rw [if_pos q] at hg; exact absurd rfl hg
      · rw [if_neg q] at hg
        exact Nat.lt_of_lt_of_le (h.lt g hg) o2.size
/-- .. of the turns' -/
theorem EO.turns (h : EO w p c X F H o nt ng ss qs g te ks me ms) {qs' : List Sl} {F' : Nat} (hF : F ≤ F') (k : TnF w' X o.b3.toNat o.b4.toNat F' qs') (o2 : Only (two12 X.pt X.bq) w w') :
    EO w' p c X F' H o nt ng ss qs' g te ks me ms := by
  replace h := h.up hF (Nat.le_refl H)
  have hn : ∀ (j g : Nat), j ≠ 3 → c g = j → ¬ two12 X.pt X.bq g := fun j g hj e q => hj (by rcases q with q | q; exact (by rw [← e, q]; exact h.ct.1); exact (by rw [← e, q]; exact h.ct.2))
  exact { row := o2.row h.row (hn 1 p (by decide) h.cp), cp := h.cp, ln := h.ln.keep o2 (fun g hg => hn 2 g (by decide) hg), tn := k, ct := h.ct, wg := h.wg.keep o2 (fun g hg => hn 4 g (by decide) hg), tm := h.tm.keep o2 (hn 5 _ (by decide) h.cb), cb := h.cb,
          tk := fun t ht => ⟨o2.row (h.tk t ht).1 (hn 6 _ (by decide) (h.tk t ht).2), (h.tk t ht).2⟩, inj := h.inj, mm := h.mm.keep o2 (hn 7 _ (by decide) h.cm), cm := h.cm, mv := fun m hm => (h.mv m hm).keep o2 (fun g hg => hn 8 g (by decide) hg),
          ma := h.ma, lt := fun g hg => Nat.lt_of_lt_of_le (h.lt g hg) o2.size }
/-- the tickets' map is another one -/
theorem EO.tmap (h : EO w p c X F H o nt ng ss qs g te ks me ms) {te' : List Ent} (k : Mg w' X.bt te') (o2 : Only (fun k => k = X.bt) w w') : EO w' p c X F H o nt ng ss qs g te' ks me ms := by
  have hn : ∀ (j g : Nat), j ≠ 5 → c g = j → ¬ g = X.bt := fun j g hj e q => hj (by rw [← e, q]; exact h.cb)
  exact { row := o2.row h.row (hn 1 p (by decide) h.cp), cp := h.cp, ln := h.ln.keep o2 (fun g hg => hn 2 g (by decide) hg), tn := h.tn.keep o2 (hn 3 _ (by decide) h.ct.1) (hn 3 _ (by decide) h.ct.2), ct := h.ct, wg := h.wg.keep o2 (fun g hg => hn 4 g (by decide) hg), tm := k, cb := h.cb,
          tk := fun t ht => ⟨o2.row (h.tk t ht).1 (hn 6 _ (by decide) (h.tk t ht).2), (h.tk t ht).2⟩, inj := h.inj, mm := h.mm.keep o2 (hn 7 _ (by decide) h.cm), cm := h.cm, mv := fun m hm => (h.mv m hm).keep o2 (fun g hg => hn 8 g (by decide) hg),
          ma := h.ma, lt := fun g hg => Nat.lt_of_lt_of_le (h.lt g hg) o2.size }
/-- the moves' map is another one -/
theorem EO.mmap (h : EO w p c X F H o nt ng ss qs g te ks me ms) {me' : List Ent} (k : Mg w' X.bm me') (o2 : Only (fun k => k = X.bm) w w') : EO w' p c X F H o nt ng ss qs g te ks me' ms := by
  have hn : ∀ (j g : Nat), j ≠ 7 → c g = j → ¬ g = X.bm := fun j g hj e q => hj (by rw [← e, q]; exact h.cm)
  exact { row := o2.row h.row (hn 1 p (by decide) h.cp), cp := h.cp, ln := h.ln.keep o2 (fun g hg => hn 2 g (by decide) hg), tn := h.tn.keep o2 (hn 3 _ (by decide) h.ct.1) (hn 3 _ (by decide) h.ct.2), ct := h.ct, wg := h.wg.keep o2 (fun g hg => hn 4 g (by decide) hg), tm := h.tm.keep o2 (hn 5 _ (by decide) h.cb), cb := h.cb,
          tk := fun t ht => ⟨o2.row (h.tk t ht).1 (hn 6 _ (by decide) (h.tk t ht).2), (h.tk t ht).2⟩, inj := h.inj, mm := k, cm := h.cm, mv := fun m hm => (h.mv m hm).keep o2 (fun g hg => hn 8 g (by decide) hg),
          ma := h.ma, lt := fun g hg => Nat.lt_of_lt_of_le (h.lt g hg) o2.size }
/-- the engine's own row is another one -/
theorem EO.own (h : EO w p c X F H o nt ng ss qs g te ks me ms) {nt' ng' : Nat} (k : Row w' p 99 (engCells X o nt' ng')) (o2 : Only (fun k => k = p) w w') : EO w' p c X F H o nt' ng' ss qs g te ks me ms := by
  have hn : ∀ (j g : Nat), j ≠ 1 → c g = j → ¬ g = p := fun j g hj e q => hj (by rw [← e, q]; exact h.cp)
  exact { row := k, cp := h.cp, ln := h.ln.keep o2 (fun g hg => hn 2 g (by decide) hg), tn := h.tn.keep o2 (hn 3 _ (by decide) h.ct.1) (hn 3 _ (by decide) h.ct.2), ct := h.ct, wg := h.wg.keep o2 (fun g hg => hn 4 g (by decide) hg), tm := h.tm.keep o2 (hn 5 _ (by decide) h.cb), cb := h.cb,
          tk := fun t ht => ⟨o2.row (h.tk t ht).1 (hn 6 _ (by decide) (h.tk t ht).2), (h.tk t ht).2⟩, inj := h.inj, mm := h.mm.keep o2 (hn 7 _ (by decide) h.cm), cm := h.cm, mv := fun m hm => (h.mv m hm).keep o2 (fun g hg => hn 8 g (by decide) hg),
          ma := h.ma, lt := fun g hg => Nat.lt_of_lt_of_le (h.lt g hg) o2.size }
/-- one ticket's row is another one -/
theorem EO.tick (h : EO w p c X F H o nt ng ss qs g te ks me ms) {t : Tk} (ht : t ∈ ks) (f : Tk → Tk) (hf : ∀ s, (f s).id = s.id) (k : Row w' (X.A t.id) 123 (f t).cells) (o2 : Only (fun k => k = X.A t.id) w w') :
    EO w' p c X F H o nt ng ss qs g te (upd ks t.id f) me ms := by
  have ct := (h.tk t ht).2
  have hn : ∀ (j g : Nat), j ≠ 6 → c g = j → ¬ g = X.A t.id := fun j g hj e q => hj (by rw [← e, q]; exact ct)
  have iff : ∀ s ∈ ks, ((if s.id = t.id then f s else s).id = s.id) := fun s _ => by split; exact hf s; rfl
  refine { row := o2.row h.row (hn 1 p (by decide) h.cp), cp := h.cp, ln := h.ln.keep o2 (fun g hg => hn 2 g (by decide) hg), tn := h.tn.keep o2 (hn 3 _ (by decide) h.ct.1) (hn 3 _ (by decide) h.ct.2), ct := h.ct, wg := h.wg.keep o2 (fun g hg => hn 4 g (by decide) hg), tm := h.tm.keep o2 (hn 5 _ (by decide) h.cb), cb := h.cb,
           tk := fun s hs => ?_, inj := fun s hs u hu e => ?_, mm := h.mm.keep o2 (hn 7 _ (by decide) h.cm), cm := h.cm, mv := fun m hm => (h.mv m hm).keep o2 (fun g hg => hn 8 g (by decide) hg),
           ma := h.ma, lt := fun g hg => Nat.lt_of_lt_of_le (h.lt g hg) o2.size }
  · obtain ⟨s, hs', rfl⟩ := List.mem_map.1 hs
    replace hs := hs'
    rw [iff s hs]
    refine ⟨?_, (h.tk s hs).2⟩
    by_cases e : s.id = t.id
    · have : s = t := h.inj s hs t ht (by rw [e])
      rw [if_pos e, this]
      exact k
    · rw [if_neg e]
      exact o2.row (h.tk s hs).1 (fun q => e (by rw [h.inj s hs t ht q]))
  · obtain ⟨s, hs', rfl⟩ := List.mem_map.1 hs
    obtain ⟨u, hu', rfl⟩ := List.mem_map.1 hu
    replace hs := hs'
    replace hu := hu'
    rw [iff s hs, iff u hu] at e
    rw [h.inj s hs u hu e]
/-- fewer tickets are looked at -/
theorem EO.less (h : EO w p c X F H o nt ng ss qs g te ks me ms) {ks' : List Tk} (k : ∀ t ∈ ks', t ∈ ks) : EO w p c X F H o nt ng ss qs g te ks' me ms :=
  { h with tk := fun t ht => h.tk t (k t ht), inj := fun s hs u hu e => h.inj s (k s hs) u (k u hu) e }
theorem EO.fewer (h : EO w p c X F H o nt ng ss qs g te ks me ms) {ms' : List Mv} (k : ∀ t ∈ ms', t ∈ ms) : EO w p c X F H o nt ng ss qs g te ks me ms' :=
  { h with mv := fun t ht => h.mv t (k t ht), ma := fun s hs u hu => h.ma s (k s hs) u (k u hu) }
def setI {α : Type} (f : Int → α) (x : Int) (a : α) : Int → α := fun y => if y = x then a else f y
def setN (f : Nat → Nat) (x : Nat) (a : Nat) : Nat → Nat := fun y => if y = x then a else f y
/-- a new ticket -/
theorem EO.born (h : EO w p c X F H o nt ng ss qs g te ks me ms) {t : Tk} (hk : ∀ s ∈ ks, s.id ≠ t.id) :
    EO (w.alloc (.cells t.cells 123)) p (setN c w.heap.size 6) { X with A := setI X.A t.id w.heap.size } F H o nt ng ss qs g te (ks ++ [t]) me ms := by
  have o2 : Only none_ w (w.alloc (.cells t.cells 123)) := (Only.refl _ _).alloc _
  have c0 : c w.heap.size = 0 := Classical.byContradiction fun q => by have := h.lt _ q; omega
  have rc : ∀ (j : Nat), j ≠ 6 → j ≠ 0 → ∀ g, setN c w.heap.size 6 g = j ↔ c g = j := fun j hj j0 g => by
    unfold setN
    by_cases e : g = w.heap.size
    · rw [if_pos e, e, c0]; exact ⟨fun q => absurd q.symm hj, fun q => absurd q.symm j0⟩
    · rw [if_neg e]
  have hA : ∀ s ∈ ks, setI X.A t.id w.heap.size s.id = X.A s.id := fun s hs => if_neg (hk s hs)
  have hl : ∀ s ∈ ks, X.A s.id < w.heap.size := fun s hs => (h.tk s hs).1.lt
  have q := h.still o2
  refine { row := q.row, cp := (rc 1 (by decide) (by decide) _).2 h.cp, ln := ?_, tn := q.tn, ct := ⟨(rc 3 (by decide) (by decide) _).2 h.ct.1, (rc 3 (by decide) (by decide) _).2 h.ct.2⟩, wg := ?_, tm := q.tm, cb := (rc 5 (by decide) (by decide) _).2 h.cb,
           tk := fun s hs => ?_, inj := fun s hs u hu e => ?_, mm := q.mm, cm := (rc 7 (by decide) (by decide) _).2 h.cm, mv := fun m hm => (q.mv m hm).colour (fun g _ k => (rc 8 (by decide) (by decide) g).2 k), ma := h.ma, lt := fun g hg => ?_ }
  · have e : (fun g => setN c w.heap.size 6 g = 2) = fun g => c g = 2 := by funext g; exact propext (rc 2 (by decide) (by decide) g)
    rw [e]; exact q.ln
  · have e : (fun g => setN c w.heap.size 6 g = 4) = fun g => c g = 4 := by funext g; exact propext (rc 4 (by decide) (by decide) g)
    rw [e]; exact q.wg
  · rcases List.mem_append.1 hs with hs | hs
    · rw [show ({ X with A := setI X.A t.id w.heap.size } : Loc).A s.id = X.A s.id from hA s hs]
      refine ⟨(q.tk s hs).1, ?_⟩
      unfold setN
      rw [if_neg (by have := hl s hs; omega)]
      exact (h.tk s hs).2
    · rw [List.mem_singleton.1 hs, show ({ X with A := setI X.A t.id w.heap.size } : Loc).A t.id = w.heap.size from if_pos rfl]
      exact ⟨Row.fresh _ _ _, if_pos rfl⟩
  · rcases List.mem_append.1 hs with hs | hs <;> rcases List.mem_append.1 hu with hu | hu
    · rw [show ({ X with A := setI X.A t.id w.heap.size } : Loc).A s.id = X.A s.id from hA s hs, show ({ X with A := setI X.A t.id w.heap.size } : Loc).A u.id = X.A u.id from hA u hu] at e
      exact h.inj s hs u hu e
    · rw [List.mem_singleton.1 hu, show ({ X with A := setI X.A t.id w.heap.size } : Loc).A s.id = X.A s.id from hA s hs, show ({ X with A := setI X.A t.id w.heap.size } : Loc).A t.id = w.heap.size from if_pos rfl] at e
      have := hl s hs; omega
    · rw [List.mem_singleton.1 hs, show ({ X with A := setI X.A t.id w.heap.size } : Loc).A u.id = X.A u.id from hA u hu, show ({ X with A := setI X.A t.id w.heap.size } : Loc).A t.id = w.heap.size from if_pos rfl] at e
      have := hl u hu; omega
    · rw [List.mem_singleton.1 hs, List.mem_singleton.1 hu]
  · unfold setN at hg
    by_cases e : g = w.heap.size
    · rw [e]; simp
    · rw [if_neg e] at hg
      have := h.lt g hg
      simp only [World.size_alloc]; omega
end
end Go.Proofs.YtfbpjobobdidiaaGreatDoor


/- An engine in memory whose lanes and map agree on its tickets; what only reads it: has, head, last, and what a ticket tells of itself. -/
namespace Go.Proofs.YtfbpjobobdidiaaGreatDoor
open Go.RowKit Go.Maps
set_option linter.unusedVariables false
set_option maxRecDepth 100000

structure EP (w : World) (p : Nat) (c : Nat → Nat) (X : Loc) (F H : Nat) (ks : List Tk) (E : Eng) : Prop where
  eo : EO w p c X F H E.o E.nt E.ng (E.ts.map Tk.sd) E.qs E.g (E.ts.map (tkEnt X.A)) ks (E.ms.map (mvEnt X.B)) E.ms
  sub : ∀ t ∈ E.ts, t ∈ ks
  may : E.o.MayC
  idr : ∀ t ∈ ks, 1 ≤ t.id ∧ t.id ≤ E.nt
  tag : ∀ m ∈ E.ms, 1 ≤ m.tag ∧ m.tag ≤ E.ng
  few : E.ts.length ≤ 128
  mfew : E.ms.length ≤ 16
  ntH : E.nt ≤ H
  ngH : E.ng ≤ H
  hF : F < 100000000
  hH : H < 1000000
theorem EP.keep {w w' : World} {p : Nat} {c : Nat → Nat} {X : Loc} {F H : Nat} {ks : List Tk} {E : Eng} (h : EP w p c X F H ks E) {S : Nat → Prop} (k : Only S w w') (hn : ∀ g, c g ≠ 0 → ¬ S g) : EP w' p c X F H ks E := { h with eo := h.eo.keep k hn }
theorem EP.still {w w' : World} {p : Nat} {c : Nat → Nat} {X : Loc} {F H : Nat} {ks : List Tk} {E : Eng} (h : EP w p c X F H ks E) (k : Only none_ w w') : EP w' p c X F H ks E := h.keep k (fun _ _ s => s)
theorem EP.less {w : World} {p : Nat} {c : Nat → Nat} {X : Loc} {F H : Nat} {ks ks' : List Tk} {E : Eng} (h : EP w p c X F H ks E) (k : ∀ t ∈ ks', t ∈ ks) (s : ∀ t ∈ E.ts, t ∈ ks') : EP w p c X F H ks' E := { h with eo := h.eo.less k, sub := s, idr := fun t ht => h.idr t (k t ht) }
theorem EP.up {w : World} {p : Nat} {c : Nat → Nat} {X : Loc} {F H : Nat} {ks : List Tk} {E : Eng} (h : EP w p c X F H ks E) {F' H' : Nat} (k : F ≤ F') (k2 : H ≤ H') (b : F' < 100000000) (b2 : H' < 1000000) : EP w p c X F' H' ks E :=
  { h with eo := h.eo.up k k2, ntH := Nat.le_trans h.ntH k2, ngH := Nat.le_trans h.ngH k2, hF := b, hH := b2 }
def optPtr (A : Int → Nat) : Option Tk → Value
  | none => .pointer none
  | some t => ptrTo (A t.id)
theorem at16_tk (A : Int → Nat) (ts : List Tk) (x : Int) : atV (.pointer none) (ts.map (tkEnt A)) x = optPtr A (at16 ts x) := by
  unfold atV at16
  rw [List.find?_map]
  have : ((fun p : Ent => p.1 == x) ∘ tkEnt A) = fun t : Tk => t.id == x := rfl
  rw [this]
  cases ts.find? (fun t => t.id == x) <;> rfl
theorem lane_sd (ts : List Tk) (b : Int) : laneL (ts.map Tk.sd) b = (ts.filter (fun t => t.b == b)).map (·.id) := by
  unfold laneL
  rw [List.filter_map, List.map_map]
  rfl
theorem once_tk {A : Int → Nat} {ts : List Tk} (h : OnceV (ts.map (tkEnt A))) : ts.Pairwise (fun s t => s.id ≠ t.id) := by
  unfold OnceV at h
  rw [List.pairwise_map] at h
  exact h
theorem at16_mem {ts : List Tk} (o : ts.Pairwise (fun s t => s.id ≠ t.id)) {t : Tk} (h : t ∈ ts) : at16 ts t.id = some t := by
  unfold at16
  induction ts with
  | nil => cases h
  | cons a r ih =>
    obtain ⟨o1, o2⟩ := List.pairwise_cons.1 o
    rcases List.mem_cons.1 h with rfl | h'
    · simp
    · rw [List.find?_cons_of_neg (by have := o1 t h'; simpa using this)]
      exact ih o2 h'
theorem at16_none {ts : List Tk} {x : Int} (h : ∀ t ∈ ts, t.id ≠ x) : at16 ts x = none := by
  unfold at16
  rw [List.find?_eq_none]
  intro t ht
  simpa using h t ht
theorem at16_some {ts : List Tk} {x : Int} {t : Tk} (h : at16 ts x = some t) : t ∈ ts ∧ t.id = x := by
  unfold at16 at h
  exact ⟨List.mem_of_find?_eq_some h, by simpa using List.find?_some h⟩
theorem EP.once {w : World} {p : Nat} {c : Nat → Nat} {X : Loc} {F H : Nat} {ks : List Tk} {E : Eng} (h : EP w p c X F H ks E) : E.ts.Pairwise (fun s t => s.id ≠ t.id) := once_tk h.eo.tm.1
theorem head_at {E : Eng} (o : E.ts.Pairwise (fun s t => s.id ≠ t.id)) (h1 : ∀ t ∈ E.ts, 1 ≤ t.id) (b : Int) : at16 E.ts (headI (laneL (E.ts.map Tk.sd) b)) = E.head b := by
  rw [lane_sd]
  unfold Eng.head Eng.lane headI
  cases hl : E.ts.filter (fun t => t.b == b) with
  | nil => exact at16_none (fun t ht => by have := h1 t ht; simp; omega)
  | cons a r =>
    have : a ∈ E.ts := (List.mem_filter.1 (show a ∈ E.ts.filter (fun t => t.b == b) by rw [hl]; simp)).1
    simpa using at16_mem o this
theorem last_at {E : Eng} (o : E.ts.Pairwise (fun s t => s.id ≠ t.id)) (h1 : ∀ t ∈ E.ts, 1 ≤ t.id) (b : Int) : at16 E.ts (lastI (laneL (E.ts.map Tk.sd) b)) = E.last b := by
  rw [lane_sd]
  unfold Eng.last Eng.lane lastI
  rw [List.getLast?_map]
  cases hl : (E.ts.filter (fun t => t.b == b)).getLast? with
  | none => exact at16_none (fun t ht => by have := h1 t ht; simp; omega)
  | some a =>
    have : a ∈ E.ts := (List.mem_filter.1 (List.mem_of_getLast? hl)).1
    simpa using at16_mem o this
theorem head_in {E : Eng} {b : Int} {t : Tk} (h : E.head b = some t) : t ∈ E.ts ∧ t.b = b := by
  have := List.mem_of_head? h
  unfold Eng.lane at this
  simpa using List.mem_filter.1 this
theorem last_in {E : Eng} {b : Int} {t : Tk} (h : E.last b = some t) : t ∈ E.ts ∧ t.b = b := by
  have := List.mem_of_getLast? h
  unfold Eng.lane at this
  simpa using List.mem_filter.1 this
theorem EP.bd {w : World} {p : Nat} {c : Nat → Nat} {X : Loc} {F H : Nat} {ks : List Tk} {E : Eng} (h : EP w p c X F H ks E) : E.o.b0.toNat ≤ 1000 ∧ (E.ts.map Tk.sd).length ≤ 1000 := by
  have := h.may
  have := h.few
  unfold Opt.MayC at *
  rw [List.length_map]
  omega
/-- the engine's own cells -/
theorem EP.cell {w : World} {p : Nat} {c : Nat → Nat} {X : Loc} {F H : Nat} {ks : List Tk} {E : Eng} (h : EP w p c X F H ks E) (i : Nat) : w.cell? ⟨p, i, none⟩ = (engCells X E.o E.nt E.ng)[i]? := h.eo.row.cell i
theorem zeroPtr (w : World) : (zeroValue 118).run Tryz.prog w = .ok (.pointer none) w := by kernel_rfl

section
variable {p : Nat} {c : Nat → Nat} {X : Loc} {F H : Nat} {ks : List Tk} {E : Eng}
theorem ehas_any (b : Int) (w : World) (h : EP w p c X F H ks E) :
    Calls Tryz.prog 62 #[ptrTo p, .int .i64 b] w fun e w' => e = .returned (.bool (E.has b)) ∧ Only none_ w w' := by
  have c0 : w.cell? ⟨p, 0, none⟩ = some (.int .i64 E.o.b0) := h.cell 0
  have RO := Lib.hid (Only.refl none_ w)
  unfold Eng.has ptrTo
  generalize E.o.b0 = n at *
  clear h
  by_cases h1 : 0 ≤ b
  · have d1 : decide (0 ≤ b) = true := decide_eq_true h1
    have EQ := Lib.hid (show decide (0 ≤ b ∧ b < n) = decide (b < n) from by simp [h1])
    clear h1
    go_enter Tryz.func62, Tryz.ntmps62
    go_wp2_with fail
    go_ret
    exact ⟨by rw [EQ.out]; rfl, RO.out⟩
  · have d1 : decide (0 ≤ b) = false := decide_eq_false h1
    have EQ := Lib.hid (show decide (0 ≤ b ∧ b < n) = false from by simp [h1])
    clear h1
    go_enter Tryz.func62, Tryz.ntmps62
    go_wp2_with fail
    go_ret
    exact ⟨by rw [EQ.out]; rfl, RO.out⟩
theorem ehead_any (b : Int) (w : World) (h : EP w p c X F H ks E) :
    Calls Tryz.prog 57 #[ptrTo p, .int .i64 b] w fun e w' => e = .returned (optPtr X.A (E.head b)) ∧ Only none_ w w' := by
  have c14 : w.cell? ⟨p, 14, none⟩ = some (.pointer (some ⟨X.pl, 0, none⟩)) := h.cell 14
  have c17 : w.cell? ⟨p, 17, none⟩ = some (.map (some X.bt)) := h.cell 17
  have HA := Lib.hid (head_at h.once (fun t ht => (h.idr t (h.sub t ht)).1) b)
  have LH := Lib.hid (lhead_any b w h.eo.ln h.bd.1 h.bd.2)
  have wx : (Lit.int .i64 (headI (laneL (E.ts.map Tk.sd) b))).wf = true := by
    rw [lane_sd]
    unfold headI
    cases hl : (E.ts.filter (fun t => t.b == b)).map (·.id) with
    | nil => decide
    | cons a r =>
      obtain ⟨t, ht, rfl⟩ := List.mem_map.1 (show a ∈ (E.ts.filter (fun t => t.b == b)).map (·.id) by rw [hl]; simp)
      have := h.idr t (h.sub t (List.mem_filter.1 ht).1)
      have := h.ntH; have := h.hH
      exact wf_i _ (by simp; omega)
  have LK := h.eo.tm.look Tryz.underlying96 (zeroPtr w) wx
  rw [at16_tk] at LK
  rw [← HA.out]
  unfold ptrTo
  generalize headI (laneL (E.ts.map Tk.sd) b) = x at *
  generalize someB (laneL (E.ts.map Tk.sd) b) = y at *
  generalize optPtr X.A (at16 E.ts x) = z at *
  clear h HA wx
  go_enter Tryz.func57, Tryz.ntmps57
  go_wp2_with fail
  (with_reducible refine (LH.out).mono ?_)
  rintro e w' ⟨rfl, rfl⟩
  go_wp2_with fail
  go_ret
  exact ⟨rfl, Only.refl _ _⟩
theorem elast_any (b : Int) (w : World) (h : EP w p c X F H ks E) :
    Calls Tryz.prog 65 #[ptrTo p, .int .i64 b] w fun e w' => e = .returned (optPtr X.A (E.last b)) ∧ Only none_ w w' := by
  have c14 : w.cell? ⟨p, 14, none⟩ = some (.pointer (some ⟨X.pl, 0, none⟩)) := h.cell 14
  have c17 : w.cell? ⟨p, 17, none⟩ = some (.map (some X.bt)) := h.cell 17
  have HA := Lib.hid (last_at h.once (fun t ht => (h.idr t (h.sub t ht)).1) b)
  have LH := Lib.hid (llast_any b w h.eo.ln h.bd.1 h.bd.2)
  have wx : (Lit.int .i64 (lastI (laneL (E.ts.map Tk.sd) b))).wf = true := by
    rw [lane_sd]
    unfold lastI
    cases hl : ((E.ts.filter (fun t => t.b == b)).map (·.id)).getLast? with
    | none => decide
    | some a =>
      obtain ⟨t, ht, rfl⟩ := List.mem_map.1 (List.mem_of_getLast? hl)
      have := h.idr t (h.sub t (List.mem_filter.1 ht).1)
      have := h.ntH; have := h.hH
      exact wf_i _ (by simp; omega)
  have LK := h.eo.tm.look Tryz.underlying96 (zeroPtr w) wx
  rw [at16_tk] at LK
  rw [← HA.out]
  unfold ptrTo
  generalize lastI (laneL (E.ts.map Tk.sd) b) = x at *
  generalize someB (laneL (E.ts.map Tk.sd) b) = y at *
  generalize optPtr X.A (at16 E.ts x) = z at *
  clear h HA wx
  go_enter Tryz.func65, Tryz.ntmps65
  go_wp2_with fail
  (with_reducible refine (LH.out).mono ?_)
  rintro e w' ⟨rfl, rfl⟩
  go_wp2_with fail
  go_ret
  exact ⟨rfl, Only.refl _ _⟩
end

/-! ### what a ticket tells of itself -/
theorem ejoin_any (A : Int → Nat) (o : Option Tk) (w : World) (h : ∀ t, o = some t → Row w (A t.id) 123 t.cells) :
    Calls Tryz.prog 66 #[optPtr A o] w fun e w' => e = .returned (.bool (joins o)) ∧ Only none_ w w' := by
  have RO := Lib.hid (Only.refl none_ w)
  cases o with
  | none =>
    unfold optPtr
    go_enter Tryz.func66, Tryz.ntmps66
    go_wp2_with fail
    go_ret
    exact ⟨rfl, RO.out⟩
  | some t =>
    have r := h t rfl
    obtain ⟨g, hg⟩ : ∃ g, A t.id = g := ⟨_, rfl⟩
    show Calls Tryz.prog 66 #[.pointer (some ⟨A t.id, 0, none⟩)] w fun e w' => e = .returned (.bool (!(t.kind == 2) && !t.cut)) ∧ Only none_ w w'
    rw [hg] at r ⊢
    obtain ⟨id, kind, b, l, tries, out, fr, cut, v⟩ := t
    have c1 : w.cell? ⟨g, 1, none⟩ = some (.int .i64 kind) := r.cell 1
    have c8 : w.cell? ⟨g, 8, none⟩ = some (.bool cut) := r.cell 8
    dsimp only
    clear h r hg
    by_cases k : kind = 2
    · subst k
      go_enter Tryz.func66, Tryz.ntmps66
      go_wp2_with fail
      go_ret
      exact ⟨rfl, RO.out⟩
    · have d1 : (kind != 2) = true := by simpa using k
      have EQ := Lib.hid (show (!(kind == 2) && !cut) = !cut from by simp [k])
      clear k
      go_enter Tryz.func66, Tryz.ntmps66
      go_wp2_with fail
      go_ret
      exact ⟨by rw [EQ.out]; rfl, RO.out⟩
theorem erest_any (A : Int → Nat) (o : Option Tk) (w : World) (h : ∀ t, o = some t → Row w (A t.id) 123 t.cells) :
    Calls Tryz.prog 70 #[optPtr A o] w fun e w' => e = .returned (.bool (rests o)) ∧ Only none_ w w' := by
  have RO := Lib.hid (Only.refl none_ w)
  cases o with
  | none =>
    unfold optPtr
    go_enter Tryz.func70, Tryz.ntmps70
    go_wp2_with fail
    go_ret
    exact ⟨rfl, RO.out⟩
  | some t =>
    have r := h t rfl
    obtain ⟨g, hg⟩ : ∃ g, A t.id = g := ⟨_, rfl⟩
    show Calls Tryz.prog 70 #[.pointer (some ⟨A t.id, 0, none⟩)] w fun e w' => e = .returned (.bool (t.kind == 3 && !t.out)) ∧ Only none_ w w'
    rw [hg] at r ⊢
    obtain ⟨id, kind, b, l, tries, out, fr, cut, v⟩ := t
    have c1 : w.cell? ⟨g, 1, none⟩ = some (.int .i64 kind) := r.cell 1
    have c6 : w.cell? ⟨g, 6, none⟩ = some (.bool out) := r.cell 6
    dsimp only
    clear h r hg
    by_cases k : kind = 3
    · subst k
      go_enter Tryz.func70, Tryz.ntmps70
      go_wp2_with fail
      go_ret
      exact ⟨rfl, RO.out⟩
    · have d1 : (kind == 3) = false := by simpa using k
      have EQ := Lib.hid (show ((kind == 3) && !out) = false from by simp [k])
      clear k
      go_enter Tryz.func70, Tryz.ntmps70
      go_wp2_with fail
      go_ret
      exact ⟨by rw [EQ.out]; rfl, RO.out⟩
theorem eneeds_any (g : Nat) (t : Tk) (w : World) (r : Row w g 123 t.cells) :
    Calls Tryz.prog 58 #[ptrTo g] w fun e w' => e = .returned (.bool t.needs) ∧ Only none_ w w' := by
  have RO := Lib.hid (Only.refl none_ w)
  unfold ptrTo Tk.needs
  obtain ⟨id, kind, b, l, tries, out, fr, cut, v⟩ := t
  have c1 : w.cell? ⟨g, 1, none⟩ = some (.int .i64 kind) := r.cell 1
  have c7 : w.cell? ⟨g, 7, none⟩ = some (.bool fr) := r.cell 7
  dsimp only
  clear r
  by_cases k : kind = 2
  · subst k
    go_enter Tryz.func58, Tryz.ntmps58
    go_wp2_with fail
    go_ret
    exact ⟨rfl, RO.out⟩
  · have d1 : (kind != 2) = true := by simpa using k
    have EQ := Lib.hid (show (!(kind == 2) && !fr) = !fr from by simp [k])
    clear k
    go_enter Tryz.func58, Tryz.ntmps58
    go_wp2_with fail
    go_ret
    exact ⟨by rw [EQ.out]; rfl, RO.out⟩
end Go.Proofs.YtfbpjobobdidiaaGreatDoor

