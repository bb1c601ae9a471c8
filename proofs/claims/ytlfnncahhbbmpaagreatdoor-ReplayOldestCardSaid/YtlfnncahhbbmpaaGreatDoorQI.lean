/- Texts of the layers below, one behind the other. -/
import Derived.Test.YtlfnncahhbbmpaaGreatDoorQC
import Derived.Test.YtlfnncahhbbmpaaGreatDoorQG
import Derived.Test.YtlfnncahhbbmpaaGreatDoorQH
namespace Go.Proofs.YtlfnncahhbbmpaaGreatDoor
open Go.RowKit
set_option linter.unusedVariables false
set_option maxRecDepth 100000

/-- an event: its kind, block, list, count, stream -/
structure Evn where
  k : Int
  b : Int
  l : Int
  n : Int
  s : Int
  deriving DecidableEq
instance : Inhabited Evn := ⟨⟨0, 0, 0, 0, 0⟩⟩
def Evn.cells (e : Evn) : List Value := [.int .i64 e.k, .int .i64 e.b, .int .i64 e.l, .int .i64 e.n, .int .i64 e.s]
theorem evn5 : ∀ e : Evn, e.cells.length = 5 := fun _ => rfl
def Evn.val (e : Evn) : Value := .agg #[.int .i64 e.k, .int .i64 e.b, .int .i64 e.l, .int .i64 e.n, .int .i64 e.s]
/-- what an access comes to: the stream, and what is asked for ahead -/
structure Fnd where
  i : Int
  f : Int
  c : Int
structure Mo where
  o : Opt
  ca : Ca
  t : Tr
  f : Fnd
def Opt.cf (o : Opt) : Cf := ⟨o.b10.toNat, o.b11.toNat, o.b12.toNat, o.b13.toNat, o.b0.toNat⟩
def Mo.cf (m : Mo) : Cf := m.o.cf
def newMo (o : Opt) : Mo := ⟨o, newCa o.b1.toNat o.b2.toNat, ⟨[], [], 0, 0⟩, ⟨0, 0, 0⟩⟩
def Mo.there (m : Mo) (x : Int) : Bool := decide (0 ≤ x) && decide (x < m.o.b0)
def Mo.accB (m : Mo) (e : Evn) : Bool := decide (accC m.cf.blk e.b e.n = 0) && decide ((accI m.cf m.t e.b e.n : Int) = e.s)
def Mo.aheadB (m : Mo) (e : Evn) : Bool := decide (e.s = m.f.i) && decide (m.f.f ≤ e.b) && decide (e.b < m.f.f + m.f.c)
/-- whether an event can be -/
def Mo.can (m : Mo) (e : Evn) : Bool :=
  if e.k = 1 then m.accB e
  else if e.k = 2 then m.ca.hitB e.b e.l
  else if e.k = 3 then hasL e.l
  else if e.k = 4 then m.there e.b && m.ca.enterB e.b e.l
  else if e.k = 5 then m.ca.readyB e.b
  else if e.k = 6 then decide (m.ca.victim = some e.b)
  else if e.k = 7 then m.ca.goneB e.b
  else if e.k = 8 then m.aheadB e
  else if e.k = 9 then m.there e.b && decide (1 ≤ e.s)
  else if e.k = 10 then decide (1 ≤ e.s)
  else if e.k = 11 then decide (1 ≤ e.s)
  else false
/-- what it makes of a model, if it can be -/
def Mo.next (m : Mo) (e : Evn) : Mo :=
  if e.k = 1 then ⟨m.o, m.ca, accS m.cf m.t e.b e.n, ⟨accI m.cf m.t e.b e.n, (accR m.cf m.t e.b e.n).f, (accR m.cf m.t e.b e.n).c⟩⟩
  else if e.k = 2 then ⟨m.o, m.ca.hit e.b e.l, m.t, m.f⟩
  else if e.k = 3 then ⟨m.o, m.ca.missed e.l, m.t, m.f⟩
  else if e.k = 4 then ⟨m.o, m.ca.enter e.b e.l, m.t, m.f⟩
  else if e.k = 5 then ⟨m.o, m.ca.ready e.b, m.t, m.f⟩
  else if e.k = 6 then ⟨m.o, m.ca.gone e.b, m.t, m.f⟩
  else if e.k = 7 then ⟨m.o, m.ca.gone e.b, m.t, m.f⟩
  else if e.k = 10 then ⟨m.o, m.ca, tuneS m.t e.s true, m.f⟩
  else if e.k = 11 then ⟨m.o, m.ca, tuneS m.t e.s false, m.f⟩
  else m
/-- a model, or none: a broken one -/
def stepO (s : Option Mo) (e : Evn) : Option Mo := match s with
  | none => none
  | some m => if m.can e = true then some (m.next e) else none
def codeO (s : Option Mo) : Int := match s with
  | none => 9
  | some _ => 0
def foldO (s : Option Mo) (l : List Evn) : Option Mo := l.foldl stepO s
theorem foldO_none (l : List Evn) : foldO none l = none := by
  induction l with
  | nil => rfl
  | cons a r ih => exact ih
theorem foldO_snoc (s : Option Mo) (l : List Evn) (e : Evn) : foldO s (l ++ [e]) = stepO (foldO s l) e := by
  unfold foldO
  rw [List.foldl_append]
  rfl

/-- a policy over blocks that may be -/
def CaOk (b : Ca) : Prop := (∃ ss c, Bm ss c b) ∧ ∀ x, (x ∈ b.l0 ∨ x ∈ b.l1) → 0 ≤ x ∧ x < 256
structure Mo.Fine (m : Mo) (L : Nat) : Prop where
  may : m.o.mayB = true
  ca : CaOk m.ca
  n : (m.ca.n : Int) = m.o.b1
  bot : (m.ca.bot : Int) = m.o.b2
  t : Fine10 m.cf m.t
  us : m.ca.us.length ≤ L
  uses : m.t.uses ≤ L
  f0 : m.f.i = 0 → m.f.c ≤ 0
  fi : 0 ≤ m.f.i ∧ m.f.i ≤ 1000000
  ff : 0 ≤ m.f.f ∧ m.f.f ≤ 256
  fc : 0 ≤ m.f.c ∧ m.f.c ≤ 256
theorem Mo.Fine.up {m : Mo} {L L' : Nat} (h : m.Fine L) (k : L ≤ L') : m.Fine L' := { h with us := Nat.le_trans h.us k, uses := Nat.le_trans h.uses k }
theorem Opt.cf_ok {o : Opt} (h : o.mayB = true) : o.cf.Ok := by
  have h := of_decide_eq_true h
  simp only [Opt.MayC] at h
  constructor <;> simp only [Opt.cf] <;> omega
theorem Opt.nums {o : Opt} (h : o.mayB = true) : 1 ≤ o.b2.toNat ∧ o.b2.toNat ≤ o.b1.toNat ∧ o.b1.toNat ≤ 64 ∧ (o.b1.toNat : Int) = o.b1 ∧ (o.b2.toNat : Int) = o.b2 ∧ ((o.cf.blk : Nat) : Int) = o.b0 ∧ 1 ≤ o.b0 ∧ o.b0 ≤ 256 := by
  have h := of_decide_eq_true h
  simp only [Opt.MayC] at h
  simp only [Opt.cf]
  omega
theorem newMo_fine {o : Opt} (h : o.mayB = true) : (newMo o).Fine 0 := by
  have n := Opt.nums h
  refine ⟨h, ⟨⟨_, _, Bm.new n.1 n.2.1 n.2.2.1⟩, fun x hx => ?_⟩, n.2.2.2.1, n.2.2.2.2.1, new_fine (Opt.cf_ok h), Nat.le_refl _, Nat.le_refl _, fun _ => Int.le_refl _, ⟨Int.le_refl _, (by omega : (0 : Int) ≤ 1000000)⟩, ⟨Int.le_refl _, (by omega : (0 : Int) ≤ 256)⟩, ⟨Int.le_refl _, (by omega : (0 : Int) ≤ 256)⟩⟩
  rcases hx with hx | hx <;> cases hx
theorem may_askR {g : Fl} {d b : Int} (h : g.May d b) (h1 : 0 ≤ b ∧ b ≤ 256) : 0 ≤ (g.askR b).f ∧ (g.askR b).f ≤ 256 ∧ 0 ≤ (g.askR b).c ∧ (g.askR b).c ≤ 256 := by
  obtain ⟨n, a, p, q⟩ := g
  obtain ⟨k1, k2, k3, k4, k5, k6, k7, k8, k9, k10, k11⟩ := h
  simp only at *
  unfold Fl.askR Fl.room
  split <;> simp only [] <;> omega
theorem may_readR {g : Fl} {n d b : Int} (h : g.May d b) (h1 : 1 ≤ n) (h8 : n ≤ 8) (hb : g.n + n ≤ b) (hb2 : b ≤ 256) : 0 ≤ (g.readR n d b).f ∧ (g.readR n d b).f ≤ 256 ∧ 0 ≤ (g.readR n d b).c ∧ (g.readR n d b).c ≤ 256 := by
  unfold Fl.readR
  rw [if_pos (read_code h h1 h8 hb)]
  have m := moved_may h h1 h8 hb
  have := h.n0
  exact may_askR m ⟨by omega, hb2⟩
theorem Ca.weigh_keeps (b : Ca) : b.weigh.n = b.n ∧ b.weigh.bot = b.bot ∧ b.weigh.l0 = b.l0 ∧ b.weigh.l1 = b.l1 ∧ b.weigh.us = b.us ∧ b.weigh.h = b.h := by
  unfold Ca.weigh
  split <;> exact ⟨rfl, rfl, rfl, rfl, rfl, rfl⟩
theorem Ca.hitW_keeps (b : Ca) (x : Int) : (b.hitW x).n = b.n ∧ (b.hitW x).bot = b.bot ∧ (b.hitW x).l0 = b.l0 ∧ (b.hitW x).l1 = b.l1 ∧ (b.hitW x).us = b.us ∧ (b.hitW x).h = b.h := by
  unfold Ca.hitW
  split
  · exact Ca.weigh_keeps _
  · exact ⟨rfl, rfl, rfl, rfl, rfl, rfl⟩
theorem Ca.missed_keeps (b : Ca) (k : Int) : (b.missed k).n = b.n ∧ (b.missed k).bot = b.bot ∧ (b.missed k).l0 = b.l0 ∧ (b.missed k).l1 = b.l1 ∧ (b.missed k).us = b.us ∧ (b.missed k).h = b.h := by
  unfold Ca.missed
  split
  · exact Ca.weigh_keeps _
  · exact ⟨rfl, rfl, rfl, rfl, rfl, rfl⟩
theorem Ca.front_nb (b : Ca) (x : Int) (k : Nat) : (b.front x k).n = b.n ∧ (b.front x k).bot = b.bot ∧ (b.front x k).us = b.us ++ [x] ∧ (b.front x k).h = b.h := by
  unfold Ca.front
  split <;> exact ⟨rfl, rfl, rfl, rfl⟩
theorem Ca.front_sub (b : Ca) (x : Int) (k : Nat) (y : Int) (h : y ∈ (b.front x k).l0 ∨ y ∈ (b.front x k).l1) : y = x ∨ y ∈ b.l0 ∨ y ∈ b.l1 := by
  unfold Ca.front at h
  split at h
  · rcases h with h | h
    · rcases List.mem_cons.1 h with h | h
      · exact .inl h
      · exact .inr (.inl (List.mem_of_mem_erase h))
    · exact .inr (.inr (List.mem_of_mem_erase h))
  · rcases h with h | h
    · exact .inr (.inl (List.mem_of_mem_erase h))
    · rcases List.mem_cons.1 h with h | h
      · exact .inl h
      · exact .inr (.inr (List.mem_of_mem_erase h))
theorem Ca.inL_mem {b : Ca} {x : Int} (h : b.inL x ≠ -1) : x ∈ b.l0 ∨ x ∈ b.l1 := by
  unfold Ca.inL at h
  split at h
  · exact .inl ‹_›
  · split at h
    · exact .inr ‹_›
    · exact absurd rfl h
theorem Ca.inL_iff {b : Ca} {x : Int} : b.inL x ≠ -1 ↔ x ∈ b.l0 ∨ x ∈ b.l1 := by
  refine ⟨Ca.inL_mem, fun h => ?_⟩
  unfold Ca.inL
  split
  · decide
  · split
    · decide
    · rename_i a c
      exact absurd h (fun q => q.elim a c)
/-- of a block that is in, the frame -/
theorem Bm.frame {ss : List Sd} {c : Sc} {b : Ca} (h : Bm ss c b) {x : Int} (q : b.inL x ≠ -1) : ∃ i, c.inn i ∧ mpF ss i = x := (h.bl.inL_iff x).1 q
theorem CaOk.hit {b : Ca} (h : CaOk b) {x k : Int} (q : b.hitB x k = true) : CaOk (b.hit x k) := by
  unfold Ca.hitB at q
  rw [Bool.and_eq_true, decide_eq_true_eq] at q
  obtain ⟨⟨ss, c, hb⟩, hr⟩ := h
  obtain ⟨i, hi, e⟩ := hb.frame q.2
  have := (hb.hit hi q.1).2
  rw [e] at this
  refine ⟨⟨_, _, this⟩, fun y hy => ?_⟩
  have kp := Ca.hitW_keeps b x
  rcases Ca.front_sub _ _ _ _ hy with rfl | hy
  · exact hr _ (Ca.inL_mem q.2)
  · rw [kp.2.2.1, kp.2.2.2.1] at hy
    exact hr y hy
theorem CaOk.missed {b : Ca} (h : CaOk b) (k : Int) : CaOk (b.missed k) := by
  obtain ⟨⟨ss, c, hb⟩, hr⟩ := h
  refine ⟨⟨_, _, hb.missed k⟩, fun y hy => ?_⟩
  have kp := Ca.missed_keeps b k
  rw [kp.2.2.1, kp.2.2.2.1] at hy
  exact hr y hy
theorem CaOk.enter {b : Ca} (h : CaOk b) {x k : Int} (q : b.enterB x k = true) (h0 : 0 ≤ x ∧ x < 256) : CaOk (b.enter x k) := by
  unfold Ca.enterB at q
  rw [Bool.and_eq_true, Bool.and_eq_true, decide_eq_true_eq] at q
  obtain ⟨⟨q1, q2⟩, q3⟩ := q
  obtain ⟨⟨ss, c, hb⟩, hr⟩ := h
  rw [← hb.free] at q3
  obtain ⟨i, hi⟩ := Option.isSome_iff_exists.1 q3
  obtain ⟨f1, f2, _⟩ := free_of hi
  refine ⟨⟨_, _, (hb.enter f1 f2 q2 q1).2⟩, fun y hy => ?_⟩
  rcases Ca.front_sub b x k.toNat y hy with rfl | hy
  · exact h0
  · exact hr y hy
theorem CaOk.ready {b : Ca} (h : CaOk b) {x : Int} (q : b.readyB x = true) : CaOk (b.ready x) := by
  obtain ⟨⟨ss, c, hb⟩, hr⟩ := h
  have ni : b.inL x ≠ -1 := fun e => by rw [hb.readyB_out e] at q; cases q
  obtain ⟨i, hi, e⟩ := hb.frame ni
  subst e
  rw [hb.readyB_in hi] at q
  exact ⟨⟨_, _, (hb.ready hi q).2⟩, hr⟩
theorem CaOk.gone {b : Ca} (h : CaOk b) {x : Int} (q : b.inL x ≠ -1) : CaOk (b.gone x) := by
  obtain ⟨⟨ss, c, hb⟩, hr⟩ := h
  obtain ⟨i, hi, e⟩ := hb.frame q
  have := hb.gone hi
  rw [e] at this
  exact ⟨⟨_, _, this⟩, fun y hy => hr y (hy.imp List.mem_of_mem_erase List.mem_of_mem_erase)⟩
theorem victim_in19 {b : Ca} (h : CaOk b) {x : Int} (q : b.victim = some x) : b.inL x ≠ -1 ∧ x ∉ b.h := by
  obtain ⟨⟨ss, c, hb⟩, hr⟩ := h
  rw [hb.victim] at q
  cases e : c.victim with
  | none => rw [e] at q; cases q
  | some i =>
    rw [e] at q
    have q := Option.some.inj q
    have hi := victim_inn hb.f e
    refine ⟨(hb.bl.inL_iff x).2 ⟨i, hi, q⟩, fun k => ?_⟩
    rw [← q] at k
    have := (hb.bl.held hb.f hi).1 k
    rw [(victim_in hb.f e).2.2] at this
    cases this
section
variable {m : Mo} {L : Nat}
theorem Mo.Fine.hit (h : m.Fine L) {x k : Int} (q : m.ca.hitB x k = true) : Mo.Fine ⟨m.o, m.ca.hit x k, m.t, m.f⟩ (L + 1) := by
  have k1 := Ca.hitW_keeps m.ca x
  have k2 := Ca.front_nb (m.ca.hitW x) x k.toNat
  refine { h.up (Nat.le_succ L) with ca := h.ca.hit q, n := ?_, bot := ?_, us := ?_ }
  · show (((m.ca.hitW x).front x k.toNat).n : Int) = _
    rw [k2.1, k1.1]; exact h.n
  · show (((m.ca.hitW x).front x k.toNat).bot : Int) = _
    rw [k2.2.1, k1.2.1]; exact h.bot
  · show ((m.ca.hitW x).front x k.toNat).us.length ≤ _
    rw [k2.2.2.1, k1.2.2.2.2.1, List.length_append]
    have := h.us
    simp only [List.length_singleton]
    omega
theorem Mo.Fine.missed (h : m.Fine L) (k : Int) : Mo.Fine ⟨m.o, m.ca.missed k, m.t, m.f⟩ (L + 1) := by
  have k1 := Ca.missed_keeps m.ca k
  refine { h.up (Nat.le_succ L) with ca := h.ca.missed k, n := ?_, bot := ?_, us := ?_ }
  · show ((m.ca.missed k).n : Int) = _
    rw [k1.1]; exact h.n
  · show ((m.ca.missed k).bot : Int) = _
    rw [k1.2.1]; exact h.bot
  · show (m.ca.missed k).us.length ≤ _
    rw [k1.2.2.2.2.1]
    have := h.us
    omega
theorem Mo.Fine.enter (h : m.Fine L) {x k : Int} (t : m.there x = true) (q : m.ca.enterB x k = true) : Mo.Fine ⟨m.o, m.ca.enter x k, m.t, m.f⟩ (L + 1) := by
  have n := Opt.nums h.may
  unfold Mo.there at t
  rw [Bool.and_eq_true, decide_eq_true_eq, decide_eq_true_eq] at t
  have k2 := Ca.front_nb m.ca x k.toNat
  refine { h.up (Nat.le_succ L) with ca := h.ca.enter q ⟨t.1, by omega⟩, n := ?_, bot := ?_, us := ?_ }
  · show ((m.ca.front x k.toNat).n : Int) = _
    rw [k2.1]; exact h.n
  · show ((m.ca.front x k.toNat).bot : Int) = _
    rw [k2.2.1]; exact h.bot
  · show (m.ca.front x k.toNat).us.length ≤ _
    rw [k2.2.2.1, List.length_append]
    have := h.us
    simp only [List.length_singleton]
    omega
theorem Mo.Fine.ready (h : m.Fine L) {x : Int} (q : m.ca.readyB x = true) : Mo.Fine ⟨m.o, m.ca.ready x, m.t, m.f⟩ (L + 1) :=
  { h.up (Nat.le_succ L) with ca := h.ca.ready q }
theorem Mo.Fine.gone (h : m.Fine L) {x : Int} (q : m.ca.inL x ≠ -1) : Mo.Fine ⟨m.o, m.ca.gone x, m.t, m.f⟩ (L + 1) :=
  { h.up (Nat.le_succ L) with ca := h.ca.gone q }
theorem tuneS_uses19 (t : Tr) (x : Int) (b : Bool) : (tuneS t x b).uses = t.uses := by
  unfold tuneS
  split <;> rfl
theorem Mo.Fine.tune (h : m.Fine L) (x : Int) (b : Bool) : Mo.Fine ⟨m.o, m.ca, tuneS m.t x b, m.f⟩ (L + 1) :=
  { h.up (Nat.le_succ L) with t := tuneS_fine h.t x b, uses := by rw [tuneS_uses19]; exact Nat.le_succ_of_le h.uses }
theorem accS_uses19 (c : Cf) (t : Tr) (f n : Int) : (accS c t f n).uses ≤ t.uses + 1 := by
  unfold accS
  split
  · split
    · exact Nat.le_refl _
    · split <;> exact Nat.le_refl _
  · exact Nat.le_succ _
theorem acc_found (c : Cf) (t : Tr) (f n : Int) (h : Fine10 c t) (hb : t.begun ≤ 10000) (hm : accC c.blk f n = 0) :
    ((accI c t f n : Int) = 0 → (accR c t f n).c ≤ 0) ∧ accI c t f n ≤ 100000 ∧ 0 ≤ (accR c t f n).f ∧ (accR c t f n).f ≤ 256 ∧ 0 ≤ (accR c t f n).c ∧ (accR c t f n).c ≤ 256 := by
  have m : mayAcc c.blk f n = true := by
    unfold accC at hm
    split at hm
    · assumption
    · exact absurd hm (by decide)
  obtain ⟨h1, h8, h0, hb2⟩ := mayAcc_iff.1 m
  have bb := h.ok.b256
  unfold accI accR
  rw [if_pos m, if_pos m]
  cases ht : topOf t.ss f with
  | some k =>
    obtain ⟨s, hs, e, _⟩ := top_of ht
    dsimp only
    rw [hs, Option.getD_some]
    have ms := List.mem_of_getElem? hs
    have my := h.may s ms
    have id := h.ids s ms
    have r := may_readR my h1 h8 (by rw [e]; exact hb2) (by omega)
    refine ⟨fun q => ?_, ?_, r⟩
    · have q : ((s.id : Nat) : Int) = 0 := q
      omega
    · show s.id ≤ _
      omega
  | none =>
    dsimp only
    by_cases q : lookB c.size c.life t.es f n = true
    · rw [if_pos q, if_pos q]
      have my : (Fl.start f).May c.deg c.blk := start_may ⟨h.ok.d1, h.ok.d16⟩ ⟨h.ok.b1, h.ok.b256⟩ ⟨h0, by omega⟩
      have r := may_readR my h1 h8 (show (Fl.start f).n + n ≤ _ from hb2) (by omega)
      exact ⟨fun q => by omega, by omega, r⟩
    · rw [if_neg q, if_neg q]
      exact ⟨fun _ => Int.le_refl _, Nat.zero_le _, by decide, by decide, by decide, by decide⟩
theorem Mo.Fine.acc (h : m.Fine L) (hL : L ≤ 1000) {f n : Int} (q : accC m.cf.blk f n = 0) : Mo.Fine ⟨m.o, m.ca, accS m.cf m.t f n, ⟨accI m.cf m.t f n, (accR m.cf m.t f n).f, (accR m.cf m.t f n).c⟩⟩ (L + 1) := by
  have u := h.uses
  have hb := h.t.beg
  have a := acc_found m.cf m.t f n h.t (by omega) q
  exact { h.up (Nat.le_succ L) with t := accS_fine h.t f n, uses := Nat.le_trans (accS_uses19 _ _ _ _) (by have := h.uses; omega), f0 := a.1, fi := ⟨Int.natCast_nonneg _, by have := a.2.1; dsimp only; omega⟩, ff := ⟨a.2.2.1, a.2.2.2.1⟩, fc := a.2.2.2.2 }
theorem kind1 {m : Mo} {e : Evn} (h : e.k = 1) : m.can e = m.accB e ∧ m.next e = ⟨m.o, m.ca, accS m.cf m.t e.b e.n, ⟨accI m.cf m.t e.b e.n, (accR m.cf m.t e.b e.n).f, (accR m.cf m.t e.b e.n).c⟩⟩ := by simp [Mo.can, Mo.next, h]
theorem kind2 {m : Mo} {e : Evn} (h : e.k = 2) : m.can e = m.ca.hitB e.b e.l ∧ m.next e = ⟨m.o, m.ca.hit e.b e.l, m.t, m.f⟩ := by simp [Mo.can, Mo.next, h]
theorem kind3 {m : Mo} {e : Evn} (h : e.k = 3) : m.can e = hasL e.l ∧ m.next e = ⟨m.o, m.ca.missed e.l, m.t, m.f⟩ := by simp [Mo.can, Mo.next, h]
theorem kind4 {m : Mo} {e : Evn} (h : e.k = 4) : m.can e = (m.there e.b && m.ca.enterB e.b e.l) ∧ m.next e = ⟨m.o, m.ca.enter e.b e.l, m.t, m.f⟩ := by simp [Mo.can, Mo.next, h]
theorem kind5 {m : Mo} {e : Evn} (h : e.k = 5) : m.can e = m.ca.readyB e.b ∧ m.next e = ⟨m.o, m.ca.ready e.b, m.t, m.f⟩ := by simp [Mo.can, Mo.next, h]
theorem kind6 {m : Mo} {e : Evn} (h : e.k = 6) : m.can e = decide (m.ca.victim = some e.b) ∧ m.next e = ⟨m.o, m.ca.gone e.b, m.t, m.f⟩ := by simp [Mo.can, Mo.next, h]
theorem kind7 {m : Mo} {e : Evn} (h : e.k = 7) : m.can e = m.ca.goneB e.b ∧ m.next e = ⟨m.o, m.ca.gone e.b, m.t, m.f⟩ := by simp [Mo.can, Mo.next, h]
theorem kind8 {m : Mo} {e : Evn} (h : e.k = 8) : m.can e = m.aheadB e ∧ m.next e = m := by simp [Mo.can, Mo.next, h]
theorem kind9 {m : Mo} {e : Evn} (h : e.k = 9) : m.can e = (m.there e.b && decide (1 ≤ e.s)) ∧ m.next e = m := by simp [Mo.can, Mo.next, h]
theorem kind10 {m : Mo} {e : Evn} (h : e.k = 10) : m.can e = decide (1 ≤ e.s) ∧ m.next e = ⟨m.o, m.ca, tuneS m.t e.s true, m.f⟩ := by simp [Mo.can, Mo.next, h]
theorem kind11 {m : Mo} {e : Evn} (h : e.k = 11) : m.can e = decide (1 ≤ e.s) ∧ m.next e = ⟨m.o, m.ca, tuneS m.t e.s false, m.f⟩ := by simp [Mo.can, Mo.next, h]
theorem kind_no {m : Mo} {e : Evn} (h : e.k < 1 ∨ 11 < e.k) : m.can e = false := by
  unfold Mo.can
  rw [if_neg (by omega), if_neg (by omega), if_neg (by omega), if_neg (by omega), if_neg (by omega), if_neg (by omega), if_neg (by omega), if_neg (by omega), if_neg (by omega), if_neg (by omega), if_neg (by omega)]
theorem kinds (k : Int) : k = 1 ∨ k = 2 ∨ k = 3 ∨ k = 4 ∨ k = 5 ∨ k = 6 ∨ k = 7 ∨ k = 8 ∨ k = 9 ∨ k = 10 ∨ k = 11 ∨ (k < 1 ∨ 11 < k) := by omega
theorem Mo.Fine.next (h : m.Fine L) (hL : L ≤ 1000) {e : Evn} (q : m.can e = true) : (m.next e).Fine (L + 1) := by
  rcases kinds e.k with k | k | k | k | k | k | k | k | k | k | k | k
  · obtain ⟨a, b⟩ := kind1 (m := m) k
    rw [b]; rw [a] at q
    exact h.acc hL (of_decide_eq_true (Bool.and_eq_true_iff.1 q).1)
  · obtain ⟨a, b⟩ := kind2 (m := m) k
    rw [b]; rw [a] at q
    exact h.hit q
  · obtain ⟨a, b⟩ := kind3 (m := m) k
    rw [b]
    exact h.missed e.l
  · obtain ⟨a, b⟩ := kind4 (m := m) k
    rw [b]; rw [a] at q
    exact h.enter (Bool.and_eq_true_iff.1 q).1 (Bool.and_eq_true_iff.1 q).2
  · obtain ⟨a, b⟩ := kind5 (m := m) k
    rw [b]; rw [a] at q
    exact h.ready q
  · obtain ⟨a, b⟩ := kind6 (m := m) k
    rw [b]; rw [a] at q
    exact h.gone (victim_in19 h.ca (of_decide_eq_true q)).1
  · obtain ⟨a, b⟩ := kind7 (m := m) k
    rw [b]; rw [a] at q
    exact h.gone (of_decide_eq_true q)
  · rw [(kind8 (m := m) k).2]; exact h.up (Nat.le_succ L)
  · rw [(kind9 (m := m) k).2]; exact h.up (Nat.le_succ L)
  · rw [(kind10 (m := m) k).2]; exact h.tune _ _
  · rw [(kind11 (m := m) k).2]; exact h.tune _ _
  · rw [kind_no k] at q; cases q
theorem Mo.next_o (m : Mo) (e : Evn) : (m.next e).o = m.o := by
  unfold Mo.next
  repeat' split
  all_goals rfl
end
end Go.Proofs.YtlfnncahhbbmpaaGreatDoor
