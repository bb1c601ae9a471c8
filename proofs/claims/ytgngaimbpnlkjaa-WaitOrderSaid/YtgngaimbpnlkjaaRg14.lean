/- The document's own register: in memory; New, who waits, who waits for a ticket. -/
import Derived.Test.YtgngaimbpnlkjaaPl14
import Derived.Test.YtgngaimbpnlkjaaOwn
import Derived.Test.YtgngaimbpnlkjaaArgs
import Derived.Test.YtgngaimbpnlkjaaInt11
import Derived.BigRegion
import Derived.BigQuiet
namespace Go.Proofs.Ytgngaimbpnlkjaa
open Go.RowKit
set_option linter.unusedVariables false

def Wt.val (w : Wt) : Value := .agg #[.int .i64 w.r, .int .i64 w.p]
def Wt.cells (w : Wt) : List Value := [.int .i64 w.r, .int .i64 w.p]
def Sx.cells (s : Sx) : List Value := [.int .i64 s.t, .int .i64 s.w.r, .int .i64 s.w.p]
theorem wt2 (w : Wt) : (Wt.cells w).length = 2 := rfl
theorem sx3 (s : Sx) : (Sx.cells s).length = 3 := rfl
theorem wt_one : ∀ y : Wt, ∀ u ∈ Wt.cells y, u.oneCell' = true := by
  intro y u hu
  simp only [Wt.cells, List.mem_cons, List.not_mem_nil, or_false] at hu
  rcases hu with rfl | rfl <;> rfl
theorem sx_one : ∀ y : Sx, ∀ u ∈ Sx.cells y, u.oneCell' = true := by
  intro y u hu
  simp only [Sx.cells, List.mem_cons, List.not_mem_nil, or_false] at hu
  rcases hu with rfl | rfl | rfl <;> rfl
theorem info_parts {e : TypeId} {z : Value} {n m : Nat} (h : (Try.prog.info? e).map (fun i => (i.zero, i.size, i.bytes)) = some (some z, n, m)) :
    ∃ i : TypeInfo, Try.prog.info? e = some i ∧ i.zero = some z ∧ i.size = n ∧ i.bytes = m := by
  cases hq : Try.prog.info? e with
  | none => simp [hq] at h
  | some i =>
    simp [hq] at h
    exact ⟨i, rfl, h.1, h.2.1, h.2.2⟩
theorem info_wt : (Try.prog.info? 31).map (fun i => (i.zero, i.size, i.bytes)) = some (some (.agg #[.int .i64 0, .int .i64 0]), 2, 16) := by kernel_rfl
theorem info_sx : (Try.prog.info? 58).map (fun i => (i.zero, i.size, i.bytes)) = some (some (.agg #[.int .i64 0, .int .i64 0, .int .i64 0]), 3, 24) := by kernel_rfl
theorem Owns.lower14 {α : Type} {w : World} {base base' : Nat} {e : TypeId} {k : Nat} {c : α → List Value} {v : Value} {xs : List α} (h : Owns w base e k c v xs) (hb : base' ≤ base) : Owns w base' e k c v xs := by
  refine ⟨h.1, ?_⟩
  rcases h.2 with h2 | ⟨g, cap, cur, hv, hg, r⟩
  · exact .inl h2
  · exact .inr ⟨g, cap, cur, hv, Nat.le_trans hb hg, r⟩

/-- a slice of waiters of the call's own -/
abbrev OwnsWt (w : World) (base : Nat) (v : Value) (xs : List Wt) : Prop := Owns w base 31 2 Wt.cells v xs
/-- a slice that reads as these waiters -/
def ReadsW (w : World) (v : Value) (xs : List Wt) : Prop := ∃ a cap, v = .slice a xs.length cap ∧ ∀ (i : Nat) (x : Wt), xs[i]? = some x → ∃ g o, a = some ⟨g, o, none⟩ ∧ w.cell? ⟨g, o + i * 2, none⟩ = some (.int .i64 x.r) ∧ w.cell? ⟨g, o + i * 2 + 1, none⟩ = some (.int .i64 x.p)
theorem ReadsW.of_owns {w : World} {base : Nat} {v : Value} {xs : List Wt} (h : OwnsWt w base v xs) : ReadsW w v xs := by
  rcases h.2 with ⟨hv, h2⟩ | ⟨g, cap, cur, hv, hg, hh, h3, h4, _⟩
  · have : xs = [] := List.eq_nil_of_length_eq_zero h2
    subst this
    exact ⟨none, 0, hv, fun i x hx => by simp at hx⟩
  · subst hv
    refine ⟨_, cap, rfl, fun i r hx => ⟨g, 0, rfl, ?_, ?_⟩⟩
    · have := Owns.cell h wt2 hx (j := 0) (by decide)
      rw [Nat.zero_add]
      simpa [Wt.cells] using this
    · have := Owns.cell h wt2 hx (j := 1) (by decide)
      rw [Nat.zero_add]
      simpa [Wt.cells] using this
theorem ReadsW.still {w w' : World} {v : Value} {xs : List Wt} (h : ReadsW w v xs) (o : Only none_ w w') : ReadsW w' v xs := by
  obtain ⟨a, cap, rfl, hc⟩ := h
  refine ⟨a, cap, rfl, fun i x hx => ?_⟩
  obtain ⟨g, o', rfl, h1, h2⟩ := hc i x hx
  exact ⟨g, o', rfl, o.cell h1 (fun s => s), o.cell h2 (fun s => s)⟩
theorem eq_wt (r s : Wt) (w : World) : (Op.equalIn 10000 31 (.agg #[.int .i64 r.r, .int .i64 r.p]) (.agg #[.int .i64 s.r, .int .i64 s.p])).run Try.prog w = .ok (decide (r = s)) w := by
  have h : decide (r = s) = (r.r == s.r && r.p == s.p) := by
    obtain ⟨a, b⟩ := r
    obtain ⟨a', b'⟩ := s
    rw [Bool.eq_iff_iff]
    simp
  rw [h]
  simp [go_sem]
  by_cases h1 : r.r = s.r <;> by_cases h2 : r.p = s.p <;> simp [h1, h2]

/-- a slice of seats, at a block that is among some -/
def OwnsSx (w : World) (M : Nat → Prop) (v : Value) (ss : List Sx) : Prop := Owns w 0 58 3 Sx.cells v ss ∧ ∀ g, v.ownBlock = some g → M g
theorem OwnsSx.keep {w w' : World} {M : Nat → Prop} {v : Value} {ss : List Sx} (h : OwnsSx w M v ss) {S : Nat → Prop} (o : Only S w w') (hn : ∀ g, M g → ¬ S g) : OwnsSx w' M v ss := ⟨h.1.keep o (fun g hg => hn g (h.2 g hg)), h.2⟩
theorem OwnsSx.form {w : World} {M : Nat → Prop} {v : Value} {ss : List Sx} (h : OwnsSx w M v ss) : ∃ A cap, v = .slice A ss.length cap ∧ Holds w A 3 Sx.cells ss := by
  rcases h.1.2 with ⟨hv, h2⟩ | ⟨g, cap, cur, hv, hg, hh, h3, h4, _⟩
  · have : ss = [] := List.eq_nil_of_length_eq_zero h2
    subst this
    exact ⟨none, 0, hv, fun i a hi => by simp at hi⟩
  · have lt := (Array.getElem?_eq_some_iff.1 hh).1
    have h1 := h.1
    rw [hv] at h1
    refine ⟨_, _, hv, fun i a hi => ⟨g, 0, rfl, lt, fun j v hj => ?_⟩⟩
    rw [Nat.zero_add]
    have hj2 : j < 3 := by have := lt_of_get hj; rw [sx3] at this; exact this
    rw [Owns.cell h1 sx3 hi hj2]
    exact hj
/-- the document's own register at block q; all its blocks are among M -/
structure RG (w : World) (q : Nat) (v : Value) (M : Nat → Prop) (room : Nat) (ss : List Sx) : Prop where
  row : Row w q 45 #[.int .i64 room, v]
  own : OwnsSx w M v ss
  mq : M q
  lt : ∀ g, M g → g < w.heap.size
theorem RG.keep {w w' : World} {q : Nat} {v : Value} {M : Nat → Prop} {room : Nat} {ss : List Sx} (h : RG w q v M room ss) {S : Nat → Prop} (o : Only S w w') (hn : ∀ g, M g → ¬ S g) : RG w' q v M room ss :=
  ⟨o.row h.row (hn q h.mq), h.own.keep o hn, h.mq, fun g hg => Nat.lt_of_lt_of_le (h.lt g hg) o.size⟩
theorem RG.still {w w' : World} {q : Nat} {v : Value} {M : Nat → Prop} {room : Nat} {ss : List Sx} (h : RG w q v M room ss) (o : Only none_ w w') : RG w' q v M room ss := h.keep o (fun _ _ s => s)
/-- behind a call: its blocks are those that it had, and new ones -/
def RGto (w : World) (q : Nat) (M : Nat → Prop) (room : Nat) (ss : List Sx) (w' : World) : Prop := (∃ v, ∃ M' : Nat → Prop, RG w' q v M' room ss ∧ ∀ g, M' g → M g ∨ w.heap.size ≤ g) ∧ Only M w w'
/-- the seats lie elsewhere -/
theorem RG.other {w w' : World} {q : Nat} {v v' : Value} {M : Nat → Prop} {room : Nat} {ss fs : List Sx} (h : RG w q v M room ss) (o : Only none_ w w') (ho : Owns w' w.heap.size 58 3 Sx.cells v' fs) :
    RGto w q M room fs (w'.setCell ⟨q, 1, none⟩ v') := by
  have o2 := (Only.refl (fun k => k = q) w').into rfl 1 v'
  have ql := h.row.lt
  have zz := o.size
  have ng : ∀ g, v'.ownBlock = some g → ¬ g = q := fun g hg k => by have := (ho.base_le hg).1; omega
  refine ⟨⟨v', fun j => M j ∨ (w.heap.size ≤ j ∧ j < w'.heap.size), ⟨(o.still h.row).put 1 v', ⟨(ho.keep o2 ng).lower14 (Nat.zero_le _), fun g hg => .inr (ho.base_le hg)⟩, .inl h.mq, fun g hg => ?_⟩, fun g hg => hg.imp id (·.1)⟩, o.then_ (o2.more (fun i _ k => by rw [k]; exact h.mq))⟩
  simp only [World.setCell]
  have := o2.size
  rcases hg with hg | hg
  · exact Nat.lt_of_lt_of_le (Nat.lt_of_lt_of_le (h.lt g hg) zz) this
  · exact Nat.lt_of_lt_of_le hg.2 this
theorem RG.to {w w' : World} {q : Nat} {v : Value} {M : Nat → Prop} {room : Nat} {ss : List Sx} (h : RG w q v M room ss) (o : Only none_ w w') : RGto w q M room ss w' := ⟨⟨v, M, h.still o, fun g hg => .inl hg⟩, o.more (fun _ _ k => k.elim)⟩
theorem rnew14_any (room : Nat) (w : World) :
    Calls Try.prog 10 #[.int .i64 room] w fun e w' => ∃ q, e = .returned (.pointer (some ⟨q, 0, none⟩)) ∧ (∃ v, ∃ M : Nat → Prop, RG w' q v M room [] ∧ ∀ g, M g → w.heap.size ≤ g) ∧ Only none_ w w' := by
  go_enter Try.func10, Try.ntmps10
  go_wp2_with fail
  go_ret
  have r1 := Row.fresh w 45 #[.int .i64 room, .slice none 0 0]
  have oa := (Only.refl none_ w).alloc (.cells #[.int .i64 room, .slice none 0 0] 45)
  refine ⟨w.heap.size, rfl, ⟨_, fun g => g = w.heap.size, ⟨r1, ⟨Owns.start _ _ _ _ _, fun g hg => by cases hg⟩, rfl, fun g hg => by simp only [World.size_alloc]; omega⟩, fun g hg => by omega⟩, oa⟩

set_option maxHeartbeats 1000000 in
theorem rwaits_any {q : Nat} {v : Value} {M : Nat → Prop} {room : Nat} {ss : List Sx} (x : Wt) (w : World) (h : RG w q v M room ss) (hl : ss.length ≤ 1000) :
    Calls Try.prog 20 #[.pointer (some ⟨q, 0, none⟩), x.val] w fun e w' => e = .returned (.bool (waitsB ss x)) ∧ Only none_ w w' := by
  obtain ⟨A, cap, rfl, ha⟩ := h.own.form
  have HA := Lib.hid ha
  have KC := Lib.hid (fun w' (o : Only none_ w w') => (show w'.cell? ⟨q, 1, none⟩ = some (.slice A ss.length cap) from by rw [(o.still h.row).cell]; rfl))
  clear h ha
  unfold Wt.val
  go_enter Try.func20, Try.ntmps20
  go_wp2_with fail
  have X0 := Lib.hid (Row.fresh w 31 #[.int .i64 x.r, .int .i64 x.p])
  have O0 := Lib.hid ((Only.refl none_ w).alloc (.cells #[.int .i64 x.r, .int .i64 x.p] 31))
  revert X0 O0
  generalize w.alloc (.cells #[.int .i64 x.r, .int .i64 x.p] 31) = W1
  generalize w.heap.size = g
  intro X0 O0
  go_loopw [5] (fun i wr => ∃ k : Nat, k ≤ ss.length ∧ i = .int .i64 k ∧ waitsB (ss.take k) x = false ∧ Row wr g 31 #[.int .i64 x.r, .int .i64 x.p] ∧ Only none_ w wr) (fun i _ => ss.length - (intOf i).toNat)
  case atStart => exact ⟨0, Nat.zero_le _, rfl, rfl, X0.out, O0.out⟩
  case round =>
    obtain ⟨k, hk, rfl, hn, hx, o⟩ := hrel
    have HN := Lib.hid hn
    have X := Lib.hid hx
    have O := Lib.hid o
    have s0 := KC.out _ o
    obtain ⟨x0, x1⟩ := hx.two
    clear hn hx o X0 O0
    by_cases hlt : k < ss.length
    · obtain ⟨y, hy⟩ : ∃ y, ss[k]? = some y := ⟨_, List.getElem?_eq_getElem hlt⟩
      obtain ⟨g1, o1, rfl, lt1, c1⟩ := HA.out k y hy
      have c0 := O.out.cell (c1 1 (.int .i64 y.w.r) rfl) (fun s => s)
      have c2 := O.out.cell (c1 2 (.int .i64 y.w.p) rfl) (fun s => s)
      have e1 : wr.cell? ⟨g1, o1 + k * 3 + 1, none⟩ = some (.int .i64 y.w.r) := by rw [Nat.add_assoc]; exact c0
      have e2 : wr.cell? ⟨g1, o1 + k * 3 + 1 + 1, none⟩ = some (.int .i64 y.w.p) := by rw [show o1 + k * 3 + 1 + 1 = o1 + (k * 3 + 2) by omega]; exact c2
      have er := fun w => eq_wt y.w x w
      have TM := Lib.hid (sxtake hy)
      have HY := Lib.hid hy
      clear hy c1 c0 c2 HA
      by_cases e : y.w = x
      · rw [decide_eq_true e] at er
        have FE := Lib.hid (waits_yes HY.out e)
        clear e
        go_wp2_with fail
        go_quiet (fail)
        go_wp2_with fail
        go_ret
        exact ⟨by rw [FE.out]; try rfl, O.out.drewN _⟩
      · rw [decide_eq_false e] at er
        have NX := Lib.hid (show waitsB (ss.take (k + 1)) x = false from by rw [TM.out, waits_more, HN.out, decide_eq_false e]; rfl)
        clear e
        go_wp2_with fail
        go_quiet (fail)
        go_wp2_with fail
        go_roundw
        case rel => exact ⟨k + 1, by omega, by go_num, NX.out, X.out.drewN _, O.out.drewN _⟩
        case measure => simp [intOf]; omega
    · have hge : ss.length ≤ k := by omega
      have TK := Lib.hid (List.take_of_length_le hge)
      rw [TK.out] at HN
      go_wp2_with fail
      go_ret
      exact ⟨by rw [HN.out]; try rfl, O.out⟩
end Go.Proofs.Ytgngaimbpnlkjaa
