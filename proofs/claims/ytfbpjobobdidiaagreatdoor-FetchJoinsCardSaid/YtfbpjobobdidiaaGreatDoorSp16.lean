/- Reads of blocks one behind the other, plainly: which moves go out. -/
import Derived.Test.YtfbpjobobdidiaaGreatDoorLw16
namespace Go.Proofs.YtfbpjobobdidiaaGreatDoor
open Go.RowKit Go.Maps
set_option linter.unusedVariables false
set_option maxRecDepth 100000
def tkS (a : Int) (m j : Nat) : Tk := ⟨(j : Int) + 1, 1, a + j, 0, 0, decide (j < m), decide (j < m), false, 0⟩
def tsS (a : Int) (n m : Nat) : List Tk := (List.range n).map (tkS a m)
def qsS (n m : Nat) : List Sl := (List.range n).map (fun j : Nat => ⟨(j : Int) + 1, false, decide (m ≤ j)⟩)
def wtS (j : Nat) : Wt := ⟨1 + ((j / 8 : Nat) : Int), ((j % 8 : Nat) : Int)⟩
def gS (n : Nat) : List Sx := (List.range n).map (fun j : Nat => ⟨(j : Int) + 1, wtS j⟩)
def spE (o : Opt) (a : Int) (n m : Nat) (ms : List Mv) (ng : Nat) : Eng := ⟨o, qsS n m, gS n, tsS a n m, ms, n, ng⟩
theorem find_range {n : Nat} {p : Nat → Bool} {j : Nat} (hj : j < n) (h1 : p j = true) (h2 : ∀ i, i < j → p i = false) : (List.range n).find? p = some j := by
  rw [List.find?_range_eq_some]
  exact ⟨h1, List.mem_range.2 hj, fun i hi => by rw [h2 i hi]; rfl⟩
section
variable {o : Opt} {a : Int} {n m : Nat} {ms : List Mv} {ng : Nat}
theorem sp_head {j : Nat} (hj : j < n) : (spE o a n m ms ng).head (a + j) = some (tkS a m j) := by
  unfold Eng.head Eng.lane spE tsS
  dsimp only
  rw [List.head?_filter, List.find?_map]
  rw [find_range (j := j) hj (by simp [tkS]) (fun i hi => by simp [tkS]; omega)]
  rfl
theorem sp_none : (spE o a n m ms ng).last (a + n) = none := by
  unfold Eng.last Eng.lane spE tsS
  dsimp only
  rw [List.filter_eq_nil_iff.2 (fun t ht => by
    obtain ⟨j, hj, rfl⟩ := List.mem_map.1 ht
    have := List.mem_range.1 hj
    simp [tkS]
    omega)]
  rfl
theorem ts_more (a : Int) (n : Nat) : tsS a (n + 1) 0 = tsS a n 0 ++ [tkS a 0 n] := by unfold tsS; rw [List.range_succ, List.map_append]; rfl
theorem qs_more (n : Nat) : qsS (n + 1) 0 = qsS n 0 ++ [⟨(n : Int) + 1, false, true⟩] := by unfold qsS; rw [List.range_succ, List.map_append]; simp
theorem g_more (n : Nat) : gS (n + 1) = gS n ++ [⟨(n : Int) + 1, wtS n⟩] := by unfold gS; rw [List.range_succ, List.map_append]; rfl
theorem upd_map {l : List Nat} {f : Nat → Tk} {x : Int} {g : Tk → Tk} {f' : Nat → Tk} (h : ∀ j ∈ l, (if (f j).id = x then g (f j) else f j) = f' j) : upd (l.map f) x g = l.map f' := by
  unfold upd
  rw [List.map_map]
  exact List.map_congr_left h
theorem sp_read (h0 : 0 ≤ a) (h1 : a + n < o.b0) (h2 : (n : Int) < o.b3) (h3 : (n : Int) < o.b9) :
    (spE o a n 0 ms ng).readC (a + n) 0 (wtS n) = 0 ∧ (spE o a n 0 ms ng).read (a + n) 0 (wtS n) = spE o a (n + 1) 0 ms ng := by
  have hs : (spE o a n 0 ms ng).has (a + n) = true := decide_eq_true ⟨by omega, h1⟩
  have rl : (rowL false (spE o a n 0 ms ng).qs).length = n := by
    show (rowL false (qsS n 0)).length = n
    unfold rowL qsS
    rw [List.filter_eq_self.2 (fun q hq => by obtain ⟨j, _, rfl⟩ := List.mem_map.1 hq; rfl), List.length_map, List.length_range]
  have gl : (spE o a n 0 ms ng).g.length = n := by show (gS n).length = n; unfold gS; rw [List.length_map, List.length_range]
  have mp : mayP (wtS n) := by unfold mayP wtS; dsimp only; omega
  have nw : waitsB (spE o a n 0 ms ng).g (wtS n) = false := by
    show waitsB (gS n) (wtS n) = false
    cases q : waitsB (gS n) (wtS n) with
    | false => rfl
    | true =>
      unfold waitsB at q
      rw [List.any_eq_true] at q
      obtain ⟨x, hx, e⟩ := q
      obtain ⟨j, hj, rfl⟩ := List.mem_map.1 hx
      have := List.mem_range.1 hj
      have e2 : wtS j = wtS n := by simpa using e
      unfold wtS at e2
      simp only [Wt.mk.injEq] at e2
      omega
  have rc : (spE o a n 0 ms ng).readC (a + n) 0 (wtS n) = 0 := by
    unfold Eng.readC
    rw [if_pos ⟨hs, .inl rfl⟩]
    unfold Eng.refC
    rw [if_pos mp, nw, if_neg (by decide), if_neg]
    unfold Eng.fw Eng.fd
    rw [rl, gl]
    show ¬ (o.b9 - (n : Int) = 0 ∨ _ ∧ o.b3 - (n : Int) = 0)
    omega
  refine ⟨rc, ?_⟩
  have jn : joins ((spE o a n 0 ms ng).last (a + n)) = false := by rw [sp_none]; rfl
  have rt : (spE o a n 0 ms ng).readT (a + n) = (n : Int) + 1 := by
    unfold Eng.readT
    rw [jn, if_neg (by decide)]
    rfl
  have rb : (spE o a n 0 ms ng).readB (a + n) = (spE o a n 0 ms ng).enter 1 (a + n) := by
    unfold Eng.readB
    rw [jn, if_neg (by decide)]
  unfold Eng.read
  rw [if_pos rc, rt, rb]
  unfold Eng.add Eng.upd Eng.enter
  have t1 : (spE o a n 0 ms ng).ts ++ [(spE o a n 0 ms ng).new 1 (a + n)] = tsS a (n + 1) 0 := by
    rw [ts_more]
    show tsS a n 0 ++ [_] = _
    unfold Eng.new tkS spE
    simp
  have t2 : upd (tsS a (n + 1) 0) ((n : Int) + 1) (Tk.list 0) = tsS a (n + 1) 0 := upd_map (fun j _ => by split <;> rfl)
  dsimp only
  rw [t1, t2]
  unfold spE
  rw [qs_more, g_more]
  simp
/-- a run grows upwards as far as it may -/
theorem grow_top {R N : Int → Bool} {lo top : Int} (hR : ∀ x, R x = decide (lo ≤ x ∧ x < top)) : ∀ (j : Nat) (hi room : Int), lo ≤ hi → hi < top → (j : Int) ≤ room → grow R N j lo hi room = (lo, min (hi + j) (top - 1))
  | 0, hi, room, h1, h2, h3 => by
    show (lo, hi) = _
    rw [show min (hi + ((0 : Nat) : Int)) (top - 1) = hi by omega]
  | j + 1, hi, room, h1, h2, h3 => by
    have cost : costB N (hi + 1) ≤ 1 := by rcases costB_cases N (hi + 1) with ⟨_, e⟩ | ⟨_, e⟩ <;> rw [e] <;> omega
    by_cases h : hi + 1 < top
    · have ok : okB R N (hi + 1) room = true := by
        unfold okB
        rw [hR, decide_eq_true (show lo ≤ hi + 1 ∧ hi + 1 < top by omega), decide_eq_true (show costB N (hi + 1) ≤ room by omega)]
        rfl
      rw [grow_up ok, grow_top hR j (hi + 1) _ (by omega) h (by omega)]
      rw [show min (hi + 1 + (j : Int)) (top - 1) = min (hi + ((j + 1 : Nat) : Int)) (top - 1) by omega]
    · have n1 : okB R N (hi + 1) room = false := by
        unfold okB
        rw [hR, decide_eq_false (show ¬ (lo ≤ hi + 1 ∧ hi + 1 < top) by omega)]
        rfl
      have n2 : okB R N (lo - 1) room = false := by
        unfold okB
        rw [hR, decide_eq_false (show ¬ (lo ≤ lo - 1 ∧ lo - 1 < top) by omega)]
        rfl
      show (if okB R N (hi + 1) room = true then _ else if okB R N (lo - 1) room = true then _ else _) = _
      rw [n1, n2, if_neg (by decide), if_neg (by decide)]
      rw [show min (hi + ((j + 1 : Nat) : Int)) (top - 1) = hi by omega]
theorem row_f : rowL false (qsS n m) = qsS n m := by
  unfold rowL
  exact List.filter_eq_self.2 (fun q hq => by
    obtain ⟨j, _, rfl⟩ := List.mem_map.1 hq
    rfl)
theorem row_t : rowL true (qsS n m) = [] := by
  unfold rowL
  exact List.filter_eq_nil_iff.2 (fun q hq => by
    obtain ⟨j, _, rfl⟩ := List.mem_map.1 hq
    exact Bool.false_ne_true)
theorem sp_wait (h : m < n) : ∃ r, waitL (spE o a n m ms ng).qs = ((m : Int) + 1) :: r := by
  have e : waitL (qsS n m) = ((List.range n).filter (fun j => decide (m ≤ j))).map (fun j : Nat => (j : Int) + 1) := by
    unfold waitL
    rw [row_f, row_t, List.append_nil]
    unfold qsS
    rw [List.filter_map, List.map_map]
    rfl
  have hd : ((List.range n).filter (fun j => decide (m ≤ j))).head? = some m := by
    rw [List.head?_filter]
    exact find_range h (by simp) (fun i hi => by simp; omega)
  obtain ⟨r, hr⟩ := List.head?_eq_some_iff.1 hd
  refine ⟨r.map (fun j : Nat => (j : Int) + 1), ?_⟩
  show waitL (qsS n m) = _
  rw [e, hr]
  rfl
theorem sp_idle : waitL (spE o a n n ms ng).qs = [] := by
  show waitL (qsS n n) = []
  unfold waitL rowL qsS
  rw [List.map_eq_nil_iff, List.filter_eq_nil_iff]
  intro q hq
  have : q ∈ (List.range n).map (fun j : Nat => (⟨(j : Int) + 1, false, decide (n ≤ j)⟩ : Sl)) := by
    rcases List.mem_append.1 hq with k | k <;> exact (List.mem_filter.1 k).1
  obtain ⟨j, hj, rfl⟩ := List.mem_map.1 this
  have := List.mem_range.1 hj
  simp; omega
theorem sp_along (h : m < n) (mv : Mv) : (spE o a n m ms ng).along mv (tkS a m m) = (spE o a n (m + 1) ms ng, { mv with ks := mv.ks ++ [(m : Int) + 1], fs := mv.fs ++ [a + m], vs := if mv.wr then mv.vs ++ [0] else mv.vs }) := by
  unfold Eng.along
  have t1 : upd (tsS a n m) ((m : Int) + 1) Tk.go = tsS a n (m + 1) := upd_map (fun j _ => by
    unfold tkS Tk.go Tk.needs
    by_cases e : j = m
    · subst e
      simp
    · have : ¬ ((j : Int) + 1 = (m : Int) + 1) := by omega
      rw [if_neg this]
      have : decide (j < m + 1) = decide (j < m) := by rw [decide_eq_decide]; omega
      rw [this])
  have t2 : waitS (qsS n m) ((m : Int) + 1) false = qsS n (m + 1) := by
    unfold waitS qsS
    rw [List.map_map]
    apply List.map_congr_left
    intro j _
    show (if (j : Int) + 1 = (m : Int) + 1 then _ else _) = _
    by_cases e : j = m
    · subst e
      simp
    · rw [if_neg (by omega)]
      have : decide (m + 1 ≤ j) = decide (m ≤ j) := by rw [decide_eq_decide]; omega
      rw [this]
  have nd : (tkS a m m).needs = true := by unfold Tk.needs tkS; simp
  rw [nd, if_pos rfl]
  show (({ (spE o a n m ms ng).upd ((m : Int) + 1) Tk.go with qs := waitS (qsS n m) ((m : Int) + 1) false } : Eng), _) = _
  unfold Eng.upd spE
  dsimp only
  rw [t1, t2]
  rfl
theorem sp_alongs : ∀ (k m : Nat) (mv : Mv), m + k ≤ n → mv.wr = false → ∃ ks fs, Eng.alongs (spE o a n m ms ng) mv ((List.range k).map (fun i : Nat => a + m + i)) = (spE o a n (m + k) ms ng, { mv with ks := mv.ks ++ ks, fs := mv.fs ++ fs }) ∧ ks.length = k ∧ fs.length = k
  | 0, m, mv, _, _ => ⟨[], [], by simp [Eng.alongs], rfl, rfl⟩
  | k + 1, m, mv, h, hw => by
    have e : (List.range (k + 1)).map (fun i : Nat => a + m + i) = (a + m) :: (List.range k).map (fun i : Nat => a + ((m + 1 : Nat) : Int) + i) := by
      rw [List.range_succ_eq_map, List.map_cons, List.map_map]
      congr 1
      · simp
      · apply List.map_congr_left
        intro i _
        show a + m + ((i + 1 : Nat) : Int) = _
        omega
    rw [e, alongs_cons _ _ _ _ (sp_head (by omega)), sp_along (by omega)]
    obtain ⟨ks, fs, h1, h2, h3⟩ := sp_alongs k (m + 1) { mv with ks := mv.ks ++ [(m : Int) + 1], fs := mv.fs ++ [a + m], vs := if mv.wr then mv.vs ++ [0] else mv.vs } (by omega) hw
    refine ⟨((m : Int) + 1) :: ks, (a + m) :: fs, ?_, by simp [h2], by simp [h3]⟩
    dsimp only at h1 ⊢
    rw [h1, show m + 1 + k = m + (k + 1) by omega, hw]
    simp
theorem sp_next (iv : Inv (spE o a n m ms ng)) (h0 : 0 ≤ a) (h1 : a + n ≤ o.b0) (hm : m < n) (hl : (ms.length : Int) < o.b5) : ∃ mv ng' ms', (spE o a n m ms ng).next 64 = (spE o a n (m + min o.b6.toNat (n - m)) (ms ++ [mv]) ng', [], some mv) ∧ mv.wr = false ∧ mv.lo = a + m ∧ mv.n = (min o.b6.toNat (n - m) : Nat) ∧ mv.ks.length = min o.b6.toNat (n - m) ∧ mv.fs.length = min o.b6.toNat (n - m) ∧ ms' = ms := by
  have may := iv.may
  unfold Opt.MayC at may
  have hb : 0 ≤ o.b0 ∧ o.b0 ≤ 256 ∧ 1 ≤ o.b6 ∧ o.b6 ≤ 8 := by
    have : (spE o a n m ms ng).o = o := rfl
    rw [this] at may
    omega
  have hh := sp_head (o := o) (a := a) (m := m) (ms := ms) (ng := ng) hm
  have tin : tkS a m m ∈ (spE o a n m ms ng).ts := (mem_head hh).1
  obtain ⟨r, hr⟩ := sp_wait (o := o) (a := a) (ms := ms) (ng := ng) hm
  have isH : (spE o a n m ms ng).isHead (tkS a m m) = true := (isHead_iff iv tin).2 hh
  have at_ : at16 (spE o a n m ms ng).ts ((m : Int) + 1) = some (tkS a m m) := find16 iv.ids tin
  have nx : (spE o a n m ms ng).next 64 = ((spE o a n m ms ng).begin_ (tkS a m m) 64, [], some ((spE o a n m ms ng).begun (tkS a m m) 64).2) := by
    unfold Eng.next
    rw [if_neg (show ¬ (spE o a n m ms ng).o.b5 ≤ ((spE o a n m ms ng).ms.length : Int) from by show ¬ o.b5 ≤ (ms.length : Int); omega), hr, Eng.nextL]
    rw [at_, Option.getD_some, isH, if_pos rfl, if_pos (.inl (by decide))]
    rfl
  have ready : ∀ x : Int, hasB (((spE o a n m ms ng).ready 1).map (·.b)) x = decide (a + m ≤ x ∧ x < a + n) := fun x => by
    unfold hasB
    rw [decide_eq_decide]
    constructor
    · rintro ⟨x0, x1, hx⟩
      obtain ⟨u, hu, rfl⟩ := List.mem_map.1 hx
      obtain ⟨h1, h2, h3⟩ := (mem_ready iv).1 hu
      obtain ⟨ut, _⟩ := mem_head h1
      obtain ⟨j, hj, rfl⟩ := List.mem_map.1 ut
      have := List.mem_range.1 hj
      have o2 : decide (j < m) = false := h2
      have := of_decide_eq_false o2
      show a + m ≤ a + (j : Int) ∧ a + (j : Int) < a + n
      omega
    · rintro ⟨x0, x1⟩
      obtain ⟨j, hj⟩ := Int.eq_ofNat_of_zero_le (show 0 ≤ x - a by omega)
      obtain rfl : x = a + j := by omega
      refine ⟨by omega, by omega, List.mem_map.2 ⟨tkS a m j, (mem_ready iv).2 ⟨sp_head (by omega), ?_, rfl⟩, rfl⟩⟩
      show decide (j < m) = false
      exact decide_eq_false (by omega)
  have hN : hasB (((spE o a n m ms ng).ready 1).map (·.b)) (a + m) = true := by rw [ready]; exact decide_eq_true ⟨by omega, by omega⟩
  have run : (spE o a n m ms ng).run (tkS a m m) 64 = ⟨a + m, (min o.b6.toNat (n - m) : Nat)⟩ := by
    unfold Eng.run
    have cost := costB_cases (hasB (((((spE o a n m ms ng).ready 1).filter (·.needs)).map (·.b)))) (a + m)
    have k : costB (hasB (((((spE o a n m ms ng).ready 1).filter (·.needs)).map (·.b)))) (a + m) ≤ 64 := by rcases cost with ⟨_, e⟩ | ⟨_, e⟩ <;> rw [e] <;> omega
    have na : ¬ argB (((spE o a n m ms ng).ready 1).map (·.b)) (a + m) o.b6 64 := by
      unfold argB mayMost
      rw [hN]
      simp
      omega
    show aroundR (((spE o a n m ms ng).ready 1).map (·.b)) ((((spE o a n m ms ng).ready 1).filter (·.needs)).map (·.b)) (a + m) o.b6 64 = _
    rw [(around_ok na k).2]
    unfold growTo
    rw [grow_top ready _ _ _ (by omega) (by omega) (by rcases cost with ⟨_, e⟩ | ⟨_, e⟩ <;> rw [e] <;> omega)]
    have : min (a + (m : Int) + ((o.b6 - 1).toNat : Int)) (a + (n : Int) - 1) - (a + (m : Int)) + 1 = ((min o.b6.toNat (n - m) : Nat) : Int) := by omega
    rw [this]
  have bl : blocksOf ((spE o a n m ms ng).run (tkS a m m) 64) = (List.range (min o.b6.toNat (n - m))).map (fun i : Nat => a + m + i) := by
    rw [run]
    unfold blocksOf
    rw [if_pos (by unfold Rn.Ok; dsimp only; omega)]
    simp
  obtain ⟨kk, ff, e1, e2, e3⟩ := sp_alongs (o := o) (a := a) (n := n) (ms := ms) (ng := ng) (min o.b6.toNat (n - m)) m ((spE o a n m ms ng).move0 (tkS a m m) 64) (by omega) rfl
  have bg : (spE o a n m ms ng).begun (tkS a m m) 64 = (spE o a n (m + min o.b6.toNat (n - m)) ms ng, { (spE o a n m ms ng).move0 (tkS a m m) 64 with ks := kk, fs := ff }) := by
    unfold Eng.begun
    rw [bl, e1]
    rfl
  refine ⟨{ (spE o a n m ms ng).move0 (tkS a m m) 64 with ks := kk, fs := ff }, ng + 1, ms, ?_, rfl, ?_, ?_, e2, e3, rfl⟩
  · rw [nx]
    unfold Eng.begin_
    rw [bg]
    rfl
  · show ((spE o a n m ms ng).run (tkS a m m) 64).f = _
    rw [run]
  · show ((spE o a n m ms ng).run (tkS a m m) 64).c = _
    rw [run]
theorem sp_over (hl : (ms.length : Int) ≤ o.b5) : ((spE o a n n ms ng).next 64).2 = ([], none) := by
  unfold Eng.next
  split
  · rfl
  · rw [sp_idle]
    rfl
end
/-! ### as the code answers -/
theorem Only.to_below16 {a b : World} (h : Only none_ a b) : Below a.heap.size a b := h.below (Nat.le_refl _) (fun _ _ s => s)
theorem sp_readA {o : Opt} {a : Int} {n : Nat} {ms : List Mv} {ng : Nat} (iv : Inv (spE o a n 0 ms ng)) (h0 : 0 ≤ a) (h1 : a + n < o.b0) (h2 : (n : Int) < o.b3) (h3 : (n : Int) < o.b9) :
    ∃ k : Int, readA (spE o a n 0 ms ng) (a + n) 0 (wtS n) = .tuple #[.agg #[.int .i64 ((n : Int) + 1), .int .i64 1, .int .i64 (a + n), .int .i64 0, .int .i64 0, .int .i64 k, .bool false, .bool false, .bool false], .bool false, .bool false, .int .i64 0] := by
  obtain ⟨rc, _⟩ := sp_read (ms := ms) (ng := ng) h0 h1 h2 h3
  have jn : joins ((spE o a n 0 ms ng).last (a + n)) = false := by rw [sp_none]; rfl
  have rt : (spE o a n 0 ms ng).readT (a + n) = (n : Int) + 1 := by
    unfold Eng.readT
    rw [jn, if_neg (by decide)]
    rfl
  have rb : (spE o a n 0 ms ng).readB (a + n) = (spE o a n 0 ms ng).enter 1 (a + n) := by
    unfold Eng.readB
    rw [jn, if_neg (by decide)]
  have tm : (spE o a n 0 ms ng).new 1 (a + n) ∈ ((spE o a n 0 ms ng).readB (a + n)).ts := by
    rw [rb]
    exact List.mem_append_right _ (List.mem_singleton.2 rfl)
  have e := (read_yes iv rc tm (by rw [rt]; rfl)).1
  rw [jn] at e
  exact ⟨_, e⟩
def oS (sp : Int) : Opt := { usual 256 with b5 := 16, b6 := sp }
theorem oS_may {sp : Int} (h1 : 1 ≤ sp) (h8 : sp ≤ 8) : (oS sp).MayC := by
  unfold Opt.MayC oS usual
  dsimp only
  omega
theorem neq_run (x y : Int) (w : World) : (binOp .neq 43 (.agg #[.int .i64 x, .int .i64 y]) (.agg #[.int .i64 x, .int .i64 y])).run Tryz.prog w = .ok (.bool false) w := by
  have : (Op.equalIn 10000 43 (.agg #[.int .i64 x, .int .i64 y]) (.agg #[.int .i64 x, .int .i64 y])).run Tryz.prog w = .ok true w := by simp [go_sem]
  simp only [binOp]
  simp [Op.equal, Op.maxDepth, this]
end Go.Proofs.YtfbpjobobdidiaaGreatDoor
