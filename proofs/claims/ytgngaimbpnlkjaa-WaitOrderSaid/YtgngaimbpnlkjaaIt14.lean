/- The iterator over who waits: each entry comes once, in any order; the body may take away who has just come. -/
import Derived.Test.YtgngaimbpnlkjaaEn14
import Derived.Test.YtgngaimbpnlkjaaEach
import Derived.Shelf.Abstract
import Derived.Shelf.RegionOpen
import Derived.WalkKit
import Derived.OwnWalkIn
import Derived.TacticsInMore
import Derived.LoopNIn
import Derived.LoopIn
import Derived.RegionIn
import Derived.Sort.MapsRangeIn
namespace Go.Proofs.Ytgngaimbpnlkjaa
open Go.RowKit Go.Maps Go.Shelf
set_option linter.unusedVariables false
attribute [local go_sem] Oper.semAt_some

/-- what has come while the range is under way -/
def Got (es : List En) (left : Lit → Bool) (xs : List En) : Prop := xs.Nodup ∧ ∀ e, e ∈ xs ↔ e ∈ es ∧ left (klit e.s.w) = false
theorem Got.start {D : DataW Unit} {es : List En} (h : Reads14 D es) : Got es (Maps.has D) [] := by
  refine ⟨List.Pairwise.nil, fun e => ⟨fun q => (by cases q), fun ⟨he, q⟩ => ?_⟩⟩
  rw [h.has _ (h.wf e he), hasE_iff.2 ⟨e, he, rfl⟩] at q
  cases q
abbrev strike (left : Lit → Bool) (x : Wt) : Lit → Bool := fun z => left z && !z.sameKey (klit x)
theorem Got.step {es xs : List En} {left : Lit → Bool} {e : En} (h : Got es left xs) (hn : OnceE es) (hw : ∀ e ∈ es, wfW e.s.w) (he : e ∈ es) (hl : left (klit e.s.w) = true) : Got es (strike left e.s.w) (xs ++ [e]) := by
  refine ⟨?_, fun a => ?_⟩
  · unfold List.Nodup
    rw [List.pairwise_append]
    refine ⟨h.1, List.pairwise_singleton _ _, fun a ha b hb q => ?_⟩
    have : b = e := by simpa using hb
    subst this
    subst q
    have := ((h.2 _).1 ha).2
    rw [hl] at this
    cases this
  · rw [List.mem_append, h.2 a, List.mem_singleton]
    constructor
    · rintro (⟨ha, q⟩ | rfl)
      · exact ⟨ha, by show (left _ && _) = false; rw [q]; rfl⟩
      · exact ⟨he, by show (left _ && !_) = false; rw [WideAt.sameKey_self (klit_key _)]; simp⟩
    · rintro ⟨ha, q⟩
      by_cases k : a.s.w = e.s.w
      · exact .inr (hn.inj ha he k)
      · have q2 : (left (klit a.s.w) && !(klit a.s.w).sameKey (klit e.s.w)) = false := q
        rw [klit_same (hw a ha) (hw e he), decide_eq_false k] at q2
        simp at q2
        exact .inl ⟨ha, q2⟩
theorem Got.over {es xs : List En} {left : Lit → Bool} (h : Got es left xs) (hn : OnceE es) (hl : ∀ kl, left kl = false) : xs.Perm es := by
  have m : ∀ e, e ∈ xs ↔ e ∈ es := fun e => by rw [h.2 e, hl]; simp
  exact (List.perm_ext_iff_of_nodup h.1 hn.nodup).2 m
theorem Got.ok {es xs : List En} {left : Lit → Bool} {e : En} (h : Got es left xs) (he : e ∈ es) (hl : left (klit e.s.w) = true) : (xs ++ [e]).Nodup ∧ ∀ y ∈ xs ++ [e], y ∈ es := by
  refine ⟨?_, fun y hy => ?_⟩
  · rw [List.nodup_append]
    refine ⟨h.1, by simp, fun a ha b hb q => ?_⟩
    rw [List.mem_singleton.1 hb] at q
    subst q
    have := ((h.2 _).1 ha).2
    rw [hl] at this; cases this
  · rcases List.mem_append.1 hy with hy | hy
    · exact ((h.2 y).1 hy).1
    · rw [List.mem_singleton.1 hy]; exact he
/-- all that a map still has is what it had -/
def HasOf (es : List En) (D : DataW Unit) : Prop := ∀ kl, Maps.has D kl = true → ∃ e ∈ es, kl = klit e.s.w ∧ ∀ z, D.atKey kl z = stDat e.s.t e.n
/-- what a round may turn: the map keeps all but who has come -/
def Takes (b : Nat) (x : En) (W W' : World) : Prop := ∀ r n D left cnt, left (klit x.s.w) = false → W.ranges Try.prog 31 stElem b r n D left cnt →
  ∃ D' cnt', W'.ranges Try.prog 31 stElem b r n D' left cnt' ∧ cnt' ≤ cnt ∧ (D' = D ∨ D' = D.del (klit x.s.w))
abbrev encE (x : En) : Array Value := #[.agg #[.int .i64 x.s.w.r, .int .i64 x.s.w.p], .agg #[.int .i64 x.s.t, .int .i64 x.n]]
theorem HasOf.start {w : World} {b n : Nat} {D : DataW Unit} {es : List En} (o : w.ownsMap Try.prog 31 stElem b n D) (h : Reads14 D es) : HasOf es D := by
  intro kl hk
  obtain ⟨x, wx, rfl⟩ := key_wt o kl hk
  rw [h.has x wx] at hk
  obtain ⟨e, he, rfl⟩ := hasE_iff.1 hk
  exact ⟨e, he, rfl, h.at_ e he⟩
theorem HasOf.next {es : List En} {D D' : DataW Unit} {x : En} (h : HasOf es D) (hw : ∀ e ∈ es, wfW e.s.w) (hx : x ∈ es) (k : D' = D ∨ D' = D.del (klit x.s.w)) : HasOf es D' := by
  rcases k with rfl | rfl
  · exact h
  · intro kl hk
    by_cases e : kl = klit x.s.w
    · subst e; rw [has_del_same] at hk; cases hk
    · rw [has_del_other e] at hk
      obtain ⟨f, hf, rfl, k2⟩ := h kl hk
      exact ⟨f, hf, rfl, fun z => by rw [atKey_del_other e]; exact k2 z⟩

theorem has_true_of_atKey' {D : DataW Unit} {kl : Lit} {y : DataW Unit} (h : ∀ zd, D.atKey kl zd = y) : Maps.has D kl = true := has_true_of_atKey h

theorem all_any (p : Nat) (w : World) :
    Calls Try.prog 26 #[.pointer (some ⟨p, 0, none⟩)] w fun e w' =>
      e = .returned (.func (.func 32) #[] #[.pointer (some ⟨w.heap.size, 0, none⟩)]) ∧ w' = w.alloc (.cells #[.pointer (some ⟨p, 0, none⟩)] 24) := by
  go_enter Try.func26, Try.ntmps26
  go_wp2
  go_ret
  exact ⟨rfl, rfl⟩

set_option maxRecDepth 100000 in
set_option maxHeartbeats 2000000 in
theorem iter14 (m : Nat) (hm : 1 ≤ m) (l Bs b nn p : Nat) (D0 : DataW Unit) (es : List En) (room came : Int) (hr0 : Reads14 D0 es) (hon : OnceE es) (J : List En → World → Prop)
    (hY : ∀ pre x W, J pre W → ((pre ++ [x]).Nodup ∧ ∀ y ∈ pre ++ [x], y ∈ es) → YieldAt Fence.wide (m - 1) Try.prog l (encE x) W fun e W' => e = .returned (.bool true) ∧ J (pre ++ [x]) W' ∧ Takes b x W W')
    (W : World) (hJ : AbidesFrom W.heap.size J) (hBs : W.cell? ⟨Bs, 0, none⟩ = some (.pointer (some ⟨p, 0, none⟩))) (hR : Row W p 54 #[.int .i64 room, .map (some b), .int .i64 came]) (hown : W.ownsMap Try.prog 31 stElem b nn D0) (h0 : J [] W) :
    CallsIn Fence.wide m Try.prog 32 #[.func (.yield l) #[] #[], .pointer (some ⟨Bs, 0, none⟩)] W fun e W' => (∃ v, e = .returned v) ∧ ∃ xs, xs.Perm es ∧ J xs W' := by
  have c1 : W.cell? ⟨p, 1, none⟩ = some (.map (some b)) := by rw [hR.cell]; rfl
  have HO := Lib.hid (HasOf.start hown hr0)
  have HR := Lib.hid hr0
  have HN := Lib.hid hon
  clear hr0 hon hR
  refine callsIn_of_wp Try.func32 rfl trivial ?_ rfl
  simp only [Try.ntmps32, List.size_toArray, List.length_cons, List.length_nil, Nat.reduceAdd, Nat.reduceSub, Array.replicate_succ, Array.replicate_zero, List.push_toArray, List.append_toArray, List.nil_append, List.cons_append]
  gi_wp2_with (first
    | (gi_at_range; refine wpListIn_range_own _ rfl _ 52 rfl 31 56 lawW Try.underlying52 _ b nn _ rfl hown ?_; intro w0 hrg0 hg0 hs0)
    | gi_in)
  have J0 := hJ [] W w0 none h0 hg0 (fun r e => by cases e)
  clear h0
  go_frame
  gi_loopw [3] (fun _ wr => ∃ (left : Lit → Bool) (cnt : Nat) (xs : List En) (D : DataW Unit), wr.ranges Try.prog 31 stElem b W.heap.size nn D left cnt ∧ Got es left xs ∧ HasOf es D ∧ J xs wr)
    (fun _ wr => wr.rangeLeft b W.heap.size)
  case atStart => exact ⟨_, _, [], D0, hrg0, Got.start HR.out, HO.out, J0⟩
  case round =>
    obtain ⟨left, cnt, xs, D, hrg, hC, hH, hJs⟩ := hrel
    gi_wp2_with (first
      | (gi_at_next; refine wpListIn_next_ranges _ rfl _ rfl 31 lawW stElem Wt.val (fun (q : Int × Int) => .agg #[.int .i64 q.1, .int .i64 q.2]) (fun key kl hk => by obtain ⟨x, hx, _⟩ := key_inv hk; exact ⟨x, hx⟩) (fun v y hv => by obtain ⟨t, n, hx, _⟩ := stElem_inv hv; exact ⟨(t, n), hx⟩) b W.heap.size nn _ _ _ rfl hrg ?_ ?_)
      | gi_in)
    · intro hc0 hl0
      gi_wp2
      go_end0
      exact ⟨⟨_, rfl⟩, xs, hC.over HN.out hl0, hJs⟩
    · intro x t tn kl yd yp w2 cnt2 hkey hlk hv hat hrg2 hlt hg2 hs2 hen
      obtain ⟨x', ex, wx, rfl⟩ := key_inv hkey
      have hx' : x = x' := by
        unfold Wt.val at ex
        simp at ex
        cases x; cases x'
        simp_all
      subst hx'
      obtain ⟨e, he, ek, ea⟩ := hH _ (has_true_of_atKey' hat)
      have exw : e.s.w = x := (klit_inj wx (HR.out.wf e he) ek).symm
      subst exw
      have yd0 : yd = stDat e.s.t e.n := (hat .nil).symm.trans (ea .nil)
      subst yd0
      have vv := stVal_of hv
      have tt : t = e.s.t ∧ tn = (e.n : Int) := by
        unfold stVal at vv
        simpa using vv
      obtain ⟨rfl, rfl⟩ := tt
      have J2 := hJ xs wr w2 (some W.heap.size) hJs hg2 (fun r q => by cases q; exact ⟨Nat.le_refl _, hrg.iter_walk⟩)
      have J3 := hJ xs _ _ none (hJ xs _ _ none J2 (World.grownBy_alloc w2 (.cells #[.int .i64 e.s.w.r, .int .i64 e.s.w.p] 31) none) (fun r q => by cases q)) (World.grownBy_alloc _ (.cells #[.int .i64 e.s.t, .int .i64 e.n] 56) none) (fun r q => by cases q)
      have OK := hC.ok he hlk
      obtain ⟨fn, tmps, assign, body, hy, hQ⟩ := hY xs e _ J3 OK
      have R3 := (hrg2.alloc (.cells #[.int .i64 e.s.w.r, .int .i64 e.s.w.p] 31)).alloc (.cells #[.int .i64 e.s.t, .int .i64 e.n] 56)
      have GS := Lib.hid (hC.step HN.out HR.out.wf he hlk)
      have HH := Lib.hid hH
      have HE := Lib.hid he
      have RR := Lib.hid R3
      have LT := Lib.hid hlt
      have RG := Lib.hid hrg
      unfold Wt.val at hen ⊢
      clear hs2 OK hkey hlk hv hat hrg2 hg2 hC hH he ek ea vv J2 J3 R3 hlt wx ex hJs
      gi_wp2
      refine hQ.mono ?_
      rintro e' W4 ⟨rfl, hJ4, hT⟩
      obtain ⟨D', cnt', r4, le4, hD⟩ := hT _ _ _ _ _ (show strike left e.s.w (klit e.s.w) = false from by show (left _ && !_) = false; rw [WideAt.sameKey_self (klit_key _)]; simp) RR.out
      gi_wp2
      go_roundw
      case rel => exact ⟨_, cnt', xs ++ [e], D', r4, GS.out, HH.out.next HR.out.wf HE.out hD, hJ4⟩
      case measure => rw [r4.left_eq, RG.out.left_eq]; have := LT.out; omega
end Go.Proofs.Ytgngaimbpnlkjaa
