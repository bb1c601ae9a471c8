/- The iterator over a list, from its last node on; and those who count, find or collect with it. -/
import Derived.Test.YtpmhpamajkhhiaaRingC
import Derived.RangeFuncNested
import Derived.RangeFuncBound
import Derived.RangeFuncCalls
import Derived.RangeFuncLeaves
import Derived.Shelf.Abstract
import Derived.Shelf.RegionOpen
import Derived.WalkKit
import Derived.OwnWalkIn
import Derived.TacticsInMore
import Derived.LoopNIn
import Derived.LoopIn
import Derived.Maps.AppendAt
namespace Go.Proofs.Ytpmhpamajkhhiaa
open Go.RowKit Go.Shelf
set_option linter.unusedVariables false
attribute [local go_sem] Oper.semAt_some

theorem Rg.below {w w' : World} {p b n bot : Nat} {ns : List Nd} (h : Rg w p b n bot ns) {n0 : Nat} (k : Below n0 w w') (hp : p < n0) (hb : b < n0) : Rg w' p b n bot ns :=
  ⟨(k.block p hp).trans h.head, (k.block b hb).trans h.row, h.len, h.n64, h.bot64, h.ne⟩
theorem Only.to_below {w w' : World} (h : Only none_ w w') : Below w.heap.size w w' := h.below (Nat.le_refl _) (fun _ _ s => s)
theorem Below.to_only {w w' : World} (h : Below w.heap.size w w') : Only none_ w w' := ⟨h.os, h.tape, h.output, h.size, fun k hk _ => h.block k hk⟩

/-- what a round that goes on keeps: what lay below n₀, and the iterator's own box -/
def KeepsB (n₀ Bs : Nat) (W W' : World) : Prop := Below n₀ W W' ∧ W'.heap[Bs]? = W.heap[Bs]?
theorem keepsB_t {n₀ Bs : Nat} {A B C : World} (h : KeepsB n₀ Bs A B) (k : KeepsB n₀ Bs B C) : KeepsB n₀ Bs A C := ⟨h.1.trans k.1, k.2.trans h.2⟩
theorem keepsB_b {n₀ Bs : Nat} {w : World} (hn : n₀ ≤ w.heap.size) (hs : Bs < w.heap.size) (W : World) (l : Nat) (o o' : Obj) (hl : w.heap.size ≤ l) (h : W.heap[l]? = some o) (hc : o.isCells = false) (hw : o.isWalk = false) : KeepsB n₀ Bs W (W.putObj l o') :=
  ⟨belowK_b hn W l o o' hl h hc hw, World.putObj_heap_other (by omega)⟩
def encN (x : Nat) : Array Value := #[.int .i64 x]

theorem idx_mid {pre rest : List Nat} {x : Nat} (h : (pre ++ x :: rest).Nodup) : (pre ++ x :: rest).idxOf x = pre.length := by
  have : x ∉ pre := fun k => (List.nodup_append.1 h).2.2 x k x (by simp) rfl
  rw [List.idxOf_append, if_neg this, List.idxOf_cons_self]
  omega
theorem idx_out {xs : List Nat} {e : Nat} (h : e ∉ xs) : xs.idxOf e = xs.length := List.idxOf_eq_length h

/-- what the iterator's steps are: one on from the end, one on from each -/
theorem path_first {f : Nat → Nat} {e : Nat} {xs : List Nat} (h : Path f e xs e) : f e = firstOf e xs := h.first

set_option maxRecDepth 100000 in
set_option maxHeartbeats 2000000 in
theorem iter_in (m : Nat) (hm : 1 ≤ m) (l Bs Bl n₀ p b n bot k : Nat) (ns : List Nd) (e : Nat) (he : e = n + k) (hk : k < 2) (xs : List Nat) (hx : Path (aF ns) e xs e) (hnd : (e :: xs).Nodup) (hlt : ∀ x ∈ xs, x < n) (hp : p < n₀) (hb : b < n₀)
    (J Jx : List Nat → World → Prop)
    (hY : ∀ pre x W, x < n → J pre W → pre.length < xs.length → YieldAt Fence.wide (m - 1) Try.prog l (encN x) W fun e W' =>
      (e = .returned (.bool true) ∧ J (pre ++ [x]) W' ∧ KeepsB n₀ Bs W W') ∨ (e = .returned (.bool false) ∧ Jx (pre ++ [x]) W'))
    (hJd : ∀ pre W, J pre W → J pre W.drew)
    (W : World) (hBs : W.cell? ⟨Bs, 0, none⟩ = some (.pointer (some ⟨p, 0, none⟩))) (hBl : W.cell? ⟨Bl, 0, none⟩ = some (.int .i64 k)) (hR : Rg W p b n bot ns) (h0 : J [] W) :
    CallsIn Fence.wide m Try.prog 73 #[.func (.yield l) #[] #[], .pointer (some ⟨Bs, 0, none⟩), .pointer (some ⟨Bl, 0, none⟩)] W fun e W' => (∃ v, e = .returned v) ∧
      ((∃ ys, ys = xs ∧ J ys W') ∨ (∃ pre, pre <+: xs ∧ Jx pre W')) := by
  have HL := hasList_any (.pointer (some ⟨p, 0, none⟩)) k W
  rw [show hasL (k : Int) = true from decide_eq_true (by omega)] at HL
  have HL := Lib.hid ((callsIn_wide (n := m - 1)).2 HL)
  have c := hR.hd
  have ce : W.cell? ⟨p, 2 + k, none⟩ = some (.int .i64 e) := by
    have : k = 0 ∨ k = 1 := by omega
    rcases this with rfl | rfl
    · rw [he]; exact hR.e0
    · rw [he]; exact hR.e1
  have ki : (k : Int) < 2 := by omega
  have el : e < ns.length := by rw [hR.len]; omega
  have en : e = n ∨ e = n + 1 := by omega
  replace he := Lib.hid he
  obtain ⟨_, _, ca, _⟩ := hR.at_ el
  have be : (e : Int) < (n : Int) + 2 := by omega
  have len := hR.len
  have n64 := hR.n64
  replace hR := Lib.hid hR
  refine callsIn_of_wp Try.func73 rfl trivial ?_ rfl
  simp only [Try.ntmps73, List.size_toArray, List.length_cons, List.length_nil, Nat.reduceAdd, Nat.reduceSub, Array.replicate_succ, Array.replicate_zero, List.push_toArray, List.append_toArray, List.nil_append, List.cons_append]
  gi_wp2_with (refine ⟨trivial, ?_⟩; gi_at_call 74; refine (HL.out).mono ?_; rintro e' w' ⟨rfl, rfl⟩)
  gi_region
  gi_wp2
  have J0 := hJd [] W h0
  have B0 : Below n₀ W W.drew := below_n (Below.refl _ _) 1
  have HB := Lib.hid B0
  gi_loopw [5] (fun v wr => ∃ (pre rest : List Nat), v = .int .i64 (firstOf e rest : Nat) ∧ xs = pre ++ rest ∧ J pre wr ∧ Below n₀ W wr ∧ wr.heap[Bs]? = W.heap[Bs]?)
    (fun v wr => xs.length - xs.idxOf (intOf v).toNat)
  case atStart =>
    exact ⟨[], xs, by rw [hx.first], rfl, J0, HB.out, rfl⟩
  case round =>
    obtain ⟨pre, rest, rfl, hxs, hJs, hB, hS⟩ := hrel
    have HS := Lib.hid hS
    clear J0 HB B0
    have HB := Lib.hid hB
    cases rest with
    | nil =>
      rw [show firstOf e [] = e from rfl]
      clear hB hS
      gi_wp2
      go_end0
      exact ⟨⟨_, rfl⟩, .inl ⟨pre, by simp [hxs], hJs⟩⟩
    | cons x rest =>
      have hxe : x ≠ e := by
        rintro rfl
        exact (List.nodup_cons.1 hnd).1 (by rw [hxs]; simp)
      have hxn : x < n := hlt x (by rw [hxs]; simp)
      have ha : aF ns x = firstOf e rest := by
        have := hx
        rw [hxs, Path.split] at this
        exact this.2.first
      obtain ⟨fn, tmps, assign, body, hy, hQ⟩ := hY pre x wr hxn hJs (by rw [hxs]; simp)
      have e1 : ((x : Int) != (e : Int)) = true := by simp; omega
      have e2 : decide (x = e) = false := by simp; omega
      simp only [encN] at hy
      rw [show firstOf e (x :: rest) = x from rfl]
      clear hB hS
      gi_wp2
      refine hQ.mono ?_
      rintro e' W3 (⟨rfl, hJ3, hk3⟩ | ⟨rfl, hJx3⟩)
      · have hB3 := HB.out.trans hk3.1
        have h3 := hk3.2.trans HS.out
        have r3 := hR.out.below hB3 hp hb
        have c3 := r3.hd
        have s3 : W3.cell? ⟨Bs, 0, none⟩ = some (.pointer (some ⟨p, 0, none⟩)) := (World.cell?_of_block h3).trans hBs
        obtain ⟨_, _, a3, _⟩ := r3.at_ (i := x) (by omega)
        have bx : (x : Int) < (n : Int) + 2 := by omega
        gi_wp2
        go_roundw
        case rel => exact ⟨pre ++ [x], rest, rfl, by simp [hxs], hJ3, hB3, h3⟩
        case measure =>
          rw [hxs] at hnd
          have hn2 := (List.nodup_cons.1 hnd)
          have i1 := idx_mid hn2.2
          have i2 : (pre ++ x :: rest).idxOf (firstOf e rest) ≥ pre.length + 1 := by
            cases rest with
            | nil =>
              rw [show firstOf e [] = e from rfl, idx_out hn2.1]
              simp
            | cons y rest =>
              have : pre ++ x :: y :: rest = (pre ++ [x]) ++ y :: rest := by simp
              rw [show firstOf e (y :: rest) = y from rfl, this, idx_mid (by rw [← this]; exact hn2.2)]
              simp
          simp only [intOf, Int.toNat_natCast, hxs, i1]
          simp only [List.length_append, List.length_cons]
          omega
      · gi_wp2
        refine bodyPost_ret (results_none rfl _ _ _) rfl ?_
        exact ⟨⟨_, rfl⟩, .inr ⟨pre ++ [x], ⟨rest, by simp [hxs]⟩, hJx3⟩⟩

/-- a list's nodes, from the last on -/
def Sh.revL (s : Sh) (k : Int) : List Nat := if hasL k then (s.li k.toNat).reverse else []

set_option maxHeartbeats 1000000 in
theorem iter_no (m : Nat) (hm : 1 ≤ m) (l Bs Bl p : Nat) (k : Int) (hk : hasL k = false) (J Jx : List Nat → World → Prop)
    (W : World) (hBs : W.cell? ⟨Bs, 0, none⟩ = some (.pointer (some ⟨p, 0, none⟩))) (hBl : W.cell? ⟨Bl, 0, none⟩ = some (.int .i64 k)) (h0 : J [] W) :
    CallsIn Fence.wide m Try.prog 73 #[.func (.yield l) #[] #[], .pointer (some ⟨Bs, 0, none⟩), .pointer (some ⟨Bl, 0, none⟩)] W fun e W' => (∃ v, e = .returned v) ∧
      ((∃ ys, ys = [] ∧ J ys W') ∨ (∃ pre, pre <+: [] ∧ Jx pre W')) := by
  have HL := hasList_any (.pointer (some ⟨p, 0, none⟩)) k W
  rw [hk] at HL
  replace HL := Lib.hid ((callsIn_wide (n := m - 1)).2 HL)
  refine callsIn_of_wp Try.func73 rfl trivial ?_ rfl
  simp only [Try.ntmps73, List.size_toArray, List.length_cons, List.length_nil, Nat.reduceAdd, Nat.reduceSub, Array.replicate_succ, Array.replicate_zero, List.push_toArray, List.append_toArray, List.nil_append, List.cons_append]
  gi_wp2_with (refine ⟨trivial, ?_⟩; gi_at_call 74; refine (HL.out).mono ?_; rintro e' w' ⟨rfl, rfl⟩)
  refine bodyPost_ret (results_none rfl _ _ _) rfl ?_
  exact ⟨⟨_, rfl⟩, .inl ⟨[], rfl, h0⟩⟩

theorem fromLast_any (p : Nat) (k : Int) (w : World) :
    Calls Try.prog 59 #[.pointer (some ⟨p, 0, none⟩), .int .i64 k] w fun e w' =>
      e = .returned (.func (.func 73) #[] #[.pointer (some ⟨w.heap.size, 0, none⟩), .pointer (some ⟨w.heap.size + 1, 0, none⟩)]) ∧ w' = (w.alloc (.cells #[.pointer (some ⟨p, 0, none⟩)] 58)).alloc (.cells #[.int .i64 k] 3) := by
  go_enter Try.func59, Try.ntmps59
  go_wp2
  go_ret
  exact ⟨rfl, rfl⟩

theorem grown_drew (w : World) : w.grownBy w.drew none := ⟨rfl, rfl, rfl, Nat.le_refl _, fun _ _ _ => rfl⟩

def encF {n : Nat} (x : Fin n) : Array Value := #[.int .i64 (x.val : Nat)]
def vals {n : Nat} (l : List (Fin n)) : List Nat := l.map (fun x => x.val)

/-- the iterator that fromLast hands back: a list's nodes come, from the last on -/
theorem stops (m : Nat) (hm : 1 ≤ m) (p b : Nat) (s : Sh) (k : Int) (w W : World) (n₀ Bs Bl : Nat) (h : Lies w p b s) (hw : Below n₀ w W) (hn : n₀ = w.heap.size) (hs : Bs < W.heap.size) (hl : Bl < W.heap.size)
    (cs : W.cell? ⟨Bs, 0, none⟩ = some (.pointer (some ⟨p, 0, none⟩))) (cl : W.cell? ⟨Bl, 0, none⟩ = some (.int .i64 k)) :
    SeqStopsK Fence.wide m Try.prog 73 #[.pointer (some ⟨Bs, 0, none⟩), .pointer (some ⟨Bl, 0, none⟩)] (encF (n := s.n)) (KeepsB n₀ Bs) (fun ys => vals ys = s.revL k) (fun pre => vals pre <+: s.revL k) (s.revL k).length W := by
  intro l J Jx W1 hW hJ hJx hY h0
  have cs1 : W1.cell? ⟨Bs, 0, none⟩ = some (.pointer (some ⟨p, 0, none⟩)) := (hW.cell (p := ⟨Bs, 0, none⟩) hs).trans cs
  have cl1 : W1.cell? ⟨Bl, 0, none⟩ = some (.int .i64 k) := (hW.cell (p := ⟨Bl, 0, none⟩) hl).trans cl
  have J1 : ∃ q : List (Fin s.n), vals q = [] ∧ J q W1 := ⟨[], rfl, h0⟩
  have jd' : ∀ pre X, (∃ q : List (Fin s.n), vals q = pre ∧ J q X) → ∃ q : List (Fin s.n), vals q = pre ∧ J q X.drew := fun pre X ⟨q, e, hx⟩ => ⟨q, e, hJ q X X.drew none hx (grown_drew X) (fun r e => by cases e)⟩
  have hY1 : ∀ pre x W, x < s.n → (∃ q : List (Fin s.n), vals q = pre ∧ J q W) → pre.length < (s.revL k).length → YieldAt Fence.wide (m - 1) Try.prog l (encN x) W fun e W' =>
      (e = .returned (.bool true) ∧ (∃ q : List (Fin s.n), vals q = pre ++ [x] ∧ J q W') ∧ KeepsB n₀ Bs W W') ∨ (e = .returned (.bool false) ∧ (∃ q : List (Fin s.n), vals q = pre ++ [x] ∧ Jx q W')) := by
    rintro pre x W2 hx ⟨q, rfl, hq⟩ hlen
    refine (hY q ⟨x, hx⟩ W2 hq (by simpa [vals] using hlen)).mono ?_
    rintro e W' (⟨he, hj, hk⟩ | ⟨he, hj⟩)
    · exact .inl ⟨he, ⟨_, by simp [vals], hj⟩, hk⟩
    · exact .inr ⟨he, ⟨_, by simp [vals], hj⟩⟩
  have fin : ∀ (e : Ending) (W' : World), ((∃ v, e = .returned v) ∧ ((∃ ys, ys = s.revL k ∧ ∃ q : List (Fin s.n), vals q = ys ∧ J q W') ∨ (∃ pre, pre <+: s.revL k ∧ ∃ q : List (Fin s.n), vals q = pre ∧ Jx q W'))) →
      (∃ v, e = .returned v) ∧ ((∃ xs : List (Fin s.n), vals xs = s.revL k ∧ J xs W') ∨ (∃ pre : List (Fin s.n), vals pre <+: s.revL k ∧ Jx pre W')) := by
    rintro e W' ⟨hv, (⟨ys, rfl, q, hq, hj⟩ | ⟨pre, hp, q, rfl, hj⟩)⟩
    · exact ⟨hv, .inl ⟨q, hq, hj⟩⟩
    · exact ⟨hv, .inr ⟨q, hp, hj⟩⟩
  cases e : hasL k with
  | false =>
    have e1 : s.revL k = [] := by unfold Sh.revL; rw [e]; rfl
    rw [e1] at fin ⊢
    exact (iter_no m hm l Bs Bl p k e (fun pre X => ∃ q : List (Fin s.n), vals q = pre ∧ J q X) (fun pre X => ∃ q : List (Fin s.n), vals q = pre ∧ Jx q X) W1 cs1 cl1 J1).mono fin
  | true =>
    have lt := h.lt
    obtain ⟨f, ns, r, q⟩ := h
    have nW : n₀ ≤ W.heap.size := by rw [hn]; exact hw.size
    have r1 : Rg W1 p b s.n s.bot ns := r.below (hw.trans (hW.mono nW)) (by omega) (by omega)
    have e1 : s.revL k = (s.li k.toNat).reverse := by unfold Sh.revL; rw [e]; rfl
    rcases hasL_cases e with rfl | rfl
    · rw [e1] at hY1 fin ⊢
      exact (iter_in m hm l Bs Bl n₀ p b s.n s.bot 0 ns s.n rfl (by decide) s.l0.reverse q.links.r0.a (nodup_rev q.links.r0.nodup) (fun x hx => f.lt0 x (List.mem_reverse.1 hx)) (by omega) (by omega) _ _ hY1 jd' W1 cs1 cl1 r1 J1).mono fin
    · rw [e1] at hY1 fin ⊢
      exact (iter_in m hm l Bs Bl n₀ p b s.n s.bot 1 ns (s.n + 1) rfl (by decide) s.l1.reverse q.links.r1.a (nodup_rev q.links.r1.nodup) (fun x hx => f.lt1 x (List.mem_reverse.1 hx)) (by omega) (by omega) _ _ hY1 jd' W1 cs1 cl1 r1 J1).mono fin
end Go.Proofs.Ytpmhpamajkhhiaa
