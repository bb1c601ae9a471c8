/- Turns in memory: what only reads: State, Free, room. -/
import Derived.Test.YtmihinpbgppjlaaSl12
import Derived.Test.YtmihinpbgppjlaaChecked
import Derived.BigRegion
import Derived.BigQuiet
import Derived.RegionTactic
namespace Go.Proofs.Ytmihinpbgppjlaa
open Go.RowKit Go.Maps
set_option linter.unusedVariables false

/-- turns at block p, their map at block b, behind L turns -/
structure TnAt (w : World) (p b nd na L : Nat) (ps : List Pl) : Prop where
  row : Row w p 57 #[.int .i64 nd, .int .i64 na, .map (some b), .int .i64 L]
  md : Md w b ps
  once : Once ps
  rise : Rise ps
  top : ∀ q ∈ ps, 0 ≤ q.n ∧ q.n ≤ L
  few : ∀ a, (ps.filter (fun q => q.a == a)).length ≤ mostL nd na a
  nd64 : nd ≤ 64
  na64 : na ≤ 64
abbrev two12 (p b : Nat) : Nat → Prop := fun k => k = p ∨ k = b
theorem TnAt.keep {w w' : World} {p b nd na L : Nat} {ps : List Pl} (h : TnAt w p b nd na L ps) {S : Nat → Prop} (o : Only S w w') (hp : ¬ S p) (hb : ¬ S b) : TnAt w' p b nd na L ps :=
  ⟨o.row h.row hp, h.md.keep o hb, h.once, h.rise, h.top, h.few, h.nd64, h.na64⟩
theorem TnAt.still {w w' : World} {p b nd na L : Nat} {ps : List Pl} (h : TnAt w p b nd na L ps) (o : Only none_ w w') : TnAt w' p b nd na L ps := h.keep o (fun s => s) (fun s => s)
theorem TnAt.len {w : World} {p b nd na L : Nat} {ps : List Pl} (h : TnAt w p b nd na L ps) : ps.length ≤ 128 := by
  have e := two_len Pl.a ps
  have h1 := h.few false
  have h2 := h.few true
  have := h.nd64
  have := h.na64
  unfold mostL at h1 h2
  simp at h1 h2
  simp at e
  omega
theorem TnAt.ne {w : World} {p b nd na L : Nat} {ps : List Pl} (h : TnAt w p b nd na L ps) : p ≠ b := h.md.ne h.row

theorem tstate_any {p b nd na L : Nat} {ps : List Pl} (x : Int) (w : World) (h : TnAt w p b nd na L ps) (wx : (Lit.int .i64 x).wf = true) :
    Calls Try.prog 14 #[.pointer (some ⟨p, 0, none⟩), .int .i64 x] w fun e w' => e = .returned (.tuple #[.bool (atP ps x).a, .bool (atP ps x).s, .bool (hasP ps x)]) ∧ Only none_ w w' := by
  have c2 : w.cell? ⟨p, 2, none⟩ = some (.map (some b)) := by rw [h.row.cell]; rfl
  have LK := h.md.look h.once wx
  generalize atP ps x = q at *
  generalize hasP ps x = hs at *
  unfold plVal at LK
  clear h wx
  go_enter Try.func14, Try.ntmps14
  go_wp2_with fail
  go_quiet (fail)
  go_wp2_with fail
  go_ret3
  exact ⟨rfl, ((Only.refl _ _).alloc _).drewN _⟩

def Freed12 (nd na : Nat) (ps : List Pl) (w : World) (e : Ending) (w' : World) : Prop :=
  e = .returned (.tuple #[.int .i64 ((nd : Int) - (ps.filter (fun q => q.a == false)).length), .int .i64 ((na : Int) - (ps.filter (fun q => q.a == true)).length)]) ∧ Only none_ w w'
theorem filt_step {f : Pl → Bool} {xs : List Pl} {q : Pl} : ((xs ++ [q]).filter f).length = (xs.filter f).length + (if f q then 1 else 0) := by
  rw [List.filter_append, List.length_append]
  cases h : f q <;> simp [h]
set_option maxHeartbeats 2000000 in
theorem tfree_any {p b nd na L : Nat} {ps : List Pl} (w : World) (h : TnAt w p b nd na L ps) :
    Calls Try.prog 13 #[.pointer (some ⟨p, 0, none⟩)] w (Freed12 nd na ps w) := by
  have c0 : w.cell? ⟨p, 0, none⟩ = some (.int .i64 nd) := by rw [h.row.cell]; rfl
  have c1 : w.cell? ⟨p, 1, none⟩ = some (.int .i64 na) := by rw [h.row.cell]; rfl
  have c2 : w.cell? ⟨p, 2, none⟩ = some (.map (some b)) := by rw [h.row.cell]; rfl
  have LE := h.len
  have d64 := h.nd64
  have a64 := h.na64
  obtain ⟨D0, hown, hr0⟩ := h.md
  have OC := Lib.hid h.once
  have OW := Lib.hid hown
  have HR := Lib.hid hr0
  have lb := hown.lt
  clear h hown hr0
  go_enter Try.func13, Try.ntmps13
  go_wp2_with fail
  go_quiet (fail)
  have OW2 := Lib.hid (owns_keep OW.out ((Only.refl none_ w).drewN nq) (fun s => s))
  have N0 := Lib.hid ((Only.refl none_ w).drewN nq)
  obtain ⟨w9, hw9⟩ : ∃ w9, w9 = w.drewN nq := ⟨_, rfl⟩
  have c2' : w9.cell? ⟨p, 2, none⟩ = some (.map (some b)) := by rw [hw9]; exact c2
  rw [← hw9] at OW2 N0 ⊢
  clear c0 c1 c2 hw9 OW
  go_wp2_with (first
    | (at_range; refine wpList_range_own _ rfl _ 55 rfl 3 59 lawI Try.underlying55 _ b ps.length D0 rfl OW2.out ?_; intro w0 hrg0 hg0 hs0)
    | go_in)
  have RG0 := Lib.hid hrg0
  have G0 := Lib.hid (show Only none_ w w0 from N0.out.same ((Only.of_grown hg0).more (fun _ _ e => by cases e)))
  have sz0 : w.heap.size ≤ w9.heap.size := N0.out.size
  clear hrg0 hg0 hs0
  go_frame
  go_loopw [2, 3] (fun v2 v3 wr => ∃ (left : Lit → Bool) (cnt : Nat) (xs : List Pl), wr.ranges Try.prog 3 plElem b w9.heap.size ps.length D0 left cnt ∧ v2 = .int .i64 ((nd : Int) - (xs.filter (fun q => q.a == false)).length) ∧ v3 = .int .i64 ((na : Int) - (xs.filter (fun q => q.a == true)).length) ∧ Got ps left xs ∧ Only none_ w wr)
    (fun _ _ wr => wr.rangeLeft b w9.heap.size)
  case atStart =>
    exact ⟨_, _, [], RG0.out, by simp, by simp, Got.start HR.out, G0.out⟩
  case round =>
    obtain ⟨left, cnt, xs, hrg, rfl, rfl, hg, ow⟩ := hrel
    have RG := Lib.hid hrg
    have GO := Lib.hid hg
    have OO := Lib.hid ow
    have l1 := List.length_filter_le (fun q : Pl => q.a == false) xs
    have l2 := List.length_filter_le (fun q : Pl => q.a == true) xs
    have xl := hg.len
    clear ow hg
    obtain ⟨m, hm⟩ : ∃ m, (xs.filter (fun q => q.a == false)).length = m := ⟨_, rfl⟩
    obtain ⟨n, hn⟩ : ∃ n, (xs.filter (fun q => q.a == true)).length = n := ⟨_, rfl⟩
    have HM := Lib.hid hm
    have HN := Lib.hid hn
    rw [hm] at l1 ⊢
    rw [hn] at l2 ⊢
    clear hm hn
    go_wp2_with (first
      | (at_next; refine wpList_next_ranges _ rfl _ rfl 3 lawI plElem (Value.int .i64) plVal (fun key kl hkey => by obtain ⟨x, rfl, _⟩ := Maps.keyOf_int_inv Try.underlying3 hkey; exact ⟨x, rfl⟩) (fun v y hv => by obtain ⟨q, rfl, _⟩ := plElem_inv hv; exact ⟨q, rfl⟩) b w9.heap.size ps.length _ _ _ rfl RG.out ?_ ?_)
      | go_in)
    · intro _ hl0
      have PP := GO.out.over OC.out hl0
      have e1 := (PP.filter (fun q => q.a == false)).length_eq
      have e2 := (PP.filter (fun q => q.a == true)).length_eq
      have E1 := Lib.hid (HM.out.symm.trans e1)
      have E2 := Lib.hid (HN.out.symm.trans e2)
      clear hl0 PP e1 e2
      go_wp2_with fail
      go_ret2
      exact ⟨by rw [E1.out, E2.out]; rfl, OO.out⟩
    · intro x q kl y zs w1 cnt1 hkey hlx hq hat hrg1 hlt hg1 hs1 hen
      obtain ⟨x', ex, rfl, hwx⟩ := Maps.keyOf_int_inv Try.underlying3 hkey
      cases ex
      rw [plElem_mk] at hq
      injection hq with hq
      injection hq with hq1 hq2
      subst hq1 hq2
      obtain ⟨qm, rfl⟩ := entry_of HR.out hat
      have G1 := Lib.hid (Only.of_grown hg1)
      have O3 := Lib.hid (OO.out.trans G1.out (fun i hi z => by have := Option.some.inj z; omega))
      have GS := Lib.hid (GO.out.step OC.out qm hlx)
      have RG1 := Lib.hid hrg1
      have RA := Lib.hid (fun o => World.ranges.alloc (o := o) (show w1.ranges Try.prog 3 plElem b w9.heap.size ps.length D0 (strike left q.k) cnt1 from hrg1))
      have S2 := Lib.hid (filt_step (f := fun q : Pl => q.a == false) (xs := xs) (q := q))
      have S3 := Lib.hid (filt_step (f := fun q : Pl => q.a == true) (xs := xs) (q := q))
      unfold plVal at hen ⊢
      clear hkey hat hrg1 hg1 hs1 hlx qm
      cases ha : q.a with
      | false =>
        rw [ha] at hen
        go_wp2_with fail
        go_roundw
        case rel => exact ⟨strike left q.k, cnt1, xs ++ [q], RA.out _, by rw [S2.out, HM.out, ha]; simp; omega, by rw [S3.out, HN.out, ha]; simp, GS.out, O3.out.alloc _⟩
        case measure => rw [World.ranges.left_eq (RA.out _), RG.out.left_eq]; exact hlt
      | true =>
        rw [ha] at hen
        go_wp2_with fail
        go_roundw
        case rel => exact ⟨strike left q.k, cnt1, xs ++ [q], RA.out _, by rw [S2.out, HM.out, ha]; simp, by rw [S3.out, HN.out, ha]; simp; omega, GS.out, O3.out.alloc _⟩
        case measure => rw [World.ranges.left_eq (RA.out _), RG.out.left_eq]; exact hlt
end Go.Proofs.Ytmihinpbgppjlaa
