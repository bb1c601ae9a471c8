/- The document's own turns: a ticket waits, or not; it is promoted; it ends. -/
import Derived.Test.YtmihinpbgppjlaaRtPut
namespace Go.Proofs.Ytmihinpbgppjlaa
open Go.RowKit
set_option linter.unusedVariables false

theorem RtL.set1 {w : World} {q g n cap : Nat} {v2 : Value} {M : Nat → Prop} {nd na : Nat} {l1 l2 : List Sl} {i : Nat} {y : Sl} (h : RtL w q (.slice (some ⟨g, 0, none⟩) n cap) v2 M nd na l1 l2) (hy : l1[i]? = some y) (v : Bool) :
    RtL (w.setCell ⟨g, i * 2 + 1, none⟩ (.bool v)) q (.slice (some ⟨g, 0, none⟩) n cap) v2 M nd na (l1.set i { y with s := v }) l2 ∧ Only M w (w.setCell ⟨g, i * 2 + 1, none⟩ (.bool v)) := by
  have o := (Only.refl (fun k => k = g) w).into rfl (i * 2 + 1) (.bool v)
  have nq := own_row h.od h.row (by decide)
  have z := o.size
  refine ⟨⟨o.row h.row (fun e => nq (by rw [e]; rfl)), Owns.put1 h.od sl2 hy (by decide) rfl, Owns.keep h.oa o (fun b hb e => h.apart g rfl (by rw [hb, e])), h.apart, h.mq, h.m1, h.m2, fun b hb => Nat.lt_of_lt_of_le (h.lt b hb) z⟩, o.more (fun i _ k => by rw [k]; exact h.m1 g rfl)⟩
theorem RtL.set2 {w : World} {q g n cap : Nat} {v1 : Value} {M : Nat → Prop} {nd na : Nat} {l1 l2 : List Sl} {i : Nat} {y : Sl} (h : RtL w q v1 (.slice (some ⟨g, 0, none⟩) n cap) M nd na l1 l2) (hy : l2[i]? = some y) (v : Bool) :
    RtL (w.setCell ⟨g, i * 2 + 1, none⟩ (.bool v)) q v1 (.slice (some ⟨g, 0, none⟩) n cap) M nd na l1 (l2.set i { y with s := v }) ∧ Only M w (w.setCell ⟨g, i * 2 + 1, none⟩ (.bool v)) := by
  have o := (Only.refl (fun k => k = g) w).into rfl (i * 2 + 1) (.bool v)
  have nq := own_row h.oa h.row (by decide)
  have z := o.size
  refine ⟨⟨o.row h.row (fun e => nq (by rw [e]; rfl)), Owns.keep h.od o (fun b hb e => h.apart b hb (by rw [e]; rfl)), Owns.put1 h.oa sl2 hy (by decide) rfl, h.apart, h.mq, h.m1, h.m2, fun b hb => Nat.lt_of_lt_of_le (h.lt b hb) z⟩, o.more (fun i _ k => by rw [k]; exact h.m2 g rfl)⟩
theorem RtL.to {w w' : World} {q : Nat} {v1 v2 : Value} {M : Nat → Prop} {nd na : Nat} {l1 l2 : List Sl} (h : RtL w' q v1 v2 M nd na l1 l2) (o : Only M w w') : RtLTo w q M nd na l1 l2 w' := ⟨⟨v1, v2, M, h, fun g hg => .inl hg⟩, o⟩
theorem waitS_none {ss : List Sl} {x : Int} (h : hasL ss x = false) (v : Bool) : waitS ss x v = ss := wait_nowhere (fun a ha e => by
  have := hasL_iff.2 ⟨a, ha, e⟩
  rw [h] at this; cases this) v
theorem waitS_same {ss : List Sl} (o : OnceL ss) {x : Int} {v : Bool} (h : (atL ss x).s = v) : waitS ss x v = ss := by
  cases hh : hasL ss x with
  | false => exact waitS_none hh v
  | true =>
    unfold waitS
    rw [List.map_congr_left (g := id)]
    · simp
    · intro s hs
      show (if s.k = x then _ else s) = s
      by_cases e : s.k = x
      · rw [if_pos e]
        have := atL_of o hs
        rw [e] at this
        rw [this] at h
        cases s
        simp at h ⊢
        exact h.symm
      · rw [if_neg e]
set_option maxHeartbeats 2000000 in
theorem rwait_any {q : Nat} {v1 v2 : Value} {M : Nat → Prop} {nd na : Nat} {ss : List Sl} (x : Int) (v : Bool) (w : World) (h : RtAt w q v1 v2 M nd na ss) (hl : ss.length ≤ 400) :
    Calls Try.prog 28 #[.pointer (some ⟨q, 0, none⟩), .int .i64 x, .bool v] w (PutTo w q M nd na (waitC ss x v) (waitS ss x v)) := by
  have l1 := row_le false ss
  have l2 := row_le true ss
  have F1 := Lib.hid (rfind_any x w h.od (by omega))
  have F2 := Lib.hid (rfind_any x w h.oa (by omega))
  have c0 : w.cell? ⟨q, 0, none⟩ = some v1 := by rw [h.row.cell]; rfl
  have c1 : w.cell? ⟨q, 1, none⟩ = some v2 := by rw [h.row.cell]; rfl
  have H := Lib.hid h
  rcases ix_cases (rowL false ss) x with ⟨i, y, hi, hy, e⟩ | ⟨hi, n1⟩
  · have ST := stand_in h.once hy
    rw [e] at ST
    obtain ⟨E1, E2, E3, E4⟩ := ST
    rw [hi] at F1
    have hf2 : ixL (rowL true ss) x = -1 := by
      rcases ix_cases (rowL true ss) x with ⟨j, z, hj, hz, e'⟩ | ⟨hj, _⟩
      · exact absurd e' (E4 z (List.mem_of_getElem? hz))
      · exact hj
    rw [hf2] at F2
    obtain ⟨A, cap, rfl, ha⟩ := OwnsSl.form h.od
    obtain ⟨g, o, rfl, lt1, c⟩ := ha i y hy
    have o0 : o = 0 := by
      rcases h.od.2 with ⟨hv, _⟩ | ⟨g', cap', cur, hv, _⟩
      · cases hv
      · injection hv with hv; injection hv with hv; injection hv with _ hv
    subst o0
    have d1 : w.cell? ⟨g, i * 2 + 1, none⟩ = some (.bool y.s) := by have := c 1 (.bool y.s) rfl; rw [Nat.zero_add] at this; exact this
    have z1 := Owns.frozen h.od (i * 2 + 1)
    have li := lt_of_get hy
    have hl1 : (rowL false ss).length ≤ 1000 := by omega
    have SET := Lib.hid (RtL.set1 h.l hy v)
    have W1 := Lib.hid (show rowL false (waitS ss x v) = (rowL false ss).set i { y with s := v } from by rw [row_wait, ← e]; exact Go.Proofs.Ytmihinpbgppjlaa.wait_at (h.once.row false) hy v)
    have W2 := Lib.hid (show rowL true (waitS ss x v) = rowL true ss from by rw [row_wait]; exact wait_nowhere (fun a ha => E4 a ha) v)
    have WO := Lib.hid (Go.Proofs.Ytmihinpbgppjlaa.wait_once h.once x v)
    by_cases hs : y.s = v
    · have PC := Lib.hid (show waitC ss x v = 5 from by unfold waitC; rw [E1, E2, hs]; simp)
      have PS := Lib.hid (waitS_same (v := v) h.once (x := x) (by rw [E2]; exact hs))
      rw [hs] at d1
      generalize (rowL false ss).length = m at *
      clear h l1 l2 ha c hy e hi hs E1 E2 E3 E4 hf2 SET W1 W2 WO
      go_enter Try.func28, Try.ntmps28
      go_wp2_with fail
      (with_reducible refine (F1.out).mono ?_)
      rintro e w' ⟨rfl, rfl⟩
      go_wp2_with fail
      (with_reducible refine F2.out.mono ?_)
      rintro e w' ⟨rfl, rfl⟩
      go_wp2_with fail
      go_ret
      unfold PutTo
      rw [PC.out, PS.out]
      exact ⟨rfl, H.out.to (Only.refl _ _)⟩
    · have PC := Lib.hid (show waitC ss x v = 0 from by unfold waitC; rw [E1, E2]; simp [hs])
      have ne : (y.s == v) = false := by simp [hs]
      obtain ⟨m, hm⟩ : ∃ m, (rowL false ss).length = m := ⟨_, rfl⟩
      rw [hm] at SET c0 li hl1 F1
      clear h l1 l2 ha c hy e hi hs E1 E2 E3 E4 hf2
      go_enter Try.func28, Try.ntmps28
      go_wp2_with fail
      (with_reducible refine (F1.out).mono ?_)
      rintro e w' ⟨rfl, rfl⟩
      go_wp2_with fail
      (with_reducible refine F2.out.mono ?_)
      rintro e w' ⟨rfl, rfl⟩
      go_wp2_with fail
      go_ret
      unfold PutTo
      rw [PC.out]
      exact ⟨rfl, (RtL.to SET.out.1 SET.out.2).at_ WO.out W1.out W2.out⟩
  · rw [hi] at F1
    rcases ix_cases (rowL true ss) x with ⟨i, y, hi', hy, e⟩ | ⟨hi', n2⟩
    · have ST := stand_in h.once hy
      rw [e] at ST
      obtain ⟨E1, E2, E3, E4⟩ := ST
      rw [hi'] at F2
      obtain ⟨A, cap, rfl, ha⟩ := OwnsSl.form h.oa
      obtain ⟨g, o, rfl, lt1, c⟩ := ha i y hy
      have o0 : o = 0 := by
        rcases h.oa.2 with ⟨hv, _⟩ | ⟨g', cap', cur, hv, _⟩
        · cases hv
        · injection hv with hv; injection hv with hv; injection hv with _ hv
      subst o0
      have d1 : w.cell? ⟨g, i * 2 + 1, none⟩ = some (.bool y.s) := by have := c 1 (.bool y.s) rfl; rw [Nat.zero_add] at this; exact this
      have z1 := Owns.frozen h.oa (i * 2 + 1)
      have li := lt_of_get hy
      have hl1 : (rowL true ss).length ≤ 1000 := by omega
      have SET := Lib.hid (RtL.set2 h.l hy v)
      have W2 := Lib.hid (show rowL true (waitS ss x v) = (rowL true ss).set i { y with s := v } from by rw [row_wait, ← e]; exact Go.Proofs.Ytmihinpbgppjlaa.wait_at (h.once.row true) hy v)
      have W1 := Lib.hid (show rowL false (waitS ss x v) = rowL false ss from by rw [row_wait]; exact wait_nowhere (fun a ha => E4 a ha) v)
      have WO := Lib.hid (Go.Proofs.Ytmihinpbgppjlaa.wait_once h.once x v)
      by_cases hs : y.s = v
      · have PC := Lib.hid (show waitC ss x v = 5 from by unfold waitC; rw [E1, E2, hs]; simp)
        have PS := Lib.hid (waitS_same (v := v) h.once (x := x) (by rw [E2]; exact hs))
        rw [hs] at d1
        generalize (rowL true ss).length = m at *
        clear h l1 l2 ha c hy e hi hs E1 E2 E3 E4 hi' n1 SET W1 W2 WO
        go_enter Try.func28, Try.ntmps28
        go_wp2_with fail
        (with_reducible refine (F1.out).mono ?_)
        rintro e w' ⟨rfl, rfl⟩
        go_wp2_with fail
        (with_reducible refine F2.out.mono ?_)
        rintro e w' ⟨rfl, rfl⟩
        go_wp2_with fail
        go_ret
        unfold PutTo
        rw [PC.out, PS.out]
        exact ⟨rfl, H.out.to (Only.refl _ _)⟩
      · have PC := Lib.hid (show waitC ss x v = 0 from by unfold waitC; rw [E1, E2]; simp [hs])
        have ne : (y.s == v) = false := by simp [hs]
        obtain ⟨m, hm⟩ : ∃ m, (rowL true ss).length = m := ⟨_, rfl⟩
        rw [hm] at SET c1 li hl1 F2
        clear h l1 l2 ha c hy e hi hs E1 E2 E3 E4 hi' n1
        go_enter Try.func28, Try.ntmps28
        go_wp2_with fail
        (with_reducible refine (F1.out).mono ?_)
        rintro e w' ⟨rfl, rfl⟩
        go_wp2_with fail
        (with_reducible refine F2.out.mono ?_)
        rintro e w' ⟨rfl, rfl⟩
        go_wp2_with fail
        go_ret
        unfold PutTo
        rw [PC.out]
        exact ⟨rfl, (RtL.to SET.out.1 SET.out.2).at_ WO.out W1.out W2.out⟩
    · have hn := stand_no n1 n2
      have PC := Lib.hid (show waitC ss x v = 3 from by unfold waitC; rw [hn]; rfl)
      have PS := Lib.hid (waitS_none hn v)
      rw [hi'] at F2
      clear h l1 l2 hi hi' n1 n2 hn
      go_enter Try.func28, Try.ntmps28
      go_wp2_with fail
      (with_reducible refine (F1.out).mono ?_)
      rintro e w' ⟨rfl, rfl⟩
      go_wp2_with fail
      (with_reducible refine F2.out.mono ?_)
      rintro e w' ⟨rfl, rfl⟩
      go_wp2_with fail
      go_ret
      unfold PutTo
      rw [PC.out, PS.out]
      exact ⟨rfl, H.out.to (Only.refl _ _)⟩
end Go.Proofs.Ytmihinpbgppjlaa
