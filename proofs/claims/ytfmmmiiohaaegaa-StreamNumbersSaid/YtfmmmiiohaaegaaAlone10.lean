/- Who reads on, alone; what an access of a new stream is: plain facts. -/
import Derived.Test.YtfmmmiiohaaegaaLaw10
namespace Go.Proofs.Ytfmmmiiohaaegaa
set_option linter.unusedVariables false

/-- an access is of a stream that there was, or nobody's; or of a new one -/
theorem acc_new {c : Cf} {t : Tr} (h : Fine10 c t) (f n : Int) :
    (accI c t f n ≤ t.begun ∧ (accS c t f n).begun = t.begun) ∨
    (mayAcc c.blk f n = true ∧ accI c t f n = t.begun + 1 ∧ accR c t f n = (Fl.start f).readR n c.deg c.blk ∧ accS c t f n = ⟨fewer c.most t.ss ++ [usedBy c ⟨t.begun + 1, Fl.start f, 0⟩ n (t.uses + 1)], lookT c.size c.life t.es f n, t.uses + 1, t.begun + 1⟩) := by
  unfold accI accS accR
  cases hm : mayAcc c.blk f n with
  | false => left; simp
  | true =>
    simp only [if_true]
    cases ht : topOf t.ss f with
    | some k =>
      obtain ⟨s, hs, _⟩ := top_of ht
      left
      simp only [hs, Option.getD_some]
      exact ⟨(h.ids s (List.mem_of_getElem? hs)).2, trivial⟩
    | none =>
      cases hb : lookB c.size c.life t.es f n with
      | false => left; simp
      | true => right; simp
theorem start_next {f n d b : Int} (h : (Fl.start f).May d b) (h1 : 1 ≤ n) (h8 : n ≤ 8) (hb : f + n ≤ b) : ((Fl.start f).readF n d b).n = f + n := by
  unfold Fl.readF
  rw [if_pos (read_code h h1 h8 hb)]
  unfold Fl.askF
  split <;> rfl
theorem read_next {f : Fl} {n d b : Int} (h : f.May d b) (h1 : 1 ≤ n) (h8 : n ≤ 8) (hb : f.n + n ≤ b) : (f.readF n d b).n = f.n + n := by
  unfold Fl.readF
  rw [if_pos (read_code h h1 h8 hb)]
  unfold Fl.askF
  split <;> rfl
/-- what is asked for begins where that before ended, or where the stream is -/
theorem read_run {f : Fl} {n d b : Int} (h : f.May d b) (h1 : 1 ≤ n) (h8 : n ≤ 8) (hb : f.n + n ≤ b) :
    0 ≤ (f.readR n d b).c ∧ (f.readR n d b).c ≤ d ∧ (0 < (f.readR n d b).c → (f.readR n d b).f = max f.a (f.n + n) ∧ (f.readR n d b).f + (f.readR n d b).c ≤ b) ∧ (f.readF n d b).a = max f.a (f.n + n) + (f.readR n d b).c := by
  have hm := moved_may h h1 h8 hb
  unfold Fl.readR Fl.readF
  rw [if_pos (read_code h h1 h8 hb), if_pos (read_code h h1 h8 hb)]
  unfold Fl.askR Fl.askF Fl.room
  have e : (f.moved n d).a = max f.a (f.n + n) := rfl
  obtain ⟨x1, x2, x3, x4, x5, x6, x7, x8, x9, x10, x11⟩ := hm
  rw [← e]
  split
  · dsimp only
    refine ⟨by omega, by omega, fun _ => ⟨rfl, by omega⟩, rfl⟩
  · dsimp only
    refine ⟨by omega, by omega, fun k => by omega, by omega⟩
/-- who reads alone: behind j accesses it is at a place, and what was asked for ends at another -/
inductive Alone (c : Cf) (t : Tr) (j : Nat) (a e : Int) : Prop
  | zero_ (h : t = ⟨[], [], 0, 0⟩) (hj : j = 0) (he : e = a)
  | one_ (h : t = ⟨[], [⟨a, 0⟩], 1, 0⟩) (hj : j = 1) (he : e = a)
  | more_ (F : Fl) (h : t = ⟨[⟨1, F, j⟩], [], j, 1⟩) (hj : 2 ≤ j) (hn : F.n = a) (he : F.a = e) (hm : F.May c.deg c.blk)
theorem Alone.on {c : Cf} {t : Tr} {j : Nat} {a e : Int} (h : Alone c t j a e) (ok : c.Ok) (hf : Fine10 c t) (n : Int) (hm : mayAcc c.blk a n = true) :
    ((j = 0 ∧ accI c t a n = 0 ∧ accR c t a n = ⟨0, 0⟩) ∨ (1 ≤ j ∧ accI c t a n = 1)) ∧ 0 ≤ (accR c t a n).c ∧ (accR c t a n).c ≤ 16 ∧ (0 < (accR c t a n).c → (accR c t a n).f = max e (a + n)) ∧ Alone c (accS c t a n) (j + 1) (a + n) (max e (a + n) + (accR c t a n).c) := by
  have hb := mayAcc_iff.1 hm
  have k1 := ok.s1
  have k2 := ok.l1
  have k3 := ok.b256
  have k4 := ok.d16
  have ml : mayLook a n = true := mayLook_iff.2 (by omega)
  rcases h with ⟨rfl, rfl, rfl⟩ | ⟨rfl, rfl, rfl⟩ | ⟨F, rfl, hj, hn, he, hM⟩
  · have e1 : accI c ⟨[], [], 0, 0⟩ e n = 0 ∧ accR c ⟨[], [], 0, 0⟩ e n = ⟨0, 0⟩ ∧ accS c ⟨[], [], 0, 0⟩ e n = ⟨[], [⟨e + n, 0⟩], 1, 0⟩ := by
      unfold accI accR accS
      rw [if_pos hm, if_pos hm, if_pos hm]
      have ht : topOf [] e = none := rfl
      have hl : lookB c.size c.life [] e n = false := by unfold lookB lookE; simp [older, hasE]
      have hl2 : lookT c.size c.life [] e n = [⟨e + n, 0⟩] := by
        unfold lookT lookE
        rw [if_pos ml]
        simp [older, hasE, noteE, room]
      simp only [ht, hl, hl2]
      exact ⟨rfl, rfl, rfl⟩
    obtain ⟨i1, i2, i3⟩ := e1
    rw [i1, i2, i3]
    refine ⟨.inl ⟨rfl, rfl, rfl⟩, Int.le_refl _, by decide, fun k => absurd k (by decide), .one_ rfl rfl ?_⟩
    show max e (e + n) + 0 = e + n
    omega
  · have hs : (Fl.start e).May c.deg c.blk := start_may ⟨ok.d1, ok.d16⟩ ⟨ok.b1, ok.b256⟩ ⟨hb.2.2.1, by omega⟩
    have e1 : accI c ⟨[], [⟨e, 0⟩], 1, 0⟩ e n = 1 ∧ accR c ⟨[], [⟨e, 0⟩], 1, 0⟩ e n = (Fl.start e).readR n c.deg c.blk ∧ accS c ⟨[], [⟨e, 0⟩], 1, 0⟩ e n = ⟨[⟨1, (Fl.start e).readF n c.deg c.blk, 2⟩], [], 2, 1⟩ := by
      unfold accI accR accS
      rw [if_pos hm, if_pos hm, if_pos hm]
      have ht : topOf [] e = none := rfl
      have hl : lookB c.size c.life [⟨e, 0⟩] e n = true := by unfold lookB lookE; rw [ml]; simp [older, hasE, k2]
      have hl2 : lookT c.size c.life [⟨e, 0⟩] e n = [] := by
        unfold lookT lookE
        rw [if_pos ml]
        simp [older, hasE, cut, k2]
      have hfw : fewer c.most [] = [] := by unfold fewer; split <;> rfl
      simp only [ht, hl, hl2, hfw]
      exact ⟨rfl, rfl, rfl⟩
    obtain ⟨i1, i2, i3⟩ := e1
    have r := read_run hs hb.1 hb.2.1 (show e + n ≤ _ by omega)
    have ra : max (Fl.start e).a ((Fl.start e).n + n) = max e (e + n) := rfl
    rw [ra] at r
    rw [i1, i2, i3]
    refine ⟨.inr ⟨Nat.le_refl _, rfl⟩, r.1, by omega, fun k => (r.2.2.1 k).1, .more_ _ rfl (Nat.le_refl _) (start_next hs hb.1 hb.2.1 (by omega)) r.2.2.2 (read_may hs hb.1 hb.2.1 (show e + n ≤ _ by omega))⟩
  · subst hn he
    have ht : topOf [⟨1, F, j⟩] F.n = some 0 := top_is (List.pairwise_singleton _ _) (k := 0) (s := ⟨1, F, j⟩) rfl rfl (fun i t hi _ => by
      cases i with
      | zero => injection hi with hi; rw [← hi]; exact Nat.le_refl _
      | succ i => simp at hi)
    have e1 : accI c ⟨[⟨1, F, j⟩], [], j, 1⟩ F.n n = 1 ∧ accR c ⟨[⟨1, F, j⟩], [], j, 1⟩ F.n n = F.readR n c.deg c.blk ∧ accS c ⟨[⟨1, F, j⟩], [], j, 1⟩ F.n n = ⟨[⟨1, F.readF n c.deg c.blk, j + 1⟩], [], j + 1, 1⟩ := by
      unfold accI accR accS
      rw [if_pos hm, if_pos hm, if_pos hm]
      simp only [ht]
      exact ⟨rfl, rfl, rfl⟩
    obtain ⟨i1, i2, i3⟩ := e1
    have r := read_run hM hb.1 hb.2.1 (show F.n + n ≤ _ by omega)
    rw [i1, i2, i3]
    exact ⟨.inr ⟨by omega, rfl⟩, r.1, by omega, fun k => (r.2.2.1 k).1, .more_ _ rfl (by omega) (read_next hM hb.1 hb.2.1 (by omega)) r.2.2.2 (read_may hM hb.1 hb.2.1 (by omega))⟩
theorem Alone.few {c : Cf} {t : Tr} {j : Nat} {a e : Int} (h : Alone c t j a e) : t.es.length ≤ 1 ∧ t.uses = j := by
  rcases h with ⟨rfl, rfl, rfl⟩ | ⟨rfl, rfl, rfl⟩ | ⟨F, rfl, hj, hn, he, hM⟩ <;> exact ⟨by simp, rfl⟩
theorem Alone.end_le {c : Cf} {t : Tr} {j : Nat} {a e : Int} (h : Alone c t j a e) (ha : a ≤ c.blk) : a ≤ e ∧ e ≤ c.blk := by
  rcases h with ⟨rfl, rfl, rfl⟩ | ⟨rfl, rfl, rfl⟩ | ⟨F, rfl, hj, hn, he, hM⟩
  · exact ⟨Int.le_refl _, ha⟩
  · exact ⟨Int.le_refl _, ha⟩
  · obtain ⟨x1, x2, x3, x4, x5, x6, x7, x8, x9, x10, x11⟩ := hM
    omega
theorem reads_ok (D : Nat) (h3 : 1 ≤ D) (h4 : D ≤ 16) : (Cf.mk 4 4 4 D 256).Ok := ⟨(show 1 ≤ 4 by decide), (show 4 ≤ 16 by decide), (show 1 ≤ 4 by decide), (show 4 ≤ 32 by decide), (show 1 ≤ 4 by decide), (show 4 ≤ 64 by decide), h3, h4, (show 1 ≤ 256 by decide), (show 256 ≤ 256 by decide)⟩
theorem trk_new4 (D : Nat) (w : World) (h3 : 1 ≤ D) (h4 : D ≤ 16) :
    Calls Try.prog 9 #[.int .i64 4, .int .i64 4, .int .i64 4, .int .i64 D, .int .i64 256] w fun e w' => ∃ q, e = .returned (.tuple #[.pointer (some ⟨q, 0, none⟩), .int .i64 0]) ∧ Trk w w' q ⟨4, 4, 4, D, 256⟩ ⟨[], [], 0, 0⟩ := by
  refine (new10_yes ⟨4, 4, 4, D, 256⟩ w (reads_ok D h3 h4)).mono ?_
  rintro e w' ⟨q, he, h, o⟩
  exact ⟨q, he, h, o⟩
theorem read8 (x : Int) (h : 0 ≤ x) : ∃ N : Int, 1 + x % 8 = N ∧ 1 ≤ N ∧ N ≤ 8 := ⟨1 + x % 8, rfl, by omega, by omega⟩
end Go.Proofs.Ytfmmmiiohaaegaa
