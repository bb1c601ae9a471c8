/- Package stream: a new stream begins. -/
import Derived.Test.YtfmmmiiohaaegaaStNew
import Derived.Maps.AppendAt
namespace Go.Proofs.Ytfmmmiiohaaegaa
open Go.RowKit Go.Maps
set_option linter.unusedVariables false

theorem StAt.greater {w : World} {q p b L : Nat} {v : Value} {M : Nat → Prop} {c : Cf} {ss : List Sm} {es : List En} {u n : Nat} (h : StAt w q p b L v M c ⟨ss, es, u, n⟩) : StAt (w.setCell ⟨q, 5, none⟩ (.int .i64 ((n : Int) + 1))) q p b L v M c ⟨ss, es, u, n + 1⟩ := by
  have o := (Only.refl (fun k => k = q) w).into rfl 5 (.int .i64 ((n : Int) + 1))
  have e : (((n + 1 : Nat) : Int)) = (n : Int) + 1 := by omega
  refine ⟨?_, h.own.keep' o (fun g hg => h.gq hg), h.tab.keep o (fun k => h.qp k.symm) (fun k => h.qb k.symm), h.le, h.mq, h.mp, h.mb, fun g hg => Nat.lt_of_lt_of_le (h.lt g hg) o.size⟩
  have r := h.row.put 5 (.int .i64 ((n : Int) + 1))
  rw [← e] at r ⊢
  exact r
/-- the streams lie elsewhere, or are others -/
theorem StAt.other {w w' : World} {q p b L : Nat} {v v' : Value} {M M' : Nat → Prop} {c : Cf} {ss fs : List Sm} {es : List En} {u n : Nat} (h : StAt w q p b L v M c ⟨ss, es, u, n⟩) (o : Only (fun k => some k = v.ownBlock) w w') (ho : OwnsSm w' M' v' fs)
    (hm : ∀ g, M g → M' g) (hl : ∀ g, M' g → g < w'.heap.size) (hn : ∀ g, v'.ownBlock = some g → M g → some g = v.ownBlock) : StAt (w'.setCell ⟨q, 4, none⟩ v') q p b L v' M' c ⟨fs, es, u, n⟩ := by
  have nq : ¬ some q = v.ownBlock := fun k => h.gq k.symm rfl
  have np : ¬ some p = v.ownBlock := fun k => h.gp k.symm rfl
  have nb : ¬ some b = v.ownBlock := fun k => h.gb k.symm rfl
  have o2 := (Only.refl (fun k => k = q) w').into rfl 4 v'
  refine ⟨(o.row h.row nq).put 4 v', ho.keep' o2 (fun g hg k => ?_), (h.tab.keep o np nb).keep o2 (fun k => h.qp k.symm) (fun k => h.qb k.symm), h.le, hm _ h.mq, hm _ h.mp, hm _ h.mb, fun g hg => Nat.lt_of_lt_of_le (hl g hg) o2.size⟩
  subst k
  exact nq (hn _ hg h.mq)

theorem row_form10 {w : World} {base n : Nat} {v : Value} {xs : List Value} (h : w.ownsRow base 59 6 v n xs) : ∃ a n c, v = .slice a n c := by
  rcases h.2 with ⟨h0, _⟩ | ⟨g, cap, cur, hv, _⟩
  · exact ⟨none, 0, 0, h0⟩
  · exact ⟨_, _, _, hv⟩
/-- append to a slice of the call's own, as one step of a region that draws; where it lies behind it -/
theorem step_append_at10 {P : Program} {ops : Array Oper} {o : Oper} {a : Act} {w : World} {K : Act → World → Prop} {Q : Exit → Act → World → Prop} {E : Prop}
    (hg : o.guard = none) (s x : Operand) (t : TypeId) (hop : o.op = Op.call { callee := Callee.builtin Builtin.append, args := #[s, x], argTypes := #[t, t] })
    (base : Nat) (e : TypeId) (i : TypeInfo) (z : Value) (size bytes : Nat) (h1 : P.underlying t = some (.slice e)) (h2 : P.info? e = some i) (h3 : i.zero = some z) (h4 : i.size = size) (h5 : i.bytes = bytes) (h6 : z.cells.size = size) (h7 : 0 < size)
    (v : Value) (k : Nat) (xs : List Value) (hs : a.eval s = v) (hown : w.ownsRow base e size v k xs)
    (ad : Addr) (m c : Nat) (news : List Value) (hx : a.eval x = .slice (some ad) m c) (hn : news.length = m * size) (hc : ∀ j u, news[j]? = some u → w.cell? (ad.add j) = some u) (h1c : ∀ u ∈ news, u.oneCell' = true)
    (b1 : k + m ≤ maxLen) (b2 : (k + m) * bytes ≤ 140737488355328) (b3 : base ≤ w.heap.size)
    (hK : ∀ v' w', w'.ownsRow base e size v' (k + m) (xs ++ news) → w.grownBy w' v.ownBlock → (v'.ownBlock = v.ownBlock ∨ v'.ownBlock = some w.heap.size) → K (a.put o.dst v') w') :
    if Region.wanted o (yielded ops a.tmps) = true then Oper.wp P o a w K Q else E := by
  have hw : Region.wanted o (yielded ops a.tmps) = true := by simp [Region.wanted, hg]
  rw [if_pos hw]
  obtain ⟨v', w', hrun, r1, r2, _, r4⟩ := run_append_own_at (P := P) w base t o.type e i z size bytes h1 h2 h3 h4 h5 h6 h7 v k xs hown ad m c news hn hc h1c b1 b2 b3
  unfold Oper.wp
  simp [execOp, hop, resolve, invoke, builtin, hs, hx, hrun, Result.andThen]
  exact hK v' w' r1 r2 r4
/-- with one more behind all others -/
def Begun (w : World) (q p b L : Nat) (M : Nat → Prop) (c : Cf) (t : Tr) (fs : List Sm) (f : Int) (e : Ending) (w' : World) : Prop :=
  e = .returned (.int .i64 fs.length) ∧ (∃ v' M', StAt w' q p b L v' M' c ⟨fs ++ [⟨t.begun + 1, Fl.start f, 0⟩], t.es, t.uses, t.begun + 1⟩ ∧ ∀ g, M' g → M g ∨ w.heap.size ≤ g) ∧ Only M w w'

set_option maxRecDepth 100000 in
set_option maxHeartbeats 4000000 in
theorem begin_any {q p b L : Nat} {v : Value} {M : Nat → Prop} {c : Cf} {t : Tr} (f : Int) (w : World) (h : StAt w q p b L v M c t) (hf : Fine10 c t) (hu : t.uses ≤ 1000) :
    Calls Try.prog 29 #[.pointer (some ⟨q, 0, none⟩), .int .i64 f] w (Begun w q p b L M c t (fewer c.most t.ss) f) := by
  have hfew := hf.few
  have hm16 := hf.ok.m16
  have hm1 := hf.ok.m1
  have hbu := hf.beg
  have SA := Lib.hid (fun w => start_any f w)
  unfold Fl.start Fl.val at SA
  have hw : IntKind.i64.wrap ((t.begun : Int) + 1) = (t.begun : Int) + 1 := by rw [IntKind.wrap_i64]; omega
  obtain ⟨A0, cap0, rfl, hh0, ha0⟩ := h.own.form
  have H := Lib.hid h
  have HF := Lib.hid hf
  have c4 : w.drew.cell? ⟨q, 4, none⟩ = some (.slice A0 t.ss.length cap0) := by show w.cell? _ = _; rw [h.row.cell]; rfl
  have c0 : w.drew.cell? ⟨q, 0, none⟩ = some (.int .i64 c.most) := by show w.cell? _ = _; rw [h.row.cell]; rfl
  clear h hf hh0
  by_cases hlt : t.ss.length = c.most
  · have d1 : ((t.ss.length : Int) == (c.most : Int)) = true := by simp; omega
    have hne : t.ss ≠ [] := fun e => by rw [e] at hlt; simp at hlt; omega
    have FE := Lib.hid (show fewer c.most t.ss = t.ss.eraseIdx ((lowOf t.ss).getD 0) from by unfold fewer; rw [if_pos (by omega)])
    rw [FE.out]
    obtain ⟨g, rfl, _, _, _, hMg⟩ := ha0 hne
    have OL := Lib.hid (oldest10_any w.drew (H.out.still (Only.refl none_ w).drew) HF.out hu hne)
    obtain ⟨k, hk⟩ : ∃ k, k = (lowOf t.ss).getD 0 := ⟨_, rfl⟩
    rw [← hk] at OL ⊢
    obtain ⟨fs, hfs⟩ : ∃ fs, fs = t.ss.eraseIdx k := ⟨_, rfl⟩
    rw [← hfs]
    have FS := Lib.hid hfs
    have hlen : t.ss.length ≤ 1000 := by omega
    have hw1 : IntKind.i64.wrap ((k : Int) + 1) = (k : Int) + 1 ∨ ¬ k < t.ss.length := by
      by_cases q : k < t.ss.length
      · left; rw [IntKind.wrap_i64]; omega
      · right; exact q
    clear FE ha0 hk hfs hne hlt
    go_enter Try.func29, Try.ntmps29
    go_wp2_with fail
    go_region
    clear c4 c0
    go_wp2_with fail
    (with_reducible refine OL.out.mono ?_)
    rintro e w1 ⟨rfl, hk, o1⟩
    have hw1 : IntKind.i64.wrap ((k : Int) + 1) = (k : Int) + 1 := hw1.resolve_right (fun q => q hk)
    have H1 := Lib.hid (H.out.still ((Only.refl none_ w).drew.same o1))
    have lf : fs.length = t.ss.length - 1 := by rw [FS.out, List.length_eraseIdx, if_pos hk]
    have D := del10_any g cap0 k t.ss w1 H1.out.own.1 hk hlen
    rw [← FS.out, ← lf] at D
    have DD := Lib.hid D
    have O1 := Lib.hid (show Only M w w1 from ((Only.refl none_ w).drew.same o1).up)
    have c4 : w1.cell? ⟨q, 4, none⟩ = some (.slice (some ⟨g, 0, none⟩) t.ss.length cap0) := by rw [H1.out.row.cell]; rfl
    have LF := Lib.hid lf
    clear D lf o1 OL H
    go_wp2_with fail
    (with_reducible refine DD.out.mono ?_)
    rintro e w2 ⟨rfl, hd, o2⟩
    have K := H1.out.other (v' := .slice (some ⟨g, 0, none⟩) fs.length cap0) (M' := M) (o2.more (fun i _ s => by rw [s]; rfl)) ⟨hd, fun g' hg => by injection hg with hg; rw [← hg]; exact hMg⟩ (fun g hg => hg) (fun g hg => Nat.lt_of_lt_of_le (H1.out.lt g hg) o2.size) (fun g' hg _ => hg.symm)
    have H2' := Lib.hid K
    have O2' := Lib.hid ((O1.out.trans o2 (fun i _ s => by subst s; exact hMg)).into H1.out.mq 4 (.slice (some ⟨g, 0, none⟩) fs.length cap0))
    have hfl : fs.length ≤ 1000 := by have := LF.out; omega
    have r2 := o2.row H1.out.row (fun k => H1.out.gq (g := g) rfl k.symm)
    have z4 : w2.frozen? ⟨q, 4, none⟩ = false := r2.frozen 4
    have lq2 := r2.lt
    have k4 : w2.cell? ⟨q, 4, none⟩ = some (.slice (some ⟨g, 0, none⟩) t.ss.length cap0) := by rw [r2.cell]; rfl
    have k5 : (w2.setCell ⟨q, 4, none⟩ (.slice (some ⟨g, 0, none⟩) fs.length cap0)).cell? ⟨q, 5, none⟩ = some (.int .i64 t.begun) := by rw [H2'.out.row.cell]; rfl
    have z5' : (w2.setCell ⟨q, 4, none⟩ (.slice (some ⟨g, 0, none⟩) fs.length cap0)).frozen? ⟨q, 5, none⟩ = false := H2'.out.row.frozen 5
    have H3 := Lib.hid H2'.out.greater
    have O3 := Lib.hid (O2'.out.into H2'.out.mq 5 (.int .i64 ((t.begun : Int) + 1)))
    clear hd o2 K O1 H1 DD c4 r2 H2' O2'
    go_wp2_with fail
    generalize (w2.setCell ⟨q, 4, none⟩ (.slice (some ⟨g, 0, none⟩) fs.length cap0)).setCell ⟨q, 5, none⟩ (.int .i64 ((t.begun : Int) + 1)) = w3 at *
    clear k5 z5' z4 lq2 k4
    obtain ⟨i0, hi0, hz0, hz1, hz2⟩ := info_parts info_sm
    have I0 := Lib.hid hi0
    have I1 := Lib.hid hz0
    have I2 := Lib.hid hz1
    have I3 := Lib.hid hz2
    clear hi0 hz0 hz1 hz2
    have OD := Lib.hid (Only.refl none_ w3).drew
    have KS := Lib.hid (fun w' (o : Only (fun k => k ≠ q) w3 w') => (show w'.cell? ⟨q, 4, none⟩ = some (.slice (some ⟨g, 0, none⟩) fs.length cap0) ∧ w'.cell? ⟨q, 5, none⟩ = some (.int .i64 ((t.begun : Int) + 1)) ∧ w'.frozen? ⟨q, 4, none⟩ = false from by
      have r := o.row H3.out.row (fun k => k rfl)
      exact ⟨by rw [r.cell]; rfl, by rw [r.cell]; rfl, r.frozen 4⟩))
    have OWN := Lib.hid (fun w' (o : Only none_ w3 w') => show w'.ownsRow 0 59 6 (.slice (some ⟨g, 0, none⟩) fs.length cap0) fs.length (fs.flatMap Sm.cells) from (H3.out.own.1.still o))
    have ONES := Lib.hid (show ∀ u ∈ ([.int .i64 ((t.begun : Int) + 1), .int .i64 f, .int .i64 f, .int .i64 1, .int .i64 0, .int .i64 0] : List Value), u.oneCell' = true from fun u hu => by simp only [List.mem_cons, List.not_mem_nil, or_false] at hu; rcases hu with rfl | rfl | rfl | rfl | rfl | rfl <;> rfl)
    obtain ⟨c4, c5, z4⟩ := KS.out _ (OD.out.up)
    have lq3 := H3.out.row.lt
    go_region_law
      (first
        | (refine step_append_at10 rfl (.tmp 40) (.tmp 48) 44 rfl 0 59 i0 _ 6 48 Try.underlying44 I0.out I1.out I2.out I3.out rfl (by decide) _ fs.length (fs.flatMap Sm.cells) (by simp [Act.eval]) (OWN.out _ OA.out) ⟨w4.heap.size, 0, none⟩ 1 1 [.int .i64 ((t.begun : Int) + 1), .int .i64 f, .int .i64 f, .int .i64 1, .int .i64 0, .int .i64 0] (by simp [Act.eval]) rfl NEWS.out ONES.out (by unfold maxLen; omega) (by omega) (Nat.zero_le _) ?_
           intro v5 w5 hown5 hgrow5 hat5
           obtain ⟨a5, n5, k5, rfl⟩ := row_form10 hown5
           have G5 := Lib.hid hgrow5
           have AT := Lib.hid hat5
           have W5 := Lib.hid hown5
           have O5 := Lib.hid (OA.out.up.trans (S' := fun k => some k = (Value.slice (some ⟨g, 0, none⟩) fs.length cap0).ownBlock) (Only.of_grown hgrow5) (fun i _ s => fun e => H3.out.gq s.symm e))
           obtain ⟨_, _, y5⟩ := KS.out _ O5.out
           have lq5 : q < w5.heap.size := Nat.lt_of_lt_of_le lq3 O5.out.size
           clear hown5 hgrow5 hat5)
        | (go_simp; go_at_call 23; (with_reducible refine (SA.out _).mono ?_); rintro e w4 ⟨rfl, o4⟩; dsimp only
           have O4 := Lib.hid (OD.out.same o4)
           have OA := Lib.hid (O4.out.alloc (.cells #[.int .i64 ((t.begun : Int) + 1), .int .i64 f, .int .i64 f, .int .i64 1, .int .i64 0, .int .i64 0] 59))
           have NEWS := Lib.hid (show ∀ j u, ([.int .i64 ((t.begun : Int) + 1), .int .i64 f, .int .i64 f, .int .i64 1, .int .i64 0, .int .i64 0] : List Value)[j]? = some u → (w4.alloc (.cells #[.int .i64 ((t.begun : Int) + 1), .int .i64 f, .int .i64 f, .int .i64 1, .int .i64 0, .int .i64 0] 59)).cell? ((Addr.mk w4.heap.size 0 none).add j) = some u from fun j u hj => by rw [add8, Nat.zero_add, (Row.fresh w4 _ _).cell, List.getElem?_toArray]; exact hj)
           obtain ⟨e4, e5, y4⟩ := KS.out _ O4.out.up
           obtain ⟨f4, f5, g4⟩ := KS.out _ OA.out.up
           have lq4 : q < w4.heap.size := Nat.lt_of_lt_of_le lq3 O4.out.size
           clear o4)
        | fail)
    all_goals
      have ow : Owns w5 0 59 6 Sm.cells (.slice a5 n5 k5) (fs ++ [⟨t.begun + 1, Fl.start f, 0⟩]) := by
        unfold Owns
        have k := W5.out
        rw [List.flatMap_append, List.length_append]
        simpa [Sm.cells, Fl.start] using k
      have z0 : w3.heap.size ≤ w5.heap.size := O5.out.size
      have zA := OA.out.size
      have K := (H3.out.still OA.out).other (v' := .slice a5 n5 k5) (M' := fun g => M g ∨ (w3.heap.size ≤ g ∧ g < w5.heap.size)) (Only.of_grown G5.out) ⟨ow, fun g hg => by
          rcases AT.out with k | k
          · exact .inl (H3.out.own.2 g (by rw [← k]; exact hg))
          · have lg := (ow.base_le hg).2
            rw [k] at hg
            injection hg with hg
            exact .inr ⟨by omega, by omega⟩⟩ (fun g hg => .inl hg) (fun g hg => by
          rcases hg with hg | hg
          · have := H3.out.lt g hg; omega
          · exact hg.2) (fun g hg hm => by
          rcases AT.out with k | k
          · rw [← k]; exact hg.symm
          · rw [k] at hg
            injection hg with hg
            have := H3.out.lt g hm
            omega)
      have RW := Lib.hid K.row
      have O6 := Lib.hid (show Only M w (w5.setCell ⟨q, 4, none⟩ (.slice a5 n5 k5)) from ((O3.out.idle OA.out).trans (S' := fun k => some k = (Value.slice (some ⟨g, 0, none⟩) fs.length cap0).ownBlock) (Only.of_grown G5.out) (fun i _ s => H3.out.own.2 i s.symm)).into H3.out.mq 4 _)
      have KK := Lib.hid K
      have zz := O3.out.size
      have LN := Lib.hid (show a5 = a5 ∧ n5 = fs.length + 1 from ⟨rfl, by
        have h5 := W5.out.2
        rcases h5 with ⟨_, h5⟩ | ⟨g, c', cur, hv, _⟩
        · omega
        · injection hv⟩)
      clear K ow
      generalize w5.setCell ⟨q, 4, none⟩ (.slice a5 n5 k5) = w6 at *
      have c4 : w6.cell? ⟨q, 4, none⟩ = some (.slice a5 n5 k5) := by rw [RW.out.cell]; rfl
      have nn : n5 = fs.length + 1 := LN.out.2
      subst nn
      go_wp2_with fail
      go_ret
      exact ⟨rfl, ⟨_, _, KK.out, fun g hg => hg.imp id (fun k => by omega)⟩, O6.out⟩
  · have d1 : ((t.ss.length : Int) == (c.most : Int)) = false := by simp; omega
    have FE := Lib.hid (show fewer c.most t.ss = t.ss from by unfold fewer; rw [if_neg (by omega)])
    rw [FE.out]
    clear FE ha0
    go_enter Try.func29, Try.ntmps29
    go_wp2_with fail
    go_region
    clear c4 c0
    obtain ⟨w2, hw2⟩ : ∃ w2, w2 = w.drew := ⟨_, rfl⟩
    have O2 := Lib.hid (show Only M w w2 from by rw [hw2]; exact (Only.refl M w).drew)
    have H2 := Lib.hid (show StAt w2 q p b L (.slice A0 t.ss.length cap0) M c ⟨t.ss, t.es, t.uses, t.begun⟩ from by rw [hw2]; exact H.out.still (Only.refl none_ w).drew)
    rw [← hw2]
    clear hw2 H
    have c5 : w2.cell? ⟨q, 5, none⟩ = some (.int .i64 t.begun) := by rw [H2.out.row.cell]; rfl
    have z5 : w2.frozen? ⟨q, 5, none⟩ = false := H2.out.row.frozen 5
    have H3 := Lib.hid H2.out.greater
    have O3 := Lib.hid (O2.out.into H2.out.mq 5 (.int .i64 ((t.begun : Int) + 1)))
    clear H2 O2
    go_wp2_with fail
    generalize w2.setCell ⟨q, 5, none⟩ (.int .i64 ((t.begun : Int) + 1)) = w3 at *
    clear c5 z5
    obtain ⟨i0, hi0, hz0, hz1, hz2⟩ := info_parts info_sm
    have I0 := Lib.hid hi0
    have I1 := Lib.hid hz0
    have I2 := Lib.hid hz1
    have I3 := Lib.hid hz2
    clear hi0 hz0 hz1 hz2
    have OD := Lib.hid (Only.refl none_ w3).drew
    have KS := Lib.hid (fun w' (o : Only (fun k => k ≠ q) w3 w') => (show w'.cell? ⟨q, 4, none⟩ = some (.slice A0 t.ss.length cap0) ∧ w'.cell? ⟨q, 5, none⟩ = some (.int .i64 ((t.begun : Int) + 1)) ∧ w'.frozen? ⟨q, 4, none⟩ = false from by
      have r := o.row H3.out.row (fun k => k rfl)
      exact ⟨by rw [r.cell]; rfl, by rw [r.cell]; rfl, r.frozen 4⟩))
    have OWN := Lib.hid (fun w' (o : Only none_ w3 w') => show w'.ownsRow 0 59 6 (.slice A0 t.ss.length cap0) t.ss.length (t.ss.flatMap Sm.cells) from (H3.out.own.1.still o))
    have ONES := Lib.hid (show ∀ u ∈ ([.int .i64 ((t.begun : Int) + 1), .int .i64 f, .int .i64 f, .int .i64 1, .int .i64 0, .int .i64 0] : List Value), u.oneCell' = true from fun u hu => by simp only [List.mem_cons, List.not_mem_nil, or_false] at hu; rcases hu with rfl | rfl | rfl | rfl | rfl | rfl <;> rfl)
    obtain ⟨c4, c5, z4⟩ := KS.out _ (OD.out.up)
    have lq3 := H3.out.row.lt
    go_region_law
      (first
        | (refine step_append_at10 rfl (.tmp 40) (.tmp 48) 44 rfl 0 59 i0 _ 6 48 Try.underlying44 I0.out I1.out I2.out I3.out rfl (by decide) _ t.ss.length (t.ss.flatMap Sm.cells) (by simp [Act.eval]) (OWN.out _ OA.out) ⟨w4.heap.size, 0, none⟩ 1 1 [.int .i64 ((t.begun : Int) + 1), .int .i64 f, .int .i64 f, .int .i64 1, .int .i64 0, .int .i64 0] (by simp [Act.eval]) rfl NEWS.out ONES.out (by unfold maxLen; omega) (by omega) (Nat.zero_le _) ?_
           intro v5 w5 hown5 hgrow5 hat5
           obtain ⟨a5, n5, k5, rfl⟩ := row_form10 hown5
           have G5 := Lib.hid hgrow5
           have AT := Lib.hid hat5
           have W5 := Lib.hid hown5
           have O5 := Lib.hid (OA.out.up.trans (S' := fun k => some k = (Value.slice A0 t.ss.length cap0).ownBlock) (Only.of_grown hgrow5) (fun i _ s => fun e => H3.out.gq s.symm e))
           obtain ⟨_, _, y5⟩ := KS.out _ O5.out
           have lq5 : q < w5.heap.size := Nat.lt_of_lt_of_le lq3 O5.out.size
           clear hown5 hgrow5 hat5)
        | (go_simp; go_at_call 23; (with_reducible refine (SA.out _).mono ?_); rintro e w4 ⟨rfl, o4⟩; dsimp only
           have O4 := Lib.hid (OD.out.same o4)
           have OA := Lib.hid (O4.out.alloc (.cells #[.int .i64 ((t.begun : Int) + 1), .int .i64 f, .int .i64 f, .int .i64 1, .int .i64 0, .int .i64 0] 59))
           have NEWS := Lib.hid (show ∀ j u, ([.int .i64 ((t.begun : Int) + 1), .int .i64 f, .int .i64 f, .int .i64 1, .int .i64 0, .int .i64 0] : List Value)[j]? = some u → (w4.alloc (.cells #[.int .i64 ((t.begun : Int) + 1), .int .i64 f, .int .i64 f, .int .i64 1, .int .i64 0, .int .i64 0] 59)).cell? ((Addr.mk w4.heap.size 0 none).add j) = some u from fun j u hj => by rw [add8, Nat.zero_add, (Row.fresh w4 _ _).cell, List.getElem?_toArray]; exact hj)
           obtain ⟨e4, e5, y4⟩ := KS.out _ O4.out.up
           obtain ⟨f4, f5, g4⟩ := KS.out _ OA.out.up
           have lq4 : q < w4.heap.size := Nat.lt_of_lt_of_le lq3 O4.out.size
           clear o4)
        | fail)
    all_goals
      have ow : Owns w5 0 59 6 Sm.cells (.slice a5 n5 k5) (t.ss ++ [⟨t.begun + 1, Fl.start f, 0⟩]) := by
        unfold Owns
        have k := W5.out
        rw [List.flatMap_append, List.length_append]
        simpa [Sm.cells, Fl.start] using k
      have z0 : w3.heap.size ≤ w5.heap.size := O5.out.size
      have zA := OA.out.size
      have K := (H3.out.still OA.out).other (v' := .slice a5 n5 k5) (M' := fun g => M g ∨ (w3.heap.size ≤ g ∧ g < w5.heap.size)) (Only.of_grown G5.out) ⟨ow, fun g hg => by
          rcases AT.out with k | k
          · exact .inl (H3.out.own.2 g (by rw [← k]; exact hg))
          · have lg := (ow.base_le hg).2
            rw [k] at hg
            injection hg with hg
            exact .inr ⟨by omega, by omega⟩⟩ (fun g hg => .inl hg) (fun g hg => by
          rcases hg with hg | hg
          · have := H3.out.lt g hg; omega
          · exact hg.2) (fun g hg hm => by
          rcases AT.out with k | k
          · rw [← k]; exact hg.symm
          · rw [k] at hg
            injection hg with hg
            have := H3.out.lt g hm
            omega)
      have RW := Lib.hid K.row
      have O6 := Lib.hid (show Only M w (w5.setCell ⟨q, 4, none⟩ (.slice a5 n5 k5)) from ((O3.out.idle OA.out).trans (S' := fun k => some k = (Value.slice A0 t.ss.length cap0).ownBlock) (Only.of_grown G5.out) (fun i _ s => H3.out.own.2 i s.symm)).into H3.out.mq 4 _)
      have KK := Lib.hid K
      have zz := O3.out.size
      have LN := Lib.hid (show a5 = a5 ∧ n5 = t.ss.length + 1 from ⟨rfl, by
        have h5 := W5.out.2
        rcases h5 with ⟨_, h5⟩ | ⟨g, c', cur, hv, _⟩
        · omega
        · injection hv⟩)
      clear K ow
      generalize w5.setCell ⟨q, 4, none⟩ (.slice a5 n5 k5) = w6 at *
      have c4 : w6.cell? ⟨q, 4, none⟩ = some (.slice a5 n5 k5) := by rw [RW.out.cell]; rfl
      have nn : n5 = t.ss.length + 1 := LN.out.2
      subst nn
      go_wp2_with fail
      go_ret
      exact ⟨rfl, ⟨_, _, KK.out, fun g hg => hg.imp id (fun k => by omega)⟩, O6.out⟩
end Go.Proofs.Ytfmmmiiohaaegaa
