/- The document's own tracker: an access. -/
import Derived.Test.YtfmmmiiohaaegaaStAcc
namespace Go.Proofs.Ytfmmmiiohaaegaa
open Go.RowKit Go.Maps
set_option linter.unusedVariables false

theorem RT.apart {w : World} {q size life g : Nat} {ok : Nat → Prop} {es : List En} (h : RT w q ok size life es) {cs : Array Value} (r : Row w g 59 cs) : q ≠ g := by
  obtain ⟨⟨v, r1, o⟩, _⟩ := h
  exact r1.apart r (by decide)
theorem RSat.gq {w : World} {q qt : Nat} {v : Value} {M : Nat → Prop} {c : Cf} {t : Tr} (h : RSat w q qt v M c t) {g : Nat} (hg : v.ownBlock = some g) : g ≠ q := by
  rintro rfl
  have := h.own.not_row hg h.row
  revert this; decide
theorem RSat.gt {w : World} {q qt : Nat} {v : Value} {M : Nat → Prop} {c : Cf} {t : Tr} (h : RSat w q qt v M c t) {g : Nat} (hg : v.ownBlock = some g) : g ≠ qt := by
  rintro rfl
  obtain ⟨⟨v', r1, o⟩, _⟩ := h.tab
  have := h.own.not_row hg r1
  revert this; decide
/-- what the tracker's own block and its streams' row may turn, the table stays -/
theorem RSat.tab_keep {w w' : World} {q qt : Nat} {v : Value} {M M' : Nat → Prop} {c : Cf} {t : Tr} (h : RSat w q qt v M c t) (o : Only (fun k => k = q ∨ some k = v.ownBlock) w w') (hm : ∀ g, M g → M' g) :
    RT w' qt (fun g => (M' g ∧ g ≠ q ∧ g ≠ qt) ∨ w'.heap.size ≤ g) c.size c.life t.es := by
  have nt : ¬ (qt = q ∨ some qt = v.ownBlock) := fun k => by
    rcases k with k | k
    · exact h.ne k.symm
    · exact h.gt k.symm rfl
  rcases h.own.1.2 with ⟨hv, _⟩ | ⟨g', cap, cur, hv, _, hh, _⟩
  · have k := (h.tab.mono (ok' := fun g => (M g ∧ g ≠ q ∧ g ≠ qt) ∨ w.heap.size ≤ g ∧ True) (fun g _ k => k.imp id (fun k => ⟨k, trivial⟩)) (fun k => by rcases k with k | k; exact k.2.2 rfl; have := h.tab.lt; omega) (fun g hg => .inr ⟨hg, trivial⟩)).to
      (S := fun g => (g = q ∨ some g = v.ownBlock) ∧ g < w.heap.size) (ok' := fun g => (M' g ∧ g ≠ q ∧ g ≠ qt) ∨ w'.heap.size ≤ g) ⟨o.os, o.tape, o.output, o.size, fun k hk hs => o.block k hk (fun s => hs ⟨s, hk⟩)⟩ (fun s => nt s.1)
      (fun g k s => by
        rcases k with k | k
        · rcases s.1 with s1 | s1
          · exact k.2.1 s1
          · rw [hv] at s1; cases s1
        · omega) (fun g hg k => by rcases k with k | k; exact .inl ⟨hm g k.1, k.2⟩; omega) (fun k => by rcases k with k | k; exact k.2.2 rfl; have := h.tab.lt; have := o.size; omega) (fun g hg => .inr hg)
    exact k
  · have rg : Row w g' 59 cur := hh
    have tb := h.tab.not_row rg (h.tab.apart rg)
    have k := (tb.mono (ok' := fun g => ((M g ∧ g ≠ q ∧ g ≠ qt) ∧ g ≠ g') ∨ w.heap.size ≤ g) (fun g _ k => by
        rcases k.1 with k1 | k1
        · exact .inl ⟨k1, k.2⟩
        · exact .inr k1) (fun k => by rcases k with k | k; exact k.1.2.2 rfl; have := h.tab.lt; omega) (fun g hg => .inr hg)).to
      (S := fun g => (g = q ∨ some g = v.ownBlock) ∧ g < w.heap.size) (ok' := fun g => (M' g ∧ g ≠ q ∧ g ≠ qt) ∨ w'.heap.size ≤ g) ⟨o.os, o.tape, o.output, o.size, fun k hk hs => o.block k hk (fun s => hs ⟨s, hk⟩)⟩ (fun s => nt s.1)
      (fun g k s => by
        rcases k with k | k
        · rcases s.1 with s1 | s1
          · exact k.1.2.1 s1
          · rw [hv] at s1
            have s1 : some g = some g' := s1
            injection s1 with s1
            exact k.2 s1
        · omega) (fun g hg k => by rcases k with k | k; exact .inl ⟨hm g k.1.1, k.1.2⟩; omega) (fun k => by rcases k with k | k; exact k.2.2 rfl; have := h.tab.lt; have := o.size; omega) (fun g hg => .inr hg)
    exact k
theorem RSat.more {w : World} {q qt : Nat} {v : Value} {M : Nat → Prop} {c : Cf} {t : Tr} (h : RSat w q qt v M c t) : RSat (w.setCell ⟨q, 2, none⟩ (.int .i64 ((t.uses : Int) + 1))) q qt v M c ⟨t.ss, t.es, t.uses + 1, t.begun⟩ := by
  have o := (Only.refl (fun k => k = q) w).into rfl 2 (.int .i64 ((t.uses : Int) + 1))
  have e : (((t.uses + 1 : Nat) : Int)) = (t.uses : Int) + 1 := by omega
  refine ⟨?_, h.own.keep' o (fun g hg => h.gq hg), h.tab_keep (o.more (fun i _ k => .inl k)) (fun g hg => hg), h.mt, h.mq, h.ne, fun g hg => Nat.lt_of_lt_of_le (h.lt g hg) o.size⟩
  have r := h.row.put 2 (.int .i64 ((t.uses : Int) + 1))
  rw [← e] at r ⊢
  exact r
theorem RSat.greater {w : World} {q qt : Nat} {v : Value} {M : Nat → Prop} {c : Cf} {ss : List Sm} {es : List En} {u n : Nat} (h : RSat w q qt v M c ⟨ss, es, u, n⟩) : RSat (w.setCell ⟨q, 3, none⟩ (.int .i64 ((n : Int) + 1))) q qt v M c ⟨ss, es, u, n + 1⟩ := by
  have o := (Only.refl (fun k => k = q) w).into rfl 3 (.int .i64 ((n : Int) + 1))
  have e : (((n + 1 : Nat) : Int)) = (n : Int) + 1 := by omega
  refine ⟨?_, h.own.keep' o (fun g hg => h.gq hg), h.tab_keep (o.more (fun i _ k => .inl k)) (fun g hg => hg), h.mt, h.mq, h.ne, fun g hg => Nat.lt_of_lt_of_le (h.lt g hg) o.size⟩
  have r := h.row.put 3 (.int .i64 ((n : Int) + 1))
  rw [← e] at r ⊢
  exact r
/-- the streams are others, in the same row -/
theorem RSat.same_row {w w' : World} {q qt g n cap : Nat} {M : Nat → Prop} {c : Cf} {ss fs : List Sm} {es : List En} {u m : Nat} (h : RSat w q qt (.slice (some ⟨g, 0, none⟩) n cap) M c ⟨ss, es, u, m⟩) (o : Only (fun k => k = g) w w') (ho : Owns w' 0 59 6 Sm.cells (.slice (some ⟨g, 0, none⟩) n cap) fs) :
    RSat w' q qt (.slice (some ⟨g, 0, none⟩) n cap) M c ⟨fs, es, u, m⟩ :=
  ⟨o.row h.row (fun k => h.gq (g := g) rfl k.symm), ⟨ho, h.own.2⟩, h.tab_keep (o.more (fun i _ k => .inr (by rw [k]; rfl))) (fun g hg => hg), h.mt, h.mq, h.ne, fun g hg => Nat.lt_of_lt_of_le (h.lt g hg) o.size⟩
/-- the streams lie elsewhere -/
theorem RSat.other {w w' : World} {q qt : Nat} {v v' : Value} {M M' : Nat → Prop} {c : Cf} {ss fs : List Sm} {es : List En} {u n : Nat} (h : RSat w q qt v M c ⟨ss, es, u, n⟩) (o : Only none_ w w') (ho : OwnsSm w' M' v' fs) (hm : ∀ g, M g → M' g) (hl : ∀ g, M' g → g < w'.heap.size) :
    RSat (w'.setCell ⟨q, 0, none⟩ v') q qt v' M' c ⟨fs, es, u, n⟩ := by
  have o2 := (Only.refl (fun k => k = q) w').into rfl 0 v'
  have r := (o.still h.row).put 0 v'
  have ng : ∀ g, v'.ownBlock = some g → ¬ g = q := fun g hg k => by
    subst k
    have := ho.not_row hg (o.still h.row)
    revert this; decide
  exact ⟨r, ho.keep' o2 ng, (h.keep o (fun _ _ s => s)).tab_keep (o2.more (fun i _ k => .inl k)) hm, hm _ h.mt, hm _ h.mq, h.ne, fun g hg => Nat.lt_of_lt_of_le (hl g hg) o2.size⟩
def raccTwo (c : Cf) (t : Tr) (f n : Int) (e : Ending) (w : World) (q : Nat) (M : Nat → Prop) (w' : World) : Prop := Acc c t f n e ∧ RSto w q M c (accS c t f n) w'

set_option maxRecDepth 100000 in
set_option maxHeartbeats 1000000 in
theorem racc_no {q : Nat} {M : Nat → Prop} {c : Cf} {t : Tr} (f n : Int) (w : World) (h : RS w q M c t) (hf : Fine10 c t) (hm : mayAcc c.blk f n = false) :
    Calls Try.prog 13 #[.pointer (some ⟨q, 0, none⟩), .int .i64 f, .int .i64 n] w fun e w' => raccTwo c t f n e w q M w' := by
  have hn : ¬ (1 ≤ n ∧ n ≤ 8 ∧ 0 ≤ f ∧ f + n ≤ c.blk) := of_decide_eq_false hm
  have A := Lib.hid (show accI c t f n = 0 ∧ accR c t f n = ⟨0, 0⟩ ∧ accC c.blk f n = 1 ∧ accS c t f n = t from by
    unfold accI accR accC accS; rw [hm]; exact ⟨rfl, rfl, rfl, rfl⟩)
  have H := Lib.hid h
  have B := hf.ok.b256
  obtain ⟨qt, v, h⟩ := h
  have oa := Lib.hid ((Only.refl none_ w).alloc (.cells #[.int .i64 0, .int .i64 0, .int .i64 0] 38))
  have c2 : (w.alloc (.cells #[.int .i64 0, .int .i64 0, .int .i64 0] 38)).cell? ⟨q, 6, none⟩ = some (.int .i64 c.blk) := by rw [(h.keep oa.out (fun _ _ s => s)).row.cell]; rfl
  clear h hm
  have FIN : ∀ w', Only none_ w w' → RSto w q M c t w' := fun w' o => ⟨⟨M, H.out.still o, fun g hg => .inl hg⟩, o.up⟩
  have FI := Lib.hid FIN
  clear FIN
  by_cases h0 : n < 1
  · have d0 : decide (n < 1) = true := by simpa using h0
    clear hn B h0
    go_enter Try.func13, Try.ntmps13
    go_wp2_with fail
    exact bodyPost_ret (v := .tuple #[.agg #[.int .i64 0, .int .i64 0, .int .i64 0], .int .i64 1]) (by simp [results, Try.results13, go_sem]) rfl ⟨by unfold Acc; rw [A.out.1, A.out.2.1, A.out.2.2.1]; rfl, by rw [A.out.2.2.2]; exact FI.out _ oa.out⟩
  · have d0 : decide (n < 1) = false := by simpa using h0
    by_cases h1 : 8 < n
    · have d1 : decide (8 < n) = true := by simpa using h1
      clear hn B h0 h1
      go_enter Try.func13, Try.ntmps13
      go_wp2_with fail
      exact bodyPost_ret (v := .tuple #[.agg #[.int .i64 0, .int .i64 0, .int .i64 0], .int .i64 1]) (by simp [results, Try.results13, go_sem]) rfl ⟨by unfold Acc; rw [A.out.1, A.out.2.1, A.out.2.2.1]; rfl, by rw [A.out.2.2.2]; exact FI.out _ oa.out⟩
    · have d1 : decide (8 < n) = false := by simpa using h1
      by_cases h2 : f < 0
      · have d2 : decide (f < 0) = true := by simpa using h2
        clear hn B h0 h1 h2
        go_enter Try.func13, Try.ntmps13
        go_wp2_with fail
        exact bodyPost_ret (v := .tuple #[.agg #[.int .i64 0, .int .i64 0, .int .i64 0], .int .i64 1]) (by simp [results, Try.results13, go_sem]) rfl ⟨by unfold Acc; rw [A.out.1, A.out.2.1, A.out.2.2.1]; rfl, by rw [A.out.2.2.2]; exact FI.out _ oa.out⟩
      · have d2 : decide (f < 0) = false := by simpa using h2
        by_cases h3 : (c.blk : Int) ≤ f
        · have d3 : decide ((c.blk : Int) ≤ f) = true := by simpa using h3
          clear hn B h0 h1 h2 h3
          go_enter Try.func13, Try.ntmps13
          go_wp2_with fail
          exact bodyPost_ret (v := .tuple #[.agg #[.int .i64 0, .int .i64 0, .int .i64 0], .int .i64 1]) (by simp [results, Try.results13, go_sem]) rfl ⟨by unfold Acc; rw [A.out.1, A.out.2.1, A.out.2.2.1]; rfl, by rw [A.out.2.2.2]; exact FI.out _ oa.out⟩
        · have d3 : decide ((c.blk : Int) ≤ f) = false := by simpa using h3
          have hw : IntKind.i64.wrap (f + n) = f + n := by rw [IntKind.wrap_i64]; omega
          have d4 : decide ((c.blk : Int) < f + n) = true := by simp; omega
          clear hn B h0 h1 h2 h3
          go_enter Try.func13, Try.ntmps13
          go_wp2_with fail
          exact bodyPost_ret (v := .tuple #[.agg #[.int .i64 0, .int .i64 0, .int .i64 0], .int .i64 1]) (by simp [results, Try.results13, go_sem]) rfl ⟨by unfold Acc; rw [A.out.1, A.out.2.1, A.out.2.2.1]; rfl, by rw [A.out.2.2.2]; exact FI.out _ oa.out⟩
end Go.Proofs.Ytfmmmiiohaaegaa
