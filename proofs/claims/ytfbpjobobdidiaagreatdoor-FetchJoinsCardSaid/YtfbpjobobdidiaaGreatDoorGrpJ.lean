/- Texts of the layers below, side by side. -/
import Derived.Test.YtfbpjobobdidiaaGreatDoorGrpI
/- None of a request's waiters waits any more: the code's own register. -/
namespace Go.Proofs.YtfbpjobobdidiaaGreatDoor
open Go.RowKit Go.Maps Go.Shelf
set_option linter.unusedVariables false
set_option maxRecDepth 100000
attribute [local go_sem] Oper.semAt_some

/-- the tickets of what has come -/
def tks (es : List En) (r : Int) : List Int := tkL (seats es) r
theorem seats_more (es : List En) (e : En) : seats (es ++ [e]) = seats es ++ [e.s] := by unfold seats; rw [List.map_append]; rfl
theorem tks_yes {es : List En} {e : En} {r : Int} (h : e.s.w.r = r) : tks (es ++ [e]) r = tks es r ++ [e.s.t] := by unfold tks; rw [seats_more]; unfold tkL; simp [h]
theorem tks_no {es : List En} {e : En} {r : Int} (h : e.s.w.r ≠ r) : tks (es ++ [e]) r = tks es r := by unfold tks; rw [seats_more]; unfold tkL; simp [h]
theorem tks_le (es : List En) (r : Int) : (tks es r).length ≤ es.length := by unfold tks tkL; rw [List.length_map, ← seats_len es]; exact List.length_filter_le _ _
/-- who is left -/
def offE (es pre : List En) (r : Int) : List En := es.filter (fun e => decide (¬ (e ∈ pre ∧ e.s.w.r = r)))
theorem off_nil (es : List En) (r : Int) : offE es [] r = es := by unfold offE; simp
theorem off_no {es pre : List En} {x : En} {r : Int} (h : x.s.w.r ≠ r) : offE es (pre ++ [x]) r = offE es pre r := by
  unfold offE
  refine List.filter_congr (fun e _ => ?_)
  congr 1
  have : (e ∈ pre ++ [x] ∧ e.s.w.r = r) ↔ (e ∈ pre ∧ e.s.w.r = r) := by
    rw [List.mem_append, List.mem_singleton]
    exact ⟨fun ⟨a, b⟩ => ⟨a.elim id (fun k => absurd (k ▸ b) h), b⟩, fun ⟨a, b⟩ => ⟨.inl a, b⟩⟩
  rw [this]
theorem off_yes {es pre : List En} {x : En} {r : Int} (o : OnceE es) (hx : x ∈ es) (h : x.s.w.r = r) : offE es (pre ++ [x]) r = outE (offE es pre r) x.s.w := by
  unfold offE outE
  rw [List.filter_filter]
  refine List.filter_congr (fun e he => ?_)
  by_cases k : e.s.w = x.s.w
  · have : e = x := o.inj he hx k
    subst this
    simp [h]
  · have : e ≠ x := fun q => k (by rw [q])
    simp [this, k]
theorem off_all {es xs : List En} (h : xs.Perm es) (r : Int) : seats (offE es xs r) = leftR (seats es) r := by
  unfold leftR
  rw [← seats_filter es (fun s => decide (s.w.r ≠ r))]
  unfold offE
  congr 1
  refine List.filter_congr (fun e he => ?_)
  have : e ∈ xs := h.mem_iff.2 he
  simp [this]
theorem off_good {room came : Nat} {es xs : List En} (g : GoodR room (seats es)) (f : FineE came es) (r : Int) : GoodR room (seats (offE es xs r)) ∧ FineE came (offE es xs r) := by
  have s : (seats (offE es xs r)).Sublist (seats es) := (List.filter_sublist).map _
  refine ⟨⟨g.low, g.high, Nat.le_trans s.length_le g.len, (s.map _).nodup g.once, fun x hx => g.may x (s.subset hx)⟩, f.sub List.filter_sublist⟩

theorem only_grown {W W' : World} {row : Option Nat} (h : W.grownBy W' row) : Only (fun k => row = some k) W W' := ⟨h.os, h.tape, h.output, h.size, fun k hk hn => h.block k hk (fun e => hn e.symm)⟩
theorem Row.not_own {W : World} {g : Nat} {t e : TypeId} {cs : Array Value} (h : Row W g t cs) (hte : t ≠ e) {base size k : Nat} {v : Value} {xs : List Value} (hr : W.ownsRow base e size v k xs) : v.ownBlock ≠ some g := by
  rcases hr.2 with ⟨rfl, _⟩ | ⟨g', cap, cur, rfl, _, hgb, _⟩
  · simp [Value.ownBlock]
  · intro e'
    obtain rfl : g' = g := by simpa [Value.ownBlock] using e'
    have := (show W.heap[g']? = _ from h).symm.trans hgb
    simp at this
    exact hte this.2
theorem own_low {W : World} {base base' : Nat} {e : TypeId} {size k : Nat} {v : Value} {xs : List Value} (h : W.ownsRow base e size v k xs) (hb : base' ≤ base) : W.ownsRow base' e size v k xs := by
  refine ⟨h.1, ?_⟩
  rcases h.2 with h2 | ⟨g, cap, cur, hv, hg, r⟩
  · exact .inl h2
  · exact .inr ⟨g, cap, cur, hv, Nat.le_trans hb hg, r⟩
theorem KeepsOthers.of_only {W W' : World} (h : Only none_ W W') : KeepsOthers W W' := ⟨h.size, fun k o hk _ => (h.block k (Array.getElem?_eq_some_iff.1 hk).1 (fun s => s)).trans hk⟩
/-- what stands in memory while they come -/
structure QuI (n1 Bg Br Bw p b : Nat) (w0 : World) (es : List En) (r : Int) (pre : List En) (W : World) : Prop where
  row : ∃ v, Boxed W Bw 44 v ∧ W.ownsRow n1 3 1 v (tks pre r).length ((tks pre r).map (Value.int .i64)) ∧ True
  boxr : Row W Br 3 #[.int .i64 r]
  boxg : Row W Bg 93 #[.pointer (some ⟨p, 0, none⟩)]
  low : Only (fun k => k = b) w0 W
  md : Md14 W b (offE es pre r)
  size : n1 ≤ W.heap.size
theorem quI_own {n0 n1 Bg Br Bw p b B : Nat} {w0 : World} {es : List En} {r : Int} (hb : b < B) (hz : w0.heap.size ≤ B) : OwnFrom B (fun pre W => QuI n1 Bg Br Bw p b w0 es r pre W) := fun s W W' row hs hg hr =>
  ⟨(Own.from (holdsRow_own n1 Bw 44 3 1 (fun (pre : List En) => (tks pre r).length) (fun (pre : List En) => (tks pre r).map (Value.int .i64)) (fun _ _ => True)) B) s W W' row hs.row hg hr, row_kept hs.boxr hg (fun r e => (hr r e).2), row_kept hs.boxg hg (fun r e => (hr r e).2),
    ⟨(only_grown hg).os.trans hs.low.os, (only_grown hg).tape.trans hs.low.tape, (only_grown hg).output.trans hs.low.output, Nat.le_trans hs.low.size (only_grown hg).size, fun k hk hn => ((only_grown hg).block k (Nat.lt_of_lt_of_le hk hs.low.size) (fun e => by have := (hr k e).1; omega)).trans (hs.low.block k hk hn)⟩,
    hs.md.keep (only_grown hg) (fun e => by have := (hr b e).1; omega), Nat.le_trans hs.size (only_grown hg).size⟩
/-- what a drop owes to the iterator -/
theorem takes_drop {W W' W6 : World} {b : Nat} {x : En} (h : KeepsWalks W W') (rg : ∀ r n D left cnt, W'.ranges Tryz.prog 36 stElem b r n D left cnt → ∃ cnt', W6.ranges Tryz.prog 36 stElem b r n (D.del (klit x.s.w)) (fun z => left z && !z.sameKey (klit x.s.w)) cnt' ∧ cnt' ≤ cnt) : Takes b x W W6 := by
  intro r n D left cnt q hr
  obtain ⟨cnt', h1, h2⟩ := rg r n D left cnt (hr.of_walks h)
  have e : (fun z : Lit => left z && !z.sameKey (klit x.s.w)) = left := by
    funext z
    by_cases k : z.sameKey (klit x.s.w) = true
    · have : z = klit x.s.w := by
        by_cases k2 : z = klit x.s.w
        · exact k2
        · rw [Maps.sameKey_ne k2] at k; cases k
      rw [this, q]; rfl
    · simp [k]
  rw [e] at h1
  exact ⟨_, cnt', h1, h2, .inr rfl⟩

set_option maxRecDepth 100000 in
set_option maxHeartbeats 4000000 in
theorem quit_in {p b room came : Nat} {es : List En} (r : Int) (w : World) (h : WAt w p b room came es) :
    CallsIn Fence.wide 5 Tryz.prog 72 #[.pointer (some ⟨p, 0, none⟩), .int .i64 r] w fun e w' => ∃ v', e = .returned v' ∧ OwnsInts w' w.heap.size v' (quitI (seats es) r) ∧ (∃ es', WAt w' p b room came es' ∧ seats es' = leftR (seats es) r) ∧ Only (fun k => k = b) w w' := by
  have FL := fun w1 => Lib.hid ((callsIn_wide (n := 4)).2 (all_any p w1))
  obtain ⟨i0, hi, hz0, hz1, hz2⟩ := info_parts info_int8
  refine callsIn_of_wp_marks Tryz.func72 rfl trivial ?_ rfl
  simp only [Tryz.ntmps72, List.size_toArray, List.length_cons, List.length_nil, Nat.reduceAdd, Nat.reduceSub, Array.replicate_succ, Array.replicate_zero, List.push_toArray, List.append_toArray, List.nil_append, List.cons_append]
  gi_wp2_with (refine ⟨trivial, ?_⟩; gi_at_call 117; refine ((FL _).out).mono ?_; rintro e w' ⟨rfl, rfl⟩)
  obtain ⟨W3, hW3⟩ : ∃ W3, W3 = (((w.alloc (.cells #[.pointer (some ⟨p, 0, none⟩)] 93)).alloc (.cells #[.int .i64 r] 3)).alloc (.cells #[.slice none 0 0] 44)).alloc (.cells #[.pointer (some ⟨p, 0, none⟩)] 93) := ⟨_, rfl⟩
  have z3 : W3.heap.size = w.heap.size + 4 := by rw [hW3]; simp
  have b3 : Only none_ w W3 := by rw [hW3]; exact ((((Only.refl none_ w).alloc _).alloc _).alloc _).alloc _
  have rg : Row W3 w.heap.size 93 #[.pointer (some ⟨p, 0, none⟩)] := by rw [hW3]; exact (((Row.fresh w 93 #[.pointer (some ⟨p, 0, none⟩)]).alloc _).alloc _).alloc _
  have r0 : Row W3 (w.heap.size + 1) 3 #[.int .i64 r] := by
    rw [hW3]
    have := ((Row.fresh (w.alloc (.cells #[.pointer (some ⟨p, 0, none⟩)] 93)) 3 #[.int .i64 r]).alloc (.cells #[.slice none 0 0] 44)).alloc (.cells #[.pointer (some ⟨p, 0, none⟩)] 93)
    rwa [World.size_alloc] at this
  have r1 : Boxed W3 (w.heap.size + 1 + 1) 44 (.slice none 0 0) := by
    rw [hW3]
    have := (Boxed.new ((w.alloc (.cells #[.pointer (some ⟨p, 0, none⟩)] 93)).alloc (.cells #[.int .i64 r] 3)) 44 (.slice none 0 0)).alloc (.cells #[.pointer (some ⟨p, 0, none⟩)] 93)
    rwa [World.size_alloc, World.size_alloc] at this
  have r2 : Row W3 (w.heap.size + 1 + 1 + 1) 93 #[.pointer (some ⟨p, 0, none⟩)] := by
    rw [hW3]
    have := Row.fresh (((w.alloc (.cells #[.pointer (some ⟨p, 0, none⟩)] 93)).alloc (.cells #[.int .i64 r] 3)).alloc (.cells #[.slice none 0 0] 44)) 93 #[.pointer (some ⟨p, 0, none⟩)]
    rwa [World.size_alloc, World.size_alloc, World.size_alloc] at this
  have h3 : WAt W3 p b room came es := h.still b3
  have pl := h.row.lt
  have bl := h.md.lt
  have pb := h.ne
  have le64 := h.len
  rw [← hW3]
  clear hW3
  refine wpIn_each rfl (by decide) (gf := 149) (lb := #[.pointer (some ⟨w.heap.size + 1 + 1 + 1, 0, none⟩)]) rfl trivial (enters_of Tryz.func149 (by kernel_rfl) rfl)
    (hand14 4 (by decide) h3 r2) (Below.refl _ _) (fun _ => rfl)
    (fun x A B l o o' _ ho hc hw k => takes_from (walks_put o' ho hw) k) (fun x A B l o o' _ ho hc hw k => takes_to k (walks_put o' ho hw))
    (fun pre W => QuI W3.heap.size w.heap.size (w.heap.size + 1) (w.heap.size + 1 + 1) p b w es r pre W) (quI_own (n0 := 0) (by omega) (by omega))
    ⟨⟨_, r1, World.ownsRow_nil _ _ _ _, trivial⟩, r0, rg, b3.up, by rw [off_nil]; exact h3.md, Nat.le_refl _⟩
    (OfA (fun (x : En) (g6 g7 : Nat) => ({ tmps := #[.pointer (some ⟨p, 0, none⟩), .int .i64 r, .pointer (some ⟨w.heap.size, 0, none⟩), .pointer (some ⟨w.heap.size + 1, 0, none⟩), .slice none 0 0, .pointer (some ⟨w.heap.size + 1 + 1, 0, none⟩), .pointer (some ⟨g6, 0, none⟩), .pointer (some ⟨g7, 0, none⟩), .pointer (some ⟨p, 0, none⟩), (.func (.func 149) #[] #[.pointer (some ⟨w.heap.size + 1 + 1 + 1, 0, none⟩)]), .agg #[.int .i64 x.s.w.r, .int .i64 x.s.w.p], .agg #[.int .i64 x.s.t, .int .i64 x.n], undef, undef, undef, undef, undef, undef, undef, undef, undef, undef, undef, undef, undef, undef, undef, undef, undef, undef], defers := [] } : Act))) (fun x a' => ofA_own _ _ x a') ?assign ?body ?done
  case assign =>
    intro l pre x W K hI hok hK
    simp only [encE]
    gi_wp2
    have k6 := Row.fresh W 36 #[.int .i64 x.s.w.r, .int .i64 x.s.w.p]
    have k7 := Row.fresh (W.alloc (.cells #[.int .i64 x.s.w.r, .int .i64 x.s.w.p] 36)) 193 #[.int .i64 x.s.t, .int .i64 x.n]
    rw [World.size_alloc] at k7
    have ko : KeepsOthers W ((W.alloc (.cells #[.int .i64 x.s.w.r, .int .i64 x.s.w.p] 36)).alloc (.cells #[.int .i64 x.s.t, .int .i64 x.n] 193)) := (KeepsOthers.alloc W _).trans (KeepsOthers.alloc _ _)
    refine hK _ _ (ko.from _) (fun B k => takes_from (walks_others ko) k) ?_ ⟨_, _, rfl, k6.alloc _, k7⟩
    exact (quI_own (n0 := 0) (B := W3.heap.size) (by omega) (by omega)) pre _ _ none ((quI_own (n0 := 0) (B := W3.heap.size) (by omega) (by omega)) pre _ _ none hI (World.grownBy_alloc W _ none) (fun r e => by cases e)) (World.grownBy_alloc _ _ none) (fun r e => by cases e)
  case body =>
    rintro l pre x a' W ⟨⟨v, hv, hrow, _⟩, hb, hbg, hB, hm, hsz⟩ hok ⟨g6, g7, rfl, r6, r7⟩
    obtain ⟨c60, c61⟩ := r6.two
    obtain ⟨c70, c71⟩ := r7.two
    have hc := hv.cell
    have cb : W.cell? ⟨w.heap.size + 1, 0, none⟩ = some (.int .i64 r) := by rw [hb.cell]; rfl
    have xes : x ∈ es := hok.2 x (by simp)
    by_cases e : x.s.w.r = r
    · have tt : (x.s.w.r == r) = true := by simp [e]
      have ln : (tks pre r).length + 1 ≤ 65 := by
        have h1 := tks_le pre r
        have h2 : (pre ++ [x]).length ≤ es.length := nodup_le hok.1 hok.2
        rw [List.length_append] at h2
        simp at h2
        omega
      have hm1 : (tks pre r).length + 1 ≤ maxLen := by unfold maxLen; omega
      have hm2 : ((tks pre r).length + 1) * 8 ≤ 140737488355328 := by omega
      have hrow0 := hrow
      have own1 : OwnsInts W W3.heap.size v (tks pre r) := by unfold OwnsInts Owns; rw [one_map]; exact hrow
      have ne6 := Row.not_own r6 (by decide) hrow
      have neg := Row.not_own hbg (by decide) hrow
      have ner : v.ownBlock ≠ some (w.heap.size + 1) := fun q => by have := (own1.base_le q).1; omega
      have nep : ∀ k, k < w.heap.size → v.ownBlock ≠ some k := fun k hk q => by have := (own1.base_le q).1; omega
      have wx := h.wf x xes
      have hR3 := hB.row h.row pb
      have neB : g6 ≠ w.heap.size + 1 + 1 := r6.apart (show Row W (w.heap.size + 1 + 1) 44 #[v] from hv) (by decide)
      have E := Lib.hid e
      have once := h.once
      clear e ln h h3 r0 r1 r2 rg b3
      gi_wp2_with (first
        | (gi_at_builtin; refine wpListIn_append_own _ rfl _ _ 44 rfl W3.heap.size 3 i0 (.int .i64 0) 1 8 Tryz.underlying44 hi hz0 hz1 hz2 rfl (by decide) _ _ _ rfl (hrow.alloc _) ⟨W.heap.size, 0, none⟩ 1 1 [.int .i64 x.s.t] rfl rfl (cell_one_new _ _ _) (by simp [Value.oneCell']) hm1 hm2 (by simp; omega) ?_; intro v' w1 hown' hgrow _; obtain ⟨g', cap', rfl⟩ := ownsRow_succ hown'; have hv1 := (hv.alloc _).kept hgrow (hv.not_row (by decide) hrow); have hc1 := hv1.cell; have hf1 := hv1.frozen)
        | fail)
      obtain ⟨vv, hvv⟩ : ∃ vv : Value, vv = .slice (some ⟨g', 0, none⟩) ((tks pre r).length + 1) cap' := ⟨_, rfl⟩
      rw [← hvv] at hown' ⊢
      have ap := hv.appended (n₀ := w.heap.size) (by decide) (own_low hrow (by omega)) (Nat.le_trans hB.size (Nat.le_refl _)) (Nat.le_succ_of_le (Nat.le_succ _)) (own_low hown' (by omega)) hgrow
      have hk2 := ap.2.2.2.1
      have kA : Only (fun k => v.ownBlock = some k ∨ k = w.heap.size + 1 + 1) W (w1.setCell ⟨w.heap.size + 1 + 1, 0, none⟩ vv) := (((Only.refl (fun k => v.ownBlock = some k ∨ k = w.heap.size + 1 + 1) W).alloc _).same ((only_grown hgrow).more (fun i _ e => .inl e))).put (p := ⟨w.heap.size + 1 + 1, 0, none⟩) (fun _ => .inr rfl) vv
      have hv5 := hv1.set vv
      have own5 := hown'.kept (grownBy_setCell' w1 (w.heap.size + 1 + 1) vv) (.inr (hv1.not_row (by decide) hown').symm)
      obtain ⟨W5, hW5⟩ : ∃ W5, W5 = w1.setCell ⟨w.heap.size + 1 + 1, 0, none⟩ vv := ⟨_, rfl⟩
      rw [← hW5] at hk2 kA hv5 own5 ⊢
      have own6 : OwnsInts W5 W3.heap.size vv (tks (pre ++ [x]) r) := by
        unfold OwnsInts Owns
        rw [one_map, tks_yes E.out, List.length_append]
        simpa using own5
      have q6 := kA.row r6 (fun s => s.elim ne6 neB)
      have qg := kA.row hbg (fun s => s.elim neg (by omega))
      have qr := kA.row hb (fun s => s.elim ner (by omega))
      have qp := kA.row hR3 (fun s => s.elim (nep p pl) (by omega))
      have qm := hm.keep kA (fun s => s.elim (nep b bl) (by omega))
      have ql : Only (fun k => k = b) w W5 := hB.trans kA (fun i hi s => (s.elim (fun s => absurd s (nep i hi)) (fun s => by omega)))
      have od := (Only.refl none_ W5).drew
      obtain ⟨e0, e1⟩ := (od.row q6 (fun s => s)).two
      have eg : W5.drew.cell? ⟨w.heap.size, 0, none⟩ = some (.pointer (some ⟨p, 0, none⟩)) := by rw [(od.row qg (fun s => s)).cell]; rfl
      have ep : W5.drew.cell? ⟨p, 1, none⟩ = some (.map (some b)) := by rw [(od.row qp (fun s => s)).cell]; rfl
      obtain ⟨w6, run6, m6, o6, rg6⟩ := (qm.still od).drop (once.sub List.filter_sublist) x.s.w wx 0
      have FIN := Lib.hid (show GoesOn W3.heap.size (Takes b) (fun pre W => QuI W3.heap.size w.heap.size (w.heap.size + 1) (w.heap.size + 1 + 1) p b w es r pre W) pre x W .normal { tmps := #[], defers := [] } w6 from by
        have o56 := od.then_ o6
        refine ⟨⟨Nat.le_trans hk2.size o56.size, fun k o hk hh hc => ?_⟩, takes_drop (walks_others (hk2.trans (KeepsOthers.of_only od))) rg6, ⟨vv, o56.row (show Row W5 (w.heap.size + 1 + 1) 44 #[vv] from hv5) (by omega), ?_, trivial⟩, o56.row qr (by omega), o56.row qg (by omega), ql.same o56, ?_, Nat.le_trans hsz (Nat.le_trans hk2.size o56.size)⟩
        · have h5 := hk2.same k o hh hc
          exact (o56.block k (Array.getElem?_eq_some_iff.1 h5).1 (by omega)).trans h5
        · have := own6.keep o56 (fun g hg e => by have := (own6.base_le hg).1; omega)
          unfold OwnsInts Owns at this
          rw [one_map] at this
          exact this
        · rw [off_yes once xes E.out]; exact m6)
      clear hk2 kA hv5 own5 q6 qg qr qp qm ql od m6 o6 rg6 ap hown' hgrow hv1 hc1 hf1 own6 hW5 hvv
      gi_region
      all_goals
        gi_wp2
        exact FIN.out
    · have tt : (x.s.w.r == r) = false := by simp [e]
      gi_wp2
      exact ⟨KeepsFrom.refl _ _, takes_walks (walks_others (KeepsOthers.refl _)), ⟨v, hv, by rw [tks_no e]; exact hrow, trivial⟩, hb, hbg, hB, by rw [off_no e]; exact hm, hsz⟩
  case done =>
    rintro D xs W hD hS ⟨⟨v, hv, hrow, _⟩, hb, hbg, hB, hm, hsz⟩ hK
    have hc := hv.cell
    have own : OwnsInts W W3.heap.size v (tks xs r) := by unfold OwnsInts Owns; rw [one_map]; exact hrow
    have tl : (tks xs r).length ≤ 1000 := by have := tks_le xs r; have := hS.length_eq; omega
    have SO := Lib.hid ((callsIn_wide (n := 4)).2 (sortI14 W _ v _ own tl))
    have nb := hv.not_row (by decide) hrow
    have nd : v.ownBlock ≠ some D := fun e => by
      rcases hrow.2 with ⟨hv', _⟩ | ⟨g, cap, cur, hv', _, hh, _⟩
      · rw [hv'] at e; cases e
      · rw [hv'] at e
        obtain rfl : g = D := by simpa [Value.ownBlock] using e
        rw [hh] at hK; cases hK
    have nv : ∀ k, k < w.heap.size → v.ownBlock ≠ some k := fun k hk q => by have := (own.base_le q).1; omega
    have RP := Lib.hid (hB.row h.row pb)
    have KD := Lib.hid hK
    have LB := Lib.hid hB
    have MB := Lib.hid hm
    have SX := Lib.hid hS
    obtain ⟨a9, n9, k9, rfl⟩ := own_form14 own
    clear hv hrow hb hbg hB hm hK own h3 b3 r0 r1 r2 rg hi hz0 hz1 hz2
    gi_wp2_with (first
      | (refine ⟨trivial, ?_⟩; gi_at_call 118; refine (SO.out).mono ?_; rintro e w1 ⟨rfl, own1, oo⟩; have hc2 := oo.cell hc (fun s => nb s.symm))
      | (refine ⟨trivial, ?_⟩; gi_at_call 119; refine ((callsIn_wide (n := 4)).2 (compactI14 _ _ _ _ own1 (by rw [List.length_mergeSort]; exact tl))).mono ?_; rintro e w2 ⟨a, n, cp, rfl, own2, oo2⟩))
    have o12 := oo.same oo2
    have lD := (Array.getElem?_eq_some_iff.1 KD.out).1
    have wD : w2.heap[D]? = some (.deferred (some [])) := (o12.block D lD nd).trans KD.out
    have oD := only_grown (grownBy_putObj' w2 D (.deferred none))
    have rp := o12.row RP.out (nv p pl)
    have mb := MB.out.keep o12 (nv b bl)
    refine ⟨by simp, .inl ⟨_, _, rfl, run_takeDeferred wD, ?_⟩⟩
    have gg := off_good (xs := xs) h.good h.fine r
    refine ⟨_, results_tmp rfl _ _ _, _, rfl, ?_, ⟨offE es xs r, ⟨oD.row rp (fun e => by injection e; omega), mb.keep oD (fun e => by injection e; omega), gg.2, gg.1⟩, off_all SX.out r⟩, ?_⟩
    · have hp : (tks xs r).Perm (tkL (seats es) r) := by
        unfold tks tkL seats
        exact (((SX.out.map _).filter _).map _)
      rw [← compact_quit hp]
      exact own_low (ownsRow_putObj own2 (.deferred none) wD rfl) (by omega)
    · exact (LB.out.trans o12 (fun i hi s => absurd s (nv i hi))).trans oD (fun i hi s => by injection s; omega)
theorem quit17 {p b room came : Nat} {es : List En} (r : Int) (w : World) (h : WAt w p b room came es) :
    Calls Tryz.prog 72 #[.pointer (some ⟨p, 0, none⟩), .int .i64 r] w fun e w' => ∃ v', e = .returned v' ∧ OwnsInts w' w.heap.size v' (quitI (seats es) r) ∧ (∃ es', WAt w' p b room came es' ∧ seats es' = leftR (seats es) r) ∧ Only (two14 p b) w w' := by
  refine ((callsIn_wide (n := 5)).1 (quit_in r w h)).mono ?_
  rintro e w' ⟨v', rfl, h1, h2, h3⟩
  exact ⟨v', rfl, h1, h2, h3.more (fun i _ e => .inr e)⟩
end Go.Proofs.YtfbpjobobdidiaaGreatDoor


/- The code's own register, by what its calls answer. -/
namespace Go.Proofs.YtfbpjobobdidiaaGreatDoor
open Go.RowKit
set_option linter.unusedVariables false
set_option maxRecDepth 100000

theorem wadd_any {p : Nat} {M : Nat → Prop} {room L : Nat} {ss : List Sx} (t : Int) (x : Wt) (w : World) (h : WG w p M room L ss) (wx : wfW x) (hL : L < 1000000) :
    Calls Tryz.prog 69 #[.pointer (some ⟨p, 0, none⟩), .int .i64 t, x.val] w fun e w' => e = .returned (.int .i64 (addI room ss t x)) ∧ WGto w p M room (L + 1) (addS room ss t x) w' := by
  obtain ⟨b, came, es, k, rfl, hc, mp, mb⟩ := h.ex
  refine (add11 t x wx w k (by omega)).mono ?_
  rintro e w' ⟨rfl, came', es', k', hs, hl, o⟩
  refine ⟨rfl, ?_⟩
  rw [← hs]
  exact h.went mp mb k' (by omega) o
theorem wtake_any {p : Nat} {M : Nat → Prop} {room L : Nat} {ss : List Sx} (t : Int) (w : World) (h : WG w p M room L ss) :
    Calls Tryz.prog 61 #[.pointer (some ⟨p, 0, none⟩), .int .i64 t] w fun e w' => ∃ v', e = .returned v' ∧ RdW w' w.heap.size v' (ofL ss t) ∧ WGtoV w p M room L (leftT ss t) v' w' := by
  obtain ⟨b, came, es, k, rfl, hc, mp, mb⟩ := h.ex
  refine (take14 t w k).mono ?_
  rintro e w' ⟨v', rfl, hr, ⟨es', k', hs⟩, o⟩
  refine ⟨v', rfl, hr, ?_⟩
  rw [← hs]
  exact h.wentV mp mb k' hc o (fun g hg => (hr.late g hg).1)
theorem wquit_any {p : Nat} {M : Nat → Prop} {room L : Nat} {ss : List Sx} (r : Int) (w : World) (h : WG w p M room L ss) :
    Calls Tryz.prog 72 #[.pointer (some ⟨p, 0, none⟩), .int .i64 r] w fun e w' => ∃ v', e = .returned v' ∧ OwnsInts w' w.heap.size v' (quitI ss r) ∧ WGtoV w p M room L (leftR ss r) v' w' := by
  obtain ⟨b, came, es, k, rfl, hc, mp, mb⟩ := h.ex
  refine (quit17 r w k).mono ?_
  rintro e w' ⟨v', rfl, hr, ⟨es', k', hs⟩, o⟩
  refine ⟨v', rfl, hr, ?_⟩
  rw [← hs]
  exact h.wentV mp mb k' hc o (fun g hg => (hr.base_le hg).1)
theorem wof_any {p : Nat} {M : Nat → Prop} {room L : Nat} {ss : List Sx} (t : Int) (w : World) (h : WG w p M room L ss) :
    Calls Tryz.prog 74 #[.pointer (some ⟨p, 0, none⟩), .int .i64 t] w fun e w' => ∃ v', e = .returned v' ∧ RdW w' w.heap.size v' (ofL ss t) ∧ Only none_ w w' := by
  obtain ⟨b, came, es, k, rfl, hc, mp, mb⟩ := h.ex
  exact of21 t w k
theorem wwaits_any {p : Nat} {M : Nat → Prop} {room L : Nat} {ss : List Sx} (x : Wt) (w : World) (h : WG w p M room L ss) (wx : wfW x) :
    Calls Tryz.prog 107 #[.pointer (some ⟨p, 0, none⟩), x.val] w fun e w' => e = .returned (.bool (waitsB ss x)) ∧ Only none_ w w' := by
  obtain ⟨b, came, es, k, rfl, hc, mp, mb⟩ := h.ex
  rw [← has_seats]
  exact waits19 x wx w k
theorem wfree_any {p : Nat} {M : Nat → Prop} {room L : Nat} {ss : List Sx} (w : World) (h : WG w p M room L ss) :
    Calls Tryz.prog 53 #[.pointer (some ⟨p, 0, none⟩)] w fun e w' => e = .returned (.int .i64 ((room : Int) - (ss.length : Int))) ∧ Only none_ w w' := by
  obtain ⟨b, came, es, k, rfl, hc, mp, mb⟩ := h.ex
  rw [seats_len]
  exact free23 w k
end Go.Proofs.YtfbpjobobdidiaaGreatDoor

