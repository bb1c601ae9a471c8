/- Who waits for a ticket: the code's own register. -/
import Derived.Test.YtgngaimbpnlkjaaAd14
import Derived.Test.YtgngaimbpnlkjaaSo30
import Derived.Test.YtgngaimbpnlkjaaRgTake
import Derived.RangeFuncBox
namespace Go.Proofs.Ytgngaimbpnlkjaa
open Go.RowKit Go.Maps Go.Shelf
set_option linter.unusedVariables false
attribute [local go_sem] Oper.semAt_some

/-! ### what a round owes to the iterator -/
theorem walks_put {A : World} {l : Nat} {o : Obj} (o' : Obj) (h : A.heap[l]? = some o) (hw : o.isWalk = false) : KeepsWalks A (A.putObj l o') := by
  refine ⟨by simp, fun k u hk hu => ?_⟩
  have : k ≠ l := fun e => by subst e; rw [h] at hk; cases hk; rw [hw] at hu; cases hu
  exact (World.putObj_heap_other this).trans hk
theorem takes_walks {b : Nat} {x : En} {W W' : World} (h : KeepsWalks W W') : Takes b x W W' := fun r n D left cnt _ hr => ⟨D, cnt, hr.of_walks h, Nat.le_refl _, .inl rfl⟩
theorem walks_others {W W' : World} (h : KeepsOthers W W') : KeepsWalks W W' := ⟨h.size, fun k o hk hw => h.same k o hk (Obj.not_cells_of_walk hw)⟩
theorem takes_from {b : Nat} {x : En} {A A' B : World} (h : KeepsWalks A A') (t : Takes b x A' B) : Takes b x A B := fun r n D left cnt q hr => t r n D left cnt q (hr.of_walks h)
theorem takes_to {b : Nat} {x : En} {A B B' : World} (t : Takes b x A B) (h : KeepsWalks B B') : Takes b x A B' := fun r n D left cnt q hr => by
  obtain ⟨D', c, h1, h2, h3⟩ := t r n D left cnt q hr
  exact ⟨D', c, h1.of_walks h, h2, h3⟩
theorem row_kept {W W' : World} {row : Option Nat} {g : Nat} {t : TypeId} {cs : Array Value} (h : Row W g t cs) (hg : W.grownBy W' row) (hr : ∀ r, row = some r → ∃ o : Obj, W.heap[r]? = some o ∧ o.isCells = false) : Row W' g t cs :=
  (grownBy_keeps_cells hg hr (show W.heap[g]? = _ from h) rfl).trans h
/-- the iterator hands out each entry once -/
theorem hand14 (m : Nat) (hm : 1 ≤ m) {w0 : World} {Bs p b room came : Nat} {es : List En} (h : WAt w0 p b room came es) (hBs : Row w0 Bs 24 #[.pointer (some ⟨p, 0, none⟩)]) :
    Handing Fence.wide m Try.prog 32 #[.pointer (some ⟨Bs, 0, none⟩)] encE (fun pre x => (pre ++ [x]).Nodup ∧ ∀ y ∈ pre ++ [x], y ∈ es) (Takes b) (fun xs => xs.Perm es) w0 := by
  intro l J W hb hJ hY h0
  have o := Only.of_below hb
  have pl := h.row.lt
  have bl := h.md.lt
  have sl := hBs.lt
  have h2 := h.keep o (by omega) (by omega)
  obtain ⟨D0, k1, k2⟩ := h2.md
  refine iter14 m hm l Bs b es.length p D0 es room came k2 h2.once J hY W hJ ?_ h2.row k1 h0
  rw [(o.row hBs (by omega)).cell]; rfl

/-! ### sorting -/
/-- a slice that reads as these waiters; its block is a later one -/
theorem WAt.wf {w : World} {p b room came : Nat} {es : List En} (h : WAt w p b room came es) : ∀ e ∈ es, wfW e.s.w := by
  obtain ⟨D, _, k⟩ := h.md
  exact k.wf
structure RdW (w : World) (base : Nat) (v : Value) (xs : List Wt) : Prop where
  reads : ReadsW w v xs
  late : ∀ g, v.ownBlock = some g → base ≤ g ∧ g < w.heap.size
theorem sortV {W : World} {p b room came n0 : Nat} {es : List En} {v : Value} {ws : List Wt} (h : WAt W p b room came es) (ho : OwnsWt W n0 v ws) (hp : p < n0) (hb : b < n0) (wf : ∀ x ∈ ws, wfW x) (hl : ws.length ≤ 1000) :
    Calls Try.prog 30 #[v, cmpV p] W fun e w' => e = .returned (.tuple #[]) ∧ ∃ ws', ws'.Perm ws ∧ ws'.Pairwise (fun x y => ¬ (turn es y < turn es x)) ∧ RdW w' n0 v ws' ∧ Only (fun k => v.ownBlock = some k) W w' := by
  have h0 := ho
  rcases ho.2 with ⟨hv, h2⟩ | ⟨g, cap, cur, hv, hg, hh, h3, h4, h5, h6⟩
  · have : ws = [] := List.eq_nil_of_length_eq_zero h2
    subst this
    subst hv
    refine (sort30_none none 0 (cmpV p) W).mono ?_
    rintro e w' ⟨rfl, rfl⟩
    exact ⟨rfl, [], List.Perm.refl _, List.Pairwise.nil, ⟨ReadsW.of_owns h0, fun g hg => by cases hg⟩, Only.refl _ _⟩
  · subst hv
    have gl := (Array.getElem?_eq_some_iff.1 hh).1
    obtain ⟨a, cp, e1, rd⟩ := ReadsW.of_owns h0
    have L : Less (fun z => (turn es z : Int)) W g p := fun w o x y wx wy => less31 w (h.keep o (by omega) (by omega)) x y wx wy
    have eg : a = some ⟨g, 0, none⟩ := by simpa using (Value.slice.inj e1).1.symm
    have get : ∀ i, i < ws.length → ws[i]? = some ws.toArray[i]! := fun i hi => by simp [hi]
    have S : Sq W W g ws.toArray := by
      refine ⟨fun i hi => ?_, fun k => by unfold World.frozen?; rw [hh]; simp, fun i hi => ?_, Only.refl _ _, gl⟩
      · have hi' : i < ws.length := by simpa using hi
        obtain ⟨g', o', e2, c1, c2⟩ := rd i _ (get i hi')
        rw [eg] at e2
        obtain ⟨rfl, rfl⟩ : g = g' ∧ 0 = o' := by simpa using e2
        rw [Nat.zero_add] at c1 c2
        exact ⟨c1, c2⟩
      · have hi' : i < ws.length := by simpa using hi
        exact wf _ (List.mem_of_getElem? (get i hi'))
    refine (sort30 (cap := cap) L hl ws.toArray W S (by simp)).mono ?_
    rintro e w' ⟨rfl, d', pm, so, s'⟩
    have sz : d'.size = ws.length := by rw [pm.1]; simp
    have pl : d'.toList.Perm ws := by
      have := pm.2.2
      simp only [Array.toList_extract, List.extract_eq_take_drop, Nat.sub_zero, List.drop_zero] at this
      rw [List.take_of_length_le (by simp [sz]), List.take_of_length_le (by simp)] at this
      exact this
    refine ⟨rfl, d'.toList, pl, ?_, ⟨⟨some ⟨g, 0, none⟩, cap, by simp [sz], fun i x hx => ⟨g, 0, rfl, ?_, ?_⟩⟩, fun g' hg' => ?_⟩, s'.only.more (fun i _ e => by subst e; rfl)⟩
    · rw [List.pairwise_iff_getElem]
      intro i j hi hj hij
      have h1 : i < d'.size := by simpa using hi
      have h2 : j < d'.size := by simpa using hj
      have := so i j (Nat.zero_le _) hij (by rw [← sz]; exact h2)
      unfold klt at this
      simp only [decide_eq_false_iff_not] at this
      rw [getElem!_pos d' i h1, getElem!_pos d' j h2] at this
      simp only [Array.getElem_toList]
      omega
    · have hi : i < d'.size := by have := (List.getElem?_eq_some_iff.1 hx).1; simpa using this
      have e3 : d'[i]! = x := by simp at hx; simp [hi]; have := Array.getElem?_eq_some_iff.1 hx; exact this.2
      rw [Nat.zero_add, (s'.cell i hi).1, e3]
    · have hi : i < d'.size := by have := (List.getElem?_eq_some_iff.1 hx).1; simpa using this
      have e3 : d'[i]! = x := by simp at hx; simp [hi]; have := Array.getElem?_eq_some_iff.1 hx; exact this.2
      rw [Nat.zero_add, (s'.cell i hi).2, e3]
    · obtain rfl : g = g' := by simpa [Value.ownBlock] using hg'
      exact ⟨hg, s'.lt⟩

theorem RdW.put {w : World} {base D : Nat} {v : Value} {xs : List Wt} {o : Obj} (o' : Obj) (h : RdW w base v xs) (hD : w.heap[D]? = some o) (hc : o.isCells = false) : RdW (w.putObj D o') base v xs := by
  obtain ⟨⟨a, cap, rfl, rd⟩, lt⟩ := h
  refine ⟨⟨a, cap, rfl, fun i x hx => ?_⟩, fun g hg => by have := lt g hg; simpa using this⟩
  obtain ⟨g, o1, e, c1, c2⟩ := rd i x hx
  exact ⟨g, o1, e, cell_kept c1 (grownBy_putObj' w D o') (fun r e => by cases e; exact ⟨o, hD, hc⟩), cell_kept c2 (grownBy_putObj' w D o') (fun r e => by cases e; exact ⟨o, hD, hc⟩)⟩

/-! ### who waits for a ticket -/
/-- the waiters of what has come -/
def ofs (es : List En) (t : Int) : List Wt := (ofE es t).map (fun e => e.s.w)
theorem ofs_yes {es : List En} {e : En} {t : Int} (h : e.s.t = t) : ofs (es ++ [e]) t = ofs es t ++ [e.s.w] := by unfold ofs ofE; simp [h]
theorem ofs_no {es : List En} {e : En} {t : Int} (h : e.s.t ≠ t) : ofs (es ++ [e]) t = ofs es t := by unfold ofs ofE; simp [h]
theorem ofs_le (es : List En) (t : Int) : (ofs es t).length ≤ es.length := by unfold ofs ofE; rw [List.length_map]; exact List.length_filter_le _ _
theorem ofs_seats (es : List En) (t : Int) : ofs es t = ofL (seats es) t := ofE_seats es t
/-- what stands in memory while they come -/
structure OfI (n0 Bt Bw : Nat) (w0 : World) (t : Int) (pre : List En) (W : World) : Prop where
  row : ∃ v, Boxed W Bw 36 v ∧ W.ownsRow n0 31 2 v (ofs pre t).length ((ofs pre t).flatMap Wt.cells) ∧ True
  box : Row W Bt 3 #[.int .i64 t]
  low : Below n0 w0 W
theorem ofI_own {n0 Bt Bw B : Nat} {w0 : World} {t : Int} (h : n0 ≤ w0.heap.size) (hB : n0 ≤ B) : OwnFrom B (fun pre W => OfI n0 Bt Bw w0 t pre W) := fun s W W' row hs hg hr =>
  ⟨(Own.from (holdsRow_own n0 Bw 36 31 2 (fun (pre : List En) => (ofs pre t).length) (fun (pre : List En) => (ofs pre t).flatMap Wt.cells) (fun _ _ => True)) B) s W W' row hs.row hg hr, row_kept hs.box hg (fun r e => (hr r e).2), (ownFrom_below (β := Unit) h hB) () W W' row hs.low hg hr⟩
/-- where a round's two boxes lie -/
def OfA (mk : En → Nat → Nat → Act) (x : En) (a : Act) (W : World) : Prop := ∃ g6 g7, a = mk x g6 g7 ∧ Row W g6 31 #[.int .i64 x.s.w.r, .int .i64 x.s.w.p] ∧ Row W g7 56 #[.int .i64 x.s.t, .int .i64 x.n]
theorem ofA_own (mk : En → Nat → Nat → Act) (B : Nat) (x : En) (a : Act) : OwnFrom B (fun (_ : Unit) W => OfA mk x a W) := fun _ W W' row ⟨g6, g7, e, h1, h2⟩ hg hr => ⟨g6, g7, e, row_kept h1 hg (fun r e => (hr r e).2), row_kept h2 hg (fun r e => (hr r e).2)⟩
theorem wt_news {W : World} {g : Nat} {a b : Value} (r : Row W g 31 #[a, b]) : ∀ j u, [a, b][j]? = some u → W.cell? ((⟨g, 0, none⟩ : Addr).add j) = some u := by
  intro j u hj
  obtain ⟨c0, c1⟩ := r.two
  match j, hj with
  | 0, hj => obtain rfl : a = u := by simpa using hj
             exact c0
  | 1, hj => obtain rfl : b = u := by simpa using hj
             exact c1
theorem nodup_le {α : Type} [DecidableEq α] : ∀ {l m : List α}, l.Nodup → (∀ y ∈ l, y ∈ m) → l.length ≤ m.length := by
  intro l
  induction l with
  | nil => intro m _ _; exact Nat.zero_le _
  | cons a l ih =>
    intro m h k
    obtain ⟨h1, h2⟩ := List.nodup_cons.1 h
    have ha : a ∈ m := k a (by simp)
    have := ih h2 (m := m.erase a) (fun y hy => (List.mem_erase_of_ne (fun e => h1 (by rw [← e]; exact hy))).2 (k y (by simp [hy])))
    rw [List.length_erase_of_mem ha] at this
    have : 0 < m.length := List.length_pos_of_mem ha
    simp only [List.length_cons]
    omega
/-- in the order in which they came -/
theorem of_sorted {came : Nat} {es xs : List En} {ws : List Wt} (t : Int) (o : OnceE es) (f : FineE came es) (n : ((seats es).map Sx.w).Nodup) (hp : xs.Perm es) (hw : ws.Perm (ofs xs t)) (hs : ws.Pairwise (fun x y => ¬ (turn es y < turn es x))) : ws = ofL (seats es) t := by
  have h1 : ws.Perm (ofs es t) := hw.trans ((hp.filter _).map _)
  rw [← ofs_seats]
  refine sorted_of o f (List.filter_sublist) ?_ (fun x => ?_) hs
  · rw [h1.nodup_iff, ofs_seats]
    exact ((List.filter_sublist (l := seats es)).map Sx.w).nodup n
  · rw [h1.mem_iff]
    unfold ofs
    rw [List.mem_map]

set_option maxRecDepth 100000 in
set_option maxHeartbeats 4000000 in
theorem of_in {p b room came : Nat} {es : List En} (t : Int) (w : World) (h : WAt w p b room came es) :
    CallsIn Fence.wide 5 Try.prog 21 #[.pointer (some ⟨p, 0, none⟩), .int .i64 t] w fun e w' => ∃ v', e = .returned v' ∧ RdW w' w.heap.size v' (ofL (seats es) t) ∧ Below w.heap.size w w' := by
  have FL := fun w1 => Lib.hid ((callsIn_wide (n := 4)).2 (all_any p w1))
  obtain ⟨i0, hi, hz0, hz1, hz2⟩ := info_parts info_wt
  refine callsIn_of_wp_marks Try.func21 rfl trivial ?_ rfl
  simp only [Try.ntmps21, List.size_toArray, List.length_cons, List.length_nil, Nat.reduceAdd, Nat.reduceSub, Array.replicate_succ, Array.replicate_zero, List.push_toArray, List.append_toArray, List.nil_append, List.cons_append]
  gi_wp2_with (refine ⟨trivial, ?_⟩; gi_at_call 26; refine ((FL _).out).mono ?_; rintro e w' ⟨rfl, rfl⟩)
  obtain ⟨W3, hW3⟩ : ∃ W3, W3 = ((w.alloc (.cells #[.int .i64 t] 3)).alloc (.cells #[.slice none 0 0] 36)).alloc (.cells #[.pointer (some ⟨p, 0, none⟩)] 24) := ⟨_, rfl⟩
  have z3 : W3.heap.size = w.heap.size + 3 := by rw [hW3]; simp
  have b3 : Below w.heap.size w W3 := by rw [hW3]; exact (((Below.refl _ w).alloc (Nat.le_refl _) _).alloc (by simp) _).alloc (by simp; omega) _
  have r0 : Row W3 w.heap.size 3 #[.int .i64 t] := by rw [hW3]; exact ((Row.fresh w 3 #[.int .i64 t]).alloc _).alloc _
  have r1 : Boxed W3 (w.heap.size + 1) 36 (.slice none 0 0) := by
    rw [hW3]
    have := (Boxed.new (w.alloc (.cells #[.int .i64 t] 3)) 36 (.slice none 0 0)).alloc (.cells #[.pointer (some ⟨p, 0, none⟩)] 24)
    rwa [World.size_alloc] at this
  have r2 : Row W3 (w.heap.size + 1 + 1) 24 #[.pointer (some ⟨p, 0, none⟩)] := by
    rw [hW3]
    have := Row.fresh ((w.alloc (.cells #[.int .i64 t] 3)).alloc (.cells #[.slice none 0 0] 36)) 24 #[.pointer (some ⟨p, 0, none⟩)]
    rwa [World.size_alloc, World.size_alloc] at this
  have h3 : WAt W3 p b room came es := h.keep (Only.of_below b3) (Nat.not_le.2 h.row.lt) (Nat.not_le.2 h.md.lt)
  have pl := h.row.lt
  have bl := h.md.lt
  have le64 := h.len
  rw [← hW3]
  clear hW3
  refine wpIn_each rfl (by decide) (gf := 32) (lb := #[.pointer (some ⟨w.heap.size + 1 + 1, 0, none⟩)]) rfl trivial (enters_of Try.func32 (by kernel_rfl) rfl)
    (hand14 4 (by decide) h3 r2) (Below.refl _ _) (fun _ => rfl)
    (fun x A B l o o' _ ho hc hw k => takes_from (walks_put o' ho hw) k) (fun x A B l o o' _ ho hc hw k => takes_to k (walks_put o' ho hw))
    (fun pre W => OfI w.heap.size w.heap.size (w.heap.size + 1) w t pre W) (ofI_own (Nat.le_refl _) (by omega))
    ⟨⟨_, r1, World.ownsRow_nil _ _ _ _, trivial⟩, r0, b3⟩
    (OfA (fun (x : En) (g6 g7 : Nat) => ({ tmps := #[.pointer (some ⟨p, 0, none⟩), .int .i64 t, undef, .pointer (some ⟨w.heap.size, 0, none⟩), .slice none 0 0, .pointer (some ⟨w.heap.size + 1, 0, none⟩), .pointer (some ⟨g6, 0, none⟩), .pointer (some ⟨g7, 0, none⟩), .pointer (some ⟨p, 0, none⟩), (.func (.func 32) #[] #[.pointer (some ⟨w.heap.size + 1 + 1, 0, none⟩)]), .agg #[.int .i64 x.s.w.r, .int .i64 x.s.w.p], .agg #[.int .i64 x.s.t, .int .i64 x.n], undef, undef, undef, undef, undef, undef, undef, undef, undef, undef, undef, undef, undef], defers := [] } : Act))) (fun x a' => ofA_own _ _ x a') ?assign ?body ?done
  case assign =>
    intro l pre x W K hI hok hK
    simp only [encE]
    gi_wp2
    have k6 := Row.fresh W 31 #[.int .i64 x.s.w.r, .int .i64 x.s.w.p]
    have k7 := Row.fresh (W.alloc (.cells #[.int .i64 x.s.w.r, .int .i64 x.s.w.p] 31)) 56 #[.int .i64 x.s.t, .int .i64 x.n]
    rw [World.size_alloc] at k7
    have ko : KeepsOthers W ((W.alloc (.cells #[.int .i64 x.s.w.r, .int .i64 x.s.w.p] 31)).alloc (.cells #[.int .i64 x.s.t, .int .i64 x.n] 56)) := (KeepsOthers.alloc W _).trans (KeepsOthers.alloc _ _)
    refine hK _ _ (ko.from _) (fun B k => takes_from (walks_others ko) k) ?_ ⟨_, _, rfl, k6.alloc _, k7⟩
    exact (ofI_own (B := 0 + w.heap.size) (Nat.le_refl _) (by omega)) pre _ _ none ((ofI_own (B := 0 + w.heap.size) (Nat.le_refl _) (by omega)) pre _ _ none hI (World.grownBy_alloc W _ none) (fun r e => by cases e)) (World.grownBy_alloc _ _ none) (fun r e => by cases e)
  case body =>
    rintro l pre x a' W ⟨⟨v, hv, hrow, _⟩, hb, hB⟩ hok ⟨g6, g7, rfl, r6, r7⟩
    obtain ⟨c60, c61⟩ := r6.two
    obtain ⟨c70, c71⟩ := r7.two
    have hc := hv.cell
    have cb : W.cell? ⟨w.heap.size, 0, none⟩ = some (.int .i64 t) := by rw [hb.cell]; rfl
    by_cases e : x.s.t = t
    · have tt : (x.s.t == t) = true := by simp [e]
      have ln : (ofs pre t).length + 1 ≤ 65 := by
        have h1 := ofs_le pre t
        have h2 : (pre ++ [x]).length ≤ es.length := nodup_le hok.1 hok.2
        rw [List.length_append] at h2
        simp at h2
        omega
      have hm1 : (ofs pre t).length + 1 ≤ maxLen := by unfold maxLen; omega
      have hm2 : ((ofs pre t).length + 1) * 16 ≤ 140737488355328 := by omega
      have hbb : Boxed W w.heap.size 3 (.int .i64 t) := hb
      have hb0 : w.heap.size ≤ W.heap.size := hB.size
      clear ln h h3 b3 r0 r1 r2
      gi_wp2_with (gi_at_builtin; refine wpListIn_append_own _ rfl _ _ 36 rfl w.heap.size 31 i0 (.agg #[.int .i64 0, .int .i64 0]) 2 16 Try.underlying36 hi hz0 hz1 hz2 rfl (by decide) _ _ _ rfl (hrow.alloc _) ⟨W.heap.size, 0, none⟩ 1 1 [.int .i64 x.s.w.r, .int .i64 x.s.w.p] rfl rfl (wt_news (Row.fresh _ _ _)) (by simp [Value.oneCell']) hm1 hm2 (by simp; omega) ?_; intro v' w1 hown' hgrow _; obtain ⟨g', cap', rfl⟩ := ownsRow_succ hown'; obtain ⟨hv1, hv2, hr2, hk2, hb2⟩ := hv.appended (by decide) hrow hb0 (Nat.le_succ _) hown' hgrow; have hc1 := hv1.cell; have hf1 := hv1.frozen)
      refine ⟨hk2.from _, takes_walks (walks_others hk2), ⟨_, hv2, by rw [ofs_yes e, List.length_append, List.flatMap_append]; simpa [Wt.cells] using hr2, trivial⟩, ?_, hB.trans hb2⟩
      exact Row.far (show Row w1 w.heap.size 3 #[.int .i64 t] from (hbb.alloc _).kept hgrow (hbb.not_row (by decide) hrow)) (by simp) _
    · have tt : (x.s.t == t) = false := by simp [e]
      gi_wp2
      exact ⟨KeepsFrom.refl _ _, takes_walks (walks_others (KeepsOthers.refl _)), ⟨v, hv, by rw [ofs_no e]; exact hrow, trivial⟩, hb, hB⟩
  case done =>
    rintro D xs W hD hS ⟨⟨v, hv, hrow, _⟩, hb, hB⟩ hK
    have hc := hv.cell
    have hW := h.keep (Only.of_below hB) (Nat.not_le.2 pl) (Nat.not_le.2 bl)
    have wf := h.wf
    have own : OwnsWt W w.heap.size v (ofs xs t) := hrow
    have SO := Lib.hid ((callsIn_wide (n := 4)).2 (sortV hW own pl bl (fun x hx => by
      obtain ⟨e, he, rfl⟩ := List.mem_map.1 hx
      exact wf e (hS.subset (List.mem_filter.1 he).1)) (by have := ofs_le xs t; have := hS.length_eq; omega)))
    have nb := hv.not_row (by decide) hrow
    have nd : v.ownBlock ≠ some D := fun e => by
      rcases hrow.2 with ⟨hv', _⟩ | ⟨g, cap, cur, hv', _, hh, _⟩
      · rw [hv'] at e; cases e
      · rw [hv'] at e
        obtain rfl : g = D := by simpa [Value.ownBlock] using e
        rw [hh] at hK; cases hK
    have BX := Lib.hid hv
    have OV := Lib.hid own
    have KD := Lib.hid hK
    have LB := Lib.hid hB
    have SX := Lib.hid hS
    obtain ⟨a9, n9, k9, rfl⟩ := own_form14 own
    unfold cmpV at SO
    clear hv hrow hb hB hK hW own wf h3 b3 r0 r1 r2 hi hz0 hz1 hz2
    gi_wp2_with (refine ⟨trivial, ?_⟩; gi_at_call 30; refine (SO.out).mono ?_; rintro e w' ⟨rfl, ws', pm, pw, rd, oo⟩; have hc2 := oo.cell hc (fun s => nb s.symm))
    have lD := (Array.getElem?_eq_some_iff.1 KD.out).1
    have wD : w'.heap[D]? = some (.deferred (some [])) := (oo.block D lD nd).trans KD.out
    refine ⟨by simp, .inl ⟨_, _, rfl, run_takeDeferred wD, ?_⟩⟩
    refine ⟨_, results_tmp rfl _ _ _, _, rfl, ?_, ?_⟩
    · rw [← of_sorted t h.once h.fine h.good.once SX.out pm pw]
      exact rd.put _ wD rfl
    · refine (LB.out.trans (oo.below LB.out.size (fun i hi s => ?_))).trans (belowK_b (w := w) (Nat.le_refl _) w' D _ _ (by omega) wD rfl rfl)
      have := (OV.out.base_le s).1
      omega
theorem of21 {p b room came : Nat} {es : List En} (t : Int) (w : World) (h : WAt w p b room came es) :
    Calls Try.prog 21 #[.pointer (some ⟨p, 0, none⟩), .int .i64 t] w fun e w' => ∃ v', e = .returned v' ∧ RdW w' w.heap.size v' (ofL (seats es) t) ∧ Only none_ w w' := by
  refine ((callsIn_wide (n := 5)).1 (of_in t w h)).mono ?_
  rintro e w' ⟨v', rfl, h1, h2⟩
  exact ⟨v', rfl, h1, (Only.of_below h2).more (fun i hi k => absurd hi (by omega))⟩
end Go.Proofs.Ytgngaimbpnlkjaa
