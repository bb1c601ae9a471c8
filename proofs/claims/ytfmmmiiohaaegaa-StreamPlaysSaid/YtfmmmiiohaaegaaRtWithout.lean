/- The document's own table of what is expected: an entry goes. -/
import Derived.Test.YtfmmmiiohaaegaaRt
namespace Go.Proofs.Ytfmmmiiohaaegaa
open Go.RowKit Go.Maps
set_option linter.unusedVariables false

/-- append to a slice of the call's own, as one step of a region that draws -/
theorem step_append_mine8 {P : Program} {ops : Array Oper} {o : Oper} {a : Act} {w : World} {K : Act → World → Prop} {Q : Exit → Act → World → Prop} {E : Prop}
    (hg : o.guard = none) (s x : Operand) (t : TypeId) (hop : o.op = Op.call { callee := Callee.builtin Builtin.append, args := #[s, x], argTypes := #[t, t] })
    (base : Nat) (e : TypeId) (i : TypeInfo) (z : Value) (size bytes : Nat) (h1 : P.underlying t = some (.slice e)) (h2 : P.info? e = some i) (h3 : i.zero = some z) (h4 : i.size = size) (h5 : i.bytes = bytes) (h6 : z.cells.size = size) (h7 : 0 < size)
    (v : Value) (k : Nat) (xs : List Value) (hs : a.eval s = v) (hown : w.ownsRow base e size v k xs)
    (ad : Addr) (m c : Nat) (news : List Value) (hx : a.eval x = .slice (some ad) m c) (hn : news.length = m * size) (hc : ∀ j u, news[j]? = some u → w.cell? (ad.add j) = some u) (h1c : ∀ u ∈ news, u.oneCell' = true)
    (b1 : k + m ≤ maxLen) (b2 : (k + m) * bytes ≤ 140737488355328) (b3 : base ≤ w.heap.size)
    (hK : ∀ v' w', w'.ownsRow base e size v' (k + m) (xs ++ news) → w.grownBy w' v.ownBlock → K (a.put o.dst v') w') :
    if Region.wanted o (yielded ops a.tmps) = true then Oper.wp P o a w K Q else E := by
  have hw : Region.wanted o (yielded ops a.tmps) = true := by simp [Region.wanted, hg]
  rw [if_pos hw]
  obtain ⟨v', w', hrun, r1, r2, _⟩ := run_append_own (P := P) w base t o.type e i z size bytes h1 h2 h3 h4 h5 h6 h7 v k xs hown ad m c news hn hc h1c b1 b2 b3
  unfold Oper.wp
  simp [execOp, hop, resolve, invoke, builtin, hs, hx, hrun, Result.andThen]
  exact hK v' w' r1 r2

theorem flat_takeL {α : Type} {c : α → List Value} {k : Nat} (hk : ∀ a, (c a).length = k) : ∀ (l : List α) (i : Nat), (l.take i).flatMap c = (l.flatMap c).take (i * k) := by
  intro l
  induction l with
  | nil => intro i; simp
  | cons x l ih =>
    intro i
    cases i with
    | zero => simp
    | succ i =>
      rw [List.take_succ_cons, List.flatMap_cons, List.flatMap_cons, ih, show (i + 1) * k = (c x).length + i * k by rw [hk, Nat.succ_mul, Nat.add_comm], List.take_length_add_append]
theorem flat_dropL {α : Type} {c : α → List Value} {k : Nat} (hk : ∀ a, (c a).length = k) : ∀ (l : List α) (i : Nat), (l.drop i).flatMap c = (l.flatMap c).drop (i * k) := by
  intro l
  induction l with
  | nil => intro i; simp
  | cons x l ih =>
    intro i
    cases i with
    | zero => simp
    | succ i =>
      rw [List.drop_succ_cons, List.flatMap_cons, ih, show (i + 1) * k = (c x).length + i * k by rw [hk, Nat.succ_mul, Nat.add_comm], List.drop_append]
      simp
theorem en_cells_one (l : List En) : ∀ u ∈ l.flatMap En.cells, u.oneCell' = true := fun u hu => by
  obtain ⟨x, _, hx⟩ := List.mem_flatMap.1 hu
  exact en_one x u hx
theorem en_flat_len (l : List En) : (l.flatMap En.cells).length = l.length * 2 := by
  have := flat_size en2 l
  unfold flat at this
  simpa using this
theorem add8 (b o n : Nat) : (Addr.mk b o none).add n = ⟨b, o + n, none⟩ := by
  unfold Addr.add
  split
  · rename_i z; rw [z]; rfl
  · rfl
theorem own_form8 {w : World} {base : Nat} {v : Value} {es : List En} (h : Owns w base 83 2 En.cells v es) : ∃ a n c, v = .slice a n c := by
  rcases h.2 with ⟨h0, _⟩ | ⟨g, cap, cur, hv, _⟩
  · exact ⟨none, 0, 0, h0⟩
  · exact ⟨_, _, _, hv⟩

set_option maxRecDepth 100000 in
set_option maxHeartbeats 4000000 in
theorem without8_any (q size life i : Nat) (ok : Nat → Prop) (es : List En) (w : World) (h : RT w q ok size life es) (hl : es.length ≤ 1000) (hi : i < es.length) :
    Calls Try.prog 50 #[.pointer (some ⟨q, 0, none⟩), .int .i64 i] w fun e w' => e = .returned (.tuple #[]) ∧ RT w' q ok size life (es.take i ++ es.drop (i + 1)) ∧ Only (fun k => k = q) w w' := by
  have LQ := Lib.hid h.ltq
  have LB := Lib.hid h.ltb
  have lq := h.lt
  obtain ⟨⟨v, r, o⟩, l1, l2⟩ := h
  obtain ⟨A, ca, rfl, _, ha⟩ := o.form
  obtain ⟨g, rfl, hg2, hca, hmx, okg⟩ := ha (by intro e; rw [e] at hi; cases hi)
  have HR := Lib.hid o.1
  have R := Lib.hid r
  have nqg : q ≠ g := fun e => l1 (e ▸ okg)
  clear r o l1 l2 ha okg
  obtain ⟨i0, hi0, hz0, hz1, hz2⟩ := info_parts info_en
  have I0 := Lib.hid hi0
  have I1 := Lib.hid hz0
  have I2 := Lib.hid hz1
  have I3 := Lib.hid hz2
  clear hi0 hz0 hz1 hz2
  have hw2 : IntKind.i64.wrap ((i : Int) + 1) = (i : Int) + 1 := by rw [IntKind.wrap_i64]; omega
  have hw3 : wrap64 ((i : Int) + 1) = (i : Int) + 1 := by unfold wrap64; omega
  have b1 : i ≤ ca := by omega
  have b2 : (i : Int) + 1 ≤ (es.length : Int) := by omega
  have b3 : i + 1 ≤ es.length := by omega
  have b4 : (0 : Int) ≤ (i : Int) + 1 := by omega
  have all_ : ∀ j u, (es.flatMap En.cells)[j]? = some u → w.cell? ((Addr.mk g 0 none).add j) = some u := World.ownsRow.cells HR.out (g := g) rfl
  have hc1 : ∀ (W : World), Only none_ w W → ∀ j u, ((es.take i).flatMap En.cells)[j]? = some u → W.cell? ((Addr.mk g 0 none).add j) = some u := fun W o j u hj => by
    rw [flat_takeL en2] at hj
    have hj2 : j < i * 2 := by have := lt_of_get hj; rw [List.length_take] at this; omega
    rw [List.getElem?_take_of_lt hj2] at hj
    exact o.cell (all_ j u hj) (fun s => s)
  have hc2 : ∀ (W : World), Only none_ w W → ∀ j u, ((es.drop (i + 1)).flatMap En.cells)[j]? = some u → W.cell? ((Addr.mk g ((i + 1) * 2) none).add j) = some u := fun W o j u hj => by
    rw [flat_dropL en2, List.getElem?_drop] at hj
    have := all_ _ u hj
    rw [add8] at this
    rw [add8]
    refine o.cell ?_ (fun s => s)
    simpa using this
  have n1 : ((es.take i).flatMap En.cells).length = i * 2 := by rw [en_flat_len, List.length_take]; congr 1; omega
  have n2 : ((es.drop (i + 1)).flatMap En.cells).length = (es.length - (i + 1)) * 2 := by rw [en_flat_len, List.length_drop]
  have own0 : ((w.alloc (.cells #[] 83)).drew).ownsRow w.heap.size 83 2 (.slice (some ⟨w.heap.size, 0, none⟩) 0 0) 0 [] := by
    refine ⟨rfl, .inr ⟨w.heap.size, 0, #[], rfl, Nat.le_refl _, ?_, Nat.le_refl _, Nat.zero_le _, rfl, rfl⟩⟩
    exact Row.fresh w 83 #[]
  have O0 := ((Only.refl none_ w).alloc (.cells #[] 83)).drew
  have zO : w.heap.size ≤ ((w.alloc (.cells #[] 83)).drew).heap.size := O0.size
  have cq0 : w.drew.cell? ⟨q, 2, none⟩ = some (.slice (some ⟨g, 0, none⟩) es.length ca) := by show w.cell? _ = _; rw [R.out.cell]; rfl
  have cq1 : ((w.alloc (.cells #[] 83)).drew).cell? ⟨q, 2, none⟩ = some (.slice (some ⟨g, 0, none⟩) es.length ca) := O0.cell (show w.cell? _ = _ by rw [R.out.cell]; rfl) (fun s => s)
  have HC1 := Lib.hid hc1
  have HC2 := Lib.hid hc2
  have N1 := Lib.hid n1
  have N2 := Lib.hid n2
  have OW0 := Lib.hid own0
  have OO0 := Lib.hid O0
  clear hc1 hc2 n1 n2 own0 O0 all_
  by_cases hcc : ca = i + 1
  · subst hcc
    have xl : es.length = i + 1 := by omega
    have F := Lib.hid (show ∀ v2 w2, w2.ownsRow w.heap.size 83 2 v2 (0 + i + 0) ([] ++ (es.take i).flatMap En.cells ++ ([] : List En).flatMap En.cells) → Owns w2 w.heap.size 83 2 En.cells v2 (es.take i ++ es.drop (i + 1)) from fun v2 w2 h => by
      have D3 : es.drop (i + 1) = [] := List.drop_of_length_le (by omega)
      show World.ownsRow _ _ _ _ _ _ _
      rw [D3, List.flatMap_append, List.length_append, List.length_take]
      have e : min i es.length + ([] : List En).length = 0 + i + 0 := by simp; omega
      rw [e]
      simpa using h)
    have b5 : (i : Int) ≤ (i : Int) + 1 := by omega
    have N3 := Lib.hid (show (([] : List En).flatMap En.cells).length = 0 * 2 from rfl)
    go_enter Try.func50, Try.ntmps50
    go_wp2_with fail
    go_region_law (first
      | (refine step_append_mine8 rfl (.tmp 5) (.tmp 11) 50 rfl w.heap.size 83 i0 _ 2 16 Try.underlying50 I0.out I1.out I2.out I3.out rfl (by decide) _ 0 [] rfl OW0.out ⟨g, 0, none⟩ i (i + 1) _ rfl N1.out (HC1.out _ OO0.out) (en_cells_one _) (by unfold maxLen; omega) (by omega) zO ?_
         intro v1 w1 hown1 hgrow1
         have O1 := Lib.hid (OO0.out.trans (Only.of_grown hgrow1) (fun j hj q => by have q2 : some j = some w.heap.size := q; injection q2; omega))
         have OW1 := Lib.hid hown1
         have z1 : w.heap.size ≤ w1.heap.size := O1.out.size
         have cq2 : w1.cell? ⟨q, 2, none⟩ = some (.slice (some ⟨g, 0, none⟩) es.length (i + 1)) := O1.out.cell (show w.cell? _ = _ by rw [R.out.cell]; rfl) (fun s => s)
         clear hown1 hgrow1)
      | (refine step_append_mine8 rfl (.tmp 12) (.tmp 19) 50 rfl w.heap.size 83 i0 _ 2 16 Try.underlying50 I0.out I1.out I2.out I3.out rfl (by decide) _ (0 + i) _ rfl OW1.out ⟨g, 0, none⟩ 0 0 _ rfl N3.out (fun j u hj => by simp at hj) (en_cells_one _) (by unfold maxLen; omega) (by omega) z1 ?_
         intro v2 w2 hown2 hgrow2
         have O2 := Lib.hid (O1.out.trans (Only.of_grown hgrow2) (fun j hj q => by have := (World.ownsRow.lt OW1.out j q.symm).1; omega))
         have OW2 := Lib.hid (F.out _ _ hown2)
         obtain ⟨a2, n2, k2, rfl⟩ := own_form8 OW2.out
         have R2 := Lib.hid (O2.out.still R.out)
         have zz2 := R2.out.frozen
         have cq3 : w2.cell? ⟨q, 2, none⟩ = some (.slice (some ⟨g, 0, none⟩) es.length (i + 1)) := by rw [R2.out.cell]; rfl
         have lq2 := R2.out.lt
         clear hown2 hgrow2))
    all_goals
      go_wp2
      go_end0
      have OP := (Only.refl (fun k => k = q) w2).into rfl 2 (.slice a2 n2 k2)
      have KP := OW2.out.keep OP (fun g hg e => by have := (OW2.out.base_le hg).1; omega)
      exact ⟨rfl, ⟨⟨_, R2.out.put 2 _, OwnsEn.new KP LB.out⟩, LQ.out, fun g hg => LB.out g (by have := O2.out.size; simp [World.setCell] at hg; omega)⟩, O2.out.then_ OP⟩
  · have F := Lib.hid (show ∀ v2 w2, w2.ownsRow w.heap.size 83 2 v2 (0 + i + (es.length - (i + 1))) ([] ++ (es.take i).flatMap En.cells ++ (es.drop (i + 1)).flatMap En.cells) → Owns w2 w.heap.size 83 2 En.cells v2 (es.take i ++ es.drop (i + 1)) from fun v2 w2 h => by
      show World.ownsRow _ _ _ _ _ _ _
      rw [List.flatMap_append, List.length_append, List.length_take, List.length_drop]
      have e : min i es.length + (es.length - (i + 1)) = 0 + i + (es.length - (i + 1)) := by omega
      rw [e]
      simpa using h)
    go_enter Try.func50, Try.ntmps50
    go_wp2_with fail
    go_region_law (first
      | (refine step_append_mine8 rfl (.tmp 5) (.tmp 11) 50 rfl w.heap.size 83 i0 _ 2 16 Try.underlying50 I0.out I1.out I2.out I3.out rfl (by decide) _ 0 [] rfl OW0.out ⟨g, 0, none⟩ i ca _ rfl N1.out (HC1.out _ OO0.out) (en_cells_one _) (by unfold maxLen; omega) (by omega) zO ?_
         intro v1 w1 hown1 hgrow1
         have O1 := Lib.hid (OO0.out.trans (Only.of_grown hgrow1) (fun j hj q => by have q2 : some j = some w.heap.size := q; injection q2; omega))
         have OW1 := Lib.hid hown1
         have z1 : w.heap.size ≤ w1.heap.size := O1.out.size
         have cq2 : w1.cell? ⟨q, 2, none⟩ = some (.slice (some ⟨g, 0, none⟩) es.length ca) := O1.out.cell (show w.cell? _ = _ by rw [R.out.cell]; rfl) (fun s => s)
         clear hown1 hgrow1)
      | (refine step_append_mine8 rfl (.tmp 12) (.tmp 19) 50 rfl w.heap.size 83 i0 _ 2 16 Try.underlying50 I0.out I1.out I2.out I3.out rfl (by decide) _ (0 + i) _ rfl OW1.out ⟨g, (i + 1) * 2, none⟩ (es.length - (i + 1)) (ca - (i + 1)) _ rfl N2.out (HC2.out _ O1.out) (en_cells_one _) (by unfold maxLen; omega) (by omega) z1 ?_
         intro v2 w2 hown2 hgrow2
         have O2 := Lib.hid (O1.out.trans (Only.of_grown hgrow2) (fun j hj q => by have := (World.ownsRow.lt OW1.out j q.symm).1; omega))
         have OW2 := Lib.hid (F.out _ _ hown2)
         obtain ⟨a2, n2, k2, rfl⟩ := own_form8 OW2.out
         have R2 := Lib.hid (O2.out.still R.out)
         have zz2 := R2.out.frozen
         have cq3 : w2.cell? ⟨q, 2, none⟩ = some (.slice (some ⟨g, 0, none⟩) es.length ca) := by rw [R2.out.cell]; rfl
         have lq2 := R2.out.lt
         clear hown2 hgrow2))
    all_goals
      go_wp2
      go_end0
      have OP := (Only.refl (fun k => k = q) w2).into rfl 2 (.slice a2 n2 k2)
      have KP := OW2.out.keep OP (fun g hg e => by have := (OW2.out.base_le hg).1; omega)
      exact ⟨rfl, ⟨⟨_, R2.out.put 2 _, OwnsEn.new KP LB.out⟩, LQ.out, fun g hg => LB.out g (by have := O2.out.size; simp [World.setCell] at hg; omega)⟩, O2.out.then_ OP⟩
end Go.Proofs.Ytfmmmiiohaaegaa
