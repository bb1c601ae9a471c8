/- The document's own lanes: a ticket is pulled. -/
import Derived.Test.YtjeiaialnanemaaRlPush
import Derived.Deep.RegionLaw
namespace Go.Proofs.Ytjeiaialnanemaa
open Go.RowKit
set_option linter.unusedVariables false

/-- append to a slice of the call's own, as one step of a region that draws -/
theorem step_append_mine8 {P : Program} {ops : Array Oper} {o : Oper} {a : Act} {w : World} {K : Act → World → Prop} {Q : Exit → Act → World → Prop} {E : Prop}
    (hg : o.guard = none) (s x : Operand) (t : TypeId) (hop : o.op = Op.call { callee := Callee.builtin Builtin.append, args := #[s, x], argTypes := #[t, t] })
    (base : Nat) (e : TypeId) (i : TypeInfo) (z : Value) (size bytes : Nat) (h1 : P.underlying t = some (.slice e)) (h2 : P.info? e = some i) (h3 : i.zero = some z) (h4 : i.size = size) (h5 : i.bytes = bytes) (h6 : z.cells.size = size) (h7 : 0 < size)
    (v : Value) (k : Nat) (xs : List Value) (hs : a.eval s = v) (hown : w.ownsRow base e size v k xs)
    (ad : Addr) (m c : Nat) (news : List Value) (hx : a.eval x = .slice (some ad) m c) (hn : news.length = m * size) (hc : ∀ j u, news[j]? = some u → w.cell? (ad.add j) = some u) (h1c : ∀ u ∈ news, u.oneCell' = true)
    (b1 : k + m ≤ maxLen) (b2 : (k + m) * bytes ≤ 140737488355328) (b3 : base ≤ w.heap.size)
    (hK : ∀ v' w', w'.ownsRow base e size v' (k + m) (xs ++ news) → w.grownBy w' v.ownBlock → K (a.put o.dst v') w') :
    if Region.wanted o (yielded ops a.tmps) = true then Oper.wp P o a w K Q else E := by
  have hw : Region.wanted o (yielded ops a.tmps) = true := by simp [Region.wanted, hg]
  rw [if_pos hw]
  obtain ⟨v', w', hrun, r1, r2, _⟩ := run_append_own (P := P) w base t o.type e i z size bytes h1 h2 h3 h4 h5 h6 h7 v k xs hown ad m c news hn hc h1c b1 b2 b3
  unfold Oper.wp
  simp [execOp, hop, resolve, invoke, builtin, hs, hx, hrun, Result.andThen]
  exact hK v' w' r1 r2

theorem flat_takeL {α : Type} {c : α → List Value} {k : Nat} (hk : ∀ a, (c a).length = k) : ∀ (l : List α) (i : Nat), (l.take i).flatMap c = (l.flatMap c).take (i * k) := by
  intro l
  induction l with
  | nil => intro i; simp
  | cons x l ih =>
    intro i
    cases i with
    | zero => simp
    | succ i =>
      rw [List.take_succ_cons, List.flatMap_cons, List.flatMap_cons, ih, show (i + 1) * k = (c x).length + i * k by rw [hk, Nat.succ_mul, Nat.add_comm], List.take_length_add_append]
theorem flat_dropL {α : Type} {c : α → List Value} {k : Nat} (hk : ∀ a, (c a).length = k) : ∀ (l : List α) (i : Nat), (l.drop i).flatMap c = (l.flatMap c).drop (i * k) := by
  intro l
  induction l with
  | nil => intro i; simp
  | cons x l ih =>
    intro i
    cases i with
    | zero => simp
    | succ i =>
      rw [List.drop_succ_cons, List.flatMap_cons, ih, show (i + 1) * k = (c x).length + i * k by rw [hk, Nat.succ_mul, Nat.add_comm], List.drop_append]
      simp

def pullTo (q : Nat) (M : Nat → Prop) (n room : Nat) (ss : List Sd) (x : Int) (w : World) (e : Ending) (w' : World) : Prop := e = .returned (.tuple #[.int .i64 (blockI ss x), .int .i64 (pullC ss x)]) ∧ RLto w q M n room (pullS ss x) w'
set_option maxRecDepth 100000 in
set_option maxHeartbeats 4000000 in
theorem pull11_any {q : Nat} {v : Value} {M : Nat → Prop} {n room : Nat} {ss : List Sd} (x : Int) (w : World) (h : RL w q v M n room ss) (hl : ss.length ≤ 1000) :
    Calls Try.prog 15 #[.pointer (some ⟨q, 0, none⟩), .int .i64 x] w (pullTo q M n room ss x w) := by
  have AT := Lib.hid (at11_any x w h hl)
  have H := Lib.hid h
  cases hk : tkAt ss x with
  | none =>
    have TI := Lib.hid (show tkI ss x = -1 ∧ blockI ss x = 0 ∧ pullC ss x = 3 ∧ pullS ss x = ss from by unfold tkI blockI pullC pullS; rw [hk]; simp)
    clear hk h
    go_enter Try.func15, Try.ntmps15
    go_wp2_with fail
    (with_reducible refine AT.out.mono ?_)
    rintro e w' ⟨rfl, rfl⟩
    rw [TI.out.1]
    go_wp2_with fail
    go_ret2
    exact ⟨by rw [TI.out.2.1, TI.out.2.2.1]; rfl, by rw [TI.out.2.2.2]; exact H.out.to (Only.refl _ _)⟩
  | some i =>
    obtain ⟨s, hs, _⟩ := tk_of hk
    have hi := lt_of_get hs
    have TI := Lib.hid (show tkI ss x = i ∧ blockI ss x = s.b ∧ pullC ss x = 0 ∧ pullS ss x = ss.take i ++ ss.drop (i + 1) from by unfold tkI blockI pullC pullS; rw [hk]; simp [hs])
    have dn : decide ((i : Int) < 0) = false := by simp
    rcases h.own.1.2 with ⟨hv, hz⟩ | ⟨g, ca, cur, hv, _, hh, hca, hmx, _⟩
    · rw [List.eq_nil_of_length_eq_zero hz] at hi; cases hi
    subst hv
    have c0 : w.cell? ⟨g, i * 2, none⟩ = some (.int .i64 s.b) := by
      have := Owns.cell h.own.1 sd2 hs (j := 0) (by decide)
      rw [Nat.add_zero] at this
      rw [this]; rfl
    have s2 : w.cell? ⟨q, 2, none⟩ = some (.slice (some ⟨g, 0, none⟩) ss.length ca) := by rw [h.row.cell]; rfl
    have R := Lib.hid h.row
    have lq := h.row.lt
    have all_ : ∀ j u, (ss.flatMap Sd.cells)[j]? = some u → w.cell? ((Addr.mk g 0 none).add j) = some u := World.ownsRow.cells h.own.1 (g := g) rfl
    clear h hk hs hh
    obtain ⟨i0, hi0, hz0, hz1, hz2⟩ := info_parts info_sd
    have I0 := Lib.hid hi0
    have I1 := Lib.hid hz0
    have I2 := Lib.hid hz1
    have I3 := Lib.hid hz2
    clear hi0 hz0 hz1 hz2
    have B1 := Lib.hid (show 0 + i ≤ maxLen from by unfold maxLen; omega)
    have B2 := Lib.hid (show (0 + i) * 16 ≤ 140737488355328 from by omega)
    have B3 := Lib.hid (show 0 + i + (ss.length - (i + 1)) ≤ maxLen from by unfold maxLen; omega)
    have B4 := Lib.hid (show (0 + i + (ss.length - (i + 1))) * 16 ≤ 140737488355328 from by omega)
    have HW2 := Lib.hid (show IntKind.i64.wrap ((i : Int) + 1) = (i : Int) + 1 from by rw [IntKind.wrap_i64]; omega)
    have HW3 := Lib.hid (show wrap64 ((i : Int) + 1) = (i : Int) + 1 from by unfold wrap64; omega)
    have b1 : i ≤ ca := by omega
    have b2 : (i : Int) + 1 ≤ (ss.length : Int) := by omega
    have b3 : i + 1 ≤ ss.length := by omega
    have b4 : (0 : Int) ≤ (i : Int) + 1 := by omega
    have HC1 := Lib.hid (show ∀ (W : World), Only none_ w W → ∀ j u, ((ss.take i).flatMap Sd.cells)[j]? = some u → W.cell? ((Addr.mk g 0 none).add j) = some u from fun W o j u hj => by
      rw [flat_takeL sd2] at hj
      have hj2 : j < i * 2 := by have := lt_of_get hj; rw [List.length_take] at this; omega
      rw [List.getElem?_take_of_lt hj2] at hj
      exact o.cell (all_ j u hj) (fun s => s))
    have HC2 := Lib.hid (show ∀ (W : World), Only none_ w W → ∀ j u, ((ss.drop (i + 1)).flatMap Sd.cells)[j]? = some u → W.cell? ((Addr.mk g ((i + 1) * 2) none).add j) = some u from fun W o j u hj => by
      rw [flat_dropL sd2, List.getElem?_drop] at hj
      have := all_ _ u hj
      rw [add11] at this
      rw [add11]
      refine o.cell ?_ (fun s => s)
      simpa using this)
    have N1 := Lib.hid (show ((ss.take i).flatMap Sd.cells).length = i * 2 from by rw [sd_flat_len, List.length_take]; congr 1; omega)
    have N2 := Lib.hid (show ((ss.drop (i + 1)).flatMap Sd.cells).length = (ss.length - (i + 1)) * 2 from by rw [sd_flat_len, List.length_drop])
    have OW0 := Lib.hid (show ((w.alloc (.cells #[] 60)).drew).ownsRow w.heap.size 60 2 (.slice (some ⟨w.heap.size, 0, none⟩) 0 0) 0 [] from ⟨rfl, .inr ⟨w.heap.size, 0, #[], rfl, Nat.le_refl _, Row.fresh w 60 #[], Nat.le_refl _, Nat.zero_le _, rfl, rfl⟩⟩)
    have OO0 := Lib.hid (((Only.refl none_ w).alloc (.cells #[] 60)).drew)
    have zO : w.heap.size ≤ ((w.alloc (.cells #[] 60)).drew).heap.size := OO0.out.size
    have cq0 : w.drew.cell? ⟨q, 2, none⟩ = some (.slice (some ⟨g, 0, none⟩) ss.length ca) := by show w.cell? _ = _; rw [R.out.cell]; rfl
    have cq1 : ((w.alloc (.cells #[] 60)).drew).cell? ⟨q, 2, none⟩ = some (.slice (some ⟨g, 0, none⟩) ss.length ca) := OO0.out.cell (show w.cell? _ = _ by rw [R.out.cell]; rfl) (fun s => s)
    clear all_
    by_cases hcc : ca = i + 1
    · subst hcc
      have xl : ss.length = i + 1 := by omega
      have F := Lib.hid (show ∀ v2 w2, w2.ownsRow w.heap.size 60 2 v2 (0 + i + (ss.length - (i + 1))) ([] ++ (ss.take i).flatMap Sd.cells ++ ([] : List Sd).flatMap Sd.cells) → Owns w2 w.heap.size 60 2 Sd.cells v2 (ss.take i ++ ss.drop (i + 1)) from fun v2 w2 h => by
        have D3 : ss.drop (i + 1) = [] := List.drop_of_length_le (by omega)
        show World.ownsRow _ _ _ _ _ _ _
        rw [D3, List.flatMap_append, List.length_append, List.length_take]
        have e : min i ss.length + ([] : List Sd).length = 0 + i + (ss.length - (i + 1)) := by simp; omega
        rw [e]
        simpa using h)
      have b5 : (i : Int) ≤ (i : Int) + 1 := by omega
      have N3 := Lib.hid (show (([] : List Sd).flatMap Sd.cells).length = (ss.length - (i + 1)) * 2 from by rw [xl]; simp)
      clear xl
      go_enter Try.func15, Try.ntmps15
      go_wp2_with fail
      (with_reducible refine AT.out.mono ?_)
      rintro e w' ⟨rfl, rfl⟩
      rw [TI.out.1]
      go_wp2_with fail
      clear hl hca hmx
      have hw2 := HW2.out
      have hw3 := HW3.out
      go_region_law (first
        | (refine step_append_mine8 rfl (.tmp 22) (.tmp 28) 39 rfl w.heap.size 60 i0 _ 2 16 Try.underlying39 I0.out I1.out I2.out I3.out rfl (by decide) _ 0 [] rfl OW0.out ⟨g, 0, none⟩ i (i + 1) _ rfl N1.out (HC1.out _ OO0.out) (sd_cells_one _) B1.out B2.out zO ?_
           intro v1 w1 hown1 hgrow1
           have O1 := Lib.hid (OO0.out.trans (Only.of_grown hgrow1) (fun j hj q => by have q2 : some j = some w.heap.size := q; injection q2; omega))
           have OW1 := Lib.hid hown1
           have z1 : w.heap.size ≤ w1.heap.size := O1.out.size
           have cq2 : w1.cell? ⟨q, 2, none⟩ = some (.slice (some ⟨g, 0, none⟩) ss.length (i + 1)) := O1.out.cell (show w.cell? _ = _ by rw [R.out.cell]; rfl) (fun s => s)
           clear hown1 hgrow1)
        | (refine step_append_mine8 rfl (.tmp 29) (.tmp 36) 39 rfl w.heap.size 60 i0 _ 2 16 Try.underlying39 I0.out I1.out I2.out I3.out rfl (by decide) _ (0 + i) _ rfl OW1.out ⟨g, 0, none⟩ (ss.length - (i + 1)) 0 _ rfl N3.out (fun j u hj => by simp at hj) (sd_cells_one _) B3.out B4.out z1 ?_
           intro v2 w2 hown2 hgrow2
           have O2 := Lib.hid (O1.out.trans (Only.of_grown hgrow2) (fun j hj q => by have := (World.ownsRow.lt OW1.out j q.symm).1; omega))
           have OW2 := Lib.hid (F.out _ _ hown2)
           obtain ⟨a2, n2, k2, rfl⟩ := own_form11 OW2.out
           have R2 := Lib.hid (O2.out.still R.out)
           have zz2 := R2.out.frozen
           have cq3 : w2.cell? ⟨q, 2, none⟩ = some (.slice (some ⟨g, 0, none⟩) ss.length (i + 1)) := by rw [R2.out.cell]; rfl
           have lq2 := R2.out.lt
           clear hown2 hgrow2)
        | fail)
      all_goals
        go_wp2_with fail
        go_ret2
        exact ⟨by rw [TI.out.2.1, TI.out.2.2.1]; rfl, by rw [TI.out.2.2.2]; exact H.out.other O2.out OW2.out⟩
    · have F := Lib.hid (show ∀ v2 w2, w2.ownsRow w.heap.size 60 2 v2 (0 + i + (ss.length - (i + 1))) ([] ++ (ss.take i).flatMap Sd.cells ++ (ss.drop (i + 1)).flatMap Sd.cells) → Owns w2 w.heap.size 60 2 Sd.cells v2 (ss.take i ++ ss.drop (i + 1)) from fun v2 w2 h => by
        show World.ownsRow _ _ _ _ _ _ _
        rw [List.flatMap_append, List.length_append, List.length_take, List.length_drop]
        have e : min i ss.length + (ss.length - (i + 1)) = 0 + i + (ss.length - (i + 1)) := by omega
        rw [e]
        simpa using h)
      go_enter Try.func15, Try.ntmps15
      go_wp2_with fail
      (with_reducible refine AT.out.mono ?_)
      rintro e w' ⟨rfl, rfl⟩
      rw [TI.out.1]
      go_wp2_with fail
      clear hl hca hmx
      have hw2 := HW2.out
      have hw3 := HW3.out
      go_region_law (first
        | (refine step_append_mine8 rfl (.tmp 22) (.tmp 28) 39 rfl w.heap.size 60 i0 _ 2 16 Try.underlying39 I0.out I1.out I2.out I3.out rfl (by decide) _ 0 [] rfl OW0.out ⟨g, 0, none⟩ i ca _ rfl N1.out (HC1.out _ OO0.out) (sd_cells_one _) B1.out B2.out zO ?_
           intro v1 w1 hown1 hgrow1
           have O1 := Lib.hid (OO0.out.trans (Only.of_grown hgrow1) (fun j hj q => by have q2 : some j = some w.heap.size := q; injection q2; omega))
           have OW1 := Lib.hid hown1
           have z1 : w.heap.size ≤ w1.heap.size := O1.out.size
           have cq2 : w1.cell? ⟨q, 2, none⟩ = some (.slice (some ⟨g, 0, none⟩) ss.length ca) := O1.out.cell (show w.cell? _ = _ by rw [R.out.cell]; rfl) (fun s => s)
           clear hown1 hgrow1)
        | (refine step_append_mine8 rfl (.tmp 29) (.tmp 36) 39 rfl w.heap.size 60 i0 _ 2 16 Try.underlying39 I0.out I1.out I2.out I3.out rfl (by decide) _ (0 + i) _ rfl OW1.out ⟨g, (i + 1) * 2, none⟩ (ss.length - (i + 1)) (ca - (i + 1)) _ rfl N2.out (HC2.out _ O1.out) (sd_cells_one _) B3.out B4.out z1 ?_
           intro v2 w2 hown2 hgrow2
           have O2 := Lib.hid (O1.out.trans (Only.of_grown hgrow2) (fun j hj q => by have := (World.ownsRow.lt OW1.out j q.symm).1; omega))
           have OW2 := Lib.hid (F.out _ _ hown2)
           obtain ⟨a2, n2, k2, rfl⟩ := own_form11 OW2.out
           have R2 := Lib.hid (O2.out.still R.out)
           have zz2 := R2.out.frozen
           have cq3 : w2.cell? ⟨q, 2, none⟩ = some (.slice (some ⟨g, 0, none⟩) ss.length ca) := by rw [R2.out.cell]; rfl
           have lq2 := R2.out.lt
           clear hown2 hgrow2)
        | fail)
      all_goals
        go_wp2_with fail
        go_ret2
        exact ⟨by rw [TI.out.2.1, TI.out.2.2.1]; rfl, by rw [TI.out.2.2.2]; exact H.out.other O2.out OW2.out⟩
end Go.Proofs.Ytjeiaialnanemaa
