/- The document's own turns: a row without a place; rows that lie elsewhere. -/
import Derived.Test.YtmihinpbgppjlaaRtRead
namespace Go.Proofs.Ytmihinpbgppjlaa
open Go.RowKit
set_option linter.unusedVariables false

/-- the document's own turns, their rows told one by one -/
structure RtL (w : World) (q : Nat) (v1 v2 : Value) (M : Nat → Prop) (nd na : Nat) (l1 l2 : List Sl) : Prop where
  row : Row w q 40 #[v1, v2, .int .i64 nd, .int .i64 na]
  od : OwnsSl w 0 v1 l1
  oa : OwnsSl w 0 v2 l2
  apart : ∀ g, v1.ownBlock = some g → v2.ownBlock ≠ some g
  mq : M q
  m1 : ∀ g, v1.ownBlock = some g → M g
  m2 : ∀ g, v2.ownBlock = some g → M g
  lt : ∀ g, M g → g < w.heap.size
theorem RtAt.l {w : World} {q : Nat} {v1 v2 : Value} {M : Nat → Prop} {nd na : Nat} {ss : List Sl} (h : RtAt w q v1 v2 M nd na ss) : RtL w q v1 v2 M nd na (rowL false ss) (rowL true ss) := ⟨h.row, h.od, h.oa, h.apart, h.mq, h.m1, h.m2, h.lt⟩
theorem RtL.at_ {w : World} {q : Nat} {v1 v2 : Value} {M : Nat → Prop} {nd na : Nat} {l1 l2 : List Sl} {ss : List Sl} (h : RtL w q v1 v2 M nd na l1 l2) (o : OnceL ss) (e1 : rowL false ss = l1) (e2 : rowL true ss = l2) : RtAt w q v1 v2 M nd na ss := by
  subst e1 e2
  exact ⟨h.row, h.od, h.oa, h.apart, o, h.mq, h.m1, h.m2, h.lt⟩
theorem RtL.keep {w w' : World} {q : Nat} {v1 v2 : Value} {M : Nat → Prop} {nd na : Nat} {l1 l2 : List Sl} (h : RtL w q v1 v2 M nd na l1 l2) {S : Nat → Prop} (o : Only S w w') (hn : ∀ g, M g → ¬ S g) : RtL w' q v1 v2 M nd na l1 l2 :=
  ⟨o.row h.row (hn q h.mq), Owns.keep h.od o (fun g hg => hn g (h.m1 g hg)), Owns.keep h.oa o (fun g hg => hn g (h.m2 g hg)), h.apart, h.mq, h.m1, h.m2, fun g hg => Nat.lt_of_lt_of_le (h.lt g hg) o.size⟩
theorem RtL.still {w w' : World} {q : Nat} {v1 v2 : Value} {M : Nat → Prop} {nd na : Nat} {l1 l2 : List Sl} (h : RtL w q v1 v2 M nd na l1 l2) (o : Only none_ w w') : RtL w' q v1 v2 M nd na l1 l2 := h.keep o (fun _ _ s => s)
def RtLTo (w : World) (q : Nat) (M : Nat → Prop) (nd na : Nat) (l1 l2 : List Sl) (w' : World) : Prop := (∃ v1 v2, ∃ M' : Nat → Prop, RtL w' q v1 v2 M' nd na l1 l2 ∧ ∀ g, M' g → M g ∨ w.heap.size ≤ g) ∧ Only M w w'
theorem RtLTo.at_ {w w' : World} {q : Nat} {M : Nat → Prop} {nd na : Nat} {l1 l2 : List Sl} {ss : List Sl} (h : RtLTo w q M nd na l1 l2 w') (o : OnceL ss) (e1 : rowL false ss = l1) (e2 : rowL true ss = l2) : RtTo w q M nd na ss w' := by
  obtain ⟨⟨v1, v2, M', h, hm⟩, ho⟩ := h
  exact ⟨⟨v1, v2, M', h.at_ o e1 e2, hm⟩, ho⟩
/-- the demands lie elsewhere -/
theorem RtL.one {w w' : World} {q : Nat} {v1 v2 v' : Value} {M : Nat → Prop} {nd na : Nat} {l1 l2 l : List Sl} (h : RtL w q v1 v2 M nd na l1 l2) (o : Only none_ w w') (ho : OwnsSl w' w.heap.size v' l) :
    RtLTo w q M nd na l l2 (w'.setCell ⟨q, 0, none⟩ v') := by
  have o2 := (Only.refl (fun k => k = q) w').into rfl 0 v'
  have ql := h.row.lt
  have zz := o.size
  have ng : ∀ g, v'.ownBlock = some g → ¬ g = q := fun g hg k => by have := (Owns.base_le ho hg).1; omega
  have n2 : ∀ g, v2.ownBlock = some g → ¬ g = q := fun g hg k => own_row h.oa h.row (by decide) (by rw [← k, hg])
  refine ⟨⟨v', v2, fun j => M j ∨ (w.heap.size ≤ j ∧ j < w'.heap.size), ⟨(o.still h.row).put 0 v', Owns.lower (Owns.keep ho o2 ng) (Nat.zero_le _), Owns.keep (Owns.still h.oa o) o2 n2, fun g hg hg2 => ?_, .inl h.mq, fun g hg => .inr (Owns.base_le ho hg), fun g hg => .inl (h.m2 g hg), fun g hg => ?_⟩, fun g hg => hg.imp id (·.1)⟩, o.then_ (o2.more (fun i _ k => by rw [k]; exact h.mq))⟩
  · have a1 := (Owns.base_le ho hg).1
    have a2 := (Owns.base_le h.oa hg2).2
    omega
  · simp only [World.setCell]
    have := o2.size
    rcases hg with hg | hg
    · exact Nat.lt_of_lt_of_le (Nat.lt_of_lt_of_le (h.lt g hg) zz) this
    · exact Nat.lt_of_lt_of_le hg.2 this
/-- what is ahead lies elsewhere -/
theorem RtL.two {w w' : World} {q : Nat} {v1 v2 v' : Value} {M : Nat → Prop} {nd na : Nat} {l1 l2 l : List Sl} (h : RtL w q v1 v2 M nd na l1 l2) (o : Only none_ w w') (ho : OwnsSl w' w.heap.size v' l) :
    RtLTo w q M nd na l1 l (w'.setCell ⟨q, 1, none⟩ v') := by
  have o2 := (Only.refl (fun k => k = q) w').into rfl 1 v'
  have ql := h.row.lt
  have zz := o.size
  have ng : ∀ g, v'.ownBlock = some g → ¬ g = q := fun g hg k => by have := (Owns.base_le ho hg).1; omega
  have n1 : ∀ g, v1.ownBlock = some g → ¬ g = q := fun g hg k => own_row h.od h.row (by decide) (by rw [← k, hg])
  refine ⟨⟨v1, v', fun j => M j ∨ (w.heap.size ≤ j ∧ j < w'.heap.size), ⟨(o.still h.row).put 1 v', Owns.keep (Owns.still h.od o) o2 n1, Owns.lower (Owns.keep ho o2 ng) (Nat.zero_le _), fun g hg hg2 => ?_, .inl h.mq, fun g hg => .inl (h.m1 g hg), fun g hg => .inr (Owns.base_le ho hg), fun g hg => ?_⟩, fun g hg => hg.imp id (·.1)⟩, o.then_ (o2.more (fun i _ k => by rw [k]; exact h.mq))⟩
  · have a1 := (Owns.base_le ho hg2).1
    have a2 := (Owns.base_le h.od hg).2
    omega
  · simp only [World.setCell]
    have := o2.size
    rcases hg with hg | hg
    · exact Nat.lt_of_lt_of_le (Nat.lt_of_lt_of_le (h.lt g hg) zz) this
    · exact Nat.lt_of_lt_of_le hg.2 this

theorem flat_takeL {α : Type} {c : α → List Value} {k : Nat} (hk : ∀ a, (c a).length = k) : ∀ (l : List α) (i : Nat), (l.take i).flatMap c = (l.flatMap c).take (i * k) := by
  intro l
  induction l with
  | nil => intro i; simp
  | cons x l ih =>
    intro i
    cases i with
    | zero => simp
    | succ i =>
      rw [List.take_succ_cons, List.flatMap_cons, List.flatMap_cons, ih, show (i + 1) * k = (c x).length + i * k by rw [hk, Nat.succ_mul, Nat.add_comm], List.take_length_add_append]
theorem flat_dropL {α : Type} {c : α → List Value} {k : Nat} (hk : ∀ a, (c a).length = k) : ∀ (l : List α) (i : Nat), (l.drop i).flatMap c = (l.flatMap c).drop (i * k) := by
  intro l
  induction l with
  | nil => intro i; simp
  | cons x l ih =>
    intro i
    cases i with
    | zero => simp
    | succ i =>
      rw [List.drop_succ_cons, List.flatMap_cons, ih, show (i + 1) * k = (c x).length + i * k by rw [hk, Nat.succ_mul, Nat.add_comm], List.drop_append]
      simp
def Without (l : List Sl) (i : Nat) (w : World) (e : Ending) (w' : World) : Prop := ∃ v', e = .returned v' ∧ OwnsSl w' w.heap.size v' (l.take i ++ l.drop (i + 1)) ∧ Only none_ w w'
set_option maxRecDepth 100000 in
set_option maxHeartbeats 4000000 in
theorem rwithout_any {v : Value} {l : List Sl} {i : Nat} (w : World) (h : OwnsSl w 0 v l) (hi : i < l.length) (hl : l.length ≤ 1000) :
    Calls Try.prog 43 #[v, .int .i64 i] w (Without l i w) := by
  rcases h.2 with ⟨hv, hz⟩ | ⟨g, ca, cur, hv, _, hh, hca, hmx, _⟩
  · rw [List.eq_nil_of_length_eq_zero hz] at hi; cases hi
  subst hv
  have all_ : ∀ j u, (l.flatMap Sl.cells)[j]? = some u → w.cell? ((Addr.mk g 0 none).add j) = some u := World.ownsRow.cells h (g := g) rfl
  clear h hh
  obtain ⟨i0, hi0, hz0, hz1, hz2⟩ := info_parts info_sl
  have I0 := Lib.hid hi0
  have I1 := Lib.hid hz0
  have I2 := Lib.hid hz1
  have I3 := Lib.hid hz2
  clear hi0 hz0 hz1 hz2
  have B1 := Lib.hid (show 0 + i ≤ maxLen from by unfold maxLen; omega)
  have B2 := Lib.hid (show (0 + i) * 16 ≤ 140737488355328 from by omega)
  have B3 := Lib.hid (show 0 + i + (l.length - (i + 1)) ≤ maxLen from by unfold maxLen; omega)
  have B4 := Lib.hid (show (0 + i + (l.length - (i + 1))) * 16 ≤ 140737488355328 from by omega)
  have hw2 : IntKind.i64.wrap ((i : Int) + 1) = (i : Int) + 1 := by rw [IntKind.wrap_i64]; omega
  have hw3 : wrap64 ((i : Int) + 1) = (i : Int) + 1 := by unfold wrap64; omega
  have b1 : i ≤ ca := by omega
  have b2 : (i : Int) + 1 ≤ (l.length : Int) := by omega
  have b3 : i + 1 ≤ l.length := by omega
  have b4 : (0 : Int) ≤ (i : Int) + 1 := by omega
  have HC1 := Lib.hid (show ∀ (W : World), Only none_ w W → ∀ j u, ((l.take i).flatMap Sl.cells)[j]? = some u → W.cell? ((Addr.mk g 0 none).add j) = some u from fun W o j u hj => by
    rw [flat_takeL sl2] at hj
    have hj2 : j < i * 2 := by have := lt_of_get hj; rw [List.length_take] at this; omega
    rw [List.getElem?_take_of_lt hj2] at hj
    exact o.cell (all_ j u hj) (fun s => s))
  have HC2 := Lib.hid (show ∀ (W : World), Only none_ w W → ∀ j u, ((l.drop (i + 1)).flatMap Sl.cells)[j]? = some u → W.cell? ((Addr.mk g ((i + 1) * 2) none).add j) = some u from fun W o j u hj => by
    rw [flat_dropL sl2, List.getElem?_drop] at hj
    have := all_ _ u hj
    rw [add12] at this
    rw [add12]
    refine o.cell ?_ (fun s => s)
    simpa using this)
  have N1 := Lib.hid (show ((l.take i).flatMap Sl.cells).length = i * 2 from by rw [sl_flat_len, List.length_take]; congr 1; omega)
  have N2 := Lib.hid (show ((l.drop (i + 1)).flatMap Sl.cells).length = (l.length - (i + 1)) * 2 from by rw [sl_flat_len, List.length_drop])
  have OW0 := Lib.hid (show ((w.alloc (.cells #[] 63)).drew).ownsRow w.heap.size 63 2 (.slice (some ⟨w.heap.size, 0, none⟩) 0 0) 0 [] from ⟨rfl, .inr ⟨w.heap.size, 0, #[], rfl, Nat.le_refl _, Row.fresh w 63 #[], Nat.le_refl _, Nat.zero_le _, rfl, rfl⟩⟩)
  have OO0 := Lib.hid (((Only.refl none_ w).alloc (.cells #[] 63)).drew)
  have zO : w.heap.size ≤ ((w.alloc (.cells #[] 63)).drew).heap.size := OO0.out.size
  have F := Lib.hid (show ∀ v2 w2, w2.ownsRow w.heap.size 63 2 v2 (0 + i + (l.length - (i + 1))) ([] ++ (l.take i).flatMap Sl.cells ++ (l.drop (i + 1)).flatMap Sl.cells) → OwnsSl w2 w.heap.size v2 (l.take i ++ l.drop (i + 1)) from fun v2 w2 h => by
    show World.ownsRow _ _ _ _ _ _ _
    rw [List.flatMap_append, List.length_append, List.length_take, List.length_drop]
    have e : min i l.length + (l.length - (i + 1)) = 0 + i + (l.length - (i + 1)) := by omega
    rw [e]
    simpa using h)
  clear all_
  by_cases hcc : ca = i + 1
  · subst hcc
    have xl : l.length = i + 1 := by omega
    have b5 : (i : Int) ≤ (i : Int) + 1 := by omega
    have S2 := Lib.hid (show ∀ W : World, Src W (.slice (some ⟨g, 0, none⟩) (l.length - (i + 1)) 0) (l.length - (i + 1)) ((l.drop (i + 1)).flatMap Sl.cells) from fun W => .inr ⟨_, _, rfl, fun j u hj => by rw [List.drop_of_length_le (by omega)] at hj; simp at hj⟩)
    clear xl hca hmx
    go_enter Try.func43, Try.ntmps43
    go_wp2_with fail
    go_region_law (first
      | (refine step_append_src rfl (.tmp 5) (.tmp 8) 38 rfl w.heap.size 63 i0 _ 2 16 Try.underlying38 I0.out I1.out I2.out I3.out rfl (by decide) _ 0 [] rfl OW0.out _ i _ rfl (.inr ⟨⟨g, 0, none⟩, _, rfl, HC1.out _ OO0.out⟩) N1.out (sl_cells_one _) B1.out B2.out zO ?_
         intro v1 w1 hown1 hgrow1
         have O1 := Lib.hid (OO0.out.trans (Only.of_grown hgrow1) (fun j hj q => by have q2 : some j = some w.heap.size := q; injection q2; omega))
         have OW1 := Lib.hid hown1
         have z1 : w.heap.size ≤ w1.heap.size := O1.out.size
         clear hown1 hgrow1)
      | (refine step_append_src rfl (.tmp 9) (.tmp 13) 38 rfl w.heap.size 63 i0 _ 2 16 Try.underlying38 I0.out I1.out I2.out I3.out rfl (by decide) _ (0 + i) _ rfl OW1.out _ (l.length - (i + 1)) _ rfl (S2.out _) N2.out (sl_cells_one _) B3.out B4.out z1 ?_
         intro v2 w2 hown2 hgrow2
         have O2 := Lib.hid (O1.out.trans (Only.of_grown hgrow2) (fun j hj q => by have := (World.ownsRow.lt OW1.out j q.symm).1; omega))
         have OW2 := Lib.hid (F.out _ _ hown2)
         clear hown2 hgrow2)
      | fail)
    all_goals
      go_wp2_with fail
      go_ret
      exact ⟨v2, rfl, OW2.out, O2.out⟩
  · go_enter Try.func43, Try.ntmps43
    go_wp2_with fail
    go_region_law (first
      | (refine step_append_src rfl (.tmp 5) (.tmp 8) 38 rfl w.heap.size 63 i0 _ 2 16 Try.underlying38 I0.out I1.out I2.out I3.out rfl (by decide) _ 0 [] rfl OW0.out _ i _ rfl (.inr ⟨⟨g, 0, none⟩, _, rfl, HC1.out _ OO0.out⟩) N1.out (sl_cells_one _) B1.out B2.out zO ?_
         intro v1 w1 hown1 hgrow1
         have O1 := Lib.hid (OO0.out.trans (Only.of_grown hgrow1) (fun j hj q => by have q2 : some j = some w.heap.size := q; injection q2; omega))
         have OW1 := Lib.hid hown1
         have z1 : w.heap.size ≤ w1.heap.size := O1.out.size
         clear hown1 hgrow1)
      | (refine step_append_src rfl (.tmp 9) (.tmp 13) 38 rfl w.heap.size 63 i0 _ 2 16 Try.underlying38 I0.out I1.out I2.out I3.out rfl (by decide) _ (0 + i) _ rfl OW1.out _ (l.length - (i + 1)) _ rfl (.inr ⟨⟨g, (i + 1) * 2, none⟩, _, rfl, HC2.out _ O1.out⟩) N2.out (sl_cells_one _) B3.out B4.out z1 ?_
         intro v2 w2 hown2 hgrow2
         have O2 := Lib.hid (O1.out.trans (Only.of_grown hgrow2) (fun j hj q => by have := (World.ownsRow.lt OW1.out j q.symm).1; omega))
         have OW2 := Lib.hid (F.out _ _ hown2)
         clear hown2 hgrow2)
      | fail)
    all_goals
      go_wp2_with fail
      go_ret
      exact ⟨v2, rfl, OW2.out, O2.out⟩
end Go.Proofs.Ytmihinpbgppjlaa
