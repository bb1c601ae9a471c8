/- A pair of bytes by value, opened; what a hit changes: plain. -/
import Derived.Test.YtpmhpamajkhhiaaSafe7
import Derived.OpenShut
import Derived.Lib.SmallJoins
namespace Go.Proofs.Ytpmhpamajkhhiaa
open Go.RowKit Go.ChangeShapes Go.WideShapes
set_option linter.unusedVariables false

theorem cellsPair : Try.prog.cellsOf 54 = 2 := by kernel_rfl
theorem cellsB : Try.prog.cellsOf 5 = 1 := by kernel_rfl
set_option maxRecDepth 100000 in
theorem open_pair (W : World) (base : Nat) (H : Type) (enc : TypeId × Value → H) (v : Value) (d : DataW H) (p : List MemPlace) (o : Value.okWide Try.prog W .any base 54 v) (h : DataW.Trod enc Try.prog W 0 (fun _ => true) true 54 v d p) :
    ∃ a b : Int, v = .agg #[.int .u8 a, .int .u8 b] ∧ (Lit.int .u8 a).wf = true ∧ (Lit.int .u8 b).wf = true := by
  simp only [Value.okWide, Try.underlying54] at o
  obtain ⟨cs, rfl, hsz, _⟩ := o
  rw [cellsPair] at hsz
  obtain ⟨c0, c1, rfl⟩ := Joins.array2 hsz
  obtain ⟨fuel, hf⟩ := h
  simp only [Value.cells] at hf
  obtain ⟨xs, m, _, _, _, hl, hx⟩ := DataW.trod_array Try.underlying54 hf
  match xs, hl with
  | [y0, y1], _ =>
    have k0 := hx 0 (by omega)
    have k1 := hx 1 (by omega)
    simp [cellsB] at k0 k1
    obtain ⟨a, ea, _, wa⟩ := DataW.trod_int Try.underlying5 k0
    obtain ⟨b, eb, _, wb⟩ := DataW.trod_int Try.underlying5 k1
    simp only [List.cons.injEq, and_true] at ea eb
    subst ea; subst eb
    exact ⟨a, b, rfl, wa, wb⟩

/-- what a hit changes -/
theorem hit_front {c : Sc} (f : c.Fine) {j l : Nat} (hj : j < c.s.n) (hl : l < 2) (hi : c.s.lst j ≠ -1) :
    c.hitC j l = 0 ∧ (c.hitS j l).s = c.s.front l j ∧ (c.hitS j l).s.heldL = c.s.heldL ∧ (c.hitS j l).miss ≤ c.miss ∧ (c.hitS j l).hits ≤ c.hits + 1 := by
  have hL : hasL l = true := by unfold hasL; simp; omega
  have hN : hasN c.s.n j = true := by unfold hasN; simp; omega
  have e0 : c.hitC j l = 0 := by
    unfold Sc.hitC
    rw [hN, hL, Int.toNat_natCast, if_neg hi]
    rfl
  have e1 : c.hitS j l = (c.hitW j).use l j := by
    unfold Sc.hitS
    rw [if_pos e0, Int.toNat_natCast, Int.toNat_natCast]
  obtain ⟨_, s1, _⟩ := f.hitW j
  have es : (c.hitS j l).s = c.s.front l j := by rw [e1]; show (c.hitW j).s.front l j = _; rw [s1]
  have eh : (c.hitW j).miss ≤ c.miss ∧ (c.hitW j).hits ≤ c.hits + 1 := by
    unfold Sc.hitW
    split
    · unfold Sc.weigh
      split
      · exact ⟨Nat.div_le_self _ _, Nat.div_le_self _ _⟩
      · exact ⟨Nat.le_refl _, Nat.le_refl _⟩
    · exact ⟨Nat.le_refl _, Nat.le_succ _⟩
  refine ⟨e0, es, ?_, by rw [e1]; exact eh.1, by rw [e1]; exact eh.2⟩
  rw [es]
  unfold Sh.heldL
  rw [(front_nb c.s l j).1]
  apply List.filter_congr
  intro x _
  exact front_h c.s l j x
theorem hit_gone {c : Sc} {j l : Nat} (hj : j < c.s.n) (hl : l < 2) (hi : c.s.lst j = -1) : c.hitC j l = 3 ∧ findI (ints c.s.l0) j = -1 ∧ findI (ints c.s.l1) j = -1 := by
  have hL : hasL l = true := by unfold hasL; simp; omega
  have hN : hasN c.s.n j = true := by unfold hasN; simp; omega
  refine ⟨by unfold Sc.hitC; rw [hN, hL, Int.toNat_natCast, if_pos hi]; rfl, findI_no (fun q => ?_), findI_no (fun q => ?_)⟩
  · exact absurd hi (lst_ne.2 (.inl (mem_ints.1 q)))
  · exact absurd hi (lst_ne.2 (.inr (mem_ints.1 q)))
theorem wpList_append_frontN {P : Program} {w : World} {ops : Array Oper} {rest : List Oper} {o : Oper} {a : Act} {Q : Exit → Act → World → Prop} (hgd : o.guard = none) (s x : Operand) (t : TypeId)
    (ho : o.op = .call { callee := .builtin .append, args := #[s, x], argTypes := #[t, t] }) (i : TypeInfo) (z : Value) (ht : P.underlying t = some (.slice 3)) (hi : P.info? 3 = some i) (hz : i.zero = some z)
    (hsize : i.size = 1) (hby : i.bytes = 8) (hzs : z.cells.size = 1) {g0 : Nat} {k : Int} (hs : a.eval s = .slice (some ⟨g0, 0, none⟩) 1 1) (hr : Row w g0 3 #[.int .i64 k]) {g cap : Nat} {xs : List Int} (hx : a.eval x = .slice (some ⟨g, 0, none⟩) xs.length cap)
    (hc : ∀ j u, (xs.map (Value.int .i64))[j]? = some u → w.cell? ((Addr.mk g 0 none).add j) = some u) (hlen : xs.length ≤ 1000000)
    (h : ∀ v' w', OwnsInts w' g0 v' (k :: xs) → Only (fun j => g0 ≤ j) w w' → wpList P ops Q rest (a.put o.dst v') w') : wpList P ops Q (o :: rest) a w := by
  refine wpList_append_own w hgd s x t ho g0 3 i z 1 8 ht hi hz hsize hby hzs (by decide) (.slice (some ⟨g0, 0, none⟩) 1 1) 1 [.int .i64 k] hs (own_one (x := k) hr) ⟨g, 0, none⟩ xs.length cap (xs.map (Value.int .i64)) hx (by simp) hc ?_ (by unfold maxLen; omega) (by omega) (Nat.le_of_lt hr.lt) ?_
  · intro u hu
    obtain ⟨y, _, rfl⟩ := List.mem_map.1 hu
    rfl
  · intro v' w' h2 h3 _
    refine h v' w' (own_more h2) ((Only.of_grown h3).more (fun j _ e => ?_))
    have q2 : some j = some g0 := e
    injection q2 with q2
    omega
end Go.Proofs.Ytpmhpamajkhhiaa
