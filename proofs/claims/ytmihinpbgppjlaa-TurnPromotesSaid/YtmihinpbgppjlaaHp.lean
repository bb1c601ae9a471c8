/- A heap of places in memory: how its methods are reached through an interface. -/
import Derived.Test.YtmihinpbgppjlaaQu
import Derived.Shelf.Lay
namespace Go.Proofs.Ytmihinpbgppjlaa
open Go.RowKit
set_option linter.unusedVariables false

theorem m_push (a : Addr) (w : World) : (method 198 67 (.pointer (some a)) "Push").run Try.prog w = .ok (67, .pointer (some a)) w := by kernel_rfl
theorem m_pop (a : Addr) (w : World) : (method 198 67 (.pointer (some a)) "Pop").run Try.prog w = .ok (66, .pointer (some a)) w := by kernel_rfl
theorem meth_info (name : String) (f : Nat) (h : (Try.prog.info? 67).map (fun i => (i.methods.find? (·.name == name)).map (fun m => (m.path, m.func))) = some (some (#[], some (f, false)))) {c : Nat} {v : Value} {w : World} (hc : w.cell? ⟨c, 0, none⟩ = some v) :
    (method 198 67 (.pointer (some ⟨c, 0, none⟩)) name).run Try.prog w = .ok (f, v) w := by
  obtain ⟨I, hI, h2⟩ := Option.map_eq_some_iff.1 h
  obtain ⟨m, hm, h3⟩ := Option.map_eq_some_iff.1 h2
  injection h3 with h3 h4
  show (method (197 + 1) _ _ _).run _ _ = _
  unfold method
  have hw : ∀ (t : TypeId) (x y : Value) (w : World), (∃ s m, x = .string s ∧ y = .string m) → (Builtin.ssaWrapNilChk_ #[t] t #[.pointer (some ⟨c, 0, none⟩), x, y]).run Try.prog w = .ok (.pointer (some ⟨c, 0, none⟩)) w := by
    rintro t x y w ⟨s, m, rfl, rfl⟩
    rfl
  simp [run_typeInfo w hI, hm, h3, h4, follow, receiverAt, Place.get, run_underlying Try.underlying67, loadVar, hc, Try.isAgg65, strVal, hw, asAddr]
theorem m_len {c : Nat} {v : Value} {w : World} (hc : w.cell? ⟨c, 0, none⟩ = some v) : (method 198 67 (.pointer (some ⟨c, 0, none⟩)) "Len").run Try.prog w = .ok (33, v) w := meth_info _ _ (by kernel_rfl) hc
theorem m_less {c : Nat} {v : Value} {w : World} (hc : w.cell? ⟨c, 0, none⟩ = some v) : (method 198 67 (.pointer (some ⟨c, 0, none⟩)) "Less").run Try.prog w = .ok (64, v) w := meth_info _ _ (by kernel_rfl) hc
theorem m_swap {c : Nat} {v : Value} {w : World} (hc : w.cell? ⟨c, 0, none⟩ = some v) : (method 198 67 (.pointer (some ⟨c, 0, none⟩)) "Swap").run Try.prog w = .ok (65, v) w := meth_info _ _ (by kernel_rfl) hc
theorem e_len (args : Array Value) (w : World) : (callFunc 33 args).run Try.prog w = .ok (.enter 33 args) w := enters_of Try.func33 (by kernel_rfl) rfl args w
theorem e_less (args : Array Value) (w : World) : (callFunc 64 args).run Try.prog w = .ok (.enter 64 args) w := enters_of Try.func64 (by kernel_rfl) rfl args w
theorem e_swap (args : Array Value) (w : World) : (callFunc 65 args).run Try.prog w = .ok (.enter 65 args) w := enters_of Try.func65 (by kernel_rfl) rfl args w
theorem e_push (args : Array Value) (w : World) : (callFunc 67 args).run Try.prog w = .ok (.enter 67 args) w := enters_of Try.func67 (by kernel_rfl) rfl args w
theorem e_pop (args : Array Value) (w : World) : (callFunc 66 args).run Try.prog w = .ok (.enter 66 args) w := enters_of Try.func66 (by kernel_rfl) rfl args w

/-- turns that can be told apart -/
def InB (d : List Pl) : Prop := ∀ p ∈ d, 0 ≤ p.n ∧ p.n < 1000000000
theorem InB.perm {d e : List Pl} (h : InB d) (p : e.Perm d) : InB e := fun x hx => h x (p.mem_iff.1 hx)
theorem Qu.cellv {w : World} {c base : Nat} {v : Value} {d : List Pl} (h : Qu w c base v d) : w.cell? ⟨c, 0, none⟩ = some v := by rw [h.row.cell]; rfl
theorem Qu.keep {w w' : World} {c base : Nat} {v : Value} {d : List Pl} (h : Qu w c base v d) {S : Nat → Prop} (o : Only S w w') (h1 : ¬ S c) (h2 : ∀ g, v.ownBlock = some g → ¬ S g) : Qu w' c base v d := ⟨o.row h.row h1, Owns.keep h.own o h2, h.low⟩
theorem Qu.still {w w' : World} {c base : Nat} {v : Value} {d : List Pl} (h : Qu w c base v d) (o : Only none_ w w') : Qu w' c base v d := h.keep o (fun s => s) (fun _ _ s => s)
/-- its row alone has turned -/
theorem Qu.rowed {w w' : World} {c base : Nat} {v : Value} {d e : List Pl} (h : Qu w c base v d) (o : Only (fun k => some k = v.ownBlock) w w') (ho : OwnsPl w' base v e) : Qu w' c base v e := ⟨o.row h.row h.ne, ho, h.low⟩

def Upped (w : World) (c base : Nat) (v : Value) (d : List Pl) (e : Ending) (w' : World) : Prop := e = .returned (.tuple #[]) ∧ ∃ d', d'.Perm d ∧ Heaped (fv d') d'.length ∧ Qu w' c base v d' ∧ Only (quB c v) w w'
set_option maxHeartbeats 1000000 in
theorem up_any {w : World} {c base : Nat} {v : Value} {d : List Pl} {j : Nat} (h : Qu w c base v d) (hj : j < d.length) (hu : UpOk (fv d) d.length j) (hb : InB d) (hl : d.length ≤ 1000) :
    Calls Try.prog 44 #[.iface 67 (.pointer (some ⟨c, 0, none⟩)), .int .i64 j] w (Upped w c base v d) := by
  have H := Lib.hid h
  have HU := Lib.hid hu
  have HB := Lib.hid hb
  have HJ := Lib.hid hj
  clear h hu hb hj
  go_enter Try.func44, Try.ntmps44
  go_wp2_with fail
  go_loopw [1] (fun i wr => ∃ (k : Nat) (f : List Pl), i = .int .i64 k ∧ k < f.length ∧ f.Perm d ∧ UpOk (fv f) f.length k ∧ Qu wr c base v f ∧ Only (quB c v) w wr) (fun i _ => (intOf i).toNat)
  case atStart => exact ⟨j, d, rfl, HJ.out, List.Perm.refl _, HU.out, H.out, Only.refl _ _⟩
  case round =>
    obtain ⟨k, f, rfl, hk, hp, hu, hq, ho⟩ := hrel
    have mL := m_less hq.cellv
    have eL := e_less
    have eS := e_swap
    have len := hp.length_eq
    by_cases k0 : k = 0
    · subst k0
      have HQ := Lib.hid hq
      clear hq
      go_wp2_with fail
      go_end0
      exact ⟨rfl, f, hp, up_stop hu (.inl rfl), HQ.out, ho⟩
    · obtain ⟨q, hqq⟩ : ∃ q, (k - 1) / 2 = q := ⟨_, rfl⟩
      have hqk : q < k := by omega
      obtain ⟨x, hx⟩ : ∃ x, f[k]? = some x := ⟨_, List.getElem?_eq_getElem hk⟩
      obtain ⟨y, hy⟩ : ∃ y, f[q]? = some y := ⟨_, List.getElem?_eq_getElem (by omega)⟩
      have LT := Lib.hid (lt_kv ((HB.out.perm hp) x (List.mem_of_getElem? hx)) ((HB.out.perm hp) y (List.mem_of_getElem? hy)))
      have QL := Lib.hid (qless_any hq.own hx hy (by omega))
      have HQ := Lib.hid hq
      have t1 : wrap64 (((k : Int) - 1).tdiv 2) = (q : Int) := by
        rw [Int.tdiv_eq_ediv_of_nonneg (by omega)]
        unfold wrap64
        omega
      have t2 : ((q : Int) == (k : Int)) = false := by simp; omega
      have t3 : ((k : Int) - 1).tdiv 2 = (q : Int) := by
        rw [Int.tdiv_eq_ediv_of_nonneg (by omega)]
        omega
      have t4 : ((q == k) : Bool) = false := by simp; omega
      clear hq
      cases hlt : ltP x y with
      | false =>
        rw [hlt] at QL LT
        have HS := Lib.hid (up_stop hu (.inr (by rw [hqq, fv_at hx, fv_at hy]; have := LT.out; simpa using this.symm)))
        clear hu LT hlt
        go_wp2_with fail
        (with_reducible refine (QL.out).mono ?_)
        rintro e w1 ⟨rfl, o1⟩
        have O1 := Lib.hid o1
        clear o1
        go_wp2_with fail
        go_end0
        exact ⟨rfl, f, hp, HS.out, HQ.out.still O1.out, ho.idle O1.out⟩
      | true =>
        rw [hlt] at QL LT
        have HS := Lib.hid (up_go hu (by omega) hk (by rw [hqq, fv_at hx, fv_at hy]; have := LT.out; simpa using this.symm))
        rw [hqq] at HS
        clear hu LT hlt
        go_wp2_with fail
        (with_reducible refine (QL.out).mono ?_)
        rintro e w1 ⟨rfl, o1⟩
        have O1 := Lib.hid (ho.idle o1)
        have Q1 := Lib.hid (HQ.out.still o1)
        have mS := m_swap Q1.out.cellv
        have QS := Lib.hid (qswap_any Q1.out.own hy hx (by omega))
        clear o1 mL
        go_wp2_with fail
        (with_reducible refine (QS.out).mono ?_)
        rintro e w2 ⟨rfl, o2, o3⟩
        have Q2 := Lib.hid (Q1.out.rowed o3 o2)
        have O2 := Lib.hid (O1.out.same (o3.more (fun _ _ q => Or.inr q)))
        clear o2 o3
        have FV := Lib.hid (fv_swp hy hx)
        go_wp2_with fail
        go_roundw
        case rel => exact ⟨q, swp f q k y x, rfl, by rw [swp_len]; omega, (swp_perm hy hx).trans hp, by rw [swp_len, FV.out]; exact HS.out, Q2.out, O2.out⟩
        case measure => simp [intOf]; omega
end Go.Proofs.Ytmihinpbgppjlaa
