/- A heap of places in memory: the first comes out. -/
import Derived.Test.YtmihinpbgppjlaaHdown
namespace Go.Proofs.Ytmihinpbgppjlaa
open Go.RowKit
set_option linter.unusedVariables false

def Popped (w : World) (c base : Nat) (v : Value) (d : List Pl) (x : Pl) (e : Ending) (w' : World) : Prop :=
  e = .returned (.iface 59 x.val) ∧ ∃ v' d', (d' ++ [x]).Perm d ∧ Heaped (fv d') d'.length ∧ Qu w' c base v' d' ∧ Only (quB c v) w w'
theorem list_last {f : List Pl} {n : Nat} {x : Pl} (hl : f.length = n + 1) (hx : f[n]? = some x) : f = f.take n ++ [x] := by
  have h1 : f = f.take n ++ f.drop n := (List.take_append_drop n f).symm
  have h2 : f.drop n = [x] := by
    rw [List.drop_eq_getElem_cons (by omega), List.drop_of_length_le (by omega)]
    rw [List.getElem?_eq_getElem (by omega)] at hx
    rw [Option.some.inj hx]
  rw [h2] at h1
  exact h1
set_option maxHeartbeats 2000000 in
theorem hpop_any {w : World} {c base n : Nat} {v : Value} {d : List Pl} {x : Pl} (h : Qu w c base v d) (hl : d.length = n + 1) (hx : d[0]? = some x) (hh : Heaped (fv d) d.length) (hb : InB d) (hn : n < 1000) :
    Calls Try.prog 34 #[.iface 67 (.pointer (some ⟨c, 0, none⟩))] w (Popped w c base v d x) := by
  have eL := e_len
  have eS := e_swap
  have eP := e_pop
  have mL := m_len h.cellv
  have mS := m_swap h.cellv
  have QL := Lib.hid (qlen_any h.own)
  obtain ⟨y, hy⟩ : ∃ y, d[n]? = some y := ⟨_, List.getElem?_eq_getElem (by omega)⟩
  have QS := Lib.hid (show Calls Try.prog 65 #[v, .int .i64 0, .int .i64 n] w _ from qswap_any (i := 0) h.own hx hy (by omega))
  rw [hl] at QL
  have H := Lib.hid h
  have P1 := Lib.hid (swp_perm hx hy)
  have L1 := Lib.hid (show (swp d 0 n x y).length = n + 1 by rw [swp_len, hl])
  have A1 := Lib.hid (show (swp d 0 n x y)[n]? = some x by rw [swp_at hx hy, if_pos rfl])
  have D1 := Lib.hid (show DownOk (fv (swp d 0 n x y)) n 0 from heaped_root (f := fv d) (by rw [← hl]; exact hh) (fun i h1 h2 => by unfold fv; rw [swp_at hx hy, if_neg (by omega), if_neg (by omega)]))
  have HB := Lib.hid (hb.perm P1.out)
  have hwi : IntKind.i64.wrap ((n + 1 : Nat) - 1 : Int) = (n : Int) := by rw [IntKind.wrap_i64]; omega
  clear h hl hx hy hh hb
  go_enter Try.func34, Try.ntmps34
  go_wp2_with fail
  (with_reducible refine QL.out.mono ?_)
  rintro e w' ⟨rfl, rfl⟩
  go_wp2_with fail
  (with_reducible refine QS.out.mono ?_)
  rintro e w1 ⟨rfl, o2, o3⟩
  have Q1 := Lib.hid (H.out.rowed o3 o2)
  have O1 := Lib.hid (show Only (quB c v) w w1 from o3.more (fun _ _ q => Or.inr q))
  have DN := Lib.hid (down_any Q1.out (by have := L1.out; omega) D1.out HB.out (by have := L1.out; omega))
  clear o2 o3 mL mS QL QS
  go_wp2_with fail
  (with_reducible refine DN.out.mono ?_)
  rintro e w2 ⟨⟨b, rfl⟩, f, hp, hh, hm, h2, o2⟩
  have lf : f.length = n + 1 := by rw [hp.length_eq]; exact L1.out
  have fx : f[n]? = some x := by rw [hm n (Nat.le_refl _)]; exact A1.out
  have EF := Lib.hid (list_last lf fx)
  have tl : (f.take n).length = n := by rw [List.length_take]; omega
  have HP := Lib.hid (hp.trans P1.out)
  have HH := Lib.hid (heaped_less hh (Nat.le_refl _) (g := fv (f.take n)) (fun i hi => by unfold fv; rw [List.getElem?_take_of_lt hi]))
  have O2 := Lib.hid (O1.out.same o2)
  have QP := Lib.hid (qpop_any (d := f.take n) (p := x) (by rw [← EF.out]; exact h2) (by omega))
  have mP := show (method 198 67 (.pointer (some ⟨c, 0, none⟩)) "Pop").run Try.prog w2 = .ok (66, .pointer (some ⟨c, 0, none⟩)) w2 from m_pop _ w2
  have TL := Lib.hid tl
  clear hp hh hm h2 o2 lf fx tl
  generalize hv : x.val = pv at *
  go_wp2_with fail
  (with_reducible refine QP.out.mono ?_)
  rintro e w3 ⟨rfl, ⟨v3, h3⟩, o3⟩
  have H3 := Lib.hid h3
  have O3 := Lib.hid o3
  clear h3 o3
  go_wp2_with fail
  go_ret
  exact ⟨by rw [hv]; rfl, v3, f.take n, by rw [← EF.out]; exact HP.out, by rw [TL.out]; exact HH.out, H3.out, O2.out.same O3.out⟩
end Go.Proofs.Ytmihinpbgppjlaa
