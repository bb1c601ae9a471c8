/- A heap of places in memory: one more comes in. -/
import Derived.Test.YtmihinpbgppjlaaHp
namespace Go.Proofs.Ytmihinpbgppjlaa
open Go.RowKit
set_option linter.unusedVariables false

def Pushed (w : World) (c base : Nat) (v : Value) (d : List Pl) (p : Pl) (e : Ending) (w' : World) : Prop :=
  e = .returned (.tuple #[]) ∧ ∃ v' d', d'.Perm (d ++ [p]) ∧ Heaped (fv d') d'.length ∧ Qu w' c base v' d' ∧ (∀ g, v'.ownBlock = some g → v.ownBlock = some g ∨ w.heap.size ≤ g) ∧ Only (quB c v) w w'
theorem fv_more {d : List Pl} {p : Pl} : ∀ i, i < d.length → fv (d ++ [p]) i = fv d i := fun i hi => by
  unfold fv
  rw [List.getElem?_append_left hi]
set_option maxHeartbeats 1000000 in
theorem hpush_any {w : World} {c base : Nat} {v : Value} {d : List Pl} (h : Qu w c base v d) (p : Pl) (hh : Heaped (fv d) d.length) (hb : InB (d ++ [p])) (hl : d.length < 1000) :
    Calls Try.prog 32 #[.iface 67 (.pointer (some ⟨c, 0, none⟩)), .iface 59 p.val] w (Pushed w c base v d p) := by
  have mP := show (method 198 67 (.pointer (some ⟨c, 0, none⟩)) "Push").run Try.prog w = .ok (67, .pointer (some ⟨c, 0, none⟩)) w from m_push _ w
  have eP := e_push
  have eL := e_len
  have QP := Lib.hid (qpush_any h p (by omega))
  have HU := Lib.hid (heaped_push hh (fun i hi => fv_more (p := p) i hi))
  have HB := Lib.hid hb
  have hl2 : (d ++ [p]).length = d.length + 1 := by simp
  have HL := Lib.hid hl2
  clear h hh hb
  generalize hv : p.val = pv at *
  go_enter Try.func32, Try.ntmps32
  go_wp2_with fail
  (with_reducible refine (QP.out).mono ?_)
  rintro e w1 ⟨rfl, ⟨v1, h1, l1⟩, o1⟩
  have H1 := Lib.hid h1
  have O1 := Lib.hid o1
  have L1 := Lib.hid l1
  have mL := m_len h1.cellv
  have QL := Lib.hid (qlen_any h1.own)
  rw [hl2] at QL
  have UP := Lib.hid (up_any (j := d.length) h1 (by omega) (by rw [hl2]; exact HU.out) HB.out (by omega))
  have hwi : IntKind.i64.wrap ((d.length + 1 : Nat) - 1 : Int) = (d.length : Int) := by rw [IntKind.wrap_i64]; omega
  obtain ⟨n, hn⟩ : ∃ n, d.length = n := ⟨_, rfl⟩
  rw [hn] at QL UP hwi hl
  clear h1 o1 l1 QP mP HL hl2 hn
  go_wp2_with fail
  (with_reducible refine QL.out.mono ?_)
  rintro e w' ⟨rfl, rfl⟩
  go_wp2_with fail
  (with_reducible refine UP.out.mono ?_)
  rintro e w2 ⟨rfl, d2, p2, hh2, h2, o2⟩
  have O2 := Lib.hid o2
  have H2 := Lib.hid h2
  clear o2 h2
  go_wp2_with fail
  go_end0
  exact ⟨rfl, v1, d2, p2, hh2, H2.out, L1.out, O1.out.trans O2.out (fun i hi q => by
    rcases q with q | q
    · exact .inl q
    · rcases L1.out i q.symm with k | k
      · exact .inr k.symm
      · omega)⟩
end Go.Proofs.Ytmihinpbgppjlaa
