/- What the document's own table answers: Keys. -/
import Derived.Test.YtajphhalneaihaaRxDel
namespace Go.Proofs.Ytajphhalneaihaa
open Go.RowKit
set_option linter.unusedVariables false

/-- the last key of the first m; -1, if there is none -/
def lastOf (L : List Int) (m : Nat) : Int := if m = 0 then -1 else L.getD (m - 1) 0
/-- of the places ahead of k that of the least key above last; or -1 -/
def Best (ps : List Pl) (last : Int) (k : Nat) (b : Int) : Prop :=
  (b = -1 ∧ ∀ j, j < k → (Go.Proofs.Ytajphhalneaihaa.at_ ps j).taken = true → ¬ last < (Go.Proofs.Ytajphhalneaihaa.at_ ps j).key) ∨
  (∃ q : Nat, b = q ∧ q < k ∧ (Go.Proofs.Ytajphhalneaihaa.at_ ps q).taken = true ∧ last < (Go.Proofs.Ytajphhalneaihaa.at_ ps q).key ∧ ∀ j, j < k → (Go.Proofs.Ytajphhalneaihaa.at_ ps j).taken = true → last < (Go.Proofs.Ytajphhalneaihaa.at_ ps j).key → (Go.Proofs.Ytajphhalneaihaa.at_ ps q).key ≤ (Go.Proofs.Ytajphhalneaihaa.at_ ps j).key)
theorem Best.start (ps : List Pl) (last : Int) : Best ps last 0 (-1) := .inl ⟨rfl, fun j hj => by omega⟩
theorem Best.skip {ps : List Pl} {last : Int} {k : Nat} {b : Int} (h : Best ps last k b) (hn : (Go.Proofs.Ytajphhalneaihaa.at_ ps k).taken = true → ¬ last < (Go.Proofs.Ytajphhalneaihaa.at_ ps k).key) : Best ps last (k + 1) b := by
  rcases h with ⟨e, h⟩ | ⟨q, e, hq, t, l, h⟩
  · refine .inl ⟨e, fun j hj tj => ?_⟩
    rcases Nat.lt_or_ge j k with d | d
    · exact h j d tj
    · obtain rfl : j = k := by omega
      exact hn tj
  · refine .inr ⟨q, e, by omega, t, l, fun j hj tj lj => ?_⟩
    rcases Nat.lt_or_ge j k with d | d
    · exact h j d tj lj
    · obtain rfl : j = k := by omega
      exact absurd lj (hn tj)
theorem Best.first {ps : List Pl} {last : Int} {k : Nat} (h : Best ps last k (-1)) (t : (Go.Proofs.Ytajphhalneaihaa.at_ ps k).taken = true) (l : last < (Go.Proofs.Ytajphhalneaihaa.at_ ps k).key) : Best ps last (k + 1) k := by
  rcases h with ⟨_, h⟩ | ⟨q, e, _⟩
  · refine .inr ⟨k, rfl, by omega, t, l, fun j hj tj lj => ?_⟩
    rcases Nat.lt_or_ge j k with d | d
    · exact absurd lj (h j d tj)
    · obtain rfl : j = k := by omega
      exact Int.le_refl _
  · omega
theorem Best.less {ps : List Pl} {last : Int} {k q : Nat} (h : Best ps last k q) (t : (Go.Proofs.Ytajphhalneaihaa.at_ ps k).taken = true) (l : last < (Go.Proofs.Ytajphhalneaihaa.at_ ps k).key) (c : (Go.Proofs.Ytajphhalneaihaa.at_ ps k).key < (Go.Proofs.Ytajphhalneaihaa.at_ ps q).key) : Best ps last (k + 1) k := by
  rcases h with ⟨e, _⟩ | ⟨q', e, hq, tq, lq, h⟩
  · omega
  · obtain rfl : q = q' := by omega
    refine .inr ⟨k, rfl, by omega, t, l, fun j hj tj lj => ?_⟩
    rcases Nat.lt_or_ge j k with d | d
    · have := h j d tj lj; omega
    · obtain rfl : j = k := by omega
      exact Int.le_refl _
theorem Best.more {ps : List Pl} {last : Int} {k q : Nat} (h : Best ps last k q) (c : ¬ (Go.Proofs.Ytajphhalneaihaa.at_ ps k).key < (Go.Proofs.Ytajphhalneaihaa.at_ ps q).key) : Best ps last (k + 1) q := by
  rcases h with ⟨e, _⟩ | ⟨q', e, hq, tq, lq, h⟩
  · omega
  · obtain rfl : q = q' := by omega
    refine .inr ⟨q, rfl, by omega, tq, lq, fun j hj tj lj => ?_⟩
    rcases Nat.lt_or_ge j k with d | d
    · exact h j d tj lj
    · obtain rfl : j = k := by omega
      omega
theorem Best.at_ {ps : List Pl} {last : Int} {k : Nat} {b : Int} (h : Best ps last k b) : b = -1 ∨ ∃ q : Nat, b = q ∧ q < k ∧ (Go.Proofs.Ytajphhalneaihaa.at_ ps q).taken = true := by
  rcases h with ⟨e, _⟩ | ⟨q, e, hq, tq, _⟩
  · exact .inl e
  · exact .inr ⟨q, e, hq, tq⟩
theorem keys_nonneg {ps : List Pl} (g : Good ps) {x : Int} (h : x ∈ keysP ps) : 0 ≤ x := by
  obtain ⟨n, hn⟩ := keys_mem.1 h
  obtain ⟨i, hi, e⟩ := mem_at.1 hn
  have := g.right i hi (by rw [e])
  rw [e] at this
  exact this.1
theorem Best.next {ps : List Pl} (g : Good ps) {m : Nat} (hm : m < (keysP ps).length) {b : Int} (h : Best ps (lastOf (keysP ps) m) ps.length b) : ∃ q : Nat, b = q ∧ q < ps.length ∧ (Go.Proofs.Ytajphhalneaihaa.at_ ps q).taken = true ∧ (keysP ps)[m]? = some (Go.Proofs.Ytajphhalneaihaa.at_ ps q).key := by
  have ri := keys_rise g
  rw [List.pairwise_iff_getElem] at ri
  obtain ⟨x, hx⟩ : ∃ x, (keysP ps)[m]? = some x := ⟨_, List.getElem?_eq_getElem hm⟩
  have ex := (List.getElem?_eq_some_iff.1 hx).2
  have lx : lastOf (keysP ps) m < x := by
    unfold lastOf
    split
    · have := keys_nonneg g (List.mem_of_getElem? hx); omega
    · have := ri (m - 1) m (by omega) hm (by omega)
      rw [List.getD_eq_getElem?_getD, List.getElem?_eq_getElem (show m - 1 < (keysP ps).length by omega)]
      simp only [Option.getD_some]
      omega
  obtain ⟨n, hn⟩ := keys_mem.1 (List.mem_of_getElem? hx)
  obtain ⟨i, hi, ei⟩ := mem_at.1 hn
  rcases h with ⟨_, h⟩ | ⟨q, e, hq, tq, lq, h⟩
  · exact absurd lx (by have := h i hi (by rw [ei]); rwa [ei] at this)
  · refine ⟨q, e, hq, tq, ?_⟩
    have le := h i hi (by rw [ei]) (by rw [ei]; exact lx)
    rw [ei] at le
    simp only at le
    have mq : (Go.Proofs.Ytajphhalneaihaa.at_ ps q).key ∈ keysP ps := keys_mem.2 ⟨(Go.Proofs.Ytajphhalneaihaa.at_ ps q).n, by
      have e2 : Go.Proofs.Ytajphhalneaihaa.at_ ps q = ⟨true, (Go.Proofs.Ytajphhalneaihaa.at_ ps q).key, (Go.Proofs.Ytajphhalneaihaa.at_ ps q).n⟩ := by
        generalize Go.Proofs.Ytajphhalneaihaa.at_ ps q = z at *
        obtain ⟨a, b, c⟩ := z
        simp only at tq ⊢
        rw [tq]
      rw [← e2]
      exact at_mem hq⟩
    obtain ⟨t, ht, et⟩ := List.getElem_of_mem mq
    have : t = m := by
      rcases Nat.lt_trichotomy t m with d | d | d
      · exfalso
        unfold lastOf at lq
        rw [if_neg (by omega), List.getD_eq_getElem?_getD, List.getElem?_eq_getElem (show m - 1 < (keysP ps).length by omega)] at lq
        simp only [Option.getD_some] at lq
        rcases Nat.lt_or_ge t (m - 1) with c | c
        · have := ri t (m - 1) ht (by omega) c
          omega
        · obtain rfl : t = m - 1 := by omega
          omega
      · exact d
      · have := ri m t hm ht d
        omega
    subst this
    rw [hx, ← et, ex]
theorem lastOf_more {L : List Int} {m : Nat} {x : Int} (h : L[m]? = some x) : lastOf L (m + 1) = x := by
  unfold lastOf
  rw [if_neg (by omega), List.getD_eq_getElem?_getD, show m + 1 - 1 = m by omega, h]
  rfl

set_option maxHeartbeats 8000000 in
theorem rkeys_any (p a b c : Nat) (ps : List Pl) (w : World) (h : Ref w p a b c ps) (g : Good ps) :
    Calls Try.prog 22 #[.pointer (some ⟨p, 0, none⟩)] w fun e w' => ∃ v, e = .returned v ∧ OwnsInts w' w.heap.size v (keysP ps) ∧ Only none_ w w' := by
  obtain ⟨ks, ns, h⟩ := h
  obtain ⟨n2, n256⟩ := h.few
  obtain ⟨i0, hi0, hz0, hz1, hz2⟩ := info_parts info_int8
  have H := Lib.hid h
  have G := Lib.hid g
  have I0 := Lib.hid hi0
  have I1 := Lib.hid hz0
  have I2 := Lib.hid hz1
  have I3 := Lib.hid hz2
  have LK := Lib.hid (keys_len ps)
  have cl := cnt_le ps
  clear h g hi0 hz0 hz1 hz2
  go_enter Try.func22, Try.ntmps22
  go_wp2_with fail
  go_loopw [3, 4, 5, 6] (fun v l _ _ wr => ∃ m : Nat, m ≤ (keysP ps).length ∧ l = .int .i64 (lastOf (keysP ps) m) ∧ OwnsInts wr w.heap.size v ((keysP ps).take m) ∧ Only none_ w wr ∧ ∃ A cap, v = .slice A m cap) (fun v _ _ _ _ => (keysP ps).length - (match v with | .slice _ n _ => n | _ => 0))
  case atStart => exact ⟨0, Nat.zero_le _, rfl, Owns.start _ _ _ _ _, Only.refl _ _, none, 0, rfl⟩
  case round =>
    obtain ⟨m, hm, rfl, hv, ho, A, cap, rfl⟩ := hrel
    have V := Lib.hid hv
    have O := Lib.hid ho
    have HX := Lib.hid (H.out.still ho)
    have LA := Lib.hid (rlen_any p a b c ps ks ns wr HX.out)
    have TL := Lib.hid (show ((keysP ps).take m).length = m by rw [List.length_take]; omega)
    have m256 : m ≤ 256 := by have := LK.out; omega
    clear hv ho
    by_cases hlt : m < cnt ps
    · have t1 : (m : Int) < (cnt ps : Nat) := by omega
      go_wp2_with fail
      (with_reducible refine (LA.out).mono ?_)
      rintro e w' ⟨rfl, rfl⟩
      go_wp2_with fail
      have LE := Lib.hid (rfl : lastOf (keysP ps) m = lastOf (keysP ps) m)
      obtain ⟨last, hlast⟩ : ∃ x, lastOf (keysP ps) m = x := ⟨_, rfl⟩
      have LS := Lib.hid hlast
      rw [hlast]
      clear hlast LE
      go_loopw [5, 6] (fun bv iv wr => ∃ (k : Nat) (bst : Int), k ≤ ps.length ∧ iv = .int .i64 k ∧ bv = .int .i64 bst ∧ Best ps last k bst ∧ Only none_ w wr ∧ OwnsInts wr w.heap.size (.slice A m cap) ((keysP ps).take m)) (fun _ iv _ => ps.length - (intOf iv).toNat)
      case atStart => exact ⟨0, -1, Nat.zero_le _, rfl, rfl, Best.start _ _, O.out, V.out⟩
      case round =>
        obtain ⟨k, bst, hk, rfl, rfl, hb, ho, hv⟩ := hrel
        clear HX O V LA
        have O := Lib.hid ho
        have V := Lib.hid hv
        have BE := Lib.hid hb
        have HX := Lib.hid (H.out.still ho)
        clear ho hv hb
        have h0 := HX.out.h0
        have h1 := HX.out.h1
        by_cases hk2 : k < ps.length
        · have c0 := HX.out.is_ hk2
          have c1 := HX.out.k_ hk2
          have k1 : (k : Int) < (ps.length : Int) := by omega
          by_cases tk : (Go.Proofs.Ytajphhalneaihaa.at_ ps k).taken = true
          · rw [tk] at c0
            rw [(HX.out.same k hk2 tk).1] at c1
            by_cases lk : last < (Go.Proofs.Ytajphhalneaihaa.at_ ps k).key
            · have s1 : decide (last < (Go.Proofs.Ytajphhalneaihaa.at_ ps k).key) = true := by simpa using lk
              rcases BE.out.at_ with rfl | ⟨q, rfl, hq, tq⟩
              · have BN := Lib.hid (BE.out.first tk lk)
                clear tk lk
                generalize (Go.Proofs.Ytajphhalneaihaa.at_ ps k).key = kk at *
                go_wp2_with fail
                go_quiet (fail)
                go_wp2_with fail
                go_roundw
                case rel => exact ⟨k + 1, k, by omega, by go_num, rfl, BN.out, O.out.drewN _, V.out.still ((Only.refl _ _).drewN _)⟩
                case measure => simp [intOf]; omega
              · have c2 := HX.out.k_ (show q < ps.length by omega)
                rw [(HX.out.same q (by omega) tq).1] at c2
                have s2 : decide ((q : Int) < 0) = false := by simp
                by_cases le : (Go.Proofs.Ytajphhalneaihaa.at_ ps k).key < (Go.Proofs.Ytajphhalneaihaa.at_ ps q).key
                · have s3 : decide ((Go.Proofs.Ytajphhalneaihaa.at_ ps k).key < (Go.Proofs.Ytajphhalneaihaa.at_ ps q).key) = true := by simpa using le
                  have BN := Lib.hid (BE.out.less tk lk le)
                  clear tk lk tq le
                  generalize (Go.Proofs.Ytajphhalneaihaa.at_ ps k).key = kk at *
                  generalize (Go.Proofs.Ytajphhalneaihaa.at_ ps q).key = kq at *
                  go_wp2_with fail
                  go_quiet (fail)
                  go_wp2_with fail
                  go_roundw
                  case rel => exact ⟨k + 1, k, by omega, by go_num, rfl, BN.out, O.out.drewN _, V.out.still ((Only.refl _ _).drewN _)⟩
                  case measure => simp [intOf]; omega
                · have s3 : decide ((Go.Proofs.Ytajphhalneaihaa.at_ ps k).key < (Go.Proofs.Ytajphhalneaihaa.at_ ps q).key) = false := by simpa using le
                  have BN := Lib.hid (BE.out.more le)
                  clear tk lk tq le
                  generalize (Go.Proofs.Ytajphhalneaihaa.at_ ps k).key = kk at *
                  generalize (Go.Proofs.Ytajphhalneaihaa.at_ ps q).key = kq at *
                  go_wp2_with fail
                  go_quiet (fail)
                  go_wp2_with fail
                  go_roundw
                  case rel => exact ⟨k + 1, q, by omega, by go_num, rfl, BN.out, O.out.drewN _, V.out.still ((Only.refl _ _).drewN _)⟩
                  case measure => simp [intOf]; omega
            · have s1 : decide (last < (Go.Proofs.Ytajphhalneaihaa.at_ ps k).key) = false := by simpa using lk
              have BN := Lib.hid (BE.out.skip (fun _ => lk))
              clear tk lk
              generalize (Go.Proofs.Ytajphhalneaihaa.at_ ps k).key = kk at *
              go_wp2_with fail
              go_quiet (fail)
              go_wp2_with fail
              go_roundw
              case rel => exact ⟨k + 1, bst, by omega, by go_num, rfl, BN.out, O.out.drewN _, V.out.still ((Only.refl _ _).drewN _)⟩
              case measure => simp [intOf]; omega
          · have tf : (Go.Proofs.Ytajphhalneaihaa.at_ ps k).taken = false := by simpa using tk
            rw [tf] at c0
            have BN := Lib.hid (BE.out.skip (fun t => absurd t tk))
            clear tk tf
            go_wp2_with fail
            go_quiet (fail)
            go_wp2_with fail
            go_roundw
            case rel => exact ⟨k + 1, bst, by omega, by go_num, rfl, BN.out, O.out.drewN _, V.out.still ((Only.refl _ _).drewN _)⟩
            case measure => simp [intOf]; omega
        · have ek : k = ps.length := by omega
          have hge : ps.length ≤ k := by omega
          obtain ⟨q, rfl, hq, tq, hx⟩ := Best.next G.out (m := m) (b := bst) (by have := LK.out; omega) (by rw [LS.out, ← ek]; exact BE.out)
          have c2 := HX.out.k_ hq
          rw [(HX.out.same q hq tq).1] at c2
          have TM := Lib.hid (show (keysP ps).take (m + 1) = (keysP ps).take m ++ [(Go.Proofs.Ytajphhalneaihaa.at_ ps q).key] by rw [List.take_add_one, hx]; rfl)
          have LM := Lib.hid (lastOf_more hx)
          have ml := (List.getElem?_eq_some_iff.1 hx).1
          clear ek hx tq hk2
          generalize (Go.Proofs.Ytajphhalneaihaa.at_ ps q).key = x at *
          have RF := Lib.hid (Row.fresh wr 3 #[.int .i64 x])
          have OO := (Only.refl none_ wr).alloc (.cells #[.int .i64 x] 3)
          have V2 := V.out.still OO
          rw [show Value.slice A m cap = Value.slice A ((keysP ps).take m).length cap by rw [TL.out]] at V2
          rw [TL.out] at V2
          have V2 := Lib.hid V2
          have O2 := Lib.hid (O.out.idle OO)
          have sz : w.heap.size ≤ (wr.alloc (.cells #[.int .i64 x] 3)).heap.size := O2.out.size
          clear OO
          go_wp2_with (at_builtin; go_loud (refine wpList_append_one rfl (.tmp 68) (.tmp 70) 38 rfl (c := one) i0 _ 8 Try.underlying38 I0.out I1.out I2.out I3.out rfl (by decide) one1 one_one rfl V2.out (y := x) rfl RF.out (by rw [TL.out]; omega) (by rw [TL.out]; omega) sz ?_); intro v5 w5 hown5 hO5)
          rw [← TM.out] at hown5
          obtain ⟨g5, cap5, rfl, hg5, _⟩ := hown5.form (by rw [TM.out]; simp)
          have TL2 : ((keysP ps).take (m + 1)).length = m + 1 := by rw [List.length_take]; omega
          rw [TL2] at hown5
          have W5 := Lib.hid hown5
          have O5 := Lib.hid (O2.out.trans hO5 (fun i hi q => by omega))
          have TL3 := Lib.hid TL2
          rw [TL2]
          clear hown5 hO5 TL2
          go_wp2_with fail
          go_roundw
          case rel => exact ⟨m + 1, by omega, by rw [LM.out], W5.out, O5.out, _, _, rfl⟩
          case measure => simp; omega
    · have e : (keysP ps).take m = keysP ps := List.take_of_length_le (by have := LK.out; omega)
      have t1 : decide ((m : Int) < (cnt ps : Nat)) = false := by simp; omega
      have t2 : decide (m < cnt ps) = false := by simp; omega
      have VF := Lib.hid (show OwnsInts wr w.heap.size (.slice A m cap) (keysP ps) by rw [← e]; exact V.out)
      clear e hlt
      generalize cnt ps = cn at *
      go_wp2_with fail
      (with_reducible refine (LA.out).mono ?_)
      rintro e w' ⟨rfl, rfl⟩
      go_wp2_with fail
      go_ret
      exact ⟨_, rfl, VF.out, O.out⟩
end Go.Proofs.Ytajphhalneaihaa
