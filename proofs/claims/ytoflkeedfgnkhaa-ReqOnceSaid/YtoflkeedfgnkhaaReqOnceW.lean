/- The walk through ReqOnce's own text. -/
import Derived.WalkKit
import Derived.ProofKit
import Derived.OpenShut
import Derived.Below
import Derived.Test.YtoflkeedfgnkhaaArgs
import Derived.Test.YtoflkeedfgnkhaaAw17
import Derived.Test.YtoflkeedfgnkhaaPk17
import Derived.Deep.RegionHeld3
import Derived.Deep.Cut
import Derived.Deep.CutRange
import Derived.Deep.CutBlock
import Derived.Deep.DeepCutAuto
namespace Go.Proofs.Ytoflkeedfgnkhaa.reqOnce
open Go.ChangeShapes Go.WideShapes Go.ChangeAt Go.RowKit
set_option linter.unusedVariables false


set_option maxHeartbeats 4000000 in
set_option maxRecDepth 100000 in
theorem walk (w : World) (ad0 : Option Addr) (len0 cap0 : Nat) (xs0 : List Act1) (max0 : len0 ≤ maxLen) (el0 : xs0.length = len0) (hold0 : Holds w ad0 5 Act1.cells xs0) (wf0 : ∀ x ∈ xs0, wfA x) :
    Calls Try.prog 4 #[.slice ad0 len0 cap0] w fun e w' => e = .returned (.bool true) ∧ Below w.heap.size w w' := by
  subst el0
  have HX := Lib.hid hold0
  have WFX := Lib.hid wf0
  clear hold0 wf0
  go_enter Try.func4, Try.ntmps4
  go_wp2_with fail
  (with_reducible refine (awake17_any _).mono ?_)
  rintro e w1 ⟨rfl, o1⟩
  have O1 := Lib.hid o1
  clear o1
  go_wp2_with fail
  (with_reducible refine (new_16 w1).mono ?_)
  rintro e w2 ⟨p, rfl, h⟩
  obtain ⟨c1, hm, hn⟩ := LT.start O1.out h
  have H2 := Lib.hid hm
  clear h hm O1
  clear hn
  go_wp2_with fail
  go_loopw [5, 6, 7, 8] (fun so sa sc i wr => ∃ (k op an : Nat) (t : Tq) (c : Nat → Nat), k ≤ xs0.length ∧ k ≤ 150 ∧ i = .int .i64 k ∧ so = .int .i64 op ∧ sa = .int .i64 an ∧ sc = .int .i64 0 ∧ op = an + t.rs.length ∧ op ≤ k ∧ t.kept = [] ∧ LT w wr p c 16 0 t) (fun _ _ _ i _ => xs0.length - (intOf i).toNat)
  case atStart => exact ⟨0, 0, 0, ⟨[], []⟩, c1, Nat.zero_le _, Nat.zero_le _, rfl, rfl, rfl, rfl, rfl, Nat.le_refl _, rfl, H2.out⟩
  case round =>
    obtain ⟨k, op, an, ⟨rs, kp⟩, c, hk, hk2, rfl, rfl, rfl, rfl, hsum, hop, hke, hd⟩ := hrel
    have hke : kp = [] := hke
    subst hke
    have H := Lib.hid hd
    have SM := Lib.hid hsum
    have SB := Lib.hid (show op ≤ k ∧ k ≤ 150 from ⟨hop, hk2⟩)
    clear hd H2 hsum hop
    by_cases hlt : k < xs0.length
    · have t1 : decide (k < xs0.length) = true := decide_eq_true hlt
      by_cases h150 : k < 150
      · have t2 : decide ((k : Int) < 150) = true := decide_eq_true (by omega)
        obtain ⟨a, ha⟩ : ∃ a, xs0[k]? = some a := ⟨_, List.getElem?_eq_getElem hlt⟩
        obtain ⟨b, o, rfl, hbl, c0, c1, c2, c3, c4⟩ := act_at HX.out (H.out.only.below (Nat.le_refl _) (fun _ _ s => s)) ha
        have c2' : wr.cell? ⟨b, o + k * 5 + 1 + 1, none⟩ = some (.int .i64 a.n) := c2
        have c3' : wr.cell? ⟨b, o + k * 5 + 1 + 1 + 1, none⟩ = some (.int .i64 a.place) := c3
        have c4' : wr.cell? ⟨b, o + k * 5 + 1 + 1 + 1 + 1, none⟩ = some (.int .u64 a.v) := c4
        have WX := Lib.hid (WFX.out a (List.mem_of_getElem? ha))
        clear ha hbl
        go_upto_block 2 with fail
        have XA := Lib.hid ((Row.fresh wr 32 #[.int .i64 a.kind, .int .i64 a.id, .int .i64 a.n, .int .i64 a.place, .int .u64 a.v]))
        have HA := Lib.hid (H.out.still ((Only.refl none_ wr).alloc (.cells #[.int .i64 a.kind, .int .i64 a.id, .int .i64 a.n, .int .i64 a.place, .int .u64 a.v] 32)))
        clear c0 c1 c2 c3 c4 c2' c3' c4' H
        revert HA XA
        generalize wr.alloc (.cells #[.int .i64 a.kind, .int .i64 a.id, .int .i64 a.n, .int .i64 a.place, .int .u64 a.v] 32) = W1
        generalize wr.heap.size = g9
        intro XA HA
        have x5 := XA.out.five
        obtain ⟨x0, x1, x2, x3, x4⟩ := x5
        go_cut [5, 7] from 35 to 78 (fun so sc wx => ∃ (op' ca : Nat) (t' : Tq) (c' : Nat → Nat), so = .int .i64 op' ∧ sc = .int .i64 ca ∧ St17 op' an ca t' ∧ op' ≤ k + 1 ∧ LT w wx p c' 16 1 t')
        case first =>
          by_cases e0 : a.kind = 0
          · have t0 : (a.kind == 0) = true := by simp [e0]
            have CA := Lib.hid (lopen a.id a.n a.place HA.out WX.out)
            have ST := Lib.hid (St17.open_ (room := 16) SM.out a.id a.n a.place)
            have LL := Lib.hid (show openI 16 rs a.id a.n a.place = 0 ∨ openI 16 rs a.id a.n a.place ≠ 0 from Classical.em _)
            clear e0
            generalize openI 16 rs a.id a.n a.place = oi at *
            have tw : (oi == 0) = true ∨ (oi == 0) = false := by cases (oi == 0) <;> simp
            have v1 : IntKind.i64.wrap ((op : Int) + 1) = ((op + 1 : Nat) : Int) := by have := SB.out; rw [IntKind.wrap_i64]; omega
            rcases tw with tw | tw
            · have E0 := Lib.hid (show oi = 0 from by simpa using tw)
              go_wp2_with fail
              (with_reducible refine CA.out.mono ?_)
              rintro e w4 ⟨rfl, c', h4, _, _⟩
              have QX := Lib.hid h4
              clear h4
              go_wp2_with fail
              go_meet
              exact ⟨op + 1, 0, _, c', by go_num, rfl, by have := ST.out; rw [if_pos E0.out] at this; exact this, by have := SB.out; omega, QX.out.up (by omega)⟩
            · have E0 := Lib.hid (show oi ≠ 0 from by simpa using tw)
              go_wp2_with fail
              (with_reducible refine CA.out.mono ?_)
              rintro e w4 ⟨rfl, c', h4, _, _⟩
              have QX := Lib.hid h4
              clear h4
              go_wp2_with fail
              go_meet
              exact ⟨op, 0, _, c', rfl, rfl, by have := ST.out; rw [if_neg E0.out] at this; exact this, by have := SB.out; omega, QX.out.up (by omega)⟩
          by_cases e1 : a.kind = 1
          · have t0 : (a.kind == 0) = false := by simp [e0]
            have t1 : (a.kind == 1) = true := by simp [e1]
            have CA := Lib.hid (lgive a.id a.place a.v HA.out WX.out (by decide))
            have ST := Lib.hid (St17.put HA.out.good SM.out a.id a.place a.v (.inl rfl))
            clear e0 e1
            go_wp2_with fail
            (with_reducible refine CA.out.mono ?_)
            rintro e w4 ⟨rfl, c', h4, _, _⟩
            have QX := Lib.hid h4
            clear h4
            go_wp2_with fail
            go_meet
            exact ⟨op, 0, _, c', rfl, rfl, ST.out, by have := SB.out; omega, QX.out⟩
          by_cases e2 : a.kind = 2
          · have t0 : (a.kind == 0) = false := by simp [e0]
            have t1 : (a.kind == 1) = false := by simp [e1]
            have t2 : (a.kind == 2) = true := by simp [e2]
            have CA := Lib.hid (llose a.id a.place HA.out WX.out (by decide))
            have ST := Lib.hid (St17.put HA.out.good SM.out a.id a.place 0 (.inr rfl))
            clear e0 e1 e2
            go_wp2_with fail
            (with_reducible refine CA.out.mono ?_)
            rintro e w4 ⟨rfl, c', h4, _, _⟩
            have QX := Lib.hid h4
            clear h4
            go_wp2_with fail
            go_meet
            exact ⟨op, 0, _, c', rfl, rfl, ST.out, by have := SB.out; omega, QX.out⟩
          by_cases e3 : a.kind = 3
          · have t0 : (a.kind == 0) = false := by simp [e0]
            have t1 : (a.kind == 1) = false := by simp [e1]
            have t2 : (a.kind == 2) = false := by simp [e2]
            have t3 : (a.kind == 3) = true := by simp [e3]
            have CA := Lib.hid (lcancel a.id HA.out WX.out (by decide))
            have ST := Lib.hid (St17.cancel HA.out.good SM.out a.id)
            clear e0 e1 e2 e3
            generalize cancelI rs a.id = oi at *
            have tw : (oi == 0) = true ∨ (oi == 0) = false := by cases (oi == 0) <;> simp
            rcases tw with tw | tw
            · have E0 := Lib.hid (show oi = 0 from by simpa using tw)
              go_wp2_with fail
              (with_reducible refine CA.out.mono ?_)
              rintro e w4 ⟨rfl, c', h4, _, _⟩
              have QX := Lib.hid h4
              clear h4
              go_wp2_with fail
              go_meet
              exact ⟨op, 1, _, c', rfl, rfl, by have := ST.out; rw [if_pos E0.out] at this; exact this, by have := SB.out; omega, QX.out⟩
            · have E0 := Lib.hid (show oi ≠ 0 from by simpa using tw)
              go_wp2_with fail
              (with_reducible refine CA.out.mono ?_)
              rintro e w4 ⟨rfl, c', h4, _, _⟩
              have QX := Lib.hid h4
              clear h4
              go_wp2_with fail
              go_meet
              exact ⟨op, 0, _, c', rfl, rfl, by have := ST.out; rw [if_neg E0.out] at this; exact this, by have := SB.out; omega, QX.out⟩
          have t0 : (a.kind == 0) = false := by simp [e0]
          have t1 : (a.kind == 1) = false := by simp [e1]
          have t2 : (a.kind == 2) = false := by simp [e2]
          have t3 : (a.kind == 3) = false := by simp [e3]
          clear e0 e1 e2 e3
          go_wp2_with fail
          go_meet
          exact ⟨op, 0, _, c, rfl, rfl, St17.start _ rfl SM.out, by have := SB.out; omega, HA.out.up (by decide)⟩
        case rest =>
          obtain ⟨op', ca, t', c', rfl, rfl, st, hop, hl⟩ := hcut
          have ST := Lib.hid st
          have TK := Lib.hid (ltake hl)
          have SC := Lib.hid (show op' ≤ 151 ∧ an ≤ 151 ∧ op' ≤ k + 1 ∧ k ≤ 150 from by have := st.sum; omega)
          clear st hop hl x0 x1 x2 x3 x4
          obtain ⟨rs', kp⟩ := t'
          go_wp2_with fail
          (with_reducible refine TK.out.mono ?_)
          rintro e w4 ⟨v4, rfl, c4, h4, hv, _, _⟩
          obtain ⟨va, vc, ks, hve, KA, hcv⟩ := hv
          subst hve
          have H4 := Lib.hid h4
          have KA := Lib.hid KA
          have CV := Lib.hid hcv
          clear h4 hcv TK
          dsimp only at *
          have one := ST.out.one
          dsimp only at one
          go_wp2_with fail
          go_loopw [7, 11] (fun sc i wr => ∃ (j : Nat), j ≤ kp.length ∧ i = .int .i64 j ∧ sc = .int .i64 (cnt8 (kp.drop j)) ∧ Only none_ w4 wr) (fun _ i _ => kp.length - (intOf i).toNat)
          case atStart => exact ⟨0, Nat.zero_le _, rfl, by rw [ST.out.can]; rfl, Only.refl _ _⟩
          case round =>
            obtain ⟨j, hj, rfl, rfl, ho⟩ := hrel
            have OJ := Lib.hid ho
            clear ho
            by_cases hjl : j < kp.length
            · have t3 : decide (j < kp.length) = true := decide_eq_true hjl
              obtain ⟨n, hn⟩ : ∃ n, kp[j]? = some n := ⟨_, List.getElem?_eq_getElem hjl⟩
              obtain ⟨q, hq⟩ : ∃ q, ks[j]? = some q := ⟨_, List.getElem?_eq_getElem (by have := KA.out.1; omega)⟩
              obtain ⟨g1, o1, rfl, _, z0, z1, z2⟩ := CV.out j q hq
              obtain ⟨i1, i2, i3⟩ := KA.out.2 j q n hq hn
              have okn := ST.out.ok n (List.mem_of_getElem? hn)
              have j0 : j = 0 := by omega
              have CN := Lib.hid (show cnt8 (kp.drop j) = (if n.code = 8 then 1 else 0) ∧ cnt8 (kp.drop (j + 1)) = 0 from by
                subst j0
                match kp, one, hn with
                | [m], _, hn =>
                  simp at hn
                  subst hn
                  refine ⟨?_, rfl⟩
                  unfold cnt8
                  simp [List.countP_cons]
                | [], _, hn => simp at hn)
              rw [CN.out.1]
              obtain ⟨qi, qc, qv⟩ := q
              obtain ⟨ni, nc, nvs⟩ := n
              obtain ⟨av, cv, hqv, _⟩ := i3
              dsimp only at *
              subst i1 i2 hqv
              have d0 : wr.cell? ⟨g1, o1 + j * 3, none⟩ = some (.int .i64 qi) := OJ.out.cell z0 (fun s => s)
              have d1 : wr.cell? ⟨g1, o1 + j * 3 + 1, none⟩ = some (.int .i64 qc) := OJ.out.cell z1 (fun s => s)
              have d2 : wr.cell? ⟨g1, o1 + j * 3 + 2, none⟩ = some (.slice av nvs.length cv) := OJ.out.cell z2 (fun s => s)
              have d2' : wr.cell? ⟨g1, o1 + j * 3 + 1 + 1, none⟩ = some (.slice av nvs.length cv) := d2
              clear z0 z1 z2 hn hq CV j0
              rcases okn with ⟨k1, k2⟩ | ⟨k1, k2⟩ | ⟨k1, k2⟩
              · subst k1
                have k2 : nvs.length ≤ 8 := k2
                have t4 : decide ((8 : Int) < (nvs.length : Int)) = false := decide_eq_false (by omega)
                have t5 : decide (8 < nvs.length) = false := decide_eq_false (by omega)
                rw [if_neg (by decide)]
                go_wp2_with fail
                go_roundw
                case rel => exact ⟨j + 1, by omega, by go_num, by rw [CN.out.2] <;> rfl, OJ.out.alloc _⟩
                case measure => simp [intOf]; omega
              · subst k1 k2
                rw [if_neg (by decide)]
                go_wp2_with fail
                go_roundw
                case rel => exact ⟨j + 1, by omega, by go_num, by rw [CN.out.2] <;> rfl, OJ.out.alloc _⟩
                case measure => simp [intOf]; omega
              · subst k1 k2
                rw [if_pos rfl]
                go_wp2_with fail
                go_roundw
                case rel => exact ⟨j + 1, by omega, by go_num, by rw [CN.out.2] <;> rfl, OJ.out.alloc _⟩
                case measure => simp [intOf]; omega
            · have t3 : decide (j < kp.length) = false := decide_eq_false hjl
              have DZ : kp.drop j = [] := List.drop_eq_nil_of_le (by omega)
              rw [DZ]
              have H5 := Lib.hid (H4.out.still OJ.out)
              have PE := Lib.hid (lpending H5.out)
              have SUM := Lib.hid (show op' = an + rs'.length + kp.length from ST.out.sum)
              clear CV DZ
              have v3 : IntKind.i64.wrap ((an : Int) + (kp.length : Int)) = ((an + kp.length : Nat) : Int) := by have := SC.out; rw [IntKind.wrap_i64]; omega
              go_wp2_with fail
              (with_reducible refine PE.out.mono ?_)
              rintro e w6 ⟨v6, rfl, hv6, o6⟩
              obtain ⟨vf, vg, hve⟩ := owns_form hv6
              rw [sortI_len, List.length_map] at hve
              subst hve
              have H6 := Lib.hid (H5.out.still o6)
              have v4 : IntKind.i64.wrap (((an + kp.length : Nat) : Int) + (rs'.length : Int)) = (op' : Int) := by have := SC.out; have := SUM.out; rw [IntKind.wrap_i64]; omega
              have v5 : IntKind.i64.wrap ((an : Int) + (kp.length : Int) + (rs'.length : Int)) = (op' : Int) := by have := SC.out; have := SUM.out; rw [IntKind.wrap_i64]; omega
              have t6 : ((op' : Int) != (op' : Int)) = false := by simp
              clear hv6 o6 PE H5 H4
              have kb := SC.out
              go_wp2_with fail
              go_roundw
              case rel => exact ⟨k + 1, op', an + kp.length, ⟨rs', []⟩, c4, by omega, by omega, by go_num, rfl, by go_num, rfl, by have := SUM.out; show op' = an + kp.length + rs'.length; omega, by have := SC.out; omega, rfl, H6.out⟩
              case measure => simp [intOf]; omega
      · have t2 : decide ((k : Int) < 150) = false := decide_eq_false (by omega)
        go_wp2_with fail
        go_ret
        exact ⟨rfl, H.out.only.to_below17⟩
    · have t1 : decide (k < xs0.length) = false := decide_eq_false hlt
      go_wp2_with fail
      go_ret
      exact ⟨rfl, H.out.only.to_below17⟩



end Go.Proofs.Ytoflkeedfgnkhaa.reqOnce
