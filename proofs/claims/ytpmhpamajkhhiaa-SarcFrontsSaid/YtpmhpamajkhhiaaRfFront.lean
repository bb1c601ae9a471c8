/- The document's own shelf: Front. -/
import Derived.Test.YtpmhpamajkhhiaaRfC
namespace Go.Proofs.Ytpmhpamajkhhiaa
open Go.RowKit
set_option linter.unusedVariables false

theorem own_cases {w : World} {base : Nat} {v : Value} {xs : List Int} (h : OwnsInts w base v xs) : (v = .slice none 0 0 ∧ xs = []) ∨ ∃ g cap, v = .slice (some ⟨g, 0, none⟩) xs.length cap ∧ base ≤ g ∧ g < w.heap.size ∧ ∀ j u, (xs.map (Value.int .i64))[j]? = some u → w.cell? ((Addr.mk g 0 none).add j) = some u := by
  rcases h.2 with ⟨h0, h1⟩ | ⟨g, cap, cur, hv, hg, hh, _⟩
  · exact .inl ⟨h0, List.eq_nil_of_length_eq_zero h1⟩
  · refine .inr ⟨g, cap, hv, hg, (Array.getElem?_eq_some_iff.1 hh).1, fun j u hj => ?_⟩
    rw [List.getElem?_map, Option.map_eq_some_iff] at hj
    obtain ⟨x, hx, rfl⟩ := hj
    rw [hv] at h
    have := Owns.cell h one1 hx (j := 0) (by decide)
    have hadd : (Addr.mk g 0 none).add j = ⟨g, 0 + j, none⟩ := by
      unfold Addr.add
      split
      · rename_i z; rw [z]
      · rfl
    rw [hadd]
    simpa [one] using this

theorem fin0 {w1 W : World} {p hb : Nat} {ok : Nat → Prop} {s : Sh} {j : Nat} {V v1 : Value} (f : (s.front 0 j).Fine)
    (rW : Row W p 69 #[.int .i64 s.n, .int .i64 s.bot, V, v1, .slice (some ⟨hb, 0, none⟩) s.n s.n]) (oV : OwnsInts W w1.heap.size V ((j : Int) :: ints (s.l0.erase j)))
    (q1 : OwnsOk w1 ok v1 (ints (s.out j).l1)) (hr : Row w1 hb 4 (flat boolC (s.out j).hs)) (ne : p ≠ hb) (l1 : ¬ ok p) (l2 : ¬ ok hb) (l3 : ∀ g, w1.heap.size ≤ g → ok g) (o : Only (fun k => k = p) w1 W) : RSh W p hb ok (s.front 0 j) :=
  ⟨f, ⟨V, v1, rW, OwnsOk.new oV l3, q1.keep o (fun g hg q => l1 (q ▸ hg))⟩, o.row hr (fun q => ne q.symm), ne, l1, l2, fun g hg => l3 g (Nat.le_trans o.size hg)⟩
theorem fin1 {w1 W : World} {p hb : Nat} {ok : Nat → Prop} {s : Sh} {j : Nat} {V v0 : Value} (f : (s.front 1 j).Fine)
    (rW : Row W p 69 #[.int .i64 s.n, .int .i64 s.bot, v0, V, .slice (some ⟨hb, 0, none⟩) s.n s.n]) (oV : OwnsInts W w1.heap.size V ((j : Int) :: ints (s.l1.erase j)))
    (q0 : OwnsOk w1 ok v0 (ints (s.out j).l0)) (hr : Row w1 hb 4 (flat boolC (s.out j).hs)) (ne : p ≠ hb) (l1 : ¬ ok p) (l2 : ¬ ok hb) (l3 : ∀ g, w1.heap.size ≤ g → ok g) (o : Only (fun k => k = p) w1 W) : RSh W p hb ok (s.front 1 j) :=
  ⟨f, ⟨v0, V, rW, q0.keep o (fun g hg q => l1 (q ▸ hg)), OwnsOk.new oV l3⟩, o.row hr (fun q => ne q.symm), ne, l1, l2, fun g hg => l3 g (Nat.le_trans o.size hg)⟩
theorem own_one {W : World} {g : Nat} {x : Int} (h : Row W g 3 #[.int .i64 x]) : OwnsInts W g (.slice (some ⟨g, 0, none⟩) 1 1) [x] :=
  ⟨rfl, .inr ⟨g, 1, #[.int .i64 x], rfl, Nat.le_refl _, h, Nat.le_refl _, by unfold maxLen; omega, rfl, rfl⟩⟩
theorem own_more {W : World} {base : Nat} {v : Value} {x : Int} {xs : List Int} (h : W.ownsRow base 3 1 v (1 + xs.length) ([.int .i64 x] ++ xs.map (Value.int .i64))) : OwnsInts W base v (x :: xs) := by
  show World.ownsRow _ _ _ _ _ _ _
  rw [one_map, List.length_cons, Nat.add_comm]
  exact h

set_option maxRecDepth 100000 in
set_option maxHeartbeats 4000000 in
theorem front_ref (p hb : Nat) (ok : Nat → Prop) (s : Sh) (k i : Int) (w : World) (h : RSh w p hb ok s) :
    Calls Try.prog 51 #[.pointer (some ⟨p, 0, none⟩), .int .i64 k, .int .i64 i] w fun e w' => e = .returned (.int .i64 (s.frontC k i)) ∧ RSh w' p hb ok (s.frontS k i) ∧ Only (fun k => k = p) w w' := by
  have F1 := Lib.hid h
  have cn : w.cell? ⟨p, 0, none⟩ = some (.int .i64 s.n) := by
    obtain ⟨f, ⟨v0, v1, r, o0, o1⟩, hr, ne, l1, l2, l3⟩ := h
    rw [r.cell]; rfl
  have n64 := h.fine.n64
  by_cases hk0 : k < 0
  · have e : hasL k = false := by unfold hasL; simp; omega
    have e1 : s.frontC k i = 1 := by unfold Sh.frontC; rw [e]; rfl
    have e2 : s.frontS k i = s := by unfold Sh.frontS; rw [e]; rfl
    rw [e1, e2]
    have d1 : decide (k < 0) = true := by simp [hk0]
    clear h e e1 e2 hk0
    go_enter Try.func51, Try.ntmps51
    go_wp2
    go_ret
    exact ⟨rfl, F1.out, Only.refl _ _⟩
  · have d1 : decide (k < 0) = false := by simp; omega
    by_cases hk1 : 1 < k
    · have e : hasL k = false := by unfold hasL; simp; omega
      have e1 : s.frontC k i = 1 := by unfold Sh.frontC; rw [e]; rfl
      have e2 : s.frontS k i = s := by unfold Sh.frontS; rw [e]; rfl
      rw [e1, e2]
      have d2 : decide (1 < k) = true := by simp [hk1]
      clear h e e1 e2 hk1 hk0
      go_enter Try.func51, Try.ntmps51
      go_wp2
      go_ret
      exact ⟨rfl, F1.out, Only.refl _ _⟩
    · have d2 : decide (1 < k) = false := by simp; omega
      by_cases hi0 : i < 0
      · have e : hasN s.n i = false := by unfold hasN; simp; omega
        have e1 : s.frontC k i = 1 := by unfold Sh.frontC; rw [e, Bool.and_false]; rfl
        have e2 : s.frontS k i = s := by unfold Sh.frontS; rw [e, Bool.and_false]; rfl
        rw [e1, e2]
        have d3 : decide (i < 0) = true := by simp [hi0]
        clear h e e1 e2 hk1 hk0 hi0
        go_enter Try.func51, Try.ntmps51
        go_wp2
        go_ret
        exact ⟨rfl, F1.out, Only.refl _ _⟩
      · have d3 : decide (i < 0) = false := by simp; omega
        by_cases hi1 : (s.n : Int) ≤ i
        · have e : hasN s.n i = false := by unfold hasN; simp; omega
          have e1 : s.frontC k i = 1 := by unfold Sh.frontC; rw [e, Bool.and_false]; rfl
          have e2 : s.frontS k i = s := by unfold Sh.frontS; rw [e, Bool.and_false]; rfl
          rw [e1, e2]
          have d4 : decide ((s.n : Int) ≤ i) = true := by simp [hi1]
          clear h e e1 e2 hk1 hk0 hi0 hi1
          go_enter Try.func51, Try.ntmps51
          go_wp2
          go_ret
          exact ⟨rfl, F1.out, Only.refl _ _⟩
        · have d4 : decide ((s.n : Int) ≤ i) = false := by simp; omega
          obtain ⟨j, rfl⟩ : ∃ j : Nat, i = j := ⟨i.toNat, by omega⟩
          have hj : j < s.n := by omega
          have eL : hasL k = true := by unfold hasL; simp; omega
          have eN : hasN s.n j = true := by unfold hasN; simp; omega
          have e1 : s.frontC k j = 0 := by unfold Sh.frontC; rw [eL, eN]; rfl
          have e2 : s.frontS k j = s.front k.toNat j := by unfold Sh.frontS; rw [eL, eN]; rfl
          rw [e1, e2]
          have OU := Lib.hid (out_ref p hb ok s j w h)
          have FR := Lib.hid (h.fine.front k.toNat hj)
          obtain ⟨i0, hy0, hz0, hz1, hz2⟩ := info_parts info_int8
          have I0 := Lib.hid hy0
          have I1 := Lib.hid hz0
          have I2 := Lib.hid hz1
          have I3 := Lib.hid hz2
          have k01 : k = 0 ∨ k = 1 := by omega
          clear h e1 e2 eL eN hi0 hy0 hz0 hz1 hz2 hk0 hk1 hi1
          rcases k01 with rfl | rfl
          · go_enter Try.func51, Try.ntmps51
            go_wp2_with fail
            (with_reducible refine (OU.out).mono ?_)
            rintro e w1 ⟨rfl, h1, o1⟩
            have O1 := Lib.hid o1
            obtain ⟨f, ⟨v0, v1, r, q0, q1⟩, hr, ne, l1, l2, l3⟩ := h1
            have LL := Lib.hid (And.intro l1 (And.intro l2 l3))
            clear l1 l2 l3
            have c : w1.cell? ⟨p, 2, none⟩ = some v0 := by rw [r.cell]; rfl
            have z := r.frozen
            have lp := r.lt
            have R := Lib.hid r
            have HR := Lib.hid hr
            have Q1 := Lib.hid q1
            have len0 := fine_len0 f
            clear r q1 hr o1 f OU
            rcases own_cases q0.1 with ⟨rfl, eq⟩ | ⟨g, cap, rfl, hg, hg2, hcell⟩
            · go_wp2_with fail
              go_region_law (fail)
              all_goals
                go_wp2
                go_ret
                have OP := (((Only.refl (fun k => k = p) w1).into rfl 2 (.slice (some ⟨w1.heap.size, 0, none⟩) 1 1)).alloc (.cells #[.int .i64 j] 3)).drew
                refine ⟨rfl, fin0 FR.out (((R.out.put 2 _).alloc _).drew) ?_ Q1.out HR.out ne LL.out.1 LL.out.2.1 LL.out.2.2 OP, O1.out.same OP⟩
                have e2 : s.l0.erase j = [] := by have := congrArg List.length eq; rw [ints_len] at this; exact List.eq_nil_of_length_eq_zero this
                rw [e2]
                have := Row.fresh (w1.setCell ⟨p, 2, none⟩ (.slice (some ⟨w1.heap.size, 0, none⟩) 1 1)) 3 #[.int .i64 j]
                exact own_one (by simpa [World.setCell] using this.drew)
            · have own0 : ((w1.alloc (.cells #[.int .i64 j] 3)).drew).ownsRow w1.heap.size 3 1 (.slice (some ⟨w1.heap.size, 0, none⟩) 1 1) 1 [.int .i64 j] :=
                own_one (x := (j : Int)) (Row.fresh w1 3 #[.int .i64 j]).drew
              have HO0 := Lib.hid ((Only.refl none_ w1).alloc (.cells #[.int .i64 j] 3)).drew
              have HC := Lib.hid (fun (W : World) (o : Only none_ w1 W) (a : Nat) (u : Value) (ha : ((ints (s.out j).l0).map (Value.int .i64))[a]? = some u) => (fun (hc : w1.cell? ((Addr.mk g 0 none).add a) = some u) => o.cell hc (fun s => s)) (hcell a u ha))
              have OW0 := Lib.hid own0
              have zO : w1.heap.size ≤ ((w1.alloc (.cells #[.int .i64 j] 3)).drew).heap.size := HO0.out.size
              have oc : ∀ l : List Int, ∀ u ∈ l.map (Value.int .i64), u.oneCell' = true := fun l u hu => by
                obtain ⟨x, _, rfl⟩ := List.mem_map.1 hu
                rfl
              have len1 : (ints (s.out j).l0).length ≤ 64 := by rw [ints_len]; exact len0
              have N1 := Lib.hid (show ((ints (s.out j).l0).map (Value.int .i64)).length = (ints (s.out j).l0).length * 1 by simp)
              have E0 := Lib.hid (show (s.out j).l0 = s.l0.erase j from rfl)
              clear own0 hcell q0 len0
              go_wp2_with fail
              go_region_law (refine step_append_mine rfl (.tmp 31) (.tmp 37) 35 rfl w1.heap.size 3 i0 _ 1 8 Try.underlying35 I0.out I1.out I2.out I3.out rfl (by decide) _ 1 _ rfl OW0.out ⟨g, 0, none⟩ (ints (s.out j).l0).length cap _ rfl N1.out (HC.out _ HO0.out) (oc _) (by unfold maxLen; omega) (by omega) zO ?_
                             intro v2 w2 hown2 hgrow2
                             have O2 := Lib.hid (HO0.out.trans (Only.of_grown hgrow2) (fun a ha q => by have q2 : some a = some w1.heap.size := q; injection q2; omega))
                             have OW2 := Lib.hid (own_more hown2)
                             obtain ⟨a2, n2, k2, rfl⟩ := own_form OW2.out
                             have R2 := Lib.hid (O2.out.still R.out)
                             have z2 := R2.out.frozen
                             have c2 : w2.cell? ⟨p, 2, none⟩ = some (.slice (some ⟨g, 0, none⟩) (ints (s.out j).l0).length cap) := by rw [R2.out.cell]; rfl
                             have lp2 := R2.out.lt
                             clear hown2 hgrow2)
              all_goals
                go_wp2
                go_ret
                have OP := O2.out.then_ ((Only.refl (fun k => k = p) w2).into rfl 2 (.slice a2 n2 k2))
                refine ⟨rfl, fin0 FR.out (R2.out.put 2 _) ?_ Q1.out HR.out ne LL.out.1 LL.out.2.1 LL.out.2.2 OP, O1.out.same OP⟩
                exact OW2.out.keep ((Only.refl (fun k => k = p) w2).into rfl 2 (.slice a2 n2 k2)) (fun g hg q => by have := (OW2.out.base_le hg).1; omega)
          · go_enter Try.func51, Try.ntmps51
            go_wp2_with fail
            (with_reducible refine (OU.out).mono ?_)
            rintro e w1 ⟨rfl, h1, o1⟩
            have O1 := Lib.hid o1
            obtain ⟨f, ⟨v0, v1, r, q0, q1⟩, hr, ne, l1, l2, l3⟩ := h1
            have LL := Lib.hid (And.intro l1 (And.intro l2 l3))
            clear l1 l2 l3
            have c : w1.cell? ⟨p, 3, none⟩ = some v1 := by rw [r.cell]; rfl
            have z := r.frozen
            have lp := r.lt
            have R := Lib.hid r
            have HR := Lib.hid hr
            have Q1 := Lib.hid q0
            have len0 := fine_len1 f
            clear r q0 hr o1 f OU
            rcases own_cases q1.1 with ⟨rfl, eq⟩ | ⟨g, cap, rfl, hg, hg2, hcell⟩
            · go_wp2_with fail
              go_region_law (fail)
              all_goals
                go_wp2
                go_ret
                have OP := (((Only.refl (fun k => k = p) w1).into rfl 3 (.slice (some ⟨w1.heap.size, 0, none⟩) 1 1)).alloc (.cells #[.int .i64 j] 3)).drew
                refine ⟨rfl, fin1 FR.out (((R.out.put 3 _).alloc _).drew) ?_ Q1.out HR.out ne LL.out.1 LL.out.2.1 LL.out.2.2 OP, O1.out.same OP⟩
                have e2 : s.l1.erase j = [] := by have := congrArg List.length eq; rw [ints_len] at this; exact List.eq_nil_of_length_eq_zero this
                rw [e2]
                have := Row.fresh (w1.setCell ⟨p, 3, none⟩ (.slice (some ⟨w1.heap.size, 0, none⟩) 1 1)) 3 #[.int .i64 j]
                exact own_one (by simpa [World.setCell] using this.drew)
            · have own0 : ((w1.alloc (.cells #[.int .i64 j] 3)).drew).ownsRow w1.heap.size 3 1 (.slice (some ⟨w1.heap.size, 0, none⟩) 1 1) 1 [.int .i64 j] :=
                own_one (x := (j : Int)) (Row.fresh w1 3 #[.int .i64 j]).drew
              have HO0 := Lib.hid ((Only.refl none_ w1).alloc (.cells #[.int .i64 j] 3)).drew
              have HC := Lib.hid (fun (W : World) (o : Only none_ w1 W) (a : Nat) (u : Value) (ha : ((ints (s.out j).l1).map (Value.int .i64))[a]? = some u) => (fun (hc : w1.cell? ((Addr.mk g 0 none).add a) = some u) => o.cell hc (fun s => s)) (hcell a u ha))
              have OW0 := Lib.hid own0
              have zO : w1.heap.size ≤ ((w1.alloc (.cells #[.int .i64 j] 3)).drew).heap.size := HO0.out.size
              have oc : ∀ l : List Int, ∀ u ∈ l.map (Value.int .i64), u.oneCell' = true := fun l u hu => by
                obtain ⟨x, _, rfl⟩ := List.mem_map.1 hu
                rfl
              have len1 : (ints (s.out j).l1).length ≤ 64 := by rw [ints_len]; exact len0
              have N1 := Lib.hid (show ((ints (s.out j).l1).map (Value.int .i64)).length = (ints (s.out j).l1).length * 1 by simp)
              have E0 := Lib.hid (show (s.out j).l1 = s.l1.erase j from rfl)
              clear own0 hcell q1 len0
              go_wp2_with fail
              go_region_law (refine step_append_mine rfl (.tmp 31) (.tmp 37) 35 rfl w1.heap.size 3 i0 _ 1 8 Try.underlying35 I0.out I1.out I2.out I3.out rfl (by decide) _ 1 _ rfl OW0.out ⟨g, 0, none⟩ (ints (s.out j).l1).length cap _ rfl N1.out (HC.out _ HO0.out) (oc _) (by unfold maxLen; omega) (by omega) zO ?_
                             intro v2 w2 hown2 hgrow2
                             have O2 := Lib.hid (HO0.out.trans (Only.of_grown hgrow2) (fun a ha q => by have q2 : some a = some w1.heap.size := q; injection q2; omega))
                             have OW2 := Lib.hid (own_more hown2)
                             obtain ⟨a2, n2, k2, rfl⟩ := own_form OW2.out
                             have R2 := Lib.hid (O2.out.still R.out)
                             have z2 := R2.out.frozen
                             have c2 : w2.cell? ⟨p, 3, none⟩ = some (.slice (some ⟨g, 0, none⟩) (ints (s.out j).l1).length cap) := by rw [R2.out.cell]; rfl
                             have lp2 := R2.out.lt
                             clear hown2 hgrow2)
              all_goals
                go_wp2
                go_ret
                have OP := O2.out.then_ ((Only.refl (fun k => k = p) w2).into rfl 3 (.slice a2 n2 k2))
                refine ⟨rfl, fin1 FR.out (R2.out.put 3 _) ?_ Q1.out HR.out ne LL.out.1 LL.out.2.1 LL.out.2.2 OP, O1.out.same OP⟩
                exact OW2.out.keep ((Only.refl (fun k => k = p) w2).into rfl 3 (.slice a2 n2 k2)) (fun g hg q => by have := (OW2.out.base_le hg).1; omega)
end Go.Proofs.Ytpmhpamajkhhiaa
