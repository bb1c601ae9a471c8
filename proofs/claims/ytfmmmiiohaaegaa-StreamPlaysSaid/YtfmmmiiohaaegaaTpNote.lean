/- A table of what is expected: a block is noted, a look, all are forgotten. -/
import Derived.Test.YtfmmmiiohaaegaaTpGrow
import Derived.Deep.RegionWith
namespace Go.Proofs.Ytfmmmiiohaaegaa
open Go.RowKit Go.Maps
set_option linter.unusedVariables false

theorem ranges_end {left : Lit → Bool} {es : List En} {e : En} (h : ∀ kl, left kl = false) (k : ∀ a ∈ es, left (.int .i64 a.next) = false → a.age ≤ e.age) : ∀ a ∈ es, a.age ≤ e.age := fun a ha => k a ha (h _)

/-- the oldest of those that have been seen -/
def Seen8 (L : Int) (es : List En) (left : Lit → Bool) (o l : Int) : Prop :=
  (o = 0 ∧ l = L ∧ ∀ e ∈ es, left (.int .i64 e.next) = true) ∨ ∃ e ∈ es, o = e.next ∧ l = L - e.age ∧ ∀ a ∈ es, left (.int .i64 a.next) = false → a.age ≤ e.age

set_option maxHeartbeats 1000000 in
theorem oldest_any (p b L size life : Nat) (es : List En) (w : World) (h : Tb w p b L size life es) (hL : L < 1000000) (hp : ∀ e ∈ es, 1 ≤ e.age) (hne : es ≠ []) :
    Calls Try.prog 68 #[.pointer (some ⟨p, 0, none⟩)] w fun e w' => Only none_ w w' ∧ ∃ y ∈ es, (∀ a ∈ es, a.age ≤ y.age) ∧ e = .returned (.int .i64 y.next) := by
  have F1 := Lib.hid h.fine
  obtain ⟨lp, lb⟩ := h.lt
  obtain ⟨r, ⟨D0, hown, hr0⟩, f⟩ := h
  have c2 : w.drew.cell? ⟨p, 2, none⟩ = some (.int .i64 L) := by show w.cell? _ = _; rw [r.cell]; rfl
  have c3 : w.drew.cell? ⟨p, 3, none⟩ = some (.map (some b)) := by show w.cell? _ = _; rw [r.cell]; rfl
  have OW := Lib.hid (show w.drew.ownsMap Try.prog 3 (plainElem Try.prog 3) b es.length D0 from hown)
  have O1 := Lib.hid (Only.refl none_ w).drew
  have HR0 := Lib.hid hr0
  have HP := Lib.hid hp
  have HE := Lib.hid hne
  have SZ := Lib.hid (show w.drew.heap.size = w.heap.size from rfl)
  clear r hown hr0 f hp hne
  go_enter Try.func68, Try.ntmps68
  go_wp2_with fail
  go_region
  all_goals
    generalize w.drew = W at *
    go_wp2_with (first
      | (at_range; refine wpList_range_own _ rfl _ 86 rfl 3 3 lawI Try.underlying86 _ b es.length D0 rfl OW.out ?_; intro w0 hrg0 hg0 hs0)
      | go_in)
    have HG0 := Lib.hid hrg0
    have G0 := Lib.hid (show Only none_ W w0 from (Only.of_grown hg0).more (fun _ _ e => by cases e))
    clear hrg0 hg0 hs0
    go_frame
    go_loopw [3, 4] (fun o l wr => ∃ (left : Lit → Bool) (cnt : Nat) (o' l' : Int), wr.ranges Try.prog 3 (plainElem Try.prog 3) b W.heap.size es.length D0 left cnt ∧ o = .int .i64 o' ∧ l = .int .i64 l' ∧ Seen8 L es left o' l' ∧ Only none_ w wr)
      (fun _ _ wr => wr.rangeLeft b W.heap.size)
    case atStart =>
      refine ⟨_, _, _, _, HG0.out, rfl, rfl, .inl ⟨rfl, rfl, fun e he => ?_⟩, O1.out.idle G0.out⟩
      rw [HR0.out.1, hasE_iff.2 ⟨e, he, rfl⟩]
    case round =>
      obtain ⟨left, cnt, o', l', hrg, rfl, rfl, hs, ow⟩ := hrel
      have RG := Lib.hid hrg
      have OO := Lib.hid ow
      have SE := Lib.hid hs
      clear ow hs
      go_wp2_with (first
        | (at_next; refine wpList_next_ranges_ii _ rfl _ rfl 3 3 .i64 .i64 lawI Try.underlying3 Try.underlying3 b W.heap.size es.length _ _ _ rfl hrg ?_ ?_)
        | go_in)
      · intro _ hl0
        go_wp2
        go_ret
        refine ⟨OO.out, ?_⟩
        rcases SE.out with ⟨_, _, k⟩ | ⟨e, he, rfl, _, k⟩
        · obtain ⟨e, he⟩ := List.exists_mem_of_ne_nil _ HE.out
          have := k e he
          rw [hl0] at this
          cases this
        · exact ⟨e, he, ranges_end hl0 k, rfl⟩
      · intro x c w1 cnt1 hwx hwc hlx hat hrg1 hlt hg1 hs1 hen
        obtain ⟨e, he, rfl, rfl⟩ := entry_of HR0.out hat
        have G1 := Lib.hid (Only.of_grown hg1)
        have sz := SZ.out
        have O3 := Lib.hid (OO.out.trans G1.out (fun i hi q => by have := Option.some.inj q; omega))
        have RG1 := Lib.hid hrg1
        have HE1 := Lib.hid he
        have ap := HP.out e he
        have NX := Lib.hid (fun a (ha : a ∈ es) => next_inj F1.out.apart ha he)
        clear hat he hlx G1 hrg1 hs1 hg1 sz
        by_cases hy : (L : Int) - e.age < l'
        · have d1 : decide ((L : Int) - (e.age : Int) < l') = true := by simpa using hy
          have SE2 := Lib.hid (show Seen8 L es (strike left e.next) e.next (L - e.age) from by
            refine .inr ⟨e, HE1.out, rfl, rfl, fun a ha k => ?_⟩
            simp only [strike, key_eq] at k
            by_cases q : a.next = e.next
            · rw [NX.out a ha q]; exact Nat.le_refl _
            · have kf : (a.next == e.next) = false := by simp [q]
              rw [kf] at k
              simp at k
              rcases SE.out with ⟨_, _, k2⟩ | ⟨y, hy2, _, rfl, k2⟩
              · rw [k2 a ha] at k; cases k
              · have := k2 a ha k
                omega)
          clear hy
          go_wp2
          go_roundw
          case rel => exact ⟨strike left e.next, cnt1, _, _, RG1.out, rfl, rfl, SE2.out, O3.out⟩
          case measure => rw [World.ranges.left_eq RG1.out, RG.out.left_eq]; exact hlt
        · have d1 : decide ((L : Int) - (e.age : Int) < l') = false := by simpa using hy
          have SE2 := Lib.hid (show Seen8 L es (strike left e.next) o' l' from by
            rcases SE.out with ⟨_, rfl, k2⟩ | ⟨y, hy2, rfl, rfl, k2⟩
            · omega
            · refine .inr ⟨y, hy2, rfl, rfl, fun a ha k => ?_⟩
              simp only [strike, key_eq] at k
              by_cases q : a.next = e.next
              · rw [NX.out a ha q]; omega
              · have kf : (a.next == e.next) = false := by simp [q]
                rw [kf] at k
                simp at k
                exact k2 a ha k)
          clear hy
          go_wp2
          go_roundw
          case rel => exact ⟨strike left e.next, cnt1, _, _, RG1.out, rfl, rfl, SE2.out, O3.out⟩
          case measure => rw [World.ranges.left_eq RG1.out, RG.out.left_eq]; exact hlt

theorem wf_i (x : Int) (h : -9223372036854775808 ≤ x ∧ x ≤ 9223372036854775807) : (Lit.int .i64 x).wf = true := by
  exact WalkArith.wf_i64 h

/-- the last step: the block is laid into the map -/
theorem store8 {w : World} {b n : Nat} {D : DataW Unit} (h : w.ownsMap Try.prog 3 (plainElem Try.prog 3) b n D) (hn : n < 1000) (x : Int) (L : Nat) (hL : L < 1000000) (hx : 0 ≤ x ∧ x ≤ 1048584) :
    ∃ w', (Instr.mapUpdate 86 (.map (some b)) (.int .i64 x) (.int .i64 (L : Int))).run Try.prog w = .ok () w' ∧ w'.ownsMap Try.prog 3 (plainElem Try.prog 3) b (n + 1) (D.put (.int .i64 x) (.lit (.int .i64 (L : Int)))) ∧ Only (fun k => k = b) w w' := by
  obtain ⟨w', h1, h2, h3⟩ := h.store lawI Try.underlying86 (by unfold maxLen; omega) (keyOf_int_mk Try.underlying3 (wf_i x (by omega))) (plainElem_int Try.underlying3 (wf_i (L : Int) (by omega)))
  exact ⟨w', h1, h2, only_turned h3⟩

set_option maxHeartbeats 1000000 in
theorem note_any (p b L size life : Nat) (es : List En) (x : Int) (w : World) (h : Tb w p b L size life es) (hL : L < 1000000) (hp : ∀ e ∈ es, 1 ≤ e.age) (hx : 0 ≤ x ∧ x ≤ 1048584) :
    Calls Try.prog 60 #[.pointer (some ⟨p, 0, none⟩), .int .i64 x] w fun e w' => e = .returned (.tuple #[]) ∧ Tb w' p b L size life (noteE size es x) ∧ Only (fun k => k = b) w w' := by
  have F1 := Lib.hid h.fine
  have NF := Lib.hid (note_fine h.fine hp hx)
  have H := Lib.hid h
  have ne := h.ne
  obtain ⟨lp, lb⟩ := h.lt
  obtain ⟨r, ⟨D0, hown, hr0⟩, f⟩ := h
  have HR0 := Lib.hid hr0
  have hkey := keyOf_int_mk Try.underlying3 (wf_i x (by omega))
  have len32 : es.length ≤ 32 := Nat.le_trans f.few f.s32
  have few := f.few
  have s1 := f.s1
  have c0 : w.drew.cell? ⟨p, 0, none⟩ = some (.int .i64 size) := by show w.cell? _ = _; rw [r.cell]; rfl
  have c3 : w.cell? ⟨p, 3, none⟩ = some (.map (some b)) := by rw [r.cell]; rfl
  have c3' : w.drew.cell? ⟨p, 3, none⟩ = some (.map (some b)) := c3
  have R1 := Lib.hid r
  have OW := Lib.hid hown
  have hh := hr0.1 x
  have LEN : ∀ ty, (Builtin.len_ #[86] ty #[.map (some b)]).run Try.prog w.drew = .ok (.int .i64 es.length) w.drew := fun ty => by
    have := (show w.drew.ownsMap Try.prog 3 (plainElem Try.prog 3) b es.length D0 from hown).len Try.underlying86 ty
    rw [hr0.size hown f.apart] at this
    exact this
  have IM := Lib.hid (show IsMap D0 from let ⟨es, _, _, _, _, e⟩ := hown; ⟨_, e⟩)
  cases hc : hasE es x with
  | true =>
    rw [hc] at hh
    have RM := Lib.hid (show room size es x = cut es x by unfold room; rw [if_pos hc])
    obtain ⟨w4, run4, own4, o4⟩ := store8 (show w.drew.drew.ownsMap Try.prog 3 (plainElem Try.prog 3) b es.length D0 from hown) (by omega) x L hL hx
    have cL : w.drew.drew.cell? ⟨p, 2, none⟩ = some (.int .i64 L) := by show w.cell? _ = _; rw [r.cell]; rfl
    have c34 : w.drew.drew.cell? ⟨p, 3, none⟩ = some (.map (some b)) := c3
    have O4 := Lib.hid ((Only.refl (fun k => k = b) w).drew.drew.same o4)
    have OW4 := Lib.hid own4
    clear r hown hr0 f own4 o4 hc c3'
    go_enter Try.func60, Try.ntmps60
    go_wp2_with (first
      | (at_lookup; refine wpList_lookup_own_ok_int _ rfl _ _ 86 rfl 3 3 .i64 lawI Try.underlying86 Try.underlying3 (zeroI _) b es.length D0 rfl OW.out _ _ rfl hkey ?_; intro c hat hwc)
      | go_in)
    go_region
    all_goals
      go_wp2_with fail
      go_region
      all_goals
        go_wp2
        go_end0
        refine ⟨rfl, ⟨O4.out.row R1.out ne, ?_, NF.out⟩, O4.out⟩
        unfold noteE
        rw [RM.out]
        have h2 := HR0.out.over IM.out x
        exact Md.of OW4.out h2 (by have := NF.out.apart; unfold noteE at this; rw [RM.out] at this; exact this)
  | false =>
    rw [hc] at hh
    have hno : ∀ e ∈ es, e.next ≠ x := fun e he q => by have := hasE_iff.2 ⟨e, he, q⟩; rw [hc] at this; cases this
    by_cases hf : es.length = size
    · have RM := Lib.hid (show room size es x = es.dropLast by unfold room; rw [if_neg (by rw [hc]; simp), if_pos (by omega)])
      have d1 : ((es.length : Int) == (size : Int)) = true := by simp; omega
      have enil : es ≠ [] := fun q => by rw [q] at hf; simp at hf; omega
      have A := Lib.hid (oldest_any p b L size life es w.drew.drew (H.out.still (Only.refl none_ w).drew.drew) hL hp enil)
      have c3'' : w.drew.drew.cell? ⟨p, 3, none⟩ = some (.map (some b)) := c3
      have HNO := Lib.hid hno
      have AP := Lib.hid (show es.Pairwise (fun a b => a.age < b.age) ∧ es.Pairwise (fun a b => a.next ≠ b.next) from ⟨f.rise, f.apart⟩)
      have HI := Lib.hid f.in_
      clear r hown hr0 f hc hno hf enil
      go_enter Try.func60, Try.ntmps60
      go_wp2_with (first
        | (at_lookup; refine wpList_lookup_own_ok_int _ rfl _ _ 86 rfl 3 3 .i64 lawI Try.underlying86 Try.underlying3 (zeroI _) b es.length D0 rfl OW.out _ _ rfl hkey ?_; intro c hat hwc)
        | go_in)
      go_region
      all_goals
        go_wp2_with fail
        go_region_with (go_at_call 68; refine (A.out).mono ?_; rintro e w3 ⟨o3, y, hy, hmax, rfl⟩
                        have O3 := Lib.hid ((Only.refl none_ w).drew.drew.same o3)
                        have OW3 := Lib.hid (owns_keep OW.out O3.out (fun q => q))
                        have hky := keyOf_int_mk Try.underlying3 (wf_i y.next (by have := HI.out y hy; omega))
                        obtain ⟨w4, run4, own4, turn4⟩ := OW3.out.drop lawI Try.underlying86 hky 0
                        have c33 : w3.cell? ⟨p, 3, none⟩ = some (.map (some b)) := O3.out.cell c3 (fun q => q)
                        have HY := Lib.hid (last_cut AP.out.1 AP.out.2 hy hmax)
                        have O4 := Lib.hid (O3.out.then_ (only_turned turn4))
                        have OW4 := Lib.hid own4
                        clear own4 turn4 hmax o3 hy hky)
        all_goals
          have R4 := Lib.hid ((O4.out.row R1.out ne).drew)
          have cL : w4.drew.cell? ⟨p, 2, none⟩ = some (.int .i64 L) := by rw [R4.out.cell]; rfl
          have c34 : w4.drew.cell? ⟨p, 3, none⟩ = some (.map (some b)) := by rw [R4.out.cell]; rfl
          obtain ⟨w5, run5, own5, o5⟩ := store8 (show w4.drew.ownsMap Try.prog 3 (plainElem Try.prog 3) b es.length _ from OW4.out) (by omega) x L hL hx
          have O5 := Lib.hid (O4.out.drew.same o5)
          have OW5 := Lib.hid own5
          clear own5 o5
          go_wp2_with fail
          go_region
          all_goals
            go_wp2
            go_end0
            refine ⟨rfl, ⟨O5.out.row R1.out ne, ?_, NF.out⟩, O5.out⟩
            unfold noteE
            rw [RM.out]
            refine Md.of OW5.out ?_ (by have := NF.out.apart; unfold noteE at this; rw [RM.out] at this; exact this)
            rw [← HY.out]
            exact (HR0.out.del y.next).put (IM.out.del _) x (fun e he => HNO.out e ((cut_sub es y.next).subset he))
    · have RM := Lib.hid (show room size es x = es by unfold room; rw [if_neg (by rw [hc]; simp), if_neg (by omega)])
      have d1 : ((es.length : Int) == (size : Int)) = false := by simp; omega
      have HNO := Lib.hid hno
      obtain ⟨w5, run5, own5, o5⟩ := store8 (show w.drew.drew.ownsMap Try.prog 3 (plainElem Try.prog 3) b es.length D0 from hown) (by omega) x L hL hx
      have cL : w.drew.drew.cell? ⟨p, 2, none⟩ = some (.int .i64 L) := by show w.cell? _ = _; rw [r.cell]; rfl
      have c34 : w.drew.drew.cell? ⟨p, 3, none⟩ = some (.map (some b)) := c3
      have O5 := Lib.hid ((Only.refl (fun k => k = b) w).drew.drew.same o5)
      have OW5 := Lib.hid own5
      clear r hown hr0 f hc hno hf own5 o5
      go_enter Try.func60, Try.ntmps60
      go_wp2_with (first
        | (at_lookup; refine wpList_lookup_own_ok_int _ rfl _ _ 86 rfl 3 3 .i64 lawI Try.underlying86 Try.underlying3 (zeroI _) b es.length D0 rfl OW.out _ _ rfl hkey ?_; intro c hat hwc)
        | go_in)
      go_region
      all_goals
        go_wp2_with fail
        go_region
        all_goals
          go_wp2
          go_end0
          refine ⟨rfl, ⟨O5.out.row R1.out ne, ?_, NF.out⟩, O5.out⟩
          unfold noteE
          rw [RM.out]
          refine Md.of OW5.out ?_ (by have := NF.out.apart; unfold noteE at this; rw [RM.out] at this; exact this)
          exact HR0.out.put IM.out x HNO.out
end Go.Proofs.Ytfmmmiiohaaegaa
