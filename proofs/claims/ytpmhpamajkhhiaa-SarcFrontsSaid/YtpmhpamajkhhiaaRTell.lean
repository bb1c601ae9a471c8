/- What the document's own policy tells: Room, Same; New. -/
import Derived.Test.YtpmhpamajkhhiaaRVict
import Derived.Test.YtpmhpamajkhhiaaSarcN
import Derived.Test.YtpmhpamajkhhiaaInt
namespace Go.Proofs.Ytpmhpamajkhhiaa
open Go.RowKit
set_option linter.unusedVariables false

theorem filter_two {α : Type} (p q : α → Bool) (l : List α) : (l.filter (fun x => p x && !q x)).length + (l.filter (fun x => p x && q x)).length = (l.filter p).length := by
  induction l with
  | nil => rfl
  | cons x l ih =>
    cases hp : p x <;> cases hq : q x <;> simp [hp, hq] at ih ⊢ <;> omega
/-- of the first k those that lie, and are not held -/
def freeTo (s : Sh) (k : Nat) : Nat := ((List.range k).filter (fun j => s.liesB j && !s.h j)).length
theorem freeTo_more (s : Sh) (k : Nat) : freeTo s (k + 1) = if (s.liesB k && !s.h k) = true then freeTo s k + 1 else freeTo s k := by
  unfold freeTo
  rw [List.range_succ, List.filter_append]
  cases e : (s.liesB k && !s.h k) <;> simp [e]
theorem freeTo_le (s : Sh) (k : Nat) : freeTo s k ≤ k := by
  unfold freeTo
  exact Nat.le_trans (List.length_filter_le _ _) (by simp)
theorem freeTo_all {c : Sc} (f : c.Fine) : freeTo c.s c.s.n = c.room := by
  have h1 := filter_two c.s.liesB c.s.h (List.range c.s.n)
  have h2 : (List.range c.s.n).filter (fun x => c.s.liesB x && c.s.h x) = c.s.heldL := by
    unfold Sh.heldL
    apply List.filter_congr
    intro x hx
    cases e : c.s.h x with
    | false => simp
    | true =>
      have := f.held x e
      unfold Sh.liesB
      simp [this]
  have h3 := cnt_all f.s
  unfold Sh.cnt at h3
  rw [h2, h3] at h1
  unfold freeTo Sc.room
  omega

set_option maxHeartbeats 400000 in
theorem room_ref (r q hb : Nat) (ro : Nat → Prop) (c : Sc) (w : World) (h : RSc w r q hb ro c) :
    Calls Try.prog 17 #[.pointer (some ⟨r, 0, none⟩)] w fun e w' => e = .returned (.int .i64 c.room) ∧ Only none_ w w' := by
  have H := Lib.hid h
  have n64 := h.fine.s.n64
  have FA := Lib.hid (freeTo_all h.fine)
  have FM := Lib.hid (freeTo_more c.s)
  have FL := freeTo_le c.s
  have SI := Lib.hid (fun j (hj : j < c.s.n) w' (o : Only none_ w w') => sin_ref r q hb ro c j w' (h.raw.still o) hj)
  clear h
  go_enter Try.func17, Try.ntmps17
  go_wp2_with fail
  go_loopw [3, 4] (fun v i wr => ∃ (k : Nat), k ≤ c.s.n ∧ i = .int .i64 k ∧ v = .int .i64 (freeTo c.s k) ∧ Only none_ w wr) (fun _ i _ => c.s.n - (intOf i).toNat)
  case atStart => exact ⟨0, Nat.zero_le _, rfl, rfl, Only.refl _ _⟩
  case round =>
    obtain ⟨k, hk, rfl, rfl, ho⟩ := hrel
    have HO := Lib.hid ho
    have HW := Lib.hid (H.out.still ho)
    have c0 := HW.out.raw.r0
    have q0 := HW.out.raw.q0
    clear ho
    by_cases hlt : k < c.s.n
    · have bk : (k : Int) < (c.s.n : Int) := by omega
      have dk : decide ((k : Int) < (c.s.n : Int)) = true := decide_eq_true bk
      have FMk := FM.out k
      have lk := FL k
      have S1 := SI.out k hlt _ HO.out
      cases el : c.s.liesB k with
      | false =>
        rw [el] at S1
        replace S1 := Lib.hid S1
        rw [el, Bool.false_and, if_neg (by decide)] at FMk
        replace FMk := Lib.hid FMk
        clear el
        go_wp2_with fail
        (with_reducible refine (S1.out).mono ?_)
        rintro e w1 ⟨rfl, o1⟩
        have O1 := Lib.hid (HO.out.same o1)
        clear o1
        go_wp2_with fail
        go_roundw
        case rel => exact ⟨k + 1, by omega, by go_num, by rw [FMk.out], O1.out⟩
        case measure => simp [intOf]; omega
      | true =>
        rw [el] at S1
        replace S1 := Lib.hid S1
        have MK := Lib.hid (fun w' (o : Only none_ w w') => (H.out.raw.still o).mark hlt)
        cases eh : c.s.h k with
        | true =>
          rw [el, eh, Bool.not_true, Bool.and_false, if_neg (by decide)] at FMk
          replace FMk := Lib.hid FMk
          rw [eh] at MK
          clear el eh
          go_wp2_with fail
          (with_reducible refine (S1.out).mono ?_)
          rintro e w1 ⟨rfl, o1⟩
          have O1 := Lib.hid (HO.out.same o1)
          have c0 := (H.out.raw.still O1.out).r0
          have q4 := (H.out.raw.still O1.out).q4
          have mk := MK.out _ O1.out
          clear o1 MK
          go_wp2_with fail
          go_roundw
          case rel => exact ⟨k + 1, by omega, by go_num, by rw [FMk.out], O1.out⟩
          case measure => simp [intOf]; omega
        | false =>
          rw [el, eh, Bool.not_false, Bool.and_true, if_pos rfl] at FMk
          replace FMk := Lib.hid FMk
          rw [eh] at MK
          clear el eh
          go_wp2_with fail
          (with_reducible refine (S1.out).mono ?_)
          rintro e w1 ⟨rfl, o1⟩
          have O1 := Lib.hid (HO.out.same o1)
          have c0 := (H.out.raw.still O1.out).r0
          have q4 := (H.out.raw.still O1.out).q4
          have mk := MK.out _ O1.out
          clear o1 MK
          go_wp2_with fail
          go_roundw
          case rel => exact ⟨k + 1, by omega, by go_num, by rw [FMk.out]; go_num, O1.out⟩
          case measure => simp [intOf]; omega
    · have hk2 : k = c.s.n := by omega
      subst hk2
      have dk : decide ((c.s.n : Int) < (c.s.n : Int)) = false := by simp
      rw [FA.out]
      go_wp2_with fail
      go_ret
      exact ⟨rfl, HO.out⟩

def MakesRsc (n bot : Nat) (w : World) (e : Ending) (w' : World) : Prop := ∃ r q hb base, e = .returned (.pointer (some ⟨r, 0, none⟩)) ∧ RSc w' r q hb (fun g => base ≤ g) (newSc n bot) ∧ w.heap.size ≤ r ∧ w.heap.size ≤ q ∧ w.heap.size ≤ hb ∧ w.heap.size ≤ base ∧ r < base ∧ q < base ∧ hb < base ∧ base ≤ w'.heap.size ∧ Only none_ w w'
set_option maxHeartbeats 400000 in
theorem snew_ref (n bot : Nat) (w : World) (h1 : 1 ≤ bot) (h2 : bot ≤ n) (h3 : n ≤ 64) :
    Calls Try.prog 12 #[.int .i64 n, .int .i64 bot] w (MakesRsc n bot w) := by
  have NW := Lib.hid (fun w => new_ref n bot w h1 h2 h3)
  have FN := Lib.hid (fine_newSc h1 h2 h3)
  go_enter Try.func12, Try.ntmps12
  go_wp2_with fail
  (with_reducible refine (NW.out _).mono ?_)
  rintro e w1 ⟨q, hb, base0, rfl, s, lq, lh, bq, bh, be, o1⟩
  have S := Lib.hid s
  have O1 := Lib.hid o1
  clear s o1 NW
  go_wp2_with fail
  go_ret
  have oa := (Only.refl none_ w1).alloc (.cells #[.pointer (some ⟨q, 0, none⟩), .int .i64 0, .int .u64 0, .int .u64 0, .slice none 0 0] 67)
  have ra := Row.fresh w1 67 #[.pointer (some ⟨q, 0, none⟩), .int .i64 0, .int .u64 0, .int .u64 0, .slice none 0 0]
  obtain ⟨f, ⟨v0, v1, x, p0, p1⟩, hr, ne, l1, l2, l3⟩ := S.out
  have mv : ∀ {v : Value} {xs : List Int}, OwnsOk w1 (fun g => base0 ≤ g) v xs → OwnsOk (w1.alloc (.cells #[.pointer (some ⟨q, 0, none⟩), .int .i64 0, .int .u64 0, .int .u64 0, .slice none 0 0] 67)) (okB (fun g => w1.heap.size + 1 ≤ g) (.slice none 0 0)) v xs := fun {v xs} p =>
    ⟨p.1.still oa, fun g hg => absurd (p.lt hg) (by have : base0 ≤ g := p.2 g hg; omega)⟩
  refine ⟨w1.heap.size, q, hb, w1.heap.size + 1, rfl, ⟨⟨⟨.slice none 0 0, ra, OwnsOk.start _ _, ⟨f, ⟨v0, v1, oa.still x, mv p0, mv p1⟩, oa.still hr, ne, fun e => by have := e.1; omega, fun e => by have := e.1; omega, fun g hg => ⟨by simpa using hg, fun e => by cases e⟩⟩⟩, by omega, by omega, by omega, by omega, by omega, fun g hg => by simpa using hg⟩, FN.out⟩, O1.out.size, lq, lh, Nat.le_trans O1.out.size (Nat.le_succ _), by omega, by omega, by omega, by simp, O1.out.same oa⟩

set_option maxRecDepth 100000 in
set_option maxHeartbeats 600000 in
theorem psame_ref (r q hb : Nat) (ro : Nat → Prop) (c : Sc) (w : World) (h : RSc w r q hb ro c) (hu : c.us.length < 1000000) (v0 v1 v2 : Value) (b0 b1 b2 : Nat) (o0 : OwnsInts w b0 v0 (ints c.s.l0)) (o1 : OwnsInts w b1 v1 (ints c.s.l1)) (o2 : OwnsInts w b2 v2 (ints c.s.heldL)) :
    Calls Try.prog 14 #[.pointer (some ⟨r, 0, none⟩), polV v0 v1 v2 c] w fun e w' => e = .returned (.bool true) ∧ Only none_ w w' := by
  have H := Lib.hid h
  obtain ⟨a0, n0, k0, rfl⟩ := own_form o0
  obtain ⟨a1, n1, k1, rfl⟩ := own_form o1
  obtain ⟨a2, n2, k2, rfl⟩ := own_form o2
  obtain ⟨al0, nl0, kl0, cl0, hn0, rd0⟩ := h.raw.list0
  obtain ⟨al1, nl1, kl1, cl1, hn1, rd1⟩ := h.raw.list1
  subst hn0 hn1
  obtain ⟨ok, sk⟩ := h.raw.shelf
  have le0 := fine_len0 h.fine.s
  have le1 := fine_len1 h.fine.s
  have leh := held_len7 h.fine.s
  have I0 := Lib.hid (fun w' (o : Only none_ w w') => ints_any _ _ _ _ w' ((Reads.of_owns o0).still o) (rd0.still o) (by rw [ints_len]; omega) (by rw [ints_len]; omega))
  have I1 := Lib.hid (fun w' (o : Only none_ w w') => ints_any _ _ _ _ w' ((Reads.of_owns o1).still o) (rd1.still o) (by rw [ints_len]; omega) (by rw [ints_len]; omega))
  have I2 := Lib.hid (fun (v : Value) w' (o : Only none_ w w') (rv : Reads w' v (ints c.s.heldL)) => ints_any _ v _ _ w' ((Reads.of_owns o2).still o) rv (by rw [ints_len]; omega) (by rw [ints_len]; omega))
  simp only [decide_true] at I0 I1 I2
  have HE := Lib.hid (fun w' (o : Only none_ w w') => held_ref q hb ok c.s w' (sk.still o))
  have CL0 := Lib.hid cl0
  have CL1 := Lib.hid cl1
  clear h o0 o1 o2 cl0 cl1 rd0 rd1 sk
  unfold polV
  go_enter Try.func14, Try.ntmps14
  go_wp2_with fail
  have oa := (Only.refl none_ w).alloc (.cells #[.slice a0 n0 k0, .slice a1 n1 k1, .slice a2 n2 k2, .int .i64 c.want, .int .u64 c.miss, .int .u64 c.hits] 39)
  have ra := Row.fresh w 39 #[.slice a0 n0 k0, .slice a1 n1 k1, .slice a2 n2 k2, .int .i64 c.want, .int .u64 c.miss, .int .u64 c.hits]
  generalize w.alloc (.cells #[.slice a0 n0 k0, .slice a1 n1 k1, .slice a2 n2 k2, .int .i64 c.want, .int .u64 c.miss, .int .u64 c.hits] 39) = w0 at *
  have KS := Lib.hid (show ∀ w', Only none_ w0 w' → w'.cell? ⟨w.heap.size, 0, none⟩ = some (.slice a0 n0 k0) ∧ w'.cell? ⟨w.heap.size, 1, none⟩ = some (.slice a1 n1 k1) ∧ w'.cell? ⟨w.heap.size, 2, none⟩ = some (.slice a2 n2 k2) ∧ w'.cell? ⟨w.heap.size, 3, none⟩ = some (.int .i64 c.want) ∧ w'.cell? ⟨w.heap.size, 4, none⟩ = some (.int .u64 c.miss) ∧ w'.cell? ⟨w.heap.size, 5, none⟩ = some (.int .u64 c.hits) ∧ w'.cell? ⟨r, 0, none⟩ = some (.pointer (some ⟨q, 0, none⟩)) ∧ w'.cell? ⟨r, 1, none⟩ = some (.int .i64 c.want) ∧ w'.cell? ⟨r, 2, none⟩ = some (.int .u64 c.miss) ∧ w'.cell? ⟨r, 3, none⟩ = some (.int .u64 c.hits) ∧ w'.cell? ⟨q, 2, none⟩ = some (.slice al0 c.s.l0.length kl0) ∧ w'.cell? ⟨q, 3, none⟩ = some (.slice al1 c.s.l1.length kl1) from fun w' o => (And.intro (o.cell ((ra.cell 0).trans rfl) (fun s => s)) (And.intro (o.cell ((ra.cell 1).trans rfl) (fun s => s)) (And.intro (o.cell ((ra.cell 2).trans rfl) (fun s => s)) (And.intro (o.cell ((ra.cell 3).trans rfl) (fun s => s)) (And.intro (o.cell ((ra.cell 4).trans rfl) (fun s => s)) (And.intro (o.cell ((ra.cell 5).trans rfl) (fun s => s)) (And.intro (o.cell (H.out.raw.still oa).r0 (fun s => s)) (And.intro (o.cell (H.out.raw.still oa).r1 (fun s => s)) (And.intro (o.cell (H.out.raw.still oa).r2 (fun s => s)) (And.intro (o.cell (H.out.raw.still oa).r3 (fun s => s)) (And.intro (o.cell (oa.cell CL0.out (fun s => s)) (fun s => s)) (o.cell (oa.cell CL1.out (fun s => s)) (fun s => s))))))))))))))
  have OA := Lib.hid oa
  have OD := Lib.hid (Only.refl none_ w0).drew
  clear oa ra CL0 CL1
  go_region_held3 (fun w' => w'.cell? ⟨w.heap.size, 0, none⟩ = some (.slice a0 n0 k0) ∧ w'.cell? ⟨w.heap.size, 1, none⟩ = some (.slice a1 n1 k1) ∧ w'.cell? ⟨w.heap.size, 2, none⟩ = some (.slice a2 n2 k2) ∧ w'.cell? ⟨w.heap.size, 3, none⟩ = some (.int .i64 c.want) ∧ w'.cell? ⟨w.heap.size, 4, none⟩ = some (.int .u64 c.miss) ∧ w'.cell? ⟨w.heap.size, 5, none⟩ = some (.int .u64 c.hits) ∧ w'.cell? ⟨r, 0, none⟩ = some (.pointer (some ⟨q, 0, none⟩)) ∧ w'.cell? ⟨r, 1, none⟩ = some (.int .i64 c.want) ∧ w'.cell? ⟨r, 2, none⟩ = some (.int .u64 c.miss) ∧ w'.cell? ⟨r, 3, none⟩ = some (.int .u64 c.hits) ∧ w'.cell? ⟨q, 2, none⟩ = some (.slice al0 c.s.l0.length kl0) ∧ w'.cell? ⟨q, 3, none⟩ = some (.slice al1 c.s.l1.length kl1))
    (first
      | (with_reducible exact KS.out _ OB4.out)
      | (with_reducible exact KS.out _ OB3.out)
      | (with_reducible exact KS.out _ OB2.out)
      | (with_reducible exact KS.out _ OB1.out)
      | (with_reducible exact KS.out _ OD.out)
      | (fail))
    (first
      | (go_at_call 25; (with_reducible refine (I0.out _ (OA.out.same OD.out)).mono ?_); rintro e w1 ⟨rfl, p1⟩; have OB1 := Lib.hid (OD.out.same p1))
      | (go_at_call 25; (with_reducible refine (I1.out _ (OA.out.same OB1.out)).mono ?_); rintro e w2 ⟨rfl, p2⟩; have OB2 := Lib.hid (OB1.out.same p2))
      | (go_at_call 35; (with_reducible refine (HE.out _ (OA.out.same OB2.out)).mono ?_); rintro e w3 ⟨v3, rfl, hv3, p3⟩; have OB3 := Lib.hid (OB2.out.same p3); have RV := Lib.hid (Reads.of_owns hv3); clear hv3)
      | (go_at_call 25; (with_reducible refine (I2.out _ _ (OA.out.same OB3.out) RV.out).mono ?_); rintro e w4 ⟨rfl, p4⟩; have OB4 := Lib.hid (OB3.out.same p4))
      | (fail))
  all_goals
    go_wp2_with fail
    go_ret
    exact ⟨rfl, OA.out.same OB4.out⟩
end Go.Proofs.Ytpmhpamajkhhiaa
