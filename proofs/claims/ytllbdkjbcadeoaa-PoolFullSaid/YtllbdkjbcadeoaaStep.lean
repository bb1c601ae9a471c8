/- What one step of layer 4's statements does to a pool, and to the document's own. -/
import Derived.Test.YtllbdkjbcadeoaaPoolS
import Derived.Deep.RegionHeld3
namespace Go.Proofs.Ytllbdkjbcadeoaa
open Go.RowKit
set_option linter.unusedVariables false

/-- what is done, as it stands in memory -/
structure Act1 where
  kind : Int
  i : Int
  n : Int
  v : Int
def Act1.agg (a : Act1) : Value := .agg #[.int .i64 a.kind, .int .i64 a.i, .int .i64 a.n, .int .u64 a.v]

def stepS (fs : List Fr) (a : Act1) : List Fr :=
  if a.kind = 0 then (takeS fs a.n).2.2 else if a.kind = 1 then (fillS fs a.i a.v).2 else if a.kind = 2 then (pinS fs a.i a.n).2 else if a.kind = 3 then (unpinS fs a.i a.n).2 else if a.kind = 4 then (doomS fs a.i).2 else fs

/-- both pools, apart from each other -/
structure Both (w : World) (p b q c : Nat) (fs gs : List Fr) : Prop where
  one : PoolIs w p b fs
  two : RefIs w q c gs
  n1 : p ≠ c
  n2 : b ≠ c
  n3 : q ≠ b
theorem Both.still {w w' : World} {p b q c : Nat} {fs gs : List Fr} (h : Both w p b q c fs gs) (o : Only none_ w w') : Both w' p b q c fs gs := ⟨h.one.still o, h.two.still o, h.n1, h.n2, h.n3⟩
theorem Both.first {w w' : World} {p b q c : Nat} {fs fs' gs : List Fr} (h : Both w p b q c fs gs) (k : PoolIs w' p b fs') (o : Only (fun k => k = b) w w') : Both w' p b q c fs' gs := ⟨k, h.two.keep o h.n3 (fun e => h.n2 e.symm), h.n1, h.n2, h.n3⟩
theorem Both.second {w w' : World} {p b q c : Nat} {fs gs gs' : List Fr} (h : Both w p b q c fs gs) (k : RefIs w' q c gs') (o : Only (fun k => k = c) w w') : Both w' p b q c fs gs' := ⟨h.one.keep o h.n1 h.n2, k, h.n1, h.n2, h.n3⟩

def two_ (b c : Nat) : Nat → Prop := fun k => k = b ∨ k = c
theorem Only.left_ {b c : Nat} {w w' : World} (o : Only (fun k => k = b) w w') : Only (two_ b c) w w' := o.more (fun _ _ s => .inl s)
theorem Only.right_ {b c : Nat} {w w' : World} (o : Only (fun k => k = c) w w') : Only (two_ b c) w w' := o.more (fun _ _ s => .inr s)

/-- a step's end -/
def Stepped (p b q c : Nat) (fs gs fs' gs' : List Fr) (w : World) (e : Ending) (w' : World) : Prop := ∃ r, e = .returned (.bool r) ∧ (fs = gs → r = true) ∧ Both w' p b q c fs' gs' ∧ Only (two_ b c) w w'

theorem act_cells (w : World) (a : Act1) (t : TypeId) : ∀ j v, #[Value.int .i64 a.kind, Value.int .i64 a.i, Value.int .i64 a.n, Value.int .u64 a.v][j]? = some v → (w.alloc (.cells #[.int .i64 a.kind, .int .i64 a.i, .int .i64 a.n, .int .u64 a.v] t)).cell? ⟨w.heap.size, j, none⟩ = some v := by
  intro j v h
  rw [(Row.fresh w t _).cell]; exact h

set_option maxHeartbeats 1000000 in
theorem step_fill (p b q c : Nat) (fs gs : List Fr) (a : Act1) (w : World) (h : Both w p b q c fs gs) (hF : Fine 1000000 fs) (hG : Fine 1000000 gs) (hk : a.kind = 1) :
    Calls Try.prog 11 #[.pointer (some ⟨p, 0, none⟩), .pointer (some ⟨q, 0, none⟩), a.agg] w (Stepped p b q c fs gs (fillS fs a.i a.v).2 (fillS gs a.i a.v).2 w) := by
  obtain ⟨kind, i, n, v⟩ := a
  simp only at hk
  subst hk
  unfold Act1.agg
  simp only
  have hB := h.still ((Only.refl none_ w).alloc (.cells #[.int .i64 1, .int .i64 i, .int .i64 n, .int .u64 v] 33))
  have HB := Lib.hid hB
  have c1 := act_cells w ⟨1, i, n, v⟩ 33 1 (.int .i64 i) rfl
  have c3 := act_cells w ⟨1, i, n, v⟩ 33 3 (.int .u64 v) rfl
  have o0 := (Only.refl (two_ b c) w).alloc (.cells #[.int .i64 1, .int .i64 i, .int .i64 n, .int .u64 v] 33)
  have bl := h.one.bl
  have cl := h.two.bl
  have O0 := Lib.hid o0
  simp only at c1 c3
  have HF := Lib.hid hF
  have HG := Lib.hid hG
  clear h hB o0 hF hG
  go_enter Try.func11, Try.ntmps11
  go_wp2_with fail
  generalize (w.alloc (.cells #[.int .i64 1, .int .i64 i, .int .i64 n, .int .u64 v] 33)) = W at *
  have HD := Lib.hid (HB.out.still (Only.refl none_ W).drew)
  have OD := Lib.hid (O0.out.drew)
  go_region_held3 (fun w' => w'.cell? ⟨w.heap.size, 1, none⟩ = some (.int .i64 i) ∧ w'.cell? ⟨w.heap.size, 3, none⟩ = some (.int .u64 v))
    (first
      | (go_keep; done)
      | (go_split_ands; exact ⟨o1.cell c1 (by show ¬ w.heap.size = b; omega), o1.cell c3 (by show ¬ w.heap.size = b; omega)⟩)
      | (go_split_ands; exact ⟨o2.cell (o1.cell c1 (by show ¬ w.heap.size = b; omega)) (by show ¬ w.heap.size = c; omega), o2.cell (o1.cell c3 (by show ¬ w.heap.size = b; omega)) (by show ¬ w.heap.size = c; omega)⟩))
    (first
      | (go_at_call 20; refine (fill_any p b fs i v _ ?_).mono ?_; (exact HD.out.one); rintro e w1 ⟨rfl, h1, o1⟩; have HB1 := Lib.hid (HD.out.first h1 o1))
      | (go_at_call 26; refine (refFill q c gs i v _ ?_).mono ?_; (exact HB1.out.two); rintro e w2 ⟨rfl, h2, o2⟩; have HB2 := Lib.hid (HB1.out.second h2 o2)))
  have O2 := Lib.hid ((OD.out.same o1.left_).same o2.right_)
  clear o1 o2 h1 h2
  go_wp2_with fail
  go_ret
  exact ⟨_, rfl, fun e => by subst e; simp, HB2.out, O2.out⟩

set_option maxHeartbeats 1000000 in
theorem step_pin (p b q c : Nat) (fs gs : List Fr) (a : Act1) (w : World) (h : Both w p b q c fs gs) (hF : Fine 1000000 fs) (hG : Fine 1000000 gs) (hk : a.kind = 2) :
    Calls Try.prog 11 #[.pointer (some ⟨p, 0, none⟩), .pointer (some ⟨q, 0, none⟩), a.agg] w (Stepped p b q c fs gs (pinS fs a.i a.n).2 (pinS gs a.i a.n).2 w) := by
  obtain ⟨kind, i, n, v⟩ := a
  simp only at hk
  subst hk
  unfold Act1.agg
  simp only
  have hB := h.still ((Only.refl none_ w).alloc (.cells #[.int .i64 2, .int .i64 i, .int .i64 n, .int .u64 v] 33))
  have HB := Lib.hid hB
  have c1 := act_cells w ⟨2, i, n, v⟩ 33 1 (.int .i64 i) rfl
  have c2 := act_cells w ⟨2, i, n, v⟩ 33 2 (.int .i64 n) rfl
  have o0 := (Only.refl (two_ b c) w).alloc (.cells #[.int .i64 2, .int .i64 i, .int .i64 n, .int .u64 v] 33)
  have bl := h.one.bl
  have cl := h.two.bl
  have O0 := Lib.hid o0
  simp only at c1 c2
  have HF := Lib.hid hF
  have HG := Lib.hid hG
  clear h hB o0 hF hG
  go_enter Try.func11, Try.ntmps11
  go_wp2_with fail
  generalize (w.alloc (.cells #[.int .i64 2, .int .i64 i, .int .i64 n, .int .u64 v] 33)) = W at *
  have HD := Lib.hid (HB.out.still (Only.refl none_ W).drew)
  have OD := Lib.hid (O0.out.drew)
  go_region_held3 (fun w' => w'.cell? ⟨w.heap.size, 1, none⟩ = some (.int .i64 i) ∧ w'.cell? ⟨w.heap.size, 2, none⟩ = some (.int .i64 n))
    (first
      | (go_keep; done)
      | (go_split_ands; exact ⟨o1.cell c1 (by show ¬ w.heap.size = b; omega), o1.cell c2 (by show ¬ w.heap.size = b; omega)⟩)
      | (go_split_ands; exact ⟨o2.cell (o1.cell c1 (by show ¬ w.heap.size = b; omega)) (by show ¬ w.heap.size = c; omega), o2.cell (o1.cell c2 (by show ¬ w.heap.size = b; omega)) (by show ¬ w.heap.size = c; omega)⟩))
    (first
      | (go_at_call 19; refine (pin_any p b fs i n _ ?_ HF.out).mono ?_; (exact HD.out.one); rintro e w1 ⟨rfl, h1, o1⟩; have HB1 := Lib.hid (HD.out.first h1 o1))
      | (go_at_call 27; refine (refPin q c gs i n _ ?_ HG.out).mono ?_; (exact HB1.out.two); rintro e w2 ⟨rfl, h2, o2⟩; have HB2 := Lib.hid (HB1.out.second h2 o2)))
  have O2 := Lib.hid ((OD.out.same o1.left_).same o2.right_)
  clear o1 o2 h1 h2
  go_wp2_with fail
  go_ret
  exact ⟨_, rfl, fun e => by subst e; simp, HB2.out, O2.out⟩

set_option maxHeartbeats 1000000 in
theorem step_unpin (p b q c : Nat) (fs gs : List Fr) (a : Act1) (w : World) (h : Both w p b q c fs gs) (hF : Fine 1000000 fs) (hG : Fine 1000000 gs) (hk : a.kind = 3) :
    Calls Try.prog 11 #[.pointer (some ⟨p, 0, none⟩), .pointer (some ⟨q, 0, none⟩), a.agg] w (Stepped p b q c fs gs (unpinS fs a.i a.n).2 (unpinS gs a.i a.n).2 w) := by
  obtain ⟨kind, i, n, v⟩ := a
  simp only at hk
  subst hk
  unfold Act1.agg
  simp only
  have hB := h.still ((Only.refl none_ w).alloc (.cells #[.int .i64 3, .int .i64 i, .int .i64 n, .int .u64 v] 33))
  have HB := Lib.hid hB
  have c1 := act_cells w ⟨3, i, n, v⟩ 33 1 (.int .i64 i) rfl
  have c2 := act_cells w ⟨3, i, n, v⟩ 33 2 (.int .i64 n) rfl
  have o0 := (Only.refl (two_ b c) w).alloc (.cells #[.int .i64 3, .int .i64 i, .int .i64 n, .int .u64 v] 33)
  have bl := h.one.bl
  have cl := h.two.bl
  have O0 := Lib.hid o0
  simp only at c1 c2
  have HF := Lib.hid hF
  have HG := Lib.hid hG
  clear h hB o0 hF hG
  go_enter Try.func11, Try.ntmps11
  go_wp2_with fail
  generalize (w.alloc (.cells #[.int .i64 3, .int .i64 i, .int .i64 n, .int .u64 v] 33)) = W at *
  have HD := Lib.hid (HB.out.still (Only.refl none_ W).drew)
  have OD := Lib.hid (O0.out.drew)
  go_region_held3 (fun w' => w'.cell? ⟨w.heap.size, 1, none⟩ = some (.int .i64 i) ∧ w'.cell? ⟨w.heap.size, 2, none⟩ = some (.int .i64 n))
    (first
      | (go_keep; done)
      | (go_split_ands; exact ⟨o1.cell c1 (by show ¬ w.heap.size = b; omega), o1.cell c2 (by show ¬ w.heap.size = b; omega)⟩)
      | (go_split_ands; exact ⟨o2.cell (o1.cell c1 (by show ¬ w.heap.size = b; omega)) (by show ¬ w.heap.size = c; omega), o2.cell (o1.cell c2 (by show ¬ w.heap.size = b; omega)) (by show ¬ w.heap.size = c; omega)⟩))
    (first
      | (go_at_call 21; refine (unpin_any p b fs i n _ ?_ HF.out).mono ?_; (exact HD.out.one); rintro e w1 ⟨rfl, h1, o1⟩; have HB1 := Lib.hid (HD.out.first h1 o1))
      | (go_at_call 28; refine (refUnpin q c gs i n _ ?_ HG.out).mono ?_; (exact HB1.out.two); rintro e w2 ⟨rfl, h2, o2⟩; have HB2 := Lib.hid (HB1.out.second h2 o2)))
  have O2 := Lib.hid ((OD.out.same o1.left_).same o2.right_)
  clear o1 o2 h1 h2
  go_wp2_with fail
  go_ret
  exact ⟨_, rfl, fun e => by subst e; simp, HB2.out, O2.out⟩

set_option maxHeartbeats 1000000 in
theorem step_doom (p b q c : Nat) (fs gs : List Fr) (a : Act1) (w : World) (h : Both w p b q c fs gs) (hF : Fine 1000000 fs) (hG : Fine 1000000 gs) (hk : a.kind = 4) :
    Calls Try.prog 11 #[.pointer (some ⟨p, 0, none⟩), .pointer (some ⟨q, 0, none⟩), a.agg] w (Stepped p b q c fs gs (doomS fs a.i).2 (doomS gs a.i).2 w) := by
  obtain ⟨kind, i, n, v⟩ := a
  simp only at hk
  subst hk
  unfold Act1.agg
  simp only
  have hB := h.still ((Only.refl none_ w).alloc (.cells #[.int .i64 4, .int .i64 i, .int .i64 n, .int .u64 v] 33))
  have HB := Lib.hid hB
  have c1 := act_cells w ⟨4, i, n, v⟩ 33 1 (.int .i64 i) rfl
  have o0 := (Only.refl (two_ b c) w).alloc (.cells #[.int .i64 4, .int .i64 i, .int .i64 n, .int .u64 v] 33)
  have bl := h.one.bl
  have cl := h.two.bl
  have O0 := Lib.hid o0
  simp only at c1
  have HF := Lib.hid hF
  have HG := Lib.hid hG
  clear h hB o0 hF hG
  go_enter Try.func11, Try.ntmps11
  go_wp2_with fail
  generalize (w.alloc (.cells #[.int .i64 4, .int .i64 i, .int .i64 n, .int .u64 v] 33)) = W at *
  have HD := Lib.hid (HB.out.still (Only.refl none_ W).drew)
  have OD := Lib.hid (O0.out.drew)
  go_region_held3 (fun w' => w'.cell? ⟨w.heap.size, 1, none⟩ = some (.int .i64 i))
    (first
      | (go_keep; done)
      | (exact o1.cell c1 (by show ¬ w.heap.size = b; omega))
      | (exact o2.cell (o1.cell c1 (by show ¬ w.heap.size = b; omega)) (by show ¬ w.heap.size = c; omega)))
    (first
      | (go_at_call 18; refine (doom_any p b fs i _ ?_).mono ?_; (exact HD.out.one); rintro e w1 ⟨rfl, h1, o1⟩; have HB1 := Lib.hid (HD.out.first h1 o1))
      | (go_at_call 29; refine (refDoom q c gs i _ ?_ HG.out).mono ?_; (exact HB1.out.two); rintro e w2 ⟨rfl, h2, o2⟩; have HB2 := Lib.hid (HB1.out.second h2 o2)))
  have O2 := Lib.hid ((OD.out.same o1.left_).same o2.right_)
  clear o1 o2 h1 h2
  go_wp2_with fail
  go_ret
  exact ⟨_, rfl, fun e => by subst e; simp, HB2.out, O2.out⟩

set_option maxHeartbeats 1000000 in
theorem step_take (p b q c : Nat) (fs gs : List Fr) (a : Act1) (w : World) (h : Both w p b q c fs gs) (hF : Fine 1000000 fs) (hG : Fine 1000000 gs) (hk : a.kind = 0) :
    Calls Try.prog 11 #[.pointer (some ⟨p, 0, none⟩), .pointer (some ⟨q, 0, none⟩), a.agg] w (Stepped p b q c fs gs (takeS fs a.n).2.2 (takeS gs a.n).2.2 w) := by
  obtain ⟨kind, i, n, v⟩ := a
  simp only at hk
  subst hk
  unfold Act1.agg
  simp only
  have hB := h.still ((Only.refl none_ w).alloc (.cells #[.int .i64 0, .int .i64 i, .int .i64 n, .int .u64 v] 33))
  have HB := Lib.hid hB
  have c2 := act_cells w ⟨0, i, n, v⟩ 33 2 (.int .i64 n) rfl
  have o0 := (Only.refl (two_ b c) w).alloc (.cells #[.int .i64 0, .int .i64 i, .int .i64 n, .int .u64 v] 33)
  have bl := h.one.bl
  have cl := h.two.bl
  have O0 := Lib.hid o0
  simp only at c2
  have HF := Lib.hid hF
  have HG := Lib.hid hG
  clear h hB o0 hF hG
  go_enter Try.func11, Try.ntmps11
  go_wp2_with fail
  generalize (w.alloc (.cells #[.int .i64 0, .int .i64 i, .int .i64 n, .int .u64 v] 33)) = W at *
  (with_reducible refine (take_any p b fs n _ HB.out.one HF.out).mono ?_)
  rintro e w1 ⟨rfl, h1, o1⟩
  have HB1 := Lib.hid (HB.out.first h1 o1)
  have c2' := o1.cell c2 (by show ¬ w.heap.size = b; omega)
  have O1 := Lib.hid (O0.out.same o1.left_)
  clear h1 o1 c2
  go_wp2_with fail
  (with_reducible refine (refTake q c gs n _ HB1.out.two HG.out).mono ?_)
  rintro e w2 ⟨rfl, h2, o2⟩
  have HB2 := Lib.hid (HB1.out.second h2 o2)
  have O2 := Lib.hid (O1.out.same o2.right_)
  clear h2 o2
  by_cases t : (takeS fs n).1 = (takeS gs n).1
  · have t1 : ((takeS fs n).1 == (takeS gs n).1) = true := by simpa using t
    clear t
    go_wp2_with fail
    go_ret
    exact ⟨_, rfl, fun e => by subst e; simp, HB2.out, O2.out⟩
  · have t1 : ((takeS fs n).1 == (takeS gs n).1) = false := by simpa using t
    have T := Lib.hid t
    clear t
    go_wp2_with fail
    go_ret
    exact ⟨_, rfl, fun e => absurd (by rw [e]) T.out, HB2.out, O2.out⟩
set_option maxHeartbeats 1000000 in
theorem step_else (p b q c : Nat) (fs gs : List Fr) (a : Act1) (w : World) (h : Both w p b q c fs gs) (k0 : ¬ a.kind = 0) (k1 : ¬ a.kind = 1) (k2 : ¬ a.kind = 2) (k3 : ¬ a.kind = 3) (k4 : ¬ a.kind = 4) :
    Calls Try.prog 11 #[.pointer (some ⟨p, 0, none⟩), .pointer (some ⟨q, 0, none⟩), a.agg] w (Stepped p b q c fs gs fs gs w) := by
  obtain ⟨kind, i, n, v⟩ := a
  unfold Act1.agg
  simp only at *
  have HB := Lib.hid h
  clear h
  have t0 : (kind == 0) = false := by simpa using k0
  have t1 : (kind == 1) = false := by simpa using k1
  have t2 : (kind == 2) = false := by simpa using k2
  have t3 : (kind == 3) = false := by simpa using k3
  have t4 : (kind == 4) = false := by simpa using k4
  clear k0 k1 k2 k3 k4
  go_enter Try.func11, Try.ntmps11
  go_wp2_with fail
  go_ret
  exact ⟨true, rfl, fun _ => rfl, HB.out.still ((Only.refl none_ w).alloc _), (Only.refl _ w).alloc _⟩

theorem step_any (p b q c : Nat) (fs gs : List Fr) (a : Act1) (w : World) (h : Both w p b q c fs gs) (hF : Fine 1000000 fs) (hG : Fine 1000000 gs) :
    Calls Try.prog 11 #[.pointer (some ⟨p, 0, none⟩), .pointer (some ⟨q, 0, none⟩), a.agg] w (Stepped p b q c fs gs (stepS fs a) (stepS gs a) w) := by
  unfold stepS
  by_cases k0 : a.kind = 0
  · simp only [if_pos k0]; exact step_take p b q c fs gs a w h hF hG k0
  by_cases k1 : a.kind = 1
  · simp only [if_neg k0, if_pos k1]; exact step_fill p b q c fs gs a w h hF hG k1
  by_cases k2 : a.kind = 2
  · simp only [if_neg k0, if_neg k1, if_pos k2]; exact step_pin p b q c fs gs a w h hF hG k2
  by_cases k3 : a.kind = 3
  · simp only [if_neg k0, if_neg k1, if_neg k2, if_pos k3]; exact step_unpin p b q c fs gs a w h hF hG k3
  by_cases k4 : a.kind = 4
  · simp only [if_neg k0, if_neg k1, if_neg k2, if_neg k3, if_pos k4]; exact step_doom p b q c fs gs a w h hF hG k4
  · simp only [if_neg k0, if_neg k1, if_neg k2, if_neg k3, if_neg k4]; exact step_else p b q c fs gs a w h k0 k1 k2 k3 k4
end Go.Proofs.Ytllbdkjbcadeoaa
