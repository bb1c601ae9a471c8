/- What the exported calls of package pool answer. -/
import Derived.Test.YtllbdkjbcadeoaaPoolT
namespace Go.Proofs.Ytllbdkjbcadeoaa
open Go.RowKit
set_option linter.unusedVariables false

/-- a frame as frames are: of a state, with not too many pins and takings -/
structure Fr.Fine (K : Int) (f : Fr) : Prop where
  s0 : 0 ≤ f.st
  s1 : f.st ≤ 3
  p0 : 0 ≤ f.pins
  p1 : f.pins ≤ K
  g0 : 0 ≤ f.gen
  g1 : f.gen ≤ K
  clean : f.st = 0 → f.blk = 0 ∧ f.pins = 0 ∧ f.val = 0
  held : f.st = 3 → 0 < f.pins
def Fine (K : Int) (fs : List Fr) : Prop := ∀ f ∈ fs, f.Fine K

def at? (fs : List Fr) (i : Int) : Option Fr := if 0 ≤ i then fs[i.toNat]? else none
theorem at_some {fs : List Fr} {i : Int} {f : Fr} (h : at? fs i = some f) : ∃ k : Nat, i = k ∧ fs[k]? = some f := by
  unfold at? at h
  split at h
  · exact ⟨i.toNat, by omega, h⟩
  · cases h
theorem at_none {fs : List Fr} {i : Int} (h : at? fs i = none) : i < 0 ∨ (fs.length : Int) ≤ i := by
  unfold at? at h
  split at h
  · have := List.getElem?_eq_none_iff.1 h; omega
  · omega

def doomS (fs : List Fr) (i : Int) : Int × List Fr :=
  match at? fs i with
  | none => (1, fs)
  | some f => if (f.st == 1 || f.st == 2) then (0, fs.set i.toNat f.doomed) else (5, fs)
def fillS (fs : List Fr) (i v : Int) : Int × List Fr :=
  match at? fs i with
  | none => (1, fs)
  | some f => if (f.st == 1 || f.st == 2) then (0, fs.set i.toNat { f with st := 2, val := v }) else (5, fs)
def pinS (fs : List Fr) (i g : Int) : Int × List Fr :=
  match at? fs i with
  | none => (1, fs)
  | some f => if f.st = 0 ∨ f.gen ≠ g then (3, fs) else if (f.st == 1 || f.st == 2) then (0, fs.set i.toNat { f with pins := f.pins + 1 }) else (5, fs)
def unpinS (fs : List Fr) (i g : Int) : Int × List Fr :=
  match at? fs i with
  | none => (1, fs)
  | some f => if f.st = 0 ∨ f.gen ≠ g then (3, fs) else if 0 < f.pins then (0, fs.set i.toNat f.unpinned) else (5, fs)
def takeS (fs : List Fr) (n : Int) : Int × Int × List Fr :=
  if n < 0 then (0, 1, fs) else
  match fs[least fs]? with
  | none => (0, 2, fs)
  | some f => (least fs, 0, fs.set (least fs) ⟨1, n, f.gen + 1, 0, 0⟩)

/-- a code, as Catch has it -/
def coded (c : Int) : Option Int := if c = 0 then none else some c
theorem coded_get (c : Int) : (coded c).getD 0 = c := by unfold coded; split <;> simp_all

theorem only_two (w : World) (o1 o2 : Obj) : Only none_ w ((w.alloc o1).alloc o2) := ((Only.refl none_ w).alloc _).alloc _
theorem only_three (w : World) (o1 o2 o3 : Obj) : Only none_ w (((w.alloc o1).alloc o2).alloc o3) := (((Only.refl none_ w).alloc _).alloc _).alloc _
theorem var_at {w : World} {v : Value} {t : TypeId} {q : Nat} (h : q = w.heap.size) : Var (w.alloc (.cells #[v] t)) q v := by
  subst h
  show World.cell? _ _ = _
  rw [(Row.fresh w t #[v]).cell]; rfl
theorem var_alloc {w : World} {q : Nat} {v : Value} (h : Var w q v) (o : Obj) : Var (w.alloc o) q v := ((Only.refl none_ w).alloc o).cell h (fun s => s)

theorem doom1_any (p b q r : Nat) (fs : List Fr) (i : Int) (w : World) (h : PoolIs w p b fs) (hq : Var w q (.pointer (some ⟨p, 0, none⟩))) (hr : Var w r (.int .i64 i)) :
    Calls Try.prog 34 #[.pointer (some ⟨q, 0, none⟩), .pointer (some ⟨r, 0, none⟩)] w fun e w' => e = done (coded (doomS fs i).1) ∧ PoolIs w' p b (doomS fs i).2 ∧ Only (fun k => k = b) w w' := by
  unfold doomS
  cases hf : at? fs i with
  | none =>
    refine (doom1_out p b q r fs i w h hq hr (at_none hf)).mono ?_
    rintro e w' ⟨rfl, rfl⟩
    exact ⟨rfl, h, Only.refl _ _⟩
  | some f =>
    obtain ⟨k, rfl, hk⟩ := at_some hf
    simp only [Int.toNat_natCast]
    by_cases c : (f.st == 1 || f.st == 2) = true
    · rw [if_pos c]
      refine (doom1_yes p b q r fs k f w h hq hr hk c).mono ?_
      rintro e w' ⟨rfl, h', o⟩
      exact ⟨rfl, h', o⟩
    · rw [if_neg c]
      refine (doom1_busy p b q r fs k f w h hq hr hk (by simpa using c)).mono ?_
      rintro e w' ⟨rfl, o⟩
      exact ⟨rfl, h.still o, o.more (fun _ _ s => s.elim)⟩

theorem catch_pool (G : FuncId) (caps : Array Value) (W : World) (p b : Nat) (fs' : List Fr) (c : Int) (hG : ∀ w, (callFunc G caps).run Try.prog w = .ok (.enter G caps) w) (pl : p < W.heap.size) (bl : b < W.heap.size)
    (h : Calls Try.prog G caps (W.alloc (.cells #[.int .i64 0] 25)) fun e w' => e = done (coded c) ∧ PoolIs w' p b fs' ∧ Only (fun k => k = b) (W.alloc (.cells #[.int .i64 0] 25)) w') :
    Calls Try.prog 22 #[.func (.func G) #[] caps] W fun e w' => e = .returned (.int .i64 c) ∧ PoolIs w' p b fs' ∧ Only (fun k => k = b) W w' := by
  refine (catch_code G caps W (fun k => k = b) (fun r w' => r = coded c ∧ PoolIs w' p b fs') hG (by omega) ?_ (h.mono ?_)).mono ?_
  · rintro r w1 v _ ⟨rfl, h'⟩
    exact ⟨rfl, h'.far (by show p ≠ W.heap.size; omega) (by show b ≠ W.heap.size; omega) v⟩
  · rintro e w' ⟨rfl, h', o⟩
    exact ⟨_, rfl, ⟨rfl, h'⟩, o⟩
  · rintro e w' ⟨r, rfl, ⟨rfl, h'⟩, o⟩
    exact ⟨by rw [coded_get], h', o⟩

theorem Lies.two {t : TypeId} {w : World} {p b : Nat} {fs : List Fr} (h : Lies t w p b fs) (o1 o2 : Obj) : Lies t ((w.alloc o1).alloc o2) p b fs := h.still (only_two w o1 o2)
theorem Lies.three {t : TypeId} {w : World} {p b : Nat} {fs : List Fr} (h : Lies t w p b fs) (o1 o2 o3 : Obj) : Lies t (((w.alloc o1).alloc o2).alloc o3) p b fs := h.still (only_three w o1 o2 o3)
theorem Lies.pl {t : TypeId} {w : World} {p b : Nat} {fs : List Fr} (h : Lies t w p b fs) : p < w.heap.size := h.head.lt
theorem Lies.bl {t : TypeId} {w : World} {p b : Nat} {fs : List Fr} (h : Lies t w p b fs) : b < w.heap.size := h.row.lt

theorem doom_any (p b : Nat) (fs : List Fr) (i : Int) (w : World) (h : PoolIs w p b fs) :
    Calls Try.prog 18 #[.pointer (some ⟨p, 0, none⟩), .int .i64 i] w fun e w' => e = .returned (.int .i64 (doomS fs i).1) ∧ PoolIs w' p b (doomS fs i).2 ∧ Only (fun k => k = b) w w' := by
  have pl := h.pl
  have bl := h.bl
  have C := catch_pool 34 #[.pointer (some ⟨w.heap.size, 0, none⟩), .pointer (some ⟨w.heap.size + 1, 0, none⟩)]
    ((w.alloc (.cells #[.pointer (some ⟨p, 0, none⟩)] 24)).alloc (.cells #[.int .i64 i] 3)) p b (doomS fs i).2 (doomS fs i).1 (fun _ => rfl) (by simp; omega) (by simp; omega)
    (doom1_any p b _ _ fs i _ (h.three _ _ _) (var_alloc (var_alloc (var_at rfl) _) _) (var_alloc (var_at (by simp)) _))
  have C := Lib.hid C
  clear h
  go_enter Try.func18, Try.ntmps18
  go_wp2_with fail
  (with_reducible refine (C.out).mono ?_)
  rintro e w' ⟨rfl, h', o⟩
  have O := Lib.hid ((only_two w _ _).then_ o)
  have H := Lib.hid h'
  go_wp2_with fail
  go_ret
  exact ⟨rfl, H.out, O.out⟩

theorem fill1_any (p b q r s : Nat) (fs : List Fr) (i v : Int) (w : World) (h : PoolIs w p b fs) (hq : Var w q (.pointer (some ⟨p, 0, none⟩))) (hr : Var w r (.int .i64 i)) (hs : Var w s (.int .u64 v)) :
    Calls Try.prog 40 #[.pointer (some ⟨q, 0, none⟩), .pointer (some ⟨r, 0, none⟩), .pointer (some ⟨s, 0, none⟩)] w fun e w' => e = done (coded (fillS fs i v).1) ∧ PoolIs w' p b (fillS fs i v).2 ∧ Only (fun k => k = b) w w' := by
  unfold fillS
  cases hf : at? fs i with
  | none =>
    refine (fill1_out p b q r s fs i v w h hq hr hs (at_none hf)).mono ?_
    rintro e w' ⟨rfl, rfl⟩
    exact ⟨rfl, h, Only.refl _ _⟩
  | some f =>
    obtain ⟨k, rfl, hk⟩ := at_some hf
    simp only [Int.toNat_natCast]
    by_cases c : (f.st == 1 || f.st == 2) = true
    · rw [if_pos c]
      refine (fill1_yes p b q r s fs k v f w h hq hr hs hk c).mono ?_
      rintro e w' ⟨rfl, h', o⟩
      exact ⟨rfl, h', o⟩
    · rw [if_neg c]
      refine (fill1_busy p b q r s fs k v f w h hq hr hs hk (by simpa using c)).mono ?_
      rintro e w' ⟨rfl, o⟩
      exact ⟨rfl, h.still o, o.more (fun _ _ s => s.elim)⟩

theorem fill_any (p b : Nat) (fs : List Fr) (i v : Int) (w : World) (h : PoolIs w p b fs) :
    Calls Try.prog 20 #[.pointer (some ⟨p, 0, none⟩), .int .i64 i, .int .u64 v] w fun e w' => e = .returned (.int .i64 (fillS fs i v).1) ∧ PoolIs w' p b (fillS fs i v).2 ∧ Only (fun k => k = b) w w' := by
  have pl := h.pl
  have bl := h.bl
  have C := catch_pool 40 #[.pointer (some ⟨w.heap.size, 0, none⟩), .pointer (some ⟨w.heap.size + 1, 0, none⟩), .pointer (some ⟨w.heap.size + 2, 0, none⟩)]
    (((w.alloc (.cells #[.pointer (some ⟨p, 0, none⟩)] 24)).alloc (.cells #[.int .i64 i] 3)).alloc (.cells #[.int .u64 v] 31)) p b (fillS fs i v).2 (fillS fs i v).1 (fun _ => rfl) (by simp; omega) (by simp; omega)
    (fill1_any p b _ _ _ fs i v _ ((h.three _ _ _).still ((Only.refl none_ _).alloc _)) (var_alloc (var_alloc (var_alloc (var_at rfl) _) _) _) (var_alloc (var_alloc (var_at (by simp)) _) _) (var_alloc (var_at (by simp)) _))
  have C := Lib.hid C
  clear h
  go_enter Try.func20, Try.ntmps20
  go_wp2_with fail
  (with_reducible refine (C.out).mono ?_)
  rintro e w' ⟨rfl, h', o⟩
  have O := Lib.hid ((only_three w _ _ _).then_ o)
  have H := Lib.hid h'
  go_wp2_with fail
  go_ret
  exact ⟨rfl, H.out, O.out⟩

theorem pin1_any (p b q r s : Nat) (fs : List Fr) (i g : Int) (w : World) (h : PoolIs w p b fs) (hq : Var w q (.pointer (some ⟨p, 0, none⟩))) (hr : Var w r (.int .i64 i)) (hs : Var w s (.int .i64 g)) (hF : Fine 1000000 fs) :
    Calls Try.prog 38 #[.pointer (some ⟨q, 0, none⟩), .pointer (some ⟨r, 0, none⟩), .pointer (some ⟨s, 0, none⟩)] w fun e w' => e = done (coded (pinS fs i g).1) ∧ PoolIs w' p b (pinS fs i g).2 ∧ Only (fun k => k = b) w w' := by
  unfold pinS
  cases hf : at? fs i with
  | none =>
    refine (pin1_out p b q r s fs i g w h hq hr hs (at_none hf)).mono ?_
    rintro e w' ⟨rfl, rfl⟩
    exact ⟨rfl, h, Only.refl _ _⟩
  | some f =>
    obtain ⟨k, rfl, hk⟩ := at_some hf
    simp only [Int.toNat_natCast]
    have ff := hF f (List.mem_of_getElem? hk)
    by_cases n : f.st = 0 ∨ f.gen ≠ g
    · rw [if_pos n]
      refine (pin1_none p b q r s fs k g f w h hq hr hs hk n).mono ?_
      rintro e w' ⟨rfl, o⟩
      exact ⟨rfl, h.still o, o.more (fun _ _ s => s.elim)⟩
    · rw [if_neg n]
      have n1 : ¬ f.st = 0 := fun e => n (.inl e)
      have n2 : f.gen = g := Classical.byContradiction fun e => n (.inr e)
      by_cases c : (f.st == 1 || f.st == 2) = true
      · rw [if_pos c]
        refine (pin1_yes p b q r s fs k g f w h hq hr hs hk n2 c ff.p0 ff.p1).mono ?_
        rintro e w' ⟨rfl, h', o⟩
        exact ⟨rfl, h', o⟩
      · rw [if_neg c]
        refine (pin1_busy p b q r s fs k g f w h hq hr hs hk n1 n2 (by simpa using c)).mono ?_
        rintro e w' ⟨rfl, o⟩
        exact ⟨rfl, h.still o, o.more (fun _ _ s => s.elim)⟩

theorem pin_any (p b : Nat) (fs : List Fr) (i g : Int) (w : World) (h : PoolIs w p b fs) (hF : Fine 1000000 fs) :
    Calls Try.prog 19 #[.pointer (some ⟨p, 0, none⟩), .int .i64 i, .int .i64 g] w fun e w' => e = .returned (.int .i64 (pinS fs i g).1) ∧ PoolIs w' p b (pinS fs i g).2 ∧ Only (fun k => k = b) w w' := by
  have pl := h.pl
  have bl := h.bl
  have C := catch_pool 38 #[.pointer (some ⟨w.heap.size, 0, none⟩), .pointer (some ⟨w.heap.size + 1, 0, none⟩), .pointer (some ⟨w.heap.size + 2, 0, none⟩)]
    (((w.alloc (.cells #[.pointer (some ⟨p, 0, none⟩)] 24)).alloc (.cells #[.int .i64 i] 3)).alloc (.cells #[.int .i64 g] 3)) p b (pinS fs i g).2 (pinS fs i g).1 (fun _ => rfl) (by simp; omega) (by simp; omega)
    (pin1_any p b _ _ _ fs i g _ ((h.three _ _ _).still ((Only.refl none_ _).alloc _)) (var_alloc (var_alloc (var_alloc (var_at rfl) _) _) _) (var_alloc (var_alloc (var_at (by simp)) _) _) (var_alloc (var_at (by simp)) _) hF)
  have C := Lib.hid C
  clear h hF
  go_enter Try.func19, Try.ntmps19
  go_wp2_with fail
  (with_reducible refine (C.out).mono ?_)
  rintro e w' ⟨rfl, h', o⟩
  have O := Lib.hid ((only_three w _ _ _).then_ o)
  have H := Lib.hid h'
  go_wp2_with fail
  go_ret
  exact ⟨rfl, H.out, O.out⟩

theorem unpin1_any (p b q r s : Nat) (fs : List Fr) (i g : Int) (w : World) (h : PoolIs w p b fs) (hq : Var w q (.pointer (some ⟨p, 0, none⟩))) (hr : Var w r (.int .i64 i)) (hs : Var w s (.int .i64 g)) (hF : Fine 1000000 fs) :
    Calls Try.prog 41 #[.pointer (some ⟨q, 0, none⟩), .pointer (some ⟨r, 0, none⟩), .pointer (some ⟨s, 0, none⟩)] w fun e w' => e = done (coded (unpinS fs i g).1) ∧ PoolIs w' p b (unpinS fs i g).2 ∧ Only (fun k => k = b) w w' := by
  unfold unpinS
  cases hf : at? fs i with
  | none =>
    refine (unpin1_out p b q r s fs i g w h hq hr hs (at_none hf)).mono ?_
    rintro e w' ⟨rfl, rfl⟩
    exact ⟨rfl, h, Only.refl _ _⟩
  | some f =>
    obtain ⟨k, rfl, hk⟩ := at_some hf
    simp only [Int.toNat_natCast]
    have ff := hF f (List.mem_of_getElem? hk)
    by_cases n : f.st = 0 ∨ f.gen ≠ g
    · rw [if_pos n]
      refine (unpin1_none p b q r s fs k g f w h hq hr hs hk n).mono ?_
      rintro e w' ⟨rfl, o⟩
      exact ⟨rfl, h.still o, o.more (fun _ _ s => s.elim)⟩
    · rw [if_neg n]
      have n1 : ¬ f.st = 0 := fun e => n (.inl e)
      have n2 : f.gen = g := Classical.byContradiction fun e => n (.inr e)
      by_cases c : 0 < f.pins
      · rw [if_pos c]
        refine (unpin1_yes p b q r s fs k g f w h hq hr hs hk n1 n2 c ff.p1).mono ?_
        rintro e w' ⟨rfl, h', o⟩
        exact ⟨rfl, h', o⟩
      · rw [if_neg c]
        refine (unpin1_busy p b q r s fs k g f w h hq hr hs hk n1 n2 c).mono ?_
        rintro e w' ⟨rfl, o⟩
        exact ⟨rfl, h.still o, o.more (fun _ _ s => s.elim)⟩

theorem unpin_any (p b : Nat) (fs : List Fr) (i g : Int) (w : World) (h : PoolIs w p b fs) (hF : Fine 1000000 fs) :
    Calls Try.prog 21 #[.pointer (some ⟨p, 0, none⟩), .int .i64 i, .int .i64 g] w fun e w' => e = .returned (.int .i64 (unpinS fs i g).1) ∧ PoolIs w' p b (unpinS fs i g).2 ∧ Only (fun k => k = b) w w' := by
  have pl := h.pl
  have bl := h.bl
  have C := catch_pool 41 #[.pointer (some ⟨w.heap.size, 0, none⟩), .pointer (some ⟨w.heap.size + 1, 0, none⟩), .pointer (some ⟨w.heap.size + 2, 0, none⟩)]
    (((w.alloc (.cells #[.pointer (some ⟨p, 0, none⟩)] 24)).alloc (.cells #[.int .i64 i] 3)).alloc (.cells #[.int .i64 g] 3)) p b (unpinS fs i g).2 (unpinS fs i g).1 (fun _ => rfl) (by simp; omega) (by simp; omega)
    (unpin1_any p b _ _ _ fs i g _ ((h.three _ _ _).still ((Only.refl none_ _).alloc _)) (var_alloc (var_alloc (var_alloc (var_at rfl) _) _) _) (var_alloc (var_alloc (var_at (by simp)) _) _) (var_alloc (var_at (by simp)) _) hF)
  have C := Lib.hid C
  clear h hF
  go_enter Try.func21, Try.ntmps21
  go_wp2_with fail
  (with_reducible refine (C.out).mono ?_)
  rintro e w' ⟨rfl, h', o⟩
  have O := Lib.hid ((only_three w _ _ _).then_ o)
  have H := Lib.hid h'
  go_wp2_with fail
  go_ret
  exact ⟨rfl, H.out, O.out⟩

/-- what a row of one cell is left with -/
theorem Row.only {w : World} {q : Nat} {t : TypeId} {v : Value} (h : Row w q t #[v]) : Var w q v := by
  show World.cell? _ _ = _
  rw [h.cell]; rfl

theorem take_any (p b : Nat) (fs : List Fr) (n : Int) (w : World) (h : PoolIs w p b fs) (hF : Fine 1000000 fs) :
    Calls Try.prog 17 #[.pointer (some ⟨p, 0, none⟩), .int .i64 n] w fun e w' => e = .returned (.tuple #[.int .i64 (takeS fs n).1, .int .i64 (takeS fs n).2.1]) ∧ PoolIs w' p b (takeS fs n).2.2 ∧ Only (fun k => k = b) w w' := by
  have pl := h.pl
  have bl := h.bl
  have C : Calls Try.prog 22 #[.func (.func 31) #[] #[.pointer (some ⟨w.heap.size + 1, 0, none⟩), .pointer (some ⟨w.heap.size, 0, none⟩), .pointer (some ⟨w.heap.size + 2, 0, none⟩)]]
      (((w.alloc (.cells #[.pointer (some ⟨p, 0, none⟩)] 24)).alloc (.cells #[.int .i64 n] 3)).alloc (.cells #[.int .i64 0] 3)) fun e w' =>
        e = .returned (.int .i64 (takeS fs n).2.1) ∧ PoolIs w' p b (takeS fs n).2.2 ∧ Row w' (w.heap.size + 2) 3 #[.int .i64 (takeS fs n).1] ∧ Only (fun k => k = b) w w' := by
    have hW : PoolIs (((w.alloc (.cells #[.pointer (some ⟨p, 0, none⟩)] 24)).alloc (.cells #[.int .i64 n] 3)).alloc (.cells #[.int .i64 0] 3)) p b fs := h.three _ _ _
    have hr : Var (((w.alloc (.cells #[.pointer (some ⟨p, 0, none⟩)] 24)).alloc (.cells #[.int .i64 n] 3)).alloc (.cells #[.int .i64 0] 3)) (w.heap.size + 1) (.int .i64 n) := var_alloc (var_at (by simp)) _
    have hq : Var (((w.alloc (.cells #[.pointer (some ⟨p, 0, none⟩)] 24)).alloc (.cells #[.int .i64 n] 3)).alloc (.cells #[.int .i64 0] 3)) w.heap.size (.pointer (some ⟨p, 0, none⟩)) := var_alloc (var_alloc (var_at rfl) _) _
    have hs : Row (((w.alloc (.cells #[.pointer (some ⟨p, 0, none⟩)] 24)).alloc (.cells #[.int .i64 n] 3)).alloc (.cells #[.int .i64 0] 3)) (w.heap.size + 2) 3 #[.int .i64 0] := by
      have := Row.fresh ((w.alloc (.cells #[.pointer (some ⟨p, 0, none⟩)] 24)).alloc (.cells #[.int .i64 n] 3)) 3 #[.int .i64 0]
      simpa using this
    have hO := only_three w (.cells #[.pointer (some ⟨p, 0, none⟩)] 24) (.cells #[.int .i64 n] 3) (.cells #[.int .i64 0] 3)
    have hz : (((w.alloc (.cells #[.pointer (some ⟨p, 0, none⟩)] 24)).alloc (.cells #[.int .i64 n] 3)).alloc (.cells #[.int .i64 0] 3)).heap.size = w.heap.size + 3 := by simp
    generalize (((w.alloc (.cells #[.pointer (some ⟨p, 0, none⟩)] 24)).alloc (.cells #[.int .i64 n] 3)).alloc (.cells #[.int .i64 0] 3)) = W at *
    have hWa := hW.still ((Only.refl none_ W).alloc (.cells #[.int .i64 0] 25))
    have hra := var_alloc hr (.cells #[.int .i64 0] 25)
    have hqa := var_alloc hq (.cells #[.int .i64 0] 25)
    have hsa := hs.alloc (.cells #[.int .i64 0] 25)
    refine (catch_code 31 _ W (fun k => k = b ∨ k = w.heap.size + 2) (fun r w' => r = coded (takeS fs n).2.1 ∧ PoolIs w' p b (takeS fs n).2.2 ∧ Row w' (w.heap.size + 2) 3 #[.int .i64 (takeS fs n).1]) (fun _ => rfl) (by omega) ?_ ?_).mono ?_
    · rintro r w1 v _ ⟨rfl, h', s'⟩
      exact ⟨rfl, h'.far (by show p ≠ W.heap.size; omega) (by show b ≠ W.heap.size; omega) v, s'.far (by show w.heap.size + 2 ≠ W.heap.size; omega) v⟩
    · unfold takeS
      by_cases hn : n < 0
      · rw [if_pos hn]
        refine (take1_arg p b w.heap.size _ _ n _ hra hn).mono ?_
        rintro e w' ⟨rfl, rfl⟩
        exact ⟨some 1, rfl, ⟨rfl, hWa, hsa⟩, Only.refl _ _⟩
      · rw [if_neg hn]
        cases hf : fs[least fs]? with
        | none =>
          have := List.getElem?_eq_none_iff.1 hf
          have := least_le fs
          refine (take1_full p b _ _ _ fs n _ hWa hqa hra (by omega) (by omega)).mono ?_
          rintro e w' ⟨rfl, o⟩
          exact ⟨some 2, rfl, ⟨rfl, hWa.still o, o.still hsa⟩, o.up⟩
        | some f =>
          have ff := hF f (List.mem_of_getElem? hf)
          refine (take1_yes p b _ _ _ fs n f _ hWa hqa hra hsa (by omega) (by omega) (by omega) hf ff.g0 ff.g1).mono ?_
          rintro e w' ⟨rfl, h', s', o⟩
          exact ⟨none, rfl, ⟨rfl, h', s'⟩, o⟩
    · rintro e w' ⟨r, rfl, ⟨rfl, h', s'⟩, o⟩
      refine ⟨by rw [coded_get], h', s', Only.trans (S := fun k => k = b) hO.up o (fun i hi s => ?_)⟩
      rcases s with s | s
      · exact s
      · omega
  have C := Lib.hid C
  clear h hF
  go_enter Try.func17, Try.ntmps17
  go_wp2_with fail
  (with_reducible refine (C.out).mono ?_)
  rintro e w' ⟨rfl, h', s', o⟩
  have O := Lib.hid o
  have H := Lib.hid h'
  have c0 := s'.only
  have c1 := s'.frozen 0
  have S := Lib.hid s'
  clear s' o h'
  go_wp2_with fail
  refine bodyPost_ret (v := .tuple #[.int .i64 (takeS fs n).1, .int .i64 (takeS fs n).2.1]) (by simp [results, Try.results17, go_sem, c0]) rfl ⟨rfl, ?_, ?_⟩
  · exact H.out.far (a := ⟨w.heap.size + 1 + 1, 0, none⟩) (by show p ≠ w.heap.size + 1 + 1; omega) (by show b ≠ w.heap.size + 1 + 1; omega) _
  · exact O.out.put (p := ⟨w.heap.size + 1 + 1, 0, none⟩) (fun k => by simp at k; omega) _

/-- as many frames that are all free -/
def fresh (n : Nat) : List Fr := List.replicate n ⟨0, 0, 0, 0, 0⟩

theorem new1_no (q r : Nat) (n : Int) (w : World) (hq : Var w q (.int .i64 n)) (hn : n < 1 ∨ 64 < n) :
    Calls Try.prog 23 #[.pointer (some ⟨q, 0, none⟩), .pointer (some ⟨r, 0, none⟩)] w fun e w' => e = left 1 ∧ w = w' := by
  by_cases k : 1 ≤ n
  · have t1 : decide (1 ≤ n) = true := by simpa using k
    have t2 : decide (n ≤ 64) = false := by simp; omega
    clear hn k
    go_enter Try.func23, Try.ntmps23
    go_wp2_with fail
    (with_reducible refine (unless_no _ _).mono ?_)
    rintro e w' ⟨rfl, rfl⟩
    go_wp2_with fail
    exact ⟨rfl, rfl, rfl⟩
  · have t1 : decide (1 ≤ n) = false := by simpa using k
    clear hn k
    go_enter Try.func23, Try.ntmps23
    go_wp2_with fail
    (with_reducible refine (unless_no _ _).mono ?_)
    rintro e w' ⟨rfl, rfl⟩
    go_wp2_with fail
    exact ⟨rfl, rfl, rfl⟩
theorem info_frame : (Try.prog.info? 38).map (fun i => (i.zero, i.size, i.bytes)) = some (some (.agg #[.int .i64 0, .int .i64 0, .int .i64 0, .int .i64 0, .int .u64 0]), 5, 40) := by kernel_rfl

theorem new1_yes (q r : Nat) (n : Nat) (w : World) (hq : Var w q (.int .i64 n)) (hr : Row w r 24 #[.pointer none]) (h1 : 1 ≤ n) (h64 : n ≤ 64) :
    Calls Try.prog 23 #[.pointer (some ⟨q, 0, none⟩), .pointer (some ⟨r, 0, none⟩)] w fun e w' => e = .returned (.tuple #[]) ∧ (∃ p b, PoolIs w' p b (fresh n) ∧ Row w' r 24 #[.pointer (some ⟨p, 0, none⟩)] ∧ w.heap.size ≤ p ∧ w.heap.size ≤ b) ∧ Only (fun k => k = r) w w' := by
  have t1 : decide ((1 : Int) ≤ n) = true := by simp; omega
  have t2 : decide ((n : Int) ≤ 64) = true := by simp; omega
  have c := hr.only
  have z := hr.frozen 0
  have HR := Lib.hid hr
  obtain ⟨i0, hi, hz0, hz1, hz2⟩ := info_parts info_frame
  have hmk := fun w => run_make_flat (P := Try.prog) (c := Fr.cells) ⟨0, 0, 0, 0, 0⟩ fr5 (by decide) 41 38 i0 _ Try.underlying41 hi hz0 hz1 rfl .i64 .i64 n (by rw [hz2]; omega) (by omega) w
  clear hr hi hz0 hz1 hz2
  have c2 : ∀ o o', ((w.alloc o).alloc o').cell? ⟨r, 0, none⟩ = some (.pointer none) := fun o o' => ((HR.out.alloc o).alloc o').only
  have z2 : ∀ o o', ((w.alloc o).alloc o').frozen? ⟨r, 0, none⟩ = false := fun o o' => ((HR.out.alloc o).alloc o').frozen 0
  have rl := HR.out.lt
  go_enter Try.func23, Try.ntmps23
  go_wp2_with fail
  (with_reducible refine (unless_yes _ _).mono ?_)
  rintro e w' ⟨rfl, rfl⟩
  go_wp2_with fail
  go_end0
  have r1 := HR.out.put 0 (.pointer (some ⟨w.heap.size + 1, 0, none⟩))
  have o1 := (Only.refl (fun k => k = r) w).into (b := r) rfl 0 (.pointer (some ⟨w.heap.size + 1, 0, none⟩))
  have hz : (w.setCell ⟨r, 0, none⟩ (.pointer (some ⟨w.heap.size + 1, 0, none⟩))).heap.size = w.heap.size := by simp [World.setCell]
  generalize w.setCell ⟨r, 0, none⟩ (.pointer (some ⟨w.heap.size + 1, 0, none⟩)) = W at *
  have a1 := Row.fresh W 38 (flat Fr.cells (fresh n))
  have a2 := Row.fresh (W.alloc (.cells (flat Fr.cells (fresh n)) 38)) 58 #[.slice (some ⟨w.heap.size, 0, none⟩) n n]
  simp only [World.size_alloc, hz] at a1 a2
  refine ⟨rfl, ⟨w.heap.size + 1, w.heap.size, ⟨?_, ?_, ?_, by omega⟩, ?_, by omega, by omega⟩, ?_⟩
  · rw [show (fresh n).length = n by simp [fresh]]
    exact a2
  · exact a1.alloc _
  · simpa [fresh] using h64
  · exact (r1.alloc _).alloc _
  · exact (o1.alloc _).alloc _

theorem new_no (n : Int) (w : World) (hn : n < 1 ∨ 64 < n) :
    Calls Try.prog 9 #[.int .i64 n] w fun e w' => e = .returned (.tuple #[.pointer none, .int .i64 1]) ∧ Only none_ w w' := by
  have C : Calls Try.prog 22 #[.func (.func 23) #[] #[.pointer (some ⟨w.heap.size, 0, none⟩), .pointer (some ⟨w.heap.size + 1, 0, none⟩)]]
      ((w.alloc (.cells #[.int .i64 n] 3)).alloc (.cells #[.pointer none] 24)) fun e w' =>
        e = .returned (.int .i64 1) ∧ Row w' (w.heap.size + 1) 24 #[.pointer none] ∧ Only none_ w w' := by
    have hq : Var ((w.alloc (.cells #[.int .i64 n] 3)).alloc (.cells #[.pointer none] 24)) w.heap.size (.int .i64 n) := var_alloc (var_at rfl) _
    have hr := Row.fresh (w.alloc (.cells #[.int .i64 n] 3)) 24 #[.pointer none]
    have hO := only_two w (.cells #[.int .i64 n] 3) (.cells #[.pointer none] 24)
    have hz : ((w.alloc (.cells #[.int .i64 n] 3)).alloc (.cells #[.pointer none] 24)).heap.size = w.heap.size + 2 := by simp
    simp only [World.size_alloc] at hr
    generalize (w.alloc (.cells #[.int .i64 n] 3)).alloc (.cells #[.pointer none] 24) = W at *
    refine (catch_code 23 _ W none_ (fun r w' => r = some 1 ∧ Row w' (w.heap.size + 1) 24 #[.pointer none]) (fun _ => rfl) (fun s => s) ?_ ?_).mono ?_
    · rintro r w1 v _ ⟨rfl, s'⟩
      exact ⟨rfl, s'.far (by show w.heap.size + 1 ≠ W.heap.size; omega) v⟩
    · refine (new1_no _ _ n _ (var_alloc hq _) hn).mono ?_
      rintro e w' ⟨rfl, rfl⟩
      exact ⟨some 1, rfl, ⟨rfl, hr.alloc _⟩, Only.refl _ _⟩
    · rintro e w' ⟨r, rfl, ⟨rfl, s'⟩, o⟩
      exact ⟨rfl, s', hO.same o⟩
  have C := Lib.hid C
  clear hn
  go_enter Try.func9, Try.ntmps9
  go_wp2_with fail
  (with_reducible refine (C.out).mono ?_)
  rintro e w' ⟨rfl, s', o⟩
  have O := Lib.hid o
  have c0 := s'.only
  have c1 := s'.frozen 0
  clear s' o
  go_wp2_with fail
  exact bodyPost_ret (v := .tuple #[.pointer none, .int .i64 1]) (by simp [results, Try.results9, go_sem, c0]) rfl ⟨rfl, O.out.put (p := ⟨w.heap.size + 1, 0, none⟩) (fun k => by simp at k; omega) _⟩

theorem new_yes (n : Nat) (w : World) (h1 : 1 ≤ n) (h64 : n ≤ 64) :
    Calls Try.prog 9 #[.int .i64 n] w fun e w' => ∃ p b, e = .returned (.tuple #[.pointer (some ⟨p, 0, none⟩), .int .i64 0]) ∧ PoolIs w' p b (fresh n) ∧ w.heap.size ≤ p ∧ w.heap.size ≤ b ∧ Only none_ w w' := by
  have C : Calls Try.prog 22 #[.func (.func 23) #[] #[.pointer (some ⟨w.heap.size, 0, none⟩), .pointer (some ⟨w.heap.size + 1, 0, none⟩)]]
      ((w.alloc (.cells #[.int .i64 n] 3)).alloc (.cells #[.pointer none] 24)) fun e w' =>
        e = .returned (.int .i64 0) ∧ (∃ p b, PoolIs w' p b (fresh n) ∧ Row w' (w.heap.size + 1) 24 #[.pointer (some ⟨p, 0, none⟩)] ∧ w.heap.size + 2 ≤ p ∧ w.heap.size + 2 ≤ b) ∧ Only none_ w w' := by
    have hq : Var ((w.alloc (.cells #[.int .i64 n] 3)).alloc (.cells #[.pointer none] 24)) w.heap.size (.int .i64 n) := var_alloc (var_at rfl) _
    have hr := Row.fresh (w.alloc (.cells #[.int .i64 n] 3)) 24 #[.pointer none]
    have hO := only_two w (.cells #[.int .i64 n] 3) (.cells #[.pointer none] 24)
    have hz : ((w.alloc (.cells #[.int .i64 n] 3)).alloc (.cells #[.pointer none] 24)).heap.size = w.heap.size + 2 := by simp
    simp only [World.size_alloc] at hr
    generalize (w.alloc (.cells #[.int .i64 n] 3)).alloc (.cells #[.pointer none] 24) = W at *
    refine (catch_code 23 _ W (fun k => k = w.heap.size + 1) (fun r w' => r = none ∧ ∃ p b, PoolIs w' p b (fresh n) ∧ Row w' (w.heap.size + 1) 24 #[.pointer (some ⟨p, 0, none⟩)] ∧ W.heap.size + 1 ≤ p ∧ W.heap.size + 1 ≤ b) (fun _ => rfl) (by omega) ?_ ?_).mono ?_
    · rintro r w1 v _ ⟨rfl, p, b, h', s', k1, k2⟩
      exact ⟨rfl, p, b, h'.far (by show p ≠ W.heap.size; omega) (by show b ≠ W.heap.size; omega) v, s'.far (by show w.heap.size + 1 ≠ W.heap.size; omega) v, k1, k2⟩
    · refine (new1_yes _ _ n _ (var_alloc hq _) (hr.alloc _) h1 h64).mono ?_
      rintro e w' ⟨rfl, ⟨p, b, h', s', k1, k2⟩, o⟩
      simp only [World.size_alloc] at k1 k2
      exact ⟨none, rfl, ⟨rfl, p, b, h', s', by omega, by omega⟩, o⟩
    · rintro e w' ⟨r, rfl, ⟨rfl, p, b, h', s', k1, k2⟩, o⟩
      refine ⟨rfl, ⟨p, b, h', s', by omega, by omega⟩, hO.trans o (fun i hi s => ?_)⟩
      omega
  have C := Lib.hid C
  clear h1 h64
  go_enter Try.func9, Try.ntmps9
  go_wp2_with fail
  (with_reducible refine (C.out).mono ?_)
  rintro e w' ⟨rfl, ⟨p, b, h', s', k1, k2⟩, o⟩
  have O := Lib.hid o
  have H := Lib.hid h'
  have c0 := s'.only
  have c1 := s'.frozen 0
  clear s' o h'
  go_wp2_with fail
  exact bodyPost_ret (v := .tuple #[.pointer (some ⟨p, 0, none⟩), .int .i64 0]) (by simp [results, Try.results9, go_sem, c0]) rfl
    ⟨p, b, rfl, H.out.far (a := ⟨w.heap.size + 1, 0, none⟩) (by show p ≠ w.heap.size + 1; omega) (by show b ≠ w.heap.size + 1; omega) _, by omega, by omega, O.out.put (p := ⟨w.heap.size + 1, 0, none⟩) (fun k => by simp at k; omega) _⟩
end Go.Proofs.Ytllbdkjbcadeoaa
