/- Turns in memory: the exported calls. -/
import Derived.Test.YtmihinpbgppjlaaTnX
namespace Go.Proofs.Ytmihinpbgppjlaa
open Go.RowKit Go.Maps
set_option linter.unusedVariables false

def Did (w : World) (p b nd na L : Nat) (c : Int) (ss : List Sl) (e : Ending) (w' : World) : Prop := e = .returned (.int .i64 c) ∧ TurnTo w' p b nd na L ss ∧ Only (two12 p b) w w'
theorem TurnTo.put {w : World} {p b nd na L g : Nat} {ss : List Sl} (h : TurnTo w p b nd na L ss) (hp : g ≠ p) (hb : g ≠ b) (v : Value) : TurnTo (w.setCell ⟨g, 0, none⟩ v) p b nd na L ss := by
  obtain ⟨L', ps, h, e, l⟩ := h
  have o := (Only.refl (fun k => k = g) w).into rfl 0 v
  exact ⟨L', ps, h.keep o (fun q => hp q.symm) (fun q => hb q.symm), e, l⟩
theorem catch_does {p b nd na L : Nat} {c : Int} {ss : List Sl} (G : FuncId) (caps : Array Value) (w : World) (hp : p < w.heap.size) (hb : b < w.heap.size) (hG : ∀ w, (callFunc G caps).run Try.prog w = .ok (.enter G caps) w)
    (h : Calls Try.prog G caps (w.alloc (.cells #[.int .i64 0] 25)) (Does (w.alloc (.cells #[.int .i64 0] 25)) p b nd na L c ss)) :
    Calls Try.prog 24 #[.func (.func G) #[] caps] w (Did w p b nd na L c ss) := by
  refine (catch_code G caps w (two12 p b) (fun r w' => r = coded c ∧ TurnTo w' p b nd na L ss) hG (by unfold two12; omega) ?_ (h.mono ?_)).mono ?_
  · rintro r w1 v o ⟨rfl, h⟩
    exact ⟨rfl, h.put (by omega) (by omega) v⟩
  · rintro e w' ⟨rfl, h, o⟩
    exact ⟨_, rfl, ⟨rfl, h⟩, o⟩
  · rintro e w' ⟨r, rfl, ⟨rfl, h⟩, o⟩
    exact ⟨by rw [coded_get], h, o⟩
theorem var_at {w : World} {v : Value} {t : TypeId} {q : Nat} (h : q = w.heap.size) : Var (w.alloc (.cells #[v] t)) q v := by
  subst h
  show World.cell? _ _ = _
  rw [(Row.fresh w t #[v]).cell]; rfl
theorem var_alloc {w : World} {q : Nat} {v : Value} (h : Var w q v) (o : Obj) : Var (w.alloc o) q v := ((Only.refl none_ w).alloc o).cell h (fun s => s)
theorem only_two (w : World) (o1 o2 : Obj) : Only none_ w ((w.alloc o1).alloc o2) := ((Only.refl none_ w).alloc _).alloc _
theorem only_three (w : World) (o1 o2 o3 : Obj) : Only none_ w (((w.alloc o1).alloc o2).alloc o3) := (((Only.refl none_ w).alloc _).alloc _).alloc _

set_option maxHeartbeats 1000000 in
theorem tput_any {p b nd na L : Nat} {ps : List Pl} (x : Int) (a : Bool) (w : World) (h : TnAt w p b nd na L ps) (wx : (Lit.int .i64 x).wf = true) (hL : L < 100000000) :
    Calls Try.prog 21 #[.pointer (some ⟨p, 0, none⟩), .int .i64 x, .bool a] w (Did w p b nd na L (putC nd na (ps.map Pl.sl) x a) (putS nd na (ps.map Pl.sl) x a)) := by
  have lp := h.row.lt
  have lb := h.md.lt
  have O3 := Lib.hid (only_three w (.cells #[.pointer (some ⟨p, 0, none⟩)] 24) (.cells #[.int .i64 x] 3) (.cells #[.bool a] 4))
  have C := Lib.hid (catch_does 36 #[.pointer (some ⟨w.heap.size + 1, 0, none⟩), .pointer (some ⟨w.heap.size, 0, none⟩), .pointer (some ⟨w.heap.size + 1 + 1, 0, none⟩)] (((w.alloc (.cells #[.pointer (some ⟨p, 0, none⟩)] 24)).alloc (.cells #[.int .i64 x] 3)).alloc (.cells #[.bool a] 4)) (by simp; omega) (by simp; omega) (fun _ => rfl)
    (put1_any x a _ (h.still (O3.out.alloc _)) (var_alloc (var_alloc (var_at (by simp)) _) _) (var_alloc (var_alloc (var_alloc (var_at rfl) _) _) _) (var_alloc (var_at (by simp)) _) wx hL))
  clear h
  generalize putC nd na (ps.map Pl.sl) x a = c at *
  generalize putS nd na (ps.map Pl.sl) x a = ss at *
  go_enter Try.func21, Try.ntmps21
  go_wp2_with fail
  (with_reducible refine (C.out).mono ?_)
  rintro e w2 ⟨rfl, h2, o2⟩
  have H2 := Lib.hid h2
  have O2 := Lib.hid (O3.out.then_ o2)
  clear h2 o2
  go_wp2_with fail
  go_ret
  exact ⟨rfl, H2.out, O2.out⟩
set_option maxHeartbeats 1000000 in
theorem tchange_any {p b nd na L : Nat} {ps : List Pl} (x : Int) (v : Bool) (w : World) (h : TnAt w p b nd na L ps) (wx : (Lit.int .i64 x).wf = true) :
    Calls Try.prog 35 #[.pointer (some ⟨p, 0, none⟩), .int .i64 x, .bool v] w (Did w p b nd na L (waitC (ps.map Pl.sl) x v) (waitS (ps.map Pl.sl) x v)) := by
  have lp := h.row.lt
  have lb := h.md.lt
  have O3 := Lib.hid (only_three w (.cells #[.pointer (some ⟨p, 0, none⟩)] 24) (.cells #[.int .i64 x] 3) (.cells #[.bool v] 4))
  have C := Lib.hid (catch_does 46 #[.pointer (some ⟨w.heap.size, 0, none⟩), .pointer (some ⟨w.heap.size + 1, 0, none⟩), .pointer (some ⟨w.heap.size + 1 + 1, 0, none⟩)] (((w.alloc (.cells #[.pointer (some ⟨p, 0, none⟩)] 24)).alloc (.cells #[.int .i64 x] 3)).alloc (.cells #[.bool v] 4)) (by simp; omega) (by simp; omega) (fun _ => rfl)
    (change1_any x v _ (h.still (O3.out.alloc _)) (var_alloc (var_alloc (var_alloc (var_at rfl) _) _) _) (var_alloc (var_alloc (var_at (by simp)) _) _) (var_alloc (var_at (by simp)) _) wx))
  clear h
  generalize waitC (ps.map Pl.sl) x v = c at *
  generalize waitS (ps.map Pl.sl) x v = ss at *
  go_enter Try.func35, Try.ntmps35
  go_wp2_with fail
  (with_reducible refine (C.out).mono ?_)
  rintro e w2 ⟨rfl, h2, o2⟩
  have H2 := Lib.hid h2
  have O2 := Lib.hid (O3.out.then_ o2)
  clear h2 o2
  go_wp2_with fail
  go_ret
  exact ⟨rfl, H2.out, O2.out⟩
theorem tstart_any {p b nd na L : Nat} {ps : List Pl} (x : Int) (w : World) (h : TnAt w p b nd na L ps) (wx : (Lit.int .i64 x).wf = true) :
    Calls Try.prog 19 #[.pointer (some ⟨p, 0, none⟩), .int .i64 x] w (Did w p b nd na L (waitC (ps.map Pl.sl) x false) (waitS (ps.map Pl.sl) x false)) := by
  have C := Lib.hid (tchange_any x false w h wx)
  clear h
  generalize waitC (ps.map Pl.sl) x false = c at *
  generalize waitS (ps.map Pl.sl) x false = ss at *
  go_enter Try.func19, Try.ntmps19
  go_wp2_with fail
  (with_reducible refine (C.out).mono ?_)
  rintro e w2 ⟨rfl, h2, o2⟩
  have H2 := Lib.hid h2
  have O2 := Lib.hid o2
  clear h2 o2
  go_wp2_with fail
  go_ret
  exact ⟨rfl, H2.out, O2.out⟩
theorem tagain_any {p b nd na L : Nat} {ps : List Pl} (x : Int) (w : World) (h : TnAt w p b nd na L ps) (wx : (Lit.int .i64 x).wf = true) :
    Calls Try.prog 20 #[.pointer (some ⟨p, 0, none⟩), .int .i64 x] w (Did w p b nd na L (waitC (ps.map Pl.sl) x true) (waitS (ps.map Pl.sl) x true)) := by
  have C := Lib.hid (tchange_any x true w h wx)
  clear h
  generalize waitC (ps.map Pl.sl) x true = c at *
  generalize waitS (ps.map Pl.sl) x true = ss at *
  go_enter Try.func20, Try.ntmps20
  go_wp2_with fail
  (with_reducible refine (C.out).mono ?_)
  rintro e w2 ⟨rfl, h2, o2⟩
  have H2 := Lib.hid h2
  have O2 := Lib.hid o2
  clear h2 o2
  go_wp2_with fail
  go_ret
  exact ⟨rfl, H2.out, O2.out⟩
set_option maxHeartbeats 1000000 in
theorem tpromote_any {p b nd na L : Nat} {ps : List Pl} (x : Int) (w : World) (h : TnAt w p b nd na L ps) (wx : (Lit.int .i64 x).wf = true) (hL : L < 100000000) :
    Calls Try.prog 22 #[.pointer (some ⟨p, 0, none⟩), .int .i64 x] w (Did w p b nd na L (promC nd (ps.map Pl.sl) x) (promS nd (ps.map Pl.sl) x)) := by
  have lp := h.row.lt
  have lb := h.md.lt
  have O3 := Lib.hid (only_two w (.cells #[.pointer (some ⟨p, 0, none⟩)] 24) (.cells #[.int .i64 x] 3))
  have C := Lib.hid (catch_does 38 #[.pointer (some ⟨w.heap.size, 0, none⟩), .pointer (some ⟨w.heap.size + 1, 0, none⟩)] ((w.alloc (.cells #[.pointer (some ⟨p, 0, none⟩)] 24)).alloc (.cells #[.int .i64 x] 3)) (by simp; omega) (by simp; omega) (fun _ => rfl)
    (promote1_any x _ (h.still (O3.out.alloc _)) (var_alloc (var_alloc (var_at rfl) _) _) (var_alloc (var_at (by simp)) _) wx hL))
  clear h
  generalize promC nd (ps.map Pl.sl) x = c at *
  generalize promS nd (ps.map Pl.sl) x = ss at *
  go_enter Try.func22, Try.ntmps22
  go_wp2_with fail
  (with_reducible refine (C.out).mono ?_)
  rintro e w2 ⟨rfl, h2, o2⟩
  have H2 := Lib.hid h2
  have O2 := Lib.hid (O3.out.then_ o2)
  clear h2 o2
  go_wp2_with fail
  go_ret
  exact ⟨rfl, H2.out, O2.out⟩
set_option maxHeartbeats 1000000 in
theorem tend_any {p b nd na L : Nat} {ps : List Pl} (x : Int) (w : World) (h : TnAt w p b nd na L ps) (wx : (Lit.int .i64 x).wf = true) :
    Calls Try.prog 23 #[.pointer (some ⟨p, 0, none⟩), .int .i64 x] w (Did w p b nd na L (endC (ps.map Pl.sl) x) (cutL (ps.map Pl.sl) x)) := by
  have lp := h.row.lt
  have lb := h.md.lt
  have O3 := Lib.hid (only_two w (.cells #[.pointer (some ⟨p, 0, none⟩)] 24) (.cells #[.int .i64 x] 3))
  have C := Lib.hid (catch_does 40 #[.pointer (some ⟨w.heap.size, 0, none⟩), .pointer (some ⟨w.heap.size + 1, 0, none⟩)] ((w.alloc (.cells #[.pointer (some ⟨p, 0, none⟩)] 24)).alloc (.cells #[.int .i64 x] 3)) (by simp; omega) (by simp; omega) (fun _ => rfl)
    (end1_any x _ (h.still (O3.out.alloc _)) (var_alloc (var_alloc (var_at rfl) _) _) (var_alloc (var_at (by simp)) _) wx))
  clear h
  generalize endC (ps.map Pl.sl) x = c at *
  generalize cutL (ps.map Pl.sl) x = ss at *
  go_enter Try.func23, Try.ntmps23
  go_wp2_with fail
  (with_reducible refine (C.out).mono ?_)
  rintro e w2 ⟨rfl, h2, o2⟩
  have H2 := Lib.hid h2
  have O2 := Lib.hid (O3.out.then_ o2)
  clear h2 o2
  go_wp2_with fail
  go_ret
  exact ⟨rfl, H2.out, O2.out⟩
end Go.Proofs.Ytmihinpbgppjlaa
