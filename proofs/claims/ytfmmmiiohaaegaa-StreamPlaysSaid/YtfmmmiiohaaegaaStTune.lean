/- Package stream: what is told of a stream. -/
import Derived.Test.YtfmmmiiohaaegaaStUse
import Derived.Deep.RegionWith
namespace Go.Proofs.Ytfmmmiiohaaegaa
open Go.RowKit Go.Maps
set_option linter.unusedVariables false

set_option maxRecDepth 100000 in
set_option maxHeartbeats 4000000 in
theorem change_late {q p b L : Nat} {v : Value} {M : Nat → Prop} {c : Cf} {t : Tr} (x : Int) (w : World) (h : StAt w q p b L v M c t) (hf : Fine10 c t) (hu : t.uses ≤ 1000) :
    Calls Try.prog 33 #[.pointer (some ⟨q, 0, none⟩), .int .i64 x, .func (.func 34) #[] #[]] w fun e w' => e = .returned (.bool (tuneB t x)) ∧ StAt w' q p b L v M c (tuneS t x true) ∧ Only M w w' := by
  have hmf : ∀ (fn : Fn) (first cap : Array Value) (w : World), (Instr.makeFunc fn first cap).run Try.prog w = .ok (.func fn first cap) w := fun _ _ _ _ => rfl
  obtain ⟨A, cap, rfl, hh, ha⟩ := h.own.form
  have hlen : t.ss.length ≤ 16 := by have := hf.few; have := hf.ok.m16; omega
  have lq := h.row.lt
  have r1 := Row.fresh w 3 #[.int .i64 x]
  have oa := (Only.refl none_ w).alloc (.cells #[.int .i64 x] 3)
  have H1 := Lib.hid (h.still oa)
  have FD := Lib.hid (find_any A cap t.ss (w.alloc (.cells #[.int .i64 x] 3)) 51 #[.pointer (some ⟨w.heap.size, 0, none⟩)] (fun _ => 0) (fun s => (s.id : Int) == x) (hh.still8 oa) (by omega)
    (fun s hs => ⟨by decide, by decide⟩) (fun a w => rfl)
    (fun s hs w' o => change1_any s w.heap.size x w' (o.cell (by rw [r1.cell]; rfl) (fun s => s)) (Nat.lt_of_lt_of_le r1.lt o.size)))
  have c4 : (w.alloc (.cells #[.int .i64 x] 3)).cell? ⟨q, 4, none⟩ = some (.slice A t.ss.length cap) := by rw [H1.out.row.cell]; rfl
  have OA := Lib.hid oa
  have MAY := Lib.hid hf.may
  have E0 : ∀ a g, Best (fun _ => 0) (fun s => (s.id : Int) == x) t.ss t.ss.length a g → a = placeI (idOf t.ss x) := fun a g hb => best_id hb
  have EE := Lib.hid E0
  clear h hh hf r1 oa E0
  cases hid : idOf t.ss x with
  | none =>
    have EB := Lib.hid (show tuneB t x = false ∧ tuneS t x true = t from by unfold tuneB tuneS; rw [hid]; exact ⟨rfl, rfl⟩)
    have PI : placeI (idOf t.ss x) = -1 := by rw [hid]; rfl
    rw [PI] at EE
    clear hid PI
    go_enter Try.func33, Try.ntmps33
    go_wp2_with fail
    (with_reducible refine FD.out.mono ?_)
    rintro e w2 ⟨⟨a, g, rfl, hb⟩, o⟩
    obtain rfl := EE.out a g hb
    have O2 := Lib.hid (OA.out.same o)
    have H2 := Lib.hid (H1.out.still o)
    clear hb o
    go_wp2_with fail
    go_ret
    exact ⟨by rw [EB.out.1]; rfl, by rw [EB.out.2]; exact H2.out, O2.out.up⟩
  | some i =>
    obtain ⟨s, hs, _⟩ := id_of hid
    have hil := lt_of_get hs
    obtain ⟨g, rfl, lg, hcap, hmx, hMg⟩ := ha (fun e => by rw [e] at hil; exact absurd hil (Nat.not_lt_zero _))
    have EB := Lib.hid (show tuneB t x = true ∧ tuneS t x true = ⟨t.ss.set i ⟨s.id, s.f.late, s.used⟩, t.es, t.uses, t.begun⟩ from by unfold tuneB tuneS; rw [hid]; exact ⟨rfl, by simp only [hs]; rfl⟩)
    have PI : placeI (idOf t.ss x) = i := by rw [hid]; rfl
    rw [PI] at EE
    have C := Lib.hid (fun w => late_any s.f w (May.wf (MAY.out s (List.mem_of_getElem? hs))))
    unfold Fl.val at C
    have HS := Lib.hid hs
    have ng : ((i : Int) == -1) = false := by simp
    clear hid PI ha hs
    generalize s.f.late = k at *
    go_enter Try.func33, Try.ntmps33
    go_wp2_with fail
    (with_reducible refine FD.out.mono ?_)
    rintro e w2 ⟨⟨a, g', rfl, hb⟩, o⟩
    obtain rfl := EE.out a g' hb
    have O2 := Lib.hid (OA.out.same o)
    have H2 := Lib.hid (H1.out.still o)
    clear hb o H1 OA c4 FD EE
    go_wp2_with fail
    have OD := Lib.hid (Only.refl none_ w2).drew
    have KS := Lib.hid (fun w' (o : Only none_ w2 w') => (show w'.cell? ⟨q, 4, none⟩ = some (.slice (some ⟨g, 0, none⟩) t.ss.length cap) ∧ w'.cell? ⟨g, i * 6 + 1, none⟩ = some (.int .i64 s.f.n) ∧ w'.cell? ⟨g, i * 6 + 2, none⟩ = some (.int .i64 s.f.a) ∧ w'.cell? ⟨g, i * 6 + 3, none⟩ = some (.int .i64 s.f.p) ∧ w'.cell? ⟨g, i * 6 + 4, none⟩ = some (.int .i64 s.f.g) ∧ (∀ j, w'.frozen? ⟨g, j, none⟩ = false) from by
      have K := H2.out.still o
      obtain ⟨_, c1, c2, c3, c4, _⟩ := K.own.1.six10 HS.out
      exact ⟨by rw [K.row.cell]; rfl, c1, c2, c3, c4, fun j => K.own.1.frozen j⟩))
    obtain ⟨c4, c1, c2, c3, c5, z0⟩ := KS.out _ OD.out
    go_region_with (first
      | (go_at_call 34; (with_reducible refine (C.out _).mono ?_); rintro e w3 ⟨rfl, o3⟩
         have O3 := Lib.hid (OD.out.same o3)
         obtain ⟨e4, e1, e2, e3, e5, y0⟩ := KS.out _ O3.out
         clear o3)
      | fail)
    all_goals
      have K := H2.out.still O3.out
      have OG := Lib.hid (((((Only.refl (fun j => j = g) w3).into rfl (i * 6 + 1) (.int .i64 k.n)).into rfl (i * 6 + 1 + 1) (.int .i64 k.a)).into rfl (i * 6 + 1 + 2) (.int .i64 k.p)).into rfl (i * 6 + 1 + 3) (.int .i64 k.g))
      have HO : Owns ((((w3.setCell ⟨g, i * 6 + 1, none⟩ (.int .i64 k.n)).setCell ⟨g, i * 6 + 1 + 1, none⟩ (.int .i64 k.a)).setCell ⟨g, i * 6 + 1 + 2, none⟩ (.int .i64 k.p)).setCell ⟨g, i * 6 + 1 + 3, none⟩ (.int .i64 k.g)) 0 59 6 Sm.cells (.slice (some ⟨g, 0, none⟩) t.ss.length cap) (t.ss.set i ⟨s.id, k, s.used⟩) := K.own.1.flow10 HS.out k
      have H4 := Lib.hid (K.same_row OG.out HO)
      have O4 := Lib.hid ((O2.out.same O3.out).up.trans (S := M) OG.out (fun j _ e => by subst e; exact hMg))
      clear K HO OG e4 e1 e2 e3 e5 y0 c4 c1 c2 c3 c5 z0
      go_wp2_with fail
      go_ret
      exact ⟨by rw [EB.out.1]; rfl, by rw [EB.out.2]; exact H4.out, O4.out⟩

theorem late10_any {q : Nat} {M : Nat → Prop} {c : Cf} {t : Tr} (x : Int) (w : World) (h : ST w q M c t) (hf : Fine10 c t) (hu : t.uses ≤ 1000) :
    Calls Try.prog 14 #[.pointer (some ⟨q, 0, none⟩), .int .i64 x] w fun e w' => e = .returned (.bool (tuneB t x)) ∧ ST w' q M c (tuneS t x true) ∧ Only M w w' := by
  obtain ⟨p, b, L, v, h⟩ := h
  have C := Lib.hid (change_late x w h hf hu)
  clear h hf
  go_enter Try.func14, Try.ntmps14
  go_wp2_with fail
  (with_reducible refine C.out.mono ?_)
  rintro e w1 ⟨rfl, h, o⟩
  have H := Lib.hid h
  have O := Lib.hid o
  clear h o
  go_wp2_with fail
  go_ret
  exact ⟨rfl, ⟨p, b, L, v, H.out⟩, O.out⟩

set_option maxRecDepth 100000 in
set_option maxHeartbeats 4000000 in
theorem change_waste {q p b L : Nat} {v : Value} {M : Nat → Prop} {c : Cf} {t : Tr} (x : Int) (w : World) (h : StAt w q p b L v M c t) (hf : Fine10 c t) (hu : t.uses ≤ 1000) :
    Calls Try.prog 33 #[.pointer (some ⟨q, 0, none⟩), .int .i64 x, .func (.func 37) #[] #[]] w fun e w' => e = .returned (.bool (tuneB t x)) ∧ StAt w' q p b L v M c (tuneS t x false) ∧ Only M w w' := by
  have hmf : ∀ (fn : Fn) (first cap : Array Value) (w : World), (Instr.makeFunc fn first cap).run Try.prog w = .ok (.func fn first cap) w := fun _ _ _ _ => rfl
  obtain ⟨A, cap, rfl, hh, ha⟩ := h.own.form
  have hlen : t.ss.length ≤ 16 := by have := hf.few; have := hf.ok.m16; omega
  have lq := h.row.lt
  have r1 := Row.fresh w 3 #[.int .i64 x]
  have oa := (Only.refl none_ w).alloc (.cells #[.int .i64 x] 3)
  have H1 := Lib.hid (h.still oa)
  have FD := Lib.hid (find_any A cap t.ss (w.alloc (.cells #[.int .i64 x] 3)) 51 #[.pointer (some ⟨w.heap.size, 0, none⟩)] (fun _ => 0) (fun s => (s.id : Int) == x) (hh.still8 oa) (by omega)
    (fun s hs => ⟨by decide, by decide⟩) (fun a w => rfl)
    (fun s hs w' o => change1_any s w.heap.size x w' (o.cell (by rw [r1.cell]; rfl) (fun s => s)) (Nat.lt_of_lt_of_le r1.lt o.size)))
  have c4 : (w.alloc (.cells #[.int .i64 x] 3)).cell? ⟨q, 4, none⟩ = some (.slice A t.ss.length cap) := by rw [H1.out.row.cell]; rfl
  have OA := Lib.hid oa
  have MAY := Lib.hid hf.may
  have E0 : ∀ a g, Best (fun _ => 0) (fun s => (s.id : Int) == x) t.ss t.ss.length a g → a = placeI (idOf t.ss x) := fun a g hb => best_id hb
  have EE := Lib.hid E0
  clear h hh hf r1 oa E0
  cases hid : idOf t.ss x with
  | none =>
    have EB := Lib.hid (show tuneB t x = false ∧ tuneS t x false = t from by unfold tuneB tuneS; rw [hid]; exact ⟨rfl, rfl⟩)
    have PI : placeI (idOf t.ss x) = -1 := by rw [hid]; rfl
    rw [PI] at EE
    clear hid PI
    go_enter Try.func33, Try.ntmps33
    go_wp2_with fail
    (with_reducible refine FD.out.mono ?_)
    rintro e w2 ⟨⟨a, g, rfl, hb⟩, o⟩
    obtain rfl := EE.out a g hb
    have O2 := Lib.hid (OA.out.same o)
    have H2 := Lib.hid (H1.out.still o)
    clear hb o
    go_wp2_with fail
    go_ret
    exact ⟨by rw [EB.out.1]; rfl, by rw [EB.out.2]; exact H2.out, O2.out.up⟩
  | some i =>
    obtain ⟨s, hs, _⟩ := id_of hid
    have hil := lt_of_get hs
    obtain ⟨g, rfl, lg, hcap, hmx, hMg⟩ := ha (fun e => by rw [e] at hil; exact absurd hil (Nat.not_lt_zero _))
    have EB := Lib.hid (show tuneB t x = true ∧ tuneS t x false = ⟨t.ss.set i ⟨s.id, s.f.waste, s.used⟩, t.es, t.uses, t.begun⟩ from by unfold tuneB tuneS; rw [hid]; exact ⟨rfl, by simp only [hs]; rfl⟩)
    have PI : placeI (idOf t.ss x) = i := by rw [hid]; rfl
    rw [PI] at EE
    have C := Lib.hid (fun w => waste_any s.f w (May.wf (MAY.out s (List.mem_of_getElem? hs))))
    unfold Fl.val at C
    have HS := Lib.hid hs
    have ng : ((i : Int) == -1) = false := by simp
    clear hid PI ha hs
    generalize s.f.waste = k at *
    go_enter Try.func33, Try.ntmps33
    go_wp2_with fail
    (with_reducible refine FD.out.mono ?_)
    rintro e w2 ⟨⟨a, g', rfl, hb⟩, o⟩
    obtain rfl := EE.out a g' hb
    have O2 := Lib.hid (OA.out.same o)
    have H2 := Lib.hid (H1.out.still o)
    clear hb o H1 OA c4 FD EE
    go_wp2_with fail
    have OD := Lib.hid (Only.refl none_ w2).drew
    have KS := Lib.hid (fun w' (o : Only none_ w2 w') => (show w'.cell? ⟨q, 4, none⟩ = some (.slice (some ⟨g, 0, none⟩) t.ss.length cap) ∧ w'.cell? ⟨g, i * 6 + 1, none⟩ = some (.int .i64 s.f.n) ∧ w'.cell? ⟨g, i * 6 + 2, none⟩ = some (.int .i64 s.f.a) ∧ w'.cell? ⟨g, i * 6 + 3, none⟩ = some (.int .i64 s.f.p) ∧ w'.cell? ⟨g, i * 6 + 4, none⟩ = some (.int .i64 s.f.g) ∧ (∀ j, w'.frozen? ⟨g, j, none⟩ = false) from by
      have K := H2.out.still o
      obtain ⟨_, c1, c2, c3, c4, _⟩ := K.own.1.six10 HS.out
      exact ⟨by rw [K.row.cell]; rfl, c1, c2, c3, c4, fun j => K.own.1.frozen j⟩))
    obtain ⟨c4, c1, c2, c3, c5, z0⟩ := KS.out _ OD.out
    go_region_with (first
      | (go_at_call 37; (with_reducible refine (C.out _).mono ?_); rintro e w3 ⟨rfl, o3⟩
         have O3 := Lib.hid (OD.out.same o3)
         obtain ⟨e4, e1, e2, e3, e5, y0⟩ := KS.out _ O3.out
         clear o3)
      | fail)
    all_goals
      have K := H2.out.still O3.out
      have OG := Lib.hid (((((Only.refl (fun j => j = g) w3).into rfl (i * 6 + 1) (.int .i64 k.n)).into rfl (i * 6 + 1 + 1) (.int .i64 k.a)).into rfl (i * 6 + 1 + 2) (.int .i64 k.p)).into rfl (i * 6 + 1 + 3) (.int .i64 k.g))
      have HO : Owns ((((w3.setCell ⟨g, i * 6 + 1, none⟩ (.int .i64 k.n)).setCell ⟨g, i * 6 + 1 + 1, none⟩ (.int .i64 k.a)).setCell ⟨g, i * 6 + 1 + 2, none⟩ (.int .i64 k.p)).setCell ⟨g, i * 6 + 1 + 3, none⟩ (.int .i64 k.g)) 0 59 6 Sm.cells (.slice (some ⟨g, 0, none⟩) t.ss.length cap) (t.ss.set i ⟨s.id, k, s.used⟩) := K.own.1.flow10 HS.out k
      have H4 := Lib.hid (K.same_row OG.out HO)
      have O4 := Lib.hid ((O2.out.same O3.out).up.trans (S := M) OG.out (fun j _ e => by subst e; exact hMg))
      clear K HO OG e4 e1 e2 e3 e5 y0 c4 c1 c2 c3 c5 z0
      go_wp2_with fail
      go_ret
      exact ⟨by rw [EB.out.1]; rfl, by rw [EB.out.2]; exact H4.out, O4.out⟩

theorem waste10_any {q : Nat} {M : Nat → Prop} {c : Cf} {t : Tr} (x : Int) (w : World) (h : ST w q M c t) (hf : Fine10 c t) (hu : t.uses ≤ 1000) :
    Calls Try.prog 16 #[.pointer (some ⟨q, 0, none⟩), .int .i64 x] w fun e w' => e = .returned (.bool (tuneB t x)) ∧ ST w' q M c (tuneS t x false) ∧ Only M w w' := by
  obtain ⟨p, b, L, v, h⟩ := h
  have C := Lib.hid (change_waste x w h hf hu)
  clear h hf
  go_enter Try.func16, Try.ntmps16
  go_wp2_with fail
  (with_reducible refine C.out.mono ?_)
  rintro e w1 ⟨rfl, h, o⟩
  have H := Lib.hid h
  have O := Lib.hid o
  clear h o
  go_wp2_with fail
  go_ret
  exact ⟨rfl, ⟨p, b, L, v, H.out⟩, O.out⟩

end Go.Proofs.Ytfmmmiiohaaegaa
