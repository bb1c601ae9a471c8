/- The document's own tracker: what is told of a stream. -/
import Derived.Test.YtfmmmiiohaaegaaRacc
import Derived.Deep.RegionWith
namespace Go.Proofs.Ytfmmmiiohaaegaa
open Go.RowKit Go.Maps
set_option linter.unusedVariables false

set_option maxRecDepth 100000 in
set_option maxHeartbeats 4000000 in
theorem rtune_late {q : Nat} {M : Nat → Prop} {c : Cf} {t : Tr} (x : Int) (w : World) (h : RS w q M c t) (hf : Fine10 c t) :
    Calls Try.prog 15 #[.pointer (some ⟨q, 0, none⟩), .int .i64 x, .bool true] w fun e w' => e = .returned (.bool (tuneB t x)) ∧ RS w' q M c (tuneS t x true) ∧ Only M w w' := by
  obtain ⟨qt, v, h⟩ := h
  obtain ⟨A0, cap0, rfl, _, ha0⟩ := h.own.form
  have hlen : t.ss.length ≤ 16 := by have := hf.few; have := hf.ok.m16; omega
  have H0 := Lib.hid h
  have HF := Lib.hid hf
  have RANK := Lib.hid hf.rank
  clear h hf
  go_enter Try.func15, Try.ntmps15
  go_wp2_with fail
  go_loopw [7] (fun i wr => ∃ k : Nat, k ≤ t.ss.length ∧ i = .int .i64 k ∧ (∀ (j : Nat) s, j < k → t.ss[j]? = some s → (s.id : Int) ≠ x) ∧ wr = w) (fun i _ => t.ss.length - (intOf i).toNat)
  case atStart => exact ⟨0, Nat.zero_le _, rfl, fun j s hj => by omega, rfl⟩
  case round =>
    obtain ⟨k, hk, rfl, hn, hwr⟩ := hrel
    subst hwr
    have HN := Lib.hid hn
    clear hn
    have s0 : wr.cell? ⟨q, 0, none⟩ = some (.slice A0 t.ss.length cap0) := by rw [H0.out.row.cell]; rfl
    by_cases hlt : k < t.ss.length
    · obtain ⟨s, hs⟩ : ∃ s, t.ss[k]? = some s := ⟨_, List.getElem?_eq_getElem hlt⟩
      obtain ⟨g, rfl, _, _, _, hMg⟩ := ha0 (fun e => by rw [e] at hlt; exact absurd hlt (Nat.not_lt_zero _))
      obtain ⟨y0, y1, y2, y3, y4, y5⟩ := H0.out.own.1.six10 hs
      by_cases e0 : (s.id : Int) = x
      · have t0 : ((s.id : Int) == x) = true := by simp [e0]
        have ID : idOf t.ss x = some k := id_is hs e0 (fun j b hj hb => HN.out j b hj hb)
        have EB := Lib.hid (show tuneB t x = true ∧ tuneS t x true = ⟨t.ss.set k ⟨s.id, s.f.late, s.used⟩, t.es, t.uses, t.begun⟩ from by unfold tuneB tuneS; rw [ID]; exact ⟨rfl, by simp only [hs]; rfl⟩)
        have C := Lib.hid (fun w => rlate_any s.f w (May.wf (HF.out.may s (List.mem_of_getElem? hs))))
        unfold Fl.val at C
        have HS := Lib.hid hs
        clear hs e0 ID ha0
        generalize s.f.late = kk at *
        go_wp2_with fail
        have OD := Lib.hid (Only.refl none_ wr).drew
        have KS := Lib.hid (fun w' (o : Only none_ wr w') => (show w'.cell? ⟨q, 0, none⟩ = some (.slice (some ⟨g, 0, none⟩) t.ss.length cap0) ∧ w'.cell? ⟨g, k * 6 + 1, none⟩ = some (.int .i64 s.f.n) ∧ w'.cell? ⟨g, k * 6 + 2, none⟩ = some (.int .i64 s.f.a) ∧ w'.cell? ⟨g, k * 6 + 3, none⟩ = some (.int .i64 s.f.p) ∧ w'.cell? ⟨g, k * 6 + 4, none⟩ = some (.int .i64 s.f.g) ∧ (∀ j, w'.frozen? ⟨g, j, none⟩ = false) from by
          have K := H0.out.keep o (fun _ _ s => s)
          obtain ⟨_, c1, c2, c3, c4, _⟩ := K.own.1.six10 HS.out
          exact ⟨by rw [K.row.cell]; rfl, c1, c2, c3, c4, fun j => K.own.1.frozen j⟩))
        clear s0 y0 y1 y2 y3 y4 y5
        obtain ⟨c4, c1, c2, c3, c5, z0⟩ := KS.out _ OD.out
        go_region_with (first
          | (go_at_call 35; (with_reducible refine (C.out _).mono ?_); rintro e w3 ⟨rfl, o3⟩
             have O3 := Lib.hid (OD.out.same o3)
             obtain ⟨e4, e1, e2, e3, e5, y0⟩ := KS.out _ O3.out
             clear o3)
          | fail)
        all_goals
          have K := H0.out.keep O3.out (fun _ _ s => s)
          have OG := Lib.hid (((((Only.refl (fun j => j = g) w3).into rfl (k * 6 + 1) (.int .i64 kk.n)).into rfl (k * 6 + 1 + 1) (.int .i64 kk.a)).into rfl (k * 6 + 1 + 2) (.int .i64 kk.p)).into rfl (k * 6 + 1 + 3) (.int .i64 kk.g))
          have HO : Owns ((((w3.setCell ⟨g, k * 6 + 1, none⟩ (.int .i64 kk.n)).setCell ⟨g, k * 6 + 1 + 1, none⟩ (.int .i64 kk.a)).setCell ⟨g, k * 6 + 1 + 2, none⟩ (.int .i64 kk.p)).setCell ⟨g, k * 6 + 1 + 3, none⟩ (.int .i64 kk.g)) 0 59 6 Sm.cells (.slice (some ⟨g, 0, none⟩) t.ss.length cap0) (t.ss.set k ⟨s.id, kk, s.used⟩) := K.own.1.flow10 HS.out kk
          have H4 := Lib.hid (K.same_row OG.out HO)
          have O4 := Lib.hid (O3.out.up.trans (S := M) OG.out (fun j _ e => by subst e; exact hMg))
          clear K HO OG e4 e1 e2 e3 e5 y0 c4 c1 c2 c3 c5 z0
          go_wp2_with fail
          go_ret
          exact ⟨by rw [EB.out.1]; rfl, by rw [EB.out.2]; exact ⟨qt, _, H4.out⟩, O4.out⟩
      · have t0 : ((s.id : Int) == x) = false := by simp [e0]
        have NX := Lib.hid (show ∀ (j : Nat) s, j < k + 1 → t.ss[j]? = some s → (s.id : Int) ≠ x from fun j b hj hb => by
          by_cases q : j = k
          · subst q; rw [hs] at hb; injection hb with hb; rw [← hb]; exact e0
          · exact HN.out j b (by omega) hb)
        clear hs e0 ha0
        go_wp2_with fail
        go_roundw
        case rel => exact ⟨k + 1, by omega, by go_num, NX.out, trivial⟩
        case measure => simp [intOf]; omega
    · have e : k = t.ss.length := by omega
      subst e
      have ID : idOf t.ss x = none := id_none (fun j b hb => HN.out j b (lt_of_get hb) hb)
      have EB := Lib.hid (show tuneB t x = false ∧ tuneS t x true = t from by unfold tuneB tuneS; rw [ID]; exact ⟨rfl, rfl⟩)
      clear ID
      go_wp2_with fail
      go_ret
      exact ⟨by rw [EB.out.1]; rfl, by rw [EB.out.2]; exact ⟨qt, _, H0.out⟩, Only.refl M wr⟩

set_option maxRecDepth 100000 in
set_option maxHeartbeats 4000000 in
theorem rtune_waste {q : Nat} {M : Nat → Prop} {c : Cf} {t : Tr} (x : Int) (w : World) (h : RS w q M c t) (hf : Fine10 c t) :
    Calls Try.prog 15 #[.pointer (some ⟨q, 0, none⟩), .int .i64 x, .bool false] w fun e w' => e = .returned (.bool (tuneB t x)) ∧ RS w' q M c (tuneS t x false) ∧ Only M w w' := by
  obtain ⟨qt, v, h⟩ := h
  obtain ⟨A0, cap0, rfl, _, ha0⟩ := h.own.form
  have hlen : t.ss.length ≤ 16 := by have := hf.few; have := hf.ok.m16; omega
  have H0 := Lib.hid h
  have HF := Lib.hid hf
  have RANK := Lib.hid hf.rank
  clear h hf
  go_enter Try.func15, Try.ntmps15
  go_wp2_with fail
  go_loopw [7] (fun i wr => ∃ k : Nat, k ≤ t.ss.length ∧ i = .int .i64 k ∧ (∀ (j : Nat) s, j < k → t.ss[j]? = some s → (s.id : Int) ≠ x) ∧ wr = w) (fun i _ => t.ss.length - (intOf i).toNat)
  case atStart => exact ⟨0, Nat.zero_le _, rfl, fun j s hj => by omega, rfl⟩
  case round =>
    obtain ⟨k, hk, rfl, hn, hwr⟩ := hrel
    subst hwr
    have HN := Lib.hid hn
    clear hn
    have s0 : wr.cell? ⟨q, 0, none⟩ = some (.slice A0 t.ss.length cap0) := by rw [H0.out.row.cell]; rfl
    by_cases hlt : k < t.ss.length
    · obtain ⟨s, hs⟩ : ∃ s, t.ss[k]? = some s := ⟨_, List.getElem?_eq_getElem hlt⟩
      obtain ⟨g, rfl, _, _, _, hMg⟩ := ha0 (fun e => by rw [e] at hlt; exact absurd hlt (Nat.not_lt_zero _))
      obtain ⟨y0, y1, y2, y3, y4, y5⟩ := H0.out.own.1.six10 hs
      by_cases e0 : (s.id : Int) = x
      · have t0 : ((s.id : Int) == x) = true := by simp [e0]
        have ID : idOf t.ss x = some k := id_is hs e0 (fun j b hj hb => HN.out j b hj hb)
        have EB := Lib.hid (show tuneB t x = true ∧ tuneS t x false = ⟨t.ss.set k ⟨s.id, s.f.waste, s.used⟩, t.es, t.uses, t.begun⟩ from by unfold tuneB tuneS; rw [ID]; exact ⟨rfl, by simp only [hs]; rfl⟩)
        have C := Lib.hid (fun w => rwaste_any s.f w (May.wf (HF.out.may s (List.mem_of_getElem? hs))))
        unfold Fl.val at C
        have HS := Lib.hid hs
        clear hs e0 ID ha0
        generalize s.f.waste = kk at *
        go_wp2_with fail
        have OD := Lib.hid (Only.refl none_ wr).drew
        have KS := Lib.hid (fun w' (o : Only none_ wr w') => (show w'.cell? ⟨q, 0, none⟩ = some (.slice (some ⟨g, 0, none⟩) t.ss.length cap0) ∧ w'.cell? ⟨g, k * 6 + 1, none⟩ = some (.int .i64 s.f.n) ∧ w'.cell? ⟨g, k * 6 + 2, none⟩ = some (.int .i64 s.f.a) ∧ w'.cell? ⟨g, k * 6 + 3, none⟩ = some (.int .i64 s.f.p) ∧ w'.cell? ⟨g, k * 6 + 4, none⟩ = some (.int .i64 s.f.g) ∧ (∀ j, w'.frozen? ⟨g, j, none⟩ = false) from by
          have K := H0.out.keep o (fun _ _ s => s)
          obtain ⟨_, c1, c2, c3, c4, _⟩ := K.own.1.six10 HS.out
          exact ⟨by rw [K.row.cell]; rfl, c1, c2, c3, c4, fun j => K.own.1.frozen j⟩))
        clear s0 y0 y1 y2 y3 y4 y5
        obtain ⟨c4, c1, c2, c3, c5, z0⟩ := KS.out _ OD.out
        go_region_with (first
          | (go_at_call 36; (with_reducible refine (C.out _).mono ?_); rintro e w3 ⟨rfl, o3⟩
             have O3 := Lib.hid (OD.out.same o3)
             obtain ⟨e4, e1, e2, e3, e5, y0⟩ := KS.out _ O3.out
             clear o3)
          | fail)
        all_goals
          have K := H0.out.keep O3.out (fun _ _ s => s)
          have OG := Lib.hid (((((Only.refl (fun j => j = g) w3).into rfl (k * 6 + 1) (.int .i64 kk.n)).into rfl (k * 6 + 1 + 1) (.int .i64 kk.a)).into rfl (k * 6 + 1 + 2) (.int .i64 kk.p)).into rfl (k * 6 + 1 + 3) (.int .i64 kk.g))
          have HO : Owns ((((w3.setCell ⟨g, k * 6 + 1, none⟩ (.int .i64 kk.n)).setCell ⟨g, k * 6 + 1 + 1, none⟩ (.int .i64 kk.a)).setCell ⟨g, k * 6 + 1 + 2, none⟩ (.int .i64 kk.p)).setCell ⟨g, k * 6 + 1 + 3, none⟩ (.int .i64 kk.g)) 0 59 6 Sm.cells (.slice (some ⟨g, 0, none⟩) t.ss.length cap0) (t.ss.set k ⟨s.id, kk, s.used⟩) := K.own.1.flow10 HS.out kk
          have H4 := Lib.hid (K.same_row OG.out HO)
          have O4 := Lib.hid (O3.out.up.trans (S := M) OG.out (fun j _ e => by subst e; exact hMg))
          clear K HO OG e4 e1 e2 e3 e5 y0 c4 c1 c2 c3 c5 z0
          go_wp2_with fail
          go_ret
          exact ⟨by rw [EB.out.1]; rfl, by rw [EB.out.2]; exact ⟨qt, _, H4.out⟩, O4.out⟩
      · have t0 : ((s.id : Int) == x) = false := by simp [e0]
        have NX := Lib.hid (show ∀ (j : Nat) s, j < k + 1 → t.ss[j]? = some s → (s.id : Int) ≠ x from fun j b hj hb => by
          by_cases q : j = k
          · subst q; rw [hs] at hb; injection hb with hb; rw [← hb]; exact e0
          · exact HN.out j b (by omega) hb)
        clear hs e0 ha0
        go_wp2_with fail
        go_roundw
        case rel => exact ⟨k + 1, by omega, by go_num, NX.out, trivial⟩
        case measure => simp [intOf]; omega
    · have e : k = t.ss.length := by omega
      subst e
      have ID : idOf t.ss x = none := id_none (fun j b hb => HN.out j b (lt_of_get hb) hb)
      have EB := Lib.hid (show tuneB t x = false ∧ tuneS t x false = t from by unfold tuneB tuneS; rw [ID]; exact ⟨rfl, rfl⟩)
      clear ID
      go_wp2_with fail
      go_ret
      exact ⟨by rw [EB.out.1]; rfl, by rw [EB.out.2]; exact ⟨qt, _, H0.out⟩, Only.refl M wr⟩

end Go.Proofs.Ytfmmmiiohaaegaa
