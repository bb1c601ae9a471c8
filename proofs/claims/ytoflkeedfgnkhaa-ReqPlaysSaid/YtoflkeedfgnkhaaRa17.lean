/- The document's own table: a request is answered. -/
import Derived.Test.YtoflkeedfgnkhaaRu17
import Derived.Deep.CutRange
namespace Go.Proofs.Ytoflkeedfgnkhaa
open Go.RowKit Go.Maps
set_option linter.unusedVariables false
set_option maxRecDepth 100000

theorem fresh_at (w : World) (t : TypeId) (cs : Array Value) (n : Nat) (h : n = w.heap.size) : Row (w.alloc (.cells cs t)) n t cs := by subst h; exact Row.fresh w t cs
theorem take_cut {rs : List Rq} (h : OnceQ rs) {k : Nat} {r : Rq} (hk : rs[k]? = some r) : rs.take k ++ rs.drop (k + 1) = cutQ rs r.id := by
  have l := lt_of_get hk
  have e : rs = rs.take k ++ r :: rs.drop (k + 1) := by
    rw [List.getElem?_eq_getElem l] at hk
    injection hk with hk
    rw [← hk, ← List.drop_eq_getElem_cons l, List.take_append_drop]
  have h2 := h
  rw [e] at h2
  unfold OnceQ at h2
  rw [List.pairwise_append] at h2
  obtain ⟨_, h4, h5⟩ := h2
  have h4 := List.pairwise_cons.1 h4
  conv => rhs; rw [e]
  unfold cutQ
  rw [List.filter_append, List.filter_cons_of_neg (by simp), List.filter_eq_self.2 (fun a ha => by
    have := h5 a ha r List.mem_cons_self
    simpa using this), List.filter_eq_self.2 (fun a ha => by
    have := h4.1 a ha
    simp
    exact fun q => this q.symm)]
theorem info_rq : (Try.prog.info? 71).map (fun i => (i.zero, i.size, i.bytes)) = some (some (.agg #[.int .i64 0, .int .i64 0, .slice none 0 0, .slice none 0 0]), 4, 64) := by kernel_rfl
theorem ks_one {w : World} {G : Nat → Prop} {ks : List Ak} {ns : List An} (h : KeptAt w G ks ns) : ∀ u ∈ ks.flatMap Ak.cells, u.oneCell' = true := fun u hu => by
  obtain ⟨x, hx, hu⟩ := List.mem_flatMap.1 hu
  obtain ⟨i, hi⟩ := List.getElem?_of_mem hx
  have l := lt_of_get hi
  obtain ⟨_, _, a, cap, e, _⟩ := h.2 i x (ns[i]'(by rw [← h.1]; exact l)) hi (List.getElem?_eq_getElem _)
  exact ak_one_of x (by rw [e]; rfl) u hu
theorem ak_flat_len (l : List Ak) : (l.flatMap Ak.cells).length = l.length * 3 := by
  have := flat_size ak3 l
  unfold flat at this
  simpa using this
section
variable {w w' : World} {q : Nat} {c : Nat → Nat} {X : Loc18} {room L : Nat} {es rs : List Rq} {kept : List An}

theorem RB.newrow (h : RB w q c X room L es ⟨rs, kept⟩) {w6 : World} {v6 : Value} (own : Owns w6 w.heap.size 71 4 Qk.cells v6 (rs.map (qk X.P X.V))) (o : Only none_ w w6) :
    RB (w6.setCell ⟨q, 1, none⟩ v6) q (fun g => if v6.ownBlock = some g then 2 else c g) { X with v := v6 } room L rs ⟨rs, kept⟩ := by
  have o8 : Only (fun g => g = q) w6 (w6.setCell ⟨q, 1, none⟩ v6) := (Only.refl (fun g => g = q) w6).into rfl _ _
  have h6 := h.still o
  have cc : ∀ g, c g ≠ 0 → (if v6.ownBlock = some g then 2 else c g) = c g := fun g hg => if_neg (fun e => by have := (own.base_le e).1; have := h.lt g hg; omega)
  have np : ∀ g, c g ≠ 1 → ¬ g = q := fun g hg k => hg (by rw [k]; exact h.cp)
  have vq : ∀ g, v6.ownBlock = some g → ¬ g = q := fun g hg k => by have := (own.base_le hg).1; have := h.row.lt; omega
  refine { row := h6.row.put 1 v6, cp := ?_, own := (own.lower11 (Nat.zero_le _)).keep o8 vq, co := fun g hg => if_pos hg, ownk := h6.ownk.keep o8 (fun g hg => np g (by rw [h.ck g hg]; decide)), ck := fun g hg => ?_, kept := (h6.kept.keep o8 (fun g hg => np g (by have : c g = 4 := hg; rw [this]; decide))).more (fun g _ hg => ?_),
           pl := fun r hr => ⟨o8.row (h6.pl r hr).1 (np _ (by rw [(h.pl r hr).2]; omega)), ?_⟩, vl := fun r hr => ⟨o8.row (h6.vl r hr).1 (np _ (by rw [(h.vl r hr).2]; omega)), ?_⟩, lt := fun g hg => ?_, good := h.good, kl := h.kl }
  · show (if v6.ownBlock = some q then 2 else c q) = 1
    rw [cc _ (by rw [h.cp]; decide)]; exact h.cp
  · show (if v6.ownBlock = some g then 2 else c g) = 3
    rw [cc _ (by rw [h.ck g hg]; decide)]; exact h.ck g hg
  · have e : c g = 4 := hg
    show (if v6.ownBlock = some g then 2 else c g) = 4
    rw [cc _ (by rw [e]; decide)]; exact e
  · show (if v6.ownBlock = some _ then 2 else c _) = _
    rw [cc _ (by rw [(h.pl r hr).2]; omega)]; exact (h.pl r hr).2
  · show (if v6.ownBlock = some _ then 2 else c _) = _
    rw [cc _ (by rw [(h.vl r hr).2]; omega)]; exact (h.vl r hr).2
  · by_cases e : v6.ownBlock = some g
    · exact Nat.lt_of_lt_of_le (own.base_le e).2 o8.size
    · rw [if_neg e] at hg
      exact Nat.lt_of_lt_of_le (h6.lt g hg) o8.size
theorem RB.newkept (h : RB w q c X room L es ⟨rs, kept⟩) {w6 : World} {u6 : Value} {a : Ak} {n : An} {x : Int} {G : Nat → Prop} (own : OwnsAk w6 w.heap.size u6 (X.ks ++ [a])) (o : Only none_ w w6) (ka : AkOk w G a n) (hG : ∀ g, G g → c g = 11 + 2 * x.toNat ∧ g < w.heap.size) (x1 : 1 ≤ x) (hx : ∀ r ∈ rs, r.id ≠ x) :
    ∃ c', RB (w6.setCell ⟨q, 2, none⟩ u6) q c' { X with u := u6, ks := X.ks ++ [a] } room (L + 1) es ⟨rs, kept ++ [n]⟩ ∧ ∀ g, c' g ≠ 0 → c g ≠ 0 ∨ w.heap.size ≤ g := by
  classical
  have o8 : Only (fun g => g = q) w6 (w6.setCell ⟨q, 2, none⟩ u6) := (Only.refl (fun g => g = q) w6).into rfl _ _
  have h6 := h.still o
  have cc : ∀ g, c g ≠ 0 → c g ≠ 11 + 2 * x.toNat → (if G g then 4 else if u6.ownBlock = some g then 3 else c g) = c g := fun g hg h2 => by
    rw [if_neg (fun e => h2 (hG g e).1), if_neg (fun e => by have := (own.base_le e).1; have := h.lt g hg; omega)]
  have np : ∀ g, c g ≠ 1 → ¬ g = q := fun g hg k => hg (by rw [k]; exact h.cp)
  have vq : ∀ g, u6.ownBlock = some g → ¬ g = q := fun g hg k => by have := (own.base_le hg).1; have := h.row.lt; omega
  refine ⟨fun g => if G g then 4 else if u6.ownBlock = some g then 3 else c g, { row := h6.row.put 2 u6, cp := ?_, own := h6.own.keep o8 (fun g hg => np g (by rw [h.co g hg]; decide)), co := fun g hg => ?_, ownk := (own.lower11 (Nat.zero_le _)).keep o8 vq, ck := fun g hg => ?_, kept := ?_, pl := fun r hr => ⟨o8.row (h6.pl r hr).1 (np _ (by rw [(h.pl r hr).2]; omega)), ?_⟩, vl := fun r hr => ⟨o8.row (h6.vl r hr).1 (np _ (by rw [(h.vl r hr).2]; omega)), ?_⟩, lt := fun g hg => ?_, good := h.good, kl := ?_ }, fun g hg => ?_⟩
  · show (if G q then 4 else if u6.ownBlock = some q then 3 else c q) = 1
    rw [cc _ (by rw [h.cp]; decide) (by rw [h.cp]; omega)]; exact h.cp
  · show (if G g then 4 else if u6.ownBlock = some g then 3 else c g) = 2
    rw [cc _ (by rw [h.co g hg]; decide) (by rw [h.co g hg]; omega)]; exact h.co g hg
  · show (if G g then 4 else if u6.ownBlock = some g then 3 else c g) = 3
    rw [if_neg (fun e => by have := (hG g e).2; have := (own.base_le hg).1; omega), if_pos hg]
  · have k1 : KeptAt w (fun g => (if G g then 4 else if u6.ownBlock = some g then 3 else c g) = 4) (X.ks ++ [a]) (kept ++ [n]) := by
      refine (h.kept.more (fun g hg e => ?_)).push ⟨ka.1, ka.2.1, ka.2.2.more (fun g hg e => if_pos e)⟩
      have e4 : c g = 4 := e
      rw [cc g (by rw [e4]; decide) (by rw [e4]; omega)]; exact e4
    refine (k1.keep o (fun _ _ s => s)).keep o8 (fun g hg e => ?_)
    subst e
    rw [cc g (by rw [h.cp]; decide) (by rw [h.cp]; omega), h.cp] at hg
    exact absurd hg (by decide)
  · have := hx r hr
    have := (h.good.fine r hr).id1
    show (if G _ then 4 else if u6.ownBlock = some _ then 3 else c _) = _
    rw [cc _ (by rw [(h.pl r hr).2]; omega) (by rw [(h.pl r hr).2]; omega)]; exact (h.pl r hr).2
  · have := hx r hr
    have := (h.good.fine r hr).id1
    show (if G _ then 4 else if u6.ownBlock = some _ then 3 else c _) = _
    rw [cc _ (by rw [(h.vl r hr).2]; omega) (by rw [(h.vl r hr).2]; omega)]; exact (h.vl r hr).2
  · by_cases e : G g
    · have := (hG g e).2
      have := o.size
      have := o8.size
      omega
    · rw [if_neg e] at hg
      by_cases e2 : u6.ownBlock = some g
      · exact Nat.lt_of_lt_of_le (own.base_le e2).2 o8.size
      · rw [if_neg e2] at hg
        exact Nat.lt_of_lt_of_le (h6.lt g hg) o8.size
  · show (kept ++ [n]).length ≤ L + 1
    rw [List.length_append, List.length_singleton]
    have : kept.length ≤ L := h.kl
    omega
  · dsimp only at hg
    by_cases e : G g
    · exact .inl (by rw [(hG g e).1]; omega)
    · rw [if_neg e] at hg
      by_cases e2 : u6.ownBlock = some g
      · exact .inr (own.base_le e2).1
      · rw [if_neg e2] at hg
        exact .inl hg
set_option maxHeartbeats 4000000 in
theorem ranswer_any (k : Nat) (r : Rq) (a : An) (av : Value) (G : Nat → Prop) (w : World) (h : RB w q c X room L es ⟨cutQ es r.id, kept⟩) (he : OnceQ es) (hel : es.length ≤ 16) (hk : es[k]? = some r) (hv : VR w G av a.vs) (hG : ∀ g, G g → c g = 11 + 2 * r.id.toNat ∧ g < w.heap.size) (r1 : 1 ≤ r.id) (hL : L < 1000000) :
    Calls Try.prog 39 #[.pointer (some ⟨q, 0, none⟩), .int .i64 k, .agg #[.int .i64 a.id, .int .i64 a.code, av]] w fun e w' => e = .returned (.tuple #[]) ∧ RBto w q c room (L + 1) ⟨cutQ es r.id, kept ++ [a]⟩ w' := by
  obtain ⟨i0, hi0, hz0, hz1, hz2⟩ := info_parts info_rq
  have I0 := Lib.hid hi0
  have I1 := Lib.hid hz0
  have I2 := Lib.hid hz1
  have I3 := Lib.hid hz2
  clear hi0 hz0 hz1 hz2
  obtain ⟨ava, avc, rfl⟩ := hv.form
  obtain ⟨W1, hW1⟩ : ∃ W1, W1 = w.alloc (.cells #[.int .i64 a.id, .int .i64 a.code, .slice ava a.vs.length avc] 49) := ⟨_, rfl⟩
  have o1 : Only none_ w W1 := by rw [hW1]; exact (Only.refl _ _).alloc _
  have r1' : Row W1 w.heap.size 49 #[.int .i64 a.id, .int .i64 a.code, .slice ava a.vs.length avc] := by rw [hW1]; exact Row.fresh _ _ _
  have h1 := h.still o1
  obtain ⟨A, cap, hX, hF⟩ := h1.form
  obtain ⟨g, rfl, _⟩ := hF k r hk
  have kl := lt_of_get hk
  have OWN := h1.own
  rw [hX] at OWN
  have capk : es.length ≤ cap := by
    rcases OWN.2 with ⟨e, _⟩ | ⟨g', cap', cur, e, _, _, h3, _⟩
    · cases e
    · simp only [Value.slice.injEq] at e
      rw [e.2.2]
      rwa [List.length_map] at h3
  have CEL := World.ownsRow.cells OWN (g := g) rfl
  have HH := Lib.hid h1
  have O1 := Lib.hid o1
  have RX := Lib.hid r1'
  have HV := Lib.hid (hv.still o1)
  have TC := Lib.hid (take_cut he hk)
  have QC := Lib.hid (fun W (o : Only none_ W1 W) => show W.cell? ⟨q, 1, none⟩ = some (.slice (some ⟨g, 0, none⟩) es.length cap) ∧ W.frozen? ⟨q, 1, none⟩ = false ∧ q < W.heap.size from by
    have r := o.still HH.out.row
    rw [hX] at r
    exact ⟨r.cell 1, r.frozen 1, r.lt⟩)
  have SRC1 := Lib.hid (fun W (o : Only none_ W1 W) => show Src W (.slice (some ⟨g, 0, none⟩) k cap) k (((es.take k).map (qk X.P X.V)).flatMap Qk.cells) from .inr ⟨_, cap, rfl, fun j u hj => by
    rw [List.map_take, flat_takeL qk4] at hj
    refine o.cell (CEL j u ?_) (fun s => s)
    rw [List.getElem?_take] at hj
    split at hj
    · exact hj
    · cases hj⟩)
  have LN1 := Lib.hid (show (((es.take k).map (qk X.P X.V)).flatMap Qk.cells).length = k * 4 from by
    rw [qk_flat_len, List.length_map, List.length_take]
    congr 1
    omega)
  have LN2 := Lib.hid (show (((es.drop (k + 1)).map (qk X.P X.V)).flatMap Qk.cells).length = (es.length - (k + 1)) * 4 from by
    rw [qk_flat_len, List.length_map, List.length_drop])
  have FIN := Lib.hid (fun v6 (w6 : World) (hown : w6.ownsRow W1.heap.size 71 4 v6 (0 + k + (es.length - (k + 1))) ([] ++ ((es.take k).map (qk X.P X.V)).flatMap Qk.cells ++ ((es.drop (k + 1)).map (qk X.P X.V)).flatMap Qk.cells)) => show Owns w6 W1.heap.size 71 4 Qk.cells v6 ((cutQ es r.id).map (qk X.P X.V)) from by
    have e : (cutQ es r.id).map (qk X.P X.V) = (es.take k).map (qk X.P X.V) ++ (es.drop (k + 1)).map (qk X.P X.V) := by rw [← TC.out, List.map_append]
    unfold Owns
    rw [e, List.flatMap_append, List.length_append, List.length_map, List.length_map, List.length_take, List.length_drop]
    rw [show min k es.length + (es.length - (k + 1)) = 0 + k + (es.length - (k + 1)) from by omega]
    simpa using hown)
  have B1 := Lib.hid (show 0 + k ≤ maxLen from by unfold maxLen; omega)
  have B2 := Lib.hid (show (0 + k) * 64 ≤ 140737488355328 from by omega)
  have B3 := Lib.hid (show 0 + k + (es.length - (k + 1)) ≤ maxLen from by unfold maxLen; omega)
  have B4 := Lib.hid (show (0 + k + (es.length - (k + 1))) * 64 ≤ 140737488355328 from by omega)
  have v1 : IntKind.i64.wrap ((k : Int) + 1) = ((k + 1 : Nat) : Int) := by rw [IntKind.wrap_i64]; omega
  obtain ⟨d1, d2, d3⟩ := QC.out W1 (Only.refl _ _)
  obtain ⟨e1, e2, e3⟩ := QC.out W1.drew (Only.refl _ _).drew
  have S1 := Lib.hid (show w.heap.size + 1 = W1.heap.size from by rw [hW1]; simp)
  have HG := Lib.hid hG
  have R1 := Lib.hid r1
  have LL := Lib.hid hL
  have KQ := Lib.hid (show c q = 1 from h.cp)
  have QW := Lib.hid (show q < w.heap.size from h.row.lt)
  have KL := Lib.hid (show X.ks.length ≤ 1000000 from by have e1 : X.ks.length = kept.length := h.kept.1; have : kept.length ≤ L := h.kl; omega)
  have CEL := Lib.hid CEL
  clear h h1 hv o1 r1' hF OWN hX he hG r1 hL hk
  go_enter Try.func39, Try.ntmps39
  go_upto_region 1 with fail
  first | rw [← hW1] | skip
  clear hW1
  go_cut [5] from 6 to 24 (fun s wx => s = .pointer (some ⟨w.heap.size, 0, none⟩) ∧ ∃ (v6 : Value) (c6 : Nat → Nat), RB wx q c6 { X with v := v6 } room L (cutQ es r.id) ⟨cutQ es r.id, kept⟩ ∧ (∀ g, c6 g ≠ 0 → c g ≠ 0 ∨ W1.heap.size ≤ g) ∧ (∀ g, c g ≠ 0 → c6 g = c g) ∧ Only (fun g => g = q) W1 wx)
  case first =>
    by_cases hc : cap = k + 1
    · have SRC2 := Lib.hid (fun W (o : Only none_ W1 W) => show Src W (.slice (some ⟨g, 0, none⟩) (es.length - (k + 1)) (cap - (k + 1))) (es.length - (k + 1)) (((es.drop (k + 1)).map (qk X.P X.V)).flatMap Qk.cells) from .inr ⟨_, _, rfl, fun j u hj => by
        rw [List.drop_eq_nil_of_le (by omega)] at hj
        simp at hj⟩)
      have kc : k ≤ cap := by omega
      have kn : k + 1 ≤ es.length := by omega
      have ki : (k : Int) + 1 ≤ (es.length : Int) := by omega
      have k0 : (0 : Int) ≤ (k : Int) + 1 := by omega
      replace hc : (cap = k + 1) = True := eq_true hc
      go_region_law (first
        | (refine step_append_src rfl (.tmp 7) (.tmp 13) 60 rfl W1.heap.size 71 i0 _ 4 64 Try.underlying60 I0.out I1.out I2.out I3.out rfl (by decide) _ 0 [] rfl ?_ _ k _ rfl (SRC1.out _ ?_) (LN1.out) (qk_cells_one _) B1.out B2.out ?_ ?_
           · exact ⟨rfl, .inr ⟨_, 0, #[], rfl, by (first | exact Nat.le_refl _ | (simp; done) | (simp; omega)), (show Row _ _ _ _ from by (repeat (first | exact fresh_at _ _ _ _ (by simp) | exact fresh_at _ _ _ _ rfl | (with_reducible refine Row.drew ?_) | (with_reducible refine Row.alloc ?_ _)))), Nat.le_refl _, Nat.zero_le _, rfl, rfl⟩⟩
           · (repeat (first | exact Only.refl _ _ | exact O6.out | (with_reducible refine Only.drew ?_) | (with_reducible refine Only.alloc ?_ _)))
           · exact Only.size (S := none_) (by (repeat (first | exact Only.refl _ _ | exact O6.out | (with_reducible refine Only.drew ?_) | (with_reducible refine Only.alloc ?_ _))))
           intro v5 w5 hown5 hgrow5
           have O6 := Lib.hid (show Only none_ W1 w5 from Only.trans (S := none_) (by (repeat (first | exact Only.refl _ _ | exact O6.out | (with_reducible refine Only.drew ?_) | (with_reducible refine Only.alloc ?_ _)))) (Only.of_grown hgrow5) (fun j hj q' => by first | (injection q' with q'; simp at q'; omega) | (injection q'; omega)))
           have OW5 := Lib.hid hown5
           have z5 : W1.heap.size ≤ w5.heap.size := O6.out.size
           have q5 := QC.out _ O6.out
           clear hown5 hgrow5)
        | (refine step_append_src rfl (.tmp 14) (.tmp 21) 60 rfl W1.heap.size 71 i0 _ 4 64 Try.underlying60 I0.out I1.out I2.out I3.out rfl (by decide) _ (0 + k) _ rfl OW5.out _ (es.length - (k + 1)) _ rfl (SRC2.out _ O6.out) (LN2.out) (qk_cells_one _) B3.out B4.out z5 ?_
           intro v6 w6 hown6 hgrow6
           have W6 := Lib.hid (show Only none_ W1 w6 from O6.out.trans (Only.of_grown hgrow6) (fun j hj q' => by have := (World.ownsRow.lt OW5.out j q'.symm).1; omega))
           have OW6 := Lib.hid (FIN.out v6 w6 hown6)
           obtain ⟨a6, k6, hv6⟩ := owns_form OW6.out
           rw [List.length_map] at hv6
           subst hv6
           obtain ⟨q6, f6, l6⟩ := QC.out _ W6.out
           clear hown6 hgrow6)
        | fail)
      all_goals
        go_wp2_with fail
        go_meet
        exact ⟨rfl, _, _, HH.out.newrow OW6.out W6.out, (fun gg hg => by
          split at hg
          · rename_i e
            exact .inr (OW6.out.base_le e).1
          · exact .inl hg), (fun gg hg => if_neg (fun e => by have := (OW6.out.base_le e).1; have := HH.out.lt gg hg; omega)), (W6.out.up (S := fun g => g = q)).same ((Only.refl (fun g => g = q) w6).into rfl _ _)⟩
    · have SRC2 := Lib.hid (fun W (o : Only none_ W1 W) => show Src W (.slice (some ⟨g, (k + 1) * 4, none⟩) (es.length - (k + 1)) (cap - (k + 1))) (es.length - (k + 1)) (((es.drop (k + 1)).map (qk X.P X.V)).flatMap Qk.cells) from .inr ⟨_, _, rfl, fun j u hj => by
        rw [List.map_drop, flat_dropL qk4, List.getElem?_drop] at hj
        rw [addL11]
        have := CEL ((k + 1) * 4 + j) u hj
        rw [addL11, Nat.zero_add] at this
        exact o.cell this (fun s => s)⟩)
      have kc : k ≤ cap := by omega
      have kn : k + 1 ≤ es.length := by omega
      have ki : (k : Int) + 1 ≤ (es.length : Int) := by omega
      have k0 : (0 : Int) ≤ (k : Int) + 1 := by omega
      replace hc : (cap = k + 1) = False := eq_false hc
      go_region_law (first
        | (refine step_append_src rfl (.tmp 7) (.tmp 13) 60 rfl W1.heap.size 71 i0 _ 4 64 Try.underlying60 I0.out I1.out I2.out I3.out rfl (by decide) _ 0 [] rfl ?_ _ k _ rfl (SRC1.out _ ?_) (LN1.out) (qk_cells_one _) B1.out B2.out ?_ ?_
           · exact ⟨rfl, .inr ⟨_, 0, #[], rfl, by (first | exact Nat.le_refl _ | (simp; done) | (simp; omega)), (show Row _ _ _ _ from by (repeat (first | exact fresh_at _ _ _ _ (by simp) | exact fresh_at _ _ _ _ rfl | (with_reducible refine Row.drew ?_) | (with_reducible refine Row.alloc ?_ _)))), Nat.le_refl _, Nat.zero_le _, rfl, rfl⟩⟩
           · (repeat (first | exact Only.refl _ _ | exact O6.out | (with_reducible refine Only.drew ?_) | (with_reducible refine Only.alloc ?_ _)))
           · exact Only.size (S := none_) (by (repeat (first | exact Only.refl _ _ | exact O6.out | (with_reducible refine Only.drew ?_) | (with_reducible refine Only.alloc ?_ _))))
           intro v5 w5 hown5 hgrow5
           have O6 := Lib.hid (show Only none_ W1 w5 from Only.trans (S := none_) (by (repeat (first | exact Only.refl _ _ | exact O6.out | (with_reducible refine Only.drew ?_) | (with_reducible refine Only.alloc ?_ _)))) (Only.of_grown hgrow5) (fun j hj q' => by first | (injection q' with q'; simp at q'; omega) | (injection q'; omega)))
           have OW5 := Lib.hid hown5
           have z5 : W1.heap.size ≤ w5.heap.size := O6.out.size
           have q5 := QC.out _ O6.out
           clear hown5 hgrow5)
        | (refine step_append_src rfl (.tmp 14) (.tmp 21) 60 rfl W1.heap.size 71 i0 _ 4 64 Try.underlying60 I0.out I1.out I2.out I3.out rfl (by decide) _ (0 + k) _ rfl OW5.out _ (es.length - (k + 1)) _ rfl (SRC2.out _ O6.out) (LN2.out) (qk_cells_one _) B3.out B4.out z5 ?_
           intro v6 w6 hown6 hgrow6
           have W6 := Lib.hid (show Only none_ W1 w6 from O6.out.trans (Only.of_grown hgrow6) (fun j hj q' => by have := (World.ownsRow.lt OW5.out j q'.symm).1; omega))
           have OW6 := Lib.hid (FIN.out v6 w6 hown6)
           obtain ⟨a6, k6, hv6⟩ := owns_form OW6.out
           rw [List.length_map] at hv6
           subst hv6
           obtain ⟨q6, f6, l6⟩ := QC.out _ W6.out
           clear hown6 hgrow6)
        | fail)
      all_goals
        go_wp2_with fail
        go_meet
        exact ⟨rfl, _, _, HH.out.newrow OW6.out W6.out, (fun gg hg => by
          split at hg
          · rename_i e
            exact .inr (OW6.out.base_le e).1
          · exact .inl hg), (fun gg hg => if_neg (fun e => by have := (OW6.out.base_le e).1; have := HH.out.lt gg hg; omega)), (W6.out.up (S := fun g => g = q)).same ((Only.refl (fun g => g = q) w6).into rfl _ _)⟩
  case rest =>
    obtain ⟨rfl, v6, c6, hb, hg1, hg2, ho⟩ := hcut
    have OC := Lib.hid ho
    have HB := Lib.hid hb
    have GA := Lib.hid hg1
    have GB := Lib.hid hg2
    obtain ⟨ua, uc, hu⟩ := owns_form hb.ownk
    have BX := Lib.hid (ho.row RX.out (fun e => by have : w.heap.size = q := e; have := QW.out; omega))
    obtain ⟨i1, hi0, hz0, hz1, hz2⟩ := info_parts info_an
    have J0 := Lib.hid hi0
    have J1 := Lib.hid hz0
    have J2 := Lib.hid hz1
    have J3 := Lib.hid hz2
    have QD := Lib.hid (fun W (o : Only none_ wc W) => show W.cell? ⟨q, 2, none⟩ = some (.slice ua X.ks.length uc) ∧ W.frozen? ⟨q, 2, none⟩ = false ∧ q < W.heap.size ∧ W.cell? ⟨w.heap.size, 0, none⟩ = some (.int .i64 a.id) ∧ W.cell? ⟨w.heap.size, 1, none⟩ = some (.int .i64 a.code) ∧ W.cell? ⟨w.heap.size, 2, none⟩ = some (.slice ava a.vs.length avc) from by
      have r := o.still HB.out.row
      have b := o.still BX.out
      rw [show ({ X with v := v6 } : Loc18).u = X.u from rfl] at r
      rw [show X.u = .slice ua X.ks.length uc from hu] at r
      exact ⟨r.cell 2, r.frozen 2, r.lt, b.cell 0, b.cell 1, b.cell 2⟩)
    have SRC := Lib.hid (fun W (o : Only none_ wc W) => show Src W (.slice ua X.ks.length uc) X.ks.length (X.ks.flatMap Ak.cells) from by
      have := (Src.own hb.ownk).still o
      rw [show ({ X with v := v6 } : Loc18).u = X.u from rfl, show X.u = .slice ua X.ks.length uc from hu] at this
      exact this)
    have KO := Lib.hid (ks_one hb.kept)
    have B5 := Lib.hid (show 0 + X.ks.length ≤ maxLen from by have := KL.out; unfold maxLen; omega)
    have B6 := Lib.hid (show (0 + X.ks.length) * 40 ≤ 140737488355328 from by have := KL.out; omega)
    have B7 := Lib.hid (show 0 + X.ks.length + 1 ≤ maxLen from by have := KL.out; unfold maxLen; omega)
    have B8 := Lib.hid (show (0 + X.ks.length + 1) * 40 ≤ 140737488355328 from by have := KL.out; omega)
    have VC := Lib.hid (show VR wc G (.slice ava a.vs.length avc) a.vs from HV.out.keep ho (fun gg hg e => by have := (HG.out gg hg).1; have e1 : gg = q := e; rw [e1, KQ.out] at this; omega))
    replace HG := Lib.hid (show ∀ gg, G gg → c6 gg = 11 + 2 * r.id.toNat ∧ gg < wc.heap.size from fun gg hg => ⟨by rw [GB.out gg (by rw [(HG.out gg hg).1]; omega)]; exact (HG.out gg hg).1, by have := (HG.out gg hg).2; have := O1.out.size; have := ho.size; omega⟩)
    have FIN2 := Lib.hid (fun u6 (w6 : World) (hown : w6.ownsRow wc.heap.size 49 3 u6 (0 + X.ks.length + 1) ([] ++ X.ks.flatMap Ak.cells ++ Ak.cells ⟨a.id, a.code, .slice ava a.vs.length avc⟩)) => show OwnsAk w6 wc.heap.size u6 (X.ks ++ [(⟨a.id, a.code, .slice ava a.vs.length avc⟩ : Ak)]) from by
      show Owns _ _ _ _ _ _ _
      unfold Owns
      rw [List.flatMap_append, List.length_append]
      simpa using hown)
    have SW := Lib.hid (show w.heap.size ≤ wc.heap.size from by have := O1.out.size; have := ho.size; omega)
    obtain ⟨f0, f1, f2, f3, f4, f5⟩ := QD.out _ (Only.refl none_ wc).drew
    obtain ⟨f6, f7, f8, f9, f10, f11⟩ := QD.out _ ((Only.refl none_ wc).alloc (.cells #[] 49)).drew
    obtain ⟨h0, h1, h2, h3, h4, h5⟩ := QD.out _ (((Only.refl none_ wc).alloc (.cells #[] 49)).alloc (.cells #[.int .i64 a.id, .int .i64 a.code, .slice ava a.vs.length avc] 49)).drew
    obtain ⟨k0, k1, k2, k3, k4, k5⟩ := QD.out _ (((Only.refl none_ wc).alloc (.cells #[.int .i64 a.id, .int .i64 a.code, .slice ava a.vs.length avc] 49)).alloc (.cells #[] 49)).drew
    obtain ⟨m0, m1, m2, m3, m4, m5⟩ := QD.out _ ((Only.refl none_ wc).alloc (.cells #[.int .i64 a.id, .int .i64 a.code, .slice ava a.vs.length avc] 49)).drew
    clear hb ho hg1 hg2 hu hi0 hz0 hz1 hz2 QC SRC1 LN1 LN2 FIN B1 B2 B3 B4 v1 d1 d2 d3 e1 e2 e3
    go_upto_region 2 with fail
    go_region_law (first
      | (refine step_append_src rfl (.tmp 26) (.tmp 30) 40 rfl wc.heap.size 49 i1 _ 3 40 Try.underlying40 J0.out J1.out J2.out J3.out rfl (by decide) _ 0 [] rfl ?_ _ X.ks.length _ rfl (SRC.out _ ?_) (ak_flat_len _) KO.out B5.out B6.out ?_ ?_
         · exact ⟨rfl, .inr ⟨_, 0, #[], rfl, by (first | exact Nat.le_refl _ | (simp; done) | (simp; omega)), (show Row _ _ _ _ from by (repeat (first | exact fresh_at _ _ _ _ (by simp) | exact fresh_at _ _ _ _ rfl | (with_reducible refine Row.drew ?_) | (with_reducible refine Row.alloc ?_ _)))), Nat.le_refl _, Nat.zero_le _, rfl, rfl⟩⟩
         · (repeat (first | exact Only.refl _ _ | exact O6.out | (with_reducible refine Only.drew ?_) | (with_reducible refine Only.alloc ?_ _)))
         · exact Only.size (S := none_) (by (repeat (first | exact Only.refl _ _ | exact O6.out | (with_reducible refine Only.drew ?_) | (with_reducible refine Only.alloc ?_ _))))
         intro v5 w5 hown5 hgrow5
         have O6 := Lib.hid (show Only none_ wc w5 from Only.trans (S := none_) (by (repeat (first | exact Only.refl _ _ | exact O6.out | (with_reducible refine Only.drew ?_) | (with_reducible refine Only.alloc ?_ _)))) (Only.of_grown hgrow5) (fun j hj q' => by first | (injection q' with q'; simp at q'; omega) | (injection q'; omega)))
         have OW5 := Lib.hid hown5
         have KR := Lib.hid (fun (gg : Nat) (t : TypeId) (cs : Array Value) (k : Row _ gg t cs) hn => (Only.of_grown hgrow5).row k hn)
         have z5 : wc.heap.size ≤ w5.heap.size := O6.out.size
         obtain ⟨b0, b1, b2, b3, b4, b5⟩ := QD.out _ O6.out
         clear hown5 hgrow5)
      | (refine step_append_src rfl (.tmp 31) (.tmp 33) 40 rfl wc.heap.size 49 i1 _ 3 40 Try.underlying40 J0.out J1.out J2.out J3.out rfl (by decide) _ (0 + X.ks.length) ([] ++ X.ks.flatMap Ak.cells) rfl ?_ _ 1 (Ak.cells ⟨a.id, a.code, .slice ava a.vs.length avc⟩) rfl ?_ rfl (ak_one_of _ rfl) B7.out B8.out ?_ ?_
         · (repeat (first | exact OW5.out | (refine World.ownsRow.alloc ?_ _) ))
         · refine .inr ⟨_, _, rfl, fun j u hj => ?_⟩
           rw [addL11, Nat.zero_add, Row.cell (cs := #[.int .i64 a.id, .int .i64 a.code, .slice ava a.vs.length avc]) (t := 49) (by (repeat (first | exact fresh_at _ _ _ _ (by simp) | exact fresh_at _ _ _ _ rfl | (with_reducible refine Row.drew ?_) | (with_reducible refine Row.alloc ?_ _) | (refine KR.out _ _ _ ?_ (fun q2 => by first | (have q3 : some _ = some wc.heap.size := q2; injection q3 with q3; omega) | (have q3 : some _ = some (wc.heap.size + 1) := q2; injection q3 with q3; omega)))))), List.getElem?_toArray]
           exact hj
         · exact Only.size (S := none_) (by (repeat (first | exact Only.refl _ _ | exact O6.out | (with_reducible refine Only.drew ?_) | (with_reducible refine Only.alloc ?_ _))))
         intro v6 w6 hown6 hgrow6
         have W6 := Lib.hid (show Only none_ wc w6 from Only.trans (S := none_) (by (repeat (first | exact Only.refl _ _ | exact O6.out | (with_reducible refine Only.drew ?_) | (with_reducible refine Only.alloc ?_ _)))) (Only.of_grown hgrow6) (fun j hj q' => by have := (World.ownsRow.lt OW5.out j q'.symm).1; omega))
         have OW6 := Lib.hid (FIN2.out v6 w6 hown6)
         obtain ⟨a6, k6, hv6⟩ := owns_form OW6.out
         rw [List.length_append, List.length_singleton] at hv6
         subst hv6
         obtain ⟨q6, f6, l6, _, _, _⟩ := QD.out _ W6.out
         clear hown6 hgrow6)
      | fail)
    all_goals
      have FX := HB.out.newkept OW6.out W6.out ⟨rfl, rfl, VC.out⟩ HG.out R1.out cut_no
      obtain ⟨c9, h9, g9⟩ := FX
      have o9 := (Only.refl (fun g => g = q) w6).into rfl 2 (.slice a6 (X.ks.length + 1) k6)
      have H9 := Lib.hid h9
      have G9 := Lib.hid g9
      have O9 := Lib.hid (OC.out.same ((W6.out.up (S := fun g => g = q)).same o9))
      clear h9 g9 o9
      go_wp2_with fail
      go_end0
      refine ⟨rfl, ⟨c9, _, H9.out, fun gg hg => ?_⟩, (O1.out.up (S := fun g => c g ≠ 0)).same (O9.out.more (fun i _ e => by rw [e, KQ.out]; decide))⟩
      rcases G9.out gg hg with z | z
      · rcases GA.out gg z with z | z
        · exact .inl z
        · exact .inr (by have := O1.out.size; omega)
      · exact .inr (by have := SW.out; omega)
end
end Go.Proofs.Ytoflkeedfgnkhaa
