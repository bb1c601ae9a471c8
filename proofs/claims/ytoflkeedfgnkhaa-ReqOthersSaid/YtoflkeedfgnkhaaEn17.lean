/- Package req: a request ends. -/
import Derived.Test.YtoflkeedfgnkhaaRq17
import Derived.Test.YtoflkeedfgnkhaaSrc
namespace Go.Proofs.Ytoflkeedfgnkhaa
open Go.RowKit Go.Maps
set_option linter.unusedVariables false
set_option maxRecDepth 100000

theorem info_an : (Try.prog.info? 49).map (fun i => (i.zero, i.size, i.bytes)) = some (some (.agg #[.int .i64 0, .int .i64 0, .slice none 0 0]), 3, 40) := by kernel_rfl
theorem owns_form {α : Type} {w : World} {base : Nat} {e : TypeId} {k : Nat} {c : α → List Value} {v : Value} {xs : List α} (h : Owns w base e k c v xs) : ∃ a cap, v = .slice a xs.length cap := by
  rcases h.2 with ⟨h0, h2⟩ | ⟨g, cap, cur, hv, _⟩
  · exact ⟨none, 0, by rw [h0, h2]⟩
  · exact ⟨_, _, hv⟩
section
variable {w w' : World} {p : Nat} {c : Nat → Nat} {X : Loc17} {room L : Nat} {es : List Ent} {t : Tq}
/-- one more answer: its row v', which was the old one or is new; what it tells lies in blocks of G -/
theorem TB.push (h : TB w p c X room L es t) {G : Nat → Prop} {a : Ak} {n : An} {v' : Value} (hG : ∀ g, G g → c g = 0 ∧ g < w.heap.size) (ka : AkOk w G a n)
    (own : OwnsAk w' 0 v' (X.ks ++ [a])) (row : Row w' p 59 #[.int .i64 room, .map (some X.b), v']) (hv : v'.ownBlock = X.v.ownBlock ∨ ∃ g, v'.ownBlock = some g ∧ w.heap.size ≤ g ∧ g < w'.heap.size) (o : Only (fun k => k = p ∨ c k = 3) w w') :
    ∃ c', TB w' p c' { X with v := v', ks := X.ks ++ [a] } room (L + 1) es ⟨t.rs, t.kept ++ [n]⟩ ∧ ∀ g, c' g ≠ 0 → c g ≠ 0 ∨ G g ∨ w.heap.size ≤ g := by
  classical
  have hn : ∀ g, c g ≠ 1 → c g ≠ 3 → ¬ (g = p ∨ c g = 3) := fun g h1 h3 q => by
    rcases q with q | q
    · exact h1 (by rw [q]; exact h.cp)
    · exact h3 q
  refine ⟨fun g => if G g then 4 else if w.heap.size ≤ g ∧ v'.ownBlock = some g then 3 else c g, ?_, fun g hg => ?_⟩
  · have cc : ∀ g, c g ≠ 0 → (if G g then 4 else if w.heap.size ≤ g ∧ v'.ownBlock = some g then 3 else c g) = c g := fun g hg => by
      rw [if_neg (fun q => hg (hG g q).1), if_neg (fun q => by have := h.lt g hg; omega)]
    refine { row := row, cp := ?_, mp := h.mp.keep o (hn _ (by rw [h.cb]; decide) (by rw [h.cb]; decide)), cb := ?_, own := own, co := fun g hg => ?_, kept := ?_, rq := fun r hr => ⟨o.row (h.rq r hr).1 (hn _ (by rw [(h.rq r hr).2]; omega) (by rw [(h.rq r hr).2]; omega)), ?_⟩, lt := fun g hg => ?_, good := h.good, kl := ?_ }
    · show (if G p then 4 else if w.heap.size ≤ p ∧ v'.ownBlock = some p then 3 else c p) = 1
      rw [cc p (by rw [h.cp]; decide)]; exact h.cp
    · show (if G X.b then 4 else if w.heap.size ≤ X.b ∧ v'.ownBlock = some X.b then 3 else c X.b) = 2
      rw [cc _ (by rw [h.cb]; decide)]; exact h.cb
    · show (if G g then 4 else if w.heap.size ≤ g ∧ v'.ownBlock = some g then 3 else c g) = 3
      rcases hv with e | ⟨g', e, hlt, _⟩
      · have := h.co g (by rw [← e]; exact hg)
        rw [cc g (by rw [this]; decide)]; exact this
      · have : v'.ownBlock = some g := hg
        rw [this] at e
        injection e with e
        subst e
        rw [if_neg (fun q => by have := (hG g q).2; omega), if_pos ⟨hlt, this⟩]
    · have k1 : KeptAt w (fun g => (if G g then 4 else if w.heap.size ≤ g ∧ v'.ownBlock = some g then 3 else c g) = 4) (X.ks ++ [a]) (t.kept ++ [n]) := by
        refine (h.kept.more (fun g hg q => ?_)).push ⟨ka.1, ka.2.1, ka.2.2.more (fun g hg q => if_pos q)⟩
        have q4 : c g = 4 := q
        rw [cc g (by rw [q4]; decide)]; exact q4
      refine k1.keep o (fun g hg q => ?_)
      rcases q with q | q
      · subst q
        rw [cc g (by rw [h.cp]; decide), h.cp] at hg
        exact absurd hg (by decide)
      · rw [cc g (by rw [q]; decide), q] at hg
        exact absurd hg (by decide)
    · show (if G _ then 4 else if w.heap.size ≤ _ ∧ v'.ownBlock = some _ then 3 else c _) = _
      rw [cc _ (by rw [(h.rq r hr).2]; omega)]; exact (h.rq r hr).2
    · by_cases q : G g
      · exact Nat.lt_of_lt_of_le (hG g q).2 o.size
      · rw [if_neg q] at hg
        by_cases q2 : w.heap.size ≤ g ∧ v'.ownBlock = some g
        · exact own.base_le q2.2 |>.2
        · rw [if_neg q2] at hg
          exact Nat.lt_of_lt_of_le (h.lt g hg) o.size
    · show (t.kept ++ [n]).length ≤ L + 1
      rw [List.length_append, List.length_singleton]
      have := h.kl
      omega
  · dsimp only at hg
    by_cases q : G g
    · exact .inr (.inl q)
    · rw [if_neg q] at hg
      by_cases q2 : w.heap.size ≤ g ∧ v'.ownBlock = some g
      · exact .inr (.inr q2.1)
      · rw [if_neg q2] at hg
        exact .inl hg
theorem ks_len (h : TB w p c X room L es t) : X.ks.length ≤ L := by have := h.kept.1; have := h.kl; omega
theorem VR.form {G : Nat → Prop} {v : Value} {xs : List Int} (h : VR w G v xs) : ∃ a cap, v = .slice a xs.length cap := by
  obtain ⟨a, cap, e, _⟩ := h
  exact ⟨a, cap, e⟩
theorem ak_one_of (a : Ak) (h : a.v.oneCell' = true) : ∀ u ∈ a.cells, u.oneCell' = true := by
  intro u hu
  simp only [Ak.cells, List.mem_cons, List.not_mem_nil, or_false] at hu
  rcases hu with rfl | rfl | rfl
  · rfl
  · rfl
  · exact h
set_option maxHeartbeats 1000000 in
theorem tend_any (x code : Int) (v : Value) (vs : List Int) (G : Nat → Prop) (w : World) (h : TB w p c X room L es t) (he : cutV es x = t.rs.map (ent17 X.A)) (wx : (Lit.int .i64 x).wf = true) (hv : VR w G v vs) (hG : ∀ g, G g → c g = 0 ∧ g < w.heap.size) (hL : L < 1000000) :
    Calls Try.prog 38 #[.pointer (some ⟨p, 0, none⟩), .int .i64 x, .int .i64 code, v] w fun e w' => e = .returned (.tuple #[]) ∧ (∃ c' X', TW w' p c' X' room (L + 1) ⟨t.rs, t.kept ++ [⟨x, code, vs⟩]⟩ ∧ ∀ g, c' g ≠ 0 → c g ≠ 0 ∨ G g ∨ w.heap.size ≤ g) ∧ Only (fun g => c g ≠ 0) w w' := by
  obtain ⟨i0, hi0, hz0, hz1, hz2⟩ := info_parts info_an
  obtain ⟨w5, run5, m5, o5⟩ := h.mp.drop Try.underlying57 x wx 0
  have e5 := h.mapped m5 o5
  obtain ⟨av, cv, rfl⟩ := hv.form
  have hv5 : VR w5 G (.slice av vs.length cv) vs := hv.keep o5 (fun g hg q => by have := (hG g hg).1; rw [q, h.cb] at this; cases this)
  rw [he] at e5
  obtain ⟨W6, hW6⟩ : ∃ W6, W6 = w5.alloc (.cells #[.int .i64 x, .int .i64 code, .slice av vs.length cv] 49) := ⟨_, rfl⟩
  have o6 : Only none_ w5 W6 := by rw [hW6]; exact (Only.refl _ _).alloc _
  have r6 : Row W6 w5.heap.size 49 #[.int .i64 x, .int .i64 code, .slice av vs.length cv] := by rw [hW6]; exact Row.fresh _ _ _
  have e6 := e5.still o6
  have SR := Lib.hid (show Src W6 (.slice (some ⟨w5.heap.size, 0, none⟩) 1 1) 1 (Ak.cells ⟨x, code, .slice av vs.length cv⟩) from .inr ⟨_, 1, rfl, fun j u hj => by
    rw [addL11, Nat.zero_add, r6.cell, List.getElem?_toArray]
    exact hj⟩)
  have OW := Lib.hid e6.own
  have KL := Lib.hid (show X.ks.length ≤ 1000000 from by have := ks_len h; omega)
  have O5 := Lib.hid o5
  have E6 := Lib.hid e6
  have HG := Lib.hid (show ∀ g, G g → c g = 0 ∧ g < W6.heap.size from fun g hg => ⟨(hG g hg).1, by have := (hG g hg).2; have := o5.size; have := o6.size; omega⟩)
  have HV := Lib.hid (hv5.still o6)
  have O6 := Lib.hid (show Only (fun g => c g ≠ 0) w W6 from (o5.more (S' := fun g => c g ≠ 0) (fun i _ e => by rw [e, h.cb]; decide)).idle o6)
  have c1 : w.cell? ⟨p, 1, none⟩ = some (.map (some X.b)) := h.row.cell 1
  have d2 : w5.cell? ⟨p, 2, none⟩ = some X.v := e5.row.cell 2
  have SZ := Lib.hid (show w.heap.size ≤ W6.heap.size from O6.out.size)
  clear hG hv hv5 e5 e6 o5 o6 r6 m5 he hL
  go_enter Try.func38, Try.ntmps38
  go_wp2_with (at_builtin; go_loud (first | rw [← hW6] | skip); (refine wpList_append_src _ rfl (.tmp 17) (.tmp 22) 40 rfl 0 49 i0 _ 3 40 Try.underlying40 hi0 hz0 hz1 hz2 rfl (by decide) _ X.ks.length (X.ks.flatMap Ak.cells) rfl OW.out _ 1 (Ak.cells ⟨x, code, .slice av vs.length cv⟩) rfl SR.out rfl (ak_one_of _ rfl) (by have := KL.out; unfold maxLen; omega) (by have := KL.out; omega) (Nat.zero_le _) ?_))
  intro v' w7 hown hgrow hblk
  rw [← hW6] at hgrow
  have ES : W6.heap.size = w5.heap.size + 1 := by rw [hW6]; simp
  have own7 := Lib.hid (show OwnsAk w7 0 v' (X.ks ++ [⟨x, code, .slice av vs.length cv⟩]) from by
    show Owns _ _ _ _ _ _ _
    unfold Owns
    rw [List.flatMap_append, List.length_append]
    simpa using hown)
  have og := Only.of_grown hgrow
  have np : ¬ some p = X.v.ownBlock := fun q => by have := E6.out.co p q.symm; rw [E6.out.cp] at this; cases this
  have r7 := og.row E6.out.row np
  have k2 : w7.cell? ⟨p, 2, none⟩ = some X.v := r7.cell 2
  have f2 := r7.frozen 2
  have OG := Lib.hid (og.more (S' := fun k => k = p ∨ c k = 3) (fun i _ q => .inr (E6.out.co i q.symm)))
  have R7 := Lib.hid r7
  have SZ7 := Lib.hid (show W6.heap.size ≤ w7.heap.size from og.size)
  have HB := Lib.hid (show v'.ownBlock = X.v.ownBlock ∨ ∃ g, v'.ownBlock = some g ∧ W6.heap.size ≤ g ∧ g < w7.heap.size from by
    rcases hblk with q | q
    · exact .inl q
    · exact .inr ⟨_, q, Nat.le_of_eq ES, (own7.out.base_le q).2⟩)
  clear hown hgrow hblk og np r7 d2 c1 ES
  obtain ⟨va, vc, hva⟩ := owns_form own7.out
  rw [List.length_append, List.length_singleton] at hva
  subst hva
  obtain ⟨w8, hw8⟩ : ∃ w8, w8 = w7.setCell ⟨p, 2, none⟩ (.slice va (X.ks.length + 1) vc) := ⟨_, rfl⟩
  have o8 : Only (fun k => k = p) w7 w8 := by rw [hw8]; exact (Only.refl (fun k => k = p) w7).into rfl _ _
  have r8 : Row w8 p 59 #[.int .i64 room, .map (some X.b), (.slice va (X.ks.length + 1) vc)] := by rw [hw8]; exact R7.out.put 2 _
  have own8 : OwnsAk w8 0 (.slice va (X.ks.length + 1) vc) (X.ks ++ [⟨x, code, .slice av vs.length cv⟩]) := own7.out.keep o8 (fun g hg q => by
    subst q
    rcases HB.out with k | ⟨g', k, k2, _⟩
    · have := E6.out.co g (by rw [← k]; exact hg)
      rw [E6.out.cp] at this; cases this
    · rw [hg] at k
      injection k with k
      subst k
      have := E6.out.row.lt
      omega)
  have o68 := OG.out.same (o8.more (S' := fun k => k = p ∨ c k = 3) (fun i _ q => .inl q))
  have FIN := Lib.hid (E6.out.push (G := G) (a := ⟨x, code, .slice av vs.length cv⟩) (n := ⟨x, code, vs⟩) HG.out ⟨rfl, rfl, HV.out⟩ own8 r8 (by
    rcases HB.out with k | ⟨g', k, k2, k3⟩
    · exact .inl k
    · exact .inr ⟨g', k, k2, by have := o8.size; omega⟩) o68)
  have FO := Lib.hid (O6.out.same (o68.more (S' := fun g => c g ≠ 0) (fun i _ q => by
    rcases q with q | q
    · rw [q, E6.out.cp]; decide
    · rw [q]; decide)))
  clear r8 own8 o68 o8
  go_wp2_with fail
  rw [← hw8]
  go_end0
  obtain ⟨c', hT, hc⟩ := FIN.out
  refine ⟨rfl, ⟨c', _, hT, fun g hg => ?_⟩, FO.out⟩
  rcases hc g hg with q | q | q
  · exact .inl q
  · exact .inr (.inl q)
  · exact .inr (.inr (by have := SZ.out; omega))
end
end Go.Proofs.Ytoflkeedfgnkhaa
