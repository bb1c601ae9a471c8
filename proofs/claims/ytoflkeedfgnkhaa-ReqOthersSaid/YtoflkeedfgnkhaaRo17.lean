/- The document's own table: a request is opened. -/
import Derived.Test.YtoflkeedfgnkhaaMk17
namespace Go.Proofs.Ytoflkeedfgnkhaa
open Go.RowKit Go.Maps
set_option linter.unusedVariables false
set_option maxRecDepth 100000
theorem src_row {w : World} {g : Nat} {t : TypeId} {x kd : Int} {n gp gv cap : Nat} (h : Row w g t #[.int .i64 x, .int .i64 kd, .slice (some ⟨gp, 0, none⟩) n n, .slice (some ⟨gv, 0, none⟩) n n]) : Src w (.slice (some ⟨g, 0, none⟩) 1 cap) 1 (Qk.cells ⟨x, kd, n, gp, gv⟩) := .inr ⟨_, _, rfl, fun j u hj => by
  rw [addL11, Nat.zero_add, h.cell]
  rw [← List.getElem?_toArray] at hj
  exact hj⟩
theorem grown_row {W w6 : World} {base size k : Nat} {e t : TypeId} {v : Value} {xs : List Value} {g : Nat} {cs : Array Value} (hg : W.grownBy w6 v.ownBlock) (own : W.ownsRow base e size v k xs) (r : Row W g t cs) (ht : t ≠ e) : Row w6 g t cs := by
  refine (Only.of_grown hg).row r (fun q => ?_)
  rcases own.2 with ⟨h, _⟩ | ⟨g', cap, cur, h, _, hh, _⟩
  · rw [h] at q; cases q
  · rw [h] at q
    injection q with q
    subst q
    have r' : W.heap[g]? = _ := r
    rw [hh] at r'
    injection r' with r'
    injection r' with _ r' _
    exact ht r'.symm
theorem own_slice {W : World} {base size k : Nat} {e : TypeId} {v : Value} {xs : List Value} (own : W.ownsRow base e size v k xs) {m : Nat} (hm : k = m) : ∃ A cap, v = .slice A m cap := by
  subst hm
  rcases own.2 with ⟨h, rfl⟩ | ⟨g', cap, cur, h, _⟩
  · exact ⟨_, _, h⟩
  · exact ⟨_, _, h⟩
def RN17 (base : Nat) (x kd : Int) (n : Nat) (W : World) (news : List Value) : Prop := ∃ gp gv, (base ≤ gp ∧ base ≤ gv) ∧ news = Qk.cells ⟨x, kd, n, gp, gv⟩ ∧ Row W gp 3 (plC (List.replicate n 0)) ∧ Row W gv 30 (vsC (List.replicate n 0))
theorem step_append_some {R : World → List Value → Prop} {P : Program} {ops : Array Oper} {o : Oper} {a : Act} {w : World} {K : Act → World → Prop} {Q : Exit → Act → World → Prop} {E : Prop}
    (hg : o.guard = none) (s x : Operand) (t : TypeId) (hop : o.op = Op.call { callee := Callee.builtin Builtin.append, args := #[s, x], argTypes := #[t, t] })
    (base : Nat) (e : TypeId) (i : TypeInfo) (z : Value) (size bytes : Nat) (h1 : P.underlying t = some (.slice e)) (h2 : P.info? e = some i) (h3 : i.zero = some z) (h4 : i.size = size) (h5 : i.bytes = bytes) (h6 : z.cells.size = size) (h7 : 0 < size)
    (v : Value) (k : Nat) (xs : List Value) (hs : a.eval s = v) (hown : w.ownsRow base e size v k xs)
    (m : Nat) (hx : ∃ news, Src w (a.eval x) m news ∧ news.length = m * size ∧ (∀ u ∈ news, u.oneCell' = true) ∧ R w news)
    (b1 : k + m ≤ maxLen) (b2 : (k + m) * bytes ≤ 140737488355328) (b3 : base ≤ w.heap.size)
    (hK : ∀ news v' w', R w news → w'.ownsRow base e size v' (k + m) (xs ++ news) → w.grownBy w' v.ownBlock → K (a.put o.dst v') w') :
    if Region.wanted o (yielded ops a.tmps) = true then Oper.wp P o a w K Q else E := by
  obtain ⟨news, q1, q2, q3, q4⟩ := hx
  exact step_append_src hg s x t hop base e i z size bytes h1 h2 h3 h4 h5 h6 h7 v k xs hs hown _ m news rfl q1 q2 q3 b1 b2 b3 (fun v' w' o g => hK news v' w' q4 o g)
def bornC (c : Nat → Nat) (x : Int) (gp gv : Nat) (v : Value) : Nat → Nat := fun g => if g = gp then 10 + 2 * x.toNat else if g = gv then 11 + 2 * x.toNat else if v.ownBlock = some g then 2 else c g
theorem own_ne {W : World} {base size k : Nat} {e t : TypeId} {v : Value} {xs : List Value} {g : Nat} {cs : Array Value} (own : W.ownsRow base e size v k xs) (r : Row W g t cs) (ht : t ≠ e) : v.ownBlock ≠ some g := fun q => by
  rcases own.2 with ⟨h, _⟩ | ⟨g', cap, cur, h, _, hh, _⟩
  · rw [h] at q; cases q
  · rw [h] at q
    injection q with q
    subst q
    have r' : W.heap[g']? = _ := r
    rw [hh] at r'
    injection r' with r'
    injection r' with _ r' _
    exact ht r'.symm
theorem row_two {W : World} {g g' : Nat} {t t' : TypeId} {cs cs' : Array Value} (r : Row W g t cs) (r' : Row W g' t' cs') (ht : t ≠ t') : g ≠ g' := fun e => by
  subst e
  have a : W.heap[g]? = _ := r
  have b : W.heap[g]? = _ := r'
  rw [a] at b
  injection b with b
  injection b with _ b _
  exact ht b
section
variable {w w6 : World} {q : Nat} {c : Nat → Nat} {X : Loc18} {room L : Nat} {t : Tq}
theorem RB.born (h : RW w q c X room L t) {x k : Int} {n gp gv : Nat} {v6 : Value} (hm : mayO x k n) (wx : (Lit.int .i64 x).wf = true) (hx : hasQ t.rs x = false) (hl : t.rs.length < room) (o : Only none_ w w6) (lo : w.heap.size ≤ gp ∧ w.heap.size ≤ gv)
    (own : w6.ownsRow w.heap.size 71 4 v6 (0 + t.rs.length + 1) ([] ++ (t.rs.map (qk X.P X.V)).flatMap Qk.cells ++ Qk.cells ⟨x, k, n, gp, gv⟩)) (rp : Row w6 gp 3 (plC (List.replicate n 0))) (rv : Row w6 gv 30 (vsC (List.replicate n 0))) :
    RW (w6.setCell ⟨q, 1, none⟩ v6) q (bornC c x gp gv v6) { X with v := v6, P := setI X.P x gp, V := setI X.V x gv } room L ⟨t.rs ++ [newQ x k n], t.kept⟩ := by
  have o8 : Only (fun g => g = q) w6 (w6.setCell ⟨q, 1, none⟩ v6) := (Only.refl (fun g => g = q) w6).into rfl _ _
  have h6 := h.still o
  have n1 := own_ne own rp (by decide)
  have n2 := own_ne own rv (by decide)
  have n3 := row_two rp rv (by decide)
  have lq := h.row.lt
  have base := World.ownsRow.lt own
  have cc : ∀ g, c g ≠ 0 → bornC c x gp gv v6 g = c g := fun g hg => by
    have := h.lt g hg
    unfold bornC
    rw [if_neg (by omega), if_neg (by omega), if_neg (fun e => by have := (base g e).1; omega)]
  have cP : bornC c x gp gv v6 gp = 10 + 2 * x.toNat := if_pos rfl
  have cV : bornC c x gp gv v6 gv = 11 + 2 * x.toNat := by unfold bornC; rw [if_neg (fun e => n3 e.symm), if_pos rfl]
  have np : ∀ g, c g ≠ 1 → ¬ g = q := fun g hg k => hg (by rw [k]; exact h.cp)
  have vq : ∀ g, v6.ownBlock = some g → ¬ g = q := fun g hg k => by have := (base g hg).1; omega
  have hne : ∀ r ∈ t.rs, r.id ≠ x := fun r hr e => by
    rw [hasQ_iff.2 ⟨r, hr, e⟩] at hx; cases hx
  have em : (t.rs ++ [newQ x k n]).map (qk (setI X.P x gp) (setI X.V x gv)) = t.rs.map (qk X.P X.V) ++ [⟨x, k, n, gp, gv⟩] := by
    rw [List.map_append]
    congr 1
    · apply List.map_congr_left
      intro s hs
      unfold qk setI
      rw [if_neg (hne s hs), if_neg (hne s hs)]
    · unfold qk setI newQ
      simp
  have own' : Owns w6 w.heap.size 71 4 Qk.cells v6 ((t.rs ++ [newQ x k n]).map (qk (setI X.P x gp) (setI X.V x gv))) := by
    unfold Owns
    rw [em, List.flatMap_append, List.length_append, List.length_map]
    simpa using own
  refine { row := h6.row.put 1 v6, cp := (by rw [cc _ (by rw [h.cp]; decide)]; exact h.cp), own := (own'.lower11 (Nat.zero_le _)).keep o8 vq, co := fun g hg => ?_, ownk := h6.ownk.keep o8 (fun g hg => np g (by rw [h.ck g hg]; decide)), ck := fun g hg => (by rw [cc _ (by rw [h.ck g hg]; decide)]; exact h.ck g hg), kept := (h6.kept.more (fun g _ e => ?_)).keep o8 (fun g hg e => ?_),
           pl := fun r hr => ?_, vl := fun r hr => ?_, lt := fun g hg => ?_, good := h.good.more hm wx hx hl, kl := h.kl }
  · have e1 : g ≠ gp := fun e => n1 (by rw [← e]; exact hg)
    have e2 : g ≠ gv := fun e => n2 (by rw [← e]; exact hg)
    unfold bornC
    rw [if_neg e1, if_neg e2]
    exact if_pos hg
  · have e4 : c g = 4 := e
    show bornC c x gp gv v6 g = 4
    rw [cc _ (by rw [e4]; decide)]; exact e4
  · subst e
    have z : bornC c x gp gv v6 g = 4 := hg
    rw [cc g (by rw [h.cp]; decide), h.cp] at z
    exact absurd z (by decide)
  · rcases List.mem_append.1 hr with hr | hr
    · show Row _ (setI X.P x gp r.id) _ _ ∧ bornC c x gp gv v6 (setI X.P x gp r.id) = _
      unfold setI
      rw [if_neg (hne r hr), cc _ (by rw [(h.pl r hr).2]; omega)]
      exact ⟨o8.row (h6.pl r hr).1 (np _ (by rw [(h.pl r hr).2]; omega)), (h.pl r hr).2⟩
    · rw [List.mem_singleton.1 hr]
      show Row _ (setI X.P x gp x) _ _ ∧ bornC c x gp gv v6 (setI X.P x gp x) = 10 + 2 * x.toNat
      unfold setI
      rw [if_pos rfl]
      exact ⟨o8.row rp (fun e => by have e' : gp = q := e; omega), cP⟩
  · rcases List.mem_append.1 hr with hr | hr
    · show Row _ (setI X.V x gv r.id) _ _ ∧ bornC c x gp gv v6 (setI X.V x gv r.id) = _
      unfold setI
      rw [if_neg (hne r hr), cc _ (by rw [(h.vl r hr).2]; omega)]
      exact ⟨o8.row (h6.vl r hr).1 (np _ (by rw [(h.vl r hr).2]; omega)), (h.vl r hr).2⟩
    · rw [List.mem_singleton.1 hr]
      show Row _ (setI X.V x gv x) _ _ ∧ bornC c x gp gv v6 (setI X.V x gv x) = 11 + 2 * x.toNat
      unfold setI
      rw [if_pos rfl]
      exact ⟨o8.row rv (fun e => by have e' : gv = q := e; omega), cV⟩
  · by_cases z : g = gp
    · rw [z]; exact Nat.lt_of_lt_of_le rp.lt o8.size
    · by_cases z2 : g = gv
      · rw [z2]; exact Nat.lt_of_lt_of_le rv.lt o8.size
      · unfold bornC at hg
        rw [if_neg z, if_neg z2] at hg
        by_cases z3 : v6.ownBlock = some g
        · exact Nat.lt_of_lt_of_le (base g z3).2 o8.size
        · rw [if_neg z3] at hg
          exact Nat.lt_of_lt_of_le (h6.lt g hg) o8.size
theorem RB.bornto (h : RW w q c X room L t) {w0 : World} (o0 : Only none_ w0 w) {x k : Int} {n : Nat} {v6 : Value} (hm : mayO x k n) (wx : (Lit.int .i64 x).wf = true) (hx : hasQ t.rs x = false) (hl : t.rs.length < room) (o : Only none_ w w6)
    (fx : ∃ gp gv, (w.heap.size ≤ gp ∧ w.heap.size ≤ gv) ∧ w6.ownsRow w.heap.size 71 4 v6 (0 + t.rs.length + 1) ([] ++ (t.rs.map (qk X.P X.V)).flatMap Qk.cells ++ Qk.cells ⟨x, k, n, gp, gv⟩) ∧ Row w6 gp 3 (plC (List.replicate n 0)) ∧ Row w6 gv 30 (vsC (List.replicate n 0))) :
    RBto w0 q c room (L + 1) ⟨t.rs ++ [newQ x k n], t.kept⟩ (w6.setCell ⟨q, 1, none⟩ v6) := by
  obtain ⟨gp, gv, lo, own, rp, rv⟩ := fx
  have o8 : Only (fun g => c g ≠ 0) w6 (w6.setCell ⟨q, 1, none⟩ v6) := (Only.refl (fun g => c g ≠ 0) w6).into (by show c q ≠ 0; rw [h.cp]; decide) _ _
  have s0 := o0.size
  refine ⟨⟨_, _, (RB.born h hm wx hx hl o lo own rp rv).up (Nat.le_succ _), fun g hg => ?_⟩, (o0.same o).then_ o8⟩
  unfold bornC at hg
  by_cases z : g = gp
  · exact .inr (by omega)
  · by_cases z2 : g = gv
    · exact .inr (by omega)
    · rw [if_neg z, if_neg z2] at hg
      by_cases z3 : v6.ownBlock = some g
      · exact .inr (by have := (World.ownsRow.lt own g z3).1; omega)
      · rw [if_neg z3] at hg
        exact .inl hg
end
section
variable {w w' : World} {q : Nat} {c : Nat → Nat} {X : Loc18} {room L : Nat} {t : Tq}
set_option maxHeartbeats 8000000 in
theorem ropen_new (x kd : Int) (n : Nat) (w : World) (h : RW w q c X room L t) (wx : (Lit.int .i64 x).wf = true) (hm : mayO x kd n) (hx : hasQ t.rs x = false) (hl : t.rs.length < room) :
    Calls Try.prog 26 #[.pointer (some ⟨q, 0, none⟩), .int .i64 x, .int .i64 kd, .int .i64 (n : Int)] w fun e w' => e = .returned (.int .i64 0) ∧ RBto w q c room (L + 1) ⟨t.rs ++ [newQ x kd n], t.kept⟩ w' := by
  have AT := rat_any x w h
  rw [show atI t.rs x = -1 from by
    rcases at_find h.good.once x with ⟨_, e⟩ | ⟨_, r, e, _⟩
    · unfold atI; rw [e]
    · rw [(find_some e).2.2] at hx; cases hx] at AT
  replace AT := Lib.hid AT
  obtain ⟨m1, m2, m3, m4⟩ := id hm
  have t1 : decide (x < 1) = false := decide_eq_false (by omega)
  have t2 : decide (kd < 1) = false := decide_eq_false (by omega)
  have t3 : decide (2 < kd) = false := decide_eq_false (by omega)
  have t4 : decide ((n : Int) < 1) = false := decide_eq_false (by omega)
  have t5 : decide (8 < (n : Int)) = false := decide_eq_false (by omega)
  have t6 : decide (room ≤ t.rs.length) = false := decide_eq_false (by omega)
  have len : t.rs.length ≤ 16 := Nat.le_trans h.good.len h.good.high
  have n8 : n ≤ 8 := by omega
  obtain ⟨A, cap, hX, hF⟩ := h.form
  obtain ⟨i0, hi0, hz0, hz1, hz2⟩ := info_parts info_rq
  have I0 := Lib.hid hi0
  have I1 := Lib.hid hz0
  have I2 := Lib.hid hz1
  have I3 := Lib.hid hz2
  clear hi0 hz0 hz1 hz2
  obtain ⟨wc, hwc⟩ : ∃ wc, wc = w.drew := ⟨_, rfl⟩
  have oc : Only none_ w wc := by rw [hwc]; exact (Only.refl _ _).drew
  obtain ⟨OLD, hOLD⟩ : ∃ OLD, OLD = (t.rs.map (qk X.P X.V)).flatMap Qk.cells := ⟨_, rfl⟩
  have HH := Lib.hid (h.still oc)
  have OC := Lib.hid oc
  have HM := Lib.hid hm
  have HX := Lib.hid hx
  have HL := Lib.hid hl
  have WX := Lib.hid wx
  have QC := Lib.hid (fun W (o : Only none_ wc W) => show W.cell? ⟨q, 1, none⟩ = some (.slice A t.rs.length cap) ∧ W.frozen? ⟨q, 1, none⟩ = false ∧ q < W.heap.size from by
    have r := o.still HH.out.row
    rw [hX] at r
    exact ⟨r.cell 1, r.frozen 1, r.lt⟩)
  have SRC := Lib.hid (fun W (o : Only none_ wc W) => show Src W (.slice A t.rs.length cap) t.rs.length OLD from by
    have := (Src.own HH.out.own).still o
    rw [hX, List.length_map, ← hOLD] at this
    exact this)
  have LN := Lib.hid (show OLD.length = t.rs.length * 4 from by rw [hOLD, qk_flat_len, List.length_map])
  have ON := Lib.hid (show ∀ u ∈ OLD, u.oneCell' = true from by rw [hOLD]; exact qk_cells_one _)
  have B1 := Lib.hid (show 0 + t.rs.length ≤ maxLen from by unfold maxLen; omega)
  have B2 := Lib.hid (show (0 + t.rs.length) * 64 ≤ 140737488355328 from by omega)
  have B3 := Lib.hid (show 0 + t.rs.length + 1 ≤ maxLen from by unfold maxLen; omega)
  have B4 := Lib.hid (show (0 + t.rs.length + 1) * 64 ≤ 140737488355328 from by omega)
  have FIN := Lib.hid (fun (W : World) (news : List Value) (v5 v6 : Value) (w6 : World) (rn : RN17 wc.heap.size x kd n W news) (hg : W.grownBy w6 v5.ownBlock) (own5 : W.ownsRow wc.heap.size 71 4 v5 (0 + t.rs.length) ([] ++ OLD)) (own : w6.ownsRow wc.heap.size 71 4 v6 (0 + t.rs.length + 1) ([] ++ OLD ++ news)) => show ∃ gp gv, (wc.heap.size ≤ gp ∧ wc.heap.size ≤ gv) ∧ w6.ownsRow wc.heap.size 71 4 v6 (0 + t.rs.length + 1) ([] ++ (t.rs.map (qk X.P X.V)).flatMap Qk.cells ++ Qk.cells ⟨x, kd, n, gp, gv⟩) ∧ Row w6 gp 3 (plC (List.replicate n 0)) ∧ Row w6 gv 30 (vsC (List.replicate n 0)) from by
    obtain ⟨gp, gv, lo, rfl, rp, rv⟩ := rn
    rw [hOLD] at own
    exact ⟨gp, gv, lo, own, grown_row hg own5 rp (by decide), grown_row hg own5 rv (by decide)⟩)
  have END := Lib.hid (fun (v6 : Value) (w6 : World) (o6 : Only none_ wc w6) fx => RB.bornto (v6 := v6) (w6 := w6) HH.out OC.out HM.out WX.out HX.out HL.out o6 fx)
  have mk1 := fun w => mk_ints n n8 w
  have mk2 := fun w => mk_u64s n n8 w
  have e1 : w.cell? ⟨q, 1, none⟩ = some (.slice A t.rs.length cap) := by rw [h.row.cell, ← hX]; rfl
  have e0 : w.cell? ⟨q, 0, none⟩ = some (.int .i64 room) := h.row.cell 0
  have e2 : w.drew.cell? ⟨q, 1, none⟩ = some (.slice A t.rs.length cap) := e1
  have e3 : w.drew.cell? ⟨q, 0, none⟩ = some (.int .i64 room) := e0
  obtain ⟨d1, d2, d3⟩ := QC.out wc (Only.refl _ _)
  have ga1 : ∀ a1 : Obj, (wc.alloc a1).cell? ⟨q, 1, none⟩ = some (.slice A t.rs.length cap) := fun a1 => (QC.out _ ((Only.refl _ _).alloc _)).1
  have ga2 : ∀ a1 a2 : Obj, ((wc.alloc a1).alloc a2).cell? ⟨q, 1, none⟩ = some (.slice A t.rs.length cap) := fun a1 a2 => (QC.out _ (((Only.refl _ _).alloc _).alloc _)).1
  have ga3 : ∀ a1 a2 a3 : Obj, (((wc.alloc a1).alloc a2).alloc a3).cell? ⟨q, 1, none⟩ = some (.slice A t.rs.length cap) := fun a1 a2 a3 => (QC.out _ ((((Only.refl _ _).alloc _).alloc _).alloc _)).1
  have ga4 : ∀ a1 a2 a3 a4 : Obj, ((((wc.alloc a1).alloc a2).alloc a3).alloc a4).cell? ⟨q, 1, none⟩ = some (.slice A t.rs.length cap) := fun a1 a2 a3 a4 => (QC.out _ (((((Only.refl _ _).alloc _).alloc _).alloc _).alloc _)).1
  have d4 : wc.drew.cell? ⟨q, 1, none⟩ = some (.slice A t.rs.length cap) := d1
  clear h hF hX hm hx hl wx m1 m2 m3 m4 oc len hOLD
  go_enter Try.func26, Try.ntmps26
  go_wp2_with fail
  (with_reducible refine AT.out.mono ?_)
  rintro e w1 ⟨rfl, rfl⟩
  go_upto_region 5 with fail
  go_region
  go_upto_region 7 with fail
  rw [← hwc]
  clear hwc AT t1 t2 t3 t4 t5 t6 e0 e1 e2 e3
  go_region_law (first
          | (refine step_append_src rfl (.tmp 42) (.tmp 46) 60 rfl wc.heap.size 71 i0 _ 4 64 Try.underlying60 I0.out I1.out I2.out I3.out rfl (by decide) _ 0 [] rfl ?_ _ t.rs.length _ rfl (SRC.out _ ?_) LN.out ON.out B1.out B2.out ?_ ?_
             · exact ⟨rfl, .inr ⟨_, 0, #[], rfl, by (first | exact Nat.le_refl _ | omega | (simp; done) | (simp; omega)), (show Row _ _ _ _ from by (repeat (first | exact fresh_at _ _ _ _ (by simp) | exact fresh_at _ _ _ _ rfl | (with_reducible refine Row.drew ?_) | (with_reducible refine Row.alloc ?_ _)))), Nat.le_refl _, Nat.zero_le _, rfl, rfl⟩⟩
             · (repeat (first | exact Only.refl _ _ | exact O6.out | (with_reducible refine Only.drew ?_) | (with_reducible refine Only.alloc ?_ _)))
             · exact Only.size (S := none_) (by (repeat (first | exact Only.refl _ _ | exact O6.out | (with_reducible refine Only.drew ?_) | (with_reducible refine Only.alloc ?_ _))))
             intro v5 w5 hown5 hgrow5
             have O6 := Lib.hid (show Only none_ wc w5 from Only.trans (S := none_) (by (repeat (first | exact Only.refl _ _ | exact O6.out | (with_reducible refine Only.drew ?_) | (with_reducible refine Only.alloc ?_ _)))) (Only.of_grown hgrow5) (fun j hj q' => by first | (injection q' with q'; simp at q'; omega) | (injection q'; omega)))
             have OW5 := Lib.hid hown5
             have KR := Lib.hid (fun (gg : Nat) (t : TypeId) (cs : Array Value) (k : Row _ gg t cs) hn => (Only.of_grown hgrow5).row k hn)
             have z5 : wc.heap.size ≤ w5.heap.size := O6.out.size
             obtain ⟨qf1, qf2, qf3⟩ := QC.out _ O6.out
             clear hown5 hgrow5)
          | (refine step_append_some (R := RN17 wc.heap.size x kd n) rfl (.tmp 47) (.tmp 55) 60 rfl wc.heap.size 71 i0 _ 4 64 Try.underlying60 I0.out I1.out I2.out I3.out rfl (by decide) _ (0 + t.rs.length) ([] ++ OLD) rfl ?_ 1 ?_ B3.out B4.out ?_ ?_
             · (repeat (first | exact OW5.out | (refine World.ownsRow.alloc ?_ _) ))
             · exact ⟨_, src_row (t := 71) (by (repeat (first | exact fresh_at _ _ _ _ (by simp) | exact fresh_at _ _ _ _ rfl | (with_reducible refine Row.drew ?_) | (with_reducible refine Row.alloc ?_ _) | (refine KR.out _ _ _ ?_ (fun q2 => by first | (have q3 : some _ = some wc.heap.size := q2; injection q3 with q3; omega) | (have q3 : some _ = some (wc.heap.size + 1) := q2; injection q3 with q3; omega) | (have q3 : some _ = some (wc.heap.size + 2) := q2; injection q3 with q3; omega) | (have q3 : some _ = some (wc.heap.size + 3) := q2; injection q3 with q3; omega)))))), rfl, qk_one _, _, _, ⟨by omega, by omega⟩, rfl, by (repeat (first | exact fresh_at _ _ _ _ (by simp) | exact fresh_at _ _ _ _ rfl | (with_reducible refine Row.drew ?_) | (with_reducible refine Row.alloc ?_ _) | (refine KR.out _ _ _ ?_ (fun q2 => by first | (have q3 : some _ = some wc.heap.size := q2; injection q3 with q3; omega) | (have q3 : some _ = some (wc.heap.size + 1) := q2; injection q3 with q3; omega) | (have q3 : some _ = some (wc.heap.size + 2) := q2; injection q3 with q3; omega) | (have q3 : some _ = some (wc.heap.size + 3) := q2; injection q3 with q3; omega))))), by (repeat (first | exact fresh_at _ _ _ _ (by simp) | exact fresh_at _ _ _ _ rfl | (with_reducible refine Row.drew ?_) | (with_reducible refine Row.alloc ?_ _) | (refine KR.out _ _ _ ?_ (fun q2 => by first | (have q3 : some _ = some wc.heap.size := q2; injection q3 with q3; omega) | (have q3 : some _ = some (wc.heap.size + 1) := q2; injection q3 with q3; omega) | (have q3 : some _ = some (wc.heap.size + 2) := q2; injection q3 with q3; omega) | (have q3 : some _ = some (wc.heap.size + 3) := q2; injection q3 with q3; omega)))))⟩
             · exact Only.size (S := none_) (by (repeat (first | exact Only.refl _ _ | exact O6.out | (with_reducible refine Only.drew ?_) | (with_reducible refine Only.alloc ?_ _))))
             intro news6 v6 w6 rn6 hown6 hgrow6
             have W6 := Lib.hid (show Only none_ wc w6 from Only.trans (S := none_) (by (repeat (first | exact Only.refl _ _ | exact O6.out | (with_reducible refine Only.drew ?_) | (with_reducible refine Only.alloc ?_ _)))) (Only.of_grown hgrow6) (fun j hj q' => by have := (World.ownsRow.lt OW5.out j q'.symm).1; omega))
             have FX := Lib.hid (FIN.out _ _ _ _ _ rn6 hgrow6 (by (repeat (first | exact OW5.out | (refine World.ownsRow.alloc ?_ _) ))) hown6)
             obtain ⟨qg1, qg2, qg3⟩ := QC.out _ W6.out
             obtain ⟨a6, k6, hv6⟩ := own_slice hown6 (m := t.rs.length + 1) (by omega)
             subst hv6
             clear hown6 hgrow6 rn6)
          | fail)

  all_goals
    go_wp2_with fail
    go_ret
    exact ⟨rfl, END.out _ _ W6.out FX.out⟩
end
end Go.Proofs.Ytoflkeedfgnkhaa
