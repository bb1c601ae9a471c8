/- What the laws of layer 12 share: a step of both turns. -/
import Derived.Test.YtmihinpbgppjlaaTnLaw
namespace Go.Proofs.Ytmihinpbgppjlaa
open Go.RowKit Go.Maps
set_option linter.unusedVariables false

def stepC (nd na : Nat) (ss : List Sl) (a : Act1) : Int :=
  if a.kind = 0 then putC nd na ss a.k a.a else if a.kind = 1 then waitC ss a.k false else if a.kind = 2 then waitC ss a.k true else if a.kind = 3 then promC nd ss a.k else if a.kind = 4 then endC ss a.k else 0
def stepS (nd na : Nat) (ss : List Sl) (a : Act1) : List Sl :=
  if a.kind = 0 then putS nd na ss a.k a.a else if a.kind = 1 then waitS ss a.k false else if a.kind = 2 then waitS ss a.k true else if a.kind = 3 then promS nd ss a.k else if a.kind = 4 then cutL ss a.k else ss
theorem Sg.more {w0 w : World} {A B C : Asr} {t : TypeId} {cs : Array Value} (h : Sg w0 w (A.and (B.and C))) : Sg w0 (w.alloc (.cells cs t)) (A.and (B.and (C.and (Asr.row w.heap.size t cs)))) := (h.assoc2.fresh t cs).assoc.assoc
theorem Sg.less {w0 w : World} {A B C D : Asr} (h : Sg w0 w (A.and (B.and (C.and D)))) : Sg w0 w (A.and (B.and C)) := h.assoc2.assoc2.fst.assoc
theorem Sg.atc {w0 w : World} {p nd na c c' : Nat} {ss : List Sl} {B : Asr} (h : Sg w0 w ((AT p nd na c ss).and B)) (l : c ≤ c') : Sg w0 w ((AT p nd na c' ss).and B) := by
  obtain ⟨⟨M, ⟨MA, MB, ⟨b, L, ps, ha, e1, hL, m⟩, hb, d, e⟩, l'⟩, k⟩ := h
  exact ⟨⟨M, ⟨MA, MB, ⟨b, L, ps, ha, e1, Nat.le_trans hL l, m⟩, hb, d, e⟩, l'⟩, k⟩
set_option maxRecDepth 100000 in
set_option maxHeartbeats 4000000 in
theorem sg_step {p q nd na rd ra c : Nat} {ss rs : List Sl} (act : Act1) {w0 w : World} {B : Asr} (h : Sg w0 w ((AT p nd na c ss).and ((AR q rd ra rs).and B))) (hx : (Lit.int .i64 act.k).wf = true) (hc : c < 100000000) (hl : rs.length ≤ 400) (hn : rd ≤ 1000 ∧ ra ≤ 1000) :
    Calls Try.prog 12 #[.pointer (some ⟨p, 0, none⟩), .pointer (some ⟨q, 0, none⟩), .agg #[.int .i64 act.kind, .int .i64 act.k, .bool act.a]] w fun e w' =>
      e = .returned (.bool (stepC nd na ss act == stepC rd ra rs act)) ∧ Sg w0 w' ((AT p nd na (c + 1) (stepS nd na ss act)).and ((AR q rd ra (stepS rd ra rs act)).and B)) := by
  have SF := Lib.hid (Sg.more (t := 33) (cs := #[.int .i64 act.kind, .int .i64 act.k, .bool act.a]) h)
  obtain ⟨xa, hxa⟩ : ∃ xa, w.heap.size = xa := ⟨_, rfl⟩
  rw [hxa] at SF
  have HXA := Lib.hid hxa
  have KS := Lib.hid (fun (w' : World) (X Y : Asr) (h : Sg w0 w' (X.and (Y.and (B.and (Asr.row xa 33 #[.int .i64 act.kind, .int .i64 act.k, .bool act.a]))))) => h.snd.snd.snd.row.three)
  have WX := Lib.hid hx
  have HL := Lib.hid hl
  have HN := Lib.hid hn
  have HC := Lib.hid hc
  clear h hx hl hn hc
  by_cases k0 : act.kind = 0
  · have EC := Lib.hid (show stepC nd na ss act = putC nd na ss act.k act.a ∧ stepC rd ra rs act = putC rd ra rs act.k act.a from by unfold stepC; exact ⟨by rw [if_pos k0], by rw [if_pos k0]⟩)
    have ES := Lib.hid (show stepS nd na ss act = putS nd na ss act.k act.a ∧ stepS rd ra rs act = putS rd ra rs act.k act.a from by unfold stepS; exact ⟨by rw [if_pos k0], by rw [if_pos k0]⟩)
    have d0 : (act.kind == 0) = true := by simp [k0]
    clear k0 
    go_enter Try.func12, Try.ntmps12
    go_upto_region 3 with fail
    clear hxa
    obtain ⟨c0, c1, c2⟩ := KS.out _ _ _ SF.out
    generalize w.alloc (.cells #[.int .i64 act.kind, .int .i64 act.k, .bool act.a] 33) = wb at *
    have HD := Lib.hid (SF.out.still ((Only.refl none_ wb).drew))
    go_region_held3 (fun w' => w'.cell? ⟨xa, 0, none⟩ = some (.int .i64 act.kind) ∧ w'.cell? ⟨xa, 1, none⟩ = some (.int .i64 act.k) ∧ w'.cell? ⟨xa, 2, none⟩ = some (.bool act.a))
      (first
        | (with_reducible exact KS.out _ _ _ H5.out)
        | (with_reducible exact KS.out _ _ _ H4.out)
        | (with_reducible exact KS.out _ _ _ HD.out)
        | fail)
      (first
        | (go_at_call 21; (with_reducible refine (sg_put act.k act.a HD.out WX.out HC.out).mono ?_); rintro e w4 ⟨rfl, h4⟩; have H4 := Lib.hid h4)
        | (go_at_call 27; (with_reducible refine (sg_rput act.k act.a H4.out.up2 HL.out HN.out).mono ?_); rintro e w5 ⟨rfl, h5⟩; have H5 := Lib.hid h5)
        | fail)
    all_goals
      go_wp2_with fail
      go_ret
      rw [EC.out.1, EC.out.2, ES.out.1, ES.out.2]
      exact ⟨rfl, H5.out.up2.less⟩
  · have n0 := k0
    clear k0
    by_cases k1 : act.kind = 1
    · have EC := Lib.hid (show stepC nd na ss act = waitC ss act.k false ∧ stepC rd ra rs act = waitC rs act.k false from by unfold stepC; exact ⟨by rw [if_neg n0, if_pos k1], by rw [if_neg n0, if_pos k1]⟩)
      have ES := Lib.hid (show stepS nd na ss act = waitS ss act.k false ∧ stepS rd ra rs act = waitS rs act.k false from by unfold stepS; exact ⟨by rw [if_neg n0, if_pos k1], by rw [if_neg n0, if_pos k1]⟩)
      have d0 : (act.kind == 0) = false := by simp [n0]
      have d1 : (act.kind == 1) = true := by simp [k1]
      clear k1 n0
      go_enter Try.func12, Try.ntmps12
      go_upto_region 5 with fail
      clear hxa
      obtain ⟨c0, c1, c2⟩ := KS.out _ _ _ SF.out
      generalize w.alloc (.cells #[.int .i64 act.kind, .int .i64 act.k, .bool act.a] 33) = wb at *
      have HD := Lib.hid (SF.out.still ((Only.refl none_ wb).drew))
      go_region_held3 (fun w' => w'.cell? ⟨xa, 0, none⟩ = some (.int .i64 act.kind) ∧ w'.cell? ⟨xa, 1, none⟩ = some (.int .i64 act.k) ∧ w'.cell? ⟨xa, 2, none⟩ = some (.bool act.a))
        (first
          | (with_reducible exact KS.out _ _ _ H5.out)
          | (with_reducible exact KS.out _ _ _ H4.out)
          | (with_reducible exact KS.out _ _ _ HD.out)
          | fail)
        (first
          | (go_at_call 19; (with_reducible refine (sg_start act.k HD.out WX.out).mono ?_); rintro e w4 ⟨rfl, h4⟩; have H4 := Lib.hid h4)
          | (go_at_call 28; (with_reducible refine (sg_rwait act.k false H4.out.up2 HL.out).mono ?_); rintro e w5 ⟨rfl, h5⟩; have H5 := Lib.hid h5)
          | fail)
      all_goals
        go_wp2_with fail
        go_ret
        rw [EC.out.1, EC.out.2, ES.out.1, ES.out.2]
        exact ⟨rfl, H5.out.up2.less⟩
    · have n1 := k1
      clear k1
      by_cases k2 : act.kind = 2
      · have EC := Lib.hid (show stepC nd na ss act = waitC ss act.k true ∧ stepC rd ra rs act = waitC rs act.k true from by unfold stepC; exact ⟨by rw [if_neg n0, if_neg n1, if_pos k2], by rw [if_neg n0, if_neg n1, if_pos k2]⟩)
        have ES := Lib.hid (show stepS nd na ss act = waitS ss act.k true ∧ stepS rd ra rs act = waitS rs act.k true from by unfold stepS; exact ⟨by rw [if_neg n0, if_neg n1, if_pos k2], by rw [if_neg n0, if_neg n1, if_pos k2]⟩)
        have d0 : (act.kind == 0) = false := by simp [n0]
        have d1 : (act.kind == 1) = false := by simp [n1]
        have d2 : (act.kind == 2) = true := by simp [k2]
        clear k2 n0 n1
        go_enter Try.func12, Try.ntmps12
        go_upto_region 7 with fail
        clear hxa
        obtain ⟨c0, c1, c2⟩ := KS.out _ _ _ SF.out
        generalize w.alloc (.cells #[.int .i64 act.kind, .int .i64 act.k, .bool act.a] 33) = wb at *
        have HD := Lib.hid (SF.out.still ((Only.refl none_ wb).drew))
        go_region_held3 (fun w' => w'.cell? ⟨xa, 0, none⟩ = some (.int .i64 act.kind) ∧ w'.cell? ⟨xa, 1, none⟩ = some (.int .i64 act.k) ∧ w'.cell? ⟨xa, 2, none⟩ = some (.bool act.a))
          (first
            | (with_reducible exact KS.out _ _ _ H5.out)
            | (with_reducible exact KS.out _ _ _ H4.out)
            | (with_reducible exact KS.out _ _ _ HD.out)
            | fail)
          (first
            | (go_at_call 20; (with_reducible refine (sg_again act.k HD.out WX.out).mono ?_); rintro e w4 ⟨rfl, h4⟩; have H4 := Lib.hid h4)
            | (go_at_call 28; (with_reducible refine (sg_rwait act.k true H4.out.up2 HL.out).mono ?_); rintro e w5 ⟨rfl, h5⟩; have H5 := Lib.hid h5)
            | fail)
        all_goals
          go_wp2_with fail
          go_ret
          rw [EC.out.1, EC.out.2, ES.out.1, ES.out.2]
          exact ⟨rfl, H5.out.up2.less⟩
      · have n2 := k2
        clear k2
        by_cases k3 : act.kind = 3
        · have EC := Lib.hid (show stepC nd na ss act = promC nd ss act.k ∧ stepC rd ra rs act = promC rd rs act.k from by unfold stepC; exact ⟨by rw [if_neg n0, if_neg n1, if_neg n2, if_pos k3], by rw [if_neg n0, if_neg n1, if_neg n2, if_pos k3]⟩)
          have ES := Lib.hid (show stepS nd na ss act = promS nd ss act.k ∧ stepS rd ra rs act = promS rd rs act.k from by unfold stepS; exact ⟨by rw [if_neg n0, if_neg n1, if_neg n2, if_pos k3], by rw [if_neg n0, if_neg n1, if_neg n2, if_pos k3]⟩)
          have d0 : (act.kind == 0) = false := by simp [n0]
          have d1 : (act.kind == 1) = false := by simp [n1]
          have d2 : (act.kind == 2) = false := by simp [n2]
          have d3 : (act.kind == 3) = true := by simp [k3]
          clear k3 n0 n1 n2
          go_enter Try.func12, Try.ntmps12
          go_upto_region 9 with fail
          clear hxa
          obtain ⟨c0, c1, c2⟩ := KS.out _ _ _ SF.out
          generalize w.alloc (.cells #[.int .i64 act.kind, .int .i64 act.k, .bool act.a] 33) = wb at *
          have HD := Lib.hid (SF.out.still ((Only.refl none_ wb).drew))
          go_region_held3 (fun w' => w'.cell? ⟨xa, 0, none⟩ = some (.int .i64 act.kind) ∧ w'.cell? ⟨xa, 1, none⟩ = some (.int .i64 act.k) ∧ w'.cell? ⟨xa, 2, none⟩ = some (.bool act.a))
            (first
              | (with_reducible exact KS.out _ _ _ H5.out)
              | (with_reducible exact KS.out _ _ _ H4.out)
              | (with_reducible exact KS.out _ _ _ HD.out)
              | fail)
            (first
              | (go_at_call 22; (with_reducible refine (sg_promote act.k HD.out WX.out HC.out).mono ?_); rintro e w4 ⟨rfl, h4⟩; have H4 := Lib.hid h4)
              | (go_at_call 29; (with_reducible refine (sg_rpromote act.k H4.out.up2 HL.out HN.out.1).mono ?_); rintro e w5 ⟨rfl, h5⟩; have H5 := Lib.hid h5)
              | fail)
          all_goals
            go_wp2_with fail
            go_ret
            rw [EC.out.1, EC.out.2, ES.out.1, ES.out.2]
            exact ⟨rfl, H5.out.up2.less⟩
        · have n3 := k3
          clear k3
          by_cases k4 : act.kind = 4
          · have EC := Lib.hid (show stepC nd na ss act = endC ss act.k ∧ stepC rd ra rs act = endC rs act.k from by unfold stepC; exact ⟨by rw [if_neg n0, if_neg n1, if_neg n2, if_neg n3, if_pos k4], by rw [if_neg n0, if_neg n1, if_neg n2, if_neg n3, if_pos k4]⟩)
            have ES := Lib.hid (show stepS nd na ss act = cutL ss act.k ∧ stepS rd ra rs act = cutL rs act.k from by unfold stepS; exact ⟨by rw [if_neg n0, if_neg n1, if_neg n2, if_neg n3, if_pos k4], by rw [if_neg n0, if_neg n1, if_neg n2, if_neg n3, if_pos k4]⟩)
            have d0 : (act.kind == 0) = false := by simp [n0]
            have d1 : (act.kind == 1) = false := by simp [n1]
            have d2 : (act.kind == 2) = false := by simp [n2]
            have d3 : (act.kind == 3) = false := by simp [n3]
            have d4 : (act.kind == 4) = true := by simp [k4]
            clear k4 n0 n1 n2 n3
            go_enter Try.func12, Try.ntmps12
            go_upto_region 11 with fail
            clear hxa
            obtain ⟨c0, c1, c2⟩ := KS.out _ _ _ SF.out
            generalize w.alloc (.cells #[.int .i64 act.kind, .int .i64 act.k, .bool act.a] 33) = wb at *
            have HD := Lib.hid (SF.out.still ((Only.refl none_ wb).drew))
            go_region_held3 (fun w' => w'.cell? ⟨xa, 0, none⟩ = some (.int .i64 act.kind) ∧ w'.cell? ⟨xa, 1, none⟩ = some (.int .i64 act.k) ∧ w'.cell? ⟨xa, 2, none⟩ = some (.bool act.a))
              (first
                | (with_reducible exact KS.out _ _ _ H5.out)
                | (with_reducible exact KS.out _ _ _ H4.out)
                | (with_reducible exact KS.out _ _ _ HD.out)
                | fail)
              (first
                | (go_at_call 23; (with_reducible refine (sg_end act.k HD.out WX.out).mono ?_); rintro e w4 ⟨rfl, h4⟩; have H4 := Lib.hid h4)
                | (go_at_call 30; (with_reducible refine (sg_rend act.k H4.out.up2 HL.out).mono ?_); rintro e w5 ⟨rfl, h5⟩; have H5 := Lib.hid h5)
                | fail)
            all_goals
              go_wp2_with fail
              go_ret
              rw [EC.out.1, EC.out.2, ES.out.1, ES.out.2]
              exact ⟨rfl, H5.out.up2.less⟩
          · have n4 := k4
            clear k4
            have EC := Lib.hid (show stepC nd na ss act = 0 ∧ stepC rd ra rs act = 0 from by unfold stepC; exact ⟨by rw [if_neg n0, if_neg n1, if_neg n2, if_neg n3, if_neg n4], by rw [if_neg n0, if_neg n1, if_neg n2, if_neg n3, if_neg n4]⟩)
            have ES := Lib.hid (show stepS nd na ss act = ss ∧ stepS rd ra rs act = rs from by unfold stepS; exact ⟨by rw [if_neg n0, if_neg n1, if_neg n2, if_neg n3, if_neg n4], by rw [if_neg n0, if_neg n1, if_neg n2, if_neg n3, if_neg n4]⟩)
            have d0 : (act.kind == 0) = false := by simp [n0]
            have d1 : (act.kind == 1) = false := by simp [n1]
            have d2 : (act.kind == 2) = false := by simp [n2]
            have d3 : (act.kind == 3) = false := by simp [n3]
            have d4 : (act.kind == 4) = false := by simp [n4]
            clear n0 n1 n2 n3 n4
            go_enter Try.func12, Try.ntmps12
            go_wp2_with fail
            go_ret
            rw [EC.out.1, EC.out.2, ES.out.1, ES.out.2]
            exact ⟨rfl, (SF.out.less).atc (Nat.le_succ _)⟩
end Go.Proofs.Ytmihinpbgppjlaa
