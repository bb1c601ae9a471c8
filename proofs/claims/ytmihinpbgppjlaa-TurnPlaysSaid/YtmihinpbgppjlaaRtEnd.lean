/- The document's own turns: a ticket ends. -/
import Derived.Test.YtmihinpbgppjlaaRtSet
namespace Go.Proofs.Ytmihinpbgppjlaa
open Go.RowKit
set_option linter.unusedVariables false

theorem cutL_none {ss : List Sl} {x : Int} (h : hasL ss x = false) : cutL ss x = ss := cut_nowhere (fun a ha e => by
  have := hasL_iff.2 ⟨a, ha, e⟩
  rw [h] at this; cases this)
set_option maxRecDepth 100000 in
set_option maxHeartbeats 4000000 in
theorem rend_any {q : Nat} {v1 v2 : Value} {M : Nat → Prop} {nd na : Nat} {ss : List Sl} (x : Int) (w : World) (h : RtAt w q v1 v2 M nd na ss) (hl : ss.length ≤ 400) :
    Calls Try.prog 30 #[.pointer (some ⟨q, 0, none⟩), .int .i64 x] w (PutTo w q M nd na (endC ss x) (cutL ss x)) := by
  have HAS := Lib.hid (rhas_any x w h (by omega))
  have l1 := row_le false ss
  have l2 := row_le true ss
  have F1 := Lib.hid (rfind_any x w h.od (by omega))
  have c0 : w.cell? ⟨q, 0, none⟩ = some v1 := by rw [h.row.cell]; rfl
  have c1 : w.cell? ⟨q, 1, none⟩ = some v2 := by rw [h.row.cell]; rfl
  have H := Lib.hid h
  rcases ix_cases (rowL false ss) x with ⟨i, y, hi, hy, e⟩ | ⟨hi, n1⟩
  · have ST := stand_in h.once hy
    rw [e] at ST
    obtain ⟨E1, E2, E3, E4⟩ := ST
    rw [hi] at F1
    rw [E1] at HAS
    have PC := Lib.hid (show endC ss x = 0 from by unfold endC; rw [E1]; rfl)
    have PO := Lib.hid (cut_once h.once x)
    have R1 := Lib.hid (show rowL false (cutL ss x) = (rowL false ss).take i ++ (rowL false ss).drop (i + 1) from by rw [row_cut, ← e]; exact Go.Proofs.Ytmihinpbgppjlaa.cut_at (h.once.row false) hy)
    have R2 := Lib.hid (show rowL true (cutL ss x) = rowL true ss from by rw [row_cut]; exact cut_nowhere (fun z hz => E4 z hz))
    have WI := Lib.hid (rwithout_any w h.od (lt_of_get hy) (by omega))
    clear h hy e hi E1 E2 E3 E4 l1 l2
    go_enter Try.func30, Try.ntmps30
    go_wp2_with fail
    (with_reducible refine (HAS.out).mono ?_)
    rintro e w' ⟨rfl, rfl⟩
    go_wp2_with fail
    (with_reducible refine F1.out.mono ?_)
    rintro e w' ⟨rfl, rfl⟩
    go_wp2_with fail
    (with_reducible refine WI.out.mono ?_)
    rintro e w8 ⟨v8, rfl, h8, o8⟩
    have O8 := Lib.hid o8
    have H8 := Lib.hid h8
    have r8 := O8.out.still H.out.row
    have z8 := r8.frozen 0
    have g8 : w8.cell? ⟨q, 0, none⟩ = some v1 := by rw [r8.cell]; rfl
    have lq8 := r8.lt
    obtain ⟨a8, n8, k8, rfl⟩ := own_form12 H8.out
    clear h8 o8 r8
    go_wp2_with fail
    go_ret
    unfold PutTo
    rw [PC.out]
    exact ⟨rfl, (RtL.one H.out.l O8.out H8.out).at_ PO.out R1.out R2.out⟩
  · rw [hi] at F1
    rcases ix_cases (rowL true ss) x with ⟨i, y, hi', hy, e⟩ | ⟨hi', n2⟩
    · have ST := stand_in h.once hy
      rw [e] at ST
      obtain ⟨E1, E2, E3, E4⟩ := ST
      rw [E1] at HAS
      have PC := Lib.hid (show endC ss x = 0 from by unfold endC; rw [E1]; rfl)
      have PO := Lib.hid (cut_once h.once x)
      have R2 := Lib.hid (show rowL true (cutL ss x) = (rowL true ss).take i ++ (rowL true ss).drop (i + 1) from by rw [row_cut, ← e]; exact Go.Proofs.Ytmihinpbgppjlaa.cut_at (h.once.row true) hy)
      have R1 := Lib.hid (show rowL false (cutL ss x) = rowL false ss from by rw [row_cut]; exact cut_nowhere (fun z hz => E4 z hz))
      have OD := Lib.hid ((Only.refl none_ w).drew)
      have F2 := Lib.hid (rfind_any x w.drew (H.out.still OD.out).oa (by omega))
      rw [hi'] at F2
      have WI := Lib.hid (rwithout_any w.drew (H.out.still OD.out).oa (lt_of_get hy) (by omega))
      have cd : w.drew.cell? ⟨q, 1, none⟩ = some v2 := c1
      clear h hy e hi hi' n1 E1 E2 E3 E4 l1 l2
      go_enter Try.func30, Try.ntmps30
      go_wp2_with fail
      (with_reducible refine (HAS.out).mono ?_)
      rintro e w' ⟨rfl, rfl⟩
      go_wp2_with fail
      (with_reducible refine F1.out.mono ?_)
      rintro e w' ⟨rfl, rfl⟩
      go_wp2_with fail
      go_region_with
        (first
          | (go_at_call 31; (with_reducible refine F2.out.mono ?_); rintro e w' ⟨rfl, rfl⟩)
          | (go_at_call 43; (with_reducible refine WI.out.mono ?_); rintro e w8 ⟨v8, rfl, h8, o8⟩; have O8 := Lib.hid (OD.out.same o8); have H8 := Lib.hid h8; have z8 := (O8.out.still H.out.row).frozen 1; have g8 : w8.cell? ⟨q, 1, none⟩ = some v2 := O8.out.cell c1 (fun s => s); have lq8 := (O8.out.still H.out.row).lt; obtain ⟨a8, n8, k8, rfl⟩ := own_form12 H8.out)
          | fail)
      all_goals
        go_wp2_with fail
        go_ret
        unfold PutTo
        rw [PC.out]
        exact ⟨rfl, (RtL.two H.out.l O8.out H8.out).at_ PO.out R1.out R2.out⟩
    · have hn := stand_no n1 n2
      have PC := Lib.hid (show endC ss x = 3 from by unfold endC; rw [hn]; rfl)
      have PS := Lib.hid (cutL_none hn)
      rw [hn] at HAS
      clear h l1 l2 hi hi' n1 n2 hn
      go_enter Try.func30, Try.ntmps30
      go_wp2_with fail
      (with_reducible refine (HAS.out).mono ?_)
      rintro e w' ⟨rfl, rfl⟩
      go_wp2_with fail
      go_ret
      unfold PutTo
      rw [PC.out, PS.out]
      exact ⟨rfl, H.out.to (Only.refl _ _)⟩
end Go.Proofs.Ytmihinpbgppjlaa
