/- A run's blocks: the code's own. -/
import Derived.Test.YtobeoknaanbakaaRk
namespace Go.Proofs.Ytobeoknaanbakaa
open Go.RowKit
set_option linter.unusedVariables false

/-- a row that is full -/
theorem Owns.full {α : Type} {w : World} {base : Nat} {e : TypeId} {k : Nat} {c : α → List Value} (hk : ∀ a, (c a).length = k) {g n : Nat} {xs : List α} (h : Row w g e (flat c xs)) (hn : xs.length = n) (hb : base ≤ g) (hm : n ≤ maxLen) : Owns w base e k c (.slice (some ⟨g, 0, none⟩) n n) xs := by
  subst hn
  have sz := flat_size hk xs
  have fl : (xs.flatMap c).length = xs.length * k := by rw [← sz]; unfold flat; rw [List.size_toArray]
  refine ⟨fl, .inr ⟨g, xs.length, flat c xs, rfl, hb, h, Nat.le_refl _, hm, sz, ?_⟩⟩
  unfold flat
  rw [List.take_of_length_le]
  rw [fl]
  exact Nat.le_refl _
theorem blocks_get {r : Rn} (h : r.Ok) {j : Nat} (hj : (j : Int) < r.c) : (blocksOf r)[j]? = some (r.f + (j : Int)) := by
  unfold blocksOf
  rw [if_pos h, List.getElem?_map, List.getElem?_range (by omega)]
  rfl
set_option maxHeartbeats 2000000 in
theorem blocks_any (r : Rn) (w : World) :
    Calls Try.prog 16 #[r.val] w fun e w' => ∃ v, e = .returned v ∧ OwnsInts w' w.heap.size v (blocksOf r) ∧ Only none_ w w' := by
  have IA := Lib.hid (fun w => is_any r w)
  by_cases h : r.Ok
  · rw [decide_eq_true h] at IA
    have h' := h
    unfold Rn.Ok at h'
    obtain ⟨n, hn⟩ := Int.eq_ofNat_of_zero_le (show 0 ≤ r.c by omega)
    have BG := Lib.hid (fun (j : Nat) (hj : j < n) => blocks_get h (j := j) (by omega))
    have BL := Lib.hid (show (blocksOf r).length = n from by rw [blocks_len h]; omega)
    obtain ⟨i0, hi0, hz0, hz1, hz2⟩ := info_parts info_int8
    have MK := run_make_flat (P := Try.prog) (c := one) 0 one1 (by decide) 22 3 i0 (.int .i64 0) Try.underlying22 hi0 hz0 hz1 rfl .i64 .i64 n (by rw [hz2]; omega) (by omega)
    generalize blocksOf r = bl at *
    obtain ⟨f, c⟩ := r
    dsimp only at *
    subst hn
    unfold Rn.val at *
    dsimp only at *
    have F := Lib.hid h'
    clear hi0 hz0 hz1 hz2 h h'
    go_enter Try.func16, Try.ntmps16
    go_wp2_with fail
    have R0 := Lib.hid (Row.fresh w 27 #[.int .i64 f, .int .i64 (n : Int)])
    have O0 := Lib.hid ((Only.refl none_ w).alloc (.cells #[.int .i64 f, .int .i64 (n : Int)] 27))
    (with_reducible refine (IA.out _).mono ?_)
    rintro e w2 ⟨rfl, o2⟩
    have R2 := Lib.hid (o2.still R0.out)
    have O2 := Lib.hid (O0.out.same o2)
    clear o2 R0 O0
    obtain ⟨r0, r1⟩ := R2.out.two
    go_wp2_with fail
    have lt := R2.out.lt
    have R3 := Lib.hid (R2.out.alloc (.cells (flat one (List.replicate n 0)) 3))
    have B3 := Lib.hid (Row.fresh w2 3 (flat one (List.replicate n 0)))
    have O3 := Lib.hid (O2.out.alloc (.cells (flat one (List.replicate n 0)) 3))
    have sz := O2.out.size
    clear r0 r1 R2 O2 MK
    revert lt R3 B3 O3 sz
    generalize w2.alloc (.cells (flat one (List.replicate n 0)) 3) = W3
    generalize w2.heap.size = gs
    generalize hg0 : w.heap.size = g0
    intro lt R3 B3 O3 sz
    have GW := Lib.hid (show w.heap.size = g0 ∧ g0 < gs from ⟨hg0, lt⟩)
    clear hg0 lt sz
    go_loopw [13] (fun i wr => ∃ k : Nat, k ≤ n ∧ i = .int .i64 k ∧ (∃ l : List Int, l.length = n ∧ (∀ j, j < k → l[j]? = some (f + (j : Int))) ∧ Row wr gs 3 (flat one l)) ∧ Row wr g0 27 #[.int .i64 f, .int .i64 (n : Int)] ∧ Only none_ w wr) (fun i _ => n - (intOf i).toNat)
    case atStart => exact ⟨0, Nat.zero_le _, rfl, ⟨List.replicate n 0, by simp, fun j hj => by omega, B3.out⟩, R3.out, O3.out⟩
    case round =>
      obtain ⟨k, hk, rfl, ⟨l, hl, hj, hb⟩, hr, o⟩ := hrel
      have O := Lib.hid o
      have B := Lib.hid hb
      have R := Lib.hid hr
      have L := Lib.hid hl
      have J := Lib.hid hj
      clear B3 R3 O3 o hb hr hl hj
      have FF := F.out
      by_cases hlt : k < n
      · obtain ⟨y, hy⟩ : ∃ y, l[k]? = some y := ⟨_, List.getElem?_eq_getElem (by rw [L.out]; exact hlt)⟩
        have v : IntKind.i64.wrap (f + (k : Int)) = f + (k : Int) := by rw [IntKind.wrap_i64]; omega
        have hn : n ≤ 256 := by omega
        clear FF
        have c0 : W3.cell? ⟨0, 0, none⟩ = W3.cell? ⟨0, 0, none⟩ := rfl
        obtain ⟨r0, r1⟩ := R.out.two
        have f1 := B.out.frozen k
        have c1 : wr.cell? ⟨gs, k, none⟩ = some (.int .i64 y) := by
          rw [B.out.cell]
          have := flat_get (c := one) one1 hy (j := 0) (by decide)
          rwa [Nat.mul_one, Nat.add_zero] at this
        have HY := Lib.hid hy
        clear hy c0
        go_wp2_with fail
        go_roundw
        case rel =>
          refine ⟨k + 1, by omega, by go_num, ⟨l.set k (f + (k : Int)), by rw [List.length_set]; exact L.out, fun j q => ?_, ?_⟩, R.out.far (by have := GW.out; show g0 ≠ gs; omega) _, O.out.new (by have := GW.out; omega) _ _⟩
          · rw [List.getElem?_set]
            by_cases e : k = j
            · subst e
              rw [if_pos rfl, if_pos (by rw [L.out]; exact hlt)]
            · rw [if_neg e]
              exact J.out j (by omega)
          · have p := B.out.put k (.int .i64 (f + (k : Int)))
            have q := flat_put (c := one) one1 (i := k) (j := 0) HY.out (a' := f + (k : Int)) (v := .int .i64 (f + (k : Int))) (by decide) rfl
            rw [Nat.mul_one, Nat.add_zero] at q
            rw [q] at p
            exact p
        case measure => simp [intOf]; omega
      · have e : k = n := by omega
        subst e
        have LE : l = bl := eq_upto (by rw [L.out, BL.out]) (fun j q => by rw [J.out j (by rw [← L.out]; exact q), BG.out j (by rw [← L.out]; exact q)])
        subst LE
        have hn : k ≤ 256 := by omega
        clear FF
        go_wp2_with fail
        go_ret
        exact ⟨_, rfl, Owns.full one1 B.out L.out (by have := GW.out; omega) (by unfold maxLen; omega), O.out⟩
  · rw [decide_eq_false h] at IA
    rw [show blocksOf r = [] from by unfold blocksOf; rw [if_neg h]]
    clear h
    unfold Rn.val at *
    go_enter Try.func16, Try.ntmps16
    go_wp2_with fail
    have O0 := Lib.hid ((Only.refl none_ w).alloc (.cells #[.int .i64 r.f, .int .i64 r.c] 27))
    (with_reducible refine (IA.out _).mono ?_)
    rintro e w2 ⟨rfl, o2⟩
    have O2 := Lib.hid (O0.out.same o2)
    clear o2 O0
    go_wp2_with fail
    go_ret
    exact ⟨_, rfl, Owns.start _ _ _ _ _, O2.out⟩
end Go.Proofs.Ytobeoknaanbakaa
