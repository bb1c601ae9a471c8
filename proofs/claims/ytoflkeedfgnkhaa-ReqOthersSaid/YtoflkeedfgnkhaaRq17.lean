/- Package req: what a new request's places are; a new table; what a request without open places comes to. -/
import Derived.Test.YtoflkeedfgnkhaaTb17
import Derived.Laws.Build
import Derived.BigRegion
import Derived.BigQuiet
import Derived.Deep.Cut
import Derived.Deep.CutRange
import Derived.Deep.RegionLaw
namespace Go.Proofs.Ytoflkeedfgnkhaa
open Go.RowKit Go.Maps
set_option linter.unusedVariables false
set_option maxRecDepth 100000

set_option maxHeartbeats 1000000 in
theorem untouched_any (n : Nat) (w : World) (h8 : n ≤ 8) :
    Calls Try.prog 32 #[.int .i64 n] w fun e w' => e = .returned (.agg (b8 (fun j => decide (j < n)))) ∧ Only none_ w w' := by
  have ZS := zero_pl
  have H8 := Lib.hid h8
  clear h8
  go_enter Try.func32, Try.ntmps32
  go_wp2_with fail
  clear ZS
  have O0 := Lib.hid ((Only.refl none_ w).alloc (.cells (b8 fun x => false) 73))
  have S0 := Lib.hid (show Row (w.alloc (.cells (b8 fun x => false) 73)) w.heap.size 73 (b8 (fun j => decide (j < 0))) from by
    rw [b8_same (g := fun x => false) (fun k _ => decide_eq_false (Nat.not_lt_zero k))]
    exact Row.fresh w 73 (b8 fun x => false))
  have GE := Lib.hid (Nat.le_refl w.heap.size)
  revert GE S0 O0
  generalize w.alloc (.cells (b8 fun x => false) 73) = W1
  generalize hg : w.heap.size = g
  intro O0 S0 GE
  have GW := Lib.hid (show w.heap.size ≤ g from Nat.le_of_eq hg)
  clear GE hg
  go_loopw [5] (fun i wr => ∃ k : Nat, k ≤ n ∧ i = .int .i64 k ∧ Row wr g 73 (b8 (fun j => decide (j < k))) ∧ Only none_ w wr) (fun i _ => n - (intOf i).toNat)
  case atStart => exact ⟨0, Nat.zero_le _, rfl, S0.out, O0.out⟩
  case round =>
    obtain ⟨k, hk, rfl, s, o⟩ := hrel
    have O := Lib.hid o
    have S := Lib.hid s
    clear o s
    by_cases hlt : k < n
    · have t1 : decide (k < n) = true := decide_eq_true hlt
      have hk8 : k < 8 := by have := H8.out; omega
      have f2 : wr.frozen? ⟨g, k, none⟩ = false := S.out.frozen k
      obtain ⟨bv, c2⟩ : ∃ b, wr.cell? ⟨g, k, none⟩ = some (.bool b) := by
        refine ⟨decide (k < k), ?_⟩
        rw [S.out.cell]
        rcases lt8 hk8 with rfl | rfl | rfl | rfl | rfl | rfl | rfl | rfl <;> rfl
      go_wp2_with fail
      go_roundw
      case rel =>
        refine ⟨k + 1, by omega, by go_num, ?_, O.out.new GW.out _ _⟩
        have r := S.out.put k (.bool true)
        rw [b8_put _ hk8] at r
        rw [b8_same (g := fun j => decide (j < k) || (j == k)) (fun j _ => by
          rw [Bool.eq_iff_iff, Bool.or_eq_true]
          simp only [decide_eq_true_eq, beq_iff_eq]
          omega)]
        exact r
      case measure => simp [intOf]; omega
    · have t1 : decide (k < n) = false := decide_eq_false hlt
      obtain rfl : k = n := by omega
      clear t1
      go_wp2_with (first | (refine wpList_load_row rfl 73 _ rfl g rfl 73 (b8 _) (0, 0) _ S.out Try.underlying73 rfl (size_pl _) ?_) | (refine wpList_store_row rfl 73 _ _ rfl g (b8 _) rfl rfl 73 (b8 _) S.out (size_pl _) rfl (b8_one _) ?_))
      refine bodyPost_ret (results_cell_row rfl _ _ g 73 (b8 _) (0, 0) _ rfl (setRow_heap _ g _ (b8 _) _ (0, 0) S.out) Try.underlying73 rfl (size_pl _)) rfl ⟨rfl, ?_⟩
      exact O.out.trans (S' := fun k => k = g) ⟨rfl, rfl, rfl, by simp, fun k _ hn => setRow_other _ _ _ _ hn⟩ (fun i hi s => by have := GW.out; subst s; omega)

/-! ### a new table -/
theorem good_nil17 {room : Nat} (h : room ≤ 16) : GoodQ room [] := ⟨List.Pairwise.nil, fun r hr => (by cases hr), fun r hr => (by cases hr), Nat.zero_le _, h⟩
theorem tnew_yes (room : Nat) (w : World) (h1 : 1 ≤ room) (h2 : room ≤ 16) :
    Calls Try.prog 9 #[.int .i64 room] w fun e w' => ∃ p, e = .returned (.tuple #[.pointer (some ⟨p, 0, none⟩), .int .i64 0]) ∧ (∃ c X, TW w' p c X room 0 ⟨[], []⟩ ∧ ∀ g, c g ≠ 0 → w.heap.size ≤ g) ∧ Only none_ w w' := by
  have hmm := @run_makeMap Try.prog
  have d1 : decide ((room : Int) < 1) = false := by simp; omega
  have d2 : decide ((16 : Int) < (room : Int)) = false := by simp; omega
  have GN := Lib.hid (good_nil17 h2)
  clear h1 h2
  go_enter Try.func9, Try.ntmps9
  go_wp2
  go_ret2
  have m0 := Mg.made w
  have o1 : Only none_ (w.alloc (.map #[] 0)) ((w.alloc (.map #[] 0)).alloc (.cells #[.int .i64 room, .map (some w.heap.size), .slice none 0 0] 59)) := (Only.refl _ _).alloc _
  have r1 := Row.fresh (w.alloc (.map #[] 0)) 59 #[.int .i64 room, .map (some w.heap.size), .slice none 0 0]
  simp only [World.size_alloc] at r1
  refine ⟨w.heap.size + 1, rfl, ⟨fun g => if g = w.heap.size + 1 then 1 else if g = w.heap.size then 2 else 0, ⟨w.heap.size, fun _ => 0, .slice none 0 0, []⟩,
    { row := r1, cp := if_pos rfl, mp := m0.still o1, cb := ?_, own := Owns.start _ _ _ _ _, co := fun g hg => (by cases hg), kept := KeptAt.nil _ _, rq := fun r hr => (by cases hr), lt := fun g hg => ?_, good := GN.out, kl := Nat.le_refl _ }, fun g hg => ?_⟩, ((Only.refl _ _).alloc _).alloc _⟩
  · show (if w.heap.size = w.heap.size + 1 then 1 else if w.heap.size = w.heap.size then 2 else 0) = 2
    rw [if_neg (by omega), if_pos rfl]
  · simp only [World.size_alloc]
    by_cases k : g = w.heap.size + 1
    · omega
    · rw [if_neg k] at hg
      by_cases k2 : g = w.heap.size
      · omega
      · rw [if_neg k2] at hg; exact absurd rfl hg
  · dsimp only at hg
    by_cases k : g = w.heap.size + 1
    · omega
    · rw [if_neg k] at hg
      by_cases k2 : g = w.heap.size
      · omega
      · rw [if_neg k2] at hg; exact absurd rfl hg
theorem tnew_no (room : Int) (w : World) (h : ¬ (1 ≤ room ∧ room ≤ 16)) :
    Calls Try.prog 9 #[.int .i64 room] w fun e w' => e = .returned (.tuple #[.pointer none, .int .i64 1]) ∧ Only none_ w w' := by
  by_cases h1 : room < 1
  · have d1 : decide (room < 1) = true := by simpa using h1
    clear h h1
    go_enter Try.func9, Try.ntmps9
    go_wp2
    go_ret2
    exact ⟨rfl, Only.refl _ _⟩
  · have d1 : decide (room < 1) = false := by simpa using h1
    have d2 : decide (16 < room) = true := by simp; omega
    clear h h1
    go_enter Try.func9, Try.ntmps9
    go_wp2
    go_ret2
    exact ⟨rfl, Only.refl _ _⟩

/-! ### what a request comes to -/
def oneU (x : Int) : List Value := [.int .u64 x]
theorem oneU1 (x : Int) : (oneU x).length = 1 := rfl
theorem oneU_one : ∀ y : Int, ∀ u ∈ oneU y, u.oneCell' = true := by
  intro y u hu
  simp only [oneU, List.mem_cons, List.not_mem_nil, or_false] at hu
  rcases hu with rfl; rfl
theorem oneU_flat_len (xs : List Int) : (xs.flatMap oneU).length = xs.length * 1 := by
  rw [List.length_flatMap]
  induction xs with
  | nil => rfl
  | cons x xs ih => simp [oneU] at ih ⊢; omega
theorem oneU_map (xs : List Int) : xs.flatMap oneU = xs.map (Value.int .u64) := by
  induction xs with
  | nil => rfl
  | cons x xs ih => rw [List.flatMap_cons, ih]; rfl
theorem oneU_cells_one (xs : List Int) : ∀ u ∈ xs.flatMap oneU, u.oneCell' = true := by
  intro u hu
  obtain ⟨y, _, h⟩ := List.mem_flatMap.1 hu
  exact oneU_one y u h
theorem info_u64 : (Try.prog.info? 30).map (fun i => (i.zero, i.size, i.bytes)) = some (some (.int .u64 0), 1, 8) := by kernel_rfl
abbrev OwnsU (w : World) (base : Nat) (v : Value) (xs : List Int) : Prop := Owns w base 30 1 oneU v xs
theorem VR.of_owns {w : World} {base : Nat} {v : Value} {xs : List Int} (h : OwnsU w base v xs) : VR w (fun g => base ≤ g ∧ g < w.heap.size) v xs := by
  rcases h.2 with ⟨hv, h2⟩ | ⟨g, cap, cur, hv, hg, hh, h3, h4, _⟩
  · have : xs = [] := List.eq_nil_of_length_eq_zero h2
    subst this
    rw [hv]
    exact VR.none _ _
  · subst hv
    refine ⟨_, cap, rfl, fun i x hx => ⟨g, 0, rfl, h.base_le rfl, ?_⟩⟩
    have := Owns.cell h oneU1 hx (j := 0) (by decide)
    rw [Nat.zero_add]
    simpa [oneU] using this
set_option maxHeartbeats 1000000 in
theorem cloneu17 (a : Addr) (cap : Nat) (l : List Int) (w : World) (h : ∀ (j : Nat) (u : Value), (l.flatMap oneU)[j]? = some u → w.cell? (a.add j) = some u) (hl : l.length ≤ 1000) :
    Calls Try.prog 47 #[.slice (some a) l.length cap] w fun e w' => ∃ v', e = .returned v' ∧ OwnsU w' w.heap.size v' l ∧ Only none_ w w' := by
  obtain ⟨i0, hi0, hz0, hz1, hz2⟩ := info_parts info_u64
  have own0 : (w.alloc (.cells #[] 30)).ownsRow w.heap.size 30 1 (.slice (some ⟨w.heap.size, 0, none⟩) 0 0) 0 [] := by
    refine ⟨rfl, .inr ⟨w.heap.size, 0, #[], rfl, Nat.le_refl _, ?_, Nat.le_refl _, Nat.zero_le _, rfl, rfl⟩⟩
    exact Row.fresh w 30 #[]
  have O0 := Lib.hid ((Only.refl none_ w).alloc (.cells #[] 30))
  have all_ := Lib.hid (fun j u (hj : (l.flatMap oneU)[j]? = some u) => O0.out.cell (h j u hj) (fun s => s))
  have OW := Lib.hid own0
  have zz : w.heap.size ≤ (w.alloc (.cells #[] 30)).heap.size := O0.out.size
  have he : ∀ w : World, (binOp .eql 47 (.slice (some a) l.length cap) (.slice none 0 0)).run Try.prog w = .ok (.bool false) w := fun _ => rfl
  clear h own0
  go_enter Try.func47, Try.ntmps47
  go_wp2_with (at_builtin; go_loud (refine wpList_append_own _ rfl (.tmp 5) (.tmp 6) 47 rfl w.heap.size 30 i0 _ 1 8 Try.underlying47 hi0 hz0 hz1 hz2 rfl (by decide) _ 0 [] rfl OW.out a l.length cap _ rfl (oneU_flat_len _) all_.out (oneU_cells_one _) (by unfold maxLen; omega) (by omega) zz ?_))
  intro v1 w1 hown1 hgrow1 _
  have O1 := Lib.hid (O0.out.trans (Only.of_grown hgrow1) (fun j hj q => by have q2 : some j = some w.heap.size := q; injection q2; omega))
  have OW1 := Lib.hid (show OwnsU w1 w.heap.size v1 l from by
    show Owns _ _ _ _ _ _ _
    unfold Owns
    simpa using hown1)
  clear hown1 hgrow1
  go_wp2_with fail
  go_ret
  exact ⟨v1, rfl, OW1.out, O1.out⟩

theorem info_u64s : (Try.prog.info? (Try.prog.elem 55)).map (·.size) = some 1 := by kernel_rfl
theorem size_run {t : TypeId} {n : Nat} (h : (Try.prog.info? t).map (·.size) = some n) (w : World) : (sizeOf t).run Try.prog w = .ok n w := by
  cases hq : Try.prog.info? t with
  | none => simp [hq] at h
  | some i =>
    simp [hq] at h
    simp [sizeOf, typeInfo, hq, h]
theorem slice8 (a : Addr) (n : Nat) (h : n ≤ 8) (w : World) : (Instr.sliceAt 55 (.pointer (some a)) none (some (.int .i64 n)) none).run Try.prog w = .ok (.slice (some a) n 8) w := by
  have e8 : Try.prog.arrayLen 55 = 8 := by kernel_rfl
  have := run_sliceAt_array_h (P := Try.prog) w 55 a (by kernel_rfl) .i64 n (by omega) (by rw [e8]; omega)
  rw [this, size_run info_u64s, e8]
  simp [slicedAt, Result.andThen]
  unfold Addr.add
  split <;> simp_all
theorem vals_vl {r : Rq} (h : FineQ r) {j : Nat} {x : Int} (hx : r.vs[j]? = some x) : vlQ r j = x := by
  unfold vlQ
  rw [List.getD_eq_getElem?_getD, hx]
  rfl
set_option maxHeartbeats 1000000 in
theorem outcome_any (r : Rq) (a : Nat) (w : World) (h : Row w a 75 r.cells) (fine : FineQ r) :
    Calls Try.prog 43 #[.pointer (some ⟨a, 0, none⟩)] w fun e w' => ∃ v, e = .returned (.tuple #[.int .i64 (codeQ r), v]) ∧ VR w' (fun g => w.heap.size ≤ g ∧ g < w'.heap.size) v (valsQ r) ∧ Only none_ w w' := by
  have c0 : w.cell? ⟨a, 0, none⟩ = some (.int .i64 r.kind) := h.cell 0
  have c10 : w.cell? ⟨a, 10, none⟩ = some (.bool (lostQ r)) := h.cell 10
  have c1 : w.drew.cell? ⟨a, 1, none⟩ = some (.int .i64 r.pl.length) := h.cell 1
  have n8 := fine.n8
  have n1 := fine.n1
  have al := h.lt
  have vl := fine.vl
  have CA : ∀ (j : Nat) (u : Value), (r.vs.flatMap oneU)[j]? = some u → w.drew.cell? ((⟨a, 11, none⟩ : Addr).add j) = some u := by
    intro j u hj
    rw [oneU_map, List.getElem?_map] at hj
    cases q : r.vs[j]? with
    | none => rw [q] at hj; cases hj
    | some x =>
      rw [q] at hj
      have hj8 : j < 8 := by have := lt_of_get q; omega
      rw [addL11]
      show w.cell? _ = _
      rw [h.cell]
      unfold Rq.cells
      rw [rqC_vl _ _ _ _ _ hj8, vals_vl fine q]
      exact hj
  have CL := Lib.hid (cloneu17 ⟨a, 11, none⟩ 8 r.vs w.drew CA (by omega))
  have HV := Lib.hid (show valsQ r = if lostQ r then [] else if r.kind = 1 then r.vs else [] from rfl)
  have HC := Lib.hid (show codeQ r = if lostQ r then 7 else 0 from rfl)
  clear CA h fine
  generalize lostQ r = l at *
  cases l with
  | true =>
    clear c0 c1
    go_enter Try.func43, Try.ntmps43
    go_wp2_with fail
    go_ret2
    refine ⟨.slice none 0 0, ?_, ?_, Only.refl _ _⟩
    · rw [HC.out]; rfl
    · rw [HV.out]; exact VR.none _ _
  | false =>
    by_cases k : r.kind = 1
    · have t1 : (r.kind == 1) = true := by simp [k]
      have VV := Lib.hid (show valsQ r = r.vs from by rw [HV.out, if_neg (by decide), if_pos k])
      have CL := CL.out
      rw [vl] at CL
      have CL := Lib.hid CL
      clear k HV
      have SA := fun w => slice8 ⟨a, 11, none⟩ r.pl.length n8 w
      generalize r.pl.length = n at *
      go_enter Try.func43, Try.ntmps43
      go_upto_region 4 with fail
      go_region_with (first
        | (go_at_call 47; (with_reducible refine CL.out.mono ?_); rintro e w2 ⟨v, rfl, hv, o2⟩)
        | fail)
      all_goals
        have V2 := Lib.hid (VR.of_owns hv)
        have O2 := Lib.hid (((Only.refl none_ w).drew).same o2)
        clear hv o2
        go_wp2_with fail
        go_ret2
        refine ⟨v, ?_, ?_, O2.out⟩
        · rw [HC.out]; rfl
        · rw [VV.out]; exact V2.out
    · have t1 : (r.kind == 1) = false := by simp [k]
      have VV := Lib.hid (show valsQ r = [] from by rw [HV.out, if_neg (by decide), if_neg k])
      clear k HV c1
      go_enter Try.func43, Try.ntmps43
      go_wp2_with fail
      go_ret2
      refine ⟨.slice none 0 0, ?_, ?_, Only.refl _ _⟩
      · rw [HC.out]; rfl
      · rw [VV.out]; exact VR.none _ _
end Go.Proofs.Ytoflkeedfgnkhaa
