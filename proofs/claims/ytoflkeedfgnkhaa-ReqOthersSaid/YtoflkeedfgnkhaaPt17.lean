/- The document's own rising list with a number more. -/
import Derived.Test.YtoflkeedfgnkhaaInt11
import Derived.Test.YtoflkeedfgnkhaaRl0
import Derived.Test.YtoflkeedfgnkhaaSrc
import Derived.Deep.Cut
import Derived.Deep.CutBlock
import Derived.Deep.DeepCutAuto
import Derived.BigQuiet
import Derived.Deep.RegionLaw
namespace Go.Proofs.Ytoflkeedfgnkhaa
open Go.RowKit
set_option linter.unusedVariables false

/-- a rising list with a number more -/
def insI : List Int → Int → List Int
  | [], n => [n]
  | x :: l, n => if x < n then x :: insI l n else if x = n then x :: l else n :: x :: l
theorem ins_at (n : Int) : ∀ (l : List Int) (k : Nat), k ≤ l.length → (∀ j x, j < k → l[j]? = some x → x < n) → (∀ x, l[k]? = some x → n ≤ x) →
    insI l n = if l[k]? = some n then l else l.take k ++ n :: l.drop k := by
  intro l
  induction l with
  | nil => intro k hk h1 h2; simp [insI]
  | cons x l ih =>
    intro k hk h1 h2
    cases k with
    | zero =>
      have hx := h2 x rfl
      show (if x < n then _ else _) = _
      rw [if_neg (by omega)]
      by_cases e : x = n
      · subst e; rw [if_pos rfl]; simp
      · rw [if_neg e, if_neg (fun q => e (by simpa using q))]; rfl
    | succ k =>
      have hx := h1 0 x (by omega) rfl
      show (if x < n then _ else _) = _
      rw [if_pos hx, ih k (by simp at hk; omega) (fun j y hj hy => h1 (j + 1) y (by omega) hy) (fun y hy => h2 y hy)]
      by_cases e : l[k]? = some n
      · rw [if_pos e, if_pos (by simpa using e)]
      · rw [if_neg e, if_neg (by simpa using e)]; rfl
theorem ins_there {n : Int} {l : List Int} {k : Nat} (hk : k ≤ l.length) (h1 : ∀ j x, j < k → l[j]? = some x → x < n) (h2 : l[k]? = some n) : insI l n = l := by
  rw [ins_at n l k hk h1 (fun x hx => by rw [h2] at hx; injection hx with hx; omega), if_pos h2]
theorem ins_new {n : Int} {l : List Int} {k : Nat} (hk : k ≤ l.length) (h1 : ∀ j x, j < k → l[j]? = some x → x < n) (h2 : ∀ x, l[k]? = some x → n < x) : insI l n = l.take k ++ n :: l.drop k := by
  rw [ins_at n l k hk h1 (fun x hx => by have := h2 x hx; omega), if_neg (fun q => by have := h2 n q; omega)]
theorem ins_le (l : List Int) (n : Int) : (insI l n).length ≤ l.length + 1 := by
  induction l with
  | nil => simp [insI]
  | cons x l ih =>
    show (if x < n then x :: insI l n else if x = n then x :: l else n :: x :: l).length ≤ _
    split
    · simp only [List.length_cons]; omega
    · split <;> simp
/-- the tickets that a request's waiters wait for -/
theorem one_len14 (l : List Int) : (l.flatMap one).length = l.length := by
  have := flat_size one1 l
  unfold flat at this
  simpa using this
theorem one_cells14 (l : List Int) : ∀ u ∈ l.flatMap one, u.oneCell' = true := fun u hu => by
  obtain ⟨x, _, hx⟩ := List.mem_flatMap.1 hu
  exact one_one x u hx
def PutTo14 (base : Nat) (v : Value) (xs : List Int) (n : Int) (w : World) (e : Ending) (w' : World) : Prop := ∃ v', e = .returned v' ∧ OwnsInts w' base v' (insI xs n) ∧ (v' = v ∨ ∀ g, v'.ownBlock = some g → w.heap.size ≤ g) ∧ Only none_ w w'

set_option maxRecDepth 100000 in
set_option maxHeartbeats 4000000 in
theorem rput14_any (base : Nat) (v : Value) (xs : List Int) (n : Int) (w : World) (h : OwnsInts w base v xs) (hb : base ≤ w.heap.size) (hl : xs.length ≤ 1000) :
    Calls Try.prog 31 #[v, .int .i64 n] w (PutTo14 base v xs n w) := by
  have H := Lib.hid h
  obtain ⟨A, cap, rfl, hc⟩ := Reads.of_owns h
  have HC := Lib.hid hc
  have HB := Lib.hid hb
  obtain ⟨i0, hi0, hz0, hz1, hz2⟩ := info_parts info_int8
  have I0 := Lib.hid hi0
  have I1 := Lib.hid hz0
  have I2 := Lib.hid hz1
  have I3 := Lib.hid hz2
  clear h hc hb hi0 hz0 hz1 hz2
  unfold PutTo14
  go_enter Try.func31, Try.ntmps31
  go_upto_block 0 with fail
  go_cut [5] (fun i wx => w = wx ∧ ∃ k : Nat, i = .int .i64 k ∧ k ≤ xs.length ∧ (∀ j y, j < k → xs[j]? = some y → y < n) ∧ (∀ y, xs[k]? = some y → n ≤ y))
  case first =>
    go_wp2_with fail
    go_loopw [5] (fun i wx => w = wx ∧ ∃ k : Nat, i = .int .i64 k ∧ k ≤ xs.length ∧ (∀ j y, j < k → xs[j]? = some y → y < n)) (fun i _ => xs.length - (intOf i).toNat)
    case atStart => exact ⟨rfl, 0, rfl, Nat.zero_le _, fun j y hj => by omega⟩
    case round =>
      obtain ⟨hw, k, rfl, hk, hn⟩ := hrel
      subst hw
      have HN := Lib.hid hn
      clear hn
      by_cases hlt : k < xs.length
      · obtain ⟨y, hy⟩ : ∃ y, xs[k]? = some y := ⟨_, List.getElem?_eq_getElem hlt⟩
        obtain ⟨g1, o1, rfl, c1⟩ := HC.out k y hy
        have HY := Lib.hid hy
        clear hy
        have t1 : decide ((k : Int) < (xs.length : Int)) = true := decide_eq_true (by omega)
        by_cases e : y < n
        · have t2 : decide (y < n) = true := decide_eq_true e
          have NX := Lib.hid (show ∀ j z, j < k + 1 → xs[j]? = some z → z < n from fun j z hj hz => by
            by_cases q : j = k
            · subst q; rw [HY.out] at hz; injection hz with hz; subst hz; exact e
            · exact HN.out j z (by omega) hz)
          clear e
          go_wp2_with fail
          go_roundw
          case rel => exact ⟨by trivial, k + 1, by go_num, by omega, NX.out⟩
          case measure => simp [intOf]; omega
        · have t2 : decide (y < n) = false := decide_eq_false e
          have NY := Lib.hid (show n ≤ y from by omega)
          have HK := Lib.hid hk
          clear e
          go_wp2_with fail
          go_meet
          exact ⟨rfl, k, rfl, HK.out, HN.out, fun z hz => by rw [HY.out] at hz; injection hz with hz; subst hz; exact NY.out⟩
      · have hge : xs.length ≤ k := by omega
        have HK := Lib.hid hk
        go_wp2_with fail
        go_meet
        exact ⟨rfl, k, rfl, HK.out, HN.out, fun z hz => by have := lt_of_get hz; omega⟩
  case rest =>
    obtain ⟨hw, k, rfl, hk, h1, h2⟩ := hcut
    subst hw
    have HK := Lib.hid hk
    have H1 := Lib.hid h1
    have H2 := Lib.hid h2
    clear h1 h2
    go_upto_region 4 with fail
    go_cut [31] (fun s wx => w = wx ∧ s = .bool (decide (xs[k]? = some n)))
    case first =>
      by_cases hlt : k < xs.length
      · obtain ⟨y, hy⟩ : ∃ y, xs[k]? = some y := ⟨_, List.getElem?_eq_getElem hlt⟩
        obtain ⟨g1, o1, rfl, c1⟩ := HC.out k y hy
        have HY := Lib.hid hy
        clear hy
        have t1 : decide ((k : Int) < (xs.length : Int)) = true := decide_eq_true (by omega)
        by_cases e : y = n
        · have t2 : (y == n) = true := by simp [e]
          have NY := Lib.hid e
          clear e
          go_wp2_with fail
          go_meet
          exact ⟨rfl, by rw [HY.out, NY.out, decide_eq_true rfl]⟩
        · have t2 : (y == n) = false := by simp [e]
          have NY := Lib.hid e
          clear e
          go_wp2_with fail
          go_meet
          exact ⟨rfl, by rw [HY.out, decide_eq_false (fun q => NY.out (by injection q))]⟩
      · have hge : xs.length ≤ k := by omega
        have NY := Lib.hid hge
        go_wp2_with fail
        go_meet
        exact ⟨rfl, by rw [List.getElem?_eq_none NY.out]; rfl⟩
    case rest =>
      obtain ⟨hw, rfl⟩ := hcut
      subst hw
      by_cases he : xs[k]? = some n
      · have FE := Lib.hid (ins_there HK.out H1.out he)
        rw [decide_eq_true he]
        clear he
        go_wp2_with fail
        go_ret
        exact ⟨_, rfl, by rw [FE.out]; exact H.out, .inl rfl, Only.refl _ _⟩
      · have FE := Lib.hid (ins_new HK.out H1.out (fun y hy => by
          have := H2.out y hy
          by_cases q : y = n
          · subst q; exact absurd hy he
          · omega))
        rw [decide_eq_false he]
        clear he
        go_wp2_with fail
        rcases H.out.2 with ⟨hv, hz⟩ | ⟨g, cp, cur, hv, _, hh, hcap, hmx, _⟩
        · have hx : xs = [] := List.eq_nil_of_length_eq_zero hz
          subst hx
          simp only [List.length_nil, Value.slice.injEq, true_and] at hv
          obtain ⟨rfl, rfl⟩ := hv
          have hk0 : k = 0 := by simp at hk; omega
          subst hk0
          clear hz hk hl
          have SA := Lib.hid (fun (W : World) (o : Only none_ w W) => (show Src W (.slice none 0 0) 0 [] from .inl ⟨rfl, rfl, rfl⟩))
          have SB := SA
          have NL1 := Lib.hid (show ([] : List Value).length = 0 * 1 from rfl)
          have NL2 := NL1
          have NO1 := Lib.hid (show ∀ u ∈ ([] : List Value), u.oneCell' = true from fun u hu => by cases hu)
          have NO2 := NO1
          have F := Lib.hid (show ∀ v2 w2, w2.ownsRow w.heap.size 3 1 v2 (0 + 0 + 1 + 0) ([] ++ [] ++ [.int .i64 n] ++ []) → OwnsInts w2 w.heap.size v2 (insI [] n) from fun v2 w2 h => h)
          have WA := Lib.hid (((Only.refl none_ w).alloc (.cells #[] 3)).drew)
          have EMP := Lib.hid (show ((w.alloc (.cells #[] 3)).drew).ownsRow w.heap.size 3 1 (.slice (some ⟨w.heap.size, 0, none⟩) 0 0) 0 [] from ⟨rfl, .inr ⟨w.heap.size, 0, #[], rfl, Nat.le_refl _, Row.fresh w 3 #[], Nat.le_refl _, Nat.zero_le _, rfl, rfl⟩⟩)
          have zA : w.heap.size ≤ ((w.alloc (.cells #[] 3)).drew).heap.size := WA.out.size
          have WB := Lib.hid ((((Only.refl none_ w).alloc (.cells #[] 3)).alloc (.cells #[.int .i64 n] 3)).drew)
          have EM2 := Lib.hid (show (((w.alloc (.cells #[] 3)).alloc (.cells #[.int .i64 n] 3)).drew).ownsRow w.heap.size 3 1 (.slice (some ⟨w.heap.size, 0, none⟩) 0 0) 0 [] from World.ownsRow.alloc (show (w.alloc (.cells #[] 3)).ownsRow w.heap.size 3 1 (.slice (some ⟨w.heap.size, 0, none⟩) 0 0) 0 [] from ⟨rfl, .inr ⟨w.heap.size, 0, #[], rfl, Nat.le_refl _, Row.fresh w 3 #[], Nat.le_refl _, Nat.zero_le _, rfl, rfl⟩⟩) (.cells #[.int .i64 n] 3))
          have RB := Lib.hid (show Row (((w.alloc (.cells #[] 3)).alloc (.cells #[.int .i64 n] 3)).drew) (w.heap.size + 1) 3 #[.int .i64 n] from by
            have r := Row.fresh (w.alloc (.cells #[] 3)) 3 #[.int .i64 n]
            rw [World.size_alloc] at r
            exact r)
          have zB : w.heap.size ≤ (((w.alloc (.cells #[] 3)).alloc (.cells #[.int .i64 n] 3)).drew).heap.size := WB.out.size
          have WC := Lib.hid ((((Only.refl none_ w).alloc (.cells #[.int .i64 n] 3)).alloc (.cells #[] 3)).drew)
          have EM3 := Lib.hid (show (((w.alloc (.cells #[.int .i64 n] 3)).alloc (.cells #[] 3)).drew).ownsRow w.heap.size 3 1 (.slice (some ⟨w.heap.size + 1, 0, none⟩) 0 0) 0 [] from ⟨rfl, .inr ⟨w.heap.size + 1, 0, #[], rfl, by omega, by
            have r := Row.fresh (w.alloc (.cells #[.int .i64 n] 3)) 3 #[]
            rw [World.size_alloc] at r
            exact r, Nat.le_refl _, Nat.zero_le _, rfl, rfl⟩⟩)
          have RC := Lib.hid (show Row (((w.alloc (.cells #[.int .i64 n] 3)).alloc (.cells #[] 3)).drew) w.heap.size 3 #[.int .i64 n] from (Row.fresh w 3 #[.int .i64 n]).alloc _)
          have zC : w.heap.size ≤ (((w.alloc (.cells #[.int .i64 n] 3)).alloc (.cells #[] 3)).drew).heap.size := WC.out.size
          have B1 := Lib.hid (show 0 + 0 ≤ maxLen from by unfold maxLen; omega)
          have B2 := Lib.hid (show (0 + 0) * 8 ≤ 140737488355328 from by omega)
          have B3 := Lib.hid (show 0 + 0 + 1 ≤ maxLen from by unfold maxLen; omega)
          have B4 := Lib.hid (show (0 + 0 + 1) * 8 ≤ 140737488355328 from by omega)
          have B5 := Lib.hid (show 0 + 0 + 1 + 0 ≤ maxLen from by unfold maxLen; omega)
          have B6 := Lib.hid (show (0 + 0 + 1 + 0) * 8 ≤ 140737488355328 from by omega)
          go_region_law (first
            | (refine step_append_src rfl (.tmp 33) (.tmp 36) 35 rfl w.heap.size 3 i0 _ 1 8 Try.underlying35 I0.out I1.out I2.out I3.out rfl (by decide) _ 0 [] rfl EMP.out _ 0 _ rfl (SA.out _ WA.out) NL1.out NO1.out B1.out B2.out zA ?_
               intro v5 w5 hown5 hgrow5
               have O5 := Lib.hid (WA.out.trans (Only.of_grown hgrow5) (fun j hj q' => by have q2 : some j = some w.heap.size := q'; injection q2; omega))
               have OW5 := Lib.hid (World.ownsRow.alloc hown5 (.cells #[.int .i64 n] 3))
               have RX := Lib.hid (Row.fresh w5 3 #[.int .i64 n])
               have O6 := Lib.hid (O5.out.alloc (.cells #[.int .i64 n] 3))
               have z6 : w.heap.size ≤ (w5.alloc (.cells #[.int .i64 n] 3)).heap.size := O6.out.size
               have L5 := Lib.hid (fun j (hj : some j = v5.ownBlock) => (World.ownsRow.lt hown5 j hj.symm).1)
               have NC := Lib.hid (show Src (w5.alloc (.cells #[.int .i64 n] 3)) (.slice (some ⟨w5.heap.size, 0, none⟩) 1 1) 1 [.int .i64 n] from .inr ⟨_, _, rfl, fun j u hj => by rw [addL11, Nat.zero_add, RX.out.cell, List.getElem?_toArray]; exact hj⟩)
               clear hown5 hgrow5)
            | (refine step_append_src rfl (.tmp 37) (.tmp 39) 35 rfl w.heap.size 3 i0 _ 1 8 Try.underlying35 I0.out I1.out I2.out I3.out rfl (by decide) _ (0 + 0) _ rfl OW5.out _ 1 [.int .i64 n] rfl NC.out rfl (one_one n) B3.out B4.out z6 ?_
               intro v6 w6 hown6 hgrow6
               have O7 := Lib.hid (O6.out.trans (Only.of_grown hgrow6) (fun j hj q' => by have := L5.out j q'; omega))
               have OW6 := Lib.hid hown6
               have z7 : w.heap.size ≤ w6.heap.size := O7.out.size
               have L6 := Lib.hid (fun j (hj : some j = v6.ownBlock) => (World.ownsRow.lt hown6 j hj.symm).1)
               clear hown6 hgrow6)
            | (refine step_append_src rfl (.tmp 33) (.tmp 36) 35 rfl w.heap.size 3 i0 _ 1 8 Try.underlying35 I0.out I1.out I2.out I3.out rfl (by decide) _ 0 [] rfl EM2.out _ 0 _ rfl (SA.out _ WB.out) NL1.out NO1.out B1.out B2.out zB ?_
               intro v5 w5 hown5 hgrow5
               have O6 := Lib.hid (WB.out.trans (Only.of_grown hgrow5) (fun j hj q' => by have q2 : some j = some w.heap.size := q'; injection q2; omega))
               have OWB := Lib.hid hown5
               have RX := Lib.hid ((Only.of_grown hgrow5).row RB.out (fun q' => by have q2 : some (w.heap.size + 1) = some w.heap.size := q'; injection q2; omega))
               have z6 : w.heap.size ≤ w5.heap.size := O6.out.size
               have L5 := Lib.hid (fun j (hj : some j = v5.ownBlock) => (World.ownsRow.lt hown5 j hj.symm).1)
               have NCB := Lib.hid (show Src w5 (.slice (some ⟨w.heap.size + 1, 0, none⟩) 1 1) 1 [.int .i64 n] from .inr ⟨_, _, rfl, fun j u hj => by rw [addL11, Nat.zero_add, RX.out.cell, List.getElem?_toArray]; exact hj⟩)
               clear hown5 hgrow5)
            | (refine step_append_src rfl (.tmp 37) (.tmp 39) 35 rfl w.heap.size 3 i0 _ 1 8 Try.underlying35 I0.out I1.out I2.out I3.out rfl (by decide) _ (0 + 0) _ rfl OWB.out _ 1 [.int .i64 n] rfl NCB.out rfl (one_one n) B3.out B4.out z6 ?_
               intro v6 w6 hown6 hgrow6
               have O7 := Lib.hid (O6.out.trans (Only.of_grown hgrow6) (fun j hj q' => by have := L5.out j q'; omega))
               have OW6 := Lib.hid hown6
               have z7 : w.heap.size ≤ w6.heap.size := O7.out.size
               have L6 := Lib.hid (fun j (hj : some j = v6.ownBlock) => (World.ownsRow.lt hown6 j hj.symm).1)
               clear hown6 hgrow6)
            | (refine step_append_src rfl (.tmp 33) (.tmp 36) 35 rfl w.heap.size 3 i0 _ 1 8 Try.underlying35 I0.out I1.out I2.out I3.out rfl (by decide) _ 0 [] rfl EM3.out _ 0 _ rfl (SA.out _ WC.out) NL1.out NO1.out B1.out B2.out zC ?_
               intro v5 w5 hown5 hgrow5
               have O6 := Lib.hid (WC.out.trans (Only.of_grown hgrow5) (fun j hj q' => by have q2 : some j = some (w.heap.size + 1) := q'; injection q2; omega))
               have OWC := Lib.hid hown5
               have RX := Lib.hid ((Only.of_grown hgrow5).row RC.out (fun q' => by have q2 : some w.heap.size = some (w.heap.size + 1) := q'; injection q2; omega))
               have z6 : w.heap.size ≤ w5.heap.size := O6.out.size
               have L5 := Lib.hid (fun j (hj : some j = v5.ownBlock) => (World.ownsRow.lt hown5 j hj.symm).1)
               have NCC := Lib.hid (show Src w5 (.slice (some ⟨w.heap.size, 0, none⟩) 1 1) 1 [.int .i64 n] from .inr ⟨_, _, rfl, fun j u hj => by rw [addL11, Nat.zero_add, RX.out.cell, List.getElem?_toArray]; exact hj⟩)
               clear hown5 hgrow5)
            | (refine step_append_src rfl (.tmp 37) (.tmp 39) 35 rfl w.heap.size 3 i0 _ 1 8 Try.underlying35 I0.out I1.out I2.out I3.out rfl (by decide) _ (0 + 0) _ rfl OWC.out _ 1 [.int .i64 n] rfl NCC.out rfl (one_one n) B3.out B4.out z6 ?_
               intro v6 w6 hown6 hgrow6
               have O7 := Lib.hid (O6.out.trans (Only.of_grown hgrow6) (fun j hj q' => by have := L5.out j q'; omega))
               have OW6 := Lib.hid hown6
               have z7 : w.heap.size ≤ w6.heap.size := O7.out.size
               have L6 := Lib.hid (fun j (hj : some j = v6.ownBlock) => (World.ownsRow.lt hown6 j hj.symm).1)
               clear hown6 hgrow6)
            | (refine step_append_src rfl (.tmp 40) (.tmp 43) 35 rfl w.heap.size 3 i0 _ 1 8 Try.underlying35 I0.out I1.out I2.out I3.out rfl (by decide) _ (0 + 0 + 1) _ rfl OW6.out _ 0 _ rfl (SB.out _ O7.out) NL2.out NO2.out B5.out B6.out z7 ?_
               intro v7 w7 hown7 hgrow7
               have O8 := Lib.hid (O7.out.trans (Only.of_grown hgrow7) (fun j hj q' => by have := L6.out j q'; omega))
               have OW7 := Lib.hid (F.out _ _ hown7)
               clear hown7 hgrow7)
            | fail)
          all_goals
            go_wp2_with fail
            go_ret
            exact ⟨_, rfl, OW7.out.lower11 HB.out, .inr (fun g hg => (OW7.out.base_le hg).1), O8.out⟩
        · simp only [Value.slice.injEq, true_and] at hv
          obtain ⟨rfl, rfl⟩ := hv
          have CL := Lib.hid (show ∀ (j : Nat) (y : Int), xs[j]? = some y → w.cell? ⟨g, j, none⟩ = some (.int .i64 y) from fun j y hy => by
            obtain ⟨g', o', e, hc⟩ := HC.out j y hy
            injection e with e
            injection e with e1 e2
            subst e1 e2
            rwa [Nat.zero_add] at hc)
          have b1 : k ≤ cap := by omega
          have b2 : (k : Int) ≤ (xs.length : Int) := by omega
          have b3 : (0 : Int) ≤ (k : Int) := by omega
          by_cases hcc : cap = k
          · obtain rfl : k = cap := hcc.symm
            have xl : xs.length = k := by omega
            have N1 : ((xs.take k).flatMap one).length = k * 1 := by rw [one_len14, List.length_take]; omega
            have NL1 := Lib.hid N1
            have NL2 := Lib.hid (show ([] : List Value).length = 0 * 1 from rfl)
            have NO1 := Lib.hid (one_cells14 (xs.take k))
            have NO2 := Lib.hid (show ∀ u ∈ ([] : List Value), u.oneCell' = true from fun u hu => by cases hu)
            have SA := Lib.hid (fun (W : World) (o : Only none_ w W) => (show Src W (.slice (some ⟨g, 0, none⟩) k k) k ((xs.take k).flatMap one) from .inr ⟨_, _, rfl, fun j u hj => by
              rw [one_map, List.getElem?_map] at hj
              cases q : (xs.take k)[j]? with
              | none => rw [q] at hj; cases hj
              | some y =>
                rw [q] at hj
                injection hj with hj
                have hj2 : j < k := by have := lt_of_get q; rw [List.length_take] at this; omega
                rw [List.getElem?_take_of_lt hj2] at q
                rw [addL11, Nat.zero_add, ← hj]
                exact o.cell (CL.out j y q) (fun s => s)⟩))
            have SB := Lib.hid (fun (W : World) (o : Only none_ w W) => (show Src W (.slice (some ⟨g, 0, none⟩) 0 0) 0 [] from .inr ⟨_, _, rfl, fun j u hj => by simp at hj⟩))
            have F := Lib.hid (show ∀ v2 w2, w2.ownsRow w.heap.size 3 1 v2 (0 + k + 1 + 0) ([] ++ (xs.take k).flatMap one ++ [.int .i64 n] ++ []) → OwnsInts w2 w.heap.size v2 (insI xs n) from fun v2 w2 h => by
              have d0 : xs.drop k = [] := List.drop_of_length_le (by omega)
              have e1 : (xs.take k ++ n :: xs.drop k).length = 0 + k + 1 + 0 := by rw [List.length_append, List.length_cons, List.length_take, List.length_drop]; omega
              have e2 : (xs.take k ++ n :: xs.drop k).flatMap one = [] ++ (xs.take k).flatMap one ++ [.int .i64 n] ++ [] := by rw [d0, List.flatMap_append, List.flatMap_cons, List.nil_append, List.append_nil]; rfl
              rw [FE.out]
              show World.ownsRow _ _ _ _ _ _ _
              rw [e1, e2]
              exact h)
            clear N1
            have WA := Lib.hid (((Only.refl none_ w).alloc (.cells #[] 3)).drew)
            have EMP := Lib.hid (show ((w.alloc (.cells #[] 3)).drew).ownsRow w.heap.size 3 1 (.slice (some ⟨w.heap.size, 0, none⟩) 0 0) 0 [] from ⟨rfl, .inr ⟨w.heap.size, 0, #[], rfl, Nat.le_refl _, Row.fresh w 3 #[], Nat.le_refl _, Nat.zero_le _, rfl, rfl⟩⟩)
            have zA : w.heap.size ≤ ((w.alloc (.cells #[] 3)).drew).heap.size := WA.out.size
            have WB := Lib.hid ((((Only.refl none_ w).alloc (.cells #[] 3)).alloc (.cells #[.int .i64 n] 3)).drew)
            have EM2 := Lib.hid (show (((w.alloc (.cells #[] 3)).alloc (.cells #[.int .i64 n] 3)).drew).ownsRow w.heap.size 3 1 (.slice (some ⟨w.heap.size, 0, none⟩) 0 0) 0 [] from World.ownsRow.alloc (show (w.alloc (.cells #[] 3)).ownsRow w.heap.size 3 1 (.slice (some ⟨w.heap.size, 0, none⟩) 0 0) 0 [] from ⟨rfl, .inr ⟨w.heap.size, 0, #[], rfl, Nat.le_refl _, Row.fresh w 3 #[], Nat.le_refl _, Nat.zero_le _, rfl, rfl⟩⟩) (.cells #[.int .i64 n] 3))
            have RB := Lib.hid (show Row (((w.alloc (.cells #[] 3)).alloc (.cells #[.int .i64 n] 3)).drew) (w.heap.size + 1) 3 #[.int .i64 n] from by
              have r := Row.fresh (w.alloc (.cells #[] 3)) 3 #[.int .i64 n]
              rw [World.size_alloc] at r
              exact r)
            have zB : w.heap.size ≤ (((w.alloc (.cells #[] 3)).alloc (.cells #[.int .i64 n] 3)).drew).heap.size := WB.out.size
            have WC := Lib.hid ((((Only.refl none_ w).alloc (.cells #[.int .i64 n] 3)).alloc (.cells #[] 3)).drew)
            have EM3 := Lib.hid (show (((w.alloc (.cells #[.int .i64 n] 3)).alloc (.cells #[] 3)).drew).ownsRow w.heap.size 3 1 (.slice (some ⟨w.heap.size + 1, 0, none⟩) 0 0) 0 [] from ⟨rfl, .inr ⟨w.heap.size + 1, 0, #[], rfl, by omega, by
              have r := Row.fresh (w.alloc (.cells #[.int .i64 n] 3)) 3 #[]
              rw [World.size_alloc] at r
              exact r, Nat.le_refl _, Nat.zero_le _, rfl, rfl⟩⟩)
            have RC := Lib.hid (show Row (((w.alloc (.cells #[.int .i64 n] 3)).alloc (.cells #[] 3)).drew) w.heap.size 3 #[.int .i64 n] from (Row.fresh w 3 #[.int .i64 n]).alloc _)
            have zC : w.heap.size ≤ (((w.alloc (.cells #[.int .i64 n] 3)).alloc (.cells #[] 3)).drew).heap.size := WC.out.size
            have B1 := Lib.hid (show 0 + k ≤ maxLen from by unfold maxLen; omega)
            have B2 := Lib.hid (show (0 + k) * 8 ≤ 140737488355328 from by omega)
            have B3 := Lib.hid (show 0 + k + 1 ≤ maxLen from by unfold maxLen; omega)
            have B4 := Lib.hid (show (0 + k + 1) * 8 ≤ 140737488355328 from by omega)
            have B5 := Lib.hid (show 0 + k + 1 + 0 ≤ maxLen from by unfold maxLen; omega)
            have B6 := Lib.hid (show (0 + k + 1 + 0) * 8 ≤ 140737488355328 from by omega)
            go_region_law (first
              | (refine step_append_src rfl (.tmp 33) (.tmp 36) 35 rfl w.heap.size 3 i0 _ 1 8 Try.underlying35 I0.out I1.out I2.out I3.out rfl (by decide) _ 0 [] rfl EMP.out _ k _ rfl (SA.out _ WA.out) NL1.out NO1.out B1.out B2.out zA ?_
                 intro v5 w5 hown5 hgrow5
                 have O5 := Lib.hid (WA.out.trans (Only.of_grown hgrow5) (fun j hj q' => by have q2 : some j = some w.heap.size := q'; injection q2; omega))
                 have OW5 := Lib.hid (World.ownsRow.alloc hown5 (.cells #[.int .i64 n] 3))
                 have RX := Lib.hid (Row.fresh w5 3 #[.int .i64 n])
                 have O6 := Lib.hid (O5.out.alloc (.cells #[.int .i64 n] 3))
                 have z6 : w.heap.size ≤ (w5.alloc (.cells #[.int .i64 n] 3)).heap.size := O6.out.size
                 have L5 := Lib.hid (fun j (hj : some j = v5.ownBlock) => (World.ownsRow.lt hown5 j hj.symm).1)
                 have NC := Lib.hid (show Src (w5.alloc (.cells #[.int .i64 n] 3)) (.slice (some ⟨w5.heap.size, 0, none⟩) 1 1) 1 [.int .i64 n] from .inr ⟨_, _, rfl, fun j u hj => by rw [addL11, Nat.zero_add, RX.out.cell, List.getElem?_toArray]; exact hj⟩)
                 clear hown5 hgrow5)
              | (refine step_append_src rfl (.tmp 37) (.tmp 39) 35 rfl w.heap.size 3 i0 _ 1 8 Try.underlying35 I0.out I1.out I2.out I3.out rfl (by decide) _ (0 + k) _ rfl OW5.out _ 1 [.int .i64 n] rfl NC.out rfl (one_one n) B3.out B4.out z6 ?_
                 intro v6 w6 hown6 hgrow6
                 have O7 := Lib.hid (O6.out.trans (Only.of_grown hgrow6) (fun j hj q' => by have := L5.out j q'; omega))
                 have OW6 := Lib.hid hown6
                 have z7 : w.heap.size ≤ w6.heap.size := O7.out.size
                 have L6 := Lib.hid (fun j (hj : some j = v6.ownBlock) => (World.ownsRow.lt hown6 j hj.symm).1)
                 clear hown6 hgrow6)
              | (refine step_append_src rfl (.tmp 33) (.tmp 36) 35 rfl w.heap.size 3 i0 _ 1 8 Try.underlying35 I0.out I1.out I2.out I3.out rfl (by decide) _ 0 [] rfl EM2.out _ k _ rfl (SA.out _ WB.out) NL1.out NO1.out B1.out B2.out zB ?_
                 intro v5 w5 hown5 hgrow5
                 have O6 := Lib.hid (WB.out.trans (Only.of_grown hgrow5) (fun j hj q' => by have q2 : some j = some w.heap.size := q'; injection q2; omega))
                 have OWB := Lib.hid hown5
                 have RX := Lib.hid ((Only.of_grown hgrow5).row RB.out (fun q' => by have q2 : some (w.heap.size + 1) = some w.heap.size := q'; injection q2; omega))
                 have z6 : w.heap.size ≤ w5.heap.size := O6.out.size
                 have L5 := Lib.hid (fun j (hj : some j = v5.ownBlock) => (World.ownsRow.lt hown5 j hj.symm).1)
                 have NCB := Lib.hid (show Src w5 (.slice (some ⟨w.heap.size + 1, 0, none⟩) 1 1) 1 [.int .i64 n] from .inr ⟨_, _, rfl, fun j u hj => by rw [addL11, Nat.zero_add, RX.out.cell, List.getElem?_toArray]; exact hj⟩)
                 clear hown5 hgrow5)
              | (refine step_append_src rfl (.tmp 37) (.tmp 39) 35 rfl w.heap.size 3 i0 _ 1 8 Try.underlying35 I0.out I1.out I2.out I3.out rfl (by decide) _ (0 + k) _ rfl OWB.out _ 1 [.int .i64 n] rfl NCB.out rfl (one_one n) B3.out B4.out z6 ?_
                 intro v6 w6 hown6 hgrow6
                 have O7 := Lib.hid (O6.out.trans (Only.of_grown hgrow6) (fun j hj q' => by have := L5.out j q'; omega))
                 have OW6 := Lib.hid hown6
                 have z7 : w.heap.size ≤ w6.heap.size := O7.out.size
                 have L6 := Lib.hid (fun j (hj : some j = v6.ownBlock) => (World.ownsRow.lt hown6 j hj.symm).1)
                 clear hown6 hgrow6)
              | (refine step_append_src rfl (.tmp 33) (.tmp 36) 35 rfl w.heap.size 3 i0 _ 1 8 Try.underlying35 I0.out I1.out I2.out I3.out rfl (by decide) _ 0 [] rfl EM3.out _ k _ rfl (SA.out _ WC.out) NL1.out NO1.out B1.out B2.out zC ?_
                 intro v5 w5 hown5 hgrow5
                 have O6 := Lib.hid (WC.out.trans (Only.of_grown hgrow5) (fun j hj q' => by have q2 : some j = some (w.heap.size + 1) := q'; injection q2; omega))
                 have OWC := Lib.hid hown5
                 have RX := Lib.hid ((Only.of_grown hgrow5).row RC.out (fun q' => by have q2 : some w.heap.size = some (w.heap.size + 1) := q'; injection q2; omega))
                 have z6 : w.heap.size ≤ w5.heap.size := O6.out.size
                 have L5 := Lib.hid (fun j (hj : some j = v5.ownBlock) => (World.ownsRow.lt hown5 j hj.symm).1)
                 have NCC := Lib.hid (show Src w5 (.slice (some ⟨w.heap.size, 0, none⟩) 1 1) 1 [.int .i64 n] from .inr ⟨_, _, rfl, fun j u hj => by rw [addL11, Nat.zero_add, RX.out.cell, List.getElem?_toArray]; exact hj⟩)
                 clear hown5 hgrow5)
              | (refine step_append_src rfl (.tmp 37) (.tmp 39) 35 rfl w.heap.size 3 i0 _ 1 8 Try.underlying35 I0.out I1.out I2.out I3.out rfl (by decide) _ (0 + k) _ rfl OWC.out _ 1 [.int .i64 n] rfl NCC.out rfl (one_one n) B3.out B4.out z6 ?_
                 intro v6 w6 hown6 hgrow6
                 have O7 := Lib.hid (O6.out.trans (Only.of_grown hgrow6) (fun j hj q' => by have := L5.out j q'; omega))
                 have OW6 := Lib.hid hown6
                 have z7 : w.heap.size ≤ w6.heap.size := O7.out.size
                 have L6 := Lib.hid (fun j (hj : some j = v6.ownBlock) => (World.ownsRow.lt hown6 j hj.symm).1)
                 clear hown6 hgrow6)
              | (refine step_append_src rfl (.tmp 40) (.tmp 43) 35 rfl w.heap.size 3 i0 _ 1 8 Try.underlying35 I0.out I1.out I2.out I3.out rfl (by decide) _ (0 + k + 1) _ rfl OW6.out _ 0 _ rfl (SB.out _ O7.out) NL2.out NO2.out B5.out B6.out z7 ?_
                 intro v7 w7 hown7 hgrow7
                 have O8 := Lib.hid (O7.out.trans (Only.of_grown hgrow7) (fun j hj q' => by have := L6.out j q'; omega))
                 have OW7 := Lib.hid (F.out _ _ hown7)
                 clear hown7 hgrow7)
              | fail)
            all_goals
              go_wp2_with fail
              go_ret
              exact ⟨_, rfl, OW7.out.lower11 HB.out, .inr (fun g hg => (OW7.out.base_le hg).1), O8.out⟩
          · 
            have N1 : ((xs.take k).flatMap one).length = k * 1 := by rw [one_len14, List.length_take]; omega
            have N2 : ((xs.drop k).flatMap one).length = (xs.length - k) * 1 := by rw [one_len14, List.length_drop]; omega
            have NL1 := Lib.hid N1
            have NL2 := Lib.hid N2
            have NO1 := Lib.hid (one_cells14 (xs.take k))
            have NO2 := Lib.hid (one_cells14 (xs.drop k))
            have SA := Lib.hid (fun (W : World) (o : Only none_ w W) => (show Src W (.slice (some ⟨g, 0, none⟩) k cap) k ((xs.take k).flatMap one) from .inr ⟨_, _, rfl, fun j u hj => by
              rw [one_map, List.getElem?_map] at hj
              cases q : (xs.take k)[j]? with
              | none => rw [q] at hj; cases hj
              | some y =>
                rw [q] at hj
                injection hj with hj
                have hj2 : j < k := by have := lt_of_get q; rw [List.length_take] at this; omega
                rw [List.getElem?_take_of_lt hj2] at q
                rw [addL11, Nat.zero_add, ← hj]
                exact o.cell (CL.out j y q) (fun s => s)⟩))
            have SB := Lib.hid (fun (W : World) (o : Only none_ w W) => (show Src W (.slice (some ⟨g, k, none⟩) (xs.length - k) (cap - k)) (xs.length - k) ((xs.drop k).flatMap one) from .inr ⟨_, _, rfl, fun j u hj => by
              rw [one_map, List.getElem?_map] at hj
              cases q : (xs.drop k)[j]? with
              | none => rw [q] at hj; cases hj
              | some y =>
                rw [q] at hj
                injection hj with hj
                rw [List.getElem?_drop] at q
                rw [addL11, ← hj]
                exact o.cell (CL.out _ y q) (fun s => s)⟩))
            have F := Lib.hid (show ∀ v2 w2, w2.ownsRow w.heap.size 3 1 v2 (0 + k + 1 + (xs.length - k)) ([] ++ (xs.take k).flatMap one ++ [.int .i64 n] ++ (xs.drop k).flatMap one) → OwnsInts w2 w.heap.size v2 (insI xs n) from fun v2 w2 h => by
              have e1 : (xs.take k ++ n :: xs.drop k).length = 0 + k + 1 + (xs.length - k) := by rw [List.length_append, List.length_cons, List.length_take, List.length_drop]; omega
              have e2 : (xs.take k ++ n :: xs.drop k).flatMap one = [] ++ (xs.take k).flatMap one ++ [.int .i64 n] ++ (xs.drop k).flatMap one := by rw [List.flatMap_append, List.flatMap_cons, List.nil_append, List.append_assoc]; rfl
              rw [FE.out]
              show World.ownsRow _ _ _ _ _ _ _
              rw [e1, e2]
              exact h)
            clear N1 N2
            have WA := Lib.hid (((Only.refl none_ w).alloc (.cells #[] 3)).drew)
            have EMP := Lib.hid (show ((w.alloc (.cells #[] 3)).drew).ownsRow w.heap.size 3 1 (.slice (some ⟨w.heap.size, 0, none⟩) 0 0) 0 [] from ⟨rfl, .inr ⟨w.heap.size, 0, #[], rfl, Nat.le_refl _, Row.fresh w 3 #[], Nat.le_refl _, Nat.zero_le _, rfl, rfl⟩⟩)
            have zA : w.heap.size ≤ ((w.alloc (.cells #[] 3)).drew).heap.size := WA.out.size
            have WB := Lib.hid ((((Only.refl none_ w).alloc (.cells #[] 3)).alloc (.cells #[.int .i64 n] 3)).drew)
            have EM2 := Lib.hid (show (((w.alloc (.cells #[] 3)).alloc (.cells #[.int .i64 n] 3)).drew).ownsRow w.heap.size 3 1 (.slice (some ⟨w.heap.size, 0, none⟩) 0 0) 0 [] from World.ownsRow.alloc (show (w.alloc (.cells #[] 3)).ownsRow w.heap.size 3 1 (.slice (some ⟨w.heap.size, 0, none⟩) 0 0) 0 [] from ⟨rfl, .inr ⟨w.heap.size, 0, #[], rfl, Nat.le_refl _, Row.fresh w 3 #[], Nat.le_refl _, Nat.zero_le _, rfl, rfl⟩⟩) (.cells #[.int .i64 n] 3))
            have RB := Lib.hid (show Row (((w.alloc (.cells #[] 3)).alloc (.cells #[.int .i64 n] 3)).drew) (w.heap.size + 1) 3 #[.int .i64 n] from by
              have r := Row.fresh (w.alloc (.cells #[] 3)) 3 #[.int .i64 n]
              rw [World.size_alloc] at r
              exact r)
            have zB : w.heap.size ≤ (((w.alloc (.cells #[] 3)).alloc (.cells #[.int .i64 n] 3)).drew).heap.size := WB.out.size
            have WC := Lib.hid ((((Only.refl none_ w).alloc (.cells #[.int .i64 n] 3)).alloc (.cells #[] 3)).drew)
            have EM3 := Lib.hid (show (((w.alloc (.cells #[.int .i64 n] 3)).alloc (.cells #[] 3)).drew).ownsRow w.heap.size 3 1 (.slice (some ⟨w.heap.size + 1, 0, none⟩) 0 0) 0 [] from ⟨rfl, .inr ⟨w.heap.size + 1, 0, #[], rfl, by omega, by
              have r := Row.fresh (w.alloc (.cells #[.int .i64 n] 3)) 3 #[]
              rw [World.size_alloc] at r
              exact r, Nat.le_refl _, Nat.zero_le _, rfl, rfl⟩⟩)
            have RC := Lib.hid (show Row (((w.alloc (.cells #[.int .i64 n] 3)).alloc (.cells #[] 3)).drew) w.heap.size 3 #[.int .i64 n] from (Row.fresh w 3 #[.int .i64 n]).alloc _)
            have zC : w.heap.size ≤ (((w.alloc (.cells #[.int .i64 n] 3)).alloc (.cells #[] 3)).drew).heap.size := WC.out.size
            have B1 := Lib.hid (show 0 + k ≤ maxLen from by unfold maxLen; omega)
            have B2 := Lib.hid (show (0 + k) * 8 ≤ 140737488355328 from by omega)
            have B3 := Lib.hid (show 0 + k + 1 ≤ maxLen from by unfold maxLen; omega)
            have B4 := Lib.hid (show (0 + k + 1) * 8 ≤ 140737488355328 from by omega)
            have B5 := Lib.hid (show 0 + k + 1 + (xs.length - k) ≤ maxLen from by unfold maxLen; omega)
            have B6 := Lib.hid (show (0 + k + 1 + (xs.length - k)) * 8 ≤ 140737488355328 from by omega)
            go_region_law (first
              | (refine step_append_src rfl (.tmp 33) (.tmp 36) 35 rfl w.heap.size 3 i0 _ 1 8 Try.underlying35 I0.out I1.out I2.out I3.out rfl (by decide) _ 0 [] rfl EMP.out _ k _ rfl (SA.out _ WA.out) NL1.out NO1.out B1.out B2.out zA ?_
                 intro v5 w5 hown5 hgrow5
                 have O5 := Lib.hid (WA.out.trans (Only.of_grown hgrow5) (fun j hj q' => by have q2 : some j = some w.heap.size := q'; injection q2; omega))
                 have OW5 := Lib.hid (World.ownsRow.alloc hown5 (.cells #[.int .i64 n] 3))
                 have RX := Lib.hid (Row.fresh w5 3 #[.int .i64 n])
                 have O6 := Lib.hid (O5.out.alloc (.cells #[.int .i64 n] 3))
                 have z6 : w.heap.size ≤ (w5.alloc (.cells #[.int .i64 n] 3)).heap.size := O6.out.size
                 have L5 := Lib.hid (fun j (hj : some j = v5.ownBlock) => (World.ownsRow.lt hown5 j hj.symm).1)
                 have NC := Lib.hid (show Src (w5.alloc (.cells #[.int .i64 n] 3)) (.slice (some ⟨w5.heap.size, 0, none⟩) 1 1) 1 [.int .i64 n] from .inr ⟨_, _, rfl, fun j u hj => by rw [addL11, Nat.zero_add, RX.out.cell, List.getElem?_toArray]; exact hj⟩)
                 clear hown5 hgrow5)
              | (refine step_append_src rfl (.tmp 37) (.tmp 39) 35 rfl w.heap.size 3 i0 _ 1 8 Try.underlying35 I0.out I1.out I2.out I3.out rfl (by decide) _ (0 + k) _ rfl OW5.out _ 1 [.int .i64 n] rfl NC.out rfl (one_one n) B3.out B4.out z6 ?_
                 intro v6 w6 hown6 hgrow6
                 have O7 := Lib.hid (O6.out.trans (Only.of_grown hgrow6) (fun j hj q' => by have := L5.out j q'; omega))
                 have OW6 := Lib.hid hown6
                 have z7 : w.heap.size ≤ w6.heap.size := O7.out.size
                 have L6 := Lib.hid (fun j (hj : some j = v6.ownBlock) => (World.ownsRow.lt hown6 j hj.symm).1)
                 clear hown6 hgrow6)
              | (refine step_append_src rfl (.tmp 33) (.tmp 36) 35 rfl w.heap.size 3 i0 _ 1 8 Try.underlying35 I0.out I1.out I2.out I3.out rfl (by decide) _ 0 [] rfl EM2.out _ k _ rfl (SA.out _ WB.out) NL1.out NO1.out B1.out B2.out zB ?_
                 intro v5 w5 hown5 hgrow5
                 have O6 := Lib.hid (WB.out.trans (Only.of_grown hgrow5) (fun j hj q' => by have q2 : some j = some w.heap.size := q'; injection q2; omega))
                 have OWB := Lib.hid hown5
                 have RX := Lib.hid ((Only.of_grown hgrow5).row RB.out (fun q' => by have q2 : some (w.heap.size + 1) = some w.heap.size := q'; injection q2; omega))
                 have z6 : w.heap.size ≤ w5.heap.size := O6.out.size
                 have L5 := Lib.hid (fun j (hj : some j = v5.ownBlock) => (World.ownsRow.lt hown5 j hj.symm).1)
                 have NCB := Lib.hid (show Src w5 (.slice (some ⟨w.heap.size + 1, 0, none⟩) 1 1) 1 [.int .i64 n] from .inr ⟨_, _, rfl, fun j u hj => by rw [addL11, Nat.zero_add, RX.out.cell, List.getElem?_toArray]; exact hj⟩)
                 clear hown5 hgrow5)
              | (refine step_append_src rfl (.tmp 37) (.tmp 39) 35 rfl w.heap.size 3 i0 _ 1 8 Try.underlying35 I0.out I1.out I2.out I3.out rfl (by decide) _ (0 + k) _ rfl OWB.out _ 1 [.int .i64 n] rfl NCB.out rfl (one_one n) B3.out B4.out z6 ?_
                 intro v6 w6 hown6 hgrow6
                 have O7 := Lib.hid (O6.out.trans (Only.of_grown hgrow6) (fun j hj q' => by have := L5.out j q'; omega))
                 have OW6 := Lib.hid hown6
                 have z7 : w.heap.size ≤ w6.heap.size := O7.out.size
                 have L6 := Lib.hid (fun j (hj : some j = v6.ownBlock) => (World.ownsRow.lt hown6 j hj.symm).1)
                 clear hown6 hgrow6)
              | (refine step_append_src rfl (.tmp 33) (.tmp 36) 35 rfl w.heap.size 3 i0 _ 1 8 Try.underlying35 I0.out I1.out I2.out I3.out rfl (by decide) _ 0 [] rfl EM3.out _ k _ rfl (SA.out _ WC.out) NL1.out NO1.out B1.out B2.out zC ?_
                 intro v5 w5 hown5 hgrow5
                 have O6 := Lib.hid (WC.out.trans (Only.of_grown hgrow5) (fun j hj q' => by have q2 : some j = some (w.heap.size + 1) := q'; injection q2; omega))
                 have OWC := Lib.hid hown5
                 have RX := Lib.hid ((Only.of_grown hgrow5).row RC.out (fun q' => by have q2 : some w.heap.size = some (w.heap.size + 1) := q'; injection q2; omega))
                 have z6 : w.heap.size ≤ w5.heap.size := O6.out.size
                 have L5 := Lib.hid (fun j (hj : some j = v5.ownBlock) => (World.ownsRow.lt hown5 j hj.symm).1)
                 have NCC := Lib.hid (show Src w5 (.slice (some ⟨w.heap.size, 0, none⟩) 1 1) 1 [.int .i64 n] from .inr ⟨_, _, rfl, fun j u hj => by rw [addL11, Nat.zero_add, RX.out.cell, List.getElem?_toArray]; exact hj⟩)
                 clear hown5 hgrow5)
              | (refine step_append_src rfl (.tmp 37) (.tmp 39) 35 rfl w.heap.size 3 i0 _ 1 8 Try.underlying35 I0.out I1.out I2.out I3.out rfl (by decide) _ (0 + k) _ rfl OWC.out _ 1 [.int .i64 n] rfl NCC.out rfl (one_one n) B3.out B4.out z6 ?_
                 intro v6 w6 hown6 hgrow6
                 have O7 := Lib.hid (O6.out.trans (Only.of_grown hgrow6) (fun j hj q' => by have := L5.out j q'; omega))
                 have OW6 := Lib.hid hown6
                 have z7 : w.heap.size ≤ w6.heap.size := O7.out.size
                 have L6 := Lib.hid (fun j (hj : some j = v6.ownBlock) => (World.ownsRow.lt hown6 j hj.symm).1)
                 clear hown6 hgrow6)
              | (refine step_append_src rfl (.tmp 40) (.tmp 43) 35 rfl w.heap.size 3 i0 _ 1 8 Try.underlying35 I0.out I1.out I2.out I3.out rfl (by decide) _ (0 + k + 1) _ rfl OW6.out _ (xs.length - k) _ rfl (SB.out _ O7.out) NL2.out NO2.out B5.out B6.out z7 ?_
                 intro v7 w7 hown7 hgrow7
                 have O8 := Lib.hid (O7.out.trans (Only.of_grown hgrow7) (fun j hj q' => by have := L6.out j q'; omega))
                 have OW7 := Lib.hid (F.out _ _ hown7)
                 clear hown7 hgrow7)
              | fail)
            all_goals
              go_wp2_with fail
              go_ret
              exact ⟨_, rfl, OW7.out.lower11 HB.out, .inr (fun g hg => (OW7.out.base_le hg).1), O8.out⟩
end Go.Proofs.Ytoflkeedfgnkhaa
