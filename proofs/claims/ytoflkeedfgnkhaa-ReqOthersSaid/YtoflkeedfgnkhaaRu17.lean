/- The document's own table: whether a request is touched; all that are pending; its answers are taken. -/
import Derived.Test.YtoflkeedfgnkhaaRt17
import Derived.Test.YtoflkeedfgnkhaaPt17
namespace Go.Proofs.Ytoflkeedfgnkhaa
open Go.RowKit Go.Maps
set_option linter.unusedVariables false
set_option maxRecDepth 100000

theorem rise17 : ∀ {l m : List Int}, l.Pairwise (fun a b => a < b) → m.Pairwise (fun a b => a < b) → (∀ x, x ∈ l ↔ x ∈ m) → l = m
  | [], [], _, _, _ => rfl
  | [], b :: m, _, _, h => by have := (h b).2 List.mem_cons_self; cases this
  | a :: l, [], _, _, h => by have := (h a).1 List.mem_cons_self; cases this
  | a :: l, b :: m, hl, hm, h => by
    rw [List.pairwise_cons] at hl hm
    have e : a = b := by
      rcases List.mem_cons.1 ((h a).1 List.mem_cons_self) with c | c
      · exact c
      · rcases List.mem_cons.1 ((h b).2 List.mem_cons_self) with d | d
        · exact d.symm
        · have := hm.1 a c
          have := hl.1 b d
          omega
    subst e
    rw [rise17 hl.2 hm.2 (fun x => ?_)]
    constructor
    · intro hx
      rcases List.mem_cons.1 ((h x).1 (List.mem_cons_of_mem _ hx)) with c | c
      · have := hl.1 x hx; omega
      · exact c
    · intro hx
      rcases List.mem_cons.1 ((h x).2 (List.mem_cons_of_mem _ hx)) with c | c
      · have := hm.1 x hx; omega
      · exact c
theorem ins_mem (l : List Int) (n x : Int) : x ∈ insI l n ↔ x = n ∨ x ∈ l := by
  induction l with
  | nil => simp [insI]
  | cons y l ih =>
    show x ∈ (if y < n then y :: insI l n else if y = n then y :: l else n :: y :: l) ↔ _
    split
    · rw [List.mem_cons, ih, List.mem_cons]
      constructor
      · rintro (h | h | h)
        · exact .inr (.inl h)
        · exact .inl h
        · exact .inr (.inr h)
      · rintro (h | h | h)
        · exact .inr (.inl h)
        · exact .inl h
        · exact .inr (.inr h)
    · split
      · rename_i _ e
        subst e
        simp
      · simp
theorem ins_rise {l : List Int} (h : l.Pairwise (fun a b => a < b)) (n : Int) : (insI l n).Pairwise (fun a b => a < b) := by
  induction l with
  | nil => exact List.pairwise_singleton _ _
  | cons y l ih =>
    have h' := List.pairwise_cons.1 h
    show (if y < n then y :: insI l n else if y = n then y :: l else n :: y :: l).Pairwise _
    split
    · rw [List.pairwise_cons]
      refine ⟨fun a ha => ?_, ih h'.2⟩
      rcases (ins_mem l n a).1 ha with e | e
      · omega
      · exact h'.1 a e
    · split
      · exact h
      · rw [List.pairwise_cons]
        refine ⟨fun a ha => ?_, h⟩
        rcases List.mem_cons.1 ha with e | e
        · omega
        · have := h'.1 a e; omega
def pendR (l : List Int) : List Int := l.foldl insI []
theorem fold_mem (l : List Int) : ∀ (m : List Int) (x : Int), x ∈ l.foldl insI m ↔ x ∈ m ∨ x ∈ l := by
  induction l with
  | nil => intro m x; simp
  | cons y l ih =>
    intro m x
    rw [List.foldl_cons, ih, ins_mem, List.mem_cons]
    constructor
    · rintro ((h | h) | h)
      · exact .inr (.inl h)
      · exact .inl h
      · exact .inr (.inr h)
    · rintro (h | h | h)
      · exact .inl (.inr h)
      · exact .inl (.inl h)
      · exact .inr h
theorem fold_rise (l : List Int) : ∀ (m : List Int), m.Pairwise (fun a b => a < b) → (l.foldl insI m).Pairwise (fun a b => a < b) := by
  induction l with
  | nil => intro m h; exact h
  | cons y l ih => intro m h; exact ih _ (ins_rise h y)
theorem fold_len (l : List Int) : ∀ (m : List Int), (l.foldl insI m).length ≤ m.length + l.length := by
  induction l with
  | nil => intro m; exact Nat.le_refl _
  | cons y l ih =>
    intro m
    have := ih (insI m y)
    have := ins_le m y
    rw [List.foldl_cons, List.length_cons]
    omega
theorem sort_rise {l : List Int} (h : l.Nodup) : (sortI l).Pairwise (fun a b => a < b) := by
  have tr : ∀ a b c : Int, leI a b = true → leI b c = true → leI a c = true := fun a b c h1 h2 => by simp only [leI, decide_eq_true_eq] at *; exact Int.le_trans h1 h2
  have tot : ∀ a b : Int, (leI a b || leI b a) = true := fun a b => by simp only [leI, Bool.or_eq_true, decide_eq_true_eq]; exact Int.le_total a b
  have h1 : (sortI l).Pairwise (fun a b => leI a b = true) := List.pairwise_mergeSort tr tot l
  have h2 : (sortI l).Nodup := (List.mergeSort_perm l leI).nodup_iff.2 h
  unfold List.Nodup at h2
  exact (h1.and h2).imp (fun {a b} ⟨q, k⟩ => by
    simp only [leI, decide_eq_true_eq] at q
    have : a ≠ b := k
    omega)
theorem pend_sort {rs : List Rq} (h : OnceQ rs) : pendR (rs.map (·.id)) = sortI (rs.map (·.id)) := by
  have hn : (rs.map (·.id)).Nodup := by
    unfold List.Nodup
    rw [List.pairwise_map]
    exact h
  refine rise17 (fold_rise _ _ List.Pairwise.nil) (sort_rise hn) (fun x => ?_)
  unfold pendR
  rw [fold_mem]
  have := (List.mergeSort_perm (rs.map (·.id)) leI).mem_iff (a := x)
  unfold sortI
  rw [this]
  simp

section
variable {w : World} {q : Nat} {c : Nat → Nat} {X : Loc18} {room L : Nat} {t : Tq}
set_option maxHeartbeats 1000000 in
theorem rpending_any (w : World) (h : RW w q c X room L t) :
    Calls Try.prog 14 #[.pointer (some ⟨q, 0, none⟩)] w fun e w' => ∃ v, e = .returned v ∧ OwnsInts w' w.heap.size v (sortI (t.rs.map (·.id))) ∧ Only none_ w w' := by
  rw [← pend_sort h.good.once]
  obtain ⟨A, cap, hv, hc⟩ := h.form
  have len : t.rs.length ≤ 16 := Nat.le_trans h.good.len h.good.high
  have c1 : w.cell? ⟨q, 1, none⟩ = some (.slice A t.rs.length cap) := by rw [h.row.cell, ← hv]; rfl
  have HC := Lib.hid hc
  have C1 := Lib.hid c1
  clear h hv hc c1
  go_enter Try.func14, Try.ntmps14
  go_wp2_with fail
  go_loopw [3, 4] (fun vv i wr => ∃ (v : Value) (k : Nat), v = vv ∧ k ≤ t.rs.length ∧ i = .int .i64 k ∧ OwnsInts wr w.heap.size v (pendR ((t.rs.take k).map (·.id))) ∧ Only none_ w wr) (fun _ i _ => t.rs.length - (intOf i).toNat)
  case atStart => exact ⟨_, 0, rfl, Nat.zero_le _, rfl, Owns.start _ _ _ _ _, Only.refl _ _⟩
  case round =>
    obtain ⟨v, k, rfl, hk, rfl, hw, ho⟩ := hrel
    have O := Lib.hid ho
    have VW := Lib.hid hw
    have q1 : wr.cell? ⟨q, 1, none⟩ = some (.slice A t.rs.length cap) := ho.cell C1.out (fun s => s)
    clear ho hw
    by_cases hlt : k < t.rs.length
    · obtain ⟨r, hr⟩ : ∃ r, t.rs[k]? = some r := ⟨_, List.getElem?_eq_getElem hlt⟩
      obtain ⟨g, rfl, hg⟩ := HC.out k r hr
      have q2 : wr.cell? ⟨g, k * 4, none⟩ = some (.int .i64 r.id) := O.out.cell (hg 0 _ rfl) (fun s => s)
      have TK := Lib.hid (show pendR ((t.rs.take (k + 1)).map (·.id)) = insI (pendR ((t.rs.take k).map (·.id))) r.id from by
        rw [List.take_add_one, hr]
        unfold pendR
        rw [List.map_append, List.foldl_append]
        rfl)
      have PU := Lib.hid (rput14_any w.heap.size v _ r.id wr VW.out O.out.size (by
        have := fold_len ((t.rs.take k).map (·.id)) []
        rw [List.length_map, List.length_take] at this
        simp only [List.length_nil, Nat.zero_add] at this
        show (List.foldl insI [] _).length ≤ 1000
        omega))
      clear hr hg HC
      unfold PutTo14 at PU
      go_wp2_with fail
      (with_reducible refine PU.out.mono ?_)
      rintro e w2 ⟨v2, rfl, hv2, _, o2⟩
      have O2 := Lib.hid (O.out.same o2)
      have V2 := Lib.hid hv2
      clear hv2 o2
      go_wp2_with fail
      go_roundw
      case rel => exact ⟨_, k + 1, rfl, by omega, by go_num, by rw [TK.out]; exact V2.out, O2.out⟩
      case measure => simp [intOf]; omega
    · have TK := Lib.hid (show t.rs.take k = t.rs from List.take_of_length_le (by omega))
      go_wp2_with fail
      go_ret
      refine ⟨v, rfl, ?_, O.out⟩
      have := VW.out
      rwa [TK.out] at this
set_option maxHeartbeats 1000000 in
theorem rtouched_any (x : Int) (w : World) (h : RW w q c X room L t) :
    Calls Try.prog 16 #[.pointer (some ⟨q, 0, none⟩), .int .i64 x] w fun e w' => e = .returned (.bool (touchedB t.rs x)) ∧ Only none_ w w' := by
  have AT := Lib.hid (rat_any x w h)
  obtain ⟨A, cap, hv, hc⟩ := h.form
  have len : t.rs.length ≤ 16 := Nat.le_trans h.good.len h.good.high
  have c1 : w.cell? ⟨q, 1, none⟩ = some (.slice A t.rs.length cap) := by rw [h.row.cell, ← hv]; rfl
  have KI := Lib.hid (show touchedB t.rs x = match findQ t.rs x with | none => false | some r => r.pl.any (fun a => !(a == 0)) from rfl)
  have AI := Lib.hid (show atI t.rs x = match atQ t.rs x with | some k => (k : Int) | none => -1 from rfl)
  rcases at_find h.good.once x with ⟨h1, h2⟩ | ⟨k, r, h1, h2, h3, h4, h5, h6, h7⟩
  · rw [h1] at KI
    rw [h2] at AI
    have AT := AT.out
    rw [AI.out] at AT
    have AT := Lib.hid (show Calls Try.prog 33 #[.pointer (some ⟨q, 0, none⟩), .int .i64 x] w (fun e w' => e = .returned (.int .i64 (-1)) ∧ w' = w) from AT)
    clear h hv hc h1 h2
    go_enter Try.func16, Try.ntmps16
    go_wp2_with fail
    (with_reducible refine AT.out.mono ?_)
    rintro e w1 ⟨rfl, rfl⟩
    go_wp2_with fail
    go_ret
    exact ⟨by rw [KI.out]; rfl, Only.refl _ _⟩
  · rw [h1] at KI
    rw [h2] at AI
    have AT := AT.out
    rw [AI.out] at AT
    have AT := Lib.hid (show Calls Try.prog 33 #[.pointer (some ⟨q, 0, none⟩), .int .i64 x] w (fun e w' => e = .returned (.int .i64 (k : Int)) ∧ w' = w) from AT)
    obtain ⟨g, rfl, hg⟩ := hc k r h3
    have c2 : w.cell? ⟨g, k * 4 + 1 + 1, none⟩ = some (.slice (some ⟨X.P r.id, 0, none⟩) r.pl.length r.pl.length) := hg 2 _ rfl
    have c2' : w.cell? ⟨g, k * 4 + 2, none⟩ = some (.slice (some ⟨X.P r.id, 0, none⟩) r.pl.length r.pl.length) := hg 2 _ rfl
    have PL := Lib.hid (h.pl r h5).1
    have n8 := (h.good.fine r h5).n8
    have t1 : decide ((k : Int) < 0) = false := decide_eq_false (by omega)
    have KJ := Lib.hid (show touchedB t.rs x = r.pl.any (fun a => !(a == 0)) from KI.out)
    generalize X.P r.id = gp at *
    clear h hv hc h1 h2 hg h3 h4 h5 h7 KI AI
    go_enter Try.func16, Try.ntmps16
    go_wp2_with fail
    (with_reducible refine AT.out.mono ?_)
    rintro e w1 ⟨rfl, rfl⟩
    go_wp2_with fail
    go_loopw [6] (fun i wr => ∃ j : Nat, j ≤ r.pl.length ∧ i = .int .i64 j ∧ w1 = wr ∧ ∀ (s : Nat) (a : Nat), s < j → r.pl[s]? = some a → a = 0) (fun i _ => r.pl.length - (intOf i).toNat)
    case atStart => exact ⟨0, Nat.zero_le _, rfl, by first | rfl | trivial, fun s a hs => by omega⟩
    case round =>
      obtain ⟨j, hj, rfl, rfl, hn⟩ := hrel
      have HN := Lib.hid hn
      clear hn
      by_cases hlt : j < r.pl.length
      · obtain ⟨a, ha⟩ : ∃ a, r.pl[j]? = some a := ⟨_, List.getElem?_eq_getElem hlt⟩
        have c3 : w1.cell? ⟨gp, j, none⟩ = some (.int .i64 (a : Int)) := by rw [PL.out.cell]; exact plC_get ha
        have HA := Lib.hid ha
        clear ha
        by_cases e : a = 0
        · have t2 : ((a : Int) != 0) = false := by simp [e]
          have E0 := Lib.hid e
          clear e
          go_wp2_with fail
          go_roundw
          case rel => exact ⟨j + 1, by omega, by go_num, by first | rfl | trivial, fun s b hs hb => by
            rcases Nat.lt_or_ge s j with z | z
            · exact HN.out s b z hb
            · obtain rfl : s = j := by omega
              have := HA.out
              rw [hb] at this
              injection this with this
              rw [this]; exact E0.out⟩
          case measure => simp [intOf]; omega
        · have t2 : ((a : Int) != 0) = true := by simp [e]
          have TT := Lib.hid (show r.pl.any (fun a => !(a == 0)) = true from by
            rw [List.any_eq_true]
            exact ⟨a, List.mem_of_getElem? HA.out, by simp [e]⟩)
          clear e
          go_wp2_with fail
          go_ret
          exact ⟨by rw [KJ.out, TT.out]; rfl, Only.refl _ _⟩
      · have TT := Lib.hid (show r.pl.any (fun a => !(a == 0)) = false from by
          rw [List.any_eq_false]
          intro a ha
          obtain ⟨s, hs⟩ := List.getElem?_of_mem ha
          have := HN.out s a (by have := lt_of_get hs; omega) hs
          simp [this])
        go_wp2_with fail
        go_ret
        exact ⟨by rw [KJ.out, TT.out]; rfl, Only.refl _ _⟩
theorem rtake_any (w : World) (h : RW w q c X room L t) :
    Calls Try.prog 21 #[.pointer (some ⟨q, 0, none⟩)] w fun e w' => ∃ v, e = .returned v ∧ ∃ (c' : Nat → Nat) (X' : Loc18), RW w' q c' X' room L ⟨t.rs, []⟩ ∧ AR w' (fun g => c g ≠ 0 ∧ c' g = 0) v t.kept ∧ (∀ g, c' g ≠ 0 → c g ≠ 0) ∧ Only (fun g => c g ≠ 0) w w' := by
  have q2 : w.cell? ⟨q, 2, none⟩ = some X.u := h.row.cell 2
  have f2 : w.frozen? ⟨q, 2, none⟩ = false := h.row.frozen 2
  obtain ⟨w1, hw1⟩ : ∃ w1, w1 = w.setCell ⟨q, 2, none⟩ (.slice none 0 0) := ⟨_, rfl⟩
  have o1 : Only (fun g => g = q) w w1 := by rw [hw1]; exact (Only.refl (fun g => g = q) w).into rfl _ _
  have r1 : Row w1 q 62 #[.int .i64 room, X.v, .slice none 0 0] := by rw [hw1]; exact h.row.put 2 _
  have np : ∀ g, c g ≠ 1 → ¬ g = q := fun g hg k => hg (by rw [k]; exact h.cp)
  have cc : ∀ g, c g ≠ 3 → c g ≠ 4 → (if c g = 3 ∨ c g = 4 then 0 else c g) = c g := fun g h3 h4 => if_neg (fun k => by rcases k with k | k <;> contradiction)
  have T1 : RW w1 q (fun g => if c g = 3 ∨ c g = 4 then 0 else c g) { X with u := .slice none 0 0, ks := [] } room L ⟨t.rs, []⟩ := by
    refine { row := r1, cp := ?_, own := h.own.keep o1 (fun g hg => np g (by rw [h.co g hg]; decide)), co := fun g hg => ?_, ownk := Owns.start _ _ _ _ _, ck := fun g hg => (by cases hg), kept := KeptAt.nil _ _, pl := fun r hr => ⟨o1.row (h.pl r hr).1 (np _ (by rw [(h.pl r hr).2]; omega)), ?_⟩, vl := fun r hr => ⟨o1.row (h.vl r hr).1 (np _ (by rw [(h.vl r hr).2]; omega)), ?_⟩, lt := fun g hg => ?_, good := h.good, kl := Nat.zero_le _ }
    · show (if c q = 3 ∨ c q = 4 then 0 else c q) = 1
      rw [cc _ (by rw [h.cp]; decide) (by rw [h.cp]; decide)]; exact h.cp
    · show (if c g = 3 ∨ c g = 4 then 0 else c g) = 2
      have := h.co g hg
      rw [cc _ (by rw [this]; decide) (by rw [this]; decide)]; exact this
    · show (if c _ = 3 ∨ c _ = 4 then 0 else c _) = _
      rw [cc _ (by rw [(h.pl r hr).2]; omega) (by rw [(h.pl r hr).2]; omega)]; exact (h.pl r hr).2
    · show (if c _ = 3 ∨ c _ = 4 then 0 else c _) = _
      rw [cc _ (by rw [(h.vl r hr).2]; omega) (by rw [(h.vl r hr).2]; omega)]; exact (h.vl r hr).2
    · refine Nat.lt_of_lt_of_le (h.lt g (fun k => hg ?_)) o1.size
      rw [k]; rfl
  have A0 : AR w (fun g => c g = 3 ∨ c g = 4) X.u t.kept := AR.of_owns h.ownk (h.kept.more (fun g _ k => .inr k)) (fun g hg => .inl (h.ck g hg))
  have A1 : AR w1 (fun g => c g ≠ 0 ∧ (if c g = 3 ∨ c g = 4 then 0 else c g) = 0) X.u t.kept := by
    refine (A0.keep o1 (fun g hg => np g (by rcases hg with k | k <;> (rw [k]; decide)))).more (fun g _ k => ⟨?_, if_pos k⟩)
    rcases k with k | k <;> (rw [k]; decide)
  obtain ⟨va, vc, hv⟩ := owns_form h.ownk
  have FIN := Lib.hid T1
  have FA := Lib.hid A1
  have FO := Lib.hid (o1.more (S' := fun g => c g ≠ 0) (fun i _ k => by rw [k, h.cp]; decide))
  have FC := Lib.hid (show ∀ g, (if c g = 3 ∨ c g = 4 then 0 else c g) ≠ 0 → c g ≠ 0 from fun g hg k => hg (by rw [k]; rfl))
  have HV := Lib.hid hv
  rw [hv] at q2
  have lp := h.row.lt
  clear h o1 r1 np cc T1 A0 A1 hv
  go_enter Try.func21, Try.ntmps21
  go_wp2_with fail
  rw [← hw1]
  go_ret
  exact ⟨_, rfl, _, _, FIN.out, (by rw [← HV.out]; exact FA.out), FC.out, FO.out⟩
end
end Go.Proofs.Ytoflkeedfgnkhaa
