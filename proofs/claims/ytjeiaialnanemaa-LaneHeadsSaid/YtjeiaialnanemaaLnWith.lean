/- Lanes in memory: slices.Index; a lane without one ticket. -/
import Derived.Test.YtjeiaialnanemaaLnDel
namespace Go.Proofs.Ytjeiaialnanemaa
open Go.RowKit Go.Maps
set_option linter.unusedVariables false

/-- one ticket is left out -/
def outI (l : List Int) (x : Int) : List Int := l.filter (fun y => !(y == x))
theorem lane_cut (ss : List Sd) (x b : Int) : laneL (cutK ss x) b = outI (laneL ss b) x := by
  unfold laneL cutK outI
  rw [List.filter_map, List.filter_filter, List.filter_filter]
  congr 1
  apply List.filter_congr
  intro s _
  simp [Bool.and_comm]
theorem lane_nodup {ss : List Sd} (h : Once ss) (b : Int) : (laneL ss b).Nodup := by
  unfold laneL List.Nodup
  rw [List.pairwise_map]
  exact List.Pairwise.filter _ h
theorem lane_mem {ss : List Sd} {x : Int} (h : Once ss) (hx : hasK ss x = true) : x ∈ laneL ss (blockI ss x) := by
  obtain ⟨s, hs, rfl⟩ := hasK_iff.1 hx
  rw [blockI_of h hs]
  exact List.mem_map.2 ⟨s, List.mem_filter.2 ⟨hs, by simp⟩, rfl⟩
theorem lane_other {ss : List Sd} {x b : Int} (h : Once ss) (hb : b ≠ blockI ss x) : x ∉ laneL ss b := by
  intro hm
  obtain ⟨s, hs, e⟩ := List.mem_map.1 hm
  obtain ⟨h1, h2⟩ := List.mem_filter.1 hs
  have h2 : s.b = b := by simpa using h2
  subst e
  rw [blockI_of h h1] at hb
  exact hb h2.symm
theorem out_not {l : List Int} {x : Int} (h : x ∉ l) : outI l x = l := by
  unfold outI
  rw [List.filter_eq_self]
  intro y hy
  have : y ≠ x := fun e => h (by rw [← e]; exact hy)
  simpa using this
theorem out_at : ∀ {l : List Int}, l.Nodup → ∀ {k : Nat} {x : Int}, l[k]? = some x → l.eraseIdx k = outI l x
  | [], _, k, x, h => by simp at h
  | a :: r, hn, 0, x, h => by
    simp only [List.getElem?_cons_zero, Option.some.injEq] at h
    subst h
    have := (List.nodup_cons.1 hn).1
    show r = outI (a :: r) a
    have e : outI (a :: r) a = outI r a := by unfold outI; rw [List.filter_cons_of_neg (by simp)]
    rw [e, out_not this]
  | a :: r, hn, k + 1, x, h => by
    rw [List.getElem?_cons_succ] at h
    obtain ⟨n1, n2⟩ := List.nodup_cons.1 hn
    have hx : a ≠ x := fun e => n1 (by rw [e]; exact List.mem_of_getElem? h)
    show a :: r.eraseIdx k = _
    have e : outI (a :: r) x = a :: outI r x := by unfold outI; rw [List.filter_cons_of_pos (by simpa using hx)]
    rw [e, out_at n2 h]
theorem sd_cut : ∀ {ss : List Sd}, Once ss → ∀ {k : Nat} {s : Sd}, ss[k]? = some s → ss.take k ++ ss.drop (k + 1) = cutK ss s.k
  | [], _, k, x, h => by simp at h
  | a :: r, hn, 0, x, h => by
    simp only [List.getElem?_cons_zero, Option.some.injEq] at h
    subst h
    have := (List.pairwise_cons.1 hn).1
    show r = cutK (a :: r) a.k
    unfold cutK
    rw [List.filter_cons_of_neg (by simp)]
    symm
    rw [List.filter_eq_self]
    intro y hy
    have : y.k ≠ a.k := fun e => this y hy e.symm
    simpa using this
  | a :: r, hn, k + 1, x, h => by
    rw [List.getElem?_cons_succ] at h
    obtain ⟨n1, n2⟩ := List.pairwise_cons.1 hn
    have hx : a.k ≠ x.k := n1 x (List.mem_of_getElem? h)
    show a :: (r.take k ++ r.drop (k + 1)) = _
    have e : cutK (a :: r) x.k = a :: cutK r x.k := by unfold cutK; rw [List.filter_cons_of_pos (by simpa using hx)]
    rw [e, sd_cut (show Once r from n2) h]
theorem pull_cut {ss : List Sd} (h : Once ss) (x : Int) : pullS ss x = cutK ss x := by
  unfold pullS
  cases hk : tkAt ss x with
  | none =>
    symm
    show cutK ss x = ss
    unfold cutK
    rw [List.filter_eq_self]
    intro y hy
    obtain ⟨i, hi, e⟩ := List.getElem_of_mem hy
    have : y.k ≠ x := tk_none hk i y (by rw [List.getElem?_eq_getElem hi, e])
    simpa using this
  | some k =>
    obtain ⟨s, hs, rfl, _⟩ := tk_of hk
    exact sd_cut h hs

/-- the place of a number; -1: it isn't there -/
def idxI (l : List Int) (x : Int) : Int := match l.findIdx? (fun y => y == x) with | some k => k | none => -1
theorem idx_at {l : List Int} {x : Int} {k : Nat} {y : Int} (h : l[k]? = some y) (hx : y = x) (hb : ∀ (j : Nat) a, j < k → l[j]? = some a → a ≠ x) : idxI l x = k := by
  have hk := lt_of_get h
  have : l.findIdx? (fun y => y == x) = some k := by
    rw [List.findIdx?_eq_some_iff_getElem]
    refine ⟨hk, ?_, fun j hj => ?_⟩
    · rw [List.getElem?_eq_getElem hk] at h
      injection h with h
      rw [h]; simp [hx]
    · have := hb j l[j] hj (List.getElem?_eq_getElem (by omega))
      simp [this]
  unfold idxI
  rw [this]
theorem idx_no {l : List Int} {x : Int} (hb : ∀ (j : Nat) a, l[j]? = some a → a ≠ x) : idxI l x = -1 := by
  have : l.findIdx? (fun y => y == x) = none := by
    rw [List.findIdx?_eq_none_iff]
    intro a ha
    obtain ⟨j, hj, rfl⟩ := List.getElem_of_mem ha
    simpa using hb j _ (List.getElem?_eq_getElem hj)
  unfold idxI
  rw [this]
theorem idx_mem {l : List Int} {x : Int} (h : x ∈ l) : ∃ k : Nat, idxI l x = k ∧ l[k]? = some x := by
  unfold idxI
  cases hk : l.findIdx? (fun y => y == x) with
  | none =>
    rw [List.findIdx?_eq_none_iff] at hk
    have := hk x h
    simp at this
  | some k =>
    rw [List.findIdx?_eq_some_iff_getElem] at hk
    obtain ⟨hl, h1, _⟩ := hk
    have h1 : l[k] = x := by simpa using h1
    exact ⟨k, rfl, by rw [List.getElem?_eq_getElem hl, h1]⟩
set_option maxHeartbeats 1000000 in
theorem index_any (v : Value) (l : List Int) (x : Int) (w : World) (h : Reads w v l) (hl : l.length ≤ 1000) :
    Calls Try.prog 34 #[v, .int .i64 x] w fun e w' => e = .returned (.int .i64 (idxI l x)) ∧ w = w' := by
  obtain ⟨a, cap, rfl, hc⟩ := h
  have HC := Lib.hid hc
  clear hc
  go_enter Try.func34, Try.ntmps34
  go_wp2_with fail
  go_loop [8] (fun i => ∃ k : Nat, k ≤ l.length ∧ i = .int .i64 k ∧ ∀ j a, j < k → l[j]? = some a → a ≠ x) (fun i => l.length - (intOf i).toNat)
  case atStart => exact ⟨0, Nat.zero_le _, rfl, fun j a hj => by omega⟩
  case round =>
    obtain ⟨k, hk, rfl, hn⟩ := hrel
    have HN := Lib.hid hn
    clear hn
    by_cases hlt : k < l.length
    · obtain ⟨y, hy⟩ : ∃ y, l[k]? = some y := ⟨_, List.getElem?_eq_getElem hlt⟩
      obtain ⟨g1, o1, rfl, c1⟩ := HC.out k y hy
      have HY := Lib.hid hy
      clear hy
      by_cases e : x = y
      · have t : (x == y) = true := by simp [e]
        have FE := Lib.hid (show idxI l x = k from idx_at HY.out e.symm HN.out)
        clear e
        go_wp2_with fail
        go_ret
        exact ⟨by rw [FE.out]; try rfl, rfl⟩
      · have t : (x == y) = false := by simpa using e
        have NX := Lib.hid (show ∀ j a, j < k + 1 → l[j]? = some a → a ≠ x from fun j a hj ha => by
          by_cases q : j = k
          · subst q; rw [HY.out] at ha; injection ha with ha; subst ha; exact fun z => e z.symm
          · exact HN.out j a (by omega) ha)
        clear e
        go_wp2_with fail
        go_round
        case rel => exact ⟨k + 1, by omega, by go_num, NX.out⟩
        case measure => simp [intOf]; omega
    · have hge : l.length ≤ k := by omega
      have FE := Lib.hid (show idxI l x = -1 from idx_no (fun j a ha => HN.out j a (Nat.lt_of_lt_of_le (lt_of_get ha) hge) ha))
      go_wp2_with fail
      go_ret
      exact ⟨by rw [FE.out]; try rfl, rfl⟩
theorem with_any (v : Value) (l : List Int) (x : Int) (w : World) (h : OwnsInts w 0 v l) (hn : l.Nodup) (hx : x ∈ l) (hl : l.length ≤ 1000) :
    Calls Try.prog 30 #[v, .int .i64 x] w fun e w' => ∃ v', e = .returned v' ∧ OwnsInts w' 0 v' (outI l x) ∧ v'.ownBlock = v.ownBlock ∧ Only (fun j => some j = v.ownBlock) w w' := by
  obtain ⟨k, hk, hkx⟩ := idx_mem hx
  have lk := lt_of_get hkx
  have IX := Lib.hid (index_any v l x w (Reads.of_owns h) hl)
  rw [hk] at IX
  have E1 := Lib.hid (out_at hn hkx)
  obtain ⟨g, cap, rfl, _⟩ := Owns.form h (fun e => by rw [e] at hx; cases hx)
  have DL := Lib.hid (del11_any g cap k l w h lk hl)
  rw [E1.out] at DL
  have hwi : IntKind.i64.wrap ((k : Int) + 1) = (k : Int) + 1 := by rw [IntKind.wrap_i64]; omega
  clear h hn hx hk hkx E1
  go_enter Try.func30, Try.ntmps30
  go_wp2_with fail
  (with_reducible refine IX.out.mono ?_)
  rintro e w' ⟨rfl, rfl⟩
  go_wp2_with fail
  (with_reducible refine DL.out.mono ?_)
  rintro e w' ⟨rfl, ho, o⟩
  have HO := Lib.hid ho
  have OO := Lib.hid o
  clear ho o IX DL
  go_wp2_with fail
  go_ret
  exact ⟨_, rfl, HO.out, rfl, OO.out.more (fun i _ e => by rw [e]; rfl)⟩
end Go.Proofs.Ytjeiaialnanemaa
