/- The document's own table in memory; New, where a request stands, its kind, whether it is touched; its answers are taken. -/
import Derived.Test.YtoflkeedfgnkhaaLw17
import Derived.Test.YtoflkeedfgnkhaaSrc
import Derived.BigQuiet
import Derived.Deep.Cut
import Derived.Deep.CutRange
import Derived.Deep.RegionLaw
namespace Go.Proofs.Ytoflkeedfgnkhaa
open Go.RowKit Go.Maps
set_option linter.unusedVariables false
set_option maxRecDepth 100000

/-- a request as it lies in the document's own row: n places at block gp, n values at block gv -/
structure Qk where
  id : Int
  kind : Int
  n : Nat
  gp : Nat
  gv : Nat
def Qk.cells (k : Qk) : List Value := [.int .i64 k.id, .int .i64 k.kind, .slice (some ⟨k.gp, 0, none⟩) k.n k.n, .slice (some ⟨k.gv, 0, none⟩) k.n k.n]
theorem qk4 (k : Qk) : (Qk.cells k).length = 4 := rfl
theorem qk_one : ∀ y : Qk, ∀ u ∈ Qk.cells y, u.oneCell' = true := by
  intro y u hu
  simp only [Qk.cells, List.mem_cons, List.not_mem_nil, or_false] at hu
  rcases hu with rfl | rfl | rfl | rfl <;> rfl
theorem qk_flat_len (l : List Qk) : (l.flatMap Qk.cells).length = l.length * 4 := by
  have := flat_size qk4 l
  unfold flat at this
  simpa using this
theorem qk_cells_one (l : List Qk) : ∀ u ∈ l.flatMap Qk.cells, u.oneCell' = true := fun u hu => by
  obtain ⟨x, _, hx⟩ := List.mem_flatMap.1 hu
  exact qk_one x u hx
def plC (l : List Nat) : Array Value := (l.map (fun n : Nat => Value.int .i64 (n : Int))).toArray
def vsC (l : List Int) : Array Value := (l.map (Value.int .u64)).toArray
theorem plC_get {l : List Nat} {i a : Nat} (h : l[i]? = some a) : (plC l)[i]? = some (.int .i64 (a : Int)) := by
  unfold plC
  rw [List.getElem?_toArray, List.getElem?_map, h]
  rfl
theorem vsC_get {l : List Int} {i : Nat} {a : Int} (h : l[i]? = some a) : (vsC l)[i]? = some (.int .u64 a) := by
  unfold vsC
  rw [List.getElem?_toArray, List.getElem?_map, h]
  rfl
theorem plC_set (l : List Nat) (i a : Nat) : (plC l).setIfInBounds i (.int .i64 (a : Int)) = plC (l.set i a) := by
  unfold plC
  rw [List.setIfInBounds_toArray, List.map_set]
theorem vsC_set (l : List Int) (i : Nat) (a : Int) : (vsC l).setIfInBounds i (.int .u64 a) = vsC (l.set i a) := by
  unfold vsC
  rw [List.setIfInBounds_toArray, List.map_set]
structure Loc18 where
  v : Value
  P : Int → Nat
  V : Int → Nat
  u : Value
  ks : List Ak
def qk (P V : Int → Nat) (r : Rq) : Qk := ⟨r.id, r.kind, r.pl.length, P r.id, V r.id⟩
/-- the document's own table at block q; c tells the blocks of each part (1 its own row, 2 the requests' row, 3 the answers' row, 4 the answers' values, 10 + 2 x and 11 + 2 x the places and the values of request x) -/
structure RB (w : World) (q : Nat) (c : Nat → Nat) (X : Loc18) (room L : Nat) (es : List Rq) (t : Tq) : Prop where
  row : Row w q 62 #[.int .i64 room, X.v, X.u]
  cp : c q = 1
  own : Owns w 0 71 4 Qk.cells X.v (es.map (qk X.P X.V))
  co : ∀ g, X.v.ownBlock = some g → c g = 2
  ownk : OwnsAk w 0 X.u X.ks
  ck : ∀ g, X.u.ownBlock = some g → c g = 3
  kept : KeptAt w (fun g => c g = 4) X.ks t.kept
  pl : ∀ r ∈ t.rs, Row w (X.P r.id) 3 (plC r.pl) ∧ c (X.P r.id) = 10 + 2 * r.id.toNat
  vl : ∀ r ∈ t.rs, Row w (X.V r.id) 30 (vsC r.vs) ∧ c (X.V r.id) = 11 + 2 * r.id.toNat
  lt : ∀ g, c g ≠ 0 → g < w.heap.size
  good : GoodQ room t.rs
  kl : t.kept.length ≤ L
/-- its row has just its requests -/
abbrev RW (w : World) (q : Nat) (c : Nat → Nat) (X : Loc18) (room L : Nat) (t : Tq) : Prop := RB w q c X room L t.rs t
section
variable {w w' : World} {q : Nat} {c : Nat → Nat} {X : Loc18} {room L : Nat} {es : List Rq} {t : Tq}
theorem RB.keep (h : RB w q c X room L es t) {S : Nat → Prop} (o : Only S w w') (hn : ∀ g, c g ≠ 0 → ¬ S g) : RB w' q c X room L es t where
  row := o.row h.row (hn q (by rw [h.cp]; decide))
  cp := h.cp
  own := h.own.keep o (fun g hg => hn g (by rw [h.co g hg]; decide))
  co := h.co
  ownk := h.ownk.keep o (fun g hg => hn g (by rw [h.ck g hg]; decide))
  ck := h.ck
  kept := h.kept.keep o (fun g hg => hn g (by have : c g = 4 := hg; rw [this]; decide))
  pl := fun r hr => ⟨o.row (h.pl r hr).1 (hn _ (by rw [(h.pl r hr).2]; omega)), (h.pl r hr).2⟩
  vl := fun r hr => ⟨o.row (h.vl r hr).1 (hn _ (by rw [(h.vl r hr).2]; omega)), (h.vl r hr).2⟩
  lt := fun g hg => Nat.lt_of_lt_of_le (h.lt g hg) o.size
  good := h.good
  kl := h.kl
theorem RB.still (h : RB w q c X room L es t) (o : Only none_ w w') : RB w' q c X room L es t := h.keep o (fun _ _ s => s)
theorem RB.up (h : RB w q c X room L es t) {L' : Nat} (k : L ≤ L') : RB w q c X room L' es t := { h with kl := Nat.le_trans h.kl k }
theorem RB.zero (h : RB w q c X room L es t) {g : Nat} (hg : w.heap.size ≤ g) : c g = 0 := Classical.byContradiction fun k => by have := h.lt g k; omega
/-- behind a call -/
def RBto (w : World) (q : Nat) (c : Nat → Nat) (room L : Nat) (t : Tq) (w' : World) : Prop := (∃ c' X', RW w' q c' X' room L t ∧ Gw w c c') ∧ Only (fun g => c g ≠ 0) w w'
theorem RB.same (h : RW w q c X room L t) (o : Only none_ w w') : RBto w q c room (L + 1) t w' := ⟨⟨c, X, (h.still o).up (Nat.le_succ _), Gw.refl _ _⟩, o.up⟩
/-- the requests' row: it is nil, or each request has its cells -/
theorem RB.form (h : RB w q c X room L es t) : ∃ A cap, X.v = .slice A es.length cap ∧ ∀ (i : Nat) (r : Rq), es[i]? = some r → ∃ g, A = some ⟨g, 0, none⟩ ∧ ∀ (j : Nat) (u : Value), (Qk.cells (qk X.P X.V r))[j]? = some u → w.cell? ⟨g, i * 4 + j, none⟩ = some u := by
  rcases h.own.2 with ⟨hv, h2⟩ | ⟨g, cap, cur, hv, hg, hh, h3, h4, _⟩
  · have : es = [] := by
      have := List.eq_nil_of_length_eq_zero h2
      simpa using this
    refine ⟨none, 0, by rw [hv, this]; rfl, fun i r hr => by rw [this] at hr; simp at hr⟩
  · rw [List.length_map] at hv
    refine ⟨_, cap, hv, fun i r hr => ⟨g, rfl, fun j u hj => ?_⟩⟩
    have hi : (es.map (qk X.P X.V))[i]? = some (qk X.P X.V r) := by rw [List.getElem?_map, hr]; rfl
    have hj4 : j < 4 := lt_of_get hj
    have := Owns.cell (xs := es.map (qk X.P X.V)) (by rw [List.length_map]; rw [← hv]; exact h.own) qk4 hi hj4
    rw [this]
    exact hj
end

/-! ### where a request stands -/
def atQ (rs : List Rq) (x : Int) : Option Nat := rs.findIdx? (fun r => r.id == x)
def atI (rs : List Rq) (x : Int) : Int := match atQ rs x with | some k => k | none => -1
theorem at_at {rs : List Rq} {x : Int} {k : Nat} {r : Rq} (h : rs[k]? = some r) (hx : r.id = x) (hb : ∀ (j : Nat) (a : Rq), j < k → rs[j]? = some a → a.id ≠ x) : atQ rs x = some k := by
  have hk := lt_of_get h
  unfold atQ
  rw [List.findIdx?_eq_some_iff_getElem]
  refine ⟨hk, ?_, fun j hj => ?_⟩
  · rw [List.getElem?_eq_getElem hk] at h
    injection h with h
    rw [h]; simp [hx]
  · have := hb j rs[j] hj (List.getElem?_eq_getElem (by omega))
    simp [this]
theorem at_no {rs : List Rq} {x : Int} (hb : ∀ (j : Nat) (a : Rq), rs[j]? = some a → a.id ≠ x) : atQ rs x = none := by
  unfold atQ
  rw [List.findIdx?_eq_none_iff]
  intro a ha
  obtain ⟨j, hj⟩ := List.getElem?_of_mem ha
  have := hb j a hj
  simp [this]
/-- of requests each of which is there once -/
theorem at_find {rs : List Rq} (h : OnceQ rs) (x : Int) : (findQ rs x = none ∧ atQ rs x = none) ∨ ∃ k r, findQ rs x = some r ∧ atQ rs x = some k ∧ rs[k]? = some r ∧ r.id = x ∧ r ∈ rs ∧ k < rs.length ∧ hasQ rs x = true := by
  cases hf : findQ rs x with
  | none =>
    refine .inl ⟨rfl, at_no (fun j a hj e => ?_)⟩
    have := find_none hf
    rw [hasQ_iff.2 ⟨a, List.mem_of_getElem? hj, e⟩] at this
    cases this
  | some r =>
    obtain ⟨hr, rfl, hx⟩ := find_some hf
    obtain ⟨k, hk⟩ := List.getElem?_of_mem hr
    refine .inr ⟨k, r, rfl, at_at hk rfl (fun j a hj ha e => ?_), hk, rfl, hr, lt_of_get hk, hx⟩
    have l1 := lt_of_get ha
    have l2 := lt_of_get hk
    have := List.pairwise_iff_getElem.1 h j k l1 l2 hj
    rw [List.getElem?_eq_getElem l1] at ha
    rw [List.getElem?_eq_getElem l2] at hk
    injection ha with ha
    injection hk with hk
    rw [ha, hk] at this
    exact this e
section
variable {w : World} {q : Nat} {c : Nat → Nat} {X : Loc18} {room L : Nat} {t : Tq}
set_option maxHeartbeats 1000000 in
theorem rat_any (x : Int) (w : World) (h : RW w q c X room L t) :
    Calls Try.prog 33 #[.pointer (some ⟨q, 0, none⟩), .int .i64 x] w fun e w' => e = .returned (.int .i64 (atI t.rs x)) ∧ w' = w := by
  obtain ⟨A, cap, hv, hc⟩ := h.form
  have len : t.rs.length ≤ 16 := Nat.le_trans h.good.len h.good.high
  have c1 : w.cell? ⟨q, 1, none⟩ = some (.slice A t.rs.length cap) := by rw [h.row.cell, ← hv]; rfl
  have HC := Lib.hid hc
  clear h hv hc
  go_enter Try.func33, Try.ntmps33
  go_wp2_with fail
  go_loopw [5] (fun i wr => ∃ k : Nat, k ≤ t.rs.length ∧ i = .int .i64 k ∧ w = wr ∧ ∀ (j : Nat) (a : Rq), j < k → t.rs[j]? = some a → a.id ≠ x) (fun i _ => t.rs.length - (intOf i).toNat)
  case atStart => exact ⟨0, Nat.zero_le _, rfl, by first | rfl | trivial, fun j a hj => by omega⟩
  case round =>
    obtain ⟨k, hk, rfl, rfl, hn⟩ := hrel
    have HN := Lib.hid hn
    clear hn
    by_cases hlt : k < t.rs.length
    · obtain ⟨r, hr⟩ : ∃ r, t.rs[k]? = some r := ⟨_, List.getElem?_eq_getElem hlt⟩
      obtain ⟨g, rfl, hg⟩ := HC.out k r hr
      have c2 : w.cell? ⟨g, k * 4, none⟩ = some (.int .i64 r.id) := hg 0 _ rfl
      have HR := Lib.hid hr
      clear hr hg HC
      by_cases e : r.id = x
      · have t1 : (r.id == x) = true := by simp [e]
        have AT := Lib.hid (show atI t.rs x = k from by unfold atI; rw [at_at HR.out e HN.out])
        clear e
        go_wp2_with fail
        go_ret
        exact ⟨by rw [AT.out]; rfl, by first | rfl | trivial⟩
      · have t1 : (r.id == x) = false := by simp [e]
        have NX := Lib.hid e
        clear e
        go_wp2_with fail
        go_roundw
        case rel => exact ⟨k + 1, by omega, by go_num, by first | rfl | trivial, fun j a hj ha => by
          rcases Nat.lt_or_ge j k with z | z
          · exact HN.out j a z ha
          · obtain rfl : j = k := by omega
            have e1 := HR.out
            rw [ha] at e1
            injection e1 with e1
            rw [e1]
            exact NX.out⟩
        case measure => simp [intOf]; omega
    · have AT := Lib.hid (show atI t.rs x = -1 from by unfold atI; rw [at_no (fun j a hj => HN.out j a (by have := lt_of_get hj; omega) hj)])
      go_wp2_with fail
      go_ret
      exact ⟨by rw [AT.out]; rfl, by first | rfl | trivial⟩
theorem rnew_any (room : Nat) (w : World) (h : room ≤ 16) :
    Calls Try.prog 10 #[.int .i64 room] w fun e w' => ∃ q, e = .returned (.pointer (some ⟨q, 0, none⟩)) ∧ (∃ c X, RW w' q c X room 0 ⟨[], []⟩ ∧ ∀ g, c g ≠ 0 → w.heap.size ≤ g) ∧ Only none_ w w' := by
  have GN := Lib.hid (good_nil17 h)
  clear h
  go_enter Try.func10, Try.ntmps10
  go_wp2
  go_ret
  refine ⟨w.heap.size, rfl, ⟨fun g => if g = w.heap.size then 1 else 0, ⟨.slice none 0 0, fun _ => 0, fun _ => 0, .slice none 0 0, []⟩,
    { row := Row.fresh _ _ _, cp := if_pos rfl, own := Owns.start _ _ _ _ _, co := fun g hg => (by cases hg), ownk := Owns.start _ _ _ _ _, ck := fun g hg => (by cases hg), kept := KeptAt.nil _ _, pl := fun r hr => (by cases hr), vl := fun r hr => (by cases hr), lt := fun g hg => ?_, good := GN.out, kl := Nat.le_refl _ }, fun g hg => ?_⟩, (Only.refl _ _).alloc _⟩
  · by_cases k : g = w.heap.size
    · rw [k]; simp
    · rw [if_neg k] at hg; exact absurd rfl hg
  · dsimp only at hg
    by_cases k : g = w.heap.size
    · omega
    · rw [if_neg k] at hg; exact absurd rfl hg
theorem rkind_any (x : Int) (w : World) (h : RW w q c X room L t) :
    Calls Try.prog 18 #[.pointer (some ⟨q, 0, none⟩), .int .i64 x] w fun e w' => e = .returned (.int .i64 (kindI t.rs x)) ∧ Only none_ w w' := by
  have AT := Lib.hid (rat_any x w h)
  obtain ⟨A, cap, hv, hc⟩ := h.form
  have len : t.rs.length ≤ 16 := Nat.le_trans h.good.len h.good.high
  have c1 : w.cell? ⟨q, 1, none⟩ = some (.slice A t.rs.length cap) := by rw [h.row.cell, ← hv]; rfl
  have KI := Lib.hid (show kindI t.rs x = match findQ t.rs x with | none => 0 | some r => r.kind from rfl)
  have AI := Lib.hid (show atI t.rs x = match atQ t.rs x with | some k => (k : Int) | none => -1 from rfl)
  rcases at_find h.good.once x with ⟨h1, h2⟩ | ⟨k, r, h1, h2, h3, h4, h5, h6, h7⟩
  · rw [h1] at KI
    rw [h2] at AI
    have AT := AT.out
    rw [AI.out] at AT
    have AT := Lib.hid (show Calls Try.prog 33 #[.pointer (some ⟨q, 0, none⟩), .int .i64 x] w (fun e w' => e = .returned (.int .i64 (-1)) ∧ w' = w) from AT)
    clear h hv hc h1 h2
    go_enter Try.func18, Try.ntmps18
    go_wp2_with fail
    (with_reducible refine AT.out.mono ?_)
    rintro e w1 ⟨rfl, rfl⟩
    go_wp2_with fail
    go_ret
    exact ⟨by rw [KI.out]; rfl, Only.refl _ _⟩
  · rw [h1] at KI
    rw [h2] at AI
    have AT := AT.out
    rw [AI.out] at AT
    have AT := Lib.hid (show Calls Try.prog 33 #[.pointer (some ⟨q, 0, none⟩), .int .i64 x] w (fun e w' => e = .returned (.int .i64 (k : Int)) ∧ w' = w) from AT)
    obtain ⟨g, rfl, hg⟩ := hc k r h3
    have c2 : w.cell? ⟨g, k * 4 + 1, none⟩ = some (.int .i64 r.kind) := hg 1 _ rfl
    have t1 : decide ((k : Int) < 0) = false := decide_eq_false (by omega)
    clear h hv hc h1 h2 hg h3 h4 h5 h7
    go_enter Try.func18, Try.ntmps18
    go_wp2_with fail
    (with_reducible refine AT.out.mono ?_)
    rintro e w1 ⟨rfl, rfl⟩
    go_wp2_with fail
    go_ret
    exact ⟨by rw [KI.out]; rfl, Only.refl _ _⟩
end
end Go.Proofs.Ytoflkeedfgnkhaa
