/- What the document's own table answers: May, right, at, Len. -/
import Derived.Test.YtajphhalneaihaaIx
import Derived.Test.YtajphhalneaihaaIxNew
namespace Go.Proofs.Ytajphhalneaihaa
open Go.RowKit
set_option linter.unusedVariables false

/-- a table of the document's at block p, its rows at blocks a, b, c -/
structure Rx (w : World) (p a b c : Nat) (ps : List Pl) (ks ns : List Int) : Prop where
  head : Row w p 52 #[.slice (some ⟨a, 0, none⟩) ps.length ps.length, .slice (some ⟨b, 0, none⟩) ps.length ps.length, .slice (some ⟨c, 0, none⟩) ps.length ps.length]
  ris : Row w a 4 (ps.map (fun q => Value.bool q.taken)).toArray
  rk : Row w b 3 (ks.map (Value.int .i64)).toArray
  rn : Row w c 3 (ns.map (Value.int .i64)).toArray
  lk : ks.length = ps.length
  ln : ns.length = ps.length
  same : ∀ i, i < ps.length → (Go.Proofs.Ytajphhalneaihaa.at_ ps i).taken = true → ks.getD i 0 = (Go.Proofs.Ytajphhalneaihaa.at_ ps i).key ∧ ns.getD i 0 = (Go.Proofs.Ytajphhalneaihaa.at_ ps i).n
  few : 2 ≤ ps.length ∧ ps.length ≤ 256
  pa : p ≠ a
  pb : p ≠ b
  pc : p ≠ c
  ab : a ≠ b
  ac : a ≠ c
  bc : b ≠ c

theorem Rx.h0 {w : World} {p a b c : Nat} {ps : List Pl} {ks ns : List Int} (h : Rx w p a b c ps ks ns) : w.cell? ⟨p, 0, none⟩ = some (.slice (some ⟨a, 0, none⟩) ps.length ps.length) := by rw [h.head.cell]; rfl
theorem Rx.h1 {w : World} {p a b c : Nat} {ps : List Pl} {ks ns : List Int} (h : Rx w p a b c ps ks ns) : w.cell? ⟨p, 1, none⟩ = some (.slice (some ⟨b, 0, none⟩) ps.length ps.length) := by rw [h.head.cell]; rfl
theorem Rx.h2 {w : World} {p a b c : Nat} {ps : List Pl} {ks ns : List Int} (h : Rx w p a b c ps ks ns) : w.cell? ⟨p, 2, none⟩ = some (.slice (some ⟨c, 0, none⟩) ps.length ps.length) := by rw [h.head.cell]; rfl
theorem Rx.is_ {w : World} {p a b c : Nat} {ps : List Pl} {ks ns : List Int} (h : Rx w p a b c ps ks ns) {i : Nat} (hi : i < ps.length) : w.cell? ⟨a, i, none⟩ = some (.bool (Go.Proofs.Ytajphhalneaihaa.at_ ps i).taken) := by
  rw [h.ris.cell, List.getElem?_toArray, List.getElem?_map, at_get hi]; rfl
theorem Rx.k_ {w : World} {p a b c : Nat} {ps : List Pl} {ks ns : List Int} (h : Rx w p a b c ps ks ns) {i : Nat} (hi : i < ps.length) : w.cell? ⟨b, i, none⟩ = some (.int .i64 (ks.getD i 0)) := by
  rw [h.rk.cell, List.getElem?_toArray, List.getElem?_map, List.getD_eq_getElem?_getD, List.getElem?_eq_getElem (by rw [h.lk]; exact hi)]; rfl
theorem Rx.n_ {w : World} {p a b c : Nat} {ps : List Pl} {ks ns : List Int} (h : Rx w p a b c ps ks ns) {i : Nat} (hi : i < ps.length) : w.cell? ⟨c, i, none⟩ = some (.int .i64 (ns.getD i 0)) := by
  rw [h.rn.cell, List.getElem?_toArray, List.getElem?_map, List.getD_eq_getElem?_getD, List.getElem?_eq_getElem (by rw [h.ln]; exact hi)]; rfl
theorem Rx.keep {w w' : World} {p a b c : Nat} {ps : List Pl} {ks ns : List Int} (h : Rx w p a b c ps ks ns) {S : Nat → Prop} (o : Only S w w') (hp : ¬ S p) (ha : ¬ S a) (hb : ¬ S b) (hc : ¬ S c) : Rx w' p a b c ps ks ns :=
  ⟨o.row h.head hp, o.row h.ris ha, o.row h.rk hb, o.row h.rn hc, h.lk, h.ln, h.same, h.few, h.pa, h.pb, h.pc, h.ab, h.ac, h.bc⟩
theorem Rx.still {w w' : World} {p a b c : Nat} {ps : List Pl} {ks ns : List Int} (h : Rx w p a b c ps ks ns) (o : Only none_ w w') : Rx w' p a b c ps ks ns := h.keep o (fun s => s) (fun s => s) (fun s => s) (fun s => s)
theorem Rx.drewN {w : World} {p a b c : Nat} {ps : List Pl} {ks ns : List Int} (h : Rx w p a b c ps ks ns) (n : Nat) : Rx (w.drewN n) p a b c ps ks ns := h.still ((Only.refl none_ w).drewN n)
theorem Rx.drew {w : World} {p a b c : Nat} {ps : List Pl} {ks ns : List Int} (h : Rx w p a b c ps ks ns) : Rx w.drew p a b c ps ks ns := h.still ((Only.refl none_ w).drew)
/-- whether something lies at a place is written -/
theorem map_set {f : Pl → Value} {ps : List Pl} {i : Nat} (p : Pl) : ((ps.map f).toArray.setIfInBounds i (f p)) = ((ps.set i p).map f).toArray := by
  rw [List.setIfInBounds_toArray, List.map_set]
theorem ints_set {ks : List Int} {i : Nat} (x : Int) : ((ks.map (Value.int .i64)).toArray.setIfInBounds i (.int .i64 x)) = ((ks.set i x).map (Value.int .i64)).toArray := by
  rw [List.setIfInBounds_toArray, List.map_set]
theorem getD_set {ks : List Int} {i : Nat} (hi : i < ks.length) (x : Int) (j : Nat) : (ks.set i x).getD j 0 = if j = i then x else ks.getD j 0 := by
  rw [List.getD_eq_getElem?_getD, List.getD_eq_getElem?_getD, List.getElem?_set]
  by_cases e : i = j
  · subst e; simp [hi]
  · have e' : ¬ j = i := fun x => e x.symm
    simp [e, e']
theorem Rx.clear {w : World} {p a b c : Nat} {ps : List Pl} {ks ns : List Int} (h : Rx w p a b c ps ks ns) {i : Nat} (hi : i < ps.length) : Rx (w.setCell ⟨a, i, none⟩ (.bool false)) p a b c (ps.set i Pl.none_) ks ns := by
  refine ⟨by rw [List.length_set]; exact h.head.far h.pa _, ?_, h.rk.far (fun e => h.ab e.symm) _, h.rn.far (fun e => h.ac e.symm) _, by rw [List.length_set]; exact h.lk, by rw [List.length_set]; exact h.ln, ?_, by rw [List.length_set]; exact h.few, h.pa, h.pb, h.pc, h.ab, h.ac, h.bc⟩
  · rw [← map_set]
    exact h.ris.put i _
  · intro j hj ht
    rw [List.length_set] at hj
    rw [at_set hi] at ht ⊢
    split at ht
    · cases ht
    · rw [if_neg (by assumption)]
      exact h.same j hj ht
theorem Rx.write {w : World} {p a b c : Nat} {ps : List Pl} {ks ns : List Int} (h : Rx w p a b c ps ks ns) {i : Nat} (hi : i < ps.length) (key n : Int) :
    Rx (((w.setCell ⟨a, i, none⟩ (.bool true)).setCell ⟨b, i, none⟩ (.int .i64 key)).setCell ⟨c, i, none⟩ (.int .i64 n)) p a b c (ps.set i ⟨true, key, n⟩) (ks.set i key) (ns.set i n) := by
  refine ⟨?_, ?_, ?_, ?_, by simp [h.lk], by simp [h.ln], ?_, by rw [List.length_set]; exact h.few, h.pa, h.pb, h.pc, h.ab, h.ac, h.bc⟩
  · rw [List.length_set]
    exact ((h.head.far h.pa _).far h.pb _).far h.pc _
  · rw [← map_set]
    exact ((h.ris.put i _).far h.ab _).far h.ac _
  · rw [← ints_set]
    exact ((h.rk.far (fun e => h.ab e.symm) _).put i _).far h.bc _
  · rw [← ints_set]
    exact ((h.rn.far (fun e => h.ac e.symm) _).far (fun e => h.bc e.symm) _).put i _
  · intro j hj ht
    rw [List.length_set] at hj
    rw [at_set hi] at ht ⊢
    rw [getD_set (by rw [h.lk]; exact hi), getD_set (by rw [h.ln]; exact hi)]
    split
    · exact ⟨rfl, rfl⟩
    · rename_i e
      rw [if_neg e] at ht
      exact h.same j hj ht
theorem Rx.num {w : World} {p a b c : Nat} {ps : List Pl} {ks ns : List Int} (h : Rx w p a b c ps ks ns) {i : Nat} (hi : i < ps.length) {key : Int} (hk : (Go.Proofs.Ytajphhalneaihaa.at_ ps i).key = key) (n : Int) (ht : (Go.Proofs.Ytajphhalneaihaa.at_ ps i).taken = true) :
    Rx (w.setCell ⟨c, i, none⟩ (.int .i64 n)) p a b c (ps.set i ⟨true, key, n⟩) ks (ns.set i n) := by
  have e : ps.map (fun q => Value.bool q.taken) = (ps.set i ⟨true, key, n⟩).map (fun q => Value.bool q.taken) := by
    rw [List.map_set]
    apply List.ext_getElem?
    intro j
    rw [List.getElem?_set]
    split
    · rename_i e
      subst e
      have e3 : ps[i].taken = true := by rw [← at_of_get (List.getElem?_eq_getElem hi)]; exact ht
      simp [hi, e3]
    · rfl
  refine ⟨by rw [List.length_set]; exact h.head.far h.pc _, ?_, h.rk.far h.bc _, ?_, by simp [h.lk], by simp [h.ln], ?_, by rw [List.length_set]; exact h.few, h.pa, h.pb, h.pc, h.ab, h.ac, h.bc⟩
  · rw [← e]
    exact h.ris.far h.ac _
  · rw [← ints_set]
    exact h.rn.put i _
  · intro j hj ht2
    rw [List.length_set] at hj
    rw [at_set hi] at ht2 ⊢
    rw [getD_set (by rw [h.ln]; exact hi)]
    split
    · rename_i e
      subst e
      exact ⟨by rw [(h.same j hj ht).1, hk], rfl⟩
    · rename_i e
      rw [if_neg e] at ht2
      exact h.same j hj ht2

/-- where a key lies, or -1 -/
def atP (ps : List Pl) (key : Int) : Int := if hasP ps key = true then (findP ps key : Int) else -1

set_option maxHeartbeats 2000000 in
theorem at_any (p a b c : Nat) (ps : List Pl) (ks ns : List Int) (key : Int) (w : World) (h : Rx w p a b c ps ks ns) (g : Good ps) :
    Calls Try.prog 30 #[.pointer (some ⟨p, 0, none⟩), .int .i64 key] w fun e w' => e = .returned (.int .i64 (atP ps key)) ∧ w = w' := by
  have h0 := h.h0
  have h1 := h.h1
  have n256 := h.few.2
  have H := Lib.hid h
  have G := Lib.hid g
  clear h g
  go_enter Try.func30, Try.ntmps30
  go_wp2_with fail
  go_loop [5] (fun i => ∃ k : Nat, k ≤ ps.length ∧ i = .int .i64 k ∧ ∀ j, j < k → (Go.Proofs.Ytajphhalneaihaa.at_ ps j).taken = true → (Go.Proofs.Ytajphhalneaihaa.at_ ps j).key ≠ key) (fun i => ps.length - (intOf i).toNat)
  case atStart => exact ⟨0, Nat.zero_le _, rfl, fun j hj => by omega⟩
  case round =>
    obtain ⟨k, hk, rfl, no⟩ := hrel
    have NO := Lib.hid no
    clear no
    by_cases hlt : k < ps.length
    · have c0 := H.out.is_ hlt
      have c1 := H.out.k_ hlt
      have SM := Lib.hid (H.out.same k hlt)
      by_cases ht : (Go.Proofs.Ytajphhalneaihaa.at_ ps k).taken = true
      · rw [ht] at c0
        rw [(SM.out ht).1] at c1
        by_cases he : (Go.Proofs.Ytajphhalneaihaa.at_ ps k).key = key
        · have AE := Lib.hid (show atP ps key = k by
            have := G.out.has hlt ht he
            unfold atP hasP
            rw [this, if_pos ht])
          have te : ((Go.Proofs.Ytajphhalneaihaa.at_ ps k).key == key) = true := by simpa using he
          rw [he] at c1
          clear ht he
          go_wp2_with fail
          go_ret
          exact ⟨by rw [AE.out]; rfl, rfl⟩
        · have te : ((Go.Proofs.Ytajphhalneaihaa.at_ ps k).key == key) = false := by simpa using he
          have NX := Lib.hid (show ∀ j, j < k + 1 → (Go.Proofs.Ytajphhalneaihaa.at_ ps j).taken = true → (Go.Proofs.Ytajphhalneaihaa.at_ ps j).key ≠ key by
            intro j hj hjt
            rcases Nat.lt_or_ge j k with d | d
            · exact NO.out j d hjt
            · obtain rfl : j = k := by omega
              exact he)
          clear ht he
          generalize (Go.Proofs.Ytajphhalneaihaa.at_ ps k).key = kk at *
          go_wp2_with fail
          go_round
          case rel => exact ⟨k + 1, by omega, by go_num, NX.out⟩
          case measure => simp [intOf]; omega
      · have tf : (Go.Proofs.Ytajphhalneaihaa.at_ ps k).taken = false := by simpa using ht
        rw [tf] at c0
        have NX := Lib.hid (show ∀ j, j < k + 1 → (Go.Proofs.Ytajphhalneaihaa.at_ ps j).taken = true → (Go.Proofs.Ytajphhalneaihaa.at_ ps j).key ≠ key by
          intro j hj hjt
          rcases Nat.lt_or_ge j k with d | d
          · exact NO.out j d hjt
          · obtain rfl : j = k := by omega
            exact absurd hjt ht)
        clear ht tf
        go_wp2_with fail
        go_round
        case rel => exact ⟨k + 1, by omega, by go_num, NX.out⟩
        case measure => simp [intOf]; omega
    · have AE := Lib.hid (show atP ps key = -1 by
        unfold atP hasP
        rw [if_neg]
        intro t
        exact NO.out _ (by have := findP_lt key G.out.gap; omega) t (findP_key G.out.gap t))
      have hge : ps.length ≤ k := by omega
      go_wp2_with fail
      go_ret
      exact ⟨by rw [AE.out]; rfl, rfl⟩

theorem ret_int {k : IntKind} {a b : Int} (h : a = b) : Ending.returned (.int k a) = .returned (.int k b) := by rw [h]
theorem cnt_take {ps : List Pl} {k : Nat} (h : k < ps.length) : cnt (ps.take (k + 1)) = cnt (ps.take k) + if (Go.Proofs.Ytajphhalneaihaa.at_ ps k).taken = true then 1 else 0 := by
  unfold cnt
  rw [List.take_add_one, at_get h, List.countP_append]
  congr 1
  cases e : (Go.Proofs.Ytajphhalneaihaa.at_ ps k).taken <;> simp [e]
set_option maxHeartbeats 2000000 in
theorem rlen_any (p a b c : Nat) (ps : List Pl) (ks ns : List Int) (w : World) (h : Rx w p a b c ps ks ns) :
    Calls Try.prog 19 #[.pointer (some ⟨p, 0, none⟩)] w fun e w' => e = .returned (.int .i64 (cnt ps)) ∧ w = w' := by
  have h0 := h.h0
  have n256 := h.few.2
  have H := Lib.hid h
  clear h
  go_enter Try.func19, Try.ntmps19
  go_wp2_with fail
  go_loop [3, 4] (fun n i => ∃ k : Nat, k ≤ ps.length ∧ i = .int .i64 k ∧ n = .int .i64 (cnt (ps.take k) : Nat)) (fun _ i => ps.length - (intOf i).toNat)
  case atStart => exact ⟨0, Nat.zero_le _, rfl, rfl⟩
  case round =>
    obtain ⟨k, hk, rfl, rfl⟩ := hrel
    by_cases hlt : k < ps.length
    · have c0 := H.out.is_ hlt
      have CM := cnt_take hlt
      have cl := cnt_le (ps.take k)
      have cl2 : (ps.take k).length ≤ k := List.length_take_le _ _
      by_cases ht : (Go.Proofs.Ytajphhalneaihaa.at_ ps k).taken = true
      · rw [ht] at c0
        rw [if_pos ht] at CM
        have CM := Lib.hid CM
        clear ht
        generalize cnt (ps.take k) = m at *
        go_wp2_with fail
        go_round
        case rel => exact ⟨k + 1, by omega, by go_num, by rw [CM.out]; go_num⟩
        case measure => simp [intOf]; omega
      · have tf : (Go.Proofs.Ytajphhalneaihaa.at_ ps k).taken = false := by simpa using ht
        rw [tf] at c0
        rw [if_neg ht] at CM
        have CM := Lib.hid CM
        clear ht tf
        generalize cnt (ps.take k) = m at *
        go_wp2_with fail
        go_round
        case rel => exact ⟨k + 1, by omega, by go_num, by rw [CM.out]; go_num⟩
        case measure => simp [intOf]; omega
    · have E1 := Lib.hid (show ((cnt (ps.take k) : Nat) : Int) = (cnt ps : Nat) by rw [List.take_of_length_le (by omega)])
      have hge : ps.length ≤ k := by omega
      generalize cnt (ps.take k) = m at *
      go_wp2_with fail
      go_ret
      exact ⟨ret_int E1.out, rfl⟩
end Go.Proofs.Ytajphhalneaihaa
