/- Where package index finds a key: by a goto. -/
import Derived.Test.YtajphhalneaihaaIx
import Derived.WalkMore
import Derived.ScopeJumps
import Derived.Tactics
namespace Go.Proofs.Ytajphhalneaihaa
open Go.RowKit
set_option linter.unusedVariables false

def intOf' : Value → Int | .int _ q => q | _ => 0
/-- so many places from h on i lies -/
def dist (N h i : Nat) : Nat := if h ≤ i then i - h else i + N - h
theorem dist_sl {N h k : Nat} (hh : h < N) (hk : k < N) : dist N h (sl N h k) = k := by
  unfold dist
  have := sl_or N h k
  split <;> omega

set_option maxHeartbeats 1000000 in
theorem find_any (p b : Nat) (ps : List Pl) (key : Int) (w : World) (h : Ix w p b ps) (hg : Gap ps) (hc : Clean ps) :
    Calls Try.prog 26 #[.pointer (some ⟨p, 0, none⟩), .int .i64 key] w fun e w' => e = .returned (.int .i64 (findP ps key : Nat)) ∧ w = w' := by
  have fo := found key hg
  have pos : 0 < ps.length := by have := h.pow.le; omega
  have hh := hm_lt pos key
  have n256 := h.pow.le.2
  have H := Lib.hid h
  have FO := Lib.hid fo
  have A0 := home_any p b ps key w h
  rw [← sl_zero hh] at A0
  have A := Lib.hid A0
  have ck := h.hd
  clear h fo hg A0
  go_enter Try.func26, Try.ntmps26
  go_wp2
  refine wp_scope_jumps 0 (fun a' w' => w' = w ∧ ∃ (k : Nat) (u2 u3 u6 u7 u8 u9 u10 u11 u12 u13 u14 u15 u16 u17 u18 u19 u20 u21 u22 u23 u24 u25 u26 u27 : Value), a' = { tmps := #[.pointer (some ⟨p, 0, none⟩), .int .i64 key, u2, u3, .int .i64 0, .int .i64 (sl ps.length (hm ps.length key) k : Nat), u6, u7, u8, u9, u10, u11, u12, u13, u14, u15, u16, u17, u18, u19, u20, u21, u22, u23, u24, u25, u26, u27], defers := [] } ∧ k ≤ findK ps key) (fun a' _ => ps.length - dist ps.length (hm ps.length key) (intOf' (a'.tmps.getD 5 undef)).toNat) rfl ?_ ?_
  · go_wp2_with fail
    (with_reducible refine (A.out).mono ?_)
    rintro e w' ⟨rfl, rfl⟩
    go_wp2_with fail
    go_step3
    have sk := FO.out
    have lk : sl ps.length (hm ps.length key) 0 < ps.length := sl_lt hh (by have := sk.lt; omega)
    have B := Lib.hid (after_any p b ps _ w H.out lk)
    by_cases ht : (at_ ps (sl ps.length (hm ps.length key) 0)).taken = true
    · obtain ⟨c0, c1, c2⟩ := H.out.at_ (at_get lk)
      have E1 := Lib.hid (empty_no p b ps _ w H.out lk ht)
      by_cases hk2 : (at_ ps (sl ps.length (hm ps.length key) 0)).key = key
      · have ek : findK ps key = 0 := by
          refine (found_of ⟨by have := sk.lt; omega, by unfold stop; rw [hk2]; simp, fun j hj => sk.before j (by omega)⟩)
        have ee : (sl ps.length (hm ps.length key) 0) = findP ps key := by unfold findP; rw [ek]
        have EE := Lib.hid ee
        clear ek ee ht sk
        rw [hk2] at c1
        clear hk2
        generalize sl ps.length (hm ps.length key) 0 = i at *
        go_wp2_with fail
        (with_reducible refine (E1.out).mono ?_)
        rintro e w2 ⟨rfl, rfl⟩
        go_wp2_with fail
        (try simp only [Exit.jump])
        go_ret
        exact ⟨by rw [EE.out]; rfl, rfl⟩
      · have hk3 : ((at_ ps (sl ps.length (hm ps.length key) 0)).key == key) = false := by simpa using hk2
        have nk : 0 < findK ps key := by
          rcases Nat.lt_or_ge 0 (findK ps key) with c | c
          · exact c
          · have e : findK ps key = 0 := by omega
            have := sk.here
            rw [e] at this
            unfold stop at this
            rw [ht, hk3] at this
            simp at this
        have e1 := sl_sl hh (show 0 < ps.length by have := sk.lt; omega) (show 0 + 1 ≤ ps.length by have := sk.lt; omega)
        have k1 : 0 + 1 < ps.length := by have := sk.lt; omega
        have NK := Lib.hid nk
        have E2 := Lib.hid e1
        clear ht sk hk2 e1 nk
        generalize (at_ ps (sl ps.length (hm ps.length key) 0)).key = kk at *
        generalize hi : sl ps.length (hm ps.length key) 0 = i at *
        clear hi
        go_wp2_with fail
        (with_reducible refine (E1.out).mono ?_)
        rintro e w2 ⟨rfl, rfl⟩
        go_wp2_with fail
        (with_reducible refine (B.out).mono ?_)
        rintro e w2 ⟨rfl, rfl⟩
        go_wp2_with fail
        go_step3
        rw [E2.out]
        (try simp only [Exit.jump])
        exact ⟨rfl, rfl, 0 + 1, _, _, _, _, _, _, _, _, _, _, _, _, _, _, _, _, _, _, _, _, _, _, _, _, rfl, NK.out⟩
    · have e0 := hc _ lk (by simpa using ht)
      have E1 := Lib.hid (empty_yes p b ps _ w H.out lk e0)
      have ek : findK ps key = 0 := by
        refine (found_of ⟨by have := sk.lt; omega, by unfold stop; rw [e0]; rfl, fun j hj => sk.before j (by omega)⟩)
      have ee : (sl ps.length (hm ps.length key) 0) = findP ps key := by unfold findP; rw [ek]
      have EE := Lib.hid ee
      clear ek ee ht sk e0
      generalize sl ps.length (hm ps.length key) 0 = i at *
      go_wp2_with fail
      (with_reducible refine (E1.out).mono ?_)
      rintro e w2 ⟨rfl, rfl⟩
      go_wp2_with fail
      (try simp only [Exit.jump])
      go_ret
      exact ⟨by rw [EE.out]; rfl, rfl⟩
  · rintro a' w' ⟨rfl, k, u2, u3, u6, u7, u8, u9, u10, u11, u12, u13, u14, u15, u16, u17, u18, u19, u20, u21, u22, u23, u24, u25, u26, u27, rfl, hk⟩
    go_wp2_with fail
    have sk := FO.out
    have lk : sl ps.length (hm ps.length key) k < ps.length := sl_lt hh (by have := sk.lt; omega)
    have B := Lib.hid (after_any p b ps _ w' H.out lk)
    by_cases ht : (at_ ps (sl ps.length (hm ps.length key) k)).taken = true
    · obtain ⟨c0, c1, c2⟩ := H.out.at_ (at_get lk)
      have E1 := Lib.hid (empty_no p b ps _ w' H.out lk ht)
      by_cases hk2 : (at_ ps (sl ps.length (hm ps.length key) k)).key = key
      · have ek : findK ps key = k := by
          refine (found_of ⟨by have := sk.lt; omega, by unfold stop; rw [hk2]; simp, fun j hj => sk.before j (by omega)⟩)
        have ee : (sl ps.length (hm ps.length key) k) = findP ps key := by unfold findP; rw [ek]
        have EE := Lib.hid ee
        clear ek ee ht sk
        rw [hk2] at c1
        clear hk2
        generalize sl ps.length (hm ps.length key) k = i at *
        go_wp2_with fail
        (with_reducible refine (E1.out).mono ?_)
        rintro e w2 ⟨rfl, rfl⟩
        go_wp2_with fail
        (try simp only [Exit.jump])
        go_ret
        exact ⟨by rw [EE.out]; rfl, rfl⟩
      · have hk3 : ((at_ ps (sl ps.length (hm ps.length key) k)).key == key) = false := by simpa using hk2
        have nk : k < findK ps key := by
          rcases Nat.lt_or_ge k (findK ps key) with c | c
          · exact c
          · have e : findK ps key = k := by omega
            have := sk.here
            rw [e] at this
            unfold stop at this
            rw [ht, hk3] at this
            simp at this
        have e1 := sl_sl hh (show k < ps.length by have := sk.lt; omega) (show k + 1 ≤ ps.length by have := sk.lt; omega)
        have k1 : k + 1 < ps.length := by have := sk.lt; omega
        have NK := Lib.hid nk
        have E2 := Lib.hid e1
        clear ht sk hk2 e1 nk
        generalize (at_ ps (sl ps.length (hm ps.length key) k)).key = kk at *
        generalize hi : sl ps.length (hm ps.length key) k = i at *
        clear hi
        go_wp2_with fail
        (with_reducible refine (E1.out).mono ?_)
        rintro e w2 ⟨rfl, rfl⟩
        go_wp2_with fail
        (with_reducible refine (B.out).mono ?_)
        rintro e w2 ⟨rfl, rfl⟩
        go_wp2_with fail
        go_step3
        rw [E2.out]
        (try simp only [Exit.jump])
        exact ⟨rfl, ⟨rfl, k + 1, _, _, _, _, _, _, _, _, _, _, _, _, _, _, _, _, _, _, _, _, _, _, _, _, rfl, NK.out⟩, by simp [intOf']; rw [dist_sl hh k1, dist_sl hh (by omega)]; omega⟩
    · have e0 := hc _ lk (by simpa using ht)
      have E1 := Lib.hid (empty_yes p b ps _ w' H.out lk e0)
      have ek : findK ps key = k := by
        refine (found_of ⟨by have := sk.lt; omega, by unfold stop; rw [e0]; rfl, fun j hj => sk.before j (by omega)⟩)
      have ee : (sl ps.length (hm ps.length key) k) = findP ps key := by unfold findP; rw [ek]
      have EE := Lib.hid ee
      clear ek ee ht sk e0
      generalize sl ps.length (hm ps.length key) k = i at *
      go_wp2_with fail
      (with_reducible refine (E1.out).mono ?_)
      rintro e w2 ⟨rfl, rfl⟩
      go_wp2_with fail
      (try simp only [Exit.jump])
      go_ret
      exact ⟨by rw [EE.out]; rfl, rfl⟩
end Go.Proofs.Ytajphhalneaihaa
