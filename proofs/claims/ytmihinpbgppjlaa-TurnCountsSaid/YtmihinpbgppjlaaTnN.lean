/- Turns in memory: New. -/
import Derived.Test.YtmihinpbgppjlaaTnE
namespace Go.Proofs.Ytmihinpbgppjlaa
open Go.RowKit Go.Maps
set_option linter.unusedVariables false

theorem Row.only {w : World} {g : Nat} {t : TypeId} {v : Value} (h : Row w g t #[v]) : w.cell? ⟨g, 0, none⟩ = some v := by rw [h.cell]; rfl
def may12 (nd na : Int) : Bool := decide (1 ≤ nd ∧ nd ≤ 64 ∧ 0 ≤ na ∧ na ≤ 64)
theorem tnew1_no (q r s : Nat) (nd na : Int) (w : World) (hq : Var w q (.int .i64 nd)) (hr : Var w r (.int .i64 na)) (hn : may12 nd na = false) :
    Calls Try.prog 25 #[.pointer (some ⟨q, 0, none⟩), .pointer (some ⟨r, 0, none⟩), .pointer (some ⟨s, 0, none⟩)] w fun e w' => e = left 1 ∧ w = w' := by
  have hn := of_decide_eq_false hn
  by_cases k1 : 1 ≤ nd
  · by_cases k2 : nd ≤ 64
    · by_cases k3 : 0 ≤ na
      · have t1 : decide (1 ≤ nd) = true := by simpa using k1
        have t2 : decide (nd ≤ 64) = true := by simpa using k2
        have t3 : decide (0 ≤ na) = true := by simpa using k3
        have t4 : decide (na ≤ 64) = false := by simp; omega
        clear hn k1 k2 k3
        go_enter Try.func25, Try.ntmps25
        go_wp2_with fail
        (with_reducible refine (unless_yes _ _).mono ?_)
        rintro e w' ⟨rfl, rfl⟩
        go_wp2_with fail
        (with_reducible refine (unless_no _ _).mono ?_)
        rintro e w' ⟨rfl, rfl⟩
        go_wp2_with fail
        exact ⟨rfl, rfl, rfl⟩
      · have t1 : decide (1 ≤ nd) = true := by simpa using k1
        have t2 : decide (nd ≤ 64) = true := by simpa using k2
        have t3 : decide (0 ≤ na) = false := by simpa using k3
        clear hn k1 k2 k3
        go_enter Try.func25, Try.ntmps25
        go_wp2_with fail
        (with_reducible refine (unless_yes _ _).mono ?_)
        rintro e w' ⟨rfl, rfl⟩
        go_wp2_with fail
        (with_reducible refine (unless_no _ _).mono ?_)
        rintro e w' ⟨rfl, rfl⟩
        go_wp2_with fail
        exact ⟨rfl, rfl, rfl⟩
    · have t1 : decide (1 ≤ nd) = true := by simpa using k1
      have t2 : decide (nd ≤ 64) = false := by simpa using k2
      clear hn k1 k2
      go_enter Try.func25, Try.ntmps25
      go_wp2_with fail
      (with_reducible refine (unless_no _ _).mono ?_)
      rintro e w' ⟨rfl, rfl⟩
      go_wp2_with fail
      exact ⟨rfl, rfl, rfl⟩
  · have t1 : decide (1 ≤ nd) = false := by simpa using k1
    clear hn k1
    go_enter Try.func25, Try.ntmps25
    go_wp2_with fail
    (with_reducible refine (unless_no _ _).mono ?_)
    rintro e w' ⟨rfl, rfl⟩
    go_wp2_with fail
    exact ⟨rfl, rfl, rfl⟩
theorem tn_nil {w : World} {p b nd na : Nat} (r : Row w p 57 #[.int .i64 nd, .int .i64 na, .map (some b), .int .i64 0]) (m : Md w b []) (h1 : nd ≤ 64) (h2 : na ≤ 64) : TnAt w p b nd na 0 [] :=
  ⟨r, m, List.Pairwise.nil, List.Pairwise.nil, fun q hq => (by cases hq), fun a => Nat.zero_le _, h1, h2⟩
set_option maxHeartbeats 1000000 in
theorem tnew1_yes (q r s : Nat) (nd na : Nat) (w : World) (hq : Var w q (.int .i64 nd)) (hr : Var w r (.int .i64 na)) (hs : Row w s 24 #[.pointer none]) (h1 : 1 ≤ nd) (h2 : nd ≤ 64) (h3 : na ≤ 64) :
    Calls Try.prog 25 #[.pointer (some ⟨q, 0, none⟩), .pointer (some ⟨r, 0, none⟩), .pointer (some ⟨s, 0, none⟩)] w fun e w' => e = .returned (.tuple #[]) ∧ (∃ p b, TnAt w' p b nd na 0 [] ∧ Row w' s 24 #[.pointer (some ⟨p, 0, none⟩)] ∧ w.heap.size ≤ p ∧ w.heap.size ≤ b) ∧ Only (fun k => k = s) w w' := by
  have hmm := @run_makeMap Try.prog
  have t1 : decide ((1 : Int) ≤ nd) = true := by simp; omega
  have t2 : decide ((nd : Int) ≤ 64) = true := by simp; omega
  have t3 : decide ((0 : Int) ≤ na) = true := by simp
  have t4 : decide ((na : Int) ≤ 64) = true := by simp; omega
  have lq := hq.lt
  have lr := hr.lt
  have ls := hs.lt
  have HS := Lib.hid hs
  have c := hs.only
  have z := hs.frozen 0
  have c9 : ∀ o o', ((w.alloc o).alloc o').cell? ⟨s, 0, none⟩ = some (.pointer none) := fun o o' => ((HS.out.alloc o).alloc o').only
  have z9 : ∀ o o', ((w.alloc o).alloc o').frozen? ⟨s, 0, none⟩ = false := fun o o' => ((HS.out.alloc o).alloc o').frozen 0
  have H2 := Lib.hid (show nd ≤ 64 ∧ na ≤ 64 from ⟨h2, h3⟩)
  clear hs h1 h2 h3
  go_enter Try.func25, Try.ntmps25
  go_wp2_with fail
  (with_reducible refine (unless_yes _ _).mono ?_)
  rintro e w' ⟨rfl, rfl⟩
  go_wp2_with fail
  (with_reducible refine (unless_yes _ _).mono ?_)
  rintro e w' ⟨rfl, rfl⟩
  go_wp2_with fail
  go_end0
  have r1 := HS.out.put 0 (.pointer (some ⟨w.heap.size + 1, 0, none⟩))
  have o1 := (Only.refl (fun k => k = s) w).into (b := s) rfl 0 (.pointer (some ⟨w.heap.size + 1, 0, none⟩))
  have hz : (w.setCell ⟨s, 0, none⟩ (.pointer (some ⟨w.heap.size + 1, 0, none⟩))).heap.size = w.heap.size := by simp [World.setCell]
  generalize w.setCell ⟨s, 0, none⟩ (.pointer (some ⟨w.heap.size + 1, 0, none⟩)) = W at *
  have a1 := World.ownsMap_made (H := Unit) W Try.prog 3 plElem
  have a2 := Row.fresh (W.alloc (.map #[] 0)) 57 #[.int .i64 nd, .int .i64 na, .map (some w.heap.size), .int .i64 0]
  simp only [World.size_alloc, hz] at a1 a2
  refine ⟨rfl, ⟨w.heap.size + 1, w.heap.size, tn_nil a2 ⟨_, a1.alloc _, Reads12.nil⟩ H2.out.1 H2.out.2, ?_, by omega, by omega⟩, ?_⟩
  · exact (r1.alloc _).alloc _
  · exact (o1.alloc _).alloc _

set_option maxHeartbeats 1000000 in
theorem tnew_no (nd na : Int) (w : World) (hn : may12 nd na = false) :
    Calls Try.prog 9 #[.int .i64 nd, .int .i64 na] w fun e w' => e = .returned (.tuple #[.pointer none, .int .i64 1]) ∧ Only none_ w w' := by
  have C : Calls Try.prog 24 #[.func (.func 25) #[] #[.pointer (some ⟨w.heap.size, 0, none⟩), .pointer (some ⟨w.heap.size + 1, 0, none⟩), .pointer (some ⟨w.heap.size + 1 + 1, 0, none⟩)]]
      (((w.alloc (.cells #[.int .i64 nd] 3)).alloc (.cells #[.int .i64 na] 3)).alloc (.cells #[.pointer none] 24)) fun e w' =>
        e = .returned (.int .i64 1) ∧ Row w' (w.heap.size + 1 + 1) 24 #[.pointer none] ∧ Only none_ w w' := by
    have hq : Var (((w.alloc (.cells #[.int .i64 nd] 3)).alloc (.cells #[.int .i64 na] 3)).alloc (.cells #[.pointer none] 24)) w.heap.size (.int .i64 nd) := var_alloc (var_alloc (var_at rfl) _) _
    have hr : Var (((w.alloc (.cells #[.int .i64 nd] 3)).alloc (.cells #[.int .i64 na] 3)).alloc (.cells #[.pointer none] 24)) (w.heap.size + 1) (.int .i64 na) := var_alloc (var_at (by simp)) _
    have hs := Row.fresh ((w.alloc (.cells #[.int .i64 nd] 3)).alloc (.cells #[.int .i64 na] 3)) 24 #[.pointer none]
    have hO := only_three w (.cells #[.int .i64 nd] 3) (.cells #[.int .i64 na] 3) (.cells #[.pointer none] 24)
    have hz : (((w.alloc (.cells #[.int .i64 nd] 3)).alloc (.cells #[.int .i64 na] 3)).alloc (.cells #[.pointer none] 24)).heap.size = w.heap.size + 3 := by simp
    simp only [World.size_alloc] at hs
    generalize ((w.alloc (.cells #[.int .i64 nd] 3)).alloc (.cells #[.int .i64 na] 3)).alloc (.cells #[.pointer none] 24) = W at *
    refine (catch_code 25 _ W none_ (fun r w' => r = some 1 ∧ Row w' (w.heap.size + 1 + 1) 24 #[.pointer none]) (fun _ => rfl) (fun s => s) ?_ ?_).mono ?_
    · rintro r w1 v _ ⟨rfl, s'⟩
      exact ⟨rfl, s'.far (by show w.heap.size + 1 + 1 ≠ W.heap.size; omega) v⟩
    · refine (tnew1_no _ _ _ nd na _ (var_alloc hq _) (var_alloc hr _) hn).mono ?_
      rintro e w' ⟨rfl, rfl⟩
      exact ⟨some 1, rfl, ⟨rfl, hs.alloc _⟩, Only.refl _ _⟩
    · rintro e w' ⟨r, rfl, ⟨rfl, s'⟩, o⟩
      exact ⟨rfl, s', hO.same o⟩
  have C := Lib.hid C
  clear hn
  go_enter Try.func9, Try.ntmps9
  go_wp2_with fail
  (with_reducible refine (C.out).mono ?_)
  rintro e w' ⟨rfl, s', o⟩
  have O := Lib.hid o
  have c0 := s'.only
  have c1 := s'.frozen 0
  clear s' o
  go_wp2_with fail
  exact bodyPost_ret (v := .tuple #[.pointer none, .int .i64 1]) (by simp [results, Try.results9, go_sem, c0]) rfl ⟨rfl, O.out.put (p := ⟨w.heap.size + 1 + 1, 0, none⟩) (fun k => by simp at k; omega) _⟩

set_option maxHeartbeats 1000000 in
theorem tnew_yes (nd na : Nat) (w : World) (h1 : 1 ≤ nd) (h2 : nd ≤ 64) (h3 : na ≤ 64) :
    Calls Try.prog 9 #[.int .i64 nd, .int .i64 na] w fun e w' => ∃ p b, e = .returned (.tuple #[.pointer (some ⟨p, 0, none⟩), .int .i64 0]) ∧ TnAt w' p b nd na 0 [] ∧ w.heap.size ≤ p ∧ w.heap.size ≤ b ∧ Only none_ w w' := by
  have C : Calls Try.prog 24 #[.func (.func 25) #[] #[.pointer (some ⟨w.heap.size, 0, none⟩), .pointer (some ⟨w.heap.size + 1, 0, none⟩), .pointer (some ⟨w.heap.size + 1 + 1, 0, none⟩)]]
      (((w.alloc (.cells #[.int .i64 nd] 3)).alloc (.cells #[.int .i64 na] 3)).alloc (.cells #[.pointer none] 24)) fun e w' =>
        e = .returned (.int .i64 0) ∧ (∃ p b, TnAt w' p b nd na 0 [] ∧ Row w' (w.heap.size + 1 + 1) 24 #[.pointer (some ⟨p, 0, none⟩)] ∧ w.heap.size + 3 ≤ p ∧ w.heap.size + 3 ≤ b) ∧ Only none_ w w' := by
    have hq : Var (((w.alloc (.cells #[.int .i64 nd] 3)).alloc (.cells #[.int .i64 na] 3)).alloc (.cells #[.pointer none] 24)) w.heap.size (.int .i64 nd) := var_alloc (var_alloc (var_at rfl) _) _
    have hr : Var (((w.alloc (.cells #[.int .i64 nd] 3)).alloc (.cells #[.int .i64 na] 3)).alloc (.cells #[.pointer none] 24)) (w.heap.size + 1) (.int .i64 na) := var_alloc (var_at (by simp)) _
    have hs := Row.fresh ((w.alloc (.cells #[.int .i64 nd] 3)).alloc (.cells #[.int .i64 na] 3)) 24 #[.pointer none]
    have hO := only_three w (.cells #[.int .i64 nd] 3) (.cells #[.int .i64 na] 3) (.cells #[.pointer none] 24)
    have hz : (((w.alloc (.cells #[.int .i64 nd] 3)).alloc (.cells #[.int .i64 na] 3)).alloc (.cells #[.pointer none] 24)).heap.size = w.heap.size + 3 := by simp
    simp only [World.size_alloc] at hs
    generalize ((w.alloc (.cells #[.int .i64 nd] 3)).alloc (.cells #[.int .i64 na] 3)).alloc (.cells #[.pointer none] 24) = W at *
    refine (catch_code 25 _ W (fun k => k = w.heap.size + 1 + 1) (fun r w' => r = none ∧ ∃ p b, TnAt w' p b nd na 0 [] ∧ Row w' (w.heap.size + 1 + 1) 24 #[.pointer (some ⟨p, 0, none⟩)] ∧ W.heap.size + 1 ≤ p ∧ W.heap.size + 1 ≤ b) (fun _ => rfl) (by omega) ?_ ?_).mono ?_
    · rintro r w1 v _ ⟨rfl, p, b, h', s', k1, k2⟩
      have o := (Only.refl (fun k => k = W.heap.size) w1).into rfl 0 v
      exact ⟨rfl, p, b, h'.keep o (by omega) (by omega), s'.far (by show w.heap.size + 1 + 1 ≠ W.heap.size; omega) v, k1, k2⟩
    · refine (tnew1_yes _ _ _ nd na _ (var_alloc hq _) (var_alloc hr _) (hs.alloc _) h1 h2 h3).mono ?_
      rintro e w' ⟨rfl, ⟨p, b, h', s', k1, k2⟩, o⟩
      simp only [World.size_alloc] at k1 k2
      exact ⟨none, rfl, ⟨rfl, p, b, h', s', by omega, by omega⟩, o⟩
    · rintro e w' ⟨r, rfl, ⟨rfl, p, b, h', s', k1, k2⟩, o⟩
      refine ⟨rfl, ⟨p, b, h', s', by omega, by omega⟩, hO.trans o (fun i hi s => ?_)⟩
      omega
  have C := Lib.hid C
  clear h1 h2 h3
  go_enter Try.func9, Try.ntmps9
  go_wp2_with fail
  (with_reducible refine (C.out).mono ?_)
  rintro e w' ⟨rfl, ⟨p, b, h', s', k1, k2⟩, o⟩
  have O := Lib.hid o
  have H := Lib.hid h'
  have c0 := s'.only
  have c1 := s'.frozen 0
  clear s' o h'
  go_wp2_with fail
  have oo := (Only.refl (fun k => k = w.heap.size + 1 + 1) w').into rfl 0 (.pointer (some ⟨p, 0, none⟩))
  exact bodyPost_ret (v := .tuple #[.pointer (some ⟨p, 0, none⟩), .int .i64 0]) (by simp [results, Try.results9, go_sem, c0]) rfl
    ⟨p, b, rfl, H.out.keep oo (by omega) (by omega), by omega, by omega, O.out.put (p := ⟨w.heap.size + 1 + 1, 0, none⟩) (fun k => by simp at k; omega) _⟩
end Go.Proofs.Ytmihinpbgppjlaa
