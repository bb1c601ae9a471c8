/- Plain facts of a register: who waits for what. -/
import Init
namespace Go.Proofs.Ytgngaimbpnlkjaa

structure Wt where
  r : Int
  p : Int
  deriving DecidableEq
instance : Inhabited Wt := ⟨⟨0, 0⟩⟩
structure Sx where
  t : Int
  w : Wt
  deriving DecidableEq
instance : Inhabited Sx := ⟨⟨0, ⟨0, 0⟩⟩⟩
theorem sxtake {α : Type} {xs : List α} {k : Nat} {x : α} (h : xs[k]? = some x) : xs.take (k + 1) = xs.take k ++ [x] := by
  rw [List.take_add_one, h]; rfl

def waitsB (ss : List Sx) (w : Wt) : Bool := ss.any (fun s => decide (s.w = w))
theorem waits_more (l : List Sx) (s : Sx) (w : Wt) : waitsB (l ++ [s]) w = (waitsB l w || decide (s.w = w)) := by unfold waitsB; simp
theorem waits_yes {ss : List Sx} {k : Nat} {s : Sx} {w : Wt} (h : ss[k]? = some s) (e : s.w = w) : waitsB ss w = true := by
  unfold waitsB
  rw [List.any_eq_true]
  exact ⟨s, List.mem_of_getElem? h, decide_eq_true e⟩
def ofL (ss : List Sx) (t : Int) : List Wt := (ss.filter (fun s => decide (s.t = t))).map Sx.w
theorem of_yes {l : List Sx} {s : Sx} {t : Int} (e : s.t = t) : ofL (l ++ [s]) t = ofL l t ++ [s.w] := by unfold ofL; simp [e]
theorem of_no {l : List Sx} {s : Sx} {t : Int} (e : s.t ≠ t) : ofL (l ++ [s]) t = ofL l t := by unfold ofL; simp [e]
theorem of_le (ss : List Sx) (t : Int) : (ofL ss t).length ≤ ss.length := by
  unfold ofL
  rw [List.length_map]
  exact List.length_filter_le _ _
def leftT (ss : List Sx) (t : Int) : List Sx := ss.filter (fun s => decide (s.t ≠ t))
theorem leftT_yes {l : List Sx} {s : Sx} {t : Int} (e : s.t ≠ t) : leftT (l ++ [s]) t = leftT l t ++ [s] := by unfold leftT; simp [e]
theorem leftT_no {l : List Sx} {s : Sx} {t : Int} (e : s.t = t) : leftT (l ++ [s]) t = leftT l t := by unfold leftT; simp [e]
theorem leftT_le (ss : List Sx) (t : Int) : (leftT ss t).length ≤ ss.length := List.length_filter_le _ _
def leftR (ss : List Sx) (r : Int) : List Sx := ss.filter (fun s => decide (s.w.r ≠ r))
theorem leftR_yes {l : List Sx} {s : Sx} {r : Int} (e : s.w.r ≠ r) : leftR (l ++ [s]) r = leftR l r ++ [s] := by unfold leftR; simp [e]
theorem leftR_no {l : List Sx} {s : Sx} {r : Int} (e : s.w.r = r) : leftR (l ++ [s]) r = leftR l r := by unfold leftR; simp [e]
theorem leftR_le (ss : List Sx) (r : Int) : (leftR ss r).length ≤ ss.length := List.length_filter_le _ _

/-- a rising list with a number more -/
def putI : List Int → Int → List Int
  | [], n => [n]
  | x :: l, n => if x < n then x :: putI l n else if x = n then x :: l else n :: x :: l
theorem put_at (n : Int) : ∀ (l : List Int) (k : Nat), k ≤ l.length → (∀ j x, j < k → l[j]? = some x → x < n) → (∀ x, l[k]? = some x → n ≤ x) →
    putI l n = if l[k]? = some n then l else l.take k ++ n :: l.drop k := by
  intro l
  induction l with
  | nil => intro k hk h1 h2; simp [putI]
  | cons x l ih =>
    intro k hk h1 h2
    cases k with
    | zero =>
      have hx := h2 x rfl
      show (if x < n then _ else _) = _
      rw [if_neg (by omega)]
      by_cases e : x = n
      · subst e; rw [if_pos rfl]; simp
      · rw [if_neg e, if_neg (fun q => e (by simpa using q))]; rfl
    | succ k =>
      have hx := h1 0 x (by omega) rfl
      show (if x < n then _ else _) = _
      rw [if_pos hx, ih k (by simp at hk; omega) (fun j y hj hy => h1 (j + 1) y (by omega) hy) (fun y hy => h2 y hy)]
      by_cases e : l[k]? = some n
      · rw [if_pos e, if_pos (by simpa using e)]
      · rw [if_neg e, if_neg (by simpa using e)]; rfl
theorem put_there {n : Int} {l : List Int} {k : Nat} (hk : k ≤ l.length) (h1 : ∀ j x, j < k → l[j]? = some x → x < n) (h2 : l[k]? = some n) : putI l n = l := by
  rw [put_at n l k hk h1 (fun x hx => by rw [h2] at hx; injection hx with hx; omega), if_pos h2]
theorem put_new {n : Int} {l : List Int} {k : Nat} (hk : k ≤ l.length) (h1 : ∀ j x, j < k → l[j]? = some x → x < n) (h2 : ∀ x, l[k]? = some x → n < x) : putI l n = l.take k ++ n :: l.drop k := by
  rw [put_at n l k hk h1 (fun x hx => by have := h2 x hx; omega), if_neg (fun q => by have := h2 n q; omega)]
theorem put_le (l : List Int) (n : Int) : (putI l n).length ≤ l.length + 1 := by
  induction l with
  | nil => simp [putI]
  | cons x l ih =>
    show (if x < n then x :: putI l n else if x = n then x :: l else n :: x :: l).length ≤ _
    split
    · simp only [List.length_cons]; omega
    · split <;> simp
/-- the tickets that a request's waiters wait for -/
def quitI (ss : List Sx) (r : Int) : List Int := (ss.filter (fun s => decide (s.w.r = r))).foldl (fun l s => putI l s.t) []
theorem quit_yes {l : List Sx} {s : Sx} {r : Int} (e : s.w.r = r) : quitI (l ++ [s]) r = putI (quitI l r) s.t := by unfold quitI; simp [e]
theorem quit_no {l : List Sx} {s : Sx} {r : Int} (e : s.w.r ≠ r) : quitI (l ++ [s]) r = quitI l r := by unfold quitI; simp [e]
theorem fold_le (l : List Sx) : ∀ m : List Int, (l.foldl (fun l s => putI l s.t) m).length ≤ m.length + l.length := by
  induction l with
  | nil => intro m; simp
  | cons s l ih =>
    intro m
    have h1 := ih (putI m s.t)
    have h2 := put_le m s.t
    rw [List.foldl_cons, List.length_cons]
    omega
theorem quit_le (ss : List Sx) (r : Int) : (quitI ss r).length ≤ ss.length := by
  have h1 := fold_le (ss.filter (fun s => decide (s.w.r = r))) []
  have h2 := List.length_filter_le (fun s => decide (s.w.r = r)) ss
  unfold quitI
  simp only [List.length_nil] at h1
  omega

/-- may it be -/
def mayW (t : Int) (w : Wt) : Prop := 1 ≤ t ∧ 1 ≤ w.r ∧ 0 ≤ w.p ∧ w.p ≤ 7
instance (t : Int) (w : Wt) : Decidable (mayW t w) := by unfold mayW; infer_instance
def addI (room : Nat) (ss : List Sx) (t : Int) (w : Wt) : Int := if mayW t w then if waitsB ss w then 4 else if room ≤ ss.length then 2 else 0 else 1
def addS (room : Nat) (ss : List Sx) (t : Int) (w : Wt) : List Sx := if addI room ss t w = 0 then ss ++ [⟨t, w⟩] else ss
end Go.Proofs.Ytgngaimbpnlkjaa
