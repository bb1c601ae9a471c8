/- Texts of the layers below, one behind the other. -/
import Derived.Test.YtfbpjobobdidiaaGreatDoorRSo35
import Derived.RangeFuncBox
import Derived.Sort.OwnSortedInts
import Derived.Lib.RowBridge
import Derived.Test.YtfbpjobobdidiaaGreatDoorRRp16
set_option maxRecDepth 100000
set_option maxHeartbeats 4000000
namespace Go.Proofs.YtfbpjobobdidiaaGreatDoor
open Lib (hid)
open Go.Proofs.Tryz
open Go.RowKit Go.Sort
set_option linter.unusedVariables false
theorem bit_le:∀(f x:Nat),Lib.bitLenAux f x≤f:=by
 intro f
 induction f with
 | zero=>intro x;exact Nat.le_refl _
 | succ f ih=>intro x;unfold Lib.bitLenAux;have:=ih (x / 2);split<;>omega
theorem sort30 {κ:Wt→Int} {w0:World} {g p n cap:Nat} (LS:Less κ w0 g p) (hn:n≤1000) (d:Array Wt) (w:World) (S:Sq w0 w g d) (hd:d.size=n) :
  Calls prog 122 #[.slice (some ⟨g,0,none⟩) n cap,cmpV p] w λe w'=>e=.returned (.tuple #[])∧∃d',PermIn 0 n d d'∧SortedIn (klt κ) 0 n d'∧Sq w0 w' g d':=by
 have BL:=hid (λW=>Tryz.bits_Len (n:Int) W (by omega) (by omega))
 have lb:Lib.bitLen (Int.toNat (n:Int))≤1000:=by
  exact Nat.le_trans (bit_le 64 _) (by omega)
 generalize Lib.bitLen (Int.toNat (n:Int))=bl at BL lb
 have C35:=hid (λW (s:Sq w0 W g d)=>show Calls prog 153 #[.slice (some ⟨g,0,none⟩) n cap,.int .i64 0,.int .i64 n,.int .i64 bl,.func (.func 123) #[.pointer (some ⟨p,0,none⟩)] #[]] W (λe w'=>e=.returned (.tuple #[])∧∃d',PermIn 0 n d d'∧SortedIn (klt κ) 0 n d'∧Sq w0 w' g d') from
  pdq35 (cap:=cap) LS hn (n+1) 0 n bl d W (by omega) s hd (Nat.zero_le _) (Nat.le_refl _) lb (Or.inl rfl))
 have S0:=hid S
 have v1:IntKind.u64.wrap (n:Int)=(n:Int):=by rw[IntKind.wrap_u64];omega
 clear LS S hd lb
 unfold cmpV
 go_enter func122,ntmps122
 go_wp2_with fail
 (with_reducible refine (BL.out _).mono ?_)
 rintro e w' ⟨rfl,rfl⟩
 go_wp2_with fail
 (with_reducible refine (C35.out _ S0.out).mono ?_)
 rintro e W1 ⟨rfl,hr⟩
 have R:=hid hr
 clear hr
 go_wp2_with fail
 go_end0
 exact⟨rfl,R.out⟩
theorem ins48_none (p:Option Addr) (cap:Nat) (fv:Value) (w:World) :
  Calls prog 173 #[.slice p 0 cap,.int .i64 0,.int .i64 0,fv] w λe w'=>e=.returned (.tuple #[])∧w'=w:=by
 go_enter func173,ntmps173
 go_wp2_with fail
 go_loopw [8] (λx wr=>x=.int .i64 1∧wr=w) (λ_ _=>0)
 case atStart=>exact⟨rfl,rfl⟩
 case round =>
  obtain⟨rfl,rfl⟩:=hrel
  go_wp2_with fail
  go_end0
  exact⟨rfl,rfl⟩
theorem pdq35_none (p:Option Addr) (cap:Nat) (lim:Int) (fv:Value) (w:World) :
  Calls prog 153 #[.slice p 0 cap,.int .i64 0,.int .i64 0,.int .i64 lim,fv] w λe w'=>e=.returned (.tuple #[])∧w'=w:=by
 have C:=hid (λW=>ins48_none p cap fv W)
 go_enter func153,ntmps153
 go_wp2_with fail
 go_loopw [1,2] (λx y wr=>x=.int .i64 0∧y=.int .i64 0∧wr=w) (λ_ _ _=>0)
 case atStart=>exact⟨rfl,rfl,rfl⟩
 case round =>
  obtain⟨rfl,rfl,rfl⟩:=hrel
  go_wp2_with fail
  (with_reducible refine (C.out _).mono ?_)
  rintro e W1 ⟨rfl,rfl⟩
  go_wp2_with fail
  refine bodyPost_ret (results_none rfl _ _ _) rfl ?_
  exact⟨rfl,rfl⟩
theorem sort30_none (p:Option Addr) (cap:Nat) (fv:Value) (w:World) :
  Calls prog 122 #[.slice p 0 cap,fv] w λe w'=>e=.returned (.tuple #[])∧w'=w:=by
 have BL:=hid (λW=>Tryz.bits_Len 0 W (by omega) (by omega))
 have C:=hid (λW=>pdq35_none p cap 0 fv W)
 have z:Lib.bitLen (Int.toNat 0)=0:=by decide
 rw[z] at BL
 clear z
 go_enter func122,ntmps122
 go_wp2_with fail
 (with_reducible refine (BL.out _).mono ?_)
 rintro e w' ⟨rfl,rfl⟩
 go_wp2_with fail
 (with_reducible refine (C.out _).mono ?_)
 rintro e w' ⟨rfl,rfl⟩
 go_wp2_with fail
 go_end0
 exact⟨rfl,rfl⟩
end Go.Proofs.YtfbpjobobdidiaaGreatDoor
namespace Go.Proofs.YtfbpjobobdidiaaGreatDoor
open Lib (hid)
open Go.Proofs.Tryz
open Go.RowKit Go.Maps Go.Shelf
set_option linter.unusedVariables false
attribute [local go_sem] Oper.semAt_some
theorem walks_put {A : World} {l : Nat} {o : Obj} (o' : Obj) (h : A.heap[l]? = some o) (hw : o.isWalk = false) : KeepsWalks A (A.putObj l o') := by
 refine ⟨by simp, fun k u hk hu => ?_⟩
 have : k ≠ l := fun e => by subst e; rw [h] at hk; cases hk; rw [hw] at hu; cases hu
 exact (World.putObj_heap_other this).trans hk
theorem takes_walks {b : Nat} {x : En} {W W' : World} (h : KeepsWalks W W') : Takes b x W W' := fun r n D left cnt _ hr => ⟨D, cnt, hr.of_walks h, Nat.le_refl _, .inl rfl⟩
theorem walks_others {W W' : World} (h : KeepsOthers W W') : KeepsWalks W W' := ⟨h.size, fun k o hk hw => h.same k o hk (Obj.not_cells_of_walk hw)⟩
theorem takes_from {b : Nat} {x : En} {A A' B : World} (h : KeepsWalks A A') (t : Takes b x A' B) : Takes b x A B := fun r n D left cnt q hr => t r n D left cnt q (hr.of_walks h)
theorem takes_to {b : Nat} {x : En} {A B B' : World} (t : Takes b x A B) (h : KeepsWalks B B') : Takes b x A B' := fun r n D left cnt q hr => by
 obtain ⟨D', c, h1, h2, h3⟩ := t r n D left cnt q hr
 exact ⟨D', c, h1.of_walks h, h2, h3⟩
theorem row_kept {W W' : World} {row : Option Nat} {g : Nat} {t : TypeId} {cs : Array Value} (h : Row W g t cs) (hg : W.grownBy W' row) (hr : ∀ r, row = some r → ∃ o : Obj, W.heap[r]? = some o ∧ o.isCells = false) : Row W' g t cs :=
 (grownBy_keeps_cells hg hr (show W.heap[g]? = _ from h) rfl).trans h
theorem hand14 (m : Nat) (hm : 1 ≤ m) {w0 : World} {Bs p b room came : Nat} {es : List En} (h : WAt w0 p b room came es) (hBs : Row w0 Bs 93 #[.pointer (some ⟨p, 0, none⟩)]) :
  Handing Fence.wide m Tryz.prog 149 #[.pointer (some ⟨Bs, 0, none⟩)] encE (fun pre x => (pre ++ [x]).Nodup ∧ ∀ y ∈ pre ++ [x], y ∈ es) (Takes b) (fun xs => xs.Perm es) w0 := by
 intro l J W hb hJ hY h0
 have o := Only.of_below hb
 have pl := h.row.lt
 have bl := h.md.lt
 have sl := hBs.lt
 have h2 := h.keep o (by omega) (by omega)
 obtain ⟨D0, k1, k2⟩ := h2.md
 refine iter14 m hm l Bs b es.length p D0 es room came k2 h2.once J hY W hJ ?_ h2.row k1 h0
 rw [(o.row hBs (by omega)).cell]; rfl
theorem WAt.wf {w : World} {p b room came : Nat} {es : List En} (h : WAt w p b room came es) : ∀ e ∈ es, wfW e.s.w := by
 obtain ⟨D, _, k⟩ := h.md
 exact k.wf
structure RdW (w : World) (base : Nat) (v : Value) (xs : List Wt) : Prop where
 reads : ReadsW w v xs
 late : ∀ g, v.ownBlock = some g → base ≤ g ∧ g < w.heap.size
theorem sortV {W : World} {p b room came n0 : Nat} {es : List En} {v : Value} {ws : List Wt} (h : WAt W p b room came es) (ho : OwnsWt W n0 v ws) (hp : p < n0) (hb : b < n0) (wf : ∀ x ∈ ws, wfW x) (hl : ws.length ≤ 1000) :
  Calls Tryz.prog 122 #[v, cmpV p] W fun e w' => e = .returned (.tuple #[]) ∧ ∃ ws', ws'.Perm ws ∧ ws'.Pairwise (fun x y => ¬ (turn es y < turn es x)) ∧ RdW w' n0 v ws' ∧ Only (fun k => v.ownBlock = some k) W w' := by
 have h0 := ho
 rcases ho.2 with ⟨hv, h2⟩ | ⟨g, cap, cur, hv, hg, hh, h3, h4, h5, h6⟩
 ·have : ws = [] := List.eq_nil_of_length_eq_zero h2
  subst this
  subst hv
  refine (sort30_none none 0 (cmpV p) W).mono ?_
  rintro e w' ⟨rfl, rfl⟩
  exact ⟨rfl, [], List.Perm.refl _, List.Pairwise.nil, ⟨ReadsW.of_owns h0, fun g hg => by cases hg⟩, Only.refl _ _⟩
 ·subst hv
  have gl := (Array.getElem?_eq_some_iff.1 hh).1
  obtain ⟨a, cp, e1, rd⟩ := ReadsW.of_owns h0
  have L : Less (fun z => (turn es z : Int)) W g p := fun w o x y wx wy => less31 w (h.keep o (by omega) (by omega)) x y wx wy
  have eg : a = some ⟨g, 0, none⟩ := by simpa using (Value.slice.inj e1).1.symm
  have get : ∀ i, i < ws.length → ws[i]? = some ws.toArray[i]! := fun i hi => by simp [hi]
  have S : Sq W W g ws.toArray := by
   refine ⟨fun i hi => ?_, fun k => by unfold World.frozen?; rw [hh]; simp, fun i hi => ?_, Only.refl _ _, gl⟩
   ·have hi' : i < ws.length := by simpa using hi
    obtain ⟨g', o', e2, c1, c2⟩ := rd i _ (get i hi')
    rw [eg] at e2
    obtain ⟨rfl, rfl⟩ : g = g' ∧ 0 = o' := by simpa using e2
    rw [Nat.zero_add] at c1 c2
    exact ⟨c1, c2⟩
   ·have hi' : i < ws.length := by simpa using hi
    exact wf _ (List.mem_of_getElem? (get i hi'))
  refine (sort30 (cap := cap) L hl ws.toArray W S (by simp)).mono ?_
  rintro e w' ⟨rfl, d', pm, so, s'⟩
  have sz : d'.size = ws.length := by rw [pm.1]; simp
  have pl : d'.toList.Perm ws := by
   have := pm.2.2
   simp only [Array.toList_extract, List.extract_eq_take_drop, Nat.sub_zero, List.drop_zero] at this
   rw [List.take_of_length_le (by simp [sz]), List.take_of_length_le (by simp)] at this
   exact this
  refine ⟨rfl, d'.toList, pl, ?_, ⟨⟨some ⟨g, 0, none⟩, cap, by simp [sz], fun i x hx => ⟨g, 0, rfl, ?_, ?_⟩⟩, fun g' hg' => ?_⟩, s'.only.more (fun i _ e => by subst e; rfl)⟩
  ·rw [List.pairwise_iff_getElem]
   intro i j hi hj hij
   have h1 : i < d'.size := by simpa using hi
   have h2 : j < d'.size := by simpa using hj
   have := so i j (Nat.zero_le _) hij (by rw [← sz]; exact h2)
   unfold klt at this
   simp only [decide_eq_false_iff_not] at this
   rw [getElem!_pos d' i h1, getElem!_pos d' j h2] at this
   simp only [Array.getElem_toList]
   omega
  ·have hi : i < d'.size := by have := (List.getElem?_eq_some_iff.1 hx).1; simpa using this
   have e3 : d'[i]! = x := by simp at hx; simp [hi]; have := Array.getElem?_eq_some_iff.1 hx; exact this.2
   rw [Nat.zero_add, (s'.cell i hi).1, e3]
  ·have hi : i < d'.size := by have := (List.getElem?_eq_some_iff.1 hx).1; simpa using this
   have e3 : d'[i]! = x := by simp at hx; simp [hi]; have := Array.getElem?_eq_some_iff.1 hx; exact this.2
   rw [Nat.zero_add, (s'.cell i hi).2, e3]
  ·obtain rfl : g = g' := by simpa [Value.ownBlock] using hg'
   exact ⟨hg, s'.lt⟩
theorem RdW.put {w : World} {base D : Nat} {v : Value} {xs : List Wt} {o : Obj} (o' : Obj) (h : RdW w base v xs) (hD : w.heap[D]? = some o) (hc : o.isCells = false) : RdW (w.putObj D o') base v xs := by
 obtain ⟨⟨a, cap, rfl, rd⟩, lt⟩ := h
 refine ⟨⟨a, cap, rfl, fun i x hx => ?_⟩, fun g hg => by have := lt g hg; simpa using this⟩
 obtain ⟨g, o1, e, c1, c2⟩ := rd i x hx
 exact ⟨g, o1, e, cell_kept c1 (grownBy_putObj' w D o') (fun r e => by cases e; exact ⟨o, hD, hc⟩), cell_kept c2 (grownBy_putObj' w D o') (fun r e => by cases e; exact ⟨o, hD, hc⟩)⟩
def ofs (es : List En) (t : Int) : List Wt := (ofE es t).map (fun e => e.s.w)
theorem ofs_yes {es : List En} {e : En} {t : Int} (h : e.s.t = t) : ofs (es ++ [e]) t = ofs es t ++ [e.s.w] := by unfold ofs ofE; simp [h]
theorem ofs_no {es : List En} {e : En} {t : Int} (h : e.s.t ≠ t) : ofs (es ++ [e]) t = ofs es t := by unfold ofs ofE; simp [h]
theorem ofs_le (es : List En) (t : Int) : (ofs es t).length ≤ es.length := by unfold ofs ofE; rw [List.length_map]; exact List.length_filter_le _ _
theorem ofs_seats (es : List En) (t : Int) : ofs es t = ofL (seats es) t := ofE_seats es t
structure OfI (n0 Bt Bw : Nat) (w0 : World) (t : Int) (pre : List En) (W : World) : Prop where
 row : ∃ v, Boxed W Bw 59 v ∧ W.ownsRow n0 36 2 v (ofs pre t).length ((ofs pre t).flatMap Wt.cells) ∧ True
 box : Row W Bt 3 #[.int .i64 t]
 low : Below n0 w0 W
theorem ofI_own {n0 Bt Bw B : Nat} {w0 : World} {t : Int} (h : n0 ≤ w0.heap.size) (hB : n0 ≤ B) : OwnFrom B (fun pre W => OfI n0 Bt Bw w0 t pre W) := fun s W W' row hs hg hr =>
 ⟨(Own.from (holdsRow_own n0 Bw 59 36 2 (fun (pre : List En) => (ofs pre t).length) (fun (pre : List En) => (ofs pre t).flatMap Wt.cells) (fun _ _ => True)) B) s W W' row hs.row hg hr, row_kept hs.box hg (fun r e => (hr r e).2), (ownFrom_below (β := Unit) h hB) () W W' row hs.low hg hr⟩
def OfA (mk : En → Nat → Nat → Act) (x : En) (a : Act) (W : World) : Prop := ∃ g6 g7, a = mk x g6 g7 ∧ Row W g6 36 #[.int .i64 x.s.w.r, .int .i64 x.s.w.p] ∧ Row W g7 193 #[.int .i64 x.s.t, .int .i64 x.n]
theorem ofA_own (mk : En → Nat → Nat → Act) (B : Nat) (x : En) (a : Act) : OwnFrom B (fun (_ : Unit) W => OfA mk x a W) := fun _ W W' row ⟨g6, g7, e, h1, h2⟩ hg hr => ⟨g6, g7, e, row_kept h1 hg (fun r e => (hr r e).2), row_kept h2 hg (fun r e => (hr r e).2)⟩
theorem wt_news {W : World} {g : Nat} {a b : Value} (r : Row W g 36 #[a, b]) : ∀ j u, [a, b][j]? = some u → W.cell? ((⟨g, 0, none⟩ : Addr).add j) = some u := by
  intro j u hj
  obtain ⟨c0, c1⟩ := r.two
  match j, hj with
  | 0, hj => obtain rfl : a = u := by simpa using hj
             exact c0
  | 1, hj => obtain rfl : b = u := by simpa using hj
             exact c1
theorem nodup_le {α : Type} [DecidableEq α] : ∀ {l m : List α}, l.Nodup → (∀ y ∈ l, y ∈ m) → l.length ≤ m.length := by
 intro l
 induction l with
 | nil => intro m _ _; exact Nat.zero_le _
 | cons a l ih =>
  intro m h k
  obtain ⟨h1, h2⟩ := List.nodup_cons.1 h
  have ha : a ∈ m := k a (by simp)
  have := ih h2 (m := m.erase a) (fun y hy => (List.mem_erase_of_ne (fun e => h1 (by rw [← e]; exact hy))).2 (k y (by simp [hy])))
  rw [List.length_erase_of_mem ha] at this
  have : 0 < m.length := List.length_pos_of_mem ha
  simp only [List.length_cons]
  omega
theorem of_sorted {came : Nat} {es xs : List En} {ws : List Wt} (t : Int) (o : OnceE es) (f : FineE came es) (n : ((seats es).map Sx.w).Nodup) (hp : xs.Perm es) (hw : ws.Perm (ofs xs t)) (hs : ws.Pairwise (fun x y => ¬ (turn es y < turn es x))) : ws = ofL (seats es) t := by
 have h1 : ws.Perm (ofs es t) := hw.trans ((hp.filter _).map _)
 rw [← ofs_seats]
 refine sorted_of o f (List.filter_sublist) ?_ (fun x => ?_) hs
 ·rw [h1.nodup_iff, ofs_seats]
  exact ((List.filter_sublist (l := seats es)).map Sx.w).nodup n
 ·rw [h1.mem_iff]
  unfold ofs
  rw [List.mem_map]
theorem of_in {p b room came : Nat} {es : List En} (t : Int) (w : World) (h : WAt w p b room came es) :
  CallsIn Fence.wide 5 Tryz.prog 74 #[.pointer (some ⟨p, 0, none⟩), .int .i64 t] w fun e w' => ∃ v', e = .returned v' ∧ RdW w' w.heap.size v' (ofL (seats es) t) ∧ Below w.heap.size w w' := by
 have FL := fun w1 => Lib.hid ((callsIn_wide (n := 4)).2 (all_any p w1))
 obtain ⟨i0, hi, hz0, hz1, hz2⟩ := info_partsR info_wt
 refine callsIn_of_wp_marks Tryz.func74 rfl trivial ?_ rfl
 simp only [Tryz.ntmps74, List.size_toArray, List.length_cons, List.length_nil, Nat.reduceAdd, Nat.reduceSub, Array.replicate_succ, Array.replicate_zero, List.push_toArray, List.append_toArray, List.nil_append, List.cons_append]
 gi_wp2_with (refine ⟨trivial, ?_⟩; gi_at_call 117; refine ((FL _).out).mono ?_; rintro e w' ⟨rfl, rfl⟩)
 obtain ⟨W3, hW3⟩ : ∃ W3, W3 = ((w.alloc (.cells #[.int .i64 t] 3)).alloc (.cells #[.slice none 0 0] 59)).alloc (.cells #[.pointer (some ⟨p, 0, none⟩)] 93) := ⟨_, rfl⟩
 have z3 : W3.heap.size = w.heap.size + 3 := by rw [hW3]; simp
 have b3 : Below w.heap.size w W3 := by rw [hW3]; exact (((Below.refl _ w).alloc (Nat.le_refl _) _).alloc (by simp) _).alloc (by simp; omega) _
 have r0 : Row W3 w.heap.size 3 #[.int .i64 t] := by rw [hW3]; exact ((Row.fresh w 3 #[.int .i64 t]).alloc _).alloc _
 have r1 : Boxed W3 (w.heap.size + 1) 59 (.slice none 0 0) := by
  rw [hW3]
  have := (Boxed.new (w.alloc (.cells #[.int .i64 t] 3)) 59 (.slice none 0 0)).alloc (.cells #[.pointer (some ⟨p, 0, none⟩)] 93)
  rwa [World.size_alloc] at this
 have r2 : Row W3 (w.heap.size + 1 + 1) 93 #[.pointer (some ⟨p, 0, none⟩)] := by
  rw [hW3]
  have := Row.fresh ((w.alloc (.cells #[.int .i64 t] 3)).alloc (.cells #[.slice none 0 0] 59)) 93 #[.pointer (some ⟨p, 0, none⟩)]
  rwa [World.size_alloc, World.size_alloc] at this
 have h3 : WAt W3 p b room came es := h.keep (Only.of_below b3) (Nat.not_le.2 h.row.lt) (Nat.not_le.2 h.md.lt)
 have pl := h.row.lt
 have bl := h.md.lt
 have le64 := h.len
 rw [← hW3]
 clear hW3
 refine wpIn_each rfl (by decide) (gf := 149) (lb := #[.pointer (some ⟨w.heap.size + 1 + 1, 0, none⟩)]) rfl trivial (enters_of Tryz.func149 (by kernel_rfl) rfl)
  (hand14 4 (by decide) h3 r2) (Below.refl _ _) (fun _ => rfl)
  (fun x A B l o o' _ ho hc hw k => takes_from (walks_put o' ho hw) k) (fun x A B l o o' _ ho hc hw k => takes_to k (walks_put o' ho hw))
  (fun pre W => OfI w.heap.size w.heap.size (w.heap.size + 1) w t pre W) (ofI_own (Nat.le_refl _) (by omega))
  ⟨⟨_, r1, World.ownsRow_nil _ _ _ _, trivial⟩, r0, b3⟩
  (OfA (fun (x : En) (g6 g7 : Nat) => ({ tmps := #[.pointer (some ⟨p, 0, none⟩), .int .i64 t, undef, .pointer (some ⟨w.heap.size, 0, none⟩), .slice none 0 0, .pointer (some ⟨w.heap.size + 1, 0, none⟩), .pointer (some ⟨g6, 0, none⟩), .pointer (some ⟨g7, 0, none⟩), .pointer (some ⟨p, 0, none⟩), (.func (.func 149) #[] #[.pointer (some ⟨w.heap.size + 1 + 1, 0, none⟩)]), .agg #[.int .i64 x.s.w.r, .int .i64 x.s.w.p], .agg #[.int .i64 x.s.t, .int .i64 x.n], undef, undef, undef, undef, undef, undef, undef, undef, undef, undef, undef, undef, undef], defers := [] } : Act))) (fun x a' => ofA_own _ _ x a') ?assign ?body ?done
 case assign =>
  intro l pre x W K hI hok hK
  simp only [encE]
  gi_wp2
  have k6 := Row.fresh W 36 #[.int .i64 x.s.w.r, .int .i64 x.s.w.p]
  have k7 := Row.fresh (W.alloc (.cells #[.int .i64 x.s.w.r, .int .i64 x.s.w.p] 36)) 193 #[.int .i64 x.s.t, .int .i64 x.n]
  rw [World.size_alloc] at k7
  have ko : KeepsOthers W ((W.alloc (.cells #[.int .i64 x.s.w.r, .int .i64 x.s.w.p] 36)).alloc (.cells #[.int .i64 x.s.t, .int .i64 x.n] 193)) := (KeepsOthers.alloc W _).trans (KeepsOthers.alloc _ _)
  refine hK _ _ (ko.from _) (fun B k => takes_from (walks_others ko) k) ?_ ⟨_, _, rfl, k6.alloc _, k7⟩
  exact (ofI_own (B := 0 + w.heap.size) (Nat.le_refl _) (by omega)) pre _ _ none ((ofI_own (B := 0 + w.heap.size) (Nat.le_refl _) (by omega)) pre _ _ none hI (World.grownBy_alloc W _ none) (fun r e => by cases e)) (World.grownBy_alloc _ _ none) (fun r e => by cases e)
 case body =>
  rintro l pre x a' W ⟨⟨v, hv, hrow, _⟩, hb, hB⟩ hok ⟨g6, g7, rfl, r6, r7⟩
  obtain ⟨c60, c61⟩ := r6.two
  obtain ⟨c70, c71⟩ := r7.two
  have hc := hv.cell
  have cb : W.cell? ⟨w.heap.size, 0, none⟩ = some (.int .i64 t) := by rw [hb.cell]; rfl
  by_cases e : x.s.t = t
  ·have tt : (x.s.t == t) = true := by simp [e]
   have ln : (ofs pre t).length + 1 ≤ 65 := by
    have h1 := ofs_le pre t
    have h2 : (pre ++ [x]).length ≤ es.length := nodup_le hok.1 hok.2
    rw [List.length_append] at h2
    simp at h2
    omega
   have hm1 : (ofs pre t).length + 1 ≤ maxLen := by unfold maxLen; omega
   have hm2 : ((ofs pre t).length + 1) * 16 ≤ 140737488355328 := by omega
   have hbb : Boxed W w.heap.size 3 (.int .i64 t) := hb
   have hb0 : w.heap.size ≤ W.heap.size := hB.size
   clear ln h h3 b3 r0 r1 r2
   gi_wp2_with (gi_at_builtin; refine wpListIn_append_own _ rfl _ _ 59 rfl w.heap.size 36 i0 (.agg #[.int .i64 0, .int .i64 0]) 2 16 Tryz.underlying59 hi hz0 hz1 hz2 rfl (by decide) _ _ _ rfl (hrow.alloc _) ⟨W.heap.size, 0, none⟩ 1 1 [.int .i64 x.s.w.r, .int .i64 x.s.w.p] rfl rfl (wt_news (Row.fresh _ _ _)) (by simp [Value.oneCell']) hm1 hm2 (by simp; omega) ?_; intro v' w1 hown' hgrow _; obtain ⟨g', cap', rfl⟩ := ownsRow_succ hown'; obtain ⟨hv1, hv2, hr2, hk2, hb2⟩ := hv.appended (by decide) hrow hb0 (Nat.le_succ _) hown' hgrow; have hc1 := hv1.cell; have hf1 := hv1.frozen)
   refine ⟨hk2.from _, takes_walks (walks_others hk2), ⟨_, hv2, by rw [ofs_yes e, List.length_append, List.flatMap_append]; simpa [Wt.cells] using hr2, trivial⟩, ?_, hB.trans hb2⟩
   exact Row.far (show Row w1 w.heap.size 3 #[.int .i64 t] from (hbb.alloc _).kept hgrow (hbb.not_row (by decide) hrow)) (by simp) _
  ·have tt : (x.s.t == t) = false := by simp [e]
   gi_wp2
   exact ⟨KeepsFrom.refl _ _, takes_walks (walks_others (KeepsOthers.refl _)), ⟨v, hv, by rw [ofs_no e]; exact hrow, trivial⟩, hb, hB⟩
 case done =>
  rintro D xs W hD hS ⟨⟨v, hv, hrow, _⟩, hb, hB⟩ hK
  have hc := hv.cell
  have hW := h.keep (Only.of_below hB) (Nat.not_le.2 pl) (Nat.not_le.2 bl)
  have wf := h.wf
  have own : OwnsWt W w.heap.size v (ofs xs t) := hrow
  have SO := Lib.hid ((callsIn_wide (n := 4)).2 (sortV hW own pl bl (fun x hx => by
   obtain ⟨e, he, rfl⟩ := List.mem_map.1 hx
   exact wf e (hS.subset (List.mem_filter.1 he).1)) (by have := ofs_le xs t; have := hS.length_eq; omega)))
  have nb := hv.not_row (by decide) hrow
  have nd : v.ownBlock ≠ some D := fun e => by
   rcases hrow.2 with ⟨hv', _⟩ | ⟨g, cap, cur, hv', _, hh, _⟩
   ·rw [hv'] at e; cases e
   ·rw [hv'] at e
    obtain rfl : g = D := by simpa [Value.ownBlock] using e
    rw [hh] at hK; cases hK
  have BX := Lib.hid hv
  have OV := Lib.hid own
  have KD := Lib.hid hK
  have LB := Lib.hid hB
  have SX := Lib.hid hS
  obtain ⟨a9, n9, k9, rfl⟩ := own_form14 own
  unfold cmpV at SO
  clear hv hrow hb hB hK hW own wf h3 b3 r0 r1 r2 hi hz0 hz1 hz2
  gi_wp2_with (refine ⟨trivial, ?_⟩; gi_at_call 122; refine (SO.out).mono ?_; rintro e w' ⟨rfl, ws', pm, pw, rd, oo⟩; have hc2 := oo.cell hc (fun s => nb s.symm))
  have lD := (Array.getElem?_eq_some_iff.1 KD.out).1
  have wD : w'.heap[D]? = some (.deferred (some [])) := (oo.block D lD nd).trans KD.out
  refine ⟨by simp, .inl ⟨_, _, rfl, run_takeDeferred wD, ?_⟩⟩
  refine ⟨_, results_tmp rfl _ _ _, _, rfl, ?_, ?_⟩
  ·rw [← of_sorted t h.once h.fine h.good.once SX.out pm pw]
   exact rd.put _ wD rfl
  ·refine (LB.out.trans (oo.below LB.out.size (fun i hi s => ?_))).trans (belowK_b (w := w) (Nat.le_refl _) w' D _ _ (by omega) wD rfl rfl)
   have := (OV.out.base_le s).1
   omega
theorem of21 {p b room came : Nat} {es : List En} (t : Int) (w : World) (h : WAt w p b room came es) :
  Calls Tryz.prog 74 #[.pointer (some ⟨p, 0, none⟩), .int .i64 t] w fun e w' => ∃ v', e = .returned v' ∧ RdW w' w.heap.size v' (ofL (seats es) t) ∧ Only n_ w w' := by
 refine ((callsIn_wide (n := 5)).1 (of_in t w h)).mono ?_
 rintro e w' ⟨v', rfl, h1, h2⟩
 exact ⟨v', rfl, h1, (Only.of_below h2).more (fun i hi k => absurd hi (by omega))⟩
end Go.Proofs.YtfbpjobobdidiaaGreatDoor
namespace Go.Proofs.YtfbpjobobdidiaaGreatDoor
open Lib (hid)
open Go.Proofs.Tryz
open Go.RowKit Go.Sort
set_option linter.unusedVariables false
theorem sort_own14 (w:World) (base g cap:Nat) (xs:List Int) (h:OwI w base (.slice (some ⟨g,0,none⟩) xs.length cap) xs) (hs:xs.length<4611686018427387904) :
  Calls prog 118 #[.slice (some ⟨g,0,none⟩) xs.length cap] w λe w'=>e=.returned (.tuple #[])∧OwI w' base (.slice (some ⟨g,0,none⟩) xs.length cap) (xs.mergeSort λx y=>decide (x≤y))∧Only (λk=>k=g) w w':=by
 rcases h.2 with ⟨h0,_⟩|⟨g',cap',cur,hv,hg,hh,h3,h4,h5,h6⟩
 ·cases h0
 cases hv
 rw[one_map,Nat.mul_one] at h6
 have lt:g<w.heap.size:=(Array.getElem?_eq_some_iff.1 hh).1
 refine (Tryz.slices_Sort_int g 0 cap xs w (holds_of_blockI hh h6) lt hs).mono ?_
 rintro e w' ⟨rfl,n,os,rfl⟩
 have gb:=grownBy_sortedI (w:=w) (g:=g) (n:=n) (os:=os) (xs.mergeSort λx y=>decide (x≤y)).toArray
 refine⟨rfl,?_,(Only.of_grown gb).more (λj _ q=>by injection q)⟩
 have hl:(xs.mergeSort λx y=>decide (x≤y)).length=xs.length:=List.length_mergeSort _
 have:=ownsRow_sortedI (n:=n) (os:=os) hl hg hh h3 h4 h5
 show World.ownsRow _ _ _ _ _ (List.length _) _
 rw[one_map,hl]
 exact this
theorem compact_own14 (w:World) (base g cap:Nat) (xs:List Int) (h:OwI w base (.slice (some ⟨g,0,none⟩) xs.length cap) xs) (hs:xs.length≤1000) :
  Calls prog 119 #[.slice (some ⟨g,0,none⟩) xs.length cap] w λe w'=>e=.returned (.slice (some ⟨g,0,none⟩) (Lib.compact xs).length cap)∧OwI w' base (.slice (some ⟨g,0,none⟩) (Lib.compact xs).length cap) (Lib.compact xs)∧Only (λk=>k=g) w w':=by
 rcases h.2 with ⟨h0,_⟩|⟨g',cap',cur,hv,hg,hh,h3,h4,h5,h6⟩
 ·cases h0
 cases hv
 rw[one_map,Nat.mul_one] at h6
 have cl:=Lib.compact_length_le xs
 refine (Tryz.slices_Compact_int g 0 cap xs w (holds_of_blockI hh h6) (by omega) h3).mono ?_
 rintro e w' ⟨rfl,q,hw⟩
 have e0:w'=grow (putRow (Value.int .i64) (Sort.ahead w q) g 0 (Lib.compact xs++List.replicate (xs.length-(Lib.compact xs).length) 0).toArray) #[]:=by rw[hw];simp[grow];rfl
 rw[e0]
 have gb:=grownBy_sortedI (w:=w) (g:=g) (n:=q) (os:=#[]) (Lib.compact xs++List.replicate (xs.length-(Lib.compact xs).length) 0).toArray
 refine⟨rfl,?_,(Only.of_grown gb).more (λj _ q=>by injection q)⟩
 refine⟨by simp[one_map],.inr ⟨g,cap,_,rfl,hg,heap_sortedI _ hh,Nat.le_trans cl h3,h4,by simp[putCells,h5],?_⟩⟩
 rw[Nat.mul_one,one_map]
 have hl:(Lib.compact xs++List.replicate (xs.length-(Lib.compact xs).length) 0).length=xs.length:=by simp;omega
 have tk:=take_putCellsI cur (Lib.compact xs++List.replicate (xs.length-(Lib.compact xs).length) 0) (by rw[hl];omega)
 have:=congrArg (List.take (Lib.compact xs).length) tk
 rw[List.take_take,hl,Nat.min_eq_left cl,List.map_append,List.take_append_of_le_length (by simp),List.take_of_length_le (l:=(Lib.compact xs).map (Value.int .i64)) (by simp)] at this
 exact this
theorem insI_none (p:Option Addr) (cap:Nat) (w:World) :
  Calls prog 161 #[.slice p 0 cap,.int .i64 0,.int .i64 0] w λe w'=>e=.returned (.tuple #[])∧w'=w:=by
 go_enter func161,ntmps161
 go_wp2_with fail
 go_loopw [6] (λx wr=>x=.int .i64 1∧wr=w) (λ_ _=>0)
 case atStart=>exact⟨rfl,rfl⟩
 case round =>
  obtain⟨rfl,rfl⟩:=hrel
  go_wp2_with fail
  go_end0
  exact⟨rfl,rfl⟩
theorem pdqI_none (p:Option Addr) (cap:Nat) (lim:Int) (w:World) :
  Calls prog 150 #[.slice p 0 cap,.int .i64 0,.int .i64 0,.int .i64 lim] w λe w'=>e=.returned (.tuple #[])∧w'=w:=by
 have C:=hid (λW=>insI_none p cap W)
 go_enter func150,ntmps150
 go_wp2_with fail
 go_loopw [1,2] (λx y wr=>x=.int .i64 0∧y=.int .i64 0∧wr=w) (λ_ _ _=>0)
 case atStart=>exact⟨rfl,rfl,rfl⟩
 case round =>
  obtain⟨rfl,rfl,rfl⟩:=hrel
  go_wp2_with fail
  (with_reducible refine (C.out _).mono ?_)
  rintro e W1 ⟨rfl,rfl⟩
  go_wp2_with fail
  refine bodyPost_ret (results_none rfl _ _ _) rfl ?_
  exact⟨rfl,rfl⟩
theorem sort_none14 (p:Option Addr) (cap:Nat) (w:World) :
  Calls prog 118 #[.slice p 0 cap] w λe w'=>e=.returned (.tuple #[])∧w'=w:=by
 have BL:=hid (λW=>Tryz.bits_Len 0 W (by omega) (by omega))
 have C:=hid (λW=>pdqI_none p cap 0 W)
 have z:Lib.bitLen (Int.toNat 0)=0:=by decide
 rw[z] at BL
 clear z
 go_enter func118,ntmps118
 go_wp2_with fail
 (with_reducible refine (BL.out _).mono ?_)
 rintro e w' ⟨rfl,rfl⟩
 go_wp2_with fail
 (with_reducible refine (C.out _).mono ?_)
 rintro e w' ⟨rfl,rfl⟩
 go_wp2_with fail
 go_end0
 exact⟨rfl,rfl⟩
theorem sortI14 (w:World) (base:Nat) (v:Value) (xs:List Int) (h:OwI w base v xs) (hs:xs.length≤1000) :
  Calls prog 118 #[v] w λe w'=>e=.returned (.tuple #[])∧OwI w' base v (xs.mergeSort λx y=>decide (x≤y))∧Only (λk=>v.ownBlock=some k) w w':=by
 have h0:=h
 rcases h.2 with ⟨hv,h2⟩|⟨g,cap,cur,hv,_⟩
 ·have:xs=[]:=List.eq_nil_of_length_eq_zero h2
  subst this
  subst hv
  refine (sort_none14 none 0 w).mono ?_
  rintro e w' ⟨rfl,rfl⟩
  exact⟨rfl,by rw[List.mergeSort_nil];exact h0,Only.refl _ _⟩
 ·subst hv
  refine (sort_own14 w base g cap xs h0 (by omega)).mono ?_
  rintro e w' ⟨rfl,h1,h2⟩
  exact⟨rfl,h1,h2.more (λi _ e=>by subst e;rfl)⟩
theorem compactI14 (w:World) (base:Nat) (v:Value) (xs:List Int) (h:OwI w base v xs) (hs:xs.length≤1000) :
  Calls prog 119 #[v] w λe w'=>∃a n cap,e=.returned (.slice a n cap)∧OwI w' base (.slice a n cap) (Lib.compact xs)∧Only (λk=>v.ownBlock=some k) w w':=by
 have h0:=h
 rcases h.2 with ⟨hv,h2⟩|⟨g,cap,cur,hv,_⟩
 ·have:xs=[]:=List.eq_nil_of_length_eq_zero h2
  subst this
  subst hv
  refine (Tryz.slices_Compact_int_empty none 0 w).mono ?_
  rintro e w' ⟨rfl,rfl⟩
  exact⟨none,0,0,rfl,h0,Only.refl _ _⟩
 ·subst hv
  refine (compact_own14 w base g cap xs h0 hs).mono ?_
  rintro e w' ⟨rfl,h1,h2⟩
  exact⟨_,_,_,rfl,h1,h2.more (λi _ e=>by subst e;rfl)⟩
end Go.Proofs.YtfbpjobobdidiaaGreatDoor
namespace Go.Proofs.YtfbpjobobdidiaaGreatDoor
open Lib (hid)
open Go.Proofs.Tryz
open Go.RowKit Go.Maps
set_option linter.unusedVariables false
def goneE (es:List En) (ws:List Wt):List En:=es.filter (λe=>decide (e.s.w∉ws))
theorem gone_nil (es:List En):goneE es []=es:=by unfold goneE;simp
theorem gone_more (es:List En) (ws:List Wt) (x:Wt):goneE es (ws++[x])=outE (goneE es ws) x:=by
 unfold goneE outE
 rw[List.filter_filter]
 congr 1
 funext e
 simp[Bool.and_comm]
theorem gone_of {es:List En} (o:OnceE es) (t:Int):seats (goneE es (ofL (seats es) t))=leftT (seats es) t:=by
 unfold leftT
 rw[←seats_filter es (λs=>decide (s.t≠t))]
 unfold goneE
 congr 1
 apply List.filter_congr
 intro e he
 rw[←ofE_seats]
 have:e.s.w∈(ofE es t).map (λe=>e.s.w)↔e.s.t=t:=by
  constructor
  ·intro k
   obtain⟨f,hf,k2⟩:=List.mem_map.1 k
   obtain⟨f1,f2⟩:=List.mem_filter.1 hf
   have:=o.inj f1 he k2
   subst this
   simpa using f2
  ·intro k
   exact List.mem_map.2 ⟨e,List.mem_filter.2 ⟨he,by simpa using k⟩,rfl⟩
 simp[this]
theorem gone_good {room came:Nat} {es:List En} (g:GoodR room (seats es)) (f:FineE came es) (ws:List Wt):GoodR room (seats (goneE es ws))∧FineE came (goneE es ws):=by
 have s:(seats (goneE es ws)).Sublist (seats es):=(List.filter_sublist).map _
 refine⟨⟨g.low,g.high,Nat.le_trans s.length_le g.len,(s.map _).nodup g.once,λx hx=>g.may x (s.subset hx)⟩,f.sub List.filter_sublist⟩
theorem take14 {p b room came:Nat} {es:List En} (t:Int) (w:World) (h:WAt w p b room came es) :
  Calls prog 61 #[.pointer (some ⟨p,0,none⟩),.int .i64 t] w λe w'=>∃v',e=.returned v'∧RdW w' w.heap.size v' (ofL (seats es) t)∧(∃es',WAt w' p b room came es'∧seats es'=leftT (seats es) t)∧Only (two14 p b) w w':=by
 have OF:=hid (of21 t w h)
 have H:=hid h
 go_enter func61,ntmps61
 go_wp2_with fail
 (with_reducible refine OF.out.mono ?_)
 rintro e w1 ⟨v,rfl,hv,o⟩
 have O1:=hid o
 have RV:=hid hv
 obtain⟨⟨a,cap,rfl,rd⟩,_⟩:=hv
 clear OF
 have W0:=hid (h.wf)
 obtain⟨ws,hws⟩:∃ws,ofL (seats es) t=ws:=⟨_,rfl⟩
 have WS:=hid hws
 have WF:=hid (show ∀x∈ws,wfW x from λx hx=>by
  rw[←hws,←ofs_seats] at hx
  obtain⟨e,he,rfl⟩:=List.mem_map.1 hx
  exact W0.out e (List.mem_filter.1 he).1)
 rw[hws] at RV rd ⊢
 have lw:ws.length≤64:=by
  have h1:=of_le (seats es) t
  have h2:=H.out.len
  rw[seats_len] at h1
  rw[←hws]
  omega
 have H1:=hid (h.still o)
 have BG:=hid (show ∀g o',a=some ⟨g,o',none⟩→g≠b∧g≠p from λg o' e=>by
  have:=(RV.out.late g (by rw[e];rfl)).1
  have:=H.out.row.lt
  have:=H.out.md.lt
  omega)
 have RD:=hid rd
 clear hws h o rd
 go_wp2_with fail
 go_loopw [13] (λi wr=>∃(k:Nat),k≤ws.length∧i=.int .i64 k∧Md14 wr b (goneE es (ws.take k))∧Only (λj=>j=b) w1 wr) (λi _=>ws.length-(intOf i).toNat)
 case atStart=>exact⟨0,Nat.zero_le _,rfl,by rw[List.take_zero,gone_nil];exact H1.out.md,Only.refl _ _⟩
 case round =>
  obtain⟨k,hk,rfl,hm,ho⟩:=hrel
  have MD:=hid hm
  have OB:=hid ho
  clear hm ho
  by_cases hlt:k<ws.length
  ·obtain⟨x,hx⟩:∃x,ws[k]? = some x:=⟨_,List.getElem?_eq_getElem hlt⟩
   obtain⟨g,o1,rfl,cy0,cy1⟩:=RD.out k x hx
   have gb:=BG.out g o1 rfl
   have c0:wr.cell? ⟨g,o1+k*2,none⟩=some (.int .i64 x.r):=OB.out.cell cy0 gb.1
   have c1:wr.cell? ⟨g,o1+k*2+1,none⟩=some (.int .i64 x.p):=OB.out.cell cy1 gb.1
   have TM:=hid (sxtake hx)
   have wx:=WF.out x (List.mem_of_getElem? hx)
   have o2:=((Only.refl n_ wr).alloc (.cells #[.int .i64 x.r,.int .i64 x.p] 36)).drew
   have R5:=o2.row (OB.out.row H1.out.row H.out.ne) (λs=>s)
   have d1:((wr.alloc (.cells #[.int .i64 x.r,.int .i64 x.p] 36)).drew).cell? ⟨p,1,none⟩=some (.map (some b)):=by rw[R5.cell];rfl
   have XR:Row ((wr.alloc (.cells #[.int .i64 x.r,.int .i64 x.p] 36)).drew) wr.heap.size 36 #[.int .i64 x.r,.int .i64 x.p]:=Row.fresh wr _ _
   obtain⟨x0,x1⟩:=XR.two
   obtain⟨w6,run6,m6,o6,_⟩:=(MD.out.still o2).drop (H.out.once.sub List.filter_sublist) x wx 0
   have M6:=hid (show Md14 w6 b (goneE es (ws.take (k+1))) from by rw[TM.out,gone_more];exact m6)
   have O6:=hid (OB.out.same (o2.then_ o6))
   clear hx cy0 cy1 gb wx o2 R5 XR m6 o6
   go_wp2_with fail
   go_region
   all_goals
    go_wp2_with fail
    go_roundw
    case rel=>exact⟨k+1,by omega,by go_num,M6.out,O6.out⟩
    case measure=>simp[intOf];omega
  ·have hge:ws.length≤k:=by omega
   have TK:=hid (List.take_of_length_le hge)
   rw[TK.out] at MD
   clear hge
   go_wp2_with fail
   go_ret
   have gg:=gone_good H.out.good H.out.fine ws
   refine⟨.slice a ws.length cap,rfl,⟨⟨a,cap,by rw[WS.out],λi x hx=>?_⟩,λg hg=>?_⟩,⟨goneE es ws,⟨OB.out.row H1.out.row H.out.ne,MD.out,gg.2,gg.1⟩,by rw[←WS.out];exact gone_of H.out.once t⟩,O1.out.then_ (OB.out.more (λi _ e=>.inr e))⟩
   ·rw[WS.out] at hx
    obtain⟨g,o',e,c0,c1⟩:=RD.out i x hx
    have gb:=BG.out g o' e
    exact⟨g,o',e,OB.out.cell c0 gb.1,OB.out.cell c1 gb.1⟩
   ·have:=RV.out.late g hg
    exact⟨this.1,Nat.lt_of_lt_of_le this.2 OB.out.size⟩
end Go.Proofs.YtfbpjobobdidiaaGreatDoor
namespace Go.Proofs.YtfbpjobobdidiaaGreatDoor
open Lib (hid)
open Go.Proofs.Tryz
open Go.RowKit Go.Maps Go.Shelf
set_option linter.unusedVariables false
attribute [local go_sem] Oper.semAt_some
def tks (es:List En) (r:Int):List Int:=tkL (seats es) r
theorem seats_more (es:List En) (e:En):seats (es++[e])=seats es++[e.s]:=by unfold seats;rw[List.map_append];rfl
theorem tks_yes {es:List En} {e:En} {r:Int} (h:e.s.w.r=r):tks (es++[e]) r=tks es r++[e.s.t]:=by unfold tks;rw[seats_more];unfold tkL;simp[h]
theorem tks_no {es:List En} {e:En} {r:Int} (h:e.s.w.r≠r):tks (es++[e]) r=tks es r:=by unfold tks;rw[seats_more];unfold tkL;simp[h]
theorem tks_le (es:List En) (r:Int):(tks es r).length≤es.length:=by unfold tks tkL;rw[List.length_map,←seats_len es];exact List.length_filter_le _ _
def offE (es pre:List En) (r:Int):List En:=es.filter (λe=>decide (¬ (e∈pre∧e.s.w.r=r)))
theorem off_nil (es:List En) (r:Int):offE es [] r=es:=by unfold offE;simp
theorem off_no {es pre:List En} {x:En} {r:Int} (h:x.s.w.r≠r):offE es (pre++[x]) r=offE es pre r:=by
 unfold offE
 refine List.filter_congr (λe _=>?_)
 congr 1
 have:(e∈pre++[x]∧e.s.w.r=r)↔(e∈pre∧e.s.w.r=r):=by
  rw[List.mem_append,List.mem_singleton]
  exact⟨λ⟨a,b⟩=>⟨a.elim id (λk=>absurd (k▸b) h),b⟩,λ⟨a,b⟩=>⟨.inl a,b⟩⟩
 rw[this]
theorem off_yes {es pre:List En} {x:En} {r:Int} (o:OnceE es) (hx:x∈es) (h:x.s.w.r=r):offE es (pre++[x]) r=outE (offE es pre r) x.s.w:=by
 unfold offE outE
 rw[List.filter_filter]
 refine List.filter_congr (λe he=>?_)
 by_cases k:e.s.w=x.s.w
 ·have:e=x:=o.inj he hx k
  subst this
  simp[h]
 ·have:e≠x:=λq=>k (by rw[q])
  simp[this,k]
theorem off_all {es xs:List En} (h:xs.Perm es) (r:Int):seats (offE es xs r)=leftR (seats es) r:=by
 unfold leftR
 rw[←seats_filter es (λs=>decide (s.w.r≠r))]
 unfold offE
 congr 1
 refine List.filter_congr (λe he=>?_)
 have:e∈xs:=h.mem_iff.2 he
 simp[this]
theorem off_good {room came:Nat} {es xs:List En} (g:GoodR room (seats es)) (f:FineE came es) (r:Int):GoodR room (seats (offE es xs r))∧FineE came (offE es xs r):=by
 have s:(seats (offE es xs r)).Sublist (seats es):=(List.filter_sublist).map _
 refine⟨⟨g.low,g.high,Nat.le_trans s.length_le g.len,(s.map _).nodup g.once,λx hx=>g.may x (s.subset hx)⟩,f.sub List.filter_sublist⟩
theorem only_grown {W W':World} {row:Option Nat} (h:W.grownBy W' row):Only (λk=>row=some k) W W':=⟨h.os,h.tape,h.output,h.size,λk hk hn=>h.block k hk (λe=>hn e.symm)⟩
theorem Row.not_own {W:World} {g:Nat} {t e:TypeId} {cs:Array Value} (h:Row W g t cs) (hte:t≠e) {base size k:Nat} {v:Value} {xs:List Value} (hr:W.ownsRow base e size v k xs):v.ownBlock≠some g:=by
 rcases hr.2 with ⟨rfl,_⟩|⟨g',cap,cur,rfl,_,hgb,_⟩
 ·simp[Value.ownBlock]
 ·intro e'
  obtain rfl:g'=g:=by simpa [Value.ownBlock] using e'
  have:=(show W.heap[g']? = _ from h).symm.trans hgb
  simp at this
  exact hte this.2
theorem own_low {W:World} {base base':Nat} {e:TypeId} {size k:Nat} {v:Value} {xs:List Value} (h:W.ownsRow base e size v k xs) (hb:base'≤base):W.ownsRow base' e size v k xs:=by
 refine⟨h.1,?_⟩
 rcases h.2 with h2|⟨g,cap,cur,hv,hg,r⟩
 ·exact .inl h2
 ·exact .inr ⟨g,cap,cur,hv,Nat.le_trans hb hg,r⟩
theorem KeepsOthers.of_only {W W':World} (h:Only n_ W W'):KeepsOthers W W':=⟨h.size,λk o hk _=>(h.block k (Array.getElem?_eq_some_iff.1 hk).1 (λs=>s)).trans hk⟩
structure QuI (n1 Bg Br Bw p b:Nat) (w0:World) (es:List En) (r:Int) (pre:List En) (W:World):Prop where
 row:∃v,Boxed W Bw 44 v∧W.ownsRow n1 3 1 v (tks pre r).length ((tks pre r).map (Value.int .i64))∧True
 boxr:Row W Br 3 #[.int .i64 r]
 boxg:Row W Bg 93 #[.pointer (some ⟨p,0,none⟩)]
 low:Only (λk=>k=b) w0 W
 md:Md14 W b (offE es pre r)
 size:n1≤W.heap.size
theorem quI_own {n0 n1 Bg Br Bw p b B:Nat} {w0:World} {es:List En} {r:Int} (hb:b<B) (hz:w0.heap.size≤B):OwnFrom B (λpre W=>QuI n1 Bg Br Bw p b w0 es r pre W):=λs W W' row hs hg hr =>
 ⟨(Own.from (holdsRow_own n1 Bw 44 3 1 (λ(pre:List En)=>(tks pre r).length) (λ(pre:List En)=>(tks pre r).map (Value.int .i64)) (λ_ _=>True)) B) s W W' row hs.row hg hr,row_kept hs.boxr hg (λr e=>(hr r e).2),row_kept hs.boxg hg (λr e=>(hr r e).2),
  ⟨(only_grown hg).os.trans hs.low.os,(only_grown hg).tape.trans hs.low.tape,(only_grown hg).output.trans hs.low.output,Nat.le_trans hs.low.size (only_grown hg).size,λk hk hn=>((only_grown hg).block k (Nat.lt_of_lt_of_le hk hs.low.size) (λe=>by have:=(hr k e).1;omega)).trans (hs.low.block k hk hn)⟩,
  hs.md.keep (only_grown hg) (λe=>by have:=(hr b e).1;omega),Nat.le_trans hs.size (only_grown hg).size⟩
theorem takes_drop {W W' W6:World} {b:Nat} {x:En} (h:KeepsWalks W W') (rg:∀r n D left cnt,W'.ranges prog 36 stElem b r n D left cnt→∃cnt',W6.ranges prog 36 stElem b r n (D.del (klit x.s.w)) (λz=>left z&&!z.sameKey (klit x.s.w)) cnt'∧cnt'≤cnt):Takes b x W W6:=by
 intro r n D left cnt q hr
 obtain⟨cnt',h1,h2⟩:=rg r n D left cnt (hr.of_walks h)
 have e:(λz:Lit=>left z&&!z.sameKey (klit x.s.w))=left:=by
  funext z
  by_cases k:z.sameKey (klit x.s.w)=true
  ·have:z=klit x.s.w:=by
    by_cases k2:z=klit x.s.w
    ·exact k2
    ·rw[Maps.sameKey_ne k2] at k;cases k
   rw[this,q];rfl
  ·simp[k]
 rw[e] at h1
 exact⟨_,cnt',h1,h2,.inr rfl⟩
theorem quit_in {p b room came:Nat} {es:List En} (r:Int) (w:World) (h:WAt w p b room came es) :
  CallsIn Fence.wide 5 prog 72 #[.pointer (some ⟨p,0,none⟩),.int .i64 r] w λe w'=>∃v',e=.returned v'∧OwI w' w.heap.size v' (quitI (seats es) r)∧(∃es',WAt w' p b room came es'∧seats es'=leftR (seats es) r)∧Only (λk=>k=b) w w':=by
 have FL:=λw1=>hid ((callsIn_wide (n:=4)).2 (all_any p w1))
 obtain⟨i0,hi,hz0,hz1,hz2⟩:=info_partsR info_int8
 refine callsIn_of_wp_marks func72 rfl trivial ?_ rfl
 simp only[ntmps72,List.size_toArray,List.length_cons,List.length_nil,Nat.reduceAdd,Nat.reduceSub,Array.replicate_succ,Array.replicate_zero,List.push_toArray,List.append_toArray,List.nil_append,List.cons_append]
 gi_wp2_with (refine⟨trivial,?_⟩;gi_at_call 117;refine ((FL _).out).mono ?_;rintro e w' ⟨rfl,rfl⟩)
 obtain⟨W3,hW3⟩:∃W3,W3=(((w.alloc (.cells #[.pointer (some ⟨p,0,none⟩)] 93)).alloc (.cells #[.int .i64 r] 3)).alloc (.cells #[.slice none 0 0] 44)).alloc (.cells #[.pointer (some ⟨p,0,none⟩)] 93):=⟨_,rfl⟩
 have z3:W3.heap.size=w.heap.size+4:=by rw[hW3];simp
 have b3:Only n_ w W3:=by rw[hW3];exact ((((Only.refl n_ w).alloc _).alloc _).alloc _).alloc _
 have rg:Row W3 w.heap.size 93 #[.pointer (some ⟨p,0,none⟩)]:=by rw[hW3];exact (((Row.fresh w 93 #[.pointer (some ⟨p,0,none⟩)]).alloc _).alloc _).alloc _
 have r0:Row W3 (w.heap.size+1) 3 #[.int .i64 r]:=by
  rw[hW3]
  have:=((Row.fresh (w.alloc (.cells #[.pointer (some ⟨p,0,none⟩)] 93)) 3 #[.int .i64 r]).alloc (.cells #[.slice none 0 0] 44)).alloc (.cells #[.pointer (some ⟨p,0,none⟩)] 93)
  rwa [World.size_alloc] at this
 have r1:Boxed W3 (w.heap.size+1+1) 44 (.slice none 0 0):=by
  rw[hW3]
  have:=(Boxed.new ((w.alloc (.cells #[.pointer (some ⟨p,0,none⟩)] 93)).alloc (.cells #[.int .i64 r] 3)) 44 (.slice none 0 0)).alloc (.cells #[.pointer (some ⟨p,0,none⟩)] 93)
  rwa [World.size_alloc,World.size_alloc] at this
 have r2:Row W3 (w.heap.size+1+1+1) 93 #[.pointer (some ⟨p,0,none⟩)]:=by
  rw[hW3]
  have:=Row.fresh (((w.alloc (.cells #[.pointer (some ⟨p,0,none⟩)] 93)).alloc (.cells #[.int .i64 r] 3)).alloc (.cells #[.slice none 0 0] 44)) 93 #[.pointer (some ⟨p,0,none⟩)]
  rwa [World.size_alloc,World.size_alloc,World.size_alloc] at this
 have h3:WAt W3 p b room came es:=h.still b3
 have pl:=h.row.lt
 have bl:=h.md.lt
 have pb:=h.ne
 have le64:=h.len
 rw[←hW3]
 clear hW3
 refine wpIn_each rfl (by decide) (gf:=149) (lb:=#[.pointer (some ⟨w.heap.size+1+1+1,0,none⟩)]) rfl trivial (enters_of func149 (by kernel_rfl) rfl)
  (hand14 4 (by decide) h3 r2) (Below.refl _ _) (λ_=>rfl)
  (λx A B l o o' _ ho hc hw k=>takes_from (walks_put o' ho hw) k) (λx A B l o o' _ ho hc hw k=>takes_to k (walks_put o' ho hw))
  (λpre W=>QuI W3.heap.size w.heap.size (w.heap.size+1) (w.heap.size+1+1) p b w es r pre W) (quI_own (n0:=0) (by omega) (by omega))
  ⟨⟨_,r1,World.ownsRow_nil _ _ _ _,trivial⟩,r0,rg,b3.up,by rw[off_nil];exact h3.md,Nat.le_refl _⟩
  (OfA (λ(x:En) (g6 g7:Nat)=>({ tmps:=#[.pointer (some ⟨p,0,none⟩),.int .i64 r,.pointer (some ⟨w.heap.size,0,none⟩),.pointer (some ⟨w.heap.size+1,0,none⟩),.slice none 0 0,.pointer (some ⟨w.heap.size+1+1,0,none⟩),.pointer (some ⟨g6,0,none⟩),.pointer (some ⟨g7,0,none⟩),.pointer (some ⟨p,0,none⟩),(.func (.func 149) #[] #[.pointer (some ⟨w.heap.size+1+1+1,0,none⟩)]),.agg #[.int .i64 x.s.w.r,.int .i64 x.s.w.p],.agg #[.int .i64 x.s.t,.int .i64 x.n],undef,undef,undef,undef,undef,undef,undef,undef,undef,undef,undef,undef,undef,undef,undef,undef,undef,undef],defers:=[] }:Act))) (λx a'=>ofA_own _ _ x a') ?assign ?body ?done
 case assign =>
  intro l pre x W K hI hok hK
  simp only[encE]
  gi_wp2
  have k6:=Row.fresh W 36 #[.int .i64 x.s.w.r,.int .i64 x.s.w.p]
  have k7:=Row.fresh (W.alloc (.cells #[.int .i64 x.s.w.r,.int .i64 x.s.w.p] 36)) 193 #[.int .i64 x.s.t,.int .i64 x.n]
  rw[World.size_alloc] at k7
  have ko:KeepsOthers W ((W.alloc (.cells #[.int .i64 x.s.w.r,.int .i64 x.s.w.p] 36)).alloc (.cells #[.int .i64 x.s.t,.int .i64 x.n] 193)):=(KeepsOthers.alloc W _).trans (KeepsOthers.alloc _ _)
  refine hK _ _ (ko.from _) (λB k=>takes_from (walks_others ko) k) ?_ ⟨_,_,rfl,k6.alloc _,k7⟩
  exact (quI_own (n0:=0) (B:=W3.heap.size) (by omega) (by omega)) pre _ _ none ((quI_own (n0:=0) (B:=W3.heap.size) (by omega) (by omega)) pre _ _ none hI (World.grownBy_alloc W _ none) (λr e=>by cases e)) (World.grownBy_alloc _ _ none) (λr e=>by cases e)
 case body =>
  rintro l pre x a' W ⟨⟨v,hv,hrow,_⟩,hb,hbg,hB,hm,hsz⟩ hok ⟨g6,g7,rfl,r6,r7⟩
  obtain⟨c60,c61⟩:=r6.two
  obtain⟨c70,c71⟩:=r7.two
  have hc:=hv.cell
  have cb:W.cell? ⟨w.heap.size+1,0,none⟩=some (.int .i64 r):=by rw[hb.cell];rfl
  have xes:x∈es:=hok.2 x (by simp)
  by_cases e:x.s.w.r=r
  ·have tt:(x.s.w.r==r)=true:=by simp[e]
   have ln:(tks pre r).length+1≤65:=by
    have h1:=tks_le pre r
    have h2:(pre++[x]).length≤es.length:=nodup_le hok.1 hok.2
    rw[List.length_append] at h2
    simp at h2
    omega
   have hm1:(tks pre r).length+1≤maxLen:=by unfold maxLen;omega
   have hm2:((tks pre r).length+1)*8≤140737488355328:=by omega
   have hrow0:=hrow
   have own1:OwI W W3.heap.size v (tks pre r):=by unfold OwI Owns;rw[one_map];exact hrow
   have ne6:=Row.not_own r6 (by decide) hrow
   have neg:=Row.not_own hbg (by decide) hrow
   have ner:v.ownBlock≠some (w.heap.size+1):=λq=>by have:=(own1.base_le q).1;omega
   have nep:∀k,k<w.heap.size→v.ownBlock≠some k:=λk hk q=>by have:=(own1.base_le q).1;omega
   have wx:=h.wf x xes
   have hR3:=hB.row h.row pb
   have neB:g6≠w.heap.size+1+1:=r6.apart (show Row W (w.heap.size+1+1) 44 #[v] from hv) (by decide)
   have E:=hid e
   have once:=h.once
   clear e ln h h3 r0 r1 r2 rg b3
   gi_wp2_with (first
    | (gi_at_builtin;refine wpListIn_append_own _ rfl _ _ 44 rfl W3.heap.size 3 i0 (.int .i64 0) 1 8 underlying44 hi hz0 hz1 hz2 rfl (by decide) _ _ _ rfl (hrow.alloc _) ⟨W.heap.size,0,none⟩ 1 1 [.int .i64 x.s.t] rfl rfl (cell_one_new _ _ _) (by simp[Value.oneCell']) hm1 hm2 (by simp;omega) ?_;intro v' w1 hown' hgrow _;obtain⟨g',cap',rfl⟩:=ownsRow_succ hown';have hv1:=(hv.alloc _).kept hgrow (hv.not_row (by decide) hrow);have hc1:=hv1.cell;have hf1:=hv1.frozen)
    | fail)
   obtain⟨vv,hvv⟩:∃vv:Value,vv=.slice (some ⟨g',0,none⟩) ((tks pre r).length+1) cap':=⟨_,rfl⟩
   rw[←hvv] at hown' ⊢
   have ap:=hv.appended (n₀:=w.heap.size) (by decide) (own_low hrow (by omega)) (Nat.le_trans hB.size (Nat.le_refl _)) (Nat.le_succ_of_le (Nat.le_succ _)) (own_low hown' (by omega)) hgrow
   have hk2:=ap.2.2.2.1
   have kA:Only (λk=>v.ownBlock=some k∨k=w.heap.size+1+1) W (w1.setCell ⟨w.heap.size+1+1,0,none⟩ vv):=(((Only.refl (λk=>v.ownBlock=some k∨k=w.heap.size+1+1) W).alloc _).same ((only_grown hgrow).more (λi _ e=>.inl e))).put (p:=⟨w.heap.size+1+1,0,none⟩) (λ_=>.inr rfl) vv
   have hv5:=hv1.set vv
   have own5:=hown'.kept (grownBy_setCell' w1 (w.heap.size+1+1) vv) (.inr (hv1.not_row (by decide) hown').symm)
   obtain⟨W5,hW5⟩:∃W5,W5=w1.setCell ⟨w.heap.size+1+1,0,none⟩ vv:=⟨_,rfl⟩
   rw[←hW5] at hk2 kA hv5 own5 ⊢
   have own6:OwI W5 W3.heap.size vv (tks (pre++[x]) r):=by
    unfold OwI Owns
    rw[one_map,tks_yes E.out,List.length_append]
    simpa using own5
   have q6:=kA.row r6 (λs=>s.elim ne6 neB)
   have qg:=kA.row hbg (λs=>s.elim neg (by omega))
   have qr:=kA.row hb (λs=>s.elim ner (by omega))
   have qp:=kA.row hR3 (λs=>s.elim (nep p pl) (by omega))
   have qm:=hm.keep kA (λs=>s.elim (nep b bl) (by omega))
   have ql:Only (λk=>k=b) w W5:=hB.trans kA (λi hi s=>(s.elim (λs=>absurd s (nep i hi)) (λs=>by omega)))
   have od:=(Only.refl n_ W5).drew
   obtain⟨e0,e1⟩:=(od.row q6 (λs=>s)).two
   have eg:W5.drew.cell? ⟨w.heap.size,0,none⟩=some (.pointer (some ⟨p,0,none⟩)):=by rw[(od.row qg (λs=>s)).cell];rfl
   have ep:W5.drew.cell? ⟨p,1,none⟩=some (.map (some b)):=by rw[(od.row qp (λs=>s)).cell];rfl
   obtain⟨w6,run6,m6,o6,rg6⟩:=(qm.still od).drop (once.sub List.filter_sublist) x.s.w wx 0
   have FIN:=hid (show GoesOn W3.heap.size (Takes b) (λpre W=>QuI W3.heap.size w.heap.size (w.heap.size+1) (w.heap.size+1+1) p b w es r pre W) pre x W .normal { tmps:=#[],defers:=[] } w6 from by
    have o56:=od.then_ o6
    refine⟨⟨Nat.le_trans hk2.size o56.size,λk o hk hh hc=>?_⟩,takes_drop (walks_others (hk2.trans (KeepsOthers.of_only od))) rg6,⟨vv,o56.row (show Row W5 (w.heap.size+1+1) 44 #[vv] from hv5) (by omega),?_,trivial⟩,o56.row qr (by omega),o56.row qg (by omega),ql.same o56,?_,Nat.le_trans hsz (Nat.le_trans hk2.size o56.size)⟩
    ·have h5:=hk2.same k o hh hc
     exact (o56.block k (Array.getElem?_eq_some_iff.1 h5).1 (by omega)).trans h5
    ·have:=own6.keep o56 (λg hg e=>by have:=(own6.base_le hg).1;omega)
     unfold OwI Owns at this
     rw[one_map] at this
     exact this
    ·rw[off_yes once xes E.out];exact m6)
   clear hk2 kA hv5 own5 q6 qg qr qp qm ql od m6 o6 rg6 ap hown' hgrow hv1 hc1 hf1 own6 hW5 hvv
   gi_region
   all_goals
    gi_wp2
    exact FIN.out
  ·have tt:(x.s.w.r==r)=false:=by simp[e]
   gi_wp2
   exact⟨KeepsFrom.refl _ _,takes_walks (walks_others (KeepsOthers.refl _)),⟨v,hv,by rw[tks_no e];exact hrow,trivial⟩,hb,hbg,hB,by rw[off_no e];exact hm,hsz⟩
 case done =>
  rintro D xs W hD hS ⟨⟨v,hv,hrow,_⟩,hb,hbg,hB,hm,hsz⟩ hK
  have hc:=hv.cell
  have own:OwI W W3.heap.size v (tks xs r):=by unfold OwI Owns;rw[one_map];exact hrow
  have tl:(tks xs r).length≤1000:=by have:=tks_le xs r;have:=hS.length_eq;omega
  have SO:=hid ((callsIn_wide (n:=4)).2 (sortI14 W _ v _ own tl))
  have nb:=hv.not_row (by decide) hrow
  have nd:v.ownBlock≠some D:=λe=>by
   rcases hrow.2 with ⟨hv',_⟩|⟨g,cap,cur,hv',_,hh,_⟩
   ·rw[hv'] at e;cases e
   ·rw[hv'] at e
    obtain rfl:g=D:=by simpa [Value.ownBlock] using e
    rw[hh] at hK;cases hK
  have nv:∀k,k<w.heap.size→v.ownBlock≠some k:=λk hk q=>by have:=(own.base_le q).1;omega
  have RP:=hid (hB.row h.row pb)
  have KD:=hid hK
  have LB:=hid hB
  have MB:=hid hm
  have SX:=hid hS
  obtain⟨a9,n9,k9,rfl⟩:=own_form14 own
  clear hv hrow hb hbg hB hm hK own h3 b3 r0 r1 r2 rg hi hz0 hz1 hz2
  gi_wp2_with (first
   | (refine⟨trivial,?_⟩;gi_at_call 118;refine (SO.out).mono ?_;rintro e w1 ⟨rfl,own1,oo⟩;have hc2:=oo.cell hc (λs=>nb s.symm))
   | (refine⟨trivial,?_⟩;gi_at_call 119;refine ((callsIn_wide (n:=4)).2 (compactI14 _ _ _ _ own1 (by rw[List.length_mergeSort];exact tl))).mono ?_;rintro e w2 ⟨a,n,cp,rfl,own2,oo2⟩))
  have o12:=oo.same oo2
  have lD:=(Array.getElem?_eq_some_iff.1 KD.out).1
  have wD:w2.heap[D]? = some (.deferred (some [])):=(o12.block D lD nd).trans KD.out
  have oD:=only_grown (grownBy_putObj' w2 D (.deferred none))
  have rp:=o12.row RP.out (nv p pl)
  have mb:=MB.out.keep o12 (nv b bl)
  refine⟨by simp,.inl ⟨_,_,rfl,run_takeDeferred wD,?_⟩⟩
  have gg:=off_good (xs:=xs) h.good h.fine r
  refine⟨_,results_tmp rfl _ _ _,_,rfl,?_,⟨offE es xs r,⟨oD.row rp (λe=>by injection e;omega),mb.keep oD (λe=>by injection e;omega),gg.2,gg.1⟩,off_all SX.out r⟩,?_⟩
  ·have hp:(tks xs r).Perm (tkL (seats es) r):=by
    unfold tks tkL seats
    exact (((SX.out.map _).filter _).map _)
   rw[←compact_quit hp]
   exact own_low (ownsRow_putObj own2 (.deferred none) wD rfl) (by omega)
  ·exact (LB.out.trans o12 (λi hi s=>absurd s (nv i hi))).trans oD (λi hi s=>by injection s;omega)
theorem quit17 {p b room came:Nat} {es:List En} (r:Int) (w:World) (h:WAt w p b room came es) :
  Calls prog 72 #[.pointer (some ⟨p,0,none⟩),.int .i64 r] w λe w'=>∃v',e=.returned v'∧OwI w' w.heap.size v' (quitI (seats es) r)∧(∃es',WAt w' p b room came es'∧seats es'=leftR (seats es) r)∧Only (two14 p b) w w':=by
 refine ((callsIn_wide (n:=5)).1 (quit_in r w h)).mono ?_
 rintro e w' ⟨v',rfl,h1,h2,h3⟩
 exact⟨v',rfl,h1,h2,h3.more (λi _ e=>.inr e)⟩
end Go.Proofs.YtfbpjobobdidiaaGreatDoor
namespace Go.Proofs.YtfbpjobobdidiaaGreatDoor
open Lib (hid)
open Go.Proofs.Tryz
open Go.RowKit
set_option linter.unusedVariables false
def IsTk (v:Value):Prop:=∃(a0 a1 a2 a3 a4 a5:Int) (b6 b7 b8:Bool),v=.agg #[.int .i64 a0,.int .i64 a1,.int .i64 a2,.int .i64 a3,.int .i64 a4,.int .i64 a5,.bool b6,.bool b7,.bool b8]
theorem rof0 (o:Opt) (T D A:Value) (n x:Int) (p:Nat) (w:World) (h:Row w p 110 (engC16 o T D A (.slice none 0 0) n)) :
  Calls prog 126 #[.pointer (some ⟨p,0,none⟩),.int .i64 x] w λe w'=>e=.returned (.slice none 0 0)∧w=w':=by
 have c17:w.cell? ⟨p,17,none⟩=some (.slice none 0 0):=h.cell 17
 clear h
 go_enter func126,ntmps126
 go_wp2_with fail
 go_loopw [5,6] (λv i wr=>v=.slice none 0 0∧i=.int .i64 0∧w=wr) (λ_ _ _=>0)
 case atStart=>exact⟨rfl,rfl,rfl⟩
 case round =>
  obtain⟨rfl,rfl,rfl⟩:=hrel
  go_wp2_with fail
  go_ret
  exact⟨rfl,rfl⟩
theorem tickCells {w:World} {base g cap:Nat} {q:Int × Int × Int × Int} (h:Owns w base 154 10 tickC (.slice (some ⟨g,0,none⟩) 1 cap) [q]) :
  w.cell? ⟨g,0,none⟩=some (.int .i64 1)∧w.cell? ⟨g,1,none⟩=some (.int .i64 q.1)∧w.cell? ⟨g,2,none⟩=some (.int .i64 q.2.1)∧w.cell? ⟨g,3,none⟩=some (.int .i64 q.2.2.1)∧w.cell? ⟨g,4,none⟩=some (.int .i64 0)∧w.cell? ⟨g,5,none⟩=some (.int .i64 0)∧w.cell? ⟨g,6,none⟩=some (.bool false)∧w.cell? ⟨g,7,none⟩=some (.bool false)∧w.cell? ⟨g,8,none⟩=some (.bool false):=by
 have c:=λj (hj:j<10)=>(show w.cell? ⟨g,0*10+j,none⟩=(tickC q)[j]? from Owns.cell (xs:=[q]) h tickC10 rfl hj)
 simp only[Nat.zero_mul,Nat.zero_add] at c
 exact⟨c 0 (by omega),c 1 (by omega),c 2 (by omega),c 3 (by omega),c 4 (by omega),c 5 (by omega),c 6 (by omega),c 7 (by omega),c 8 (by omega)⟩
theorem Row.put9R {w:World} {g:Nat} {t:TypeId} {a0 a1 a2 a3 a4 a5 a6 a7 a8:Value} (h:Row w g t #[a0,a1,a2,a3,a4,a5,a6,a7,a8]) (x0 x1 x2 x3 x4 x5 x6 x7 x8:Value):Row (((((((((w.setCell ⟨g,0,none⟩ x0).setCell ⟨g,1,none⟩ x1).setCell ⟨g,2,none⟩ x2).setCell ⟨g,3,none⟩ x3).setCell ⟨g,4,none⟩ x4).setCell ⟨g,5,none⟩ x5).setCell ⟨g,6,none⟩ x6).setCell ⟨g,7,none⟩ x7).setCell ⟨g,8,none⟩ x8) g t #[x0,x1,x2,x3,x4,x5,x6,x7,x8]:=by
 have k:=((((((((h.put 0 x0).put 1 x1).put 2 x2).put 3 x3).put 4 x4).put 5 x5).put 6 x6).put 7 x7).put 8 x8
 simpa using k
theorem only9R (w:World) (g:Nat) (x0 x1 x2 x3 x4 x5 x6 x7 x8:Value):Only (λk=>k=g) w (((((((((w.setCell ⟨g,0,none⟩ x0).setCell ⟨g,1,none⟩ x1).setCell ⟨g,2,none⟩ x2).setCell ⟨g,3,none⟩ x3).setCell ⟨g,4,none⟩ x4).setCell ⟨g,5,none⟩ x5).setCell ⟨g,6,none⟩ x6).setCell ⟨g,7,none⟩ x7).setCell ⟨g,8,none⟩ x8):=by
 have st:∀(w':World) (i:Nat) (v:Value),Only (λk=>k=g) w w'→Only (λk=>k=g) w (w'.setCell ⟨g,i,none⟩ v):=λw' i v h=>h.into rfl i v
 exact st _ _ _ (st _ _ _ (st _ _ _ (st _ _ _ (st _ _ _ (st _ _ _ (st _ _ _ (st _ _ _ (st _ _ _ (Only.refl _ _)))))))))
theorem rtell0 (o:Opt) (D A:Value) (n kk b l v:Int) (gT cT base:Nat) (p:Nat) (w:World) (h:Row w p 110 (engC16 o (.slice (some ⟨gT,0,none⟩) 1 cT) D A (.slice none 0 0) n)) (ht:Owns w base 154 10 tickC (.slice (some ⟨gT,0,none⟩) 1 cT) [(kk,b,l,v)]) :
  Calls prog 85 #[.pointer (some ⟨p,0,none⟩),.int .i64 0] w λe w'=>e=.returned (.agg #[.int .i64 1,.int .i64 kk,.int .i64 b,.int .i64 l,.int .i64 0,.int .i64 0,.bool false,.bool false,.bool false])∧Only n_ w w':=by
 obtain⟨W1,hW1⟩:∃W1,W1=w.alloc (.cells #[.int .i64 0,.int .i64 0,.int .i64 0,.int .i64 0,.int .i64 0,.int .i64 0,.bool false,.bool false,.bool false] 54):=⟨_,rfl⟩
 have o1:Only n_ w W1:=by rw[hW1];exact (Only.refl _ _).alloc _
 have h1:=o1.still h
 have ht1:=ht.still o1
 have rz:Row W1 w.heap.size 54 #[.int .i64 0,.int .i64 0,.int .i64 0,.int .i64 0,.int .i64 0,.int .i64 0,.bool false,.bool false,.bool false]:=by rw[hW1];exact Row.fresh _ _ _
 have c14:W1.cell? ⟨p,14,none⟩=some (.slice (some ⟨gT,0,none⟩) 1 cT):=h1.cell 14
 obtain⟨t0,t1,t2,t3,t4,t5,t6,t7,t8⟩:=tickCells ht1
 have OF:=hid (λ(W:World) (oo:Only n_ W1 W)=>rof0 o _ _ _ _ 1 p W (oo.still h1))
 have O1:=hid o1
 have RZ:=hid rz
 clear h ht h1 ht1 o1 rz
 go_enter func85,ntmps85
 go_upto_region 1 with fail
 rw[←hW1]
 clear hW1
 go_upto_region 2 with fail
 obtain⟨W2,hW2⟩:∃W2,W2=W1.alloc (.cells #[.int .i64 1,.int .i64 kk,.int .i64 b,.int .i64 l,.int .i64 0,.int .i64 0,.bool false,.bool false,.bool false] 54):=⟨_,rfl⟩
 have o2:Only n_ W1 W2:=by rw[hW2];exact (Only.refl _ _).alloc _
 have r2:Row W2 W1.heap.size 54 #[.int .i64 1,.int .i64 kk,.int .i64 b,.int .i64 l,.int .i64 0,.int .i64 0,.bool false,.bool false,.bool false]:=by rw[hW2];exact Row.fresh _ _ _
 have OF2:=hid (OF.out W2 o2)
 have RZ2:=hid (o2.still RZ.out)
 have O2:=hid (O1.out.same o2)
 have R2:=hid r2
 have NE:=hid (show W1.heap.size≠w.heap.size from λe=>by have:=RZ.out.lt;omega)
 have LE1:=hid (show w.heap.size≤W1.heap.size from O1.out.size)
 rw[←hW2]
 clear hW2 o2 r2 OF RZ O1 c14 t0 t1 t2 t3 t4 t5 t6 t7 t8
 generalize W1.heap.size=g1 at *
 obtain⟨q0,q1,q2,q3,q4,q5,q6,q7,q8⟩:=nineR R2.out
 have z5:=R2.out.frozen 5
 go_wp2_with fail
 (with_reducible refine OF2.out.mono ?_)
 rintro e w3 ⟨rfl,rfl⟩
 go_upto_region 3 with fail
 obtain⟨W3,hW3⟩:∃W3,W3=W2.setCell ⟨g1,5,none⟩ (.int .i64 0):=⟨_,rfl⟩
 have r3:Row W3 g1 54 #[.int .i64 1,.int .i64 kk,.int .i64 b,.int .i64 l,.int .i64 0,.int .i64 0,.bool false,.bool false,.bool false]:=by rw[hW3];exact R2.out.put 5 (.int .i64 0)
 have rz3:Row W3 w.heap.size 54 #[.int .i64 0,.int .i64 0,.int .i64 0,.int .i64 0,.int .i64 0,.int .i64 0,.bool false,.bool false,.bool false]:=by rw[hW3];exact RZ2.out.far (p:=⟨g1,5,none⟩) (λe=>NE.out (show g1=w.heap.size from (show w.heap.size=g1 from e).symm)) _
 have o3:Only n_ w W3:=by rw[hW3];exact O2.out.new LE1.out 5 _
 rw[←hW3]
 clear hW3 q0 q1 q2 q3 q4 q5 q6 q7 q8 z5 OF2
 obtain⟨q0,q1,q2,q3,q4,q5,q6,q7,q8⟩:=nineR r3
 obtain⟨y0,y1,y2,y3,y4,y5,y6,y7,y8⟩:=nineR rz3
 have zf:=rz3.frozen
 have R9:=rz3.put9R (.int .i64 1) (.int .i64 kk) (.int .i64 b) (.int .i64 l) (.int .i64 0) (.int .i64 0) (.bool false) (.bool false) (.bool false)
 have O9:=hid (o3.trans ((only9R W3 w.heap.size (.int .i64 1) (.int .i64 kk) (.int .i64 b) (.int .i64 l) (.int .i64 0) (.int .i64 0) (.bool false) (.bool false) (.bool false)).more (S':=λk=>w.heap.size≤k) (λ_ _ e=>by rw[e];exact Nat.le_refl _)) (λi hi s=>absurd hi (by omega)))
 go_wp2_with fail
 generalize (((((((((W3.setCell ⟨w.heap.size,0,none⟩ (.int .i64 1)).setCell ⟨w.heap.size,1,none⟩ (.int .i64 kk)).setCell ⟨w.heap.size,2,none⟩ (.int .i64 b)).setCell ⟨w.heap.size,3,none⟩ (.int .i64 l)).setCell ⟨w.heap.size,4,none⟩ (.int .i64 0)).setCell ⟨w.heap.size,5,none⟩ (.int .i64 0)).setCell ⟨w.heap.size,6,none⟩ (.bool false)).setCell ⟨w.heap.size,7,none⟩ (.bool false)).setCell ⟨w.heap.size,8,none⟩ (.bool false))=W9 at *
 obtain⟨g0,g1',g2,g3,g4,g5,g6,g7,g8⟩:=nineR R9
 exact bodyPost_ret (v:=.agg #[.int .i64 1,.int .i64 kk,.int .i64 b,.int .i64 l,.int .i64 0,.int .i64 0,.bool false,.bool false,.bool false]) (by simp[results,Tryz.results85,go_sem,g0,g1',g2,g3,g4,g5,g6,g7,g8]) rfl ⟨rfl,O9.out⟩
end Go.Proofs.YtfbpjobobdidiaaGreatDoor
