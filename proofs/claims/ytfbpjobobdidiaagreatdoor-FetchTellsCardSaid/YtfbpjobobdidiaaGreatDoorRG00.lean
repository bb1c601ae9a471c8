/- Texts of the layers below, one behind the other. -/
import Derived.WalkKit
import Derived.Lib.Hide
import Derived.Deep.QuietTactic
import Derived.BigQuiet
import Init
import Derived.Shelf.Small.Bits
import Derived.Shelf.Small.Wraps
import Derived.Shelf.Strconv.Itoa0
import Derived.Shelf.Sort.Plain
import Derived.Ground.Names2Prog
import Derived.Shelf.Slices.CompactI
import Derived.Shelf.Slices.Cells
import Derived.Ground.SlgmProg
import Derived.Shelf.SortM.SortNone
import Derived.Test.YtfbpjobobdidiaaGreatDoorProg
import Derived.Shelf.SlSortCmp.WholeK
import Derived.Ground.SlsfProg
import Derived.Sort.AssemblyPlain
import Derived.Shelf.SlIterI.Nil
import Derived.Shelf.SortM.Plain
import Derived.Ground.GgzProg
import Derived.Test.YtfbpjobobdidiaaGreatDoorChecked
import Derived.ProofKit
import Derived.OpenShut
import Derived.Deep.Slices
import Derived.Deep.Fields
import Derived.OwnWalk
import Derived.Laws.OwnMore
import Derived.WalkLawsBesides
import Derived.RangeFuncNested
import Derived.RangeFuncBound
import Derived.RangeFuncCalls
import Derived.RangeFuncLeaves
import Derived.Maps.RangeWalk
import Derived.Maps.OwnSet
import Derived.Maps.OwnOps
import Derived.BigRegion
set_option maxRecDepth 100000
namespace Go.Proofs.YtfbpjobobdidiaaGreatDoor
open Lib (hid)
open Go.Proofs.Tryz
open Go.RowKit
def Row (w:World) (g:Nat) (t:TypeId) (cs:Array Value):Prop:=w.heap[g]? = some (.cells cs t (0,0))
theorem Row.lt {w:World} {g:Nat} {t:TypeId} {cs:Array Value} (h:Row w g t cs):g<w.heap.size:=by
 rcases Nat.lt_or_ge g w.heap.size with k | k
 ·exact k
 ·have h':=h
  unfold Row at h'
  rw[Array.getElem?_eq_none k] at h'
  cases h'
theorem Row.cell {w:World} {g:Nat} {t:TypeId} {cs:Array Value} (h:Row w g t cs) (i:Nat):w.cell? ⟨g,i,none⟩=cs[i]?:=by
 unfold Row at h
 simp[World.cell?,h]
theorem Row.frozen {w:World} {g:Nat} {t:TypeId} {cs:Array Value} (h:Row w g t cs) (i:Nat):w.frozen? ⟨g,i,none⟩=false:=by
 unfold Row at h
 simp[World.frozen?,h]
theorem Row.fresh (w:World) (t:TypeId) (cs:Array Value):Row (w.alloc (.cells cs t)) w.heap.size t cs:=by
 show (w.heap.push _)[w.heap.size]? = _
 simp
theorem Row.put {w:World} {g:Nat} {t:TypeId} {cs:Array Value} (h:Row w g t cs) (i:Nat) (v:Value):Row (w.setCell ⟨g,i,none⟩ v) g t (cs.setIfInBounds i v):=by
 unfold Row at h ⊢
 simp[World.setCell,Array.getElem?_modify,h]
theorem Row.far {w:World} {g:Nat} {t:TypeId} {cs:Array Value} (h:Row w g t cs) {p:Addr} (hp:g≠p.block) (v:Value):Row (w.setCell p v) g t cs:=
 (Below.heap_setCell w p v g hp).trans h
theorem Row.alloc {w:World} {g:Nat} {t:TypeId} {cs:Array Value} (h:Row w g t cs) (o:Obj):Row (w.alloc o) g t cs:=
 (Below.heap_alloc w o g h.lt).trans h
theorem Row.drew {w:World} {g:Nat} {t:TypeId} {cs:Array Value} (h:Row w g t cs):Row w.drew g t cs:=h
theorem Row.drewN {w:World} {g:Nat} {t:TypeId} {cs:Array Value} (h:Row w g t cs) (n:Nat):Row (w.drewN n) g t cs:=h
theorem Row.four {w:World} {g:Nat} {t:TypeId} {a b c d:Value} (h:Row w g t #[a,b,c,d]):w.cell? ⟨g,0,none⟩=some a∧w.cell? ⟨g,1,none⟩=some b∧w.cell? ⟨g,2,none⟩=some c∧w.cell? ⟨g,3,none⟩=some d:=by
 refine⟨?_,?_,?_,?_⟩<;>(rw[h.cell];rfl)
theorem Row.two {w:World} {g:Nat} {t:TypeId} {a b:Value} (h:Row w g t #[a,b]):w.cell? ⟨g,0,none⟩=some a∧w.cell? ⟨g,1,none⟩=some b:=by
 refine⟨?_,?_⟩<;>(rw[h.cell];rfl)
theorem Row.one {w:World} {g:Nat} {t u:TypeId} {cs ds:Array Value} (h:Row w g t cs) (k:Row w g u ds):t=u∧cs=ds:=by
 unfold Row at h k
 rw[h] at k
 injection k with k
 injection k with k1 k2
 exact⟨k2,k1⟩
theorem Row.apart {w:World} {g g':Nat} {t u:TypeId} {cs ds:Array Value} (h:Row w g t cs) (k:Row w g' u ds) (hne:t≠u):g≠g':=by
 rintro rfl
 exact hne (h.one k).1
structure Only (S:Nat→Prop) (w w':World):Prop where
 os:w'.os=w.os
 tape:w'.tape=w.tape
 output:w'.output=w.output
 size:w.heap.size≤w'.heap.size
 block:∀k,k<w.heap.size→¬ S k→w'.heap[k]? = w.heap[k]?
def n_:Nat→Prop:=λ_=>False
theorem Only.refl (S:Nat→Prop) (w:World):Only S w w:=⟨rfl,rfl,rfl,Nat.le_refl _,λ_ _ _=>rfl⟩
theorem Only.trans {S S':Nat→Prop} {a b c:World} (h:Only S a b) (k:Only S' b c) (hs:∀i,i<a.heap.size→S' i→S i):Only S a c:=
 ⟨k.os.trans h.os,k.tape.trans h.tape,k.output.trans h.output,Nat.le_trans h.size k.size,
  λi hi hn=>(k.block i (Nat.lt_of_lt_of_le hi h.size) (λs=>hn (hs i hi s))).trans (h.block i hi hn)⟩
theorem Only.more {S S':Nat→Prop} {a b:World} (h:Only S a b) (hs:∀i,i<a.heap.size→S i→S' i):Only S' a b:=
 ⟨h.os,h.tape,h.output,h.size,λi hi hn=>h.block i hi (λs=>hn (hs i hi s))⟩
theorem Only.same {S:Nat→Prop} {a b c:World} (h:Only S a b) (k:Only S b c):Only S a c:=h.trans k (λ_ _ s=>s)
theorem Only.idle {S:Nat→Prop} {a b c:World} (h:Only S a b) (k:Only n_ b c):Only S a c:=h.trans k (λ_ _ s=>s.elim)
theorem Only.up {S:Nat→Prop} {a b:World} (h:Only n_ a b):Only S a b:=h.more (λ_ _ s=>s.elim)
theorem Only.then_ {S:Nat→Prop} {a b c:World} (h:Only n_ a b) (k:Only S b c):Only S a c:=h.up.same k
theorem Only.alloc {S:Nat→Prop} {a w:World} (h:Only S a w) (o:Obj):Only S a (w.alloc o):=
 h.trans (S':=n_) ⟨rfl,rfl,rfl,by simp,λk hk _=>Below.heap_alloc _ _ _ hk⟩ (λ_ _ s=>s.elim)
theorem Only.put {S:Nat→Prop} {a w:World} (h:Only S a w) {p:Addr} (hp:p.block<a.heap.size→S p.block) (v:Value):Only S a (w.setCell p v):=
 h.trans (S':=λk=>k=p.block) ⟨rfl,rfl,rfl,by simp[World.setCell],λk _ hn=>Below.heap_setCell _ _ _ _ hn⟩ (λi hi s=>by subst s;exact hp hi)
theorem Only.into {S:Nat→Prop} {a w:World} (h:Only S a w) {b:Nat} (hb:S b) (i:Nat) (v:Value):Only S a (w.setCell ⟨b,i,none⟩ v):=h.put (p:=⟨b,i,none⟩) (λ_=>hb) v
theorem Only.new {S:Nat→Prop} {a w:World} (h:Only S a w) {b:Nat} (hb:a.heap.size≤b) (i:Nat) (v:Value):Only S a (w.setCell ⟨b,i,none⟩ v):=h.put (p:=⟨b,i,none⟩) (λk=>absurd k (by show ¬b<_;omega)) v
theorem Only.drew {S:Nat→Prop} {a w:World} (h:Only S a w):Only S a w.drew:=⟨h.os,h.tape,h.output,h.size,h.block⟩
theorem Only.drewN {S:Nat→Prop} {a w:World} (h:Only S a w) (n:Nat):Only S a (w.drewN n):=⟨h.os,h.tape,h.output,h.size,h.block⟩
theorem Only.row {S:Nat→Prop} {a b:World} (h:Only S a b) {g:Nat} {t:TypeId} {cs:Array Value} (k:Row a g t cs) (hn:¬ S g):Row b g t cs:=
 (h.block g k.lt hn).trans k
theorem Only.still {a b:World} (h:Only n_ a b) {g:Nat} {t:TypeId} {cs:Array Value} (k:Row a g t cs):Row b g t cs:=h.row k (λs=>s)
theorem Only.below {S:Nat→Prop} {a b:World} (h:Only S a b) {B:Nat} (hB:B≤a.heap.size) (hs:∀i,i<B→¬ S i):Below B a b:=
 ⟨h.os,h.tape,h.output,h.size,λk hk=>h.block k (Nat.lt_of_lt_of_le hk hB) (hs k hk)⟩
theorem Only.of_below {B:Nat} {a b:World} (h:Below B a b):Only (λk=>B≤k) a b:=
 ⟨h.os,h.tape,h.output,h.size,λk _ hn=>h.block k (Nat.lt_of_not_le hn)⟩
theorem Only.cell {S:Nat→Prop} {a b:World} (h:Only S a b) {p:Addr} {v:Value} (hc:a.cell? p=some v) (hn:¬ S p.block):b.cell? p=some v:=by
 rcases Nat.lt_or_ge p.block a.heap.size with k | k
 ·rw[World.cell?_of_block (w:=a) (h.block p.block k hn)];exact hc
 ·simp[World.cell?,Array.getElem?_eq_none k] at hc
def flat {α:Type} (c:α→List Value) (l:List α):Array Value:=(l.flatMap c).toArray
theorem flat_drop {α:Type} {c:α→List Value} {k:Nat} (hk:∀a,(c a).length=k):∀(l:List α) (i:Nat) (a:α),l[i]? = some a→(l.flatMap c).drop (i*k)=c a++(l.drop (i+1)).flatMap c:=by
 intro l
 induction l with
 | nil=>intro i a h;simp at h
 | cons x l ih =>
  intro i a h
  cases i with
  | zero =>
   simp at h
   subst h
   simp
  | succ i =>
   simp at h
   have:=ih i a h
   rw[List.flatMap_cons,show (i+1)*k=(c x).length+i*k by rw[hk,Nat.succ_mul,Nat.add_comm],←List.drop_drop,List.drop_left]
   simpa using this
theorem flat_get {α:Type} {c:α→List Value} {k:Nat} (hk:∀a,(c a).length=k) {l:List α} {i:Nat} {a:α} (h:l[i]? = some a) {j:Nat} (hj:j<k):(flat c l)[i*k+j]? = (c a)[j]?:=by
 unfold flat
 rw[List.getElem?_toArray,←List.getElem?_drop,flat_drop hk l i a h,List.getElem?_append_left (by rw[hk];exact hj)]
theorem flat_size {α:Type} {c:α→List Value} {k:Nat} (hk:∀a,(c a).length=k) (l:List α):(flat c l).size=l.length*k:=by
 unfold flat
 rw[List.size_toArray,List.length_flatMap]
 induction l with
 | nil=>simp
 | cons x l ih=>simp[hk,Nat.succ_mul,Nat.add_comm] at ih ⊢;omega
theorem flat_set {α:Type} {c:α→List Value} {k:Nat} (hk:∀a,(c a).length=k):∀(l:List α) (i:Nat) (a a':α) (j:Nat) (v:Value),l[i]? = some a→j<k→c a'=(c a).set j v →
  (l.flatMap c).set (i*k+j) v=(l.set i a').flatMap c:=by
 intro l
 induction l with
 | nil=>intro i a a' j v h;simp at h
 | cons x l ih =>
  intro i a a' j v h hj e
  cases i with
  | zero =>
   simp at h
   subst h
   rw[List.flatMap_cons,show (0:Nat)*k+j=j by omega,List.set_append_left _ _ (by rw[hk];exact hj),←e]
   simp
  | succ i =>
   simp at h
   rw[List.flatMap_cons,List.set_append_right _ _ (by rw[hk,Nat.succ_mul];omega),hk,show (i+1)*k+j-k=i*k+j by rw[Nat.succ_mul];omega,ih i a a' j v h hj e]
   simp
theorem flat_put {α:Type} {c:α→List Value} {k:Nat} (hk:∀a,(c a).length=k) {l:List α} {i:Nat} {a a':α} {j:Nat} {v:Value} (h:l[i]? = some a) (hj:j<k) (e:c a'=(c a).set j v) :
  (flat c l).setIfInBounds (i*k+j) v=flat c (l.set i a'):=by
 unfold flat
 rw[List.setIfInBounds_toArray,flat_set hk l i a a' j v h hj e]
theorem flat_made {α:Type} {c:α→List Value} (a:α) {z:Array Value} (hz:z.toList=c a) {k:Nat} (hk:∀a,(c a).length=k) (h0:0<k) (n:Nat):madeCells z (n*k)=flat c (List.replicate n a):=by
 have hs:z.size=k:=by rw[←Array.length_toList,hz,hk]
 apply Array.ext
 ·rw[size_madeCells,flat_size hk,List.length_replicate]
 ·intro i h1 h2
  rw[size_madeCells] at h1
  have hq:i / k<n:=(Nat.div_lt_iff_lt_mul h0).2 h1
  have hr:i % k<k:=Nat.mod_lt _ h0
  have hg:(List.replicate n a)[i / k]? = some a:=by simp[hq]
  have e:=flat_get hk hg hr
  rw[show i / k*k+i % k=i by rw[Nat.mul_comm];exact Nat.div_add_mod i k] at e
  rw[Array.getElem?_eq_getElem h2] at e
  have e2:(c a)[i % k]? = some (z[i % k]!):=by
   rw[←hz,Array.getElem?_toList,Array.getElem?_eq_getElem (by omega),getElem!_pos z (i % k) (by omega)]
  rw[e2] at e
  injection e with e
  rw[e]
  simp[madeCells,hs]
theorem run_make_flat {α:Type} {P:Program} {c:α→List Value} (a:α) {k:Nat} (hk:∀a,(c a).length=k) (h0:0<k) (t e:TypeId) (i:TypeInfo) (z:Value) (ht:P.underlying t=some (.slice e)) (hi:P.info? e=some i) (hz:i.zero=some z) (hs:i.size=k) (hc:z.cells.toList=c a)
  (kl kc:IntKind) (n:Nat) (hb:i.bytes*n≤281474976710656) (h63:n≤9223372036854775807) (w:World) :
  (Instr.makeSlice t (.int kl (n:Int)) (.int kc (n:Int))).run P w=.ok (.slice (some ⟨w.heap.size,0,none⟩) n n) (w.alloc (.cells (flat c (List.replicate n a)) e)):=by
 have h:=run_make (P:=P) w t e i z ht hi hz kl kc n n (by omega) (Int.le_refl _) (by rw[←Int.natCast_mul];omega) (by omega)
 rw[h]
 simp only[Int.toNat_natCast,hs]
 rw[flat_made a hc hk h0]
theorem get_set {α:Type} {l:List α} {i:Nat} {a a':α} (h:l[i]? = some a):(l.set i a')[i]? = some a':=by
 have:i<l.length:=by
  rcases Nat.lt_or_ge i l.length with k | k
  ·exact k
  ·rw[List.getElem?_eq_none k] at h;cases h
 simp[this]
theorem lt_of_get {α:Type} {l:List α} {i:Nat} {a:α} (h:l[i]? = some a):i<l.length:=by
 rcases Nat.lt_or_ge i l.length with k | k
 ·exact k
 ·rw[List.getElem?_eq_none k] at h;cases h
end Go.Proofs.YtfbpjobobdidiaaGreatDoor
namespace Go.Proofs.YtfbpjobobdidiaaGreatDoor
open Lib (hid)
open Go.Proofs.Tryz
structure Wt where
 r:Int
 p:Int
 deriving DecidableEq
instance:Inhabited Wt:=⟨⟨0,0⟩⟩
structure Sx where
 t:Int
 w:Wt
 deriving DecidableEq
instance:Inhabited Sx:=⟨⟨0,⟨0,0⟩⟩⟩
theorem sxtake {α:Type} {xs:List α} {k:Nat} {x:α} (h:xs[k]? = some x):xs.take (k+1)=xs.take k++[x]:=by
 rw[List.take_add_one,h];rfl
def waitsB (ss:List Sx) (w:Wt):Bool:=ss.any (λs=>decide (s.w=w))
def ofL (ss:List Sx) (t:Int):List Wt:=(ss.filter (λs=>decide (s.t=t))).map Sx.w
theorem of_le (ss:List Sx) (t:Int):(ofL ss t).length≤ss.length:=by
 unfold ofL
 rw[List.length_map]
 exact List.length_filter_le _ _
def leftT (ss:List Sx) (t:Int):List Sx:=ss.filter (λs=>decide (s.t≠t))
def leftR (ss:List Sx) (r:Int):List Sx:=ss.filter (λs=>decide (s.w.r≠r))
def putI:List Int→Int→List Int
 | [],n=>[n]
 | x::l,n=>if x<n then x::putI l n else if x=n then x::l else n::x::l
theorem put_le (l:List Int) (n:Int):(putI l n).length≤l.length+1:=by
 induction l with
 | nil=>simp[putI]
 | cons x l ih =>
  show (if x<n then x::putI l n else if x=n then x::l else n::x::l).length≤_
  split
  ·simp only[List.length_cons];omega
  ·split<;>simp
def quitI (ss:List Sx) (r:Int):List Int:=(ss.filter (λs=>decide (s.w.r=r))).foldl (λl s=>putI l s.t) []
theorem fold_le (l:List Sx):∀m:List Int,(l.foldl (λl s=>putI l s.t) m).length≤m.length+l.length:=by
 induction l with
 | nil=>intro m;simp
 | cons s l ih =>
  intro m
  have h1:=ih (putI m s.t)
  have h2:=put_le m s.t
  rw[List.foldl_cons,List.length_cons]
  omega
theorem quit_le (ss:List Sx) (r:Int):(quitI ss r).length≤ss.length:=by
 have h1:=fold_le (ss.filter (λs=>decide (s.w.r=r))) []
 have h2:=List.length_filter_le (λs=>decide (s.w.r=r)) ss
 unfold quitI
 simp only[List.length_nil] at h1
 omega
def mayW (t:Int) (w:Wt):Prop:=1≤t∧1≤w.r∧0≤w.p∧w.p≤7
instance (t:Int) (w:Wt):Decidable (mayW t w):=by unfold mayW;infer_instance
def addI (room:Nat) (ss:List Sx) (t:Int) (w:Wt):Int:=if mayW t w then if waitsB ss w then 4 else if room≤ss.length then 2 else 0 else 1
def addS (room:Nat) (ss:List Sx) (t:Int) (w:Wt):List Sx:=if addI room ss t w=0 then ss++[⟨t,w⟩] else ss
structure Rn where
 f:Int
 c:Int
 deriving DecidableEq
instance:Inhabited Rn:=⟨⟨0,0⟩⟩
def Rn.Ok (r:Rn):Prop:=0≤r.f∧1≤r.c∧r.c≤256∧r.f≤256-r.c
instance (r:Rn):Decidable r.Ok:=by unfold Rn.Ok;infer_instance
def Rn.Has (r:Rn) (x:Int):Prop:=r.Ok∧r.f≤x∧x-r.f<r.c
instance (r:Rn) (x:Int):Decidable (r.Has x):=by unfold Rn.Has;infer_instance
def lowOf (a b:Rn):Int:=if a.f≤b.f then b.f else a.f
def endOf (a b:Rn):Int:=if a.f+a.c≤b.f+b.c then a.f+a.c else b.f+b.c
def blocksOf (r:Rn):List Int:=if r.Ok then (List.range r.c.toNat).map (λi:Nat=>r.f+(i:Int)) else []
theorem blocks_len {r:Rn} (h:r.Ok):(blocksOf r).length=r.c.toNat:=by
 unfold blocksOf
 rw[if_pos h]
 simp
def part13 (a b:Rn) (i:Int):Rn:=if a.Ok∧b.Ok∧lowOf a b<endOf a b∧lowOf a b<i then ⟨lowOf a b,(if i≤endOf a b then i else endOf a b)-lowOf a b⟩ else ⟨0,0⟩
def below (r:Rn) (i:Int):List Int:=if r.Ok then (List.range (if (i-r.f).toNat≤r.c.toNat then (i-r.f).toNat else r.c.toNat)).map (λj:Nat=>r.f+j) else []
def hasB (xs:List Int) (x:Int):Bool:=decide (0≤x∧x<256∧x∈xs)
theorem hasB_yes {xs:List Int} {x:Int} (h:hasB xs x=true):0≤x∧x<256∧x∈xs:=of_decide_eq_true h
theorem hasB_in {xs:List Int} {x:Int} (h0:0≤x) (h1:x<256):hasB xs x=decide (x∈xs):=by
 unfold hasB
 rw[Bool.eq_iff_iff]
 simp only[decide_eq_true_eq]
 exact⟨λh=>h.2.2,λh=>⟨h0,h1,h⟩⟩
def costB (N:Int→Bool) (x:Int):Int:=if N x then 1 else 0
theorem costB_cases (N:Int→Bool) (x:Int):(N x=true∧costB N x=1)∨(N x=false∧costB N x=0):=by
 unfold costB
 cases N x
 ·exact .inr ⟨rfl,rfl⟩
 ·exact .inl ⟨rfl,rfl⟩
def okB (R N:Int→Bool) (x room:Int):Bool:=R x&&decide (costB N x≤room)
def grow13 (R N:Int→Bool):Nat→Int→Int→Int→Int × Int
 | 0,lo,hi,_=>(lo,hi)
 | k+1,lo,hi,room =>
  if okB R N (hi+1) room then grow13 R N k lo (hi+1) (room-costB N (hi+1))
  else if okB R N (lo-1) room then grow13 R N k (lo-1) hi (room-costB N (lo-1))
  else (lo,hi)
theorem grow_up {R N:Int→Bool} {k:Nat} {lo hi room:Int} (h:okB R N (hi+1) room=true):grow13 R N (k+1) lo hi room=grow13 R N k lo (hi+1) (room-costB N (hi+1)):=by
 show (if _ then _ else _)=_
 rw[if_pos h]
theorem grow_down {R N:Int→Bool} {k:Nat} {lo hi room:Int} (h:okB R N (hi+1) room=false) (g:okB R N (lo-1) room=true):grow13 R N (k+1) lo hi room=grow13 R N k (lo-1) hi (room-costB N (lo-1)):=by
 show (if _ then _ else _)=_
 rw[if_neg (by rw[h];decide),if_pos g]
theorem grow_end {R N:Int→Bool} {k:Nat} {lo hi room:Int} (h:okB R N (hi+1) room=false) (g:okB R N (lo-1) room=false):grow13 R N k lo hi room=(lo,hi):=by
 cases k with
 | zero=>rfl
 | succ k =>
  show (if _ then _ else _)=_
  rw[if_neg (by rw[h];decide),if_neg (by rw[g];decide)]
def cnt (N:Int→Bool) (lo:Int):Nat→Int
 | 0=>0
 | k+1=>cnt N lo k+costB N (lo+k)
theorem cnt_front (N:Int→Bool) (lo:Int):∀k,cnt N (lo-1) (k+1)=costB N (lo-1)+cnt N lo k:=by
 intro k
 induction k with
 | zero=>simp[cnt]
 | succ k ih =>
  rw[show cnt N (lo-1) (k+1+1)=cnt N (lo-1) (k+1)+costB N (lo-1+((k+1:Nat):Int)) from rfl,ih,show cnt N lo (k+1)=cnt N lo k+costB N (lo+k) from rfl,show lo-1+((k+1:Nat):Int)=lo+(k:Int) by omega]
  omega
theorem grow_spec (R N:Int→Bool) (T:Int):∀(k:Nat) (lo hi room:Int),lo≤hi→0≤room→(∀x,lo≤x→x≤hi→R x=true)→cnt N lo (hi-lo+1).toNat+room=T →
  (grow13 R N k lo hi room).1≤lo∧hi≤(grow13 R N k lo hi room).2∧(grow13 R N k lo hi room).2-(grow13 R N k lo hi room).1≤hi-lo+k ∧
  (∀x,(grow13 R N k lo hi room).1≤x→x≤(grow13 R N k lo hi room).2→R x=true)∧cnt N (grow13 R N k lo hi room).1 ((grow13 R N k lo hi room).2-(grow13 R N k lo hi room).1+1).toNat≤T:=by
 intro k
 induction k with
 | zero=>intro lo hi room h0 h1 h2 h3;exact⟨Int.le_refl _,Int.le_refl _,by simp[grow13],h2,by show cnt N lo (hi-lo+1).toNat≤T;omega⟩
 | succ k ih =>
  intro lo hi room h0 h1 h2 h3
  cases hu:okB R N (hi+1) room with
  | true =>
   rw[grow_up hu]
   unfold okB at hu
   rw[Bool.and_eq_true] at hu
   have:=of_decide_eq_true hu.2
   have h:=ih lo (hi+1) (room-costB N (hi+1)) (by omega) (by omega) (λx q1 q2=>by
    by_cases q:x=hi+1
    ·rw[q];exact hu.1
    ·exact h2 x q1 (by omega)) (by
    rw[show (hi+1-lo+1).toNat=(hi-lo+1).toNat+1 by omega,show cnt N lo ((hi-lo+1).toNat+1)=cnt N lo (hi-lo+1).toNat+costB N (lo+((hi-lo+1).toNat:Int)) from rfl,show lo+((hi-lo+1).toNat:Int)=hi+1 by omega]
    omega)
   exact⟨h.1,by omega,by omega,h.2.2.2.1,h.2.2.2.2⟩
  | false =>
   cases hd:okB R N (lo-1) room with
   | true =>
    rw[grow_down hu hd]
    unfold okB at hd
    rw[Bool.and_eq_true] at hd
    have:=of_decide_eq_true hd.2
    have h:=ih (lo-1) hi (room-costB N (lo-1)) (by omega) (by omega) (λx q1 q2=>by
     by_cases q:x=lo-1
     ·rw[q];exact hd.1
     ·exact h2 x (by omega) q2) (by
     rw[show (hi-(lo-1)+1).toNat=(hi-lo+1).toNat+1 by omega,cnt_front]
     omega)
    exact⟨by omega,h.2.1,by omega,h.2.2.2.1,h.2.2.2.2⟩
   | false =>
    rw[grow_end hu hd]
    exact⟨Int.le_refl _,Int.le_refl _,by dsimp only;omega,h2,by show cnt N lo (hi-lo+1).toNat≤T;omega⟩
def mayMost (most:Int):Prop:=1≤most∧most≤8
instance (most:Int):Decidable (mayMost most):=by unfold mayMost;infer_instance
def argB (xs:List Int) (b most room:Int):Prop:=¬ mayMost most∨room<0∨hasB xs b=false
instance (xs:List Int) (b most room:Int):Decidable (argB xs b most room):=by unfold argB;infer_instance
def growTo (xs ys:List Int) (b most room:Int):Int × Int:=grow13 (hasB xs) (hasB ys) (most-1).toNat b b (room-costB (hasB ys) b)
def aroundC (xs ys:List Int) (b most room:Int):Int:=if argB xs b most room then 1 else if room<costB (hasB ys) b then 2 else 0
def aroundR (xs ys:List Int) (b most room:Int):Rn:=
 if aroundC xs ys b most room=0 then ⟨(growTo xs ys b most room).1,(growTo xs ys b most room).2-(growTo xs ys b most room).1+1⟩ else ⟨0,0⟩
theorem around_arg {xs ys:List Int} {b most room:Int} (h:argB xs b most room):aroundC xs ys b most room=1∧aroundR xs ys b most room=⟨0,0⟩:=by
 have:aroundC xs ys b most room=1:=if_pos h
 exact⟨this,if_neg (by rw[this];decide)⟩
theorem around_full {xs ys:List Int} {b most room:Int} (h:¬ argB xs b most room) (k:room<costB (hasB ys) b):aroundC xs ys b most room=2∧aroundR xs ys b most room=⟨0,0⟩:=by
 have:aroundC xs ys b most room=2:=by unfold aroundC;rw[if_neg h,if_pos k]
 exact⟨this,if_neg (by rw[this];decide)⟩
theorem around_ok {xs ys:List Int} {b most room:Int} (h:¬ argB xs b most room) (k:costB (hasB ys) b≤room) :
  aroundC xs ys b most room=0∧aroundR xs ys b most room=⟨(growTo xs ys b most room).1,(growTo xs ys b most room).2-(growTo xs ys b most room).1+1⟩:=by
 have:aroundC xs ys b most room=0:=by unfold aroundC;rw[if_neg h,if_neg (by omega)]
 exact⟨this,if_pos this⟩
theorem arg_not {xs:List Int} {b most room:Int} (h:¬ argB xs b most room):1≤most∧most≤8∧0≤room∧hasB xs b=true∧0≤b∧b<256:=by
 unfold argB mayMost at h
 have h3:hasB xs b=true:=by
  cases q:hasB xs b
  ·exact absurd (.inr (.inr q)) h
  ·rfl
 have h4:=hasB_yes h3
 have h1:1≤most∧most≤8:=by
  rcases Decidable.em (1≤most∧most≤8) with q | q
  ·exact q
  ·exact absurd (.inl q) h
 have h2:0≤room:=by
  rcases Int.lt_or_le room 0 with q | q
  ·exact absurd (.inr (.inl q)) h
  ·exact q
 exact⟨h1.1,h1.2,h2,h3,h4.1,h4.2.1⟩
theorem around_spec {xs ys:List Int} {b most room:Int} (h:aroundC xs ys b most room=0) :
  (aroundR xs ys b most room).Ok∧(aroundR xs ys b most room).Has b∧(aroundR xs ys b most room).c≤most∧(aroundR xs ys b most room).c≤8 ∧
  (∀x,(aroundR xs ys b most room).f≤x→x<(aroundR xs ys b most room).f+(aroundR xs ys b most room).c→x∈xs) ∧
  cnt (hasB ys) (aroundR xs ys b most room).f (aroundR xs ys b most room).c.toNat≤room:=by
 have h1:¬ argB xs b most room:=λq=>by rw[(around_arg q).1] at h;cases h
 have h2:costB (hasB ys) b≤room:=by
  rcases Int.lt_or_le room (costB (hasB ys) b) with q | q
  ·rw[(around_full h1 q).1] at h;cases h
  ·exact q
 rw[(around_ok h1 h2).2]
 have ⟨m1,m2,m3,m4,m5,m6⟩:=arg_not h1
 have g:=grow_spec (hasB xs) (hasB ys) room (most-1).toNat b b (room-costB (hasB ys) b) (Int.le_refl _) (by omega) (λx q1 q2=>by rw[show x=b by omega];exact m4) (by
  rw[show (b-b+1).toNat=1 by omega]
  show 0+costB (hasB ys) (b+(0:Nat))+_=_
  rw[show b+((0:Nat):Int)=b by omega]
  omega)
 unfold growTo
 generalize grow13 (hasB xs) (hasB ys) (most-1).toNat b b (room-costB (hasB ys) b)=r at *
 obtain⟨l,u⟩:=r
 obtain⟨g1,g2,g3,g4,g5⟩:=g
 dsimp only at *
 have e1:=hasB_yes (g4 l (Int.le_refl _) (by omega))
 have e2:=hasB_yes (g4 u (by omega) (Int.le_refl _))
 have ok:(Rn.mk l (u-l+1)).Ok:=by unfold Rn.Ok;dsimp only;omega
 exact⟨ok,⟨ok,by dsimp only;omega,by dsimp only;omega⟩,by omega,by omega,λx q1 q2=>(hasB_yes (g4 x q1 (by omega))).2.2,g5⟩
def allB (xs:List Int):Prop:=∀x∈xs,0≤x∧x<256
instance (xs:List Int):Decidable (allB xs):=by unfold allB;infer_instance
end Go.Proofs.YtfbpjobobdidiaaGreatDoor
namespace Go.Proofs
open Go.Shelf
def Tryz.lays125_ren:Go.Shelf.Ren:=⟨fun | 125=>151 | 128=>170 | 129=>171 | n=>n,fun | 46=>223 | 3=>3 | 51=>242 | 53=>34 | 4=>4 | 5=>5 | 9=>9 | n=>n,fun | n=>n⟩
theorem Tryz.lays125:Go.Proofs.Lays.n125 prog Tryz.lays125_ren:={
 mixed:=by kernel_rfl
 f125:=func151.trans (congrArg some (by kernel_rfl))
 f128:=func170.trans (congrArg some (by kernel_rfl))
 f129:=func171.trans (congrArg some (by kernel_rfl))
 t3:=underlying3
 a3:=Tryz.isAgg3
 z3:=Tryz.sizeOf3
 v3:=Tryz.zeroValue3
 t4:=underlying4
 a4:=Tryz.isAgg4
 z4:=Tryz.sizeOf4
 v4:=Tryz.zeroValue4
 t5:=underlying5
 a5:=Tryz.isAgg5
 z5:=Tryz.sizeOf5
 v5:=Tryz.zeroValue5
 t9:=underlying9
 a9:=Tryz.isAgg9
 z9:=Tryz.sizeOf9
 v9:=Tryz.zeroValue9
 t46:=underlying223
 a46:=Tryz.isAgg223
 z46:=Tryz.sizeOf223
 v46:=Tryz.zeroValue223
 t51:=underlying242
 a51:=Tryz.isAgg242
 z51:=Tryz.sizeOf242
 v51:=Tryz.zeroValue242
 t53:=underlying34
 a53:=Tryz.isAgg34
 z53:=Tryz.sizeOf34
 v53:=Tryz.zeroValue34 }
theorem Tryz.bits_Len (x:Int) (w:World) (h0:0≤x) (h1:x≤18446744073709551615) :
  Calls prog 151 #[.int .u64 x] w λe w'=>e=.returned (.int .i64 (Lib.bitLen x.toNat))∧w'=w:=Any.bits_Len Tryz.lays125 x w h0 h1
def Tryz.lays215_ren:Go.Shelf.Ren:=⟨fun | 215=>181 | n=>n,fun | 3=>3 | 4=>4 | n=>n,fun | n=>n⟩
def Tryz.lays122_ren:Go.Shelf.Ren:=⟨fun | 122=>154 | 215=>181 | n=>n,fun | 3=>3 | 4=>4 | n=>n,fun | n=>n⟩
theorem Tryz.lays122:Go.Proofs.Lays.n122 prog Tryz.lays122_ren:={
 mixed:=by kernel_rfl
 f122:=func154.trans (congrArg some (by kernel_rfl))
 f215:=func181.trans (congrArg some (by kernel_rfl))
 t3:=underlying3
 a3:=Tryz.isAgg3
 z3:=Tryz.sizeOf3
 v3:=Tryz.zeroValue3
 t4:=underlying4
 a4:=Tryz.isAgg4
 z4:=Tryz.sizeOf4
 v4:=Tryz.zeroValue4 }
open Go.RowKit in
theorem Tryz.cmp_Compare_int (x y:Int) (w:World) :
  Calls prog 154 #[.int .i64 x,.int .i64 y] w λe w'=>e=.returned (.int .i64 (Lib.compareInt x y))∧w'=w:=Any.cmp_Compare_int Tryz.lays122 x y w
def Tryz.lays189_ren:Go.Shelf.Ren:=⟨fun | 189=>118 | 125=>151 | 257=>150 | 128=>170 | 129=>171 | 294=>161 | 295=>162 | 296=>163 | 297=>164 | 298=>165 | 299=>166 | 216=>167 | 300=>168 | 301=>169 | 328=>182 | 329=>183 | 330=>184 | 331=>185 | 332=>186 | 215=>181 | 343=>190 | n=>n,fun | 28=>44 | 3=>3 | 46=>223 | 0=>0 | 51=>242 | 53=>34 | 4=>4 | 183=>236 | 182=>235 | 131=>176 | 5=>5 | 9=>9 | 218=>249 | 222=>253 | 228=>257 | 229=>114 | n=>n,fun | n=>n⟩
theorem Tryz.lays189:Go.Proofs.Lays.n189 prog Tryz.lays189_ren:={
 mixed:=by kernel_rfl
 f125:=func151.trans (congrArg some (by kernel_rfl))
 f128:=func170.trans (congrArg some (by kernel_rfl))
 f129:=func171.trans (congrArg some (by kernel_rfl))
 f189:=func118.trans (congrArg some (by kernel_rfl))
 f215:=func181.trans (congrArg some (by kernel_rfl))
 f216:=func167.trans (congrArg some (by kernel_rfl))
 f257:=func150.trans (congrArg some (by kernel_rfl))
 f294:=func161.trans (congrArg some (by kernel_rfl))
 f295:=func162.trans (congrArg some (by kernel_rfl))
 f296:=func163.trans (congrArg some (by kernel_rfl))
 f297:=func164.trans (congrArg some (by kernel_rfl))
 f298:=func165.trans (congrArg some (by kernel_rfl))
 f299:=func166.trans (congrArg some (by kernel_rfl))
 f300:=func168.trans (congrArg some (by kernel_rfl))
 f301:=func169.trans (congrArg some (by kernel_rfl))
 f328:=func182.trans (congrArg some (by kernel_rfl))
 f329:=func183.trans (congrArg some (by kernel_rfl))
 f330:=func184.trans (congrArg some (by kernel_rfl))
 f331:=func185.trans (congrArg some (by kernel_rfl))
 f332:=func186.trans (congrArg some (by kernel_rfl))
 f343:=func190.trans (congrArg some (by kernel_rfl))
 t0:=underlying0
 a0:=Tryz.isAgg0
 z0:=Tryz.sizeOf0
 v0:=Tryz.zeroValue0
 t3:=underlying3
 a3:=Tryz.isAgg3
 z3:=Tryz.sizeOf3
 v3:=Tryz.zeroValue3
 t4:=underlying4
 a4:=Tryz.isAgg4
 z4:=Tryz.sizeOf4
 v4:=Tryz.zeroValue4
 t5:=underlying5
 a5:=Tryz.isAgg5
 z5:=Tryz.sizeOf5
 v5:=Tryz.zeroValue5
 t9:=underlying9
 a9:=Tryz.isAgg9
 z9:=Tryz.sizeOf9
 v9:=Tryz.zeroValue9
 t28:=underlying44
 a28:=Tryz.isAgg44
 z28:=Tryz.sizeOf44
 v28:=Tryz.zeroValue44
 t46:=underlying223
 a46:=Tryz.isAgg223
 z46:=Tryz.sizeOf223
 v46:=Tryz.zeroValue223
 t51:=underlying242
 a51:=Tryz.isAgg242
 z51:=Tryz.sizeOf242
 v51:=Tryz.zeroValue242
 t53:=underlying34
 a53:=Tryz.isAgg34
 z53:=Tryz.sizeOf34
 v53:=Tryz.zeroValue34
 t131:=underlying176
 a131:=Tryz.isAgg176
 z131:=Tryz.sizeOf176
 v131:=Tryz.zeroValue176
 t182:=underlying235
 a182:=Tryz.isAgg235
 z182:=Tryz.sizeOf235
 v182:=Tryz.zeroValue235
 t183:=underlying236
 a183:=Tryz.isAgg236
 z183:=Tryz.sizeOf236
 v183:=Tryz.zeroValue236
 t218:=underlying249
 a218:=Tryz.isAgg249
 z218:=Tryz.sizeOf249
 v218:=Tryz.zeroValue249
 t222:=underlying253
 a222:=Tryz.isAgg253
 z222:=Tryz.sizeOf253
 v222:=Tryz.zeroValue253
 t228:=underlying257
 a228:=Tryz.isAgg257
 z228:=Tryz.sizeOf257
 v228:=Tryz.zeroValue257
 t229:=underlying114
 a229:=Tryz.isAgg114
 z229:=Tryz.sizeOf114
 v229:=Tryz.zeroValue114 }
open Go.Sort Go.RowKit in
theorem Tryz.slices_Sort_int (blk off cap:Nat) (zs:List Int) (w:World) (hH:Holds (Value.int .i64) w blk off zs.toArray) (hblk:blk<w.heap.size) (hsz:zs.length<4611686018427387904) :
  Calls prog 118 #[.slice (some ⟨blk,off,none⟩) zs.length cap] w λe w' =>
   e=.returned (.tuple #[])∧∃n os,w'=grow (putRow (Value.int .i64) (Sort.ahead w n) blk off (zs.mergeSort λx y=>decide (x≤y)).toArray) os:=Any.slices_Sort_int Tryz.lays189 blk off cap zs w hH hblk hsz
def Tryz.laysNm220_ren:Go.Shelf.Ren:=⟨fun | 20=>119 | n=>n,fun | 22=>44 | 3=>3 | 4=>4 | 0=>0 | n=>n,fun | n=>n⟩
theorem Tryz.laysNm220:Go.Proofs.Lays2.n20 prog Tryz.laysNm220_ren:={
 mixed:=by kernel_rfl
 f20:=func119.trans (congrArg some (by kernel_rfl))
 t0:=underlying0
 a0:=Tryz.isAgg0
 z0:=Tryz.sizeOf0
 v0:=Tryz.zeroValue0
 t3:=underlying3
 a3:=Tryz.isAgg3
 z3:=Tryz.sizeOf3
 v3:=Tryz.zeroValue3
 t4:=underlying4
 a4:=Tryz.isAgg4
 z4:=Tryz.sizeOf4
 v4:=Tryz.zeroValue4
 t22:=underlying44
 a22:=Tryz.isAgg44
 z22:=Tryz.sizeOf44
 v22:=Tryz.zeroValue44
 i3:=by kernel_rfl }
open Go.RowKit Go.Lib Go.Sort in
theorem Tryz.slices_Compact_int (blk off cap:Nat) (zs:List Int) (w:World) (hH:Holds (Value.int .i64) w blk off zs.toArray) (hsz:zs.length≤9223372036854775807) (hcap:zs.length≤cap) :
  Calls prog 119 #[.slice (some ⟨blk,off,none⟩) zs.length cap] w λe w'=>e=.returned (.slice (some ⟨blk,off,none⟩) (Lib.compact zs).length cap)∧∃q,w'=putRow (Value.int .i64) (Sort.ahead w q) blk off (Lib.compact zs++List.replicate (zs.length-(Lib.compact zs).length) 0).toArray:=Any.slices_Compact_int Tryz.laysNm220 blk off cap zs w hH hsz hcap
open Go.RowKit Go.Lib Go.Sort in
theorem Tryz.slices_Compact_int_empty (a:Option Addr) (cap:Nat) (w:World) :
  Calls prog 119 #[.slice a 0 cap] w λe w'=>e=.returned (.slice a 0 cap)∧w'=w:=Any.slices_Compact_int_empty Tryz.laysNm220 a cap w
end Go.Proofs
namespace Go.Proofs
def Tryz.sortWt_ren:Go.Shelf.Ren:=⟨fun | 6=>122 | 15=>151 | 14=>153 | 28=>170 | 29=>171 | 20=>173 | 21=>174 | 22=>175 | 23=>176 | 24=>177 | 25=>178 | 26=>179 | 27=>180 | 46=>187 | 47=>183 | 48=>184 | 49=>188 | 50=>189 | 57=>191 | n=>n,fun | 22=>59 | 24=>36 | 25=>201 | 3=>3 | 39=>223 | 0=>0 | 53=>242 | 55=>34 | 4=>4 | 46=>236 | 45=>235 | 50=>176 | 5=>5 | 9=>9 | 66=>249 | 70=>253 | 76=>257 | 77=>114 | n=>n,fun | n=>n⟩
theorem Tryz.sortWt:Go.Proofs.SlLaysF0.n6 prog Tryz.sortWt_ren:={
 mixed:=by kernel_rfl
 f6:=⟨Tryz.f122.name,by decide,func122.trans (congrArg some (by kernel_rfl))⟩
 f14:=⟨Tryz.f153.name,by decide,func153.trans (congrArg some (by kernel_rfl))⟩
 f15:=func151.trans (congrArg some (by kernel_rfl))
 f20:=⟨Tryz.f173.name,by decide,func173.trans (congrArg some (by kernel_rfl))⟩
 f21:=⟨Tryz.f174.name,by decide,func174.trans (congrArg some (by kernel_rfl))⟩
 f22:=⟨Tryz.f175.name,by decide,func175.trans (congrArg some (by kernel_rfl))⟩
 f23:=⟨Tryz.f176.name,by decide,func176.trans (congrArg some (by kernel_rfl))⟩
 f24:=⟨Tryz.f177.name,by decide,func177.trans (congrArg some (by kernel_rfl))⟩
 f25:=⟨Tryz.f178.name,by decide,func178.trans (congrArg some (by kernel_rfl))⟩
 f26:=⟨Tryz.f179.name,by decide,func179.trans (congrArg some (by kernel_rfl))⟩
 f27:=⟨Tryz.f180.name,by decide,func180.trans (congrArg some (by kernel_rfl))⟩
 f28:=func170.trans (congrArg some (by kernel_rfl))
 f29:=func171.trans (congrArg some (by kernel_rfl))
 f46:=⟨Tryz.f187.name,by decide,func187.trans (congrArg some (by kernel_rfl))⟩
 f47:=func183.trans (congrArg some (by kernel_rfl))
 f48:=func184.trans (congrArg some (by kernel_rfl))
 f49:=⟨Tryz.f188.name,by decide,func188.trans (congrArg some (by kernel_rfl))⟩
 f50:=⟨Tryz.f189.name,by decide,func189.trans (congrArg some (by kernel_rfl))⟩
 f57:=⟨Tryz.f191.name,by decide,func191.trans (congrArg some (by kernel_rfl))⟩
 t0:=underlying0
 a0:=Tryz.isAgg0
 z0:=Tryz.sizeOf0
 v0:=Tryz.zeroValue0
 t3:=underlying3
 a3:=Tryz.isAgg3
 z3:=Tryz.sizeOf3
 v3:=Tryz.zeroValue3
 t4:=underlying4
 a4:=Tryz.isAgg4
 z4:=Tryz.sizeOf4
 v4:=Tryz.zeroValue4
 t5:=underlying5
 a5:=Tryz.isAgg5
 z5:=Tryz.sizeOf5
 v5:=Tryz.zeroValue5
 t9:=underlying9
 a9:=Tryz.isAgg9
 z9:=Tryz.sizeOf9
 v9:=Tryz.zeroValue9
 t22:=underlying59
 a22:=Tryz.isAgg59
 z22:=Tryz.sizeOf59
 v22:=Tryz.zeroValue59
 t25:=underlying201
 a25:=Tryz.isAgg201
 z25:=Tryz.sizeOf201
 v25:=Tryz.zeroValue201
 t39:=underlying223
 a39:=Tryz.isAgg223
 z39:=Tryz.sizeOf223
 v39:=Tryz.zeroValue223
 t45:=underlying235
 a45:=Tryz.isAgg235
 z45:=Tryz.sizeOf235
 v45:=Tryz.zeroValue235
 t46:=underlying236
 a46:=Tryz.isAgg236
 z46:=Tryz.sizeOf236
 v46:=Tryz.zeroValue236
 t50:=underlying176
 a50:=Tryz.isAgg176
 z50:=Tryz.sizeOf176
 v50:=Tryz.zeroValue176
 t53:=underlying242
 a53:=Tryz.isAgg242
 z53:=Tryz.sizeOf242
 v53:=Tryz.zeroValue242
 t55:=underlying34
 a55:=Tryz.isAgg34
 z55:=Tryz.sizeOf34
 v55:=Tryz.zeroValue34
 t66:=underlying249
 a66:=Tryz.isAgg249
 z66:=Tryz.sizeOf249
 v66:=Tryz.zeroValue249
 t70:=underlying253
 a70:=Tryz.isAgg253
 z70:=Tryz.sizeOf253
 v70:=Tryz.zeroValue253
 t76:=underlying257
 a76:=Tryz.isAgg257
 z76:=Tryz.sizeOf257
 v76:=Tryz.zeroValue257
 t77:=underlying114
 a77:=Tryz.isAgg114
 z77:=Tryz.sizeOf114
 v77:=Tryz.zeroValue114 }
end Go.Proofs
namespace Go.Proofs.YtfbpjobobdidiaaGreatDoor
open Lib (hid)
open Go.Proofs.Tryz
open Go.Sort
set_option linter.unusedVariables false
theorem swo_asym {α:Type} [Inhabited α] {lt:α→α→Bool} (h:SWO lt) {x y:α} (k:lt x y=true):lt y x=false:=by
 cases e:lt y x with
 | false=>rfl
 | true=>have:=h.trans _ _ _ k e;rw[h.irrefl] at this;cases this
structure Rest {α:Type} [Inhabited α] (lt:α→α→Bool) (a b a' b':Nat) (d:Array α):Prop where
 lo:a≤a'
 mid:a'≤b'
 hi:b'≤b
 size:b≤d.size
 below:Below lt a' b' d
 done:∀e,PermIn a' b' d e→SortedIn lt a' b' e→SortedIn lt a b e
theorem Rest.all {α:Type} [Inhabited α] {lt:α→α→Bool} {a b:Nat} {d:Array α} (h1:a≤b) (h2:b≤d.size) (h3:Below lt a b d):Rest lt a b a b d:=⟨Nat.le_refl _,h1,Nat.le_refl _,h2,h3,λ_ _ h=>h⟩
theorem below_perm {α:Type} [Inhabited α] {lt:α→α→Bool} {a b:Nat} {d d':Array α} (hb:b≤d.size) (h:Below lt a b d) (p:PermIn a b d d'):Below lt a b d':=by
 rcases h with h | h
 ·exact .inl h
 ·by_cases a0:a=0
  ·exact .inl a0
  ·refine .inr ?_
   have:=permIn_all d d' a b (λx=>lt x d[a-1]! = false) hb p h
   rw[p.2.1 (a-1) (.inl (by omega))]
   exact this
theorem Rest.perm {α:Type} [Inhabited α] {lt:α→α→Bool} {a b a' b':Nat} {d d':Array α} (h:Rest lt a b a' b' d) (p:PermIn a' b' d d'):Rest lt a b a' b' d':=
 ⟨h.lo,h.mid,h.hi,by rw[p.1];exact h.size,below_perm (Nat.le_trans h.hi h.size) h.below p,λe q s=>h.done e (permIn_trans _ _ _ _ _ p q) s⟩
theorem Rest.wide {α:Type} [Inhabited α] {lt:α→α→Bool} {a b a' b':Nat} {d d':Array α} (h:Rest lt a b a' b' d) (p:PermIn a' b' d d'):PermIn a b d d':=permIn_mono d d' a' b' a b h.lo h.hi h.size p
theorem Rest.equal {α:Type} [Inhabited α] {lt:α→α→Bool} (hS:SWO lt) {a b a' b' pv m:Nat} {d d':Array α} (h:Rest lt a b a' b' d) (h1:a'≤pv) (h2:pv<b') (h0:0<a') (ht:lt d[a'-1]! d[pv]! = false) (e:partitionEqual lt d a' b' pv=(m,d')) :
  PermIn a' b' d d'∧a'<m∧m≤b'∧Rest lt a b m b' d':=by
 have hb':b'≤d.size:=Nat.le_trans h.hi h.size
 have low:∀i,a'≤i→i<b'→lt d[i]! d[pv]! = false:=λi hi hj=>by
  rcases h.below with z | z
  ·omega
  ·exact hS.ntrans _ _ _ (z i hi hj) ht
 obtain⟨q1,q2,q3,q4,q5⟩:=partitionEqual_holds (lt:=lt) hS d a' b' pv h1 h2 hb' low
 rw[e] at q1 q2 q3 q4 q5
 simp only at q1 q2 q3 q4 q5
 have low':∀i,a'≤i→i<b'→lt d'[i]! d[pv]! = false:=permIn_all d d' a' b' (λx=>lt x d[pv]! = false) hb' q3 low
 have R:=h.perm q3
 refine⟨q3,q1,q2,⟨Nat.le_trans h.lo (Nat.le_of_lt q1),q2,h.hi,R.size,.inr (λi hi hj=>?_),λf pf sf=>?_⟩⟩
 ·cases k:lt d'[i]! d'[m-1]! with
  | false=>rfl
  | true =>
   have:=hS.trans _ _ _ (q5 i hi hj) k
   rw[q4 (m-1) (by omega) (by omega)] at this
   cases this
 ·have big:∀i,m≤i→i<b'→lt d[pv]! f[i]! = true:=permIn_all d' f m b' (λx=>lt d[pv]! x=true) (by rw[q3.1];exact hb') pf q5
  refine R.done f (permIn_mono d' f m b' a' b' (Nat.le_of_lt q1) (Nat.le_refl _) (by rw[q3.1];exact hb') pf) ?_
  intro i j hai hij hjb
  by_cases hi:m≤i
  ·exact sf i j hi hij hjb
  ·have ei:f[i]! = d'[i]!:=pf.2.1 i (.inl (by omega))
   by_cases hj:m≤j
   ·rw[ei]
    cases k:lt f[j]! d'[i]! with
    | false=>rfl
    | true =>
     have:=hS.trans _ _ _ (big j hj hjb) k
     rw[q4 i hai (by omega)] at this
     cases this
   ·have ej:f[j]! = d'[j]!:=pf.2.1 j (.inl (by omega))
    rw[ei,ej]
    exact hS.ntrans _ _ _ (low' j (by omega) (by omega)) (q4 i hai (by omega))
theorem sorted_join {α:Type} [Inhabited α] {lt:α→α→Bool} (hS:SWO lt) {a b m:Nat} {e:Array α} (h1:∀i,a≤i→i<m→lt e[i]! e[m]! = true) (h2:∀i,m<i→i<b→lt e[i]! e[m]! = false) (s1:SortedIn lt a m e) (s2:SortedIn lt (m+1) b e):SortedIn lt a b e:=by
 intro i j hai hij hjb
 by_cases hj:j<m
 ·exact s1 i j hai hij hj
 ·by_cases hi:m<i
  ·exact s2 i j hi hij hjb
  ·by_cases him:i=m
   ·subst him;exact h2 j hij hjb
   ·have li:=swo_asym hS (h1 i hai (by omega))
    by_cases hjm:j=m
    ·subst hjm;exact li
    ·exact hS.ntrans _ _ _ (h2 j (by omega) hjb) li
structure Parted {α:Type} [Inhabited α] (lt:α→α→Bool) (a b m:Nat) (d:Array α):Prop where
 lo:a≤m
 hi:m<b
 less:∀i,a≤i→i<m→lt d[i]! d[m]! = true
 more:∀i,m<i→i<b→lt d[i]! d[m]! = false
theorem Rest.part {α:Type} [Inhabited α] {lt:α→α→Bool} (hS:SWO lt) {a b a' b' pv m:Nat} {bp:Bool} {d d':Array α} (h:Rest lt a b a' b' d) (h1:a'≤pv) (h2:pv<b') (e:partition lt d a' b' pv=(m,bp,d')) :
  PermIn a' b' d d'∧Rest lt a b a' b' d'∧Parted lt a' b' m d':=by
 have hb':b'≤d.size:=Nat.le_trans h.hi h.size
 obtain⟨q1,q2,q3,q4,q5⟩:=partition_holds (lt:=lt) hS d a' b' pv h1 h2 hb'
 rw[e] at q1 q2 q3 q4 q5
 exact⟨q3,h.perm q3,q1,q2,q4,q5⟩
theorem Parted.perm {α:Type} [Inhabited α] {lt:α→α→Bool} {a b m:Nat} {d e:Array α} (hb:b≤d.size) (h:Parted lt a b m d) (hm:e[m]! = d[m]!) (pl:∀p:α→Prop,(∀i,a≤i→i<m→p d[i]!)→∀i,a≤i→i<m→p e[i]!) (pr:∀p:α→Prop,(∀i,m<i→i<b→p d[i]!)→∀i,m<i→i<b→p e[i]!):Parted lt a b m e:=
 ⟨h.lo,h.hi,λi h1 h2=>by rw[hm];exact pl (λx=>lt x d[m]! = true) h.less i h1 h2,λi h1 h2=>by rw[hm];exact pr (λx=>lt x d[m]! = false) h.more i h1 h2⟩
theorem Rest.left {α:Type} [Inhabited α] {lt:α→α→Bool} (hS:SWO lt) {a b a' b' m:Nat} {d d':Array α} (h:Rest lt a b a' b' d) (p:Parted lt a' b' m d) (q:PermIn a' m d d') (s:SortedIn lt a' m d'):PermIn a' b' d d'∧Rest lt a b (m+1) b' d':=by
 have hb':b'≤d.size:=Nat.le_trans h.hi h.size
 have w:=permIn_mono d d' a' m a' b' (Nat.le_refl _) (Nat.le_of_lt p.hi) hb' q
 have P':Parted lt a' b' m d':=p.perm hb' (q.2.1 m (.inr (Nat.le_refl _))) (λf hf=>permIn_all d d' a' m f (by have:=p.hi;omega) q hf) (λf hf i h1 h2=>by rw[q.2.1 i (.inr (by omega))];exact hf i h1 h2)
 have R:=h.perm w
 have sz:b'≤d'.size:=by rw[w.1];exact hb'
 refine⟨w,⟨by have:=h.lo;have:=p.lo;omega,p.hi,h.hi,R.size,.inr (λi h1 h2=>P'.more i h1 h2),λe qe se=>?_⟩⟩
 refine R.done e (permIn_mono d' e (m+1) b' a' b' (by have:=p.lo;omega) (Nat.le_refl _) sz qe) ?_
 have PE:Parted lt a' b' m e:=P'.perm sz (qe.2.1 m (.inl (by omega))) (λf hf i h1 h2=>by rw[qe.2.1 i (.inl (by omega))];exact hf i h1 h2) (λf hf=>permIn_all d' e (m+1) b' f sz qe hf)
 refine sorted_join hS PE.less PE.more (λi j h1 h2 h3=>?_) se
 rw[qe.2.1 i (.inl (by omega)),qe.2.1 j (.inl (by omega))]
 exact s i j h1 h2 h3
theorem Rest.right {α:Type} [Inhabited α] {lt:α→α→Bool} (hS:SWO lt) {a b a' b' m:Nat} {d d':Array α} (h:Rest lt a b a' b' d) (p:Parted lt a' b' m d) (q:PermIn (m+1) b' d d') (s:SortedIn lt (m+1) b' d'):PermIn a' b' d d'∧Rest lt a b a' m d':=by
 have hb':b'≤d.size:=Nat.le_trans h.hi h.size
 have w:=permIn_mono d d' (m+1) b' a' b' (by have:=p.lo;omega) (Nat.le_refl _) hb' q
 have P':Parted lt a' b' m d':=p.perm hb' (q.2.1 m (.inl (by omega))) (λf hf i h1 h2=>by rw[q.2.1 i (.inl (by omega))];exact hf i h1 h2) (λf hf=>permIn_all d d' (m+1) b' f hb' q hf)
 have R:=h.perm w
 have sz:b'≤d'.size:=by rw[w.1];exact hb'
 refine⟨w,⟨h.lo,p.lo,by have:=h.hi;have:=p.hi;omega,R.size,?_,λe qe se=>?_⟩⟩
 ·rcases R.below with z | z
  ·exact .inl z
  ·exact .inr (λi h1 h2=>z i h1 (by have:=p.hi;omega))
 refine R.done e (permIn_mono d' e a' m a' b' (Nat.le_refl _) (Nat.le_of_lt p.hi) sz qe) ?_
 have PE:Parted lt a' b' m e:=P'.perm sz (qe.2.1 m (.inr (Nat.le_refl _))) (λf hf=>permIn_all d' e a' m f (by have:=p.hi;omega) qe hf) (λf hf i h1 h2=>by rw[qe.2.1 i (.inr (by omega))];exact hf i h1 h2)
 refine sorted_join hS PE.less PE.more se (λi j h1 h2 h3=>?_)
 rw[qe.2.1 i (.inr (by omega)),qe.2.1 j (.inr (by omega))]
 exact s i j h1 h2 h3
theorem Parted.belowL {α:Type} [Inhabited α] {lt:α→α→Bool} {a b a' b' m:Nat} {d:Array α} (h:Rest lt a b a' b' d) (p:Parted lt a' b' m d):Below lt a' m d:=by
 rcases h.below with z | z
 ·exact .inl z
 ·exact .inr (λi h1 h2=>z i h1 (by have:=p.hi;omega))
theorem Parted.belowR {α:Type} [Inhabited α] {lt:α→α→Bool} {a' b' m:Nat} {d:Array α} (p:Parted lt a' b' m d):Below lt (m+1) b' d:=.inr (λi h1 h2=>p.more i h1 h2)
end Go.Proofs.YtfbpjobobdidiaaGreatDoor
namespace Go.Proofs
open Go.Shelf
def Tryz.keysT_ren:Go.Shelf.Ren:=⟨fun | 7=>96 | 10=>130 | n=>n,fun | 23=>96 | 26=>3 | 3=>118 | 28=>164 | 0=>0 | 27=>163 | 33=>82 | 4=>4 | n=>n,fun | n=>n⟩
theorem Tryz.keysT:Go.Proofs.SlLaysZI.n7 prog Tryz.keysT_ren:={
 mixed:=by kernel_rfl
 f7:=⟨Tryz.f96.name,by decide,func96.trans (congrArg some (by kernel_rfl))⟩
 f10:=⟨Tryz.f130.name,by decide,func130.trans (congrArg some (by kernel_rfl))⟩
 t0:=underlying0
 a0:=Tryz.isAgg0
 z0:=Tryz.sizeOf0
 v0:=Tryz.zeroValue0
 t4:=underlying4
 a4:=Tryz.isAgg4
 z4:=Tryz.sizeOf4
 v4:=Tryz.zeroValue4
 t23:=underlying96
 a23:=Tryz.isAgg96
 z23:=Tryz.sizeOf96
 v23:=Tryz.zeroValue96
 t26:=underlying3
 a26:=Tryz.isAgg3
 z26:=Tryz.sizeOf3
 v26:=Tryz.zeroValue3
 t27:=underlying163
 a27:=Tryz.isAgg163
 z27:=Tryz.sizeOf163
 v27:=Tryz.zeroValue163
 t28:=underlying164
 a28:=Tryz.isAgg164
 z28:=Tryz.sizeOf164
 v28:=Tryz.zeroValue164
 t33:=underlying82
 a33:=Tryz.isAgg82
 z33:=Tryz.sizeOf82
 v33:=Tryz.zeroValue82 }
def Tryz.sortedA_ren:Go.Shelf.Ren:=⟨fun | 6=>92 | 8=>128 | 9=>118 | 11=>156 | 13=>151 | 12=>150 | 23=>170 | 24=>171 | 14=>161 | 15=>162 | 16=>163 | 17=>164 | 18=>165 | 19=>166 | 20=>167 | 21=>168 | 22=>169 | 25=>182 | 26=>183 | 27=>184 | 28=>185 | 29=>186 | 30=>181 | 31=>190 | n=>n,fun | 26=>3 | 28=>164 | 24=>44 | 0=>0 | 3=>3 | 37=>223 | 48=>242 | 50=>34 | 4=>4 | 40=>236 | 39=>235 | 45=>176 | 5=>5 | 9=>9 | 51=>249 | 55=>253 | 57=>257 | 58=>114 | 33=>82 | n=>n,fun | n=>n⟩
theorem Tryz.sortedA:Go.Proofs.SlLaysZI.n6 prog Tryz.sortedA_ren:={
 mixed:=by kernel_rfl
 f6:=⟨Tryz.f92.name,by decide,func92.trans (congrArg some (by kernel_rfl))⟩
 f8:=⟨Tryz.f128.name,by decide,func128.trans (congrArg some (by kernel_rfl))⟩
 f11:=⟨Tryz.f156.name,by decide,func156.trans (congrArg some (by kernel_rfl))⟩
 t0:=underlying0
 a0:=Tryz.isAgg0
 z0:=Tryz.sizeOf0
 v0:=Tryz.zeroValue0
 t24:=underlying44
 a24:=Tryz.isAgg44
 z24:=Tryz.sizeOf44
 v24:=Tryz.zeroValue44
 t26:=underlying3
 a26:=Tryz.isAgg3
 z26:=Tryz.sizeOf3
 v26:=Tryz.zeroValue3
 t28:=underlying164
 a28:=Tryz.isAgg164
 z28:=Tryz.sizeOf164
 v28:=Tryz.zeroValue164
 i26:=by kernel_rfl }
def Tryz.sortA_ren:Go.Shelf.Ren:=⟨fun | 5=>118 | 8=>151 | 7=>150 | 19=>170 | 20=>171 | 10=>161 | 11=>162 | 12=>163 | 13=>164 | 14=>165 | 15=>166 | 16=>167 | 17=>168 | 18=>169 | 30=>182 | 31=>183 | 32=>184 | 33=>185 | 34=>186 | 35=>181 | 40=>190 | n=>n,fun | 23=>44 | 25=>3 | 3=>3 | 32=>223 | 22=>44 | 0=>0 | 44=>242 | 46=>34 | 4=>4 | 36=>236 | 35=>235 | 41=>176 | 5=>5 | 9=>9 | 53=>249 | 57=>253 | 63=>257 | 64=>114 | n=>n,fun | n=>n⟩
theorem Tryz.sortA:Go.Proofs.SlLaysM.n5 prog Tryz.sortA_ren:={
 mixed:=by kernel_rfl
 f5:=⟨Tryz.f118.name,by decide,func118.trans (congrArg some (by kernel_rfl))⟩
 f7:=⟨Tryz.f150.name,by decide,func150.trans (congrArg some (by kernel_rfl))⟩
 f8:=func151.trans (congrArg some (by kernel_rfl))
 f10:=⟨Tryz.f161.name,by decide,func161.trans (congrArg some (by kernel_rfl))⟩
 f11:=⟨Tryz.f162.name,by decide,func162.trans (congrArg some (by kernel_rfl))⟩
 f12:=⟨Tryz.f163.name,by decide,func163.trans (congrArg some (by kernel_rfl))⟩
 f13:=⟨Tryz.f164.name,by decide,func164.trans (congrArg some (by kernel_rfl))⟩
 f14:=⟨Tryz.f165.name,by decide,func165.trans (congrArg some (by kernel_rfl))⟩
 f15:=⟨Tryz.f166.name,by decide,func166.trans (congrArg some (by kernel_rfl))⟩
 f16:=⟨Tryz.f167.name,by decide,func167.trans (congrArg some (by kernel_rfl))⟩
 f17:=⟨Tryz.f168.name,by decide,func168.trans (congrArg some (by kernel_rfl))⟩
 f18:=⟨Tryz.f169.name,by decide,func169.trans (congrArg some (by kernel_rfl))⟩
 f19:=func170.trans (congrArg some (by kernel_rfl))
 f20:=func171.trans (congrArg some (by kernel_rfl))
 f30:=⟨Tryz.f182.name,by decide,func182.trans (congrArg some (by kernel_rfl))⟩
 f31:=func183.trans (congrArg some (by kernel_rfl))
 f32:=func184.trans (congrArg some (by kernel_rfl))
 f33:=⟨Tryz.f185.name,by decide,func185.trans (congrArg some (by kernel_rfl))⟩
 f34:=⟨Tryz.f186.name,by decide,func186.trans (congrArg some (by kernel_rfl))⟩
 f35:=⟨Tryz.f181.name,by decide,func181.trans (congrArg some (by kernel_rfl))⟩
 f40:=⟨Tryz.f190.name,by decide,func190.trans (congrArg some (by kernel_rfl))⟩
 t0:=underlying0
 a0:=Tryz.isAgg0
 z0:=Tryz.sizeOf0
 v0:=Tryz.zeroValue0
 t3:=underlying3
 a3:=Tryz.isAgg3
 z3:=Tryz.sizeOf3
 v3:=Tryz.zeroValue3
 t4:=underlying4
 a4:=Tryz.isAgg4
 z4:=Tryz.sizeOf4
 v4:=Tryz.zeroValue4
 t5:=underlying5
 a5:=Tryz.isAgg5
 z5:=Tryz.sizeOf5
 v5:=Tryz.zeroValue5
 t9:=underlying9
 a9:=Tryz.isAgg9
 z9:=Tryz.sizeOf9
 v9:=Tryz.zeroValue9
 t22:=underlying44
 a22:=Tryz.isAgg44
 z22:=Tryz.sizeOf44
 v22:=Tryz.zeroValue44
 t23:=underlying44
 a23:=Tryz.isAgg44
 z23:=Tryz.sizeOf44
 v23:=Tryz.zeroValue44
 t25:=underlying3
 a25:=Tryz.isAgg3
 z25:=Tryz.sizeOf3
 v25:=Tryz.zeroValue3
 t32:=underlying223
 a32:=Tryz.isAgg223
 z32:=Tryz.sizeOf223
 v32:=Tryz.zeroValue223
 t35:=underlying235
 a35:=Tryz.isAgg235
 z35:=Tryz.sizeOf235
 v35:=Tryz.zeroValue235
 t36:=underlying236
 a36:=Tryz.isAgg236
 z36:=Tryz.sizeOf236
 v36:=Tryz.zeroValue236
 t41:=underlying176
 a41:=Tryz.isAgg176
 z41:=Tryz.sizeOf176
 v41:=Tryz.zeroValue176
 t44:=underlying242
 a44:=Tryz.isAgg242
 z44:=Tryz.sizeOf242
 v44:=Tryz.zeroValue242
 t46:=underlying34
 a46:=Tryz.isAgg34
 z46:=Tryz.sizeOf34
 v46:=Tryz.zeroValue34
 t53:=underlying249
 a53:=Tryz.isAgg249
 z53:=Tryz.sizeOf249
 v53:=Tryz.zeroValue249
 t57:=underlying253
 a57:=Tryz.isAgg253
 z57:=Tryz.sizeOf253
 v57:=Tryz.zeroValue253
 t63:=underlying257
 a63:=Tryz.isAgg257
 z63:=Tryz.sizeOf257
 v63:=Tryz.zeroValue257
 t64:=underlying114
 a64:=Tryz.isAgg114
 z64:=Tryz.sizeOf114
 v64:=Tryz.zeroValue114 }
end Go.Proofs
namespace Go.Proofs.YtfbpjobobdidiaaGreatDoor
open Lib (hid)
open Go.Proofs.Tryz
structure GoodR (room:Nat) (ss:List Sx):Prop where
 low:1≤room
 high:room≤64
 len:ss.length≤room
 once:(ss.map Sx.w).Nodup
 may:∀s∈ss,mayW s.t s.w
theorem good_add {room:Nat} {ss:List Sx} (h:GoodR room ss) (t:Int) (x:Wt):GoodR room (addS room ss t x):=by
 unfold addS
 by_cases k:addI room ss t x=0
 ·rw[if_pos k]
  unfold addI at k
  by_cases m:mayW t x
  ·rw[if_pos m] at k
   by_cases a:waitsB ss x=true
   ·rw[if_pos a] at k;cases k
   ·rw[if_neg a] at k
    by_cases b:room≤ss.length
    ·rw[if_pos b] at k;cases k
    ·refine⟨h.low,h.high,by rw[List.length_append,List.length_singleton];omega,?_,?_⟩
     ·rw[List.map_append,List.map_singleton,List.nodup_append]
      refine⟨h.once,by simp,?_⟩
      intro y hy z hz e
      rw[List.mem_singleton] at hz
      subst hz e
      obtain⟨s,hs,e2⟩:=List.mem_map.1 hy
      apply a
      unfold waitsB
      rw[List.any_eq_true]
      exact⟨s,hs,decide_eq_true e2⟩
     ·intro s hs
      rw[List.mem_append,List.mem_singleton] at hs
      rcases hs with hs | rfl
      ·exact h.may s hs
      ·exact m
  ·rw[if_neg m] at k;cases k
 ·rw[if_neg k];exact h
theorem good_nil {room:Nat} (h1:1≤room) (h2:room≤64):GoodR room []:=⟨h1,h2,Nat.zero_le _,by simp,λs hs=>by cases hs⟩
end Go.Proofs.YtfbpjobobdidiaaGreatDoor
namespace Go.Proofs.YtfbpjobobdidiaaGreatDoor
open Lib (hid)
open Go.Proofs.Tryz
open Go.RowKit Go.ChangeShapes Go.WideShapes Go.Deep
set_option linter.unusedVariables false
def Holds {α:Type} (w:World) (A:Option Addr) (k:Nat) (c:α→List Value) (xs:List α):Prop:=
 ∀i a,xs[i]? = some a→∃b o,A=some ⟨b,o,none⟩∧b<w.heap.size∧∀j v,(c a)[j]? = some v→w.cell? ⟨b,o+(i*k+j),none⟩=some v
theorem spot_of {w:World} {a:Addr} {v:Value} (h:w.cell? a=some v):a.spot=none:=by
 unfold World.cell? at h
 split at h
 ·split at h
  ·cases h
  ·rename_i k;simpa using k
 ·cases h
theorem open_rows {H:Type} {enc:TypeId × Value→H} {P:Program} {W:World} {t e:TypeId} {α:Type} {k:Nat} {c:α→List Value} {wf:α→Prop} [Inhabited α]
  (ht:P.underlying t=some (.slice e)) (hC:P.cellsOf e=k) (h0:0<k) (hk:∀a,(c a).length=k)
  (hp:∀n cs x,DataW.trod enc P W 0 (λ_=>true) true n e cs=some x→∃a,cs=c a∧wf a)
  {fuel:Nat} {A:Option Addr} {len cap:Nat} {x:DataW H × List MemPlace} (h:DataW.trod enc P W 0 (λ_=>true) true fuel t [.slice A len cap]=some x) :
  len≤maxLen∧∃xs:List α,xs.length=len∧Holds W A k c xs∧∀a∈xs,wf a:=by
 rcases open_slice ht h with ⟨e1,_⟩|⟨a,len',cap',m,n,D,Pl,e1,_,hl,hm,hmm,_,hi⟩
 ·simp at e1
  obtain⟨rfl,rfl,rfl⟩:=e1
  exact⟨Nat.zero_le _,[],rfl,λi a h=>by simp at h,λa h=>by cases h⟩
 ·simp at e1
  obtain⟨rfl,rfl,rfl⟩:=e1
  simp only[if_true] at hmm
  subst hmm
  have hx:∀i,i<len→∃y:α,W.cells? 0 (a.add (i*k)) k=some (c y)∧wf y:=by
   intro i hlt
   obtain⟨cs,hc,htr⟩:=hi i (by omega)
   obtain⟨y,rfl,hw⟩:=hp _ _ _ htr
   rw[hC] at hc
   exact⟨y,hc,hw⟩
  obtain⟨f,hf⟩:=choose_lt hx
  refine⟨by omega,(List.range len).map f,by simp,?_,?_⟩
  ·intro i y hy
   have hlt:i<len:=by have:=lt_of_get hy;simpa using this
   simp[hlt] at hy
   subst hy
   have sp:a.spot=none:=by
    obtain⟨hc,_⟩:=hf 0 (by omega)
    obtain⟨_,hcl,hat⟩:=World.cells?_some hc
    have h1:=hat 0 h0
    obtain⟨v0,hv0⟩:∃v,(c (f 0))[0]? = some v:=⟨_,List.getElem?_eq_getElem (by rw[hk];exact h0)⟩
    rw[hv0] at h1
    have:=spot_of h1
    simpa [Addr.add] using this
   obtain⟨hc,_⟩:=hf i hlt
   obtain⟨_,hcl,hat⟩:=World.cells?_some hc
   obtain⟨b,o,spot⟩:=a
   simp only at sp
   subst sp
   have add_:∀b o n,(Addr.mk b o none).add n=⟨b,o+n,none⟩:=λb o n=>by
    unfold Addr.add
    split
    ·rename_i z;rw[z];rfl
    ·rfl
   have cell:∀j v,(c (f i))[j]? = some v→W.cell? ⟨b,o+(i*k+j),none⟩=some v:=λj v hv=>by
    have:j<k:=by have:=lt_of_get hv;rw[hk] at this;exact this
    have h1:=hat j this
    rw[add_,add_,hv] at h1
    rw[←Nat.add_assoc];exact h1
   obtain⟨v0,hv0⟩:∃v,(c (f i))[0]? = some v:=⟨_,List.getElem?_eq_getElem (by rw[hk];exact h0)⟩
   exact⟨b,o,rfl,World.block_lt_of_cell? W _ (cell 0 v0 hv0),cell⟩
  ·intro y hy
   obtain⟨i,hi',rfl⟩:=List.mem_map.1 hy
   exact (hf i (List.mem_range.1 hi')).2
theorem open_fields {H:Type} {enc:TypeId × Value→H} {P:Program} {W:World} {e:TypeId} {fs:Array Field} (he:P.underlying e=some (.struct fs)) (hone:oneCellFields P fs=true) (hC:P.cellsOf e=fs.size)
  {n:Nat} {cs:List Value} {x:DataW H × List MemPlace} (h:DataW.trod enc P W 0 (λ_=>true) true n e cs=some x) :
  cs.length=fs.size∧∃m,∀(j:Nat) (f:Field),fs[j]? = some f→∃v y,cs[j]? = some v∧DataW.trod enc P W 0 (λ_=>true) true m f.type [v]=some y:=by
 obtain⟨ys,m,_,_,hlen,hyl,hf⟩:=DataW.trod_struct he h
 refine⟨by omega,m,λj f hj=>?_⟩
 obtain⟨ho,hk⟩:=hone_of hone j f hj
 have hjl:j<fs.size:=(Array.getElem?_eq_some_iff.1 hj).1
 have h1:=hf j f hj
 rw[ho,hk] at h1
 rw[show (cs.drop j).take 1=[cs[j]'(by omega)] by rw[List.drop_eq_getElem_cons (by omega)];rfl,List.getElem?_eq_getElem (show j<ys.length by omega)] at h1
 exact⟨_,_,List.getElem?_eq_getElem (by omega),h1⟩
theorem Holds.at_ {α:Type} {w w':World} {A:Option Addr} {k:Nat} {c:α→List Value} {xs:List α} (h:Holds w A k c xs) (hb:Below w.heap.size w w') {i:Nat} {a:α} (hi:xs[i]? = some a) :
  ∃b o,A=some ⟨b,o,none⟩∧b<w.heap.size∧∀j v,(c a)[j]? = some v→w'.cell? ⟨b,o+(i*k+j),none⟩=some v:=by
 obtain⟨b,o,rfl,hlt,hc⟩:=h i a hi
 exact⟨b,o,rfl,hlt,λj v hv=>(hb.cell (p:=⟨b,o+(i*k+j),none⟩) hlt).trans (hc j v hv)⟩
end Go.Proofs.YtfbpjobobdidiaaGreatDoor
namespace Go.Proofs.YtfbpjobobdidiaaGreatDoor
open Lib (hid)
open Go.Proofs.Tryz
set_option linter.unusedVariables false
structure Sd where
 b:Int
 k:Int
 deriving DecidableEq
instance:Inhabited Sd:=⟨⟨0,0⟩⟩
def tkAt (ss:List Sd) (x:Int):Option Nat:=ss.findIdx? (λs=>s.k==x)
def tkI (ss:List Sd) (x:Int):Int:=match tkAt ss x with | some k=>k | none=>-1
theorem tk_of {ss:List Sd} {x:Int} {k:Nat} (h:tkAt ss x=some k):∃s,ss[k]? = some s∧s.k=x∧∀(j:Nat) a,j<k→ss[j]? = some a→a.k≠x:=by
 unfold tkAt at h
 rw[List.findIdx?_eq_some_iff_getElem] at h
 obtain⟨hk,h1,h2⟩:=h
 refine⟨ss[k],List.getElem?_eq_getElem hk,by simpa using h1,λj b hj hb=>?_⟩
 have:=h2 j hj
 rw[List.getElem?_eq_getElem (by omega)] at hb
 injection hb with hb
 rw[hb] at this
 simpa using this
theorem tk_none {ss:List Sd} {x:Int} (h:tkAt ss x=none):∀(j:Nat) a,ss[j]? = some a→a.k≠x:=by
 unfold tkAt at h
 rw[List.findIdx?_eq_none_iff] at h
 intro j b hb
 simpa using h b (List.mem_of_getElem? hb)
def laneL (ss:List Sd) (b:Int):List Int:=(ss.filter (λs=>s.b==b)).map (·.k)
theorem lane_le (ss:List Sd) (b:Int):(laneL ss b).length≤ss.length:=by
 unfold laneL
 rw[List.length_map]
 exact List.length_filter_le _ _
def headI (l:List Int):Int:=l.head?.getD 0
def lastI (l:List Int):Int:=l.getLast?.getD 0
def someB (l:List Int):Bool:=!l.isEmpty
def headsL (ss:List Sd) (n:Nat):List Int:=(List.range n).filterMap (λb:Nat=>(laneL ss (b:Int)).head?)
theorem heads_yes {ss:List Sd} {n:Nat} {x:Int} {r:List Int} (h:laneL ss (n:Int)=x::r):headsL ss (n+1)=headsL ss n++[x]:=by
 unfold headsL
 rw[List.range_succ,List.filterMap_append]
 simp[h]
theorem heads_skip {ss:List Sd} {n:Nat} (h:laneL ss (n:Int)=[]):headsL ss (n+1)=headsL ss n:=by
 unfold headsL
 rw[List.range_succ,List.filterMap_append]
 simp[h]
theorem heads_le (ss:List Sd) (n:Nat):(headsL ss n).length≤n:=by
 unfold headsL
 exact Nat.le_trans (List.length_filterMap_le _ _) (by simp)
def pushC (n room:Nat) (ss:List Sd) (b x:Int):Int:=if 0≤b∧b<n∧1≤x then (if (tkAt ss x).isSome then 4 else if room≤ss.length then 2 else 0) else 1
def pushS (n room:Nat) (ss:List Sd) (b x:Int):List Sd:=if pushC n room ss b x=0 then ss++[⟨b,x⟩] else ss
def pullC (ss:List Sd) (x:Int):Int:=if (tkAt ss x).isSome then 0 else 3
def blockI (ss:List Sd) (x:Int):Int:=match tkAt ss x with | some k=>(ss[k]?.getD default).b | none=>0
def pullS (ss:List Sd) (x:Int):List Sd:=match tkAt ss x with | some k=>ss.take k++ss.drop (k+1) | none=>ss
end Go.Proofs.YtfbpjobobdidiaaGreatDoor
namespace Go.Proofs.YtfbpjobobdidiaaGreatDoor
open Lib (hid)
open Go.Proofs.Tryz
open Go.RowKit
set_option linter.unusedVariables false
def Owns {α:Type} (w:World) (base:Nat) (e:TypeId) (k:Nat) (c:α→List Value) (v:Value) (xs:List α):Prop:=w.ownsRow base e k v xs.length (xs.flatMap c)
theorem Owns.start {α:Type} (w:World) (base:Nat) (e:TypeId) (k:Nat) (c:α→List Value):Owns w base e k c (.slice none 0 0) []:=World.ownsRow_nil _ _ _ _
theorem Owns.base_le {α:Type} {w:World} {base:Nat} {e:TypeId} {k:Nat} {c:α→List Value} {v:Value} {xs:List α} (h:Owns w base e k c v xs) {g:Nat} (hg:v.ownBlock=some g):base≤g∧g<w.heap.size:=World.ownsRow.lt h g hg
theorem Owns.keep {α:Type} {w w':World} {base:Nat} {e:TypeId} {k:Nat} {c:α→List Value} {v:Value} {xs:List α} (h:Owns w base e k c v xs) {S:Nat→Prop} (o:Only S w w') (hn:∀g,v.ownBlock=some g→¬ S g):Owns w' base e k c v xs:=by
 refine⟨h.1,?_⟩
 rcases h.2 with h2|⟨g,cap,cur,hv,hg,hh,r⟩
 ·exact .inl h2
 ·refine .inr ⟨g,cap,cur,hv,hg,?_,r⟩
  rw[o.block g (Array.getElem?_eq_some_iff.1 hh).1 (hn g (by rw[hv];rfl))]
  exact hh
theorem Owns.still {α:Type} {w w':World} {base:Nat} {e:TypeId} {k:Nat} {c:α→List Value} {v:Value} {xs:List α} (h:Owns w base e k c v xs) (o:Only n_ w w'):Owns w' base e k c v xs:=h.keep o (λ_ _ s=>s)
theorem Owns.form {α:Type} {w:World} {base:Nat} {e:TypeId} {k:Nat} {c:α→List Value} {v:Value} {xs:List α} (h:Owns w base e k c v xs) (hx:xs≠[]) :
  ∃g cap,v=.slice (some ⟨g,0,none⟩) xs.length cap∧base≤g∧g<w.heap.size∧xs.length≤cap∧cap≤maxLen:=by
 rcases h.2 with ⟨hv,h2⟩|⟨g,cap,cur,hv,hg,hh,h3,h4,_⟩
 ·exact absurd (List.eq_nil_of_length_eq_zero h2) hx
 ·exact⟨g,cap,hv,hg,(Array.getElem?_eq_some_iff.1 hh).1,h3,h4⟩
theorem Owns.cell {α:Type} {w:World} {base:Nat} {e:TypeId} {k:Nat} {c:α→List Value} {xs:List α} {g cap:Nat} (h:Owns w base e k c (.slice (some ⟨g,0,none⟩) xs.length cap) xs) (hk:∀a,(c a).length=k) {i:Nat} {a:α} (hi:xs[i]? = some a) {j:Nat} (hj:j<k) :
  w.cell? ⟨g,i*k+j,none⟩=(c a)[j]?:=by
 have hl:=lt_of_get hi
 have hb:i*k+j<xs.length*k:=by
  have:(i+1)*k≤xs.length*k:=Nat.mul_le_mul_right k hl
  rw[Nat.succ_mul] at this
  omega
 rw[World.ownsRow.cellAt h (i*k+j) hb,←flat_get hk hi hj]
 unfold flat
 rw[List.getElem?_toArray]
theorem Owns.frozen {α:Type} {w:World} {base:Nat} {e:TypeId} {k:Nat} {c:α→List Value} {xs:List α} {n g cap:Nat} (h:Owns w base e k c (.slice (some ⟨g,0,none⟩) n cap) xs) (j:Nat):w.frozen? ⟨g,j,none⟩=false:=by
 rcases h.2 with ⟨h',_⟩|⟨g',cap',cur,h',_,hg,_⟩
 ·simp at h'
 ·simp only[Value.slice.injEq,Option.some.injEq,Addr.mk.injEq,and_true] at h'
  obtain⟨rfl,_⟩:=h'
  simp[World.frozen?,hg]
theorem Only.of_grown {w w':World} {row:Option Nat} (h:w.grownBy w' row):Only (λk=>some k=row) w w':=⟨h.os,h.tape,h.output,h.size,h.block⟩
theorem wpList_append_one {α:Type} {P:Program} {w:World} {ops:Array Oper} {rest:List Oper} {o:Oper} {a:Act} {Q:Exit→Act→World→Prop} (hgd:o.guard=none) (s x:Operand) (t:TypeId)
  (ho:o.op=.call { callee:=.builtin .append,args:=#[s,x],argTypes:=#[t,t] })
  {base:Nat} {e:TypeId} {k:Nat} {c:α→List Value} (i:TypeInfo) (z:Value) (bytes:Nat) (ht:P.underlying t=some (.slice e)) (hi:P.info? e=some i) (hz:i.zero=some z)
  (hsize:i.size=k) (hby:i.bytes=bytes) (hzs:z.cells.size=k) (hk0:0<k) (hk:∀y,(c y).length=k) (h1:∀y,∀u∈c y,u.oneCell'=true)
  {v:Value} {xs:List α} (hs:a.eval s=v) (hown:Owns w base e k c v xs)
  {g cc:Nat} {y:α} (hx:a.eval x=.slice (some ⟨g,0,none⟩) 1 cc) (hrow:Row w g e (c y).toArray)
  (hlen:xs.length<9223372036854775807) (hbytes:(xs.length+1)*bytes≤140737488355328) (hbase:base≤w.heap.size)
  (h:∀v' w',Owns w' base e k c v' (xs++[y])→Only (λj=>base≤j) w w'→wpList P ops Q rest (a.put o.dst v') w'):wpList P ops Q (o::rest) a w:=by
 refine wpList_append_own w hgd s x t ho base e i z k bytes ht hi hz hsize hby hzs hk0 v xs.length (xs.flatMap c) hs hown ⟨g,0,none⟩ 1 cc (c y) hx (by rw[hk];omega) ?_ (h1 y) (by unfold maxLen;omega) hbytes hbase ?_
 ·intro j u hj
  have:(Addr.mk g 0 none).add j=⟨g,j,none⟩:=by
   unfold Addr.add
   split
   ·rename_i q;rw[q]
   ·simp
  rw[this,hrow.cell,List.getElem?_toArray]
  exact hj
 ·intro v' w' h2 h3 _
  refine h v' w' ?_ ?_
  ·unfold Owns
   rw[List.flatMap_append,List.length_append]
   simpa using h2
  ·exact (Only.of_grown h3).more (λj _ e=>(hown.base_le e.symm).1)
structure Pl where
 k:Int
 a:Bool
 n:Int
 s:Bool
deriving DecidableEq
def Pl.cells (p:Pl):List Value:=[.int .i64 p.k,.bool p.a,.int .i64 p.n,.bool p.s]
theorem pl4 (p:Pl):p.cells.length=4:=rfl
theorem pl_one:∀y:Pl,∀u∈y.cells,u.oneCell'=true:=λy u hu=>by
 simp[Pl.cells] at hu
 rcases hu with rfl | rfl | rfl | rfl<;>rfl
def kv (p:Pl):Int:=(if p.a then 1000000000 else 0)+p.n
def ltP (p q:Pl):Bool:=if p.a != q.a then q.a else decide (p.n<q.n)
theorem lt_kv {p q:Pl} (hp:0≤p.n∧p.n<1000000000) (hq:0≤q.n∧q.n<1000000000):ltP p q=decide (kv p<kv q):=by
 unfold ltP kv
 cases p.a<;>cases q.a<;>simp<;>omega
def sw (f:Nat→Int) (i j:Nat):Nat→Int:=λk=>if j=k then f i else if i=k then f j else f k
def Heaped (f:Nat→Int) (n:Nat):Prop:=∀i,0<i→i<n→f ((i-1) / 2)≤f i
def UpOk (f:Nat→Int) (n j:Nat):Prop:=
 (∀i,0<i→i<n→i≠j→f ((i-1) / 2)≤f i)∧∀i,0<i→i<n→(i-1) / 2=j→0<j→f ((j-1) / 2)≤f i
def DownOk (f:Nat→Int) (n i:Nat):Prop:=
 (∀m,0<m→m<n→(m-1) / 2≠i→f ((m-1) / 2)≤f m)∧∀m,0<m→m<n→(m-1) / 2=i→0<i→f ((i-1) / 2)≤f m
theorem up_stop {f:Nat→Int} {n j:Nat} (h:UpOk f n j) (e:j=0∨¬ f j<f ((j-1) / 2)):Heaped f n:=λi h0 hn=>by
 by_cases k:i=j
 ·subst k
  rcases e with e | e
  ·omega
  ·omega
 ·exact h.1 i h0 hn k
theorem up_go {f:Nat→Int} {n j:Nat} (h:UpOk f n j) (h0:0<j) (hn:j<n) (e:f j<f ((j-1) / 2)):UpOk (sw f ((j-1) / 2) j) n ((j-1) / 2):=by
 have hpj:(j-1) / 2≠j:=by omega
 generalize hp:(j-1) / 2=p at *
 refine⟨λi i0 hi ne=>?_,λi i0 hi ei p0=>?_⟩
 ·unfold sw
  by_cases k:i=j
  ·subst k
   rw[hp,if_neg (by omega),if_pos rfl,if_pos rfl]
   omega
  ·rw[if_neg (show ¬j=i by omega),if_neg (show ¬p=i by omega)]
   by_cases k2:(i-1) / 2=j
   ·rw[if_pos k2.symm]
    exact hp▸h.2 i i0 hi k2 h0
   ·rw[if_neg (show ¬j=(i-1) / 2 by omega)]
    by_cases k3:(i-1) / 2=p
    ·rw[if_pos k3.symm]
     have:=h.1 i i0 hi k
     rw[k3] at this
     omega
    ·rw[if_neg (show ¬p=(i-1) / 2 by omega)]
     exact h.1 i i0 hi k
 ·unfold sw
  have q1:(p-1) / 2≠j:=by omega
  have q2:(p-1) / 2≠p:=by omega
  rw[if_neg (show ¬j=(p-1) / 2 by omega),if_neg (show ¬p=(p-1) / 2 by omega)]
  have hpp:=h.1 p p0 (by omega) hpj
  by_cases k:i=j
  ·subst k
   rw[if_pos rfl]
   exact hpp
  ·rw[if_neg (show ¬j=i by omega),if_neg (show ¬p=i by omega)]
   have:=h.1 i i0 hi k
   rw[ei] at this
   omega
theorem down_stop {f:Nat→Int} {n i:Nat} (h:DownOk f n i) (e:∀m,0<m→m<n→(m-1) / 2=i→f i≤f m):Heaped f n:=λm m0 hm=>by
 by_cases k:(m-1) / 2=i
 ·rw[k];exact e m m0 hm k
 ·exact h.1 m m0 hm k
theorem down_go {f:Nat→Int} {n i j:Nat} (h:DownOk f n i) (j0:0<j) (hn:j<n) (hj:(j-1) / 2=i) (e:f j<f i) (hs:∀m,0<m→m<n→(m-1) / 2=i→f j≤f m):DownOk (sw f i j) n j:=by
 have hij:i≠j:=by omega
 refine⟨λm m0 hm ne=>?_,λm m0 hm em _=>?_⟩
 ·unfold sw
  rw[if_neg (show ¬j=(m-1) / 2 by omega)]
  by_cases k:m=j
  ·subst k
   rw[if_pos hj.symm,if_pos rfl]
   omega
  ·rw[if_neg (show ¬j=m by omega)]
   by_cases k2:(m-1) / 2=i
   ·rw[if_pos k2.symm,if_neg (show ¬i=m by omega)]
    exact hs m m0 hm k2
   ·rw[if_neg (show ¬i=(m-1) / 2 by omega)]
    by_cases k3:i=m
    ·rw[if_pos k3]
     subst k3
     exact h.2 j j0 hn hj m0
    ·rw[if_neg k3]
     exact h.1 m m0 hm k2
 ·unfold sw
  rw[hj,if_neg (show ¬j=i by omega),if_pos rfl,if_neg (show ¬j=m by omega),if_neg (show ¬i=m by omega)]
  have:=h.1 m m0 hm (by omega)
  rw[em] at this
  exact this
theorem root_least {f:Nat→Int} {n:Nat} (h:Heaped f n):∀i,i<n→f 0≤f i:=by
 intro i
 induction i using Nat.strongRecOn with
 | ind i ih =>
  intro hi
  by_cases k:i=0
  ·rw[k];exact Int.le_refl _
  ·exact Int.le_trans (ih ((i-1) / 2) (by omega) (by omega)) (h i (by omega) hi)
theorem heaped_push {f g:Nat→Int} {n:Nat} (h:Heaped f n) (e:∀i,i<n→g i=f i):UpOk g (n+1) n:=by
 refine⟨λi i0 hi ne=>?_,λi i0 hi ei n0=>by omega⟩
 rw[e _ (by omega),e _ (by omega)]
 exact h i i0 (by omega)
theorem heaped_root {f g:Nat→Int} {n:Nat} (h:Heaped f (n+1)) (e:∀i,0<i→i<n→g i=f i):DownOk g n 0:=by
 refine⟨λm m0 hm ne=>?_,λm m0 hm em n0=>by omega⟩
 rw[e _ (by omega) (by omega),e _ m0 hm]
 exact h m m0 (by omega)
theorem heaped_less {f g:Nat→Int} {n m:Nat} (h:Heaped f n) (hm:m≤n) (e:∀i,i<m→g i=f i):Heaped g m:=λi i0 hi=>by
 rw[e _ (by omega),e _ hi]
 exact h i i0 (by omega)
def fv (d:List Pl) (i:Nat):Int:=match d[i]? with | some p=>kv p | none=>0
theorem fv_at {d:List Pl} {i:Nat} {p:Pl} (h:d[i]? = some p):fv d i=kv p:=by unfold fv;rw[h]
def swp12 (d:List Pl) (i j:Nat) (x y:Pl):List Pl:=(d.set i y).set j x
theorem swp_len (d:List Pl) (i j:Nat) (x y:Pl):(swp12 d i j x y).length=d.length:=by simp[swp12]
theorem swp_at {d:List Pl} {i j:Nat} {x y:Pl} (hi:d[i]? = some x) (hj:d[j]? = some y) (k:Nat):(swp12 d i j x y)[k]? = if j=k then some x else if i=k then some y else d[k]?:=by
 have li:=lt_of_get hi
 have lj:=lt_of_get hj
 unfold swp12
 rw[List.getElem?_set,List.getElem?_set,List.length_set,if_pos lj,if_pos li]
theorem fv_swp {d:List Pl} {i j:Nat} {x y:Pl} (hi:d[i]? = some x) (hj:d[j]? = some y):fv (swp12 d i j x y)=sw (fv d) i j:=by
 funext k
 unfold sw
 by_cases k1:j=k
 ·rw[if_pos k1,fv_at hi]
  exact fv_at (by rw[swp_at hi hj,if_pos k1])
 ·rw[if_neg k1]
  by_cases k2:i=k
  ·rw[if_pos k2,fv_at hj]
   exact fv_at (by rw[swp_at hi hj,if_neg k1,if_pos k2])
  ·rw[if_neg k2]
   unfold fv
   rw[swp_at hi hj,if_neg k1,if_neg k2]
theorem swp_perm {d:List Pl} {i j:Nat} {x y:Pl} (hi:d[i]? = some x) (hj:d[j]? = some y):(swp12 d i j x y).Perm d:=by
 have li:=lt_of_get hi
 have lj:=lt_of_get hj
 have h:=Array.swap_perm (xs:=d.toArray) (i:=i) (j:=j) (by simpa using li) (by simpa using lj)
 have e:(d.toArray.swap i j (by simpa using li) (by simpa using lj)).toList=swp12 d i j x y:=by
  have e1:d[i]=x:=by rw[List.getElem?_eq_getElem li] at hi;exact Option.some.inj hi
  have e2:d[j]=y:=by rw[List.getElem?_eq_getElem lj] at hj;exact Option.some.inj hj
  simp[Array.swap,swp12,e1,e2]
 have h2:=h.toList
 rw[e] at h2
 exact h2
theorem least_first {d r:List Pl} {t x:Pl} (hp:d.Perm (t::r)) (hs:(t::r).Pairwise (λp q=>kv p<kv q)) (hh:Heaped (fv d) d.length) (hx:d[0]? = some x):x=t:=by
 have hxm:x∈t::r:=hp.mem_iff.1 (List.mem_of_getElem? hx)
 have htm:t∈d:=hp.mem_iff.2 (by simp)
 obtain⟨i,hi,e⟩:=List.getElem_of_mem htm
 have hle:=root_least hh i hi
 rw[fv_at hx,fv_at (show d[i]? = some t by rw[List.getElem?_eq_getElem hi,e])] at hle
 rcases List.mem_cons.1 hxm with q | q
 ·exact q
 ·have:=(List.pairwise_cons.1 hs).1 x q
  omega
theorem perm_last {d e r:List Pl} {t x:Pl} (hp:d.Perm (t::r)) (he:(e++[x]).Perm d) (hx:x=t):e.Perm r:=by
 subst hx
 have h1:(x::e).Perm (e++[x]):=(List.perm_append_comm (l₁:=[x]) (l₂:=e))
 exact List.Perm.cons_inv ((h1.trans he).trans hp)
abbrev left (c:Int):Ending:=.panicked [{ v:=.iface 28 (.int .i64 c),recovered:=false }]
theorem unless_yes (c:Value) (w:World):Calls prog 79 #[.bool true,c] w λe w'=>e=.returned (.tuple #[])∧w=w':=by
 go_enter func79,ntmps79
 go_wp2
 go_end0
 exact⟨rfl,rfl⟩
theorem unless_no (c:Int) (w:World):Calls prog 79 #[.bool false,.int .i64 c] w λe w'=>e=left c∧w=w':=by
 go_enter func79,ntmps79
 go_wp2
 exact⟨rfl,rfl,rfl⟩
theorem run_assert_code (c:Int) (w:World):(Instr.typeAssert (.iface 28 (.int .i64 c)) 20 28 true).run prog w=.ok (.tuple #[.int .i64 c,.bool true]) w:=by kernel_rfl
theorem taken_back (p:Addr) (c:Int) (older:List PanicEntry) (w:World) (v0:Value) (hc:w.cell? p=some v0) (hz:w.frozen? p=false) :
  CallsD prog 124 #[.pointer (some p)] (.panicking ({ v:=.iface 28 (.int .i64 c),recovered:=false }::older)) w λe u' w' =>
   e=.returned (.tuple #[])∧u'=.panicking ({ v:=.iface 28 (.int .i64 c),recovered:=true }::older)∧w'=w.setCell p (.int .i64 c):=by
 have ta:=run_assert_code
 refine callsD_of_wpS func124 rfl λc₀ cs hu=>?_
 apply wpS_seq
 apply wpS_region
 simp[wpOpsS,go_sem,recoverD,hu,ntmps124,Exit.thenS]
 simp only[show Array.replicate 10 undef=#[undef,undef,undef,undef,undef,undef,undef,undef,undef,undef] from rfl]
 simp
 apply wpS_of_wp
 go_wp2
 simp[bodyPostS,results,Tryz.results124]
theorem idle_back (p:Addr) (w:World) :
  CallsD prog 124 #[.pointer (some p)] .returning w λe u' w'=>e=.returned (.tuple #[])∧u'=.returning∧w'=w:=by
 refine callsD_of_wpS func124 rfl λc₀ cs hu=>?_
 apply wpS_seq
 apply wpS_region
 simp[wpOpsS,go_sem,recoverD,hu,ntmps124,Exit.thenS]
 simp only[show Array.replicate 10 undef=#[undef,undef,undef,undef,undef,undef,undef,undef,undef,undef] from rfl]
 simp
 apply wpS_of_wp
 go_wp2
 cases c₀
 simp_all [bodyPostS,results,Tryz.results124]
def done:Option Int→Ending
 | none=>.returned (.tuple #[])
 | some c=>left c
set_option maxHeartbeats 400000 in
theorem catch_any (G:FuncId) (caps:Array Value) (w:World) (R:Option Int→World→Prop) (hG:∀w,(callFunc G caps).run prog w=.ok (.enter G caps) w)
  (h:Calls prog G caps (w.alloc (.cells #[.int .i64 0] 28)) λe w'=>∃r,e=done r∧R r w'∧Row w' w.heap.size 28 #[.int .i64 0]) :
  Calls prog 77 #[.func (.func G) #[] caps] w λe w'=>∃r w1,e=.returned (.int .i64 (r.getD 0))∧R r w1∧Row w1 w.heap.size 28 #[.int .i64 0]∧w'=w1.setCell ⟨w.heap.size,0,none⟩ (.int .i64 (r.getD 0)):=by
 have hmf:∀(fn:Fn) (first cap:Array Value) (w:World),(Instr.makeFunc fn first cap).run prog w=.ok (.func fn first cap) w:=λ_ _ _ _=>rfl
 have H:=hid h
 clear h
 go_enter_defers func77,ntmps77
 go_wp2_with fail
 (with_reducible refine H.out.mono ?_)
 rintro e w1 ⟨r,rfl,hR,hrow⟩
 have c1:=hrow.cell 0
 have c2:=hrow.frozen 0
 simp only[List.getElem?_toArray,List.getElem?_cons_zero] at c1
 rcases r with _ | c
 ·simp only[done]
  go_wp2_with fail
  refine leaves_cons (f:=124) (args:=#[.pointer (some ⟨w.heap.size,0,none⟩)]) (by simp) (by simp[go_sem]) ?_
  refine (idle_back ⟨w.heap.size,0,none⟩ _).mono ?_
  rintro e u' w'' ⟨rfl,rfl,rfl⟩
  simp only[Leaves,settle]
  refine⟨.int .i64 0,by simp[results,Tryz.results77,go_sem,c1],none,_,rfl,hR,hrow,rfl⟩
 ·simp only[done,left]
  go_wp2_with fail
  refine leaves_cons (f:=124) (args:=#[.pointer (some ⟨w.heap.size,0,none⟩)]) (by simp) (by simp[go_sem]) ?_
  refine (taken_back ⟨w.heap.size,0,none⟩ c [] _ _ c1 c2).mono ?_
  rintro e u' w'' ⟨rfl,rfl,rfl⟩
  simp only[Leaves,settle,List.dropWhile]
  refine⟨.int .i64 c,by simp[results,Tryz.results77,go_sem,c1],some c,_,rfl,hR,hrow,rfl⟩
theorem catch_code (G:FuncId) (caps:Array Value) (w:World) (S:Nat→Prop) (Q:Option Int→World→Prop) (hG:∀w,(callFunc G caps).run prog w=.ok (.enter G caps) w) (hS:¬ S w.heap.size)
  (hQ:∀r w1 v,Only S (w.alloc (.cells #[.int .i64 0] 28)) w1→Q r w1→Q r (w1.setCell ⟨w.heap.size,0,none⟩ v))
  (h:Calls prog G caps (w.alloc (.cells #[.int .i64 0] 28)) λe w'=>∃r,e=done r∧Q r w'∧Only S (w.alloc (.cells #[.int .i64 0] 28)) w') :
  Calls prog 77 #[.func (.func G) #[] caps] w λe w'=>∃r,e=.returned (.int .i64 (r.getD 0))∧Q r w'∧Only S w w':=by
 refine (catch_any G caps w (λr w'=>Q r w'∧Only S (w.alloc (.cells #[.int .i64 0] 28)) w') hG (h.mono ?_)).mono ?_
 ·rintro e w' ⟨r,he,hq,ho⟩
  exact⟨r,he,⟨hq,ho⟩,ho.row (Row.fresh _ _ _) hS⟩
 ·rintro e w' ⟨r,w1,he,⟨hq,ho⟩,_,rfl⟩
  exact⟨r,he,hQ r w1 _ ho hq,(((Only.refl S w).alloc _).same ho).put (λk=>by simp at k) _⟩
end Go.Proofs.YtfbpjobobdidiaaGreatDoor
namespace Go.Proofs.YtfbpjobobdidiaaGreatDoor
open Lib (hid)
open Go.Proofs.Tryz
theorem mem_put (x n:Int):∀l:List Int,x∈putI l n↔x=n∨x∈l:=by
 intro l
 induction l with
 | nil=>simp[putI]
 | cons y l ih =>
  show x∈(if y<n then y::putI l n else if y=n then y::l else n::y::l)↔_
  split
  ·rw[List.mem_cons,ih,List.mem_cons]
   constructor<;>(intro h;rcases h with h | h | h<;>simp[h])
  ·split
   ·rename_i e
    subst e
    rw[List.mem_cons]
    constructor
    ·intro h;exact .inr h
    ·intro h;rcases h with h | h
     ·exact .inl h
     ·exact h
   ·rw[List.mem_cons]
theorem mem_fold (x:Int):∀(l:List Sx) (m:List Int),x∈l.foldl (λl s=>putI l s.t) m↔x∈m∨∃s∈l,s.t=x:=by
 intro l
 induction l with
 | nil=>intro m;simp
 | cons s l ih =>
  intro m
  rw[List.foldl_cons,ih,mem_put]
  constructor
  ·intro h
   rcases h with (h|h)|⟨s',h1,h2⟩
   ·exact .inr ⟨s,by simp,h.symm⟩
   ·exact .inl h
   ·exact .inr ⟨s',by simp[h1],h2⟩
  ·intro h
   rcases h with h|⟨s',h1,h2⟩
   ·exact .inl (.inr h)
   ·rw[List.mem_cons] at h1
    rcases h1 with rfl | h1
    ·exact .inl (.inl h2.symm)
    ·exact .inr ⟨s',h1,h2⟩
theorem mem_quit (ss:List Sx) (r x:Int):x∈quitI ss r↔∃s∈ss,s.w.r=r∧s.t=x:=by
 unfold quitI
 rw[mem_fold]
 constructor
 ·intro h
  rcases h with h|⟨s,h1,h2⟩
  ·cases h
  ·rw[List.mem_filter] at h1
   exact⟨s,h1.1,of_decide_eq_true h1.2,h2⟩
 ·intro ⟨s,h1,h2,h3⟩
  exact .inr ⟨s,List.mem_filter.2 ⟨h1,decide_eq_true h2⟩,h3⟩
theorem parts_len (ss:List Sx) (f:Sx→Bool):(ss.filter f).length+(ss.filter (λs=>!f s)).length=ss.length:=by
 induction ss with
 | nil=>rfl
 | cons s l ih =>
  cases h:f s<;>simp[h]<;>omega
theorem take_frees (ss:List Sx) (t:Int):(leftT ss t).length+(ofL ss t).length=ss.length:=by
 have h1:=parts_len ss (λs=>decide (s.t=t))
 have e:leftT ss t=ss.filter (λs=>!decide (s.t=t)):=by
  unfold leftT
  apply List.filter_congr
  intro s _
  simp
 rw[e]
 unfold ofL
 rw[List.length_map]
 omega
theorem of_other (ss:List Sx) {t u:Int} (h:u≠t):ofL (leftT ss t) u=ofL ss u:=by
 unfold ofL leftT
 rw[List.filter_filter]
 congr 1
 apply List.filter_congr
 intro s _
 by_cases e:s.t=u
 ·have:s.t≠t:=λq=>h (by rw[←e,q])
  simp[e,h]
 ·simp[e]
end Go.Proofs.YtfbpjobobdidiaaGreatDoor
namespace Go.Proofs.YtfbpjobobdidiaaGreatDoor
open Lib (hid)
open Go.Proofs.Tryz
open Go.RowKit
set_option linter.unusedVariables false
section
variable {F:Fence} {n:Nat} {P:Program} {α:Type}
def GoesOn (B:Nat) (Kp:α→World→World→Prop) (I:List α→World→Prop) (pre:List α) (x:α) (W:World):Exit→Act→World→Prop
 | .normal,_,W'=>KeepsFrom B W W'∧Kp x W W'∧I (pre++[x]) W'
 | _,_,_=>False
def Handing (F:Fence) (n:Nat) (P:Program) (gf:Nat) (lb:Array Value) (encs:α→Array Value) (Ok:List α→α→Prop) (Kp:α→World→World→Prop) (S:List α→Prop) (w0:World):Prop:=
 ∀(l:Nat) (J:List α→World→Prop) (W:World),Below w0.heap.size w0 W→AbidesFrom W.heap.size J →
  (∀pre x W1,J pre W1→Ok pre x→YieldAt F (n-1) P l (encs x) W1 λe W'=>e=.returned (.bool true)∧J (pre++[x]) W'∧Kp x W1 W') →
  J [] W→CallsIn F n P gf (#[.func (.yield l) #[] #[]]++lb) W λe W'=>(∃v,e=.returned v)∧∃xs,S xs∧J xs W'
theorem wpIn_each {g:Operand} {ps:Array Tmp} {assign body:Code} {Q:Exit→Act→World→Prop} {a:Act} {w w0:World}
  (hro:F.round=none) (h1:1≤n) {gf:Nat} {lb:Array Value} (hg:a.eval g=.func (.func gf) #[] lb) (hF:F.fn gf) (eg:∀args w,(callFunc gf args).run P w=.ok (.enter gf args) w)
  {encs:α→Array Value} {Ok:List α→α→Prop} {Kp:α→World→World→Prop} {S:List α→Prop} (hseq:Handing F (n-1) P gf lb encs Ok Kp S w0) (hb0:Below w0.heap.size w0 w) (hps:∀x,(encs x).size=ps.size)
  (hKr:∀(x:α) (A B:World) (l:Nat) (o o':Obj),w.heap.size≤l→A.heap[l]? = some o→o.isCells=false→o.isWalk=false→Kp x (A.putObj l o') B→Kp x A B)
  (hKl:∀(x:α) (A B:World) (l:Nat) (o o':Obj),w.heap.size≤l→B.heap[l]? = some o→o.isCells=false→o.isWalk=false→Kp x A B→Kp x A (B.putObj l o'))
  (I:List α→World→Prop) (hI:OwnFrom w.heap.size I) (h0:I [] w) (Ax:α→Act→World→Prop) (hAx:∀x a',OwnFrom w.heap.size (λ(_:Unit) W=>Ax x a' W))
  (hassign:∀(l:Nat) (pre:List α) (x:α) (W:World) (K:Act→World→Prop),I pre W→Ok pre x→(∀a' W',KeepsFrom w.heap.size W W'→(∀B,Kp x W' B→Kp x W B)→I pre W'→Ax x a' W'→K a' W') →
   assign.wpIn (F.inRound l) (n-1-1) P (Exit.then K (λ_ _ _=>False)) { tmps:=(ps.zip (encs x)).foldl (λt (p,v)=>t.setIfInBounds p v) a.tmps,defers:=[] } W)
  (hbody:∀(l:Nat) (pre:List α) (x:α) (a':Act) (W:World),I pre W→Ok pre x→Ax x a' W→body.wpIn (F.inRound l) (n-1-1) P (GoesOn w.heap.size Kp I pre x W) a' W)
  (hdone:∀(D:Nat) (xs:List α) (W:World),w.heap.size≤D→S xs→I xs W→W.heap[D]? = some (.deferred (some []))→Q .normal { a with defers:={ target:=.collected D,args:=#[] }::a.defers } W) :
  (Code.rangeFunc g ps assign body).wpIn F n P Q a w:=by
 refine wpIn_rangeFunc (λfn hfn=>?_)
 rw[hro]
 let st:LoopState→Loop:=λs=>{ state:=s,pending:=none,fn,tmps:=a.tmps,params:=ps,assign,body,defers:=w.heap.size }
 have hst:∀s,st s={ state:=s,pending:=none,fn,tmps:=a.tmps,params:=ps,assign,body,defers:=w.heap.size }:=λ_=>rfl
 generalize st=st at hst
 obtain⟨W1,hW1⟩:∃W1,W1=(w.alloc (.deferred (some []))).alloc (.loop (st .ready)):=⟨_,rfl⟩
 have b1:Below w.heap.size w W1:=by rw[hW1];exact ((Below.refl _ w).alloc (Nat.le_refl _) _).alloc (by simp) _
 have z1:W1.heap.size=w.heap.size+2:=by rw[hW1];simp
 have l1:W1.heap[w.heap.size+1]? = some (.loop (st .ready)):=by
  rw[hW1]
  have:=World.alloc_heap_new (w.alloc (.deferred (some []))) (.loop (st .ready))
  rwa [World.size_alloc] at this
 have k1:W1.heap[w.heap.size]? = some (.deferred (some [])):=by
  rw[hW1]
  exact (Below.heap_alloc _ _ _ (by simp)).trans (World.alloc_heap_new w _)
 have i1:I [] W1:=by rw[hW1];exact hI.alloc _ (hI.alloc _ h0)
 refine⟨w.heap.size+1,[{ target:=.collected w.heap.size,args:=#[] }],W1,{ target:=.fn (.func gf) lb,args:=#[.func (.yield (w.heap.size+1)) #[] #[]] },W1,gf,
  #[.func (.yield (w.heap.size+1)) #[] #[]]++lb,W1,?_,?_,?_,?_,λ_=>h1,?_⟩
 ·rw[hW1,hst];exact run_enterLoop_outer _ _ _ _ _
 ·simp only[resolve,hg]
  simp[go_sem]
 ·intro f' hf'
  simp[Target.leads] at hf'
  subst hf'
  exact hF
 ·simp[invoke,go_sem,eg]
 have walk:∀{A:World} {row:Option Nat},(∀r,row=some r→W1.heap.size≤r∧∃o:Obj,A.heap[r]? = some o∧o.isWalk=true)→∀r,row=some r→w.heap.size≤r∧∃o:Obj,A.heap[r]? = some o∧o.isCells=false:=
  λhr r e=>let ⟨hB,o,ho,hw⟩:=hr r e;⟨by omega,o,ho,Obj.not_cells_of_walk hw⟩
 have ring:=hseq (w.heap.size+1) (λpre W=>I pre W∧W.heap[w.heap.size+1]? = some (.loop (st .ready))∧W.heap[w.heap.size]? = some (.deferred (some []))) W1 (hb0.trans (b1.mono hb0.size))
  (λs A B row hs hg' hr=>⟨hI s A B row hs.1 hg' (walk (A:=A) hr),(grownBy_keeps hg' (λr e=>(hr r e).2) hs.2.1 rfl).trans hs.2.1,(grownBy_keeps hg' (λr e=>(hr r e).2) hs.2.2 rfl).trans hs.2.2⟩) ?_ ⟨i1,l1,k1⟩
 ·refine ring.mono ?_
  rintro e W2 ⟨⟨v,rfl⟩,xs,hS,hi,hl,hk⟩
  have he:=run_endLoop (P:=P) hl (by rw[hst];simp)
  rw[hst] at he
  exact⟨none,_,he,hdone _ xs _ (Nat.le_refl _) hS (hI.putObj _ hi (by omega) hl rfl) ((World.putObj_heap_other (by omega)).trans hk)⟩
 ·-- one round
  rintro pre x W ⟨hi,hl,hk⟩ hok
  have hy:=run_yield (P:=P) (args:=encs x) hl (by rw[hst];exact hps x)
  rw[hst] at hy
  refine⟨fn,_,assign,body,hy,roundIn_of_wpIn hfn (hassign _ pre x W _ hi hok (λa' Wa kf kp ia ax=>?_))⟩
  clear hy
  have la:=kf.same _ _ (by omega) hl rfl
  have ka:=kf.same _ _ (Nat.le_refl _) hk rfl
  have lta:=(Array.getElem?_eq_some_iff.1 la).1
  refine⟨_,run_beginRound la (by rw[hst]),?_⟩
  have eb:({ st .ready with state:=.busy }:Loop)=st .busy:=by rw[hst,hst]
  rw[eb]
  have lb2:(Wa.putObj (w.heap.size+1) (.loop (st .busy))).heap[w.heap.size+1]? = some (.loop (st .busy)):=World.putObj_heap_same lta
  have kb2:(Wa.putObj (w.heap.size+1) (.loop (st .busy))).heap[w.heap.size]? = some (.deferred (some [])):=(World.putObj_heap_other (by omega)).trans ka
  refine wpIn_mono (hbody _ pre x a' _ (hI.putObj _ ia (by omega) la rfl) hok ((hAx x a').putObj (s:=()) _ ax (by omega) la rfl)) ?_
  rintro e a3 W3 hp
  cases e with
  | normal =>
   obtain⟨kf3,kp3,i3⟩:=hp
   have l3:=kf3.same _ _ (by omega) lb2 rfl
   have k3:=kf3.same _ _ (Nat.le_refl _) kb2 rfl
   have he:=run_endRound (P:=P) none l3
   have er:({ st .busy with state:=if (none:Option Code).isNone then .ready else .done,pending:=none }:Loop)=st .ready:=by rw[hst,hst];rfl
   rw[er] at he
   refine⟨_,_,he,rfl,⟨hI.putObj _ i3 (by omega) l3 rfl,World.putObj_heap_same (Array.getElem?_eq_some_iff.1 l3).1,(World.putObj_heap_other (by omega)).trans k3⟩,?_⟩
   exact kp _ (hKr x _ _ _ _ _ (by omega) la rfl rfl (hKl x _ _ _ _ _ (by omega) l3 rfl rfl kp3))
  | ret=>exact hp.elim
  | exit id=>exact hp.elim
  | goto t=>exact hp.elim
  | panic ch=>exact hp.elim
  | outgrown=>exact hp.elim
end
structure After (w0:World) where
 val:World
 only:Only n_ w0 val
instance (w0:World):Nonempty (After w0):=⟨⟨w0,Only.refl _ _⟩⟩
theorem wp_region_after {P:Program} {id:Nat} {Q:Exit→Act→World→Prop} {a:Act} {w w0:World} {l:List Oper} (hm:P.follows .mixedOrders=true) (hB:Region.lexB .any l.toArray=true) (ho:Only n_ w0 w)
  (h:wpQuiet P l.toArray (λw'=>∃i:After w0,w'=i.val) (λa'=>∀w',(∃i:After w0,w'=i.val)→Q .normal a' w') l a):(Code.region id l.toArray true).wp P Q a w:=
 wp_region_quiet (C:=λw'=>∃i:After w0,w'=i.val) hm hB ⟨⟨_,ho.drew⟩,rfl⟩ (by simpa using h)
theorem Calls.after {P:Program} {f:FuncId} {args:Array Value} {w0:World} {v:Value} (i:After w0)
  (h:Calls P f args i.val λe w'=>e=.returned v∧Only n_ i.val w'):Calls P f args i.val λe w'=>e=.returned v∧∃j:After w0,w'=j.val:=
 h.mono λ_ _ ⟨he,o⟩=>⟨he,⟨_,i.only.same o⟩,rfl⟩
def regionAt (n:Nat):Code→Option (List Oper)
 | .region i ops _=>if i==n then some ops.toList else none
 | .seq a b=>match regionAt n a with | some l=>some l | none=>regionAt n b
 | .cond _ a b=>match regionAt n a with | some l=>some l | none=>regionAt n b
 | .block _ a=>regionAt n a
 | .loop a=>regionAt n a
 | .rangeFunc _ _ a b=>match regionAt n a with | some l=>some l | none=>regionAt n b
 | .scope a=>regionAt n a
 | _=>none
def opsAt (f:Func) (n:Nat):List Oper:=match f.body with | some c=>(regionAt n c).getD [] | none=>[]
theorem lex_from {md:Region.Mode} {l l':List Oper} (h:Region.lexB md l'.toArray=true) (e:l=l'):Region.lexB md l.toArray=true:=e▸h
end Go.Proofs.YtfbpjobobdidiaaGreatDoor
namespace Go.Proofs.YtfbpjobobdidiaaGreatDoor
open Lib (hid)
open Go.Proofs.Tryz
open Go.RowKit Go.Maps
set_option linter.unusedVariables false
theorem lawI:Keyed prog 3:=int_keyed underlying3
theorem zeroI (w:World):(zeroValue 3).run prog w=.ok (.int .i64 0) w:=by kernel_rfl
theorem keyI (x:Int):WideAt.IsKeyLit (.int .i64 x):=trivial
theorem wf_i (x:Int) (h:-9223372036854775808≤x∧x≤9223372036854775807):(Lit.int .i64 x).wf=true:=WalkArith.wf_i64 h
def hasK (ss:List Sd) (x:Int):Bool:=ss.any (λs=>s.k==x)
theorem hasK_iff {ss:List Sd} {x:Int}:hasK ss x=true↔∃s∈ss,s.k=x:=by
 unfold hasK
 rw[List.any_eq_true]
 simp
theorem tk_has (ss:List Sd) (x:Int):(tkAt ss x).isSome=hasK ss x:=by
 unfold tkAt hasK
 rw[List.findIdx?_isSome]
def Once (ss:List Sd):Prop:=ss.Pairwise (λa b=>a.k≠b.k)
def cutK (ss:List Sd) (x:Int):List Sd:=ss.filter (λs=>!(s.k==x))
theorem hasK_cut (ss:List Sd) (x y:Int):hasK (cutK ss x) y=(hasK ss y&&!(y==x)):=by
 rw[Bool.eq_iff_iff]
 simp only[hasK_iff,Bool.and_eq_true]
 constructor
 ·rintro ⟨e,he,rfl⟩
  have:=List.mem_filter.1 he
  exact⟨⟨e,this.1,rfl⟩,this.2⟩
 ·rintro ⟨⟨e,he,rfl⟩,k⟩
  exact⟨e,List.mem_filter.2 ⟨he,k⟩,rfl⟩
theorem Once.cut {ss:List Sd} (h:Once ss) (x:Int):Once (cutK ss x):=h.filter _
theorem Once.more {ss:List Sd} (h:Once ss) (b x:Int) (hx:hasK ss x=false):Once (ss++[⟨b,x⟩]):=by
 unfold Once
 rw[List.pairwise_append]
 refine⟨h,List.pairwise_singleton _ _,λa ha c hc=>?_⟩
 rw[List.mem_singleton.1 hc]
 rintro e
 have:hasK ss x=true:=hasK_iff.2 ⟨a,ha,e⟩
 rw[hx] at this;cases this
theorem Once.inj:∀{ss:List Sd},Once ss→∀{a b:Sd},a∈ss→b∈ss→a.k=b.k→a=b
 | [],_,_,_,ha,_,_=>by cases ha
 | s::r,h,a,b,ha,hb,e=>by
  have h':=List.pairwise_cons.1 h
  rcases List.mem_cons.1 ha with rfl | ha'
  ·rcases List.mem_cons.1 hb with rfl | hb'
   ·rfl
   ·exact absurd e (h'.1 b hb')
  ·rcases List.mem_cons.1 hb with rfl | hb'
   ·exact absurd e.symm (h'.1 a ha')
   ·exact Once.inj (show Once r from h'.2) ha' hb' e
def Reads11 (D:DataW Unit) (ss:List Sd):Prop:=(∀x,has D (.int .i64 x)=hasK ss x)∧∀s∈ss,∀z,D.atKey (.int .i64 s.k) z=.lit (.int .i64 s.b)
theorem Reads11.nil:Reads11 (.map []) []:=⟨λ_=>rfl,λ_ h=>by cases h⟩
theorem lit_ne {x y:Int} (h:y≠x):(Lit.int .i64 y)≠Lit.int .i64 x:=λk=>h (by injection k)
theorem Reads11.del {D:DataW Unit} {ss:List Sd} (h:Reads11 D ss) (x:Int):Reads11 (D.del (.int .i64 x)) (cutK ss x):=by
 refine⟨λy=>?_,λe he z=>?_⟩
 ·rw[hasK_cut]
  by_cases k:y=x
  ·subst k
   rw[has_del_same]
   simp
  ·rw[has_del_other (lit_ne k),h.1]
   simp[k]
 ·have he':=List.mem_filter.1 he
  have:e.k≠x:=by simpa using he'.2
  rw[atKey_del_other (lit_ne this)]
  exact h.2 e he'.1 z
theorem Reads11.put {D:DataW Unit} {ss:List Sd} (h:Reads11 D ss) (m:IsMap D) (b x:Int) (hx:hasK ss x=false):Reads11 (D.put (.int .i64 x) (.lit (.int .i64 b))) (ss++[⟨b,x⟩]):=by
 have hx':∀e∈ss,e.k≠x:=λe he q=>by
  have:hasK ss x=true:=hasK_iff.2 ⟨e,he,q⟩
  rw[hx] at this;cases this
 refine⟨λy=>?_,λe he z=>?_⟩
 ·by_cases k:y=x
  ·subst k
   rw[has_put_same m (keyI _)]
   simp[hasK]
  ·rw[has_put_other (lit_ne k),h.1]
   have:(x==y)=false:=by simp;exact λq=>k q.symm
   simp[hasK,this]
 ·rcases List.mem_append.1 he with he' | he'
  ·rw[atKey_put_other (lit_ne (hx' e he'))]
   exact h.2 e he' z
  ·rw[List.mem_singleton.1 he',atKey_put_same m (keyI _)]
theorem blockI_of {ss:List Sd} (o:Once ss) {s:Sd} (hs:s∈ss):blockI ss s.k=s.b:=by
 unfold blockI
 cases hk:tkAt ss s.k with
 | none =>
  obtain⟨i,hi,e⟩:=List.getElem_of_mem hs
  exact absurd rfl (tk_none hk i s (by rw[List.getElem?_eq_getElem hi,e]))
 | some k =>
  obtain⟨u,hu,e,_⟩:=tk_of hk
  have:u=s:=o.inj (List.mem_of_getElem? hu) hs e
  simp[hu,this]
theorem Reads11.at_ {D:DataW Unit} {ss:List Sd} (h:Reads11 D ss) (o:Once ss) (x c:Int) (z:DataW Unit) (hc:hasK ss x=true) (e:D.atKey (.int .i64 x) z=.lit (.int .i64 c)):c=blockI ss x:=by
 obtain⟨s,hs,rfl⟩:=hasK_iff.1 hc
 rw[h.2 s hs z] at e
 rw[blockI_of o hs]
 injection e with e
 injection e with _ e
 exact e.symm
theorem key_int {w:World} {b n:Nat} {D:DataW Unit} (h:w.ownsMap prog 3 (plainElem prog 3) b n D):∀kl,has D kl=true→∃x,kl=.int .i64 x:=by
 intro kl hk
 obtain⟨es,clock,hb,F,_,rfl⟩:=h
 obtain⟨p,hp,hpk⟩:=List.any_eq_true.1 hk
 obtain⟨x,hx,rfl⟩:=List.mem_map.1 (mem_sorted.1 hp)
 obtain⟨y,hy⟩:=F.reads x hx
 rw[WideElems.rg_of hy] at hpk
 obtain⟨a,_,e2,_⟩:=keyOf_int_inv underlying3 (WideElems.rd_key hy)
 have:=WideAt.sameKey_eq hpk
 exact⟨a,by rw[←this,e2]⟩
theorem tight {w:World} {b n:Nat} {D:DataW Unit} (h:w.ownsMap prog 3 (plainElem prog 3) b n D):w.ownsMap prog 3 (plainElem prog 3) b (size D) D:=by
 obtain⟨es,clock,hb,F,_,rfl⟩:=h
 exact⟨es,clock,hb,F,by rw[size_eq,length_sorted];simp,rfl⟩
theorem sub_len {α:Type} [DecidableEq α]:∀(l l':List α),l.Nodup→(∀x∈l,x∈l')→l.length≤l'.length
 | [],_,_,_=>Nat.zero_le _
 | a::r,l',hn,hs=>by
  obtain⟨h1,h2⟩:=List.nodup_cons.1 hn
  have ha:a∈l':=hs a (by simp)
  have:=sub_len r (l'.erase a) h2 (λx hx=>by
   have hx':x∈l':=hs x (by simp[hx])
   exact (List.mem_erase_of_ne (λq=>h1 (by rw[←q];exact hx))).2 hx')
  rw[List.length_erase_of_mem ha] at this
  have:0<l'.length:=List.length_pos_of_mem ha
  simp only[List.length_cons]
  omega
theorem same_len {α:Type} [DecidableEq α] {l l':List α} (h:l.Nodup) (h':l'.Nodup) (k:∀x,x∈l↔x∈l'):l.length=l'.length:=
 Nat.le_antisymm (sub_len l l' h (λx hx=>(k x).1 hx)) (sub_len l' l h' (λx hx=>(k x).2 hx))
theorem Reads11.size {w:World} {b n:Nat} {D:DataW Unit} {ss:List Sd} (h:Reads11 D ss) (o:w.ownsMap prog 3 (plainElem prog 3) b n D) (hn:Once ss):size D=ss.length:=by
 have KI:=key_int o
 obtain⟨ps,rfl,hp,hk⟩:=o.entries lawI
 show ps.length=ss.length
 have e1:(ps.map (λp=>match p.1 with | .int .i64 x=>x | _=>0)).length=ps.length:=List.length_map _
 have e2:(ss.map (λe=>e.k)).length=ss.length:=List.length_map _
 rw[←e1,←e2]
 have hi:∀p∈ps,∃x,p.1=.int .i64 x:=λp hp'=>KI p.1 (List.any_eq_true.2 ⟨p,hp',WideAt.sameKey_self (hk p hp')⟩)
 refine same_len ?_ (by unfold List.Nodup;rw[List.pairwise_map];exact hn) ?_
 ·unfold List.Nodup
  rw[List.pairwise_map]
  refine hp.imp_of_mem ?_
  intro p q hp1 hq1 hne e
  obtain⟨x,hx⟩:=hi p hp1
  obtain⟨y,hy⟩:=hi q hq1
  simp only[hx,hy] at e
  exact hne (by rw[hx,hy,e])
 ·intro x
  have h1:=h.1 x
  constructor
  ·intro hm
   obtain⟨p,hp1,e⟩:=List.mem_map.1 hm
   obtain⟨y,hy⟩:=hi p hp1
   simp only[hy] at e
   subst e
   have:has (DataW.map ps) (.int .i64 y)=true:=List.any_eq_true.2 ⟨p,hp1,by rw[hy];exact WideAt.sameKey_self (keyI _)⟩
   rw[h1] at this
   obtain⟨a,ha,e⟩:=hasK_iff.1 this
   exact List.mem_map.2 ⟨a,ha,e⟩
  ·intro hm
   obtain⟨a,ha,e⟩:=List.mem_map.1 hm
   rw[hasK_iff.2 ⟨a,ha,e⟩] at h1
   obtain⟨p,hp1,hpk⟩:=List.any_eq_true.1 h1
   have:=WideAt.sameKey_eq hpk
   exact List.mem_map.2 ⟨p,hp1,by simp only[this]⟩
def Md (w:World) (b:Nat) (ss:List Sd):Prop:=∃D,w.ownsMap prog 3 (plainElem prog 3) b ss.length D∧Reads11 D ss
theorem Md.of {w:World} {b n:Nat} {D:DataW Unit} {ss:List Sd} (o:w.ownsMap prog 3 (plainElem prog 3) b n D) (h:Reads11 D ss) (hn:Once ss):Md w b ss:=
 ⟨D,by rw[←h.size o hn];exact tight o,h⟩
theorem owns_keep {w w':World} {b n:Nat} {D:DataW Unit} (h:w.ownsMap prog 3 (plainElem prog 3) b n D) {S:Nat→Prop} (o:Only S w w') (hn:¬ S b):w'.ownsMap prog 3 (plainElem prog 3) b n D:=by
 have lt:=h.lt
 obtain⟨es,clock,hb,r⟩:=h
 exact⟨es,clock,(o.block b lt hn).trans hb,r⟩
theorem Md.keep {w w':World} {b:Nat} {ss:List Sd} (h:Md w b ss) {S:Nat→Prop} (o:Only S w w') (hn:¬ S b):Md w' b ss:=by
 obtain⟨D,h1,h2⟩:=h
 exact⟨D,owns_keep h1 o hn,h2⟩
theorem Md.ne {w:World} {p b:Nat} {ss:List Sd} {t:TypeId} {cs:Array Value} (h:Md w b ss) (r:Row w p t cs):p≠b:=by
 rintro rfl
 obtain⟨D,⟨es,clock,hb,_⟩,_⟩:=h
 unfold Row at r
 rw[r] at hb
 cases hb
theorem Md.still {w w':World} {b:Nat} {ss:List Sd} (h:Md w b ss) (o:Only n_ w w'):Md w' b ss:=h.keep o (λs=>s)
theorem only_turned {w w':World} {b:Nat} (h:w.mapTurned w' b):Only (λk=>k=b) w w':=(Only.of_grown h.grown).more (λi _ e=>by injection e)
theorem Md.len {w:World} {b:Nat} {ss:List Sd} (h:Md w b ss) (hn:Once ss) (ty:TypeId):(Builtin.len_ #[140] ty #[.map (some b)]).run prog w=.ok (.int .i64 ss.length) w:=by
 obtain⟨D,h1,h2⟩:=h
 have:=h1.len underlying140 ty
 rw[h2.size h1 hn] at this
 exact this
theorem store11 {w:World} {b:Nat} {ss:List Sd} (h:Md w b ss) (hn:Once ss) (hl:ss.length≤1000) (x c:Int) (hx:hasK ss x=false) (wx:(Lit.int .i64 x).wf=true) (wc:(Lit.int .i64 c).wf=true) :
  ∃w',(Instr.mapUpdate 140 (.map (some b)) (.int .i64 x) (.int .i64 c)).run prog w=.ok () w'∧Md w' b (ss++[⟨c,x⟩])∧Only (λk=>k=b) w w':=by
 obtain⟨D,h1,h2⟩:=h
 have IM:IsMap D:=let ⟨es,_,_,_,_,e⟩:=h1;⟨_,e⟩
 obtain⟨w',e1,e2,e3⟩:=h1.store lawI underlying140 (by unfold maxLen;omega) (keyOf_int_mk underlying3 wx) (plainElem_int underlying3 wc)
 exact⟨w',e1,Md.of e2 (h2.put IM c x hx) (hn.more c x hx),only_turned e3⟩
end Go.Proofs.YtfbpjobobdidiaaGreatDoor
namespace Go.Proofs.YtfbpjobobdidiaaGreatDoor
open Lib (hid)
open Go.Proofs.Tryz
open Go.RowKit
set_option linter.unusedVariables false
def one11 (x:Int):List Value:=[.int .i64 x]
theorem one1 (x:Int):(one11 x).length=1:=rfl
theorem one_one:∀y:Int,∀u∈one11 y,u.oneCell'=true:=by
 intro y u hu
 simp only[one11,List.mem_cons,List.not_mem_nil,or_false] at hu
 rcases hu with rfl;rfl
theorem one_map (xs:List Int):xs.flatMap one11=xs.map (Value.int .i64):=by
 induction xs with
 | nil=>rfl
 | cons x xs ih=>rw[List.flatMap_cons,ih];rfl
theorem info_int8:(prog.info? 3).map (λi=>(i.zero,i.size,i.bytes))=some (some (.int .i64 0),1,8):=by kernel_rfl
abbrev OwI (w:World) (base:Nat) (v:Value) (xs:List Int):Prop:=Owns w base 3 1 one11 v xs
def Reads (w:World) (v:Value) (xs:List Int):Prop:=∃a cap,v=.slice a xs.length cap∧∀(i:Nat) (x:Int),xs[i]? = some x→∃g o,a=some ⟨g,o,none⟩∧w.cell? ⟨g,o+i,none⟩=some (.int .i64 x)
theorem Reads.of_owns {w:World} {base:Nat} {v:Value} {xs:List Int} (h:OwI w base v xs):Reads w v xs:=by
 rcases h.2 with ⟨hv,h2⟩|⟨g,cap,cur,hv,hg,hh,h3,h4,_⟩
 ·have:xs=[]:=List.eq_nil_of_length_eq_zero h2
  subst this
  exact⟨none,0,hv,λi x hx=>by simp at hx⟩
 ·subst hv
  refine⟨_,cap,rfl,λi x hx=>⟨g,0,rfl,?_⟩⟩
  have:=Owns.cell h one1 hx (j:=0) (by decide)
  rw[Nat.zero_add]
  simpa [one11] using this
theorem Reads.still {w w':World} {v:Value} {xs:List Int} (h:Reads w v xs) (o:Only n_ w w'):Reads w' v xs:=by
 obtain⟨a,cap,rfl,hc⟩:=h
 refine⟨a,cap,rfl,λi x hx=>?_⟩
 obtain⟨g,o',rfl,hcell⟩:=hc i x hx
 exact⟨g,o',rfl,o.cell hcell (λs=>s)⟩
theorem eq_upto {xs ys:List Int} (hl:xs.length=ys.length) (h:∀j,j<xs.length→xs[j]? = ys[j]?):xs=ys:=by
 apply List.ext_getElem?
 intro j
 rcases Nat.lt_or_ge j xs.length with c | c
 ·exact h j c
 ·rw[List.getElem?_eq_none c,List.getElem?_eq_none (by omega)]
end Go.Proofs.YtfbpjobobdidiaaGreatDoor
