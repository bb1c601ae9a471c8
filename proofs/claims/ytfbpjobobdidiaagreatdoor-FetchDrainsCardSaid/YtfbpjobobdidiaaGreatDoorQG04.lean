/- Texts of the layers below, one behind the other. -/
import Derived.Test.YtfbpjobobdidiaaGreatDoorQG02
import Derived.Deep.RegionHeld3
import Derived.Test.YtfbpjobobdidiaaGreatDoorQG01
import Derived.Laws.Rows
import Derived.Laws.Tables
import Derived.Deep.WholeRow
import Derived.Test.YtfbpjobobdidiaaGreatDoorQG00
import Derived.Shelf.Lay
namespace Go.Proofs.YtfbpjobobdidiaaGreatDoor
open Lib (hid)
open Go.RowKit Go.Sort
set_option linter.unusedVariables false
set_option maxRecDepth 100000
set_option maxHeartbeats 4000000 in
set_option maxRecDepth 100000 in
theorem ins48 {κ:Wt→Int} {w0:World} {g p n cap:Nat} (LS:Less κ w0 g p) (a b:Nat) (d:Array Wt) (w:World) (S:Sq w0 w g d) (hd:d.size=n) (hab:a≤b) (hb:b≤n) (hn:n≤1000) :
  Calls Tryz.prog 173 #[.slice (some ⟨g,0,none⟩) n cap,.int .i64 a,.int .i64 b,cmpV p] w λe w'=>e=.returned (.tuple #[])∧Sq w0 w' g (insertionSort (klt κ) d a b):=by
 have HS:=hid S
 have HL:=hid LS
 have HD:=hid hd
 clear S LS hd
 unfold cmpV
 go_enter Tryz.func173,Tryz.ntmps173
 go_wp2_with fail
 go_loopw [8] (λv wr=>∃(i:Nat) (dk:Array Wt),v=.int .i64 (i:Int)∧a<i∧i≤b+1∧dk.size=n∧Sq w0 wr g dk∧insOuter (klt κ) a b i dk=insertionSort (klt κ) d a b) (λv _=>b+1-(intOf v).toNat)
 case atStart=>exact⟨a+1,d,by go_num,by omega,by omega,HD.out,HS.out,rfl⟩
 case round =>
  obtain⟨i,dk,rfl,hai,hib,hsk,hS,hO⟩:=hrel
  have S1:=hid hS
  have O1:=hid hO
  have K1:=hid hsk
  clear hS hO hsk HS HD
  by_cases hlt:i<b
  ·have t1:decide ((i:Int)<(b:Int))=true:=decide_eq_true (by omega)
   go_wp2_with fail
   go_loopw [9] (λv wx=>∃(j:Nat) (dj:Array Wt),v=.int .i64 (j:Int)∧a≤j∧j≤i∧dj.size=n∧Sq w0 wx g dj∧insInner (klt κ) a j dj=insInner (klt κ) a i dk) (λv _=>(intOf v).toNat)
   case atStart=>exact⟨i,dk,rfl,by omega,Nat.le_refl _,K1.out,S1.out,rfl⟩
   case round =>
    obtain⟨wx,rfl⟩:∃x:World,x=wr:=⟨_,rfl⟩
    obtain⟨j,dj,rfl,haj,hji,hsj,hS,hI⟩:=hrel
    have S2:=hid hS
    have I2:=hid hI
    have K2:=hid hsj
    clear hS hI hsj
    have JN:=hid (show j<n from by omega)
    by_cases hja:a<j
    ·obtain⟨x,hx⟩:∃x,dj[j]! = x:=⟨_,rfl⟩
     obtain⟨y,hy⟩:∃y,dj[j-1]! = y:=⟨_,rfl⟩
     have t2:decide ((a:Int)<(j:Int))=true:=decide_eq_true (by omega)
     have j1:j<dj.size:=by rw[K2.out];exact JN.out
     have j2:j-1<dj.size:=by omega
     have KS:=hid (λ(w':World) (s:Sq w0 w' g dj)=>show (w'.cell? ⟨g,j*2,none⟩=some (.int .i64 x.r)∧w'.cell? ⟨g,j*2+1,none⟩=some (.int .i64 x.p))∧(w'.cell? ⟨g,(j-1)*2,none⟩=some (.int .i64 y.r)∧w'.cell? ⟨g,(j-1)*2+1,none⟩=some (.int .i64 y.p)) from
      ⟨by rw[←hx];exact s.cell j j1,by rw[←hy];exact s.cell (j-1) j2⟩)
     have CL:=hid (λ(w':World) (s:Sq w0 w' g dj)=>HL.out.at_ s (Only.refl none_ w') j1 j2 hx hy)
     have v1:IntKind.i64.wrap ((j:Int)-1)=((j-1:Nat):Int):=by rw[IntKind.wrap_i64];omega
     have b0:(0:Int)≤((j-1:Nat):Int):=by omega
     have b1:((j-1:Nat):Int)<(n:Int):=by omega
     have b2:(j:Int)<(n:Int):=by omega
     have DD:=hid (S2.out.still ((Only.refl none_ wx).drew))
     obtain⟨⟨cx0,cx1⟩,cy0,cy1⟩:=KS.out _ DD.out
     have J1:=hid j1
     have J2:=hid j2
     have HX:=hid hx
     have HY:=hid hy
     clear j1 j2 hx hy
     by_cases hl:klt κ x y=true
     ·have l1:decide (kcmp κ x y<0)=true:=by rw[kcmp_lt];exact hl
      have HLT:=hid hl
      clear hl
      go_wp2_with fail
      go_region_held3 (λw'=>(w'.cell? ⟨g,j*2,none⟩=some (.int .i64 x.r)∧w'.cell? ⟨g,j*2+1,none⟩=some (.int .i64 x.p))∧(w'.cell? ⟨g,(j-1)*2,none⟩=some (.int .i64 y.r)∧w'.cell? ⟨g,(j-1)*2+1,none⟩=some (.int .i64 y.p)))
       (first
        | (with_reducible exact KS.out _ Q1.out)
        | (with_reducible exact KS.out _ DD.out)
        | fail)
       (first
        | (go_at_call 123;(with_reducible refine (CL.out _ DD.out).mono ?_);rintro e u1 ⟨rfl,o1⟩;have Q1:=hid (DD.out.still o1))
        | fail)
      have SW:=hid (Q1.out.still ((Only.refl none_ u1).drew) |>.swap J1.out J2.out HX.out HY.out)
      obtain⟨⟨ex0,ex1⟩,ey0,ey1⟩:=KS.out _ Q1.out
      have fz:∀k,u1.frozen? ⟨g,k,none⟩=false:=Q1.out.fz
      have n1:¬ j*2=(j-1)*2:=by omega
      have n2:¬ (j-1)*2=j*2:=by omega
      clear cx0 cx1 cy0 cy1
      go_wp2_with fail
      go_region
      all_goals (try go_wp2_with fail)
      all_goals
       go_roundw
       case rel=>exact⟨j-1,swp dj j (j-1),rfl,by omega,by omega,by rw[size_swp];exact K2.out,SW.out,by rw[←I2.out,insInner_go (klt κ) a j dj hja (by rw[HX.out,HY.out];exact HLT.out)]⟩
       case measure=>simp[intOf];omega
     ·have hl:klt κ x y=false:=by simpa using hl
      have l1:decide (kcmp κ x y<0)=false:=by rw[kcmp_lt];exact hl
      have ST:=hid (insInner_stop (klt κ) a j dj (.inr (by rw[HX.out,HY.out];exact hl)))
      clear hl
      go_wp2_with fail
      go_region_held3 (λw'=>(w'.cell? ⟨g,j*2,none⟩=some (.int .i64 x.r)∧w'.cell? ⟨g,j*2+1,none⟩=some (.int .i64 x.p))∧(w'.cell? ⟨g,(j-1)*2,none⟩=some (.int .i64 y.r)∧w'.cell? ⟨g,(j-1)*2+1,none⟩=some (.int .i64 y.p)))
       (first
        | (with_reducible exact KS.out _ Q1.out)
        | (with_reducible exact KS.out _ DD.out)
        | fail)
       (first
        | (go_at_call 123;(with_reducible refine (CL.out _ DD.out).mono ?_);rintro e u1 ⟨rfl,o1⟩;have Q1:=hid (DD.out.still o1))
        | fail)
      go_wp2_with fail
      go_roundw
      case rel=>exact⟨i+1,dj,by go_num,by omega,by omega,K2.out,Q1.out,by rw[←O1.out,insOuter_go _ _ _ _ _ hlt,←I2.out,ST.out]⟩
      case measure=>simp[intOf];omega
    ·have t2:decide ((a:Int)<(j:Int))=false:=decide_eq_false (by omega)
     have ST:=hid (insInner_stop (klt κ) a j dj (.inl (by omega)))
     go_wp2_with fail
     go_quiet (fail)
     go_wp2_with fail
     go_roundw
     case rel=>exact⟨i+1,dj,by go_num,by omega,by omega,K2.out,S2.out.drewN _,by rw[←O1.out,insOuter_go _ _ _ _ _ hlt,←I2.out,ST.out]⟩
     case measure=>simp[intOf];omega
  ·have t1:decide ((i:Int)<(b:Int))=false:=decide_eq_false (by omega)
   go_wp2_with fail
   go_end0
   exact⟨rfl,by rw[←O1.out,insOuter_stop _ _ _ _ _ hlt];exact S1.out⟩
end Go.Proofs.YtfbpjobobdidiaaGreatDoor
namespace Go.Proofs.YtfbpjobobdidiaaGreatDoor
open Lib (hid)
open Go.RowKit
set_option linter.unusedVariables false
set_option maxRecDepth 100000
theorem own_form14 {α:Type} {w:World} {base:Nat} {e:TypeId} {k:Nat} {c:α→List Value} {v:Value} {es:List α} (h:Owns w base e k c v es):∃a n cap,v=.slice a n cap:=by
 rcases h.2 with ⟨h0,_⟩|⟨g,cap,cur,hv,_⟩
 ·exact⟨none,0,0,h0⟩
 ·exact⟨_,_,_,hv⟩
def bits13 (p:Int→Bool):Array Value:=Array.ofFn (n:=256) λi=>.bool (p (i.val:Int))
theorem bits_size (p:Int→Bool):(bits13 p).size=256:=by simp[bits13]
theorem bits_get (p:Int→Bool) {i:Nat} (h:i<256):(bits13 p)[i]? = some (.bool (p (i:Int))):=by simp[bits13,h]
theorem bits_put (p:Int→Bool) (x:Nat):(bits13 p).setIfInBounds x (.bool true)=bits13 (λy=>p y||decide (y=(x:Int))):=by
 apply Array.ext_getElem?
 intro i
 rw[Array.getElem?_setIfInBounds]
 by_cases h:i<256
 ·rw[bits_get p h,bits_get _ h]
  by_cases e:x=i
  ·subst e
   rw[if_pos rfl,if_pos (by rw[bits_size];exact h)]
   simp
  ·rw[if_neg e]
   have:¬ ((i:Int)=(x:Int)):=by omega
   simp[this]
 ·rw[Array.getElem?_eq_none (by rw[bits_size];omega),Array.getElem?_eq_none (by rw[bits_size];omega)]
  by_cases e:x=i
  ·subst e;rw[if_pos rfl,if_neg (by rw[bits_size];exact h)]
  ·rw[if_neg e]
theorem bits_one (p:Int→Bool):(bits13 p).all (·.oneCell')=true:=by
 rw[Array.all_eq_true]
 intro i hi
 simp[bits13]
 rfl
theorem bits_same {p q:Int→Bool} (h:∀x:Int,0≤x→x<256→p x=q x):bits13 p=bits13 q:=by
 apply Array.ext_getElem?
 intro i
 by_cases k:i<256
 ·rw[bits_get p k,bits_get q k,h i (by omega) (by omega)]
 ·rw[Array.getElem?_eq_none (by rw[bits_size];omega),Array.getElem?_eq_none (by rw[bits_size];omega)]
theorem info_set:(Tryz.prog.info? 212).map (λi=>(i.zero,i.size))=some (some (.agg (bits13 (λ_=>false))),256):=by kernel_rfl
theorem zero_set (w:World):(zeroValue 212).run Tryz.prog w=.ok (.agg (bits13 (λ_=>false))) w:=(zero_of_info info_set).1 w
theorem size_set (p:Int→Bool):(Tryz.prog.info? 212).map (·.size)=some (bits13 p).size:=by rw[bits_size];exact (zero_of_info info_set).2
def SetAt (w:World) (g:Nat) (p:Int→Bool):Prop:=Row w g 212 (bits13 p)
theorem SetAt.still {w w':World} {g:Nat} {p:Int→Bool} (h:SetAt w g p) (o:Only none_ w w'):SetAt w' g p:=o.still h
theorem SetAt.cell {w:World} {g:Nat} {p:Int→Bool} (h:SetAt w g p) {i:Nat} (hi:i<256):w.cell? ⟨g,i,none⟩=some (.bool (p (i:Int))):=by rw[Row.cell h,bits_get p hi]
theorem Row.whole {w:World} {g:Nat} {t:TypeId} {cs:Array Value} (h:Row w g t cs) (ds:Array Value):Row (w.setRow g ds) g t ds:=setRow_heap w g cs ds t (0,0) h
theorem SetAt.store {w:World} {g:Nat} {p:Int→Bool} (h:SetAt w g p) (q:Int→Bool):SetAt (w.setRow g (bits13 q)) g q:=Row.whole h (bits13 q)
theorem Only.whole {S:Nat→Prop} {a w:World} (h:Only S a w) {g:Nat} (hg:g<a.heap.size→S g) (cs:Array Value):Only S a (w.setRow g cs):=
 h.trans (S':=λk=>k=g) ⟨rfl,rfl,rfl,by simp,λk _ hn=>setRow_other _ _ _ _ hn⟩ (λi hi s=>by subst s;exact hg hi)
theorem results_row_tmp {P:Program} {fn:Func} {p q:Tmp} {ty:TypeId} (h:fn.results=#[.cell p ty,.tmp q]) (tmps:Array Value) (w:World) (g:Nat) (t:TypeId) (cs:Array Value) (fr:Nat × Nat) (d:TypeDesc)
  (hp:tmps.getD p undef=.pointer (some ⟨g,0,none⟩)) (hg:w.heap[g]? = some (.cells cs t fr))
  (hu:P.underlying ty=some d) (hd:(match d with | .struct _ | .array _ _=>true | _=>false)=true) (hi:(P.info? ty).map (·.size)=some cs.size) :
  (results fn tmps).run P w=.ok (.tuple #[.agg cs,tmps.getD q undef]) w:=by
 have hp':tmps[p]?.getD undef=.pointer (some ⟨g,0,none⟩):=by simpa using hp
 simp[results,h,hp',asAddr,run_loadVar_row w g t ty cs fr d hg hu hd hi]
theorem results_set2 {fn:Func} {p q:Tmp} (h:fn.results=#[.cell p 212,.tmp q]) (tmps:Array Value) (w:World) (g:Nat) (f:Int→Bool)
  (hp:tmps.getD p undef=.pointer (some ⟨g,0,none⟩)) (hg:SetAt w g f):(results fn tmps).run Tryz.prog w=.ok (.tuple #[.agg (bits13 f),tmps.getD q undef]) w:=
 results_row_tmp h tmps w g 212 (bits13 f) (0,0) _ hp hg Tryz.underlying212 rfl (size_set f)
theorem info_run:(Tryz.prog.info? 43).map (·.size)=some 2:=by kernel_rfl
theorem results_run {fn:Func} {p:Tmp} (h:fn.results=#[.cell p 43]) (tmps:Array Value) (w:World) (g:Nat) (r:Rn)
  (hp:tmps.getD p undef=.pointer (some ⟨g,0,none⟩)) (hg:Row w g 43 #[.int .i64 r.f,.int .i64 r.c]):(results fn tmps).run Tryz.prog w=.ok r.val w:=
 results_cell_row h tmps w g 43 _ (0,0) _ hp hg Tryz.underlying43 rfl info_run
theorem results_run2 {fn:Func} {p q:Tmp} (h:fn.results=#[.cell p 43,.tmp q]) (tmps:Array Value) (w:World) (g:Nat) (r:Rn)
  (hp:tmps.getD p undef=.pointer (some ⟨g,0,none⟩)) (hg:Row w g 43 #[.int .i64 r.f,.int .i64 r.c]):(results fn tmps).run Tryz.prog w=.ok (.tuple #[r.val,tmps.getD q undef]) w:=
 results_row_tmp h tmps w g 43 _ (0,0) _ hp hg Tryz.underlying43 rfl info_run
end Go.Proofs.YtfbpjobobdidiaaGreatDoor
namespace Go.Proofs.YtfbpjobobdidiaaGreatDoor
open Lib (hid)
open Go.RowKit Go.Maps
set_option linter.unusedVariables false
set_option maxRecDepth 100000
def roomP (nd na:Nat) (ps:List Pl) (a:Bool):Int:=(mostL nd na a:Int)-(ps.filter (λq=>q.a==a)).length
theorem troom_any {p b nd na L:Nat} {ps:List Pl} (a:Bool) (w:World) (h:TnAt w p b nd na L ps) :
  Calls Tryz.prog 147 #[.pointer (some ⟨p,0,none⟩),.bool a] w λe w'=>e=.returned (.int .i64 (roomP nd na ps a))∧Only none_ w w':=by
 have FR:=hid (tfree_any w h)
 unfold Freed12 at FR
 unfold roomP
 clear h
 cases a with
 | false =>
  have E:=hid (show mostL nd na false=nd from rfl)
  rw[E.out]
  generalize (ps.filter (λq=>q.a==false)).length=m at *
  generalize (ps.filter (λq=>q.a==true)).length=n at *
  go_enter Tryz.func147,Tryz.ntmps147
  go_wp2_with fail
  (with_reducible refine (FR.out).mono ?_)
  rintro e w1 ⟨rfl,o⟩
  have O:=hid o
  clear o
  go_wp2_with fail
  go_ret
  exact⟨rfl,O.out⟩
 | true =>
  have E:=hid (show mostL nd na true=na from rfl)
  rw[E.out]
  generalize (ps.filter (λq=>q.a==false)).length=m at *
  generalize (ps.filter (λq=>q.a==true)).length=n at *
  go_enter Tryz.func147,Tryz.ntmps147
  go_wp2_with fail
  (with_reducible refine (FR.out).mono ?_)
  rintro e w1 ⟨rfl,o⟩
  have O:=hid o
  clear o
  go_wp2_with fail
  go_ret
  exact⟨rfl,O.out⟩
theorem tat_yes {p b nd na L:Nat} {ps:List Pl} (x:Int) (w:World) (h:TnAt w p b nd na L ps) (wx:(Lit.int .i64 x).wf=true) (hx:hasP ps x=true) :
  Calls Tryz.prog 112 #[.pointer (some ⟨p,0,none⟩),.int .i64 x] w λe w'=>e=.returned (.agg #[.int .i64 (atP ps x).k,.bool (atP ps x).a,.int .i64 (atP ps x).n,.bool (atP ps x).s])∧Only none_ w w':=by
 have c2:w.cell? ⟨p,2,none⟩=some (.map (some b)):=by rw[h.row.cell];rfl
 have o1:=(Only.refl none_ w).alloc (.cells #[.int .i64 0,.bool false,.int .i64 0,.bool false] 169)
 have LK:=(h.md.still o1).look h.once wx
 have c2':(w.alloc (.cells #[.int .i64 0,.bool false,.int .i64 0,.bool false] 169)).cell? ⟨p,2,none⟩=some (.map (some b)):=o1.cell c2 (λs=>s)
 rw[hx] at LK
 have lp:=h.row.lt
 have O1:=hid o1
 generalize atP ps x=q at *
 unfold plVal at LK
 clear h wx hx o1
 go_enter Tryz.func112,Tryz.ntmps112
 go_wp2_with fail
 (with_reducible refine (unless_yes _ _).mono ?_)
 rintro e w' ⟨rfl,rfl⟩
 go_wp2_with fail
 refine bodyPost_ret (v:=.agg #[.int .i64 q.k,.bool q.a,.int .i64 q.n,.bool q.s]) (by simp[results,Tryz.results112,go_sem]) rfl ⟨rfl,?_⟩
 exact ((Only.refl _ _).alloc _).alloc _
theorem tat_no {p b nd na L:Nat} {ps:List Pl} (x:Int) (w:World) (h:TnAt w p b nd na L ps) (wx:(Lit.int .i64 x).wf=true) (hx:hasP ps x=false) :
  Calls Tryz.prog 112 #[.pointer (some ⟨p,0,none⟩),.int .i64 x] w λe w'=>e=left 3∧Only none_ w w':=by
 have c2:w.cell? ⟨p,2,none⟩=some (.map (some b)):=by rw[h.row.cell];rfl
 have o1:=(Only.refl none_ w).alloc (.cells #[.int .i64 0,.bool false,.int .i64 0,.bool false] 169)
 have LK:=(h.md.still o1).look h.once wx
 have c2':(w.alloc (.cells #[.int .i64 0,.bool false,.int .i64 0,.bool false] 169)).cell? ⟨p,2,none⟩=some (.map (some b)):=o1.cell c2 (λs=>s)
 rw[hx] at LK
 have lp:=h.row.lt
 have O1:=hid o1
 generalize atP ps x=q at *
 unfold plVal at LK
 clear h wx hx o1
 go_enter Tryz.func112,Tryz.ntmps112
 go_wp2_with fail
 (with_reducible refine (unless_no _ _).mono ?_)
 rintro e w' ⟨rfl,rfl⟩
 go_wp2_with fail
 exact⟨rfl,rfl,O1.out.alloc _⟩
def enterP (ps:List Pl) (L:Nat) (q:Pl):List Pl:=ps.filter (λp=>!(p.k==q.k))++[⟨q.k,q.a,L+1,q.s⟩]
theorem enter_at {w w':World} {p b nd na L:Nat} {ps:List Pl} {q:Pl} (h:TnAt w p b nd na L ps) (hr:0<roomP nd na ps q.a) (r:Row w' p 147 #[.int .i64 nd,.int .i64 na,.map (some b),.int .i64 ((L+1:Nat):Int)]) (m:Md12 w' b (enterP ps L q)) (o:Once12 (enterP ps L q)):TnAt w' p b nd na (L+1) (enterP ps L q):=by
 refine⟨r,m,o,?_,?_,?_,h.nd64,h.na64⟩
 ·unfold Rise enterP
  rw[List.pairwise_append]
  refine⟨h.rise.filter _,List.pairwise_singleton _ _,λa ha c hc=>?_⟩
  rw[List.mem_singleton.1 hc]
  have:=(h.top a (List.mem_filter.1 ha).1).2
  show a.n<(L:Int)+1
  omega
 ·intro a ha
  rcases List.mem_append.1 ha with ha | ha
  ·have:=h.top a (List.mem_filter.1 ha).1
   omega
  ·rw[List.mem_singleton.1 ha]
   show (0:Int)≤(L:Int)+1∧(L:Int)+1≤((L+1:Nat):Int)
   omega
 ·intro a
  unfold enterP
  have h1:=h.few a
  have h2:((ps.filter (λp=>!(p.k==q.k))).filter (λp=>p.a==a)).length≤(ps.filter (λp=>p.a==a)).length:=by
   rw[List.filter_filter]
   have:(λp:Pl=>(p.a==a)&&!(p.k==q.k))=λp=>(!(p.k==q.k))&&(p.a==a):=by funext p;rw[Bool.and_comm]
   rw[this,←List.filter_filter]
   exact List.length_filter_le _ _
  rw[List.filter_append,List.length_append]
  by_cases e:q.a=a
  ·subst e
   have:(List.filter (λp:Pl=>p.a==q.a) [⟨q.k,q.a,(L:Int)+1,q.s⟩]).length≤1:=List.length_filter_le _ _
   unfold roomP at hr
   omega
  ·have:(List.filter (λp:Pl=>p.a==a) [⟨q.k,q.a,(L:Int)+1,q.s⟩]).length=0:=by
    simp[e]
   omega
theorem enter_once {ps:List Pl} (h:Once12 ps) (L:Nat) (q:Pl):Once12 (enterP ps L q):=by
 unfold Once12 enterP
 rw[List.pairwise_append]
 refine⟨h.filter _,List.pairwise_singleton _ _,λa ha c hc=>?_⟩
 rw[List.mem_singleton.1 hc]
 simpa using (List.mem_filter.1 ha).2
theorem tenter_no {p b nd na L:Nat} {ps:List Pl} (q:Pl) (w:World) (h:TnAt w p b nd na L ps) (hr:¬ 0<roomP nd na ps q.a) :
  Calls Tryz.prog 113 #[.pointer (some ⟨p,0,none⟩),.agg #[.int .i64 q.k,.bool q.a,.int .i64 q.n,.bool q.s]] w λe w'=>e=left 2∧Only none_ w w':=by
 have o1:=(Only.refl none_ w).alloc (.cells #[.int .i64 q.k,.bool q.a,.int .i64 q.n,.bool q.s] 169)
 have O1:=hid o1
 have RM:=hid (troom_any q.a _ (h.still o1))
 have d:decide (0<roomP nd na ps q.a)=false:=by simpa using hr
 clear h o1 hr
 generalize roomP nd na ps q.a=r at *
 go_enter Tryz.func113,Tryz.ntmps113
 go_wp2_with fail
 (with_reducible refine (RM.out).mono ?_)
 rintro e w1 ⟨rfl,o⟩
 have O2:=hid (O1.out.same o)
 clear o
 go_wp2_with fail
 (with_reducible refine (unless_no _ _).mono ?_)
 rintro e w' ⟨rfl,rfl⟩
 go_wp2_with fail
 exact⟨rfl,rfl,O2.out⟩
set_option maxHeartbeats 2000000 in
theorem tenter_yes {p b nd na L:Nat} {ps:List Pl} (q:Pl) (w:World) (h:TnAt w p b nd na L ps) (hr:0<roomP nd na ps q.a) (hL:L<100000000) (wx:(Lit.int .i64 q.k).wf=true) :
  Calls Tryz.prog 113 #[.pointer (some ⟨p,0,none⟩),.agg #[.int .i64 q.k,.bool q.a,.int .i64 q.n,.bool q.s]] w λe w'=>e=.returned (.tuple #[])∧TnAt w' p b nd na (L+1) (enterP ps L q)∧Only (two12 p b) w w':=by
 have o1:=(Only.refl none_ w).alloc (.cells #[.int .i64 q.k,.bool q.a,.int .i64 q.n,.bool q.s] 169)
 have O1:=hid o1
 have RM:=hid (troom_any q.a _ (h.still o1))
 have d:decide (0<roomP nd na ps q.a)=true:=by simpa using hr
 have H:=hid h
 have HR:=hid hr
 have lp:=h.row.lt
 have lb:=h.md.lt
 have ne:=h.ne
 have RX:=hid (Row.fresh w 169 #[.int .i64 q.k,.bool q.a,.int .i64 q.n,.bool q.s])
 clear h o1 hr
 generalize roomP nd na ps q.a=r at RM d
 go_enter Tryz.func113,Tryz.ntmps113
 go_wp2_with fail
 (with_reducible refine (RM.out).mono ?_)
 rintro e w1 ⟨rfl,o⟩
 have O2:=hid (O1.out.same o)
 have RX1:=hid (o.still RX.out)
 have H1:=hid (H.out.still O2.out)
 obtain⟨x,hx⟩:∃x,w.heap.size=x:=⟨_,rfl⟩
 have nx:p≠x:=by omega
 have nb:b≠x:=by omega
 rw[hx] at RX1 ⊢
 have HX:=hid hx
 clear o RX RM H
 have c3:w1.cell? ⟨p,3,none⟩=some (.int .i64 L):=by rw[H1.out.row.cell];rfl
 have c2:w1.cell? ⟨p,2,none⟩=some (.map (some b)):=by rw[H1.out.row.cell];rfl
 have z3:=H1.out.row.frozen 3
 have z2:=RX1.out.frozen 2
 obtain⟨e0,e1,e2,e3⟩:=RX1.out.four
 go_wp2_with fail
 (with_reducible refine (unless_yes _ _).mono ?_)
 rintro e w' ⟨rfl,rfl⟩
 go_wp2_with fail
 have oS:=((Only.refl (λk=>k=p∨k=x) w1).into (b:=p) (.inl rfl) 3 (.int .i64 ((L:Int)+1))).into (b:=x) (.inr rfl) 2 (.int .i64 ((L:Int)+1))
 have R3:=hid ((((H1.out.row.put 3 (.int .i64 ((L:Int)+1))).far (p:=⟨x,2,none⟩) nx (.int .i64 ((L:Int)+1)))).drew)
 have RX3:=hid (((RX1.out.far (p:=⟨p,3,none⟩) (λe=>nx e.symm) (.int .i64 ((L:Int)+1))).put 2 (.int .i64 ((L:Int)+1))).drew)
 have M3:=hid (H1.out.md.keep oS.drew (λe=>e.elim (λk=>ne k.symm) nb))
 have oP:=(O2.out.up (S:=two12 p b)).trans oS.drew (λi hi e=>e.elim (λk=>.inl k) (λk=>by omega))
 have OP:=hid oP
 clear oS oP c3 c2 z3 z2 e0 e1 e2 e3
 have c2:(((w1.setCell ⟨p,3,none⟩ (.int .i64 ((L:Int)+1))).setCell ⟨x,2,none⟩ (.int .i64 ((L:Int)+1))).drew).cell? ⟨p,2,none⟩=some (.map (some b)):=by rw[R3.out.cell];rfl
 obtain⟨e0,e1,e2,e3⟩:(((w1.setCell ⟨p,3,none⟩ (.int .i64 ((L:Int)+1))).setCell ⟨x,2,none⟩ (.int .i64 ((L:Int)+1))).drew).cell? ⟨x,0,none⟩=some (.int .i64 q.k)∧(((w1.setCell ⟨p,3,none⟩ (.int .i64 ((L:Int)+1))).setCell ⟨x,2,none⟩ (.int .i64 ((L:Int)+1))).drew).cell? ⟨x,1,none⟩=some (.bool q.a)∧(((w1.setCell ⟨p,3,none⟩ (.int .i64 ((L:Int)+1))).setCell ⟨x,2,none⟩ (.int .i64 ((L:Int)+1))).drew).cell? ⟨x,2,none⟩=some (.int .i64 ((L:Int)+1))∧(((w1.setCell ⟨p,3,none⟩ (.int .i64 ((L:Int)+1))).setCell ⟨x,2,none⟩ (.int .i64 ((L:Int)+1))).drew).cell? ⟨x,3,none⟩=some (.bool q.s):=RX3.out.four
 have ON:=hid (enter_once H1.out.once L q)
 obtain⟨w5,run5,m5,o5⟩:=M3.out.store (qs:=enterP ps L q) ON.out (by have:=H1.out.len;omega) ⟨q.k,q.a,L+1,q.s⟩ wx (λr hr=>by
  rcases List.mem_append.1 hr with hr | hr
  ·have:=List.mem_filter.1 hr
   exact .inr ⟨this.1,by simpa using this.2⟩
  ·exact .inl (List.mem_singleton.1 hr)) (List.mem_append.2 (.inr (by simp))) (λr hr hk=>List.mem_append.2 (.inl (List.mem_filter.2 ⟨hr,by simpa using hk⟩)))
 have M5:=hid m5
 have O5:=hid (OP.out.same (o5.more (λi hi e=>.inr e)))
 have R5:=hid (o5.row R3.out (λe=>ne e))
 unfold plVal at run5
 clear m5 o5
 go_region
 all_goals
  go_wp2_with fail
  go_end0
  exact⟨rfl,enter_at H1.out HR.out R5.out M5.out ON.out,O5.out⟩
theorem one_cells_one (l:List Int):∀u∈l.flatMap one11,u.oneCell'=true:=λu hu=>by
 obtain⟨x,_,hx⟩:=List.mem_flatMap.1 hu
 exact one_one x u hx
theorem one_flat_len (l:List Int):(l.flatMap one11).length=l.length*1:=by
 have:=flat_size one1 l
 unfold flat at this
 simpa using this
set_option maxHeartbeats 1000000 in
theorem lheads_any {p:Nat} {M:Nat→Prop} {n room:Nat} {ss:List Sd} (w:World) (h:Ln w p M n room ss) (hl:ss.length≤1000) (hn:n≤1000) :
  Calls Tryz.prog 135 #[.pointer (some ⟨p,0,none⟩)] w λe w'=>∃v',e=.returned v'∧OwnsInts w' w.heap.size v' (headsL ss n)∧Only none_ w w':=by
 obtain⟨r,b,vs,h⟩:=h
 have KR:=hid (λw' (o:Only none_ w w')=>h.still o)
 have c0:w.cell? ⟨p,0,none⟩=some (.slice (some ⟨r,0,none⟩) n n):=by rw[h.row.cell];rfl
 clear h
 obtain⟨i0,hi0,hz0,hz1,hz2⟩:=info_partsR info_int8
 have I0:=hid hi0
 have I1:=hid hz0
 have I2:=hid hz1
 have I3:=hid hz2
 clear hi0 hz0 hz1 hz2
 go_enter Tryz.func135,Tryz.ntmps135
 go_wp2_with fail
 go_loopw [3,13] (λv i wr=>∃(k:Nat),k≤n∧i=.int .i64 k∧OwnsInts wr w.heap.size v (headsL ss k)∧Only none_ w wr) (λ_ i _=>n-(intOf i).toNat)
 case atStart=>exact⟨0,Nat.zero_le _,rfl,Owns.start _ _ _ _ _,Only.refl _ _⟩
 case round =>
  obtain⟨k,hk,rfl,hV,hO⟩:=hrel
  have HO:=hid hO
  have HW:=hid hV
  by_cases hlt:k<n
  ·have hh:=KR.out _ hO
   obtain⟨u,hu⟩:∃u,vs[k]? = some u:=⟨_,List.getElem?_eq_getElem (by rw[hh.len];exact hlt)⟩
   have c1:wr.cell? ⟨r,k,none⟩=some u:=by rw[hh.rows.cell];simpa using hu
   have ll:=lane_le ss (k:Int)
   have AT:=hid (at_any u _ 0 wr (Reads.of_owns (hh.lanes k u hu)) (by omega))
   rw[(at_head _).1,(at_head _).2] at AT
   clear hO hV hh hu ll
   cases e:laneL ss (k:Int) with
   | nil =>
    have MORE:=hid (heads_skip e)
    rw[e] at AT
    have E0:=hid (show headI []=0∧someB []=false from ⟨rfl,rfl⟩)
    rw[E0.out.1,E0.out.2] at AT
    clear e
    go_wp2_with fail
    (with_reducible refine AT.out.mono ?_)
    rintro e w' ⟨rfl,rfl⟩
    go_wp2_with fail
    go_roundw
    case rel=>exact⟨k+1,by omega,by go_num,by rw[MORE.out];exact HW.out,HO.out⟩
    case measure=>simp[intOf];omega
   | cons x l =>
    have MORE:=hid (heads_yes e)
    rw[e] at AT
    have E0:=hid (show headI (x::l)=x∧someB (x::l)=true from ⟨rfl,rfl⟩)
    rw[E0.out.1,E0.out.2] at AT
    clear e
    have RF:=hid (Row.fresh wr 3 #[.int .i64 x])
    have HW2:=hid (HW.out.still ((Only.refl none_ wr).alloc (.cells #[.int .i64 x] 3)))
    have HO2:=hid (HO.out.idle ((Only.refl none_ wr).alloc (.cells #[.int .i64 x] 3)))
    have sz:w.heap.size≤(wr.alloc (.cells #[.int .i64 x] 3)).heap.size:=HO2.out.size
    have ln:=heads_le ss k
    have l1:=hid (show (headsL ss k).length<9223372036854775807 from by omega)
    have l2:=hid (show ((headsL ss k).length+1)*8≤140737488355328 from by omega)
    clear ln
    go_wp2_with fail
    (with_reducible refine AT.out.mono ?_)
    rintro e w' ⟨rfl,rfl⟩
    go_wp2_with (at_builtin;go_loud (refine wpList_append_one rfl (.tmp 23) (.tmp 25) 44 rfl (c:=one11) i0 _ 8 Tryz.underlying44 I0.out I1.out I2.out I3.out rfl (by decide) one1 one_one rfl HW2.out (y:=x) rfl RF.out l1.out l2.out sz ?_;intro v5 w5 hown5 hO5))
    rw[←MORE.out] at hown5
    have HO5:=hid (HO2.out.trans hO5 (λi hi q=>by omega))
    have W5:=hid hown5
    clear hown5 hO5
    go_wp2_with fail
    go_roundw
    case rel=>exact⟨k+1,by omega,by go_num,W5.out,HO5.out⟩
    case measure=>simp[intOf];omega
  ·have e:k=n:=by omega
   subst e
   go_wp2_with fail
   go_ret
   exact⟨_,rfl,HW.out,HO.out⟩
end Go.Proofs.YtfbpjobobdidiaaGreatDoor
namespace Go.Proofs.YtfbpjobobdidiaaGreatDoor
open Lib (hid)
open Go.RowKit
set_option linter.unusedVariables false
set_option maxRecDepth 100000
theorem m_push (a : Addr) (w : World) : (method 375 174 (.pointer (some a)) "Push").run Tryz.prog w = .ok (213, .pointer (some a)) w := by kernel_rfl
theorem m_pop (a : Addr) (w : World) : (method 375 174 (.pointer (some a)) "Pop").run Tryz.prog w = .ok (212, .pointer (some a)) w := by kernel_rfl
theorem meth_info (name:String) (f:Nat) (h:(Tryz.prog.info? 174).map (λi=>(i.methods.find? (·.name==name)).map (λm=>(m.path,m.func)))=some (some (#[],some (f,false)))) {c:Nat} {v:Value} {w:World} (hc:w.cell? ⟨c,0,none⟩=some v) :
  (method 375 174 (.pointer (some ⟨c,0,none⟩)) name).run Tryz.prog w=.ok (f,v) w:=by
 obtain⟨I,hI,h2⟩:=Option.map_eq_some_iff.1 h
 obtain⟨m,hm,h3⟩:=Option.map_eq_some_iff.1 h2
 injection h3 with h3 h4
 show (method (374+1) _ _ _).run _ _=_
 unfold method
 have hw:∀(t:TypeId) (x y:Value) (w:World),(∃s m,x=.string s∧y=.string m)→(Builtin.ssaWrapNilChk_ #[t] t #[.pointer (some ⟨c,0,none⟩),x,y]).run Tryz.prog w=.ok (.pointer (some ⟨c,0,none⟩)) w:=by
  rintro t x y w ⟨s,m,rfl,rfl⟩
  rfl
 simp[run_typeInfo w hI,hm,h3,h4,follow,receiverAt,Place.get,run_underlying Tryz.underlying174,loadVar,hc,Tryz.isAgg172,strVal,hw,asAddr]
theorem m_len {c : Nat} {v : Value} {w : World} (hc : w.cell? ⟨c, 0, none⟩ = some v) : (method 375 174 (.pointer (some ⟨c, 0, none⟩)) "Len").run Tryz.prog w = .ok (98, v) w := meth_info _ _ (by kernel_rfl) hc
theorem m_less {c : Nat} {v : Value} {w : World} (hc : w.cell? ⟨c, 0, none⟩ = some v) : (method 375 174 (.pointer (some ⟨c, 0, none⟩)) "Less").run Tryz.prog w = .ok (210, v) w := meth_info _ _ (by kernel_rfl) hc
theorem m_swap {c : Nat} {v : Value} {w : World} (hc : w.cell? ⟨c, 0, none⟩ = some v) : (method 375 174 (.pointer (some ⟨c, 0, none⟩)) "Swap").run Tryz.prog w = .ok (211, v) w := meth_info _ _ (by kernel_rfl) hc
theorem e_len (args:Array Value) (w:World):(callFunc 98 args).run Tryz.prog w=.ok (.enter 98 args) w:=enters_of Tryz.func98 (by kernel_rfl) rfl args w
theorem e_less (args:Array Value) (w:World):(callFunc 210 args).run Tryz.prog w=.ok (.enter 210 args) w:=enters_of Tryz.func210 (by kernel_rfl) rfl args w
theorem e_swap (args:Array Value) (w:World):(callFunc 211 args).run Tryz.prog w=.ok (.enter 211 args) w:=enters_of Tryz.func211 (by kernel_rfl) rfl args w
theorem e_push (args:Array Value) (w:World):(callFunc 213 args).run Tryz.prog w=.ok (.enter 213 args) w:=enters_of Tryz.func213 (by kernel_rfl) rfl args w
theorem e_pop (args:Array Value) (w:World):(callFunc 212 args).run Tryz.prog w=.ok (.enter 212 args) w:=enters_of Tryz.func212 (by kernel_rfl) rfl args w
def InB (d:List Pl):Prop:=∀p∈d,0≤p.n∧p.n<1000000000
theorem InB.perm {d e:List Pl} (h:InB d) (p:e.Perm d):InB e:=λx hx=>h x (p.mem_iff.1 hx)
theorem Qu.cellv {w:World} {c base:Nat} {v:Value} {d:List Pl} (h:Qu w c base v d):w.cell? ⟨c,0,none⟩=some v:=by rw[h.row.cell];rfl
theorem Qu.keep {w w':World} {c base:Nat} {v:Value} {d:List Pl} (h:Qu w c base v d) {S:Nat→Prop} (o:Only S w w') (h1:¬ S c) (h2:∀g,v.ownBlock=some g→¬ S g):Qu w' c base v d:=⟨o.row h.row h1,Owns.keep h.own o h2,h.low⟩
theorem Qu.still {w w':World} {c base:Nat} {v:Value} {d:List Pl} (h:Qu w c base v d) (o:Only none_ w w'):Qu w' c base v d:=h.keep o (λs=>s) (λ_ _ s=>s)
theorem Qu.rowed {w w':World} {c base:Nat} {v:Value} {d e:List Pl} (h:Qu w c base v d) (o:Only (λk=>some k=v.ownBlock) w w') (ho:OwnsPl w' base v e):Qu w' c base v e:=⟨o.row h.row h.ne,ho,h.low⟩
def Upped (w:World) (c base:Nat) (v:Value) (d:List Pl) (e:Ending) (w':World):Prop:=e=.returned (.tuple #[])∧∃d',d'.Perm d∧Heaped (fv d') d'.length∧Qu w' c base v d'∧Only (quB c v) w w'
set_option maxHeartbeats 1000000 in
theorem up_any {w:World} {c base:Nat} {v:Value} {d:List Pl} {j:Nat} (h:Qu w c base v d) (hj:j<d.length) (hu:UpOk (fv d) d.length j) (hb:InB d) (hl:d.length≤1000) :
  Calls Tryz.prog 131 #[.iface 174 (.pointer (some ⟨c,0,none⟩)),.int .i64 j] w (Upped w c base v d):=by
 have H:=hid h
 have HU:=hid hu
 have HB:=hid hb
 have HJ:=hid hj
 clear h hu hb hj
 go_enter Tryz.func131,Tryz.ntmps131
 go_wp2_with fail
 go_loopw [1] (λi wr=>∃(k:Nat) (f:List Pl),i=.int .i64 k∧k<f.length∧f.Perm d∧UpOk (fv f) f.length k∧Qu wr c base v f∧Only (quB c v) w wr) (λi _=>(intOf i).toNat)
 case atStart=>exact⟨j,d,rfl,HJ.out,List.Perm.refl _,HU.out,H.out,Only.refl _ _⟩
 case round =>
  obtain⟨k,f,rfl,hk,hp,hu,hq,ho⟩:=hrel
  have mL:=m_less hq.cellv
  have eL:=e_less
  have eS:=e_swap
  have len:=hp.length_eq
  by_cases k0:k=0
  ·subst k0
   have HQ:=hid hq
   clear hq
   go_wp2_with fail
   go_end0
   exact⟨rfl,f,hp,up_stop hu (.inl rfl),HQ.out,ho⟩
  ·obtain⟨q,hqq⟩:∃q,(k-1) / 2=q:=⟨_,rfl⟩
   have hqk:q<k:=by omega
   obtain⟨x,hx⟩:∃x,f[k]? = some x:=⟨_,List.getElem?_eq_getElem hk⟩
   obtain⟨y,hy⟩:∃y,f[q]? = some y:=⟨_,List.getElem?_eq_getElem (by omega)⟩
   have LT:=hid (lt_kv ((HB.out.perm hp) x (List.mem_of_getElem? hx)) ((HB.out.perm hp) y (List.mem_of_getElem? hy)))
   have QL:=hid (qless_any hq.own hx hy (by omega))
   have HQ:=hid hq
   have t1:wrap64 (((k:Int)-1).tdiv 2)=(q:Int):=by
    rw[Int.tdiv_eq_ediv_of_nonneg (by omega)]
    unfold wrap64
    omega
   have t2:((q:Int)==(k:Int))=false:=by simp;omega
   have t3:((k:Int)-1).tdiv 2=(q:Int):=by
    rw[Int.tdiv_eq_ediv_of_nonneg (by omega)]
    omega
   have t4:((q==k):Bool)=false:=by simp;omega
   clear hq
   cases hlt:ltP x y with
   | false =>
    rw[hlt] at QL LT
    have HS:=hid (up_stop hu (.inr (by rw[hqq,fv_at hx,fv_at hy];have:=LT.out;simpa using this.symm)))
    clear hu LT hlt
    go_wp2_with fail
    (with_reducible refine (QL.out).mono ?_)
    rintro e w1 ⟨rfl,o1⟩
    have O1:=hid o1
    clear o1
    go_wp2_with fail
    go_end0
    exact⟨rfl,f,hp,HS.out,HQ.out.still O1.out,ho.idle O1.out⟩
   | true =>
    rw[hlt] at QL LT
    have HS:=hid (up_go hu (by omega) hk (by rw[hqq,fv_at hx,fv_at hy];have:=LT.out;simpa using this.symm))
    rw[hqq] at HS
    clear hu LT hlt
    go_wp2_with fail
    (with_reducible refine (QL.out).mono ?_)
    rintro e w1 ⟨rfl,o1⟩
    have O1:=hid (ho.idle o1)
    have Q1:=hid (HQ.out.still o1)
    have mS:=m_swap Q1.out.cellv
    have QS:=hid (qswap_any Q1.out.own hy hx (by omega))
    clear o1 mL
    go_wp2_with fail
    (with_reducible refine (QS.out).mono ?_)
    rintro e w2 ⟨rfl,o2,o3⟩
    have Q2:=hid (Q1.out.rowed o3 o2)
    have O2:=hid (O1.out.same (o3.more (λ_ _ q=>Or.inr q)))
    clear o2 o3
    have FV:=hid (fv_swp hy hx)
    go_wp2_with fail
    go_roundw
    case rel=>exact⟨q,swp12 f q k y x,rfl,by rw[swp_len];omega,(swp_perm hy hx).trans hp,by rw[swp_len,FV.out];exact HS.out,Q2.out,O2.out⟩
    case measure=>simp[intOf];omega
end Go.Proofs.YtfbpjobobdidiaaGreatDoor
