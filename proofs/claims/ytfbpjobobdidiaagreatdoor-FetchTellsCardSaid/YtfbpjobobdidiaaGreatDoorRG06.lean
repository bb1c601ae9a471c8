/- Texts of the layers below, one behind the other. -/
import Derived.Test.YtfbpjobobdidiaaGreatDoorRG05
import Derived.Shelf.Abstract
import Derived.Shelf.RegionOpen
import Derived.OwnWalkIn
import Derived.TacticsInMore
import Derived.LoopNIn
import Derived.LoopIn
import Derived.RegionIn
import Derived.Sort.MapsRangeIn
import Derived.Lib.SlicesCompact
set_option maxRecDepth 100000
set_option maxHeartbeats 4000000
namespace Go.Proofs.YtfbpjobobdidiaaGreatDoor
open Lib (hid)
open Go.Proofs.Tryz
open Go.RowKit Go.Maps Go.Shelf
set_option linter.unusedVariables false
attribute [local go_sem] Oper.semAt_some
def Got14 (es:List En) (left:Lit→Bool) (xs:List En):Prop:=xs.Nodup∧∀e,e∈xs↔e∈es∧left (klit e.s.w)=false
theorem Got14.start {D:DataW Unit} {es:List En} (h:Reads14 D es):Got14 es (Maps.has D) []:=by
 refine⟨List.Pairwise.nil,λe=>⟨λq=>(by cases q),λ⟨he,q⟩=>?_⟩⟩
 rw[h.has _ (h.wf e he),hasE_iff.2 ⟨e,he,rfl⟩] at q
 cases q
abbrev strike14 (left:Lit→Bool) (x:Wt):Lit→Bool:=λz=>left z&&!z.sameKey (klit x)
theorem Got14.step {es xs:List En} {left:Lit→Bool} {e:En} (h:Got14 es left xs) (hn:OnceE es) (hw:∀e∈es,wfW e.s.w) (he:e∈es) (hl:left (klit e.s.w)=true):Got14 es (strike14 left e.s.w) (xs++[e]):=by
 refine⟨?_,λa=>?_⟩
 ·unfold List.Nodup
  rw[List.pairwise_append]
  refine⟨h.1,List.pairwise_singleton _ _,λa ha b hb q=>?_⟩
  have:b=e:=by simpa using hb
  subst this
  subst q
  have:=((h.2 _).1 ha).2
  rw[hl] at this
  cases this
 ·rw[List.mem_append,h.2 a,List.mem_singleton]
  constructor
  ·rintro (⟨ha,q⟩|rfl)
   ·exact⟨ha,by show (left _&&_)=false;rw[q];rfl⟩
   ·exact⟨he,by show (left _&&!_)=false;rw[WideAt.sameKey_self (klit_key _)];simp⟩
  ·rintro ⟨ha,q⟩
   by_cases k:a.s.w=e.s.w
   ·exact .inr (hn.inj ha he k)
   ·have q2:(left (klit a.s.w)&&!(klit a.s.w).sameKey (klit e.s.w))=false:=q
    rw[klit_same (hw a ha) (hw e he),decide_eq_false k] at q2
    simp at q2
    exact .inl ⟨ha,q2⟩
theorem Got14.over {es xs:List En} {left:Lit→Bool} (h:Got14 es left xs) (hn:OnceE es) (hl:∀kl,left kl=false):xs.Perm es:=by
 have m:∀e,e∈xs↔e∈es:=λe=>by rw[h.2 e,hl];simp
 exact (List.perm_ext_iff_of_nodup h.1 hn.nodup).2 m
theorem Got14.ok {es xs:List En} {left:Lit→Bool} {e:En} (h:Got14 es left xs) (he:e∈es) (hl:left (klit e.s.w)=true):(xs++[e]).Nodup∧∀y∈xs++[e],y∈es:=by
 refine⟨?_,λy hy=>?_⟩
 ·rw[List.nodup_append]
  refine⟨h.1,by simp,λa ha b hb q=>?_⟩
  rw[List.mem_singleton.1 hb] at q
  subst q
  have:=((h.2 _).1 ha).2
  rw[hl] at this;cases this
 ·rcases List.mem_append.1 hy with hy | hy
  ·exact ((h.2 y).1 hy).1
  ·rw[List.mem_singleton.1 hy];exact he
def HasOf (es:List En) (D:DataW Unit):Prop:=∀kl,Maps.has D kl=true→∃e∈es,kl=klit e.s.w∧∀z,D.atKey kl z=stDat e.s.t e.n
def Takes (b:Nat) (x:En) (W W':World):Prop:=∀r n D left cnt,left (klit x.s.w)=false→W.ranges prog 36 stElem b r n D left cnt →
 ∃D' cnt',W'.ranges prog 36 stElem b r n D' left cnt'∧cnt'≤cnt∧(D'=D∨D'=D.del (klit x.s.w))
abbrev encE (x:En):Array Value:=#[.agg #[.int .i64 x.s.w.r,.int .i64 x.s.w.p],.agg #[.int .i64 x.s.t,.int .i64 x.n]]
theorem HasOf.start {w:World} {b n:Nat} {D:DataW Unit} {es:List En} (o:w.ownsMap prog 36 stElem b n D) (h:Reads14 D es):HasOf es D:=by
 intro kl hk
 obtain⟨x,wx,rfl⟩:=key_wt o kl hk
 rw[h.has x wx] at hk
 obtain⟨e,he,rfl⟩:=hasE_iff.1 hk
 exact⟨e,he,rfl,h.at_ e he⟩
theorem HasOf.next {es:List En} {D D':DataW Unit} {x:En} (h:HasOf es D) (hw:∀e∈es,wfW e.s.w) (hx:x∈es) (k:D'=D∨D'=D.del (klit x.s.w)):HasOf es D':=by
 rcases k with rfl | rfl
 ·exact h
 ·intro kl hk
  by_cases e:kl=klit x.s.w
  ·subst e;rw[has_del_same] at hk;cases hk
  ·rw[has_del_other e] at hk
   obtain⟨f,hf,rfl,k2⟩:=h kl hk
   exact⟨f,hf,rfl,λz=>by rw[atKey_del_other e];exact k2 z⟩
theorem has_true_of_atKey' {D:DataW Unit} {kl:Lit} {y:DataW Unit} (h:∀zd,D.atKey kl zd=y):Maps.has D kl=true:=has_true_of_atKey h
theorem all_any (p:Nat) (w:World) :
  Calls prog 117 #[.pointer (some ⟨p,0,none⟩)] w λe w' =>
   e=.returned (.func (.func 149) #[] #[.pointer (some ⟨w.heap.size,0,none⟩)])∧w'=w.alloc (.cells #[.pointer (some ⟨p,0,none⟩)] 93):=by
 go_enter func117,ntmps117
 go_wp2
 go_ret
 exact⟨rfl,rfl⟩
theorem iter14 (m:Nat) (hm:1≤m) (l Bs b nn p:Nat) (D0:DataW Unit) (es:List En) (room came:Int) (hr0:Reads14 D0 es) (hon:OnceE es) (J:List En→World→Prop)
  (hY:∀pre x W,J pre W→((pre++[x]).Nodup∧∀y∈pre++[x],y∈es)→YieldAt Fence.wide (m-1) prog l (encE x) W λe W'=>e=.returned (.bool true)∧J (pre++[x]) W'∧Takes b x W W')
  (W:World) (hJ:AbidesFrom W.heap.size J) (hBs:W.cell? ⟨Bs,0,none⟩=some (.pointer (some ⟨p,0,none⟩))) (hR:Row W p 150 #[.int .i64 room,.map (some b),.int .i64 came]) (hown:W.ownsMap prog 36 stElem b nn D0) (h0:J [] W) :
  CallsIn Fence.wide m prog 149 #[.func (.yield l) #[] #[],.pointer (some ⟨Bs,0,none⟩)] W λe W'=>(∃v,e=.returned v)∧∃xs,xs.Perm es∧J xs W':=by
 have c1:W.cell? ⟨p,1,none⟩=some (.map (some b)):=by rw[hR.cell];rfl
 have HO:=hid (HasOf.start hown hr0)
 have HR:=hid hr0
 have HN:=hid hon
 clear hr0 hon hR
 refine callsIn_of_wp func149 rfl trivial ?_ rfl
 simp only[ntmps149,List.size_toArray,List.length_cons,List.length_nil,Nat.reduceAdd,Nat.reduceSub,Array.replicate_succ,Array.replicate_zero,List.push_toArray,List.append_toArray,List.nil_append,List.cons_append]
 gi_wp2_with (first
  | (gi_at_range;refine wpListIn_range_own _ rfl _ 148 rfl 36 193 lawW underlying148 _ b nn _ rfl hown ?_;intro w0 hrg0 hg0 hs0)
  | gi_in)
 have J0:=hJ [] W w0 none h0 hg0 (λr e=>by cases e)
 clear h0
 go_frame
 gi_loopw [3] (λ_ wr=>∃(left:Lit→Bool) (cnt:Nat) (xs:List En) (D:DataW Unit),wr.ranges prog 36 stElem b W.heap.size nn D left cnt∧Got14 es left xs∧HasOf es D∧J xs wr)
  (λ_ wr=>wr.rangeLeft b W.heap.size)
 case atStart=>exact⟨_,_,[],D0,hrg0,Got14.start HR.out,HO.out,J0⟩
 case round =>
  obtain⟨left,cnt,xs,D,hrg,hC,hH,hJs⟩:=hrel
  gi_wp2_with (first
   | (gi_at_next;refine wpListIn_next_ranges _ rfl _ rfl 36 lawW stElem Wt.val (λ(q:Int × Int)=>.agg #[.int .i64 q.1,.int .i64 q.2]) (λkey kl hk=>by obtain⟨x,hx,_⟩:=key_inv hk;exact⟨x,hx⟩) (λv y hv=>by obtain⟨t,n,hx,_⟩:=stElem_inv hv;exact⟨(t,n),hx⟩) b W.heap.size nn _ _ _ rfl hrg ?_ ?_)
   | gi_in)
  ·intro hc0 hl0
   gi_wp2
   go_end0
   exact⟨⟨_,rfl⟩,xs,hC.over HN.out hl0,hJs⟩
  ·intro x t tn kl yd yp w2 cnt2 hkey hlk hv hat hrg2 hlt hg2 hs2 hen
   obtain⟨x',ex,wx,rfl⟩:=key_inv hkey
   have hx':x=x':=by
    unfold Wt.val at ex
    simp at ex
    cases x;cases x'
    simp_all
   subst hx'
   obtain⟨e,he,ek,ea⟩:=hH _ (has_true_of_atKey' hat)
   have exw:e.s.w=x:=(klit_inj wx (HR.out.wf e he) ek).symm
   subst exw
   have yd0:yd=stDat e.s.t e.n:=(hat .nil).symm.trans (ea .nil)
   subst yd0
   have vv:=stVal_of hv
   have tt:t=e.s.t∧tn=(e.n:Int):=by
    unfold stVal at vv
    simpa using vv
   obtain⟨rfl,rfl⟩:=tt
   have J2:=hJ xs wr w2 (some W.heap.size) hJs hg2 (λr q=>by cases q;exact⟨Nat.le_refl _,hrg.iter_walk⟩)
   have J3:=hJ xs _ _ none (hJ xs _ _ none J2 (World.grownBy_alloc w2 (.cells #[.int .i64 e.s.w.r,.int .i64 e.s.w.p] 36) none) (λr q=>by cases q)) (World.grownBy_alloc _ (.cells #[.int .i64 e.s.t,.int .i64 e.n] 193) none) (λr q=>by cases q)
   have OK:=hC.ok he hlk
   obtain⟨fn,tmps,assign,body,hy,hQ⟩:=hY xs e _ J3 OK
   have R3:=(hrg2.alloc (.cells #[.int .i64 e.s.w.r,.int .i64 e.s.w.p] 36)).alloc (.cells #[.int .i64 e.s.t,.int .i64 e.n] 193)
   have GS:=hid (hC.step HN.out HR.out.wf he hlk)
   have HH:=hid hH
   have HE:=hid he
   have RR:=hid R3
   have LT:=hid hlt
   have RG:=hid hrg
   unfold Wt.val at hen ⊢
   clear hs2 OK hkey hlk hv hat hrg2 hg2 hC hH he ek ea vv J2 J3 R3 hlt wx ex hJs
   gi_wp2
   refine hQ.mono ?_
   rintro e' W4 ⟨rfl,hJ4,hT⟩
   obtain⟨D',cnt',r4,le4,hD⟩:=hT _ _ _ _ _ (show strike14 left e.s.w (klit e.s.w)=false from by show (left _&&!_)=false;rw[WideAt.sameKey_self (klit_key _)];simp) RR.out
   gi_wp2
   go_roundw
   case rel=>exact⟨_,cnt',xs++[e],D',r4,GS.out,HH.out.next HR.out.wf HE.out hD,hJ4⟩
   case measure=>rw[r4.left_eq,RG.out.left_eq];have:=LT.out;omega
end Go.Proofs.YtfbpjobobdidiaaGreatDoor
namespace Go.Proofs.YtfbpjobobdidiaaGreatDoor
open Lib (hid)
open Go.Proofs.Tryz
open Go.Lib
set_option linter.unusedVariables false
def tkL (ss:List Sx) (r:Int):List Int:=(ss.filter (λs=>decide (s.w.r=r))).map Sx.t
theorem rise_uni:∀{l l':List Int},l.Pairwise (·<·)→l'.Pairwise (·<·)→(∀x,x∈l↔x∈l')→l=l':=by
 intro l
 induction l with
 | nil =>
  intro l' _ _ h
  cases l' with
  | nil=>rfl
  | cons b r'=>have:=(h b).2 (by simp);cases this
 | cons a r ih =>
  intro l' hl hl' h
  cases l' with
  | nil=>have:=(h a).1 (by simp);cases this
  | cons b r' =>
   obtain⟨h1,h2⟩:=List.pairwise_cons.1 hl
   obtain⟨h3,h4⟩:=List.pairwise_cons.1 hl'
   have e:a=b:=by
    rcases List.mem_cons.1 ((h a).1 (by simp)) with q | q
    ·exact q
    ·rcases List.mem_cons.1 ((h b).2 (by simp)) with k | k
     ·exact k.symm
     ·have:=h3 a q
      have:=h1 b k
      omega
   subst e
   congr 1
   refine ih h2 h4 (λx=>⟨λhx=>?_,λhx=>?_⟩)
   ·rcases List.mem_cons.1 ((h x).1 (by simp[hx])) with q | q
    ·have:=h1 x hx;rw[q] at this;omega
    ·exact q
   ·rcases List.mem_cons.1 ((h x).2 (by simp[hx])) with q | q
    ·have:=h3 x hx;rw[q] at this;omega
    ·exact q
theorem mem_putI (l:List Int) (n x:Int):x∈putI l n↔x=n∨x∈l:=by
 induction l with
 | nil=>simp[putI]
 | cons a l ih =>
  unfold putI
  split
  ·rw[List.mem_cons,ih,List.mem_cons]
   constructor
   ·rintro (h | h | h)
    ·exact .inr (.inl h)
    ·exact .inl h
    ·exact .inr (.inr h)
   ·rintro (h | h | h)
    ·exact .inr (.inl h)
    ·exact .inl h
    ·exact .inr (.inr h)
  ·split
   ·rename_i h;subst h;simp
   ·simp
theorem rise_put {l:List Int} (h:l.Pairwise (·<·)) (n:Int):(putI l n).Pairwise (·<·):=by
 induction l with
 | nil=>simp[putI]
 | cons a l ih =>
  obtain⟨h1,h2⟩:=List.pairwise_cons.1 h
  unfold putI
  split
  ·rename_i k
   refine List.pairwise_cons.2 ⟨λx hx=>?_,ih h2⟩
   rcases (mem_putI l n x).1 hx with rfl | q
   ·exact k
   ·exact h1 x q
  ·split
   ·exact h
   ·rename_i k1 k2
    refine List.pairwise_cons.2 ⟨λx hx=>?_,h⟩
    rcases List.mem_cons.1 hx with rfl | q
    ·omega
    ·have:=h1 x q;omega
theorem rise_quit (ss:List Sx) (r:Int):(quitI ss r).Pairwise (·<·):=by
 unfold quitI
 have:∀(l:List Sx) (m:List Int),m.Pairwise (·<·)→(l.foldl (λl s=>putI l s.t) m).Pairwise (·<·):=by
  intro l
  induction l with
  | nil=>intro m h;exact h
  | cons s l ih=>intro m h;exact ih _ (rise_put h _)
 exact this _ _ List.Pairwise.nil
theorem compact_up {d:Array Int} (hs:∀i j,i<j→j<d.size→d[i]!≤d[j]!):∀m,m≤d.size→(compactUpTo d m).Pairwise (·<·)∧∀x,x∈compactUpTo d m↔∃j,j<m∧d[j]! = x:=by
 intro m
 induction m with
 | zero=>intro _;exact⟨by simp[compactUpTo],λx=>by simp[compactUpTo]⟩
 | succ m ih =>
  intro hm
  obtain⟨h1,h2⟩:=ih (by omega)
  rw[compactUpTo_succ]
  by_cases k:keeps d m=true
  ·rw[if_pos k]
   refine⟨?_,λx=>?_⟩
   ·rw[List.pairwise_append]
    refine⟨h1,List.pairwise_singleton _ _,λa ha b hb=>?_⟩
    rw[List.mem_singleton.1 hb]
    obtain⟨j,hj,rfl⟩:=(h2 a).1 ha
    have q1:=hs j m hj (by omega)
    unfold keeps at k
    simp only[decide_eq_true_eq] at k
    rcases k with k | k
    ·omega
    ·have q2:d[j]!≤d[m-1]!:=by
      rcases Nat.lt_or_ge j (m-1) with q | q
      ·exact hs j (m-1) q (by omega)
      ·rw[show j=m-1 from by omega];exact Int.le_refl _
     have q3:=hs (m-1) m (by omega) (by omega)
     omega
   ·rw[List.mem_append,h2 x,List.mem_singleton]
    constructor
    ·rintro (⟨j,hj,e⟩|e)
     ·exact⟨j,by omega,e⟩
     ·exact⟨m,Nat.lt_succ_self _,e.symm⟩
    ·rintro ⟨j,hj,e⟩
     rcases Nat.lt_or_ge j m with q | q
     ·exact .inl ⟨j,q,e⟩
     ·rw[show j=m from by omega] at e;exact .inr e.symm
  ·rw[if_neg k,List.append_nil]
   refine⟨h1,λx=>?_⟩
   rw[h2 x]
   have k2:¬ (m=0∨d[m]!≠d[m-1]!):=λq=>k (by unfold keeps;exact decide_eq_true q)
   have k3:0<m∧d[m]! = d[m-1]!:=⟨by omega,by
    by_cases q:d[m]! = d[m-1]!
    ·exact q
    ·exact absurd (.inr q) k2⟩
   constructor
   ·rintro ⟨j,hj,e⟩;exact⟨j,by omega,e⟩
   ·rintro ⟨j,hj,e⟩
    rcases Nat.lt_or_ge j m with q | q
    ·exact⟨j,q,e⟩
    ·rw[show j=m from by omega,k3.2] at e
     exact⟨m-1,by omega,e⟩
theorem compact_quit {ss:List Sx} {r:Int} {zs:List Int} (h:zs.Perm (tkL ss r)):compact (zs.mergeSort λx y=>decide (x≤y))=quitI ss r:=by
 obtain⟨ys,hys⟩:∃ys,zs.mergeSort (λx y=>decide (x≤y))=ys:=⟨_,rfl⟩
 have p:ys.Perm zs:=by rw[←hys];exact List.mergeSort_perm _ _
 have s:ys.Pairwise (λx y=>x≤y):=by
  rw[←hys]
  refine (List.pairwise_mergeSort (le:=λx y:Int=>decide (x≤y)) (λa b c h1 h2=>by simp at *;omega) (λa b=>by simp;omega) zs).imp ?_
  intro a b k
  simpa using k
 rw[hys]
 obtain⟨c1,c2⟩:=compact_up (d:=ys.toArray) (λi j hij hj=>by
  have hj':j<ys.length:=by simpa using hj
  have:=(List.pairwise_iff_getElem.1 s) i j (by omega) hj' hij
  rw[getElem!_pos ys.toArray i (by simpa using by omega),getElem!_pos ys.toArray j hj]
  simpa using this) ys.length (by simp)
 refine rise_uni c1 (rise_quit ss r) (λx=>?_)
 show x∈compactUpTo ys.toArray ys.length↔_
 rw[c2,mem_quit]
 have:(∃j,j<ys.length∧ys.toArray[j]! = x)↔x∈ys:=by
  constructor
  ·rintro ⟨j,hj,e⟩
   rw[getElem!_pos ys.toArray j (by simpa using hj)] at e
   rw[←e]
   simp
  ·intro hx
   obtain⟨j,hj,e⟩:=List.getElem_of_mem hx
   exact⟨j,hj,by rw[getElem!_pos ys.toArray j (by simpa using hj)];simpa using e⟩
 rw[this,p.mem_iff,h.mem_iff]
 unfold tkL
 rw[List.mem_map]
 constructor
 ·rintro ⟨s,hs,e⟩
  obtain⟨h1,h2⟩:=List.mem_filter.1 hs
  exact⟨s,h1,by simpa using h2,e⟩
 ·rintro ⟨s,h1,h2,e⟩
  exact⟨s,List.mem_filter.2 ⟨h1,by simpa using h2⟩,e⟩
end Go.Proofs.YtfbpjobobdidiaaGreatDoor
namespace Go.Proofs.YtfbpjobobdidiaaGreatDoor
open Lib (hid)
open Go.Proofs.Tryz
open Go.RowKit Go.Maps
set_option linter.unusedVariables false
abbrev Var (w:World) (q:Nat) (v:Value):Prop:=w.cell? ⟨q,0,none⟩=some v
theorem Var.lt {w:World} {q:Nat} {v:Value} (h:Var w q v):q<w.heap.size:=by
 rcases Nat.lt_or_ge q w.heap.size with k | k
 ·exact k
 ·unfold Var at h
  simp[World.cell?,Array.getElem?_eq_none k] at h
def coded (c:Int):Option Int:=if c=0 then none else some c
theorem coded_get (c:Int):(coded c).getD 0=c:=by unfold coded;split<;>simp_all
def TurnTo (w':World) (p b nd na L:Nat) (ss:List Sl):Prop:=∃L' ps,TnAt w' p b nd na L' ps∧ps.map Pl.sl=ss∧L'≤L+1
def Does (w:World) (p b nd na L:Nat) (c:Int) (ss:List Sl) (e:Ending) (w':World):Prop:=e=done (coded c)∧TurnTo w' p b nd na L ss∧Only (two12 p b) w w'
theorem TnAt.to {w w':World} {p b nd na L:Nat} {ps:List Pl} (h:TnAt w p b nd na L ps) (o:Only n_ w w'):TurnTo w' p b nd na L (ps.map Pl.sl):=⟨L,ps,h.still o,rfl,by omega⟩
theorem row_len (ps:List Pl) (a:Bool):(rowL a (ps.map Pl.sl)).length=(ps.filter (λq=>q.a==a)).length:=by rw[row_sl,List.length_map]
theorem enter_sl {ps:List Pl} {L:Nat} {q:Pl}:(enterP ps L q).map Pl.sl=cutL (ps.map Pl.sl) q.k++[⟨q.k,q.a,q.s⟩]:=by
 unfold enterP
 rw[List.map_append,cut_sl]
 rfl
theorem cut_no {ss:List Sl} {x:Int} (h:hasL ss x=false):cutL ss x=ss:=by
 unfold cutL
 rw[List.filter_eq_self]
 intro s hs
 have:s.k≠x:=λe=>by
  have:=hasL_iff.2 ⟨s,hs,e⟩
  rw[h] at this;cases this
 simpa using this
theorem put1_any {p b nd na L qk qt qa:Nat} {ps:List Pl} (x:Int) (a:Bool) (w:World) (h:TnAt w p b nd na L ps) (hk:Var w qk (.int .i64 x)) (ht:Var w qt (.pointer (some ⟨p,0,none⟩))) (ha:Var w qa (.bool a)) (wx:(Lit.int .i64 x).wf=true) (hL:L<100000000) :
  Calls prog 146 #[.pointer (some ⟨qk,0,none⟩),.pointer (some ⟨qt,0,none⟩),.pointer (some ⟨qa,0,none⟩)] w (Does w p b nd na L (putC nd na (ps.map Pl.sl) x a) (putS nd na (ps.map Pl.sl) x a)):=by
 have H:=hid h
 have lk:=hk.lt
 have lt':=ht.lt
 have la:=ha.lt
 have hk':w.drew.cell? ⟨qk,0,none⟩=some (.int .i64 x):=hk
 have ht':w.drew.cell? ⟨qt,0,none⟩=some (.pointer (some ⟨p,0,none⟩)):=ht
 have ha':w.drew.cell? ⟨qa,0,none⟩=some (.bool a):=ha
 by_cases h1:x<1
 ·have PC:=hid (show putC nd na (ps.map Pl.sl) x a=1 from by unfold putC;rw[if_pos h1])
  have PS:=hid (show putS nd na (ps.map Pl.sl) x a=ps.map Pl.sl from by unfold putS;rw[PC.out];rfl)
  have d:decide (1≤x)=false:=by simp;omega
  clear h h1
  go_enter func146,ntmps146
  go_wp2_with fail
  (with_reducible refine (unless_no _ _).mono ?_)
  rintro e w' ⟨rfl,rfl⟩
  go_wp2_with fail
  refine⟨rfl,?_⟩
  rw[PC.out,PS.out]
  exact⟨rfl,H.out.to (Only.refl _ _),Only.refl _ _⟩
 ·have d:decide (1≤x)=true:=by simp;omega
  have c2:w.drew.cell? ⟨p,2,none⟩=some (.map (some b)):=by show w.cell? _=_;rw[h.row.cell];rfl
  have LK:=(show Md12 w.drew b ps from h.md).look h.once wx
  have OZ:=hid (((Only.refl n_ w).alloc (.cells #[.int .i64 0,.bool false,.int .i64 0,.bool false] 169)).drew)
  have c2z:((w.alloc (.cells #[.int .i64 0,.bool false,.int .i64 0,.bool false] 169)).drew).cell? ⟨p,2,none⟩=some (.map (some b)):=OZ.out.cell (show w.cell? _=_ by rw[h.row.cell];rfl) (λs=>s)
  have hkz:((w.alloc (.cells #[.int .i64 0,.bool false,.int .i64 0,.bool false] 169)).drew).cell? ⟨qk,0,none⟩=some (.int .i64 x):=OZ.out.cell hk (λs=>s)
  have htz:((w.alloc (.cells #[.int .i64 0,.bool false,.int .i64 0,.bool false] 169)).drew).cell? ⟨qt,0,none⟩=some (.pointer (some ⟨p,0,none⟩)):=OZ.out.cell ht (λs=>s)
  have LZ:=(h.md.still OZ.out).look h.once wx
  have e0:=has_sl ps x
  cases hh:hasP ps x with
  | true =>
   have PC:=hid (show putC nd na (ps.map Pl.sl) x a=4 from by unfold putC;rw[if_neg h1,e0,hh];rfl)
   have PS:=hid (show putS nd na (ps.map Pl.sl) x a=ps.map Pl.sl from by unfold putS;rw[PC.out];rfl)
   rw[hh] at LK LZ
   generalize atP ps x=q at LK LZ
   unfold plVal at LK LZ
   clear h h1 e0 hh
   go_enter func146,ntmps146
   go_wp2_with fail
   (with_reducible refine (unless_yes _ _).mono ?_)
   rintro e w' ⟨rfl,rfl⟩
   go_wp2_with fail
   go_region
   all_goals
    go_wp2_with fail
    (with_reducible refine (unless_no _ _).mono ?_)
    rintro e w' ⟨rfl,rfl⟩
    go_wp2_with fail
    refine⟨rfl,?_⟩
    rw[PC.out,PS.out]
    first
     | exact⟨rfl,H.out.to ((Only.refl _ _).drew.alloc _),(Only.refl _ _).drew.alloc _⟩
     | exact⟨rfl,H.out.to (((Only.refl _ _).alloc _).drew),((Only.refl _ _).alloc _).drew⟩
  | false =>
   rw[hh] at LK LZ
   generalize atP ps x=q at LK LZ
   unfold plVal at LK LZ
   have hx0:hasL (ps.map Pl.sl) x=false:=e0.trans hh
   have RL:=row_len ps a
   by_cases hr:0<roomP nd na ps a
   ·have PC:=hid (show putC nd na (ps.map Pl.sl) x a=0 from by unfold putC;unfold roomP at hr;rw[if_neg h1,hx0,if_neg (by simp),if_neg (by omega)])
    have PS:=hid (show (enterP ps L ⟨x,a,0,true⟩).map Pl.sl=putS nd na (ps.map Pl.sl) x a from by unfold putS;rw[PC.out,if_pos rfl,enter_sl,cut_no hx0])
    have EN:=hid (λ(W:World) (o:Only n_ w W)=>tenter_yes (⟨x,a,0,true⟩:Pl) W (H.out.still o) hr hL wx)
    clear h h1 e0 hh hr hx0 RL
    go_enter func146,ntmps146
    go_wp2_with fail
    (with_reducible refine (unless_yes _ _).mono ?_)
    rintro e w' ⟨rfl,rfl⟩
    go_wp2_with fail
    go_region
    all_goals
     go_wp2_with fail
     (with_reducible refine (unless_yes _ _).mono ?_)
     rintro e w' ⟨rfl,rfl⟩
     go_wp2_with fail
     (with_reducible refine (EN.out _ ?_).mono ?_)
     ·first | exact (Only.refl _ _).drew.alloc _ | exact ((Only.refl _ _).alloc _).drew
     rintro e w2 ⟨rfl,h2,o2⟩
     have H2:=hid h2
     have O2:=hid (show Only (two12 p b) w w2 from by first | exact ((Only.refl _ _).drew.alloc _).then_ o2 | exact (((Only.refl _ _).alloc _).drew).then_ o2)
     clear h2 o2
     go_wp2_with fail
     go_end0
     unfold Does
     rw[PC.out]
     exact⟨rfl,⟨_,_,H2.out,PS.out,Nat.le_refl _⟩,O2.out⟩
   ·have PC:=hid (show putC nd na (ps.map Pl.sl) x a=2 from by unfold putC;unfold roomP at hr;rw[if_neg h1,hx0,if_neg (by simp),if_pos (by omega)])
    have PS:=hid (show putS nd na (ps.map Pl.sl) x a=ps.map Pl.sl from by unfold putS;rw[PC.out];rfl)
    have EN:=hid (λ(W:World) (o:Only n_ w W)=>tenter_no (⟨x,a,0,true⟩:Pl) W (H.out.still o) hr)
    clear h h1 e0 hh hr hx0 RL
    go_enter func146,ntmps146
    go_wp2_with fail
    (with_reducible refine (unless_yes _ _).mono ?_)
    rintro e w' ⟨rfl,rfl⟩
    go_wp2_with fail
    go_region
    all_goals
     go_wp2_with fail
     (with_reducible refine (unless_yes _ _).mono ?_)
     rintro e w' ⟨rfl,rfl⟩
     go_wp2_with fail
     (with_reducible refine (EN.out _ ?_).mono ?_)
     ·first | exact (Only.refl _ _).drew.alloc _ | exact ((Only.refl _ _).alloc _).drew
     rintro e w2 ⟨rfl,o2⟩
     have O2:=hid (show Only n_ w w2 from by first | exact ((Only.refl _ _).drew.alloc _).same o2 | exact (((Only.refl _ _).alloc _).drew).same o2)
     clear o2
     go_wp2_with fail
     refine⟨rfl,?_⟩
     rw[PC.out,PS.out]
     exact⟨rfl,H.out.to O2.out,O2.out.up⟩
theorem promote1_any {p b nd na L qk qt:Nat} {ps:List Pl} (x:Int) (w:World) (h:TnAt w p b nd na L ps) (ht:Var w qt (.pointer (some ⟨p,0,none⟩))) (hk:Var w qk (.int .i64 x)) (wx:(Lit.int .i64 x).wf=true) (hL:L<100000000) :
  Calls prog 111 #[.pointer (some ⟨qt,0,none⟩),.pointer (some ⟨qk,0,none⟩)] w (Does w p b nd na L (promC nd (ps.map Pl.sl) x) (promS nd (ps.map Pl.sl) x)):=by
 have H:=hid h
 have lk:=hk.lt
 have lt':=ht.lt
 have e0:=has_sl ps x
 cases hh:hasP ps x with
 | false =>
  have PC:=hid (show promC nd (ps.map Pl.sl) x=3 from by unfold promC;rw[e0,hh];rfl)
  have PS:=hid (show promS nd (ps.map Pl.sl) x=ps.map Pl.sl from by unfold promS;rw[PC.out];rfl)
  have AT:=hid (tat_no x w h wx hh)
  clear h e0 hh
  go_enter func111,ntmps111
  go_wp2_with fail
  (with_reducible refine (AT.out).mono ?_)
  rintro e w1 ⟨rfl,o1⟩
  go_wp2_with fail
  refine⟨rfl,?_⟩
  rw[PC.out,PS.out]
  exact⟨rfl,H.out.to o1,o1.up⟩
 | true =>
  have AT:=hid (tat_yes x w h wx hh)
  have hx0:hasL (ps.map Pl.sl) x=true:=e0.trans hh
  have HK:=hid (atP_has hh).2
  have ea:=at_sl ps x
  generalize atP ps x=q at *
  cases ha:q.a with
  | false =>
   have PC:=hid (show promC nd (ps.map Pl.sl) x=5 from by unfold promC;rw[hx0,ea];simp[Pl.sl,ha])
   have PS:=hid (show promS nd (ps.map Pl.sl) x=ps.map Pl.sl from by unfold promS;rw[PC.out];rfl)
   rw[ha] at AT
   clear h e0 hh hx0 ea
   go_enter func111,ntmps111
   go_wp2_with fail
   (with_reducible refine (AT.out).mono ?_)
   rintro e w1 ⟨rfl,o1⟩
   have O1:=hid o1
   clear o1
   go_wp2_with fail
   (with_reducible refine (unless_no _ _).mono ?_)
   rintro e w' ⟨rfl,rfl⟩
   go_wp2_with fail
   refine⟨rfl,?_⟩
   rw[PC.out,PS.out]
   exact⟨rfl,H.out.to (O1.out.alloc _),(O1.out.alloc _).up⟩
  | true =>
   rw[ha] at AT
   have RL:=row_len ps false
   by_cases hr:0<roomP nd na ps false
   ·have PC:=hid (show promC nd (ps.map Pl.sl) x=0 from by unfold promC;unfold roomP mostL at hr;rw[hx0,ea];simp[Pl.sl,ha] at hr RL ⊢;omega)
    have PS:=hid (show (enterP ps L ⟨q.k,false,q.n,q.s⟩).map Pl.sl=promS nd (ps.map Pl.sl) x from by unfold promS;rw[PC.out,if_pos rfl,enter_sl,ea];simp only[HK.out,Pl.sl])
    have WX:=hid wx
    have EN:=hid (λ(W:World) (o:Only n_ w W)=>tenter_yes (⟨q.k,false,q.n,q.s⟩:Pl) W (H.out.still o) hr hL (by rw[HK.out];exact WX.out))
    clear h e0 hh hx0 ea hr RL wx
    go_enter func111,ntmps111
    go_wp2_with fail
    (with_reducible refine (AT.out).mono ?_)
    rintro e w1 ⟨rfl,o1⟩
    have O1:=hid o1
    have ht1:w1.cell? ⟨qt,0,none⟩=some (.pointer (some ⟨p,0,none⟩)):=o1.cell ht (λs=>s)
    have lt1:qt<w1.heap.size:=Nat.lt_of_lt_of_le lt' o1.size
    clear o1
    go_wp2_with fail
    (with_reducible refine (unless_yes _ _).mono ?_)
    rintro e w' ⟨rfl,rfl⟩
    go_wp2_with fail
    (with_reducible refine (EN.out _ ?_).mono ?_)
    ·exact O1.out.alloc _
    rintro e w2 ⟨rfl,h2,o2⟩
    have H2:=hid h2
    have O2:=hid ((O1.out.alloc _).then_ o2)
    clear h2 o2
    go_wp2_with fail
    go_end0
    unfold Does
    rw[PC.out]
    exact⟨rfl,⟨_,_,H2.out,PS.out,Nat.le_refl _⟩,O2.out⟩
   ·have PC:=hid (show promC nd (ps.map Pl.sl) x=2 from by unfold promC;unfold roomP mostL at hr;rw[hx0,ea];simp[Pl.sl,ha] at hr RL ⊢;omega)
    have PS:=hid (show promS nd (ps.map Pl.sl) x=ps.map Pl.sl from by unfold promS;rw[PC.out];rfl)
    have EN:=hid (λ(W:World) (o:Only n_ w W)=>tenter_no (⟨q.k,false,q.n,q.s⟩:Pl) W (H.out.still o) hr)
    clear h e0 hh hx0 ea hr RL
    go_enter func111,ntmps111
    go_wp2_with fail
    (with_reducible refine (AT.out).mono ?_)
    rintro e w1 ⟨rfl,o1⟩
    have O1:=hid o1
    have ht1:w1.cell? ⟨qt,0,none⟩=some (.pointer (some ⟨p,0,none⟩)):=o1.cell ht (λs=>s)
    have lt1:qt<w1.heap.size:=Nat.lt_of_lt_of_le lt' o1.size
    clear o1
    go_wp2_with fail
    (with_reducible refine (unless_yes _ _).mono ?_)
    rintro e w' ⟨rfl,rfl⟩
    go_wp2_with fail
    (with_reducible refine (EN.out _ ?_).mono ?_)
    ·exact O1.out.alloc _
    rintro e w2 ⟨rfl,o2⟩
    have O2:=hid ((O1.out.alloc _).same o2)
    clear o2
    go_wp2_with fail
    refine⟨rfl,?_⟩
    rw[PC.out,PS.out]
    exact⟨rfl,H.out.to O2.out,O2.out.up⟩
end Go.Proofs.YtfbpjobobdidiaaGreatDoor
namespace Go.Proofs.YtfbpjobobdidiaaGreatDoor
open Lib (hid)
open Go.Proofs.Tryz
open Go.RowKit
set_option linter.unusedVariables false
end Go.Proofs.YtfbpjobobdidiaaGreatDoor
namespace Go.Proofs.YtfbpjobobdidiaaGreatDoor
open Lib (hid)
open Go.Proofs.Tryz
open Go.RowKit Go.Maps
set_option linter.unusedVariables false
structure WAt (w:World) (p b:Nat) (room came:Nat) (es:List En):Prop where
 row:Row w p 150 #[.int .i64 room,.map (some b),.int .i64 came]
 md:Md14 w b es
 fine:FineE came es
 good:GoodR room (seats es)
theorem WAt.keep {w w':World} {p b room came:Nat} {es:List En} (h:WAt w p b room came es) {S:Nat→Prop} (o:Only S w w') (hp:¬ S p) (hb:¬ S b):WAt w' p b room came es:=⟨o.row h.row hp,h.md.keep o hb,h.fine,h.good⟩
theorem WAt.still {w w':World} {p b room came:Nat} {es:List En} (h:WAt w p b room came es) (o:Only n_ w w'):WAt w' p b room came es:=h.keep o (λs=>s) (λs=>s)
theorem WAt.once {w:World} {p b room came:Nat} {es:List En} (h:WAt w p b room came es):OnceE es:=once_of h.good.once
theorem WAt.len {w:World} {p b room came:Nat} {es:List En} (h:WAt w p b room came es):es.length≤64:=by
 have h1:=h.good.len
 have h2:=h.good.high
 rw[seats_len] at h1
 omega
theorem WAt.ne {w:World} {p b room came:Nat} {es:List En} (h:WAt w p b room came es):p≠b:=h.md.ne h.row
abbrev two14 (p b:Nat):Nat→Prop:=λk=>k=p∨k=b
structure WG (w:World) (p:Nat) (M:Nat→Prop) (room L:Nat) (ss:List Sx):Prop where
 good:GoodR room ss
 ex:∃b came es,WAt w p b room came es∧seats es=ss∧came≤L∧M p∧M b
 lt:∀g,M g→g<w.heap.size
theorem WG.keep {w w':World} {p:Nat} {M:Nat→Prop} {room L:Nat} {ss:List Sx} (h:WG w p M room L ss) {S:Nat→Prop} (o:Only S w w') (hn:∀g,M g→¬ S g):WG w' p M room L ss:=by
 obtain⟨b,came,es,h1,h2,h3,mp,mb⟩:=h.ex
 exact⟨h.good,⟨b,came,es,h1.keep o (hn p mp) (hn b mb),h2,h3,mp,mb⟩,λg hg=>Nat.lt_of_lt_of_le (h.lt g hg) o.size⟩
theorem WG.still {w w':World} {p:Nat} {M:Nat→Prop} {room L:Nat} {ss:List Sx} (h:WG w p M room L ss) (o:Only n_ w w'):WG w' p M room L ss:=h.keep o (λ_ _ s=>s)
theorem WG.up {w:World} {p:Nat} {M:Nat→Prop} {room L:Nat} {ss:List Sx} (h:WG w p M room L ss) {L':Nat} (k:L≤L'):WG w p M room L' ss:=by
 obtain⟨b,came,es,h1,h2,h3,r⟩:=h.ex
 exact⟨h.good,⟨b,came,es,h1,h2,Nat.le_trans h3 k,r⟩,h.lt⟩
def WGto (w:World) (p:Nat) (M:Nat→Prop) (room L:Nat) (ss:List Sx) (w':World):Prop:=(∃M':Nat→Prop,WG w' p M' room L ss∧∀g,M' g→M g∨w.heap.size≤g)∧Only M w w'
def WGtoV (w:World) (p:Nat) (M:Nat→Prop) (room L:Nat) (ss:List Sx) (v:Value) (w':World):Prop:=(∃M':Nat→Prop,WG w' p M' room L ss∧(∀g,M' g→M g∨w.heap.size≤g)∧∀g,v.ownBlock=some g→¬ M' g)∧Only M w w'
theorem WGtoV.to {w w':World} {p:Nat} {M:Nat→Prop} {room L:Nat} {ss:List Sx} {v:Value} (h:WGtoV w p M room L ss v w'):WGto w p M room L ss w':=⟨h.1.imp (λM' h=>⟨h.1,h.2.1⟩),h.2⟩
theorem WG.went {w w':World} {p b room came L L':Nat} {M:Nat→Prop} {ss:List Sx} {es:List En} (h:WG w p M room L ss) (mp:M p) (mb:M b) (k:WAt w' p b room came es) (hl:came≤L') (o:Only (two14 p b) w w'):WGto w p M room L' (seats es) w':=
 ⟨⟨M,⟨k.good,⟨b,came,es,k,rfl,hl,mp,mb⟩,λg hg=>Nat.lt_of_lt_of_le (h.lt g hg) o.size⟩,λg hg=>.inl hg⟩,o.more (λi _ k=>by rcases k with rfl|rfl<;>assumption)⟩
theorem WG.wentV {w w':World} {p b room came L L':Nat} {M:Nat→Prop} {ss:List Sx} {es:List En} {v:Value} (h:WG w p M room L ss) (mp:M p) (mb:M b) (k:WAt w' p b room came es) (hl:came≤L') (o:Only (two14 p b) w w') (hv:∀g,v.ownBlock=some g→w.heap.size≤g):WGtoV w p M room L' (seats es) v w':=
 ⟨⟨M,⟨k.good,⟨b,came,es,k,rfl,hl,mp,mb⟩,λg hg=>Nat.lt_of_lt_of_le (h.lt g hg) o.size⟩,λg hg=>.inl hg,λg hg hm=>by have:=hv g hg;have:=h.lt g hm;omega⟩,o.more (λi _ k=>by rcases k with rfl|rfl<;>assumption)⟩
theorem wnew_yes (room:Nat) (w:World) (h1:1≤room) (h2:room≤64) :
  Calls prog 36 #[.int .i64 room] w λe w'=>∃p,e=.returned (.tuple #[.pointer (some ⟨p,0,none⟩),.int .i64 0])∧(∃M,WG w' p M room 0 []∧∀g,M g→w.heap.size≤g)∧Only n_ w w':=by
 have hmm:=@run_makeMap prog
 have d1:decide ((room:Int)<1)=false:=by simp;omega
 have d2:decide ((64:Int)<(room:Int))=false:=by simp;omega
 have GN:=hid (good_nil h1 h2)
 clear h1 h2
 go_enter func36,ntmps36
 go_wp2
 go_ret2
 have o0:=World.ownsMap_made (H:=Unit) w prog 36 stElem
 have r1:=Row.fresh (w.alloc (.map #[] 0)) 150 #[.int .i64 room,.map (some w.heap.size),.int .i64 0]
 simp only[World.size_alloc] at r1
 refine⟨w.heap.size+1,rfl,⟨two14 (w.heap.size+1) w.heap.size,⟨GN.out,⟨w.heap.size,0,[],⟨r1,⟨_,o0.alloc _,Reads14.nil⟩,fine_nil 0,GN.out⟩,rfl,Nat.le_refl _,.inl rfl,.inr rfl⟩,λg hg=>?_⟩,λg hg=>?_⟩,((Only.refl _ _).alloc _).alloc _⟩
 ·simp only[World.size_alloc]
  rcases hg with rfl | rfl<;>omega
 ·rcases hg with rfl | rfl<;>omega
theorem may25_any (x:Wt) (w:World) :
  Calls prog 114 #[.agg #[.int .i64 x.r,.int .i64 x.p]] w λe w'=>e=.returned (.bool (decide (1≤x.r∧0≤x.p∧x.p<8)))∧Only n_ w w':=by
 have O1:=hid ((Only.refl n_ w).alloc (.cells #[.int .i64 x.r,.int .i64 x.p] 36))
 have c0:(w.alloc (.cells #[.int .i64 x.r,.int .i64 x.p] 36)).cell? ⟨w.heap.size,0,none⟩=some (.int .i64 x.r):=by rw[(Row.fresh _ _ _).cell];rfl
 have c1:(w.alloc (.cells #[.int .i64 x.r,.int .i64 x.p] 36)).cell? ⟨w.heap.size,1,none⟩=some (.int .i64 x.p):=by rw[(Row.fresh _ _ _).cell];rfl
 by_cases h1:1≤x.r
 ·have t1:decide (1≤x.r)=true:=decide_eq_true h1
  by_cases h2:0≤x.p
  ·have t2:decide (0≤x.p)=true:=decide_eq_true h2
   have E:=hid (show decide (1≤x.r∧0≤x.p∧x.p<8)=decide (x.p<8) from by simp[h1,h2])
   rw[E.out]
   clear h1 h2
   go_enter func114,ntmps114
   go_wp2
   go_ret
   exact⟨rfl,O1.out⟩
  ·have t2:decide (0≤x.p)=false:=decide_eq_false h2
   have E:=hid (show decide (1≤x.r∧0≤x.p∧x.p<8)=false from decide_eq_false (λk=>h2 k.2.1))
   rw[E.out]
   clear h1 h2
   go_enter func114,ntmps114
   go_wp2
   go_ret
   exact⟨rfl,O1.out⟩
 ·have t1:decide (1≤x.r)=false:=decide_eq_false h1
  have E:=hid (show decide (1≤x.r∧0≤x.p∧x.p<8)=false from decide_eq_false (λk=>h1 k.1))
  rw[E.out]
  clear h1
  go_enter func114,ntmps114
  go_wp2
  go_ret
  exact⟨rfl,O1.out⟩
theorem waits19 {p b room came:Nat} {es:List En} (x:Wt) (wx:wfW x) (w:World) (h:WAt w p b room came es) :
  Calls prog 107 #[.pointer (some ⟨p,0,none⟩),.agg #[.int .i64 x.r,.int .i64 x.p]] w λe w'=>e=.returned (.bool (hasE es x))∧Only n_ w w':=by
 obtain⟨W1,hW1⟩:∃W1,W1=w.alloc (.cells #[.int .i64 x.r,.int .i64 x.p] 36):=⟨_,rfl⟩
 have o1:Only n_ w W1:=by rw[hW1];exact (Only.refl n_ w).alloc _
 have OZ:=hid (((Only.refl n_ W1).alloc (.cells #[.int .i64 0,.int .i64 0] 193)).drew)
 have XR:Row W1 w.heap.size 36 #[.int .i64 x.r,.int .i64 x.p]:=by rw[hW1];exact Row.fresh _ _ _
 have c2:W1.drew.cell? ⟨p,1,none⟩=some (.map (some b)):=by show W1.cell? _=_;rw[(o1.still h.row).cell];rfl
 have x0:W1.drew.cell? ⟨w.heap.size,0,none⟩=some (.int .i64 x.r):=by show W1.cell? _=_;rw[XR.cell];rfl
 have x1:W1.drew.cell? ⟨w.heap.size,1,none⟩=some (.int .i64 x.p):=by show W1.cell? _=_;rw[XR.cell];rfl
 have c2z:((W1.alloc (.cells #[.int .i64 0,.int .i64 0] 193)).drew).cell? ⟨p,1,none⟩=some (.map (some b)):=OZ.out.cell (show W1.cell? _=_ from c2) (λs=>s)
 have x0z:((W1.alloc (.cells #[.int .i64 0,.int .i64 0] 193)).drew).cell? ⟨w.heap.size,0,none⟩=some (.int .i64 x.r):=OZ.out.cell (show W1.cell? _=_ from x0) (λs=>s)
 have x1z:((W1.alloc (.cells #[.int .i64 0,.int .i64 0] 193)).drew).cell? ⟨w.heap.size,1,none⟩=some (.int .i64 x.p):=OZ.out.cell (show W1.cell? _=_ from x1) (λs=>s)
 have LK:=((h.md.still o1).still ((Only.refl n_ W1).drew)).look h.once wx
 have LZ:=((h.md.still o1).still OZ.out).look h.once wx
 have O1:=hid o1
 unfold stVal at LK LZ
 generalize tick es x=tk at LK LZ
 generalize turn es x=tn at LK LZ
 generalize hasE es x=hs at LK LZ ⊢
 clear h o1 XR wx
 go_enter func107,ntmps107
 go_wp2_with fail
 rw[←hW1]
 clear hW1
 go_region
 all_goals (try go_wp2_with fail)
 all_goals go_ret
 all_goals first
  | exact⟨rfl,(O1.out.drew).alloc _⟩
  | exact⟨rfl,(O1.out.alloc _).drew⟩
theorem free23 {p b room came:Nat} {es:List En} (w:World) (h:WAt w p b room came es) :
  Calls prog 53 #[.pointer (some ⟨p,0,none⟩)] w λe w'=>e=.returned (.int .i64 ((room:Int)-(es.length:Int)))∧Only n_ w w':=by
 have c0:w.cell? ⟨p,0,none⟩=some (.int .i64 room):=by rw[h.row.cell];rfl
 have c1:w.cell? ⟨p,1,none⟩=some (.map (some b)):=by rw[h.row.cell];rfl
 have LE:=λn ty=>(h.md.still ((Only.refl n_ w).drewN n)).len h.once ty
 have v1:IntKind.i64.wrap ((room:Int)-(es.length:Int))=(room:Int)-(es.length:Int):=by have:=h.len;have:=h.good.high;rw[IntKind.wrap_i64];omega
 generalize es.length=len at *
 clear h
 go_enter func53,ntmps53
 go_wp2_with fail
 go_quiet (fail)
 go_wp2_with fail
 go_ret
 exact⟨rfl,(Only.refl _ _).drewN _⟩
theorem less31 {p b room came:Nat} {es:List En} (w:World) (h:WAt w p b room came es) (x y:Wt) (wx:wfW x) (wy:wfW y) :
  Calls prog 123 #[.pointer (some ⟨p,0,none⟩),.agg #[.int .i64 x.r,.int .i64 x.p],.agg #[.int .i64 y.r,.int .i64 y.p]] w λe w'=>e=.returned (.int .i64 (kcmp (λz=>(turn es z:Int)) x y))∧Only n_ w w':=by
 obtain⟨W1,hW1⟩:∃W1,W1=(w.alloc (.cells #[.int .i64 x.r,.int .i64 x.p] 36)).alloc (.cells #[.int .i64 y.r,.int .i64 y.p] 36):=⟨_,rfl⟩
 have o1:Only n_ w W1:=by rw[hW1];exact ((Only.refl n_ w).alloc _).alloc _
 have XR:Row W1 w.heap.size 36 #[.int .i64 x.r,.int .i64 x.p]:=by rw[hW1];exact (Row.fresh _ _ _).alloc _
 have YR:Row W1 (w.heap.size+1) 36 #[.int .i64 y.r,.int .i64 y.p]:=by
  rw[hW1]
  have:=Row.fresh (w.alloc (.cells #[.int .i64 x.r,.int .i64 x.p] 36)) 36 #[.int .i64 y.r,.int .i64 y.p]
  rwa [World.size_alloc] at this
 have c1:W1.cell? ⟨p,1,none⟩=some (.map (some b)):=by rw[(o1.still h.row).cell];rfl
 obtain⟨x0,x1⟩:=XR.two
 obtain⟨y0,y1⟩:=YR.two
 have GX:=λn=>((h.md.still o1).still ((Only.refl n_ W1).drewN n)).get h.once wx
 have GY:=λn=>((h.md.still o1).still ((Only.refl n_ W1).drewN n)).get h.once wy
 have CM:=hid (λW=>Tryz.cmp_Compare_int (turn es x) (turn es y) W)
 have O1:=hid o1
 unfold kcmp
 dsimp only
 unfold stVal at GX GY
 have FX:=λ(W:World)=>(show (Instr.field 193 (.agg #[.int .i64 (tick es x),.int .i64 (turn es x)]) 1).run prog W=.ok (.int .i64 (turn es x)) W from by kernel_rfl)
 have FY:=λ(W:World)=>(show (Instr.field 193 (.agg #[.int .i64 (tick es y),.int .i64 (turn es y)]) 1).run prog W=.ok (.int .i64 (turn es y)) W from by kernel_rfl)
 generalize tick es x=tx at GX FX
 generalize tick es y=ty at GY FY
 generalize (turn es x:Int)=nx at GX CM FX ⊢
 generalize (turn es y:Int)=ny at GY CM FY ⊢
 clear h o1 XR YR wx wy
 go_enter func123,ntmps123
 go_wp2_with fail
 rw[←hW1]
 clear hW1
 go_quiet ((go_at_call 154;exact Calls.quiet_of_same (CM.out _)))
 go_wp2_with fail
 go_ret
 exact⟨rfl,O1.out.drewN _⟩
end Go.Proofs.YtfbpjobobdidiaaGreatDoor
