/- Texts of the layers below, one behind the other. -/
import Derived.Test.YtfbpjobobdidiaaGreatDoorRG32
import Derived.Test.YtfbpjobobdidiaaGreatDoorRAl16
set_option maxRecDepth 100000
set_option maxHeartbeats 4000000
namespace Go.Proofs.YtfbpjobobdidiaaGreatDoor
open Lib (hid)
open Go.Proofs.Tryz
open Go.RowKit Go.Maps Go.Sort Go.Shelf
set_option linter.unusedVariables false
def tkC (q:Tk × Int):List Value:=[.int .i64 q.1.id,.int .i64 q.1.kind,.int .i64 q.1.b,.int .i64 q.1.l,.int .i64 q.1.tries,.int .i64 q.2,.bool q.1.out,.bool q.1.fr,.bool q.1.cut]
theorem tkC9 (q:Tk × Int):(tkC q).length=9:=rfl
theorem tkC_one:∀y,∀u∈tkC y,u.oneCell'=true:=by
 intro y u hu
 simp only[tkC,List.mem_cons,List.not_mem_nil,or_false] at hu
 rcases hu with rfl | rfl | rfl | rfl | rfl | rfl | rfl | rfl | rfl<;>rfl
theorem info_tk9:(prog.info? 54).map (λi=>(i.zero,i.size,i.bytes))=some (some noTk,9,56):=by kernel_rfl
abbrev OwnsTk (w:World) (base:Nat) (v:Value) (xs:List (Tk × Int)):Prop:=Owns w base 54 9 tkC v xs
theorem sort_sorted {l:List Int} (h:l.Pairwise (λa b=>a<b)):sortI l=l:=List.mergeSort_of_pairwise (h.imp (λhab=>by unfold leI;simp;omega))
def Eng.tells (E:Eng):List (Tk × Int):=E.ts.map (λt=>(t,E.cnt t.id))
section
variable {p:Nat} {c:Nat→Nat} {X:Loc} {F H:Nat} {ks:List Tk} {E:Eng}
theorem etickets_any (w:World) (h:EP w p c X F H ks E) (ids:E.ts.Pairwise (λa b=>a.id<b.id)) :
  Calls prog 18 #[pT p] w λe w'=>∃v,e=.returned v∧OwnsTk w' w.heap.size v E.tells∧Only n_ w w':=by
 have c17:w.cell? ⟨p,17,none⟩=some (.map (some X.bt)):=h.cell 17
 have RS:=rising_tk w X.bt _ h.eo.tm (by rw[List.length_map];have:=h.few;omega)
 rw[show (E.ts.map (tkEnt X.A)).map (·.1)=E.ts.map (·.id) from by rw[List.map_map];rfl,sort_sorted (by rw[List.pairwise_map];exact ids)] at RS
 have RS:=hid RS
 have LH:E.ts.length≤128:=h.few
 have H0:=hid h
 have ONC:=hid h.once
 unfold Eng.tells
 generalize hts:E.ts=hs at *
 have INS:=hid (λt (ht:t∈hs)=>show t∈E.ts from by rw[hts];exact ht)
 have ONC:=hid (show E.ts.Pairwise (λs t=>s.id≠t.id) from by rw[hts];exact ONC.out)
 obtain⟨i0,hi0,hz0,hz1,hz2⟩:=info_partsR info_tk9
 have I0:=hid hi0
 have I1:=hid hz0
 have I2:=hid hz1
 have I3:=hid hz2
 clear hi0 hz0 hz1 hz2 h hts ids
 unfold pT
 go_enter func18,ntmps18
 go_wp2_with fail
 (with_reducible refine (RS.out).mono ?_)
 rintro e w1 ⟨v1,rfl,own1,o1⟩
 have rd1:=Reads.of_owns own1
 obtain⟨ra,rc,rfl,rd⟩:=rd1
 have O1:=hid o1
 have RD:=hid rd
 rw[List.length_map]
 clear rd own1 o1
 go_wp2_with fail
 go_loopw [3,5,12] (λv _ i wr=>∃k:Nat,k≤hs.length∧i=.int .i64 k∧OwnsTk wr w1.heap.size v ((hs.take k).map (λt=>(t,E.cnt t.id)))∧Only n_ w1 wr) (λ_ _ i _=>hs.length-(intOf i).toNat)
 case atStart=>exact⟨0,Nat.zero_le _,rfl,Owns.start _ _ _ _ _,Only.refl _ _⟩
 case round =>
  obtain⟨k,hk,rfl,hv,ho⟩:=hrel
  have HV:=hid hv
  have HO:=hid ho
  clear hv ho
  by_cases hlt:k<hs.length
  ·have t1:decide (k<hs.length)=true:=decide_eq_true hlt
   obtain⟨t,ht⟩:∃t,hs[k]? = some t:=⟨_,List.getElem?_eq_getElem hlt⟩
   have tm:=INS.out t (List.mem_of_getElem? ht)
   have hw0:=(H0.out.still (O1.out.same HO.out))
   have rdw:=(show Reads w1 (.slice ra (hs.map (·.id)).length rc) (hs.map (·.id)) from ⟨ra,rc,rfl,RD.out⟩).still HO.out
   obtain⟨ra',rc',e1,rd'⟩:=rdw
   obtain⟨g,ao,e2,ck⟩:=rd' k t.id (by rw[List.getElem?_map,ht];rfl)
   cases e1
   subst e2
   have c17:wr.cell? ⟨p,17,none⟩=some (.map (some X.bt)):=hw0.cell 17
   have tid:=H0.out.idr t (H0.out.sub t tm)
   have wx:(Lit.int .i64 t.id).wf=true:=wf_i _ (by have:=H0.out.ntH;have:=H0.out.hH;omega)
   have LK:=hw0.eo.tm.look underlying96 (zeroPtr wr) wx
   rw[at16_tk,at16_mem ONC.out tm] at LK
   have r:=hw0.rowOf tm
   have TD:=etold_any t (X.A t.id) wr hw0 r
   obtain⟨gt,hgt⟩:∃gt,X.A t.id=gt:=⟨_,rfl⟩
   unfold optPtr pT at LK
   unfold pT Tk.told at TD
   simp only[hgt] at LK TD
   have TD:=hid TD
   have TKE:=hid (show (hs.take (k+1)).map (λt=>(t,E.cnt t.id))=(hs.take k).map (λt=>(t,E.cnt t.id))++[(t,E.cnt t.id)] from by rw[List.take_add_one,ht,List.map_append];rfl)
   have TL:=hid (show ((hs.take k).map (λt=>(t,E.cnt t.id))).length≤256 from by rw[List.length_map,List.length_take];omega)
   clear hw0 rd' tid wx hgt tm ht r
   go_wp2_with fail
   (with_reducible refine TD.out.mono ?_)
   rintro e w2 ⟨rfl,o2⟩
   have HV1:=hid (HV.out.still o2)
   have HO1:=hid (HO.out.same o2)
   clear o2 TD
   obtain⟨W2,hW2⟩:∃W,W=w2.alloc (.cells #[.int .i64 t.id,.int .i64 t.kind,.int .i64 t.b,.int .i64 t.l,.int .i64 t.tries,.int .i64 (E.cnt t.id),.bool t.out,.bool t.fr,.bool t.cut] 54):=⟨_,rfl⟩
   have oa:Only n_ w2 W2:=by rw[hW2];exact (Only.refl _ _).alloc _
   have RF:=hid (show Row W2 w2.heap.size 54 (tkC (t,E.cnt t.id)).toArray from by rw[hW2];exact Row.fresh _ _ _)
   have HV2:=hid (HV1.out.still oa)
   have HO2:=hid (HO1.out.same oa)
   have sz:=HO2.out.size
   have l1:((hs.take k).map (λt=>(t,E.cnt t.id))).length<9223372036854775807:=by have:=TL.out;omega
   have l2:(((hs.take k).map (λt=>(t,E.cnt t.id))).length+1)*56≤140737488355328:=by have:=TL.out;omega
   clear oa
   go_wp2_with (at_builtin;go_loud (first | rw[←hW2] | skip);(refine wpList_append_one rfl (.tmp 16) (.tmp 25) 51 rfl i0 _ 56 underlying51 I0.out I1.out I2.out I3.out rfl (by decide) tkC9 tkC_one rfl HV2.out rfl RF.out l1 l2 sz ?_))
   intro v7 w7 own7 o7
   rw[←hW2] at o7
   have o7':Only n_ w1 w7:=HO2.out.trans o7 (λi hi s=>absurd s (Nat.not_le.2 hi))
   have OW7:=hid own7
   have OO7:=hid o7'
   clear own7 o7 o7' hW2
   go_wp2_with fail
   go_roundw
   case rel=>exact⟨k+1,by omega,by go_num,by rw[TKE.out,List.map_take];exact OW7.out,OO7.out⟩
   case measure=>simp[intOf];omega
  ·have t1:decide (k<hs.length)=false:=decide_eq_false hlt
   obtain rfl:k=hs.length:=by omega
   go_wp2_with fail
   go_ret
   have q:=HV.out
   rw[List.take_length] at q
   exact⟨_,rfl,q.lower11 O1.out.size,O1.out.same HO.out⟩
end
end Go.Proofs.YtfbpjobobdidiaaGreatDoor
namespace Go.Proofs.YtfbpjobobdidiaaGreatDoor
open Lib (hid)
open Go.Proofs.Tryz
open Go.RowKit Go.Maps
set_option linter.unusedVariables false
attribute [local go_sem] Oper.semAt_some
def quStep (E:Eng) (x:Int):Eng:=if gone16 E x then E.end_ x else E
theorem quitL_fold:∀(l:List Int) (E:Eng),E.quitL l=l.foldl quStep E
 | [],E=>rfl
 | x::r,E=>quitL_fold r _
theorem fold_keeps:∀(l:List Int) (E:Eng) {t:Tk},t∈E.ts→(∀y∈l,y≠t.id)→t∈(l.foldl quStep E).ts
 | [],E,t,h,_=>h
 | x::r,E,t,h,hn=>by
  refine fold_keeps r _ ?_ (λy hy=>hn y (List.mem_cons_of_mem _ hy))
  unfold quStep
  split
  ·refine List.mem_filter.2 ⟨h,?_⟩
   have:=hn x List.mem_cons_self
   simp only[Bool.not_eq_true',beq_eq_false_iff_ne]
   exact λe=>this e.symm
  ·exact h
def busyT (E:Eng) (r:Int) (t:Tk):Bool:=t.kind==2&&t.out&&(ofL E.g t.id).any (λw=>decide (w.r=r))
theorem quitC_busy {E:Eng} {r:Int} {t:Tk} (ht:t∈E.ts) (h:busyT E r t=true):E.quitC r=5:=by
 unfold Eng.quitC
 rw[if_pos]
 exact List.any_eq_true.2 ⟨t,ht,h⟩
theorem quitC_free {E:Eng} {r:Int} (h:∀t∈E.ts,busyT E r t=false):E.quitC r=0:=by
 unfold Eng.quitC
 rw[if_neg]
 intro q
 obtain⟨t,ht,e⟩:=List.any_eq_true.1 q
 have:=h t ht
 unfold busyT at this
 rw[this] at e
 cases e
def lfC (q:Tk × Int × Bool):List Value:=[.int .i64 q.1.id,.int .i64 q.1.kind,.int .i64 q.1.b,.int .i64 q.1.l,.int .i64 q.1.tries,.int .i64 q.2.1,.bool q.1.out,.bool q.1.fr,.bool q.1.cut,.bool q.2.2]
theorem lfC10 (q:Tk × Int × Bool):(lfC q).length=10:=rfl
theorem lfC_one:∀y,∀u∈lfC y,u.oneCell'=true:=by
 intro y u hu
 simp only[lfC,List.mem_cons,List.not_mem_nil,or_false] at hu
 rcases hu with rfl | rfl | rfl | rfl | rfl | rfl | rfl | rfl | rfl | rfl<;>rfl
theorem info_lf10:(prog.info? 101).map (λi=>(i.zero,i.size,i.bytes))=some (some (.agg #[.int .i64 0,.int .i64 0,.int .i64 0,.int .i64 0,.int .i64 0,.int .i64 0,.bool false,.bool false,.bool false,.bool false]),10,64):=by kernel_rfl
abbrev OwnsLf (w:World) (base:Nat) (v:Value) (xs:List (Tk × Int × Bool)):Prop:=Owns w base 101 10 lfC v xs
theorem owns_formQ {α:Type} {w:World} {base:Nat} {e:TypeId} {k:Nat} {c:α→List Value} {v:Value} {xs:List α} (h:Owns w base e k c v xs):∃a cap,v=.slice a xs.length cap:=by
 rcases h.2 with ⟨h0,h2⟩|⟨g,cap,cur,hv,_⟩
 ·exact⟨none,0,by rw[h0,h2]⟩
 ·exact⟨_,_,hv⟩
structure QuR (w5 wr:World) (p:Nat) (c5:Nat→Nat) (X:Loc) (F H:Nat) (ks:List Tk) (E5:Eng) (b1:Value) (is:List Int) (k:Nat) (E':Eng) (c':Nat→Nat) (v':Value) (qs:List (Tk × Int × Bool)):Prop where
 le:k≤is.length
 fin:(is.take k).foldl quStep E5=E'
 ep:EP wr p c' X (F+k) H ks E'
 gw:Gw w5 c5 c'
 own:OwnsLf wr w5.heap.size v' qs
 qn:qs.length=k
 cv:∀g,v'.ownBlock=some g→c' g=0
 row:OwI wr 0 b1 is
 rc:∀g,b1.ownBlock=some g→c' g=0∧g<w5.heap.size
 only:Only (λg=>c5 g≠0) w5 wr
theorem fold_more (is:List Int) (E:Eng) (k:Nat) {x:Int} (h:is[k]? = some x):(is.take (k+1)).foldl quStep E=quStep ((is.take k).foldl quStep E) x:=by
 rw[List.take_add_one,h,List.foldl_append]
 rfl
theorem tenQ {w:World} {g:Nat} {t:Tk} {n:Int} {b:Bool} (h:Row w g 101 (lfC (t,n,b)).toArray):w.cell? ⟨g,0,none⟩=some (.int .i64 t.id)∧w.cell? ⟨g,1,none⟩=some (.int .i64 t.kind)∧w.cell? ⟨g,2,none⟩=some (.int .i64 t.b)∧w.cell? ⟨g,3,none⟩=some (.int .i64 t.l)∧w.cell? ⟨g,4,none⟩=some (.int .i64 t.tries)∧w.cell? ⟨g,5,none⟩=some (.int .i64 n)∧w.cell? ⟨g,6,none⟩=some (.bool t.out)∧w.cell? ⟨g,7,none⟩=some (.bool t.fr)∧w.cell? ⟨g,8,none⟩=some (.bool t.cut)∧w.cell? ⟨g,9,none⟩=some (.bool b):=
 ⟨h.cell 0,h.cell 1,h.cell 2,h.cell 3,h.cell 4,h.cell 5,h.cell 6,h.cell 7,h.cell 8,h.cell 9⟩
theorem QuR.more {w5 wr W2 w7:World} {p:Nat} {c5 c' c2:Nat→Nat} {X:Loc} {F H:Nat} {ks:List Tk} {E5 E':Eng} {b1 v' v7:Value} {is:List Int} {k:Nat} {qs:List (Tk × Int × Bool)} {q:Tk × Int × Bool}
  (h:QuR w5 wr p c5 X F H ks E5 b1 is k E' c' v' qs) (hlt:k<is.length) {E2:Eng} (fin:(is.take (k+1)).foldl quStep E5=E2)
  (ep:EP W2 p c2 X (F+(k+1)) H ks E2) (gw:Gw w5 c5 c2) (cv2:∀g,v'.ownBlock=some g→c2 g=0) (row:OwI W2 0 b1 is) (rc:∀g,b1.ownBlock=some g→c2 g=0∧g<w5.heap.size)
  (only:Only (λg=>c5 g≠0) w5 W2) (own:OwnsLf w7 w5.heap.size v7 (qs++[q])) (og:Only (λj=>some j=v'.ownBlock) W2 w7) (hv:v7.ownBlock=v'.ownBlock∨v7.ownBlock=some W2.heap.size) :
  QuR w5 w7 p c5 X F H ks E5 b1 is (k+1) E2 c2 v7 (qs++[q]):=by
 have nb:∀g,c2 g≠0→¬ some g=v'.ownBlock:=λg hg z=>hg (cv2 g z.symm)
 exact {
  le:=hlt
  fin:=fin
  ep:=ep.keep og nb
  gw:=gw
  own:=own
  qn:=by rw[List.length_append,h.qn];rfl
  cv:=λg hg=>by
   rcases hv with e | e
   ·exact cv2 g (e▸hg)
   ·rw[hg] at e;injection e with e
    exact ep.zero (by rw[e];exact Nat.le_refl _)
  row:=row.keep og (λg hg z=>by have:=(h.own.base_le z.symm).1;have:=(rc g hg).2;omega)
  rc:=rc
  only:=only.trans og (λi hi z=>by have:=(h.own.base_le z.symm).1;omega) }
section
variable {p:Nat} {c:Nat→Nat} {X:Loc} {F H:Nat} {ks:List Tk} {E:Eng}
theorem equit_any (r:Int) (w:World) (h:EP w p c X F H ks E) (iv:Inv E) (hF:F+300<100000000) :
  Calls prog 23 #[pT p,.int .i64 r] w λe w'=>∃a n k,e=.returned (.tuple #[.slice a n k,.int .i64 (E.quitC r)])∧EGto w p c (F+300) H (E.quit r) w':=by
 have c17:w.cell? ⟨p,17,none⟩=some (.map (some X.bt)):=h.cell 17
 have c16:w.cell? ⟨p,16,none⟩=some (.pointer (some ⟨X.pg,0,none⟩)):=h.cell 16
 have H0:=hid h
 have IV:=hid iv
 have HF:=hid hF
 obtain⟨hon,D0,hown,hr0⟩:=h.eo.tm
 have ON:=hid hon
 have OW:=hid hown
 have HR:=hid hr0
 rw[List.length_map] at OW
 clear h iv hF hon hown hr0
 unfold pT
 go_enter func23,ntmps23
 go_wp2_with (first
  | (at_range;refine wpList_range_own _ rfl _ 96 rfl 3 118 lawI underlying96 _ X.bt E.ts.length D0 rfl OW.out ?_;intro w0 hrg0 hg0 hs0)
  | go_in)
 have RG0:=hid hrg0
 have G0:=hid (show Only n_ w w0 from (Only.of_grown hg0).more (λ_ _ e=>by cases e))
 clear hrg0 hg0 hs0
 go_frame
 go_loopw [7] (λ_ wr=>∃(left:Lit→Bool) (cnt:Nat) (xs:List Ent),wr.ranges prog 3 anyE X.bt w.heap.size E.ts.length D0 left cnt∧GotV (E.ts.map (tkEnt X.A)) left xs∧(∀q∈xs,∀t∈E.ts,tkEnt X.A t=q→busyT E r t=false)∧Only n_ w wr)
  (λ_ wr=>wr.rangeLeft X.bt w.heap.size)
 case atStart=>exact⟨_,_,[],RG0.out,GotV.start HR.out,(λq hq=>by cases hq),G0.out⟩
 case round =>
  obtain⟨left,cnt,xs,hrg,hg,hn,ow⟩:=hrel
  have RG:=hid hrg
  have GO:=hid hg
  have NB:=hid hn
  have OO:=hid ow
  clear ow hg hn
  go_wp2_with (first
   | (at_next;refine wpList_next_ranges _ rfl _ rfl 3 lawI anyE (Value.int .i64) (λv:Value=>v) (λkey kl hkey=>by obtain⟨x,rfl,_⟩:=Maps.keyOf_int_inv underlying3 hkey;exact⟨x,rfl⟩) (λv y hv=>⟨v,rfl⟩) X.bt w.heap.size E.ts.length _ _ _ rfl RG.out ?_ ?_)
   | go_in)
  ·intro _ hl0
   have PP:=GO.out.over hl0
   have FR:=hid (show E.quitC r=0 from quitC_free (λt ht=>by
    have m:=(PP t.id).2 (List.mem_map.2 ⟨tkEnt X.A t,List.mem_map.2 ⟨t,ht,rfl⟩,rfl⟩)
    obtain⟨q,hq,e⟩:=List.mem_map.1 m
    exact NB.out q hq t ht (ON.out.inj (List.mem_map.2 ⟨t,ht,rfl⟩) (GO.out.1 q hq) e.symm)))
   clear hl0 PP hrg RG GO NB
   have HW:=hid (H0.out.still OO.out)
   have d16:=OO.out.cell c16 (λs=>s)
   have WQ:=hid (wquit_any r wr HW.out.eo.wg)
   go_wp2_with fail
   (with_reducible refine WQ.out.mono ?_)
   rintro e w5 ⟨v5,rfl,own5,k5⟩
   obtain⟨c5,ep5,gw5,o5,z5⟩:=HW.out.waitersV (Nat.le_refl H) HW.out.hH k5 (λb hb=>HW.out.zero (own5.base_le hb).1)
   obtain⟨ra,rc,e5,rd5⟩:=Reads.of_owns own5
   subst e5
   have QL:=hid (show (quitI E.g r).length≤64 from by
    have h1:=quit_le E.g r
    have h2:=IV.out.good.len
    have h3:=IV.out.may
    unfold Opt.MayC at h3
    omega)
   have SRT:=hid (rise_quit E.g r)
   have MEM:=hid (λx (hx:x∈quitI E.g r)=>show ∃t∈E.ts,t.id=x from by
    obtain⟨y,hy,_,e⟩:=mem_quit16.1 hx
    obtain⟨t,ht,e2,_⟩:=IV.out.g1 y hy
    exact⟨t,ht,e2.trans e⟩)
   have EQT:=hid (show E.quit r=(quitI E.g r).foldl quStep (E.leave r) from by unfold Eng.quit;rw[if_pos FR.out,quitL_fold])
   have RR0:QuR w5 w5 p c5 X F H ks (E.leave r) (.slice ra (quitI E.g r).length rc) (quitI E.g r) 0 (E.leave r) c5 (.slice none 0 0) []:=
    { le:=Nat.zero_le _,fin:=rfl,ep:=ep5,gw:=Gw.refl _ _,own:=Owns.start _ _ _ _ _,qn:=rfl,cv:=(λg hg=>by cases hg),row:=own5.lower11 (Nat.zero_le _),rc:=λg hg=>⟨z5 g hg,(own5.base_le hg).2⟩,only:=Only.refl _ _ }
   have RR:=hid RR0
   have GW5:=hid (gw5.less OO.out.size)
   have O5:=hid (show Only (λg=>c g≠0) w w5 from OO.out.up.same (o5.more (λi _ e=>by rw[e];decide)))
   clear own5 k5 ep5 gw5 o5 z5 rd5 RR0 d16 WQ c16 c17
   generalize quitI E.g r=is at *
   generalize hE5:E.leave r=E5 at *
   obtain⟨i0,hi0,hz0,hz1,hz2⟩:=info_partsR info_lf10
   have I0:=hid hi0
   have I1:=hid hz0
   have I2:=hid hz1
   have I3:=hid hz2
   clear hi0 hz0 hz1 hz2
   go_wp2_with fail
   go_loopw [8,10,48] (λv _ i wk=>∃(k:Nat) (E':Eng) (c':Nat→Nat) (v':Value) (qs:List (Tk × Int × Bool)),v'=v∧i=.int .i64 k∧QuR w5 wk p c5 X F H ks E5 (.slice ra is.length rc) is k E' c' v' qs) (λ_ _ i _=>is.length-(intOf i).toNat)
   case atStart=>exact⟨0,E5,c5,_,[],rfl,rfl,RR.out⟩
   case round =>
    obtain⟨k,E',c',v',qs,rfl,rfl,hR⟩:=hrel
    have R:=hid hR
    clear hR RR
    by_cases hlt:k<is.length
    ·have t1:decide (k<is.length)=true:=decide_eq_true hlt
     obtain⟨x,hx⟩:∃x,is[k]? = some x:=⟨_,List.getElem?_eq_getElem hlt⟩
     obtain⟨t,tm0,tid⟩:=MEM.out x (List.mem_of_getElem? hx)
     have tm:t∈E'.ts:=by
      rw[←R.out.fin]
      refine fold_keeps _ _ (by rw[←hE5];exact tm0) (λy hy=>?_)
      obtain⟨j,hj,e⟩:=List.mem_take_iff_getElem.1 hy
      have lt:=List.pairwise_iff_getElem.1 SRT.out j k (by omega) hlt (by omega)
      rw[List.getElem?_eq_getElem hlt] at hx
      have:=Option.some.inj hx
      omega
     have K2:k<64:=by have:=QL.out;omega
     obtain⟨ra',rc',e1,rd'⟩:=Reads.of_owns R.out.row
     obtain⟨g,ao,e2,ck⟩:=rd' k x hx
     cases e1
     subst e2
     have d17:wr.cell? ⟨p,17,none⟩=some (.map (some X.bt)):=R.out.ep.cell 17
     have wx:(Lit.int .i64 x).wf=true:=by
      have:=R.out.ep.idr t (R.out.ep.sub t tm)
      have:=R.out.ep.ntH
      have:=R.out.ep.hH
      exact wf_i _ (by omega)
     have HAT:at16 E'.ts x=some t:=by rw[←tid];exact at16_mem R.out.ep.once tm
     have LK2:=R.out.ep.eo.tm.look underlying96 (zeroPtr wr) wx
     rw[at16_tk,HAT] at LK2
     have row:=R.out.ep.rowOf tm
     have TD:=etold_any t (X.A t.id) wr R.out.ep row
     have GE:=hid (show quStep E' x=if decide (E'.cnt t.id=0)&&!t.out then E'.end_ t.id else E' from by
      unfold quStep gone16
      rw[HAT,tid]
      rfl)
     have FM:=hid (fold_more is E5 k hx)
     have TK:=hid (R.out.ep.sub t tm)
     have ROW:=hid row
     obtain⟨gt,hgt⟩:∃gt,X.A t.id=gt:=⟨_,rfl⟩
     have HGT:=hid hgt
     unfold optPtr pT at LK2
     unfold pT Tk.told at TD
     simp only[hgt] at LK2 TD
     have TD:=hid TD
     have n0:0≤E'.cnt t.id:=Int.natCast_nonneg _
     obtain⟨n,hn⟩:∃n,E'.cnt t.id=n:=⟨_,rfl⟩
     rw[hn] at TD GE n0
     clear hx tm tm0 tid rd' wx hgt row HAT hn
     go_wp2_with fail
     (with_reducible refine TD.out.mono ?_)
     rintro e w6 ⟨rfl,o6⟩
     have E6:=hid (R.out.ep.still o6)
     have WSZ:=hid o6.size
     have ON6:=hid (R.out.only.idle o6)
     have OW6:=hid (R.out.own.still o6)
     have RW6:=hid (R.out.row.still o6)
     have TR6:=hid (o6.still ROW.out)
     clear o6 TD LK2 d17 ck ROW
     obtain⟨W7,hW7⟩:∃W,W=w6.alloc (.cells #[.int .i64 t.id,.int .i64 t.kind,.int .i64 t.b,.int .i64 t.l,.int .i64 t.tries,.int .i64 n,.bool t.out,.bool t.fr,.bool t.cut,.bool false] 101):=⟨_,rfl⟩
     have oa:Only n_ w6 W7:=by rw[hW7];exact (Only.refl _ _).alloc _
     have RL:=hid (show Row W7 w6.heap.size 101 (lfC (t,n,false)).toArray from by rw[hW7];exact Row.fresh _ _ _)
     have E7:=hid (E6.out.still oa)
     have ZL:=hid (E6.out.zero (Nat.le_refl w6.heap.size))
     have ON7:=hid (ON6.out.idle oa)
     have OW7:=hid (OW6.out.still oa)
     have RW7:=hid (RW6.out.still oa)
     have TR7:=hid (oa.still TR6.out)
     have LZ:=hid (show w5.heap.size≤w6.heap.size from ON6.out.size)
     have GLW:=hid (show wr.heap.size≤w6.heap.size from WSZ.out)
     clear oa E6 ON6 OW6 RW6 TR6
     go_upto_region 12 with fail
     rw[←hW7]
     clear hW7
     generalize w6.heap.size=gl at *
     have q5:W7.cell? ⟨gl,5,none⟩=some (.int .i64 n):=RL.out.cell 5
     have t6:W7.cell? ⟨gt,6,none⟩=some (.bool t.out):=by rw[←HGT.out];exact TR7.out.cell 6
     have STEP:=hid (show (is.take (k+1)).foldl quStep E5=if decide (n=0)&&!t.out then E'.end_ t.id else E' from by rw[FM.out,R.out.fin,GE.out])
     by_cases nz:n=0
     ·subst nz
      cases ho:t.out with
      | false =>
       rw[ho] at t6
       have SF:=hid (show (is.take (k+1)).foldl quStep E5=E'.end_ t.id from by rw[STEP.out,ho];rfl)
       clear ho
       have EN:=eend_any t W7 E7.out TK.out (by have:=HF.out;omega)
       unfold pT at EN
       rw[HGT.out] at EN
       have EN:=hid EN
       go_wp2_with fail
       (with_reducible refine EN.out.mono ?_)
       rintro e w8 ⟨rfl,⟨c8,e8,g8⟩,o8⟩
       have rl8:=o8.row RL.out (λz=>z.1 ZL.out)
       have cz:w8.cell? ⟨gl,9,none⟩=some (.bool false):=rl8.cell 9
       have zf:=rl8.frozen 9
       have lg8:=hid (show c8 gl=0 from g8.zero ZL.out RL.out.lt)
       obtain⟨W9,hW9⟩:∃W9,W9=w8.setCell ⟨gl,9,none⟩ (.bool true):=⟨_,rfl⟩
       have o9:Only (λg=>g=gl) w8 W9:=by rw[hW9];exact (Only.refl (λg=>g=gl) w8).into rfl 9 _
       have RLX:=hid (show Row W9 gl 101 (lfC (t,0,true)).toArray from by rw[hW9];exact rl8.put 9 (.bool true))
       have EPX:=hid (show EP W9 p c8 X (F+(k+1)) H ks (E'.end_ t.id) from e8.keep o9 (λg hg z=>hg (by have:g=gl:=z;rw[this];exact lg8.out)))
       have GWX:=hid (Gw.next ON7.out R.out.gw g8)
       have CVX:=hid (λg hg=>g8.zero (R.out.cv g hg) (OW7.out.base_le hg).2)
       have ows:=OW7.out.keep o8 (λg hg z=>z.1 (R.out.cv g hg))
       have OWQ:=hid (ows.keep o9 (λg hg z=>by have e:g=gl:=z;have:=(R.out.own.base_le hg).2;have:=GLW.out;omega))
       have rws:=RW7.out.keep o8 (λg hg z=>z.1 (R.out.rc g hg).1)
       have RWQ:=hid (rws.keep o9 (λg hg z=>by have e:g=gl:=z;have:=(R.out.rc g hg).2;have:=LZ.out;omega))
       have RCX:=hid (λg hg=>(⟨g8.zero (R.out.rc g hg).1 (RW7.out.base_le hg).2,(R.out.rc g hg).2⟩:c8 g=0∧g<w5.heap.size))
       have on8:=Gw.only ON7.out R.out.gw o8 (λg z=>z.1)
       have ONQ:=hid (on8.trans o9 (λi hi z=>by have e:i=gl:=z;have:=LZ.out;omega))
       clear rl8 o8 e8 g8 o9 ows rws on8
       go_upto_region 15 with fail
       rw[←hW9]
       clear hW9 cz zf
       obtain⟨q0,q1,q2,q3,q4,q5,q6,q7,q8,q9⟩:=tenQ RLX.out
       obtain⟨W10,hW10⟩:∃W,W=W9.alloc (.cells #[.int .i64 t.id,.int .i64 t.kind,.int .i64 t.b,.int .i64 t.l,.int .i64 t.tries,.int .i64 0,.bool t.out,.bool t.fr,.bool t.cut,.bool true] 101):=⟨_,rfl⟩
       have oa:Only n_ W9 W10:=by rw[hW10];exact (Only.refl _ _).alloc _
       have ES:W10.heap.size=W9.heap.size+1:=by rw[hW10];simp
       have RF:=hid (show Row W10 W9.heap.size 101 (lfC (t,0,true)).toArray from by rw[hW10];exact Row.fresh _ _ _)
       have EX:=hid (EPX.out.still oa)
       have OWX:=hid (OWQ.out.still oa)
       have RWX:=hid (RWQ.out.still oa)
       have ONX:=hid (ONQ.out.idle oa)
       have sz:w5.heap.size≤W10.heap.size:=ONX.out.size
       have l1:qs.length<9223372036854775807:=by have:=R.out.qn;omega
       have l2:(qs.length+1)*64≤140737488355328:=by have:=R.out.qn;omega
       clear oa
       go_wp2_with (at_builtin;go_loud (first | rw[←hW10] | skip);(refine wpList_append_one16 rfl (.tmp 78) (.tmp 80) 66 rfl i0 _ 64 underlying66 I0.out I1.out I2.out I3.out rfl (by decide) lfC10 lfC_one rfl OWX.out rfl RF.out l1 l2 sz ?_))
       intro v7 w7 own7 o7 hblk
       rw[←hW10] at o7
       rw[←ES] at hblk
       have NX:=hid (R.out.more hlt SF.out EX.out GWX.out CVX.out RWX.out RCX.out ONX.out own7 o7 hblk)
       clear own7 o7 hblk hW10 ES q0 q1 q2 q3 q4 q5 q6 q7 q8 q9
       go_wp2_with fail
       go_roundw
       case rel=>exact⟨k+1,(E'.end_ t.id),c8,_,_,rfl,by go_num,NX.out⟩
       case measure=>simp[intOf];omega
      | true =>
       rw[ho] at t6
       have SF:=hid (show (is.take (k+1)).foldl quStep E5=E' from by rw[STEP.out,ho];rfl)
       clear ho
       have RLX:=RL
       have EPX:=hid (show EP W7 p c' X (F+(k+1)) H ks E' from E7.out.up (by omega) (Nat.le_refl _) (by have:=HF.out;omega) E7.out.hH)
       have GWX:=hid R.out.gw
       have CVX:=hid R.out.cv
       have OWQ:=OW7
       have RWQ:=RW7
       have RCX:=hid R.out.rc
       have ONQ:=ON7
       obtain⟨q0,q1,q2,q3,q4,q5,q6,q7,q8,q9⟩:=tenQ RLX.out
       obtain⟨W10,hW10⟩:∃W,W=W7.alloc (.cells #[.int .i64 t.id,.int .i64 t.kind,.int .i64 t.b,.int .i64 t.l,.int .i64 t.tries,.int .i64 0,.bool t.out,.bool t.fr,.bool t.cut,.bool false] 101):=⟨_,rfl⟩
       have oa:Only n_ W7 W10:=by rw[hW10];exact (Only.refl _ _).alloc _
       have ES:W10.heap.size=W7.heap.size+1:=by rw[hW10];simp
       have RF:=hid (show Row W10 W7.heap.size 101 (lfC (t,0,false)).toArray from by rw[hW10];exact Row.fresh _ _ _)
       have EX:=hid (EPX.out.still oa)
       have OWX:=hid (OWQ.out.still oa)
       have RWX:=hid (RWQ.out.still oa)
       have ONX:=hid (ONQ.out.idle oa)
       have sz:w5.heap.size≤W10.heap.size:=ONX.out.size
       have l1:qs.length<9223372036854775807:=by have:=R.out.qn;omega
       have l2:(qs.length+1)*64≤140737488355328:=by have:=R.out.qn;omega
       clear oa
       go_wp2_with (at_builtin;go_loud (first | rw[←hW10] | skip);(refine wpList_append_one16 rfl (.tmp 78) (.tmp 80) 66 rfl i0 _ 64 underlying66 I0.out I1.out I2.out I3.out rfl (by decide) lfC10 lfC_one rfl OWX.out rfl RF.out l1 l2 sz ?_))
       intro v7 w7 own7 o7 hblk
       rw[←hW10] at o7
       rw[←ES] at hblk
       have NX:=hid (R.out.more hlt SF.out EX.out GWX.out CVX.out RWX.out RCX.out ONX.out own7 o7 hblk)
       clear own7 o7 hblk hW10 ES q0 q1 q2 q3 q4 q5 q6 q7 q8 q9
       go_wp2_with fail
       go_roundw
       case rel=>exact⟨k+1,E',c',_,_,rfl,by go_num,NX.out⟩
       case measure=>simp[intOf];omega
     ·have SF:=hid (show (is.take (k+1)).foldl quStep E5=E' from by rw[STEP.out,decide_eq_false nz];rfl)
      have nb:(n==0)=false:=by simpa using nz
      have RLX:=RL
      have EPX:=hid (show EP W7 p c' X (F+(k+1)) H ks E' from E7.out.up (by omega) (Nat.le_refl _) (by have:=HF.out;omega) E7.out.hH)
      have GWX:=hid R.out.gw
      have CVX:=hid R.out.cv
      have OWQ:=OW7
      have RWQ:=RW7
      have RCX:=hid R.out.rc
      have ONQ:=ON7
      obtain⟨q0,q1,q2,q3,q4,q5,q6,q7,q8,q9⟩:=tenQ RLX.out
      obtain⟨W10,hW10⟩:∃W,W=W7.alloc (.cells #[.int .i64 t.id,.int .i64 t.kind,.int .i64 t.b,.int .i64 t.l,.int .i64 t.tries,.int .i64 n,.bool t.out,.bool t.fr,.bool t.cut,.bool false] 101):=⟨_,rfl⟩
      have oa:Only n_ W7 W10:=by rw[hW10];exact (Only.refl _ _).alloc _
      have ES:W10.heap.size=W7.heap.size+1:=by rw[hW10];simp
      have RF:=hid (show Row W10 W7.heap.size 101 (lfC (t,n,false)).toArray from by rw[hW10];exact Row.fresh _ _ _)
      have EX:=hid (EPX.out.still oa)
      have OWX:=hid (OWQ.out.still oa)
      have RWX:=hid (RWQ.out.still oa)
      have ONX:=hid (ONQ.out.idle oa)
      have sz:w5.heap.size≤W10.heap.size:=ONX.out.size
      have l1:qs.length<9223372036854775807:=by have:=R.out.qn;omega
      have l2:(qs.length+1)*64≤140737488355328:=by have:=R.out.qn;omega
      clear oa
      go_wp2_with (at_builtin;go_loud (first | rw[←hW10] | skip);(refine wpList_append_one16 rfl (.tmp 78) (.tmp 80) 66 rfl i0 _ 64 underlying66 I0.out I1.out I2.out I3.out rfl (by decide) lfC10 lfC_one rfl OWX.out rfl RF.out l1 l2 sz ?_))
      intro v7 w7 own7 o7 hblk
      rw[←hW10] at o7
      rw[←ES] at hblk
      have NX:=hid (R.out.more hlt SF.out EX.out GWX.out CVX.out RWX.out RCX.out ONX.out own7 o7 hblk)
      clear own7 o7 hblk hW10 ES q0 q1 q2 q3 q4 q5 q6 q7 q8 q9
      go_wp2_with fail
      go_roundw
      case rel=>exact⟨k+1,E',c',_,_,rfl,by go_num,NX.out⟩
      case measure=>simp[intOf];omega
    ·have t1:decide (k<is.length)=false:=decide_eq_false hlt
     have ek:k=is.length:=by have:=R.out.le;omega
     subst ek
     have fin:=R.out.fin
     rw[List.take_length] at fin
     obtain⟨oa,ok,e8⟩:=owns_formQ R.out.own
     subst e8
     go_wp2_with fail
     exact bodyPost_ret (v:=.tuple #[.slice oa qs.length ok,.int .i64 0]) (by simp[results,Tryz.results23,go_sem]) rfl ⟨oa,qs.length,ok,by rw[FR.out],EGto.of (by rw[EQT.out,fin];exact R.out.ep) (GW5.out.trans R.out.gw O5.out.size) (Gw.only O5.out GW5.out R.out.only (λg z=>z)) (by have:=QL.out;omega) (Nat.le_refl _) HF.out HW.out.hH⟩
  ·intro x v kl y zs w1 cnt1 hkey hlx hv hat hrg1 hlt hg1 hs1 hen
   obtain⟨x',ex,rfl,hwx⟩:=Maps.keyOf_int_inv underlying3 hkey
   cases ex
   have mem:=entry_ofV HR.out (λzd=>by have e:=hat zd;have:=anyE_inv hv;injection this with e1 e2;rw[e,e1])
   obtain⟨t,ht,et⟩:=List.mem_map.1 mem
   have e1:t.id=x:=congrArg Prod.fst et
   have e2:pT (X.A t.id)=v:=congrArg Prod.snd et
   subst e1 e2
   have G1:=hid (Only.of_grown hg1)
   have O3:=hid (OO.out.trans G1.out (λi hi z=>by have:=Option.some.inj z;omega))
   have GS:=hid (GO.out.step (e:=tkEnt X.A t) (List.mem_map.2 ⟨t,ht,rfl⟩) hlx)
   have RG1:=hid hrg1
   have RT:=((H0.out.still O3.out).eo.tk t ((H0.out.sub t ht))).1
   have EW:=hid (λw' (o:Only n_ w1 w')=>ewaited_any t (X.A t.id) r w' ((H0.out.still O3.out).still o) (o.still RT))
   have MT:=hid ht
   have RNG:=hid (λ(w':World) (o:Only n_ w1 w')=>ranges_keepV (show w1.ranges prog 3 anyE X.bt w.heap.size E.ts.length D0 (strikeV left t.id) cnt1 from hrg1) o (λs=>s) (λs=>s))
   have NX:=hid (λ(bf:busyT E r t=false)=>show ∀q∈xs++[tkEnt X.A t],∀s∈E.ts,tkEnt X.A s=q→busyT E r s=false from λq hq s hs e=>by
    rcases List.mem_append.1 hq with k | k
    ·exact NB.out q k s hs e
    ·have:s=t:=ids_inj IV.out.ids hs MT.out (congrArg Prod.fst (e.trans (List.mem_singleton.1 k)))
     rw[this];exact bf)
   obtain⟨gt,hgt⟩:∃gt,X.A t.id=gt:=⟨_,rfl⟩
   rw[hgt] at RT
   have EW:=EW.out
   unfold pT at EW hen ⊢
   rw[hgt] at EW hen ⊢
   have EW:=hid EW
   have q1:w1.cell? ⟨gt,1,none⟩=some (.int .i64 t.kind):=RT.cell 1
   have q6:w1.cell? ⟨gt,6,none⟩=some (.bool t.out):=RT.cell 6
   clear hkey hlx hv hat hrg1 hg1 hs1 mem ht et RT hgt hrg hwx
   by_cases hk:t.kind=2
   ·have tk:(t.kind==2)=true:=by simp[hk]
    cases ho:t.out with
    | false =>
     rw[ho] at q6
     have BF:=hid (show busyT E r t=false from by unfold busyT;rw[ho];simp)
     clear hk ho
     go_wp2_with fail
     go_roundw
     case rel=>exact⟨strikeV left t.id,cnt1,xs++[tkEnt X.A t],RNG.out w1 (Only.refl _ _),GS.out,NX.out BF.out,O3.out.same (Only.refl _ _)⟩
     case measure=>rw[World.ranges.left_eq (RNG.out w1 (Only.refl _ _)),RG.out.left_eq];exact hlt
    | true =>
     rw[ho] at q6
     have BB:=hid (show busyT E r t=(ofL E.g t.id).any (λx=>decide (x.r=r)) from by unfold busyT;rw[ho,tk];rfl)
     clear hk ho
     obtain⟨bz,hb⟩:∃bz,(ofL E.g t.id).any (λx=>decide (x.r=r))=bz:=⟨_,rfl⟩
     rw[hb] at EW BB
     clear hb
     go_wp2_with fail
     (with_reducible refine (EW.out w1 (Only.refl _ _)).mono ?_)
     rintro e w2 ⟨rfl,o2⟩
     have O2:=hid o2
     clear o2 EW
     cases bz with
     | false =>
      have BF:=hid BB.out
      go_wp2_with fail
      go_roundw
      case rel=>exact⟨strikeV left t.id,cnt1,xs++[tkEnt X.A t],RNG.out w2 O2.out,GS.out,NX.out BF.out,O3.out.same O2.out⟩
      case measure=>rw[World.ranges.left_eq (RNG.out w2 O2.out),RG.out.left_eq];exact hlt
     | true =>
      have QC:=hid (quitC_busy MT.out BB.out)
      have EQ:=hid (show E.quit r=E from by unfold Eng.quit;rw[if_neg (by rw[QC.out];decide)])
      go_wp2_with fail
      exact bodyPost_ret (v:=.tuple #[.slice none 0 0,.int .i64 5]) (by simp[results,Tryz.results23,go_sem]) rfl ⟨none,0,0,by rw[QC.out],by rw[EQ.out];exact EGto.of ((H0.out.still O3.out).still O2.out) (Gw.refl _ _) ((O3.out.same O2.out).up) (by omega) (Nat.le_refl _) HF.out H0.out.hH⟩
   ·have tk:(t.kind==2)=false:=by simpa using hk
    have BF:=hid (show busyT E r t=false from by unfold busyT;rw[tk];rfl)
    clear hk
    go_wp2_with fail
    go_roundw
    case rel=>exact⟨strikeV left t.id,cnt1,xs++[tkEnt X.A t],RNG.out w1 (Only.refl _ _),GS.out,NX.out BF.out,O3.out.same (Only.refl _ _)⟩
    case measure=>rw[World.ranges.left_eq (RNG.out w1 (Only.refl _ _)),RG.out.left_eq];exact hlt
end
section
variable {w w':World} {p:Nat} {c:Nat→Nat} {X:Loc} {F H:Nat} {o:Opt} {nt ng:Nat} {ss:List Sd} {qs:List Sl} {g:List Sx} {te:List Ent} {ks:List Tk} {me:List Ent} {ms:List Mv} {E:Eng}
theorem EO.newm (h:EO w p c X F H o nt ng ss qs g te ks me ms) {m:Mv} {v:Value × Value × Value} {base:Nat} (hv:MvW w base v m) (hb:∀g,base≤g→c g=0) (hk:∀s∈ms,s.tag≠m.tag) :
    ∃c',EO w p c' { X with B:=setI X.B m.tag v } F H o nt ng ss qs g te ks me (ms++[m])∧∀g,c' g≠0→c g≠0∨base≤g:=by
  classical
  have mb:∀g,(v.1.ownBlock=some g∨v.2.1.ownBlock=some g∨v.2.2.ownBlock=some g)→base≤g∧g<w.heap.size:=λg hg=>by
    rcases hg with q | q | q
    · exact hv.ks.base_le q
    · exact hv.vs.base_le q
    · exact hv.fs.base_le q
  have c0:∀g,(v.1.ownBlock=some g∨v.2.1.ownBlock=some g∨v.2.2.ownBlock=some g)→c g=0:=λg hg=>hb g (mb g hg).1
  have rc:∀j,j≠8→j≠0→∀g,(if v.1.ownBlock=some g∨v.2.1.ownBlock=some g∨v.2.2.ownBlock=some g then 8 else c g)=j↔c g=j:=λj hj j0 g=>by
    by_cases q:v.1.ownBlock=some g∨v.2.1.ownBlock=some g∨v.2.2.ownBlock=some g
    · rw[if_pos q,c0 g q];exact⟨λe=>absurd e.symm hj,λe=>absurd e.symm j0⟩
    · rw[if_neg q]
  have r8:∀g,c g=8→(if v.1.ownBlock=some g∨v.2.1.ownBlock=some g∨v.2.2.ownBlock=some g then 8 else c g)=8:=λg hg=>by
    split
    · rfl
    · exact hg
  have bo:∀s∈ms,setI X.B m.tag v s.tag=X.B s.tag:=λs hs=>if_neg (hk s hs)
  have bn:setI X.B m.tag v m.tag=v:=if_pos rfl
  refine⟨λg=>if v.1.ownBlock=some g∨v.2.1.ownBlock=some g∨v.2.2.ownBlock=some g then 8 else c g,
    { row:=h.row,cp:=(rc 1 (by decide) (by decide) p).2 h.cp,ln:=?_,tn:=h.tn,ct:=⟨(rc 3 (by decide) (by decide) _).2 h.ct.1,(rc 3 (by decide) (by decide) _).2 h.ct.2⟩,wg:=?_,tm:=h.tm,cb:=(rc 5 (by decide) (by decide) _).2 h.cb,
      tk:=λt ht=>⟨(h.tk t ht).1,(rc 6 (by decide) (by decide) _).2 (h.tk t ht).2⟩,inj:=h.inj,mm:=h.mm,cm:=(rc 7 (by decide) (by decide) _).2 h.cm,mv:=λs hs=>?_,ma:=λs hs u hu e=>?_,lt:=λg hg=>?_ },λg hg=>?_⟩
  · have e:(λg=>(if v.1.ownBlock=some g∨v.2.1.ownBlock=some g∨v.2.2.ownBlock=some g then 8 else c g)=2)=λg=>c g=2:=by funext g;exact propext (rc 2 (by decide) (by decide) g)
    rw[e];exact h.ln
  · have e:(λg=>(if v.1.ownBlock=some g∨v.2.1.ownBlock=some g∨v.2.2.ownBlock=some g then 8 else c g)=4)=λg=>c g=4:=by funext g;exact propext (rc 4 (by decide) (by decide) g)
    rw[e];exact h.wg
  · rcases List.mem_append.1 hs with hs | hs
    · show MvAt _ _ (setI X.B m.tag v s.tag) s
      rw[bo s hs]
      exact (h.mv s hs).colour (λg _ q=>r8 g q)
    · rw[List.mem_singleton.1 hs]
      show MvAt _ _ (setI X.B m.tag v m.tag) m
      rw[bn]
      exact⟨hv.ks.lower11 (Nat.zero_le _),hv.vs.lower11 (Nat.zero_le _),hv.fs.lower11 (Nat.zero_le _),λg q=>if_pos (.inl q),λg q=>if_pos (.inr (.inl q)),λg q=>if_pos (.inr (.inr q))⟩
  · intro g
    show (setI X.B m.tag v s.tag).1.ownBlock=some g→(setI X.B m.tag v u.tag).1.ownBlock≠some g∧(setI X.B m.tag v u.tag).2.1.ownBlock≠some g∧(setI X.B m.tag v u.tag).2.2.ownBlock≠some g
    rcases List.mem_append.1 hs with hs | hs<;>rcases List.mem_append.1 hu with hu | hu
    · rw[bo s hs,bo u hu];exact h.ma s hs u hu e g
    · rw[bo s hs,List.mem_singleton.1 hu,bn]
      intro q
      have c8:=(h.mv s hs).ck g q
      have n:¬ (v.1.ownBlock=some g∨v.2.1.ownBlock=some g∨v.2.2.ownBlock=some g):=λz=>by rw[c0 g z] at c8;cases c8
      exact⟨λz=>n (.inl z),λz=>n (.inr (.inl z)),λz=>n (.inr (.inr z))⟩
    · rw[bo u hu,List.mem_singleton.1 hs,bn]
      intro q
      have z:=c0 g (.inl q)
      exact⟨λk=>(by have:=(h.mv u hu).ck g k;rw[z] at this;cases this),λk=>(by have:=(h.mv u hu).cv g k;rw[z] at this;cases this),λk=>(by have:=(h.mv u hu).cf g k;rw[z] at this;cases this)⟩
    · rw[List.mem_singleton.1 hs,List.mem_singleton.1 hu] at e;exact absurd rfl e
  · by_cases q:v.1.ownBlock=some g∨v.2.1.ownBlock=some g∨v.2.2.ownBlock=some g
    · exact (mb g q).2
    · rw[if_neg q] at hg;exact h.lt g hg
  · dsimp only at hg
    by_cases q:v.1.ownBlock=some g∨v.2.1.ownBlock=some g∨v.2.2.ownBlock=some g
    · exact .inr (mb g q).1
    · rw[if_neg q] at hg;exact .inl hg
theorem MvW.other {base:Nat} {v:Value × Value × Value} {m:Mv} (h:MvW w base v m) {b:Nat} (o:Only (λk=>k=b) w w') (hb:b<base):MvW w' base v m:=h.keep o (λg hg _ e=>by have:g=b:=e;omega)
theorem EP.newm (h:EP w p c X F H ks E) {m:Mv} {v:Value × Value × Value} {base:Nat} (hv:MvW w base v m) (hb:∀g,base≤g→c g=0) (hk:∀s∈E.ms,s.tag≠m.tag) (ht:1≤m.tag∧m.tag≤E.ng) (hf:E.ms.length<16)
    (hm:Mg w' X.bm (E.ms.map (mvEnt X.B)++[(m.tag,m.val v)])) (on:Only (λk=>k=X.bm) w w') :
    ∃c' X',EP w' p c' X' F H ks { E with ms:=E.ms++[m] }∧∀g,c' g≠0→c g≠0∨base≤g:=by
  have nb:X.bm<base:=by
    rcases Nat.lt_or_ge X.bm base with q | q
    · exact q
    · have:=hb _ q;rw[h.eo.cm] at this;cases this
  obtain⟨c',h1,h2⟩:=(h.eo.mmap hm on).newm (hv.other on nb) hb hk
  have e:E.ms.map (mvEnt X.B)++[(m.tag,m.val v)]=(E.ms++[m]).map (mvEnt (setI X.B m.tag v)):=by
    rw[List.map_append]
    congr 1
    · apply List.map_congr_left
      intro s hs
      show (s.tag,s.val (X.B s.tag))=(s.tag,s.val (setI X.B m.tag v s.tag))
      rw[show setI X.B m.tag v s.tag=X.B s.tag from if_neg (hk s hs)]
    · show [(m.tag,m.val v)]=[(m.tag,m.val (setI X.B m.tag v m.tag))]
      rw[show setI X.B m.tag v m.tag=v from if_pos rfl]
  rw[e] at h1
  refine⟨c',_,{ eo:=h1,sub:=h.sub,may:=h.may,idr:=h.idr,tag:=λs hs=>?_,few:=h.few,mfew:=?_,ntH:=h.ntH,ngH:=h.ngH,hF:=h.hF,hH:=h.hH },h2⟩
  · rcases List.mem_append.1 hs with q | q
    · exact h.tag s q
    · rw[List.mem_singleton.1 q];exact ht
  · show (E.ms++[m]).length≤16
    rw[List.length_append,List.length_singleton];omega
theorem EP.tagged (h:EP w p c X F H ks E) (r:Row w' p 99 (engCells X E.o E.nt (E.ng+1))) (on:Only (λk=>k=p) w w') (hH:H+1<1000000):EP w' p c X F (H+1) ks { E with ng:=E.ng+1 }:=
  { eo:=(h.eo.own r on).up (Nat.le_refl _) (Nat.le_succ H),sub:=h.sub,may:=h.may,idr:=h.idr,tag:=λs hs=>by
      have:=h.tag s hs
      show 1≤s.tag∧s.tag≤((E.ng+1:Nat):Int)
      omega
    few:=h.few,mfew:=h.mfew,ntH:=Nat.le_succ_of_le h.ntH,ngH:=Nat.succ_le_succ h.ngH,hF:=h.hF,hH:=hH }
end
def MvB (v:Value × Value × Value) (g:Nat):Prop:=v.1.ownBlock=some g∨v.2.1.ownBlock=some g∨v.2.2.ownBlock=some g
theorem MvW.blocks {w:World} {base:Nat} {v:Value × Value × Value} {m:Mv} (h:MvW w base v m) {g:Nat} (hg:MvB v g):base≤g∧g<w.heap.size:=by
  rcases hg with q | q | q
  · exact h.ks.base_le q
  · exact h.vs.base_le q
  · exact h.fs.base_le q
theorem MvW.keepB {w w':World} {base:Nat} {v:Value × Value × Value} {m:Mv} (h:MvW w base v m) {S:Nat→Prop} (o:Only S w w') (hn:∀g,MvB v g→¬ S g):MvW w' base v m:=⟨h.ks.keep o (λg hg=>hn g (.inl hg)),h.vs.keep o (λg hg=>hn g (.inr (.inl hg))),h.fs.keep o (λg hg=>hn g (.inr (.inr hg)))⟩
def EGtoP (w:World) (p:Nat) (c:Nat→Nat) (F H:Nat) (E:Eng) (P:Nat→Prop) (w':World):Prop:=(∃c' X ks,EP w' p c' X F H ks E∧Gw w c c'∧∀g,P g→c' g=0)∧Only (λg=>c g≠0) w w'
theorem EGtoP.fin {w W1 wn w':World} {p:Nat} {c c':Nat→Nat} {X:Loc} {F H F' H':Nat} {ks:List Tk} {E:Eng} {P:Nat→Prop} (h:EP wn p c' X F H ks E) (o1:Only n_ w W1) (g:Gw W1 c c') (o:Only (λg=>c g≠0) W1 wn) {s:Nat} (hs:w.heap.size≤s) (hz:c' s=0) (on:Only (λg=>g=s) wn w') (k:F≤F') (k2:H≤H') (b:F'<100000000) (b2:H'<1000000) (hv:∀g,P g→c' g=0):EGtoP w p c F' H' E P w':=by
  refine⟨⟨c',X,ks,(h.keep on (λi hi e=>hi (by rw[e];exact hz))).up k k2 b b2,g.less o1.size,hv⟩,?_⟩
  refine (o1.then_ o).trans on (λi hi e=>?_)
  have:i=s:=e
  omega
end Go.Proofs.YtfbpjobobdidiaaGreatDoor
