/- The walk through FetchApart's own text. -/
import Derived.Below
import Derived.Test.YtfbpjobobdidiaaGreatDoorQFetchApartR
namespace Go.Proofs.YtfbpjobobdidiaaGreatDoor.fetchApart
open Lib (hid)
open Go.ChangeShapes Go.WideShapes Go.ChangeAt Go.RowKit
set_option linter.unusedVariables false
theorem lex18:Region.lexB .any (opsAt Tryz.f3 18).toArray=true:=by kernel_rfl
theorem lex23:Region.lexB .any (opsAt Tryz.f3 23).toArray=true:=by kernel_rfl
set_option maxHeartbeats 4000000 in
set_option maxRecDepth 100000 in
theorem walk (w:World) (hb:Bd w) (a0:Opt) (wa0:True) (ad1:Option Addr) (len1 cap1:Nat) (xs1:List ActF) (max1:len1≤maxLen) (el1:xs1.length=len1) (hold1:Holds w ad1 7 ActF.cells xs1) (wf1:∀x∈xs1,x.Wf) :
  Calls Tryz.prog 3 #[a0.val,.slice ad1 len1 cap1] w λe w'=>e=.returned (.bool true)∧Below w.heap.size w w':=by
 have HB:=hid hb
 have HX:=hid hold1
 have WX:=hid wf1
 have EL:=hid el1
 have ML:=hid (show len1≤9223372036854775807 from Nat.le_trans max1 (by decide))
 unfold Opt.val
 obtain⟨W1,hW1⟩:∃W,W=w.alloc (.cells #[.int .i64 a0.b0,.int .i64 a0.b1,.int .i64 a0.b2,.int .i64 a0.b3,.int .i64 a0.b4,.int .i64 a0.b5,.int .i64 a0.b6,.int .i64 a0.b7,.int .i64 a0.b8,.int .i64 a0.b9,.int .i64 a0.b10,.int .i64 a0.b11,.int .i64 a0.b12,.int .i64 a0.b13] 23):=⟨_,rfl⟩
 have o1:Only none_ w W1:=by rw[hW1];exact (Only.refl _ _).alloc _
 have RO:=hid (show Row W1 w.heap.size 23 a0.cells from by rw[hW1];exact Row.fresh _ _ _)
 have O1:=hid o1
 have RL:=hid RO.out.lt
 clear o1 hb hold1 wf1 max1 el1 wa0
 go_enter Tryz.func3,Tryz.ntmps3
 go_upto_region 1 with fail
 rw[←hW1]
 clear hW1
 obtain⟨ob,hob⟩:∃n,w.heap.size=n:=⟨_,rfl⟩
 have OB:=hid hob
 rw[hob] at RO RL ⊢
 clear hob
 go_wp2_with fail
 (with_reducible refine (awake16_any W1 (HB.out.still O1.out)).mono ?_)
 rintro e w2 ⟨rfl,o2⟩
 have O2:=hid (O1.out.same o2)
 have RO2:=hid (o2.still RO.out)
 have RL2:=hid (Nat.lt_of_lt_of_le RL.out o2.size)
 clear o2 RO O1 RL
 obtain⟨xo0,xo1,xo2,xo3,xo4,xo5,xo6,xo7,xo8,xo9,xo10,xo11,xo12,xo13⟩:=fourteen RO2.out
 have SM:=small16_any a0 w2
 unfold Opt.val at SM
 replace SM:=hid SM
 go_wp2_with fail
 (with_reducible refine SM.out.mono ?_)
 rintro e w3 ⟨rfl,o3⟩
 have O3:=hid (O2.out.same o3)
 have RO3:=hid (o3.still RO2.out)
 have RL3:=hid (Nat.lt_of_lt_of_le RL2.out o3.size)
 clear o3 RO2 O2 RL2 SM xo0 xo1 xo2 xo3 xo4 xo5 xo6 xo7 xo8 xo9 xo10 xo11 xo12 xo13
 by_cases hm:a0.MayC
 case neg =>
  have hmb:a0.mayB=false:=decide_eq_false hm
  go_wp2_with fail
  go_ret
  exact⟨rfl,O3.out.to_below17⟩
 have hmb:a0.mayB=true:=decide_eq_true hm
 have HM:=hid hm
 have NW:=lnew (w0:=w) a0 (HB.out.still O3.out) hm O3.out
 unfold ptrTo Opt.val at NW
 replace NW:=hid NW
 obtain⟨xo0,xo1,xo2,xo3,xo4,xo5,xo6,xo7,xo8,xo9,xo10,xo11,xo12,xo13⟩:=fourteen RO3.out
 clear hm
 go_wp2_with fail
 (with_reducible refine NW.out.mono ?_)
 rintro e w4 ⟨p,rfl,⟨c0,h4,z4⟩,o4⟩
 have L4:=hid (show LO w w4 p c0 (1000*0) (2*0) (E0 a0) ob a0 from ⟨h4,rfl,o4.still RO3.out,Classical.byContradiction λq=>by have:=z4 ob q;have:=RL3.out;omega⟩)
 clear h4 z4 o4 NW RO3 O3 RL3 hmb xo0 xo1 xo2 xo3 xo4 xo5 xo6 xo7 xo8 xo9 xo10 xo11 xo12 xo13
 go_wp2_with fail
 go_loopw [7,8,9,10,11,12,13,14,15,16,17] (λi _ _ _ _ _ _ _ _ _ _ wr=>∃(k:Nat) (c:Nat→Nat) (E:Eng),i=.int .i64 k∧k≤len1∧k≤120∧LO w wr p c (1000*k) (2*k) E ob a0) (λi _ _ _ _ _ _ _ _ _ _ _=>120-(intOf i).toNat)
 case atStart=>exact⟨0,c0,_,rfl,Nat.zero_le _,Nat.zero_le _,L4.out⟩
 case round =>
  obtain⟨k,c,E,rfl,hk,hk2,hl⟩:=hrel
  have L:=hid hl
  clear hl L4
  have ml:=ML.out
  by_cases hlt:k<len1∧k<120
  ·obtain⟨hlt,hlt2⟩:=hlt
   have t1:decide (k<len1)=true:=decide_eq_true hlt
   have t2:decide (k<120)=true:=decide_eq_true hlt2
   have t3:decide ((k:Int)<120)=true:=decide_eq_true (by omega)
   obtain⟨a,ha⟩:∃a,xs1[k]? = some a:=⟨_,List.getElem?_eq_getElem (by rw[EL.out];exact hlt)⟩
   obtain⟨sb,so,rfl,hsb,AC⟩:=act_more16 HX.out ha
   have AC:=hid AC
   have WA:=hid (WX.out a (List.mem_of_getElem? ha))
   have fF:1000*k+1000<100000000:=by omega
   have fH:2*k+2<1000000:=by omega
   go_upto_region 11 with fail
   refine wp_of_postN (apart11 L.out HM.out WA.out AC hlt ml fF fH _ (by kernel_rfl) _ _ _ _ _ _ _ _ _ _ _ _ _ _ _ _ _ _ _ _ _ _ _ _ _ _ _ _ _ _ _ _ _ _ _ _ _ _ _ _ _ _ _ _ _ _ _ _ _ _ _ _ _ _ _ _ _ _ _ _ _ _ _ _ _ _ _ _ _ _ _ _ _ _ _ _ _ _ _ _ _ _ _ _ _ _ _ _ _ _ _ _ _ _ _ _ _ _ _ _ _ _ _ _ _ _ _ _ _ _ _ _ _ _ _ _ _ _ _ _ _ _ _ _ _ _ _ _ _ _ _ _ _ _ _ _ _ _ _ _ _ _ _ _ _ _ _ _ _ _ _ _ _ _ _ _ _ _ _ _ _ _ _ _ _ _ _ _ _ _ _ _ _ _ _ _ _ _ _ _ _ _ _ _ _ _ _ _ _ _ _ _ _ _ _ _ _ _ _ _ _ _ _ _ _ _ _ _ _ _ _ _ _ _ _ _ _ _ _ _ _ _ _ _ _ _ _ _ _ _ _ _ _ _ _ _ _ _ _ _ _ _ _ _) ?_
   rintro a' w6 ⟨r40,r41,r42,r43,r44,r45,r46,r47,rfl,c6,h6⟩
   simp only[Exit.then]
   clear fF fH
   have L6:=hid h6
   clear h6 L AC WA t1 t2 t3
   obtain⟨E6,hE⟩:∃E',E.act a=E':=⟨_,rfl⟩
   rw[hE] at L6
   clear hE
   have IV:=hid L6.out.le.inv
   have OU:=lout L6.out.le
   unfold ptrTo at OU
   replace OU:=hid OU
   go_wp2_with fail
   (with_reducible refine OU.out.mono ?_)
   rintro e w7 ⟨v7,qs,rfl,e7,m7,o7⟩
   obtain⟨va,vk,rfl⟩:=owns_form m7.own
   have QS:=hid e7
   have M7:=hid m7
   have L7:=hid (L6.out.still o7)
   have ln:((qs.length:Nat):Int)≤a0.b5:=by rw[←L7.out.opt,show qs.length=E6.ms.length from by rw[←QS.out,List.length_map]];exact IV.out.mlen
   have t4:decide (a0.b5<((qs.length:Nat):Int))=false:=decide_eq_false (by omega)
   have b5:a0.b5≤16:=by have:=HM.out;unfold Opt.MayC at this;omega
   have QL:=hid (show qs.length≤16 from by omega)
   clear m7 e7 o7 OU L6 ln b5
   obtain⟨xo0,xo1,xo2,xo3,xo4,xo5,xo6,xo7,xo8,xo9,xo10,xo11,xo12,xo13⟩:=fourteen L7.out.row
   generalize hqn:qs.length=qn at *
   have QN:=hid hqn
   clear hqn
   go_wp2_with fail
   clear xo0 xo1 xo2 xo3 xo4 xo5 xo6 xo7 xo8 xo9 xo10 xo11 xo12 xo13 t4
   go_loopw [9,10] (λi _ wr=>∃(j:Nat),i=.int .i64 j∧j≤qn∧Only none_ w7 wr) (λi _ _=>qn-(intOf i).toNat)
   case atStart=>exact⟨0,rfl,Nat.zero_le _,Only.refl _ _⟩
   case round =>
    obtain⟨j,rfl,hj,oj⟩:=hrel
    have OJ:=hid oj
    clear oj
    have ql:=QL.out
    by_cases hlj:j<qn
    ·have t5:decide (j<qn)=true:=decide_eq_true hlj
     obtain⟨q,hq⟩:∃q,qs[j]? = some q:=⟨_,List.getElem?_eq_getElem (by rw[QN.out];exact hlj)⟩
     obtain⟨vb,a1,k1,a2,k2,a3,k3,rfl,_,MC⟩:=ms_at M7.out hq
     have MC:=hid MC
     have HQ:=hid hq
     have hmm:q.1∈E6.ms:=by rw[←QS.out];exact List.mem_map.2 ⟨q,List.mem_of_getElem? hq,rfl⟩
     have HMM:=hid hmm
     have MK:=hid (λ(i:After wr)=>Calls.after i (rmay_mv IV.out HMM.out i.val))
     have mo:=IV.out.mok q.1 hmm
     have oe:=L7.out.opt
     obtain⟨⟨tag,bw,lo,n,ks,vs,fs⟩,qv⟩:=q
     dsimp only at mo MC MK HMM hmm
     rw[oe] at mo
     obtain⟨mo1,mo2,mo3,mo4,mo5,mo6,_⟩:=mo
     have d1:decide (a0.b6<n)=false:=decide_eq_false (by omega)
     have d2:((ks.length:Int) != n)=false:=by simp;omega
     have d3:decide ((0:Int)<(vs.length:Int))=bw:=by cases bw<;>simp at mo6 ⊢<;>omega
     have d4:decide (0<vs.length)=bw:=by cases bw<;>simp at mo6 ⊢<;>omega
     have d5:(bw != bw)=false:=by simp
     have m1:∀i:After wr,i.val.cell? ⟨vb,j*7+1,none⟩=some (.bool bw):=λi=>(MC.out _ (OJ.out.same i.only)).2.1
     have m2:∀i:After wr,i.val.cell? ⟨vb,j*7+2,none⟩=some (.int .i64 lo):=λi=>(MC.out _ (OJ.out.same i.only)).2.2.1
     have m3:∀i:After wr,i.val.cell? ⟨vb,j*7+3,none⟩=some (.int .i64 n):=λi=>(MC.out _ (OJ.out.same i.only)).2.2.2.1
     have m3':∀i:After wr,i.val.cell? ⟨vb,j*7+2+1,none⟩=some (.int .i64 n):=m3
     have m4:∀i:After wr,i.val.cell? ⟨vb,j*7+4,none⟩=some (.slice a1 ks.length k1):=λi=>(MC.out _ (OJ.out.same i.only)).2.2.2.2.1
     have m5:∀i:After wr,i.val.cell? ⟨vb,j*7+5,none⟩=some (.slice a2 vs.length k2):=λi=>(MC.out _ (OJ.out.same i.only)).2.2.2.2.2.1
     have x6:∀i:After wr,i.val.cell? ⟨ob,6,none⟩=some (.int .i64 a0.b6):=λi=>((OJ.out.same i.only).still L7.out.row).cell 6
     generalize ks.length=nk at *
     generalize vs.length=nv at *
     clear mo1 mo2 mo3 mo4 mo5 mo6 oe hq hmm
     go_upto_region 18 with fail
     refine wp_region_after (w0:=wr) (by kernel_rfl) (lex_from lex18 (by kernel_rfl)) (Only.refl _ _) ?_
     repeat (go_big_quiet_step (first | (with_reducible exact MK.out _)))
     refine wpQuiet_nil ?_
     intro w8 hw'
     obtain⟨ii,e1⟩:=hw'
     have o8:=ii.only
     rw[←e1] at o8
     clear e1 ii
     have O8:=hid (OJ.out.same o8)
     clear o8 m1 m2 m3 m3' m4 m5 x6 d1 d2 d3 d4 d5 MK OJ
     go_wp2_with fail
     go_loopw [10] (λi wr2=>∃(m:Nat),i=.int .i64 m∧m≤j∧Only none_ w7 wr2) (λi _=>j-(intOf i).toNat)
     case atStart=>exact⟨0,rfl,Nat.zero_le _,O8.out⟩
     case round =>
      obtain⟨m,rfl,hm,om⟩:=hrel
      have OM:=hid om
      clear om
      by_cases hlm:m<j
      ·have t6:decide (m<j)=true:=decide_eq_true hlm
       obtain⟨q',hq'⟩:∃q,qs[m]? = some q:=⟨_,List.getElem?_eq_getElem (by rw[QN.out];omega)⟩
       obtain⟨vb',b1,l1,b2,l2,b3,l3,e',_,MC'⟩:=ms_at M7.out hq'
       simp only[Option.some.injEq,Addr.mk.injEq,and_true] at e'
       subst e'
       have hm':q'.1∈E6.ms:=by rw[←QS.out];exact List.mem_map.2 ⟨q',List.mem_of_getElem? hq',rfl⟩
       have tn:=IV.out.tagsNe (i:=m) (j:=j) (m:=q'.1) (n:=⟨tag,bw,lo,n,ks,vs,fs⟩) (by rw[←QS.out,List.getElem?_map,hq'];rfl) (by rw[←QS.out,List.getElem?_map,HQ.out];rfl) hlm
       have HM':=hid hm'
       have MC':=hid MC'
       have TN:=hid tn
       have MT:=hid (λ(i:After wr)=>Calls.after i (rmeet_mv IV.out HM'.out HMM.out TN.out i.val))
       have m2:∀i:After wr,i.val.cell? ⟨vb,j*7+2,none⟩=some (.int .i64 lo):=λi=>(MC.out _ (OM.out.same i.only)).2.2.1
       have m3:∀i:After wr,i.val.cell? ⟨vb,j*7+3,none⟩=some (.int .i64 n):=λi=>(MC.out _ (OM.out.same i.only)).2.2.2.1
       have m3':∀i:After wr,i.val.cell? ⟨vb,j*7+2+1,none⟩=some (.int .i64 n):=m3
       have n2:∀i:After wr,i.val.cell? ⟨vb,m*7+2,none⟩=some (.int .i64 q'.1.lo):=λi=>(MC'.out _ (OM.out.same i.only)).2.2.1
       have n3:∀i:After wr,i.val.cell? ⟨vb,m*7+3,none⟩=some (.int .i64 q'.1.n):=λi=>(MC'.out _ (OM.out.same i.only)).2.2.2.1
       have n3':∀i:After wr,i.val.cell? ⟨vb,m*7+2+1,none⟩=some (.int .i64 q'.1.n):=n3
       have hmq:m<qn:=by omega
       have nr:=λw=>neq_run0 w
       have w1:IntKind.i64.wrap ((m:Int)+1)=(m:Int)+1:=by rw[IntKind.wrap_i64];omega
       clear hq' hm' tn
       go_upto_region 23 with fail
       refine wp_region_after (w0:=wr) (by kernel_rfl) (lex_from lex23 (by kernel_rfl)) (Only.refl _ _) ?_
       repeat (go_big_quiet_step (first | (with_reducible exact MT.out _)))
       refine wpQuiet_nil ?_
       intro w9 hw'
       obtain⟨ii,e1⟩:=hw'
       have o9:=ii.only
       rw[←e1] at o9
       clear e1 ii
       have O9:=hid (OM.out.same o9)
       clear o9 m2 m3 m3' n2 n3 n3' nr MT OM MC'
       go_wp2_with fail
       go_roundw
       case rel=>exact⟨m+1,by go_num,by omega,O9.out⟩
       case measure=>simp[intOf];omega
      ·have t6:decide (m<j)=false:=decide_eq_false hlm
       have w1:IntKind.i64.wrap ((j:Int)+1)=(j:Int)+1:=by rw[IntKind.wrap_i64];omega
       go_wp2_with fail
       go_roundw
       case rel=>exact⟨j+1,by go_num,by omega,OM.out⟩
       case measure=>simp[intOf];omega
    ·have t5:decide (j<qn)=false:=decide_eq_false hlj
     have FR:=lfree (L7.out.le.still OJ.out)
     unfold ptrTo at FR
     have pl:=IV.out.places
     have tl:=IV.out.tsLe
     rw[L7.out.opt] at pl
     obtain⟨fd,hfd⟩:∃x,E6.fd=x:=⟨_,rfl⟩
     obtain⟨fa,hfa⟩:∃x,E6.fa=x:=⟨_,rfl⟩
     obtain⟨fw,hfw⟩:∃x,E6.fw=x:=⟨_,rfl⟩
     rw[hfd,hfa,hfw] at FR
     rw[hfd,hfa,hfw] at pl
     have FR:=hid FR
     have PL:=hid pl
     clear hfd hfa hfw pl
     go_wp2_with fail
     (with_reducible refine FR.out.mono ?_)
     rintro e w8 ⟨rfl,o8⟩
     have L8:=hid (L7.out.still (OJ.out.same o8))
     have O8:=hid (OJ.out.same o8)
     have TI:=ltickets L8.out.le
     unfold ptrTo at TI
     replace TI:=hid TI
     clear o8 FR OJ
     go_wp2_with fail
     (with_reducible refine TI.out.mono ?_)
     rintro e w9 ⟨v9,rfl,t9,o9⟩
     obtain⟨vt,vtk,rfl⟩:=owns_formQ t9
     have T9:=hid t9
     have L9:=hid (L8.out.still o9)
     have O9:=hid (O8.out.same o9)
     have tn:E6.tells.length=E6.ts.length:=by unfold Eng.tells;rw[List.length_map]
     rw[tn]
     obtain⟨nt,hnt⟩:∃n,E6.ts.length=n:=⟨_,rfl⟩
     have NT:=hid hnt
     rw[hnt] at tl PL ⊢
     have TL:=hid tl
     clear t9 o9 TI tn hnt tl L8 O8
     go_wp2_with fail
     go_loopw [15,16] (λx i wr=>∃(m:Nat) (z:Int),x=.int .i64 z∧z=(outsN E6 m:Int)∧i=.int .i64 m∧m≤nt∧Only none_ w9 wr) (λ_ i _=>nt-(intOf i).toNat)
     case atStart=>exact⟨0,0,rfl,rfl,rfl,Nat.zero_le _,Only.refl _ _⟩
     case round =>
      obtain⟨m,z,rfl,hz,rfl,hm,om⟩:=hrel
      have OM:=hid om
      have HZ:=hid hz
      clear om hz
      have tl:=TL.out
      by_cases hlm:m<nt
      ·have t7:decide (m<nt)=true:=decide_eq_true hlm
       obtain⟨t,ht⟩:∃t,E6.ts[m]? = some t:=⟨_,List.getElem?_eq_getElem (by rw[NT.out];exact hlm)⟩
       have hq:E6.tells[m]? = some (t,E6.cnt t.id):=by unfold Eng.tells;rw[List.getElem?_map,ht];rfl
       obtain⟨g,rfl,TC⟩:=tks_at T9.out hq
       have TC:=hid TC
       have tk:=IV.out.tkOk (List.mem_of_getElem? ht)
       rw[L9.out.opt] at tk
       obtain⟨k1,k2,k3,k4⟩:=tk
       have d1:decide (t.tries<0)=false:=decide_eq_false (by omega)
       have d2:decide (a0.b7≤t.tries)=false:=decide_eq_false (by omega)
       have d3:decide (E6.cnt t.id<0)=false:=decide_eq_false (by omega)
       have n0:∀i:After wr,i.val.cell? ⟨g,m*9,none⟩=some (.int .i64 t.id):=λi=>(TC.out _ (OM.out.same i.only)).1
       have n1:∀i:After wr,i.val.cell? ⟨g,m*9+1,none⟩=some (.int .i64 t.kind):=λi=>(TC.out _ (OM.out.same i.only)).2.1
       have n4:∀i:After wr,i.val.cell? ⟨g,m*9+4,none⟩=some (.int .i64 t.tries):=λi=>(TC.out _ (OM.out.same i.only)).2.2.2.2.1
       have n5:∀i:After wr,i.val.cell? ⟨g,m*9+5,none⟩=some (.int .i64 (E6.cnt t.id)):=λi=>(TC.out _ (OM.out.same i.only)).2.2.2.2.2.1
       have x7:∀i:After wr,i.val.cell? ⟨ob,7,none⟩=some (.int .i64 a0.b7):=λi=>((OM.out.same i.only).still L9.out.row).cell 7
       have hv1:IntKind.i64.wrap ((m:Int)+1)=(m:Int)+1:=by rw[IntKind.wrap_i64];omega
       have ST:=hid (outs_step ht)
       have OL:=hid (outs_le E6 m)
       have KK:((t.kind==2)=true∧(E6.cnt t.id==0)=false)∨(t.kind==2)=false:=by
        by_cases q:t.kind=2
        ·exact .inl ⟨by simp[q],by have:=k4 q;simpa using this⟩
        ·exact .inr (by simpa using q)
       have MM:(decide (0<m)=false∧decide ((0:Int)<(m:Int))=false)∨∃(n:Nat) (sid:Int),decide (0<m)=true∧decide ((0:Int)<(m:Int))=true∧(IntKind.i64.wrap ((m:Int)-1)=(n:Int)∧wrap64 ((m:Int)-1)=(n:Int))∧n<nt∧decide (t.id≤sid)=false∧∀i:After wr,i.val.cell? ⟨g,n*9,none⟩=some (.int .i64 sid):=by
        by_cases q:m=0
        ·exact .inl ⟨decide_eq_false (by omega),decide_eq_false (by omega)⟩
        ·obtain⟨n,rfl⟩:∃n,m=n+1:=⟨m-1,by omega⟩
         obtain⟨s,hs⟩:∃s,E6.ts[n]? = some s:=⟨_,List.getElem?_eq_getElem (by rw[NT.out];omega)⟩
         have hqs:E6.tells[n]? = some (s,E6.cnt s.id):=by unfold Eng.tells;rw[List.getElem?_map,hs];rfl
         obtain⟨g',e',TC'⟩:=tks_at T9.out hqs
         simp only[Option.some.injEq,Addr.mk.injEq,and_true] at e'
         subst e'
         have lt:=IV.out.idsLt hs ht
         exact .inr ⟨n,s.id,decide_eq_true (by omega),decide_eq_true (by omega),⟨by rw[IntKind.wrap_i64];omega,by unfold wrap64;omega⟩,by omega,decide_eq_false (by omega),λi=>(TC' _ (OM.out.same i.only)).1⟩
       clear k1 k2 k3 k4 ht hq
       go_upto_region 31 with fail
       refine wp_of_postN (apart31 hlm tl d1 d2 d3 n0 n1 n4 n5 x7 KK MM _ (by kernel_rfl) _ _ _ _ _ _ _ _ _ _ _ _ _ _ _ _ _ _ _ _ _ _ _ _ _ _ _ _ _ _ _ _ _ _ _ _ _ _ _ _ _ _ _ _ _ _ _ _ _ _ _ _ _ _ _ _ _ _ _ _ _ _ _ _ _ _ _ _ _ _ _ _ _ _ _ _ _ _ _ _ _ _ _ _ _ _ _ _ _ _ _ _ _ _ _ _ _ _ _ _ _ _ _ _ _ _ _ _ _ _ _ _ _ _ _ _ _ _ _ _ _ _ _ _ _ _ _ _ _ _ _ _ _ _ _ _ _ _ _ _ _ _ _ _ _ _ _ _ _ _ _ _ _ _ _ _ _ _ _ _ _ _ _ _ _ _ _ _ _ _ _ _ _ _ _ _ _ _ _ _ _ _ _ _ _ _ _ _ _ _ _ _ _ _ _ _ _ _ _ _ _ _ _ _ _ _ _ _ _ _ _ _ _ _ _ _ _ _ _ _ _ _ _ _ _ _ _ _ _ _ _ _ _ _ _ _ _ _ _ _ _ _ _ _ _) ?_
       rintro a' w10 ⟨r141,r142,r143,r144,r145,r146,r147,r148,r149,r150,r151,r152,r153,r154,r155,r156,r157,r158,r159,r160,r161,r162,r163,r164,r165,r166,r167,r168,r169,r170,r171,r172,r173,r174,r175,r176,r177,r178,r179,r180,r181,r182,r183,r184,r185,r186,r187,r188,r189,r190,r191,r192,r193,r194,r195,r196,r197,rfl,o10⟩
       simp only[Exit.then]
       have O10:=hid (OM.out.same o10)
       have n6:w10.cell? ⟨g,m*9+6,none⟩=some (.bool t.out):=(TC.out _ O10.out).2.2.2.2.2.2.1
       obtain⟨tb,htb⟩:∃tb,t.out=tb:=⟨_,rfl⟩
       rw[htb] at n6
       have TB:=hid htb
       clear o10 OM htb d1 d2 d3 n0 n1 n4 n5 x7 KK MM
       go_upto_region 33 with fail
       cases tb with
       | true =>
        have hv2:IntKind.i64.wrap (z+1)=z+1:=by have:=HZ.out;have:=OL.out;rw[NT.out] at this;rw[IntKind.wrap_i64];omega
        go_wp2_with fail
        go_roundw
        case rel=>exact⟨m+1,z+1,rfl,by rw[ST.out,TB.out,HZ.out];simp,by go_num,by omega,O10.out⟩
        case measure=>simp[intOf];omega
       | false =>
        go_wp2_with fail
        go_roundw
        case rel=>exact⟨m+1,z,rfl,by rw[ST.out,TB.out,HZ.out];simp,by go_num,by omega,O10.out⟩
        case measure=>simp[intOf];omega
      ·have t7:decide (m<nt)=false:=decide_eq_false hlm
       have hz0:z=(outsN E6 nt:Int)-runsN E6 0:=by rw[HZ.out,show m=nt by omega];unfold runsN;simp
       have HZ0:=hid hz0
       have ONT:=hid (show outsN E6 nt≤128 from by have:=outs_le E6 nt;rw[NT.out] at this;omega)
       clear hz0 HZ
       go_wp2_with fail
       go_loopw [15,17] (λx i wr=>∃(m:Nat) (z:Int),x=.int .i64 z∧z=(outsN E6 nt:Int)-runsN E6 m∧i=.int .i64 m∧m≤qn∧Only none_ w9 wr) (λ_ i _=>qn-(intOf i).toNat)
       case atStart=>exact⟨0,z,rfl,HZ0.out,rfl,Nat.zero_le _,OM.out⟩
       case round =>
        obtain⟨m5,z5,rfl,hz,rfl,hm5,om⟩:=hrel
        have OM5:=hid om
        have HZ:=hid hz
        have ql:=QL.out
        clear om hz OM HZ0
        by_cases hl5:m5<qn
        ·have t8:decide (m5<qn)=true:=decide_eq_true hl5
         obtain⟨q,hq⟩:∃q,qs[m5]? = some q:=⟨_,List.getElem?_eq_getElem (by rw[QN.out];exact hl5)⟩
         obtain⟨vb,a1,k1,a2,k2,a3,k3,rfl,_,MC⟩:=ms_at M7.out hq
         have hms:E6.ms[m5]? = some q.1:=by rw[←QS.out,List.getElem?_map,hq];rfl
         have RS:=hid (runs_step hms)
         have rb:=runs_bd IV.out m5
         have rb2:=runs_bd IV.out (m5+1)
         rw[RS.out] at rb2
         have on:=ONT.out
         have hv3:IntKind.i64.wrap (z5-q.1.n)=z5-q.1.n:=by have:=HZ.out;rw[IntKind.wrap_i64];omega
         have hv4:IntKind.i64.wrap ((m5:Int)+1)=(m5:Int)+1:=by rw[IntKind.wrap_i64];omega
         have m3:wr.cell? ⟨vb,m5*7+3,none⟩=some (.int .i64 q.1.n):=(MC _ (O9.out.same OM5.out)).2.2.2.1
         have m3':wr.cell? ⟨vb,m5*7+2+1,none⟩=some (.int .i64 q.1.n):=m3
         clear MC rb rb2 hms
         go_wp2_with fail
         go_roundw
         case rel=>exact⟨m5+1,_,rfl,by rw[RS.out,HZ.out];omega,by go_num,by omega,OM5.out⟩
         case measure=>simp[intOf];omega
        ·have t8:decide (m5<qn)=false:=decide_eq_false hl5
         have z0:z5=0:=by
          have:=outs_all IV.out
          rw[NT.out,show E6.ms.length=qn from by rw[←QN.out,←QS.out,List.length_map]] at this
          rw[HZ.out,show m5=qn by omega,this]
          omega
         subst z0
         have pl:=PL.out
         have hm:=HM.out
         unfold Opt.MayC at hm
         have L10:=hid (L9.out.still OM5.out)
         have x3:=(fourteen L10.out.row).2.2.2.1
         have x4:=(fourteen L10.out.row).2.2.2.2.1
         have e1:decide (fd<0)=false:=decide_eq_false (by omega)
         have e2:decide (fa<0)=false:=decide_eq_false (by omega)
         have e3:decide (fw<0)=false:=decide_eq_false (by omega)
         have hv5:IntKind.i64.wrap (a0.b3-fd)=a0.b3-fd:=by rw[IntKind.wrap_i64];omega
         have hv6:IntKind.i64.wrap (a0.b3-fd+a0.b4)=a0.b3-fd+a0.b4:=by rw[IntKind.wrap_i64];omega
         have hv7:IntKind.i64.wrap (a0.b3-fd+a0.b4-fa)=a0.b3-fd+a0.b4-fa:=by rw[IntKind.wrap_i64];omega
         have e4:((nt:Int) != a0.b3-fd+a0.b4-fa)=false:=by simp;omega
         have hv8:IntKind.i64.wrap ((k:Int)+1)=(k:Int)+1:=by rw[IntKind.wrap_i64];omega
         clear pl hm
         go_wp2_with fail
         go_roundw
         case rel=>exact⟨k+1,c6,E6,by go_num,by omega,by omega,by rw[show 1000*(k+1)=1000*k+1000 by omega,show 2*(k+1)=2*k+2 by omega];exact L10.out⟩
         case measure=>simp[intOf];omega
  ·rcases (show len1≤k∨(k<len1∧120≤k) by omega) with q|⟨q,q2⟩
   ·have t1:decide (k<len1)=false:=decide_eq_false (by omega)
    go_wp2_with fail
    go_ret
    exact⟨rfl,L.out.below⟩
   ·have t1:decide (k<len1)=true:=decide_eq_true q
    have t2:decide (k<120)=false:=decide_eq_false (by omega)
    have t3:decide ((k:Int)<120)=false:=decide_eq_false (by omega)
    go_wp2_with fail
    go_ret
    exact⟨rfl,L.out.below⟩
end Go.Proofs.YtfbpjobobdidiaaGreatDoor.fetchApart
