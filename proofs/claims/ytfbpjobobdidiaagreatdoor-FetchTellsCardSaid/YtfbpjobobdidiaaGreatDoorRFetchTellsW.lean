/- The walk through FetchTells's own text. -/
import Derived.Below
import Derived.Test.YtfbpjobobdidiaaGreatDoorRFetchTellsS
namespace Go.Proofs.YtfbpjobobdidiaaGreatDoor.fetchTells
open Lib (hid)
open Go.Proofs.Tryz
open Go.ChangeShapes Go.WideShapes Go.ChangeAt Go.RowKit
set_option linter.unusedVariables false
set_option maxHeartbeats 4000000 in
set_option maxRecDepth 100000 in
theorem walk (w:World) (hb:Bd w) (a0:Opt) (wa0:True) (ad1:Option Addr) (len1 cap1:Nat) (xs1:List ActF) (max1:len1≤maxLen) (el1:xs1.length=len1) (hold1:Holds w ad1 7 ActF.cells xs1) (wf1:∀x∈xs1,x.Wf) :
  Calls prog 5 #[a0.val,.slice ad1 len1 cap1] w λe w'=>e=.returned (.bool true)∧Below w.heap.size w w':=by
 have HB:=hid hb
 have HX:=hid hold1
 have WX:=hid wf1
 have EL:=hid el1
 have ML:=hid (show len1≤9223372036854775807 from Nat.le_trans max1 (by decide))
 unfold Opt.val
 obtain⟨W1,hW1⟩:∃W,W=w.alloc (.cells #[.int .i64 a0.b0,.int .i64 a0.b1,.int .i64 a0.b2,.int .i64 a0.b3,.int .i64 a0.b4,.int .i64 a0.b5,.int .i64 a0.b6,.int .i64 a0.b7,.int .i64 a0.b8,.int .i64 a0.b9,.int .i64 a0.b10,.int .i64 a0.b11,.int .i64 a0.b12,.int .i64 a0.b13] 23):=⟨_,rfl⟩
 have o1:Only n_ w W1:=by rw[hW1];exact (Only.refl _ _).alloc _
 have RO:=hid (show Row W1 w.heap.size 23 a0.cells from by rw[hW1];exact Row.fresh _ _ _)
 have O1:=hid o1
 have RL:=hid RO.out.lt
 clear o1 hb hold1 wf1 max1 el1 wa0
 go_enter func5,ntmps5
 go_upto_region 1 with fail
 rw[←hW1]
 clear hW1
 obtain⟨ob,hob⟩:∃n,w.heap.size=n:=⟨_,rfl⟩
 have OB:=hid hob
 rw[hob] at RO RL ⊢
 clear hob
 go_wp2_with fail
 (with_reducible refine (awake16_any W1 (HB.out.still O1.out)).mono ?_)
 rintro e w2 ⟨rfl,o2⟩
 have O2:=hid (O1.out.same o2)
 have RO2:=hid (o2.still RO.out)
 have RL2:=hid (Nat.lt_of_lt_of_le RL.out o2.size)
 clear o2 RO O1 RL
 obtain⟨xo0,xo1,xo2,xo3,xo4,xo5,xo6,xo7,xo8,xo9,xo10,xo11,xo12,xo13⟩:=fourteen RO2.out
 have SM:=small16_any a0 w2
 unfold Opt.val at SM
 replace SM:=hid SM
 go_wp2_with fail
 (with_reducible refine SM.out.mono ?_)
 rintro e w3 ⟨rfl,o3⟩
 have O3:=hid (O2.out.same o3)
 have RO3:=hid (o3.still RO2.out)
 have RL3:=hid (Nat.lt_of_lt_of_le RL2.out o3.size)
 clear o3 RO2 O2 RL2 SM xo0 xo1 xo2 xo3 xo4 xo5 xo6 xo7 xo8 xo9 xo10 xo11 xo12 xo13
 by_cases hm:a0.MayC
 case neg =>
  have hmb:a0.mayB=false:=decide_eq_false hm
  go_wp2_with fail
  go_ret
  exact⟨rfl,O3.out.to_below17⟩
 have hmb:a0.mayB=true:=decide_eq_true hm
 have HM:=hid hm
 have NW:=lnew (w0:=w) a0 (HB.out.still O3.out) hm O3.out
 unfold pT Opt.val at NW
 replace NW:=hid NW
 obtain⟨xo0,xo1,xo2,xo3,xo4,xo5,xo6,xo7,xo8,xo9,xo10,xo11,xo12,xo13⟩:=fourteen RO3.out
 clear hm
 go_wp2_with fail
 (with_reducible refine NW.out.mono ?_)
 rintro e w4 ⟨p,rfl,⟨c0,h4,z4⟩,o4⟩
 have L4:=hid (show LO w w4 p c0 (1000*0) (2*0) (E0 a0) ob a0 from ⟨h4,rfl,o4.still RO3.out,Classical.byContradiction λq=>by have:=z4 ob q;have:=RL3.out;omega⟩)
 clear h4 z4 o4 NW RO3 O3 RL3 hmb xo0 xo1 xo2 xo3 xo4 xo5 xo6 xo7 xo8 xo9 xo10 xo11 xo12 xo13
 go_wp2_with fail
 go_loopw [7,8,9,10,11,12,13,14,15,16,17,18,19,20,21,22,23,24,25,26,27,28,29,30,31,32,33,34,35,36] (λvb i _ _ _ _ _ _ _ _ _ _ _ _ _ _ _ _ _ _ _ _ _ _ _ _ _ _ _ _ wr=>∃(k:Nat) (c:Nat→Nat) (E:Eng) (v:Value),v=vb∧i=.int .i64 k∧k≤len1∧k≤120∧LO w wr p c (1000*k) (2*k) E ob a0∧OwnsWt wr w.heap.size v E.book∧(∀g,v.ownBlock=some g→c g=0)) (λ_ i _ _ _ _ _ _ _ _ _ _ _ _ _ _ _ _ _ _ _ _ _ _ _ _ _ _ _ _ _=>120-(intOf i).toNat)
 case atStart=>exact⟨0,c0,_,_,rfl,rfl,Nat.zero_le _,Nat.zero_le _,L4.out,Owns.start _ _ _ _ _,λg hg=>(by cases hg)⟩
 case round =>
  obtain⟨k,c,E,vb,rfl,rfl,hk,hk2,hl,hbk,hbz⟩:=hrel
  have L:=hid hl
  have BK:=hid hbk
  have BZ:=hid hbz
  clear hl hbk hbz L4
  have ml:=ML.out
  by_cases hlt:k<len1∧k<120
  ·obtain⟨hlt,hlt2⟩:=hlt
   have t1:decide (k<len1)=true:=decide_eq_true hlt
   have t2:decide (k<120)=true:=decide_eq_true hlt2
   have t3:decide ((k:Int)<120)=true:=decide_eq_true (by omega)
   obtain⟨a,ha⟩:∃a,xs1[k]? = some a:=⟨_,List.getElem?_eq_getElem (by rw[EL.out];exact hlt)⟩
   have IV:=hid L.out.le.inv
   obtain⟨sb,so,rfl,hsb,AC⟩:=act_more16 HX.out ha
   obtain⟨y0,y1,y2,y3,y4,y5,y6⟩:=AC _ L.out.below
   have WA:=hid (WX.out a (List.mem_of_getElem? ha))
   have hlt':(k:Int)<(len1:Int):=by omega
   obtain⟨W7,hW7⟩:∃W,W=wr.alloc (.cells #[.int .i64 a.kind,.int .i64 a.a,.int .i64 a.b,.int .u64 a.v,.int .i64 a.w.r,.int .i64 a.w.p,.bool a.well] 38):=⟨_,rfl⟩
   have oa:Only n_ wr W7:=by rw[hW7];exact (Only.refl _ _).alloc _
   have RA:=hid (show Row W7 wr.heap.size 38 #[.int .i64 a.kind,.int .i64 a.a,.int .i64 a.b,.int .u64 a.v,.int .i64 a.w.r,.int .i64 a.w.p,.bool a.well]∧c wr.heap.size=0 from by rw[hW7];exact fresh0 L.out.le _ _)
   have L7:=hid (L.out.still oa)
   have BK7:=hid (BK.out.still oa)
   have hv1:IntKind.i64.wrap ((k:Int)+1)=(k:Int)+1:=by rw[IntKind.wrap_i64];omega
   clear oa
   go_upto_region 13 with fail
   rw[←hW7]
   clear hW7 y0 y1 y2 y3 y4 y5 y6 t1 t2 t3 AC L BK
   obtain⟨ab,hab⟩:∃n,wr.heap.size=n:=⟨_,rfl⟩
   rw[hab] at RA ⊢
   clear hab
   obtain⟨z0,z1,z2,z3,z4,z5,z6⟩:=RA.out.1.seven
   have e1:1000*(k+1)=1000*k+1000:=by omega
   have e2:2*(k+1)=2*k+2:=by omega
   have E12:=hid (And.intro e1 e2)
   clear e1 e2
   go_upto_block 2 with fail
   have fF:1000*k+1000<100000000:=by omega
   have fH:2*k+2<1000000:=by omega
   have SWI:∀cd,cd=codeAt Tryz.f5 2→SwAll _ _ _ _ _ _ _ _ _ _ _ cd:=λcd hcd=>tells_switch L7 HM WA RA BK7 BZ fF fH cd hcd
   unfold SwAll at SWI
   with_reducible refine SWI _ (by kernel_rfl) ?_
   clear SWI
   intro wc vb6 vt6 r11 r12 r13 r14 r15 r16 r17 r18 r19 r20 r21 r22 r23 r24 r25 r26 r65 r66 r67 r68 r69 r70 r71 r72 r73 r74 r75 r76 r77 r78 r79 r80 r81 r82 r83 r84 r85 r86 r87 r88 r89 r90 r91 r92 r93 r94 r95 r96 r97 r98 r99 r100 r101 r102 r103 r104 r105 r106 r107 r108 r109 r110 r111 r112 r113 r114 r115 r116 r117 r118 r119 r120 r121 r122 r123 r124 r125 r126 r127 r128 r129 r130 r131 r132 r133 r134 r135 r136 r137 r138 r139 r140 r141 r142 r143 r144 r145 r146 r147 r148 r149 r150 r151 r152 r153 r154 r155 r156 r157 r158 r159 r160 r161 r162 r163 r164 r165 r166 r167 r168 r169 r170 r171 r172 r173 r174 r175 r176 r177 r178 r179 r180 r181 r182 r183 r184 r185 ht
   obtain⟨c6,E6,B,tw,h6,b6,z6',r6,n6,nt6,s6,k6,l6⟩:=ht.all
   (try simp only[Exit.then])
   clear fF fH
   have L6:=hid h6
   have I6:=hid h6.le.inv
   have B6:=hid b6
   have Z6:=hid z6'
   have NB:=hid n6
   have NT:=hid nt6
   have SB:=hid s6
   have KB:=hid k6
   have TL:=hid (show tw.length≤66 from Nat.le_trans (nt6.length_le_of_subset (λx hx=>s6 x hx)) l6)
   have BL:=hid l6
   obtain⟨ta,tk,rfl,tc⟩:=r6
   have TC:=hid tc
   clear h6 b6 z6' n6 nt6 s6 k6 l6 tc L7 RA BK7 BZ IV z0 z1 z2 z3 z4 z5 z6
   go_wp2_with fail
   go_loopw [7,27,28,29] (λv7 i _ _ wr=>∃(j:Nat) (v:Value),v=v7∧i=.int .i64 j∧j≤tw.length∧Only n_ wc wr∧OwnsWt wr w.heap.size v (bookK B tw j)∧(∀g,v.ownBlock=some g→c6 g=0)) (λ_ i _ _ _=>tw.length-(intOf i).toNat)
   case atStart=>exact⟨0,vb6,rfl,rfl,Nat.zero_le _,Only.refl _ _,by rw[bookK_zero];exact B6.out,Z6.out⟩
   case round =>
    obtain⟨j,vj,rfl,rfl,hj,oj,bj,zj⟩:=hrel
    have OJ:=hid oj
    have BJ:=hid bj
    have ZJ:=hid zj
    have tl:=TL.out
    clear oj bj zj B6 Z6
    by_cases hlj:j<tw.length
    ·have t5:decide (j<tw.length)=true:=decide_eq_true hlj
     obtain⟨x,hx⟩:∃x,tw[j]? = some x:=⟨_,List.getElem?_eq_getElem hlj⟩
     obtain⟨g,og,rfl,cx0,cx1⟩:=TC.out j x hx
     have xc0:=OJ.out.cell cx0 (λs=>s)
     have xc1:=OJ.out.cell cx1 (λs=>s)
     have ST:=hid (bookK_step NB.out NT.out hx (SB.out x (List.mem_of_getElem? hx)))
     have CA:=hid (without16 (bookK B tw j) x vj w.heap.size wr BJ.out (by have:=bookK_len B tw j;have:=BL.out;omega) ST.out.1)
     have hv2:IntKind.i64.wrap ((j:Int)+1)=(j:Int)+1:=by rw[IntKind.wrap_i64];omega
     clear hx cx0 cx1
     go_wp2_with fail
     (with_reducible refine CA.out.mono ?_)
     rintro e w9 ⟨⟨v9,rfl,ow9⟩,o9⟩
     have OW9:=hid (show OwnsWt w9 w.heap.size v9 (bookK B tw (j+1)) from by rw[←ST.out.2];exact ow9.lower14 (Nat.le_trans L6.out.le.only.size OJ.out.size))
     have ZJ9:=hid (show ∀g,v9.ownBlock=some g→c6 g=0 from λg hg=>Classical.byContradiction λq=>by have h1:=L6.out.le.lt g q;have h2:=(Owns.base_le ow9 hg).1;have h3:=OJ.out.size;omega)
     have O9:=hid (OJ.out.same o9)
     clear ow9 o9 CA xc0 xc1 OJ BJ ZJ
     go_wp2_with fail
     go_roundw
     case rel=>exact⟨j+1,v9,rfl,by go_num,by omega,O9.out,OW9.out,ZJ9.out⟩
     case measure=>simp[intOf];omega
    ·have t5:decide (j<tw.length)=false:=decide_eq_false hlj
     have BF:=hid (show OwnsWt wr w.heap.size vj E6.book from by rw[←KB.out,show tw.length=j by omega];exact BJ.out)
     obtain⟨ba,bcap,rfl⟩:=owns_formQ BF.out
     have L8:=hid (L6.out.still OJ.out)
     have TI:=ltickets L8.out.le
     unfold pT at TI
     replace TI:=hid TI
     have bl64:=book_le I6.out
     obtain⟨nb,hnb⟩:∃n,E6.book.length=n:=⟨_,rfl⟩
     rw[hnb] at BF ZJ bl64 ⊢
     have NBK:=hid hnb
     clear hnb OJ BJ L6 hlj
     go_wp2_with fail
     (with_reducible refine TI.out.mono ?_)
     rintro e w9 ⟨v9,rfl,t9,o9⟩
     obtain⟨vt,vtk,rfl⟩:=owns_formQ t9
     have T9:=hid t9
     have L9:=hid (L8.out.still o9)
     have BF9:=hid (BF.out.still o9)
     have tn:E6.tells.length=E6.ts.length:=by unfold Eng.tells;rw[List.length_map]
     have tl2:=I6.out.tsLe
     rw[tn]
     obtain⟨nt,hnt⟩:∃n,E6.ts.length=n:=⟨_,rfl⟩
     have NTS:=hid hnt
     rw[hnt] at tl2 ⊢
     clear t9 o9 TI tn hnt L8 BF
     go_wp2_with fail
     go_loopw [30,32,33,34,35,36] (λx i _ _ _ _ wr=>∃(m:Nat) (z:Int),x=.int .i64 z∧z=(cntS E6 m:Int)∧i=.int .i64 m∧m≤nt∧Only n_ w9 wr) (λ_ i _ _ _ _ _=>nt-(intOf i).toNat)
     case atStart=>exact⟨0,0,rfl,rfl,rfl,Nat.zero_le _,Only.refl _ _⟩
     case round =>
      obtain⟨m,z,rfl,hz,rfl,hm,om⟩:=hrel
      have OM:=hid om
      have HZ:=hid hz
      clear om hz
      by_cases hlm:m<nt
      ·have t7:decide (m<nt)=true:=decide_eq_true hlm
       obtain⟨t,ht⟩:∃t,E6.ts[m]? = some t:=⟨_,List.getElem?_eq_getElem (by rw[NTS.out];exact hlm)⟩
       have hq:E6.tells[m]? = some (t,E6.cnt t.id):=by unfold Eng.tells;rw[List.getElem?_map,ht];rfl
       obtain⟨g,rfl,TC9⟩:=tks_at T9.out hq
       have TC9:=hid TC9
       have CS:=hid (cntS_step ht)
       have CL:=hid (show cntS E6 (m+1)≤64 from Nat.le_trans (cntS_le I6.out (by rw[NTS.out];omega)) (book_le I6.out))
       have OF:=lof t.id (L9.out.still OM.out).le
       unfold pT at OF
       replace OF:=hid OF
       have n0:wr.cell? ⟨g,m*9,none⟩=some (.int .i64 t.id):=(TC9.out _ OM.out).1
       obtain⟨tid,htid⟩:∃x,t.id=x:=⟨_,rfl⟩
       rw[htid] at n0 OF
       have TID:=hid htid
       clear hq ht htid
       go_wp2_with fail
       (with_reducible refine OF.out.mono ?_)
       rintro e w10 ⟨v10,rfl,rd10,o10⟩
       have RD:=hid rd10.1
       obtain⟨oa,ok,rfl,oc⟩:=rd10.1
       have OC:=hid oc
       have O10:=hid (OM.out.same o10)
       have n5:w10.cell? ⟨g,m*9+5,none⟩=some (.int .i64 (E6.cnt t.id)):=(TC9.out _ O10.out).2.2.2.2.2.1
       have ec:E6.cnt t.id=((ofL E6.g tid).length:Int):=by rw[TID.out];rfl
       rw[ec] at n5
       have CS2:=hid (show cntS E6 (m+1)=cntS E6 m+(ofL E6.g tid).length from by rw[CS.out,TID.out])
       have SUB:=hid (λ(x:Wt) (hx:x∈ofL E6.g tid)=>(of_sub16 hx:x∈E6.g.map Sx.w))
       obtain⟨ow,how⟩:∃n,(ofL E6.g tid).length=n:=⟨_,rfl⟩
       have OWN:=hid how
       rw[how] at n5 CS2 ⊢
       have d1:((ow:Int) != (ow:Int))=false:=by simp
       clear rd10 oc o10 OF n0 ec how OM
       go_wp2_with fail
       clear n5 d1
       go_loopw [34,35,36] (λi _ _ wr=>∃q:Nat,i=.int .i64 q∧q≤ow∧Only n_ w10 wr) (λi _ _ _=>ow-(intOf i).toNat)
       case atStart=>exact⟨0,rfl,Nat.zero_le _,Only.refl _ _⟩
       case round =>
        obtain⟨q,rfl,hq,oq⟩:=hrel
        have OQ:=hid oq
        clear oq
        by_cases hlq:q<ow
        ·have t8:decide (q<ow)=true:=decide_eq_true hlq
         obtain⟨x,hx⟩:∃x,(ofL E6.g tid)[q]? = some x:=⟨_,List.getElem?_eq_getElem (by rw[OWN.out];exact hlq)⟩
         obtain⟨g',og,rfl,cx0,cx1⟩:=OC.out q x hx
         have xc0:=OQ.out.cell cx0 (λs=>s)
         have xc1:=OQ.out.cell cx1 (λs=>s)
         have CA:=without16 E6.book x _ w.heap.size wr ((BF9.out.still O10.out).still OQ.out) (by rw[NBK.out];omega) (SUB.out x (List.mem_of_getElem? hx))
         replace CA:=hid CA
         have ow64:ow≤64:=by have:=CS2.out;have:=CL.out;omega
         have hv2:IntKind.i64.wrap ((q:Int)+1)=(q:Int)+1:=by rw[IntKind.wrap_i64];omega
         clear hx cx0 cx1
         go_wp2_with fail
         (with_reducible refine CA.out.mono ?_)
         rintro e w11 ⟨⟨v11,rfl,_⟩,o11⟩
         have O11:=hid (OQ.out.same o11)
         clear o11 CA xc0 xc1 OQ
         go_wp2_with fail
         go_roundw
         case rel=>exact⟨q+1,by go_num,by omega,O11.out⟩
         case measure=>simp[intOf];omega
        ·have t8:decide (q<ow)=false:=decide_eq_false hlq
         have hv2:IntKind.i64.wrap (z+(ow:Int))=z+(ow:Int):=by have:=HZ.out;have:=CS2.out;have:=CL.out;rw[IntKind.wrap_i64];omega
         have hv3:IntKind.i64.wrap ((m:Int)+1)=(m:Int)+1:=by rw[IntKind.wrap_i64];omega
         go_wp2_with fail
         go_roundw
         case rel=>exact⟨m+1,_,rfl,by rw[CS2.out,HZ.out];omega,by go_num,by omega,O10.out.same OQ.out⟩
         case measure=>simp[intOf];omega
      ·have t7:decide (m<nt)=false:=decide_eq_false hlm
       obtain rfl:m=nt:=by omega
       have zb:z=(nb:Int):=by rw[HZ.out,←NBK.out,←cntS_all I6.out,NTS.out]
       subst zb
       have d2:((nb:Int) != (nb:Int))=false:=by simp
       go_wp2_with fail
       go_roundw
       case rel=>exact⟨k+1,c6,E6,_,rfl,by go_num,by omega,by omega,by rw[E12.out.1,E12.out.2];exact L9.out.still OM.out,by first | exact (BF9.out.still OM.out) | (rw[NBK.out];exact BF9.out.still OM.out),ZJ.out⟩
       case measure=>simp[intOf];omega
  ·rcases (show len1≤k∨(k<len1∧120≤k) by omega) with q|⟨q,q2⟩
   ·have t1:decide (k<len1)=false:=decide_eq_false (by omega)
    go_wp2_with fail
    go_ret
    exact⟨rfl,L.out.below⟩
   ·have t1:decide (k<len1)=true:=decide_eq_true q
    have t2:decide (k<120)=false:=decide_eq_false (by omega)
    have t3:decide ((k:Int)<120)=false:=decide_eq_false (by omega)
    go_wp2_with fail
    go_ret
    exact⟨rfl,L.out.below⟩
end Go.Proofs.YtfbpjobobdidiaaGreatDoor.fetchTells
