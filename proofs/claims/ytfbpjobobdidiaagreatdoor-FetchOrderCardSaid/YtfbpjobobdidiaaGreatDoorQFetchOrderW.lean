/- The walk through FetchOrder's own text. -/
import Derived.Below
import Derived.Test.YtfbpjobobdidiaaGreatDoorQFetchOrderR
namespace Go.Proofs.YtfbpjobobdidiaaGreatDoor.fetchOrder
open Lib (hid)
open Go.ChangeShapes Go.WideShapes Go.ChangeAt Go.RowKit
set_option linter.unusedVariables false
theorem lex27:Region.lexB .any (opsAt Tryz.f4 27).toArray=true:=by kernel_rfl
set_option maxHeartbeats 4000000 in
set_option maxRecDepth 100000 in
theorem walk (w:World) (hb:Bd w) (a0:Opt) (wa0:True) (ad1:Option Addr) (len1 cap1:Nat) (xs1:List ActF) (max1:len1≤maxLen) (el1:xs1.length=len1) (hold1:Holds w ad1 7 ActF.cells xs1) (wf1:∀x∈xs1,x.Wf) :
  Calls Tryz.prog 4 #[a0.val,.slice ad1 len1 cap1] w λe w'=>e=.returned (.bool true)∧Below w.heap.size w w':=by
 have HB:=hid hb
 have HX:=hid hold1
 have WX:=hid wf1
 have EL:=hid el1
 have ML:=hid (show len1≤9223372036854775807 from Nat.le_trans max1 (by decide))
 unfold Opt.val
 obtain⟨W1,hW1⟩:∃W,W=w.alloc (.cells #[.int .i64 a0.b0,.int .i64 a0.b1,.int .i64 a0.b2,.int .i64 a0.b3,.int .i64 a0.b4,.int .i64 a0.b5,.int .i64 a0.b6,.int .i64 a0.b7,.int .i64 a0.b8,.int .i64 a0.b9,.int .i64 a0.b10,.int .i64 a0.b11,.int .i64 a0.b12,.int .i64 a0.b13] 23):=⟨_,rfl⟩
 have o1:Only none_ w W1:=by rw[hW1];exact (Only.refl _ _).alloc _
 have RO:=hid (show Row W1 w.heap.size 23 a0.cells from by rw[hW1];exact Row.fresh _ _ _)
 have O1:=hid o1
 have RL:=hid RO.out.lt
 clear o1 hb hold1 wf1 max1 el1 wa0
 go_enter Tryz.func4,Tryz.ntmps4
 go_upto_region 1 with fail
 rw[←hW1]
 clear hW1
 obtain⟨ob,hob⟩:∃n,w.heap.size=n:=⟨_,rfl⟩
 have OB:=hid hob
 rw[hob] at RO RL ⊢
 clear hob
 go_wp2_with fail
 (with_reducible refine (awake16_any W1 (HB.out.still O1.out)).mono ?_)
 rintro e w2 ⟨rfl,o2⟩
 have O2:=hid (O1.out.same o2)
 have RO2:=hid (o2.still RO.out)
 have RL2:=hid (Nat.lt_of_lt_of_le RL.out o2.size)
 clear o2 RO O1 RL
 obtain⟨xo0,xo1,xo2,xo3,xo4,xo5,xo6,xo7,xo8,xo9,xo10,xo11,xo12,xo13⟩:=fourteen RO2.out
 have SM:=small16_any a0 w2
 unfold Opt.val at SM
 replace SM:=hid SM
 go_wp2_with fail
 (with_reducible refine SM.out.mono ?_)
 rintro e w3 ⟨rfl,o3⟩
 have O3:=hid (O2.out.same o3)
 have RO3:=hid (o3.still RO2.out)
 have RL3:=hid (Nat.lt_of_lt_of_le RL2.out o3.size)
 clear o3 RO2 O2 RL2 SM xo0 xo1 xo2 xo3 xo4 xo5 xo6 xo7 xo8 xo9 xo10 xo11 xo12 xo13
 by_cases hm:a0.MayC
 case neg =>
  have hmb:a0.mayB=false:=decide_eq_false hm
  go_wp2_with fail
  go_ret
  exact⟨rfl,O3.out.to_below17⟩
 have hmb:a0.mayB=true:=decide_eq_true hm
 have HM:=hid hm
 have NW:=lnew (w0:=w) a0 (HB.out.still O3.out) hm O3.out
 unfold ptrTo Opt.val at NW
 replace NW:=hid NW
 obtain⟨xo0,xo1,xo2,xo3,xo4,xo5,xo6,xo7,xo8,xo9,xo10,xo11,xo12,xo13⟩:=fourteen RO3.out
 clear hm
 go_wp2_with fail
 (with_reducible refine NW.out.mono ?_)
 rintro e w4 ⟨p,rfl,⟨c0,h4,z4⟩,o4⟩
 have L4:=hid (show LO w w4 p c0 (1000*0) (2*0) (E0 a0) ob a0 from ⟨h4,rfl,o4.still RO3.out,Classical.byContradiction λq=>by have:=z4 ob q;have:=RL3.out;omega⟩)
 clear h4 z4 o4 NW RO3 O3 RL3 hmb xo0 xo1 xo2 xo3 xo4 xo5 xo6 xo7 xo8 xo9 xo10 xo11 xo12 xo13
 have ZL:=zero_lasts w4
 obtain⟨W5,hW5⟩:∃W,W=w4.alloc (.cells (lasts (λ_=>0)) 56):=⟨_,rfl⟩
 have oa:Only none_ w4 W5:=by rw[hW5];exact (Only.refl _ _).alloc _
 have RL:=hid (show Row W5 w4.heap.size 56 (lasts (λ_=>0))∧c0 w4.heap.size=0 from by rw[hW5];exact fresh0 L4.out.le _ _)
 have L5:=hid (L4.out.still oa)
 have LB:=hid (show w.heap.size≤w4.heap.size∧w4.heap.size≠ob from ⟨L4.out.le.only.size,by have:=L4.out.row.lt;omega⟩)
 clear oa
 go_upto_region 9 with fail
 rw[←hW5]
 clear hW5 ZL L4
 obtain⟨lb,hlb⟩:∃n,w4.heap.size=n:=⟨_,rfl⟩
 rw[hlb] at RL LB ⊢
 clear hlb
 go_wp2_with fail
 go_loopw [8,9,10,11,12,13,14,15,16,17] (λi _ _ _ _ _ _ _ _ _ wr=>∃(k:Nat) (c:Nat→Nat) (E:Eng) (last:Int→Int),i=.int .i64 k∧k≤len1∧k≤120∧LO w wr p c (1000*k) (2*k) E ob a0∧OInv E last∧Row wr lb 56 (lasts last)∧c lb=0) (λi _ _ _ _ _ _ _ _ _ _=>120-(intOf i).toNat)
 case atStart=>exact⟨0,c0,_,_,rfl,Nat.zero_le _,Nat.zero_le _,L5.out,OInv.start rfl,RL.out⟩
 case round =>
  obtain⟨k,c,E,last,rfl,hk,hk2,hl,hoi,hrl⟩:=hrel
  have L:=hid hl
  have OI:=hid hoi
  have RL:=hid hrl
  clear hl hoi hrl L5
  have ml:=ML.out
  by_cases hlt:k<len1∧k<120
  ·obtain⟨hlt,hlt2⟩:=hlt
   have t1:decide (k<len1)=true:=decide_eq_true hlt
   have t2:decide (k<120)=true:=decide_eq_true hlt2
   have t3:decide ((k:Int)<120)=true:=decide_eq_true (by omega)
   obtain⟨a,ha⟩:∃a,xs1[k]? = some a:=⟨_,List.getElem?_eq_getElem (by rw[EL.out];exact hlt)⟩
   have IV:=hid L.out.le.inv
   obtain⟨sb,so,rfl,hsb,AC⟩:=act_more16 HX.out ha
   obtain⟨y0,y1,y2,y3,y4,y5,y6⟩:=AC _ L.out.below
   have WA:=hid (WX.out a (List.mem_of_getElem? ha))
   have hlt':(k:Int)<(len1:Int):=by omega
   obtain⟨W7,hW7⟩:∃W,W=wr.alloc (.cells #[.int .i64 a.kind,.int .i64 a.a,.int .i64 a.b,.int .u64 a.v,.int .i64 a.w.r,.int .i64 a.w.p,.bool a.well] 38):=⟨_,rfl⟩
   have oa:Only none_ wr W7:=by rw[hW7];exact (Only.refl _ _).alloc _
   have RA:=hid (show Row W7 wr.heap.size 38 #[.int .i64 a.kind,.int .i64 a.a,.int .i64 a.b,.int .u64 a.v,.int .i64 a.w.r,.int .i64 a.w.p,.bool a.well]∧c wr.heap.size=0 from by rw[hW7];exact fresh0 L.out.le _ _)
   have L7:=hid (L.out.still oa)
   have RL7:=hid (still0 RL.out oa)
   have hv1:IntKind.i64.wrap ((k:Int)+1)=(k:Int)+1:=by rw[IntKind.wrap_i64];omega
   clear oa
   go_upto_region 13 with fail
   rw[←hW7]
   clear hW7 y0 y1 y2 y3 y4 y5 y6 t1 t2 t3 AC L RL
   obtain⟨ab,hab⟩:∃n,wr.heap.size=n:=⟨_,rfl⟩
   rw[hab] at RA ⊢
   clear hab
   obtain⟨z0,z1,z2,z3,z4,z5,z6⟩:=RA.out.1.seven
   have e1:1000*(k+1)=1000*k+1000:=by omega
   have e2:2*(k+1)=2*k+2:=by omega
   have E12:=hid (And.intro e1 e2)
   clear e1 e2
   by_cases k5:a.kind=5
   ·have t5:(a.kind==5)=true:=by simp[k5]
    have r9:=bd_i64 WA.out.a
    have NI:=hid (IV.out.next a.a)
    have NO:=hid (next_o E a.a)
    have OG:=hid (OI.out.goes (goes_next E a.a))
    rcases hq:(E.next a.a).2 with ⟨ds,om⟩
    cases om with
    | none =>
     have CA:=hid (lnext_none L7.out.le r9 hq (by omega) (by omega))
     clear hq k5
     go_wp2_with fail
     (with_reducible refine CA.out.mono ?_)
     rintro e w8 ⟨dv,rfl,_,c8,h8,g8,_,o8⟩
     have L8:=hid (L7.out.to h8 g8 o8 NO.out)
     have RL8:=hid (kept g8 o8 RL7.out)
     clear h8 g8 o8 CA L7 RL7 RA z0 z1 z2 z3 z4 z5 z6
     go_wp2_with fail
     go_roundw
     case rel=>exact⟨k+1,c8,_,last,by go_num,by omega,by omega,by rw[E12.out.1,E12.out.2];exact (L8.out.still ((Only.refl none_ _).alloc _)).up (by omega) (by omega) (by omega) (by omega),OG.out,still0 RL8.out ((Only.refl none_ _).alloc _)⟩
     case measure=>simp[intOf];omega
    | some m =>
     have CA:=hid (lnext_some L7.out.le r9 hq (by omega) (by omega))
     have MM:=hid (next_mem (E:=E) (room:=a.a) (m:=m) (by rw[hq]))
     clear hq k5
     go_wp2_with fail
     (with_reducible refine CA.out.mono ?_)
     rintro e w8 ⟨q1,l1,q2,l2,q3,l3,dv,rfl,_,m8,c8,h8,g8,z8,o8⟩
     obtain⟨W9,hW9⟩:∃W,W=w8.alloc (.cells #[.int .i64 m.tag,.bool m.wr,.int .i64 m.lo,.int .i64 m.n,.slice q1 m.ks.length l1,.slice q2 m.vs.length l2,.slice q3 m.fs.length l3] 47):=⟨_,rfl⟩
     have oa:Only none_ w8 W9:=by rw[hW9];exact (Only.refl _ _).alloc _
     have RM:=hid (show Row W9 w8.heap.size 47 #[.int .i64 m.tag,.bool m.wr,.int .i64 m.lo,.int .i64 m.n,.slice q1 m.ks.length l1,.slice q2 m.vs.length l2,.slice q3 m.fs.length l3] from by rw[hW9];exact Row.fresh _ _ _)
     have L9:=hid ((L7.out.to h8 g8 o8 NO.out).still oa)
     have RL9:=hid (still0 (kept g8 o8 RL7.out) oa)
     have lb7:=RL7.out.1.lt
     have s8:=o8.size
     have MB:=hid (show w8.heap.size≠lb from by omega)
     have mo:=NI.out.mok m MM.out
     rw[NO.out,L7.out.opt] at mo
     have B0:=hid (show a0.b0≤256 from by have:=HM.out;unfold Opt.MayC at this;omega)
     obtain⟨mo1,mo2,mo3,mo4,mo5,_⟩:=mo
     have MO:=hid (show 0≤m.lo∧m.lo+m.n≤256∧(m.ks.length:Int)=m.n∧1≤m.n from ⟨mo3,by have:=B0.out;omega,mo5,mo1⟩)
     obtain⟨gk,capk,ek,bgk,lgk,_⟩:=m8.ks.form (by intro e;rw[e] at mo5;simp at mo5;omega)
     simp only[Value.slice.injEq,true_and] at ek
     obtain⟨rfl,rfl⟩:=ek
     have GK:=hid (show gk≠lb from by omega)
     have KO:=hid (m8.ks.still oa)
     clear mo1 mo2 mo3 mo4 mo5 B0 m8 h8 g8 z8 o8 oa CA L7 RL7 lb7 s8 bgk lgk RA z0 z1 z2 z3 z4 z5 z6
     go_upto_region 15 with fail
     rw[←hW9]
     clear hW9
     obtain⟨mb,hmb⟩:∃n,w8.heap.size=n:=⟨_,rfl⟩
     rw[hmb] at RM MB ⊢
     clear hmb
     obtain⟨x0,x1,x2,x3,x4,x5,x6⟩:=RM.out.seven
     have MK:=hid (rmay_mv NI.out MM.out W9)
     go_wp2_with fail
     (with_reducible refine MK.out.mono ?_)
     rintro e w10 ⟨rfl,o10⟩
     have RM10:=hid (o10.still RM.out)
     have L10:=hid (L9.out.still o10)
     have RL10:=hid (still0 RL9.out o10)
     have KC:=hid (show ∀(j:Nat) (kj:Int),m.ks[j]? = some kj→w10.cell? ⟨gk,j,none⟩=some (.int .i64 kj) from λj kj hj=>by
      obtain⟨a',cap',e',hc'⟩:=Reads.of_owns (KO.out.still o10)
      simp only[Value.slice.injEq] at e'
      obtain⟨ea,_,_⟩:=e'
      obtain⟨g',o',ea',hcc⟩:=hc' j kj hj
      rw[←ea] at ea'
      simp only[Option.some.injEq,Addr.mk.injEq,and_true] at ea'
      obtain⟨rfl,rfl⟩:=ea'
      rw[Nat.zero_add] at hcc
      exact hcc)
     clear x0 x1 x2 x3 x4 x5 x6 o10 MK RM L9 RL9 KO
     obtain⟨x0,x1,x2,x3,x4,x5,x6⟩:=RM10.out.seven
     have d2:((m.ks.length:Int) != m.n)=false:=by have:=MO.out;simp;omega
     have OM:=hid (OG.out.moves NI.out MM.out)
     have z0:lastOf m last 0=last:=by funext b;unfold lastOf;rw[if_neg (by omega)]
     have Z0:=hid z0
     clear z0
     go_wp2_with fail
     clear x0 x1 x2 x3 x4 x5 x6 d2
     go_loopw [13,14] (λkk _ wr2=>∃j:Nat,kk=.int .i64 j∧j≤m.ks.length∧Only (λg=>g=lb) w10 wr2∧Row wr2 lb 56 (lasts (lastOf m last j))) (λkk _ _=>m.ks.length-(intOf kk).toNat)
     case atStart=>exact⟨0,rfl,Nat.zero_le _,Only.refl _ _,by rw[Z0.out];exact RL10.out.1⟩
     case round =>
      obtain⟨j,rfl,hj,oj,rj⟩:=hrel
      have OJ:=hid oj
      have RJ:=hid rj
      clear oj rj
      obtain⟨x0,x1,x2,x3,x4,x5,x6⟩:=(OJ.out.row RM10.out MB.out).seven
      have mo:=MO.out
      by_cases hlj:j<m.ks.length
      ·have t6:decide ((j:Int)<m.n)=true:=decide_eq_true (by omega)
       obtain⟨kj,hkj⟩:∃kj,m.ks[j]? = some kj:=⟨_,List.getElem?_eq_getElem hlj⟩
       obtain⟨bb,hbb⟩:∃bb:Nat,m.lo+(j:Int)=(bb:Int):=⟨(m.lo+(j:Int)).toNat,by omega⟩
       have b256:bb<256:=by omega
       have b256':(bb:Int)<256:=by omega
       have hw:IntKind.i64.wrap (m.lo+(j:Int))=(bb:Int):=by rw[IntKind.wrap_i64];omega
       have hv2:IntKind.i64.wrap ((j:Int)+1)=(j:Int)+1:=by rw[IntKind.wrap_i64];omega
       have kc:wr.cell? ⟨gk,j,none⟩=some (.int .i64 kj):=OJ.out.cell (KC.out j kj hkj) GK.out
       have lc:wr.cell? ⟨lb,bb,none⟩=some (.int .i64 (lastOf m last j bb)):=by rw[RJ.out.cell,lasts_get _ b256]
       have lf:=RJ.out.frozen bb
       have d3:decide (kj<lastOf m last j bb)=false:=by
        have:=(OM.out j (by omega)).2 j hlj (Nat.le_refl _)
        rw[hbb,List.getD_eq_getElem?_getD,hkj] at this
        exact decide_eq_false (Int.not_lt.2 this)
       have LU:=hid (show lasts (lastOf m last (j+1))=(lasts (lastOf m last j)).setIfInBounds bb (.int .i64 kj) from (lasts_put _ _ bb kj (λb=>by rw[last_up m last j hkj b,hbb])).symm)
       have OJ2:=hid (λv=>(OJ.out.into (b:=lb) rfl bb v))
       clear hkj hbb mo
       go_upto_region 22 with fail
       go_region
       all_goals
        go_wp2_with fail
        go_roundw
        case rel=>exact⟨j+1,by go_num,by omega,by first | exact (OJ2.out _).drew | exact OJ.out.drew.into (b:=lb) rfl bb _,by rw[LU.out];first | exact (RJ.out.put bb _).drew | exact RJ.out.drew.put bb _⟩
        case measure=>simp[intOf];omega
      ·have t6:decide ((j:Int)<m.n)=false:=decide_eq_false (by omega)
       have OF:=hid ((OM.out m.ks.length (Nat.le_refl _)).1)
       obtain rfl:j=m.ks.length:=by omega
       have L11:=hid (L10.out.keepN OJ.out RL10.out.2 LB.out.1 LB.out.2)
       clear mo
       go_wp2_with fail
       go_roundw
       case rel=>exact⟨k+1,c8,_,_,by go_num,by omega,by omega,by rw[E12.out.1,E12.out.2];exact L11.out.up (by omega) (by omega) (by omega) (by omega),OF.out,RJ.out,RL10.out.2⟩
       case measure=>simp[intOf];omega
   ·have t5:(a.kind==5)=false:=by simpa using k5
    by_cases k7:a.kind=7
    ·have t7:(a.kind==7)=true:=by simp[k7]
     have CA:=lserve a.a L7.out.le (by omega) (by omega)
     unfold ptrTo at CA
     have NO:=hid (serve_o E a.a)
     by_cases hs:serves (E.head a.a)=true
     ·obtain⟨t,ht,hkk⟩:=serves_some hs
      clear hkk
      rw[ht] at hs
      obtain⟨sv1,sv2,sv3,sv4⟩:=serve_yes ht hs
      obtain⟨s1,s2,s3⟩:=OI.out.served IV.out ht hs
      have bk:=IV.out.blk t (mem_head ht).1
      rw[L7.out.opt] at bk
      have B0:a0.b0≤256:=by have:=HM.out;unfold Opt.MayC at this;omega
      obtain⟨bb,hbb⟩:∃bb:Nat,t.b=(bb:Int):=⟨t.b.toNat,by omega⟩
      have b256:bb<256:=by omega
      have b256':(bb:Int)<256:=by omega
      rw[sv1,sv4] at CA
      unfold Tk.told at CA
      rw[hbb] at CA
      have CA:=hid CA
      have S3:=hid s3
      have S2:=hid (show a.a=(bb:Int) from by rw[←s2,hbb])
      have d1:((bb:Int) != a.a)=false:=by simp;omega
      have d2:decide ((bb:Int)<0)=false:=decide_eq_false (by omega)
      have d3:decide ((255:Int)<(bb:Int))=false:=decide_eq_false (by omega)
      have d3':decide (255<bb)=false:=decide_eq_false (by omega)
      have d4:decide (t.id≤last (bb:Int))=false:=decide_eq_false (by rw[←hbb,s2];omega)
      obtain⟨cn,hcn⟩:∃x,E.cnt t.id=x:=⟨_,rfl⟩
      rw[hcn] at CA
      clear hcn sv1 sv2 sv3 sv4 hs s1 s2 s3 bk B0 k5 k7 ht
      go_wp2_with fail
      (with_reducible refine CA.out.mono ?_)
      rintro e w8 ⟨v8,rfl,rd,c8,h8,g8,_,o8⟩
      obtain⟨va,vk,rfl⟩:=rd.len
      obtain⟨W9,hW9⟩:∃W,W=w8.alloc (.cells #[.int .i64 t.id,.int .i64 t.kind,.int .i64 (bb:Int),.int .i64 t.l,.int .i64 t.tries,.int .i64 cn,.bool t.out,.bool t.fr,.bool t.cut] 54):=⟨_,rfl⟩
      have oa:Only none_ w8 W9:=by rw[hW9];exact (Only.refl _ _).alloc _
      have RT:=hid (show Row W9 w8.heap.size 54 #[.int .i64 t.id,.int .i64 t.kind,.int .i64 (bb:Int),.int .i64 t.l,.int .i64 t.tries,.int .i64 cn,.bool t.out,.bool t.fr,.bool t.cut] from by rw[hW9];exact Row.fresh _ _ _)
      have L9:=hid ((L7.out.to h8 g8 o8 NO.out).still oa)
      have RL9:=hid (still0 (kept g8 o8 RL7.out) oa)
      have RA9:=hid (still0 (kept g8 o8 RA.out) oa)
      have lb7:=RL7.out.1.lt
      have s8:=o8.size
      have TB:=hid (show w8.heap.size≠lb from by omega)
      clear rd h8 g8 o8 oa CA L7 RL7 RA lb7 s8 z0 z1 z2 z3 z4 z5 z6
      go_upto_region 27 with fail
      rw[←hW9]
      clear hW9
      obtain⟨tb,htb⟩:∃n,w8.heap.size=n:=⟨_,rfl⟩
      rw[htb] at RT TB ⊢
      clear htb
      have i0:∀i:After W9,i.val.cell? ⟨tb,0,none⟩=some (.int .i64 t.id):=λi=>(i.only.still RT.out).cell 0
      have i2:∀i:After W9,i.val.cell? ⟨tb,2,none⟩=some (.int .i64 (bb:Int)):=λi=>(i.only.still RT.out).cell 2
      have i1:∀i:After W9,i.val.cell? ⟨ab,1,none⟩=some (.int .i64 a.a):=λi=>(i.only.still RA9.out.1).cell 1
      have il:∀i:After W9,i.val.cell? ⟨lb,bb,none⟩=some (.int .i64 (last (bb:Int))):=λi=>by rw[(i.only.still RL9.out.1).cell,lasts_get _ b256]
      refine wp_region_after (w0:=W9) (by kernel_rfl) (lex_from lex27 (by kernel_rfl)) (Only.refl _ _) ?_
      repeat (go_big_quiet_step (fail))
      refine wpQuiet_nil ?_
      intro w10 hw'
      obtain⟨ii,e1⟩:=hw'
      have o10:=ii.only
      rw[←e1] at o10
      clear e1 ii i0 i2 i1 il d1 d2 d3 d3' d4
      have L10:=hid (L9.out.still o10)
      have RL10:=hid (still0 RL9.out o10)
      have x0:w10.cell? ⟨tb,0,none⟩=some (.int .i64 t.id):=(o10.still RT.out).cell 0
      have x2:w10.cell? ⟨tb,2,none⟩=some (.int .i64 (bb:Int)):=(o10.still RT.out).cell 2
      have lc:w10.cell? ⟨lb,bb,none⟩=some (.int .i64 (last (bb:Int))):=by rw[RL10.out.1.cell,lasts_get _ b256]
      have lf:=RL10.out.1.frozen bb
      have LU:=hid (show lasts (λc=>if c=a.a then t.id else last c)=(lasts last).setIfInBounds bb (.int .i64 t.id) from (lasts_put last _ bb t.id (λb=>by rw[S2.out])).symm)
      have OL:=hid (λv=>((Only.refl (λg=>g=lb) w10).into (b:=lb) rfl bb v))
      clear o10
      go_wp2_with fail
      go_roundw
      case rel=>exact⟨k+1,c8,_,_,by go_num,by omega,by omega,by rw[E12.out.1,E12.out.2];exact (L10.out.keepN (OL.out _) RL10.out.2 LB.out.1 LB.out.2).up (by omega) (by omega) (by omega) (by omega),S3.out,by rw[LU.out];exact RL10.out.1.put bb _,RL10.out.2⟩
      case measure=>simp[intOf];omega
     ·have hs:serves (E.head a.a)=false:=by simpa using hs
      obtain⟨sv1,sv2,sv3,sv4⟩:=serve_not hs
      rw[sv1,sv3,sv4] at CA
      unfold noTk at CA
      have CA:=hid CA
      clear sv1 sv2 sv3 sv4 hs k5 k7
      go_wp2_with fail
      (with_reducible refine CA.out.mono ?_)
      rintro e w8 ⟨v8,rfl,rd,c8,h8,g8,_,o8⟩
      obtain⟨va,vk,rfl⟩:=rd.len
      obtain⟨W9,hW9⟩:∃W,W=w8.alloc (.cells #[.int .i64 0,.int .i64 0,.int .i64 0,.int .i64 0,.int .i64 0,.int .i64 0,.bool false,.bool false,.bool false] 54):=⟨_,rfl⟩
      have oa:Only none_ w8 W9:=by rw[hW9];exact (Only.refl _ _).alloc _
      have L9:=hid ((L7.out.to h8 g8 o8 rfl).still oa)
      have RL9:=hid (still0 (kept g8 o8 RL7.out) oa)
      clear rd h8 g8 o8 oa CA L7 RL7 RA z0 z1 z2 z3 z4 z5 z6
      go_upto_region 27 with fail
      rw[←hW9]
      clear hW9
      refine wp_region_after (w0:=W9) (by kernel_rfl) (lex_from lex27 (by kernel_rfl)) (Only.refl _ _) ?_
      repeat (go_big_quiet_step (fail))
      refine wpQuiet_nil ?_
      intro w10 hw'
      obtain⟨ii,e1⟩:=hw'
      have o10:=ii.only
      rw[←e1] at o10
      clear e1 ii
      have L10:=hid (L9.out.still o10)
      have RL10:=hid (still0 RL9.out o10)
      clear o10
      go_wp2_with fail
      go_roundw
      case rel=>exact⟨k+1,c8,_,last,by go_num,by omega,by omega,by rw[E12.out.1,E12.out.2];exact L10.out.up (by omega) (by omega) (by omega) (by omega),OI.out,RL10.out⟩
      case measure=>simp[intOf];omega
    ·have t7:(a.kind==7)=false:=by simpa using k7
     clear k5 k7
     have fF:1000*k+1000<100000000:=by omega
     have fH:2*k+2<1000000:=by omega
     go_upto_region 31 with fail
     refine wp_of_postN (order31 L7.out HM.out WA.out RA.out fF fH _ (by kernel_rfl) _ _ _ _ _ _ _ _ _ _ _ _ _ _ _ _ _ _ _ _ _ _ _ _ _ _ _ _ _ _ _ _ _ _ _ _ _ _ _ _ _ _ _ _ _ _ _ _ _ _ _ _ _ _ _ _ _ _ _ _ _ _ _ _ _ _ _ _ _ _ _ _ _ _ _ _ _ _ _ _ _ _ _ _ _ _ _ _ _ _ _ _ _ _ _ _ _ _ _ _ _ _ _ _ _ _ _ _ _ _ _ _ _ _ _ _ _ _ _ _ _ _ _ _ _ _ _ _ _ _ _ _ _ _ _ _ _ _ _ _ _ _ _ _) ?_
     rintro a' w9 ⟨r142,r143,r144,r145,r146,rfl,c9,pr,h9,hpr,g9,o9⟩
     (try simp only[Exit.then])
     clear fF fH
     have lb7:=RL7.out.1.lt
     have OG:=hid (OI.out.goes (goes_act IV.out a))
     have L9:=hid h9
     have RL9:=hid (show Row w9 lb 56 (lasts last)∧c9 lb=0 from ⟨o9.row RL7.out.1 (λz=>by rcases z with z|z;exact z RL7.out.2;omega),g9.zero RL7.out.2 lb7⟩)
     clear h9 g9 o9 hpr lb7 L7 RL7 RA z0 z1 z2 z3 z4 z5 z6
     go_wp2_with fail
     go_roundw
     case rel=>exact⟨k+1,c9,_,last,by go_num,by omega,by omega,by rw[E12.out.1,E12.out.2];exact L9.out,OG.out,RL9.out⟩
     case measure=>simp[intOf];omega
  ·rcases (show len1≤k∨(k<len1∧120≤k) by omega) with q|⟨q,q2⟩
   ·have t1:decide (k<len1)=false:=decide_eq_false (by omega)
    go_wp2_with fail
    go_ret
    exact⟨rfl,L.out.below⟩
   ·have t1:decide (k<len1)=true:=decide_eq_true q
    have t2:decide (k<120)=false:=decide_eq_false (by omega)
    have t3:decide ((k:Int)<120)=false:=decide_eq_false (by omega)
    go_wp2_with fail
    go_ret
    exact⟨rfl,L.out.below⟩
end Go.Proofs.YtfbpjobobdidiaaGreatDoor.fetchOrder
