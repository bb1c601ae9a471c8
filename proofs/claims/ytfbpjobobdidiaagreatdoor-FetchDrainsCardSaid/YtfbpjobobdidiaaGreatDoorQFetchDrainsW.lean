/- The walk through FetchDrains's own text. -/
import Derived.Below
import Derived.Test.YtfbpjobobdidiaaGreatDoorQFetchDrainsR
namespace Go.Proofs.YtfbpjobobdidiaaGreatDoor.fetchDrains
open Lib (hid)
open Go.ChangeShapes Go.WideShapes Go.ChangeAt Go.RowKit
set_option linter.unusedVariables false
set_option maxHeartbeats 4000000 in
set_option maxRecDepth 100000 in
theorem walk (w:World) (hb:Bd w) (a0:Opt) (wa0:True) (ad1:Option Addr) (len1 cap1:Nat) (xs1:List ActF) (max1:len1≤maxLen) (el1:xs1.length=len1) (hold1:Holds w ad1 7 ActF.cells xs1) (wf1:∀x∈xs1,x.Wf) (ad2:Option Addr) (len2 cap2:Nat) (xs2:List Int) (max2:len2≤maxLen) (el2:xs2.length=len2) (hold2:Holds w ad2 1 byteC xs2) (wf2:∀x∈xs2,0≤x∧x≤255) :
  Calls Tryz.prog 6 #[a0.val,.slice ad1 len1 cap1,.slice ad2 len2 cap2] w λe w'=>e=.returned (.bool true)∧Below w.heap.size w w':=by
 have HX2:=hid hold2
 have WX2:=hid wf2
 have EL2:=hid el2
 have ML2:=hid (show len2≤9223372036854775807 from Nat.le_trans max2 (by decide))
 clear hold2 wf2 el2 max2
 have HB:=hid hb
 have HX:=hid hold1
 have WX:=hid wf1
 have EL:=hid el1
 have ML:=hid (show len1≤9223372036854775807 from Nat.le_trans max1 (by decide))
 unfold Opt.val
 obtain⟨W1,hW1⟩:∃W,W=w.alloc (.cells #[.int .i64 a0.b0,.int .i64 a0.b1,.int .i64 a0.b2,.int .i64 a0.b3,.int .i64 a0.b4,.int .i64 a0.b5,.int .i64 a0.b6,.int .i64 a0.b7,.int .i64 a0.b8,.int .i64 a0.b9,.int .i64 a0.b10,.int .i64 a0.b11,.int .i64 a0.b12,.int .i64 a0.b13] 23):=⟨_,rfl⟩
 have o1:Only none_ w W1:=by rw[hW1];exact (Only.refl _ _).alloc _
 have RO:=hid (show Row W1 w.heap.size 23 a0.cells from by rw[hW1];exact Row.fresh _ _ _)
 have O1:=hid o1
 have RL:=hid RO.out.lt
 clear o1 hb hold1 wf1 max1 el1 wa0
 go_enter Tryz.func6,Tryz.ntmps6
 go_upto_region 1 with fail
 rw[←hW1]
 clear hW1
 obtain⟨ob,hob⟩:∃n,w.heap.size=n:=⟨_,rfl⟩
 have OB:=hid hob
 rw[hob] at RO RL ⊢
 clear hob
 go_wp2_with fail
 (with_reducible refine (awake16_any W1 (HB.out.still O1.out)).mono ?_)
 rintro e w2 ⟨rfl,o2⟩
 have O2:=hid (O1.out.same o2)
 have RO2:=hid (o2.still RO.out)
 have RL2:=hid (Nat.lt_of_lt_of_le RL.out o2.size)
 clear o2 RO O1 RL
 obtain⟨xo0,xo1,xo2,xo3,xo4,xo5,xo6,xo7,xo8,xo9,xo10,xo11,xo12,xo13⟩:=fourteen RO2.out
 have SM:=small16_any a0 w2
 unfold Opt.val at SM
 replace SM:=hid SM
 go_wp2_with fail
 (with_reducible refine SM.out.mono ?_)
 rintro e w3 ⟨rfl,o3⟩
 have O3:=hid (O2.out.same o3)
 have RO3:=hid (o3.still RO2.out)
 have RL3:=hid (Nat.lt_of_lt_of_le RL2.out o3.size)
 clear o3 RO2 O2 RL2 SM xo0 xo1 xo2 xo3 xo4 xo5 xo6 xo7 xo8 xo9 xo10 xo11 xo12 xo13
 by_cases hm:a0.MayC
 case neg =>
  have hmb:a0.mayB=false:=decide_eq_false hm
  go_wp2_with fail
  go_ret
  exact⟨rfl,O3.out.to_below17⟩
 have hmb:a0.mayB=true:=decide_eq_true hm
 have HM:=hid hm
 have NW:=lnew (w0:=w) a0 (HB.out.still O3.out) hm O3.out
 unfold ptrTo Opt.val at NW
 replace NW:=hid NW
 obtain⟨xo0,xo1,xo2,xo3,xo4,xo5,xo6,xo7,xo8,xo9,xo10,xo11,xo12,xo13⟩:=fourteen RO3.out
 clear hm
 go_wp2_with fail
 (with_reducible refine NW.out.mono ?_)
 rintro e w4 ⟨p,rfl,⟨c0,h4,z4⟩,o4⟩
 have L4:=hid (show LO w w4 p c0 (1000*0) (2*0) (E0 a0) ob a0 from ⟨h4,rfl,o4.still RO3.out,Classical.byContradiction λq=>by have:=z4 ob q;have:=RL3.out;omega⟩)
 clear h4 z4 o4 NW RO3 O3 RL3 hmb xo0 xo1 xo2 xo3 xo4 xo5 xo6 xo7 xo8 xo9 xo10 xo11 xo12 xo13
 go_upto_block 0 with fail
 go_cut [9] (λ_ wx=>∃(c:Nat→Nat) (E:Eng),LO w wx p c 120000 240 E ob a0)
 case first =>
  go_wp2_with fail
  go_loopw [9] (λi wr=>∃(k:Nat) (c:Nat→Nat) (E:Eng),i=.int .i64 k∧k≤len1∧k≤120∧LO w wr p c (1000*k) (2*k) E ob a0) (λi _=>120-(intOf i).toNat)
  case atStart=>exact⟨0,c0,_,rfl,Nat.zero_le _,Nat.zero_le _,L4.out⟩
  case round =>
   obtain⟨k,c,E,rfl,hk,hk2,hl⟩:=hrel
   have L:=hid hl
   clear hl L4
   have ml:=ML.out
   by_cases hlt:k<len1∧k<120
   ·obtain⟨hlt,hlt2⟩:=hlt
    have t1:decide (k<len1)=true:=decide_eq_true hlt
    have t2:decide (k<120)=true:=decide_eq_true hlt2
    have t3:decide ((k:Int)<120)=true:=decide_eq_true (by omega)
    obtain⟨a,ha⟩:∃a,xs1[k]? = some a:=⟨_,List.getElem?_eq_getElem (by rw[EL.out];exact hlt)⟩
    obtain⟨sb,so,rfl,hsb,AC⟩:=act_more16 HX.out ha
    have AC:=hid AC
    have WA:=hid (WX.out a (List.mem_of_getElem? ha))
    have fF:1000*k+1000<100000000:=by omega
    have fH:2*k+2<1000000:=by omega
    go_upto_region 11 with fail
    refine wp_of_postN (drains11 L.out HM.out WA.out AC hlt ml fF fH _ (by kernel_rfl) _ _ _ _ _ _ _ _ _ _ _ _ _ _ _ _ _ _ _ _ _ _ _ _ _ _ _ _ _ _ _ _ _ _ _ _ _ _ _ _ _ _ _ _ _ _ _ _ _ _ _ _ _ _ _ _ _ _ _ _ _ _ _ _ _ _ _ _ _ _ _ _ _ _ _ _ _ _ _ _ _ _ _ _ _ _ _ _ _ _ _ _ _ _ _ _ _ _ _ _ _ _ _ _ _ _ _ _ _ _ _ _ _ _ _ _ _ _ _ _ _ _ _ _ _ _ _ _ _ _ _ _ _) ?_
    rintro a' w6 ⟨r44,r45,r46,r47,r48,r49,r50,r51,rfl,c6,h6⟩
    (try simp only[Exit.then])
    clear fF fH
    have L6:=hid h6
    have hv:IntKind.i64.wrap ((k:Int)+1)=(k:Int)+1:=by rw[IntKind.wrap_i64];omega
    clear h6 L AC WA t1 t2 t3
    go_wp2_with fail
    go_roundw
    case rel=>exact⟨k+1,c6,_,by go_num,by omega,by omega,by rw[show 1000*(k+1)=1000*k+1000 by omega,show 2*(k+1)=2*k+2 by omega];exact L6.out⟩
    case measure=>simp[intOf];omega
   ·rcases (show len1≤k∨(k<len1∧120≤k) by omega) with q|⟨q,q2⟩
    ·have t1:decide (k<len1)=false:=decide_eq_false (by omega)
     go_wp2_with fail
     go_meet
     case rel=>exact⟨c,E,L.out.up (by omega) (by omega) (by omega) (by omega)⟩
    ·have t1:decide (k<len1)=true:=decide_eq_true q
     have t2:decide (k<120)=false:=decide_eq_false (by omega)
     have t3:decide ((k:Int)<120)=false:=decide_eq_false (by omega)
     go_wp2_with fail
     go_meet
     case rel=>exact⟨c,E,L.out.up (by omega) (by omega) (by omega) (by omega)⟩
 case rest =>
  obtain⟨c,E,hl⟩:=hcut
  have L:=hid hl
  have IV:=hid hl.le.inv
  clear hl L4
  have TI:=ltickets L.out.le
  unfold ptrTo at TI
  replace TI:=hid TI
  go_wp2_with fail
  (with_reducible refine TI.out.mono ?_)
  rintro e w5 ⟨v5,rfl,t5,o5⟩
  obtain⟨vt,vtk,rfl⟩:=owns_formQ t5
  have T5:=hid t5
  have L5:=hid (L.out.still o5)
  have tn:E.tells.length=E.ts.length:=by unfold Eng.tells;rw[List.length_map]
  have tl:=IV.out.tsLe
  obtain⟨nt,hnt⟩:∃n,E.tells.length=n:=⟨_,rfl⟩
  have NT:=hid hnt
  rw[tn] at hnt
  rw[hnt] at tl
  rw[NT.out]
  have TL:=hid tl
  have TK:=hid (show ∀q∈E.tells,0≤q.1.tries∧q.1.tries<a0.b7 from λq hq=>by
   obtain⟨t,ht,rfl⟩:=List.mem_map.1 hq
   have:=IV.out.tkOk ht
   rw[L5.out.opt] at this
   exact⟨this.1,this.2.1⟩)
  have B78:=hid (show 1≤a0.b7∧a0.b7≤8 from by have:=HM.out;unfold Opt.MayC at this;omega)
  clear t5 o5 TI tn hnt tl L
  go_wp2_with fail
  go_loopw [10,12] (λx i wr=>∃(m:Nat) (z:Int),x=.int .i64 z∧z=bound16 a0 (E.tells.take m)∧i=.int .i64 m∧m≤nt∧Only none_ w5 wr) (λ_ i _=>nt-(intOf i).toNat)
  case atStart=>exact⟨0,0,rfl,rfl,rfl,Nat.zero_le _,Only.refl _ _⟩
  case round =>
   obtain⟨m,z,rfl,hz,rfl,hm,om⟩:=hrel
   have OM:=hid om
   have HZ:=hid hz
   have tl:=TL.out
   have ZB:=hid (show 0≤z∧z≤8*m from by
    have:=bound16_bd a0 B78.out.2 (E.tells.take m) (λq hq=>TK.out q (List.mem_of_mem_take hq))
    rw[List.length_take,NT.out,show min m nt=m by omega,←HZ.out] at this
    exact this)
   clear om hz
   by_cases hlm:m<nt
   ·have t7:decide (m<nt)=true:=decide_eq_true hlm
    obtain⟨q,hq⟩:∃q,E.tells[m]? = some q:=⟨_,List.getElem?_eq_getElem (by rw[NT.out];exact hlm)⟩
    obtain⟨g,rfl,TC⟩:=tks_at T5.out hq
    have TC:=hid TC
    have tk:=TK.out q (List.mem_of_getElem? hq)
    have ST:=hid (show bound16 a0 (E.tells.take (m+1))=bound16 a0 (E.tells.take m)+(1+(if 0<q.2 then a0.b7-q.1.tries-1 else 0)) from by rw[List.take_add_one,hq];exact bound16_add _ _ _)
    obtain⟨⟨id,kd,bb,ll,tries,tout,fr,ct,vv⟩,cnt⟩:=q
    dsimp only at tk TC ST
    have b78:=B78.out
    have zb:=ZB.out
    have hv1:IntKind.i64.wrap ((m:Int)+1)=(m:Int)+1:=by rw[IntKind.wrap_i64];omega
    have hv2:IntKind.i64.wrap (z+1)=z+1:=by rw[IntKind.wrap_i64];omega
    have hv3:IntKind.i64.wrap (z+1+a0.b7)=z+1+a0.b7:=by rw[IntKind.wrap_i64];omega
    have hv4:IntKind.i64.wrap (z+1+a0.b7-tries)=z+1+a0.b7-tries:=by rw[IntKind.wrap_i64];omega
    have hv5:IntKind.i64.wrap (z+1+a0.b7-tries-1)=z+1+a0.b7-tries-1:=by rw[IntKind.wrap_i64];omega
    have HV:=hid (show IntKind.i64.wrap (z+1+a0.b7)=z+1+a0.b7∧IntKind.i64.wrap (z+1+a0.b7-tries)=z+1+a0.b7-tries∧IntKind.i64.wrap (z+1+a0.b7-tries-1)=z+1+a0.b7-tries-1 from ⟨hv3,hv4,hv5⟩)
    have n5:wr.cell? ⟨g,m*9+5,none⟩=some (.int .i64 cnt):=(TC.out _ OM.out).2.2.2.2.2.1
    clear hq tk b78 zb hv3 hv4 hv5
    by_cases hc:0<cnt
    ·have t8:decide (0<cnt)=true:=decide_eq_true hc
     rw[if_pos hc] at ST
     go_upto_region 19 with fail
     have n4:wr.cell? ⟨g,m*9+4,none⟩=some (.int .i64 tries):=(TC.out _ OM.out).2.2.2.2.1
     have x7:wr.cell? ⟨ob,7,none⟩=some (.int .i64 a0.b7):=(OM.out.still L5.out.row).cell 7
     obtain⟨hv3,hv4,hv5⟩:=HV.out
     clear n5
     go_region
     all_goals
      clear n4 x7 hv3 hv4 hv5 hv2
      go_wp2_with fail
      go_roundw
      case rel=>exact⟨m+1,_,rfl,by rw[ST.out,HZ.out];omega,by go_num,by omega,OM.out.drew⟩
      case measure=>simp[intOf];omega
    ·have t8:decide (0<cnt)=false:=decide_eq_false hc
     rw[if_neg hc] at ST
     go_wp2_with fail
     go_roundw
     case rel=>exact⟨m+1,_,rfl,by rw[ST.out,HZ.out];omega,by go_num,by omega,OM.out⟩
     case measure=>simp[intOf];omega
   ·have t7:decide (m<nt)=false:=decide_eq_false hlm
    obtain rfl:m=nt:=by omega
    have MB:=hid (show z=E.mass from by rw[HZ.out,←bound16_all E,L5.out.opt,List.take_of_length_le (by rw[NT.out];exact Nat.le_refl _)])
    have L6:=hid (L5.out.still OM.out)
    have ZL:=hid (show 0≤z∧z≤1024 from by have:=ZB.out;have:=TL.out;omega)
    clear HZ ZB OM L5 tl hlm
    go_wp2_with fail
    go_loopw [13,14,15,16,17,18,19,20,21] (λd _ _ _ _ _ _ _ _ wr=>∃(n:Nat) (c:Nat→Nat) (E':Eng),d=.int .i64 n∧E'.mass+n≤z∧LO w wr p c (120000+18000*n) (240+18*n) E' ob a0) (λd _ _ _ _ _ _ _ _ _=>1100-(intOf d).toNat)
    case atStart=>exact⟨0,c,E,rfl,by rw[MB.out];omega,L6.out⟩
    case round =>
     obtain⟨n,c1,E1,rfl,hmz,hl⟩:=hrel
     have L:=hid hl
     have HMZ:=hid hmz
     have NB:=hid (show n≤1024 from by have:=hl.le.inv.mass0;have:=ZL.out;omega)
     clear hl hmz L6
     go_wp2_with fail
     go_loopw [14,15,16,17] (λk _ _ _ wr=>∃(m:Nat) (c:Nat→Nat) (E':Eng),k=.int .i64 m∧E'.mass=E1.mass∧E'.ms.length=E1.ms.length+m∧LO w wr p c (120000+18000*n+1000*m) (240+18*n+m) E' ob a0) (λk _ _ _ _=>20-(intOf k).toNat)
     case atStart=>exact⟨0,c1,E1,rfl,rfl,rfl,L.out⟩
     case round =>
      obtain⟨m',c2,E2,rfl,hm2,hs2,hl⟩:=hrel
      have L2:=hid hl
      have I2:=hid hl.le.inv
      have HM2:=hid hm2
      have HS2:=hid hs2
      have nb:=NB.out
      have b5:a0.b5≤16:=by have:=HM.out;unfold Opt.MayC at this;omega
      have m16:m'≤16:=by have:=hl.le.inv.mlen;rw[hl.opt] at this;omega
      clear hl hm2 hs2
      have t9:decide (m'≤16)=true:=decide_eq_true m16
      have t10:decide ((m':Int)≤16)=true:=decide_eq_true (by omega)
      have CA:=lnext_b 64 L2.out.le (by decide) (by omega) (by omega)
      have NR:=next_room I2.out (room:=64) (by decide)
      have NO:=hid (next_o E2 64)
      have NI:=hid (I2.out.next 64)
      rcases NR with ⟨nr1,nr2,nr3,nr4⟩|⟨nr1,nr2,nr3⟩
      ·have h17:m'<16:=by
        have h:=NI.out.mlen
        rw[NO.out,L2.out.opt,nr4,HS2.out] at h
        omega
       have t11:((m':Int)==16)=false:=by simp;omega
       have t12:(m'==16)=false:=by simp;omega
       have hv:IntKind.i64.wrap ((m':Int)+1)=(m':Int)+1:=by rw[IntKind.wrap_i64];omega
       rw[nr1] at CA
       have CA:=hid CA
       have R2:=hid nr2
       have R4:=hid nr4
       clear nr1 nr2 nr3 nr4 b5
       go_wp2_with fail
       (with_reducible refine CA.out.mono ?_)
       rintro e w8 ⟨tg,wrr,lo,nn,q1,n1,k1,q2,n2,k2,q3,n3,k3,ad,nd,kd,rfl,c3,h8,g8,_,o8⟩
       have L8:=hid (L2.out.to h8 g8 o8 NO.out)
       clear h8 g8 o8 CA L2
       go_wp2_with fail
       go_roundw
       case rel=>exact⟨m'+1,c3,_,by go_num,by rw[R2.out,HM2.out],by rw[R4.out,HS2.out];omega,by rw[show 120000+18000*n+1000*(m'+1)=120000+18000*n+1000*m'+1000 by omega,show 240+18*n+(m'+1)=240+18*n+m'+1 by omega];exact L8.out.still ((Only.refl none_ _).alloc _)⟩
       case measure=>simp[intOf];omega
      ·rw[nr1,nr2] at CA
       have CA:=hid CA
       have R3:=hid nr3
       clear nr1 nr2 nr3 b5
       go_wp2_with fail
       (with_reducible refine CA.out.mono ?_)
       rintro e w8 ⟨tg,wrr,lo,nn,q1,n1,k1,q2,n2,k2,q3,n3,k3,ad,nd,kd,rfl,c3,h8,g8,_,o8⟩
       have L8:=hid (L2.out.to h8 g8 o8 rfl)
       have OU:=hid (λ(W:World) (o:Only none_ w8 W)=>lout (L8.out.still o).le)
       unfold ptrTo at OU
       clear h8 g8 o8 CA L2 t9 t10
       go_wp2_with fail
       (with_reducible refine (OU.out _ ((Only.refl none_ _).alloc _)).mono ?_)
       rintro e w9 ⟨v9,qs,rfl,e9,m9,o9⟩
       obtain⟨va,vk,rfl⟩:=owns_formQ m9.own
       have QS:=hid e9
       have M9:=hid (show MsAt w9 0 (.slice va qs.length vk) qs from ⟨m9.own.lower11 (Nat.zero_le _),λq hq=>(m9.rd q hq).lower (Nat.zero_le _),m9.ap⟩)
       have L9:=hid (L8.out.still (((Only.refl none_ _).alloc _).same o9))
       obtain⟨qn,hqn⟩:∃n,qs.length=n:=⟨_,rfl⟩
       have QN:=hid hqn
       have QM:=hid (show E2.ms.length=qn from by rw[←hqn,←e9,List.length_map])
       have q16:qn≤16:=by have:=L9.out.le.inv.mlen;have:=L9.out.opt;have:=HM.out;unfold Opt.MayC at this;rw[L9.out.opt,QM.out] at *;omega
       rw[hqn] at M9 ⊢
       clear hqn e9 m9 o9 OU L8
       by_cases h0:qn=0
       ·have t13:((qn:Int)==0)=true:=by simp;omega
        have t14:(qn==0)=true:=by simp;omega
        have te:E2.tells=[]:=by
         unfold Eng.tells
         rw[R3.out (List.eq_nil_of_length_eq_zero (by rw[QM.out];exact h0))]
         rfl
        have TI:=ltickets L9.out.le
        unfold ptrTo at TI
        rw[te] at TI
        have TI:=hid TI
        clear te h0
        go_wp2_with fail
        (with_reducible refine TI.out.mono ?_)
        rintro e w10 ⟨v10,rfl,t10,o10⟩
        obtain⟨ta,tk,e10⟩:=owns_formQ t10
        subst e10
        have O10:=hid ((L9.out.still o10).below)
        clear t10 o10 TI
        go_wp2_with fail
        go_ret
        exact⟨rfl,O10.out⟩
       ·have t13:((qn:Int)==0)=false:=by simp;omega
        have t14:(qn==0)=false:=by simp;omega
        have nz:¬ (qn:Int)=0:=by omega
        have GE:=hid (show ∀mv∈E2.ms,∀b:Bool,E2.finishC mv.tag=0∧0≤(E2.finish mv.tag b).mass∧(E2.finish mv.tag b).mass+1≤E2.mass from λmv hmv b=>⟨(finish_mass I2.out hmv b).1,(I2.out.finish mv.tag b).mass0,(finish_mass I2.out hmv b).2.1⟩)
        have nz2:(n:Int)<z:=by
         obtain⟨mv,hmv⟩:=List.exists_mem_of_length_pos (show 0<E2.ms.length by rw[QM.out];omega)
         have h1:=GE.out mv hmv true
         have h2:=HMZ.out
         rw[←HM2.out] at h2
         omega
        have t15:decide (z≤(n:Int))=false:=decide_eq_false (by omega)
        clear h0 nz2 R3
        go_upto_region 35 with fail
        clear t13 t14 t15
        go_cut [109] from 107 to 109 (λv wx=>v=.bool (decide (0<len2))∧wx=w9)
        case first =>
         go_wp2_with fail
         go_meet
         case rel=>exact⟨by simp,rfl⟩
        obtain⟨rfl,rfl⟩:=hcut
        obtain⟨bp,hbp⟩:∃b,decide (0<len2)=b:=⟨_,rfl⟩
        rw[hbp]
        go_upto_if 109 with fail
        go_cut [19] from 110 to 118 (λv wx=>∃x:Int,v=.int .i64 x∧0≤x∧x≤255∧LO w wx p c3 (120000+18000*n+1000*m'+1000) (240+18*n+m'+1) E2 ob a0∧MsAt wx 0 (.slice va qn vk) qs)
        case first =>
         cases bp with
         | true =>
          have hp:0<len2:=of_decide_eq_true hbp
          obtain⟨kk,hkk⟩:∃kk:Nat,(n:Int) % (len2:Int)=(kk:Int):=⟨n % len2,by omega⟩
          have kl:kk<len2:=by have:=Int.emod_lt_of_pos (n:Int) (show (0:Int)<(len2:Int) by omega);omega
          obtain⟨xx,hxx⟩:∃xx,xs2[kk]? = some xx:=⟨_,List.getElem?_eq_getElem (by rw[EL2.out];exact kl)⟩
          obtain⟨bb,bo,rfl,hbl,bc⟩:=byte_at HX2.out (L9.out.below) hxx
          have xb:=WX2.out xx (List.mem_of_getElem? hxx)
          obtain⟨xb0,xb1⟩:=xb
          have lz:¬ (len2:Int)=0:=by omega
          have lz2:¬ len2=0:=by omega
          have ml2:=ML2.out
          have XB:=hid (And.intro xb0 xb1)
          clear hxx hp hbl hbp
          go_upto_region 36 with fail
          go_wp2_with fail
          go_meet
          case rel=>exact⟨xx,by first | rfl | (congr 1;rw[IntKind.wrap_i64];omega),XB.out.1,XB.out.2,L9.out,M9.out⟩
         | false =>
          go_wp2_with fail
          go_meet
          case rel=>exact⟨0,rfl,by omega,by omega,L9.out,M9.out⟩
        case rest =>
         obtain⟨x,rfl,x0,x255,hl9,hm9⟩:=hcut
         have L10:=hid hl9
         have M10:=hid hm9
         have qp:(0:Int)<(qn:Int):=by omega
         obtain⟨j,hj⟩:∃j:Nat,x / 2 % (qn:Int)=(j:Int):=⟨(x / 2 % (qn:Int)).toNat,by have:=Int.emod_nonneg (x / 2) nz;omega⟩
         have jl:j<qn:=by have:=Int.emod_lt_of_pos (x / 2) qp;omega
         obtain⟨wl,hw⟩:∃b:Bool,(x % 2==1)=b:=⟨_,rfl⟩
         obtain⟨q,hq⟩:∃q,qs[j]? = some q:=⟨_,List.getElem?_eq_getElem (by rw[QN.out];exact jl)⟩
         obtain⟨g,a1,l1,a2,l2,a3,l3,rfl,_,MC⟩:=ms_at M10.out hq
         have hmq:q.1∈E2.ms:=by rw[←QS.out];exact List.mem_map.2 ⟨q,List.mem_of_getElem? hq,rfl⟩
         obtain⟨g1,g2,g3⟩:=GE.out q.1 hmq wl
         have tg0:=L10.out.le.inv.tagr q.1 hmq
         have tgB:E2.ng≤240+18*n+m'+1:=by obtain⟨X,ks,k⟩:=L10.out.le.ep;exact k.ngH
         have m0:=(MC _ (Only.refl _ _)).1
         obtain⟨tag,htag⟩:∃t,q.1.tag=t:=⟨_,rfl⟩
         rw[htag] at m0 g1 g2 g3 tg0
         have CF:=lfinish_is tag wl L10.out.le (wf_i _ (by omega)) (by omega)
         rw[g1] at CF
         have CF:=hid CF
         have FO:=hid (finish_o E2 tag wl)
         have G3:=hid g3
         have hv:IntKind.i64.wrap ((n:Int)+1)=(n:Int)+1:=by rw[IntKind.wrap_i64];omega
         have HJ:=hid hj
         have HW:=hid hw
         clear hl9 hm9 MC hq hmq g1 g2 g3 tg0 tgB htag qp M9 L9 M10
         go_wp2_with fail
         clear hj hw
         (with_reducible refine CF.out.mono ?_)
         rintro e w11 ⟨ad',nd',kd',rfl,c4,h11,g11,o11⟩
         have L11:=hid (L10.out.to h11 g11 o11 FO.out)
         clear h11 g11 o11 CF L10
         go_wp2_with fail
         go_roundw
         case rel=>exact⟨n+1,c4,_,by go_num,by have:=G3.out;have:=HMZ.out;have:=HM2.out;omega,L11.out.up (by omega) (by omega) (by omega) (by omega)⟩
         case measure=>simp[intOf];omega
end Go.Proofs.YtfbpjobobdidiaaGreatDoor.fetchDrains
