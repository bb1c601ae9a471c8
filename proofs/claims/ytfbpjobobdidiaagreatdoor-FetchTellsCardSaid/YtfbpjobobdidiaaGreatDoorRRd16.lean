/- Package fetch's Read. -/
import Derived.Test.YtfbpjobobdidiaaGreatDoorRG29
namespace Go.Proofs.YtfbpjobobdidiaaGreatDoor
open Lib (hid)
open Go.Proofs.Tryz
open Go.RowKit Go.Maps
set_option linter.unusedVariables false
set_option maxRecDepth 100000
section
variable {p:Nat} {c:Nat→Nat} {X:Loc} {F H:Nat} {ks:List Tk} {E:Eng}
def Eng.tk (E:Eng) (x:Int):Tk:=(at16 E.ts x).getD default
def readV (E:Eng) (b l:Int) (x:Wt):Value:=if E.readC b l x=0 then ((E.read b l x).tk (E.readT b)).told ((E.read b l x).cnt (E.readT b)) else noTk
def readJ (E:Eng) (b l:Int) (x:Wt):Bool:=decide (E.readC b l x=0)&&joins (E.last b)
def readL (E:Eng) (b l:Int) (x:Wt):Bool:=decide (E.readC b l x=0)&&joins (E.last b)&&decide (((E.last b).getD default).kind=3)
def readA (E:Eng) (b l:Int) (x:Wt):Value:=.tuple #[readV E b l x,.bool (readJ E b l x),.bool (readL E b l x),.int .i64 (E.readC b l x)]
theorem read_yes {E:Eng} (iv:Inv E) {b l:Int} {x:Wt} (h:E.readC b l x=0) {t:Tk} (ht:t∈(E.readB b).ts) (e:t.id=E.readT b) :
  readA E b l x=.tuple #[(t.list l).told ((E.read b l x).cnt t.id),.bool (joins (E.last b)),.bool (joins (E.last b)&&decide (((E.last b).getD default).kind=3)),.int .i64 0]∧E.read b l x=((E.readB b).upd t.id (Tk.list l)).add t.id x:=by
 have e1:E.read b l x=((E.readB b).upd t.id (Tk.list l)).add t.id x:=by unfold Eng.read;rw[if_pos h,e]
 have m:t.list l∈(E.read b l x).ts:=by rw[e1];exact mem_upd (Tk.list l) ht
 have tk:(E.read b l x).tk (E.readT b)=t.list l:=by
  unfold Eng.tk
  rw[←e,show t.id=(t.list l).id from rfl,find16 (iv.read b l x).ids m]
  rfl
 refine⟨?_,e1⟩
 unfold readA readV readJ readL
 rw[if_pos h,tk,h,e]
 rfl
theorem read_no {E:Eng} {b l:Int} {x:Wt} (h:E.readC b l x≠0):readA E b l x=.tuple #[noTk,.bool false,.bool false,.int .i64 (E.readC b l x)]∧E.read b l x=E:=by
 unfold readA readV readJ readL Eng.read
 rw[if_neg h,if_neg h,decide_eq_false h]
 exact⟨rfl,rfl⟩
theorem lexRead3:Region.lexB .any (opsAt Tryz.f21 3).toArray=true:=by kernel_rfl
set_option maxHeartbeats 4000000 in
theorem eread_any (b l:Int) (x:Wt) (w:World) (h:EP w p c X F H ks E) (iv:Inv E) (wx:wfW x) (hF:F+10<100000000) (hH:H+2<1000000) :
  Calls prog 21 #[pT p,.int .i64 b,.int .i64 l,x.val] w λe w'=>e=.returned (readA E b l x)∧EGto w p c (F+10) (H+2) (E.read b l x) w':=by
 obtain⟨W1,hW1⟩:∃W1,W1=(w.alloc (.cells #[.int .i64 x.r,.int .i64 x.p] 36)).alloc (.cells #[.int .i64 0,.int .i64 0,.int .i64 0,.int .i64 0,.int .i64 0,.int .i64 0,.bool false,.bool false,.bool false] 54):=⟨_,rfl⟩
 obtain⟨bx,tx,o1⟩:=two_new16 w 36 54 #[.int .i64 x.r,.int .i64 x.p] #[.int .i64 0,.int .i64 0,.int .i64 0,.int .i64 0,.int .i64 0,.int .i64 0,.bool false,.bool false,.bool false]
 rw[←hW1] at bx tx o1
 have h1:=h.still o1
 have HB:=hid (ehas_any b W1 h1)
 have ND:=hid (λw' (o:Only n_ W1 w')=>eneed_any b w' (h1.still o))
 have RF:=hid (λw' (o:Only n_ W1 w')=>erefuse_any x (E.needs b) w' (h1.still o) wx)
 have LA:=hid (λw' (o:Only n_ W1 w')=>elast_any b w' (h1.still o))
 have BX:=hid bx
 have TX:=hid tx
 have O1:=hid o1
 have H1:=hid h1
 have IV:=hid iv
 have WX:=hid wx
 have HFF:=hid hF
 have HH:=hid hH
 have Z0:=hid (h.zero (Nat.le_refl _))
 have Z1:=hid (h.zero (Nat.le_succ w.heap.size))
 have lp:=h.eo.row.lt
 have ls1:=tx.lt
 clear h h1 iv wx hF hH bx tx o1
 have NO:=hid (@read_no E b l x)
 have EC:=hid (show E.readC b l x=if E.has b=true∧(l=0∨l=1) then E.refC x (E.needs b) else 1 from rfl)
 unfold pT at HB ND RF LA
 unfold Wt.val at *
 unfold pT
 cases hb:E.has b with
 | false =>
  rw[hb] at HB
  have C1:=hid (show E.readC b l x=1 from by rw[EC.out,hb];rfl)
  clear hb
  go_enter func21,ntmps21
  go_wp2_with fail
  rw[←hW1]
  clear hW1
  (with_reducible refine HB.out.mono ?_)
  rintro e w2 ⟨rfl,o2⟩
  have O2:=hid o2
  clear o2
  have T2:=hid (O2.out.still TX.out)
  have H2:=hid (H1.out.still O2.out)
  obtain⟨d0,d1,d2,d3,d4,d5,d6,d7,d8⟩:=T2.out.nine
  have z0:=T2.out.frozen 0
  have z1:=T2.out.frozen 1
  have z2:=T2.out.frozen 2
  have z3:=T2.out.frozen 3
  have z4:=T2.out.frozen 4
  have z5:=T2.out.frozen 5
  have z6:=T2.out.frozen 6
  have z7:=T2.out.frozen 7
  have z8:=T2.out.frozen 8
  have l2:=T2.out.lt
  have NO2:=hid (NO.out (by rw[C1.out];decide))
  go_wp2_with fail
  refine bodyPost_ret (results_row3 rfl _ _ (w.heap.size+1) _ _ _ rfl (Row.zero9 T2.out) underlying54 rfl info_tick) rfl ⟨?_,?_⟩
  ·rw[NO2.out.1,C1.out];rfl
  ·rw[NO2.out.2]
   exact EGto.fin H2.out O1.out (Gw.refl _ _) O2.out.up (Nat.le_succ _) Z1.out (only9' (Only.refl (λg=>g=w.heap.size+1) w2) (λ_=>rfl) _ _ _ _ _ _ _ _ _) (by omega) (by omega) HFF.out HH.out
 | true =>
  rw[hb] at HB
  by_cases hl:l=0∨l=1
  ·have EC2:=hid (show E.readC b l x=E.refC x (E.needs b) from by rw[EC.out,if_pos ⟨hb,hl⟩])
   rw[←EC2.out] at RF
   have HS:=hid hb
   have DD:(l != 0)=false∨(l != 0)=true∧(l != 1)=false:=by
    rcases hl with q | q
    ·exact .inl (by rw[q];rfl)
    ·exact .inr ⟨by rw[q];rfl,by rw[q];rfl⟩
   clear hb hl
   rcases DD with d0|⟨d0,d1⟩
   all_goals
    go_enter func21,ntmps21
    go_wp2_with fail
    rw[←hW1]
    clear hW1
    (with_reducible refine HB.out.mono ?_)
    rintro e w2 ⟨rfl,o2⟩
    have O2:=hid o2
    have CN:=hid (λi:After w2=>Calls.after i (ND.out i.val (o2.same i.only)))
    have CR:=hid (λi:After w2=>Calls.after i (RF.out i.val (o2.same i.only)))
    have b20:∀i:After w2,i.val.cell? ⟨w.heap.size,0,none⟩=some (.int .i64 x.r):=λi=>(i.only.still (o2.still BX.out)).cell 0
    have b21:∀i:After w2,i.val.cell? ⟨w.heap.size,1,none⟩=some (.int .i64 x.p):=λi=>(i.only.still (o2.still BX.out)).cell 1
    clear o2
    go_upto_region 3 with fail
    refine wp_region_after (w0:=w2) (by kernel_rfl) (lex_from lexRead3 (by kernel_rfl)) (Only.refl _ _) ?_
    repeat (go_big_quiet_step (first | (with_reducible exact CN.out _) | (with_reducible exact CR.out _)))
    refine wpQuiet_nil ?_
    intro w4 hw'
    obtain⟨i4,e4⟩:=hw'
    have o4:=i4.only
    rw[←e4] at o4
    clear e4 i4
    have O4:=hid (O2.out.same o4)
    clear o4 b20 b21 CN CR
    by_cases hc:E.readC b l x=0
    ·have HC:=hid hc
     rw[hc]
     have LL:=hid (LA.out w4 O4.out)
     cases j:joins (E.last b) with
     | false =>
      have J:=hid j
      obtain⟨a,ha⟩:=optPtr_form X.A (E.last b)
      have LL:=LL.out
      rw[ha] at LL
      have LL:=hid LL
      have EJ:=hid (λw' (o:Only n_ W1 w')=>show Calls prog 66 #[.pointer a] w' λe w''=>e=.returned (.bool false)∧Only n_ w' w'' from by
       have:=ejoin_any X.A (E.last b) w' ((H1.out.still o).lastRow b)
       rw[ha,j] at this
       exact this)
      have NDT:E.needs b=true:=by unfold Eng.needs;rw[HS.out,j];rfl
      obtain⟨r1,r2,r3,r4⟩:=refC_ok IV.out (by rw[←EC2.out];exact hc)
      obtain⟨m1,m2,m3⟩:=room16 IV.out (kind:=1) (by rw[if_neg (by decide)];exact r4 NDT)
      have RM:=hid (show putC E.o.b3.toNat E.o.b4.toNat E.qs (E.nt+1) ((1:Int)==3)=0∧E.ts.length<128∧(E.ts.length:Int)<E.o.b3+E.o.b4 from ⟨m1,m2,m3⟩)
      have ADD:=hid (λt (ht:1≤t)=>addS_ok (E:=E) (t:=t) ht r1 r2 r3)
      clear j ha hc NDT r1 r2 r3 r4 m1 m2 m3
      go_wp2_with fail
      (with_reducible refine LL.out.mono ?_)
      rintro e w5 ⟨rfl,o5⟩
      have O5:=hid (O4.out.same o5)
      clear o5
      go_wp2_with fail
      (with_reducible refine (EJ.out w5 O5.out).mono ?_)
      rintro e w6 ⟨rfl,o6⟩
      have O6:=hid (O5.out.same o6)
      clear o6
      have EN:=eenter_any 1 b w6 (H1.out.still O6.out) HS.out RM.out.1 RM.out.2.1 RM.out.2.2 (by have:=HFF.out;omega) (by have:=HH.out;omega)
      unfold pT at EN
      have EN:=hid EN
      go_wp2_with fail
      (with_reducible refine EN.out.mono ?_)
      rintro e w7 ⟨g5,rfl,⟨c7,h7,gw7⟩,lg7,o7⟩
      have HP:=hid h7
      have hg5:(X.with (E.nt+1) g5).A (E.new 1 b).id=g5:=if_pos rfl
      have TK:=hid (show E.new 1 b∈ks++[E.new 1 b] from by simp)
      have TE:=hid (show E.new 1 b∈(E.enter 1 b).ts from List.mem_append_right _ (by simp))
      have OO:=hid (Gw.only (S:=λg=>c g≠0∧c g≠6) O6.out.up (Gw.refl W1 c) o7 (λg e=>e.1))
      have GO:=hid (Gw.next (O6.out.up (S:=λg=>c g≠0)) (Gw.refl W1 c) gw7)
      have RB:=hid (show E.readB b=E.enter 1 b from by unfold Eng.readB;rw[J.out];rfl)
      have RT:=hid (show E.readT b=(E.new 1 b).id from by unfold Eng.readT;rw[J.out];rfl)
      clear h7 o7 gw7 lg7 EN EJ LL
      have GA:=hid hg5
      have r5:=(HP.out.eo.tk _ TK.out).1
      have nz:=(HP.out.eo.tk _ TK.out).2
      rw[hg5] at r5 nz
      have lg5:=r5.lt
      have q3:w7.cell? ⟨g5,3,none⟩=some (.int .i64 (E.new 1 b).l):=r5.cell 3
      have f3:w7.frozen? ⟨g5,3,none⟩=false:=r5.frozen 3
      obtain⟨w6,hw6⟩:∃w6,w6=w7.setCell ⟨g5,3,none⟩ (.int .i64 l):=⟨_,rfl⟩
      have h6:=HP.out.put TK.out (Tk.list l) (soft_list l).keeps 3 (.int .i64 l) rfl
      rw[hg5,←hw6] at h6
      have o6:Only (λk=>k=g5) w7 w6:=by rw[hw6];exact (Only.refl (λk=>k=g5) w7).into rfl _ _
      have O6:=hid (Gw.only OO.out GO.out o6 (λg e=>by rw[e,nz];decide))
      have G6:=hid (show Gw W1 c c7 from GO.out)
      have od:Only n_ w6 w6.drew:=(Only.refl _ _).drew
      have tm6:(Tk.list l) (E.new 1 b)∈upd (ks++[E.new 1 b]) (E.new 1 b).id (Tk.list l):=mem_upd (Tk.list l) TK.out
      have te6:(Tk.list l) (E.new 1 b)∈(((E.enter 1 b)).upd (E.new 1 b).id (Tk.list l)).ts:=mem_upd (Tk.list l) TE.out
      have WA:=wadd_any (E.new 1 b).id x w6.drew (h6.still od).eo.wg WX.out HP.out.hH
      rw[show addS (((E.enter 1 b)).upd (E.new 1 b).id (Tk.list l)).o.b9.toNat (((E.enter 1 b)).upd (E.new 1 b).id (Tk.list l)).g (E.new 1 b).id x=((E.enter 1 b)).g++[⟨(E.new 1 b).id,x⟩] from ADD.out _ (by show 1≤(E.nt:Int)+1;omega)] at WA
      have H6:=hid h6
      have ZB:=hid (GO.out.zero Z0.out (Nat.lt_of_succ_lt ls1))
      have TM:=hid tm6
      have TE6:=hid te6
      have y16:w6.drew.cell? ⟨p,16,none⟩=some (.pointer (some ⟨(X.with (E.nt+1) g5).pg,0,none⟩)):=h6.cell 16
      have nz6:=(h6.eo.tk _ tm6).2
      have yt:=(h6.eo.tk _ tm6).1
      rw[show (Tk.list l (E.new 1 b)).id=(E.new 1 b).id from rfl,hg5] at yt
      have y0:w6.drew.cell? ⟨g5,0,none⟩=some (.int .i64 (E.new 1 b).id):=yt.cell 0
      have yb:=O6.out.row BX.out (λe=>e (Z0.out))
      have b0:w6.drew.cell? ⟨w.heap.size,0,none⟩=some (.int .i64 x.r):=yb.cell 0
      have b1:w6.drew.cell? ⟨w.heap.size,1,none⟩=some (.int .i64 x.p):=yb.cell 1
      rw[show (Tk.list l (E.new 1 b)).id=(E.new 1 b).id from rfl,hg5] at nz6
      have KS:=hid (λw7 (k7:Only (λg=>c7 g=4) w6.drew w7)=>show w7.cell? ⟨p,16,none⟩=some (.pointer (some ⟨(X.with (E.nt+1) g5).pg,0,none⟩))∧w7.cell? ⟨g5,0,none⟩=some (.int .i64 (E.new 1 b).id)∧w7.cell? ⟨w.heap.size,0,none⟩=some (.int .i64 x.r)∧w7.cell? ⟨w.heap.size,1,none⟩=some (.int .i64 x.p) from
       ⟨k7.cell y16 (λe=>by have e1:c7 p=4:=e;rw[h6.eo.cp] at e1;cases e1),k7.cell y0 (λe=>by have e1:c7 g5=4:=e;rw[nz6] at e1;cases e1),k7.cell b0 (λe=>by have e1:c7 w.heap.size=4:=e;rw[ZB.out] at e1;cases e1),k7.cell b1 (λe=>by have e1:c7 w.heap.size=4:=e;rw[ZB.out] at e1;cases e1)⟩)
      clear h6 tm6 te6 o6 od yt yb hg5 r5 nz nz6 ZB
      unfold Wt.val at WA
      have WA:=hid WA
      go_wp2_with fail
      rw[←hw6]
      clear hw6 q3 f3
      go_region_held3 (λw'=>w'.cell? ⟨p,16,none⟩=some (.pointer (some ⟨(X.with (E.nt+1) g5).pg,0,none⟩))∧w'.cell? ⟨g5,0,none⟩=some (.int .i64 (E.new 1 b).id)∧w'.cell? ⟨w.heap.size,0,none⟩=some (.int .i64 x.r)∧w'.cell? ⟨w.heap.size,1,none⟩=some (.int .i64 x.p))
       (first | (with_reducible exact KS.out _ K7.out) | (with_reducible exact⟨y16,y0,b0,b1⟩) | fail)
       (first
        | (go_at_call 69;(with_reducible refine WA.out.mono ?_);rintro e w7 ⟨rfl,k7⟩;have K7:=hid k7.2)
        | fail)
      all_goals
       obtain⟨c7,h7,g7,o7⟩:=(H6.out.still ((Only.refl _ _).drew)).waiters (Nat.le_succ _) (by have:=HH.out;omega) k7
       have O7:=hid (Gw.only O6.out G6.out (((Only.refl n_ w6).drew).then_ o7) (λg e=>by rw[e];decide))
       have G7:=hid (Gw.next (O6.out.idle ((Only.refl n_ w6).drew)) G6.out g7)
       have H7:=hid h7
       have r7:=(h7.eo.tk _ TM.out).1
       rw[show (Tk.list l (E.new 1 b)).id=(E.new 1 b).id from rfl,GA.out] at r7
       have TD:=etold_any (Tk.list l (E.new 1 b)) g5 w7 h7 r7
       obtain⟨tv,htv⟩:∃tv,tv=(Tk.list l) (E.new 1 b):=⟨_,rfl⟩
       rw[←htv] at TD
       generalize hn:Eng.cnt _ tv.id=n at TD
       unfold pT Tk.told at TD
       have TD:=hid TD
       have TV:=hid htv
       have HN:=hid hn
       clear htv hn
       clear k7 g7 o7 r7 WA y16 y0 b0 b1 h7
       go_wp2_with fail
       (with_reducible refine TD.out.mono ?_)
       rintro e w8 ⟨rfl,o8⟩
       have O8:=hid (O7.out.idle o8)
       have T8:=hid (O8.out.row TX.out (λe=>e Z1.out))
       have H8:=hid (H7.out.still o8)
       clear o8 TD
       obtain⟨d0,d1,d2,d3,d4,d5,d6,d7,d8⟩:=T8.out.nine
       have z0:=T8.out.frozen 0
       have z1:=T8.out.frozen 1
       have z2:=T8.out.frozen 2
       have z3:=T8.out.frozen 3
       have z4:=T8.out.frozen 4
       have z5:=T8.out.frozen 5
       have z6:=T8.out.frozen 6
       have z7:=T8.out.frozen 7
       have z8:=T8.out.frozen 8
       have l8:=T8.out.lt
       go_wp2_with fail
       have RY:=read_yes IV.out HC.out (t:=(E.new 1 b)) (by rw[RB.out];exact TE.out) RT.out.symm
       refine bodyPost_ret (results_row3 rfl _ _ (w.heap.size+1) _ _ _ rfl (Row.tick9 T8.out tv n) underlying54 rfl info_tick) rfl ⟨?_,?_⟩
       ·rw[RY.1,RY.2,RB.out,J.out,←HN.out,TV.out]
        rfl
       ·rw[RY.2,RB.out]
        exact EGto.fin H8.out O1.out G7.out O8.out (Nat.le_succ _) (G7.out.zero Z1.out ls1) (only9' (Only.refl (λg=>g=w.heap.size+1) _) (λ_=>rfl) _ _ _ _ _ _ _ _ _) (by omega) (by omega) HFF.out HH.out
     | true =>
      obtain⟨t,hlt,k2,hcut⟩:=joins_some j
      obtain⟨tm,tb⟩:=mem_last hlt
      have J:=hid j
      have LT:=hid hlt
      have TM0:=hid tm
      have TKS:=hid (H1.out.sub t tm)
      have T1:=hid (IV.out.idr t tm).1
      obtain⟨g5,hg5⟩:∃g5,X.A t.id=g5:=⟨_,rfl⟩
      have HG5:=hid hg5
      have EJ:=hid (λw' (o:Only n_ W1 w')=>show Calls prog 66 #[.pointer (some ⟨g5,0,none⟩)] w' λe w''=>e=.returned (.bool true)∧Only n_ w' w'' from by
       have:=ejoin_any X.A (E.last b) w' ((H1.out.still o).lastRow b)
       rw[hlt] at this
       have j2:joins (some t)=true:=by rw[←hlt];exact j
       rw[j2] at this
       unfold optPtr pT at this
       simp only[hg5] at this
       exact this)
      have LL:=LL.out
      rw[hlt] at LL
      unfold optPtr pT at LL
      simp only[hg5] at LL
      have LL:=hid LL
      obtain⟨r1,r2,r3,r4⟩:=refC_ok IV.out (by rw[←EC2.out];exact hc)
      have ADD:=hid (λt (ht:1≤t)=>addS_ok (E:=E) (t:=t) ht r1 r2 r3)
      have FD:=hid r4
      clear j hlt hc r1 r2 r3 r4 k2 hcut tm tb
      go_wp2_with fail
      (with_reducible refine LL.out.mono ?_)
      rintro e w5 ⟨rfl,o5⟩
      have O5:=hid (O4.out.same o5)
      clear o5
      go_wp2_with fail
      (with_reducible refine (EJ.out w5 O5.out).mono ?_)
      rintro e wj ⟨rfl,o6⟩
      have O6:=hid (O5.out.same o6)
      clear o6 LL EJ
      have R6:=hid (((H1.out.still O6.out).eo.tk t TKS.out).1)
      have nz0:=((H1.out.still O6.out).eo.tk t TKS.out).2
      rw[hg5] at nz0
      have NZ:=hid nz0
      clear nz0
      have q1:wj.cell? ⟨g5,1,none⟩=some (.int .i64 t.kind):=by
       have:=R6.out.cell 1
       rw[hg5] at this
       exact this
      by_cases k3:t.kind=3
      ·have K3:=hid k3
       have dk:(t.kind==3)=true:=by rw[k3];rfl
       have NDT:E.needs b=true:=by
        unfold Eng.needs
        rw[HS.out,J.out,LT.out]
        simp[isRead,k3]
       have aq:=IV.out.atq TM0.out
       have fd:=FD.out NDT
       have PC:promC E.o.b3.toNat E.qs t.id=0:=by
        unfold promC
        have a3:t.sl.a=true:=by show (t.kind==3)=true;rw[k3];rfl
        have h1:=IV.out.fewd
        unfold Eng.fd at fd
        rw[aq.2,aq.1,a3,if_pos rfl,if_pos rfl,if_neg (by omega)]
       have PS:promS E.o.b3.toNat E.qs t.id=cutL E.qs t.id++[⟨t.id,false,(atL E.qs t.id).s⟩]:=by unfold promS;rw[if_pos PC]
       have h6d:=(H1.out.still O6.out).still ((Only.refl n_ wj).drew)
       have TP:=tpromF t.id h6d.eo.tn (wf_id H1.out TKS.out) (by have:=HFF.out;omega)
       rw[PC,PS] at TP
       have TP:=hid TP
       have H6:=hid h6d
       have y15:wj.drew.cell? ⟨p,15,none⟩=some (.pointer (some ⟨X.pt,0,none⟩)):=h6d.cell 15
       have y0:wj.drew.cell? ⟨g5,0,none⟩=some (.int .i64 t.id):=by
        have:=R6.out.cell 0
        rw[hg5] at this
        exact this
       clear NDT aq fd PC PS h6d k3
       go_wp2_with fail
       go_region_with (first
        | (go_at_call 68;(with_reducible refine TP.out.mono ?_);rintro e w7 ⟨rfl,t7,o7⟩)
        | fail)
       all_goals
        have h7:=H6.out.turned (by have:=HFF.out;omega) t7 o7
        have r7:=(h7.eo.tk t TKS.out).1
        have OO7:=hid (Gw.only (S:=two12 X.pt X.bq) (O6.out.drew.up (S:=λg=>c g≠0)) (Gw.refl W1 c) o7 (λg e=>by rcases e with e | e;(rw[e,H1.out.eo.ct.1];decide);(rw[e,H1.out.eo.ct.2];decide)))
        rw[hg5] at r7
        have lg7:=r7.lt
        have p1:w7.cell? ⟨g5,1,none⟩=some (.int .i64 t.kind):=r7.cell 1
        have f1:w7.frozen? ⟨g5,1,none⟩=false:=r7.frozen 1
        obtain⟨w8,hw8⟩:∃w8,w8=w7.setCell ⟨g5,1,none⟩ (.int .i64 1):=⟨_,rfl⟩
        have h8:=h7.put TKS.out Tk.read keeps_read 1 (.int .i64 1) rfl
        rw[hg5,←hw8] at h8
        have o8:Only (λk=>k=g5) w7 w8:=by rw[hw8];exact (Only.refl (λk=>k=g5) w7).into rfl _ _
        have HP:=hid (show EP w8 p c X (F+1) H (upd ks t.id Tk.read) ((E.prom t.id).upd t.id Tk.read) from h8)
        have OO:=hid (Gw.only OO7.out (Gw.refl W1 c) o8 (λg e=>by rw[e,NZ.out];decide))
        have GO:=hid (Gw.refl W1 c)
        have TK:=hid (mem_upd Tk.read TKS.out)
        have TE:=hid (show t.read∈((E.prom t.id).upd t.id Tk.read).ts from mem_upd Tk.read TM0.out)
        have RB:=hid (show E.readB b=(E.prom t.id).upd t.id Tk.read from by unfold Eng.readB Eng.readT;rw[J.out,LT.out,if_pos rfl,Option.getD_some,if_pos K3.out,if_pos rfl])
        have RT:=hid (show E.readT b=t.read.id from by unfold Eng.readT;rw[J.out,LT.out,if_pos rfl];rfl)
        have DK:=hid (show decide (t.kind=3)=true from decide_eq_true K3.out)
        clear h7 r7 h8 o8 t7 o7 TP y15 y0 q1 dk
        go_upto_region 14 with fail
        rw[←hw8]
        clear hw8 p1 f1 lg7
        have hg5:X.A t.read.id=g5:=HG5.out
        have GA:=hid hg5
        have r5:=(HP.out.eo.tk _ TK.out).1
        have nz:=(HP.out.eo.tk _ TK.out).2
        rw[hg5] at r5 nz
        have lg5:=r5.lt
        have q3:w8.cell? ⟨g5,3,none⟩=some (.int .i64 t.read.l):=r5.cell 3
        have f3:w8.frozen? ⟨g5,3,none⟩=false:=r5.frozen 3
        obtain⟨w6,hw6⟩:∃w6,w6=w8.setCell ⟨g5,3,none⟩ (.int .i64 l):=⟨_,rfl⟩
        have h6:=HP.out.put TK.out (Tk.list l) (soft_list l).keeps 3 (.int .i64 l) rfl
        rw[hg5,←hw6] at h6
        have o6:Only (λk=>k=g5) w8 w6:=by rw[hw6];exact (Only.refl (λk=>k=g5) w8).into rfl _ _
        have O6:=hid (Gw.only OO.out GO.out o6 (λg e=>by rw[e,nz];decide))
        have G6:=hid (show Gw W1 c c from GO.out)
        have od:Only n_ w6 w6.drew:=(Only.refl _ _).drew
        have tm6:(Tk.list l) t.read∈upd (upd ks t.id Tk.read) t.read.id (Tk.list l):=mem_upd (Tk.list l) TK.out
        have te6:(Tk.list l) t.read∈((((E.prom t.id).upd t.id Tk.read)).upd t.read.id (Tk.list l)).ts:=mem_upd (Tk.list l) TE.out
        have WA:=wadd_any t.read.id x w6.drew (h6.still od).eo.wg WX.out HP.out.hH
        rw[show addS ((((E.prom t.id).upd t.id Tk.read)).upd t.read.id (Tk.list l)).o.b9.toNat ((((E.prom t.id).upd t.id Tk.read)).upd t.read.id (Tk.list l)).g t.read.id x=(((E.prom t.id).upd t.id Tk.read)).g++[⟨t.read.id,x⟩] from ADD.out _ T1.out] at WA
        have H6:=hid h6
        have ZB:=hid (GO.out.zero Z0.out (Nat.lt_of_succ_lt ls1))
        have TM:=hid tm6
        have TE6:=hid te6
        have y16:w6.drew.cell? ⟨p,16,none⟩=some (.pointer (some ⟨X.pg,0,none⟩)):=h6.cell 16
        have nz6:=(h6.eo.tk _ tm6).2
        have yt:=(h6.eo.tk _ tm6).1
        rw[show (Tk.list l t.read).id=t.read.id from rfl,hg5] at yt
        have y0:w6.drew.cell? ⟨g5,0,none⟩=some (.int .i64 t.read.id):=yt.cell 0
        have yb:=O6.out.row BX.out (λe=>e (Z0.out))
        have b0:w6.drew.cell? ⟨w.heap.size,0,none⟩=some (.int .i64 x.r):=yb.cell 0
        have b1:w6.drew.cell? ⟨w.heap.size,1,none⟩=some (.int .i64 x.p):=yb.cell 1
        rw[show (Tk.list l t.read).id=t.read.id from rfl,hg5] at nz6
        have KS:=hid (λw7 (k7:Only (λg=>c g=4) w6.drew w7)=>show w7.cell? ⟨p,16,none⟩=some (.pointer (some ⟨X.pg,0,none⟩))∧w7.cell? ⟨g5,0,none⟩=some (.int .i64 t.read.id)∧w7.cell? ⟨w.heap.size,0,none⟩=some (.int .i64 x.r)∧w7.cell? ⟨w.heap.size,1,none⟩=some (.int .i64 x.p) from
         ⟨k7.cell y16 (λe=>by have e1:c p=4:=e;rw[h6.eo.cp] at e1;cases e1),k7.cell y0 (λe=>by have e1:c g5=4:=e;rw[nz6] at e1;cases e1),k7.cell b0 (λe=>by have e1:c w.heap.size=4:=e;rw[ZB.out] at e1;cases e1),k7.cell b1 (λe=>by have e1:c w.heap.size=4:=e;rw[ZB.out] at e1;cases e1)⟩)
        clear h6 tm6 te6 o6 od yt yb hg5 r5 nz nz6 ZB
        unfold Wt.val at WA
        have WA:=hid WA
        go_wp2_with fail
        rw[←hw6]
        clear hw6 q3 f3
        go_region_held3 (λw'=>w'.cell? ⟨p,16,none⟩=some (.pointer (some ⟨X.pg,0,none⟩))∧w'.cell? ⟨g5,0,none⟩=some (.int .i64 t.read.id)∧w'.cell? ⟨w.heap.size,0,none⟩=some (.int .i64 x.r)∧w'.cell? ⟨w.heap.size,1,none⟩=some (.int .i64 x.p))
         (first | (with_reducible exact KS.out _ K7.out) | (with_reducible exact⟨y16,y0,b0,b1⟩) | fail)
         (first
          | (go_at_call 69;(with_reducible refine WA.out.mono ?_);rintro e w7 ⟨rfl,k7⟩;have K7:=hid k7.2)
          | fail)
        all_goals
         obtain⟨c7,h7,g7,o7⟩:=(H6.out.still ((Only.refl _ _).drew)).waiters (Nat.le_succ _) (by have:=HH.out;omega) k7
         have O7:=hid (Gw.only O6.out G6.out (((Only.refl n_ w6).drew).then_ o7) (λg e=>by rw[e];decide))
         have G7:=hid (Gw.next (O6.out.idle ((Only.refl n_ w6).drew)) G6.out g7)
         have H7:=hid h7
         have r7:=(h7.eo.tk _ TM.out).1
         rw[show (Tk.list l t.read).id=t.read.id from rfl,GA.out] at r7
         have TD:=etold_any (Tk.list l t.read) g5 w7 h7 r7
         obtain⟨tv,htv⟩:∃tv,tv=(Tk.list l) t.read:=⟨_,rfl⟩
         rw[←htv] at TD
         generalize hn:Eng.cnt _ tv.id=n at TD
         unfold pT Tk.told at TD
         have TD:=hid TD
         have TV:=hid htv
         have HN:=hid hn
         clear htv hn
         clear k7 g7 o7 r7 WA y16 y0 b0 b1 h7
         go_wp2_with fail
         (with_reducible refine TD.out.mono ?_)
         rintro e w8 ⟨rfl,o8⟩
         have O8:=hid (O7.out.idle o8)
         have T8:=hid (O8.out.row TX.out (λe=>e Z1.out))
         have H8:=hid (H7.out.still o8)
         clear o8 TD
         obtain⟨d0,d1,d2,d3,d4,d5,d6,d7,d8⟩:=T8.out.nine
         have z0:=T8.out.frozen 0
         have z1:=T8.out.frozen 1
         have z2:=T8.out.frozen 2
         have z3:=T8.out.frozen 3
         have z4:=T8.out.frozen 4
         have z5:=T8.out.frozen 5
         have z6:=T8.out.frozen 6
         have z7:=T8.out.frozen 7
         have z8:=T8.out.frozen 8
         have l8:=T8.out.lt
         go_wp2_with fail
         have RY:=read_yes IV.out HC.out (t:=t.read) (by rw[RB.out];exact TE.out) RT.out.symm
         refine bodyPost_ret (results_row3 rfl _ _ (w.heap.size+1) _ _ _ rfl (Row.tick9 T8.out tv n) underlying54 rfl info_tick) rfl ⟨?_,?_⟩
         ·rw[RY.1,RY.2,RB.out,J.out,LT.out,←HN.out,TV.out]
          simp only[Option.getD_some,DK.out]
          rfl
         ·rw[RY.2,RB.out]
          exact EGto.fin H8.out O1.out G7.out O8.out (Nat.le_succ _) (G7.out.zero Z1.out ls1) (only9' (Only.refl (λg=>g=w.heap.size+1) _) (λ_=>rfl) _ _ _ _ _ _ _ _ _) (by omega) (by omega) HFF.out HH.out
      ·have K3:=hid k3
       have dk:(t.kind==3)=false:=by simpa using k3
       have HP:=hid (H1.out.still O6.out)
       have OO:=hid (O6.out.up (S:=λg=>c g≠0))
       have GO:=hid (Gw.refl W1 c)
       have TK:=hid TKS.out
       have TE:=hid TM0.out
       have RB:=hid (show E.readB b=E from by unfold Eng.readB;rw[J.out,LT.out,if_pos rfl,Option.getD_some,if_neg K3.out])
       have RT:=hid (show E.readT b=t.id from by unfold Eng.readT;rw[J.out,LT.out,if_pos rfl];rfl)
       have DK:=hid (show decide (t.kind=3)=false from decide_eq_false K3.out)
       clear k3
       have GA:=hid hg5
       have r5:=(HP.out.eo.tk _ TK.out).1
       have nz:=(HP.out.eo.tk _ TK.out).2
       rw[hg5] at r5 nz
       have lg5:=r5.lt
       have q3:wj.cell? ⟨g5,3,none⟩=some (.int .i64 t.l):=r5.cell 3
       have f3:wj.frozen? ⟨g5,3,none⟩=false:=r5.frozen 3
       obtain⟨w6,hw6⟩:∃w6,w6=wj.setCell ⟨g5,3,none⟩ (.int .i64 l):=⟨_,rfl⟩
       have h6:=HP.out.put TK.out (Tk.list l) (soft_list l).keeps 3 (.int .i64 l) rfl
       rw[hg5,←hw6] at h6
       have o6:Only (λk=>k=g5) wj w6:=by rw[hw6];exact (Only.refl (λk=>k=g5) wj).into rfl _ _
       have O6:=hid (Gw.only OO.out GO.out o6 (λg e=>by rw[e,nz];decide))
       have G6:=hid (show Gw W1 c c from GO.out)
       have od:Only n_ w6 w6.drew:=(Only.refl _ _).drew
       have tm6:(Tk.list l) t∈upd ks t.id (Tk.list l):=mem_upd (Tk.list l) TK.out
       have te6:(Tk.list l) t∈((E).upd t.id (Tk.list l)).ts:=mem_upd (Tk.list l) TE.out
       have WA:=wadd_any t.id x w6.drew (h6.still od).eo.wg WX.out HP.out.hH
       rw[show addS ((E).upd t.id (Tk.list l)).o.b9.toNat ((E).upd t.id (Tk.list l)).g t.id x=(E).g++[⟨t.id,x⟩] from ADD.out _ T1.out] at WA
       have H6:=hid h6
       have ZB:=hid (GO.out.zero Z0.out (Nat.lt_of_succ_lt ls1))
       have TM:=hid tm6
       have TE6:=hid te6
       have y16:w6.drew.cell? ⟨p,16,none⟩=some (.pointer (some ⟨X.pg,0,none⟩)):=h6.cell 16
       have nz6:=(h6.eo.tk _ tm6).2
       have yt:=(h6.eo.tk _ tm6).1
       rw[show (Tk.list l t).id=t.id from rfl,hg5] at yt
       have y0:w6.drew.cell? ⟨g5,0,none⟩=some (.int .i64 t.id):=yt.cell 0
       have yb:=O6.out.row BX.out (λe=>e (Z0.out))
       have b0:w6.drew.cell? ⟨w.heap.size,0,none⟩=some (.int .i64 x.r):=yb.cell 0
       have b1:w6.drew.cell? ⟨w.heap.size,1,none⟩=some (.int .i64 x.p):=yb.cell 1
       rw[show (Tk.list l t).id=t.id from rfl,hg5] at nz6
       have KS:=hid (λw7 (k7:Only (λg=>c g=4) w6.drew w7)=>show w7.cell? ⟨p,16,none⟩=some (.pointer (some ⟨X.pg,0,none⟩))∧w7.cell? ⟨g5,0,none⟩=some (.int .i64 t.id)∧w7.cell? ⟨w.heap.size,0,none⟩=some (.int .i64 x.r)∧w7.cell? ⟨w.heap.size,1,none⟩=some (.int .i64 x.p) from
        ⟨k7.cell y16 (λe=>by have e1:c p=4:=e;rw[h6.eo.cp] at e1;cases e1),k7.cell y0 (λe=>by have e1:c g5=4:=e;rw[nz6] at e1;cases e1),k7.cell b0 (λe=>by have e1:c w.heap.size=4:=e;rw[ZB.out] at e1;cases e1),k7.cell b1 (λe=>by have e1:c w.heap.size=4:=e;rw[ZB.out] at e1;cases e1)⟩)
       clear h6 tm6 te6 o6 od yt yb hg5 r5 nz nz6 ZB
       unfold Wt.val at WA
       have WA:=hid WA
       go_wp2_with fail
       rw[←hw6]
       clear hw6 q3 f3
       go_region_held3 (λw'=>w'.cell? ⟨p,16,none⟩=some (.pointer (some ⟨X.pg,0,none⟩))∧w'.cell? ⟨g5,0,none⟩=some (.int .i64 t.id)∧w'.cell? ⟨w.heap.size,0,none⟩=some (.int .i64 x.r)∧w'.cell? ⟨w.heap.size,1,none⟩=some (.int .i64 x.p))
        (first | (with_reducible exact KS.out _ K7.out) | (with_reducible exact⟨y16,y0,b0,b1⟩) | fail)
        (first
         | (go_at_call 69;(with_reducible refine WA.out.mono ?_);rintro e w7 ⟨rfl,k7⟩;have K7:=hid k7.2)
         | fail)
       all_goals
        obtain⟨c7,h7,g7,o7⟩:=(H6.out.still ((Only.refl _ _).drew)).waiters (Nat.le_succ _) (by have:=HH.out;omega) k7
        have O7:=hid (Gw.only O6.out G6.out (((Only.refl n_ w6).drew).then_ o7) (λg e=>by rw[e];decide))
        have G7:=hid (Gw.next (O6.out.idle ((Only.refl n_ w6).drew)) G6.out g7)
        have H7:=hid h7
        have r7:=(h7.eo.tk _ TM.out).1
        rw[show (Tk.list l t).id=t.id from rfl,GA.out] at r7
        have TD:=etold_any (Tk.list l t) g5 w7 h7 r7
        obtain⟨tv,htv⟩:∃tv,tv=(Tk.list l) t:=⟨_,rfl⟩
        rw[←htv] at TD
        generalize hn:Eng.cnt _ tv.id=n at TD
        unfold pT Tk.told at TD
        have TD:=hid TD
        have TV:=hid htv
        have HN:=hid hn
        clear htv hn
        clear k7 g7 o7 r7 WA y16 y0 b0 b1 h7
        go_wp2_with fail
        (with_reducible refine TD.out.mono ?_)
        rintro e w8 ⟨rfl,o8⟩
        have O8:=hid (O7.out.idle o8)
        have T8:=hid (O8.out.row TX.out (λe=>e Z1.out))
        have H8:=hid (H7.out.still o8)
        clear o8 TD
        obtain⟨d0,d1,d2,d3,d4,d5,d6,d7,d8⟩:=T8.out.nine
        have z0:=T8.out.frozen 0
        have z1:=T8.out.frozen 1
        have z2:=T8.out.frozen 2
        have z3:=T8.out.frozen 3
        have z4:=T8.out.frozen 4
        have z5:=T8.out.frozen 5
        have z6:=T8.out.frozen 6
        have z7:=T8.out.frozen 7
        have z8:=T8.out.frozen 8
        have l8:=T8.out.lt
        go_wp2_with fail
        have RY:=read_yes IV.out HC.out (t:=t) (by rw[RB.out];exact TE.out) RT.out.symm
        refine bodyPost_ret (results_row3 rfl _ _ (w.heap.size+1) _ _ _ rfl (Row.tick9 T8.out tv n) underlying54 rfl info_tick) rfl ⟨?_,?_⟩
        ·rw[RY.1,RY.2,RB.out,J.out,LT.out,←HN.out,TV.out]
         simp only[Option.getD_some,DK.out]
         rfl
        ·rw[RY.2,RB.out]
         exact EGto.fin H8.out O1.out G7.out O8.out (Nat.le_succ _) (G7.out.zero Z1.out ls1) (only9' (Only.refl (λg=>g=w.heap.size+1) _) (λ_=>rfl) _ _ _ _ _ _ _ _ _) (by omega) (by omega) HFF.out HH.out
    ·have tc:(E.readC b l x != 0)=true:=by simpa using hc
     have HC:=hid hc
     clear hc
     generalize hgc:E.readC b l x=cc at *
     have GC:=hid hgc
     clear hgc
     have T2:=hid (O4.out.still TX.out)
     have H2:=hid (H1.out.still O4.out)
     obtain⟨d0,d1,d2,d3,d4,d5,d6,d7,d8⟩:=T2.out.nine
     have z0:=T2.out.frozen 0
     have z1:=T2.out.frozen 1
     have z2:=T2.out.frozen 2
     have z3:=T2.out.frozen 3
     have z4:=T2.out.frozen 4
     have z5:=T2.out.frozen 5
     have z6:=T2.out.frozen 6
     have z7:=T2.out.frozen 7
     have z8:=T2.out.frozen 8
     have l2:=T2.out.lt
     have NO4:=hid (NO.out HC.out)
     go_wp2_with fail
     refine bodyPost_ret (results_row3 rfl _ _ (w.heap.size+1) _ _ _ rfl (Row.zero9 T2.out) underlying54 rfl info_tick) rfl ⟨?_,?_⟩
     ·rw[NO4.out.1];rfl
     ·rw[NO4.out.2]
      exact EGto.fin H2.out O1.out (Gw.refl _ _) O4.out.up (Nat.le_succ _) Z1.out (only9' (Only.refl (λg=>g=w.heap.size+1) w4) (λ_=>rfl) _ _ _ _ _ _ _ _ _) (by omega) (by omega) HFF.out HH.out
  ·have C1:=hid (show E.readC b l x=1 from by rw[EC.out,if_neg (λq=>hl q.2)])
   have dl0:(l != 0)=true:=by simp;exact λq=>hl (.inl q)
   have dl1:(l != 1)=true:=by simp;exact λq=>hl (.inr q)
   clear hb hl
   go_enter func21,ntmps21
   go_wp2_with fail
   rw[←hW1]
   clear hW1
   (with_reducible refine HB.out.mono ?_)
   rintro e w2 ⟨rfl,o2⟩
   have O2:=hid o2
   clear o2
   have T2:=hid (O2.out.still TX.out)
   have H2:=hid (H1.out.still O2.out)
   obtain⟨d0,d1,d2,d3,d4,d5,d6,d7,d8⟩:=T2.out.nine
   have z0:=T2.out.frozen 0
   have z1:=T2.out.frozen 1
   have z2:=T2.out.frozen 2
   have z3:=T2.out.frozen 3
   have z4:=T2.out.frozen 4
   have z5:=T2.out.frozen 5
   have z6:=T2.out.frozen 6
   have z7:=T2.out.frozen 7
   have z8:=T2.out.frozen 8
   have l2:=T2.out.lt
   have NO2:=hid (NO.out (by rw[C1.out];decide))
   go_wp2_with fail
   refine bodyPost_ret (results_row3 rfl _ _ (w.heap.size+1) _ _ _ rfl (Row.zero9 T2.out) underlying54 rfl info_tick) rfl ⟨?_,?_⟩
   ·rw[NO2.out.1,C1.out];rfl
   ·rw[NO2.out.2]
    exact EGto.fin H2.out O1.out (Gw.refl _ _) O2.out.up (Nat.le_succ _) Z1.out (only9' (Only.refl (λg=>g=w.heap.size+1) w2) (λ_=>rfl) _ _ _ _ _ _ _ _ _) (by omega) (by omega) HFF.out HH.out
end
end Go.Proofs.YtfbpjobobdidiaaGreatDoor
