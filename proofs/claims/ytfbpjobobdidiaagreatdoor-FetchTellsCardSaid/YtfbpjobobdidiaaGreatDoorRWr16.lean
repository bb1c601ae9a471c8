/- Package fetch's Write. -/
import Derived.Test.YtfbpjobobdidiaaGreatDoorRG29
namespace Go.Proofs.YtfbpjobobdidiaaGreatDoor
open Lib (hid)
open Go.Proofs.Tryz
open Go.RowKit Go.Maps
set_option linter.unusedVariables false
set_option maxRecDepth 100000
section
variable {p:Nat} {c:Nat→Nat} {X:Loc} {F H:Nat} {ks:List Tk} {E:Eng}
def writeA (E:Eng) (b v:Int) (x:Wt):Value:=
 .tuple #[if E.writeC b x=0 then (((E.writeB b).new 2 b).worth v).told ((E.write b v x).cnt (E.nt+1)) else noTk,.int .i64 (if E.writeC b x=0 then E.goneI b else 0),.int .i64 (E.writeC b x)]
theorem write_no {E:Eng} {b v:Int} {x:Wt} (h:E.writeC b x≠0):writeA E b v x=.tuple #[noTk,.int .i64 0,.int .i64 (E.writeC b x)]∧E.write b v x=E:=by
 unfold writeA Eng.write
 rw[if_neg h,if_neg h,if_neg h]
 exact⟨rfl,rfl⟩
theorem write_yes {E E1:Eng} (iv:Inv E) {b v:Int} {x:Wt} (h:E.writeC b x=0) (e:E.writeB b=E1) :
  writeA E b v x=.tuple #[((E1.new 2 b).worth v).told ((E.write b v x).cnt (E1.nt+1)),.int .i64 (E.goneI b),.int .i64 0]∧E.write b v x=((E1.enter 2 b).upd (E1.nt+1) (Tk.worth v)).add (E1.nt+1) x:=by
 subst e
 have e2:=(Inv.writeB iv b).2.2.2.1
 unfold writeA Eng.write
 rw[if_pos h,if_pos h,if_pos h,h,e2]
 exact⟨rfl,rfl⟩
set_option maxHeartbeats 4000000 in
theorem ewrite_any (b v:Int) (x:Wt) (w:World) (h:EP w p c X F H ks E) (iv:Inv E) (wx:wfW x) (hF:F+10<100000000) (hH:H+2<1000000) :
  Calls prog 22 #[pT p,.int .i64 b,.int .u64 v,x.val] w λe w'=>e=.returned (writeA E b v x)∧EGto w p c (F+10) (H+2) (E.write b v x) w':=by
 obtain⟨W1,hW1⟩:∃W1,W1=(w.alloc (.cells #[.int .i64 x.r,.int .i64 x.p] 36)).alloc (.cells #[.int .i64 0,.int .i64 0,.int .i64 0,.int .i64 0,.int .i64 0,.int .i64 0,.bool false,.bool false,.bool false] 54):=⟨_,rfl⟩
 obtain⟨bx,tx,o1⟩:=two_new16 w 36 54 #[.int .i64 x.r,.int .i64 x.p] #[.int .i64 0,.int .i64 0,.int .i64 0,.int .i64 0,.int .i64 0,.int .i64 0,.bool false,.bool false,.bool false]
 rw[←hW1] at bx tx o1
 have h1:=h.still o1
 have HB:=ehas_any b W1 h1
 have RF:=λw' (o:Only n_ W1 w')=>erefuse_any x true w' (h1.still o) wx
 have LA:=λw' (o:Only n_ W1 w')=>elast_any b w' (h1.still o)
 have ER:=hid (λw' (o:Only n_ W1 w')=>erest_any X.A (E.last b) w' ((h1.still o).lastRow b))
 have BX:=hid bx
 have TX:=hid tx
 have O1:=hid o1
 have H1:=hid h1
 have IV:=hid iv
 have WX:=hid wx
 have HFF:=hid hF
 have HH:=hid hH
 have Z0:=hid (h.zero (Nat.le_refl _))
 have Z1:=hid (h.zero (Nat.le_succ w.heap.size))
 have lp:=h.eo.row.lt
 have ls1:=tx.lt
 clear h h1 iv wx hF hH bx tx o1
 have NO:=hid (@write_no E b v x)
 have EC:=hid (show E.writeC b x=if E.has b=true then E.refC x true else 1 from rfl)
 unfold pT at HB RF LA
 unfold Wt.val at *
 unfold pT
 have RF:=hid RF
 have LA:=hid LA
 cases hb:E.has b with
 | false =>
  rw[hb] at HB
  have HB:=hid HB
  have C1:=hid (show E.writeC b x=1 from by rw[EC.out,hb];rfl)
  clear hb
  go_enter func22,ntmps22
  go_wp2_with fail
  rw[←hW1]
  clear hW1
  (with_reducible refine HB.out.mono ?_)
  rintro e w2 ⟨rfl,o2⟩
  have O2:=hid o2
  clear o2
  have T2:=hid (O2.out.still TX.out)
  have H2:=hid (H1.out.still O2.out)
  obtain⟨d0,d1,d2,d3,d4,d5,d6,d7,d8⟩:=T2.out.nine
  have z0:=T2.out.frozen 0
  have z1:=T2.out.frozen 1
  have z2:=T2.out.frozen 2
  have z3:=T2.out.frozen 3
  have z4:=T2.out.frozen 4
  have z5:=T2.out.frozen 5
  have z6:=T2.out.frozen 6
  have z7:=T2.out.frozen 7
  have z8:=T2.out.frozen 8
  have l2:=T2.out.lt
  have NO2:=hid (NO.out (by rw[C1.out];decide))
  go_wp2_with fail
  refine bodyPost_ret (results_row2 rfl _ _ (w.heap.size+1) _ _ _ rfl (Row.zero9 T2.out) underlying54 rfl info_tick) rfl ⟨?_,?_⟩
  ·rw[NO2.out.1,C1.out];rfl
  ·rw[NO2.out.2]
   exact EGto.fin H2.out O1.out (Gw.refl _ _) O2.out.up (Nat.le_succ _) Z1.out (only9' (Only.refl (λg=>g=w.heap.size+1) w2) (λ_=>rfl) _ _ _ _ _ _ _ _ _) (by omega) (by omega) HFF.out HH.out
 | true =>
  rw[hb] at HB
  have HB:=hid HB
  have HS:=hid hb
  have EC2:=hid (show E.writeC b x=E.refC x true from by rw[EC.out,if_pos hb])
  have RF:=RF.out
  rw[←EC2.out] at RF
  have RF:=hid RF
  clear hb
  go_enter func22,ntmps22
  go_wp2_with fail
  rw[←hW1]
  clear hW1
  (with_reducible refine HB.out.mono ?_)
  rintro e w2 ⟨rfl,o2⟩
  have O2:=hid o2
  have b2:=o2.still BX.out
  have b20:w2.cell? ⟨w.heap.size,0,none⟩=some (.int .i64 x.r):=b2.cell 0
  have b21:w2.cell? ⟨w.heap.size,1,none⟩=some (.int .i64 x.p):=b2.cell 1
  clear o2 b2
  go_wp2_with fail
  (with_reducible refine (RF.out w2 O2.out).mono ?_)
  rintro e w3 ⟨rfl,o3⟩
  have O3:=hid (O2.out.same o3)
  clear o3 b20 b21
  by_cases hc:E.writeC b x=0
  ·have HC:=hid hc
   rw[hc]
   obtain⟨r1,r2,r3,r4⟩:=refC_ok IV.out (by rw[←EC2.out];exact hc)
   have WB:=hid (Inv.writeB IV.out b)
   cases j:rests (E.last b) with
   | false =>
    obtain⟨a,ha⟩:=optPtr_form X.A (E.last b)
    have LL:=LA.out w3 O3.out
    rw[ha] at LL
    have LL:=hid LL
    have EJ:=hid (λw' (o:Only n_ W1 w')=>show Calls prog 70 #[.pointer a] w' λe w''=>e=.returned (.bool false)∧Only n_ w' w'' from by
     have:=ER.out w' o
     rw[ha,j] at this
     exact this)
    obtain⟨m1,m2,m3⟩:=room16 IV.out (kind:=2) (by rw[if_neg (by decide)];exact r4 rfl)
    have RM:=hid (show putC E.o.b3.toNat E.o.b4.toNat E.qs (E.nt+1) ((2:Int)==3)=0∧E.ts.length<128∧(E.ts.length:Int)<E.o.b3+E.o.b4 from ⟨m1,m2,m3⟩)
    have ADD:=hid (λt (ht:1≤t)=>addS_ok (E:=E) (t:=t) ht r1 r2 r3)
    have RB:=hid (show E.writeB b=E from by unfold Eng.writeB;rw[j];rfl)
    have GN:=hid (show E.goneI b=0 from by unfold Eng.goneI;rw[j];rfl)
    have EHS:=hid HS.out
    clear j ha hc r1 r2 r3 r4 m1 m2 m3
    go_wp2_with fail
    (with_reducible refine LL.out.mono ?_)
    rintro e w4 ⟨rfl,o4⟩
    have O4:=hid (O3.out.same o4)
    clear o4
    go_wp2_with fail
    (with_reducible refine (EJ.out w4 O4.out).mono ?_)
    rintro e w5 ⟨rfl,o5⟩
    have O5:=hid (O4.out.same o5)
    have HE:=hid (H1.out.still O5.out)
    clear o5 LL EJ
    have EN:=eenter_any 2 b w5 HE.out EHS.out RM.out.1 RM.out.2.1 RM.out.2.2 (by have:=HFF.out;omega) (by have:=HH.out;omega)
    unfold pT at EN
    have EN:=hid EN
    go_wp2_with fail
    (with_reducible refine EN.out.mono ?_)
    rintro e w7 ⟨g5,rfl,⟨c7,h7,gw7⟩,lg7,o7⟩
    have HP:=hid h7
    have hg5:(X.with (E.nt+1) g5).A (E.new 2 b).id=g5:=if_pos rfl
    have TK:=hid (show E.new 2 b∈ks++[E.new 2 b] from by simp)
    have TE:=hid (show E.new 2 b∈(E.enter 2 b).ts from List.mem_append_right _ (by simp))
    have OO:=hid (Gw.only (S:=λg=>c g≠0∧c g≠6) (O5.out.up (S:=λg=>c g≠0)) (Gw.refl W1 c) o7 (λg e=>e.1))
    have GO:=hid (Gw.next (O5.out.up (S:=λg=>c g≠0)) (Gw.refl W1 c) gw7)
    clear h7 o7 gw7 lg7 EN
    have GA:=hid hg5
    have r5:=(HP.out.eo.tk _ TK.out).1
    have nz:=(HP.out.eo.tk _ TK.out).2
    rw[hg5] at r5 nz
    have lg5:=r5.lt
    have q3:w7.cell? ⟨g5,9,none⟩=some (.int .u64 (E.new 2 b).v):=r5.cell 9
    have f3:w7.frozen? ⟨g5,9,none⟩=false:=r5.frozen 9
    obtain⟨w6,hw6⟩:∃w6,w6=w7.setCell ⟨g5,9,none⟩ (.int .u64 v):=⟨_,rfl⟩
    have h6:=HP.out.put TK.out (Tk.worth v) (soft_worth v).keeps 9 (.int .u64 v) rfl
    rw[hg5,←hw6] at h6
    have o6:Only (λk=>k=g5) w7 w6:=by rw[hw6];exact (Only.refl (λk=>k=g5) w7).into rfl _ _
    have O6:=hid (Gw.only OO.out GO.out o6 (λg e=>by rw[e,nz];decide))
    have G6:=hid (show Gw W1 c c7 from GO.out)
    have od:Only n_ w6 w6.drew:=(Only.refl _ _).drew
    have tm6:(Tk.worth v) (E.new 2 b)∈upd (ks++[E.new 2 b]) (E.new 2 b).id (Tk.worth v):=mem_upd (Tk.worth v) TK.out
    have te6:(Tk.worth v) (E.new 2 b)∈(((E.enter 2 b)).upd (E.new 2 b).id (Tk.worth v)).ts:=mem_upd (Tk.worth v) TE.out
    have WA:=wadd_any (E.new 2 b).id x w6.drew (h6.still od).eo.wg WX.out HP.out.hH
    rw[show addS (((E.enter 2 b)).upd (E.new 2 b).id (Tk.worth v)).o.b9.toNat (((E.enter 2 b)).upd (E.new 2 b).id (Tk.worth v)).g (E.new 2 b).id x=((E.enter 2 b)).g++[⟨(E.new 2 b).id,x⟩] from ADD.out _ (by show 1≤(E.nt:Int)+1;omega)] at WA
    have H6:=hid h6
    have ZB:=hid (GO.out.zero Z0.out (Nat.lt_of_succ_lt ls1))
    have TM:=hid tm6
    have TE6:=hid te6
    have y16:w6.drew.cell? ⟨p,16,none⟩=some (.pointer (some ⟨(X.with (E.nt+1) g5).pg,0,none⟩)):=h6.cell 16
    have nz6:=(h6.eo.tk _ tm6).2
    have yt:=(h6.eo.tk _ tm6).1
    rw[show (Tk.worth v (E.new 2 b)).id=(E.new 2 b).id from rfl,hg5] at yt
    have y0:w6.drew.cell? ⟨g5,0,none⟩=some (.int .i64 (E.new 2 b).id):=yt.cell 0
    have yb:=O6.out.row BX.out (λe=>e (Z0.out))
    have b0:w6.drew.cell? ⟨w.heap.size,0,none⟩=some (.int .i64 x.r):=yb.cell 0
    have b1:w6.drew.cell? ⟨w.heap.size,1,none⟩=some (.int .i64 x.p):=yb.cell 1
    rw[show (Tk.worth v (E.new 2 b)).id=(E.new 2 b).id from rfl,hg5] at nz6
    have KS:=hid (λw7 (k7:Only (λg=>c7 g=4) w6.drew w7)=>show w7.cell? ⟨p,16,none⟩=some (.pointer (some ⟨(X.with (E.nt+1) g5).pg,0,none⟩))∧w7.cell? ⟨g5,0,none⟩=some (.int .i64 (E.new 2 b).id)∧w7.cell? ⟨w.heap.size,0,none⟩=some (.int .i64 x.r)∧w7.cell? ⟨w.heap.size,1,none⟩=some (.int .i64 x.p) from
     ⟨k7.cell y16 (λe=>by have e1:c7 p=4:=e;rw[h6.eo.cp] at e1;cases e1),k7.cell y0 (λe=>by have e1:c7 g5=4:=e;rw[nz6] at e1;cases e1),k7.cell b0 (λe=>by have e1:c7 w.heap.size=4:=e;rw[ZB.out] at e1;cases e1),k7.cell b1 (λe=>by have e1:c7 w.heap.size=4:=e;rw[ZB.out] at e1;cases e1)⟩)
    clear h6 tm6 te6 o6 od yt yb hg5 r5 nz nz6 ZB
    unfold Wt.val at WA
    have WA:=hid WA
    go_wp2_with fail
    rw[←hw6]
    clear hw6 q3 f3
    go_region_held3 (λw'=>w'.cell? ⟨p,16,none⟩=some (.pointer (some ⟨(X.with (E.nt+1) g5).pg,0,none⟩))∧w'.cell? ⟨g5,0,none⟩=some (.int .i64 (E.new 2 b).id)∧w'.cell? ⟨w.heap.size,0,none⟩=some (.int .i64 x.r)∧w'.cell? ⟨w.heap.size,1,none⟩=some (.int .i64 x.p))
     (first | (with_reducible exact KS.out _ K7.out) | (with_reducible exact⟨y16,y0,b0,b1⟩) | fail)
     (first
      | (go_at_call 69;(with_reducible refine WA.out.mono ?_);rintro e w7 ⟨rfl,k7⟩;have K7:=hid k7.2)
      | fail)
    all_goals
     obtain⟨c7,h7,g7,o7⟩:=(H6.out.still ((Only.refl _ _).drew)).waiters (Nat.le_succ _) (by have:=HH.out;omega) k7
     have O7:=hid (Gw.only O6.out G6.out (((Only.refl n_ w6).drew).then_ o7) (λg e=>by rw[e];decide))
     have G7:=hid (Gw.next (O6.out.idle ((Only.refl n_ w6).drew)) G6.out g7)
     have H7:=hid h7
     have r7:=(h7.eo.tk _ TM.out).1
     rw[show (Tk.worth v (E.new 2 b)).id=(E.new 2 b).id from rfl,GA.out] at r7
     have TD:=etold_any (Tk.worth v (E.new 2 b)) g5 w7 h7 r7
     obtain⟨tv,htv⟩:∃tv,tv=(Tk.worth v) (E.new 2 b):=⟨_,rfl⟩
     rw[←htv] at TD
     generalize hn:Eng.cnt _ tv.id=n at TD
     unfold pT Tk.told at TD
     have TD:=hid TD
     have TV:=hid htv
     have HN:=hid hn
     clear htv hn
     clear k7 g7 o7 r7 WA y16 y0 b0 b1 h7
     go_wp2_with fail
     (with_reducible refine TD.out.mono ?_)
     rintro e w8 ⟨rfl,o8⟩
     have O8:=hid (O7.out.idle o8)
     have T8:=hid (O8.out.row TX.out (λe=>e Z1.out))
     have H8:=hid (H7.out.still o8)
     clear o8 TD
     obtain⟨d0,d1,d2,d3,d4,d5,d6,d7,d8⟩:=T8.out.nine
     have z0:=T8.out.frozen 0
     have z1:=T8.out.frozen 1
     have z2:=T8.out.frozen 2
     have z3:=T8.out.frozen 3
     have z4:=T8.out.frozen 4
     have z5:=T8.out.frozen 5
     have z6:=T8.out.frozen 6
     have z7:=T8.out.frozen 7
     have z8:=T8.out.frozen 8
     have l8:=T8.out.lt
     go_wp2_with fail
     have RY:=write_yes IV.out HC.out (v:=v) RB.out
     refine bodyPost_ret (results_row2 rfl _ _ (w.heap.size+1) _ _ _ rfl (Row.tick9 T8.out tv n) underlying54 rfl info_tick) rfl ⟨?_,?_⟩
     ·rw[RY.1,RY.2,GN.out,←HN.out,TV.out]
      rfl
     ·rw[RY.2]
      exact EGto.fin H8.out O1.out G7.out O8.out (Nat.le_succ _) (G7.out.zero Z1.out ls1) (only9' (Only.refl (λg=>g=w.heap.size+1) _) (λ_=>rfl) _ _ _ _ _ _ _ _ _) (by omega) (by omega) HFF.out HH.out
   | true =>
    obtain⟨t,hlt,k3,ho⟩:=rests_some j
    obtain⟨tm,tb⟩:=mem_last hlt
    have TKS:=hid (H1.out.sub t tm)
    obtain⟨gt,hgt⟩:∃gt,X.A t.id=gt:=⟨_,rfl⟩
    have LL:=LA.out w3 O3.out
    rw[hlt] at LL
    unfold optPtr pT at LL
    simp only[hgt] at LL
    have LL:=hid LL
    have EJ:=hid (λw' (o:Only n_ W1 w')=>show Calls prog 70 #[.pointer (some ⟨gt,0,none⟩)] w' λe w''=>e=.returned (.bool true)∧Only n_ w' w'' from by
     have:=ER.out w' o
     rw[hlt] at this
     have j2:rests (some t)=true:=by rw[←hlt];exact j
     rw[j2] at this
     unfold optPtr pT at this
     simp only[hgt] at this
     exact this)
    have RB:=hid (show E.writeB b=E.end_ t.id from by unfold Eng.writeB Eng.goneI;rw[j,hlt];rfl)
    have GN:=hid (show E.goneI b=t.id from by unfold Eng.goneI;rw[j,hlt];rfl)
    have WB:=WB.out
    rw[RB.out] at WB
    obtain⟨v1,v2,v3,v4,v5,v6,v7,v8,v9⟩:=WB
    obtain⟨m1,m2,m3⟩:=room16 v1 (kind:=2) (by
     rw[if_neg (by decide)]
     have q:=r4 rfl
     have q2:=IV.out.fewd
     unfold Eng.fd at *
     rw[v2]
     omega)
    have RM:=hid (show putC (E.end_ t.id).o.b3.toNat (E.end_ t.id).o.b4.toNat (E.end_ t.id).qs ((E.end_ t.id).nt+1) ((2:Int)==3)=0∧(E.end_ t.id).ts.length<128∧((E.end_ t.id).ts.length:Int)<(E.end_ t.id).o.b3+(E.end_ t.id).o.b4 from ⟨m1,m2,m3⟩)
    have ADD:=hid (λt (ht:1≤t)=>addS_ok (E:=E) (t:=t) ht r1 r2 r3)
    have EHS:=hid (show (E.end_ t.id).has b=true from HS.out)
    have R1:=hid ((H1.out.eo.tk t TKS.out).1)
    have H1L:=hid hgt
    clear j hlt hc r1 r2 r3 r4 m1 m2 m3 v1 v2 v3 v4 v5 v6 v7 v8 v9 k3 ho tm tb
    go_wp2_with fail
    (with_reducible refine LL.out.mono ?_)
    rintro e w4 ⟨rfl,o4⟩
    have O4:=hid (O3.out.same o4)
    clear o4
    go_wp2_with fail
    (with_reducible refine (EJ.out w4 O4.out).mono ?_)
    rintro e w5 ⟨rfl,o5⟩
    have O5:=hid (O4.out.same o5)
    have r5:=O5.out.still R1.out
    rw[hgt] at r5
    have q0:w5.cell? ⟨gt,0,none⟩=some (.int .i64 t.id):=r5.cell 0
    have EE:=eend_any t w5 (H1.out.still O5.out) TKS.out (by have:=HFF.out;omega)
    unfold pT at EE
    rw[hgt] at EE
    have EE:=hid EE
    clear o5 LL EJ r5 hgt
    go_wp2_with fail
    (with_reducible refine EE.out.mono ?_)
    rintro e w6 ⟨rfl,⟨c6,h6,gw6⟩,o6⟩
    have HE:=hid h6
    have OE:=hid (Gw.only (S:=λg=>c g≠0∧c g≠6) (O5.out.up (S:=λg=>c g≠0)) (Gw.refl W1 c) o6 (λg e=>e.1))
    have GE:=hid (Gw.next (O5.out.up (S:=λg=>c g≠0)) (Gw.refl W1 c) gw6)
    clear q0 h6 gw6 o6 EE
    have EN:=eenter_any 2 b w6 HE.out EHS.out RM.out.1 RM.out.2.1 RM.out.2.2 (by have:=HFF.out;omega) (by have:=HH.out;omega)
    unfold pT at EN
    have EN:=hid EN
    go_wp2_with fail
    (with_reducible refine EN.out.mono ?_)
    rintro e w7 ⟨g5,rfl,⟨c7,h7,gw7⟩,lg7,o7⟩
    have HP:=hid h7
    have hg5:(X.with ((E.end_ t.id).nt+1) g5).A ((E.end_ t.id).new 2 b).id=g5:=if_pos rfl
    have TK:=hid (show (E.end_ t.id).new 2 b∈ks++[(E.end_ t.id).new 2 b] from by simp)
    have TE:=hid (show (E.end_ t.id).new 2 b∈((E.end_ t.id).enter 2 b).ts from List.mem_append_right _ (by simp))
    have OO:=hid (Gw.only (S:=λg=>c6 g≠0∧c6 g≠6) OE.out GE.out o7 (λg e=>e.1))
    have GO:=hid (Gw.next OE.out GE.out gw7)
    clear h7 o7 gw7 lg7 EN
    have GA:=hid hg5
    have r5:=(HP.out.eo.tk _ TK.out).1
    have nz:=(HP.out.eo.tk _ TK.out).2
    rw[hg5] at r5 nz
    have lg5:=r5.lt
    have q3:w7.cell? ⟨g5,9,none⟩=some (.int .u64 ((E.end_ t.id).new 2 b).v):=r5.cell 9
    have f3:w7.frozen? ⟨g5,9,none⟩=false:=r5.frozen 9
    obtain⟨w6,hw6⟩:∃w6,w6=w7.setCell ⟨g5,9,none⟩ (.int .u64 v):=⟨_,rfl⟩
    have h6:=HP.out.put TK.out (Tk.worth v) (soft_worth v).keeps 9 (.int .u64 v) rfl
    rw[hg5,←hw6] at h6
    have o6:Only (λk=>k=g5) w7 w6:=by rw[hw6];exact (Only.refl (λk=>k=g5) w7).into rfl _ _
    have O6:=hid (Gw.only OO.out GO.out o6 (λg e=>by rw[e,nz];decide))
    have G6:=hid (show Gw W1 c c7 from GO.out)
    have od:Only n_ w6 w6.drew:=(Only.refl _ _).drew
    have tm6:(Tk.worth v) ((E.end_ t.id).new 2 b)∈upd (ks++[(E.end_ t.id).new 2 b]) ((E.end_ t.id).new 2 b).id (Tk.worth v):=mem_upd (Tk.worth v) TK.out
    have te6:(Tk.worth v) ((E.end_ t.id).new 2 b)∈((((E.end_ t.id).enter 2 b)).upd ((E.end_ t.id).new 2 b).id (Tk.worth v)).ts:=mem_upd (Tk.worth v) TE.out
    have WA:=wadd_any ((E.end_ t.id).new 2 b).id x w6.drew (h6.still od).eo.wg WX.out HP.out.hH
    rw[show addS ((((E.end_ t.id).enter 2 b)).upd ((E.end_ t.id).new 2 b).id (Tk.worth v)).o.b9.toNat ((((E.end_ t.id).enter 2 b)).upd ((E.end_ t.id).new 2 b).id (Tk.worth v)).g ((E.end_ t.id).new 2 b).id x=(((E.end_ t.id).enter 2 b)).g++[⟨((E.end_ t.id).new 2 b).id,x⟩] from ADD.out _ (by show 1≤((E.end_ t.id).nt:Int)+1;omega)] at WA
    have H6:=hid h6
    have ZB:=hid (GO.out.zero Z0.out (Nat.lt_of_succ_lt ls1))
    have TM:=hid tm6
    have TE6:=hid te6
    have y16:w6.drew.cell? ⟨p,16,none⟩=some (.pointer (some ⟨(X.with ((E.end_ t.id).nt+1) g5).pg,0,none⟩)):=h6.cell 16
    have nz6:=(h6.eo.tk _ tm6).2
    have yt:=(h6.eo.tk _ tm6).1
    rw[show (Tk.worth v ((E.end_ t.id).new 2 b)).id=((E.end_ t.id).new 2 b).id from rfl,hg5] at yt
    have y0:w6.drew.cell? ⟨g5,0,none⟩=some (.int .i64 ((E.end_ t.id).new 2 b).id):=yt.cell 0
    have yb:=O6.out.row BX.out (λe=>e (Z0.out))
    have b0:w6.drew.cell? ⟨w.heap.size,0,none⟩=some (.int .i64 x.r):=yb.cell 0
    have b1:w6.drew.cell? ⟨w.heap.size,1,none⟩=some (.int .i64 x.p):=yb.cell 1
    rw[show (Tk.worth v ((E.end_ t.id).new 2 b)).id=((E.end_ t.id).new 2 b).id from rfl,hg5] at nz6
    have KS:=hid (λw7 (k7:Only (λg=>c7 g=4) w6.drew w7)=>show w7.cell? ⟨p,16,none⟩=some (.pointer (some ⟨(X.with ((E.end_ t.id).nt+1) g5).pg,0,none⟩))∧w7.cell? ⟨g5,0,none⟩=some (.int .i64 ((E.end_ t.id).new 2 b).id)∧w7.cell? ⟨w.heap.size,0,none⟩=some (.int .i64 x.r)∧w7.cell? ⟨w.heap.size,1,none⟩=some (.int .i64 x.p) from
     ⟨k7.cell y16 (λe=>by have e1:c7 p=4:=e;rw[h6.eo.cp] at e1;cases e1),k7.cell y0 (λe=>by have e1:c7 g5=4:=e;rw[nz6] at e1;cases e1),k7.cell b0 (λe=>by have e1:c7 w.heap.size=4:=e;rw[ZB.out] at e1;cases e1),k7.cell b1 (λe=>by have e1:c7 w.heap.size=4:=e;rw[ZB.out] at e1;cases e1)⟩)
    clear h6 tm6 te6 o6 od yt yb hg5 r5 nz nz6 ZB
    unfold Wt.val at WA
    have WA:=hid WA
    go_wp2_with fail
    rw[←hw6]
    clear hw6 q3 f3
    go_region_held3 (λw'=>w'.cell? ⟨p,16,none⟩=some (.pointer (some ⟨(X.with ((E.end_ t.id).nt+1) g5).pg,0,none⟩))∧w'.cell? ⟨g5,0,none⟩=some (.int .i64 ((E.end_ t.id).new 2 b).id)∧w'.cell? ⟨w.heap.size,0,none⟩=some (.int .i64 x.r)∧w'.cell? ⟨w.heap.size,1,none⟩=some (.int .i64 x.p))
     (first | (with_reducible exact KS.out _ K7.out) | (with_reducible exact⟨y16,y0,b0,b1⟩) | fail)
     (first
      | (go_at_call 69;(with_reducible refine WA.out.mono ?_);rintro e w7 ⟨rfl,k7⟩;have K7:=hid k7.2)
      | fail)
    all_goals
     obtain⟨c7,h7,g7,o7⟩:=(H6.out.still ((Only.refl _ _).drew)).waiters (Nat.le_succ _) (by have:=HH.out;omega) k7
     have O7:=hid (Gw.only O6.out G6.out (((Only.refl n_ w6).drew).then_ o7) (λg e=>by rw[e];decide))
     have G7:=hid (Gw.next (O6.out.idle ((Only.refl n_ w6).drew)) G6.out g7)
     have H7:=hid h7
     have r7:=(h7.eo.tk _ TM.out).1
     rw[show (Tk.worth v ((E.end_ t.id).new 2 b)).id=((E.end_ t.id).new 2 b).id from rfl,GA.out] at r7
     have TD:=etold_any (Tk.worth v ((E.end_ t.id).new 2 b)) g5 w7 h7 r7
     obtain⟨tv,htv⟩:∃tv,tv=(Tk.worth v) ((E.end_ t.id).new 2 b):=⟨_,rfl⟩
     rw[←htv] at TD
     generalize hn:Eng.cnt _ tv.id=n at TD
     unfold pT Tk.told at TD
     have TD:=hid TD
     have TV:=hid htv
     have HN:=hid hn
     clear htv hn
     clear k7 g7 o7 r7 WA y16 y0 b0 b1 h7
     go_wp2_with fail
     (with_reducible refine TD.out.mono ?_)
     rintro e w8 ⟨rfl,o8⟩
     have O8:=hid (O7.out.idle o8)
     have T8:=hid (O8.out.row TX.out (λe=>e Z1.out))
     have H8:=hid (H7.out.still o8)
     clear o8 TD
     obtain⟨d0,d1,d2,d3,d4,d5,d6,d7,d8⟩:=T8.out.nine
     have z0:=T8.out.frozen 0
     have z1:=T8.out.frozen 1
     have z2:=T8.out.frozen 2
     have z3:=T8.out.frozen 3
     have z4:=T8.out.frozen 4
     have z5:=T8.out.frozen 5
     have z6:=T8.out.frozen 6
     have z7:=T8.out.frozen 7
     have z8:=T8.out.frozen 8
     have l8:=T8.out.lt
     go_wp2_with fail
     have RY:=write_yes IV.out HC.out (v:=v) RB.out
     refine bodyPost_ret (results_row2 rfl _ _ (w.heap.size+1) _ _ _ rfl (Row.tick9 T8.out tv n) underlying54 rfl info_tick) rfl ⟨?_,?_⟩
     ·rw[RY.1,RY.2,GN.out,←HN.out,TV.out]
      rfl
     ·rw[RY.2]
      exact EGto.fin H8.out O1.out G7.out O8.out (Nat.le_succ _) (G7.out.zero Z1.out ls1) (only9' (Only.refl (λg=>g=w.heap.size+1) _) (λ_=>rfl) _ _ _ _ _ _ _ _ _) (by omega) (by omega) HFF.out HH.out
  ·have tc:(E.writeC b x != 0)=true:=by simpa using hc
   have HC:=hid hc
   clear hc
   generalize hgc:E.writeC b x=cc at *
   have GC:=hid hgc
   clear hgc
   have T2:=hid (O3.out.still TX.out)
   have H2:=hid (H1.out.still O3.out)
   obtain⟨d0,d1,d2,d3,d4,d5,d6,d7,d8⟩:=T2.out.nine
   have z0:=T2.out.frozen 0
   have z1:=T2.out.frozen 1
   have z2:=T2.out.frozen 2
   have z3:=T2.out.frozen 3
   have z4:=T2.out.frozen 4
   have z5:=T2.out.frozen 5
   have z6:=T2.out.frozen 6
   have z7:=T2.out.frozen 7
   have z8:=T2.out.frozen 8
   have l2:=T2.out.lt
   have NO2:=hid (NO.out HC.out)
   go_wp2_with fail
   refine bodyPost_ret (results_row2 rfl _ _ (w.heap.size+1) _ _ _ rfl (Row.zero9 T2.out) underlying54 rfl info_tick) rfl ⟨?_,?_⟩
   ·rw[NO2.out.1];rfl
   ·rw[NO2.out.2]
    exact EGto.fin H2.out O1.out (Gw.refl _ _) O3.out.up (Nat.le_succ _) Z1.out (only9' (Only.refl (λg=>g=w.heap.size+1) w3) (λ_=>rfl) _ _ _ _ _ _ _ _ _) (by omega) (by omega) HFF.out HH.out
end
end Go.Proofs.YtfbpjobobdidiaaGreatDoor
