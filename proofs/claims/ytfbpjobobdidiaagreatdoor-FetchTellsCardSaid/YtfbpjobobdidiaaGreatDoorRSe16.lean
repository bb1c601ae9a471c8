/- Package fetch's Serve. -/
import Derived.Test.YtfbpjobobdidiaaGreatDoorRG29
namespace Go.Proofs.YtfbpjobobdidiaaGreatDoor
open Lib (hid)
open Go.Proofs.Tryz
open Go.RowKit Go.Maps
set_option linter.unusedVariables false
set_option maxRecDepth 100000
section
variable {p:Nat} {c:Nat→Nat} {X:Loc} {F H:Nat} {ks:List Tk} {E:Eng}
def serveT (E:Eng) (b:Int):Value:=if serves (E.head b) then ((E.head b).getD default).told (E.cnt ((E.head b).getD default).id) else noTk
def serveW (E:Eng) (b:Int):List Wt:=if serves (E.head b) then ofL E.g ((E.head b).getD default).id else []
theorem serve_yes {E:Eng} {b:Int} {t:Tk} (h:E.head b=some t) (r:serves (some t)=true):serveT E b=t.told (E.cnt t.id)∧serveW E b=ofL E.g t.id∧E.serve b=(E.end_ t.id).take t.id∧serves (E.head b)=true:=by
 unfold serveT serveW Eng.serve
 rw[h,r]
 exact⟨rfl,rfl,rfl,rfl⟩
theorem serve_not {E:Eng} {b:Int} (r:serves (E.head b)=false):serveT E b=noTk∧serveW E b=[]∧E.serve b=E∧serves (E.head b)=false:=by
 unfold serveT serveW Eng.serve
 rw[r]
 exact⟨rfl,rfl,rfl,rfl⟩
set_option maxHeartbeats 4000000 in
theorem eserve_any (b:Int) (w:World) (h:EP w p c X F H ks E) (iv:Inv E) (hF:F+10<100000000) (hH:H+2<1000000) :
  Calls prog 20 #[pT p,.int .i64 b] w λe w'=>∃v,e=.returned (.tuple #[serveT E b,v,.bool (serves (E.head b))])∧RdW w' w.heap.size v (serveW E b)∧EGto w p c (F+10) (H+2) (E.serve b) w':=by
 obtain⟨W1,hW1⟩:∃W1,W1=w.alloc (.cells #[.int .i64 0,.int .i64 0,.int .i64 0,.int .i64 0,.int .i64 0,.int .i64 0,.bool false,.bool false,.bool false] 54):=⟨_,rfl⟩
 have tx:Row W1 w.heap.size 54 #[.int .i64 0,.int .i64 0,.int .i64 0,.int .i64 0,.int .i64 0,.int .i64 0,.bool false,.bool false,.bool false]:=by rw[hW1];exact Row.fresh _ _ _
 have o1:Only n_ w W1:=by rw[hW1];exact (Only.refl _ _).alloc _
 have h1:=h.still o1
 have LL:=ehead_any b W1 h1
 have TX:=hid tx
 have O1:=hid o1
 have H1:=hid h1
 have IV:=hid iv
 have HFF:=hid hF
 have HH:=hid hH
 have Z1:=hid (h.zero (Nat.le_refl _))
 have lp:=h.eo.row.lt
 have ls1:=tx.lt
 clear h h1 iv hF hH tx o1
 unfold pT at LL ⊢
 cases hd:E.head b with
 | none =>
  rw[hd] at LL
  obtain⟨ca,cw,ce,cb⟩:=serve_not (E:=E) (b:=b) (by rw[hd];rfl)
  have CA:=hid ca
  have CW:=hid cw
  have CE:=hid ce
  rw[hd] at cb
  have CB:=hid cb
  unfold optPtr at LL
  have LL:=hid LL
  clear hd ca cw ce cb
  go_enter func20,ntmps20
  go_wp2_with fail
  rw[←hW1]
  clear hW1
  (with_reducible refine LL.out.mono ?_)
  rintro e w2 ⟨rfl,o2⟩
  have O2:=hid o2
  clear o2
  have T2:=hid (O2.out.still TX.out)
  have H2:=hid (H1.out.still O2.out)
  obtain⟨d0,d1,d2,d3,d4,d5,d6,d7,d8⟩:=T2.out.nine
  have z0:=T2.out.frozen 0
  have z1:=T2.out.frozen 1
  have z2:=T2.out.frozen 2
  have z3:=T2.out.frozen 3
  have z4:=T2.out.frozen 4
  have z5:=T2.out.frozen 5
  have z6:=T2.out.frozen 6
  have z7:=T2.out.frozen 7
  have z8:=T2.out.frozen 8
  have l2:=T2.out.lt
  go_wp2_with fail
  refine bodyPost_ret (results_row2 rfl _ _ w.heap.size _ _ _ rfl (Row.zero9 T2.out) underlying54 rfl info_tick) rfl ⟨.slice none 0 0,?_,?_,?_⟩
  ·first | (rw[CA.out,CB.out];rfl) | (rw[CA.out];rfl)
  ·rw[CW.out];exact⟨⟨none,0,rfl,λi x hx=>by simp at hx⟩,λg hg=>by cases hg⟩
  ·rw[CE.out]
   exact EGto.fin H2.out O1.out (Gw.refl _ _) O2.out.up (Nat.le_refl _) Z1.out (only9' (Only.refl (λg=>g=w.heap.size) w2) (λ_=>rfl) _ _ _ _ _ _ _ _ _) (by omega) (by omega) HFF.out HH.out
 | some t =>
  rw[hd] at LL
  have HD:=hid hd
  have TM0:=hid (head_in hd).1
  have TKS:=hid (H1.out.sub t (head_in hd).1)
  obtain⟨g5,hg5⟩:∃g5,X.A t.id=g5:=⟨_,rfl⟩
  have HG5:=hid hg5
  have R1:=hid ((H1.out.eo.tk t TKS.out).1)
  have nz0:=((H1.out.eo.tk t TKS.out).2)
  rw[hg5] at nz0
  have NZ:=hid nz0
  clear nz0
  unfold optPtr pT at LL
  simp only[hg5] at LL
  have LL:=hid LL
  cases hs:serves (some t) with
  | false =>
   obtain⟨ca,cw,ce,cb⟩:=serve_not (E:=E) (b:=b) (by rw[hd];exact hs)
   have CA:=hid ca
   have CW:=hid cw
   have CE:=hid ce
   have CB:=hid hs
   have SV:(t.kind==1&&!t.out&&!t.fr)=false:=hs
   clear hd ca cw ce cb hs
   by_cases k1:t.kind=1
   ·have d1:(t.kind != 1)=false:=by rw[k1];rfl
    cases ho:t.out with
    | true =>
     clear SV k1
     go_enter func20,ntmps20
     go_wp2_with fail
     rw[←hW1]
     clear hW1
     (with_reducible refine LL.out.mono ?_)
     rintro e w2 ⟨rfl,o2⟩
     have O2:=hid o2
     clear o2
     have r2:=O2.out.still R1.out
     rw[hg5] at r2
     have q1:w2.cell? ⟨g5,1,none⟩=some (.int .i64 t.kind):=r2.cell 1
     have q6:w2.cell? ⟨g5,6,none⟩=some (.bool t.out):=r2.cell 6
     have q7:w2.cell? ⟨g5,7,none⟩=some (.bool t.fr):=r2.cell 7
     clear r2
     rw[ho] at q6
     clear ho
     have T2:=hid (O2.out.still TX.out)
     have H2:=hid (H1.out.still O2.out)
     obtain⟨d0,d1,d2,d3,d4,d5,d6,d7,d8⟩:=T2.out.nine
     have z0:=T2.out.frozen 0
     have z1:=T2.out.frozen 1
     have z2:=T2.out.frozen 2
     have z3:=T2.out.frozen 3
     have z4:=T2.out.frozen 4
     have z5:=T2.out.frozen 5
     have z6:=T2.out.frozen 6
     have z7:=T2.out.frozen 7
     have z8:=T2.out.frozen 8
     have l2:=T2.out.lt
     go_wp2_with fail
     refine bodyPost_ret (results_row2 rfl _ _ w.heap.size _ _ _ rfl (Row.zero9 T2.out) underlying54 rfl info_tick) rfl ⟨.slice none 0 0,?_,?_,?_⟩
     ·first | (rw[CA.out,CB.out];rfl) | (rw[CA.out];rfl)
     ·rw[CW.out];exact⟨⟨none,0,rfl,λi x hx=>by simp at hx⟩,λg hg=>by cases hg⟩
     ·rw[CE.out]
      exact EGto.fin H2.out O1.out (Gw.refl _ _) O2.out.up (Nat.le_refl _) Z1.out (only9' (Only.refl (λg=>g=w.heap.size) w2) (λ_=>rfl) _ _ _ _ _ _ _ _ _) (by omega) (by omega) HFF.out HH.out
    | false =>
     have hf:t.fr=true:=by
      rw[k1,ho] at SV
      simpa using SV
     clear SV k1
     go_enter func20,ntmps20
     go_wp2_with fail
     rw[←hW1]
     clear hW1
     (with_reducible refine LL.out.mono ?_)
     rintro e w2 ⟨rfl,o2⟩
     have O2:=hid o2
     clear o2
     have r2:=O2.out.still R1.out
     rw[hg5] at r2
     have q1:w2.cell? ⟨g5,1,none⟩=some (.int .i64 t.kind):=r2.cell 1
     have q6:w2.cell? ⟨g5,6,none⟩=some (.bool t.out):=r2.cell 6
     have q7:w2.cell? ⟨g5,7,none⟩=some (.bool t.fr):=r2.cell 7
     clear r2
     rw[ho] at q6
     rw[hf] at q7
     clear ho hf
     have T2:=hid (O2.out.still TX.out)
     have H2:=hid (H1.out.still O2.out)
     obtain⟨d0,d1,d2,d3,d4,d5,d6,d7,d8⟩:=T2.out.nine
     have z0:=T2.out.frozen 0
     have z1:=T2.out.frozen 1
     have z2:=T2.out.frozen 2
     have z3:=T2.out.frozen 3
     have z4:=T2.out.frozen 4
     have z5:=T2.out.frozen 5
     have z6:=T2.out.frozen 6
     have z7:=T2.out.frozen 7
     have z8:=T2.out.frozen 8
     have l2:=T2.out.lt
     go_wp2_with fail
     refine bodyPost_ret (results_row2 rfl _ _ w.heap.size _ _ _ rfl (Row.zero9 T2.out) underlying54 rfl info_tick) rfl ⟨.slice none 0 0,?_,?_,?_⟩
     ·first | (rw[CA.out,CB.out];rfl) | (rw[CA.out];rfl)
     ·rw[CW.out];exact⟨⟨none,0,rfl,λi x hx=>by simp at hx⟩,λg hg=>by cases hg⟩
     ·rw[CE.out]
      exact EGto.fin H2.out O1.out (Gw.refl _ _) O2.out.up (Nat.le_refl _) Z1.out (only9' (Only.refl (λg=>g=w.heap.size) w2) (λ_=>rfl) _ _ _ _ _ _ _ _ _) (by omega) (by omega) HFF.out HH.out
   ·have d1:(t.kind != 1)=true:=by simpa using k1
    clear SV k1
    go_enter func20,ntmps20
    go_wp2_with fail
    rw[←hW1]
    clear hW1
    (with_reducible refine LL.out.mono ?_)
    rintro e w2 ⟨rfl,o2⟩
    have O2:=hid o2
    clear o2
    have r2:=O2.out.still R1.out
    rw[hg5] at r2
    have q1:w2.cell? ⟨g5,1,none⟩=some (.int .i64 t.kind):=r2.cell 1
    have q6:w2.cell? ⟨g5,6,none⟩=some (.bool t.out):=r2.cell 6
    have q7:w2.cell? ⟨g5,7,none⟩=some (.bool t.fr):=r2.cell 7
    clear r2
    have T2:=hid (O2.out.still TX.out)
    have H2:=hid (H1.out.still O2.out)
    obtain⟨d0,d1,d2,d3,d4,d5,d6,d7,d8⟩:=T2.out.nine
    have z0:=T2.out.frozen 0
    have z1:=T2.out.frozen 1
    have z2:=T2.out.frozen 2
    have z3:=T2.out.frozen 3
    have z4:=T2.out.frozen 4
    have z5:=T2.out.frozen 5
    have z6:=T2.out.frozen 6
    have z7:=T2.out.frozen 7
    have z8:=T2.out.frozen 8
    have l2:=T2.out.lt
    go_wp2_with fail
    refine bodyPost_ret (results_row2 rfl _ _ w.heap.size _ _ _ rfl (Row.zero9 T2.out) underlying54 rfl info_tick) rfl ⟨.slice none 0 0,?_,?_,?_⟩
    ·first | (rw[CA.out,CB.out];rfl) | (rw[CA.out];rfl)
    ·rw[CW.out];exact⟨⟨none,0,rfl,λi x hx=>by simp at hx⟩,λg hg=>by cases hg⟩
    ·rw[CE.out]
     exact EGto.fin H2.out O1.out (Gw.refl _ _) O2.out.up (Nat.le_refl _) Z1.out (only9' (Only.refl (λg=>g=w.heap.size) w2) (λ_=>rfl) _ _ _ _ _ _ _ _ _) (by omega) (by omega) HFF.out HH.out
  | true =>
   obtain⟨ca,cw,ce,cb⟩:=serve_yes hd hs
   have CA:=hid ca
   have CW:=hid cw
   have CE:=hid ce
   have CB:=hid hs
   have SV:t.kind=1∧t.out=false∧t.fr=false:=by
    obtain⟨u,hu,s1,s2,s3⟩:=serves_some hs
    injection hu with hu
    rw[hu]
    exact⟨s1,s2,s3⟩
   have d1:(t.kind != 1)=false:=by rw[SV.1];rfl
   clear hd ca cw ce cb hs
   go_enter func20,ntmps20
   go_wp2_with fail
   rw[←hW1]
   clear hW1
   (with_reducible refine LL.out.mono ?_)
   rintro e w2 ⟨rfl,o2⟩
   have O2:=hid o2
   clear o2
   have r2:=O2.out.still R1.out
   rw[hg5] at r2
   have q1:w2.cell? ⟨g5,1,none⟩=some (.int .i64 t.kind):=r2.cell 1
   have q6:w2.cell? ⟨g5,6,none⟩=some (.bool t.out):=r2.cell 6
   have q7:w2.cell? ⟨g5,7,none⟩=some (.bool t.fr):=r2.cell 7
   clear r2
   rw[SV.2.1] at q6
   rw[SV.2.2] at q7
   have r2:=O2.out.still R1.out
   rw[hg5] at r2
   have TD:=etold_any t g5 w2 (H1.out.still O2.out) r2
   generalize hn:Eng.cnt _ t.id=n at TD
   have HN:=hid hn
   unfold pT Tk.told at TD
   have TD:=hid TD
   clear r2 SV hn
   go_wp2_with fail
   (with_reducible refine TD.out.mono ?_)
   rintro e w3 ⟨rfl,o3⟩
   have O3:=hid (O2.out.same o3)
   clear o3 q1 q6 q7 d1 TD
   obtain⟨w4,hw4⟩:∃w4,w4=w3.alloc (.cells (t.toldC n) 54):=⟨_,rfl⟩
   have tq:Row w4 w3.heap.size 54 (t.toldC n):=by rw[hw4];exact Row.fresh _ _ _
   have o4:Only n_ w3 w4:=by rw[hw4];exact (Only.refl _ _).alloc _
   have O4:=hid (O3.out.same o4)
   have Q4:=hid tq
   have ZQ:=hid ((H1.out.still O3.out).zero (Nat.le_refl _))
   have EN:=eend_any t w4 (H1.out.still O4.out) TKS.out (by have:=HFF.out;omega)
   unfold pT at EN
   rw[hg5] at EN
   have EN:=hid EN
   clear o4 tq
   go_wp2_with fail
   first | rw[←hw4] | rw[show w3.alloc (.cells #[.int .i64 t.id,.int .i64 t.kind,.int .i64 t.b,.int .i64 t.l,.int .i64 t.tries,.int .i64 n,.bool t.out,.bool t.fr,.bool t.cut] 54)=w4 from hw4.symm]
   clear hw4
   (with_reducible refine EN.out.mono ?_)
   rintro e w5 ⟨rfl,⟨c5,h5,gw5⟩,o5⟩
   have O5:=hid (Gw.only (S:=λg=>c g≠0∧c g≠6) (O4.out.up (S:=λg=>c g≠0)) (Gw.refl W1 c) o5 (λg e=>e.1))
   have G5:=hid (Gw.next (O4.out.up (S:=λg=>c g≠0)) (Gw.refl W1 c) gw5)
   have Q5:=hid (o5.row Q4.out (λe=>e.1 ZQ.out))
   have H5:=hid h5
   have zq5:c5 w3.heap.size=0:=gw5.zero ZQ.out Q4.out.lt
   have zt5:c5 w.heap.size=0:=G5.out.zero Z1.out ls1
   have od:Only n_ w5 w5.drew:=(Only.refl _ _).drew
   have WT:=wtake_any t.id w5.drew (h5.still od).eo.wg
   have WT:=hid WT
   have r5:=(h5.eo.tk t TKS.out).1
   have n5:=(h5.eo.tk t TKS.out).2
   rw[hg5] at r5 n5
   have y16:w5.drew.cell? ⟨p,16,none⟩=some (.pointer (some ⟨X.pg,0,none⟩)):=h5.cell 16
   have y0:w5.drew.cell? ⟨g5,0,none⟩=some (.int .i64 t.id):=r5.cell 0
   have qd:=(od.still Q5.out)
   unfold Tk.toldC at qd
   obtain⟨a0,a1,a2,a3,a4,a5,a6,a7,a8⟩:=qd.nine
   have lq:=qd.lt
   have NP:p≠w.heap.size∧g5≠w.heap.size∧w3.heap.size≠w.heap.size:=by
    refine⟨by omega,λe=>?_,?_⟩
    ·rw[e,zt5] at n5;cases n5
    ·have:=ls1;have:=O3.out.size;omega
   have KS:=hid (λw7 (k7:Only (λg=>c5 g=4∨g=w.heap.size) w5.drew w7)=>show w7.cell? ⟨p,16,none⟩=some (.pointer (some ⟨X.pg,0,none⟩))∧w7.cell? ⟨g5,0,none⟩=some (.int .i64 t.id)∧(w7.cell? ⟨w3.heap.size,0,none⟩=some (.int .i64 t.id)∧w7.cell? ⟨w3.heap.size,1,none⟩=some (.int .i64 t.kind)∧w7.cell? ⟨w3.heap.size,2,none⟩=some (.int .i64 t.b)∧w7.cell? ⟨w3.heap.size,3,none⟩=some (.int .i64 t.l)∧w7.cell? ⟨w3.heap.size,4,none⟩=some (.int .i64 t.tries)∧w7.cell? ⟨w3.heap.size,5,none⟩=some (.int .i64 n)∧w7.cell? ⟨w3.heap.size,6,none⟩=some (.bool t.out)∧w7.cell? ⟨w3.heap.size,7,none⟩=some (.bool t.fr)∧w7.cell? ⟨w3.heap.size,8,none⟩=some (.bool t.cut)) from
    ⟨k7.cell y16 (λe=>by rcases e with e|e;(have e1:c5 p=4:=e;rw[h5.eo.cp] at e1;cases e1);exact NP.1 e),k7.cell y0 (λe=>by rcases e with e|e;(have e1:c5 g5=4:=e;rw[n5] at e1;cases e1);exact NP.2.1 e),(k7.row qd (λe=>by rcases e with e|e;(have e1:c5 w3.heap.size=4:=e;rw[zq5] at e1;cases e1);exact NP.2.2 e)).nine⟩)
   have KT:=hid (λw7 (k7:Only (λg=>c5 g=4) w5.drew w7)=>show Row w7 w.heap.size 54 #[.int .i64 0,.int .i64 0,.int .i64 0,.int .i64 0,.int .i64 0,.int .i64 0,.bool false,.bool false,.bool false] from k7.row (od.still (O5.out.row TX.out (λe=>e Z1.out))) (λe=>by have e1:c5 w.heap.size=4:=e;rw[zt5] at e1;cases e1))
   clear h5 o5 gw5 od r5 n5 EN hg5 LL zq5 zt5 qd
   go_wp2_with fail
   go_cut [5,6] from 43 to 53 (λs5 s6 wx=>∃w7 a' b',s5=.slice a' (ofL (E.end_ t.id).g t.id).length b'∧s6=.bool true∧RdW w7 w5.drew.heap.size s5 (ofL (E.end_ t.id).g t.id)∧WGtoV w5.drew X.pg (λg=>c5 g=4) (E.end_ t.id).o.b9.toNat H (leftT (E.end_ t.id).g t.id) s5 w7∧wx=(((((((((w7.setCell ⟨w.heap.size,0,none⟩ (.int .i64 t.id)).setCell ⟨w.heap.size,1,none⟩ (.int .i64 t.kind)).setCell ⟨w.heap.size,2,none⟩ (.int .i64 t.b)).setCell ⟨w.heap.size,3,none⟩ (.int .i64 t.l)).setCell ⟨w.heap.size,4,none⟩ (.int .i64 t.tries)).setCell ⟨w.heap.size,5,none⟩ (.int .i64 n)).setCell ⟨w.heap.size,6,none⟩ (.bool t.out)).setCell ⟨w.heap.size,7,none⟩ (.bool t.fr)).setCell ⟨w.heap.size,8,none⟩ (.bool t.cut)))
   case first =>
    go_region_with (first
     | (go_at_call 61;(with_reducible refine WT.out.mono ?_);rintro e w7 ⟨v7,rfl,rd7,k7⟩;obtain⟨a7',b7',rfl⟩:=rd7.len;have K7:=hid k7.2;have KK:=hid k7;have RD:=hid rd7;have T7:=hid (KT.out _ K7.out);obtain⟨x16,x0,x1⟩:=KS.out _ (K7.out.more (λi _ e=>.inl e));obtain⟨b0,b1,b2,b3,b4,b5,b6,b7,b8⟩:=x1;obtain⟨d0,d1,d2,d3,d4,d5,d6,d7,d8⟩:=T7.out.nine;have z0:=T7.out.frozen 0;have z1:=T7.out.frozen 1;have z2:=T7.out.frozen 2;have z3:=T7.out.frozen 3;have z4:=T7.out.frozen 4;have z5:=T7.out.frozen 5;have z6:=T7.out.frozen 6;have z7:=T7.out.frozen 7;have z8:=T7.out.frozen 8;have l7:=T7.out.lt;clear rd7 k7)
     | fail)
    all_goals
     go_wp2_with fail
     go_meet
     exact⟨w7,_,_,rfl,rfl,RD.out,KK.out,rfl⟩
   case rest =>
    obtain⟨w7,a7',b7',rfl,rfl,rd7,k7,hwx⟩:=hcut
    subst hwx
    have K7:=hid k7.2
    have KK:=hid k7.to
    have RD:=hid rd7
    have T7:=hid (KT.out _ K7.out)
    clear rd7 k7
    obtain⟨c9,h9,g9,o9⟩:=(H5.out.still ((Only.refl _ _).drew)).waiters (Nat.le_refl _) H5.out.hH KK.out
    have G9:=hid (Gw.next (O5.out.idle ((Only.refl n_ w5).drew)) G5.out g9)
    have O9:=hid (Gw.only O5.out G5.out (((Only.refl n_ w5).drew).then_ o9) (λg e=>by rw[e];decide))
    have H9:=hid h9
    clear h9 g9 o9
    go_wp2_with fail
    refine bodyPost_ret (results_row2 rfl _ _ w.heap.size _ _ _ rfl (Row.tick9 T7.out t n) underlying54 rfl info_tick) rfl ⟨.slice a7' (ofL (E.end_ t.id).g t.id).length b7',?_,?_,?_⟩
    ·first | (rw[CA.out,CB.out,←HN.out];rfl) | (rw[CA.out,←HN.out];rfl)
    ·rw[CW.out]
     have q:=RD.out.keep (only9' (Only.refl (λg=>g=w.heap.size) w7) (λ_=>rfl) (.int .i64 t.id) (.int .i64 t.kind) (.int .i64 t.b) (.int .i64 t.l) (.int .i64 t.tries) (.int .i64 n) (.bool t.out) (.bool t.fr) (.bool t.cut)) (λg hg e=>by
      have e1:g=w.heap.size:=e
      have:=(RD.out.late g hg).1
      have:=Nat.lt_of_lt_of_le ls1 O5.out.size
      have:w5.drew.heap.size=w5.heap.size:=rfl
      omega)
     exact⟨q.reads,λg hg=>⟨by have:=(q.late g hg).1;have:=O1.out.size;have:=O5.out.size;have:w5.drew.heap.size=w5.heap.size:=rfl;omega,(q.late g hg).2⟩⟩
    ·rw[CE.out]
     exact EGto.fin H9.out O1.out G9.out O9.out (Nat.le_refl _) (G9.out.zero Z1.out ls1) (only9' (Only.refl (λg=>g=w.heap.size) _) (λ_=>rfl) _ _ _ _ _ _ _ _ _) (by omega) (by omega) HFF.out HH.out
end
end Go.Proofs.YtfbpjobobdidiaaGreatDoor
