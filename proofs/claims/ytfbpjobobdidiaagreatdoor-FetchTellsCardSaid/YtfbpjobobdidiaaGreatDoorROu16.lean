/- A ticket comes in again. -/
import Derived.Test.YtfbpjobobdidiaaGreatDoorRG32
namespace Go.Proofs.YtfbpjobobdidiaaGreatDoor
open Lib (hid)
open Go.Proofs.Tryz
open Go.RowKit Go.Maps
set_option linter.unusedVariables false
set_option maxRecDepth 100000
section
variable {p:Nat} {c:Nat→Nat} {X:Loc} {F H:Nat} {ks:List Tk} {E:Eng}
theorem new12 {S:Nat→Prop} {a w:World} (o:Only S a w) {g:Nat} (hg:a.heap.size≤g) (d0 d1 d2 d3 d4 d5 d6 d7 d8 d9 d10 d11:Value):Only S a ((((((((((((w.setCell ⟨g,0,none⟩ d0).setCell ⟨g,1,none⟩ d1).setCell ⟨g,2,none⟩ d2).setCell ⟨g,3,none⟩ d3).setCell ⟨g,4,none⟩ d4).setCell ⟨g,5,none⟩ d5).setCell ⟨g,6,none⟩ d6).setCell ⟨g,7,none⟩ d7).setCell ⟨g,8,none⟩ d8).setCell ⟨g,9,none⟩ d9).setCell ⟨g,10,none⟩ d10).setCell ⟨g,11,none⟩ d11):=
 (((((((((((o.new hg 0 d0).new hg 1 d1).new hg 2 d2).new hg 3 d3).new hg 4 d4).new hg 5 d5).new hg 6 d6).new hg 7 d7).new hg 8 d8).new hg 9 d9).new hg 10 d10).new hg 11 d11
theorem Row.put12 {w:World} {g:Nat} {t:TypeId} {c0 c1 c2 c3 c4 c5 c6 c7 c8 c9 c10 c11:Value} (h:Row w g t #[c0,c1,c2,c3,c4,c5,c6,c7,c8,c9,c10,c11]) (d0 d1 d2 d3 d4 d5 d6 d7 d8 d9 d10 d11:Value):Row ((((((((((((w.setCell ⟨g,0,none⟩ d0).setCell ⟨g,1,none⟩ d1).setCell ⟨g,2,none⟩ d2).setCell ⟨g,3,none⟩ d3).setCell ⟨g,4,none⟩ d4).setCell ⟨g,5,none⟩ d5).setCell ⟨g,6,none⟩ d6).setCell ⟨g,7,none⟩ d7).setCell ⟨g,8,none⟩ d8).setCell ⟨g,9,none⟩ d9).setCell ⟨g,10,none⟩ d10).setCell ⟨g,11,none⟩ d11) g t #[d0,d1,d2,d3,d4,d5,d6,d7,d8,d9,d10,d11]:=by
 have e:=(((((((((((h.put 0 d0).put 1 d1).put 2 d2).put 3 d3).put 4 d4).put 5 d5).put 6 d6).put 7 d7).put 8 d8).put 9 d9).put 10 d10).put 11 d11
 simp only[List.setIfInBounds_toArray,List.set_cons_succ,List.set_cons_zero] at e
 exact e
theorem put12o {S:Nat→Prop} {a w:World} (o:Only S a w) {g:Nat} (hg:g<a.heap.size→S g) (d0 d1 d2 d3 d4 d5 d6 d7 d8 d9 d10 d11:Value):Only S a ((((((((((((w.setCell ⟨g,0,none⟩ d0).setCell ⟨g,1,none⟩ d1).setCell ⟨g,2,none⟩ d2).setCell ⟨g,3,none⟩ d3).setCell ⟨g,4,none⟩ d4).setCell ⟨g,5,none⟩ d5).setCell ⟨g,6,none⟩ d6).setCell ⟨g,7,none⟩ d7).setCell ⟨g,8,none⟩ d8).setCell ⟨g,9,none⟩ d9).setCell ⟨g,10,none⟩ d10).setCell ⟨g,11,none⟩ d11):=
 (((((((((((o.put (p:=⟨g,0,none⟩) hg d0).put (p:=⟨g,1,none⟩) hg d1).put (p:=⟨g,2,none⟩) hg d2).put (p:=⟨g,3,none⟩) hg d3).put (p:=⟨g,4,none⟩) hg d4).put (p:=⟨g,5,none⟩) hg d5).put (p:=⟨g,6,none⟩) hg d6).put (p:=⟨g,7,none⟩) hg d7).put (p:=⟨g,8,none⟩) hg d8).put (p:=⟨g,9,none⟩) hg d9).put (p:=⟨g,10,none⟩) hg d10).put (p:=⟨g,11,none⟩) hg d11
theorem info_outc:(prog.info? 73).map (·.size)=some 12:=by kernel_rfl
theorem results_outc {fn:Func} {q:Tmp} (h:fn.results=#[.cell q 73]) (tmps:Array Value) (w:World) (g:Nat) (cs:Array Value) (h12:cs.size=12)
  (hp:tmps.getD q undef=.pointer (some ⟨g,0,none⟩)) (hg:Row w g 73 cs):(results fn tmps).run prog w=.ok (.agg cs) w:=
 results_cell_row h tmps w g 73 _ (0,0) _ hp hg underlying73 rfl (by rw[info_outc,h12])
theorem Row.twelve {w:World} {g:Nat} {t:TypeId} {c0 c1 c2 c3 c4 c5 c6 c7 c8 c9 c10 c11:Value} (h:Row w g t #[c0,c1,c2,c3,c4,c5,c6,c7,c8,c9,c10,c11]):w.cell? ⟨g,0,none⟩=some c0∧w.cell? ⟨g,1,none⟩=some c1∧w.cell? ⟨g,2,none⟩=some c2∧w.cell? ⟨g,3,none⟩=some c3∧w.cell? ⟨g,4,none⟩=some c4∧w.cell? ⟨g,5,none⟩=some c5∧w.cell? ⟨g,6,none⟩=some c6∧w.cell? ⟨g,7,none⟩=some c7∧w.cell? ⟨g,8,none⟩=some c8∧w.cell? ⟨g,9,none⟩=some c9∧w.cell? ⟨g,10,none⟩=some c10∧w.cell? ⟨g,11,none⟩=some c11:=
 ⟨h.cell 0,h.cell 1,h.cell 2,h.cell 3,h.cell 4,h.cell 5,h.cell 6,h.cell 7,h.cell 8,h.cell 9,h.cell 10,h.cell 11⟩
def Oc.val (o:Oc) (v:Value):Value:=.agg #[.int .i64 o.t.id,.int .i64 o.t.kind,.int .i64 o.t.b,.int .i64 o.t.l,.int .i64 o.t.tries,.int .i64 o.n,.bool o.t.out,.bool o.t.fr,.bool o.t.cut,.int .i64 o.f,.int .u64 o.t.v,v]
set_option maxHeartbeats 4000000 in
theorem eoutcome_any (t:Tk) (well:Bool) (w:World) (h:EP w p c X F H ks E) (ht:t∈E.ts) (htr:0≤t.tries∧t.tries≤1000) (hF:F+1<100000000) :
    Calls prog 73 #[pT p,pT (X.A t.id),.bool well] w λe w'=>∃v,e=.returned ((Oc.mk t (E.cnt t.id) (fate16 E t well) []).val v)∧RdW w' w.heap.size v (if fate16 E t well=1 then [] else ofL E.g t.id)∧EGtoV w p c (F+1) H (if fate16 E t well=1 then { (E.upd t.id Tk.back) with qs:=waitS E.qs t.id true } else (E.end_ t.id).take t.id) v w':=by
  have r0:=h.rowOf ht
  have FE:=hid (show fate16 E t well=fateN E.o.b7 (E.cnt t.id) t.tries well from rfl)
  have zs:=h.zero (Nat.le_refl w.heap.size)
  have tks:=h.sub t ht
  have nz5:=(h.eo.tk t tks).2
  have TD:=λw' (o:Only n_ w w')=>etold_any t (X.A t.id) w' (h.still o) (o.still r0)
  obtain⟨g5,hg5⟩:∃g5,X.A t.id=g5:=⟨_,rfl⟩
  rw[hg5] at TD r0 nz5
  have HG5:=hid hg5
  have ZS:=hid zs
  have TKS:=hid tks
  have NZ:=hid nz5
  have HFF:=hid hF
  rw[hg5]
  generalize hn:E.cnt t.id=n at *
  obtain⟨W1,hW1⟩:∃W1,W1=w.alloc (.cells #[.int .i64 0,.int .i64 0,.int .i64 0,.int .i64 0,.int .i64 0,.int .i64 0,.bool false,.bool false,.bool false,.int .i64 0,.int .u64 0,.slice none 0 0] 73):=⟨_,rfl⟩
  have tx:Row W1 w.heap.size 73 #[.int .i64 0,.int .i64 0,.int .i64 0,.int .i64 0,.int .i64 0,.int .i64 0,.bool false,.bool false,.bool false,.int .i64 0,.int .u64 0,.slice none 0 0]:=by rw[hW1];exact Row.fresh _ _ _
  have o1:Only n_ w W1:=by rw[hW1];exact (Only.refl _ _).alloc _
  have TX:=hid tx
  have O1:=hid o1
  have H0:=hid h
  have R0:=hid r0
  have HN:=hid hn
  have HTR:=hid htr
  have HT:=hid ht
  unfold pT at TD ⊢
  unfold Tk.told at TD
  have TD:=hid TD
  have FT:=λw' (o:Only n_ w w')=>efate_any t n well w' (h.still o) htr
  unfold pT Tk.told at FT
  generalize hfa:fateN E.o.b7 n t.tries well=fa at FT
  have FT:=hid FT
  have HFA:=hid hfa
  rw[show fate16 E t well=fa from by rw[FE.out,hfa]]
  clear h ht htr hn tx o1 r0 hfa zs tks nz5 hF
  go_enter func73,ntmps73
  go_wp2_with fail
  rw[←hW1]
  clear hW1
  (with_reducible refine (TD.out W1 O1.out).mono ?_)
  rintro e w2 ⟨rfl,o2⟩
  obtain⟨w3,hw3⟩:∃w3,w3=w2.alloc (.cells #[.int .i64 t.id,.int .i64 t.kind,.int .i64 t.b,.int .i64 t.l,.int .i64 t.tries,.int .i64 n,.bool t.out,.bool t.fr,.bool t.cut] 54):=⟨_,rfl⟩
  have q3:Row w3 w2.heap.size 54 #[.int .i64 t.id,.int .i64 t.kind,.int .i64 t.b,.int .i64 t.l,.int .i64 t.tries,.int .i64 n,.bool t.out,.bool t.fr,.bool t.cut]:=by rw[hw3];exact Row.fresh _ _ _
  have o3:Only n_ w2 w3:=by rw[hw3];exact (Only.refl _ _).alloc _
  have O3:=hid ((O1.out.same o2).same o3)
  have F3:=hid (FT.out w3.drew O3.out.drew)
  have KQ:=hid (λw' (o:Only n_ w3 w')=>o.still q3)
  have KV:=hid (λw' (o:Only n_ w3 w')=>show w'.cell? ⟨g5,9,none⟩=some (.int .u64 t.v) from ((O3.out.same o).still R0.out).cell 9)
  have od:Only n_ w3 w3.drew:=(Only.refl _ _).drew
  obtain⟨c0,c1,c2,c3,c4,c5,c6,c7,c8⟩:=(KQ.out _ od).nine
  have cv:=KV.out _ od
  have l3:=q3.lt
  have OT:=hid (o2.same o3)
  clear o2 q3 o3
  go_wp2_with fail
  rw[←hw3]
  clear hw3
  go_region_held3 (λw'=>(w'.cell? ⟨w2.heap.size,0,none⟩=some (.int .i64 t.id)∧w'.cell? ⟨w2.heap.size,1,none⟩=some (.int .i64 t.kind)∧w'.cell? ⟨w2.heap.size,2,none⟩=some (.int .i64 t.b)∧w'.cell? ⟨w2.heap.size,3,none⟩=some (.int .i64 t.l)∧w'.cell? ⟨w2.heap.size,4,none⟩=some (.int .i64 t.tries)∧w'.cell? ⟨w2.heap.size,5,none⟩=some (.int .i64 n)∧w'.cell? ⟨w2.heap.size,6,none⟩=some (.bool t.out)∧w'.cell? ⟨w2.heap.size,7,none⟩=some (.bool t.fr)∧w'.cell? ⟨w2.heap.size,8,none⟩=some (.bool t.cut))∧w'.cell? ⟨g5,9,none⟩=some (.int .u64 t.v))
    (first | (with_reducible exact⟨(KQ.out _ O4.out).nine,KV.out _ O4.out⟩) | (with_reducible exact⟨(KQ.out _ (new12 O4.out (Nat.le_refl _) _ _ _ _ _ _ _ _ _ _ _ _)).nine,KV.out _ (new12 O4.out (Nat.le_refl _) _ _ _ _ _ _ _ _ _ _ _ _)⟩) | (with_reducible exact⟨(KQ.out _ (new12 (O4.out.alloc _) O4.out.size _ _ _ _ _ _ _ _ _ _ _ _)).nine,KV.out _ (new12 (O4.out.alloc _) O4.out.size _ _ _ _ _ _ _ _ _ _ _ _)⟩) | (with_reducible exact⟨(KQ.out _ od).nine,KV.out _ od⟩) | (with_reducible exact⟨(KQ.out _ ((Only.refl n_ w3).alloc _).drew).nine,KV.out _ ((Only.refl n_ w3).alloc _).drew⟩) | (with_reducible exact⟨(KQ.out _ (od.alloc _)).nine,KV.out _ (od.alloc _)⟩) | (with_reducible exact⟨(KQ.out _ (O4.out.alloc _)).nine,KV.out _ (O4.out.alloc _)⟩) | fail)
    (first
      | (go_at_call 120;(with_reducible refine F3.out.mono ?_);rintro e w4 ⟨rfl,o4⟩;have O4:=hid (od.same o4))
      | (go_at_call 120;(with_reducible refine (FT.out _ (O3.out.same (((Only.refl n_ w3).alloc _).drew))).mono ?_);rintro e w4 ⟨rfl,o4⟩;have O4:=hid ((((Only.refl n_ w3).alloc _).drew).same o4);have N4:=hid (o4.still (Row.fresh w3 73 #[.int .i64 0,.int .i64 0,.int .i64 0,.int .i64 0,.int .i64 0,.int .i64 0,.bool false,.bool false,.bool false,.int .i64 0,.int .u64 0,.slice none 0 0]));obtain⟨n0,n1,n2,n3,n4,n5,n6,n7,n8,n9,n10,n11⟩:=N4.out.twelve;have y0:=N4.out.frozen 0;have y1:=N4.out.frozen 1;have y2:=N4.out.frozen 2;have y3:=N4.out.frozen 3;have y4:=N4.out.frozen 4;have y5:=N4.out.frozen 5;have y6:=N4.out.frozen 6;have y7:=N4.out.frozen 7;have y8:=N4.out.frozen 8;have y9:=N4.out.frozen 9;have y10:=N4.out.frozen 10;have y11:=N4.out.frozen 11;have ln4:=N4.out.lt)
      | fail)
  all_goals
    have XX:=hid (show ∃B w5,w3.heap.size≤B∧Row w5 B 73 #[.int .i64 t.id,.int .i64 t.kind,.int .i64 t.b,.int .i64 t.l,.int .i64 t.tries,.int .i64 n,.bool t.out,.bool t.fr,.bool t.cut,.int .i64 fa,.int .u64 t.v,.slice none 0 0]∧Only n_ w3 w5∧w5=w5 from ⟨w4.heap.size,w4.alloc (.cells #[.int .i64 t.id,.int .i64 t.kind,.int .i64 t.b,.int .i64 t.l,.int .i64 t.tries,.int .i64 n,.bool t.out,.bool t.fr,.bool t.cut,.int .i64 fa,.int .u64 t.v,.slice none 0 0] 73),O4.out.size,Row.fresh _ _ _,O4.out.alloc _,rfl⟩)
    first
      | (obtain⟨B,hB⟩:∃B,B=w4.heap.size:=⟨_,rfl⟩
         obtain⟨w5,hw5⟩:∃w5,w5=w4.alloc (.cells #[.int .i64 t.id,.int .i64 t.kind,.int .i64 t.b,.int .i64 t.l,.int .i64 t.tries,.int .i64 n,.bool t.out,.bool t.fr,.bool t.cut,.int .i64 fa,.int .u64 t.v,.slice none 0 0] 73):=⟨_,rfl⟩
         have R5:=hid (show Row w5 B 73 #[.int .i64 t.id,.int .i64 t.kind,.int .i64 t.b,.int .i64 t.l,.int .i64 t.tries,.int .i64 n,.bool t.out,.bool t.fr,.bool t.cut,.int .i64 fa,.int .u64 t.v,.slice none 0 0] from by rw[hw5,hB];exact Row.fresh _ _ _)
         have O5:=hid (show Only n_ w3 w5 from by rw[hw5];exact O4.out.alloc _)
         have LB:=hid (show w3.heap.size≤B from by rw[hB];exact O4.out.size)
         rw[←hw5,←hB]
         clear hw5 hB)
      | (obtain⟨B,hB⟩:∃B,B=w3.heap.size:=⟨_,rfl⟩
         obtain⟨w5,hw5⟩:∃w5,w5=(((((((((((w4.setCell ⟨w3.heap.size,0,none⟩ (.int .i64 t.id)).setCell ⟨w3.heap.size,1,none⟩ (.int .i64 t.kind)).setCell ⟨w3.heap.size,2,none⟩ (.int .i64 t.b)).setCell ⟨w3.heap.size,3,none⟩ (.int .i64 t.l)).setCell ⟨w3.heap.size,4,none⟩ (.int .i64 t.tries)).setCell ⟨w3.heap.size,5,none⟩ (.int .i64 n)).setCell ⟨w3.heap.size,6,none⟩ (.bool t.out)).setCell ⟨w3.heap.size,7,none⟩ (.bool t.fr)).setCell ⟨w3.heap.size,8,none⟩ (.bool t.cut)).setCell ⟨w3.heap.size,9,none⟩ (.int .i64 fa)).setCell ⟨w3.heap.size,10,none⟩ (.int .u64 t.v)).setCell ⟨w3.heap.size,11,none⟩ (.slice none 0 0):=⟨_,rfl⟩
         have R5:=hid (show Row w5 B 73 #[.int .i64 t.id,.int .i64 t.kind,.int .i64 t.b,.int .i64 t.l,.int .i64 t.tries,.int .i64 n,.bool t.out,.bool t.fr,.bool t.cut,.int .i64 fa,.int .u64 t.v,.slice none 0 0] from by rw[hw5,hB];exact N4.out.put12 _ _ _ _ _ _ _ _ _ _ _ _)
         have O5:=hid (show Only n_ w3 w5 from by rw[hw5];exact new12 O4.out (Nat.le_refl _) _ _ _ _ _ _ _ _ _ _ _ _)
         have LB:=hid (show w3.heap.size≤B from by rw[hB];exact Nat.le_refl _)
         rw[←hw5,←hB]
         clear hw5 hB n0 n1 n2 n3 n4 n5 n6 n7 n8 n9 n10 n11 y0 y1 y2 y3 y4 y5 y6 y7 y8 y9 y10 y11 ln4 N4)
    clear XX
    have b9:w5.cell? ⟨B,9,none⟩=some (.int .i64 fa):=R5.out.cell 9
    by_cases k1:fa=1
    · have d1:(fa==1)=true:=by rw[k1];rfl
      subst k1
      have K1:=hid (show (1:Int)=1 from rfl)
      have h5:=H0.out.still (O3.out.same O5.out)
      have r5:=(h5.eo.tk t TKS.out).1
      rw[hg5] at r5
      have lg5:=r5.lt
      have q4:w5.cell? ⟨g5,4,none⟩=some (.int .i64 t.tries):=r5.cell 4
      have q6:w5.cell? ⟨g5,6,none⟩=some (.bool t.out):=r5.cell 6
      have f4:=r5.frozen 4
      have f6:=r5.frozen 6
      have v1:IntKind.i64.wrap (t.tries+1)=t.tries+1:=by have:=HTR.out;rw[IntKind.wrap_i64];omega
      obtain⟨w7,hw7⟩:∃w7,w7=(w5.setCell ⟨g5,4,none⟩ (.int .i64 (t.tries+1))).setCell ⟨g5,6,none⟩ (.bool false):=⟨_,rfl⟩
      have o7:Only (λk=>k=g5) w5 w7:=by rw[hw7];exact ((Only.refl (λk=>k=g5) w5).into rfl _ _).into rfl _ _
      have r7:Row w7 g5 123 (Tk.back t).cells:=by rw[hw7];exact (r5.put 4 _).put 6 _
      have h7:=h5.tick TKS.out Tk.back keeps_back (w':=w7) (by rw[hg5];exact r7) (by rw[hg5];exact o7)
      have OO7:=hid (Gw.only ((O3.out.same O5.out).up (S:=λg=>c g≠0)) (Gw.refl w c) o7 (λg e=>by rw[e,NZ.out];decide))
      have TA:=tagainF t.id (h7.still ((Only.refl n_ w7).drew)).eo.tn (wf_id H0.out TKS.out)
      have TA:=hid TA
      have y15:w7.drew.cell? ⟨p,15,none⟩=some (.pointer (some ⟨X.pt,0,none⟩)):=h7.cell 15
      have y0:w7.drew.cell? ⟨g5,0,none⟩=some (.int .i64 t.id):=r7.cell 0
      have H7:=hid h7
      have OW:=hid (show Only (λg=>c g≠0) w5 w7 from o7.more (λi _ e=>by rw[e,NZ.out];decide))
      have lB:=R5.out.lt
      have NB:=hid (show c B=0 from H0.out.zero (by have:=LB.out;have:=O3.out.size;omega))
      have e1:∀g,g5≠g∨True:=λg=>.inr trivial
      clear h5 r5 o7 r7 h7 e1
      obtain⟨n0,n1,n2,n3,n4,n5,n6,n7,n8,n9,n10,n11⟩:=R5.out.twelve
      go_upto_region 6 with fail
      rw[←hw7]
      clear hw7 q4 q6 f4 f6 v1 lg5
      go_region_with (first
        | (go_at_call 121;(with_reducible refine TA.out.mono ?_);rintro e w8 ⟨rfl,t8,o8⟩)
        | fail)
      all_goals
        have h8:=(H7.out.still ((Only.refl n_ w7).drew)).turned HFF.out t8 o8
        have OO8:=hid (Gw.only (S:=two12 X.pt X.bq) (OO7.out.idle ((Only.refl n_ w7).drew)) (Gw.refl w c) o8 (λg e=>by rcases e with e | e;(rw[e,H0.out.eo.ct.1];decide);(rw[e,H0.out.eo.ct.2];decide)))
        have OV:=hid ((OW.out.idle ((Only.refl n_ w7).drew)).same (o8.more (S':=λg=>c g≠0) (λi _ e=>by
          rcases e with e | e
          · rw[e,H0.out.eo.ct.1];decide
          · rw[e,H0.out.eo.ct.2];decide)))
        have H8:=hid h8
        have RB:=hid (OV.out.row R5.out (λe=>e NB.out))
        have TS:=hid (OV.out.row ((OT.out.same O5.out).still TX.out) (λe=>e ZS.out))
        clear t8 o8 h8 TA y15 y0
        obtain⟨b0,b1,b2,b3,b4,b5,b6,b7,b8,b9,b10,b11⟩:=RB.out.twelve
        obtain⟨d0,d1,d2,d3,d4,d5,d6,d7,d8,d9,d10,d11⟩:=TS.out.twelve
        have z0:=TS.out.frozen 0
        have z1:=TS.out.frozen 1
        have z2:=TS.out.frozen 2
        have z3:=TS.out.frozen 3
        have z4:=TS.out.frozen 4
        have z5:=TS.out.frozen 5
        have z6:=TS.out.frozen 6
        have z7:=TS.out.frozen 7
        have z8:=TS.out.frozen 8
        have z9:=TS.out.frozen 9
        have z10:=TS.out.frozen 10
        have z11:=TS.out.frozen 11
        have lB8:=RB.out.lt
        have lS8:=TS.out.lt
        go_wp2_with fail
        have FR:=TS.out.put12 (.int .i64 t.id) (.int .i64 t.kind) (.int .i64 t.b) (.int .i64 t.l) (.int .i64 t.tries) (.int .i64 n) (.bool t.out) (.bool t.fr) (.bool t.cut) (.int .i64 1) (.int .u64 t.v) (.slice none 0 0)
        refine bodyPost_ret (results_outc rfl _ _ w.heap.size _ rfl rfl FR) rfl ⟨.slice none 0 0,?_,?_,?_⟩
        · rfl
        · first | (rw[if_pos K1.out];exact⟨⟨none,0,rfl,λi x hx=>by simp at hx⟩,λg hg=>by cases hg⟩) | exact⟨⟨none,0,rfl,λi x hx=>by simp at hx⟩,λg hg=>by cases hg⟩
        · try rw[if_pos K1.out]
          exact EGtoV.fin H8.out (Only.refl n_ w) (Gw.refl w c) OO8.out (Nat.le_refl _) ZS.out (put12o (Only.refl (λg=>g=w.heap.size) _) (λ_=>rfl) _ _ _ _ _ _ _ _ _ _ _ _) (Nat.le_refl _) (Nat.le_refl _) HFF.out H0.out.hH (λg hg=>by cases hg)
    · have d1:(fa==1)=false:=by simpa using k1
      have K1:=hid k1
      clear k1
      have H5:=hid (H0.out.still (O3.out.same O5.out))
      have EN:=eend_any t w5 H5.out TKS.out HFF.out
      unfold pT at EN
      rw[hg5] at EN
      have EN:=hid EN
      have lB:=R5.out.lt
      have NB:=hid (show c B=0 from H0.out.zero (by have:=LB.out;have:=O3.out.size;omega))
      have sB:=hid (show w.heap.size≠B from by have:=LB.out;have:=OT.out.size;have:=TX.out.lt;omega)
      go_wp2_with fail
      (with_reducible refine EN.out.mono ?_)
      rintro e w6 ⟨rfl,⟨c6,h6,gw6⟩,o6⟩
      have O6:=hid (Gw.only (S:=λg=>c g≠0∧c g≠6) ((O3.out.same O5.out).up (S:=λg=>c g≠0)) (Gw.refl w c) o6 (λg e=>e.1))
      have G6:=hid (Gw.next ((O3.out.same O5.out).up (S:=λg=>c g≠0)) (Gw.refl w c) gw6)
      have R6:=hid (o6.row R5.out (λe=>e.1 NB.out))
      have S6:=hid (o6.row ((OT.out.same O5.out).still TX.out) (λe=>e.1 ZS.out))
      have zB6:=hid (gw6.zero NB.out lB)
      have zS6:=hid (gw6.zero ZS.out ((OT.out.same O5.out).still TX.out).lt)
      have H6:=hid h6
      have WT:=hid (wtake_any t.id w6.drew (h6.still ((Only.refl n_ w6).drew)).eo.wg)
      have r6:=(h6.eo.tk t TKS.out).1
      rw[hg5] at r6
      have y16:w6.drew.cell? ⟨p,16,none⟩=some (.pointer (some ⟨X.pg,0,none⟩)):=h6.cell 16
      have y0:w6.drew.cell? ⟨g5,0,none⟩=some (.int .i64 t.id):=r6.cell 0
      have od6:Only n_ w6 w6.drew:=(Only.refl _ _).drew
      clear h6 o6 gw6 r6 EN lB
      go_wp2_with fail
      go_region_with (first
        | (go_at_call 61;(with_reducible refine WT.out.mono ?_);rintro e w7 ⟨v7,rfl,rd7,k7⟩;obtain⟨sa,sk,rfl⟩:=rd7.len;have K7:=hid k7.2;have KK:=hid k7;have RD:=hid rd7;have R7:=hid (k7.2.row (od6.still R6.out) (λe=>by have e1:c6 B=4:=e;rw[zB6.out] at e1;cases e1));have n11:w7.cell? ⟨B,11,none⟩=some (.slice none 0 0):=R7.out.cell 11;have y11:=R7.out.frozen 11;have lB7:=R7.out.lt)
        | fail)
      all_goals
        obtain⟨c9,h9,g9,o9,v9⟩:=(H6.out.still od6).waitersV (Nat.le_refl _) H6.out.hH KK.out (λb hb=>H6.out.zero (RD.out.late b hb).1)
        have V9:=hid v9
        clear v9
        have G9:=hid (Gw.next (O6.out.idle od6) G6.out g9)
        have O9:=hid (Gw.only O6.out G6.out (od6.then_ o9) (λg e=>by rw[e];decide))
        have S9:=hid (o9.row (od6.still S6.out) (λe=>by have e1:c6 w.heap.size=4:=e;rw[zS6.out] at e1;cases e1))
        have zS9:=hid (g9.zero zS6.out (od6.still S6.out).lt)
        have zB9:=g9.zero zB6.out (od6.still R6.out).lt
        obtain⟨w8,hw8⟩:∃w8,w8=w7.setCell ⟨B,11,none⟩ (.slice sa (ofL (E.end_ t.id).g t.id).length sk):=⟨_,rfl⟩
        have o8:Only (λk=>k=B) w7 w8:=by rw[hw8];exact (Only.refl (λk=>k=B) w7).into rfl _ _
        have RB:=hid (show Row w8 B 73 #[.int .i64 t.id,.int .i64 t.kind,.int .i64 t.b,.int .i64 t.l,.int .i64 t.tries,.int .i64 n,.bool t.out,.bool t.fr,.bool t.cut,.int .i64 fa,.int .u64 t.v,.slice sa (ofL E.g t.id).length sk] from by rw[hw8];exact R7.out.put 11 _)
        have TS:=hid (o8.row S9.out sB.out)
        have H8:=hid (h9.keep o8 (λg hg e=>hg (by rw[e];exact zB9)))
        have OO8:=hid (show Only (λg=>c g≠0) w w8 from O9.out.trans o8 (λi hi e=>by have e1:i=B:=e;have:=LB.out;have:=O3.out.size;omega))
        have RD8:=hid (RD.out.keep o8 (λg hg e=>by have e1:g=B:=e;have:=(RD.out.late g hg).1;have:=R6.out.lt;have:w6.drew.heap.size=w6.heap.size:=rfl;omega))
        clear h9 g9 o9 o8 zB9
        obtain⟨b0,b1,b2,b3,b4,b5,b6,b7,b8,b9,b10,b11⟩:=RB.out.twelve
        obtain⟨d0,d1,d2,d3,d4,d5,d6,d7,d8,d9,d10,d11⟩:=TS.out.twelve
        have z0:=TS.out.frozen 0
        have z1:=TS.out.frozen 1
        have z2:=TS.out.frozen 2
        have z3:=TS.out.frozen 3
        have z4:=TS.out.frozen 4
        have z5:=TS.out.frozen 5
        have z6:=TS.out.frozen 6
        have z7:=TS.out.frozen 7
        have z8:=TS.out.frozen 8
        have z9:=TS.out.frozen 9
        have z10:=TS.out.frozen 10
        have z11:=TS.out.frozen 11
        have lB8:=RB.out.lt
        have lS8:=TS.out.lt
        go_upto_region 10 with fail
        rw[←hw8]
        clear hw8
        go_wp2_with fail
        have FR:=TS.out.put12 (.int .i64 t.id) (.int .i64 t.kind) (.int .i64 t.b) (.int .i64 t.l) (.int .i64 t.tries) (.int .i64 n) (.bool t.out) (.bool t.fr) (.bool t.cut) (.int .i64 fa) (.int .u64 t.v) (.slice sa (ofL E.g t.id).length sk)
        refine bodyPost_ret (results_outc rfl _ _ w.heap.size _ rfl rfl FR) rfl ⟨_,rfl,?_,?_⟩
        · try rw[if_neg K1.out]
          have q:=RD8.out.keep (put12o (Only.refl (λg=>g=w.heap.size) w8) (λ_=>rfl) (.int .i64 t.id) (.int .i64 t.kind) (.int .i64 t.b) (.int .i64 t.l) (.int .i64 t.tries) (.int .i64 n) (.bool t.out) (.bool t.fr) (.bool t.cut) (.int .i64 fa) (.int .u64 t.v) (.slice sa (ofL E.g t.id).length sk)) (λg hg e=>by
            have e1:g=w.heap.size:=e
            have:=(RD8.out.late g hg).1
            have:=O6.out.size
            have:=S6.out.lt
            have:w6.drew.heap.size=w6.heap.size:=rfl
            omega)
          exact⟨q.reads,λg hg=>⟨by have:=(q.late g hg).1;have:=O6.out.size;have:w6.drew.heap.size=w6.heap.size:=rfl;omega,(q.late g hg).2⟩⟩
        · try rw[if_neg K1.out]
          exact EGtoV.fin H8.out (Only.refl n_ w) G9.out OO8.out (Nat.le_refl _) zS9.out (put12o (Only.refl (λg=>g=w.heap.size) _) (λ_=>rfl) _ _ _ _ _ _ _ _ _ _ _ _) (Nat.le_refl _) (Nat.le_refl _) HFF.out H0.out.hH (λg hg=>V9.out g hg)
end
end Go.Proofs.YtfbpjobobdidiaaGreatDoor
