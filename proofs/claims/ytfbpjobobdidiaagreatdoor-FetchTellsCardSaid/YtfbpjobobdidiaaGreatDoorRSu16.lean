/- One step of the laws of layer 16, a theorem a kind: the engine goes on as it does, and the document's own, which is empty, is thrown away. -/
import Derived.Test.YtfbpjobobdidiaaGreatDoorRSt16
set_option maxHeartbeats 4000000
namespace Go.Proofs.YtfbpjobobdidiaaGreatDoor
open Lib (hid)
open Go.Proofs.Tryz
open Go.RowKit Go.Maps
set_option linter.unusedVariables false
set_option maxRecDepth 100000
theorem st16_0 (o:Opt) (x b v r q:Int) (well:Bool) (w0 w:World) (p pr:Nat) (c:Nat→Nat) (F H:Nat) (E:Eng) (h:LEw w0 w p c F H E) (hr:Em w pr o) (hp:w0.heap.size≤pr) (hc:c pr=0) (hm:o.MayC) (wx:(Lit.int .i64 x).wf=true) (ww:wfW ⟨r,q⟩) (hF:F+1000<100000000) (hH:H+2<1000000) :
  Calls prog 12 #[.pointer (some ⟨p,0,none⟩),.pointer (some ⟨pr,0,none⟩),.agg #[.int .i64 0,.int .i64 x,.int .i64 b,.int .u64 v,.int .i64 r,.int .i64 q,.bool well]] w λe w'=>(∃z,e=.returned (.bool z))∧StTo w0 w p pr c (F+1000) (H+2) (E.read x b ⟨r,q⟩) w':=by
 obtain⟨W1,hW1⟩:∃W,W=w.alloc (.cells #[.int .i64 0,.int .i64 x,.int .i64 b,.int .u64 v,.int .i64 r,.int .i64 q,.bool well] 38):=⟨_,rfl⟩
 have o1:Only n_ w W1:=by rw[hW1];exact (Only.refl _ _).alloc _
 have RA:=hid (show Row W1 w.heap.size 38 #[.int .i64 0,.int .i64 x,.int .i64 b,.int .u64 v,.int .i64 r,.int .i64 q,.bool well]∧c w.heap.size=0 from by rw[hW1];exact fresh0 h _ _)
 have RE:=hid (show Row W1 pr 110 (emC o)∧c pr=0 from ⟨o1.still hr,hc⟩)
 have L1:=hid (h.still o1)
 have O1:=hid o1
 have NE:=hid (show w.heap.size≠pr from λe=>by have:=hr.lt;omega)
 have hm9:1≤o.b9∧1≤o.b3∧1≤o.b5:=by unfold Opt.MayC at hm;omega
 have M9:=hid hm9
 clear h hr hc hm9 o1
 have CA:=lread x b ⟨r,q⟩ L1.out ww (by omega) (by omega)
 unfold pT Wt.val readA at CA
 obtain⟨d0,d1,d2,d3,d4,d5,e0,e1,e2,hv⟩:=readV_is E x b ⟨r,q⟩
 rw[hv] at CA
 generalize readJ E x b ⟨r,q⟩=j1 at CA
 generalize readL E x b ⟨r,q⟩=l1 at CA
 generalize E.readC x b ⟨r,q⟩=cc1 at CA
 replace CA:=hid CA
 clear hv
 go_enter func12,ntmps12
 go_upto_region 1 with fail
 rw[←hW1]
 clear hW1
 obtain⟨x0,x1,x2,x3,x4,x5,x6⟩:=RA.out.1.seven
 generalize w.heap.size=g1 at *
 go_wp2_with fail
 (with_reducible refine CA.out.mono ?_)
 rintro e w2 ⟨rfl,c2,h2,g2,_,o2⟩
 have G2:=hid (show Gw w c c2 from λi hi=>(g2 i hi).imp id (λq=>Nat.le_trans O1.out.size q))
 have OO2:=hid (show Only (λg=>c g≠0) w w2 from (O1.out.more (λ_ _ z=>z.elim)).trans o2 (λ_ _ z=>z))
 obtain⟨W2,hW2⟩:∃W,W=w2.alloc (.cells #[.int .i64 d0,.int .i64 d1,.int .i64 d2,.int .i64 d3,.int .i64 d4,.int .i64 d5,.bool e0,.bool e1,.bool e2] 54):=⟨_,rfl⟩
 have oa:Only n_ w2 W2:=by rw[hW2];exact (Only.refl _ _).alloc _
 have RT:=hid (show Row W2 w2.heap.size 54 #[.int .i64 d0,.int .i64 d1,.int .i64 d2,.int .i64 d3,.int .i64 d4,.int .i64 d5,.bool e0,.bool e1,.bool e2] from by rw[hW2];exact Row.fresh _ _ _)
 have RA2:=hid (still0 (kept g2 o2 RA.out) oa)
 have RE2:=hid (still0 (kept g2 o2 RE.out) oa)
 have L2:=hid (h2.still oa)
 have NT:=hid (show w2.heap.size≠pr from λe=>by have:=(kept g2 o2 RE.out).1.lt;omega)
 have OO3:=hid (show Only (λg=>c g≠0) w W2 from OO2.out.idle oa)
 clear h2 g2 o2 oa CA L1 RA RE OO2 x0 x1 x2 x3 x4 x5 x6
 go_upto_region 4 with fail
 rw[←hW2]
 clear hW2
 generalize w2.heap.size=g2 at *
 obtain⟨x0,x1,x2,x3,x4,x5,x6⟩:=RA2.out.1.seven
 have CR:=hid (rread16 o x b r q M9.out.1 M9.out.2.1 pr W2 RE2.out.1)
 go_wp2_with fail
 (with_reducible refine CR.out.mono ?_)
 rintro e w3 ⟨vv,rfl,⟨u,⟨m0,m1,m2,m3,m4,m5,n0,n1,n2,rfl⟩,j2,l2,cc2,rfl⟩,o3⟩
 obtain⟨W3,hW3⟩:∃W,W=w3.alloc (.cells #[.int .i64 m0,.int .i64 m1,.int .i64 m2,.int .i64 m3,.int .i64 m4,.int .i64 m5,.bool n0,.bool n1,.bool n2] 54):=⟨_,rfl⟩
 have oa:Only n_ w3 W3:=by rw[hW3];exact (Only.refl _ _).alloc _
 have r1:=oa.still (o3.row RT.out (λe=>NT.out e))
 have r2:Row W3 w3.heap.size 54 #[.int .i64 m0,.int .i64 m1,.int .i64 m2,.int .i64 m3,.int .i64 m4,.int .i64 m5,.bool n0,.bool n1,.bool n2]:=by rw[hW3];exact Row.fresh _ _ _
 have O3:=hid (show Only (λk=>k=pr) W2 W3 from o3.idle oa)
 have L3:=hid (L2.out.pr RE2.out.2 hp O3.out)
 obtain⟨y0,y1,y2,y3,y4,y5,y6,y7,y8⟩:=nineR r1
 obtain⟨z0,z1,z2,z3,z4,z5,z6,z7,z8⟩:=nineR r2
 clear r1 r2 o3 oa CR RT RA2 RE2 L2 NT NE x0 x1 x2 x3 x4 x5 x6
 go_upto_region 5 with fail
 rw[←hW3]
 clear hW3
 generalize w3.heap.size=g3 at *
 obtain⟨z,ET⟩:=eq_tk16 d0 d1 d2 d3 d4 d5 m0 m1 m2 m3 m4 m5 e0 e1 e2 n0 n1 n2
 cases z
 ·go_wp2_with fail
  go_ret
  exact⟨⟨_,rfl⟩,StTo.make L3.out G2.out OO3.out O3.out (by omega) (by omega) (by omega) (by omega)⟩
 ·rcases (show (j1==j2)=true∨(j1==j2)=false from by cases (j1==j2)<;>simp) with tt1 | tt1
  ·rcases (show (l1==l2)=true∨(l1==l2)=false from by cases (l1==l2)<;>simp) with tt2 | tt2
   ·rcases (show (cc1==cc2)=true∨(cc1==cc2)=false from by cases (cc1==cc2)<;>simp) with tt3 | tt3
    ·go_wp2_with fail
     go_ret
     exact⟨⟨_,rfl⟩,StTo.make L3.out G2.out OO3.out O3.out (by omega) (by omega) (by omega) (by omega)⟩
    ·go_wp2_with fail
     go_ret
     exact⟨⟨_,rfl⟩,StTo.make L3.out G2.out OO3.out O3.out (by omega) (by omega) (by omega) (by omega)⟩
   ·go_wp2_with fail
    go_ret
    exact⟨⟨_,rfl⟩,StTo.make L3.out G2.out OO3.out O3.out (by omega) (by omega) (by omega) (by omega)⟩
  ·go_wp2_with fail
   go_ret
   exact⟨⟨_,rfl⟩,StTo.make L3.out G2.out OO3.out O3.out (by omega) (by omega) (by omega) (by omega)⟩
theorem st16_1 (o:Opt) (x b v r q:Int) (well:Bool) (w0 w:World) (p pr:Nat) (c:Nat→Nat) (F H:Nat) (E:Eng) (h:LEw w0 w p c F H E) (hr:Em w pr o) (hp:w0.heap.size≤pr) (hc:c pr=0) (hm:o.MayC) (wx:(Lit.int .i64 x).wf=true) (ww:wfW ⟨r,q⟩) (hF:F+1000<100000000) (hH:H+2<1000000) :
  Calls prog 12 #[.pointer (some ⟨p,0,none⟩),.pointer (some ⟨pr,0,none⟩),.agg #[.int .i64 1,.int .i64 x,.int .i64 b,.int .u64 v,.int .i64 r,.int .i64 q,.bool well]] w λe w'=>(∃z,e=.returned (.bool z))∧StTo w0 w p pr c (F+1000) (H+2) (E.write x v ⟨r,q⟩) w':=by
 obtain⟨W1,hW1⟩:∃W,W=w.alloc (.cells #[.int .i64 1,.int .i64 x,.int .i64 b,.int .u64 v,.int .i64 r,.int .i64 q,.bool well] 38):=⟨_,rfl⟩
 have o1:Only n_ w W1:=by rw[hW1];exact (Only.refl _ _).alloc _
 have RA:=hid (show Row W1 w.heap.size 38 #[.int .i64 1,.int .i64 x,.int .i64 b,.int .u64 v,.int .i64 r,.int .i64 q,.bool well]∧c w.heap.size=0 from by rw[hW1];exact fresh0 h _ _)
 have RE:=hid (show Row W1 pr 110 (emC o)∧c pr=0 from ⟨o1.still hr,hc⟩)
 have L1:=hid (h.still o1)
 have O1:=hid o1
 have NE:=hid (show w.heap.size≠pr from λe=>by have:=hr.lt;omega)
 have hm9:1≤o.b9∧1≤o.b3∧1≤o.b5:=by unfold Opt.MayC at hm;omega
 have M9:=hid hm9
 clear h hr hc hm9 o1
 have CA:=lwrite x v ⟨r,q⟩ L1.out ww (by omega) (by omega)
 obtain⟨u1,j1,cc1,ea,⟨d0,d1,d2,d3,d4,d5,e0,e1,e2,hv⟩⟩:=writeA_is E x v ⟨r,q⟩
 rw[ea,hv] at CA
 unfold pT Wt.val at CA
 replace CA:=hid CA
 clear ea hv
 go_enter func12,ntmps12
 go_upto_region 1 with fail
 rw[←hW1]
 clear hW1
 obtain⟨x0,x1,x2,x3,x4,x5,x6⟩:=RA.out.1.seven
 generalize w.heap.size=g1 at *
 go_wp2_with fail
 (with_reducible refine CA.out.mono ?_)
 rintro e w2 ⟨rfl,c2,h2,g2,_,o2⟩
 have G2:=hid (show Gw w c c2 from λi hi=>(g2 i hi).imp id (λq=>Nat.le_trans O1.out.size q))
 have OO2:=hid (show Only (λg=>c g≠0) w w2 from (O1.out.more (λ_ _ z=>z.elim)).trans o2 (λ_ _ z=>z))
 obtain⟨W2,hW2⟩:∃W,W=w2.alloc (.cells #[.int .i64 d0,.int .i64 d1,.int .i64 d2,.int .i64 d3,.int .i64 d4,.int .i64 d5,.bool e0,.bool e1,.bool e2] 54):=⟨_,rfl⟩
 have oa:Only n_ w2 W2:=by rw[hW2];exact (Only.refl _ _).alloc _
 have RT:=hid (show Row W2 w2.heap.size 54 #[.int .i64 d0,.int .i64 d1,.int .i64 d2,.int .i64 d3,.int .i64 d4,.int .i64 d5,.bool e0,.bool e1,.bool e2] from by rw[hW2];exact Row.fresh _ _ _)
 have RA2:=hid (still0 (kept g2 o2 RA.out) oa)
 have RE2:=hid (still0 (kept g2 o2 RE.out) oa)
 have L2:=hid (h2.still oa)
 have NT:=hid (show w2.heap.size≠pr from λe=>by have:=(kept g2 o2 RE.out).1.lt;omega)
 have OO3:=hid (show Only (λg=>c g≠0) w W2 from OO2.out.idle oa)
 clear h2 g2 o2 oa CA L1 RA RE OO2 x0 x1 x2 x3 x4 x5 x6
 go_upto_region 8 with fail
 rw[←hW2]
 clear hW2
 generalize w2.heap.size=g2 at *
 obtain⟨x0,x1,x2,x3,x4,x5,x6⟩:=RA2.out.1.seven
 have CR:=hid (rwrite16 o x v r q M9.out.1 M9.out.2.1 pr W2 RE2.out.1)
 go_wp2_with fail
 (with_reducible refine CR.out.mono ?_)
 rintro e w3 ⟨u,j2,cc2,rfl,⟨m0,m1,m2,m3,m4,m5,n0,n1,n2,rfl⟩,o3⟩
 obtain⟨W3,hW3⟩:∃W,W=w3.alloc (.cells #[.int .i64 m0,.int .i64 m1,.int .i64 m2,.int .i64 m3,.int .i64 m4,.int .i64 m5,.bool n0,.bool n1,.bool n2] 54):=⟨_,rfl⟩
 have oa:Only n_ w3 W3:=by rw[hW3];exact (Only.refl _ _).alloc _
 have r1:=oa.still (o3.row RT.out (λe=>NT.out e))
 have r2:Row W3 w3.heap.size 54 #[.int .i64 m0,.int .i64 m1,.int .i64 m2,.int .i64 m3,.int .i64 m4,.int .i64 m5,.bool n0,.bool n1,.bool n2]:=by rw[hW3];exact Row.fresh _ _ _
 have O3:=hid (show Only (λk=>k=pr) W2 W3 from o3.idle oa)
 have L3:=hid (L2.out.pr RE2.out.2 hp O3.out)
 obtain⟨y0,y1,y2,y3,y4,y5,y6,y7,y8⟩:=nineR r1
 obtain⟨z0,z1,z2,z3,z4,z5,z6,z7,z8⟩:=nineR r2
 clear r1 r2 o3 oa CR RT RA2 RE2 L2 NT NE x0 x1 x2 x3 x4 x5 x6
 go_upto_region 9 with fail
 rw[←hW3]
 clear hW3
 generalize w3.heap.size=g3 at *
 obtain⟨z,ET⟩:=eq_tk16 d0 d1 d2 d3 d4 d5 m0 m1 m2 m3 m4 m5 e0 e1 e2 n0 n1 n2
 cases z
 ·go_wp2_with fail
  go_ret
  exact⟨⟨_,rfl⟩,StTo.make L3.out G2.out OO3.out O3.out (by omega) (by omega) (by omega) (by omega)⟩
 ·rcases (show (j1==j2)=true∨(j1==j2)=false from by cases (j1==j2)<;>simp) with tt1 | tt1
  ·rcases (show (cc1==cc2)=true∨(cc1==cc2)=false from by cases (cc1==cc2)<;>simp) with tt3 | tt3
   ·go_wp2_with fail
    go_ret
    exact⟨⟨_,rfl⟩,StTo.make L3.out G2.out OO3.out O3.out (by omega) (by omega) (by omega) (by omega)⟩
   ·go_wp2_with fail
    go_ret
    exact⟨⟨_,rfl⟩,StTo.make L3.out G2.out OO3.out O3.out (by omega) (by omega) (by omega) (by omega)⟩
  ·go_wp2_with fail
   go_ret
   exact⟨⟨_,rfl⟩,StTo.make L3.out G2.out OO3.out O3.out (by omega) (by omega) (by omega) (by omega)⟩
theorem st16_2 (o:Opt) (x b v r q:Int) (well:Bool) (w0 w:World) (p pr:Nat) (c:Nat→Nat) (F H:Nat) (E:Eng) (h:LEw w0 w p c F H E) (hr:Em w pr o) (hp:w0.heap.size≤pr) (hc:c pr=0) (hm:o.MayC) (wx:(Lit.int .i64 x).wf=true) (ww:wfW ⟨r,q⟩) (hF:F+1000<100000000) (hH:H+2<1000000) :
  Calls prog 12 #[.pointer (some ⟨p,0,none⟩),.pointer (some ⟨pr,0,none⟩),.agg #[.int .i64 2,.int .i64 x,.int .i64 b,.int .u64 v,.int .i64 r,.int .i64 q,.bool well]] w λe w'=>(∃z,e=.returned (.bool z))∧StTo w0 w p pr c (F+1000) (H+2) (E.ahead x) w':=by
 obtain⟨W1,hW1⟩:∃W,W=w.alloc (.cells #[.int .i64 2,.int .i64 x,.int .i64 b,.int .u64 v,.int .i64 r,.int .i64 q,.bool well] 38):=⟨_,rfl⟩
 have o1:Only n_ w W1:=by rw[hW1];exact (Only.refl _ _).alloc _
 have RA:=hid (show Row W1 w.heap.size 38 #[.int .i64 2,.int .i64 x,.int .i64 b,.int .u64 v,.int .i64 r,.int .i64 q,.bool well]∧c w.heap.size=0 from by rw[hW1];exact fresh0 h _ _)
 have RE:=hid (show Row W1 pr 110 (emC o)∧c pr=0 from ⟨o1.still hr,hc⟩)
 have L1:=hid (h.still o1)
 have O1:=hid o1
 have NE:=hid (show w.heap.size≠pr from λe=>by have:=hr.lt;omega)
 have hm9:1≤o.b9∧1≤o.b3∧1≤o.b5:=by unfold Opt.MayC at hm;omega
 have M9:=hid hm9
 clear h hr hc hm9 o1
 have CA:=lahead x L1.out (by omega) (by omega)
 obtain⟨u1,cc1,ea,⟨d0,d1,d2,d3,d4,d5,e0,e1,e2,hv⟩⟩:=aheadA_is E x
 rw[ea,hv] at CA
 unfold pT at CA
 replace CA:=hid CA
 clear ea hv
 go_enter func12,ntmps12
 go_upto_region 1 with fail
 rw[←hW1]
 clear hW1
 obtain⟨x0,x1,x2,x3,x4,x5,x6⟩:=RA.out.1.seven
 generalize w.heap.size=g1 at *
 go_wp2_with fail
 (with_reducible refine CA.out.mono ?_)
 rintro e w2 ⟨rfl,c2,h2,g2,_,o2⟩
 have G2:=hid (show Gw w c c2 from λi hi=>(g2 i hi).imp id (λq=>Nat.le_trans O1.out.size q))
 have OO2:=hid (show Only (λg=>c g≠0) w w2 from (O1.out.more (λ_ _ z=>z.elim)).trans o2 (λ_ _ z=>z))
 obtain⟨W2,hW2⟩:∃W,W=w2.alloc (.cells #[.int .i64 d0,.int .i64 d1,.int .i64 d2,.int .i64 d3,.int .i64 d4,.int .i64 d5,.bool e0,.bool e1,.bool e2] 54):=⟨_,rfl⟩
 have oa:Only n_ w2 W2:=by rw[hW2];exact (Only.refl _ _).alloc _
 have RT:=hid (show Row W2 w2.heap.size 54 #[.int .i64 d0,.int .i64 d1,.int .i64 d2,.int .i64 d3,.int .i64 d4,.int .i64 d5,.bool e0,.bool e1,.bool e2] from by rw[hW2];exact Row.fresh _ _ _)
 have RA2:=hid (still0 (kept g2 o2 RA.out) oa)
 have RE2:=hid (still0 (kept g2 o2 RE.out) oa)
 have L2:=hid (h2.still oa)
 have NT:=hid (show w2.heap.size≠pr from λe=>by have:=(kept g2 o2 RE.out).1.lt;omega)
 have OO3:=hid (show Only (λg=>c g≠0) w W2 from OO2.out.idle oa)
 clear h2 g2 o2 oa CA L1 RA RE OO2 x0 x1 x2 x3 x4 x5 x6
 go_upto_region 12 with fail
 rw[←hW2]
 clear hW2
 generalize w2.heap.size=g2 at *
 obtain⟨x0,x1,x2,x3,x4,x5,x6⟩:=RA2.out.1.seven
 have CR:=hid (rahead16 o x pr W2 RE2.out.1)
 go_wp2_with fail
 (with_reducible refine CR.out.mono ?_)
 rintro e w3 ⟨u,cc2,rfl,⟨m0,m1,m2,m3,m4,m5,n0,n1,n2,rfl⟩,o3⟩
 obtain⟨W3,hW3⟩:∃W,W=w3.alloc (.cells #[.int .i64 m0,.int .i64 m1,.int .i64 m2,.int .i64 m3,.int .i64 m4,.int .i64 m5,.bool n0,.bool n1,.bool n2] 54):=⟨_,rfl⟩
 have oa:Only n_ w3 W3:=by rw[hW3];exact (Only.refl _ _).alloc _
 have r1:=oa.still (o3.row RT.out (λe=>NT.out e))
 have r2:Row W3 w3.heap.size 54 #[.int .i64 m0,.int .i64 m1,.int .i64 m2,.int .i64 m3,.int .i64 m4,.int .i64 m5,.bool n0,.bool n1,.bool n2]:=by rw[hW3];exact Row.fresh _ _ _
 have O3:=hid (show Only (λk=>k=pr) W2 W3 from o3.idle oa)
 have L3:=hid (L2.out.pr RE2.out.2 hp O3.out)
 obtain⟨y0,y1,y2,y3,y4,y5,y6,y7,y8⟩:=nineR r1
 obtain⟨z0,z1,z2,z3,z4,z5,z6,z7,z8⟩:=nineR r2
 clear r1 r2 o3 oa CR RT RA2 RE2 L2 NT NE x0 x1 x2 x3 x4 x5 x6
 go_upto_region 13 with fail
 rw[←hW3]
 clear hW3
 generalize w3.heap.size=g3 at *
 obtain⟨z,ET⟩:=eq_tk16 d0 d1 d2 d3 d4 d5 m0 m1 m2 m3 m4 m5 e0 e1 e2 n0 n1 n2
 cases z
 ·go_wp2_with fail
  go_ret
  exact⟨⟨_,rfl⟩,StTo.make L3.out G2.out OO3.out O3.out (by omega) (by omega) (by omega) (by omega)⟩
 ·rcases (show (cc1==cc2)=true∨(cc1==cc2)=false from by cases (cc1==cc2)<;>simp) with tt3 | tt3
  ·go_wp2_with fail
   go_ret
   exact⟨⟨_,rfl⟩,StTo.make L3.out G2.out OO3.out O3.out (by omega) (by omega) (by omega) (by omega)⟩
  ·go_wp2_with fail
   go_ret
   exact⟨⟨_,rfl⟩,StTo.make L3.out G2.out OO3.out O3.out (by omega) (by omega) (by omega) (by omega)⟩
theorem st16_3 (o:Opt) (x b v r q:Int) (well:Bool) (w0 w:World) (p pr:Nat) (c:Nat→Nat) (F H:Nat) (E:Eng) (h:LEw w0 w p c F H E) (hr:Em w pr o) (hp:w0.heap.size≤pr) (hc:c pr=0) (hm:o.MayC) (wx:(Lit.int .i64 x).wf=true) (ww:wfW ⟨r,q⟩) (hF:F+1000<100000000) (hH:H+2<1000000) :
  Calls prog 12 #[.pointer (some ⟨p,0,none⟩),.pointer (some ⟨pr,0,none⟩),.agg #[.int .i64 3,.int .i64 x,.int .i64 b,.int .u64 v,.int .i64 r,.int .i64 q,.bool well]] w λe w'=>(∃z,e=.returned (.bool z))∧StTo w0 w p pr c (F+1000) (H+2) (E.cutE x) w':=by
 obtain⟨W1,hW1⟩:∃W,W=w.alloc (.cells #[.int .i64 3,.int .i64 x,.int .i64 b,.int .u64 v,.int .i64 r,.int .i64 q,.bool well] 38):=⟨_,rfl⟩
 have o1:Only n_ w W1:=by rw[hW1];exact (Only.refl _ _).alloc _
 have RA:=hid (show Row W1 w.heap.size 38 #[.int .i64 3,.int .i64 x,.int .i64 b,.int .u64 v,.int .i64 r,.int .i64 q,.bool well]∧c w.heap.size=0 from by rw[hW1];exact fresh0 h _ _)
 have RE:=hid (show Row W1 pr 110 (emC o)∧c pr=0 from ⟨o1.still hr,hc⟩)
 have L1:=hid (h.still o1)
 have O1:=hid o1
 have NE:=hid (show w.heap.size≠pr from λe=>by have:=hr.lt;omega)
 have hm9:1≤o.b9∧1≤o.b3∧1≤o.b5:=by unfold Opt.MayC at hm;omega
 have M9:=hid hm9
 clear h hr hc hm9 o1
 have CA:=lcut x L1.out (by omega) (by omega)
 obtain⟨u1,j1,ea,⟨d0,d1,d2,d3,d4,d5,e0,e1,e2,e3,hv⟩⟩:=cutA_is E x
 rw[ea,hv] at CA
 unfold pT at CA
 replace CA:=hid CA
 clear ea hv
 go_enter func12,ntmps12
 go_upto_region 1 with fail
 rw[←hW1]
 clear hW1
 obtain⟨x0,x1,x2,x3,x4,x5,x6⟩:=RA.out.1.seven
 generalize w.heap.size=g1 at *
 go_wp2_with fail
 (with_reducible refine CA.out.mono ?_)
 rintro e w2 ⟨rfl,c2,h2,g2,_,o2⟩
 have G2:=hid (show Gw w c c2 from λi hi=>(g2 i hi).imp id (λq=>Nat.le_trans O1.out.size q))
 have OO2:=hid (show Only (λg=>c g≠0) w w2 from (O1.out.more (λ_ _ z=>z.elim)).trans o2 (λ_ _ z=>z))
 obtain⟨W2,hW2⟩:∃W,W=w2.alloc (.cells #[.int .i64 d0,.int .i64 d1,.int .i64 d2,.int .i64 d3,.int .i64 d4,.int .i64 d5,.bool e0,.bool e1,.bool e2,.bool e3] 101):=⟨_,rfl⟩
 have oa:Only n_ w2 W2:=by rw[hW2];exact (Only.refl _ _).alloc _
 have RT:=hid (show Row W2 w2.heap.size 101 #[.int .i64 d0,.int .i64 d1,.int .i64 d2,.int .i64 d3,.int .i64 d4,.int .i64 d5,.bool e0,.bool e1,.bool e2,.bool e3] from by rw[hW2];exact Row.fresh _ _ _)
 have RA2:=hid (still0 (kept g2 o2 RA.out) oa)
 have RE2:=hid (still0 (kept g2 o2 RE.out) oa)
 have L2:=hid (h2.still oa)
 have NT:=hid (show w2.heap.size≠pr from λe=>by have:=(kept g2 o2 RE.out).1.lt;omega)
 have OO3:=hid (show Only (λg=>c g≠0) w W2 from OO2.out.idle oa)
 clear h2 g2 o2 oa CA L1 RA RE OO2 x0 x1 x2 x3 x4 x5 x6
 go_upto_region 16 with fail
 rw[←hW2]
 clear hW2
 generalize w2.heap.size=g2 at *
 obtain⟨x0,x1,x2,x3,x4,x5,x6⟩:=RA2.out.1.seven
 have CR:=hid (rcut16 o x pr W2 RE2.out.1)
 go_wp2_with fail
 (with_reducible refine CR.out.mono ?_)
 rintro e w3 ⟨rfl,o3a⟩
 have o3:=o3a.more (S':=λk=>k=pr) (λ_ _ z=>z.elim)
 clear o3a
 obtain⟨W3,hW3⟩:∃W,W=w3.alloc (.cells #[.int .i64 0,.int .i64 0,.int .i64 0,.int .i64 0,.int .i64 0,.int .i64 0,.bool false,.bool false,.bool false,.bool false] 101):=⟨_,rfl⟩
 have oa:Only n_ w3 W3:=by rw[hW3];exact (Only.refl _ _).alloc _
 have r1:=oa.still (o3.row RT.out (λe=>NT.out e))
 have r2:Row W3 w3.heap.size 101 #[.int .i64 0,.int .i64 0,.int .i64 0,.int .i64 0,.int .i64 0,.int .i64 0,.bool false,.bool false,.bool false,.bool false]:=by rw[hW3];exact Row.fresh _ _ _
 have O3:=hid (show Only (λk=>k=pr) W2 W3 from o3.idle oa)
 have L3:=hid (L2.out.pr RE2.out.2 hp O3.out)
 obtain⟨y0,y1,y2,y3,y4,y5,y6,y7,y8,y9⟩:=ten0 r1
 obtain⟨z0,z1,z2,z3,z4,z5,z6,z7,z8,z9⟩:=ten0 r2
 clear r1 r2 o3 oa CR RT RA2 RE2 L2 NT NE x0 x1 x2 x3 x4 x5 x6
 go_upto_region 17 with fail
 rw[←hW3]
 clear hW3
 generalize w3.heap.size=g3 at *
 obtain⟨z,ET⟩:=eq_lf16 d0 d1 d2 d3 d4 d5 0 0 0 0 0 0 e0 e1 e2 e3 false false false false
 cases z
 ·go_wp2_with fail
  go_ret
  exact⟨⟨_,rfl⟩,StTo.make L3.out G2.out OO3.out O3.out (by omega) (by omega) (by omega) (by omega)⟩
 ·cases j1
  ·go_wp2_with fail
   go_ret
   exact⟨⟨_,rfl⟩,StTo.make L3.out G2.out OO3.out O3.out (by omega) (by omega) (by omega) (by omega)⟩
  ·go_wp2_with fail
   go_ret
   exact⟨⟨_,rfl⟩,StTo.make L3.out G2.out OO3.out O3.out (by omega) (by omega) (by omega) (by omega)⟩
theorem st16_4 (o:Opt) (x b v r q:Int) (well:Bool) (w0 w:World) (p pr:Nat) (c:Nat→Nat) (F H:Nat) (E:Eng) (h:LEw w0 w p c F H E) (hr:Em w pr o) (hp:w0.heap.size≤pr) (hc:c pr=0) (hm:o.MayC) (wx:(Lit.int .i64 x).wf=true) (ww:wfW ⟨r,q⟩) (hF:F+1000<100000000) (hH:H+2<1000000) :
  Calls prog 12 #[.pointer (some ⟨p,0,none⟩),.pointer (some ⟨pr,0,none⟩),.agg #[.int .i64 4,.int .i64 x,.int .i64 b,.int .u64 v,.int .i64 r,.int .i64 q,.bool well]] w λe w'=>(∃z,e=.returned (.bool z))∧StTo w0 w p pr c (F+1000) (H+2) (E.quit x) w':=by
 obtain⟨W1,hW1⟩:∃W,W=w.alloc (.cells #[.int .i64 4,.int .i64 x,.int .i64 b,.int .u64 v,.int .i64 r,.int .i64 q,.bool well] 38):=⟨_,rfl⟩
 have o1:Only n_ w W1:=by rw[hW1];exact (Only.refl _ _).alloc _
 have RA:=hid (show Row W1 w.heap.size 38 #[.int .i64 4,.int .i64 x,.int .i64 b,.int .u64 v,.int .i64 r,.int .i64 q,.bool well]∧c w.heap.size=0 from by rw[hW1];exact fresh0 h _ _)
 have RE:=hid (show Row W1 pr 110 (emC o)∧c pr=0 from ⟨o1.still hr,hc⟩)
 have L1:=hid (h.still o1)
 have O1:=hid o1
 have NE:=hid (show w.heap.size≠pr from λe=>by have:=hr.lt;omega)
 have hm9:1≤o.b9∧1≤o.b3∧1≤o.b5:=by unfold Opt.MayC at hm;omega
 have M9:=hid hm9
 clear h hr hc hm9 o1
 have CA:=lquit x L1.out (by omega)
 generalize E.quitC x=cc1 at CA
 unfold pT at CA
 replace CA:=hid CA
 go_enter func12,ntmps12
 go_upto_region 1 with fail
 rw[←hW1]
 clear hW1
 obtain⟨x0,x1,x2,x3,x4,x5,x6⟩:=RA.out.1.seven
 generalize w.heap.size=g1 at *
 go_wp2_with fail
 (with_reducible refine CA.out.mono ?_)
 rintro e w2 ⟨ad,nd,kd,rfl,c2,h2,g2,_,o2⟩
 have G2:=hid (show Gw w c c2 from λi hi=>(g2 i hi).imp id (λq=>Nat.le_trans O1.out.size q))
 have OO2:=hid (show Only (λg=>c g≠0) w w2 from (O1.out.more (λ_ _ z=>z.elim)).trans o2 (λ_ _ z=>z))
 have RA2:=hid (kept g2 o2 RA.out)
 have RE2:=hid (kept g2 o2 RE.out)
 have L2:=hid h2
 have OO3:=hid OO2.out
 clear h2 g2 o2 CA L1 RA RE OO2 x0 x1 x2 x3 x4 x5 x6
 go_upto_region 20 with fail
 obtain⟨x0,x1,x2,x3,x4,x5,x6⟩:=RA2.out.1.seven
 have CR:=hid (rquit16 o x pr w2 RE2.out.1)
 go_wp2_with fail
 (with_reducible refine CR.out.mono ?_)
 rintro e w3 ⟨rfl,o3⟩
 have O3:=hid (show Only (λk=>k=pr) w2 w3 from o3)
 have L3:=hid (L2.out.pr RE2.out.2 hp O3.out)
 clear o3 CR RA2 RE2 L2 NE x0 x1 x2 x3 x4 x5 x6
 have LF:=hid (lefts0 ad nd kd w3)
 generalize decide (nd=0)=dd at *
 go_wp2_with fail
 (with_reducible refine LF.out.mono ?_)
 rintro e w4 ⟨rfl,rfl⟩
 cases dd
 ·go_wp2_with fail
  go_ret
  exact⟨⟨_,rfl⟩,StTo.make L3.out G2.out OO3.out O3.out (by omega) (by omega) (by omega) (by omega)⟩
 ·rcases (show (cc1==0)=true∨(cc1==0)=false from by cases (cc1==0)<;>simp) with tt3 | tt3
  ·go_wp2_with fail
   go_ret
   exact⟨⟨_,rfl⟩,StTo.make L3.out G2.out OO3.out O3.out (by omega) (by omega) (by omega) (by omega)⟩
  ·go_wp2_with fail
   go_ret
   exact⟨⟨_,rfl⟩,StTo.make L3.out G2.out OO3.out O3.out (by omega) (by omega) (by omega) (by omega)⟩
theorem st16_5 (o:Opt) (x b v r q:Int) (well:Bool) (w0 w:World) (p pr:Nat) (c:Nat→Nat) (F H:Nat) (E:Eng) (h:LEw w0 w p c F H E) (hr:Em w pr o) (hp:w0.heap.size≤pr) (hc:c pr=0) (hm:o.MayC) (wx:(Lit.int .i64 x).wf=true) (ww:wfW ⟨r,q⟩) (hF:F+1000<100000000) (hH:H+2<1000000) :
  Calls prog 12 #[.pointer (some ⟨p,0,none⟩),.pointer (some ⟨pr,0,none⟩),.agg #[.int .i64 5,.int .i64 x,.int .i64 b,.int .u64 v,.int .i64 r,.int .i64 q,.bool well]] w λe w'=>(∃z,e=.returned (.bool z))∧StTo w0 w p pr c (F+1000) (H+2) ((E.next x).1) w':=by
 obtain⟨W1,hW1⟩:∃W,W=w.alloc (.cells #[.int .i64 5,.int .i64 x,.int .i64 b,.int .u64 v,.int .i64 r,.int .i64 q,.bool well] 38):=⟨_,rfl⟩
 have o1:Only n_ w W1:=by rw[hW1];exact (Only.refl _ _).alloc _
 have RA:=hid (show Row W1 w.heap.size 38 #[.int .i64 5,.int .i64 x,.int .i64 b,.int .u64 v,.int .i64 r,.int .i64 q,.bool well]∧c w.heap.size=0 from by rw[hW1];exact fresh0 h _ _)
 have RE:=hid (show Row W1 pr 110 (emC o)∧c pr=0 from ⟨o1.still hr,hc⟩)
 have L1:=hid (h.still o1)
 have O1:=hid o1
 have NE:=hid (show w.heap.size≠pr from λe=>by have:=hr.lt;omega)
 have hm9:1≤o.b9∧1≤o.b3∧1≤o.b5:=by unfold Opt.MayC at hm;omega
 have M9:=hid hm9
 clear h hr hc hm9 o1
 have CA:=lnext_is x L1.out (bd_i64 wx) (by omega) (by omega)
 replace CA:=hid CA
 go_enter func12,ntmps12
 go_upto_region 1 with fail
 rw[←hW1]
 clear hW1
 obtain⟨x0,x1,x2,x3,x4,x5,x6⟩:=RA.out.1.seven
 generalize w.heap.size=g1 at *
 go_wp2_with fail
 (with_reducible refine CA.out.mono ?_)
 rintro e w2 ⟨tg,wrr,lo,nn,q1,n1,k1,q2,n2,k2,q3,n3,k3,ad,nd,kd,j1,rfl,c2,h2,g2,_,o2⟩
 have G2:=hid (show Gw w c c2 from λi hi=>(g2 i hi).imp id (λq=>Nat.le_trans O1.out.size q))
 have OO2:=hid (show Only (λg=>c g≠0) w w2 from (O1.out.more (λ_ _ z=>z.elim)).trans o2 (λ_ _ z=>z))
 obtain⟨W2,hW2⟩:∃W,W=w2.alloc (.cells #[.int .i64 tg,.bool wrr,.int .i64 lo,.int .i64 nn,.slice q1 n1 k1,.slice q2 n2 k2,.slice q3 n3 k3] 47):=⟨_,rfl⟩
 have oa:Only n_ w2 W2:=by rw[hW2];exact (Only.refl _ _).alloc _
 have RT:=hid (show Row W2 w2.heap.size 47 #[.int .i64 tg,.bool wrr,.int .i64 lo,.int .i64 nn,.slice q1 n1 k1,.slice q2 n2 k2,.slice q3 n3 k3] from by rw[hW2];exact Row.fresh _ _ _)
 have RA2:=hid (still0 (kept g2 o2 RA.out) oa)
 have RE2:=hid (still0 (kept g2 o2 RE.out) oa)
 have L2:=hid (h2.still oa)
 have NT:=hid (show w2.heap.size≠pr from λe=>by have:=(kept g2 o2 RE.out).1.lt;omega)
 have OO3:=hid (show Only (λg=>c g≠0) w W2 from OO2.out.idle oa)
 clear h2 g2 o2 oa CA L1 RA RE OO2 x0 x1 x2 x3 x4 x5 x6
 go_upto_region 24 with fail
 rw[←hW2]
 clear hW2
 generalize w2.heap.size=g2 at *
 obtain⟨x0,x1,x2,x3,x4,x5,x6⟩:=RA2.out.1.seven
 have CR:=hid (rnext16 o x M9.out.2.2 pr W2 RE2.out.1)
 go_wp2_with fail
 (with_reducible refine CR.out.mono ?_)
 rintro e w3 ⟨rfl,o3a⟩
 have o3:=o3a.more (S':=λk=>k=pr) (λ_ _ z=>z.elim)
 clear o3a
 obtain⟨W3,hW3⟩:∃W,W=w3.alloc (.cells #[.int .i64 0,.bool false,.int .i64 0,.int .i64 0,.slice none 0 0,.slice none 0 0,.slice none 0 0] 47):=⟨_,rfl⟩
 have oa:Only n_ w3 W3:=by rw[hW3];exact (Only.refl _ _).alloc _
 have r1:=oa.still (o3.row RT.out (λe=>NT.out e))
 have r2:Row W3 w3.heap.size 47 #[.int .i64 0,.bool false,.int .i64 0,.int .i64 0,.slice none 0 0,.slice none 0 0,.slice none 0 0]:=by rw[hW3];exact Row.fresh _ _ _
 have O3:=hid (show Only (λk=>k=pr) W2 W3 from o3.idle oa)
 have L3:=hid (L2.out.pr RE2.out.2 hp O3.out)
 obtain⟨y0,y1,y2,y3,y4,y5,y6⟩:=sevenR r1
 obtain⟨z0,z1,z2,z3,z4,z5,z6⟩:=sevenR r2
 clear r1 r2 o3 oa CR RT RA2 RE2 L2 NT NE x0 x1 x2 x3 x4 x5 x6
 go_upto_region 25 with fail
 rw[←hW3]
 clear hW3
 generalize w3.heap.size=g3 at *
 have MO:=hid (move0 tg lo nn wrr q1 q2 q3 n1 n2 n3 k1 k2 k3 W3)
 go_wp2_with fail
 (with_reducible refine MO.out.mono ?_)
 rintro e w4 ⟨bb,rfl,o4⟩
 have L4:=hid (L3.out.still o4)
 have O4:=hid (O3.out.idle o4)
 have IN:=hid (ints0 ad nd kd w4)
 generalize decide (nd=0)=dd at *
 clear o4 MO
 cases bb
 ·go_wp2_with fail
  go_ret
  exact⟨⟨_,rfl⟩,StTo.make L4.out G2.out OO3.out O4.out (by omega) (by omega) (by omega) (by omega)⟩
 ·go_wp2_with fail
  (with_reducible refine IN.out.mono ?_)
  rintro e w5 ⟨rfl,rfl⟩
  cases dd
  ·go_wp2_with fail
   go_ret
   exact⟨⟨_,rfl⟩,StTo.make L4.out G2.out OO3.out O4.out (by omega) (by omega) (by omega) (by omega)⟩
  ·cases j1
   ·go_wp2_with fail
    go_ret
    exact⟨⟨_,rfl⟩,StTo.make L4.out G2.out OO3.out O4.out (by omega) (by omega) (by omega) (by omega)⟩
   ·go_wp2_with fail
    go_ret
    exact⟨⟨_,rfl⟩,StTo.make L4.out G2.out OO3.out O4.out (by omega) (by omega) (by omega) (by omega)⟩
theorem st16_6 (o:Opt) (x b v r q:Int) (well:Bool) (w0 w:World) (p pr:Nat) (c:Nat→Nat) (F H:Nat) (E:Eng) (h:LEw w0 w p c F H E) (hr:Em w pr o) (hp:w0.heap.size≤pr) (hc:c pr=0) (hm:o.MayC) (wx:(Lit.int .i64 x).wf=true) (ww:wfW ⟨r,q⟩) (hF:F+1000<100000000) (hH:H+2<1000000) :
  Calls prog 12 #[.pointer (some ⟨p,0,none⟩),.pointer (some ⟨pr,0,none⟩),.agg #[.int .i64 6,.int .i64 x,.int .i64 b,.int .u64 v,.int .i64 r,.int .i64 q,.bool well]] w λe w'=>(∃z,e=.returned (.bool z))∧StTo w0 w p pr c (F+1000) (H+2) (E.finish x well) w':=by
 obtain⟨W1,hW1⟩:∃W,W=w.alloc (.cells #[.int .i64 6,.int .i64 x,.int .i64 b,.int .u64 v,.int .i64 r,.int .i64 q,.bool well] 38):=⟨_,rfl⟩
 have o1:Only n_ w W1:=by rw[hW1];exact (Only.refl _ _).alloc _
 have RA:=hid (show Row W1 w.heap.size 38 #[.int .i64 6,.int .i64 x,.int .i64 b,.int .u64 v,.int .i64 r,.int .i64 q,.bool well]∧c w.heap.size=0 from by rw[hW1];exact fresh0 h _ _)
 have RE:=hid (show Row W1 pr 110 (emC o)∧c pr=0 from ⟨o1.still hr,hc⟩)
 have L1:=hid (h.still o1)
 have O1:=hid o1
 have NE:=hid (show w.heap.size≠pr from λe=>by have:=hr.lt;omega)
 have hm9:1≤o.b9∧1≤o.b3∧1≤o.b5:=by unfold Opt.MayC at hm;omega
 have M9:=hid hm9
 clear h hr hc hm9 o1
 have CA:=lfinish_is x well L1.out wx (by omega)
 generalize E.finishC x=cc1 at CA
 replace CA:=hid CA
 go_enter func12,ntmps12
 go_upto_region 1 with fail
 rw[←hW1]
 clear hW1
 obtain⟨x0,x1,x2,x3,x4,x5,x6⟩:=RA.out.1.seven
 generalize w.heap.size=g1 at *
 go_wp2_with fail
 (with_reducible refine CA.out.mono ?_)
 rintro e w2 ⟨ad,nd,kd,rfl,c2,h2,g2,o2⟩
 have G2:=hid (show Gw w c c2 from λi hi=>(g2 i hi).imp id (λq=>Nat.le_trans O1.out.size q))
 have OO2:=hid (show Only (λg=>c g≠0) w w2 from (O1.out.more (λ_ _ z=>z.elim)).trans o2 (λ_ _ z=>z))
 have RA2:=hid (kept g2 o2 RA.out)
 have RE2:=hid (kept g2 o2 RE.out)
 have L2:=hid h2
 have OO3:=hid OO2.out
 clear h2 g2 o2 CA L1 RA RE OO2 x0 x1 x2 x3 x4 x5 x6
 go_upto_region 28 with fail
 obtain⟨x0,x1,x2,x3,x4,x5,x6⟩:=RA2.out.1.seven
 have CR:=hid (rfinish16 o x well pr w2 RE2.out.1)
 go_wp2_with fail
 (with_reducible refine CR.out.mono ?_)
 rintro e w3 ⟨rfl,o3b⟩
 subst o3b
 have o3:=Only.refl (λk=>k=pr) w2
 have O3:=hid (show Only (λk=>k=pr) w2 w2 from o3)
 have L3:=hid (L2.out.pr RE2.out.2 hp O3.out)
 clear o3 CR RA2 RE2 L2 NE x0 x1 x2 x3 x4 x5 x6
 have LF:=hid (outcomes0 ad nd kd w2)
 generalize decide (nd=0)=dd at *
 go_wp2_with fail
 (with_reducible refine LF.out.mono ?_)
 rintro e w4 ⟨rfl,rfl⟩
 cases dd
 ·go_wp2_with fail
  go_ret
  exact⟨⟨_,rfl⟩,StTo.make L3.out G2.out OO3.out O3.out (by omega) (by omega) (by omega) (by omega)⟩
 ·rcases (show (cc1==3)=true∨(cc1==3)=false from by cases (cc1==3)<;>simp) with tt3 | tt3
  ·go_wp2_with fail
   go_ret
   exact⟨⟨_,rfl⟩,StTo.make L3.out G2.out OO3.out O3.out (by omega) (by omega) (by omega) (by omega)⟩
  ·go_wp2_with fail
   go_ret
   exact⟨⟨_,rfl⟩,StTo.make L3.out G2.out OO3.out O3.out (by omega) (by omega) (by omega) (by omega)⟩
theorem st16_7 (o:Opt) (x b v r q:Int) (well:Bool) (w0 w:World) (p pr:Nat) (c:Nat→Nat) (F H:Nat) (E:Eng) (h:LEw w0 w p c F H E) (hr:Em w pr o) (hp:w0.heap.size≤pr) (hc:c pr=0) (hm:o.MayC) (wx:(Lit.int .i64 x).wf=true) (ww:wfW ⟨r,q⟩) (hF:F+1000<100000000) (hH:H+2<1000000) :
  Calls prog 12 #[.pointer (some ⟨p,0,none⟩),.pointer (some ⟨pr,0,none⟩),.agg #[.int .i64 7,.int .i64 x,.int .i64 b,.int .u64 v,.int .i64 r,.int .i64 q,.bool well]] w λe w'=>(∃z,e=.returned (.bool z))∧StTo w0 w p pr c (F+1000) (H+2) (E.serve x) w':=by
 obtain⟨W1,hW1⟩:∃W,W=w.alloc (.cells #[.int .i64 7,.int .i64 x,.int .i64 b,.int .u64 v,.int .i64 r,.int .i64 q,.bool well] 38):=⟨_,rfl⟩
 have o1:Only n_ w W1:=by rw[hW1];exact (Only.refl _ _).alloc _
 have RA:=hid (show Row W1 w.heap.size 38 #[.int .i64 7,.int .i64 x,.int .i64 b,.int .u64 v,.int .i64 r,.int .i64 q,.bool well]∧c w.heap.size=0 from by rw[hW1];exact fresh0 h _ _)
 have RE:=hid (show Row W1 pr 110 (emC o)∧c pr=0 from ⟨o1.still hr,hc⟩)
 have L1:=hid (h.still o1)
 have O1:=hid o1
 have NE:=hid (show w.heap.size≠pr from λe=>by have:=hr.lt;omega)
 have hm9:1≤o.b9∧1≤o.b3∧1≤o.b5:=by unfold Opt.MayC at hm;omega
 have M9:=hid hm9
 clear h hr hc hm9 o1
 have CA:=lserve_is x L1.out (by omega) (by omega)
 obtain⟨d0,d1,d2,d3,d4,d5,e0,e1,e2,hv⟩:=serveT_is E x
 rw[hv] at CA
 generalize serves (E.head x)=j1 at CA
 replace CA:=hid CA
 clear hv
 go_enter func12,ntmps12
 go_upto_region 1 with fail
 rw[←hW1]
 clear hW1
 obtain⟨x0,x1,x2,x3,x4,x5,x6⟩:=RA.out.1.seven
 generalize w.heap.size=g1 at *
 go_wp2_with fail
 (with_reducible refine CA.out.mono ?_)
 rintro e w2 ⟨ad,nd,kd,rfl,c2,h2,g2,_,o2⟩
 have G2:=hid (show Gw w c c2 from λi hi=>(g2 i hi).imp id (λq=>Nat.le_trans O1.out.size q))
 have OO2:=hid (show Only (λg=>c g≠0) w w2 from (O1.out.more (λ_ _ z=>z.elim)).trans o2 (λ_ _ z=>z))
 obtain⟨W2,hW2⟩:∃W,W=w2.alloc (.cells #[.int .i64 d0,.int .i64 d1,.int .i64 d2,.int .i64 d3,.int .i64 d4,.int .i64 d5,.bool e0,.bool e1,.bool e2] 54):=⟨_,rfl⟩
 have oa:Only n_ w2 W2:=by rw[hW2];exact (Only.refl _ _).alloc _
 have RT:=hid (show Row W2 w2.heap.size 54 #[.int .i64 d0,.int .i64 d1,.int .i64 d2,.int .i64 d3,.int .i64 d4,.int .i64 d5,.bool e0,.bool e1,.bool e2] from by rw[hW2];exact Row.fresh _ _ _)
 have RA2:=hid (still0 (kept g2 o2 RA.out) oa)
 have RE2:=hid (still0 (kept g2 o2 RE.out) oa)
 have L2:=hid (h2.still oa)
 have NT:=hid (show w2.heap.size≠pr from λe=>by have:=(kept g2 o2 RE.out).1.lt;omega)
 have OO3:=hid (show Only (λg=>c g≠0) w W2 from OO2.out.idle oa)
 clear h2 g2 o2 oa CA L1 RA RE OO2 x0 x1 x2 x3 x4 x5 x6
 go_upto_region 32 with fail
 rw[←hW2]
 clear hW2
 generalize w2.heap.size=g2 at *
 obtain⟨x0,x1,x2,x3,x4,x5,x6⟩:=RA2.out.1.seven
 have CR:=hid (rserve16 o x pr W2 RE2.out.1)
 go_wp2_with fail
 (with_reducible refine CR.out.mono ?_)
 rintro e w3 ⟨rfl,o3a⟩
 have o3:=o3a.more (S':=λk=>k=pr) (λ_ _ z=>z.elim)
 clear o3a
 obtain⟨W3,hW3⟩:∃W,W=w3.alloc (.cells #[.int .i64 0,.int .i64 0,.int .i64 0,.int .i64 0,.int .i64 0,.int .i64 0,.bool false,.bool false,.bool false] 54):=⟨_,rfl⟩
 have oa:Only n_ w3 W3:=by rw[hW3];exact (Only.refl _ _).alloc _
 have r1:=oa.still (o3.row RT.out (λe=>NT.out e))
 have r2:Row W3 w3.heap.size 54 #[.int .i64 0,.int .i64 0,.int .i64 0,.int .i64 0,.int .i64 0,.int .i64 0,.bool false,.bool false,.bool false]:=by rw[hW3];exact Row.fresh _ _ _
 have O3:=hid (show Only (λk=>k=pr) W2 W3 from o3.idle oa)
 have L3:=hid (L2.out.pr RE2.out.2 hp O3.out)
 obtain⟨y0,y1,y2,y3,y4,y5,y6,y7,y8⟩:=nineR r1
 obtain⟨z0,z1,z2,z3,z4,z5,z6,z7,z8⟩:=nineR r2
 clear r1 r2 o3 oa CR RT RA2 RE2 L2 NT NE x0 x1 x2 x3 x4 x5 x6
 go_upto_region 33 with fail
 rw[←hW3]
 clear hW3
 generalize w3.heap.size=g3 at *
 obtain⟨z,ET⟩:=eq_tk16 d0 d1 d2 d3 d4 d5 0 0 0 0 0 0 e0 e1 e2 false false false
 cases z
 ·go_wp2_with fail
  go_ret
  exact⟨⟨_,rfl⟩,StTo.make L3.out G2.out OO3.out O3.out (by omega) (by omega) (by omega) (by omega)⟩
 ·have IN:=hid (same0 ad nd kd W3)
  generalize decide (nd=0)=dd at *
  go_wp2_with fail
  (with_reducible refine IN.out.mono ?_)
  rintro e w4 ⟨rfl,rfl⟩
  cases dd
  ·go_wp2_with fail
   go_ret
   exact⟨⟨_,rfl⟩,StTo.make L3.out G2.out OO3.out O3.out (by omega) (by omega) (by omega) (by omega)⟩
  ·cases j1
   ·go_wp2_with fail
    go_ret
    exact⟨⟨_,rfl⟩,StTo.make L3.out G2.out OO3.out O3.out (by omega) (by omega) (by omega) (by omega)⟩
   ·go_wp2_with fail
    go_ret
    exact⟨⟨_,rfl⟩,StTo.make L3.out G2.out OO3.out O3.out (by omega) (by omega) (by omega) (by omega)⟩
theorem step16_any (o:Opt) (a:ActF) (wa:a.Wf) (w0 w:World) (p pr:Nat) (c:Nat→Nat) (F H:Nat) (E:Eng) (h:LEw w0 w p c F H E) (hr:Em w pr o) (hp:w0.heap.size≤pr) (hc:c pr=0) (hm:o.MayC) (hF:F+1000<100000000) (hH:H+2<1000000) :
  Calls prog 12 #[.pointer (some ⟨p,0,none⟩),.pointer (some ⟨pr,0,none⟩),a.val] w λe w'=>(∃z,e=.returned (.bool z))∧StTo w0 w p pr c (F+1000) (H+2) (E.act a) w':=by
 obtain⟨kd,x,b,v,⟨r,q⟩,well⟩:=a
 obtain⟨_,wx,_,_,ww⟩:=wa
 unfold ActF.val Eng.act
 dsimp only at wx ww ⊢
 by_cases k0:kd=0
 ·subst k0
  exact st16_0 o x b v r q well w0 w p pr c F H E h hr hp hc hm wx ww hF hH
 rw[if_neg k0]
 by_cases k1:kd=1
 ·subst k1
  exact st16_1 o x b v r q well w0 w p pr c F H E h hr hp hc hm wx ww hF hH
 rw[if_neg k1]
 by_cases k2:kd=2
 ·subst k2
  exact st16_2 o x b v r q well w0 w p pr c F H E h hr hp hc hm wx ww hF hH
 rw[if_neg k2]
 by_cases k3:kd=3
 ·subst k3
  exact st16_3 o x b v r q well w0 w p pr c F H E h hr hp hc hm wx ww hF hH
 rw[if_neg k3]
 by_cases k4:kd=4
 ·subst k4
  exact st16_4 o x b v r q well w0 w p pr c F H E h hr hp hc hm wx ww hF hH
 rw[if_neg k4]
 by_cases k5:kd=5
 ·subst k5
  exact st16_5 o x b v r q well w0 w p pr c F H E h hr hp hc hm wx ww hF hH
 rw[if_neg k5]
 by_cases k6:kd=6
 ·subst k6
  exact st16_6 o x b v r q well w0 w p pr c F H E h hr hp hc hm wx ww hF hH
 rw[if_neg k6]
 by_cases k7:kd=7
 ·subst k7
  exact st16_7 o x b v r q well w0 w p pr c F H E h hr hp hc hm wx ww hF hH
 rw[if_neg k7]
 have t0:(kd==0)=false:=by simpa using k0
 have t1:(kd==1)=false:=by simpa using k1
 have t2:(kd==2)=false:=by simpa using k2
 have t3:(kd==3)=false:=by simpa using k3
 have t4:(kd==4)=false:=by simpa using k4
 have t5:(kd==5)=false:=by simpa using k5
 have t6:(kd==6)=false:=by simpa using k6
 have t7:(kd==7)=false:=by simpa using k7
 obtain⟨W1,hW1⟩:∃W,W=w.alloc (.cells #[.int .i64 kd,.int .i64 x,.int .i64 b,.int .u64 v,.int .i64 r,.int .i64 q,.bool well] 38):=⟨_,rfl⟩
 have o1:Only n_ w W1:=by rw[hW1];exact (Only.refl _ _).alloc _
 have RA:Row W1 w.heap.size 38 #[.int .i64 kd,.int .i64 x,.int .i64 b,.int .u64 v,.int .i64 r,.int .i64 q,.bool well]:=by rw[hW1];exact Row.fresh _ _ _
 obtain⟨x0,x1,x2,x3,x4,x5,x6⟩:=sevenR RA
 have L1:=hid (h.still o1)
 have O1:=hid o1
 clear h hr hp hc o1 RA k0 k1 k2 k3 k4 k5 k6 k7
 go_enter func12,ntmps12
 go_upto_region 1 with fail
 rw[←hW1]
 clear hW1
 go_wp2_with fail
 go_ret
 have ST:StTo w0 w p pr c (F+1000) (H+2) E W1:=⟨c,L1.out.up (by omega) (by omega) (by omega) (by omega),λi hi=>.inl hi,O1.out.more (λ_ _ z=>z.elim)⟩
 exact⟨.inr rfl,ST⟩
end Go.Proofs.YtfbpjobobdidiaaGreatDoor
