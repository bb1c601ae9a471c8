/- The document's fixed answers of layer 16: awake answers true. -/
import Derived.Test.YtfbpjobobdidiaaGreatDoorRG39
namespace Go.Proofs.YtfbpjobobdidiaaGreatDoor
open Lib (hid)
open Go.Proofs.Tryz
open Go.RowKit Go.Maps
set_option linter.unusedVariables false
set_option maxRecDepth 100000
theorem kept {w w':World} {c c':Nat→Nat} (hg:Gw w c c') (o:Only (λg=>c g≠0) w w') {b:Nat} {T:TypeId} {cs:Array Value} (r:Row w b T cs∧c b=0):Row w' b T cs∧c' b=0:=⟨o.row r.1 (λe=>e r.2),hg.zero r.2 r.1.lt⟩
theorem keptM {w w':World} {c c':Nat→Nat} (hg:Gw w c c') (o:Only (λg=>c g≠0) w w') {base:Nat} {v:Value × Value × Value} {m:Mv} (r:MvW w base v m∧∀g,MvB v g→c g=0):MvW w' base v m∧∀g,MvB v g→c' g=0:=⟨r.1.keepB o (λg hg e=>e (r.2 g hg)),λg h=>hg.zero (r.2 g h) (r.1.blocks h).2⟩
theorem fresh0 {w0 w:World} {p:Nat} {c:Nat→Nat} {F H:Nat} {E:Eng} (h:LEw w0 w p c F H E) (T:TypeId) (cs:Array Value):Row (w.alloc (.cells cs T)) w.heap.size T cs∧c w.heap.size=0:=⟨Row.fresh _ _ _,Classical.byContradiction λq=>Nat.lt_irrefl _ (h.lt _ q)⟩
theorem still0 {w w':World} {c:Nat→Nat} {b:Nat} {T:TypeId} {cs:Array Value} (r:Row w b T cs∧c b=0) (o:Only n_ w w'):Row w' b T cs∧c b=0:=⟨o.still r.1,r.2⟩
theorem nine0 {w:World} {c:Nat→Nat} {b:Nat} {T:TypeId} {c0 c1 c2 c3 c4 c5 c6 c7 c8:Value} (r:Row w b T #[c0,c1,c2,c3,c4,c5,c6,c7,c8]∧c b=0):w.cell? ⟨b,0,none⟩=some c0∧w.cell? ⟨b,1,none⟩=some c1∧w.cell? ⟨b,2,none⟩=some c2∧w.cell? ⟨b,3,none⟩=some c3∧w.cell? ⟨b,4,none⟩=some c4∧w.cell? ⟨b,5,none⟩=some c5∧w.cell? ⟨b,6,none⟩=some c6∧w.cell? ⟨b,7,none⟩=some c7∧w.cell? ⟨b,8,none⟩=some c8:=
 ⟨r.1.cell 0,r.1.cell 1,r.1.cell 2,r.1.cell 3,r.1.cell 4,r.1.cell 5,r.1.cell 6,r.1.cell 7,r.1.cell 8⟩
theorem Reads.two {w:World} {g:Nat} {T:TypeId} {a b:Int} (r:Row w g T #[.int .i64 a,.int .i64 b]):Reads w (.slice (some ⟨g,0,none⟩) 2 2) [a,b]:=by
 refine⟨some ⟨g,0,none⟩,2,rfl,λi x hx=>⟨g,0,rfl,?_⟩⟩
 rw[Nat.zero_add,r.cell]
 match i,hx with
 | 0,hx=>injection hx with hx;rw[←hx];rfl
 | 1,hx=>injection hx with hx;rw[←hx];rfl
 | n+2,hx=>cases hx
theorem ints16_yes (v u:Value) (xs:List Int) (w:World) (hx:Reads w v xs) (hy:Reads w u xs) (hm:xs.length≤1000000) :
  Calls prog 28 #[v,u] w λe w'=>e=.returned (.bool true)∧Only n_ w w':=(ints16_any v u xs xs w hx hy hm hm).mono (λe w' z=>⟨by rw[z.1];simp,z.2⟩)
section
variable {w0 w w':World} {p:Nat} {c:Nat→Nat} {F H:Nat} {E:Eng}
theorem lnext_some {room:Int} {m:Mv} {ds:List Int} (h:LEw w0 w p c F H E) (r9:-9223372036854775808≤room∧room≤9223372036854775807) (he:(E.next room).2=(ds,some m)) (hF:F+1000<100000000) (hH:H+1<1000000) :
  Calls prog 19 #[.pointer (some ⟨p,0,none⟩),.int .i64 room] w λe w'=>∃a1 k1 a2 k2 a3 k3 dv,e=.returned (.tuple #[.agg #[.int .i64 m.tag,.bool m.wr,.int .i64 m.lo,.int .i64 m.n,.slice a1 m.ks.length k1,.slice a2 m.vs.length k2,.slice a3 m.fs.length k3],dv,.bool true])∧OwI w' w.heap.size dv ds∧MvW w' w.heap.size (.slice a1 m.ks.length k1,.slice a2 m.vs.length k2,.slice a3 m.fs.length k3) m∧LEto w0 w p c (F+1000) (H+1) (E.next room).1 (MvB (.slice a1 m.ks.length k1,.slice a2 m.vs.length k2,.slice a3 m.fs.length k3)) w':=by
 have k:=lnext room h r9 hF hH
 rw[he] at k
 unfold pT at k
 refine k.mono ?_
 rintro e w' ⟨mv,dv,⟨v1,v2,v3⟩,rfl,hd,⟨rfl,hm⟩,hl⟩
 obtain⟨a1,k1,e1⟩:=owns_form hm.ks
 obtain⟨a2,k2,e2⟩:=owns_form hm.vs
 obtain⟨a3,k3,e3⟩:=owns_form hm.fs
 dsimp only at e1 e2 e3
 subst e1 e2 e3
 exact⟨a1,k1,a2,k2,a3,k3,dv,rfl,hd,hm,hl⟩
theorem lnext_none {room:Int} {ds:List Int} (h:LEw w0 w p c F H E) (r9:-9223372036854775808≤room∧room≤9223372036854775807) (he:(E.next room).2=(ds,none)) (hF:F+1000<100000000) (hH:H+1<1000000) :
  Calls prog 19 #[.pointer (some ⟨p,0,none⟩),.int .i64 room] w λe w'=>∃dv,e=.returned (.tuple #[.agg #[.int .i64 0,.bool false,.int .i64 0,.int .i64 0,.slice none 0 0,.slice none 0 0,.slice none 0 0],dv,.bool false])∧OwI w' w.heap.size dv ds∧LEto w0 w p c (F+1000) (H+1) (E.next room).1 (λ_=>False) w':=by
 have k:=lnext room h r9 hF hH
 rw[he] at k
 unfold pT at k
 refine k.mono ?_
 rintro e w' ⟨mv,dv,v,rfl,hd,⟨rfl,_⟩,c',q1,q2,_,q4⟩
 exact⟨dv,rfl,hd,c',q1,q2,(λ_ z=>z.elim),q4⟩
theorem oc_two {base:Nat} {v:Value} {qs:List (Oc × Value)} {os:List Oc} (h:OcAt w base c v qs) (e:qs.map (·.1)=os) (l2:os.length=2):∃g cap q0 q1,v=.slice (some ⟨g,0,none⟩) 2 cap∧qs=[q0,q1]∧os=[q0.1,q1.1]∧w.cell? ⟨g,9,none⟩=some (.int .i64 q0.1.f)∧w.cell? ⟨g,21,none⟩=some (.int .i64 q1.1.f)∧w.cell? ⟨g,23,none⟩=some q1.2∧∃a k,q1.2=.slice a q1.1.ws.length k:=by
 have ql:qs.length=2:=by rw[←l2,←e,List.length_map]
 match qs,ql with
 | [q0,q1],_ =>
  obtain⟨g,cap,rfl,_⟩:=h.own.form (by simp)
  have c0:=Owns.cell h.own ocC12 (i:=0) (a:=q0) rfl (j:=9) (by decide)
  have c1:=Owns.cell h.own ocC12 (i:=1) (a:=q1) rfl (j:=9) (by decide)
  have c2:=Owns.cell h.own ocC12 (i:=1) (a:=q1) rfl (j:=11) (by decide)
  obtain⟨a,k,e3⟩:=(h.rd q1 (by simp)).len
  exact⟨g,cap,q0,q1,rfl,rfl,e.symm,c0,c1,c2,a,k,e3⟩
end
set_option maxHeartbeats 4000000 in
theorem awake16_any (w:World) (hb:Bd w) :
  Calls prog 9 #[] w λe w'=>e=.returned (.bool true)∧Only n_ w w':=by
 have HB:=hid hb
 clear hb
 go_enter func9,ntmps9
 go_wp2_with fail
 (with_reducible refine (rusual_any 10 w).mono ?_)
 rintro e w1 ⟨rfl,o1⟩
 have O1:=hid o1
 clear o1
 have NW:=lnew (w0:=w) (usual 10) (HB.out.still O1.out) (show (usual 10).MayC from by decide) O1.out
 unfold pT at NW
 replace NW:=hid NW
 go_wp2_with fail
 (with_reducible refine NW.out.mono ?_)
 rintro e w2 ⟨p,rfl,⟨c0,h2,_⟩,o2⟩
 have L2:=hid h2
 have NN:=hid (show Calls prog 11 #[.agg #[.int .i64 0,.int .i64 0,.int .i64 0,.int .i64 0,.int .i64 0,.int .i64 0,.int .i64 0,.int .i64 0,.int .i64 0,.int .i64 0,.int .i64 0,.int .i64 0,.int .i64 0,.int .i64 0]] w2 (λe w'=>e=.returned (.tuple #[.pointer none,.int .i64 1])∧Only n_ w2 w') from enew_no ⟨0,0,0,0,0,0,0,0,0,0,0,0,0,0⟩ w2 (HB.out.still h2.only) (by decide))
 clear h2 o2 NW
 go_wp2_with fail
 (with_reducible refine NN.out.mono ?_)
 rintro e w3 ⟨rfl,o3⟩
 have L3:=hid (show LEw w w3 p c0 0 0 A0 from L2.out.still o3)
 clear o3 NN L2
 have CA:=lahead 4 L3.out (by decide) (by decide)
 unfold pT at CA
 rw[a_ahead] at CA
 replace CA:=hid CA
 go_wp2_with fail
 (with_reducible refine CA.out.mono ?_)
 rintro e w4 ⟨rfl,c1,h4,g4,_,o4⟩
 obtain⟨W4,hW4⟩:∃W,W=w4.alloc (.cells #[.int .i64 1,.int .i64 3,.int .i64 4,.int .i64 0,.int .i64 0,.int .i64 0,.bool false,.bool false,.bool false] 54):=⟨_,rfl⟩
 have oa:Only n_ w4 W4:=by rw[hW4];exact (Only.refl _ _).alloc _
 have RA:=hid (show Row W4 w4.heap.size 54 #[.int .i64 1,.int .i64 3,.int .i64 4,.int .i64 0,.int .i64 0,.int .i64 0,.bool false,.bool false,.bool false]∧c1 w4.heap.size=0 from by rw[hW4];exact fresh0 h4 _ _)
 have L4:=hid (show LEw w W4 p c1 (0+10) (0+2) A1 from h4.still oa)
 clear h4 g4 o4 oa CA L3
 go_upto_region 6 with fail
 rw[←hW4]
 clear hW4
 have CA:=lread 4 1 ⟨1,0⟩ L4.out ⟨rfl,rfl⟩ (by decide) (by decide)
 unfold pT Wt.val at CA
 rw[a_read1] at CA
 replace CA:=hid CA
 go_wp2_with fail
 (with_reducible refine CA.out.mono ?_)
 rintro e w5 ⟨rfl,c2,h5,g5,_,o5⟩
 obtain⟨W5,hW5⟩:∃W,W=w5.alloc (.cells #[.int .i64 1,.int .i64 1,.int .i64 4,.int .i64 1,.int .i64 0,.int .i64 1,.bool false,.bool false,.bool false] 54):=⟨_,rfl⟩
 have oa:Only n_ w5 W5:=by rw[hW5];exact (Only.refl _ _).alloc _
 have RB:=hid (show Row W5 w5.heap.size 54 #[.int .i64 1,.int .i64 1,.int .i64 4,.int .i64 1,.int .i64 0,.int .i64 1,.bool false,.bool false,.bool false]∧c2 w5.heap.size=0 from by rw[hW5];exact fresh0 h5 _ _)
 have RA:=hid (still0 (kept g5 o5 RA.out) oa)
 have L5:=hid (show LEw w W5 p c2 (0+10+10) (0+2+2) A2 from h5.still oa)
 clear h5 g5 o5 oa CA L4
 go_upto_region 7 with fail
 rw[←hW5]
 clear hW5
 have CA:=lread 5 1 ⟨1,1⟩ L5.out ⟨rfl,rfl⟩ (by decide) (by decide)
 unfold pT Wt.val at CA
 rw[a_read2] at CA
 replace CA:=hid CA
 go_wp2_with fail
 (with_reducible refine CA.out.mono ?_)
 rintro e w6 ⟨rfl,c3,h6,g6,_,o6⟩
 obtain⟨W6,hW6⟩:∃W,W=w6.alloc (.cells #[.int .i64 2,.int .i64 1,.int .i64 5,.int .i64 1,.int .i64 0,.int .i64 1,.bool false,.bool false,.bool false] 54):=⟨_,rfl⟩
 have oa:Only n_ w6 W6:=by rw[hW6];exact (Only.refl _ _).alloc _
 have RC:=hid (show Row W6 w6.heap.size 54 #[.int .i64 2,.int .i64 1,.int .i64 5,.int .i64 1,.int .i64 0,.int .i64 1,.bool false,.bool false,.bool false]∧c3 w6.heap.size=0 from by rw[hW6];exact fresh0 h6 _ _)
 have RA:=hid (still0 (kept g6 o6 RA.out) oa)
 have RB:=hid (still0 (kept g6 o6 RB.out) oa)
 have L6:=hid (show LEw w W6 p c3 (0+10+10+10) (0+2+2+2) A3 from h6.still oa)
 clear h6 g6 o6 oa CA L5
 obtain⟨x0,x1,x2,x3,x4,x5,x6,x7,x8⟩:=nine0 RA.out
 obtain⟨y0,y1,y2,y3,y4,y5,y6,y7,y8⟩:=nine0 RB.out
 obtain⟨z0,_⟩:=nine0 RC.out
 go_upto_region 8 with fail
 rw[←hW6]
 clear hW6
 have ne1:=neq_t1 W6
 have ne2:=neq_t2 W6
 go_upto_region 10 with fail
 clear x0 x1 x2 x3 x4 x5 x6 x7 x8 y0 y1 y2 y3 y4 y5 y6 y7 y8 z0 ne1 ne2 RA RB RC
 have CA:=hid (lnext_some L6.out (room:=8) (by decide) a_next1 (by decide) (by decide))
 go_wp2_with fail
 (with_reducible refine CA.out.mono ?_)
 rintro e w7 ⟨a1,k1,a2,k2,a3,k3,dv,rfl,_,m7,c4,h7,g7,z7,o7⟩
 obtain⟨W7,hW7⟩:∃W,W=w7.alloc (.cells #[.int .i64 1,.bool false,.int .i64 4,.int .i64 2,.slice a1 2 k1,.slice a2 0 k2,.slice a3 2 k3] 47):=⟨_,rfl⟩
 have oa:Only n_ w7 W7:=by rw[hW7];exact (Only.refl _ _).alloc _
 have RM:=hid (show Row W7 w7.heap.size 47 #[.int .i64 1,.bool false,.int .i64 4,.int .i64 2,.slice a1 2 k1,.slice a2 0 k2,.slice a3 2 k3]∧c4 w7.heap.size=0 from by rw[hW7];exact fresh0 h7 _ _)
 have MM:=hid (show MvW W7 0 (.slice a1 2 k1,.slice a2 0 k2,.slice a3 2 k3) ⟨1,false,4,2,[1,2],[],[4,5]⟩∧∀g,MvB (.slice a1 2 k1,.slice a2 0 k2,.slice a3 2 k3) g→c4 g=0 from ⟨(m7.still oa).lower (Nat.zero_le _),z7⟩)
 have L7:=hid (show LEw w W7 p c4 (0+10+10+10+1000) (0+2+2+2+1) A4 from h7.still oa)
 clear h7 g7 o7 oa CA L6 m7 z7
 go_upto_region 11 with fail
 rw[←hW7]
 clear hW7
 have CA:=hid (lnext_none L7.out (room:=8) (by decide) a_next2 (by decide) (by decide))
 go_wp2_with fail
 (with_reducible refine CA.out.mono ?_)
 rintro e w8 ⟨dv8,rfl,_,c5,h8,g8,_,o8⟩
 obtain⟨W8,hW8⟩:∃W,W=w8.alloc (.cells #[.int .i64 0,.bool false,.int .i64 0,.int .i64 0,.slice none 0 0,.slice none 0 0,.slice none 0 0] 47):=⟨_,rfl⟩
 have oa:Only n_ w8 W8:=by rw[hW8];exact (Only.refl _ _).alloc _
 have RM:=hid (still0 (kept g8 o8 RM.out) oa)
 have MM:=hid (show MvW W8 0 (.slice a1 2 k1,.slice a2 0 k2,.slice a3 2 k3) ⟨1,false,4,2,[1,2],[],[4,5]⟩∧∀g,MvB (.slice a1 2 k1,.slice a2 0 k2,.slice a3 2 k3) g→c5 g=0 from ⟨(keptM g8 o8 MM.out).1.still oa,(keptM g8 o8 MM.out).2⟩)
 have L8:=hid (show LEw w W8 p c5 (0+10+10+10+1000+1000) (0+2+2+2+1+1) A5 from h8.still oa)
 clear h8 g8 o8 oa CA L7
 go_upto_region 12 with fail
 rw[←hW8]
 clear hW8
 have CA:=lfinish 1 false L8.out rfl (by decide)
 unfold pT at CA
 rw[a_fin1.1] at CA
 replace CA:=hid CA
 go_wp2_with fail
 (with_reducible refine CA.out.mono ?_)
 rintro e w9 ⟨v9,qs9,rfl,e9,c6,h9,g9,oc9,o9⟩
 have RM:=hid (kept g9 o9 RM.out)
 have MM:=hid (keptM g9 o9 MM.out)
 have OC:=hid oc9
 have E9:=hid e9
 have L9:=hid (show LEw w w9 p c6 (0+10+10+10+1000+1000+300) (0+2+2+2+1+1) A6 from h9)
 clear h9 g9 o9 oc9 CA L8 e9
 have CA:=hid (lnext_some L9.out (room:=0) (by decide) a_next3 (by decide) (by decide))
 go_wp2_with fail
 (with_reducible refine CA.out.mono ?_)
 rintro e w10 ⟨b1,l1,b2,l2,b3,l3,dv10,rfl,_,_,c7,h10,g10,_,o10⟩
 obtain⟨W10,hW10⟩:∃W,W=w10.alloc (.cells #[.int .i64 2,.bool false,.int .i64 4,.int .i64 2,.slice b1 2 l1,.slice b2 0 l2,.slice b3 0 l3] 47):=⟨_,rfl⟩
 have oa:Only n_ w10 W10:=by rw[hW10];exact (Only.refl _ _).alloc _
 have RN:=hid (show Row W10 w10.heap.size 47 #[.int .i64 2,.bool false,.int .i64 4,.int .i64 2,.slice b1 2 l1,.slice b2 0 l2,.slice b3 0 l3]∧c7 w10.heap.size=0 from by rw[hW10];exact fresh0 h10 _ _)
 have RM:=hid (still0 (kept g10 o10 RM.out) oa)
 have MM:=hid (show MvW W10 0 (.slice a1 2 k1,.slice a2 0 k2,.slice a3 2 k3) ⟨1,false,4,2,[1,2],[],[4,5]⟩∧∀g,MvB (.slice a1 2 k1,.slice a2 0 k2,.slice a3 2 k3) g→c7 g=0 from ⟨(keptM g10 o10 MM.out).1.still oa,(keptM g10 o10 MM.out).2⟩)
 have OC:=hid ((OC.out.call g10 o10).still oa)
 have L10:=hid (show LEw w W10 p c7 (0+10+10+10+1000+1000+300+1000) (0+2+2+2+1+1+1) A7 from h10.still oa)
 clear h10 g10 o10 oa CA L9
 go_upto_region 14 with fail
 rw[←hW10]
 clear hW10
 have CA:=lfinish 2 true L10.out rfl (by decide)
 unfold pT at CA
 rw[a_fin2.1] at CA
 replace CA:=hid CA
 go_wp2_with fail
 (with_reducible refine CA.out.mono ?_)
 rintro e w11 ⟨v11,qs11,rfl,e11,c8,h11,g11,oc11,o11⟩
 have RM:=hid (kept g11 o11 RM.out)
 have RN:=hid (kept g11 o11 RN.out)
 have MM:=hid (keptM g11 o11 MM.out)
 have OC:=hid (OC.out.call g11 o11)
 have OD:=hid oc11
 have L11:=hid (show LEw w w11 p c8 (0+10+10+10+1000+1000+300+1000+300) (0+2+2+2+1+1+1) A8 from h11)
 obtain⟨gl,lc,p0,p1,rfl,hq9,ho9,f0,_,_,_,_,_⟩:=oc_two OC.out E9.out (by have:=congrArg List.length a_fin1.2;simpa using this)
 obtain⟨go,oc,q0,q1,rfl,hq11,ho11,_,f1,f2,sa,sk,es⟩:=oc_two OD.out e11 (by have:=congrArg List.length a_fin2.2;simpa using this)
 have ef0:p0.1.f=1:=by have:=a_fin1.2;rw[ho9] at this;simp at this;exact this.1
 have ef1:q1.1.f=0∧q1.1.ws.length=1:=by have:=a_fin2.2;rw[ho11] at this;simp at this;exact⟨this.2.1,by rw[this.2.2];rfl⟩
 rw[ef0] at f0
 rw[es,ef1.2] at f2
 rw[ef1.1] at f1
 have FF:=hid (show w11.cell? ⟨gl,9,none⟩=some (.int .i64 1)∧w11.cell? ⟨go,21,none⟩=some (.int .i64 0)∧w11.cell? ⟨go,23,none⟩=some (.slice sa 1 sk) from ⟨f0,f1,f2⟩)
 have TI:=ltickets L11.out
 unfold pT at TI
 clear h11 g11 o11 oc11 CA L10 e11 ef0 ef1 f0 f1 f2 hq9 ho9 hq11 ho11 es
 obtain⟨m0,m1,m2,m3,m4,m5,m6⟩:=RM.out.1.seven
 have er:=eql_r1 w11
 go_wp2_with fail
 obtain⟨W12,hW12⟩:∃W,W=w11.alloc (.cells #[.int .i64 1,.int .i64 2] 3):=⟨_,rfl⟩
 have oa:Only n_ w11 W12:=by rw[hW12];exact (Only.refl _ _).alloc _
 have ra:=Reads.of_owns (MM.out.1.still oa).ks
 have rb:Reads W12 (.slice (some ⟨w11.heap.size,0,none⟩) 2 2) [1,2]:=Reads.two (T:=3) (by rw[hW12];exact Row.fresh _ _ _)
 have I1:=hid (ints16_yes _ _ [1,2] W12 ra rb (by decide))
 have O12:=hid oa
 rw[←hW12]
 clear hW12 oa ra rb m0 m1 m2 m3 m4 m5 m6 er
 (with_reducible refine I1.out.mono ?_)
 rintro e w13 ⟨rfl,o13⟩
 have O13:=hid (O12.out.same o13)
 obtain⟨m0,m1,m2,m3,m4,m5,m6⟩:=(O13.out.still RM.out.1).seven
 clear o13 I1 O12
 go_wp2_with fail
 obtain⟨W14,hW14⟩:∃W,W=w13.alloc (.cells #[.int .i64 4,.int .i64 5] 3):=⟨_,rfl⟩
 have oa:Only n_ w13 W14:=by rw[hW14];exact (Only.refl _ _).alloc _
 have ra:=Reads.of_owns (MM.out.1.still (O13.out.same oa)).fs
 have rb:Reads W14 (.slice (some ⟨w13.heap.size,0,none⟩) 2 2) [4,5]:=Reads.two (T:=3) (by rw[hW14];exact Row.fresh _ _ _)
 have I1:=hid (ints16_yes _ _ [4,5] W14 ra rb (by decide))
 have O14:=hid (O13.out.same oa)
 rw[←hW14]
 clear hW14 oa ra rb m0 m1 m2 m3 m4 m5 m6 O13
 (with_reducible refine I1.out.mono ?_)
 rintro e w15 ⟨rfl,o15⟩
 have O15:=hid (O14.out.same o15)
 obtain⟨m0,m1,m2,m3,m4,m5,m6⟩:=(O15.out.still RM.out.1).seven
 obtain⟨n0,n1,n2,n3,n4,n5,n6⟩:=(O15.out.still RN.out.1).seven
 have f0:=O15.out.cell FF.out.1 (λs=>s)
 have f1:=O15.out.cell FF.out.2.1 (λs=>s)
 have f2:=O15.out.cell FF.out.2.2 (λs=>s)
 have er:=eql_r1 w15
 have TI:=ltickets (L11.out.still O15.out)
 unfold pT at TI
 rw[a_over] at TI
 replace TI:=hid TI
 clear o15 I1 O14
 go_wp2_with fail
 (with_reducible refine TI.out.mono ?_)
 rintro e w16 ⟨v16,rfl,own16,o16⟩
 obtain⟨ta,tk,e16⟩:=owns_form own16
 have OF:=hid ((L11.out.only.same O15.out).same o16)
 subst e16
 clear own16 o16 TI
 go_wp2_with fail
 go_ret
 exact⟨rfl,OF.out⟩
end Go.Proofs.YtfbpjobobdidiaaGreatDoor
