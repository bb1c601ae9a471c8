/- The document's own engine of layer 16: the first ticket of one that is empty. -/
import Derived.Test.YtfbpjobobdidiaaGreatDoorRRe16
import Derived.Deep.CutRange
import Derived.Deep.CutBlock
namespace Go.Proofs.YtfbpjobobdidiaaGreatDoor
open Lib (hid)
open Go.Proofs.Tryz
open Go.RowKit
set_option linter.unusedVariables false
set_option maxRecDepth 100000
theorem addR (b o n:Nat):(Addr.mk b o none).add n=⟨b,o+n,none⟩:=by
 unfold Addr.add
 split
 ·rename_i z;rw[z];rfl
 ·rfl
theorem step_first {α:Type} {P:Program} {ops:Array Oper} {o:Oper} {a:Act} {w W3:World} {K:Act→World→Prop} {Q:Exit→Act→World→Prop} {E:Prop}
  (hg:o.guard=none) (s x:Operand) (t:TypeId) (hop:o.op=Op.call { callee:=Callee.builtin Builtin.append,args:=#[s,x],argTypes:=#[t,t] })
  (e:TypeId) (i:TypeInfo) (z:Value) (size bytes:Nat) (h1:P.underlying t=some (.slice e)) (h2:P.info? e=some i) (h3:i.zero=some z) (h4:i.size=size) (h5:i.bytes=bytes) (h6:z.cells.size=size) (h7:0<size) (hb:bytes≤1000)
  (c:α→List Value) (hk:∀y,(c y).length=size) (hc:∀y,∀u∈c y,u.oneCell'=true) {g g2:Nat} {y:α} (oo:Only n_ W3 w) (hge:W3.heap.size≤g) (re:Row w g e #[]) (rx:Row w g2 e (c y).toArray)
  (hs:a.eval s=.slice (some ⟨g,0,none⟩) 0 0) (hx:a.eval x=.slice (some ⟨g2,0,none⟩) 1 1)
  (hK:∀v' w',Owns w' W3.heap.size e size c v' [y]→Only n_ W3 w'→K (a.put o.dst v') w') :
  if Region.wanted o (yielded ops a.tmps)=true then Oper.wp P o a w K Q else E:=by
 have hown:w.ownsRow W3.heap.size e size (.slice (some ⟨g,0,none⟩) 0 0) 0 []:=⟨by simp,.inr ⟨g,0,#[],rfl,hge,re,Nat.le_refl _,Nat.zero_le _,by simp,by simp⟩⟩
 have hsrc:Src w (.slice (some ⟨g2,0,none⟩) 1 1) 1 (c y):=.inr ⟨_,1,rfl,λj u hj=>by
  rw[addR,Nat.zero_add,rx.cell,List.getElem?_toArray]
  exact hj⟩
 refine step_append_src hg s x t hop W3.heap.size e i z size bytes h1 h2 h3 h4 h5 h6 h7 _ 0 [] hs hown _ 1 (c y) hx hsrc (by rw[hk,Nat.one_mul]) (hc y) (by unfold maxLen;omega) (by omega) oo.size ?_
 intro v' w' ow gr
 refine hK v' w' ?_ (oo.trans (Only.of_grown gr) (λj hj q=>by have q2:some j=some g:=q;injection q2;omega))
 unfold Owns
 simpa using ow
theorem info_rtick:(prog.info? 154).map (λi=>(i.zero,i.size,i.bytes))=some (some (.agg #[.int .i64 0,.int .i64 0,.int .i64 0,.int .i64 0,.int .i64 0,.int .i64 0,.bool false,.bool false,.bool false,.int .u64 0]),10,64):=by kernel_rfl
theorem info_int16:(prog.info? 3).map (λi=>(i.zero,i.size,i.bytes))=some (some (.int .i64 0),1,8):=by kernel_rfl
def tickC (q:Int × Int × Int × Int):List Value:=[.int .i64 1,.int .i64 q.1,.int .i64 q.2.1,.int .i64 q.2.2.1,.int .i64 0,.int .i64 0,.bool false,.bool false,.bool false,.int .u64 q.2.2.2]
theorem tickC10 (q:Int × Int × Int × Int):(tickC q).length=10:=rfl
theorem tickC_one:∀y,∀u∈tickC y,u.oneCell'=true:=by
 intro y u hu
 simp only[tickC,List.mem_cons,List.not_mem_nil,or_false] at hu
 rcases hu with rfl | rfl | rfl | rfl | rfl | rfl | rfl | rfl | rfl | rfl<;>rfl
def intC1 (x:Int):List Value:=[.int .i64 x]
theorem intC1_len (x:Int):(intC1 x).length=1:=rfl
theorem intC1_one:∀y,∀u∈intC1 y,u.oneCell'=true:=by
 intro y u hu
 simp only[intC1,List.mem_cons,List.not_mem_nil,or_false] at hu
 rw[hu];rfl
theorem app_no107 (g:Nat) (ty:TypeId) (w:World):(Builtin.append_ #[107,107] ty #[.slice (some ⟨g,0,none⟩) 0 0,.slice none 0 0]).run prog w=.ok (.slice (some ⟨g,0,none⟩) 0 0) w:=by kernel_rfl
abbrev engC16 (o:Opt) (T D A S:Value) (n:Int):Array Value:=#[.int .i64 o.b0,.int .i64 o.b1,.int .i64 o.b2,.int .i64 o.b3,.int .i64 o.b4,.int .i64 o.b5,.int .i64 o.b6,.int .i64 o.b7,.int .i64 o.b8,.int .i64 o.b9,.int .i64 o.b10,.int .i64 o.b11,.int .i64 o.b12,.int .i64 o.b13,T,D,A,S,.slice none 0 0,.int .i64 n,.int .i64 0]
theorem nineR {w:World} {g:Nat} {t:TypeId} {a0 a1 a2 a3 a4 a5 a6 a7 a8:Value} (h:Row w g t #[a0,a1,a2,a3,a4,a5,a6,a7,a8]):w.cell? ⟨g,0,none⟩=some a0∧w.cell? ⟨g,1,none⟩=some a1∧w.cell? ⟨g,2,none⟩=some a2∧w.cell? ⟨g,3,none⟩=some a3∧w.cell? ⟨g,4,none⟩=some a4∧w.cell? ⟨g,5,none⟩=some a5∧w.cell? ⟨g,6,none⟩=some a6∧w.cell? ⟨g,7,none⟩=some a7∧w.cell? ⟨g,8,none⟩=some a8:=
 ⟨h.cell 0,h.cell 1,h.cell 2,h.cell 3,h.cell 4,h.cell 5,h.cell 6,h.cell 7,h.cell 8⟩
set_option maxHeartbeats 4000000 in
theorem ropen16 (o:Opt) (kk b v:Int) (p:Nat) (w:World) (h:Em w p o) :
    Calls prog 83 #[.pointer (some ⟨p,0,none⟩),.agg #[.int .i64 0,.int .i64 kk,.int .i64 b,.int .i64 0,.int .i64 0,.int .i64 0,.bool false,.bool false,.bool false],.int .u64 v] w λe w'=>e=.returned (.int .i64 0)∧(∃gT cT vD vA,Row w' p 110 (engC16 o (.slice (some ⟨gT,0,none⟩) 1 cT) vD vA (.slice none 0 0) 1)∧w.heap.size≤gT∧Owns w' w.heap.size 154 10 tickC (.slice (some ⟨gT,0,none⟩) 1 cT) [(kk,b,0,v)])∧Only (λk=>k=p) w w':=by
  have AP:=app_no107
  have AQ:=app_no44
  obtain⟨i0,hi0,hz0,hz1,hz2⟩:=info_partsR info_rtick
  have I0:=hid hi0
  have I1:=hid hz0
  have I2:=hid hz1
  have I3:=hid hz2
  clear hi0 hz0 hz1 hz2
  obtain⟨j0,hj0,hy0,hy1,hy2⟩:=info_partsR info_int16
  have J0:=hid hj0
  have J1:=hid hy0
  have J2:=hid hy1
  have J3:=hid hy2
  clear hj0 hy0 hy1 hy2
  have c19:∀x,(w.alloc x).cell? ⟨p,19,none⟩=some (.int .i64 0):=λx=>(emCells (h.alloc x)).2.2.2.2.2.1
  have zf:∀x i,(w.alloc x).frozen? ⟨p,i,none⟩=false:=λx i=>(h.alloc x).frozen i
  have lp:=h.lt
  have H0:=hid h
  clear h
  go_enter func83,ntmps83
  go_upto_region 2 with fail
  obtain⟨W2,hW2⟩:∃W2,W2=(w.setCell ⟨p,19,none⟩ (.int .i64 1)).alloc (.cells #[.int .i64 0,.int .i64 kk,.int .i64 b,.int .i64 0,.int .i64 0,.int .i64 0,.bool false,.bool false,.bool false] 54):=⟨_,rfl⟩
  have re2:Row W2 p 110 (engC16 o (.slice none 0 0) (.slice none 0 0) (.slice none 0 0) (.slice none 0 0) 1):=by rw[hW2];exact (H0.out.put 19 (.int .i64 1)).alloc _
  have rt2:Row W2 w.heap.size 54 #[.int .i64 0,.int .i64 kk,.int .i64 b,.int .i64 0,.int .i64 0,.int .i64 0,.bool false,.bool false,.bool false]:=by
    rw[hW2]
    have r:=Row.fresh (w.setCell ⟨p,19,none⟩ (.int .i64 1)) 54 #[.int .i64 0,.int .i64 kk,.int .i64 b,.int .i64 0,.int .i64 0,.int .i64 0,.bool false,.bool false,.bool false]
    rw[show (w.setCell ⟨p,19,none⟩ (.int .i64 1)).heap.size=w.heap.size from by simp[World.setCell]] at r
    exact r
  have o2:Only (λk=>k=p) w W2:=by rw[hW2];exact ((Only.refl (λk=>k=p) w).into rfl 19 _).alloc _
  rw[←hW2]
  clear hW2 c19 zf
  have e19:W2.cell? ⟨p,19,none⟩=some (.int .i64 1):=re2.cell 19
  obtain⟨t0,t1,t2,t3,t4,t5,t6,t7,t8⟩:=nineR rt2
  have tz:=rt2.frozen 0
  go_upto_region 3 with fail
  obtain⟨W3,hW3⟩:∃W3,W3=W2.setCell ⟨w.heap.size,0,none⟩ (.int .i64 1):=⟨_,rfl⟩
  have re3:Row W3 p 110 (engC16 o (.slice none 0 0) (.slice none 0 0) (.slice none 0 0) (.slice none 0 0) 1):=by rw[hW3];exact re2.far (p:=⟨w.heap.size,0,none⟩) (λe=>absurd (show p=w.heap.size from e) (by omega)) _
  have rt3:Row W3 w.heap.size 54 #[.int .i64 1,.int .i64 kk,.int .i64 b,.int .i64 0,.int .i64 0,.int .i64 0,.bool false,.bool false,.bool false]:=by rw[hW3];exact rt2.put 0 (.int .i64 1)
  have o3:Only (λk=>k=p) w W3:=by rw[hW3];exact o2.new (Nat.le_refl _) 0 _
  rw[←hW3]
  clear hW3 re2 rt2 o2 e19 t0 t1 t2 t3 t4 t5 t6 t7 t8 tz
  have RE3:=hid re3
  have RT3:=hid rt3
  have O3:=hid o3
  clear re3 rt3 o3
  have KT:=hid (λ(W:World) (oo:Only n_ W3 W)=>nineR (oo.still RT3.out))
  have KE:=hid (λ(W:World) (oo:Only n_ W3 W)=>(show W.cell? ⟨p,14,none⟩=some (.slice none 0 0) from by rw[(oo.still RE3.out).cell];rfl))
  obtain⟨a0,a1,a2,a3,a4,a5,a6,a7,a8⟩:=KT.out W3 (Only.refl _ _)
  have a14:=KE.out W3 (Only.refl _ _)
  have b14:=λob=>KE.out (W3.alloc ob) ((Only.refl _ _).alloc _)
  have c14:=λob oc=>KE.out ((W3.alloc ob).alloc oc) (((Only.refl _ _).alloc _).alloc _)
  have OB1:=λob=>KT.out (W3.alloc ob) ((Only.refl _ _).alloc _)
  have b0:=λob=>(OB1 ob).1
  have b1:=λob=>(OB1 ob).2.1
  have b2:=λob=>(OB1 ob).2.2.1
  have b3:=λob=>(OB1 ob).2.2.2.1
  have b4:=λob=>(OB1 ob).2.2.2.2.1
  have b5:=λob=>(OB1 ob).2.2.2.2.2.1
  have b6:=λob=>(OB1 ob).2.2.2.2.2.2.1
  have b7:=λob=>(OB1 ob).2.2.2.2.2.2.2.1
  have b8:=λob=>(OB1 ob).2.2.2.2.2.2.2.2
  clear OB1
  have TC:(tickC (kk,b,0,v)).toArray=#[.int .i64 1,.int .i64 kk,.int .i64 b,.int .i64 0,.int .i64 0,.int .i64 0,.bool false,.bool false,.bool false,.int .u64 v]:=rfl
  have WB:=hid ((((Only.refl n_ W3).alloc (.cells #[] 154)).alloc (.cells #[.int .i64 1,.int .i64 kk,.int .i64 b,.int .i64 0,.int .i64 0,.int .i64 0,.bool false,.bool false,.bool false,.int .u64 v] 154)).drew)
  have EB:=hid (show Row (((W3.alloc (.cells #[] 154)).alloc (.cells #[.int .i64 1,.int .i64 kk,.int .i64 b,.int .i64 0,.int .i64 0,.int .i64 0,.bool false,.bool false,.bool false,.int .u64 v] 154)).drew) W3.heap.size 154 #[] from ((Row.fresh W3 154 #[]).alloc _).drew)
  have XB:=hid (show Row (((W3.alloc (.cells #[] 154)).alloc (.cells #[.int .i64 1,.int .i64 kk,.int .i64 b,.int .i64 0,.int .i64 0,.int .i64 0,.bool false,.bool false,.bool false,.int .u64 v] 154)).drew) (W3.heap.size+1) 154 (tickC (kk,b,0,v)).toArray from by
    have r:=Row.fresh (W3.alloc (.cells #[] 154)) 154 #[.int .i64 1,.int .i64 kk,.int .i64 b,.int .i64 0,.int .i64 0,.int .i64 0,.bool false,.bool false,.bool false,.int .u64 v]
    rw[World.size_alloc] at r
    exact r.drew)
  have WC:=hid ((((Only.refl n_ W3).alloc (.cells #[.int .i64 1,.int .i64 kk,.int .i64 b,.int .i64 0,.int .i64 0,.int .i64 0,.bool false,.bool false,.bool false,.int .u64 v] 154)).alloc (.cells #[] 154)).drew)
  have EC:=hid (show Row (((W3.alloc (.cells #[.int .i64 1,.int .i64 kk,.int .i64 b,.int .i64 0,.int .i64 0,.int .i64 0,.bool false,.bool false,.bool false,.int .u64 v] 154)).alloc (.cells #[] 154)).drew) (W3.heap.size+1) 154 #[] from by
    have r:=Row.fresh (W3.alloc (.cells #[.int .i64 1,.int .i64 kk,.int .i64 b,.int .i64 0,.int .i64 0,.int .i64 0,.bool false,.bool false,.bool false,.int .u64 v] 154)) 154 #[]
    rw[World.size_alloc] at r
    exact r.drew)
  have XC:=hid (show Row (((W3.alloc (.cells #[.int .i64 1,.int .i64 kk,.int .i64 b,.int .i64 0,.int .i64 0,.int .i64 0,.bool false,.bool false,.bool false,.int .u64 v] 154)).alloc (.cells #[] 154)).drew) W3.heap.size 154 (tickC (kk,b,0,v)).toArray from ((Row.fresh W3 154 #[.int .i64 1,.int .i64 kk,.int .i64 b,.int .i64 0,.int .i64 0,.int .i64 0,.bool false,.bool false,.bool false,.int .u64 v]).alloc _).drew)
  have sz1:W3.heap.size≤W3.heap.size+1:=by omega
  go_cut [30] from 19 to 33 (λ_ wx=>∃v' w',Owns w' W3.heap.size 154 10 tickC v' [(kk,b,0,v)]∧Only n_ W3 w'∧wx=w'.setCell ⟨p,14,none⟩ v')
  case first =>
    go_region_law (first
      | (refine step_first rfl (.tmp 25) (.tmp 29) 107 rfl 154 i0 _ 10 64 underlying107 I0.out I1.out I2.out I3.out rfl (by decide) (by decide) tickC tickC10 tickC_one WB.out (Nat.le_refl _) EB.out XB.out rfl rfl ?_
         intro v5 w5 own5 o5
         have OW:=hid own5
         have OO:=hid o5
         have r5:=o5.still RE3.out
         have f14:w5.cell? ⟨p,14,none⟩=some (.slice none 0 0):=r5.cell 14
         have z14:=r5.frozen 14
         obtain⟨g5,k5,e5,_⟩:=own5.form (by simp)
         subst e5
         clear own5 o5 r5)
      | (refine step_first rfl (.tmp 25) (.tmp 29) 107 rfl 154 i0 _ 10 64 underlying107 I0.out I1.out I2.out I3.out rfl (by decide) (by decide) tickC tickC10 tickC_one WC.out sz1 EC.out XC.out rfl rfl ?_
         intro v5 w5 own5 o5
         have OW:=hid own5
         have OO:=hid o5
         have r5:=o5.still RE3.out
         have f14:w5.cell? ⟨p,14,none⟩=some (.slice none 0 0):=r5.cell 14
         have z14:=r5.frozen 14
         obtain⟨g5,k5,e5,_⟩:=own5.form (by simp)
         subst e5
         clear own5 o5 r5)
      | fail)
    all_goals
      go_wp2_with fail
      go_meet
      exact⟨_,_,OW.out,OO.out,rfl⟩
  case rest =>
    obtain⟨v5,w5,own5,o5,hwx⟩:=hcut
    subst hwx
    obtain⟨gT,cT,e5,lg5,lt5,_,_⟩:=own5.form (by simp)
    have e5:v5=.slice (some ⟨gT,0,none⟩) 1 cT:=e5
    subst e5
    have gp:gT≠p:=λe=>by have:=O3.out.size;omega
    clear a0 a1 a2 a3 a4 a5 a6 a7 a8 a14 b14 c14 b0 b1 b2 b3 b4 b5 b6 b7 b8 WB EB XB WC EC XC sz1 AP TC KT KE
    obtain⟨W4,hW4⟩:∃W4,W4=w5.setCell ⟨p,14,none⟩ (.slice (some ⟨gT,0,none⟩) 1 cT):=⟨_,rfl⟩
    have RE4:=hid (show Row W4 p 110 (engC16 o (.slice (some ⟨gT,0,none⟩) 1 cT) (.slice none 0 0) (.slice none 0 0) (.slice none 0 0) 1) from by rw[hW4];exact (o5.still RE3.out).put 14 _)
    have RT4:=hid (show Row W4 w.heap.size 54 #[.int .i64 1,.int .i64 kk,.int .i64 b,.int .i64 0,.int .i64 0,.int .i64 0,.bool false,.bool false,.bool false] from by rw[hW4];exact (o5.still RT3.out).far (p:=⟨p,14,none⟩) (λe=>absurd (show w.heap.size=p from e) (by omega)) _)
    have o4:Only (λk=>k=p) w5 W4:=by rw[hW4];exact (Only.refl (λk=>k=p) w5).into rfl 14 _
    have OW4:=hid (own5.keep o4 (λg hg z=>by have e:g=p:=z;have:=(own5.base_le hg).1;have:=O3.out.size;omega))
    have O4:=hid ((O3.out.idle o5).same o4)
    have LG:=hid (show w.heap.size≤gT from Nat.le_trans O3.out.size lg5)
    have S3:=hid O3.out.size
    have SZ4:=hid (show p<W3.heap.size from RE3.out.lt)
    clear own5 o5 o4 lg5 lt5 RE3 RT3
    go_upto_region 4 with fail
    rw[←hW4]
    clear hW4
    obtain⟨a0,a1,a2,a3,a4,a5,a6,a7,a8⟩:=nineR RT4.out
    have K4:=hid (λ(W:World) (oo:Only n_ W4 W)=>(show W.cell? ⟨w.heap.size,0,none⟩=some (.int .i64 1)∧W.cell? ⟨p,15,none⟩=some (.slice none 0 0)∧W.cell? ⟨p,16,none⟩=some (.slice none 0 0) from ⟨(oo.still RT4.out).cell 0,(oo.still RE4.out).cell 15,(oo.still RE4.out).cell 16⟩))
    have m1:=λob oc=>(K4.out ((W4.alloc ob).alloc oc) (((Only.refl _ _).alloc _).alloc _)).1
    have m2:=λob oc=>(K4.out ((W4.alloc ob).alloc oc) (((Only.refl _ _).alloc _).alloc _)).2.1
    have m3:=λob oc=>(K4.out ((W4.alloc ob).alloc oc) (((Only.refl _ _).alloc _).alloc _)).2.2
    have i1:=λob=>(K4.out (W4.alloc ob) ((Only.refl _ _).alloc _)).1
    have i2:=λob=>(K4.out (W4.alloc ob) ((Only.refl _ _).alloc _)).2.1
    have i3:=λob=>(K4.out (W4.alloc ob) ((Only.refl _ _).alloc _)).2.2
    obtain⟨_,j2,j3⟩:=K4.out W4 (Only.refl _ _)
    have WB:=hid ((((Only.refl n_ W4).alloc (.cells #[] 3)).alloc (.cells #[.int .i64 1] 3)).drew)
    have EB:=hid (show Row (((W4.alloc (.cells #[] 3)).alloc (.cells #[.int .i64 1] 3)).drew) W4.heap.size 3 #[] from ((Row.fresh W4 3 #[]).alloc _).drew)
    have XB:=hid (show Row (((W4.alloc (.cells #[] 3)).alloc (.cells #[.int .i64 1] 3)).drew) (W4.heap.size+1) 3 (intC1 1).toArray from by
      have r:=Row.fresh (W4.alloc (.cells #[] 3)) 3 #[.int .i64 1]
      rw[World.size_alloc] at r
      exact r.drew)
    have WC:=hid ((((Only.refl n_ W4).alloc (.cells #[.int .i64 1] 3)).alloc (.cells #[] 3)).drew)
    have EC:=hid (show Row (((W4.alloc (.cells #[.int .i64 1] 3)).alloc (.cells #[] 3)).drew) (W4.heap.size+1) 3 #[] from by
      have r:=Row.fresh (W4.alloc (.cells #[.int .i64 1] 3)) 3 #[]
      rw[World.size_alloc] at r
      exact r.drew)
    have XC:=hid (show Row (((W4.alloc (.cells #[.int .i64 1] 3)).alloc (.cells #[] 3)).drew) W4.heap.size 3 (intC1 1).toArray from ((Row.fresh W4 3 #[.int .i64 1]).alloc _).drew)
    have sz1:W4.heap.size≤W4.heap.size+1:=by omega
    by_cases hk:kk=3
    · have tk:(kk==3)=true:=by simp[hk]
      clear hk
      go_upto_region 5 with fail
      go_cut [46] from 36 to 49 (λ_ wx=>∃v' w',Owns w' W4.heap.size 3 1 intC1 v' [1]∧Only n_ W4 w'∧wx=w'.setCell ⟨p,16,none⟩ v')
      case first =>
        go_region_law (first
          | (refine step_first rfl (.tmp 42) (.tmp 45) 44 rfl 3 j0 _ 1 8 underlying44 J0.out J1.out J2.out J3.out rfl (by decide) (by decide) intC1 intC1_len intC1_one WB.out (Nat.le_refl _) EB.out XB.out rfl rfl ?_
             intro v5 w5 own5 o5
             have OW:=hid own5
             have OO:=hid o5
             have r5:=o5.still RE4.out
             have f14:w5.cell? ⟨p,16,none⟩=some (.slice none 0 0):=r5.cell 16
             have z14:=r5.frozen 16
             obtain⟨g5,k5,e5,_⟩:=own5.form (by simp)
             subst e5
             clear own5 o5 r5)
          | (refine step_first rfl (.tmp 42) (.tmp 45) 44 rfl 3 j0 _ 1 8 underlying44 J0.out J1.out J2.out J3.out rfl (by decide) (by decide) intC1 intC1_len intC1_one WC.out sz1 EC.out XC.out rfl rfl ?_
             intro v5 w5 own5 o5
             have OW:=hid own5
             have OO:=hid o5
             have r5:=o5.still RE4.out
             have f14:w5.cell? ⟨p,16,none⟩=some (.slice none 0 0):=r5.cell 16
             have z14:=r5.frozen 16
             obtain⟨g5,k5,e5,_⟩:=own5.form (by simp)
             subst e5
             clear own5 o5 r5)
          | fail)
        all_goals
          go_wp2_with fail
          go_meet
          exact⟨_,_,OW.out,OO.out,rfl⟩
      case rest =>
        obtain⟨v6,w6,own6,o6,hwx⟩:=hcut
        subst hwx
        obtain⟨gA,cA,e6,lg6,lt6,_,_⟩:=own6.form (by simp)
        have e6:v6=.slice (some ⟨gA,0,none⟩) 1 cA:=e6
        subst e6
        have q14:(w6.setCell ⟨p,16,none⟩ (.slice (some ⟨gA,0,none⟩) 1 cA)).cell? ⟨p,14,none⟩=some (.slice (some ⟨gT,0,none⟩) 1 cT):=by
          rw[((o6.still RE4.out).put 16 _).cell];rfl
        have RR:=hid (show Row (w6.setCell ⟨p,16,none⟩ (.slice (some ⟨gA,0,none⟩) 1 cA)) p 110 (engC16 o (.slice (some ⟨gT,0,none⟩) 1 cT) (.slice none 0 0) (.slice (some ⟨gA,0,none⟩) 1 cA) (.slice none 0 0) 1) from (o6.still RE4.out).put 16 _)
        have on:=hid ((Only.refl (λk=>k=p) w6).into rfl 16 (.slice (some ⟨gA,0,none⟩) 1 cA))
        have OWF:=hid ((OW4.out.still o6).keep on.out (λg hg zz=>by have e:g=p:=zz;have:=(OW4.out.base_le hg).1;have:=SZ4.out;omega))
        have OF:=hid ((O4.out.idle o6).same on.out)
        clear own6 o6 on WB EB XB WC EC XC sz1 i1 i2 i3 m1 m2 m3 j2 j3 a0 a1 a2 a3 a4 a5 a6 a7 a8 AQ
        go_wp2_with fail
        go_ret
        exact⟨rfl,⟨gT,cT,_,_,RR.out,LG.out,Owns.lower11 OWF.out S3.out⟩,OF.out⟩
    · have tk:(kk==3)=false:=by simpa using hk
      clear hk
      go_upto_region 6 with fail
      go_cut [59] from 49 to 62 (λ_ wx=>∃v' w',Owns w' W4.heap.size 3 1 intC1 v' [1]∧Only n_ W4 w'∧wx=w'.setCell ⟨p,15,none⟩ v')
      case first =>
        go_region_law (first
          | (refine step_first rfl (.tmp 55) (.tmp 58) 44 rfl 3 j0 _ 1 8 underlying44 J0.out J1.out J2.out J3.out rfl (by decide) (by decide) intC1 intC1_len intC1_one WB.out (Nat.le_refl _) EB.out XB.out rfl rfl ?_
             intro v5 w5 own5 o5
             have OW:=hid own5
             have OO:=hid o5
             have r5:=o5.still RE4.out
             have f14:w5.cell? ⟨p,15,none⟩=some (.slice none 0 0):=r5.cell 15
             have z14:=r5.frozen 15
             obtain⟨g5,k5,e5,_⟩:=own5.form (by simp)
             subst e5
             clear own5 o5 r5)
          | (refine step_first rfl (.tmp 55) (.tmp 58) 44 rfl 3 j0 _ 1 8 underlying44 J0.out J1.out J2.out J3.out rfl (by decide) (by decide) intC1 intC1_len intC1_one WC.out sz1 EC.out XC.out rfl rfl ?_
             intro v5 w5 own5 o5
             have OW:=hid own5
             have OO:=hid o5
             have r5:=o5.still RE4.out
             have f14:w5.cell? ⟨p,15,none⟩=some (.slice none 0 0):=r5.cell 15
             have z14:=r5.frozen 15
             obtain⟨g5,k5,e5,_⟩:=own5.form (by simp)
             subst e5
             clear own5 o5 r5)
          | fail)
        all_goals
          go_wp2_with fail
          go_meet
          exact⟨_,_,OW.out,OO.out,rfl⟩
      case rest =>
        obtain⟨v6,w6,own6,o6,hwx⟩:=hcut
        subst hwx
        obtain⟨gA,cA,e6,lg6,lt6,_,_⟩:=own6.form (by simp)
        have e6:v6=.slice (some ⟨gA,0,none⟩) 1 cA:=e6
        subst e6
        have q14:(w6.setCell ⟨p,15,none⟩ (.slice (some ⟨gA,0,none⟩) 1 cA)).cell? ⟨p,14,none⟩=some (.slice (some ⟨gT,0,none⟩) 1 cT):=by
          rw[((o6.still RE4.out).put 15 _).cell];rfl
        have RR:=hid (show Row (w6.setCell ⟨p,15,none⟩ (.slice (some ⟨gA,0,none⟩) 1 cA)) p 110 (engC16 o (.slice (some ⟨gT,0,none⟩) 1 cT) (.slice (some ⟨gA,0,none⟩) 1 cA) (.slice none 0 0) (.slice none 0 0) 1) from (o6.still RE4.out).put 15 _)
        have on:=hid ((Only.refl (λk=>k=p) w6).into rfl 15 (.slice (some ⟨gA,0,none⟩) 1 cA))
        have OWF:=hid ((OW4.out.still o6).keep on.out (λg hg zz=>by have e:g=p:=zz;have:=(OW4.out.base_le hg).1;have:=SZ4.out;omega))
        have OF:=hid ((O4.out.idle o6).same on.out)
        clear own6 o6 on WB EB XB WC EC XC sz1 i1 i2 i3 m1 m2 m3 j2 j3 a0 a1 a2 a3 a4 a5 a6 a7 a8 AQ
        go_wp2_with fail
        go_ret
        exact⟨rfl,⟨gT,cT,_,_,RR.out,LG.out,Owns.lower11 OWF.out S3.out⟩,OF.out⟩
end Go.Proofs.YtfbpjobobdidiaaGreatDoor
