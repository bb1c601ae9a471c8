/- Texts of the layers below, one behind the other. -/
import Derived.Test.YtfbpjobobdidiaaGreatDoorRG23
set_option maxRecDepth 100000
set_option maxHeartbeats 4000000
namespace Go.Proofs.YtfbpjobobdidiaaGreatDoor
open Lib (hid)
open Go.Proofs.Tryz
open Go.RowKit
set_option linter.unusedVariables false
def seatC (q:Int × Int):List Value:=[.int .i64 1,.int .i64 q.1,.int .i64 q.2]
theorem seatC3 (q:Int × Int):(seatC q).length=3:=rfl
theorem seatC_one:∀y,∀u∈seatC y,u.oneCell'=true:=by
 intro y u hu
 simp only[seatC,List.mem_cons,List.not_mem_nil,or_false] at hu
 rcases hu with rfl | rfl | rfl<;>rfl
def wtC (q:Int × Int):List Value:=[.int .i64 q.1,.int .i64 q.2]
theorem wtC2 (q:Int × Int):(wtC q).length=2:=rfl
theorem wtC_one:∀y,∀u∈wtC y,u.oneCell'=true:=by
 intro y u hu
 simp only[wtC,List.mem_cons,List.not_mem_nil,or_false] at hu
 rcases hu with rfl | rfl<;>rfl
theorem info_wtR:(prog.info? 36).map (λi=>(i.zero,i.size,i.bytes))=some (some (.agg #[.int .i64 0,.int .i64 0]),2,16):=by kernel_rfl
theorem info_seatR:(prog.info? 158).map (λi=>(i.zero,i.size,i.bytes))=some (some (.agg #[.int .i64 0,.int .i64 0,.int .i64 0]),3,24):=by kernel_rfl
theorem seatCells {w:World} {base g cap:Nat} {q:Int × Int} (h:Owns w base 158 3 seatC (.slice (some ⟨g,0,none⟩) 1 cap) [q]) :
  w.cell? ⟨g,0,none⟩=some (.int .i64 1)∧w.cell? ⟨g,1,none⟩=some (.int .i64 q.1)∧w.cell? ⟨g,2,none⟩=some (.int .i64 q.2):=by
 have c:=λj (hj:j<3)=>(show w.cell? ⟨g,0*3+j,none⟩=(seatC q)[j]? from Owns.cell (xs:=[q]) h seatC3 rfl hj)
 simp only[Nat.zero_mul,Nat.zero_add] at c
 exact⟨c 0 (by omega),c 1 (by omega),c 2 (by omega)⟩
theorem rof1 (o:Opt) (T D A:Value) (n r q:Int) (gS cS base:Nat) (p:Nat) (w:World) (h:Row w p 110 (engC16 o T D A (.slice (some ⟨gS,0,none⟩) 1 cS) n)) (hs:Owns w base 158 3 seatC (.slice (some ⟨gS,0,none⟩) 1 cS) [(r,q)]) :
  Calls prog 126 #[.pointer (some ⟨p,0,none⟩),.int .i64 1] w λe w'=>(∃a k,e=.returned (.slice a 1 k))∧Only n_ w w':=by
 have c17:w.cell? ⟨p,17,none⟩=some (.slice (some ⟨gS,0,none⟩) 1 cS):=h.cell 17
 obtain⟨s0,s1,s2⟩:=seatCells hs
 have KC:=hid (λ(W:World) (oo:Only n_ w W)=>(show W.cell? ⟨p,17,none⟩=some (.slice (some ⟨gS,0,none⟩) 1 cS)∧W.cell? ⟨gS,0,none⟩=some (.int .i64 1)∧W.cell? ⟨gS,1,none⟩=some (.int .i64 r)∧W.cell? ⟨gS,2,none⟩=some (.int .i64 q) from ⟨oo.cell c17 (λs=>s),oo.cell s0 (λs=>s),oo.cell s1 (λs=>s),oo.cell s2 (λs=>s)⟩))
 obtain⟨i0,hi0,hz0,hz1,hz2⟩:=info_partsR info_wtR
 have I0:=hid hi0
 have I1:=hid hz0
 have I2:=hid hz1
 have I3:=hid hz2
 clear hi0 hz0 hz1 hz2 h hs c17 s0 s1 s2
 go_enter func126,ntmps126
 go_wp2_with fail
 go_loopw [5,6] (λv i wr=>Only n_ w wr∧((v=.slice none 0 0∧i=.int .i64 0)∨(∃a k,v=.slice a 1 k∧i=.int .i64 1))) (λ_ i _=>1-(intOf i).toNat)
 case atStart=>exact⟨Only.refl _ _,.inl ⟨rfl,rfl⟩⟩
 case round =>
  obtain⟨ow,hv⟩:=hrel
  have OW:=hid ow
  obtain⟨c17,s0,s1,s2⟩:=KC.out wr ow
  clear ow
  rcases hv with ⟨rfl,rfl⟩|⟨a,k,rfl,rfl⟩
  ·obtain⟨W2,hW2⟩:∃W2,W2=wr.alloc (.cells #[.int .i64 r,.int .i64 q] 36):=⟨_,rfl⟩
   have oa:Only n_ wr W2:=by rw[hW2];exact (Only.refl _ _).alloc _
   have RF:=hid (show Row W2 wr.heap.size 36 (wtC (r,q)).toArray from by rw[hW2];exact Row.fresh _ _ _)
   have O2:=hid (OW.out.same oa)
   have ST:=hid (Owns.start W2 W2.heap.size 36 2 wtC)
   go_wp2_with (at_builtin;go_loud (first | rw[←hW2] | skip);(refine wpList_append_one rfl (.tmp 26) (.tmp 35) 59 rfl i0 _ 16 underlying59 I0.out I1.out I2.out I3.out rfl (by decide) wtC2 wtC_one rfl ST.out rfl RF.out (by simp) (by simp) (Nat.le_refl _) ?_))
   intro v7 w7 own7 o7
   obtain⟨g7,k7,e7,_⟩:=own7.form (by simp)
   have e7:v7=.slice (some ⟨g7,0,none⟩) 1 k7:=e7
   subst e7
   rw[←hW2] at o7
   have O7:=hid (O2.out.trans o7 (λi hi s=>absurd s (Nat.not_le.2 (Nat.lt_of_lt_of_le hi (Nat.le_succ_of_le OW.out.size)))))
   clear own7 o7 hW2 oa c17 s0 s1 s2
   go_wp2_with fail
   go_roundw
   case rel=>exact⟨O7.out,.inr ⟨_,_,rfl,rfl⟩⟩
   case measure=>simp[intOf]
  ·go_wp2_with fail
   go_ret
   exact⟨⟨_,_,rfl⟩,OW.out⟩
theorem rtell1 (o:Opt) (D A S:Value) (n kk b l v:Int) (gT cT base:Nat) (p:Nat) (w:World) (h:Row w p 110 (engC16 o (.slice (some ⟨gT,0,none⟩) 1 cT) D A S n)) (hof:∀W,Only n_ w W→Calls prog 126 #[.pointer (some ⟨p,0,none⟩),.int .i64 1] W λe w'=>(∃a k,e=.returned (.slice a 1 k))∧Only n_ W w') (ht:Owns w base 154 10 tickC (.slice (some ⟨gT,0,none⟩) 1 cT) [(kk,b,l,v)]) :
  Calls prog 85 #[.pointer (some ⟨p,0,none⟩),.int .i64 0] w λe w'=>e=.returned (.agg #[.int .i64 1,.int .i64 kk,.int .i64 b,.int .i64 l,.int .i64 0,.int .i64 1,.bool false,.bool false,.bool false])∧Only n_ w w':=by
 obtain⟨W1,hW1⟩:∃W1,W1=w.alloc (.cells #[.int .i64 0,.int .i64 0,.int .i64 0,.int .i64 0,.int .i64 0,.int .i64 0,.bool false,.bool false,.bool false] 54):=⟨_,rfl⟩
 have o1:Only n_ w W1:=by rw[hW1];exact (Only.refl _ _).alloc _
 have h1:=o1.still h
 have ht1:=ht.still o1
 have rz:Row W1 w.heap.size 54 #[.int .i64 0,.int .i64 0,.int .i64 0,.int .i64 0,.int .i64 0,.int .i64 0,.bool false,.bool false,.bool false]:=by rw[hW1];exact Row.fresh _ _ _
 have c14:W1.cell? ⟨p,14,none⟩=some (.slice (some ⟨gT,0,none⟩) 1 cT):=h1.cell 14
 obtain⟨t0,t1,t2,t3,t4,t5,t6,t7,t8⟩:=tickCells ht1
 have OF:=hid (λ(W:World) (oo:Only n_ W1 W)=>hof W (o1.same oo))
 have O1:=hid o1
 have RZ:=hid rz
 clear h ht h1 ht1 o1 rz hof
 go_enter func85,ntmps85
 go_upto_region 1 with fail
 rw[←hW1]
 clear hW1
 go_upto_region 2 with fail
 obtain⟨W2,hW2⟩:∃W2,W2=W1.alloc (.cells #[.int .i64 1,.int .i64 kk,.int .i64 b,.int .i64 l,.int .i64 0,.int .i64 0,.bool false,.bool false,.bool false] 54):=⟨_,rfl⟩
 have o2:Only n_ W1 W2:=by rw[hW2];exact (Only.refl _ _).alloc _
 have r2:Row W2 W1.heap.size 54 #[.int .i64 1,.int .i64 kk,.int .i64 b,.int .i64 l,.int .i64 0,.int .i64 0,.bool false,.bool false,.bool false]:=by rw[hW2];exact Row.fresh _ _ _
 have OF2:=hid (OF.out W2 o2)
 have RZ2:=hid (o2.still RZ.out)
 have O2:=hid (O1.out.same o2)
 have R2:=hid r2
 have NE:=hid (show W1.heap.size≠w.heap.size from λe=>by have:=RZ.out.lt;omega)
 have LE1:=hid (show w.heap.size≤W1.heap.size from O1.out.size)
 rw[←hW2]
 clear hW2 o2 r2 OF RZ O1 c14 t0 t1 t2 t3 t4 t5 t6 t7 t8
 generalize W1.heap.size=g1 at *
 obtain⟨q0,q1,q2,q3,q4,q5,q6,q7,q8⟩:=nineR R2.out
 have z5:=R2.out.frozen 5
 go_wp2_with fail
 (with_reducible refine OF2.out.mono ?_)
 rintro e w3 ⟨⟨sa,sk,rfl⟩,o3⟩
 have R2':=hid (o3.still R2.out)
 have RZ2':=hid (o3.still RZ2.out)
 have O2':=hid (O2.out.same o3)
 clear o3 q0 q1 q2 q3 q4 q5 q6 q7 q8 z5 R2 RZ2 O2
 have q5:=R2'.out.cell 5
 have q5:w3.cell? ⟨g1,5,none⟩=some (.int .i64 0):=q5
 have z5:=R2'.out.frozen 5
 go_upto_region 3 with fail
 obtain⟨W3,hW3⟩:∃W3,W3=w3.setCell ⟨g1,5,none⟩ (.int .i64 1):=⟨_,rfl⟩
 have r3:Row W3 g1 54 #[.int .i64 1,.int .i64 kk,.int .i64 b,.int .i64 l,.int .i64 0,.int .i64 1,.bool false,.bool false,.bool false]:=by rw[hW3];exact R2'.out.put 5 (.int .i64 1)
 have rz3:Row W3 w.heap.size 54 #[.int .i64 0,.int .i64 0,.int .i64 0,.int .i64 0,.int .i64 0,.int .i64 0,.bool false,.bool false,.bool false]:=by rw[hW3];exact RZ2'.out.far (p:=⟨g1,5,none⟩) (λe=>NE.out (show g1=w.heap.size from (show w.heap.size=g1 from e).symm)) _
 have o3:Only n_ w W3:=by rw[hW3];exact O2'.out.new LE1.out 5 _
 rw[←hW3]
 clear hW3 q5 z5 OF2
 obtain⟨q0,q1,q2,q3,q4,q5,q6,q7,q8⟩:=nineR r3
 obtain⟨y0,y1,y2,y3,y4,y5,y6,y7,y8⟩:=nineR rz3
 have zf:=rz3.frozen
 have R9:=rz3.put9R (.int .i64 1) (.int .i64 kk) (.int .i64 b) (.int .i64 l) (.int .i64 0) (.int .i64 1) (.bool false) (.bool false) (.bool false)
 have O9:=hid (o3.trans ((only9R W3 w.heap.size (.int .i64 1) (.int .i64 kk) (.int .i64 b) (.int .i64 l) (.int .i64 0) (.int .i64 1) (.bool false) (.bool false) (.bool false)).more (S':=λk=>w.heap.size≤k) (λ_ _ e=>by rw[e];exact Nat.le_refl _)) (λi hi s=>absurd hi (by omega)))
 go_wp2_with fail
 generalize (((((((((W3.setCell ⟨w.heap.size,0,none⟩ (.int .i64 1)).setCell ⟨w.heap.size,1,none⟩ (.int .i64 kk)).setCell ⟨w.heap.size,2,none⟩ (.int .i64 b)).setCell ⟨w.heap.size,3,none⟩ (.int .i64 l)).setCell ⟨w.heap.size,4,none⟩ (.int .i64 0)).setCell ⟨w.heap.size,5,none⟩ (.int .i64 1)).setCell ⟨w.heap.size,6,none⟩ (.bool false)).setCell ⟨w.heap.size,7,none⟩ (.bool false)).setCell ⟨w.heap.size,8,none⟩ (.bool false))=W9 at *
 obtain⟨g0,g1',g2,g3,g4,g5,g6,g7,g8⟩:=nineR R9
 exact bodyPost_ret (v:=.agg #[.int .i64 1,.int .i64 kk,.int .i64 b,.int .i64 l,.int .i64 0,.int .i64 1,.bool false,.bool false,.bool false]) (by simp[results,Tryz.results85,go_sem,g0,g1',g2,g3,g4,g5,g6,g7,g8]) rfl ⟨rfl,O9.out⟩
end Go.Proofs.YtfbpjobobdidiaaGreatDoor
namespace Go.Proofs.YtfbpjobobdidiaaGreatDoor
open Lib (hid)
open Go.Proofs.Tryz
open Go.RowKit Go.Maps
set_option linter.unusedVariables false
section
variable {p:Nat} {c:Nat→Nat} {X:Loc} {F H:Nat} {ks:List Tk} {E:Eng}
theorem EP.rowOf {w:World} (h:EP w p c X F H ks E) {t:Tk} (ht:t∈E.ts):Row w (X.A t.id) 123 t.cells:=(h.eo.tk t (h.sub t ht)).1
theorem EP.lastRow {w:World} (h:EP w p c X F H ks E) (b:Int):∀t,E.last b=some t→Row w (X.A t.id) 123 t.cells:=λt ht=>h.rowOf (last_in ht).1
theorem EP.headRow {w:World} (h:EP w p c X F H ks E) (b:Int):∀t,E.head b=some t→Row w (X.A t.id) 123 t.cells:=λt ht=>h.rowOf (head_in ht).1
theorem eneed_any (b:Int) (w:World) (h:EP w p c X F H ks E) :
  Calls prog 64 #[pT p,.int .i64 b] w λe w'=>e=.returned (.bool (E.needs b))∧Only n_ w w':=by
 have EL:=hid (elast_any b w h)
 have EH:=hid (λw' (o:Only n_ w w')=>ehas_any b w' (h.still o))
 have RW:=hid (h.lastRow b)
 have EJ:=hid (λw' (o:Only n_ w w')=>ejoin_any X.A (E.last b) w' (λt ht=>o.still (h.lastRow b t ht)))
 unfold Eng.needs
 generalize E.last b=ol at *
 generalize E.has b=hs at *
 unfold pT at *
 clear h
 cases hs with
 | false =>
  cases hj:joins ol with
  | _ =>
   cases hq:optPtr X.A ol with
   | pointer a =>
    rw[hq] at EL
    clear hq hj
    go_enter func64,ntmps64
    go_wp2_with fail
    (with_reducible refine (EL.out).mono ?_)
    rintro e w1 ⟨rfl,o1⟩
    have O1:=hid o1
    clear o1
    go_wp2_with fail
    (with_reducible refine (EH.out w1 O1.out).mono ?_)
    rintro e w2 ⟨rfl,o2⟩
    have O2:=hid (O1.out.same o2)
    clear o2
    go_wp2_with fail
    go_ret
    exact⟨rfl,O2.out⟩
   | _=>unfold optPtr pT at hq;split at hq<;>cases hq
 | true =>
  cases ol with
  | none =>
   unfold optPtr joins isRead at *
   go_enter func64,ntmps64
   go_wp2_with fail
   (with_reducible refine (EL.out).mono ?_)
   rintro e w1 ⟨rfl,o1⟩
   have O1:=hid o1
   clear o1
   go_wp2_with fail
   (with_reducible refine (EH.out w1 O1.out).mono ?_)
   rintro e w2 ⟨rfl,o2⟩
   have O2:=hid (O1.out.same o2)
   clear o2
   go_wp2_with fail
   (with_reducible refine (EJ.out w2 O2.out).mono ?_)
   rintro e w3 ⟨rfl,o3⟩
   have O3:=hid (O2.out.same o3)
   clear o3
   go_wp2_with fail
   go_ret
   exact⟨rfl,O3.out⟩
  | some t =>
   have r:=RW.out t rfl
   obtain⟨g,hg⟩:∃g,X.A t.id=g:=⟨_,rfl⟩
   unfold optPtr at *
   simp only[hg] at EL EJ r
   unfold pT at *
   have ISR:isRead (some t)=(t.kind==1):=rfl
   rw[ISR]
   generalize joins (some t)=j at *
   clear hg
   cases j with
   | false =>
    go_enter func64,ntmps64
    go_wp2_with fail
    (with_reducible refine (EL.out).mono ?_)
    rintro e w1 ⟨rfl,o1⟩
    have O1:=hid o1
    clear o1
    go_wp2_with fail
    (with_reducible refine (EH.out w1 O1.out).mono ?_)
    rintro e w2 ⟨rfl,o2⟩
    have O2:=hid (O1.out.same o2)
    clear o2
    go_wp2_with fail
    (with_reducible refine (EJ.out w2 O2.out).mono ?_)
    rintro e w3 ⟨rfl,o3⟩
    have O3:=hid (O2.out.same o3)
    clear o3
    go_wp2_with fail
    go_ret
    exact⟨rfl,O3.out⟩
   | true =>
    have R:=hid r
    clear r
    go_enter func64,ntmps64
    go_wp2_with fail
    (with_reducible refine (EL.out).mono ?_)
    rintro e w1 ⟨rfl,o1⟩
    have O1:=hid o1
    clear o1
    go_wp2_with fail
    (with_reducible refine (EH.out w1 O1.out).mono ?_)
    rintro e w2 ⟨rfl,o2⟩
    have O2:=hid (O1.out.same o2)
    clear o2
    go_wp2_with fail
    (with_reducible refine (EJ.out w2 O2.out).mono ?_)
    rintro e w3 ⟨rfl,o3⟩
    have O3:=hid (O2.out.same o3)
    clear o3
    have c1:w3.cell? ⟨g,1,none⟩=some (.int .i64 t.kind):=(O3.out.still R.out).cell 1
    go_wp2_with fail
    go_ret
    exact⟨rfl,O3.out⟩
theorem eidle_any (b:Int) (w:World) (h:EP w p c X F H ks E) :
  Calls prog 30 #[pT p,.int .i64 b] w λe w'=>e=.returned (.bool (E.idle b))∧Only n_ w w':=by
 have EH:=hid (ehas_any b w h)
 have HD:=hid (λw' (o:Only n_ w w')=>ehead_any b w' (h.still o))
 unfold Eng.idle
 generalize E.head b=ol at *
 generalize E.has b=hs at *
 unfold pT at *
 clear h
 cases hs with
 | false =>
  go_enter func30,ntmps30
  go_wp2_with fail
  (with_reducible refine (EH.out).mono ?_)
  rintro e w1 ⟨rfl,o1⟩
  have O1:=hid o1
  clear o1
  go_wp2_with fail
  go_ret
  exact⟨rfl,O1.out⟩
 | true =>
  cases ol with
  | none =>
   unfold optPtr at *
   go_enter func30,ntmps30
   go_wp2_with fail
   (with_reducible refine (EH.out).mono ?_)
   rintro e w1 ⟨rfl,o1⟩
   have O1:=hid o1
   clear o1
   go_wp2_with fail
   (with_reducible refine (HD.out w1 O1.out).mono ?_)
   rintro e w2 ⟨rfl,o2⟩
   have O2:=hid (O1.out.same o2)
   clear o2
   go_wp2_with fail
   go_ret
   exact⟨rfl,O2.out⟩
  | some t =>
   unfold optPtr pT at *
   go_enter func30,ntmps30
   go_wp2_with fail
   (with_reducible refine (EH.out).mono ?_)
   rintro e w1 ⟨rfl,o1⟩
   have O1:=hid o1
   clear o1
   go_wp2_with fail
   (with_reducible refine (HD.out w1 O1.out).mono ?_)
   rintro e w2 ⟨rfl,o2⟩
   have O2:=hid (O1.out.same o2)
   clear o2
   go_wp2_with fail
   go_ret
   exact⟨rfl,O2.out⟩
end
end Go.Proofs.YtfbpjobobdidiaaGreatDoor
