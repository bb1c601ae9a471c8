/- Texts of the layers below, one behind the other. -/
import Derived.Test.YtfbpjobobdidiaaGreatDoorRG08
import Derived.WalkMore
import Derived.LoopN
import Derived.StillTailTactics
set_option maxRecDepth 100000
set_option maxHeartbeats 4000000
namespace Go.Proofs.YtfbpjobobdidiaaGreatDoor
open Lib (hid)
open Go.Proofs.Tryz
open Go.RowKit Go.Maps
set_option linter.unusedVariables false
theorem good_push {came:Nat} {es:List En} (h:FineE came es) (s:Sx):seats (es++[⟨s,came+1⟩])=seats es++[s]:=by unfold seats;rw[List.map_append];rfl
theorem may_of (t:Int) (x:Wt):mayW t x↔¬ t<1∧(1≤x.r∧0≤x.p∧x.p<8):=by unfold mayW;omega
theorem add11 {p b room came:Nat} {es:List En} (t:Int) (x:Wt) (wx:wfW x) (w:World) (h:WAt w p b room came es) (hc:came<1000000) :
  Calls prog 69 #[.pointer (some ⟨p,0,none⟩),.int .i64 t,.agg #[.int .i64 x.r,.int .i64 x.p]] w λe w'=>e=.returned (.int .i64 (addI room (seats es) t x))∧∃came' es',WAt w' p b room came' es'∧seats es'=addS room (seats es) t x∧came'≤came+1∧Only (two14 p b) w w':=by
 have H:=hid h
 have C25:=hid (λW=>may25_any x W)
 have C19:=hid (λW (o:Only n_ w W)=>waits19 x wx W (h.still o))
 have C23:=hid (λW (o:Only n_ w W)=>free23 W (h.still o))
 have RO:=hid (Only.refl n_ w)
 obtain⟨c,hcc⟩:∃c,addI room (seats es) t x=c:=⟨_,rfl⟩
 have HC:=hid hcc
 have HN:=hid hc
 clear h hc hcc
 rw[HC.out]
 by_cases h1:t<1
 ·have t1:decide (t<1)=true:=decide_eq_true h1
  have C1:=hid (show c=1 from by rw[←HC.out];exact if_neg (λk=>((may_of t x).1 k).1 h1))
  clear h1
  go_enter func69,ntmps69
  go_wp2_with fail
  go_ret
  refine⟨?_,came,es,H.out.still ((Only.refl _ _).alloc _),?_,Nat.le_succ _,((Only.refl _ _).alloc _)⟩
  ·rw[C1.out];rfl
  ·unfold addS;rw[HC.out,C1.out];rfl
 ·have t1:decide (t<1)=false:=decide_eq_false h1
  have H1:=hid h1
  clear h1
  by_cases h2:1≤x.r∧0≤x.p∧x.p<8
  ·have t2:decide (1≤x.r∧0≤x.p∧x.p<8)=true:=decide_eq_true h2
   have MY:=hid ((may_of t x).2 ⟨H1.out,h2⟩)
   rw[t2] at C25
   have CC:=hid (show c=if waitsB (seats es) x then 4 else if room≤(seats es).length then 2 else 0 from by rw[←HC.out];exact if_pos MY.out)
   clear h2 t2
   obtain⟨hs,hhs⟩:∃hs,hasE es x=hs:=⟨_,rfl⟩
   have HS:=hid hhs
   rw[hhs] at C19
   clear hhs
   go_enter func69,ntmps69
   go_wp2_with fail
   (with_reducible refine (C25.out _).mono ?_)
   rintro e w1 ⟨rfl,o⟩
   have O1:=hid (((Only.refl n_ w).alloc (.cells #[.int .i64 x.r,.int .i64 x.p] 36)).idle o)
   have XR:=hid (o.row (Row.fresh w 36 #[.int .i64 x.r,.int .i64 x.p]) (λs=>s))
   clear o
   have x0:w1.cell? ⟨w.heap.size,0,none⟩=some (.int .i64 x.r):=by rw[XR.out.cell];rfl
   have x1:w1.cell? ⟨w.heap.size,1,none⟩=some (.int .i64 x.p):=by rw[XR.out.cell];rfl
   go_wp2_with fail
   (with_reducible refine (C19.out w1 O1.out).mono ?_)
   rintro e w2 ⟨rfl,o⟩
   have O2:=hid (O1.out.idle o)
   have XR2:=hid (o.row XR.out (λs=>s))
   clear o x0 x1
   cases hs with
   | true =>
    have C4:=hid (show c=4 from by rw[CC.out,←has_seats,HS.out];rfl)
    go_wp2_with fail
    go_ret
    refine⟨?_,came,es,H.out.still O2.out,?_,Nat.le_succ _,O2.out.more (λi hi k=>absurd k (λs=>s))⟩
    ·rw[C4.out];rfl
    ·unfold addS;rw[HC.out,C4.out];rfl
   | false =>
    go_wp2_with fail
    (with_reducible refine (C23.out w2 O2.out).mono ?_)
    rintro e w3 ⟨rfl,o⟩
    have O3:=hid (O2.out.idle o)
    have XR3:=hid (o.row XR2.out (λs=>s))
    clear o
    obtain⟨ln,hln⟩:∃n,es.length=n:=⟨_,rfl⟩
    have LN:=hid hln
    rw[hln]
    clear hln
    have RL:=hid (show ln≤room∧room≤64 from by rw[←LN.out];exact⟨by have:=H.out.good.len;rw[seats_len] at this;exact this,H.out.good.high⟩)
    by_cases h3:ln=room
    ·have t3:((room:Int)-(ln:Int)==0)=true:=by rw[beq_iff_eq];omega
     have C2:=hid (show c=2 from by rw[CC.out,←has_seats,HS.out,seats_len,LN.out,if_neg (by simp),if_pos (by omega)])
     clear h3
     go_wp2_with fail
     go_ret
     refine⟨?_,came,es,H.out.still O3.out,?_,Nat.le_succ _,O3.out.more (λi hi k=>absurd k (λs=>s))⟩
     ·rw[C2.out];rfl
     ·unfold addS;rw[HC.out,C2.out];rfl
    ·have t3:((room:Int)-(ln:Int)==0)=false:=by rw[beq_eq_false_iff_ne];intro k;exact h3 (by omega)
     have C0:=hid (show c=0 from by rw[CC.out,←has_seats,HS.out,seats_len,LN.out,if_neg (by simp),if_neg (by have:=RL.out;omega)])
     clear h3
     have H3:=hid (H.out.still O3.out)
     have c2:w3.cell? ⟨p,2,none⟩=some (.int .i64 came):=by rw[H3.out.row.cell];rfl
     have f2:w3.frozen? ⟨p,2,none⟩=false:=H3.out.row.frozen 2
     have v2:IntKind.i64.wrap ((came:Int)+1)=((came+1:Nat):Int):=by have:=HN.out;rw[IntKind.wrap_i64];omega
     obtain⟨w4,hw4⟩:∃w4,w4=w3.setCell ⟨p,2,none⟩ (.int .i64 ((came:Int)+1)):=⟨_,rfl⟩
     have o4:Only (λk=>k=p) w3 w4:=by rw[hw4];exact (Only.refl (λk=>k=p) w3).into rfl _ _
     have NE:=hid (show p≠b from H.out.ne)
     have R4:Row w4 p 150 #[.int .i64 room,.map (some b),.int .i64 ((came:Int)+1)]:=by rw[hw4];exact H3.out.row.put 2 _
     have o4d:=o4.idle ((Only.refl n_ w4).drew)
     have R4d:=((Only.refl n_ w4).drew).still R4
     have M4d:=H3.out.md.keep o4d (λk=>NE.out k.symm)
     have XR4:=o4d.row XR3.out (λk=>by have:=H.out.row.lt;omega)
     have d1:w4.drew.cell? ⟨p,1,none⟩=some (.map (some b)):=by rw[R4d.cell];rfl
     have d2:w4.drew.cell? ⟨p,2,none⟩=some (.int .i64 ((came:Int)+1)):=by rw[R4d.cell];rfl
     obtain⟨x0,x1⟩:=XR4.two
     obtain⟨w5,run5,m5,o5⟩:=M4d.store H.out.once (by have:=H.out.len;omega) ⟨⟨t,x⟩,came+1⟩ wx HS.out
     dsimp only at run5
     rw[show ((came+1:Nat):Int)=(came:Int)+1 from rfl] at run5
     have GD:=good_add H.out.good t x
     have SE:seats (es++[⟨⟨t,x⟩,came+1⟩])=addS room (seats es) t x:=by rw[good_push H.out.fine];unfold addS;rw[HC.out,C0.out,if_pos rfl]
     rw[←SE] at GD
     have R5:=o5.row R4d (λk=>NE.out k)
     have FIN:=hid (show WAt w5 p b room (came+1) (es++[⟨⟨t,x⟩,came+1⟩]) from ⟨R5,m5,H.out.fine.add _,GD⟩)
     have FO:=hid (show Only (two14 p b) w w5 from ((O3.out.up (S:=two14 p b)).same (o4d.more (λi hi e=>.inl e))).same (o5.more (λi hi e=>.inr e)))
     have SO:=hid SE
     clear o4 R4 o4d R4d M4d XR4 m5 o5 GD SE R5
     go_upto_region 8 with fail
     rw[←hw4]
     clear hw4
     go_region
     all_goals
      go_wp2_with fail
      go_ret
      exact⟨by rw[C0.out];rfl,_,_,FIN.out,SO.out,Nat.le_refl _,FO.out⟩
  ·have t2:decide (1≤x.r∧0≤x.p∧x.p<8)=false:=decide_eq_false h2
   have C1:=hid (show c=1 from by rw[←HC.out];exact if_neg (λk=>h2 ((may_of t x).1 k).2))
   rw[t2] at C25
   clear h2 t2
   go_enter func69,ntmps69
   go_wp2_with fail
   (with_reducible refine (C25.out _).mono ?_)
   rintro e w1 ⟨rfl,o⟩
   have O1:=hid (((Only.refl n_ w).alloc (.cells #[.int .i64 x.r,.int .i64 x.p] 36)).idle o)
   clear o
   go_wp2_with fail
   go_ret
   refine⟨?_,came,es,H.out.still O1.out,?_,Nat.le_succ _,O1.out.more (λi hi k=>absurd k (λs=>s))⟩
   ·rw[C1.out];rfl
   ·unfold addS;rw[HC.out,C1.out];rfl
def waitP1 (ps:List Pl) (x:Int) (v:Bool):List Pl:=ps.map (λp=>if p.k=x then { p with s:=v } else p)
theorem wait1_sl (ps:List Pl) (x:Int) (v:Bool):(waitP1 ps x v).map Pl.sl=waitS (ps.map Pl.sl) x v:=by
 unfold waitP1 waitS
 rw[List.map_map,List.map_map]
 apply List.map_congr_left
 intro p _
 show Pl.sl (if p.k=x then _ else _)=if p.sl.k=x then _ else _
 show Pl.sl (if p.k=x then _ else _)=if p.k=x then _ else _
 split<;>rfl
theorem wait1_k (x:Int) (v:Bool) (p:Pl):(if p.k=x then { p with s:=v } else p).k=p.k∧(if p.k=x then { p with s:=v } else p).a=p.a∧(if p.k=x then { p with s:=v } else p).n=p.n:=by
 split<;>exact⟨rfl,rfl,rfl⟩
theorem wait1_same {ps:List Pl} (o:Once12 ps) {x:Int} {v:Bool} (h:(atP ps x).s=v∨hasP ps x=false):waitP1 ps x v=ps:=by
 unfold waitP1
 rw[List.map_congr_left (g:=id)]
 ·simp
 ·intro p hp
  show (if p.k=x then _ else _)=p
  by_cases e:p.k=x
  ·rw[if_pos e]
   rcases h with h | h
   ·subst e
    rw[atP_of o hp] at h
    cases p
    simp at h ⊢
    exact h.symm
   ·have:=hasP_iff.2 ⟨p,hp,e⟩
    rw[h] at this;cases this
  ·rw[if_neg e]
theorem wait1_at {w w':World} {p b nd na L:Nat} {ps:List Pl} {x:Int} {v:Bool} (h:TnAt w p b nd na L ps) (r:Row w' p 147 #[.int .i64 nd,.int .i64 na,.map (some b),.int .i64 L]) (m:Md12 w' b (waitP1 ps x v)):TnAt w' p b nd na L (waitP1 ps x v):=by
 refine⟨r,m,?_,?_,?_,?_,h.nd64,h.na64⟩
 ·unfold Once12 waitP1
  rw[List.pairwise_map]
  exact h.once.imp (λ{a c} k=>by rw[(wait1_k x v a).1,(wait1_k x v c).1];exact k)
 ·unfold Rise waitP1
  rw[List.pairwise_map]
  exact h.rise.imp (λ{a c} k=>by rw[(wait1_k x v a).2.2,(wait1_k x v c).2.2];exact k)
 ·intro q hq
  obtain⟨a,ha,rfl⟩:=List.mem_map.1 hq
  rw[(wait1_k x v a).2.2]
  exact h.top a ha
 ·intro a
  unfold waitP1
  rw[List.filter_map,List.length_map]
  have:((λq:Pl=>q.a==a)∘λp:Pl=>if p.k=x then { p with s:=v } else p)=λq=>q.a==a:=by
   funext q
   show ((if q.k=x then { q with s:=v } else q).a==a)=_
   rw[(wait1_k x v q).2.1]
  rw[this]
  exact h.few a
theorem wait1_once {ps:List Pl} (h:Once12 ps) (x:Int) (v:Bool):Once12 (waitP1 ps x v):=by
 unfold Once12 waitP1
 rw[List.pairwise_map]
 exact h.imp (λ{a c} k=>by rw[(wait1_k x v a).1,(wait1_k x v c).1];exact k)
theorem wait1_mem {ps:List Pl} (o:Once12 ps) {q:Pl} (hq:q∈ps) (v:Bool) :
  (∀p∈waitP1 ps q.k v,p={ q with s:=v }∨(p∈ps∧p.k≠q.k))∧{ q with s:=v }∈waitP1 ps q.k v∧∀p∈ps,p.k≠q.k→p∈waitP1 ps q.k v:=by
 refine⟨λp hp=>?_,List.mem_map.2 ⟨q,hq,if_pos rfl⟩,λp hp hk=>List.mem_map.2 ⟨p,hp,if_neg hk⟩⟩
 obtain⟨a,ha,rfl⟩:=List.mem_map.1 hp
 by_cases e:a.k=q.k
 ·rw[if_pos e]
  have:=o.inj ha hq e
  subst this
  exact .inl rfl
 ·rw[if_neg e]
  exact .inr ⟨ha,e⟩
theorem change1_any {p b nd na L qk qt qa:Nat} {ps:List Pl} (x:Int) (v:Bool) (w:World) (h:TnAt w p b nd na L ps) (ht:Var w qt (.pointer (some ⟨p,0,none⟩))) (hk:Var w qk (.int .i64 x)) (ha:Var w qa (.bool v)) (wx:(Lit.int .i64 x).wf=true) :
  Calls prog 172 #[.pointer (some ⟨qt,0,none⟩),.pointer (some ⟨qk,0,none⟩),.pointer (some ⟨qa,0,none⟩)] w (Does w p b nd na L (waitC (ps.map Pl.sl) x v) (waitS (ps.map Pl.sl) x v)):=by
 have H:=hid h
 have lk:=hk.lt
 have lt':=ht.lt
 have la:=ha.lt
 have e0:=has_sl ps x
 rw[←wait1_sl]
 cases hh:hasP ps x with
 | false =>
  have PC:=hid (show waitC (ps.map Pl.sl) x v=3 from by unfold waitC;rw[e0,hh];rfl)
  have PS:=hid (wait1_same (v:=v) h.once (.inr hh))
  have AT:=hid (tat_no x w h wx hh)
  clear h e0 hh
  go_enter func172,ntmps172
  go_wp2_with fail
  (with_reducible refine (AT.out).mono ?_)
  rintro e w1 ⟨rfl,o1⟩
  go_wp2_with fail
  refine⟨rfl,?_⟩
  rw[PC.out,PS.out]
  exact⟨rfl,H.out.to o1,o1.up⟩
 | true =>
  have AT:=hid (tat_yes x w h wx hh)
  have hx0:hasL (ps.map Pl.sl) x=true:=e0.trans hh
  have HK:=hid (atP_has hh)
  have ea:=at_sl ps x
  by_cases hs:(atP ps x).s=v
  ·have PC:=hid (show waitC (ps.map Pl.sl) x v=5 from by unfold waitC;rw[hx0,ea];simp[Pl.sl,hs])
   have PS:=hid (wait1_same (v:=v) h.once (.inl hs))
   rw[hs] at AT
   generalize atP ps x=q at *
   clear h e0 hh hx0 ea
   go_enter func172,ntmps172
   go_wp2_with fail
   (with_reducible refine (AT.out).mono ?_)
   rintro e w1 ⟨rfl,o1⟩
   have O1:=hid o1
   have ha1:w1.cell? ⟨qa,0,none⟩=some (.bool v):=o1.cell ha (λs=>s)
   have la1:qa<w1.heap.size:=Nat.lt_of_lt_of_le la o1.size
   clear o1
   go_wp2_with fail
   (with_reducible refine (unless_no _ _).mono ?_)
   rintro e w' ⟨rfl,rfl⟩
   go_wp2_with fail
   refine⟨rfl,?_⟩
   rw[PC.out,PS.out]
   exact⟨rfl,H.out.to (O1.out.alloc _),(O1.out.alloc _).up⟩
  ·have PC:=hid (show waitC (ps.map Pl.sl) x v=0 from by unfold waitC;rw[hx0,ea];simp[Pl.sl,hs])
   have W1:=hid (wait1_mem h.once HK.out.1 v)
   have WO:=hid (wait1_once h.once x v)
   have lp:=h.row.lt
   have ne:=h.ne
   have WX:=hid wx
   have hne:((atP ps x).s==v)=false:=by simp[hs]
   generalize atP ps x=q at *
   clear h e0 hh hx0 ea hs wx
   go_enter func172,ntmps172
   go_wp2_with fail
   (with_reducible refine (AT.out).mono ?_)
   rintro e w1 ⟨rfl,o1⟩
   have O1:=hid o1
   have ha1:w1.cell? ⟨qa,0,none⟩=some (.bool v):=o1.cell ha (λs=>s)
   have ht1:w1.cell? ⟨qt,0,none⟩=some (.pointer (some ⟨p,0,none⟩)):=o1.cell ht (λs=>s)
   have hk1:w1.cell? ⟨qk,0,none⟩=some (.int .i64 x):=o1.cell hk (λs=>s)
   have zz:=o1.size
   have la1:qa<w1.heap.size:=Nat.lt_of_lt_of_le la zz
   have lt1:qt<w1.heap.size:=Nat.lt_of_lt_of_le lt' zz
   have lk1:qk<w1.heap.size:=Nat.lt_of_lt_of_le lk zz
   have lp1:p<w1.heap.size:=Nat.lt_of_lt_of_le lp zz
   clear o1 AT
   go_wp2_with fail
   (with_reducible refine (unless_yes _ _).mono ?_)
   rintro e w' ⟨rfl,rfl⟩
   go_wp2_with fail
   have OD:=hid ((O1.out.alloc (.cells #[.int .i64 q.k,.bool q.a,.int .i64 q.n,.bool v] 169)).drew)
   have o9:=hid ((((Only.refl n_ w1).alloc (.cells #[.int .i64 q.k,.bool q.a,.int .i64 q.n,.bool v] 169)).drew))
   have ht2:((w1.alloc (.cells #[.int .i64 q.k,.bool q.a,.int .i64 q.n,.bool v] 169)).drew).cell? ⟨qt,0,none⟩=some (.pointer (some ⟨p,0,none⟩)):=o9.out.cell ht1 (λs=>s)
   have hk2:((w1.alloc (.cells #[.int .i64 q.k,.bool q.a,.int .i64 q.n,.bool v] 169)).drew).cell? ⟨qk,0,none⟩=some (.int .i64 x):=o9.out.cell hk1 (λs=>s)
   have R2:=hid (OD.out.still H.out.row)
   have c2:((w1.alloc (.cells #[.int .i64 q.k,.bool q.a,.int .i64 q.n,.bool v] 169)).drew).cell? ⟨p,2,none⟩=some (.map (some b)):=by rw[R2.out.cell];rfl
   have RX:=hid (show Row ((w1.alloc (.cells #[.int .i64 q.k,.bool q.a,.int .i64 q.n,.bool v] 169)).drew) w1.heap.size 169 #[.int .i64 q.k,.bool q.a,.int .i64 q.n,.bool v] from Row.fresh w1 _ _)
   obtain⟨e0,e1,e2,e3⟩:=RX.out.four
   have xk:=HK.out.2
   obtain⟨w5,run5,m5,o5⟩:=(H.out.md.still OD.out).store (qs:=waitP1 ps x v) WO.out (by have:=H.out.len;omega) ⟨q.k,q.a,q.n,v⟩ (by rw[show (⟨q.k,q.a,q.n,v⟩:Pl).k=x from xk];exact WX.out) (by rw[←xk];exact W1.out.1) (by rw[←xk];exact W1.out.2.1) (by rw[←xk];exact W1.out.2.2)
   have M5:=hid m5
   have O5:=hid ((OD.out.up (S:=two12 p b)).same (o5.more (λi hi e=>.inr e)))
   have R5:=hid (o5.row R2.out (λe=>ne e))
   unfold plVal at run5
   rw[xk] at run5 e0
   rw[xk]
   rw[xk] at ht2 hk2 c2 e1 e2 e3
   clear m5 o5 hne la1 lt1 lk1 lp1 ha1 ht1 hk1
   go_region
   all_goals
    go_wp2_with fail
    go_end0
    unfold Does
    rw[PC.out]
    exact⟨rfl,⟨L,_,wait1_at H.out R5.out M5.out,rfl,by omega⟩,O5.out⟩
theorem end_at {w w':World} {p b nd na L:Nat} {ps:List Pl} {x:Int} (h:TnAt w p b nd na L ps) (r:Row w' p 147 #[.int .i64 nd,.int .i64 na,.map (some b),.int .i64 L]) (m:Md12 w' b (ps.filter (λq=>!(q.k==x)))):TnAt w' p b nd na L (ps.filter (λq=>!(q.k==x))):=by
 refine⟨r,m,h.once.filter _,h.rise.filter _,λq hq=>h.top q (List.mem_filter.1 hq).1,λa=>?_,h.nd64,h.na64⟩
 rw[List.filter_filter]
 have:(λq:Pl=>(q.a==a)&&!(q.k==x))=λq=>(!(q.k==x))&&(q.a==a):=by funext q;rw[Bool.and_comm]
 rw[this,←List.filter_filter]
 exact Nat.le_trans (List.length_filter_le _ _) (h.few a)
theorem cut_none {ps:List Pl} {x:Int} (h:hasP ps x=false):ps.filter (λq=>!(q.k==x))=ps:=by
 rw[List.filter_eq_self]
 intro s hs
 have:s.k≠x:=λe=>by
  have:=hasP_iff.2 ⟨s,hs,e⟩
  rw[h] at this;cases this
 simpa using this
theorem end1_any {p b nd na L qk qt:Nat} {ps:List Pl} (x:Int) (w:World) (h:TnAt w p b nd na L ps) (ht:Var w qt (.pointer (some ⟨p,0,none⟩))) (hk:Var w qk (.int .i64 x)) (wx:(Lit.int .i64 x).wf=true) :
  Calls prog 144 #[.pointer (some ⟨qt,0,none⟩),.pointer (some ⟨qk,0,none⟩)] w (Does w p b nd na L (endC (ps.map Pl.sl) x) (cutL (ps.map Pl.sl) x)):=by
 have H:=hid h
 have lk:=hk.lt
 have lt':=ht.lt
 have e0:=has_sl ps x
 rw[cut_sl]
 cases hh:hasP ps x with
 | false =>
  have PC:=hid (show endC (ps.map Pl.sl) x=3 from by unfold endC;rw[e0,hh];rfl)
  have PS:=hid (cut_none hh)
  have AT:=hid (tat_no x w h wx hh)
  clear h e0 hh
  go_enter func144,ntmps144
  go_wp2_with fail
  (with_reducible refine (AT.out).mono ?_)
  rintro e w1 ⟨rfl,o1⟩
  go_wp2_with fail
  refine⟨rfl,?_⟩
  rw[PC.out,PS.out]
  exact⟨rfl,H.out.to o1,o1.up⟩
 | true =>
  have PC:=hid (show endC (ps.map Pl.sl) x=0 from by unfold endC;rw[e0,hh];rfl)
  have AT:=tat_yes x w h wx hh
  have xk:=(atP_has hh).2
  have lp:=h.row.lt
  have ne:=h.ne
  have WX:=hid wx
  generalize atP ps x=q at *
  rw[xk] at AT
  have AT:=hid AT
  clear h e0 hh wx
  go_enter func144,ntmps144
  go_wp2_with fail
  (with_reducible refine (AT.out).mono ?_)
  rintro e w1 ⟨rfl,o1⟩
  have O1:=hid o1
  have o9:=hid ((((Only.refl n_ w1).alloc (.cells #[.int .i64 x,.bool q.a,.int .i64 q.n,.bool q.s] 169)).drew))
  have OD:=hid (O1.out.same o9.out)
  have ht2:((w1.alloc (.cells #[.int .i64 x,.bool q.a,.int .i64 q.n,.bool q.s] 169)).drew).cell? ⟨qt,0,none⟩=some (.pointer (some ⟨p,0,none⟩)):=OD.out.cell ht (λs=>s)
  have R2:=hid (OD.out.still H.out.row)
  have c2:((w1.alloc (.cells #[.int .i64 x,.bool q.a,.int .i64 q.n,.bool q.s] 169)).drew).cell? ⟨p,2,none⟩=some (.map (some b)):=by rw[R2.out.cell];rfl
  have RX:=hid (show Row ((w1.alloc (.cells #[.int .i64 x,.bool q.a,.int .i64 q.n,.bool q.s] 169)).drew) w1.heap.size 169 #[.int .i64 x,.bool q.a,.int .i64 q.n,.bool q.s] from Row.fresh w1 _ _)
  obtain⟨e0,e1,e2,e3⟩:=RX.out.four
  obtain⟨w5,run5,m5,o5⟩:=(H.out.md.still OD.out).drop (qs:=ps.filter (λq=>!(q.k==x))) (H.out.once.filter _) x WX.out (λr=>by rw[List.mem_filter];simp) 0
  have M5:=hid m5
  have O5:=hid ((OD.out.up (S:=two12 p b)).same (o5.more (λi hi e=>.inr e)))
  have R5:=hid (o5.row R2.out (λe=>ne e))
  clear m5 o5 o1 AT
  go_wp2_with fail
  go_region
  all_goals
   go_wp2_with fail
   go_end0
   unfold Does
   rw[PC.out]
   exact⟨rfl,⟨L,_,end_at H.out R5.out M5.out,rfl,by omega⟩,O5.out⟩
end Go.Proofs.YtfbpjobobdidiaaGreatDoor
namespace Go.Proofs.YtfbpjobobdidiaaGreatDoor
open Lib (hid)
open Go.Proofs.Tryz
open Go.RowKit
set_option linter.unusedVariables false
structure GrAt (w0 w:World) (g:Nat) (xs ys:List Int) (lo c:Int):Prop where
 sx:SetAt w g (hasB xs)
 sy:SetAt w (g+1) (hasB ys)
 rc:Row w (g+1+1) 43 #[.int .i64 0,.int .i64 0]
 rr:Row w (g+1+1+1) 43 #[.int .i64 lo,.int .i64 c]
 only:Only n_ w0 w
 at_:w0.heap.size=g
theorem GrAt.still {w0 w w':World} {g:Nat} {xs ys:List Int} {lo c:Int} (h:GrAt w0 w g xs ys lo c) (o:Only n_ w w'):GrAt w0 w' g xs ys lo c:=
 ⟨h.sx.still o,h.sy.still o,o.still h.rc,o.still h.rr,h.only.same o,h.at_⟩
theorem GrAt.put {w0 w:World} {g:Nat} {xs ys:List Int} {lo c:Int} (h:GrAt w0 w g xs ys lo c) (lo' c':Int) :
  GrAt w0 ((w.setCell ⟨g+1+1+1,0,none⟩ (.int .i64 lo')).setCell ⟨g+1+1+1,1,none⟩ (.int .i64 c')) g xs ys lo' c':=by
 have e:=h.at_
 exact⟨(Row.far h.sx (by show g≠_;simp only;omega) _).far (by show g≠_;simp only;omega) _,(Row.far h.sy (by show g+1≠_;simp only;omega) _).far (by show g+1≠_;simp only;omega) _,
  (h.rc.far (by show g+1+1≠_;simp only;omega) _).far (by show g+1+1≠_;simp only;omega) _,(h.rr.put 0 _).put 1 _,(h.only.new (by omega) _ _).new (by omega) _ _,e⟩
theorem index0 (x y:Value) (w:World):(Instr.index 231 (.agg #[x,y]) (.int .i64 0)).run prog w=.ok x w:=by kernel_rfl
theorem index1 (x y:Value) (w:World):(Instr.index 231 (.agg #[x,y]) (.int .i64 1)).run prog w=.ok y w:=by kernel_rfl
theorem grown_any (xs ys:List Int) (b most room:Int) (w:World) (hb:hasB xs b=true) (hm:1≤most∧most≤8) (hr:0≤room∧room≤9223372036854775807) :
  Calls prog 140 #[.agg (bits13 (hasB xs)),.agg (bits13 (hasB ys)),.int .i64 b,.int .i64 most,.int .i64 room] w λe w' =>
   e=.returned (Rn.mk (grow13 (hasB xs) (hasB ys) (most-1).toNat b b room).1 ((grow13 (hasB xs) (hasB ys) (most-1).toNat b b room).2-(grow13 (hasB xs) (hasB ys) (most-1).toNat b b room).1+1)).val∧Only n_ w w':=by
 have v1:IntKind.i64.wrap (most-1)=most-1:=by rw[IntKind.wrap_i64];omega
 unfold Rn.val
 generalize hG:grow13 (hasB xs) (hasB ys) (most-1).toNat b b room=G
 obtain⟨n,hn⟩:=Int.eq_ofNat_of_zero_le (show 0≤most-1 by omega)
 rw[hn] at v1 hG
 rw[Int.toNat_natCast] at hG
 have HB:=hid (hasB_yes hb)
 have HR:=hid hr
 have HG:=hid hG
 have HN:=hid (show n≤7 from by omega)
 clear hb hm hr hG
 have I0:=index0
 have I1:=index1
 go_enter func140,ntmps140
 go_wp2_with fail
 go_step3
 go_wp2_with fail
 go_step3
 go_wp2_with fail
 obtain⟨q0,q1,q2,q3,q4⟩:=four_new w 212 212 43 43 (bits13 (hasB xs)) (bits13 (hasB ys)) #[.int .i64 0,.int .i64 0] #[.int .i64 b,.int .i64 1]
 have A0:=hid (show GrAt w ((((w.alloc (.cells (bits13 (hasB xs)) 212)).alloc (.cells (bits13 (hasB ys)) 212)).alloc (.cells #[.int .i64 0,.int .i64 0] 43)).alloc (.cells #[.int .i64 b,.int .i64 1] 43)) w.heap.size xs ys b 1 from ⟨q0,q1,q2,q3,q4,rfl⟩)
 clear q0 q1 q2 q3 q4 v1
 revert A0
 generalize (((w.alloc (.cells (bits13 (hasB xs)) 212)).alloc (.cells (bits13 (hasB ys)) 212)).alloc (.cells #[.int .i64 0,.int .i64 0] 43)).alloc (.cells #[.int .i64 b,.int .i64 1] 43)=W1
 generalize w.heap.size=g
 intro A0
 generalize bits13 (hasB xs)=bx
 generalize bits13 (hasB ys)=by_
 clear hn
 go_loopw [18,4] (λi ro wr=>∃(k:Nat) (lo c rm:Int),k≤n∧i=.int .i64 k∧ro=.int .i64 rm∧GrAt w wr g xs ys lo c∧(grow13 (hasB xs) (hasB ys) (n-k) lo (lo+c-1) rm=G∧1≤c∧c≤k+1∧0≤lo∧lo+c≤256∧0≤rm∧rm≤9223372036854775807)) (λi _ _=>n-(intOf i).toNat)
 case atStart =>
  have h1:=HB.out
  have h2:=HR.out
  exact⟨0,b,1,room,Nat.zero_le _,rfl,rfl,A0.out,by rw[←HG.out,show b+1-1=b by omega];rfl,by omega,by omega,by omega,by omega,by omega,by omega⟩
 case round =>
  obtain⟨k,lo,c,rm,hk,rfl,rfl,ha,hx⟩:=hrel
  have A:=hid ha
  have X:=hid hx
  clear A0 ha HB HR HG
  have hkb:k≤7:=by have:=HN.out;omega
  by_cases hlt:k<n
  ·have EN:=hid (λw=>end_any ⟨lo,c⟩ w (by have:=hx;dsimp only;omega))
   obtain⟨u,hu⟩:∃u,u=lo+c:=⟨_,rfl⟩
   obtain⟨d,hd⟩:∃d,d=lo-1:=⟨_,rfl⟩
   have v1:IntKind.i64.wrap (lo-1)=d:=by rw[hd,IntKind.wrap_i64];omega
   unfold Rn.val at EN
   dsimp only at EN
   rw[←hu] at EN
   have HU:=hid hu
   have HD:=hid hd
   clear hx hu hd
   have ND:=hid (Only.refl n_ wr).drew
   have KK:=hid (λ(w':World) (o:Only n_ wr w')=>(o.still A.out.rr).two)
   obtain⟨r0,r1⟩:=KK.out _ ND.out
   go_wp2_with fail
   go_region_held3 (λw'=>w'.cell? ⟨g+1+1+1,0,none⟩=some (.int .i64 lo)∧w'.cell? ⟨g+1+1+1,1,none⟩=some (.int .i64 c))
    (first
     | (with_reducible exact KK.out _ Q1.out)
     | (with_reducible exact KK.out _ ND.out)
     | fail)
    (first
     | ((with_reducible refine (EN.out _).mono ?_);rintro e u1 ⟨rfl,o1⟩;have Q1:=hid (ND.out.same o1))
     | fail)
   have A1:=hid (A.out.still Q1.out)
   clear r0 r1 Q1 ND KK A EN o1
   go_wp2_with fail
   refine wp_loop_rounds 3 ?_
   rw[rounds_succ]
   go_wp2_with fail
   have HS_u:=hid (λ(w':World) (h:SetAt w' g (hasB xs))=>has_set g xs u w' h)
   have CS_u:=hid (λ(w':World) (h:SetAt w' (g+1) (hasB ys))=>cost_set (g+1) ys u w' h)
   have CC_u:=costB_cases (hasB ys) u
   cases q1:hasB xs u with
   | true =>
    rw[q1] at HS_u
    obtain⟨cv,qc⟩:∃cv,costB (hasB ys) u=cv:=⟨_,rfl⟩
    have QC:=hid qc
    clear qc
    rw[QC.out] at CS_u CC_u
    have hcv:0≤cv∧cv≤1:=by omega
    by_cases q2:cv≤rm
    ·have v2:IntKind.i64.wrap (rm-cv)=rm-cv:=by rw[IntKind.wrap_i64];have X2:=X.out.2;omega
     have v3:IntKind.i64.wrap (c+1)=c+1:=by rw[IntKind.wrap_i64];have X2:=X.out.2;omega
     have mn:min lo u=lo:=by have hu:=HU.out;have hd:=HD.out;have X2:=X.out.2;omega
     have t2:decide (cv≤rm)=true:=decide_eq_true q2
     have NX:=hid (show grow13 (hasB xs) (hasB ys) (n-(k+1)) lo (lo+(c+1)-1) (rm-cv)=G∧1≤c+1∧c+1≤((k+1:Nat):Int)+1∧0≤lo∧lo+(c+1)≤256∧0≤rm-cv∧rm-cv≤9223372036854775807 from by
      have hu:=HU.out
      have hd:=HD.out
      obtain⟨X1,X2⟩:=X.out
      have rg:=hasB_yes q1
      refine⟨?_,by omega,by omega,by omega,by omega,by omega,by omega⟩
      rw[←X1,show n-k=(n-(k+1))+1 by omega,grow_up (by rw[show lo+c-1+1=u by omega];unfold okB;rw[q1,QC.out,decide_eq_true q2];rfl),show lo+c-1+1=u by omega,QC.out]
      congr 1
      omega)
     clear q1 q2 hcv CC_u X HU HD
     go_wp2_with fail
     (with_reducible refine (HS_u.out _ A1.out.sx).mono ?_)
     rintro e w2 ⟨rfl,o2⟩
     have A2:=hid (A1.out.still o2)
     clear o2 A1
     go_wp2_with fail
     (with_reducible refine (CS_u.out _ A2.out.sy).mono ?_)
     rintro e w3 ⟨rfl,o3⟩
     have A3:=hid (A2.out.still o3)
     clear o3 A2
     go_wp2_with fail
     (with_reducible refine (CS_u.out _ A3.out.sy).mono ?_)
     rintro e w4 ⟨rfl,o4⟩
     have A4:=hid (A3.out.still o4)
     clear o4 A3
     obtain⟨r0,r1⟩:=A4.out.rr.two
     have f0:=A4.out.rr.frozen 0
     have f1:=A4.out.rr.frozen 1
     go_wp2_with fail
     go_roundw
     case rel =>
      refine⟨k+1,lo,c+1,rm-cv,by omega,by go_num,rfl,A4.out.put lo (c+1),?_⟩
      exact NX.out
     case measure=>simp[intOf];omega
    ·have t2:decide (cv≤rm)=false:=decide_eq_false q2
     have OKN:=hid (show okB (hasB xs) (hasB ys) u rm=false from by unfold okB;rw[QC.out,decide_eq_false q2,Bool.and_false])
     clear q1 q2 hcv CC_u
     go_wp2_with fail
     (with_reducible refine (HS_u.out _ A1.out.sx).mono ?_)
     rintro e w2 ⟨rfl,o2⟩
     have A2:=hid (A1.out.still o2)
     clear o2 A1
     go_wp2_with fail
     (with_reducible refine (CS_u.out _ A2.out.sy).mono ?_)
     rintro e w3 ⟨rfl,o3⟩
     have A3:=hid (A2.out.still o3)
     clear o3 A2
     go_wp2_with fail
     rw[rounds_succ]
     clear t2
     have OKU:=hid (show okB (hasB xs) (hasB ys) (lo+c-1+1) rm=false from by have hu:=HU.out;rw[show lo+c-1+1=u by omega];exact OKN.out)
     clear OKN
     go_wp2_with fail
     have HS_d:=hid (λ(w':World) (h:SetAt w' g (hasB xs))=>has_set g xs d w' h)
     have CS_d:=hid (λ(w':World) (h:SetAt w' (g+1) (hasB ys))=>cost_set (g+1) ys d w' h)
     have CC_d:=costB_cases (hasB ys) d
     cases q1:hasB xs d with
     | true =>
      rw[q1] at HS_d
      obtain⟨cv,qc⟩:∃cv,costB (hasB ys) d=cv:=⟨_,rfl⟩
      have QC:=hid qc
      clear qc
      rw[QC.out] at CS_d CC_d
      have hcv:0≤cv∧cv≤1:=by omega
      by_cases q2:cv≤rm
      ·have v2:IntKind.i64.wrap (rm-cv)=rm-cv:=by rw[IntKind.wrap_i64];have X2:=X.out.2;omega
       have v3:IntKind.i64.wrap (c+1)=c+1:=by rw[IntKind.wrap_i64];have X2:=X.out.2;omega
       have mn:min lo d=d:=by have hu:=HU.out;have hd:=HD.out;have X2:=X.out.2;omega
       have t2:decide (cv≤rm)=true:=decide_eq_true q2
       have NX:=hid (show grow13 (hasB xs) (hasB ys) (n-(k+1)) d (d+(c+1)-1) (rm-cv)=G∧1≤c+1∧c+1≤((k+1:Nat):Int)+1∧0≤d∧d+(c+1)≤256∧0≤rm-cv∧rm-cv≤9223372036854775807 from by
        have hu:=HU.out
        have hd:=HD.out
        obtain⟨X1,X2⟩:=X.out
        have rg:=hasB_yes q1
        refine⟨?_,by omega,by omega,by omega,by omega,by omega,by omega⟩
        rw[←X1,show n-k=(n-(k+1))+1 by omega,grow_down OKU.out (by rw[show lo-1=d by omega];unfold okB;rw[q1,QC.out,decide_eq_true q2];rfl),show lo-1=d by omega,QC.out]
        congr 1
        omega)
       clear q1 q2 hcv CC_d X HU HD
       go_wp2_with fail
       (with_reducible refine (HS_d.out _ A3.out.sx).mono ?_)
       rintro e w4 ⟨rfl,o4⟩
       have A4:=hid (A3.out.still o4)
       clear o4 A3
       go_wp2_with fail
       (with_reducible refine (CS_d.out _ A4.out.sy).mono ?_)
       rintro e w5 ⟨rfl,o5⟩
       have A5:=hid (A4.out.still o5)
       clear o5 A4
       go_wp2_with fail
       (with_reducible refine (CS_d.out _ A5.out.sy).mono ?_)
       rintro e w6 ⟨rfl,o6⟩
       have A6:=hid (A5.out.still o6)
       clear o6 A5
       obtain⟨r0,r1⟩:=A6.out.rr.two
       have f0:=A6.out.rr.frozen 0
       have f1:=A6.out.rr.frozen 1
       go_wp2_with fail
       go_roundw
       case rel =>
        refine⟨k+1,d,c+1,rm-cv,by omega,by go_num,rfl,A6.out.put d (c+1),?_⟩
        exact NX.out
       case measure=>simp[intOf];omega
      ·have t2:decide (cv≤rm)=false:=decide_eq_false q2
       have OKN:=hid (show okB (hasB xs) (hasB ys) d rm=false from by unfold okB;rw[QC.out,decide_eq_false q2,Bool.and_false])
       clear q1 q2 hcv CC_d
       go_wp2_with fail
       (with_reducible refine (HS_d.out _ A3.out.sx).mono ?_)
       rintro e w4 ⟨rfl,o4⟩
       have A4:=hid (A3.out.still o4)
       clear o4 A3
       go_wp2_with fail
       (with_reducible refine (CS_d.out _ A4.out.sy).mono ?_)
       rintro e w5 ⟨rfl,o5⟩
       have A5:=hid (A4.out.still o5)
       clear o5 A4
       go_wp2_with fail
       rw[rounds_succ]
       clear t2
       have GE:=hid (show (lo,lo+c-1)=G from by have hu:=HU.out;have hd:=HD.out;obtain⟨X1,X2⟩:=X.out;rw[←X1,grow_end OKU.out (by rw[show lo-1=d by omega];exact OKN.out)])
       clear X HU HD OKN OKU
       have f0:=A5.out.rc.frozen 0
       have f1:=A5.out.rc.frozen 1
       obtain⟨c0,c1⟩:=A5.out.rc.two
       obtain⟨r0,r1⟩:=A5.out.rr.two
       go_wp2_with fail
       have hat:=A5.out.at_
       simp only[Exit.noGoto]
       refine bodyPost_ret (results_run rfl _ _ (g+1+1) ⟨lo,c⟩ rfl ((A5.out.rc.put 0 _).put 1 _)) rfl ⟨?_,(A5.out.only.new (by omega) _ _).new (by omega) _ _⟩
       rw[←GE.out]
       show _=Ending.returned (Value.agg #[.int .i64 lo,.int .i64 (lo+c-1-lo+1)])
       rw[show lo+c-1-lo+1=c by omega]
       rfl
     | false =>
      rw[q1] at HS_d
      have OKN:=hid (show okB (hasB xs) (hasB ys) d rm=false from by unfold okB;rw[q1,Bool.false_and])
      clear q1 CC_d CS_d
      go_wp2_with fail
      (with_reducible refine (HS_d.out _ A3.out.sx).mono ?_)
      rintro e w4 ⟨rfl,o4⟩
      have A4:=hid (A3.out.still o4)
      clear o4 A3
      go_wp2_with fail
      rw[rounds_succ]
      have GE:=hid (show (lo,lo+c-1)=G from by have hu:=HU.out;have hd:=HD.out;obtain⟨X1,X2⟩:=X.out;rw[←X1,grow_end OKU.out (by rw[show lo-1=d by omega];exact OKN.out)])
      clear X HU HD OKN OKU
      have f0:=A4.out.rc.frozen 0
      have f1:=A4.out.rc.frozen 1
      obtain⟨c0,c1⟩:=A4.out.rc.two
      obtain⟨r0,r1⟩:=A4.out.rr.two
      go_wp2_with fail
      have hat:=A4.out.at_
      simp only[Exit.noGoto]
      refine bodyPost_ret (results_run rfl _ _ (g+1+1) ⟨lo,c⟩ rfl ((A4.out.rc.put 0 _).put 1 _)) rfl ⟨?_,(A4.out.only.new (by omega) _ _).new (by omega) _ _⟩
      rw[←GE.out]
      show _=Ending.returned (Value.agg #[.int .i64 lo,.int .i64 (lo+c-1-lo+1)])
      rw[show lo+c-1-lo+1=c by omega]
      rfl
   | false =>
    rw[q1] at HS_u
    have OKN:=hid (show okB (hasB xs) (hasB ys) u rm=false from by unfold okB;rw[q1,Bool.false_and])
    clear q1 CC_u CS_u
    go_wp2_with fail
    (with_reducible refine (HS_u.out _ A1.out.sx).mono ?_)
    rintro e w2 ⟨rfl,o2⟩
    have A2:=hid (A1.out.still o2)
    clear o2 A1
    go_wp2_with fail
    rw[rounds_succ]
    have OKU:=hid (show okB (hasB xs) (hasB ys) (lo+c-1+1) rm=false from by have hu:=HU.out;rw[show lo+c-1+1=u by omega];exact OKN.out)
    clear OKN
    go_wp2_with fail
    have HS_d:=hid (λ(w':World) (h:SetAt w' g (hasB xs))=>has_set g xs d w' h)
    have CS_d:=hid (λ(w':World) (h:SetAt w' (g+1) (hasB ys))=>cost_set (g+1) ys d w' h)
    have CC_d:=costB_cases (hasB ys) d
    cases q1:hasB xs d with
    | true =>
     rw[q1] at HS_d
     obtain⟨cv,qc⟩:∃cv,costB (hasB ys) d=cv:=⟨_,rfl⟩
     have QC:=hid qc
     clear qc
     rw[QC.out] at CS_d CC_d
     have hcv:0≤cv∧cv≤1:=by omega
     by_cases q2:cv≤rm
     ·have v2:IntKind.i64.wrap (rm-cv)=rm-cv:=by rw[IntKind.wrap_i64];have X2:=X.out.2;omega
      have v3:IntKind.i64.wrap (c+1)=c+1:=by rw[IntKind.wrap_i64];have X2:=X.out.2;omega
      have mn:min lo d=d:=by have hu:=HU.out;have hd:=HD.out;have X2:=X.out.2;omega
      have t2:decide (cv≤rm)=true:=decide_eq_true q2
      have NX:=hid (show grow13 (hasB xs) (hasB ys) (n-(k+1)) d (d+(c+1)-1) (rm-cv)=G∧1≤c+1∧c+1≤((k+1:Nat):Int)+1∧0≤d∧d+(c+1)≤256∧0≤rm-cv∧rm-cv≤9223372036854775807 from by
       have hu:=HU.out
       have hd:=HD.out
       obtain⟨X1,X2⟩:=X.out
       have rg:=hasB_yes q1
       refine⟨?_,by omega,by omega,by omega,by omega,by omega,by omega⟩
       rw[←X1,show n-k=(n-(k+1))+1 by omega,grow_down OKU.out (by rw[show lo-1=d by omega];unfold okB;rw[q1,QC.out,decide_eq_true q2];rfl),show lo-1=d by omega,QC.out]
       congr 1
       omega)
      clear q1 q2 hcv CC_d X HU HD
      go_wp2_with fail
      (with_reducible refine (HS_d.out _ A2.out.sx).mono ?_)
      rintro e w3 ⟨rfl,o3⟩
      have A3:=hid (A2.out.still o3)
      clear o3 A2
      go_wp2_with fail
      (with_reducible refine (CS_d.out _ A3.out.sy).mono ?_)
      rintro e w4 ⟨rfl,o4⟩
      have A4:=hid (A3.out.still o4)
      clear o4 A3
      go_wp2_with fail
      (with_reducible refine (CS_d.out _ A4.out.sy).mono ?_)
      rintro e w5 ⟨rfl,o5⟩
      have A5:=hid (A4.out.still o5)
      clear o5 A4
      obtain⟨r0,r1⟩:=A5.out.rr.two
      have f0:=A5.out.rr.frozen 0
      have f1:=A5.out.rr.frozen 1
      go_wp2_with fail
      go_roundw
      case rel =>
       refine⟨k+1,d,c+1,rm-cv,by omega,by go_num,rfl,A5.out.put d (c+1),?_⟩
       exact NX.out
      case measure=>simp[intOf];omega
     ·have t2:decide (cv≤rm)=false:=decide_eq_false q2
      have OKN:=hid (show okB (hasB xs) (hasB ys) d rm=false from by unfold okB;rw[QC.out,decide_eq_false q2,Bool.and_false])
      clear q1 q2 hcv CC_d
      go_wp2_with fail
      (with_reducible refine (HS_d.out _ A2.out.sx).mono ?_)
      rintro e w3 ⟨rfl,o3⟩
      have A3:=hid (A2.out.still o3)
      clear o3 A2
      go_wp2_with fail
      (with_reducible refine (CS_d.out _ A3.out.sy).mono ?_)
      rintro e w4 ⟨rfl,o4⟩
      have A4:=hid (A3.out.still o4)
      clear o4 A3
      go_wp2_with fail
      rw[rounds_succ]
      clear t2
      have GE:=hid (show (lo,lo+c-1)=G from by have hu:=HU.out;have hd:=HD.out;obtain⟨X1,X2⟩:=X.out;rw[←X1,grow_end OKU.out (by rw[show lo-1=d by omega];exact OKN.out)])
      clear X HU HD OKN OKU
      have f0:=A4.out.rc.frozen 0
      have f1:=A4.out.rc.frozen 1
      obtain⟨c0,c1⟩:=A4.out.rc.two
      obtain⟨r0,r1⟩:=A4.out.rr.two
      go_wp2_with fail
      have hat:=A4.out.at_
      simp only[Exit.noGoto]
      refine bodyPost_ret (results_run rfl _ _ (g+1+1) ⟨lo,c⟩ rfl ((A4.out.rc.put 0 _).put 1 _)) rfl ⟨?_,(A4.out.only.new (by omega) _ _).new (by omega) _ _⟩
      rw[←GE.out]
      show _=Ending.returned (Value.agg #[.int .i64 lo,.int .i64 (lo+c-1-lo+1)])
      rw[show lo+c-1-lo+1=c by omega]
      rfl
    | false =>
     rw[q1] at HS_d
     have OKN:=hid (show okB (hasB xs) (hasB ys) d rm=false from by unfold okB;rw[q1,Bool.false_and])
     clear q1 CC_d CS_d
     go_wp2_with fail
     (with_reducible refine (HS_d.out _ A2.out.sx).mono ?_)
     rintro e w3 ⟨rfl,o3⟩
     have A3:=hid (A2.out.still o3)
     clear o3 A2
     go_wp2_with fail
     rw[rounds_succ]
     have GE:=hid (show (lo,lo+c-1)=G from by have hu:=HU.out;have hd:=HD.out;obtain⟨X1,X2⟩:=X.out;rw[←X1,grow_end OKU.out (by rw[show lo-1=d by omega];exact OKN.out)])
     clear X HU HD OKN OKU
     have f0:=A3.out.rc.frozen 0
     have f1:=A3.out.rc.frozen 1
     obtain⟨c0,c1⟩:=A3.out.rc.two
     obtain⟨r0,r1⟩:=A3.out.rr.two
     go_wp2_with fail
     have hat:=A3.out.at_
     simp only[Exit.noGoto]
     refine bodyPost_ret (results_run rfl _ _ (g+1+1) ⟨lo,c⟩ rfl ((A3.out.rc.put 0 _).put 1 _)) rfl ⟨?_,(A3.out.only.new (by omega) _ _).new (by omega) _ _⟩
     rw[←GE.out]
     show _=Ending.returned (Value.agg #[.int .i64 lo,.int .i64 (lo+c-1-lo+1)])
     rw[show lo+c-1-lo+1=c by omega]
     rfl
  ·have e:k=n:=by omega
   have GE:=hid (show (lo,lo+c-1)=G from by rw[←hx.1,show n-k=0 by omega];rfl)
   clear hx X
   have f0:=A.out.rc.frozen 0
   have f1:=A.out.rc.frozen 1
   obtain⟨c0,c1⟩:=A.out.rc.two
   obtain⟨r0,r1⟩:=A.out.rr.two
   go_wp2_with fail
   have hat:=A.out.at_
   simp only[Exit.noGoto]
   refine bodyPost_ret (results_run rfl _ _ (g+1+1) ⟨lo,c⟩ rfl ((A.out.rc.put 0 _).put 1 _)) rfl ⟨?_,(A.out.only.new (by omega) _ _).new (by omega) _ _⟩
   rw[←GE.out]
   show _=Ending.returned (Value.agg #[.int .i64 lo,.int .i64 (lo+c-1-lo+1)])
   rw[show lo+c-1-lo+1=c by omega]
   rfl
end Go.Proofs.YtfbpjobobdidiaaGreatDoor
namespace Go.Proofs.YtfbpjobobdidiaaGreatDoor
open Lib (hid)
open Go.Proofs.Tryz
open Go.RowKit Go.Maps
set_option linter.unusedVariables false
def Did (w:World) (p b nd na L:Nat) (c:Int) (ss:List Sl) (e:Ending) (w':World):Prop:=e=.returned (.int .i64 c)∧TurnTo w' p b nd na L ss∧Only (two12 p b) w w'
theorem TurnTo.put {w:World} {p b nd na L g:Nat} {ss:List Sl} (h:TurnTo w p b nd na L ss) (hp:g≠p) (hb:g≠b) (v:Value):TurnTo (w.setCell ⟨g,0,none⟩ v) p b nd na L ss:=by
 obtain⟨L',ps,h,e,l⟩:=h
 have o:=(Only.refl (λk=>k=g) w).into rfl 0 v
 exact⟨L',ps,h.keep o (λq=>hp q.symm) (λq=>hb q.symm),e,l⟩
theorem catch_does {p b nd na L:Nat} {c:Int} {ss:List Sl} (G:FuncId) (caps:Array Value) (w:World) (hp:p<w.heap.size) (hb:b<w.heap.size) (hG:∀w,(callFunc G caps).run prog w=.ok (.enter G caps) w)
  (h:Calls prog G caps (w.alloc (.cells #[.int .i64 0] 28)) (Does (w.alloc (.cells #[.int .i64 0] 28)) p b nd na L c ss)) :
  Calls prog 77 #[.func (.func G) #[] caps] w (Did w p b nd na L c ss):=by
 refine (catch_code G caps w (two12 p b) (λr w'=>r=coded c∧TurnTo w' p b nd na L ss) hG (by unfold two12;omega) ?_ (h.mono ?_)).mono ?_
 ·rintro r w1 v o ⟨rfl,h⟩
  exact⟨rfl,h.put (by omega) (by omega) v⟩
 ·rintro e w' ⟨rfl,h,o⟩
  exact⟨_,rfl,⟨rfl,h⟩,o⟩
 ·rintro e w' ⟨r,rfl,⟨rfl,h⟩,o⟩
  exact⟨by rw[coded_get],h,o⟩
theorem var_at {w:World} {v:Value} {t:TypeId} {q:Nat} (h:q=w.heap.size):Var (w.alloc (.cells #[v] t)) q v:=by
 subst h
 show World.cell? _ _=_
 rw[(Row.fresh w t #[v]).cell];rfl
theorem var_alloc {w:World} {q:Nat} {v:Value} (h:Var w q v) (o:Obj):Var (w.alloc o) q v:=((Only.refl n_ w).alloc o).cell h (λs=>s)
theorem only_two (w:World) (o1 o2:Obj):Only n_ w ((w.alloc o1).alloc o2):=((Only.refl n_ w).alloc _).alloc _
theorem only_three (w:World) (o1 o2 o3:Obj):Only n_ w (((w.alloc o1).alloc o2).alloc o3):=(((Only.refl n_ w).alloc _).alloc _).alloc _
theorem tput_any {p b nd na L:Nat} {ps:List Pl} (x:Int) (a:Bool) (w:World) (h:TnAt w p b nd na L ps) (wx:(Lit.int .i64 x).wf=true) (hL:L<100000000) :
  Calls prog 110 #[.pointer (some ⟨p,0,none⟩),.int .i64 x,.bool a] w (Did w p b nd na L (putC nd na (ps.map Pl.sl) x a) (putS nd na (ps.map Pl.sl) x a)):=by
 have lp:=h.row.lt
 have lb:=h.md.lt
 have O3:=hid (only_three w (.cells #[.pointer (some ⟨p,0,none⟩)] 90) (.cells #[.int .i64 x] 3) (.cells #[.bool a] 4))
 have C:=hid (catch_does 146 #[.pointer (some ⟨w.heap.size+1,0,none⟩),.pointer (some ⟨w.heap.size,0,none⟩),.pointer (some ⟨w.heap.size+1+1,0,none⟩)] (((w.alloc (.cells #[.pointer (some ⟨p,0,none⟩)] 90)).alloc (.cells #[.int .i64 x] 3)).alloc (.cells #[.bool a] 4)) (by simp;omega) (by simp;omega) (λ_=>rfl)
  (put1_any x a _ (h.still (O3.out.alloc _)) (var_alloc (var_alloc (var_at (by simp)) _) _) (var_alloc (var_alloc (var_alloc (var_at rfl) _) _) _) (var_alloc (var_at (by simp)) _) wx hL))
 clear h
 generalize putC nd na (ps.map Pl.sl) x a=c at *
 generalize putS nd na (ps.map Pl.sl) x a=ss at *
 go_enter func110,ntmps110
 go_wp2_with fail
 (with_reducible refine (C.out).mono ?_)
 rintro e w2 ⟨rfl,h2,o2⟩
 have H2:=hid h2
 have O2:=hid (O3.out.then_ o2)
 clear h2 o2
 go_wp2_with fail
 go_ret
 exact⟨rfl,H2.out,O2.out⟩
theorem tchange_any {p b nd na L:Nat} {ps:List Pl} (x:Int) (v:Bool) (w:World) (h:TnAt w p b nd na L ps) (wx:(Lit.int .i64 x).wf=true) :
  Calls prog 152 #[.pointer (some ⟨p,0,none⟩),.int .i64 x,.bool v] w (Did w p b nd na L (waitC (ps.map Pl.sl) x v) (waitS (ps.map Pl.sl) x v)):=by
 have lp:=h.row.lt
 have lb:=h.md.lt
 have O3:=hid (only_three w (.cells #[.pointer (some ⟨p,0,none⟩)] 90) (.cells #[.int .i64 x] 3) (.cells #[.bool v] 4))
 have C:=hid (catch_does 172 #[.pointer (some ⟨w.heap.size,0,none⟩),.pointer (some ⟨w.heap.size+1,0,none⟩),.pointer (some ⟨w.heap.size+1+1,0,none⟩)] (((w.alloc (.cells #[.pointer (some ⟨p,0,none⟩)] 90)).alloc (.cells #[.int .i64 x] 3)).alloc (.cells #[.bool v] 4)) (by simp;omega) (by simp;omega) (λ_=>rfl)
  (change1_any x v _ (h.still (O3.out.alloc _)) (var_alloc (var_alloc (var_alloc (var_at rfl) _) _) _) (var_alloc (var_alloc (var_at (by simp)) _) _) (var_alloc (var_at (by simp)) _) wx))
 clear h
 generalize waitC (ps.map Pl.sl) x v=c at *
 generalize waitS (ps.map Pl.sl) x v=ss at *
 go_enter func152,ntmps152
 go_wp2_with fail
 (with_reducible refine (C.out).mono ?_)
 rintro e w2 ⟨rfl,h2,o2⟩
 have H2:=hid h2
 have O2:=hid (O3.out.then_ o2)
 clear h2 o2
 go_wp2_with fail
 go_ret
 exact⟨rfl,H2.out,O2.out⟩
theorem tstart_any {p b nd na L:Nat} {ps:List Pl} (x:Int) (w:World) (h:TnAt w p b nd na L ps) (wx:(Lit.int .i64 x).wf=true) :
  Calls prog 142 #[.pointer (some ⟨p,0,none⟩),.int .i64 x] w (Did w p b nd na L (waitC (ps.map Pl.sl) x false) (waitS (ps.map Pl.sl) x false)):=by
 have C:=hid (tchange_any x false w h wx)
 clear h
 generalize waitC (ps.map Pl.sl) x false=c at *
 generalize waitS (ps.map Pl.sl) x false=ss at *
 go_enter func142,ntmps142
 go_wp2_with fail
 (with_reducible refine (C.out).mono ?_)
 rintro e w2 ⟨rfl,h2,o2⟩
 have H2:=hid h2
 have O2:=hid o2
 clear h2 o2
 go_wp2_with fail
 go_ret
 exact⟨rfl,H2.out,O2.out⟩
theorem tagain_any {p b nd na L:Nat} {ps:List Pl} (x:Int) (w:World) (h:TnAt w p b nd na L ps) (wx:(Lit.int .i64 x).wf=true) :
  Calls prog 121 #[.pointer (some ⟨p,0,none⟩),.int .i64 x] w (Did w p b nd na L (waitC (ps.map Pl.sl) x true) (waitS (ps.map Pl.sl) x true)):=by
 have C:=hid (tchange_any x true w h wx)
 clear h
 generalize waitC (ps.map Pl.sl) x true=c at *
 generalize waitS (ps.map Pl.sl) x true=ss at *
 go_enter func121,ntmps121
 go_wp2_with fail
 (with_reducible refine (C.out).mono ?_)
 rintro e w2 ⟨rfl,h2,o2⟩
 have H2:=hid h2
 have O2:=hid o2
 clear h2 o2
 go_wp2_with fail
 go_ret
 exact⟨rfl,H2.out,O2.out⟩
theorem tpromote_any {p b nd na L:Nat} {ps:List Pl} (x:Int) (w:World) (h:TnAt w p b nd na L ps) (wx:(Lit.int .i64 x).wf=true) (hL:L<100000000) :
  Calls prog 68 #[.pointer (some ⟨p,0,none⟩),.int .i64 x] w (Did w p b nd na L (promC nd (ps.map Pl.sl) x) (promS nd (ps.map Pl.sl) x)):=by
 have lp:=h.row.lt
 have lb:=h.md.lt
 have O3:=hid (only_two w (.cells #[.pointer (some ⟨p,0,none⟩)] 90) (.cells #[.int .i64 x] 3))
 have C:=hid (catch_does 111 #[.pointer (some ⟨w.heap.size,0,none⟩),.pointer (some ⟨w.heap.size+1,0,none⟩)] ((w.alloc (.cells #[.pointer (some ⟨p,0,none⟩)] 90)).alloc (.cells #[.int .i64 x] 3)) (by simp;omega) (by simp;omega) (λ_=>rfl)
  (promote1_any x _ (h.still (O3.out.alloc _)) (var_alloc (var_alloc (var_at rfl) _) _) (var_alloc (var_at (by simp)) _) wx hL))
 clear h
 generalize promC nd (ps.map Pl.sl) x=c at *
 generalize promS nd (ps.map Pl.sl) x=ss at *
 go_enter func68,ntmps68
 go_wp2_with fail
 (with_reducible refine (C.out).mono ?_)
 rintro e w2 ⟨rfl,h2,o2⟩
 have H2:=hid h2
 have O2:=hid (O3.out.then_ o2)
 clear h2 o2
 go_wp2_with fail
 go_ret
 exact⟨rfl,H2.out,O2.out⟩
theorem tend_any {p b nd na L:Nat} {ps:List Pl} (x:Int) (w:World) (h:TnAt w p b nd na L ps) (wx:(Lit.int .i64 x).wf=true) :
  Calls prog 106 #[.pointer (some ⟨p,0,none⟩),.int .i64 x] w (Did w p b nd na L (endC (ps.map Pl.sl) x) (cutL (ps.map Pl.sl) x)):=by
 have lp:=h.row.lt
 have lb:=h.md.lt
 have O3:=hid (only_two w (.cells #[.pointer (some ⟨p,0,none⟩)] 90) (.cells #[.int .i64 x] 3))
 have C:=hid (catch_does 144 #[.pointer (some ⟨w.heap.size,0,none⟩),.pointer (some ⟨w.heap.size+1,0,none⟩)] ((w.alloc (.cells #[.pointer (some ⟨p,0,none⟩)] 90)).alloc (.cells #[.int .i64 x] 3)) (by simp;omega) (by simp;omega) (λ_=>rfl)
  (end1_any x _ (h.still (O3.out.alloc _)) (var_alloc (var_alloc (var_at rfl) _) _) (var_alloc (var_at (by simp)) _) wx))
 clear h
 generalize endC (ps.map Pl.sl) x=c at *
 generalize cutL (ps.map Pl.sl) x=ss at *
 go_enter func106,ntmps106
 go_wp2_with fail
 (with_reducible refine (C.out).mono ?_)
 rintro e w2 ⟨rfl,h2,o2⟩
 have H2:=hid h2
 have O2:=hid (O3.out.then_ o2)
 clear h2 o2
 go_wp2_with fail
 go_ret
 exact⟨rfl,H2.out,O2.out⟩
theorem Row.only {w:World} {g:Nat} {t:TypeId} {v:Value} (h:Row w g t #[v]):w.cell? ⟨g,0,none⟩=some v:=by rw[h.cell];rfl
theorem tn_nil {w:World} {p b nd na:Nat} (r:Row w p 147 #[.int .i64 nd,.int .i64 na,.map (some b),.int .i64 0]) (m:Md12 w b []) (h1:nd≤64) (h2:na≤64):TnAt w p b nd na 0 []:=
 ⟨r,m,List.Pairwise.nil,List.Pairwise.nil,λq hq=>(by cases hq),λa=>Nat.zero_le _,h1,h2⟩
theorem tnew1_yes (q r s:Nat) (nd na:Nat) (w:World) (hq:Var w q (.int .i64 nd)) (hr:Var w r (.int .i64 na)) (hs:Row w s 90 #[.pointer none]) (h1:1≤nd) (h2:nd≤64) (h3:na≤64) :
  Calls prog 78 #[.pointer (some ⟨q,0,none⟩),.pointer (some ⟨r,0,none⟩),.pointer (some ⟨s,0,none⟩)] w λe w'=>e=.returned (.tuple #[])∧(∃p b,TnAt w' p b nd na 0 []∧Row w' s 90 #[.pointer (some ⟨p,0,none⟩)]∧w.heap.size≤p∧w.heap.size≤b)∧Only (λk=>k=s) w w':=by
 have hmm:=@run_makeMap prog
 have t1:decide ((1:Int)≤nd)=true:=by simp;omega
 have t2:decide ((nd:Int)≤64)=true:=by simp;omega
 have t3:decide ((0:Int)≤na)=true:=by simp
 have t4:decide ((na:Int)≤64)=true:=by simp;omega
 have lq:=hq.lt
 have lr:=hr.lt
 have ls:=hs.lt
 have HS:=hid hs
 have c:=hs.only
 have z:=hs.frozen 0
 have c9:∀o o',((w.alloc o).alloc o').cell? ⟨s,0,none⟩=some (.pointer none):=λo o'=>((HS.out.alloc o).alloc o').only
 have z9:∀o o',((w.alloc o).alloc o').frozen? ⟨s,0,none⟩=false:=λo o'=>((HS.out.alloc o).alloc o').frozen 0
 have H2:=hid (show nd≤64∧na≤64 from ⟨h2,h3⟩)
 clear hs h1 h2 h3
 go_enter func78,ntmps78
 go_wp2_with fail
 (with_reducible refine (unless_yes _ _).mono ?_)
 rintro e w' ⟨rfl,rfl⟩
 go_wp2_with fail
 (with_reducible refine (unless_yes _ _).mono ?_)
 rintro e w' ⟨rfl,rfl⟩
 go_wp2_with fail
 go_end0
 have r1:=HS.out.put 0 (.pointer (some ⟨w.heap.size+1,0,none⟩))
 have o1:=(Only.refl (λk=>k=s) w).into (b:=s) rfl 0 (.pointer (some ⟨w.heap.size+1,0,none⟩))
 have hz:(w.setCell ⟨s,0,none⟩ (.pointer (some ⟨w.heap.size+1,0,none⟩))).heap.size=w.heap.size:=by simp[World.setCell]
 generalize w.setCell ⟨s,0,none⟩ (.pointer (some ⟨w.heap.size+1,0,none⟩))=W at *
 have a1:=World.ownsMap_made (H:=Unit) W prog 3 plElem
 have a2:=Row.fresh (W.alloc (.map #[] 0)) 147 #[.int .i64 nd,.int .i64 na,.map (some w.heap.size),.int .i64 0]
 simp only[World.size_alloc,hz] at a1 a2
 refine⟨rfl,⟨w.heap.size+1,w.heap.size,tn_nil a2 ⟨_,a1.alloc _,Reads12.nil⟩ H2.out.1 H2.out.2,?_,by omega,by omega⟩,?_⟩
 ·exact (r1.alloc _).alloc _
 ·exact (o1.alloc _).alloc _
theorem tnew_yes (nd na:Nat) (w:World) (h1:1≤nd) (h2:nd≤64) (h3:na≤64) :
  Calls prog 35 #[.int .i64 nd,.int .i64 na] w λe w'=>∃p b,e=.returned (.tuple #[.pointer (some ⟨p,0,none⟩),.int .i64 0])∧TnAt w' p b nd na 0 []∧w.heap.size≤p∧w.heap.size≤b∧Only n_ w w':=by
 have C:Calls prog 77 #[.func (.func 78) #[] #[.pointer (some ⟨w.heap.size,0,none⟩),.pointer (some ⟨w.heap.size+1,0,none⟩),.pointer (some ⟨w.heap.size+1+1,0,none⟩)]]
   (((w.alloc (.cells #[.int .i64 nd] 3)).alloc (.cells #[.int .i64 na] 3)).alloc (.cells #[.pointer none] 90)) λe w' =>
    e=.returned (.int .i64 0)∧(∃p b,TnAt w' p b nd na 0 []∧Row w' (w.heap.size+1+1) 90 #[.pointer (some ⟨p,0,none⟩)]∧w.heap.size+3≤p∧w.heap.size+3≤b)∧Only n_ w w':=by
  have hq:Var (((w.alloc (.cells #[.int .i64 nd] 3)).alloc (.cells #[.int .i64 na] 3)).alloc (.cells #[.pointer none] 90)) w.heap.size (.int .i64 nd):=var_alloc (var_alloc (var_at rfl) _) _
  have hr:Var (((w.alloc (.cells #[.int .i64 nd] 3)).alloc (.cells #[.int .i64 na] 3)).alloc (.cells #[.pointer none] 90)) (w.heap.size+1) (.int .i64 na):=var_alloc (var_at (by simp)) _
  have hs:=Row.fresh ((w.alloc (.cells #[.int .i64 nd] 3)).alloc (.cells #[.int .i64 na] 3)) 90 #[.pointer none]
  have hO:=only_three w (.cells #[.int .i64 nd] 3) (.cells #[.int .i64 na] 3) (.cells #[.pointer none] 90)
  have hz:(((w.alloc (.cells #[.int .i64 nd] 3)).alloc (.cells #[.int .i64 na] 3)).alloc (.cells #[.pointer none] 90)).heap.size=w.heap.size+3:=by simp
  simp only[World.size_alloc] at hs
  generalize ((w.alloc (.cells #[.int .i64 nd] 3)).alloc (.cells #[.int .i64 na] 3)).alloc (.cells #[.pointer none] 90)=W at *
  refine (catch_code 78 _ W (λk=>k=w.heap.size+1+1) (λr w'=>r=none∧∃p b,TnAt w' p b nd na 0 []∧Row w' (w.heap.size+1+1) 90 #[.pointer (some ⟨p,0,none⟩)]∧W.heap.size+1≤p∧W.heap.size+1≤b) (λ_=>rfl) (by omega) ?_ ?_).mono ?_
  ·rintro r w1 v _ ⟨rfl,p,b,h',s',k1,k2⟩
   have o:=(Only.refl (λk=>k=W.heap.size) w1).into rfl 0 v
   exact⟨rfl,p,b,h'.keep o (by omega) (by omega),s'.far (by show w.heap.size+1+1≠W.heap.size;omega) v,k1,k2⟩
  ·refine (tnew1_yes _ _ _ nd na _ (var_alloc hq _) (var_alloc hr _) (hs.alloc _) h1 h2 h3).mono ?_
   rintro e w' ⟨rfl,⟨p,b,h',s',k1,k2⟩,o⟩
   simp only[World.size_alloc] at k1 k2
   exact⟨none,rfl,⟨rfl,p,b,h',s',by omega,by omega⟩,o⟩
  ·rintro e w' ⟨r,rfl,⟨rfl,p,b,h',s',k1,k2⟩,o⟩
   refine⟨rfl,⟨p,b,h',s',by omega,by omega⟩,hO.trans o (λi hi s=>?_)⟩
   omega
 have C:=hid C
 clear h1 h2 h3
 go_enter func35,ntmps35
 go_wp2_with fail
 (with_reducible refine (C.out).mono ?_)
 rintro e w' ⟨rfl,⟨p,b,h',s',k1,k2⟩,o⟩
 have O:=hid o
 have H:=hid h'
 have c0:=s'.only
 have c1:=s'.frozen 0
 clear s' o h'
 go_wp2_with fail
 have oo:=(Only.refl (λk=>k=w.heap.size+1+1) w').into rfl 0 (.pointer (some ⟨p,0,none⟩))
 exact bodyPost_ret (v:=.tuple #[.pointer (some ⟨p,0,none⟩),.int .i64 0]) (by simp[results,Tryz.results35,go_sem,c0]) rfl
  ⟨p,b,rfl,H.out.keep oo (by omega) (by omega),by omega,by omega,O.out.put (p:=⟨w.heap.size+1+1,0,none⟩) (λk=>by simp at k;omega) _⟩
end Go.Proofs.YtfbpjobobdidiaaGreatDoor
namespace Go.Proofs.YtfbpjobobdidiaaGreatDoor
open Lib (hid)
open Go.Proofs.Tryz
open Go.RowKit
set_option linter.unusedVariables false
theorem still_load_row {P:Program} {ops:Array Oper} {w:World} {Q:Act→Prop} {o:Oper} {rest:List Oper} {a:Act} (hgd:o.guard=none) (ty:TypeId) (x:Operand) (ho:o.op=.load ty x)
  (g:Nat) (hx:a.eval x=.pointer (some ⟨g,0,none⟩)) (t:TypeId) (cs:Array Value) (fr:Nat × Nat) (d:TypeDesc) (hg:w.heap[g]? = some (.cells cs t fr))
  (hu:P.underlying ty=some d) (hd:(match d with | .struct _ | .array _ _=>true | _=>false)=true) (hi:(P.info? ty).map (·.size)=some cs.size)
  (h:wpStill P ops w Q rest (a.put o.dst (.agg cs))):wpStill P ops w Q (o::rest) a:=by
 refine wpStill_step (λK hK=>?_)
 have hw:Region.wanted o (yielded ops a.tmps)=true:=by simp[Region.wanted,hgd]
 rw[if_pos hw]
 unfold Oper.still execOp
 simp only[ho,hx,Instr.loadAt,Instr.sureAddr,Sem.run_bind,Sem.run_pure,Result.andThen_ok,run_loadVar_row w g t ty cs fr d hg hu hd hi]
 rw[Oper.stillUpon_value]
 exact hK _ h
theorem around_any (v u:Value) (xs ys:List Int) (b most room:Int) (w:World) (hv:Reads w v xs) (hu:Reads w u ys) (hx:xs.length≤1000000) (hy:ys.length≤1000000) (hr:room≤9223372036854775807) :
  Calls prog 102 #[v,u,.int .i64 b,.int .i64 most,.int .i64 room] w λe w'=>e=.returned (.tuple #[(aroundR xs ys b most room).val,.int .i64 (aroundC xs ys b most room)])∧Only n_ w w':=by
 have SX:=hid (λ(w':World) (o:Only n_ w w')=>setOf_any v xs w' (hv.still o) hx)
 have SY:=hid (λ(w':World) (o:Only n_ w w')=>setOf_any u ys w' (hu.still o) hy)
 have MM:=hid (λw=>may_any most w)
 have HS:=hid (λ(g:Nat) (w':World) (h:SetAt w' g (hasB xs))=>has_set g xs b w' h)
 have CS:=hid (λ(g:Nat) (w':World) (h:SetAt w' g (hasB ys))=>costq_set g ys b w' h)
 have ZS:=zero_set
 have AA:=hid (λ(h:argB xs b most room)=>around_arg (ys:=ys) h)
 have AF:=hid (λ(h:¬ argB xs b most room) (k:room<costB (hasB ys) b)=>around_full h k)
 have AO:=hid (λ(h:¬ argB xs b most room) (k:costB (hasB ys) b≤room)=>around_ok h k)
 generalize aroundR xs ys b most room=R at *
 generalize aroundC xs ys b most room=C at *
 clear hv hu hx hy
 go_enter func102,ntmps102
 go_wp2_with fail
 have C0:=hid (Row.fresh w 43 #[.int .i64 0,.int .i64 0])
 have O0:=hid ((Only.refl n_ w).alloc (.cells #[.int .i64 0,.int .i64 0] 43))
 revert C0 O0
 generalize w.alloc (.cells #[.int .i64 0,.int .i64 0] 43)=W1
 generalize hg:w.heap.size=g
 intro C0 O0
 have GW:=hid hg
 clear hg
 (with_reducible refine (SX.out _ O0.out).mono ?_)
 rintro e w2 ⟨rfl,o⟩
 have C2:=hid (o.still C0.out)
 have O2:=hid (O0.out.same o)
 clear o C0 O0
 go_wp2_with (refine wpList_store_row rfl 212 _ _ rfl _ (bits13 (hasB xs)) rfl rfl 212 (bits13 λx=>false) (Row.fresh _ _ _) (size_set _) (by rw[bits_size,bits_size]) (bits_one _) ?_)
 have C3:=hid ((C2.out.alloc (.cells (bits13 λx=>false) 212)))
 have C4:=hid (show Row ((w2.alloc (.cells (bits13 λx=>false) 212)).setRow w2.heap.size (bits13 (hasB xs))) g 43 #[.int .i64 0,.int .i64 0] from (setRow_other _ _ _ _ (Nat.ne_of_lt C2.out.lt)).trans C3.out)
 have S4:=hid (show SetAt ((w2.alloc (.cells (bits13 λx=>false) 212)).setRow w2.heap.size (bits13 (hasB xs))) w2.heap.size (hasB xs) from SetAt.store (p:=λ_=>false) (Row.fresh _ _ _) _)
 have O4:=hid (show Only n_ w ((w2.alloc (.cells (bits13 λx=>false) 212)).setRow w2.heap.size (bits13 (hasB xs))) from (O2.out.alloc _).whole (λq=>by have:=O2.out.size;omega) _)
 have L4:=hid (show g<w2.heap.size from C2.out.lt)
 clear C2 O2 C3
 revert C4 S4 O4 L4
 generalize (w2.alloc (.cells (bits13 λx=>false) 212)).setRow w2.heap.size (bits13 (hasB xs))=W4
 generalize w2.heap.size=g1
 intro C4 S4 O4 L4
 (with_reducible refine (SY.out _ O4.out).mono ?_)
 rintro e w5 ⟨rfl,o⟩
 have C5:=hid (o.still C4.out)
 have S5:=hid (S4.out.still o)
 have O5:=hid (O4.out.same o)
 clear o C4 S4 O4
 go_wp2_with (refine wpList_store_row rfl 212 _ _ rfl _ (bits13 (hasB ys)) rfl rfl 212 (bits13 λx=>false) (Row.fresh _ _ _) (size_set _) (by rw[bits_size,bits_size]) (bits_one _) ?_)
 have C6:=hid (show Row ((w5.alloc (.cells (bits13 λx=>false) 212)).setRow w5.heap.size (bits13 (hasB ys))) g 43 #[.int .i64 0,.int .i64 0] from (setRow_other _ _ _ _ (Nat.ne_of_lt C5.out.lt)).trans (C5.out.alloc _))
 have S6:=hid (show SetAt ((w5.alloc (.cells (bits13 λx=>false) 212)).setRow w5.heap.size (bits13 (hasB ys))) g1 (hasB xs) from (setRow_other _ _ _ _ (Nat.ne_of_lt (Row.lt S5.out))).trans (Row.alloc S5.out _))
 have T6:=hid (show SetAt ((w5.alloc (.cells (bits13 λx=>false) 212)).setRow w5.heap.size (bits13 (hasB ys))) w5.heap.size (hasB ys) from SetAt.store (p:=λ_=>false) (Row.fresh _ _ _) _)
 have O6:=hid (show Only n_ w ((w5.alloc (.cells (bits13 λx=>false) 212)).setRow w5.heap.size (bits13 (hasB ys))) from (O5.out.alloc _).whole (λq=>by have:=O5.out.size;omega) _)
 clear C5 S5 O5
 revert C6 S6 T6 O6
 generalize (w5.alloc (.cells (bits13 λx=>false) 212)).setRow w5.heap.size (bits13 (hasB ys))=W6
 generalize w5.heap.size=g2
 intro C6 S6 T6 O6
 clear SX SY ZS
 by_cases q1:mayMost most
 ·rw[decide_eq_true q1] at MM
  (with_reducible refine (MM.out _).mono ?_)
  rintro e w7 ⟨rfl,o⟩
  have C7:=hid (o.still C6.out)
  have S7:=hid (S6.out.still o)
  have T7:=hid (T6.out.still o)
  have O7:=hid (O6.out.same o)
  clear o C6 S6 T6 O6 MM
  by_cases q2:room<0
  ·have t:decide (room<0)=true:=decide_eq_true q2
   obtain⟨rfl,rfl⟩:=AA.out (.inr (.inl q2))
   have f0:=C7.out.frozen 0
   have f1:=C7.out.frozen 1
   obtain⟨c0,c1⟩:=C7.out.two
   clear q1 q2 hr
   go_wp2_with fail
   exact bodyPost_ret (results_run2 rfl _ _ g ⟨0,0⟩ rfl ((C7.out.put 0 _).put 1 _)) rfl ⟨rfl,(O7.out.new (by have:=GW.out;omega) _ _).new (by have:=GW.out;omega) _ _⟩
  ·have t:decide (room<0)=false:=decide_eq_false q2
   go_wp2_with fail
   cases q3:hasB xs b with
   | false =>
    rw[q3] at HS
    obtain⟨rfl,rfl⟩:=AA.out (.inr (.inr q3))
    (with_reducible refine (HS.out _ _ S7.out).mono ?_)
    rintro e w8 ⟨rfl,o⟩
    have C8:=hid (o.still C7.out)
    have O8:=hid (O7.out.same o)
    clear o C7 S7 T7 O7 HS q1 q2 q3 hr
    have f0:=C8.out.frozen 0
    have f1:=C8.out.frozen 1
    obtain⟨c0,c1⟩:=C8.out.two
    go_wp2_with fail
    exact bodyPost_ret (results_run2 rfl _ _ g ⟨0,0⟩ rfl ((C8.out.put 0 _).put 1 _)) rfl ⟨rfl,(O8.out.new (by have:=GW.out;omega) _ _).new (by have:=GW.out;omega) _ _⟩
   | true =>
    rw[q3] at HS
    have NA:=hid (show ¬argB xs b most room from λh=>by
     rcases h with h | h | h
     ·exact h q1
     ·exact absurd h (by omega)
     ·rw[q3] at h;cases h)
    (with_reducible refine (HS.out _ _ S7.out).mono ?_)
    rintro e w8 ⟨rfl,o⟩
    have C8:=hid (o.still C7.out)
    have S8:=hid (S7.out.still o)
    have T8:=hid (T7.out.still o)
    have O8:=hid (O7.out.same o)
    clear o C7 S7 T7 O7 HS
    go_wp2_with fail
    (with_reducible refine (CS.out _ _ T8.out).mono ?_)
    rintro e w9 ⟨rfl,rfl⟩
    by_cases q4:costB (hasB ys) b≤room
    ·have GB:=hid (λw=>grown_any xs ys b most (room-costB (hasB ys) b) w q3 q1 (by have:=costB_cases (hasB ys) b;omega))
     obtain⟨rfl,hR⟩:=AO.out NA.out q4
     have HRR:=hid hR
     have v2:IntKind.i64.wrap (room-costB (hasB ys) b)=room-costB (hasB ys) b:=by
      have:=costB_cases (hasB ys) b
      rw[IntKind.wrap_i64];omega
     have t2:decide (room<costB (hasB ys) b)=false:=decide_eq_false (by omega)
     unfold growTo at hR
     rw[←hR] at GB
     clear hR
     generalize costB (hasB ys) b=cv at *
     clear AA AF AO q1 q2 q3 q4 hr
     go_wp2_with fail
     refine wp_region_still_tail 8 (by kernel_rfl) (by kernel_rfl) ?_
     change wpStill _ _ (World.drew w9) (λa'=>wpList _ _ _ _ a' (World.drew w9)) _ _
     simp only[List.take_succ_cons,List.take_zero]
     simp only[List.drop_succ_cons,List.drop_zero]
     have C9:=hid (show Row w9.drew g 43 #[.int .i64 0,.int .i64 0] from C8.out)
     have S9:=hid (show SetAt w9.drew g1 (hasB xs) from S8.out)
     have T9:=hid (show SetAt w9.drew g2 (hasB ys) from T8.out)
     have O9:=hid (O8.out.drew)
     clear C8 S8 T8 O8
     generalize World.drew w9=W2 at *
     have cs:=CS.out _ _ T9.out
     refine still_load_row rfl 212 _ rfl g1 rfl 212 (bits13 (hasB xs)) (0,0) _ S9.out underlying212 rfl (size_set _) ?_
     refine still_load_row rfl 212 _ rfl g2 rfl 212 (bits13 (hasB ys)) (0,0) _ T9.out underlying212 rfl (size_set _) ?_
     still_step
     still_step
     still_step
     still_step
     still_call cs
     still_step
     refine wpStill_nil ?_
     unfold Rn.val at GB
     go_wp2_with fail
     (with_reducible refine (GB.out _).mono ?_)
     rintro e w10 ⟨rfl,o⟩
     have C10:=hid (o.still C9.out)
     have O10:=hid (O9.out.same o)
     clear o C9 S9 T9 O9 GB cs CS
     have f0:=C10.out.frozen 0
     have f1:=C10.out.frozen 1
     obtain⟨c0,c1⟩:=C10.out.two
     go_wp2_with fail
     exact bodyPost_ret (results_run2 rfl _ _ g R rfl ((C10.out.put 0 _).put 1 _)) rfl ⟨rfl,(O10.out.new (by have:=GW.out;omega) _ _).new (by have:=GW.out;omega) _ _⟩
    ·obtain⟨rfl,rfl⟩:=AF.out NA.out (by omega)
     have t2:decide (room<costB (hasB ys) b)=true:=decide_eq_true (by omega)
     generalize costB (hasB ys) b=cv at *
     clear AA AF AO q1 q2 q3 q4 hr
     have f0:=C8.out.frozen 0
     have f1:=C8.out.frozen 1
     obtain⟨c0,c1⟩:=C8.out.two
     go_wp2_with fail
     exact bodyPost_ret (results_run2 rfl _ _ g ⟨0,0⟩ rfl ((C8.out.put 0 _).put 1 _)) rfl ⟨rfl,(O8.out.new (by have:=GW.out;omega) _ _).new (by have:=GW.out;omega) _ _⟩
 ·rw[decide_eq_false q1] at MM
  obtain⟨rfl,rfl⟩:=AA.out (.inl q1)
  (with_reducible refine (MM.out _).mono ?_)
  rintro e w7 ⟨rfl,o⟩
  have C7:=hid (o.still C6.out)
  have O7:=hid (O6.out.same o)
  clear o C6 S6 T6 O6 q1
  have f0:=C7.out.frozen 0
  have f1:=C7.out.frozen 1
  obtain⟨c0,c1⟩:=C7.out.two
  go_wp2_with fail
  exact bodyPost_ret (results_run2 rfl _ _ g ⟨0,0⟩ rfl ((C7.out.put 0 _).put 1 _)) rfl ⟨rfl,(O7.out.new (by have:=GW.out;omega) _ _).new (by have:=GW.out;omega) _ _⟩
end Go.Proofs.YtfbpjobobdidiaaGreatDoor
