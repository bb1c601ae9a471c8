/- Texts of the layers below, one behind the other. -/
import Derived.Test.YtfbpjobobdidiaaGreatDoorRG22
import Derived.Test.YtfbpjobobdidiaaGreatDoorRG20
set_option maxRecDepth 100000
set_option maxHeartbeats 4000000
namespace Go.Proofs.YtfbpjobobdidiaaGreatDoor
open Lib (hid)
open Go.Proofs.Tryz
open Go.RowKit
set_option linter.unusedVariables false
theorem wadd_any {p:Nat} {M:Nat→Prop} {room L:Nat} {ss:List Sx} (t:Int) (x:Wt) (w:World) (h:WG w p M room L ss) (wx:wfW x) (hL:L<1000000) :
  Calls prog 69 #[.pointer (some ⟨p,0,none⟩),.int .i64 t,x.val] w λe w'=>e=.returned (.int .i64 (addI room ss t x))∧WGto w p M room (L+1) (addS room ss t x) w':=by
 obtain⟨b,came,es,k,rfl,hc,mp,mb⟩:=h.ex
 refine (add11 t x wx w k (by omega)).mono ?_
 rintro e w' ⟨rfl,came',es',k',hs,hl,o⟩
 refine⟨rfl,?_⟩
 rw[←hs]
 exact h.went mp mb k' (by omega) o
theorem wtake_any {p:Nat} {M:Nat→Prop} {room L:Nat} {ss:List Sx} (t:Int) (w:World) (h:WG w p M room L ss) :
  Calls prog 61 #[.pointer (some ⟨p,0,none⟩),.int .i64 t] w λe w'=>∃v',e=.returned v'∧RdW w' w.heap.size v' (ofL ss t)∧WGtoV w p M room L (leftT ss t) v' w':=by
 obtain⟨b,came,es,k,rfl,hc,mp,mb⟩:=h.ex
 refine (take14 t w k).mono ?_
 rintro e w' ⟨v',rfl,hr,⟨es',k',hs⟩,o⟩
 refine⟨v',rfl,hr,?_⟩
 rw[←hs]
 exact h.wentV mp mb k' hc o (λg hg=>(hr.late g hg).1)
theorem wquit_any {p:Nat} {M:Nat→Prop} {room L:Nat} {ss:List Sx} (r:Int) (w:World) (h:WG w p M room L ss) :
  Calls prog 72 #[.pointer (some ⟨p,0,none⟩),.int .i64 r] w λe w'=>∃v',e=.returned v'∧OwI w' w.heap.size v' (quitI ss r)∧WGtoV w p M room L (leftR ss r) v' w':=by
 obtain⟨b,came,es,k,rfl,hc,mp,mb⟩:=h.ex
 refine (quit17 r w k).mono ?_
 rintro e w' ⟨v',rfl,hr,⟨es',k',hs⟩,o⟩
 refine⟨v',rfl,hr,?_⟩
 rw[←hs]
 exact h.wentV mp mb k' hc o (λg hg=>(hr.base_le hg).1)
theorem wof_any {p:Nat} {M:Nat→Prop} {room L:Nat} {ss:List Sx} (t:Int) (w:World) (h:WG w p M room L ss) :
  Calls prog 74 #[.pointer (some ⟨p,0,none⟩),.int .i64 t] w λe w'=>∃v',e=.returned v'∧RdW w' w.heap.size v' (ofL ss t)∧Only n_ w w':=by
 obtain⟨b,came,es,k,rfl,hc,mp,mb⟩:=h.ex
 exact of21 t w k
theorem wwaits_any {p:Nat} {M:Nat→Prop} {room L:Nat} {ss:List Sx} (x:Wt) (w:World) (h:WG w p M room L ss) (wx:wfW x) :
  Calls prog 107 #[.pointer (some ⟨p,0,none⟩),x.val] w λe w'=>e=.returned (.bool (waitsB ss x))∧Only n_ w w':=by
 obtain⟨b,came,es,k,rfl,hc,mp,mb⟩:=h.ex
 rw[←has_seats]
 exact waits19 x wx w k
theorem wfree_any {p:Nat} {M:Nat→Prop} {room L:Nat} {ss:List Sx} (w:World) (h:WG w p M room L ss) :
  Calls prog 53 #[.pointer (some ⟨p,0,none⟩)] w λe w'=>e=.returned (.int .i64 ((room:Int)-(ss.length:Int)))∧Only n_ w w':=by
 obtain⟨b,came,es,k,rfl,hc,mp,mb⟩:=h.ex
 rw[seats_len]
 exact free23 w k
theorem rahead16 (o:Opt) (b:Int) (p:Nat) (w:World) (h:Em w p o) :
  Calls prog 39 #[.pointer (some ⟨p,0,none⟩),.int .i64 b] w λe w'=>∃v c,e=.returned (.tuple #[v,.int .i64 c])∧IsTk v∧Only (λk=>k=p) w w':=by
 have lp:=h.lt
 obtain⟨W1,hW1⟩:∃W1,W1=w.alloc (.cells #[.int .i64 0,.int .i64 0,.int .i64 0,.int .i64 0,.int .i64 0,.int .i64 0,.bool false,.bool false,.bool false] 54):=⟨_,rfl⟩
 have o1:Only n_ w W1:=by rw[hW1];exact (Only.refl _ _).alloc _
 have h1:Em W1 p o:=o1.still h
 have rz:Row W1 w.heap.size 54 #[.int .i64 0,.int .i64 0,.int .i64 0,.int .i64 0,.int .i64 0,.int .i64 0,.bool false,.bool false,.bool false]:=by rw[hW1];exact Row.fresh _ _ _
 have sz:W1.heap.size=w.heap.size+1:=by rw[hW1];simp
 obtain⟨b0,b3,b4,b5,b9⟩:=emB h1
 obtain⟨c14,c15,c16,c17,c18,c19,c20⟩:=emCells h1
 have HD:=hid (rhead16 o b p W1 h1)
 have OP:=hid (λ(W:World) (oo:Only n_ W1 W)=>ropen16 o 3 b 0 p W (oo.still h1))
 have RZ:=hid rz
 have O1:=hid (show Only (λk=>k=p∨w.heap.size≤k) w W1 from o1.up)
 clear o1 rz h
 by_cases k1:b<0
 ·go_enter func39,ntmps39
  go_upto_region 1 with fail
  rw[←hW1]
  clear hW1
  obtain⟨y0,y1,y2,y3,y4,y5,y6,y7,y8⟩:=nineR RZ.out
  have zf:=(RZ.out).frozen
  have R9:=(RZ.out).put9R (.int .i64 0) (.int .i64 0) (.int .i64 0) (.int .i64 0) (.int .i64 0) (.int .i64 0) (.bool false) (.bool false) (.bool false)
  have O9:=hid (O1.out.trans ((only9R W1 w.heap.size (.int .i64 0) (.int .i64 0) (.int .i64 0) (.int .i64 0) (.int .i64 0) (.int .i64 0) (.bool false) (.bool false) (.bool false)).more (S':=λk=>k=p∨w.heap.size≤k) (λ_ _ e=>by rw[e];exact .inr (Nat.le_refl _))) (λi hi s=>by rcases s with s | s;exact .inl s;exact .inr s))
  go_wp2_with fail
  generalize (((((((((W1.setCell ⟨w.heap.size,0,none⟩ (.int .i64 0)).setCell ⟨w.heap.size,1,none⟩ (.int .i64 0)).setCell ⟨w.heap.size,2,none⟩ (.int .i64 0)).setCell ⟨w.heap.size,3,none⟩ (.int .i64 0)).setCell ⟨w.heap.size,4,none⟩ (.int .i64 0)).setCell ⟨w.heap.size,5,none⟩ (.int .i64 0)).setCell ⟨w.heap.size,6,none⟩ (.bool false)).setCell ⟨w.heap.size,7,none⟩ (.bool false)).setCell ⟨w.heap.size,8,none⟩ (.bool false))=W9 at *
  obtain⟨g0,g1',g2,g3,g4,g5,g6,g7,g8⟩:=nineR R9
  exact bodyPost_ret (v:=.tuple #[.agg #[.int .i64 0,.int .i64 0,.int .i64 0,.int .i64 0,.int .i64 0,.int .i64 0,.bool false,.bool false,.bool false],.int .i64 1]) (by simp[results,Tryz.results39,go_sem,g0,g1',g2,g3,g4,g5,g6,g7,g8]) rfl (by first|exact⟨_,1,rfl,⟨_,_,_,_,_,_,_,_,_,rfl⟩,O9.out.more (λi hi s=>by rcases s with s|s;exact s;exact absurd hi (by omega))⟩|exact⟨_,⟨1,rfl⟩,⟨_,_,_,_,_,_,_,_,_,rfl⟩,O9.out.more (λi hi s=>by rcases s with s|s;exact s;exact absurd hi (by omega))⟩)
 by_cases k2:o.b0≤b
 ·go_enter func39,ntmps39
  go_upto_region 1 with fail
  rw[←hW1]
  clear hW1
  obtain⟨y0,y1,y2,y3,y4,y5,y6,y7,y8⟩:=nineR RZ.out
  have zf:=(RZ.out).frozen
  have R9:=(RZ.out).put9R (.int .i64 0) (.int .i64 0) (.int .i64 0) (.int .i64 0) (.int .i64 0) (.int .i64 0) (.bool false) (.bool false) (.bool false)
  have O9:=hid (O1.out.trans ((only9R W1 w.heap.size (.int .i64 0) (.int .i64 0) (.int .i64 0) (.int .i64 0) (.int .i64 0) (.int .i64 0) (.bool false) (.bool false) (.bool false)).more (S':=λk=>k=p∨w.heap.size≤k) (λ_ _ e=>by rw[e];exact .inr (Nat.le_refl _))) (λi hi s=>by rcases s with s | s;exact .inl s;exact .inr s))
  go_wp2_with fail
  generalize (((((((((W1.setCell ⟨w.heap.size,0,none⟩ (.int .i64 0)).setCell ⟨w.heap.size,1,none⟩ (.int .i64 0)).setCell ⟨w.heap.size,2,none⟩ (.int .i64 0)).setCell ⟨w.heap.size,3,none⟩ (.int .i64 0)).setCell ⟨w.heap.size,4,none⟩ (.int .i64 0)).setCell ⟨w.heap.size,5,none⟩ (.int .i64 0)).setCell ⟨w.heap.size,6,none⟩ (.bool false)).setCell ⟨w.heap.size,7,none⟩ (.bool false)).setCell ⟨w.heap.size,8,none⟩ (.bool false))=W9 at *
  obtain⟨g0,g1',g2,g3,g4,g5,g6,g7,g8⟩:=nineR R9
  exact bodyPost_ret (v:=.tuple #[.agg #[.int .i64 0,.int .i64 0,.int .i64 0,.int .i64 0,.int .i64 0,.int .i64 0,.bool false,.bool false,.bool false],.int .i64 1]) (by simp[results,Tryz.results39,go_sem,g0,g1',g2,g3,g4,g5,g6,g7,g8]) rfl (by first|exact⟨_,1,rfl,⟨_,_,_,_,_,_,_,_,_,rfl⟩,O9.out.more (λi hi s=>by rcases s with s|s;exact s;exact absurd hi (by omega))⟩|exact⟨_,⟨1,rfl⟩,⟨_,_,_,_,_,_,_,_,_,rfl⟩,O9.out.more (λi hi s=>by rcases s with s|s;exact s;exact absurd hi (by omega))⟩)
 by_cases k4:o.b4≤0
 ·have t4:decide (o.b4≤0)=true:=decide_eq_true k4
  go_enter func39,ntmps39
  go_upto_region 1 with fail
  rw[←hW1]
  clear hW1
  go_wp2_with fail
  (with_reducible refine (HD.out).mono ?_)
  rintro e w2 ⟨rfl,rfl⟩
  go_wp2_with fail
  go_quiet (fail)
  obtain⟨W2,hW2⟩:∃W2,W2=W1.drewN nq:=⟨_,rfl⟩
  have RZ2:=hid (show Row W2 w.heap.size 54 #[.int .i64 0,.int .i64 0,.int .i64 0,.int .i64 0,.int .i64 0,.int .i64 0,.bool false,.bool false,.bool false] from by rw[hW2];exact RZ.out.drewN _)
  have O2:=hid (show Only (λk=>k=p∨w.heap.size≤k) w W2 from by rw[hW2];exact O1.out.drewN _)
  rw[←hW2]
  clear hW2 c14 c15 c16 c17 c18 c19 c20 b0 b3 b4 b5 b9
  obtain⟨y0,y1,y2,y3,y4,y5,y6,y7,y8⟩:=nineR RZ2.out
  have zf:=(RZ2.out).frozen
  have R9:=(RZ2.out).put9R (.int .i64 0) (.int .i64 0) (.int .i64 0) (.int .i64 0) (.int .i64 0) (.int .i64 0) (.bool false) (.bool false) (.bool false)
  have O9:=hid (O2.out.trans ((only9R W2 w.heap.size (.int .i64 0) (.int .i64 0) (.int .i64 0) (.int .i64 0) (.int .i64 0) (.int .i64 0) (.bool false) (.bool false) (.bool false)).more (S':=λk=>k=p∨w.heap.size≤k) (λ_ _ e=>by rw[e];exact .inr (Nat.le_refl _))) (λi hi s=>by rcases s with s | s;exact .inl s;exact .inr s))
  go_wp2_with fail
  generalize (((((((((W2.setCell ⟨w.heap.size,0,none⟩ (.int .i64 0)).setCell ⟨w.heap.size,1,none⟩ (.int .i64 0)).setCell ⟨w.heap.size,2,none⟩ (.int .i64 0)).setCell ⟨w.heap.size,3,none⟩ (.int .i64 0)).setCell ⟨w.heap.size,4,none⟩ (.int .i64 0)).setCell ⟨w.heap.size,5,none⟩ (.int .i64 0)).setCell ⟨w.heap.size,6,none⟩ (.bool false)).setCell ⟨w.heap.size,7,none⟩ (.bool false)).setCell ⟨w.heap.size,8,none⟩ (.bool false))=W9 at *
  obtain⟨g0,g1',g2,g3,g4,g5,g6,g7,g8⟩:=nineR R9
  exact bodyPost_ret (v:=.tuple #[.agg #[.int .i64 0,.int .i64 0,.int .i64 0,.int .i64 0,.int .i64 0,.int .i64 0,.bool false,.bool false,.bool false],.int .i64 2]) (by simp[results,Tryz.results39,go_sem,g0,g1',g2,g3,g4,g5,g6,g7,g8]) rfl (by first|exact⟨_,2,rfl,⟨_,_,_,_,_,_,_,_,_,rfl⟩,O9.out.more (λi hi s=>by rcases s with s|s;exact s;exact absurd hi (by omega))⟩|exact⟨_,⟨2,rfl⟩,⟨_,_,_,_,_,_,_,_,_,rfl⟩,O9.out.more (λi hi s=>by rcases s with s|s;exact s;exact absurd hi (by omega))⟩)
 ·have t4:decide (o.b4≤0)=false:=decide_eq_false k4
  go_enter func39,ntmps39
  go_upto_region 1 with fail
  rw[←hW1]
  clear hW1
  go_wp2_with fail
  (with_reducible refine (HD.out).mono ?_)
  rintro e w2 ⟨rfl,rfl⟩
  go_wp2_with fail
  go_quiet (fail)
  obtain⟨W2,hW2⟩:∃W2,W2=W1.drewN nq:=⟨_,rfl⟩
  have n2:Only n_ W1 W2:=by rw[hW2];exact (Only.refl _ _).drewN _
  have RZ2:=hid (n2.still RZ.out)
  have O2:=hid (O1.out.idle n2)
  have OP2:=hid (OP.out W2 n2)
  have L2:=hid n2.size
  rw[←hW2]
  clear hW2 n2 c14 c15 c16 c17 c18 c19 c20 b0 b3 b4 b5 b9 OP
  go_wp2_with fail
  (with_reducible refine OP2.out.mono ?_)
  rintro e w3 ⟨rfl,⟨gT,cT,vD,vA,rE,lg,ow⟩,o3⟩
  have TE:=hid (rtell0 o vD vA 1 3 b 0 0 gT cT _ p w3 rE ow)
  have RZ3:=hid (o3.row RZ2.out (λe=>absurd (show w.heap.size=p from e) (by omega)))
  have O3:=hid (O2.out.same (o3.more (λ_ _ e=>.inl e)))
  clear rE lg ow o3 OP2
  go_wp2_with fail
  (with_reducible refine TE.out.mono ?_)
  rintro e w4 ⟨rfl,o4⟩
  have RZ4:=hid (o4.still RZ3.out)
  have O4:=hid (O3.out.idle o4)
  clear o4 TE
  obtain⟨y0,y1,y2,y3,y4,y5,y6,y7,y8⟩:=nineR RZ4.out
  have zf:=(RZ4.out).frozen
  have R9:=(RZ4.out).put9R (.int .i64 1) (.int .i64 3) (.int .i64 b) (.int .i64 0) (.int .i64 0) (.int .i64 0) (.bool false) (.bool false) (.bool false)
  have O9:=hid (O4.out.trans ((only9R w4 w.heap.size (.int .i64 1) (.int .i64 3) (.int .i64 b) (.int .i64 0) (.int .i64 0) (.int .i64 0) (.bool false) (.bool false) (.bool false)).more (S':=λk=>k=p∨w.heap.size≤k) (λ_ _ e=>by rw[e];exact .inr (Nat.le_refl _))) (λi hi s=>by rcases s with s | s;exact .inl s;exact .inr s))
  go_wp2_with fail
  generalize (((((((((w4.setCell ⟨w.heap.size,0,none⟩ (.int .i64 1)).setCell ⟨w.heap.size,1,none⟩ (.int .i64 3)).setCell ⟨w.heap.size,2,none⟩ (.int .i64 b)).setCell ⟨w.heap.size,3,none⟩ (.int .i64 0)).setCell ⟨w.heap.size,4,none⟩ (.int .i64 0)).setCell ⟨w.heap.size,5,none⟩ (.int .i64 0)).setCell ⟨w.heap.size,6,none⟩ (.bool false)).setCell ⟨w.heap.size,7,none⟩ (.bool false)).setCell ⟨w.heap.size,8,none⟩ (.bool false))=W9 at *
  obtain⟨g0,g1',g2,g3,g4,g5,g6,g7,g8⟩:=nineR R9
  exact bodyPost_ret (v:=.tuple #[.agg #[.int .i64 1,.int .i64 3,.int .i64 b,.int .i64 0,.int .i64 0,.int .i64 0,.bool false,.bool false,.bool false],.int .i64 0]) (by simp[results,Tryz.results39,go_sem,g0,g1',g2,g3,g4,g5,g6,g7,g8]) rfl (by first|exact⟨_,0,rfl,⟨_,_,_,_,_,_,_,_,_,rfl⟩,O9.out.more (λi hi s=>by rcases s with s|s;exact s;exact absurd hi (by omega))⟩|exact⟨_,⟨0,rfl⟩,⟨_,_,_,_,_,_,_,_,_,rfl⟩,O9.out.more (λi hi s=>by rcases s with s|s;exact s;exact absurd hi (by omega))⟩)
def comeI (o:Opt) (b r q:Int):Int:=if b<0∨o.b0≤b∨r<1∨q<0∨7<q then 1 else 0
theorem rcome16 (o:Opt) (b r q:Int) (pl:Bool) (h9:1≤o.b9) (h3:1≤o.b3) (p:Nat) (w:World) (h:Em w p o) :
  Calls prog 80 #[.pointer (some ⟨p,0,none⟩),.int .i64 b,.agg #[.int .i64 r,.int .i64 q],.bool pl] w λe w'=>e=.returned (.int .i64 (comeI o b r q))∧Only n_ w w':=by
 obtain⟨W1,hW1⟩:∃W1,W1=w.alloc (.cells #[.int .i64 r,.int .i64 q] 36):=⟨_,rfl⟩
 have o1:Only n_ w W1:=by rw[hW1];exact (Only.refl _ _).alloc _
 have h1:Em W1 p o:=o1.still h
 have r1:Row W1 w.heap.size 36 #[.int .i64 r,.int .i64 q]:=by rw[hW1];exact Row.fresh _ _ _
 obtain⟨b0,b3,b4,b5,b9⟩:=emB h1
 obtain⟨c14,c15,c16,c17,c18,c19,c20⟩:=emCells h1
 obtain⟨w0,w1⟩:=r1.two
 have O1:=hid o1
 clear o1 r1 h h1
 by_cases k1:b<0
 ·have CI:=hid (show comeI o b r q=1 from if_pos (.inl k1))
  go_enter func80,ntmps80
  go_upto_region 1 with fail
  rw[←hW1]
  clear hW1
  go_wp2_with fail
  go_ret
  exact⟨by rw[CI.out];rfl,O1.out⟩
 by_cases k2:o.b0≤b
 ·have CI:=hid (show comeI o b r q=1 from if_pos (.inr (.inl k2)))
  go_enter func80,ntmps80
  go_upto_region 1 with fail
  rw[←hW1]
  clear hW1
  go_wp2_with fail
  go_ret
  exact⟨by rw[CI.out];rfl,O1.out⟩
 by_cases k3:r<1
 ·have CI:=hid (show comeI o b r q=1 from if_pos (.inr (.inr (.inl k3))))
  go_enter func80,ntmps80
  go_upto_region 1 with fail
  rw[←hW1]
  clear hW1
  go_wp2_with fail
  go_ret
  exact⟨by rw[CI.out];rfl,O1.out⟩
 by_cases k4:q<0
 ·have CI:=hid (show comeI o b r q=1 from if_pos (.inr (.inr (.inr (.inl k4)))))
  go_enter func80,ntmps80
  go_upto_region 1 with fail
  rw[←hW1]
  clear hW1
  go_wp2_with fail
  go_ret
  exact⟨by rw[CI.out];rfl,O1.out⟩
 by_cases k5:7<q
 ·have CI:=hid (show comeI o b r q=1 from if_pos (.inr (.inr (.inr (.inr (k5))))))
  go_enter func80,ntmps80
  go_upto_region 1 with fail
  rw[←hW1]
  clear hW1
  go_wp2_with fail
  go_ret
  exact⟨by rw[CI.out];rfl,O1.out⟩
 have CI:=hid (show comeI o b r q=0 from if_neg (by omega))
 have d9:decide (o.b9≤0)=false:=decide_eq_false (by omega)
 have d3:decide (o.b3≤0)=false:=decide_eq_false (by omega)
 go_enter func80,ntmps80
 go_upto_region 1 with fail
 rw[←hW1]
 clear hW1
 go_wp2_with fail
 go_loopw [9] (λi wr=>i=.int .i64 0∧W1=wr) (λ_ _=>0)
 case atStart=>exact⟨rfl,rfl⟩
 case round =>
  obtain⟨rfl,rfl⟩:=hrel
  cases pl
  all_goals
   go_wp2_with fail
   go_quiet (fail)
   go_wp2_with fail
   go_ret
   exact⟨by rw[CI.out];rfl,O1.out.drewN _⟩
end Go.Proofs.YtfbpjobobdidiaaGreatDoor
namespace Go.Proofs.YtfbpjobobdidiaaGreatDoor
open Lib (hid)
open Go.Proofs.Tryz
open Go.RowKit Go.Maps
set_option linter.unusedVariables false
theorem RdW.keep {w w':World} {base:Nat} {v:Value} {xs:List Wt} (h:RdW w base v xs) {S:Nat→Prop} (o:Only S w w') (hn:∀g,v.ownBlock=some g→¬ S g):RdW w' base v xs:=by
 obtain⟨⟨a,cap,rfl,rd⟩,lt⟩:=h
 refine⟨⟨a,cap,rfl,λi x hx=>?_⟩,λg hg=>⟨(lt g hg).1,Nat.lt_of_lt_of_le (lt g hg).2 o.size⟩⟩
 obtain⟨g,o1,e,c1,c2⟩:=rd i x hx
 subst e
 exact⟨g,o1,rfl,o.cell c1 (hn g rfl),o.cell c2 (hn g rfl)⟩
theorem RdW.still {w w':World} {base:Nat} {v:Value} {xs:List Wt} (h:RdW w base v xs) (o:Only n_ w w'):RdW w' base v xs:=h.keep o (λ_ _ s=>s)
theorem RdW.len {w:World} {base:Nat} {v:Value} {xs:List Wt} (h:RdW w base v xs):∃a cap,v=.slice a xs.length cap:=by
 obtain⟨⟨a,cap,rfl,rd⟩,lt⟩:=h
 exact⟨a,cap,rfl⟩
theorem Row.nine {w:World} {g:Nat} {t:TypeId} {c0 c1 c2 c3 c4 c5 c6 c7 c8:Value} (h:Row w g t #[c0,c1,c2,c3,c4,c5,c6,c7,c8]):w.cell? ⟨g,0,none⟩=some c0∧w.cell? ⟨g,1,none⟩=some c1∧w.cell? ⟨g,2,none⟩=some c2∧w.cell? ⟨g,3,none⟩=some c3∧w.cell? ⟨g,4,none⟩=some c4∧w.cell? ⟨g,5,none⟩=some c5∧w.cell? ⟨g,6,none⟩=some c6∧w.cell? ⟨g,7,none⟩=some c7∧w.cell? ⟨g,8,none⟩=some c8:=
 ⟨h.cell 0,h.cell 1,h.cell 2,h.cell 3,h.cell 4,h.cell 5,h.cell 6,h.cell 7,h.cell 8⟩
theorem Row.ten {w:World} {g:Nat} {t:TypeId} {c0 c1 c2 c3 c4 c5 c6 c7 c8 c9:Value} (h:Row w g t #[c0,c1,c2,c3,c4,c5,c6,c7,c8,c9]):w.cell? ⟨g,0,none⟩=some c0∧w.cell? ⟨g,1,none⟩=some c1∧w.cell? ⟨g,2,none⟩=some c2∧w.cell? ⟨g,3,none⟩=some c3∧w.cell? ⟨g,4,none⟩=some c4∧w.cell? ⟨g,5,none⟩=some c5∧w.cell? ⟨g,6,none⟩=some c6∧w.cell? ⟨g,7,none⟩=some c7∧w.cell? ⟨g,8,none⟩=some c8:=
 ⟨h.cell 0,h.cell 1,h.cell 2,h.cell 3,h.cell 4,h.cell 5,h.cell 6,h.cell 7,h.cell 8⟩
theorem two_new16 (w:World) (t0 t1:TypeId) (c0 c1:Array Value):Row ((w.alloc (.cells c0 t0)).alloc (.cells c1 t1)) w.heap.size t0 c0∧Row ((w.alloc (.cells c0 t0)).alloc (.cells c1 t1)) (w.heap.size+1) t1 c1∧Only n_ w ((w.alloc (.cells c0 t0)).alloc (.cells c1 t1)):=by
 have q:=Row.fresh (w.alloc (.cells c0 t0)) t1 c1
 rw[World.size_alloc] at q
 exact⟨(Row.fresh w t0 c0).alloc _,q,((Only.refl _ _).alloc _).alloc _⟩
theorem Row.put9 {w:World} {g:Nat} {t:TypeId} {c0 c1 c2 c3 c4 c5 c6 c7 c8:Value} (h:Row w g t #[c0,c1,c2,c3,c4,c5,c6,c7,c8]) (d0 d1 d2 d3 d4 d5 d6 d7 d8:Value) :
  Row (((((((((w.setCell ⟨g,0,none⟩ d0).setCell ⟨g,1,none⟩ d1).setCell ⟨g,2,none⟩ d2).setCell ⟨g,3,none⟩ d3).setCell ⟨g,4,none⟩ d4).setCell ⟨g,5,none⟩ d5).setCell ⟨g,6,none⟩ d6).setCell ⟨g,7,none⟩ d7).setCell ⟨g,8,none⟩ d8) g t #[d0,d1,d2,d3,d4,d5,d6,d7,d8]:=by
 have e:=((((((((h.put 0 d0).put 1 d1).put 2 d2).put 3 d3).put 4 d4).put 5 d5).put 6 d6).put 7 d7).put 8 d8
 simp only[List.setIfInBounds_toArray,List.set_cons_succ,List.set_cons_zero] at e
 exact e
theorem only9 {S:Nat→Prop} {a w:World} (o:Only S a w) {g:Nat} (hg:a.heap.size≤g) (d0 d1 d2 d3 d4 d5 d6 d7 d8:Value) :
  Only S a (((((((((w.setCell ⟨g,0,none⟩ d0).setCell ⟨g,1,none⟩ d1).setCell ⟨g,2,none⟩ d2).setCell ⟨g,3,none⟩ d3).setCell ⟨g,4,none⟩ d4).setCell ⟨g,5,none⟩ d5).setCell ⟨g,6,none⟩ d6).setCell ⟨g,7,none⟩ d7).setCell ⟨g,8,none⟩ d8):=
 ((((((((o.new hg 0 d0).new hg 1 d1).new hg 2 d2).new hg 3 d3).new hg 4 d4).new hg 5 d5).new hg 6 d6).new hg 7 d7).new hg 8 d8
theorem info_tick:(prog.info? 54).map (·.size)=some 9:=by kernel_rfl
theorem results_tick {fn:Func} {q:Tmp} (h:fn.results=#[.cell q 54]) (tmps:Array Value) (w:World) (g:Nat) (cs:Array Value) (h9:cs.size=9)
  (hp:tmps.getD q undef=.pointer (some ⟨g,0,none⟩)) (hg:Row w g 54 cs):(results fn tmps).run prog w=.ok (.agg cs) w:=
 results_cell_row h tmps w g 54 _ (0,0) _ hp hg underlying54 rfl (by rw[info_tick,h9])
section
variable {p:Nat} {c:Nat→Nat} {X:Loc} {F H:Nat} {ks:List Tk} {E:Eng}
theorem eof_any (x:Int) (w:World) (h:EP w p c X F H ks E) :
  Calls prog 26 #[pT p,.int .i64 x] w λe w'=>∃v',e=.returned v'∧RdW w' w.heap.size v' (ofL E.g x)∧Only n_ w w':=by
 have c16:w.cell? ⟨p,16,none⟩=some (.pointer (some ⟨X.pg,0,none⟩)):=h.cell 16
 have OF:=hid (wof_any x w h.eo.wg)
 unfold pT
 clear h
 go_enter func26,ntmps26
 go_wp2_with fail
 (with_reducible refine (OF.out).mono ?_)
 rintro e w' ⟨v',rfl,r,o⟩
 obtain⟨a,k,rfl⟩:=r.len
 have R:=hid r
 have O:=hid o
 clear r o
 go_wp2_with fail
 go_ret
 exact⟨_,rfl,R.out,O.out⟩
theorem eof_len (x:Int) (w:World) (h:EP w p c X F H ks E):(ofL E.g x).length≤64:=by
 have h1:=of_le E.g x
 have h2:=h.eo.wg.good
 have:=h2.len;have:=h2.high
 omega
theorem etold_any (t:Tk) (g:Nat) (w:World) (h:EP w p c X F H ks E) (r:Row w g 123 t.cells) :
  Calls prog 55 #[pT p,pT g] w λe w'=>e=.returned (t.told (E.cnt t.id))∧Only n_ w w':=by
 have OF:=hid (λw' (o:Only n_ w w')=>eof_any t.id w' (h.still o))
 have LE:=hid (eof_len t.id w h)
 have lg:=r.lt
 unfold Eng.cnt Tk.told
 obtain⟨id,kind,b,l,tries,out,fr,cut,v⟩:=t
 unfold pT at *
 dsimp only at *
 obtain⟨c0,c1,c2,c3,c4,c5,c6,c7,c8⟩:=r.ten
 generalize ofL E.g id=ws at *
 obtain⟨W1,hW1⟩:∃W1,W1=(w.alloc (.cells #[.int .i64 0,.int .i64 0,.int .i64 0,.int .i64 0,.int .i64 0,.int .i64 0,.bool false,.bool false,.bool false] 54)).alloc (.cells #[.int .i64 id,.int .i64 kind,.int .i64 b,.int .i64 l,.int .i64 tries,.int .i64 0,.bool out,.bool fr,.bool cut] 54):=⟨_,rfl⟩
 have o1:Only n_ w W1:=by rw[hW1];exact ((Only.refl _ _).alloc _).alloc _
 obtain⟨r0,r1,_⟩:=two_new16 w 54 54 #[.int .i64 0,.int .i64 0,.int .i64 0,.int .i64 0,.int .i64 0,.int .i64 0,.bool false,.bool false,.bool false] #[.int .i64 id,.int .i64 kind,.int .i64 b,.int .i64 l,.int .i64 tries,.int .i64 0,.bool out,.bool fr,.bool cut]
 rw[←hW1] at r0 r1
 have O1:=hid o1
 have R1:=hid r1
 have R0:=hid r0
 have R:=hid r
 clear h r o1 r1 r0
 go_enter func55,ntmps55
 go_wp2_with fail
 rw[←hW1]
 (with_reducible refine (OF.out W1 O1.out).mono ?_)
 rintro e w2 ⟨v',rfl,rd,o2⟩
 obtain⟨a,k,rfl⟩:=rd.len
 have O2:=hid (O1.out.idle o2)
 have R2:=hid (o2.still R1.out)
 have Z2:=hid (o2.still R0.out)
 clear rd o2 hW1 c0 c1 c2 c3 c4 c5 c6 c7 c8
 obtain⟨c0,c1,c2,c3,c4,c5,c6,c7,c8⟩:=R2.out.nine
 have f5:=R2.out.frozen 5
 have l2:=R2.out.lt
 have l0:=Z2.out.lt
 obtain⟨d0,d1,d2,d3,d4,d5,d6,d7,d8⟩:=Z2.out.nine
 have z0:=Z2.out.frozen 0
 have z1:=Z2.out.frozen 1
 have z2:=Z2.out.frozen 2
 have z3:=Z2.out.frozen 3
 have z4:=Z2.out.frozen 4
 have z5:=Z2.out.frozen 5
 have z6:=Z2.out.frozen 6
 have z7:=Z2.out.frozen 7
 have z8:=Z2.out.frozen 8
 go_wp2_with fail
 have FR:=Row.put9 (Z2.out.far (p:=⟨w.heap.size+1,5,none⟩) (by show w.heap.size≠w.heap.size+1;omega) (.int .i64 ws.length)) (.int .i64 id) (.int .i64 kind) (.int .i64 b) (.int .i64 l) (.int .i64 tries) (.int .i64 ws.length) (.bool out) (.bool fr) (.bool cut)
 have FO:=only9 (O2.out.new (b:=w.heap.size+1) (by omega) 5 (.int .i64 ws.length)) (g:=w.heap.size) (by omega) (.int .i64 id) (.int .i64 kind) (.int .i64 b) (.int .i64 l) (.int .i64 tries) (.int .i64 ws.length) (.bool out) (.bool fr) (.bool cut)
 exact bodyPost_ret (results_tick rfl _ _ w.heap.size _ rfl rfl FR) rfl ⟨rfl,FO⟩
theorem efree_any (w:World) (h:EP w p c X F H ks E) :
  Calls prog 17 #[pT p] w λe w'=>e=.returned (.tuple #[.int .i64 E.fd,.int .i64 E.fa,.int .i64 E.fw])∧Only n_ w w':=by
 have c15:w.cell? ⟨p,15,none⟩=some (.pointer (some ⟨X.pt,0,none⟩)):=h.cell 15
 have c16:w.cell? ⟨p,16,none⟩=some (.pointer (some ⟨X.pg,0,none⟩)):=h.cell 16
 have m:=h.may
 unfold Opt.MayC at m
 obtain⟨L,ps,tn,hq,_⟩:=h.eo.tn
 have TF:=tfree_any w tn
 unfold Freed12 at TF
 have e1:((E.o.b3.toNat:Int)-(ps.filter (λq=>q.a==false)).length)=E.fd:=by
  unfold Eng.fd
  rw[←hq,row_len]
  omega
 have e2:((E.o.b4.toNat:Int)-(ps.filter (λq=>q.a==true)).length)=E.fa:=by
  unfold Eng.fa
  rw[←hq,row_len]
  omega
 rw[e1,e2] at TF
 have TF:=hid TF
 have WF:=hid (λw' (o:Only n_ w w')=>show Calls prog 53 #[.pointer (some ⟨X.pg,0,none⟩)] w' λe w''=>e=.returned (.int .i64 E.fw)∧Only n_ w' w'' from by
  have:=wfree_any w' (h.still o).eo.wg
  rw[show ((E.o.b9.toNat:Int)-(E.g.length:Int))=E.fw from by unfold Eng.fw;omega] at this
  exact this)
 clear h tn m hq e1 e2
 unfold pT
 generalize E.fd=fd at *
 generalize E.fa=fa at *
 generalize E.fw=fw at *
 go_enter func17,ntmps17
 go_wp2_with fail
 (with_reducible refine (TF.out).mono ?_)
 rintro e w1 ⟨rfl,o⟩
 have O1:=hid o
 have d16:=o.cell c16 (λs=>s)
 clear o c16 c15
 go_wp2_with fail
 (with_reducible refine (WF.out w1 O1.out).mono ?_)
 rintro e w2 ⟨rfl,o⟩
 have O2:=hid (O1.out.same o)
 clear o
 go_wp2_with fail
 go_ret3
 exact⟨rfl,O2.out⟩
theorem erefuse_any (x:Wt) (need:Bool) (w:World) (h:EP w p c X F H ks E) (wx:wfW x) :
  Calls prog 63 #[pT p,x.val,.bool need] w λe w'=>e=.returned (.int .i64 (E.refC x need))∧Only n_ w w':=by
 have c16:w.cell? ⟨p,16,none⟩=some (.pointer (some ⟨X.pg,0,none⟩)):=h.cell 16
 have FR:=hid (λw' (o:Only n_ w w')=>efree_any w' (h.still o))
 have WT:=hid (λw' (o:Only n_ w w')=>wwaits_any x w' (h.still o).eo.wg wx)
 have lp:=h.eo.row.lt
 have EQ:=hid (show E.refC x need=if mayP x then if waitsB E.g x then 4 else if E.fw=0∨(need=true∧E.fd=0) then 2 else 0 else 1 from rfl)
 generalize E.refC x need=cc at *
 unfold pT at *
 generalize waitsB E.g x=wb at *
 generalize E.fd=fd at *
 generalize E.fa=fa at *
 generalize E.fw=fw at *
 clear h wx
 obtain⟨r,q⟩:=x
 unfold Wt.val at *
 dsimp only at *
 obtain⟨W1,hW1⟩:∃W1,W1=w.alloc (.cells #[.int .i64 r,.int .i64 q] 36):=⟨_,rfl⟩
 have o1:Only n_ w W1:=by rw[hW1];exact (Only.refl _ _).alloc _
 have r1:Row W1 w.heap.size 36 #[.int .i64 r,.int .i64 q]:=by rw[hW1];exact Row.fresh _ _ _
 have O1:=hid o1
 have R1:=hid r1
 clear o1 r1
 go_enter func63,ntmps63
 go_wp2_with fail
 rw[←hW1]
 clear hW1
 (with_reducible refine (FR.out W1 O1.out).mono ?_)
 rintro e w2 ⟨rfl,o⟩
 have O2:=hid (O1.out.same o)
 have R2:=hid (o.still R1.out)
 have d16:=O2.out.cell c16 (λs=>s)
 clear o c16
 obtain⟨x0,x1⟩:=R2.out.two
 by_cases k:mayP ⟨r,q⟩
 ·have k':1≤r∧0≤q∧q<8:=k
  have t1:decide (r<1)=false:=decide_eq_false (by omega)
  have t2:decide (q<0)=false:=decide_eq_false (by omega)
  have t3:decide (8≤q)=false:=decide_eq_false (by omega)
  rw[if_pos k] at EQ
  clear k k'
  have WT2:=hid (WT.out w2.drew O2.out.drew)
  go_wp2_with fail
  go_region_with (first
   | (go_at_call 107;(with_reducible refine WT2.out.mono ?_);rintro e w3 ⟨rfl,o3⟩)
   | fail)
  all_goals
   have O3:=hid (O2.out.drew.same o3)
   clear o3
   cases wb with
   | true =>
    have C4:=hid (show cc=4 from by rw[EQ.out];rfl)
    go_wp2_with fail
    go_ret
    exact⟨by rw[C4.out];rfl,O3.out⟩
   | false =>
    by_cases k1:fw=0
    ·have C2:=hid (show cc=2 from by rw[EQ.out,if_neg (by decide),if_pos (.inl k1)])
     subst k1
     go_wp2_with fail
     go_ret
     exact⟨by rw[C2.out];rfl,O3.out⟩
    ·have t4:(fw==0)=false:=by simpa using k1
     cases need with
     | false =>
      have C0:=hid (show cc=0 from by rw[EQ.out,if_neg (by decide),if_neg (by simp[k1])])
      clear k1
      go_wp2_with fail
      go_ret
      exact⟨by rw[C0.out];rfl,O3.out⟩
     | true =>
      by_cases k2:fd=0
      ·have C2:=hid (show cc=2 from by rw[EQ.out,if_neg (by decide),if_pos (.inr ⟨rfl,k2⟩)])
       subst k2
       clear k1
       go_wp2_with fail
       go_ret
       exact⟨by rw[C2.out];rfl,O3.out⟩
      ·have t5:(fd==0)=false:=by simpa using k2
       have C0:=hid (show cc=0 from by rw[EQ.out,if_neg (by decide),if_neg (by simp[k1,k2])])
       clear k1 k2
       go_wp2_with fail
       go_ret
       exact⟨by rw[C0.out];rfl,O3.out⟩
 ·have C1:=hid (show cc=1 from by rw[EQ.out,if_neg k])
  by_cases k1:r<1
  ·have t1:decide (r<1)=true:=decide_eq_true k1
   clear k k1
   go_wp2_with fail
   go_ret
   exact⟨by rw[C1.out];rfl,O2.out⟩
  ·have t1:decide (r<1)=false:=decide_eq_false k1
   by_cases k2:q<0
   ·have t2:decide (q<0)=true:=decide_eq_true k2
    clear k k1 k2
    go_wp2_with fail
    go_ret
    exact⟨by rw[C1.out];rfl,O2.out⟩
   ·have t2:decide (q<0)=false:=decide_eq_false k2
    have t3:decide (8≤q)=true:=decide_eq_true (by
     unfold mayP at k
     simp only at k
     omega)
    clear k k1 k2
    go_wp2_with fail
    go_ret
    exact⟨by rw[C1.out];rfl,O2.out⟩
end
end Go.Proofs.YtfbpjobobdidiaaGreatDoor
