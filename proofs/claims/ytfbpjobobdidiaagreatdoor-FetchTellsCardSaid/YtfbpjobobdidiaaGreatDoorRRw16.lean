/- The document's own engine of layer 16, empty: Write. -/
import Derived.Test.YtfbpjobobdidiaaGreatDoorRG24
namespace Go.Proofs.YtfbpjobobdidiaaGreatDoor
open Lib (hid)
open Go.Proofs.Tryz
open Go.RowKit
set_option linter.unusedVariables false
set_option linter.unusedSimpArgs false
set_option maxRecDepth 100000
theorem app_no108 (g:Nat) (ty:TypeId) (w:World):(Builtin.append_ #[108,108] ty #[.slice (some ⟨g,0,none⟩) 0 0,.slice none 0 0]).run prog w=.ok (.slice (some ⟨g,0,none⟩) 0 0) w:=by kernel_rfl
set_option maxHeartbeats 8000000 in
theorem rwrite16 (o:Opt) (b v r q:Int) (h9:1≤o.b9) (h3:1≤o.b3) (p:Nat) (w:World) (h:Em w p o) :
  Calls prog 38 #[.pointer (some ⟨p,0,none⟩),.int .i64 b,.int .u64 v,.agg #[.int .i64 r,.int .i64 q]] w λe w'=>∃u g c,e=.returned (.tuple #[u,.int .i64 g,.int .i64 c])∧IsTk u∧Only (λk=>k=p) w w':=by
 obtain⟨i0,hi0,hz0,hz1,hz2⟩:=info_partsR info_seatR
 have I0:=hid hi0
 have I1:=hid hz0
 have I2:=hid hz1
 have I3:=hid hz2
 clear hi0 hz0 hz1 hz2
 have lp:=h.lt
 obtain⟨W1,hW1⟩:∃W1,W1=(w.alloc (.cells #[.int .i64 r,.int .i64 q] 36)).alloc (.cells #[.int .i64 0,.int .i64 0,.int .i64 0,.int .i64 0,.int .i64 0,.int .i64 0,.bool false,.bool false,.bool false] 54):=⟨_,rfl⟩
 have o1:Only n_ w W1:=by rw[hW1];exact ((Only.refl _ _).alloc _).alloc _
 have h1:Em W1 p o:=o1.still h
 have xz:Row W1 w.heap.size 36 #[.int .i64 r,.int .i64 q]:=by rw[hW1];exact (Row.fresh _ _ _).alloc _
 have rz:Row W1 (w.heap.size+1) 54 #[.int .i64 0,.int .i64 0,.int .i64 0,.int .i64 0,.int .i64 0,.int .i64 0,.bool false,.bool false,.bool false]:=by
  rw[hW1]
  have r:=Row.fresh (w.alloc (.cells #[.int .i64 r,.int .i64 q] 36)) 54 #[.int .i64 0,.int .i64 0,.int .i64 0,.int .i64 0,.int .i64 0,.int .i64 0,.bool false,.bool false,.bool false]
  rw[World.size_alloc] at r
  exact r
 have CO:=hid (rcome16 o b r q true h9 h3 p W1 h1)
 have OP:=hid (λ(W:World) (oo:Only n_ W1 W)=>ropen16 o 2 b v p W (oo.still h1))
 have LA:=hid (λ(W:World) (oo:Only n_ W1 W)=>rlast16 o b p W (oo.still h1))
 obtain⟨x0,x1⟩:=xz.two
 have RZ:=hid rz
 have XZ:=hid xz
 have O1:=hid (show Only (λk=>k=p∨w.heap.size≤k) w W1 from o1.up)
 obtain⟨cc,hcc⟩:∃cc,comeI o b r q=cc:=⟨_,rfl⟩
 rw[hcc] at CO
 have CW:cc=0∨cc=1:=by rw[←hcc];unfold comeI;split<;>simp
 clear hcc o1 rz xz h h1
 go_enter func38,ntmps38
 go_upto_region 1 with fail
 rw[←hW1]
 clear hW1
 go_wp2_with fail
 (with_reducible refine CO.out.mono ?_)
 rintro e w2 ⟨rfl,o2⟩
 have RZ2:=hid (o2.still RZ.out)
 have XZ2:=hid (o2.still XZ.out)
 have O2:=hid (O1.out.idle o2)
 have OP2:=hid (OP.out w2 o2)
 have LA2:=hid (LA.out w2 o2)
 clear o2 CO OP LA RZ XZ O1 x0 x1
 rcases CW with rfl | rfl
 ·go_wp2_with fail
  (with_reducible refine LA2.out.mono ?_)
  rintro e w3 ⟨rfl,rfl⟩
  go_wp2_with fail
  (with_reducible refine OP2.out.mono ?_)
  rintro e W5 ⟨rfl,⟨gT,cT,vD,vA,rE,lg,ow⟩,o5⟩
  have E5:=hid rE
  have OW5:=hid ow
  have LT5:=hid (show w.heap.size≤gT from Nat.le_trans (show w.heap.size≤w2.heap.size from O2.out.size) lg)
  have S2:p<w2.heap.size:=by have:=O2.out.size;omega
  have X5:=hid (o5.row XZ2.out (λe=>by have e:w.heap.size=p:=e;omega))
  have RZ5:=hid (o5.row RZ2.out (λe=>by have e:w.heap.size+1=p:=e;omega))
  have O5:=hid (O2.out.same (o5.more (λ_ _ e=>.inl e)))
  clear rE lg ow o5 OP2 LA2 RZ2 XZ2 O2
  go_upto_region 10 with fail
  have KC:=hid (λ(W:World) (oo:Only n_ W5 W)=>(show W.cell? ⟨p,14,none⟩=some (.slice (some ⟨gT,0,none⟩) 1 cT)∧W.cell? ⟨p,17,none⟩=some (.slice none 0 0)∧W.cell? ⟨gT,0,none⟩=some (.int .i64 1)∧W.cell? ⟨w.heap.size,0,none⟩=some (.int .i64 r)∧W.cell? ⟨w.heap.size,1,none⟩=some (.int .i64 q) from ⟨(oo.still E5.out).cell 14,(oo.still E5.out).cell 17,(tickCells (OW5.out.still oo)).1,(oo.still X5.out).cell 0,(oo.still X5.out).cell 1⟩))
  have AP:=app_no108
  obtain⟨a14,a17,aT,ax,ay⟩:=KC.out W5 (Only.refl _ _)
  have B1:=λob=>KC.out (W5.alloc ob) ((Only.refl _ _).alloc _)
  have b14:=λob=>(B1 ob).1
  have b17:=λob=>(B1 ob).2.1
  have bT:=λob=>(B1 ob).2.2.1
  have bx:=λob=>(B1 ob).2.2.2.1
  have by':=λob=>(B1 ob).2.2.2.2
  have C1:=λob oc=>KC.out ((W5.alloc ob).alloc oc) (((Only.refl _ _).alloc _).alloc _)
  have d14:=λob oc=>(C1 ob oc).1
  have d17:=λob oc=>(C1 ob oc).2.1
  clear B1 C1
  have WB:=hid ((((Only.refl n_ W5).alloc (.cells #[] 158)).alloc (.cells #[.int .i64 1,.int .i64 r,.int .i64 q] 158)).drew)
  have EB:=hid (show Row (((W5.alloc (.cells #[] 158)).alloc (.cells #[.int .i64 1,.int .i64 r,.int .i64 q] 158)).drew) W5.heap.size 158 #[] from ((Row.fresh W5 158 #[]).alloc _).drew)
  have XB:=hid (show Row (((W5.alloc (.cells #[] 158)).alloc (.cells #[.int .i64 1,.int .i64 r,.int .i64 q] 158)).drew) (W5.heap.size+1) 158 (seatC (r,q)).toArray from by
   have r:=Row.fresh (W5.alloc (.cells #[] 158)) 158 #[.int .i64 1,.int .i64 r,.int .i64 q]
   rw[World.size_alloc] at r
   exact r.drew)
  have WC:=hid ((((Only.refl n_ W5).alloc (.cells #[.int .i64 1,.int .i64 r,.int .i64 q] 158)).alloc (.cells #[] 158)).drew)
  have EC:=hid (show Row (((W5.alloc (.cells #[.int .i64 1,.int .i64 r,.int .i64 q] 158)).alloc (.cells #[] 158)).drew) (W5.heap.size+1) 158 #[] from by
   have r:=Row.fresh (W5.alloc (.cells #[.int .i64 1,.int .i64 r,.int .i64 q] 158)) 158 #[]
   rw[World.size_alloc] at r
   exact r.drew)
  have XC:=hid (show Row (((W5.alloc (.cells #[.int .i64 1,.int .i64 r,.int .i64 q] 158)).alloc (.cells #[] 158)).drew) W5.heap.size 158 (seatC (r,q)).toArray from ((Row.fresh W5 158 #[.int .i64 1,.int .i64 r,.int .i64 q]).alloc _).drew)
  have sz1:W5.heap.size≤W5.heap.size+1:=by omega
  go_cut [86] from 68 to 90 (λ_ wx=>∃v' w',Owns w' W5.heap.size 158 3 seatC v' [(r,q)]∧Only n_ W5 w'∧wx=w'.setCell ⟨p,17,none⟩ v')
  case first =>
   have S4:=hid (λ(W:World) (oo:Only n_ W5 W)=>(show W.cell? ⟨p,14,none⟩=some (.slice (some ⟨gT,0,none⟩) 1 cT)∧W.cell? ⟨gT,0,none⟩=some (.int .i64 1)∧W.cell? ⟨w.heap.size,0,none⟩=some (.int .i64 r)∧W.cell? ⟨w.heap.size,1,none⟩=some (.int .i64 q) from ⟨(oo.still E5.out).cell 14,(tickCells (OW5.out.still oo)).1,(oo.still X5.out).cell 0,(oo.still X5.out).cell 1⟩))
   have SF:=hid (λ(W0:World) (oo:Only n_ W5 W0) (v:Value)=>(show (λW:World=>W.cell? ⟨p,14,none⟩=some (.slice (some ⟨gT,0,none⟩) 1 cT)∧W.cell? ⟨gT,0,none⟩=some (.int .i64 1)∧W.cell? ⟨w.heap.size,0,none⟩=some (.int .i64 r)∧W.cell? ⟨w.heap.size,1,none⟩=some (.int .i64 q)) (W0.setCell ⟨p,17,none⟩ v) from by
    have oz:Only (λk=>k=p) W0 (W0.setCell ⟨p,17,none⟩ v):=(Only.refl (λk=>k=p) W0).into rfl 17 _
    have pl:=E5.out.lt
    exact⟨((oo.still E5.out).put 17 v).cell 14,(tickCells ((OW5.out.still oo).keep oz (λg hg z=>by have e:g=p:=z;have:=(OW5.out.base_le hg).1;omega))).1,(oz.row (oo.still X5.out) (λe=>by have e:w.heap.size=p:=e;omega)).cell 0,(oz.row (oo.still X5.out) (λe=>by have e:w.heap.size=p:=e;omega)).cell 1⟩))
   refine wp_region_held_drew (S:=λW=>W.cell? ⟨p,14,none⟩=some (.slice (some ⟨gT,0,none⟩) 1 cT)∧W.cell? ⟨gT,0,none⟩=some (.int .i64 1)∧W.cell? ⟨w.heap.size,0,none⟩=some (.int .i64 r)∧W.cell? ⟨w.heap.size,1,none⟩=some (.int .i64 q)) (by kernel_rfl) (S4.out _ (Only.refl _ _).drew) (λhHeld=>?_)
   refine wpAnyH_take (i:=0) (v:=?_) rfl (by kernel_rfl) (by kernel_rfl) (by kernel_rfl) (λ_ _ _ h=>h) (Or.inl ⟨by rfl,?_⟩) (by assumption) ?_
   rotate_left
   ·(intro w hSw;(try dsimp only at hSw);go_simp;(try with_reducible rfl))
   (try simp only[Act.put,List.setIfInBounds_toArray,List.set_cons_zero,List.set_cons_succ])
   refine wpAnyH_take (i:=2) (v:=?_) rfl (by kernel_rfl) (by kernel_rfl) (by kernel_rfl) (λ_ _ _ h=>h) (Or.inl ⟨by rfl,?_⟩) (by assumption) ?_
   rotate_left
   ·(intro w hSw;(try dsimp only at hSw);go_simp;(try with_reducible rfl))
   (try simp only[Act.put,List.setIfInBounds_toArray,List.set_cons_zero,List.set_cons_succ])
   refine wpAnyH_take (i:=3) (v:=?_) rfl (by kernel_rfl) (by kernel_rfl) (by kernel_rfl) (λ_ _ _ h=>h) (Or.inl ⟨by rfl,?_⟩) (by assumption) ?_
   rotate_left
   ·(intro w hSw;(try dsimp only at hSw);go_simp;(try with_reducible rfl))
   (try simp only[Act.put,List.setIfInBounds_toArray,List.set_cons_zero,List.set_cons_succ])
   refine wpAnyH_take (i:=4) (v:=?_) rfl (by kernel_rfl) (by kernel_rfl) (by kernel_rfl) (λ_ _ _ h=>h) (Or.inl ⟨by rfl,?_⟩) (by assumption) ?_
   rotate_left
   ·(intro w hSw;(try dsimp only at hSw);go_simp;(try with_reducible rfl))
   (try simp only[Act.put,List.setIfInBounds_toArray,List.set_cons_zero,List.set_cons_succ])
   refine wpAnyH_take (i:=7) (v:=?_) rfl (by kernel_rfl) (by kernel_rfl) (by kernel_rfl) (λ_ _ _ h=>h) (Or.inl ⟨by rfl,?_⟩) (by assumption) ?_
   rotate_left
   ·(intro w hSw;(try dsimp only at hSw);go_simp;(try with_reducible rfl))
   (try simp only[Act.put,List.setIfInBounds_toArray,List.set_cons_zero,List.set_cons_succ])
   refine wpAnyH_take (i:=8) (v:=?_) rfl (by kernel_rfl) (by kernel_rfl) (by kernel_rfl) (λ_ _ _ h=>h) (Or.inl ⟨by rfl,?_⟩) (by assumption) ?_
   rotate_left
   ·(intro w hSw;(try dsimp only at hSw);go_simp;(try with_reducible rfl))
   (try simp only[Act.put,List.setIfInBounds_toArray,List.set_cons_zero,List.set_cons_succ])
   refine wpAnyH_take (i:=9) (v:=?_) rfl (by kernel_rfl) (by kernel_rfl) (by kernel_rfl) (λ_ _ _ h=>h) (Or.inl ⟨by rfl,?_⟩) (by assumption) ?_
   rotate_left
   ·(intro w hSw;(try dsimp only at hSw);go_simp;(try with_reducible rfl))
   (try simp only[Act.put,List.setIfInBounds_toArray,List.set_cons_zero,List.set_cons_succ])
   refine wpAnyH_take (i:=10) (v:=?_) rfl (by kernel_rfl) (by kernel_rfl) (by kernel_rfl) (λ_ _ _ h=>h) (Or.inl ⟨by rfl,?_⟩) (by assumption) ?_
   rotate_left
   ·(intro w hSw;(try dsimp only at hSw);go_simp;(try with_reducible rfl))
   (try simp only[Act.put,List.setIfInBounds_toArray,List.set_cons_zero,List.set_cons_succ])
   refine wpAnyH_take (i:=11) (v:=?_) rfl (by kernel_rfl) (by kernel_rfl) (by kernel_rfl) (λ_ _ _ h=>h) (Or.inl ⟨by rfl,?_⟩) (by assumption) ?_
   rotate_left
   ·(intro w hSw;(try dsimp only at hSw);go_simp;(try with_reducible rfl))
   (try simp only[Act.put,List.setIfInBounds_toArray,List.set_cons_zero,List.set_cons_succ])
   refine wpAnyH_take (i:=12) (v:=?_) rfl (by kernel_rfl) (by kernel_rfl) (by kernel_rfl) (λ_ _ _ h=>h) (Or.inl ⟨by rfl,?_⟩) (by assumption) ?_
   rotate_left
   ·(intro w hSw;(try dsimp only at hSw);go_simp;(try with_reducible rfl))
   (try simp only[Act.put,List.setIfInBounds_toArray,List.set_cons_zero,List.set_cons_succ])
   refine wpAnyH_take (i:=13) (v:=?_) rfl (by kernel_rfl) (by kernel_rfl) (by kernel_rfl) (λ_ _ _ h=>h) (Or.inl ⟨by rfl,?_⟩) (by assumption) ?_
   rotate_left
   ·(intro w hSw;(try dsimp only at hSw);go_simp;(try with_reducible rfl))
   (try simp only[Act.put,List.setIfInBounds_toArray,List.set_cons_zero,List.set_cons_succ])
   refine wpAnyH_take (i:=14) (v:=?_) rfl (by kernel_rfl) (by kernel_rfl) (by kernel_rfl) (λ_ _ _ h=>h) (Or.inl ⟨by rfl,?_⟩) (by assumption) ?_
   rotate_left
   ·(intro w hSw;(try dsimp only at hSw);go_simp;(try with_reducible rfl))
   (try simp only[Act.put,List.setIfInBounds_toArray,List.set_cons_zero,List.set_cons_succ])
   refine wpAnyH_take (i:=15) (v:=?_) rfl (by kernel_rfl) (by kernel_rfl) (by kernel_rfl) (λ_ _ _ h=>h) (Or.inl ⟨by rfl,?_⟩) (by assumption) ?_
   rotate_left
   ·(intro w hSw;(try dsimp only at hSw);go_simp;(try with_reducible rfl))
   (try simp only[Act.put,List.setIfInBounds_toArray,List.set_cons_zero,List.set_cons_succ])
   refine wpAnyH_take (i:=16) (v:=?_) rfl (by kernel_rfl) (by kernel_rfl) (by kernel_rfl) (λ_ _ _ h=>h) (Or.inl ⟨by rfl,?_⟩) (by assumption) ?_
   rotate_left
   ·(intro w hSw;(try dsimp only at hSw);go_simp;(try with_reducible rfl))
   (try simp only[Act.put,List.setIfInBounds_toArray,List.set_cons_zero,List.set_cons_succ])
   refine wpAnyH_take (i:=17) (v:=?_) rfl (by kernel_rfl) (by kernel_rfl) (by kernel_rfl) (λ_ _ _ h=>h) (Or.inl ⟨by rfl,?_⟩) (by assumption) ?_
   rotate_left
   ·(intro w hSw;(try dsimp only at hSw);go_simp;(try with_reducible rfl))
   (try simp only[Act.put,List.setIfInBounds_toArray,List.set_cons_zero,List.set_cons_succ])
   refine wpAnyH_ready (rs:=[1,5,18]) (by kernel_rfl) (by simp) ?_
   refine AllReadyH.cons rfl (λK hK=>?_) ?_
   ·go_simp
    refine hK.out _ _ (by first | exact S4.out _ (Only.refl _ _).drew | exact S4.out _ ((Only.refl _ _).alloc _).drew | exact S4.out _ (((Only.refl _ _).alloc _).alloc _).drew | assumption) (λhHeld=>?_)
    clear hK K
    (try simp only[Act.put,List.setIfInBounds_toArray,List.set_cons_zero,List.set_cons_succ])
    refine wpAnyH_ready (rs:=[5,18]) (by kernel_rfl) (by simp) ?_
    refine AllReadyH.cons rfl (λK hK=>?_) ?_
    ·go_simp
     refine hK.out _ _ (by first | exact S4.out _ (Only.refl _ _).drew | exact S4.out _ ((Only.refl _ _).alloc _).drew | exact S4.out _ (((Only.refl _ _).alloc _).alloc _).drew | assumption) (λhHeld=>?_)
     clear hK K
     (try simp only[Act.put,List.setIfInBounds_toArray,List.set_cons_zero,List.set_cons_succ])
     refine wpAnyH_ready (rs:=[6,18]) (by kernel_rfl) (by simp) ?_
     refine AllReadyH.cons rfl (λK hK=>?_) ?_
     ·go_simp
      refine hK.out _ _ (by first | exact S4.out _ (Only.refl _ _).drew | exact S4.out _ ((Only.refl _ _).alloc _).drew | exact S4.out _ (((Only.refl _ _).alloc _).alloc _).drew | assumption) (λhHeld=>?_)
      clear hK K
      (try simp only[Act.put,List.setIfInBounds_toArray,List.set_cons_zero,List.set_cons_succ])
      refine wpAnyH_ready (rs:=[18]) (by kernel_rfl) (by simp) ?_
      refine AllReadyH.cons rfl (λK hK=>?_) ?_
      ·go_simp
       refine hK.out _ _ (by first | exact S4.out _ (Only.refl _ _).drew | exact S4.out _ ((Only.refl _ _).alloc _).drew | exact S4.out _ (((Only.refl _ _).alloc _).alloc _).drew | assumption) (λhHeld=>?_)
       clear hK K
       (try simp only[Act.put,List.setIfInBounds_toArray,List.set_cons_zero,List.set_cons_succ])
       refine wpAnyH_ready (rs:=[19]) (by kernel_rfl) (by simp) ?_
       refine AllReadyH.cons rfl (λK hK=>?_) ?_
       ·refine step_first rfl (.tmp 74) (.tmp 86) 108 rfl 158 i0 _ 3 24 underlying108 I0.out I1.out I2.out I3.out rfl (by decide) (by decide) seatC seatC3 seatC_one WB.out (Nat.le_refl _) EB.out XB.out rfl rfl ?_
        intro v5 w7 own5 o5
        have OWV:=hid own5
        have OO:=hid o5
        have r5:=o5.still E5.out
        have f17:w7.cell? ⟨p,17,none⟩=some (.slice none 0 0):=r5.cell 17
        have z17:=r5.frozen 17
        obtain⟨g5,k5,e5,_⟩:=own5.form (by simp)
        subst e5
        clear own5 o5 r5
        refine hK.out _ _ (S4.out _ OO.out) (λhHeld=>?_)
        clear hK K
        (try simp only[Act.put,List.setIfInBounds_toArray,List.set_cons_zero,List.set_cons_succ])
        refine wpAnyH_take (i:=20) (v:=?_) rfl (by kernel_rfl) (by kernel_rfl) (by kernel_rfl) (λ_ _ _ h=>h) (Or.inl ⟨by rfl,?_⟩) (by assumption) ?_
        rotate_left
        ·(intro w hSw;(try dsimp only at hSw);go_simp;(try with_reducible rfl))
        (try simp only[Act.put,List.setIfInBounds_toArray,List.set_cons_zero,List.set_cons_succ])
        refine wpAnyH_take (i:=21) (v:=?_) rfl (by kernel_rfl) (by kernel_rfl) (by kernel_rfl) (λ_ _ _ h=>h) (Or.inl ⟨by rfl,?_⟩) (by assumption) ?_
        rotate_left
        ·(intro w hSw;(try dsimp only at hSw);go_simp;(try with_reducible rfl))
        (try simp only[Act.put,List.setIfInBounds_toArray,List.set_cons_zero,List.set_cons_succ])
        refine wpAnyH_ready (rs:=[22]) (by kernel_rfl) (by simp) ?_
        refine AllReadyH.cons rfl (λK hK=>?_) ?_
        ·go_simp
         refine hK.out _ _ (SF.out _ OO.out _) (λhHeld=>?_)
         clear hK K
         (try simp only[Act.put,List.setIfInBounds_toArray,List.set_cons_zero,List.set_cons_succ])
         refine wpAnyH_done (by kernel_rfl) ?_ _
         go_wp2_with fail
         go_meet
         exact⟨_,_,OWV.out,OO.out,rfl⟩
        exact AllReadyH.nil
       exact AllReadyH.nil
      exact AllReadyH.nil
     refine AllReadyH.cons rfl (λK hK=>?_) ?_
     ·go_simp
      refine hK.out _ _ (by first | exact S4.out _ (Only.refl _ _).drew | exact S4.out _ ((Only.refl _ _).alloc _).drew | exact S4.out _ (((Only.refl _ _).alloc _).alloc _).drew | assumption) (λhHeld=>?_)
      clear hK K
      (try simp only[Act.put,List.setIfInBounds_toArray,List.set_cons_zero,List.set_cons_succ])
      refine wpAnyH_ready (rs:=[6]) (by kernel_rfl) (by simp) ?_
      refine AllReadyH.cons rfl (λK hK=>?_) ?_
      ·go_simp
       refine hK.out _ _ (by first | exact S4.out _ (Only.refl _ _).drew | exact S4.out _ ((Only.refl _ _).alloc _).drew | exact S4.out _ (((Only.refl _ _).alloc _).alloc _).drew | assumption) (λhHeld=>?_)
       clear hK K
       (try simp only[Act.put,List.setIfInBounds_toArray,List.set_cons_zero,List.set_cons_succ])
       refine wpAnyH_ready (rs:=[19]) (by kernel_rfl) (by simp) ?_
       refine AllReadyH.cons rfl (λK hK=>?_) ?_
       ·refine step_first rfl (.tmp 74) (.tmp 86) 108 rfl 158 i0 _ 3 24 underlying108 I0.out I1.out I2.out I3.out rfl (by decide) (by decide) seatC seatC3 seatC_one WB.out (Nat.le_refl _) EB.out XB.out rfl rfl ?_
        intro v5 w7 own5 o5
        have OWV:=hid own5
        have OO:=hid o5
        have r5:=o5.still E5.out
        have f17:w7.cell? ⟨p,17,none⟩=some (.slice none 0 0):=r5.cell 17
        have z17:=r5.frozen 17
        obtain⟨g5,k5,e5,_⟩:=own5.form (by simp)
        subst e5
        clear own5 o5 r5
        refine hK.out _ _ (S4.out _ OO.out) (λhHeld=>?_)
        clear hK K
        (try simp only[Act.put,List.setIfInBounds_toArray,List.set_cons_zero,List.set_cons_succ])
        refine wpAnyH_take (i:=20) (v:=?_) rfl (by kernel_rfl) (by kernel_rfl) (by kernel_rfl) (λ_ _ _ h=>h) (Or.inl ⟨by rfl,?_⟩) (by assumption) ?_
        rotate_left
        ·(intro w hSw;(try dsimp only at hSw);go_simp;(try with_reducible rfl))
        (try simp only[Act.put,List.setIfInBounds_toArray,List.set_cons_zero,List.set_cons_succ])
        refine wpAnyH_take (i:=21) (v:=?_) rfl (by kernel_rfl) (by kernel_rfl) (by kernel_rfl) (λ_ _ _ h=>h) (Or.inl ⟨by rfl,?_⟩) (by assumption) ?_
        rotate_left
        ·(intro w hSw;(try dsimp only at hSw);go_simp;(try with_reducible rfl))
        (try simp only[Act.put,List.setIfInBounds_toArray,List.set_cons_zero,List.set_cons_succ])
        refine wpAnyH_ready (rs:=[22]) (by kernel_rfl) (by simp) ?_
        refine AllReadyH.cons rfl (λK hK=>?_) ?_
        ·go_simp
         refine hK.out _ _ (SF.out _ OO.out _) (λhHeld=>?_)
         clear hK K
         (try simp only[Act.put,List.setIfInBounds_toArray,List.set_cons_zero,List.set_cons_succ])
         refine wpAnyH_done (by kernel_rfl) ?_ _
         go_wp2_with fail
         go_meet
         exact⟨_,_,OWV.out,OO.out,rfl⟩
        exact AllReadyH.nil
       exact AllReadyH.nil
      exact AllReadyH.nil
     exact AllReadyH.nil
    refine AllReadyH.cons rfl (λK hK=>?_) ?_
    ·go_simp
     refine hK.out _ _ (by first | exact S4.out _ (Only.refl _ _).drew | exact S4.out _ ((Only.refl _ _).alloc _).drew | exact S4.out _ (((Only.refl _ _).alloc _).alloc _).drew | assumption) (λhHeld=>?_)
     clear hK K
     (try simp only[Act.put,List.setIfInBounds_toArray,List.set_cons_zero,List.set_cons_succ])
     refine wpAnyH_ready (rs:=[5]) (by kernel_rfl) (by simp) ?_
     refine AllReadyH.cons rfl (λK hK=>?_) ?_
     ·go_simp
      refine hK.out _ _ (by first | exact S4.out _ (Only.refl _ _).drew | exact S4.out _ ((Only.refl _ _).alloc _).drew | exact S4.out _ (((Only.refl _ _).alloc _).alloc _).drew | assumption) (λhHeld=>?_)
      clear hK K
      (try simp only[Act.put,List.setIfInBounds_toArray,List.set_cons_zero,List.set_cons_succ])
      refine wpAnyH_ready (rs:=[6]) (by kernel_rfl) (by simp) ?_
      refine AllReadyH.cons rfl (λK hK=>?_) ?_
      ·go_simp
       refine hK.out _ _ (by first | exact S4.out _ (Only.refl _ _).drew | exact S4.out _ ((Only.refl _ _).alloc _).drew | exact S4.out _ (((Only.refl _ _).alloc _).alloc _).drew | assumption) (λhHeld=>?_)
       clear hK K
       (try simp only[Act.put,List.setIfInBounds_toArray,List.set_cons_zero,List.set_cons_succ])
       refine wpAnyH_ready (rs:=[19]) (by kernel_rfl) (by simp) ?_
       refine AllReadyH.cons rfl (λK hK=>?_) ?_
       ·refine step_first rfl (.tmp 74) (.tmp 86) 108 rfl 158 i0 _ 3 24 underlying108 I0.out I1.out I2.out I3.out rfl (by decide) (by decide) seatC seatC3 seatC_one WB.out (Nat.le_refl _) EB.out XB.out rfl rfl ?_
        intro v5 w7 own5 o5
        have OWV:=hid own5
        have OO:=hid o5
        have r5:=o5.still E5.out
        have f17:w7.cell? ⟨p,17,none⟩=some (.slice none 0 0):=r5.cell 17
        have z17:=r5.frozen 17
        obtain⟨g5,k5,e5,_⟩:=own5.form (by simp)
        subst e5
        clear own5 o5 r5
        refine hK.out _ _ (S4.out _ OO.out) (λhHeld=>?_)
        clear hK K
        (try simp only[Act.put,List.setIfInBounds_toArray,List.set_cons_zero,List.set_cons_succ])
        refine wpAnyH_take (i:=20) (v:=?_) rfl (by kernel_rfl) (by kernel_rfl) (by kernel_rfl) (λ_ _ _ h=>h) (Or.inl ⟨by rfl,?_⟩) (by assumption) ?_
        rotate_left
        ·(intro w hSw;(try dsimp only at hSw);go_simp;(try with_reducible rfl))
        (try simp only[Act.put,List.setIfInBounds_toArray,List.set_cons_zero,List.set_cons_succ])
        refine wpAnyH_take (i:=21) (v:=?_) rfl (by kernel_rfl) (by kernel_rfl) (by kernel_rfl) (λ_ _ _ h=>h) (Or.inl ⟨by rfl,?_⟩) (by assumption) ?_
        rotate_left
        ·(intro w hSw;(try dsimp only at hSw);go_simp;(try with_reducible rfl))
        (try simp only[Act.put,List.setIfInBounds_toArray,List.set_cons_zero,List.set_cons_succ])
        refine wpAnyH_ready (rs:=[22]) (by kernel_rfl) (by simp) ?_
        refine AllReadyH.cons rfl (λK hK=>?_) ?_
        ·go_simp
         refine hK.out _ _ (SF.out _ OO.out _) (λhHeld=>?_)
         clear hK K
         (try simp only[Act.put,List.setIfInBounds_toArray,List.set_cons_zero,List.set_cons_succ])
         refine wpAnyH_done (by kernel_rfl) ?_ _
         go_wp2_with fail
         go_meet
         exact⟨_,_,OWV.out,OO.out,rfl⟩
        exact AllReadyH.nil
       exact AllReadyH.nil
      exact AllReadyH.nil
     exact AllReadyH.nil
    exact AllReadyH.nil
   refine AllReadyH.cons rfl (λK hK=>?_) ?_
   ·go_simp
    refine hK.out _ _ (by first | exact S4.out _ (Only.refl _ _).drew | exact S4.out _ ((Only.refl _ _).alloc _).drew | exact S4.out _ (((Only.refl _ _).alloc _).alloc _).drew | assumption) (λhHeld=>?_)
    clear hK K
    (try simp only[Act.put,List.setIfInBounds_toArray,List.set_cons_zero,List.set_cons_succ])
    refine wpAnyH_ready (rs:=[1,18]) (by kernel_rfl) (by simp) ?_
    refine AllReadyH.cons rfl (λK hK=>?_) ?_
    ·go_simp
     refine hK.out _ _ (by first | exact S4.out _ (Only.refl _ _).drew | exact S4.out _ ((Only.refl _ _).alloc _).drew | exact S4.out _ (((Only.refl _ _).alloc _).alloc _).drew | assumption) (λhHeld=>?_)
     clear hK K
     (try simp only[Act.put,List.setIfInBounds_toArray,List.set_cons_zero,List.set_cons_succ])
     refine wpAnyH_ready (rs:=[6,18]) (by kernel_rfl) (by simp) ?_
     refine AllReadyH.cons rfl (λK hK=>?_) ?_
     ·go_simp
      refine hK.out _ _ (by first | exact S4.out _ (Only.refl _ _).drew | exact S4.out _ ((Only.refl _ _).alloc _).drew | exact S4.out _ (((Only.refl _ _).alloc _).alloc _).drew | assumption) (λhHeld=>?_)
      clear hK K
      (try simp only[Act.put,List.setIfInBounds_toArray,List.set_cons_zero,List.set_cons_succ])
      refine wpAnyH_ready (rs:=[18]) (by kernel_rfl) (by simp) ?_
      refine AllReadyH.cons rfl (λK hK=>?_) ?_
      ·go_simp
       refine hK.out _ _ (by first | exact S4.out _ (Only.refl _ _).drew | exact S4.out _ ((Only.refl _ _).alloc _).drew | exact S4.out _ (((Only.refl _ _).alloc _).alloc _).drew | assumption) (λhHeld=>?_)
       clear hK K
       (try simp only[Act.put,List.setIfInBounds_toArray,List.set_cons_zero,List.set_cons_succ])
       refine wpAnyH_ready (rs:=[19]) (by kernel_rfl) (by simp) ?_
       refine AllReadyH.cons rfl (λK hK=>?_) ?_
       ·refine step_first rfl (.tmp 74) (.tmp 86) 108 rfl 158 i0 _ 3 24 underlying108 I0.out I1.out I2.out I3.out rfl (by decide) (by decide) seatC seatC3 seatC_one WB.out (Nat.le_refl _) EB.out XB.out rfl rfl ?_
        intro v5 w7 own5 o5
        have OWV:=hid own5
        have OO:=hid o5
        have r5:=o5.still E5.out
        have f17:w7.cell? ⟨p,17,none⟩=some (.slice none 0 0):=r5.cell 17
        have z17:=r5.frozen 17
        obtain⟨g5,k5,e5,_⟩:=own5.form (by simp)
        subst e5
        clear own5 o5 r5
        refine hK.out _ _ (S4.out _ OO.out) (λhHeld=>?_)
        clear hK K
        (try simp only[Act.put,List.setIfInBounds_toArray,List.set_cons_zero,List.set_cons_succ])
        refine wpAnyH_take (i:=20) (v:=?_) rfl (by kernel_rfl) (by kernel_rfl) (by kernel_rfl) (λ_ _ _ h=>h) (Or.inl ⟨by rfl,?_⟩) (by assumption) ?_
        rotate_left
        ·(intro w hSw;(try dsimp only at hSw);go_simp;(try with_reducible rfl))
        (try simp only[Act.put,List.setIfInBounds_toArray,List.set_cons_zero,List.set_cons_succ])
        refine wpAnyH_take (i:=21) (v:=?_) rfl (by kernel_rfl) (by kernel_rfl) (by kernel_rfl) (λ_ _ _ h=>h) (Or.inl ⟨by rfl,?_⟩) (by assumption) ?_
        rotate_left
        ·(intro w hSw;(try dsimp only at hSw);go_simp;(try with_reducible rfl))
        (try simp only[Act.put,List.setIfInBounds_toArray,List.set_cons_zero,List.set_cons_succ])
        refine wpAnyH_ready (rs:=[22]) (by kernel_rfl) (by simp) ?_
        refine AllReadyH.cons rfl (λK hK=>?_) ?_
        ·go_simp
         refine hK.out _ _ (SF.out _ OO.out _) (λhHeld=>?_)
         clear hK K
         (try simp only[Act.put,List.setIfInBounds_toArray,List.set_cons_zero,List.set_cons_succ])
         refine wpAnyH_done (by kernel_rfl) ?_ _
         go_wp2_with fail
         go_meet
         exact⟨_,_,OWV.out,OO.out,rfl⟩
        exact AllReadyH.nil
       exact AllReadyH.nil
      exact AllReadyH.nil
     refine AllReadyH.cons rfl (λK hK=>?_) ?_
     ·go_simp
      refine hK.out _ _ (by first | exact S4.out _ (Only.refl _ _).drew | exact S4.out _ ((Only.refl _ _).alloc _).drew | exact S4.out _ (((Only.refl _ _).alloc _).alloc _).drew | assumption) (λhHeld=>?_)
      clear hK K
      (try simp only[Act.put,List.setIfInBounds_toArray,List.set_cons_zero,List.set_cons_succ])
      refine wpAnyH_ready (rs:=[6]) (by kernel_rfl) (by simp) ?_
      refine AllReadyH.cons rfl (λK hK=>?_) ?_
      ·go_simp
       refine hK.out _ _ (by first | exact S4.out _ (Only.refl _ _).drew | exact S4.out _ ((Only.refl _ _).alloc _).drew | exact S4.out _ (((Only.refl _ _).alloc _).alloc _).drew | assumption) (λhHeld=>?_)
       clear hK K
       (try simp only[Act.put,List.setIfInBounds_toArray,List.set_cons_zero,List.set_cons_succ])
       refine wpAnyH_ready (rs:=[19]) (by kernel_rfl) (by simp) ?_
       refine AllReadyH.cons rfl (λK hK=>?_) ?_
       ·refine step_first rfl (.tmp 74) (.tmp 86) 108 rfl 158 i0 _ 3 24 underlying108 I0.out I1.out I2.out I3.out rfl (by decide) (by decide) seatC seatC3 seatC_one WB.out (Nat.le_refl _) EB.out XB.out rfl rfl ?_
        intro v5 w7 own5 o5
        have OWV:=hid own5
        have OO:=hid o5
        have r5:=o5.still E5.out
        have f17:w7.cell? ⟨p,17,none⟩=some (.slice none 0 0):=r5.cell 17
        have z17:=r5.frozen 17
        obtain⟨g5,k5,e5,_⟩:=own5.form (by simp)
        subst e5
        clear own5 o5 r5
        refine hK.out _ _ (S4.out _ OO.out) (λhHeld=>?_)
        clear hK K
        (try simp only[Act.put,List.setIfInBounds_toArray,List.set_cons_zero,List.set_cons_succ])
        refine wpAnyH_take (i:=20) (v:=?_) rfl (by kernel_rfl) (by kernel_rfl) (by kernel_rfl) (λ_ _ _ h=>h) (Or.inl ⟨by rfl,?_⟩) (by assumption) ?_
        rotate_left
        ·(intro w hSw;(try dsimp only at hSw);go_simp;(try with_reducible rfl))
        (try simp only[Act.put,List.setIfInBounds_toArray,List.set_cons_zero,List.set_cons_succ])
        refine wpAnyH_take (i:=21) (v:=?_) rfl (by kernel_rfl) (by kernel_rfl) (by kernel_rfl) (λ_ _ _ h=>h) (Or.inl ⟨by rfl,?_⟩) (by assumption) ?_
        rotate_left
        ·(intro w hSw;(try dsimp only at hSw);go_simp;(try with_reducible rfl))
        (try simp only[Act.put,List.setIfInBounds_toArray,List.set_cons_zero,List.set_cons_succ])
        refine wpAnyH_ready (rs:=[22]) (by kernel_rfl) (by simp) ?_
        refine AllReadyH.cons rfl (λK hK=>?_) ?_
        ·go_simp
         refine hK.out _ _ (SF.out _ OO.out _) (λhHeld=>?_)
         clear hK K
         (try simp only[Act.put,List.setIfInBounds_toArray,List.set_cons_zero,List.set_cons_succ])
         refine wpAnyH_done (by kernel_rfl) ?_ _
         go_wp2_with fail
         go_meet
         exact⟨_,_,OWV.out,OO.out,rfl⟩
        exact AllReadyH.nil
       exact AllReadyH.nil
      exact AllReadyH.nil
     exact AllReadyH.nil
    refine AllReadyH.cons rfl (λK hK=>?_) ?_
    ·go_simp
     refine hK.out _ _ (by first | exact S4.out _ (Only.refl _ _).drew | exact S4.out _ ((Only.refl _ _).alloc _).drew | exact S4.out _ (((Only.refl _ _).alloc _).alloc _).drew | assumption) (λhHeld=>?_)
     clear hK K
     (try simp only[Act.put,List.setIfInBounds_toArray,List.set_cons_zero,List.set_cons_succ])
     refine wpAnyH_ready (rs:=[1]) (by kernel_rfl) (by simp) ?_
     refine AllReadyH.cons rfl (λK hK=>?_) ?_
     ·go_simp
      refine hK.out _ _ (by first | exact S4.out _ (Only.refl _ _).drew | exact S4.out _ ((Only.refl _ _).alloc _).drew | exact S4.out _ (((Only.refl _ _).alloc _).alloc _).drew | assumption) (λhHeld=>?_)
      clear hK K
      (try simp only[Act.put,List.setIfInBounds_toArray,List.set_cons_zero,List.set_cons_succ])
      refine wpAnyH_ready (rs:=[6]) (by kernel_rfl) (by simp) ?_
      refine AllReadyH.cons rfl (λK hK=>?_) ?_
      ·go_simp
       refine hK.out _ _ (by first | exact S4.out _ (Only.refl _ _).drew | exact S4.out _ ((Only.refl _ _).alloc _).drew | exact S4.out _ (((Only.refl _ _).alloc _).alloc _).drew | assumption) (λhHeld=>?_)
       clear hK K
       (try simp only[Act.put,List.setIfInBounds_toArray,List.set_cons_zero,List.set_cons_succ])
       refine wpAnyH_ready (rs:=[19]) (by kernel_rfl) (by simp) ?_
       refine AllReadyH.cons rfl (λK hK=>?_) ?_
       ·refine step_first rfl (.tmp 74) (.tmp 86) 108 rfl 158 i0 _ 3 24 underlying108 I0.out I1.out I2.out I3.out rfl (by decide) (by decide) seatC seatC3 seatC_one WC.out sz1 EC.out XC.out rfl rfl ?_
        intro v5 w7 own5 o5
        have OWV:=hid own5
        have OO:=hid o5
        have r5:=o5.still E5.out
        have f17:w7.cell? ⟨p,17,none⟩=some (.slice none 0 0):=r5.cell 17
        have z17:=r5.frozen 17
        obtain⟨g5,k5,e5,_⟩:=own5.form (by simp)
        subst e5
        clear own5 o5 r5
        refine hK.out _ _ (S4.out _ OO.out) (λhHeld=>?_)
        clear hK K
        (try simp only[Act.put,List.setIfInBounds_toArray,List.set_cons_zero,List.set_cons_succ])
        refine wpAnyH_take (i:=20) (v:=?_) rfl (by kernel_rfl) (by kernel_rfl) (by kernel_rfl) (λ_ _ _ h=>h) (Or.inl ⟨by rfl,?_⟩) (by assumption) ?_
        rotate_left
        ·(intro w hSw;(try dsimp only at hSw);go_simp;(try with_reducible rfl))
        (try simp only[Act.put,List.setIfInBounds_toArray,List.set_cons_zero,List.set_cons_succ])
        refine wpAnyH_take (i:=21) (v:=?_) rfl (by kernel_rfl) (by kernel_rfl) (by kernel_rfl) (λ_ _ _ h=>h) (Or.inl ⟨by rfl,?_⟩) (by assumption) ?_
        rotate_left
        ·(intro w hSw;(try dsimp only at hSw);go_simp;(try with_reducible rfl))
        (try simp only[Act.put,List.setIfInBounds_toArray,List.set_cons_zero,List.set_cons_succ])
        refine wpAnyH_ready (rs:=[22]) (by kernel_rfl) (by simp) ?_
        refine AllReadyH.cons rfl (λK hK=>?_) ?_
        ·go_simp
         refine hK.out _ _ (SF.out _ OO.out _) (λhHeld=>?_)
         clear hK K
         (try simp only[Act.put,List.setIfInBounds_toArray,List.set_cons_zero,List.set_cons_succ])
         refine wpAnyH_done (by kernel_rfl) ?_ _
         go_wp2_with fail
         go_meet
         exact⟨_,_,OWV.out,OO.out,rfl⟩
        exact AllReadyH.nil
       exact AllReadyH.nil
      exact AllReadyH.nil
     exact AllReadyH.nil
    exact AllReadyH.nil
   refine AllReadyH.cons rfl (λK hK=>?_) ?_
   ·go_simp
    refine hK.out _ _ (by first | exact S4.out _ (Only.refl _ _).drew | exact S4.out _ ((Only.refl _ _).alloc _).drew | exact S4.out _ (((Only.refl _ _).alloc _).alloc _).drew | assumption) (λhHeld=>?_)
    clear hK K
    (try simp only[Act.put,List.setIfInBounds_toArray,List.set_cons_zero,List.set_cons_succ])
    refine wpAnyH_ready (rs:=[1,5]) (by kernel_rfl) (by simp) ?_
    refine AllReadyH.cons rfl (λK hK=>?_) ?_
    ·go_simp
     refine hK.out _ _ (by first | exact S4.out _ (Only.refl _ _).drew | exact S4.out _ ((Only.refl _ _).alloc _).drew | exact S4.out _ (((Only.refl _ _).alloc _).alloc _).drew | assumption) (λhHeld=>?_)
     clear hK K
     (try simp only[Act.put,List.setIfInBounds_toArray,List.set_cons_zero,List.set_cons_succ])
     refine wpAnyH_ready (rs:=[5]) (by kernel_rfl) (by simp) ?_
     refine AllReadyH.cons rfl (λK hK=>?_) ?_
     ·go_simp
      refine hK.out _ _ (by first | exact S4.out _ (Only.refl _ _).drew | exact S4.out _ ((Only.refl _ _).alloc _).drew | exact S4.out _ (((Only.refl _ _).alloc _).alloc _).drew | assumption) (λhHeld=>?_)
      clear hK K
      (try simp only[Act.put,List.setIfInBounds_toArray,List.set_cons_zero,List.set_cons_succ])
      refine wpAnyH_ready (rs:=[6]) (by kernel_rfl) (by simp) ?_
      refine AllReadyH.cons rfl (λK hK=>?_) ?_
      ·go_simp
       refine hK.out _ _ (by first | exact S4.out _ (Only.refl _ _).drew | exact S4.out _ ((Only.refl _ _).alloc _).drew | exact S4.out _ (((Only.refl _ _).alloc _).alloc _).drew | assumption) (λhHeld=>?_)
       clear hK K
       (try simp only[Act.put,List.setIfInBounds_toArray,List.set_cons_zero,List.set_cons_succ])
       refine wpAnyH_ready (rs:=[19]) (by kernel_rfl) (by simp) ?_
       refine AllReadyH.cons rfl (λK hK=>?_) ?_
       ·refine step_first rfl (.tmp 74) (.tmp 86) 108 rfl 158 i0 _ 3 24 underlying108 I0.out I1.out I2.out I3.out rfl (by decide) (by decide) seatC seatC3 seatC_one WC.out sz1 EC.out XC.out rfl rfl ?_
        intro v5 w7 own5 o5
        have OWV:=hid own5
        have OO:=hid o5
        have r5:=o5.still E5.out
        have f17:w7.cell? ⟨p,17,none⟩=some (.slice none 0 0):=r5.cell 17
        have z17:=r5.frozen 17
        obtain⟨g5,k5,e5,_⟩:=own5.form (by simp)
        subst e5
        clear own5 o5 r5
        refine hK.out _ _ (S4.out _ OO.out) (λhHeld=>?_)
        clear hK K
        (try simp only[Act.put,List.setIfInBounds_toArray,List.set_cons_zero,List.set_cons_succ])
        refine wpAnyH_take (i:=20) (v:=?_) rfl (by kernel_rfl) (by kernel_rfl) (by kernel_rfl) (λ_ _ _ h=>h) (Or.inl ⟨by rfl,?_⟩) (by assumption) ?_
        rotate_left
        ·(intro w hSw;(try dsimp only at hSw);go_simp;(try with_reducible rfl))
        (try simp only[Act.put,List.setIfInBounds_toArray,List.set_cons_zero,List.set_cons_succ])
        refine wpAnyH_take (i:=21) (v:=?_) rfl (by kernel_rfl) (by kernel_rfl) (by kernel_rfl) (λ_ _ _ h=>h) (Or.inl ⟨by rfl,?_⟩) (by assumption) ?_
        rotate_left
        ·(intro w hSw;(try dsimp only at hSw);go_simp;(try with_reducible rfl))
        (try simp only[Act.put,List.setIfInBounds_toArray,List.set_cons_zero,List.set_cons_succ])
        refine wpAnyH_ready (rs:=[22]) (by kernel_rfl) (by simp) ?_
        refine AllReadyH.cons rfl (λK hK=>?_) ?_
        ·go_simp
         refine hK.out _ _ (SF.out _ OO.out _) (λhHeld=>?_)
         clear hK K
         (try simp only[Act.put,List.setIfInBounds_toArray,List.set_cons_zero,List.set_cons_succ])
         refine wpAnyH_done (by kernel_rfl) ?_ _
         go_wp2_with fail
         go_meet
         exact⟨_,_,OWV.out,OO.out,rfl⟩
        exact AllReadyH.nil
       exact AllReadyH.nil
      exact AllReadyH.nil
     exact AllReadyH.nil
    refine AllReadyH.cons rfl (λK hK=>?_) ?_
    ·go_simp
     refine hK.out _ _ (by first | exact S4.out _ (Only.refl _ _).drew | exact S4.out _ ((Only.refl _ _).alloc _).drew | exact S4.out _ (((Only.refl _ _).alloc _).alloc _).drew | assumption) (λhHeld=>?_)
     clear hK K
     (try simp only[Act.put,List.setIfInBounds_toArray,List.set_cons_zero,List.set_cons_succ])
     refine wpAnyH_ready (rs:=[1]) (by kernel_rfl) (by simp) ?_
     refine AllReadyH.cons rfl (λK hK=>?_) ?_
     ·go_simp
      refine hK.out _ _ (by first | exact S4.out _ (Only.refl _ _).drew | exact S4.out _ ((Only.refl _ _).alloc _).drew | exact S4.out _ (((Only.refl _ _).alloc _).alloc _).drew | assumption) (λhHeld=>?_)
      clear hK K
      (try simp only[Act.put,List.setIfInBounds_toArray,List.set_cons_zero,List.set_cons_succ])
      refine wpAnyH_ready (rs:=[6]) (by kernel_rfl) (by simp) ?_
      refine AllReadyH.cons rfl (λK hK=>?_) ?_
      ·go_simp
       refine hK.out _ _ (by first | exact S4.out _ (Only.refl _ _).drew | exact S4.out _ ((Only.refl _ _).alloc _).drew | exact S4.out _ (((Only.refl _ _).alloc _).alloc _).drew | assumption) (λhHeld=>?_)
       clear hK K
       (try simp only[Act.put,List.setIfInBounds_toArray,List.set_cons_zero,List.set_cons_succ])
       refine wpAnyH_ready (rs:=[19]) (by kernel_rfl) (by simp) ?_
       refine AllReadyH.cons rfl (λK hK=>?_) ?_
       ·refine step_first rfl (.tmp 74) (.tmp 86) 108 rfl 158 i0 _ 3 24 underlying108 I0.out I1.out I2.out I3.out rfl (by decide) (by decide) seatC seatC3 seatC_one WC.out sz1 EC.out XC.out rfl rfl ?_
        intro v5 w7 own5 o5
        have OWV:=hid own5
        have OO:=hid o5
        have r5:=o5.still E5.out
        have f17:w7.cell? ⟨p,17,none⟩=some (.slice none 0 0):=r5.cell 17
        have z17:=r5.frozen 17
        obtain⟨g5,k5,e5,_⟩:=own5.form (by simp)
        subst e5
        clear own5 o5 r5
        refine hK.out _ _ (S4.out _ OO.out) (λhHeld=>?_)
        clear hK K
        (try simp only[Act.put,List.setIfInBounds_toArray,List.set_cons_zero,List.set_cons_succ])
        refine wpAnyH_take (i:=20) (v:=?_) rfl (by kernel_rfl) (by kernel_rfl) (by kernel_rfl) (λ_ _ _ h=>h) (Or.inl ⟨by rfl,?_⟩) (by assumption) ?_
        rotate_left
        ·(intro w hSw;(try dsimp only at hSw);go_simp;(try with_reducible rfl))
        (try simp only[Act.put,List.setIfInBounds_toArray,List.set_cons_zero,List.set_cons_succ])
        refine wpAnyH_take (i:=21) (v:=?_) rfl (by kernel_rfl) (by kernel_rfl) (by kernel_rfl) (λ_ _ _ h=>h) (Or.inl ⟨by rfl,?_⟩) (by assumption) ?_
        rotate_left
        ·(intro w hSw;(try dsimp only at hSw);go_simp;(try with_reducible rfl))
        (try simp only[Act.put,List.setIfInBounds_toArray,List.set_cons_zero,List.set_cons_succ])
        refine wpAnyH_ready (rs:=[22]) (by kernel_rfl) (by simp) ?_
        refine AllReadyH.cons rfl (λK hK=>?_) ?_
        ·go_simp
         refine hK.out _ _ (SF.out _ OO.out _) (λhHeld=>?_)
         clear hK K
         (try simp only[Act.put,List.setIfInBounds_toArray,List.set_cons_zero,List.set_cons_succ])
         refine wpAnyH_done (by kernel_rfl) ?_ _
         go_wp2_with fail
         go_meet
         exact⟨_,_,OWV.out,OO.out,rfl⟩
        exact AllReadyH.nil
       exact AllReadyH.nil
      exact AllReadyH.nil
     exact AllReadyH.nil
    exact AllReadyH.nil
   exact AllReadyH.nil
  case rest =>
   obtain⟨v6,w6,own6,o6,hwx⟩:=hcut
   subst hwx
   obtain⟨gS,cS,e6,lg6,lt6,_,_⟩:=own6.form (by simp)
   have e6:v6=.slice (some ⟨gS,0,none⟩) 1 cS:=e6
   subst e6
   obtain⟨W6,hW6⟩:∃W6,W6=w6.setCell ⟨p,17,none⟩ (.slice (some ⟨gS,0,none⟩) 1 cS):=⟨_,rfl⟩
   have oz:Only (λk=>k=p) w6 W6:=by rw[hW6];exact (Only.refl (λk=>k=p) w6).into rfl 17 _
   have pl:=E5.out.lt
   have E6:=hid (show Row W6 p 110 (engC16 o (.slice (some ⟨gT,0,none⟩) 1 cT) vD vA (.slice (some ⟨gS,0,none⟩) 1 cS) 1) from by rw[hW6];exact (o6.still E5.out).put 17 _)
   have OW6:=hid ((OW5.out.still o6).keep oz (λg hg z=>by have e:g=p:=z;have:=(OW5.out.base_le hg).1;omega))
   have SO6:=hid (own6.keep oz (λg hg z=>by have e:g=p:=z;have:=(own6.base_le hg).1;omega))
   have RZ6:=hid (oz.row (o6.still RZ5.out) (λe=>by have e:w.heap.size+1=p:=e;omega))
   have O6:=hid ((O5.out.idle o6).same (oz.more (λ_ _ e=>.inl e)))
   clear own6 o6 oz lg6 lt6 WB EB XB WC EC XC sz1 a14 a17 aT ax ay b14 b17 bT bx by' d14 d17 KC AP
   go_upto_region 11 with fail
   rw[←hW6]
   clear hW6
   have TE:=hid (rtell1 o vD vA _ 1 2 b 0 v gT cT _ p W6 E6.out (λW oo=>rof1 o _ _ _ _ r q gS cS _ p W (oo.still E6.out) (SO6.out.still oo)) OW6.out)
   go_wp2_with fail
   (with_reducible refine TE.out.mono ?_)
   rintro e w7 ⟨rfl,o7⟩
   have RZ7:=hid (o7.still RZ6.out)
   have O7:=hid (O6.out.idle o7)
   clear o7 TE
   obtain⟨y0,y1,y2,y3,y4,y5,y6,y7,y8⟩:=nineR RZ7.out
   have zf:=(RZ7.out).frozen
   have R9:=(RZ7.out).put9R (.int .i64 1) (.int .i64 2) (.int .i64 b) (.int .i64 0) (.int .i64 0) (.int .i64 1) (.bool false) (.bool false) (.bool false)
   have O9:=hid (O7.out.trans ((only9R w7 (w.heap.size+1) (.int .i64 1) (.int .i64 2) (.int .i64 b) (.int .i64 0) (.int .i64 0) (.int .i64 1) (.bool false) (.bool false) (.bool false)).more (S':=λk=>k=p∨w.heap.size≤k) (λ_ _ e=>by rw[e];exact .inr (by omega))) (λi hi s=>by rcases s with s | s;exact .inl s;exact .inr s))
   go_wp2_with fail
   generalize (((((((((w7.setCell ⟨(w.heap.size+1),0,none⟩ (.int .i64 1)).setCell ⟨(w.heap.size+1),1,none⟩ (.int .i64 2)).setCell ⟨(w.heap.size+1),2,none⟩ (.int .i64 b)).setCell ⟨(w.heap.size+1),3,none⟩ (.int .i64 0)).setCell ⟨(w.heap.size+1),4,none⟩ (.int .i64 0)).setCell ⟨(w.heap.size+1),5,none⟩ (.int .i64 1)).setCell ⟨(w.heap.size+1),6,none⟩ (.bool false)).setCell ⟨(w.heap.size+1),7,none⟩ (.bool false)).setCell ⟨(w.heap.size+1),8,none⟩ (.bool false))=W9 at *
   obtain⟨g0,g1',g2,g3,g4,g5,g6,g7,g8⟩:=nineR R9
   exact bodyPost_ret (v:=.tuple #[.agg #[.int .i64 1,.int .i64 2,.int .i64 b,.int .i64 0,.int .i64 0,.int .i64 1,.bool false,.bool false,.bool false],.int .i64 0,.int .i64 0]) (by simp[results,Tryz.results38,go_sem,g0,g1',g2,g3,g4,g5,g6,g7,g8]) rfl (by first|exact⟨_,0,0,rfl,⟨_,_,_,_,_,_,_,_,_,rfl⟩,O9.out.more (λi hi s=>by rcases s with s|s;exact s;exact absurd hi (by omega))⟩|exact⟨_,⟨0,0,rfl⟩,⟨_,_,_,_,_,_,_,_,_,rfl⟩,O9.out.more (λi hi s=>by rcases s with s|s;exact s;exact absurd hi (by omega))⟩)
 ·
  obtain⟨y0,y1,y2,y3,y4,y5,y6,y7,y8⟩:=nineR RZ2.out
  have zf:=(RZ2.out).frozen
  have R9:=(RZ2.out).put9R (.int .i64 0) (.int .i64 0) (.int .i64 0) (.int .i64 0) (.int .i64 0) (.int .i64 0) (.bool false) (.bool false) (.bool false)
  have O9:=hid (O2.out.trans ((only9R w2 (w.heap.size+1) (.int .i64 0) (.int .i64 0) (.int .i64 0) (.int .i64 0) (.int .i64 0) (.int .i64 0) (.bool false) (.bool false) (.bool false)).more (S':=λk=>k=p∨w.heap.size≤k) (λ_ _ e=>by rw[e];exact .inr (by omega))) (λi hi s=>by rcases s with s | s;exact .inl s;exact .inr s))
  go_wp2_with fail
  generalize (((((((((w2.setCell ⟨(w.heap.size+1),0,none⟩ (.int .i64 0)).setCell ⟨(w.heap.size+1),1,none⟩ (.int .i64 0)).setCell ⟨(w.heap.size+1),2,none⟩ (.int .i64 0)).setCell ⟨(w.heap.size+1),3,none⟩ (.int .i64 0)).setCell ⟨(w.heap.size+1),4,none⟩ (.int .i64 0)).setCell ⟨(w.heap.size+1),5,none⟩ (.int .i64 0)).setCell ⟨(w.heap.size+1),6,none⟩ (.bool false)).setCell ⟨(w.heap.size+1),7,none⟩ (.bool false)).setCell ⟨(w.heap.size+1),8,none⟩ (.bool false))=W9 at *
  obtain⟨g0,g1',g2,g3,g4,g5,g6,g7,g8⟩:=nineR R9
  exact bodyPost_ret (v:=.tuple #[.agg #[.int .i64 0,.int .i64 0,.int .i64 0,.int .i64 0,.int .i64 0,.int .i64 0,.bool false,.bool false,.bool false],.int .i64 0,.int .i64 1]) (by simp[results,Tryz.results38,go_sem,g0,g1',g2,g3,g4,g5,g6,g7,g8]) rfl (by first|exact⟨_,0,1,rfl,⟨_,_,_,_,_,_,_,_,_,rfl⟩,O9.out.more (λi hi s=>by rcases s with s|s;exact s;exact absurd hi (by omega))⟩|exact⟨_,⟨0,1,rfl⟩,⟨_,_,_,_,_,_,_,_,_,rfl⟩,O9.out.more (λi hi s=>by rcases s with s|s;exact s;exact absurd hi (by omega))⟩)
end Go.Proofs.YtfbpjobobdidiaaGreatDoor
