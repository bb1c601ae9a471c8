/- The document's own engine of layer 16, where it is empty: what its calls answer that change nothing. -/
import Derived.Test.YtfbpjobobdidiaaGreatDoorRAm
import Derived.Deep.RegionWith
import Derived.Deep.DeepCutAuto
namespace Go.Proofs.YtfbpjobobdidiaaGreatDoor
open Lib (hid)
open Go.Proofs.Tryz
open Go.RowKit
set_option linter.unusedVariables false
set_option maxRecDepth 100000
abbrev emC (o:Opt):Array Value:=#[.int .i64 o.b0,.int .i64 o.b1,.int .i64 o.b2,.int .i64 o.b3,.int .i64 o.b4,.int .i64 o.b5,.int .i64 o.b6,.int .i64 o.b7,.int .i64 o.b8,.int .i64 o.b9,.int .i64 o.b10,.int .i64 o.b11,.int .i64 o.b12,.int .i64 o.b13,.slice none 0 0,.slice none 0 0,.slice none 0 0,.slice none 0 0,.slice none 0 0,.int .i64 0,.int .i64 0]
abbrev Em (w:World) (p:Nat) (o:Opt):Prop:=Row w p 110 (emC o)
theorem emCells {w:World} {p:Nat} {o:Opt} (h:Em w p o):w.cell? ⟨p,14,none⟩=some (.slice none 0 0)∧w.cell? ⟨p,15,none⟩=some (.slice none 0 0)∧w.cell? ⟨p,16,none⟩=some (.slice none 0 0)∧w.cell? ⟨p,17,none⟩=some (.slice none 0 0)∧w.cell? ⟨p,18,none⟩=some (.slice none 0 0)∧w.cell? ⟨p,19,none⟩=some (.int .i64 0)∧w.cell? ⟨p,20,none⟩=some (.int .i64 0):=by
 refine⟨?_,?_,?_,?_,?_,?_,?_⟩<;>(rw[h.cell];rfl)
theorem emB {w:World} {p:Nat} {o:Opt} (h:Em w p o):w.cell? ⟨p,0,none⟩=some (.int .i64 o.b0)∧w.cell? ⟨p,3,none⟩=some (.int .i64 o.b3)∧w.cell? ⟨p,4,none⟩=some (.int .i64 o.b4)∧w.cell? ⟨p,5,none⟩=some (.int .i64 o.b5)∧w.cell? ⟨p,9,none⟩=some (.int .i64 o.b9):=by
 refine⟨?_,?_,?_,?_,?_⟩<;>(rw[h.cell];rfl)
theorem Row.put7R {w:World} {g:Nat} {t:TypeId} {a0 a1 a2 a3 a4 a5 a6:Value} (h:Row w g t #[a0,a1,a2,a3,a4,a5,a6]) (x0 x1 x2 x3 x4 x5 x6:Value) :
  Row (((((((w.setCell ⟨g,0,none⟩ x0).setCell ⟨g,1,none⟩ x1).setCell ⟨g,2,none⟩ x2).setCell ⟨g,3,none⟩ x3).setCell ⟨g,4,none⟩ x4).setCell ⟨g,5,none⟩ x5).setCell ⟨g,6,none⟩ x6) g t #[x0,x1,x2,x3,x4,x5,x6]:=by
 have k:=((((((h.put 0 x0).put 1 x1).put 2 x2).put 3 x3).put 4 x4).put 5 x5).put 6 x6
 simpa using k
theorem only7R (w:World) (g:Nat) (x0 x1 x2 x3 x4 x5 x6:Value):Only (λk=>k=g) w (((((((w.setCell ⟨g,0,none⟩ x0).setCell ⟨g,1,none⟩ x1).setCell ⟨g,2,none⟩ x2).setCell ⟨g,3,none⟩ x3).setCell ⟨g,4,none⟩ x4).setCell ⟨g,5,none⟩ x5).setCell ⟨g,6,none⟩ x6):=by
 have st:∀(w':World) (i:Nat) (v:Value),Only (λk=>k=g) w w'→Only (λk=>k=g) w (w'.setCell ⟨g,i,none⟩ v):=λw' i v h=>h.into rfl i v
 exact st _ _ _ (st _ _ _ (st _ _ _ (st _ _ _ (st _ _ _ (st _ _ _ (st _ _ _ (Only.refl _ _)))))))
theorem sevenR {w:World} {g:Nat} {t:TypeId} {a0 a1 a2 a3 a4 a5 a6:Value} (h:Row w g t #[a0,a1,a2,a3,a4,a5,a6]):w.cell? ⟨g,0,none⟩=some a0∧w.cell? ⟨g,1,none⟩=some a1∧w.cell? ⟨g,2,none⟩=some a2∧w.cell? ⟨g,3,none⟩=some a3∧w.cell? ⟨g,4,none⟩=some a4∧w.cell? ⟨g,5,none⟩=some a5∧w.cell? ⟨g,6,none⟩=some a6:=by
 refine⟨?_,?_,?_,?_,?_,?_,?_⟩<;>(rw[h.cell];rfl)
theorem app_no44 (g:Nat) (ty:TypeId) (w:World):(Builtin.append_ #[44,44] ty #[.slice (some ⟨g,0,none⟩) 0 0,.slice none 0 0]).run prog w=.ok (.slice (some ⟨g,0,none⟩) 0 0) w:=by kernel_rfl
theorem rnew16 (o:Opt) (w:World):Calls prog 13 #[o.val] w λe w'=>∃p,e=.returned (.pointer (some ⟨p,0,none⟩))∧w.heap.size≤p∧Em w' p o∧Only n_ w w':=by
 have R:=λW:World=>Row.fresh W 110 (emC o)
 unfold Opt.val
 go_enter func13,ntmps13
 go_wp2_with fail
 go_ret
 have r:=R (w.alloc (.cells o.cells 23))
 rw[World.size_alloc] at r
 refine⟨_,rfl,?_,r,((Only.refl n_ w).alloc _).alloc _⟩
 omega
theorem rlane16 (o:Opt) (b:Int) (p:Nat) (w:World) (h:Em w p o):Calls prog 125 #[.pointer (some ⟨p,0,none⟩),.int .i64 b] w λe w'=>e=.returned (.slice none 0 0)∧w=w':=by
 obtain⟨c14,c15,c16,c17,c18,c19,c20⟩:=emCells h
 clear h
 go_enter func125,ntmps125
 go_wp2_with fail
 go_loopw [5,6] (λv i wr=>v=.slice none 0 0∧i=.int .i64 0∧w=wr) (λ_ _ _=>0)
 case atStart=>exact⟨rfl,rfl,rfl⟩
 case round =>
  obtain⟨rfl,rfl,rfl⟩:=hrel
  go_wp2_with fail
  go_ret
  exact⟨rfl,rfl⟩
theorem rhead16 (o:Opt) (b:Int) (p:Nat) (w:World) (h:Em w p o):Calls prog 87 #[.pointer (some ⟨p,0,none⟩),.int .i64 b] w λe w'=>e=.returned (.int .i64 (-1))∧w=w':=by
 have L:=hid (rlane16 o b p w h)
 clear h
 go_enter func87,ntmps87
 go_wp2_with fail
 (with_reducible refine (L.out).mono ?_)
 rintro e w1 ⟨rfl,rfl⟩
 go_wp2_with fail
 go_ret
 exact⟨rfl,rfl⟩
theorem rlast16 (o:Opt) (b:Int) (p:Nat) (w:World) (h:Em w p o):Calls prog 82 #[.pointer (some ⟨p,0,none⟩),.int .i64 b] w λe w'=>e=.returned (.int .i64 (-1))∧w=w':=by
 have L:=hid (rlane16 o b p w h)
 clear h
 go_enter func82,ntmps82
 go_wp2_with fail
 (with_reducible refine (L.out).mono ?_)
 rintro e w1 ⟨rfl,rfl⟩
 go_wp2_with fail
 go_ret
 exact⟨rfl,rfl⟩
theorem rcut16 (o:Opt) (b:Int) (p:Nat) (w:World) (h:Em w p o):Calls prog 41 #[.pointer (some ⟨p,0,none⟩),.int .i64 b] w λe w'=>e=.returned (.tuple #[.agg #[.int .i64 0,.int .i64 0,.int .i64 0,.int .i64 0,.int .i64 0,.int .i64 0,.bool false,.bool false,.bool false,.bool false],.bool false])∧Only n_ w w':=by
 have L:=hid (λx=>rhead16 o b p (w.alloc x) (h.alloc _))
 clear h
 go_enter func41,ntmps41
 go_wp2_with fail
 (with_reducible refine (L.out _).mono ?_)
 rintro e w1 ⟨rfl,rfl⟩
 go_wp2_with fail
 exact bodyPost_ret (v:=.tuple #[.agg #[.int .i64 0,.int .i64 0,.int .i64 0,.int .i64 0,.int .i64 0,.int .i64 0,.bool false,.bool false,.bool false,.bool false],.bool false]) (by simp[results,Tryz.results41,go_sem]) rfl ⟨rfl,(Only.refl n_ w).alloc _⟩
theorem rserve16 (o:Opt) (b:Int) (p:Nat) (w:World) (h:Em w p o):Calls prog 48 #[.pointer (some ⟨p,0,none⟩),.int .i64 b] w λe w'=>e=.returned (.tuple #[.agg #[.int .i64 0,.int .i64 0,.int .i64 0,.int .i64 0,.int .i64 0,.int .i64 0,.bool false,.bool false,.bool false],.slice none 0 0,.bool false])∧Only n_ w w':=by
 have L:=hid (λx=>rhead16 o b p (w.alloc x) (h.alloc _))
 clear h
 go_enter func48,ntmps48
 go_wp2_with fail
 (with_reducible refine (L.out _).mono ?_)
 rintro e w1 ⟨rfl,rfl⟩
 go_wp2_with fail
 exact bodyPost_ret (v:=.tuple #[.agg #[.int .i64 0,.int .i64 0,.int .i64 0,.int .i64 0,.int .i64 0,.int .i64 0,.bool false,.bool false,.bool false],.slice none 0 0,.bool false]) (by simp[results,Tryz.results48,go_sem]) rfl ⟨rfl,(Only.refl n_ w).alloc _⟩
theorem rfinish16 (o:Opt) (tag:Int) (well:Bool) (p:Nat) (w:World) (h:Em w p o):Calls prog 46 #[.pointer (some ⟨p,0,none⟩),.int .i64 tag,.bool well] w λe w'=>e=.returned (.tuple #[.slice none 0 0,.int .i64 3])∧w=w':=by
 obtain⟨c14,c15,c16,c17,c18,c19,c20⟩:=emCells h
 clear h
 go_enter func46,ntmps46
 go_wp2_with fail
 go_loopw [8,9] (λv i wr=>v=.int .i64 (-1)∧i=.int .i64 0∧w=wr) (λ_ _ _=>0)
 case atStart=>exact⟨rfl,rfl,rfl⟩
 case round =>
  obtain⟨rfl,rfl,rfl⟩:=hrel
  go_wp2_with fail
  exact bodyPost_ret (v:=.tuple #[.slice none 0 0,.int .i64 3]) (by simp[results,Tryz.results46,go_sem]) rfl ⟨rfl,rfl⟩
set_option maxHeartbeats 4000000 in
theorem rnext16 (o:Opt) (room:Int) (h5:1≤o.b5) (p:Nat) (w:World) (h:Em w p o):Calls prog 44 #[.pointer (some ⟨p,0,none⟩),.int .i64 room] w λe w'=>e=.returned (.tuple #[.agg #[.int .i64 0,.bool false,.int .i64 0,.int .i64 0,.slice none 0 0,.slice none 0 0,.slice none 0 0],.slice none 0 0,.bool false])∧Only n_ w w':=by
 obtain⟨c14,c15,c16,c17,c18,c19,c20⟩:=emCells h
 obtain⟨b0,b3,b4,b5,b9⟩:=emB h
 have t:¬ o.b5≤0:=by omega
 have t2:decide (o.b5≤0)=false:=decide_eq_false t
 obtain⟨W1,hW1⟩:∃W1,W1=w.alloc (.cells #[.int .i64 0,.bool false,.int .i64 0,.int .i64 0,.slice none 0 0,.slice none 0 0,.slice none 0 0] 47):=⟨_,rfl⟩
 have h1:Em W1 p o:=by rw[hW1];exact h.alloc _
 have o1:Only n_ w W1:=by rw[hW1];exact (Only.refl _ _).alloc _
 have RV:Row W1 w.heap.size 47 #[.int .i64 0,.bool false,.int .i64 0,.int .i64 0,.slice none 0 0,.slice none 0 0,.slice none 0 0]:=by rw[hW1];exact Row.fresh _ _ _
 clear c14 c15 c16 c17 c18 c19 c20 b0 b3 b4 b5 b9 h
 obtain⟨c14,c15,c16,c17,c18,c19,c20⟩:=emCells h1
 obtain⟨b0,b3,b4,b5,b9⟩:=emB h1
 go_enter func44,ntmps44
 go_upto_region 2 with fail
 rw[←hW1]
 clear hW1
 go_quiet (fail)
 have AP:=app_no44
 obtain⟨W2,hW2⟩:∃W2,W2=W1.drewN nq:=⟨_,rfl⟩
 have h2:Em W2 p o:=by rw[hW2];exact h1.drewN _
 have o2:Only n_ w W2:=by rw[hW2];exact o1.drewN _
 have RV2:Row W2 w.heap.size 47 #[.int .i64 0,.bool false,.int .i64 0,.int .i64 0,.slice none 0 0,.slice none 0 0,.slice none 0 0]:=by rw[hW2];exact RV.drewN _
 rw[←hW2]
 clear hW2 c14 c15 c16 c17 c18 c19 c20 b0 b3 b4 b5 b9
 obtain⟨c14,c15,c16,c17,c18,c19,c20⟩:=emCells h2
 have d15:∀ob,(W2.alloc ob).cell? ⟨p,15,none⟩=some (.slice none 0 0):=λob=>(emCells (h2.alloc ob)).2.1
 have d16:∀ob,(W2.alloc ob).cell? ⟨p,16,none⟩=some (.slice none 0 0):=λob=>(emCells (h2.alloc ob)).2.2.1
 go_upto_region 4 with fail
 go_region_with (fail)
 all_goals
  obtain⟨W3,hW3⟩:∃W3,W3=(W2.alloc (.cells #[] 3)).drew:=⟨_,rfl⟩
  have o3:Only n_ w W3:=by rw[hW3];exact (o2.alloc _).drew
  have RV3:Row W3 w.heap.size 47 #[.int .i64 0,.bool false,.int .i64 0,.int .i64 0,.slice none 0 0,.slice none 0 0,.slice none 0 0]:=by rw[hW3];exact (RV2.alloc _).drew
  rw[←hW3]
  clear hW3
  go_wp2_with fail
  go_loopw [7,9] (λv i wr=>v=.slice none 0 0∧i=.int .i64 0∧W3=wr) (λ_ _ _=>0)
  case atStart=>exact⟨rfl,rfl,rfl⟩
  case round =>
   obtain⟨rfl,rfl,rfl⟩:=hrel
   obtain⟨e0,e1,e2,e3,e4,e5,e6⟩:=sevenR RV3
   have zf:=RV3.frozen
   have R7:=RV3.put7R (.int .i64 0) (.bool false) (.int .i64 0) (.int .i64 0) (.slice none 0 0) (.slice none 0 0) (.slice none 0 0)
   have O7:=hid (o3.trans ((only7R W3 w.heap.size (.int .i64 0) (.bool false) (.int .i64 0) (.int .i64 0) (.slice none 0 0) (.slice none 0 0) (.slice none 0 0)).more (S':=λk=>w.heap.size≤k) (λ_ _ e=>by rw[e];exact Nat.le_refl _)) (λi hi s=>absurd hi (by omega)))
   go_wp2_with fail
   generalize (((((((W3.setCell ⟨w.heap.size,0,none⟩ (.int .i64 0)).setCell ⟨w.heap.size,1,none⟩ (.bool false)).setCell ⟨w.heap.size,2,none⟩ (.int .i64 0)).setCell ⟨w.heap.size,3,none⟩ (.int .i64 0)).setCell ⟨w.heap.size,4,none⟩ (.slice none 0 0)).setCell ⟨w.heap.size,5,none⟩ (.slice none 0 0)).setCell ⟨w.heap.size,6,none⟩ (.slice none 0 0))=W7 at *
   obtain⟨g0,g1,g2,g3,g4,g5,g6⟩:=sevenR R7
   exact bodyPost_ret (v:=.tuple #[.agg #[.int .i64 0,.bool false,.int .i64 0,.int .i64 0,.slice none 0 0,.slice none 0 0,.slice none 0 0],.slice none 0 0,.bool false]) (by simp[results,Tryz.results44,go_sem,g0,g1,g2,g3,g4,g5,g6]) rfl ⟨rfl,O7.out⟩
theorem rquit16 (o:Opt) (r:Int) (p:Nat) (w:World) (h:Em w p o):Calls prog 42 #[.pointer (some ⟨p,0,none⟩),.int .i64 r] w λe w'=>e=.returned (.tuple #[.slice none 0 0,.int .i64 0])∧Only (λk=>k=p) w w':=by
 obtain⟨c14,c15,c16,c17,c18,c19,c20⟩:=emCells h
 have zf:=h.frozen
 have od:=(Only.refl (λk=>k=p) w).into rfl 17 (.slice none 0 0)
 clear h
 go_enter func42,ntmps42
 go_wp2_with fail
 go_loopw [6,7,8] (λv u i wr=>v=.slice none 0 0∧u=.slice none 0 0∧i=.int .i64 0∧w=wr) (λ_ _ _ _=>0)
 case atStart=>exact⟨rfl,rfl,rfl,rfl⟩
 case round =>
  obtain⟨rfl,rfl,rfl,rfl⟩:=hrel
  go_wp2_with fail
  go_loopw [10,11] (λv i wr=>v=.slice none 0 0∧i=.int .i64 0∧w.setCell ⟨p,17,none⟩ (.slice none 0 0)=wr) (λ_ _ _=>0)
  case atStart=>exact⟨rfl,rfl,rfl⟩
  case round =>
   obtain⟨rfl,rfl,rfl⟩:=hrel
   go_wp2_with fail
   exact bodyPost_ret (v:=.tuple #[.slice none 0 0,.int .i64 0]) (by simp[results,Tryz.results42,go_sem]) rfl ⟨rfl,od⟩
end Go.Proofs.YtfbpjobobdidiaaGreatDoor
