/- Texts of the layers below, one behind the other. -/
import Derived.Test.YtfbpjobobdidiaaGreatDoorQG05
import Derived.Test.YtfbpjobobdidiaaGreatDoorQG01
import Derived.Test.YtfbpjobobdidiaaGreatDoorQG02
import Derived.Test.YtfbpjobobdidiaaGreatDoorQG00
import Derived.BigRegion
import Derived.BigQuiet
import Derived.Test.YtfbpjobobdidiaaGreatDoorRows
import Derived.ProofKit
import Derived.OpenShut
import Derived.LaidMore
import Derived.Lay
import Derived.Lib.LaidU8
import Derived.Stop.Joined
import Derived.Test.YtfbpjobobdidiaaGreatDoorQG04
import Derived.Maps.AppendAt
namespace Go.Proofs.YtfbpjobobdidiaaGreatDoor
open Lib (hid)
open Go.RowKit
set_option linter.unusedVariables false
set_option maxRecDepth 100000
theorem rhas_any (r:Rn) (x:Int) (w:World) (hx:x≤9223372036854775807) :
  Calls Tryz.prog 51 #[r.val,.int .i64 x] w λe w'=>e=.returned (.bool (decide (r.Has x)))∧Only none_ w w':=by
 have RM:=hid (λw=>rmay_any r w)
 by_cases h:r.Ok
 ·rw[decide_eq_true h] at RM
  have h':=h
  unfold Rn.Ok at h'
  by_cases k:r.f≤x
  ·have v:IntKind.i64.wrap (x-r.f)=x-r.f:=by rw[IntKind.wrap_i64];omega
   have t1:decide (r.f≤x)=true:=decide_eq_true k
   by_cases j:x-r.f<r.c
   ·have t2:decide (x-r.f<r.c)=true:=decide_eq_true j
    rw[show decide (r.Has x)=true from decide_eq_true ⟨h,k,j⟩]
    clear h h' k j hx
    unfold Rn.val at *
    go_enter Tryz.func51,Tryz.ntmps51
    go_wp2_with fail
    (with_reducible refine (RM.out _).mono ?_)
    rintro e w2 ⟨rfl,o⟩
    have R:=hid (o.still (Row.fresh w 43 #[.int .i64 r.f,.int .i64 r.c]))
    have O:=hid (((Only.refl none_ w).alloc (.cells #[.int .i64 r.f,.int .i64 r.c] 43)).same o)
    obtain⟨c0,c1⟩:=R.out.two
    clear o
    go_wp2_with fail
    go_ret
    exact⟨rfl,O.out⟩
   ·have t2:decide (x-r.f<r.c)=false:=decide_eq_false j
    rw[show decide (r.Has x)=false from decide_eq_false (λq=>j q.2.2)]
    clear h h' k j hx
    unfold Rn.val at *
    go_enter Tryz.func51,Tryz.ntmps51
    go_wp2_with fail
    (with_reducible refine (RM.out _).mono ?_)
    rintro e w2 ⟨rfl,o⟩
    have R:=hid (o.still (Row.fresh w 43 #[.int .i64 r.f,.int .i64 r.c]))
    have O:=hid (((Only.refl none_ w).alloc (.cells #[.int .i64 r.f,.int .i64 r.c] 43)).same o)
    obtain⟨c0,c1⟩:=R.out.two
    clear o
    go_wp2_with fail
    go_ret
    exact⟨rfl,O.out⟩
  ·have t1:decide (r.f≤x)=false:=decide_eq_false k
   rw[show decide (r.Has x)=false from decide_eq_false (λq=>k q.2.1)]
   clear h h' k hx
   unfold Rn.val at *
   go_enter Tryz.func51,Tryz.ntmps51
   go_wp2_with fail
   (with_reducible refine (RM.out _).mono ?_)
   rintro e w2 ⟨rfl,o⟩
   have R:=hid (o.still (Row.fresh w 43 #[.int .i64 r.f,.int .i64 r.c]))
   have O:=hid (((Only.refl none_ w).alloc (.cells #[.int .i64 r.f,.int .i64 r.c] 43)).same o)
   obtain⟨c0,c1⟩:=R.out.two
   clear o
   go_wp2_with fail
   go_ret
   exact⟨rfl,O.out⟩
 ·rw[decide_eq_false h] at RM
  rw[show decide (r.Has x)=false from decide_eq_false (λq=>h q.1)]
  clear h hx
  unfold Rn.val at *
  go_enter Tryz.func51,Tryz.ntmps51
  go_wp2_with fail
  (with_reducible refine (RM.out _).mono ?_)
  rintro e w2 ⟨rfl,o⟩
  have O:=hid (((Only.refl none_ w).alloc (.cells #[.int .i64 r.f,.int .i64 r.c] 43)).same o)
  clear o
  go_wp2_with fail
  go_ret
  exact⟨rfl,O.out⟩
end Go.Proofs.YtfbpjobobdidiaaGreatDoor
namespace Go.Proofs.YtfbpjobobdidiaaGreatDoor
open Lib (hid)
open Go.RowKit Go.Maps
set_option linter.unusedVariables false
set_option maxRecDepth 100000
structure WAt (w:World) (p b:Nat) (room came:Nat) (es:List En):Prop where
 row:Row w p 150 #[.int .i64 room,.map (some b),.int .i64 came]
 md:Md14 w b es
 fine:FineE came es
 good:GoodR room (seats es)
theorem WAt.keep {w w':World} {p b room came:Nat} {es:List En} (h:WAt w p b room came es) {S:Nat→Prop} (o:Only S w w') (hp:¬ S p) (hb:¬ S b):WAt w' p b room came es:=⟨o.row h.row hp,h.md.keep o hb,h.fine,h.good⟩
theorem WAt.still {w w':World} {p b room came:Nat} {es:List En} (h:WAt w p b room came es) (o:Only none_ w w'):WAt w' p b room came es:=h.keep o (λs=>s) (λs=>s)
theorem WAt.once {w:World} {p b room came:Nat} {es:List En} (h:WAt w p b room came es):OnceE es:=once_of h.good.once
theorem WAt.len {w:World} {p b room came:Nat} {es:List En} (h:WAt w p b room came es):es.length≤64:=by
 have h1:=h.good.len
 have h2:=h.good.high
 rw[seats_len] at h1
 omega
theorem WAt.ne {w:World} {p b room came:Nat} {es:List En} (h:WAt w p b room came es):p≠b:=h.md.ne h.row
abbrev two14 (p b:Nat):Nat→Prop:=λk=>k=p∨k=b
structure WG (w:World) (p:Nat) (M:Nat→Prop) (room L:Nat) (ss:List Sx):Prop where
 good:GoodR room ss
 ex:∃b came es,WAt w p b room came es∧seats es=ss∧came≤L∧M p∧M b
 lt:∀g,M g→g<w.heap.size
theorem WG.keep {w w':World} {p:Nat} {M:Nat→Prop} {room L:Nat} {ss:List Sx} (h:WG w p M room L ss) {S:Nat→Prop} (o:Only S w w') (hn:∀g,M g→¬ S g):WG w' p M room L ss:=by
 obtain⟨b,came,es,h1,h2,h3,mp,mb⟩:=h.ex
 exact⟨h.good,⟨b,came,es,h1.keep o (hn p mp) (hn b mb),h2,h3,mp,mb⟩,λg hg=>Nat.lt_of_lt_of_le (h.lt g hg) o.size⟩
theorem WG.still {w w':World} {p:Nat} {M:Nat→Prop} {room L:Nat} {ss:List Sx} (h:WG w p M room L ss) (o:Only none_ w w'):WG w' p M room L ss:=h.keep o (λ_ _ s=>s)
theorem WG.up {w:World} {p:Nat} {M:Nat→Prop} {room L:Nat} {ss:List Sx} (h:WG w p M room L ss) {L':Nat} (k:L≤L'):WG w p M room L' ss:=by
 obtain⟨b,came,es,h1,h2,h3,r⟩:=h.ex
 exact⟨h.good,⟨b,came,es,h1,h2,Nat.le_trans h3 k,r⟩,h.lt⟩
def WGto (w:World) (p:Nat) (M:Nat→Prop) (room L:Nat) (ss:List Sx) (w':World):Prop:=(∃M':Nat→Prop,WG w' p M' room L ss∧∀g,M' g→M g∨w.heap.size≤g)∧Only M w w'
def WGtoV (w:World) (p:Nat) (M:Nat→Prop) (room L:Nat) (ss:List Sx) (v:Value) (w':World):Prop:=(∃M':Nat→Prop,WG w' p M' room L ss∧(∀g,M' g→M g∨w.heap.size≤g)∧∀g,v.ownBlock=some g→¬ M' g)∧Only M w w'
theorem WGtoV.to {w w':World} {p:Nat} {M:Nat→Prop} {room L:Nat} {ss:List Sx} {v:Value} (h:WGtoV w p M room L ss v w'):WGto w p M room L ss w':=⟨h.1.imp (λM' h=>⟨h.1,h.2.1⟩),h.2⟩
theorem WG.went {w w':World} {p b room came L L':Nat} {M:Nat→Prop} {ss:List Sx} {es:List En} (h:WG w p M room L ss) (mp:M p) (mb:M b) (k:WAt w' p b room came es) (hl:came≤L') (o:Only (two14 p b) w w'):WGto w p M room L' (seats es) w':=
 ⟨⟨M,⟨k.good,⟨b,came,es,k,rfl,hl,mp,mb⟩,λg hg=>Nat.lt_of_lt_of_le (h.lt g hg) o.size⟩,λg hg=>.inl hg⟩,o.more (λi _ k=>by rcases k with rfl|rfl<;>assumption)⟩
theorem WG.wentV {w w':World} {p b room came L L':Nat} {M:Nat→Prop} {ss:List Sx} {es:List En} {v:Value} (h:WG w p M room L ss) (mp:M p) (mb:M b) (k:WAt w' p b room came es) (hl:came≤L') (o:Only (two14 p b) w w') (hv:∀g,v.ownBlock=some g→w.heap.size≤g):WGtoV w p M room L' (seats es) v w':=
 ⟨⟨M,⟨k.good,⟨b,came,es,k,rfl,hl,mp,mb⟩,λg hg=>Nat.lt_of_lt_of_le (h.lt g hg) o.size⟩,λg hg=>.inl hg,λg hg hm=>by have:=hv g hg;have:=h.lt g hm;omega⟩,o.more (λi _ k=>by rcases k with rfl|rfl<;>assumption)⟩
theorem wnew_yes (room:Nat) (w:World) (h1:1≤room) (h2:room≤64) :
  Calls Tryz.prog 36 #[.int .i64 room] w λe w'=>∃p,e=.returned (.tuple #[.pointer (some ⟨p,0,none⟩),.int .i64 0])∧(∃M,WG w' p M room 0 []∧∀g,M g→w.heap.size≤g)∧Only none_ w w':=by
 have hmm:=@run_makeMap Tryz.prog
 have d1:decide ((room:Int)<1)=false:=by simp;omega
 have d2:decide ((64:Int)<(room:Int))=false:=by simp;omega
 have GN:=hid (good_nil h1 h2)
 clear h1 h2
 go_enter Tryz.func36,Tryz.ntmps36
 go_wp2
 go_ret2
 have o0:=World.ownsMap_made (H:=Unit) w Tryz.prog 36 stElem
 have r1:=Row.fresh (w.alloc (.map #[] 0)) 150 #[.int .i64 room,.map (some w.heap.size),.int .i64 0]
 simp only[World.size_alloc] at r1
 refine⟨w.heap.size+1,rfl,⟨two14 (w.heap.size+1) w.heap.size,⟨GN.out,⟨w.heap.size,0,[],⟨r1,⟨_,o0.alloc _,Reads14.nil⟩,fine_nil 0,GN.out⟩,rfl,Nat.le_refl _,.inl rfl,.inr rfl⟩,λg hg=>?_⟩,λg hg=>?_⟩,((Only.refl _ _).alloc _).alloc _⟩
 ·simp only[World.size_alloc]
  rcases hg with rfl | rfl<;>omega
 ·rcases hg with rfl | rfl<;>omega
theorem may25_any (x:Wt) (w:World) :
  Calls Tryz.prog 114 #[.agg #[.int .i64 x.r,.int .i64 x.p]] w λe w'=>e=.returned (.bool (decide (1≤x.r∧0≤x.p∧x.p<8)))∧Only none_ w w':=by
 have O1:=hid ((Only.refl none_ w).alloc (.cells #[.int .i64 x.r,.int .i64 x.p] 36))
 have c0:(w.alloc (.cells #[.int .i64 x.r,.int .i64 x.p] 36)).cell? ⟨w.heap.size,0,none⟩=some (.int .i64 x.r):=by rw[(Row.fresh _ _ _).cell];rfl
 have c1:(w.alloc (.cells #[.int .i64 x.r,.int .i64 x.p] 36)).cell? ⟨w.heap.size,1,none⟩=some (.int .i64 x.p):=by rw[(Row.fresh _ _ _).cell];rfl
 by_cases h1:1≤x.r
 ·have t1:decide (1≤x.r)=true:=decide_eq_true h1
  by_cases h2:0≤x.p
  ·have t2:decide (0≤x.p)=true:=decide_eq_true h2
   have E:=hid (show decide (1≤x.r∧0≤x.p∧x.p<8)=decide (x.p<8) from by simp[h1,h2])
   rw[E.out]
   clear h1 h2
   go_enter Tryz.func114,Tryz.ntmps114
   go_wp2
   go_ret
   exact⟨rfl,O1.out⟩
  ·have t2:decide (0≤x.p)=false:=decide_eq_false h2
   have E:=hid (show decide (1≤x.r∧0≤x.p∧x.p<8)=false from decide_eq_false (λk=>h2 k.2.1))
   rw[E.out]
   clear h1 h2
   go_enter Tryz.func114,Tryz.ntmps114
   go_wp2
   go_ret
   exact⟨rfl,O1.out⟩
 ·have t1:decide (1≤x.r)=false:=decide_eq_false h1
  have E:=hid (show decide (1≤x.r∧0≤x.p∧x.p<8)=false from decide_eq_false (λk=>h1 k.1))
  rw[E.out]
  clear h1
  go_enter Tryz.func114,Tryz.ntmps114
  go_wp2
  go_ret
  exact⟨rfl,O1.out⟩
set_option maxHeartbeats 1000000 in
theorem waits19 {p b room came:Nat} {es:List En} (x:Wt) (wx:wfW x) (w:World) (h:WAt w p b room came es) :
  Calls Tryz.prog 107 #[.pointer (some ⟨p,0,none⟩),.agg #[.int .i64 x.r,.int .i64 x.p]] w λe w'=>e=.returned (.bool (hasE es x))∧Only none_ w w':=by
 obtain⟨W1,hW1⟩:∃W1,W1=w.alloc (.cells #[.int .i64 x.r,.int .i64 x.p] 36):=⟨_,rfl⟩
 have o1:Only none_ w W1:=by rw[hW1];exact (Only.refl none_ w).alloc _
 have OZ:=hid (((Only.refl none_ W1).alloc (.cells #[.int .i64 0,.int .i64 0] 193)).drew)
 have XR:Row W1 w.heap.size 36 #[.int .i64 x.r,.int .i64 x.p]:=by rw[hW1];exact Row.fresh _ _ _
 have c2:W1.drew.cell? ⟨p,1,none⟩=some (.map (some b)):=by show W1.cell? _=_;rw[(o1.still h.row).cell];rfl
 have x0:W1.drew.cell? ⟨w.heap.size,0,none⟩=some (.int .i64 x.r):=by show W1.cell? _=_;rw[XR.cell];rfl
 have x1:W1.drew.cell? ⟨w.heap.size,1,none⟩=some (.int .i64 x.p):=by show W1.cell? _=_;rw[XR.cell];rfl
 have c2z:((W1.alloc (.cells #[.int .i64 0,.int .i64 0] 193)).drew).cell? ⟨p,1,none⟩=some (.map (some b)):=OZ.out.cell (show W1.cell? _=_ from c2) (λs=>s)
 have x0z:((W1.alloc (.cells #[.int .i64 0,.int .i64 0] 193)).drew).cell? ⟨w.heap.size,0,none⟩=some (.int .i64 x.r):=OZ.out.cell (show W1.cell? _=_ from x0) (λs=>s)
 have x1z:((W1.alloc (.cells #[.int .i64 0,.int .i64 0] 193)).drew).cell? ⟨w.heap.size,1,none⟩=some (.int .i64 x.p):=OZ.out.cell (show W1.cell? _=_ from x1) (λs=>s)
 have LK:=((h.md.still o1).still ((Only.refl none_ W1).drew)).look h.once wx
 have LZ:=((h.md.still o1).still OZ.out).look h.once wx
 have O1:=hid o1
 unfold stVal at LK LZ
 generalize tick es x=tk at LK LZ
 generalize turn es x=tn at LK LZ
 generalize hasE es x=hs at LK LZ ⊢
 clear h o1 XR wx
 go_enter Tryz.func107,Tryz.ntmps107
 go_wp2_with fail
 rw[←hW1]
 clear hW1
 go_region
 all_goals (try go_wp2_with fail)
 all_goals go_ret
 all_goals first
  | exact⟨rfl,(O1.out.drew).alloc _⟩
  | exact⟨rfl,(O1.out.alloc _).drew⟩
theorem free23 {p b room came:Nat} {es:List En} (w:World) (h:WAt w p b room came es) :
  Calls Tryz.prog 53 #[.pointer (some ⟨p,0,none⟩)] w λe w'=>e=.returned (.int .i64 ((room:Int)-(es.length:Int)))∧Only none_ w w':=by
 have c0:w.cell? ⟨p,0,none⟩=some (.int .i64 room):=by rw[h.row.cell];rfl
 have c1:w.cell? ⟨p,1,none⟩=some (.map (some b)):=by rw[h.row.cell];rfl
 have LE:=λn ty=>(h.md.still ((Only.refl none_ w).drewN n)).len h.once ty
 have v1:IntKind.i64.wrap ((room:Int)-(es.length:Int))=(room:Int)-(es.length:Int):=by have:=h.len;have:=h.good.high;rw[IntKind.wrap_i64];omega
 generalize es.length=len at *
 clear h
 go_enter Tryz.func53,Tryz.ntmps53
 go_wp2_with fail
 go_quiet (fail)
 go_wp2_with fail
 go_ret
 exact⟨rfl,(Only.refl _ _).drewN _⟩
theorem less31 {p b room came:Nat} {es:List En} (w:World) (h:WAt w p b room came es) (x y:Wt) (wx:wfW x) (wy:wfW y) :
  Calls Tryz.prog 123 #[.pointer (some ⟨p,0,none⟩),.agg #[.int .i64 x.r,.int .i64 x.p],.agg #[.int .i64 y.r,.int .i64 y.p]] w λe w'=>e=.returned (.int .i64 (kcmp (λz=>(turn es z:Int)) x y))∧Only none_ w w':=by
 obtain⟨W1,hW1⟩:∃W1,W1=(w.alloc (.cells #[.int .i64 x.r,.int .i64 x.p] 36)).alloc (.cells #[.int .i64 y.r,.int .i64 y.p] 36):=⟨_,rfl⟩
 have o1:Only none_ w W1:=by rw[hW1];exact ((Only.refl none_ w).alloc _).alloc _
 have XR:Row W1 w.heap.size 36 #[.int .i64 x.r,.int .i64 x.p]:=by rw[hW1];exact (Row.fresh _ _ _).alloc _
 have YR:Row W1 (w.heap.size+1) 36 #[.int .i64 y.r,.int .i64 y.p]:=by
  rw[hW1]
  have:=Row.fresh (w.alloc (.cells #[.int .i64 x.r,.int .i64 x.p] 36)) 36 #[.int .i64 y.r,.int .i64 y.p]
  rwa [World.size_alloc] at this
 have c1:W1.cell? ⟨p,1,none⟩=some (.map (some b)):=by rw[(o1.still h.row).cell];rfl
 obtain⟨x0,x1⟩:=XR.two
 obtain⟨y0,y1⟩:=YR.two
 have GX:=λn=>((h.md.still o1).still ((Only.refl none_ W1).drewN n)).get h.once wx
 have GY:=λn=>((h.md.still o1).still ((Only.refl none_ W1).drewN n)).get h.once wy
 have CM:=hid (λW=>Tryz.cmp_Compare_int (turn es x) (turn es y) W)
 have O1:=hid o1
 unfold kcmp
 dsimp only
 unfold stVal at GX GY
 have FX:=λ(W:World)=>(show (Instr.field 193 (.agg #[.int .i64 (tick es x),.int .i64 (turn es x)]) 1).run Tryz.prog W=.ok (.int .i64 (turn es x)) W from by kernel_rfl)
 have FY:=λ(W:World)=>(show (Instr.field 193 (.agg #[.int .i64 (tick es y),.int .i64 (turn es y)]) 1).run Tryz.prog W=.ok (.int .i64 (turn es y)) W from by kernel_rfl)
 generalize tick es x=tx at GX FX
 generalize tick es y=ty at GY FY
 generalize (turn es x:Int)=nx at GX CM FX ⊢
 generalize (turn es y:Int)=ny at GY CM FY ⊢
 clear h o1 XR YR wx wy
 go_enter Tryz.func123,Tryz.ntmps123
 go_wp2_with fail
 rw[←hW1]
 clear hW1
 go_quiet ((go_at_call 154;exact Calls.quiet_of_same (CM.out _)))
 go_wp2_with fail
 go_ret
 exact⟨rfl,O1.out.drewN _⟩
end Go.Proofs.YtfbpjobobdidiaaGreatDoor
namespace Go.Proofs.YtfbpjobobdidiaaGreatDoor
open Lib (hid)
open Go.RowKit
set_option linter.unusedVariables false
set_option maxRecDepth 100000
theorem three_new (w:World) (t0 t1 t2:TypeId) (c0 c1 c2:Array Value) :
  Row (((w.alloc (.cells c0 t0)).alloc (.cells c1 t1)).alloc (.cells c2 t2)) w.heap.size t0 c0∧Row (((w.alloc (.cells c0 t0)).alloc (.cells c1 t1)).alloc (.cells c2 t2)) (w.heap.size+1) t1 c1 ∧
  Row (((w.alloc (.cells c0 t0)).alloc (.cells c1 t1)).alloc (.cells c2 t2)) (w.heap.size+1+1) t2 c2∧Only none_ w (((w.alloc (.cells c0 t0)).alloc (.cells c1 t1)).alloc (.cells c2 t2)):=by
 have r1:=Row.fresh (w.alloc (.cells c0 t0)) t1 c1
 have r2:=Row.fresh ((w.alloc (.cells c0 t0)).alloc (.cells c1 t1)) t2 c2
 simp only[World.size_alloc] at r1 r2
 exact⟨((Row.fresh w t0 c0).alloc _).alloc _,r1.alloc _,r2,(((Only.refl none_ w).alloc _).alloc _).alloc _⟩
theorem four_new (w:World) (t0 t1 t2 t3:TypeId) (c0 c1 c2 c3:Array Value) :
  Row ((((w.alloc (.cells c0 t0)).alloc (.cells c1 t1)).alloc (.cells c2 t2)).alloc (.cells c3 t3)) w.heap.size t0 c0∧Row ((((w.alloc (.cells c0 t0)).alloc (.cells c1 t1)).alloc (.cells c2 t2)).alloc (.cells c3 t3)) (w.heap.size+1) t1 c1 ∧
  Row ((((w.alloc (.cells c0 t0)).alloc (.cells c1 t1)).alloc (.cells c2 t2)).alloc (.cells c3 t3)) (w.heap.size+1+1) t2 c2∧Row ((((w.alloc (.cells c0 t0)).alloc (.cells c1 t1)).alloc (.cells c2 t2)).alloc (.cells c3 t3)) (w.heap.size+1+1+1) t3 c3 ∧
  Only none_ w ((((w.alloc (.cells c0 t0)).alloc (.cells c1 t1)).alloc (.cells c2 t2)).alloc (.cells c3 t3)):=by
 obtain⟨h0,h1,h2,o⟩:=three_new w t0 t1 t2 c0 c1 c2
 have r3:=Row.fresh (((w.alloc (.cells c0 t0)).alloc (.cells c1 t1)).alloc (.cells c2 t2)) t3 c3
 simp only[World.size_alloc] at r3
 exact⟨h0.alloc _,h1.alloc _,h2.alloc _,r3,o.alloc _⟩
set_option maxHeartbeats 2000000 in
theorem rmeet_any (a b:Rn) (w:World) :
  Calls Tryz.prog 16 #[a.val,b.val] w λe w'=>e=.returned (meet a b).val∧Only none_ w w':=by
 have RA:=hid (λ(i:Nat) (h:i<256) w=>rhas_any a (i:Int) w (by omega))
 have RB:=hid (λ(i:Nat) (h:i<256) w=>rhas_any b (i:Int) w (by omega))
 have PZ:=hid (part_zero a b)
 have PA:=hid (part_all a b)
 unfold Rn.val at *
 go_enter Tryz.func16,Tryz.ntmps16
 go_wp2_with fail
 obtain⟨q0,q1,q2,q3,q4⟩:=four_new w 43 43 43 43 #[.int .i64 a.f,.int .i64 a.c] #[.int .i64 b.f,.int .i64 b.c] #[.int .i64 0,.int .i64 0] #[.int .i64 0,.int .i64 0]
 have A0:=hid q0
 have B0:=hid q1
 have C0:=hid q2
 have D0:=hid q3
 have O0:=hid q4
 clear q0 q1 q2 q3 q4
 revert A0 B0 C0 D0 O0
 generalize (((w.alloc (.cells #[.int .i64 a.f,.int .i64 a.c] 43)).alloc (.cells #[.int .i64 b.f,.int .i64 b.c] 43)).alloc (.cells #[.int .i64 0,.int .i64 0] 43)).alloc (.cells #[.int .i64 0,.int .i64 0] 43)=W1
 generalize hg3:w.heap.size+1+1+1=g3
 generalize hg2:w.heap.size+1+1=g2
 generalize hg1:w.heap.size+1=g1
 generalize hg0:w.heap.size=g0
 intro A0 B0 C0 D0 O0
 have GW:=hid (show (w.heap.size=g0∧g1=g0+1∧g2=g0+2∧g3=g0+3) from by omega)
 clear hg0 hg1 hg2 hg3
 go_loopw [6] (λi wr=>∃k:Nat,k≤256∧i=.int .i64 k∧Row wr g3 43 #[.int .i64 (part13 a b k).f,.int .i64 (part13 a b k).c]∧Row wr g0 43 #[.int .i64 a.f,.int .i64 a.c]∧Row wr g1 43 #[.int .i64 b.f,.int .i64 b.c]∧Row wr g2 43 #[.int .i64 0,.int .i64 0]∧Only none_ w wr) (λi _=>256-(intOf i).toNat)
 case atStart=>exact⟨0,Nat.zero_le _,rfl,by rw[show ((0:Nat):Int)=0 from rfl,PZ.out];exact D0.out,A0.out,B0.out,C0.out,O0.out⟩
 case round =>
  obtain⟨k,hk,rfl,hd,ha,hb,hc,o⟩:=hrel
  have O:=hid o
  have A:=hid ha
  have B:=hid hb
  have C:=hid hc
  have D:=hid hd
  clear A0 B0 C0 D0 O0 ha hb hc hd o
  by_cases hlt:k<256
  ·have RAK:=hid (RA.out k hlt)
   have RBK:=hid (RB.out k hlt)
   have t0:decide ((k:Int)<256)=true:=decide_eq_true (by omega)
   have HK:=hid hlt
   have HB:k≤1000000:=by omega
   clear hk hlt RA RB
   obtain⟨a0,a1⟩:=A.out.two
   obtain⟨b0,b1⟩:=B.out.two
   by_cases h1:a.Has (k:Int)
   ·rw[decide_eq_true h1] at RAK
    by_cases h2:b.Has (k:Int)
    ·rw[decide_eq_true h2] at RBK
     rcases part_new h1 h2 with ⟨e1,e2⟩|⟨f,c,e1,e2,e3,e4,e5⟩
     ·rw[e1] at D
      have MORE:=hid e2
      clear e1 e2 h1 h2
      go_wp2_with fail
      (with_reducible refine (RAK.out _).mono ?_)
      rintro e w2 ⟨rfl,o2⟩
      have A2:=hid (o2.still A.out)
      have B2:=hid (o2.still B.out)
      have C2:=hid (o2.still C.out)
      have D2:=hid (o2.still D.out)
      have O2:=hid (O.out.same o2)
      clear A B C D O o2 a0 a1 b0 b1
      obtain⟨b0,b1⟩:=B2.out.two
      go_wp2_with fail
      (with_reducible refine (RBK.out _).mono ?_)
      rintro e w3 ⟨rfl,o2⟩
      have A3:=hid (o2.still A2.out)
      have B3:=hid (o2.still B2.out)
      have C3:=hid (o2.still C2.out)
      have D3:=hid (o2.still D2.out)
      have O3:=hid (O2.out.same o2)
      clear A2 B2 C2 D2 O2 o2 b0 b1
      obtain⟨d0,d1⟩:=D3.out.two
      have f0:=D3.out.frozen 0
      have f1:=D3.out.frozen 1
      go_wp2_with fail
      go_roundw
      case rel =>
       have G:=GW.out
       refine⟨k+1,HK.out,by go_num,?_,(A3.out.far (by show g0≠g3;omega) _).far (by show g0≠g3;omega) _,(B3.out.far (by show g1≠g3;omega) _).far (by show g1≠g3;omega) _,(C3.out.far (by show g2≠g3;omega) _).far (by show g2≠g3;omega) _,(O3.out.new (by omega) _ _).new (by omega) _ _⟩
       rw[show ((k+1:Nat):Int)=(k:Int)+1 from rfl,MORE.out]
       exact (D3.out.put 0 _).put 1 _
      case measure=>have:=HK.out;simp[intOf];omega
     ·rw[e1] at D
      have MORE:=hid e5
      have t:(c==0)=false:=by simp[e2]
      have v:IntKind.i64.wrap (c+1)=c+1:=by rw[IntKind.wrap_i64];omega
      clear e1 e2 e3 e4 e5 h1 h2
      go_wp2_with fail
      (with_reducible refine (RAK.out _).mono ?_)
      rintro e w2 ⟨rfl,o2⟩
      have A2:=hid (o2.still A.out)
      have B2:=hid (o2.still B.out)
      have C2:=hid (o2.still C.out)
      have D2:=hid (o2.still D.out)
      have O2:=hid (O.out.same o2)
      clear A B C D O o2 a0 a1 b0 b1
      obtain⟨b0,b1⟩:=B2.out.two
      go_wp2_with fail
      (with_reducible refine (RBK.out _).mono ?_)
      rintro e w3 ⟨rfl,o2⟩
      have A3:=hid (o2.still A2.out)
      have B3:=hid (o2.still B2.out)
      have C3:=hid (o2.still C2.out)
      have D3:=hid (o2.still D2.out)
      have O3:=hid (O2.out.same o2)
      clear A2 B2 C2 D2 O2 o2 b0 b1
      obtain⟨d0,d1⟩:=D3.out.two
      have f1:=D3.out.frozen 1
      go_wp2_with fail
      go_roundw
      case rel =>
       have G:=GW.out
       refine⟨k+1,HK.out,by go_num,?_,A3.out.far (by show g0≠g3;omega) _,B3.out.far (by show g1≠g3;omega) _,C3.out.far (by show g2≠g3;omega) _,O3.out.new (by omega) _ _⟩
       rw[show ((k+1:Nat):Int)=(k:Int)+1 from rfl,MORE.out]
       exact D3.out.put 1 _
      case measure=>have:=HK.out;simp[intOf];omega
    ·rw[decide_eq_false h2] at RBK
     have MORE:=hid (part_old (a:=a) (b:=b) (i:=(k:Int)) (λq=>h2 q.2))
     clear h1 h2
     go_wp2_with fail
     (with_reducible refine (RAK.out _).mono ?_)
     rintro e w2 ⟨rfl,o2⟩
     have A2:=hid (o2.still A.out)
     have B2:=hid (o2.still B.out)
     have C2:=hid (o2.still C.out)
     have D2:=hid (o2.still D.out)
     have O2:=hid (O.out.same o2)
     clear A B C D O o2 a0 a1 b0 b1
     obtain⟨b0,b1⟩:=B2.out.two
     go_wp2_with fail
     (with_reducible refine (RBK.out _).mono ?_)
     rintro e w3 ⟨rfl,o2⟩
     have A3:=hid (o2.still A2.out)
     have B3:=hid (o2.still B2.out)
     have C3:=hid (o2.still C2.out)
     have D3:=hid (o2.still D2.out)
     have O3:=hid (O2.out.same o2)
     clear A2 B2 C2 D2 O2 o2 b0 b1
     go_wp2_with fail
     go_roundw
     case rel=>exact⟨k+1,HK.out,by go_num,by rw[show ((k+1:Nat):Int)=(k:Int)+1 from rfl,MORE.out];exact D3.out,A3.out,B3.out,C3.out,O3.out⟩
     case measure=>have:=HK.out;simp[intOf];omega
   ·rw[decide_eq_false h1] at RAK
    have MORE:=hid (part_old (a:=a) (b:=b) (i:=(k:Int)) (λq=>h1 q.1))
    clear h1 RBK
    go_wp2_with fail
    (with_reducible refine (RAK.out _).mono ?_)
    rintro e w2 ⟨rfl,o2⟩
    have A2:=hid (o2.still A.out)
    have B2:=hid (o2.still B.out)
    have C2:=hid (o2.still C.out)
    have D2:=hid (o2.still D.out)
    have O2:=hid (O.out.same o2)
    clear A B C D O o2 a0 a1 b0 b1
    go_wp2_with fail
    go_roundw
    case rel=>exact⟨k+1,HK.out,by go_num,by rw[show ((k+1:Nat):Int)=(k:Int)+1 from rfl,MORE.out];exact D2.out,A2.out,B2.out,C2.out,O2.out⟩
    case measure=>have:=HK.out;simp[intOf];omega
  ·have e:k=256:=by omega
   subst e
   have t0:decide ((256:Int)<256)=false:=by decide
   rw[show ((256:Nat):Int)=256 from rfl,PA.out] at D
   have f0:=C.out.frozen 0
   have f1:=C.out.frozen 1
   obtain⟨c0,c1⟩:=C.out.two
   obtain⟨d0,d1⟩:=D.out.two
   go_wp2_with fail
   exact bodyPost_ret (results_run rfl _ _ g2 (meet a b) rfl ((C.out.put 0 _).put 1 _)) rfl ⟨rfl,(O.out.new (by have:=GW.out;omega) _ _).new (by have:=GW.out;omega) _ _⟩
end Go.Proofs.YtfbpjobobdidiaaGreatDoor
namespace Go.Proofs.YtfbpjobobdidiaaGreatDoor
open Lib (hid)
open Go.RowKit Go.Maps
set_option linter.unusedVariables false
set_option maxRecDepth 100000
def outI (l:List Int) (x:Int):List Int:=l.filter (λy=>!(y==x))
theorem lane_cut (ss:List Sd) (x b:Int):laneL (cutK ss x) b=outI (laneL ss b) x:=by
 unfold laneL cutK outI
 rw[List.filter_map,List.filter_filter,List.filter_filter]
 congr 1
 apply List.filter_congr
 intro s _
 simp[Bool.and_comm]
theorem lane_nodup {ss:List Sd} (h:Once ss) (b:Int):(laneL ss b).Nodup:=by
 unfold laneL List.Nodup
 rw[List.pairwise_map]
 exact List.Pairwise.filter _ h
theorem lane_mem {ss:List Sd} {x:Int} (h:Once ss) (hx:hasK ss x=true):x∈laneL ss (blockI ss x):=by
 obtain⟨s,hs,rfl⟩:=hasK_iff.1 hx
 rw[blockI_of h hs]
 exact List.mem_map.2 ⟨s,List.mem_filter.2 ⟨hs,by simp⟩,rfl⟩
theorem lane_other {ss:List Sd} {x b:Int} (h:Once ss) (hb:b≠blockI ss x):x∉laneL ss b:=by
 intro hm
 obtain⟨s,hs,e⟩:=List.mem_map.1 hm
 obtain⟨h1,h2⟩:=List.mem_filter.1 hs
 have h2:s.b=b:=by simpa using h2
 subst e
 rw[blockI_of h h1] at hb
 exact hb h2.symm
theorem out_not {l:List Int} {x:Int} (h:x∉l):outI l x=l:=by
 unfold outI
 rw[List.filter_eq_self]
 intro y hy
 have:y≠x:=λe=>h (by rw[←e];exact hy)
 simpa using this
theorem out_at:∀{l:List Int},l.Nodup→∀{k:Nat} {x:Int},l[k]? = some x→l.eraseIdx k=outI l x
 | [],_,k,x,h=>by simp at h
 | a::r,hn,0,x,h=>by
  simp only[List.getElem?_cons_zero,Option.some.injEq] at h
  subst h
  have:=(List.nodup_cons.1 hn).1
  show r=outI (a::r) a
  have e:outI (a::r) a=outI r a:=by unfold outI;rw[List.filter_cons_of_neg (by simp)]
  rw[e,out_not this]
 | a::r,hn,k+1,x,h=>by
  rw[List.getElem?_cons_succ] at h
  obtain⟨n1,n2⟩:=List.nodup_cons.1 hn
  have hx:a≠x:=λe=>n1 (by rw[e];exact List.mem_of_getElem? h)
  show a::r.eraseIdx k=_
  have e:outI (a::r) x=a::outI r x:=by unfold outI;rw[List.filter_cons_of_pos (by simpa using hx)]
  rw[e,out_at n2 h]
theorem sd_cut:∀{ss:List Sd},Once ss→∀{k:Nat} {s:Sd},ss[k]? = some s→ss.take k++ss.drop (k+1)=cutK ss s.k
 | [],_,k,x,h=>by simp at h
 | a::r,hn,0,x,h=>by
  simp only[List.getElem?_cons_zero,Option.some.injEq] at h
  subst h
  have:=(List.pairwise_cons.1 hn).1
  show r=cutK (a::r) a.k
  unfold cutK
  rw[List.filter_cons_of_neg (by simp)]
  symm
  rw[List.filter_eq_self]
  intro y hy
  have:y.k≠a.k:=λe=>this y hy e.symm
  simpa using this
 | a::r,hn,k+1,x,h=>by
  rw[List.getElem?_cons_succ] at h
  obtain⟨n1,n2⟩:=List.pairwise_cons.1 hn
  have hx:a.k≠x.k:=n1 x (List.mem_of_getElem? h)
  show a::(r.take k++r.drop (k+1))=_
  have e:cutK (a::r) x.k=a::cutK r x.k:=by unfold cutK;rw[List.filter_cons_of_pos (by simpa using hx)]
  rw[e,sd_cut (show Once r from n2) h]
theorem pull_cut {ss:List Sd} (h:Once ss) (x:Int):pullS ss x=cutK ss x:=by
 unfold pullS
 cases hk:tkAt ss x with
 | none =>
  symm
  show cutK ss x=ss
  unfold cutK
  rw[List.filter_eq_self]
  intro y hy
  obtain⟨i,hi,e⟩:=List.getElem_of_mem hy
  have:y.k≠x:=tk_none hk i y (by rw[List.getElem?_eq_getElem hi,e])
  simpa using this
 | some k =>
  obtain⟨s,hs,rfl,_⟩:=tk_of hk
  exact sd_cut h hs
def idxI (l:List Int) (x:Int):Int:=match l.findIdx? (λy=>y==x) with | some k=>k | none=>-1
theorem idx_at {l:List Int} {x:Int} {k:Nat} {y:Int} (h:l[k]? = some y) (hx:y=x) (hb:∀(j:Nat) a,j<k→l[j]? = some a→a≠x):idxI l x=k:=by
 have hk:=lt_of_get h
 have:l.findIdx? (λy=>y==x)=some k:=by
  rw[List.findIdx?_eq_some_iff_getElem]
  refine⟨hk,?_,λj hj=>?_⟩
  ·rw[List.getElem?_eq_getElem hk] at h
   injection h with h
   rw[h];simp[hx]
  ·have:=hb j l[j] hj (List.getElem?_eq_getElem (by omega))
   simp[this]
 unfold idxI
 rw[this]
theorem idx_no {l:List Int} {x:Int} (hb:∀(j:Nat) a,l[j]? = some a→a≠x):idxI l x=-1:=by
 have:l.findIdx? (λy=>y==x)=none:=by
  rw[List.findIdx?_eq_none_iff]
  intro a ha
  obtain⟨j,hj,rfl⟩:=List.getElem_of_mem ha
  simpa using hb j _ (List.getElem?_eq_getElem hj)
 unfold idxI
 rw[this]
theorem idx_mem {l:List Int} {x:Int} (h:x∈l):∃k:Nat,idxI l x=k∧l[k]? = some x:=by
 unfold idxI
 cases hk:l.findIdx? (λy=>y==x) with
 | none =>
  rw[List.findIdx?_eq_none_iff] at hk
  have:=hk x h
  simp at this
 | some k =>
  rw[List.findIdx?_eq_some_iff_getElem] at hk
  obtain⟨hl,h1,_⟩:=hk
  have h1:l[k]=x:=by simpa using h1
  exact⟨k,rfl,by rw[List.getElem?_eq_getElem hl,h1]⟩
set_option maxHeartbeats 1000000 in
theorem index_any (v:Value) (l:List Int) (x:Int) (w:World) (h:Reads w v l) (hl:l.length≤1000) :
  Calls Tryz.prog 159 #[v,.int .i64 x] w λe w'=>e=.returned (.int .i64 (idxI l x))∧w=w':=by
 obtain⟨a,cap,rfl,hc⟩:=h
 have HC:=hid hc
 clear hc
 go_enter Tryz.func159,Tryz.ntmps159
 go_wp2_with fail
 go_loop [8] (λi=>∃k:Nat,k≤l.length∧i=.int .i64 k∧∀j a,j<k→l[j]? = some a→a≠x) (λi=>l.length-(intOf i).toNat)
 case atStart=>exact⟨0,Nat.zero_le _,rfl,λj a hj=>by omega⟩
 case round =>
  obtain⟨k,hk,rfl,hn⟩:=hrel
  have HN:=hid hn
  clear hn
  by_cases hlt:k<l.length
  ·obtain⟨y,hy⟩:∃y,l[k]? = some y:=⟨_,List.getElem?_eq_getElem hlt⟩
   obtain⟨g1,o1,rfl,c1⟩:=HC.out k y hy
   have HY:=hid hy
   clear hy
   by_cases e:x=y
   ·have t:(x==y)=true:=by simp[e]
    have FE:=hid (show idxI l x=k from idx_at HY.out e.symm HN.out)
    clear e
    go_wp2_with fail
    go_ret
    exact⟨by rw[FE.out];try rfl,rfl⟩
   ·have t:(x==y)=false:=by simpa using e
    have NX:=hid (show ∀j a,j<k+1→l[j]? = some a→a≠x from λj a hj ha=>by
     by_cases q:j=k
     ·subst q;rw[HY.out] at ha;injection ha with ha;subst ha;exact λz=>e z.symm
     ·exact HN.out j a (by omega) ha)
    clear e
    go_wp2_with fail
    go_round
    case rel=>exact⟨k+1,by omega,by go_num,NX.out⟩
    case measure=>simp[intOf];omega
  ·have hge:l.length≤k:=by omega
   have FE:=hid (show idxI l x=-1 from idx_no (λj a ha=>HN.out j a (Nat.lt_of_lt_of_le (lt_of_get ha) hge) ha))
   go_wp2_with fail
   go_ret
   exact⟨by rw[FE.out];try rfl,rfl⟩
theorem with_any (v:Value) (l:List Int) (x:Int) (w:World) (h:OwnsInts w 0 v l) (hn:l.Nodup) (hx:x∈l) (hl:l.length≤1000) :
  Calls Tryz.prog 143 #[v,.int .i64 x] w λe w'=>∃v',e=.returned v'∧OwnsInts w' 0 v' (outI l x)∧v'.ownBlock=v.ownBlock∧Only (λj=>some j=v.ownBlock) w w':=by
 obtain⟨k,hk,hkx⟩:=idx_mem hx
 have lk:=lt_of_get hkx
 have IX:=hid (index_any v l x w (Reads.of_owns h) hl)
 rw[hk] at IX
 have E1:=hid (out_at hn hkx)
 obtain⟨g,cap,rfl,_⟩:=Owns.form h (λe=>by rw[e] at hx;cases hx)
 have DL:=hid (del11_any g cap k l w h lk hl)
 rw[E1.out] at DL
 have hwi:IntKind.i64.wrap ((k:Int)+1)=(k:Int)+1:=by rw[IntKind.wrap_i64];omega
 clear h hn hx hk hkx E1
 go_enter Tryz.func143,Tryz.ntmps143
 go_wp2_with fail
 (with_reducible refine IX.out.mono ?_)
 rintro e w' ⟨rfl,rfl⟩
 go_wp2_with fail
 (with_reducible refine DL.out.mono ?_)
 rintro e w' ⟨rfl,ho,o⟩
 have HO:=hid ho
 have OO:=hid o
 clear ho o IX DL
 go_wp2_with fail
 go_ret
 exact⟨_,rfl,HO.out,rfl,OO.out.more (λi _ e=>by rw[e];rfl)⟩
end Go.Proofs.YtfbpjobobdidiaaGreatDoor
namespace Go.Proofs.YtfbpjobobdidiaaGreatDoor
open Lib (hid)
open Go.ChangeShapes Go.WideShapes Go.ChangeAt Go.RowKit Go.Lib
set_option linter.unusedVariables false
set_option maxRecDepth 100000
def laidB : List (String × DataW Unit) := [("forerunner/ask.bounds", Rows.laid_forerunner_ask_bounds)]
theorem bounds_told:Rows.laid_forerunner_ask_bounds=.agg ((lows.zip tops).map λq=>.agg ([q.1,q.2].map λz=>(.lit (.int .i64 z):DataW Unit))):=rfl
theorem bd_of {W:World} (h:laidMetH Tryz.prog laidB W):Bd W:=by
 rw[MakeChecks.laidMetH_plain _ _ _ (by kernel_rfl)] at h
 obtain⟨ps,⟨g,t,cs,fuel,p,q,hg,ht,hv,hd,_,_⟩,_,_⟩:=h
 obtain rfl := Option.some.inj ((show Tryz.prog.globalNamed "forerunner/ask.bounds" = some 0 by kernel_rfl).symm.trans hg)
 obtain rfl:=Option.some.inj ((show (Tryz.prog.globals[0]?).map (·.type)=some 138 by kernel_rfl).symm.trans ht)
 rw[bounds_told] at hd
 have c46:Tryz.prog.cellsOf 137=2:=by kernel_rfl
 have cI:Tryz.prog.cellsOf 3=1:=by kernel_rfl
 have both:∀(i:Nat) (l g:Int),lows[i]? = some l→tops[i]? = some g→W.cell? ⟨0,i*2,none⟩=some (.int .i64 l)∧W.cell? ⟨0,i*2+1,none⟩=some (.int .i64 g):=by
  intro i l g hl hg2
  have hi:i<14:=lt_of_get hl
  obtain⟨fuel',d,q,hdi,he⟩:=array_elem Tryz.underlying138 hd i hi
  have hz:(lows.zip tops)[i]? = some (l,g):=by
   rw[List.getElem?_zip_eq_some]
   exact⟨hl,hg2⟩
  rw[List.getElem?_map,hz] at hdi
  obtain rfl:=Option.some.inj hdi
  rw[c46] at he
  have hcs:=ints_of_struct Tryz.underlying137 (λj f hj=>by
   match j,hj with
   | 0,hj=>simp at hj;subst hj;exact⟨Tryz.underlying3,rfl,cI⟩
   | 1,hj=>simp at hj;subst hj;exact⟨Tryz.underlying3,rfl,cI⟩
   | j+2,hj=>simp at hj) (by rw[c46];rfl) he
  have e0:=congrArg (·[0]?) hcs
  have e1:=congrArg (·[1]?) hcs
  simp only[List.getElem?_take,List.getElem?_drop] at e0 e1
  constructor
  ·rw[World.var?_cell hg hv (i*2),←Array.getElem?_toList]
   simpa using e0
  ·rw[World.var?_cell hg hv (i*2+1),←Array.getElem?_toList]
   simpa using e1
 constructor
 ·intro i l hl
  obtain⟨g,hg2⟩:∃g,tops[i]? = some g:=⟨_,List.getElem?_eq_getElem (show i<14 from lt_of_get hl)⟩
  exact (both i l g hl hg2).1
 ·intro i g hg2
  obtain⟨l,hl⟩:∃l,lows[i]? = some l:=⟨_,List.getElem?_eq_getElem (show i<14 from lt_of_get hg2)⟩
  exact (both i l g hl hg2).2
theorem laid_met (os:Os) (args:Array Value):laidMetH Tryz.prog laidB ((World.laidAll Tryz.prog os laidB).forCall (λ_ _=>0) ⟨#[],args,[]⟩).memory:=by
 rw[MakeChecks.laidMetH_plain _ _ _ (by kernel_rfl)]
 exact laidMet_laidAll _ (by kernel_rfl) (by kernel_rfl)
theorem laid_shaped (os:Os):(World.laidAll Tryz.prog os laidB).Shaped Tryz.prog:=World.shaped_of_ZipB (by kernel_rfl) (by kernel_rfl)
end Go.Proofs.YtfbpjobobdidiaaGreatDoor
namespace Go.Proofs.YtfbpjobobdidiaaGreatDoor
open Lib (hid)
open Go.RowKit
set_option linter.unusedVariables false
set_option maxRecDepth 100000
def Pushed (w:World) (c base:Nat) (v:Value) (d:List Pl) (p:Pl) (e:Ending) (w':World):Prop:=
 e=.returned (.tuple #[])∧∃v' d',d'.Perm (d++[p])∧Heaped (fv d') d'.length∧Qu w' c base v' d'∧(∀g,v'.ownBlock=some g→v.ownBlock=some g∨w.heap.size≤g)∧Only (quB c v) w w'
theorem fv_more {d:List Pl} {p:Pl}:∀i,i<d.length→fv (d++[p]) i=fv d i:=λi hi=>by
 unfold fv
 rw[List.getElem?_append_left hi]
set_option maxHeartbeats 1000000 in
theorem hpush_any {w:World} {c base:Nat} {v:Value} {d:List Pl} (h:Qu w c base v d) (p:Pl) (hh:Heaped (fv d) d.length) (hb:InB (d++[p])) (hl:d.length<1000) :
  Calls Tryz.prog 97 #[.iface 174 (.pointer (some ⟨c,0,none⟩)),.iface 169 p.val] w (Pushed w c base v d p):=by
 have mP := show (method 375 174 (.pointer (some ⟨c, 0, none⟩)) "Push").run Tryz.prog w = .ok (213, .pointer (some ⟨c, 0, none⟩)) w from m_push _ w
 have eP:=e_push
 have eL:=e_len
 have QP:=hid (qpush_any h p (by omega))
 have HU:=hid (heaped_push hh (λi hi=>fv_more (p:=p) i hi))
 have HB:=hid hb
 have hl2:(d++[p]).length=d.length+1:=by simp
 have HL:=hid hl2
 clear h hh hb
 generalize hv:p.val=pv at *
 go_enter Tryz.func97,Tryz.ntmps97
 go_wp2_with fail
 (with_reducible refine (QP.out).mono ?_)
 rintro e w1 ⟨rfl,⟨v1,h1,l1⟩,o1⟩
 have H1:=hid h1
 have O1:=hid o1
 have L1:=hid l1
 have mL:=m_len h1.cellv
 have QL:=hid (qlen_any h1.own)
 rw[hl2] at QL
 have UP:=hid (up_any (j:=d.length) h1 (by omega) (by rw[hl2];exact HU.out) HB.out (by omega))
 have hwi:IntKind.i64.wrap ((d.length+1:Nat)-1:Int)=(d.length:Int):=by rw[IntKind.wrap_i64];omega
 obtain⟨n,hn⟩:∃n,d.length=n:=⟨_,rfl⟩
 rw[hn] at QL UP hwi hl
 clear h1 o1 l1 QP mP HL hl2 hn
 go_wp2_with fail
 (with_reducible refine QL.out.mono ?_)
 rintro e w' ⟨rfl,rfl⟩
 go_wp2_with fail
 (with_reducible refine UP.out.mono ?_)
 rintro e w2 ⟨rfl,d2,p2,hh2,h2,o2⟩
 have O2:=hid o2
 have H2:=hid h2
 clear o2 h2
 go_wp2_with fail
 go_end0
 exact⟨rfl,v1,d2,p2,hh2,H2.out,L1.out,O1.out.trans O2.out (λi hi q=>by
  rcases q with q | q
  ·exact .inl q
  ·rcases L1.out i q.symm with k | k
   ·exact .inr k.symm
   ·omega)⟩
end Go.Proofs.YtfbpjobobdidiaaGreatDoor
namespace Go.Proofs.YtfbpjobobdidiaaGreatDoor
open Lib (hid)
open Go.RowKit Go.Maps
set_option linter.unusedVariables false
set_option maxRecDepth 100000
theorem row_of_owns {w:World} {v:Value} {l:List Int} {g:Nat} (h:OwnsInts w 0 v l) (hg:v.ownBlock=some g):∃cur,Row w g 3 cur:=by
 rcases h.2 with ⟨hv,_⟩|⟨g',cap,cur,hv,_,hh,_⟩
 ·rw[hv] at hg;cases hg
 ·rw[hv] at hg
  injection hg with hg
  exact⟨cur,by rw[←hg];exact hh⟩
theorem LL.gp {w:World} {p r b:Nat} {vs:List Value} {M:Nat→Prop} {n room:Nat} {ss:List Sd} (h:LL w p r b vs M n room ss) {i:Nat} {v:Value} {g:Nat} (hv:vs[i]? = some v) (hg:v.ownBlock=some g):g≠p∧g≠r∧g≠b:=by
 obtain⟨cur,hr⟩:=row_of_owns (h.lanes i v hv) hg
 exact⟨hr.apart h.row (by decide),hr.apart h.rows (by decide),h.md.ne hr⟩
theorem LL.pr {w:World} {p r b:Nat} {vs:List Value} {M:Nat→Prop} {n room:Nat} {ss:List Sd} (h:LL w p r b vs M n room ss):p≠r∧p≠b∧r≠b:=⟨h.row.apart h.rows (by decide),h.md.ne h.row,h.md.ne h.rows⟩
theorem LL.turned {w w5 w7:World} {p r b k:Nat} {vs:List Value} {v v5:Value} {M:Nat→Prop} {n room:Nat} {ss fs:List Sd} (h:LL w p r b vs M n room ss) (hv:vs[k]? = some v) (o5:Only (λj=>some j=v.ownBlock) w w5)
  (ho:OwnsInts w5 0 v5 (laneL fs (k:Int))) (hat:v5.ownBlock=v.ownBlock∨∃g,v5.ownBlock=some g∧w.heap.size≤g) (o7:Only (λj=>j=b) (w5.setCell ⟨r,k,none⟩ v5) w7) (md:Md w7 b fs)
  (hs:∀i:Int,i≠k→laneL fs i=laneL ss i) (once:Once fs) (inb:∀s∈fs,0≤s.b∧s.b<n):LnTo w p M n room fs w7:=by
 have hk:=lt_of_get hv
 have ng:∀g,v5.ownBlock=some g→g≠p∧g≠r∧g≠b:=λg hg=>by
  rcases hat with q|⟨g',q,hl⟩
  ·exact h.gp hv (by rw[←q];exact hg)
  ·rw[q] at hg
   injection hg with hg
   have:=h.lt p h.mp
   have:=h.lt r h.mr
   have:=h.lt b h.mb
   omega
 have np:¬ some p=v.ownBlock:=λe=>(h.gp hv e.symm).1 rfl
 have nr:¬ some r=v.ownBlock:=λe=>(h.gp hv e.symm).2.1 rfl
 have o6:=(Only.refl (λj=>j=r) w5).into rfl k v5
 have O57:Only (λj=>j=r∨j=b) w5 w7:=(o6.more (λ_ _ e=>Or.inl e)).trans o7 (λ_ _ e=>Or.inr e)
 have rows:=o7.row ((o5.row h.rows nr).put k v5) (λe=>h.pr.2.2 e)
 have evs:vs.toArray.setIfInBounds k v5=(vs.set k v5).toArray:=by simp
 rw[evs] at rows
 have gv:∀i u,(vs.set k v5)[i]? = some u→(i=k∧u=v5)∨(i≠k∧vs[i]? = some u):=λi u hu=>by
  rw[List.getElem?_set] at hu
  by_cases e:k=i
  ·rw[if_pos e,if_pos hk] at hu
   injection hu with hu
   exact .inl ⟨e.symm,hu.symm⟩
  ·rw[if_neg e] at hu
   exact .inr ⟨λq=>e q.symm,hu⟩
 have z5:=o5.size
 have z7:=O57.size
 have nv:∀i u g,i≠k→vs[i]? = some u→u.ownBlock=some g→v5.ownBlock≠some g:=λi u g hi hu hg e=>by
  rcases hat with q|⟨g',q,hl⟩
  ·rw[q] at e
   exact hi (h.apart i k u v g hu hv hg e)
  ·rw[q] at e
   injection e with e
   have:=h.lt g (h.mv i u g hu hg)
   omega
 refine⟨⟨λg=>M g∨(w.heap.size≤g∧g<w7.heap.size),⟨r,b,vs.set k v5,?_⟩,λg hg=>hg.imp id (·.1)⟩,?_⟩
 ·exact {
   row:=O57.row (o5.row h.row np) (λe=>by rcases e with e | e;exact h.pr.1 e;exact h.pr.2.1 e)
   rows:=rows
   len:=by rw[List.length_set];exact h.len
   lanes:=λi u hu=>by
    rcases gv i u hu with ⟨rfl,rfl⟩|⟨hi,hu⟩
    ·exact ho.keep O57 (λg hg e=>by rcases e with e | e;exact (ng g hg).2.1 e;exact (ng g hg).2.2 e)
    ·rw[hs (i:Int) (by omega)]
     refine ((h.lanes i u hu).keep o5 (λg hg e=>hi (h.apart i k u v g hu hv hg e.symm))).keep O57 (λg hg e=>?_)
     have:=h.gp hu hg
     rcases e with e | e
     ·exact this.2.1 e
     ·exact this.2.2 e
   apart:=λi j u v' g hu hv' hg hg'=>by
    rcases gv i u hu with ⟨rfl,rfl⟩|⟨hi,hu2⟩
    ·rcases gv j v' hv' with ⟨rfl,rfl⟩|⟨hj,hv'⟩
     ·rfl
     ·exact absurd hg (nv j v' g hj hv' hg')
    ·rcases gv j v' hv' with ⟨rfl,rfl⟩|⟨hj,hv2⟩
     ·exact absurd hg' (nv i u g hi hu2 hg)
     ·exact h.apart i j u v' g hu2 hv2 hg hg'
   md:=md
   once:=once
   inb:=inb
   mp:=.inl h.mp
   mr:=.inl h.mr
   mb:=.inl h.mb
   mv:=λi u g hu hg=>by
    rcases gv i u hu with ⟨rfl,rfl⟩|⟨hi,hu⟩
    ·rcases hat with q|⟨g',q,hl⟩
     ·exact .inl (h.mv _ v g hv (by rw[←q];exact hg))
     ·have l5:=(ho.base_le hg).2
      rw[q] at hg
      injection hg with hg
      exact .inr ⟨by omega,by omega⟩
    ·exact .inl (h.mv i u g hu hg)
   lt:=λg hg=>by
    rcases hg with hg | hg
    ·have:=h.lt g hg;omega
    ·exact hg.2 }
 ·refine (o5.more (λi _ e=>h.mv k v i hv e.symm)).trans O57 (λi _ e=>?_)
  rcases e with e | e
  ·rw[e];exact h.mr
  ·rw[e];exact h.mb
theorem lane_more (ss:List Sd) (b x i:Int):laneL (ss++[⟨b,x⟩]) i=if b=i then laneL ss i++[x] else laneL ss i:=by
 unfold laneL
 rw[List.filter_append,List.map_append]
 by_cases h:b=i
 ·rw[if_pos h,List.filter_cons_of_pos (by simpa using h)];rfl
 ·rw[if_neg h,List.filter_cons_of_neg (by simpa using h)];simp
theorem step_append_at11 {P:Program} {ops:Array Oper} {o:Oper} {a:Act} {w:World} {K:Act→World→Prop} {Q:Exit→Act→World→Prop} {E:Prop}
  (hg:o.guard=none) (s x:Operand) (t:TypeId) (hop:o.op=Op.call { callee:=Callee.builtin Builtin.append,args:=#[s,x],argTypes:=#[t,t] })
  (base:Nat) (e:TypeId) (i:TypeInfo) (z:Value) (size bytes:Nat) (h1:P.underlying t=some (.slice e)) (h2:P.info? e=some i) (h3:i.zero=some z) (h4:i.size=size) (h5:i.bytes=bytes) (h6:z.cells.size=size) (h7:0<size)
  (v:Value) (k:Nat) (xs:List Value) (hs:a.eval s=v) (hown:w.ownsRow base e size v k xs)
  (ad:Addr) (m c:Nat) (news:List Value) (hx:a.eval x=.slice (some ad) m c) (hn:news.length=m*size) (hc:∀j u,news[j]? = some u→w.cell? (ad.add j)=some u) (h1c:∀u∈news,u.oneCell'=true)
  (b1:k+m≤maxLen) (b2:(k+m)*bytes≤140737488355328) (b3:base≤w.heap.size)
  (hK:∀v' w',w'.ownsRow base e size v' (k+m) (xs++news)→w.grownBy w' v.ownBlock→(v'.ownBlock=v.ownBlock∨v'.ownBlock=some w.heap.size)→K (a.put o.dst v') w') :
  if Region.wanted o (yielded ops a.tmps)=true then Oper.wp P o a w K Q else E:=by
 have hw:Region.wanted o (yielded ops a.tmps)=true:=by simp[Region.wanted,hg]
 rw[if_pos hw]
 obtain⟨v',w',hrun,r1,r2,_,r4⟩:=run_append_own_at (P:=P) w base t o.type e i z size bytes h1 h2 h3 h4 h5 h6 h7 v k xs hown ad m c news hn hc h1c b1 b2 b3
 unfold Oper.wp
 simp[execOp,hop,resolve,invoke,builtin,hs,hx,hrun,Result.andThen]
 exact hK v' w' r1 r2 r4
end Go.Proofs.YtfbpjobobdidiaaGreatDoor
