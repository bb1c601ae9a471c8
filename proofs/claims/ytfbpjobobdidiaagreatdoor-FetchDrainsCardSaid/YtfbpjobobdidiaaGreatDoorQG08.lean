/- Texts of the layers below, one behind the other. -/
import Derived.Test.YtfbpjobobdidiaaGreatDoorQG07
import Derived.Lib.MinMax
import Derived.Deep.RegionHeld3
import Derived.Deep.RegionLaw
import Derived.Deep.Cut
namespace Go.Proofs.YtfbpjobobdidiaaGreatDoor
open Lib (hid)
open Go.RowKit
set_option linter.unusedVariables false
set_option maxRecDepth 100000
theorem Owns.full {α:Type} {w:World} {base:Nat} {e:TypeId} {k:Nat} {c:α→List Value} (hk:∀a,(c a).length=k) {g n:Nat} {xs:List α} (h:Row w g e (flat c xs)) (hn:xs.length=n) (hb:base≤g) (hm:n≤maxLen):Owns w base e k c (.slice (some ⟨g,0,none⟩) n n) xs:=by
 subst hn
 have sz:=flat_size hk xs
 have fl:(xs.flatMap c).length=xs.length*k:=by rw[←sz];unfold flat;rw[List.size_toArray]
 refine⟨fl,.inr ⟨g,xs.length,flat c xs,rfl,hb,h,Nat.le_refl _,hm,sz,?_⟩⟩
 unfold flat
 rw[List.take_of_length_le]
 rw[fl]
 exact Nat.le_refl _
theorem blocks_get {r:Rn} (h:r.Ok) {j:Nat} (hj:(j:Int)<r.c):(blocksOf r)[j]? = some (r.f+(j:Int)):=by
 unfold blocksOf
 rw[if_pos h,List.getElem?_map,List.getElem?_range (by omega)]
 rfl
set_option maxHeartbeats 2000000 in
theorem blocks_any (r:Rn) (w:World) :
  Calls Tryz.prog 103 #[r.val] w λe w'=>∃v,e=.returned v∧OwnsInts w' w.heap.size v (blocksOf r)∧Only none_ w w':=by
 have IA:=hid (λw=>is_any r w)
 by_cases h:r.Ok
 ·rw[decide_eq_true h] at IA
  have h':=h
  unfold Rn.Ok at h'
  obtain⟨n,hn⟩:=Int.eq_ofNat_of_zero_le (show 0≤r.c by omega)
  have BG:=hid (λ(j:Nat) (hj:j<n)=>blocks_get h (j:=j) (by omega))
  have BL:=hid (show (blocksOf r).length=n from by rw[blocks_len h];omega)
  obtain⟨i0,hi0,hz0,hz1,hz2⟩:=info_partsR info_int8
  have MK:=run_make_flat (P:=Tryz.prog) (c:=one11) 0 one1 (by decide) 44 3 i0 (.int .i64 0) Tryz.underlying44 hi0 hz0 hz1 rfl .i64 .i64 n (by rw[hz2];omega) (by omega)
  generalize blocksOf r=bl at *
  obtain⟨f,c⟩:=r
  dsimp only at *
  subst hn
  unfold Rn.val at *
  dsimp only at *
  have F:=hid h'
  clear hi0 hz0 hz1 hz2 h h'
  go_enter Tryz.func103,Tryz.ntmps103
  go_wp2_with fail
  have R0:=hid (Row.fresh w 43 #[.int .i64 f,.int .i64 (n:Int)])
  have O0:=hid ((Only.refl none_ w).alloc (.cells #[.int .i64 f,.int .i64 (n:Int)] 43))
  (with_reducible refine (IA.out _).mono ?_)
  rintro e w2 ⟨rfl,o2⟩
  have R2:=hid (o2.still R0.out)
  have O2:=hid (O0.out.same o2)
  clear o2 R0 O0
  obtain⟨r0,r1⟩:=R2.out.two
  go_wp2_with fail
  have lt:=R2.out.lt
  have R3:=hid (R2.out.alloc (.cells (flat one11 (List.replicate n 0)) 3))
  have B3:=hid (Row.fresh w2 3 (flat one11 (List.replicate n 0)))
  have O3:=hid (O2.out.alloc (.cells (flat one11 (List.replicate n 0)) 3))
  have sz:=O2.out.size
  clear r0 r1 R2 O2 MK
  revert lt R3 B3 O3 sz
  generalize w2.alloc (.cells (flat one11 (List.replicate n 0)) 3)=W3
  generalize w2.heap.size=gs
  generalize hg0:w.heap.size=g0
  intro lt R3 B3 O3 sz
  have GW:=hid (show w.heap.size=g0∧g0<gs from ⟨hg0,lt⟩)
  clear hg0 lt sz
  go_loopw [13] (λi wr=>∃k:Nat,k≤n∧i=.int .i64 k∧(∃l:List Int,l.length=n∧(∀j,j<k→l[j]? = some (f+(j:Int)))∧Row wr gs 3 (flat one11 l))∧Row wr g0 43 #[.int .i64 f,.int .i64 (n:Int)]∧Only none_ w wr) (λi _=>n-(intOf i).toNat)
  case atStart=>exact⟨0,Nat.zero_le _,rfl,⟨List.replicate n 0,by simp,λj hj=>by omega,B3.out⟩,R3.out,O3.out⟩
  case round =>
   obtain⟨k,hk,rfl,⟨l,hl,hj,hb⟩,hr,o⟩:=hrel
   have O:=hid o
   have B:=hid hb
   have R:=hid hr
   have L:=hid hl
   have J:=hid hj
   clear B3 R3 O3 o hb hr hl hj
   have FF:=F.out
   by_cases hlt:k<n
   ·obtain⟨y,hy⟩:∃y,l[k]? = some y:=⟨_,List.getElem?_eq_getElem (by rw[L.out];exact hlt)⟩
    have v:IntKind.i64.wrap (f+(k:Int))=f+(k:Int):=by rw[IntKind.wrap_i64];omega
    have hn:n≤256:=by omega
    clear FF
    have c0:W3.cell? ⟨0,0,none⟩=W3.cell? ⟨0,0,none⟩:=rfl
    obtain⟨r0,r1⟩:=R.out.two
    have f1:=B.out.frozen k
    have c1:wr.cell? ⟨gs,k,none⟩=some (.int .i64 y):=by
     rw[B.out.cell]
     have:=flat_get (c:=one11) one1 hy (j:=0) (by decide)
     rwa [Nat.mul_one,Nat.add_zero] at this
    have HY:=hid hy
    clear hy c0
    go_wp2_with fail
    go_roundw
    case rel =>
     refine⟨k+1,by omega,by go_num,⟨l.set k (f+(k:Int)),by rw[List.length_set];exact L.out,λj q=>?_,?_⟩,R.out.far (by have:=GW.out;show g0≠gs;omega) _,O.out.new (by have:=GW.out;omega) _ _⟩
     ·rw[List.getElem?_set]
      by_cases e:k=j
      ·subst e
       rw[if_pos rfl,if_pos (by rw[L.out];exact hlt)]
      ·rw[if_neg e]
       exact J.out j (by omega)
     ·have p:=B.out.put k (.int .i64 (f+(k:Int)))
      have q:=flat_put (c:=one11) one1 (i:=k) (j:=0) HY.out (a':=f+(k:Int)) (v:=.int .i64 (f+(k:Int))) (by decide) rfl
      rw[Nat.mul_one,Nat.add_zero] at q
      rw[q] at p
      exact p
    case measure=>simp[intOf];omega
   ·have e:k=n:=by omega
    subst e
    have LE:l=bl:=eq_upto (by rw[L.out,BL.out]) (λj q=>by rw[J.out j (by rw[←L.out];exact q),BG.out j (by rw[←L.out];exact q)])
    subst LE
    have hn:k≤256:=by omega
    clear FF
    go_wp2_with fail
    go_ret
    exact⟨_,rfl,Owns.full one1 B.out L.out (by have:=GW.out;omega) (by unfold maxLen;omega),O.out⟩
 ·rw[decide_eq_false h] at IA
  rw[show blocksOf r=[] from by unfold blocksOf;rw[if_neg h]]
  clear h
  unfold Rn.val at *
  go_enter Tryz.func103,Tryz.ntmps103
  go_wp2_with fail
  have O0:=hid ((Only.refl none_ w).alloc (.cells #[.int .i64 r.f,.int .i64 r.c] 43))
  (with_reducible refine (IA.out _).mono ?_)
  rintro e w2 ⟨rfl,o2⟩
  have O2:=hid (O0.out.same o2)
  clear o2 O0
  go_wp2_with fail
  go_ret
  exact⟨_,rfl,Owns.start _ _ _ _ _,O2.out⟩
end Go.Proofs.YtfbpjobobdidiaaGreatDoor
namespace Go.Proofs.YtfbpjobobdidiaaGreatDoor
open Lib (hid)
open Go.RowKit Go.Maps
set_option linter.unusedVariables false
set_option maxRecDepth 100000
def lpushTo (p:Nat) (M:Nat→Prop) (n room:Nat) (ss:List Sd) (b x:Int) (w:World) (e:Ending) (w':World):Prop:=e=.returned (.int .i64 (pushC n room ss b x))∧LnTo w p M n room (pushS n room ss b x) w'
theorem int_form {w:World} {v:Value} {n:Nat} {xs:List Value} (h:w.ownsRow 0 3 1 v n xs):∃a n c,v=.slice a n c:=by
 rcases h.2 with ⟨h0,_⟩|⟨g,cap,cur,hv,_⟩
 ·exact⟨none,0,0,h0⟩
 ·exact⟨_,_,_,hv⟩
theorem lpush_arg {p r mb:Nat} {vs:List Value} {M:Nat→Prop} {n room:Nat} {ss:List Sd} (b x:Int) (w:World) (h:LL w p r mb vs M n room ss) (hin:¬ (0≤b∧b<n∧1≤x)) :
  Calls Tryz.prog 109 #[.pointer (some ⟨p,0,none⟩),.int .i64 b,.int .i64 x] w (lpushTo p M n room ss b x w):=by
 have HAS:=hid (lhas_any b w h)
 have PC:=hid (show pushC n room ss b x=1 from by unfold pushC;rw[if_neg hin])
 have PS:=hid (show pushS n room ss b x=ss from by unfold pushS;rw[PC.out];rfl)
 have H:=hid (show Ln w p M n room ss from ⟨r,mb,vs,h⟩)
 by_cases hb:0≤b∧b<n
 ·have E:=hid (show decide (0≤b∧b<n)=true from decide_eq_true hb)
  have d:decide (x<1)=true:=by simp;omega
  clear h hin hb
  go_enter Tryz.func109,Tryz.ntmps109
  go_wp2_with fail
  (with_reducible refine HAS.out.mono ?_)
  rintro e w' ⟨rfl,rfl⟩
  rw[E.out]
  go_wp2_with fail
  go_ret
  exact⟨by rw[PC.out];rfl,by rw[PS.out];exact H.out.to (Only.refl _ _)⟩
 ·have E:=hid (show decide (0≤b∧b<n)=false from decide_eq_false hb)
  clear h hin hb
  go_enter Tryz.func109,Tryz.ntmps109
  go_wp2_with fail
  (with_reducible refine HAS.out.mono ?_)
  rintro e w' ⟨rfl,rfl⟩
  rw[E.out]
  go_wp2_with fail
  go_ret
  exact⟨by rw[PC.out];rfl,by rw[PS.out];exact H.out.to (Only.refl _ _)⟩
theorem lpush_exists {p r mb:Nat} {vs:List Value} {M:Nat→Prop} {n room:Nat} {ss:List Sd} (b x:Int) (w:World) (h:LL w p r mb vs M n room ss) (hin:0≤b∧b<n∧1≤x) (hx:(Lit.int .i64 x).wf=true) (hk:hasK ss x=true) :
  Calls Tryz.prog 109 #[.pointer (some ⟨p,0,none⟩),.int .i64 b,.int .i64 x] w (lpushTo p M n room ss b x w):=by
 have HAS:=hid (lhas_any b w h)
 rw[decide_eq_true (show 0≤b∧b<(n:Int) by omega)] at HAS
 have PC:=hid (show pushC n room ss b x=4 from by unfold pushC;rw[if_pos hin,tk_has,hk,if_pos rfl])
 have PS:=hid (show pushS n room ss b x=ss from by unfold pushS;rw[PC.out];rfl)
 have H:=hid (show Ln w p M n room ss from ⟨r,mb,vs,h⟩)
 have c2:w.cell? ⟨p,2,none⟩=some (.map (some mb)):=by rw[h.row.cell];rfl
 obtain⟨D,hown,hr⟩:=h.md
 have hkey:=keyOf_int_mk Tryz.underlying3 hx
 have OW:=hid hown
 have q:=hr.1 x
 rw[hk] at q
 have d:decide (x<1)=false:=by simp;omega
 clear h hin hk hown hr hx
 go_enter Tryz.func109,Tryz.ntmps109
 go_wp2_with fail
 (with_reducible refine HAS.out.mono ?_)
 rintro e w' ⟨rfl,rfl⟩
 go_wp2_with (first
  | (at_lookup;refine wpList_lookup_own_ok_int _ rfl _ _ 140 rfl 3 3 .i64 lawI Tryz.underlying140 Tryz.underlying3 (zeroI _) mb _ D rfl OW.out _ _ rfl hkey ?_;intro c1 hat hwc)
  | go_in)
 go_ret
 exact⟨by rw[PC.out];rfl,by rw[PS.out];exact H.out.to (Only.refl _ _)⟩
set_option maxHeartbeats 1000000 in
theorem lpush_full {p r mb:Nat} {vs:List Value} {M:Nat→Prop} {n room:Nat} {ss:List Sd} (b x:Int) (w:World) (h:LL w p r mb vs M n room ss) (hin:0≤b∧b<n∧1≤x) (hx:(Lit.int .i64 x).wf=true) (hk:hasK ss x=false) (hr:ss.length=room) :
  Calls Tryz.prog 109 #[.pointer (some ⟨p,0,none⟩),.int .i64 b,.int .i64 x] w (lpushTo p M n room ss b x w):=by
 have HAS:=hid (lhas_any b w h)
 rw[decide_eq_true (show 0≤b∧b<(n:Int) by omega)] at HAS
 have PC:=hid (show pushC n room ss b x=2 from by unfold pushC;rw[if_pos hin,tk_has,hk,if_neg (by decide),if_pos (by omega)])
 have PS:=hid (show pushS n room ss b x=ss from by unfold pushS;rw[PC.out];rfl)
 have H:=hid (show Ln w p M n room ss from ⟨r,mb,vs,h⟩)
 have c2:w.cell? ⟨p,2,none⟩=some (.map (some mb)):=by rw[h.row.cell];rfl
 have c2':w.drew.cell? ⟨p,2,none⟩=some (.map (some mb)):=c2
 have c1':w.drew.cell? ⟨p,1,none⟩=some (.int .i64 room):=by show w.cell? _=_;rw[h.row.cell];rfl
 have LEN:=(h.md.still (Only.refl none_ w).drew).len h.once
 have t:((ss.length:Int)==(room:Int))=true:=by simp;omega
 obtain⟨D,hown,hrd⟩:=h.md
 have hkey:=keyOf_int_mk Tryz.underlying3 hx
 have OW:=hid hown
 have q:=hrd.1 x
 rw[hk] at q
 have d:decide (x<1)=false:=by simp;omega
 clear h hin hk hown hrd hx hr
 generalize ss.length=m at LEN t OW
 go_enter Tryz.func109,Tryz.ntmps109
 go_wp2_with fail
 (with_reducible refine HAS.out.mono ?_)
 rintro e w' ⟨rfl,rfl⟩
 go_wp2_with (first
  | (at_lookup;refine wpList_lookup_own_ok_int _ rfl _ _ 140 rfl 3 3 .i64 lawI Tryz.underlying140 Tryz.underlying3 (zeroI _) mb _ D rfl OW.out _ _ rfl hkey ?_;intro c1 hat hwc)
  | go_in)
 go_region
 all_goals
  go_wp2_with fail
  go_ret
  exact⟨by rw[PC.out];rfl,by rw[PS.out];exact H.out.to (Only.refl _ _).drew⟩
def lpullTo (p:Nat) (M:Nat→Prop) (n room:Nat) (ss:List Sd) (x:Int) (w:World) (e:Ending) (w':World):Prop:=e=.returned (.tuple #[.int .i64 (blockI ss x),.int .i64 (pullC ss x)])∧LnTo w p M n room (pullS ss x) w'
theorem int_form11 {w:World} {v:Value} {l:List Int} (h:OwnsInts w 0 v l):∃a n c,v=.slice a n c:=by
 rcases h.2 with ⟨h0,_⟩|⟨g,cap,cur,hv,_⟩
 ·exact⟨none,0,0,h0⟩
 ·exact⟨_,_,_,hv⟩
theorem lpull_no {p r mb:Nat} {vs:List Value} {M:Nat→Prop} {n room:Nat} {ss:List Sd} (x:Int) (w:World) (h:LL w p r mb vs M n room ss) (hx:(Lit.int .i64 x).wf=true) (hk:hasK ss x=false) :
  Calls Tryz.prog 105 #[.pointer (some ⟨p,0,none⟩),.int .i64 x] w (lpullTo p M n room ss x w):=by
 have PC:=hid (show blockI ss x=0∧pullC ss x=3∧pullS ss x=ss from ⟨blockI_no hk,by unfold pullC;rw[tk_has,hk];rfl,by
  have e:=hk
  rw[←tk_has] at e
  unfold pullS
  cases q:tkAt ss x with
  | none=>rfl
  | some k=>rw[q] at e;cases e⟩)
 have H:=hid (show Ln w p M n room ss from ⟨r,mb,vs,h⟩)
 have c2:w.cell? ⟨p,2,none⟩=some (.map (some mb)):=by rw[h.row.cell];rfl
 obtain⟨D,hown,hr⟩:=h.md
 have hkey:=keyOf_int_mk Tryz.underlying3 hx
 have OW:=hid hown
 have q:=hr.1 x
 rw[hk] at q
 clear h hk hown hr hx
 go_enter Tryz.func105,Tryz.ntmps105
 go_wp2_with (first
  | (at_lookup;refine wpList_lookup_own_ok_int _ rfl _ _ 140 rfl 3 3 .i64 lawI Tryz.underlying140 Tryz.underlying3 (zeroI _) mb _ D rfl OW.out _ _ rfl hkey ?_;intro c1 hat hwc)
  | go_in)
 go_ret2
 exact⟨by rw[PC.out.1,PC.out.2.1];rfl,by rw[PC.out.2.2];exact H.out.to (Only.refl _ _)⟩
set_option maxRecDepth 100000 in
set_option maxHeartbeats 1000000 in
theorem lpull_yes {p r mb:Nat} {vs:List Value} {M:Nat→Prop} {n room:Nat} {ss:List Sd} (x:Int) (w:World) (h:LL w p r mb vs M n room ss) (hn:n≤1000) (hl:ss.length≤1000) (hx:(Lit.int .i64 x).wf=true) (hk:hasK ss x=true) :
    Calls Tryz.prog 105 #[.pointer (some ⟨p,0,none⟩),.int .i64 x] w (lpullTo p M n room ss x w):=by
  have PC:=hid (show pullC ss x=0∧pullS ss x=cutK ss x from ⟨by unfold pullC;rw[tk_has,hk];rfl,pull_cut h.once x⟩)
  have hb:0≤blockI ss x∧blockI ss x<n:=by
    obtain⟨s,hs,rfl⟩:=hasK_iff.1 hk
    rw[blockI_of h.once hs]
    exact h.inb s hs
  have MEM:=hid (lane_mem h.once hk)
  have OTH:=hid (λ(i:Int) (hi:i≠blockI ss x)=>(lane_cut ss x i).trans (out_not (lane_other h.once hi)))
  have CUT:=hid (lane_cut ss x (blockI ss x))
  have NOD:=hid (lane_nodup h.once (blockI ss x))
  have LLE:=hid (Nat.le_trans (lane_le ss (blockI ss x)) hl)
  unfold lpullTo
  rw[PC.out.1,PC.out.2]
  have H:=hid h
  have c2:w.cell? ⟨p,2,none⟩=some (.map (some mb)):=by rw[h.row.cell];rfl
  obtain⟨D,hown,hr⟩:=h.md
  have hkey:=keyOf_int_mk Tryz.underlying3 hx
  have OW:=hid hown
  have q:=hr.1 x
  rw[hk] at q
  have RD:=hid (hr.look h.once x)
  have HR:=hid hr
  obtain⟨k,hbk⟩:∃k:Nat,blockI ss x=k:=⟨(blockI ss x).toNat,by omega⟩
  rw[hbk] at MEM OTH CUT NOD LLE hb RD ⊢
  have hkn:k<n:=by omega
  obtain⟨v,hv⟩:∃v,vs[k]? = some v:=⟨_,List.getElem?_eq_getElem (by rw[h.len];exact hkn)⟩
  have HV:=hid hv
  have NGV:=hid (λg (hg:v.ownBlock=some g)=>h.gp hv hg)
  have lp:=h.row.lt
  have lr:=h.rows.lt
  have pr:=h.pr.1
  have KS:=hid (λw' (o:Only (λj=>some j=v.ownBlock) w w')=>(show w'.cell? ⟨p,0,none⟩=some (.slice (some ⟨r,0,none⟩) n n)∧w'.cell? ⟨p,2,none⟩=some (.map (some mb))∧w'.cell? ⟨r,k,none⟩=some v∧w'.frozen? ⟨r,k,none⟩=false from by
    have r1:=o.row h.row (λe=>(NGV.out p e.symm).1 rfl)
    have r2:=o.row h.rows (λe=>(NGV.out r e.symm).2.1 rfl)
    exact⟨by rw[r1.cell];rfl,by rw[r1.cell];rfl,by rw[r2.cell];simpa using hv,r2.frozen k⟩))
  have WITH:=hid (with_any v _ x w.drew ((h.lanes k v hv).still (Only.refl none_ w).drew) NOD.out MEM.out LLE.out)
  have kn:(k:Int)<(n:Int):=by omega
  clear h hk hown hr hx hbk hv hb
  go_enter Tryz.func105,Tryz.ntmps105
  go_wp2_with (first
    | (at_lookup;refine wpList_lookup_own_ok_int _ rfl _ _ 140 rfl 3 3 .i64 lawI Tryz.underlying140 Tryz.underlying3 (zeroI _) mb _ D rfl OW.out _ _ rfl hkey ?_;intro c1 hat hwc)
    | go_in)
  have hc:=RD.out _ hat
  subst hc
  clear hat hwc c2
  obtain⟨g0,g2,g3,z2⟩:=KS.out _ (Only.refl _ w)
  obtain⟨e0,e2,e3,z3⟩:=KS.out _ ((Only.refl _ w).drew)
  go_region_with (first
    | (go_at_call 143;(with_reducible refine (WITH.out).mono ?_);rintro e w5 ⟨v5,rfl,h5,a5,o5⟩;obtain⟨b5,n5,k5,rfl⟩:=int_form11 h5;dsimp only
       have W5:=hid h5
       have A5:=hid a5
       have O5:=hid ((Only.refl _ w).drew.same o5)
       obtain⟨y0,y2,y3,y4⟩:=KS.out _ O5.out
       have lp5:p<w5.heap.size:=Nat.lt_of_lt_of_le lp O5.out.size
       have lr5:r<w5.heap.size:=Nat.lt_of_lt_of_le lr O5.out.size
       clear h5 a5 o5)
    | fail)
  all_goals
    have O6:=hid ((Only.refl (λj=>j=r) w5).into rfl k (.slice b5 n5 k5))
    have OW6:=hid (owns_keep (owns_keep OW.out O5.out (λe=>(NGV.out mb e.symm).2.2 rfl)) O6.out (λe=>H.out.pr.2.2 e.symm))
    have c6:(w5.setCell ⟨r,k,none⟩ (.slice b5 n5 k5)).cell? ⟨p,2,none⟩=some (.map (some mb)):=O6.out.cell y2 pr
    have K:=hid (λw7 (own2:w7.ownsMap Tryz.prog 3 (plainElem Tryz.prog 3) mb ss.length (D.del (.int .i64 x))) (turn2:(w5.setCell ⟨r,k,none⟩ (.slice b5 n5 k5)).mapTurned w7 mb)=>H.out.turned (w7:=w7) (fs:=cutK ss x) HV.out O5.out (by rw[CUT.out];exact W5.out) (.inl A5.out) (only_turned turn2) (Md.of own2 (HR.out.del x) (H.out.once.cut x)) (λi hi=>OTH.out i hi) (H.out.once.cut x) (λs hs=>H.out.inb s (List.mem_filter.1 hs).1))
    generalize w5.setCell ⟨r,k,none⟩ (.slice b5 n5 k5)=w6 at *
    clear y0 y2 y3 y4 e0 e2 e3 z3 g0 g2 g3 z2 O6 W5 A5 O5
    go_wp2_with (first
      | (at_delete;refine wpList_delete_own _ rfl _ _ 140 3 rfl 3 lawI Tryz.underlying140 _ mb _ D rfl OW6.out _ _ rfl hkey ?_;intro w7 own2 turn2)
      | go_in)
    go_ret2
    exact⟨rfl,K.out w7 own2 turn2⟩
theorem lpull_any {p:Nat} {M:Nat→Prop} {n room:Nat} {ss:List Sd} (x:Int) (w:World) (h:Ln w p M n room ss) (hn:n≤1000) (hl:ss.length≤1000) (hx:(Lit.int .i64 x).wf=true) :
  Calls Tryz.prog 105 #[.pointer (some ⟨p,0,none⟩),.int .i64 x] w (lpullTo p M n room ss x w):=by
 obtain⟨r,mb,vs,h⟩:=h
 cases hk:hasK ss x with
 | true=>exact lpull_yes x w h hn hl hx hk
 | false=>exact lpull_no x w h hx hk
theorem good_push {came:Nat} {es:List En} (h:FineE came es) (s:Sx):seats (es++[⟨s,came+1⟩])=seats es++[s]:=by unfold seats;rw[List.map_append];rfl
theorem may_of (t:Int) (x:Wt):mayW t x↔¬ t<1∧(1≤x.r∧0≤x.p∧x.p<8):=by unfold mayW;omega
set_option maxHeartbeats 1000000 in
theorem add11 {p b room came:Nat} {es:List En} (t:Int) (x:Wt) (wx:wfW x) (w:World) (h:WAt w p b room came es) (hc:came<1000000) :
  Calls Tryz.prog 69 #[.pointer (some ⟨p,0,none⟩),.int .i64 t,.agg #[.int .i64 x.r,.int .i64 x.p]] w λe w'=>e=.returned (.int .i64 (addI room (seats es) t x))∧∃came' es',WAt w' p b room came' es'∧seats es'=addS room (seats es) t x∧came'≤came+1∧Only (two14 p b) w w':=by
 have H:=hid h
 have C25:=hid (λW=>may25_any x W)
 have C19:=hid (λW (o:Only none_ w W)=>waits19 x wx W (h.still o))
 have C23:=hid (λW (o:Only none_ w W)=>free23 W (h.still o))
 have RO:=hid (Only.refl none_ w)
 obtain⟨c,hcc⟩:∃c,addI room (seats es) t x=c:=⟨_,rfl⟩
 have HC:=hid hcc
 have HN:=hid hc
 clear h hc hcc
 rw[HC.out]
 by_cases h1:t<1
 ·have t1:decide (t<1)=true:=decide_eq_true h1
  have C1:=hid (show c=1 from by rw[←HC.out];exact if_neg (λk=>((may_of t x).1 k).1 h1))
  clear h1
  go_enter Tryz.func69,Tryz.ntmps69
  go_wp2_with fail
  go_ret
  refine⟨?_,came,es,H.out.still ((Only.refl _ _).alloc _),?_,Nat.le_succ _,((Only.refl _ _).alloc _)⟩
  ·rw[C1.out];rfl
  ·unfold addS;rw[HC.out,C1.out];rfl
 ·have t1:decide (t<1)=false:=decide_eq_false h1
  have H1:=hid h1
  clear h1
  by_cases h2:1≤x.r∧0≤x.p∧x.p<8
  ·have t2:decide (1≤x.r∧0≤x.p∧x.p<8)=true:=decide_eq_true h2
   have MY:=hid ((may_of t x).2 ⟨H1.out,h2⟩)
   rw[t2] at C25
   have CC:=hid (show c=if waitsB (seats es) x then 4 else if room≤(seats es).length then 2 else 0 from by rw[←HC.out];exact if_pos MY.out)
   clear h2 t2
   obtain⟨hs,hhs⟩:∃hs,hasE es x=hs:=⟨_,rfl⟩
   have HS:=hid hhs
   rw[hhs] at C19
   clear hhs
   go_enter Tryz.func69,Tryz.ntmps69
   go_wp2_with fail
   (with_reducible refine (C25.out _).mono ?_)
   rintro e w1 ⟨rfl,o⟩
   have O1:=hid (((Only.refl none_ w).alloc (.cells #[.int .i64 x.r,.int .i64 x.p] 36)).idle o)
   have XR:=hid (o.row (Row.fresh w 36 #[.int .i64 x.r,.int .i64 x.p]) (λs=>s))
   clear o
   have x0:w1.cell? ⟨w.heap.size,0,none⟩=some (.int .i64 x.r):=by rw[XR.out.cell];rfl
   have x1:w1.cell? ⟨w.heap.size,1,none⟩=some (.int .i64 x.p):=by rw[XR.out.cell];rfl
   go_wp2_with fail
   (with_reducible refine (C19.out w1 O1.out).mono ?_)
   rintro e w2 ⟨rfl,o⟩
   have O2:=hid (O1.out.idle o)
   have XR2:=hid (o.row XR.out (λs=>s))
   clear o x0 x1
   cases hs with
   | true =>
    have C4:=hid (show c=4 from by rw[CC.out,←has_seats,HS.out];rfl)
    go_wp2_with fail
    go_ret
    refine⟨?_,came,es,H.out.still O2.out,?_,Nat.le_succ _,O2.out.more (λi hi k=>absurd k (λs=>s))⟩
    ·rw[C4.out];rfl
    ·unfold addS;rw[HC.out,C4.out];rfl
   | false =>
    go_wp2_with fail
    (with_reducible refine (C23.out w2 O2.out).mono ?_)
    rintro e w3 ⟨rfl,o⟩
    have O3:=hid (O2.out.idle o)
    have XR3:=hid (o.row XR2.out (λs=>s))
    clear o
    obtain⟨ln,hln⟩:∃n,es.length=n:=⟨_,rfl⟩
    have LN:=hid hln
    rw[hln]
    clear hln
    have RL:=hid (show ln≤room∧room≤64 from by rw[←LN.out];exact⟨by have:=H.out.good.len;rw[seats_len] at this;exact this,H.out.good.high⟩)
    by_cases h3:ln=room
    ·have t3:((room:Int)-(ln:Int)==0)=true:=by rw[beq_iff_eq];omega
     have C2:=hid (show c=2 from by rw[CC.out,←has_seats,HS.out,seats_len,LN.out,if_neg (by simp),if_pos (by omega)])
     clear h3
     go_wp2_with fail
     go_ret
     refine⟨?_,came,es,H.out.still O3.out,?_,Nat.le_succ _,O3.out.more (λi hi k=>absurd k (λs=>s))⟩
     ·rw[C2.out];rfl
     ·unfold addS;rw[HC.out,C2.out];rfl
    ·have t3:((room:Int)-(ln:Int)==0)=false:=by rw[beq_eq_false_iff_ne];intro k;exact h3 (by omega)
     have C0:=hid (show c=0 from by rw[CC.out,←has_seats,HS.out,seats_len,LN.out,if_neg (by simp),if_neg (by have:=RL.out;omega)])
     clear h3
     have H3:=hid (H.out.still O3.out)
     have c2:w3.cell? ⟨p,2,none⟩=some (.int .i64 came):=by rw[H3.out.row.cell];rfl
     have f2:w3.frozen? ⟨p,2,none⟩=false:=H3.out.row.frozen 2
     have v2:IntKind.i64.wrap ((came:Int)+1)=((came+1:Nat):Int):=by have:=HN.out;rw[IntKind.wrap_i64];omega
     obtain⟨w4,hw4⟩:∃w4,w4=w3.setCell ⟨p,2,none⟩ (.int .i64 ((came:Int)+1)):=⟨_,rfl⟩
     have o4:Only (λk=>k=p) w3 w4:=by rw[hw4];exact (Only.refl (λk=>k=p) w3).into rfl _ _
     have NE:=hid (show p≠b from H.out.ne)
     have R4:Row w4 p 150 #[.int .i64 room,.map (some b),.int .i64 ((came:Int)+1)]:=by rw[hw4];exact H3.out.row.put 2 _
     have o4d:=o4.idle ((Only.refl none_ w4).drew)
     have R4d:=((Only.refl none_ w4).drew).still R4
     have M4d:=H3.out.md.keep o4d (λk=>NE.out k.symm)
     have XR4:=o4d.row XR3.out (λk=>by have:=H.out.row.lt;omega)
     have d1:w4.drew.cell? ⟨p,1,none⟩=some (.map (some b)):=by rw[R4d.cell];rfl
     have d2:w4.drew.cell? ⟨p,2,none⟩=some (.int .i64 ((came:Int)+1)):=by rw[R4d.cell];rfl
     obtain⟨x0,x1⟩:=XR4.two
     obtain⟨w5,run5,m5,o5⟩:=M4d.store H.out.once (by have:=H.out.len;omega) ⟨⟨t,x⟩,came+1⟩ wx HS.out
     dsimp only at run5
     rw[show ((came+1:Nat):Int)=(came:Int)+1 from rfl] at run5
     have GD:=good_add H.out.good t x
     have SE:seats (es++[⟨⟨t,x⟩,came+1⟩])=addS room (seats es) t x:=by rw[good_push H.out.fine];unfold addS;rw[HC.out,C0.out,if_pos rfl]
     rw[←SE] at GD
     have R5:=o5.row R4d (λk=>NE.out k)
     have FIN:=hid (show WAt w5 p b room (came+1) (es++[⟨⟨t,x⟩,came+1⟩]) from ⟨R5,m5,H.out.fine.add _,GD⟩)
     have FO:=hid (show Only (two14 p b) w w5 from ((O3.out.up (S:=two14 p b)).same (o4d.more (λi hi e=>.inl e))).same (o5.more (λi hi e=>.inr e)))
     have SO:=hid SE
     clear o4 R4 o4d R4d M4d XR4 m5 o5 GD SE R5
     go_upto_region 8 with fail
     rw[←hw4]
     clear hw4
     go_region
     all_goals
      go_wp2_with fail
      go_ret
      exact⟨by rw[C0.out];rfl,_,_,FIN.out,SO.out,Nat.le_refl _,FO.out⟩
  ·have t2:decide (1≤x.r∧0≤x.p∧x.p<8)=false:=decide_eq_false h2
   have C1:=hid (show c=1 from by rw[←HC.out];exact if_neg (λk=>h2 ((may_of t x).1 k).2))
   rw[t2] at C25
   clear h2 t2
   go_enter Tryz.func69,Tryz.ntmps69
   go_wp2_with fail
   (with_reducible refine (C25.out _).mono ?_)
   rintro e w1 ⟨rfl,o⟩
   have O1:=hid (((Only.refl none_ w).alloc (.cells #[.int .i64 x.r,.int .i64 x.p] 36)).idle o)
   clear o
   go_wp2_with fail
   go_ret
   refine⟨?_,came,es,H.out.still O1.out,?_,Nat.le_succ _,O1.out.more (λi hi k=>absurd k (λs=>s))⟩
   ·rw[C1.out];rfl
   ·unfold addS;rw[HC.out,C1.out];rfl
end Go.Proofs.YtfbpjobobdidiaaGreatDoor
