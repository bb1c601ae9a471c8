/- Lanes in memory: a ticket is pushed where there is room. -/
import Derived.Test.YtfbpjobobdidiaaGreatDoorRG08
set_option maxRecDepth 100000
namespace Go.Proofs.YtfbpjobobdidiaaGreatDoor
open Lib (hid)
open Go.Proofs.Tryz
open Go.RowKit Go.Maps
set_option linter.unusedVariables false
theorem wf_small {n:Nat} (h:n≤1000):(Lit.int .i64 (n:Int)).wf=true:=wf_i _ (by omega)
set_option maxHeartbeats 4000000 in
theorem lpush_yes {p r mb k:Nat} {vs:List Value} {M:Nat→Prop} {n room:Nat} {ss:List Sd} (x:Int) (w:World) (h:LL w p r mb vs M n room ss) (hk:k<n) (hn:n≤1000) (h1:1≤x) (hl:ss.length≤1000) (hx:(Lit.int .i64 x).wf=true) (hx0:hasK ss x=false) (hr:ss.length<room) :
    Calls prog 109 #[.pointer (some ⟨p,0,none⟩),.int .i64 k,.int .i64 x] w λe w'=>e=.returned (.int .i64 0)∧LnTo w p M n room (ss++[⟨k,x⟩]) w':=by
  have HAS:=hid (lhas_any k w h)
  rw[decide_eq_true (show 0≤(k:Int)∧(k:Int)<(n:Int) by omega)] at HAS
  have H:=hid h
  have c2:w.cell? ⟨p,2,none⟩=some (.map (some mb)):=by rw[h.row.cell];rfl
  have c2':w.drew.cell? ⟨p,2,none⟩=some (.map (some mb)):=c2
  have c1':w.drew.cell? ⟨p,1,none⟩=some (.int .i64 room):=by show w.cell? _=_;rw[h.row.cell];rfl
  have LEN:=(h.md.still (Only.refl n_ w).drew).len h.once
  have t:((ss.length:Int)==(room:Int))=false:=by simp;omega
  obtain⟨D,hown,hrd⟩:=h.md
  have hkey:=keyOf_int_mk underlying3 hx
  have OW:=hid hown
  have q:=hrd.1 x
  rw[hx0] at q
  have d:decide (x<1)=false:=by simp;omega
  have HX:=hid hx
  have HX0:=hid hx0
  have HL:=hid hl
  have HK:=hid hk
  have HN:=hid hn
  obtain⟨m,hm⟩:∃m,ss.length=m:=⟨_,rfl⟩
  rw[hm] at LEN t OW
  clear h hown hrd hx hr hm hx0 hl hn h1
  go_enter func109,ntmps109
  go_wp2_with fail
  (with_reducible refine HAS.out.mono ?_)
  rintro e w' ⟨rfl,rfl⟩
  go_wp2_with (first
    | (at_lookup;refine wpList_lookup_own_ok_int _ rfl _ _ 140 rfl 3 3 .i64 lawI underlying140 underlying3 (zeroI _) mb _ D rfl OW.out _ _ rfl hkey ?_;intro c1 hat hwc)
    | go_in)
  go_region
  clear c2 c2' c1' LEN t OW q d hkey hat hwc HAS
  go_wp2_with fail
  have h:=H.out.still (Only.refl n_ w).drew
  have OW0:=hid (show Only M w w.drew from (Only.refl M w).drew)
  have LE0:=hid (show w.heap.size≤w.drew.heap.size from Nat.le_refl _)
  generalize w.drew=W at *
  obtain⟨v,hv⟩:∃v,vs[k]? = some v:=⟨_,List.getElem?_eq_getElem (by rw[h.len];exact hk)⟩
  have NGV:=hid (λg (hg:v.ownBlock=some g)=>h.gp hv hg)
  have lp:=h.row.lt
  have lr:=h.rows.lt
  have pr:=h.pr.1
  have KS:=hid (λw' (o:Only (λj=>some j=v.ownBlock) W w')=>(show w'.cell? ⟨p,0,none⟩=some (.slice (some ⟨r,0,none⟩) n n)∧w'.cell? ⟨p,2,none⟩=some (.map (some mb))∧w'.cell? ⟨r,k,none⟩=some v∧w'.frozen? ⟨r,k,none⟩=false from by
    have r1:=o.row h.row (λe=>(NGV.out p e.symm).1 rfl)
    have r2:=o.row h.rows (λe=>(NGV.out r e.symm).2.1 rfl)
    exact⟨by rw[r1.cell];rfl,by rw[r1.cell];rfl,by rw[r2.cell];simpa using hv,r2.frozen k⟩))
  obtain⟨l,hl⟩:∃l,laneL ss (k:Int)=l:=⟨_,rfl⟩
  have LV:=h.lanes k v hv
  rw[hl] at LV
  have OA:=hid (((Only.refl n_ W).drew).alloc (.cells #[.int .i64 x] 3))
  have OWN:=hid (show ((W.drew).alloc (.cells #[.int .i64 x] 3)).ownsRow 0 3 1 v l.length (l.flatMap one11) from LV.still OA.out)
  have NEWS:=hid (show ∀j u,([.int .i64 x]:List Value)[j]? = some u→((W.drew).alloc (.cells #[.int .i64 x] 3)).cell? ((Addr.mk (W.drew).heap.size 0 none).add j)=some u from λj u hj=>by rw[addL11,Nat.zero_add,(Row.fresh W.drew _ _).cell,List.getElem?_toArray];exact hj)
  have ONES:=hid (show ∀u∈([.int .i64 x]:List Value),u.oneCell'=true from λu hu=>by rw[List.mem_singleton.1 hu];rfl)
  have ll:=lane_le ss (k:Int)
  rw[hl] at ll
  have B1:=hid (show l.length+1≤maxLen from by have:=HL.out;unfold maxLen;omega)
  have B2:=hid (show (l.length+1)*8≤140737488355328 from by have:=HL.out;omega)
  have LVF:=hid (int_form (show W.ownsRow 0 3 1 v l.length (l.flatMap one11) from LV))
  have HV:=hid hv
  have H2:=hid h
  have LVH:=hid LV
  have HLL:=hid hl
  obtain⟨i0,hi0,hz0,hz1,hz2⟩:=info_partsR info_int8
  have I0:=hid hi0
  have I1:=hid hz0
  have I2:=hid hz1
  have I3:=hid hz2
  clear hi0 hz0 hz1 hz2 ll LV h hv hl H
  obtain⟨g0,g2,g3,z2⟩:=KS.out _ (Only.refl _ W)
  obtain⟨e0,e2,e3,z3⟩:=KS.out _ ((Only.refl _ W).drew)
  obtain⟨f0,f2,f3,z4⟩:=KS.out _ OA.out.up
  have lpd:p<W.drew.heap.size:=lp
  have lrd:r<W.drew.heap.size:=lr
  have kn:(k:Int)<(n:Int):=by omega
  go_region_law
    (first
      | (refine step_append_at11 rfl (.tmp 48) (.tmp 50) 209 rfl 0 3 i0 _ 1 8 underlying209 I0.out I1.out I2.out I3.out rfl (by decide) v l.length (l.flatMap one11) (by simp[Act.eval]) OWN.out ⟨W.drew.heap.size,0,none⟩ 1 1 [.int .i64 x] (by simp[Act.eval]) rfl NEWS.out ONES.out B1.out B2.out (Nat.zero_le _) ?_
         intro v5 w5 hown5 hgrow5 hat5
         obtain⟨a5,n5,k5,rfl⟩:=int_form hown5
         have G5:=hid hgrow5
         have AT:=hid hat5
         have W5:=hid hown5
         have O5:=hid (OA.out.up.trans (S':=λj=>some j=v.ownBlock) (Only.of_grown hgrow5) (λi _ s=>s))
         obtain⟨y0,y2,y3,y4⟩:=KS.out _ O5.out
         have lp5:p<w5.heap.size:=Nat.lt_of_lt_of_le lp O5.out.size
         have lr5:r<w5.heap.size:=Nat.lt_of_lt_of_le lr O5.out.size
         clear hown5 hgrow5 hat5)
      | fail)
  all_goals
    have MORE:=hid (show laneL (ss++[⟨(k:Int),x⟩]) (k:Int)=l++[x] from by rw[lane_more,if_pos rfl,HLL.out])
    have ow:OwI w5 0 (.slice a5 n5 k5) (laneL (ss++[⟨(k:Int),x⟩]) (k:Int)):=by
      rw[MORE.out]
      show Owns _ _ _ _ _ _ _
      unfold Owns
      have k:=W5.out
      rw[List.flatMap_append,List.length_append]
      simpa [one11] using k
    have O6:=hid ((Only.refl (λj=>j=r) w5).into rfl k (.slice a5 n5 k5))
    have md6:=(H2.out.md.keep O5.out (λe=>(NGV.out mb e.symm).2.2 rfl)).keep O6.out (λe=>H2.out.pr.2.2 e.symm)
    obtain⟨w7,run7,md7,o7⟩:=store11 md6 H2.out.once HL.out x (k:Int) HX0.out HX.out (wf_small (by have:=HN.out;omega))
    have c6:(w5.setCell ⟨r,k,none⟩ (.slice a5 n5 k5)).cell? ⟨p,2,none⟩=some (.map (some mb)):=O6.out.cell y2 pr
    have K:=hid (H2.out.turned (fs:=ss++[⟨(k:Int),x⟩]) HV.out O5.out ow (AT.out.imp id (λe=>⟨_,e,OA.out.size⟩)) o7 md7 (λi hi=>by rw[lane_more,if_neg (λe=>hi e.symm)]) (H2.out.once.more _ _ HX0.out) (λs hs=>by
      rcases List.mem_append.1 hs with hs | hs
      · exact H2.out.inb s hs
      · rw[List.mem_singleton.1 hs]
        exact⟨Int.natCast_nonneg _,kn⟩))
    clear md6 md7 o7 ow
    generalize w5.setCell ⟨r,k,none⟩ (.slice a5 n5 k5)=w6 at *
    go_wp2_with fail
    go_ret
    exact⟨rfl,K.out.1.imp (λ_ k=>⟨k.1,λg hg=>(k.2 g hg).imp id (λz=>Nat.le_trans LE0.out z)⟩),OW0.out.same K.out.2⟩
theorem lpush_any {p:Nat} {M:Nat→Prop} {n room:Nat} {ss:List Sd} (b x:Int) (w:World) (h:Ln w p M n room ss) (hn:n≤1000) (hl:ss.length≤1000) (hr:ss.length≤room) (hx:(Lit.int .i64 x).wf=true) :
  Calls prog 109 #[.pointer (some ⟨p,0,none⟩),.int .i64 b,.int .i64 x] w (lpushTo p M n room ss b x w):=by
 obtain⟨r,mb,vs,h⟩:=h
 by_cases hin:0≤b∧b<n∧1≤x
 ·cases hk:hasK ss x with
  | true=>exact lpush_exists b x w h hin hx hk
  | false =>
   by_cases hf:ss.length=room
   ·exact lpush_full b x w h hin hx hk hf
   ·obtain⟨k,rfl⟩:∃k:Nat,b=k:=⟨b.toNat,by omega⟩
    have PC:pushC n room ss k x=0:=by unfold pushC;rw[if_pos hin,tk_has,hk,if_neg (by decide),if_neg (by omega)]
    have PS:pushS n room ss k x=ss++[⟨(k:Int),x⟩]:=by unfold pushS;rw[if_pos PC]
    unfold lpushTo
    rw[PC,PS]
    exact lpush_yes x w h (by omega) hn hin.2.2 hl hx hk (by omega)
 ·exact lpush_arg b x w h hin
end Go.Proofs.YtfbpjobobdidiaaGreatDoor
