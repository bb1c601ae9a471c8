/- Texts of the layers below, one behind the other. -/
import Derived.Test.YtfbpjobobdidiaaGreatDoorRG24
set_option maxRecDepth 100000
set_option maxHeartbeats 4000000
namespace Go.Proofs.YtfbpjobobdidiaaGreatDoor
open Lib (hid)
open Go.Proofs.Tryz
open Go.RowKit Go.Maps
set_option linter.unusedVariables false
theorem index16 (v:Value) (ws:List Wt) (w:World) (G:FuncId) (caps:Array Value) (f:Wt→Bool) (hv:ReadsW w v ws) (hl:ws.length≤1000)
  (hG:∀(a:Value) (w:World),(callFunc G (#[a]++caps)).run prog w=.ok (.enter G (#[a]++caps)) w)
  (hL:∀x:Wt,∀w',Only n_ w w'→Calls prog G (#[.agg #[.int .i64 x.r,.int .i64 x.p]]++caps) w' λe w''=>e=.returned (.bool (f x))∧Only n_ w' w'') :
  Calls prog 148 #[v,.func (.func G) #[] caps] w λe w'=>∃n:Int,e=.returned (.int .i64 n)∧decide (0≤n)=ws.any f∧Only n_ w w':=by
 obtain⟨a,cap,rfl,rd⟩:=hv
 have RD:=hid rd
 have HL:=hid hL
 clear rd hL
 go_enter func148,ntmps148
 go_wp2_with fail
 go_loopw [5,8] (λ_ i wr=>∃k:Nat,k≤ws.length∧i=.int .i64 k∧Only n_ w wr∧∀x∈ws.take k,f x=false) (λ_ i _=>ws.length-(intOf i).toNat)
 case atStart=>exact⟨0,Nat.zero_le _,rfl,Only.refl _ _,λx hx=>by simp at hx⟩
 case round =>
  obtain⟨k,hk,rfl,ho,hn⟩:=hrel
  have OO:=hid ho
  have HN:=hid hn
  clear ho hn
  by_cases hlt:k<ws.length
  ·obtain⟨x,hx⟩:∃x,ws[k]? = some x:=⟨_,List.getElem?_eq_getElem hlt⟩
   obtain⟨g,o1,rfl,d0,d1⟩:=RD.out k x hx
   have a0:=OO.out.cell d0 (λs=>s)
   have a1:=OO.out.cell d1 (λs=>s)
   have HX:=hid hx
   have LX:=hid (HL.out x wr OO.out)
   clear hx d0 d1
   obtain⟨r,q⟩:=x
   dsimp only at *
   go_wp2_with fail
   (with_reducible refine LX.out.mono ?_)
   rintro e w2 ⟨rfl,o2⟩
   have O2:=hid (OO.out.same o2)
   clear o2 LX a0 a1
   cases hf:f ⟨r,q⟩ with
   | true =>
    have ANY:=hid (show ws.any f=true from List.any_eq_true.2 ⟨⟨r,q⟩,List.mem_of_getElem? HX.out,hf⟩)
    clear hf
    go_wp2_with fail
    go_ret
    exact⟨(k:Int),rfl,by rw[ANY.out];simp,O2.out⟩
   | false =>
    have NX:=hid (show ∀x∈ws.take (k+1),f x=false from by
     intro x hx
     rw[sxtake HX.out] at hx
     rcases List.mem_append.1 hx with q | q
     ·exact HN.out x q
     ·rw[List.mem_singleton.1 q];exact hf)
    clear hf
    go_wp2_with fail
    go_roundw
    case rel=>exact⟨k+1,by omega,by go_num,O2.out,NX.out⟩
    case measure=>simp[intOf];omega
  ·have e:k=ws.length:=by omega
   subst e
   have ANY:=hid (show ws.any f=false from by
    rw[List.any_eq_false]
    intro x hx
    have:=HN.out x (by rw[List.take_length];exact hx)
    simp[this])
   go_wp2_with fail
   go_ret
   exact⟨-1,rfl,by rw[ANY.out];rfl,OO.out⟩
theorem contains16 (v:Value) (ws:List Wt) (w:World) (G:FuncId) (caps:Array Value) (f:Wt→Bool) (hv:ReadsW w v ws) (hl:ws.length≤1000)
  (hG:∀(a:Value) (w:World),(callFunc G (#[a]++caps)).run prog w=.ok (.enter G (#[a]++caps)) w)
  (hL:∀x:Wt,∀w',Only n_ w w'→Calls prog G (#[.agg #[.int .i64 x.r,.int .i64 x.p]]++caps) w' λe w''=>e=.returned (.bool (f x))∧Only n_ w' w'') :
  Calls prog 115 #[v,.func (.func G) #[] caps] w λe w'=>e=.returned (.bool (ws.any f))∧Only n_ w w':=by
 have IX:=hid (index16 v ws w G caps f hv hl hG hL)
 obtain⟨a,cap,rfl,rd⟩:=hv
 clear hL rd
 go_enter func115,ntmps115
 go_wp2_with fail
 (with_reducible refine (IX.out).mono ?_)
 rintro e w1 ⟨n,rfl,hn,o⟩
 have O:=hid o
 have HN:=hid hn
 clear o hn
 go_wp2_with fail
 go_ret
 exact⟨by rw[←HN.out];rfl,O.out⟩
theorem isreq_any (x:Wt) (g:Nat) (r:Int) (w:World) (h:w.cell? ⟨g,0,none⟩=some (.int .i64 r)) :
  Calls prog 116 #[.agg #[.int .i64 x.r,.int .i64 x.p],.pointer (some ⟨g,0,none⟩)] w λe w'=>e=.returned (.bool (decide (x.r=r)))∧Only n_ w w':=by
 have lg:g<w.heap.size:=by
  rcases Nat.lt_or_ge g w.heap.size with k | k
  ·exact k
  ·simp[World.cell?,Array.getElem?_eq_none k] at h
 have O1:=hid ((Only.refl n_ w).alloc (.cells #[.int .i64 x.r,.int .i64 x.p] 36))
 go_enter func116,ntmps116
 go_wp2_with fail
 go_ret
 refine⟨?_,O1.out⟩
 congr 2
section
variable {p:Nat} {c:Nat→Nat} {X:Loc} {F H:Nat} {ks:List Tk} {E:Eng}
theorem ewaited_any (t:Tk) (g:Nat) (r:Int) (w:World) (h:EP w p c X F H ks E) (rw_:Row w g 123 t.cells) :
  Calls prog 71 #[pT p,pT g,.int .i64 r] w λe w'=>e=.returned (.bool ((ofL E.g t.id).any (λx=>decide (x.r=r))))∧Only n_ w w':=by
 have OF:=hid (λw' (o:Only n_ w w')=>eof_any t.id w' (h.still o))
 have LE:=hid (eof_len t.id w h)
 have lg:=rw_.lt
 have c0:w.cell? ⟨g,0,none⟩=some (.int .i64 t.id):=rw_.cell 0
 generalize ofL E.g t.id=ws at *
 generalize t.id=id at *
 unfold pT at *
 clear h rw_
 obtain⟨W1,hW1⟩:∃W1,W1=w.alloc (.cells #[.int .i64 r] 3):=⟨_,rfl⟩
 have o1:Only n_ w W1:=by rw[hW1];exact (Only.refl _ _).alloc _
 have r1:Row W1 w.heap.size 3 #[.int .i64 r]:=by rw[hW1];exact Row.fresh _ _ _
 have O1:=hid o1
 have R1:=hid r1
 clear o1 r1
 go_enter func71,ntmps71
 go_wp2_with fail
 rw[←hW1]
 clear hW1 c0
 (with_reducible refine (OF.out W1 O1.out).mono ?_)
 rintro e w2 ⟨v',rfl,rd,o2⟩
 obtain⟨a,k,rfl⟩:=rd.len
 have RD:=hid rd
 have O2:=hid (O1.out.same o2)
 have R2:=hid (o2.still R1.out)
 clear rd o2
 have CF:=hid (contains16 _ ws w2 116 #[.pointer (some ⟨w.heap.size,0,none⟩)] (λx=>decide (x.r=r)) RD.out.reads (by have:=LE.out;omega)
  (λa w=>enters_of func116 (by kernel_rfl) rfl _ w) (λx w' o=>isreq_any x w.heap.size r w' ((o.still R2.out).cell 0)))
 go_wp2_with fail
 (with_reducible refine CF.out.mono ?_)
 rintro e w3 ⟨rfl,o3⟩
 have O3:=hid (O2.out.same o3)
 clear o3
 go_wp2_with fail
 go_ret
 exact⟨rfl,O3.out⟩
end
section
variable {X:Loc} {nd na F:Nat} {qs:List Sl} {w:World}
theorem TnF.of_to {w':World} {ss:List Sl} {L:Nat} (hL:L≤F) (h:TurnTo w' X.pt X.bq nd na L ss):TnF w' X nd na (F+1) ss:=by
 obtain⟨L',ps,h1,h2,h3⟩:=h
 exact⟨L',ps,h1,h2,by omega⟩
theorem tendF (x:Int) (h:TnF w X nd na F qs) (wx:(Lit.int .i64 x).wf=true) :
  Calls prog 106 #[.pointer (some ⟨X.pt,0,none⟩),.int .i64 x] w λe w'=>e=.returned (.int .i64 (endC qs x))∧TnF w' X nd na (F+1) (cutL qs x)∧Only (two12 X.pt X.bq) w w':=by
 obtain⟨L,ps,tn,rfl,hL⟩:=h
 refine (tend_any x w tn wx).mono ?_
 rintro e w' ⟨he,ht,ho⟩
 exact⟨he,TnF.of_to hL ht,ho⟩
theorem tputF (x:Int) (a:Bool) (h:TnF w X nd na F qs) (wx:(Lit.int .i64 x).wf=true) (hF:F<100000000) :
  Calls prog 110 #[.pointer (some ⟨X.pt,0,none⟩),.int .i64 x,.bool a] w λe w'=>e=.returned (.int .i64 (putC nd na qs x a))∧TnF w' X nd na (F+1) (putS nd na qs x a)∧Only (two12 X.pt X.bq) w w':=by
 obtain⟨L,ps,tn,rfl,hL⟩:=h
 refine (tput_any x a w tn wx (by omega)).mono ?_
 rintro e w' ⟨he,ht,ho⟩
 exact⟨he,TnF.of_to hL ht,ho⟩
theorem tstartF (x:Int) (h:TnF w X nd na F qs) (wx:(Lit.int .i64 x).wf=true) :
  Calls prog 142 #[.pointer (some ⟨X.pt,0,none⟩),.int .i64 x] w λe w'=>e=.returned (.int .i64 (waitC qs x false))∧TnF w' X nd na (F+1) (waitS qs x false)∧Only (two12 X.pt X.bq) w w':=by
 obtain⟨L,ps,tn,rfl,hL⟩:=h
 refine (tstart_any x w tn wx).mono ?_
 rintro e w' ⟨he,ht,ho⟩
 exact⟨he,TnF.of_to hL ht,ho⟩
theorem tagainF (x:Int) (h:TnF w X nd na F qs) (wx:(Lit.int .i64 x).wf=true) :
  Calls prog 121 #[.pointer (some ⟨X.pt,0,none⟩),.int .i64 x] w λe w'=>e=.returned (.int .i64 (waitC qs x true))∧TnF w' X nd na (F+1) (waitS qs x true)∧Only (two12 X.pt X.bq) w w':=by
 obtain⟨L,ps,tn,rfl,hL⟩:=h
 refine (tagain_any x w tn wx).mono ?_
 rintro e w' ⟨he,ht,ho⟩
 exact⟨he,TnF.of_to hL ht,ho⟩
theorem tpromF (x:Int) (h:TnF w X nd na F qs) (wx:(Lit.int .i64 x).wf=true) (hF:F<100000000) :
  Calls prog 68 #[.pointer (some ⟨X.pt,0,none⟩),.int .i64 x] w λe w'=>e=.returned (.int .i64 (promC nd qs x))∧TnF w' X nd na (F+1) (promS nd qs x)∧Only (two12 X.pt X.bq) w w':=by
 obtain⟨L,ps,tn,rfl,hL⟩:=h
 refine (tpromote_any x w tn wx (by omega)).mono ?_
 rintro e w' ⟨he,ht,ho⟩
 exact⟨he,TnF.of_to hL ht,ho⟩
end
theorem wf_id {w:World} {p:Nat} {c:Nat→Nat} {X:Loc} {F H:Nat} {ks:List Tk} {E:Eng} (h:EP w p c X F H ks E) {t:Tk} (ht:t∈ks):(Lit.int .i64 t.id).wf=true:=by
 have:=h.idr t ht
 have:=h.ntH;have:=h.hH
 exact wf_i _ (by omega)
theorem sd_filter (ts:List Tk) (x:Int):cutK (ts.map Tk.sd) x=(ts.filter (λt=>!(t.id==x))).map Tk.sd:=by
 unfold cutK
 rw[List.filter_map]
 rfl
theorem ent_filter (A:Int→Nat) (ts:List Tk) (x:Int):cutV (ts.map (tkEnt A)) x=(ts.filter (λt=>!(t.id==x))).map (tkEnt A):=by
 unfold cutV
 rw[List.filter_map]
 rfl
theorem once_sd {ts:List Tk} (h:ts.Pairwise (λs t=>s.id≠t.id)):Once (ts.map Tk.sd):=by
 unfold Once
 rw[List.pairwise_map]
 exact h
section
variable {p:Nat} {c:Nat→Nat} {X:Loc} {F H:Nat} {ks:List Tk} {E:Eng}
theorem eend_any (t:Tk) (w:World) (h:EP w p c X F H ks E) (ht:t∈ks) (hF:F+1<100000000) :
  Calls prog 60 #[pT p,pT (X.A t.id)] w λe w'=>e=.returned (.tuple #[])∧(∃c',EP w' p c' X (F+1) H ks (E.end_ t.id)∧Gw w c c')∧Only (λg=>c g≠0∧c g≠6) w w':=by
 have hp:=h.eo.cp
 have wx:=wf_id h ht
 have r0:=(h.eo.tk t ht).1
 have hc6:=(h.eo.tk t ht).2
 have od:Only n_ w w.drew:=(Only.refl _ _).drew
 obtain⟨w5,run5,m5,o5⟩:=(h.eo.still od).tm.drop underlying96 t.id wx 0
 have e5:=(h.eo.still od).tmap m5 o5
 rw[ent_filter] at e5
 have once:=h.once
 have bd:=h.bd
 have H0:=hid h
 have O5:=hid (show Only (λg=>c g≠0∧c g≠6) w w5 from od.then_ (o5.more (λi _ e=>by rw[e,h.eo.cb];exact⟨by decide,by decide⟩)))
 have PL:=hid (lpull_any t.id w5.drew (e5.still ((Only.refl _ _).drew)).ln bd.1 bd.2 wx)
 have E5:=hid e5
 have WX:=hid wx
 have ON:=hid (once_sd once)
 have c17:w.drew.cell? ⟨p,17,none⟩=some (.map (some X.bt)):=h.cell 17
 have c0:w.drew.cell? ⟨X.A t.id,0,none⟩=some (.int .i64 t.id):=r0.cell 0
 have d14:w5.drew.cell? ⟨p,14,none⟩=some (.pointer (some ⟨X.pl,0,none⟩)):=e5.row.cell 14
 have d0:w5.drew.cell? ⟨X.A t.id,0,none⟩=some (.int .i64 t.id):=(e5.tk t ht).1.cell 0
 clear m5 o5 e5 od r0 once bd hp hc6 wx h
 unfold pT
 go_enter func60,ntmps60
 go_upto_region 0 with fail
 go_region
 clear run5 c17 c0
 go_wp2_with fail
 go_region_with (first
  | (go_at_call 105;(with_reducible refine PL.out.mono ?_);rintro e w6 ⟨rfl,lt6⟩)
  | fail)
 all_goals
  obtain⟨c6,e6,g6,o6⟩:=(E5.out.still ((Only.refl _ _).drew)).lanes lt6
  rw[pull_cut ON.out,sd_filter] at e6
  have E6:=hid e6
  have G6:=hid g6
  have O6:=hid (O5.out.same (((Only.refl n_ w5).drew).then_ (o6.more (S':=λg=>c g≠0∧c g≠6) (λi _ e=>by rw[e];exact⟨by decide,by decide⟩))))
  have TE:=hid (tendF t.id (E6.out.still ((Only.refl _ _).drew)).tn WX.out)
  have y15:w6.drew.cell? ⟨p,15,none⟩=some (.pointer (some ⟨X.pt,0,none⟩)):=e6.row.cell 15
  have y0:w6.drew.cell? ⟨X.A t.id,0,none⟩=some (.int .i64 t.id):=(e6.tk t ht).1.cell 0
  have O5S:=hid (show w.heap.size≤w5.drew.heap.size from O5.out.size)
  clear lt6 e6 g6 o6 d14 d0 E5 O5
  go_wp2_with fail
  go_region_with (first
   | (go_at_call 106;(with_reducible refine TE.out.mono ?_);rintro e w7 ⟨rfl,t7,o7⟩)
   | fail)
  all_goals
   have e7:=(E6.out.still ((Only.refl _ _).drew)).turns (Nat.le_succ F) t7 o7
   have o8:Only (λg=>c g≠0∧c g≠6) w w7:=O6.out.same (((Only.refl n_ w6).drew).then_ (o7.more (S':=λg=>c g≠0∧c g≠6) (λi _ e=>by
    rcases e with e | e
    ·rw[e,H0.out.eo.ct.1];exact⟨by decide,by decide⟩
    ·rw[e,H0.out.eo.ct.2];exact⟨by decide,by decide⟩)))
   go_wp2_with fail
   go_end0
   refine⟨rfl,⟨c6,?_,(Gw.refl w c).trans G6.out O5S.out⟩,o8⟩
   exact { eo:=e7,sub:=λs hs=>H0.out.sub s (List.mem_filter.1 hs).1,may:=H0.out.may,idr:=H0.out.idr,tag:=H0.out.tag,few:=Nat.le_trans (List.length_filter_le _ _) H0.out.few,mfew:=H0.out.mfew,ntH:=H0.out.ntH,ngH:=H0.out.ngH,hF:=hF,hH:=H0.out.hH }
end
end Go.Proofs.YtfbpjobobdidiaaGreatDoor
