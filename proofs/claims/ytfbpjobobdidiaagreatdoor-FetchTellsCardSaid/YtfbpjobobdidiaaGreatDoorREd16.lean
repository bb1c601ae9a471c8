/- An engine in memory: a new ticket comes. -/
import Derived.Test.YtfbpjobobdidiaaGreatDoorRG27
namespace Go.Proofs.YtfbpjobobdidiaaGreatDoor
open Lib (hid)
open Go.Proofs.Tryz
open Go.RowKit Go.Maps
set_option linter.unusedVariables false
set_option maxRecDepth 100000
section
variable {p:Nat} {c:Nat→Nat} {X:Loc} {F H:Nat} {ks:List Tk} {E:Eng}
def Loc.with (X:Loc) (x:Int) (g:Nat):Loc:={ X with A:=setI X.A x g }
theorem ent_more (A:Int→Nat) (ts:List Tk) (t:Tk) (g:Nat) (h:∀s∈ts,s.id≠t.id):ts.map (tkEnt A)++[(t.id,pT g)]=(ts++[t]).map (tkEnt (setI A t.id g)):=by
  rw[List.map_append]
  congr 1
  · apply List.map_congr_left
    intro s hs
    unfold tkEnt setI
    rw[if_neg (h s hs)]
  · unfold tkEnt setI
    simp
set_option maxHeartbeats 4000000 in
theorem eenter_any (kind b:Int) (w:World) (h:EP w p c X F H ks E) (hb:E.has b=true) (hq:putC E.o.b3.toNat E.o.b4.toNat E.qs (E.nt+1) (kind==3)=0) (hl:E.ts.length<128) (hl2:(E.ts.length:Int)<E.o.b3+E.o.b4) (hF:F+1<100000000) (hH:H+1<1000000) :
    Calls prog 67 #[pT p,.int .i64 kind,.int .i64 b] w λe w'=>∃g,e=.returned (pT g)∧(∃c',EP w' p c' (X.with (E.nt+1) g) (F+1) (H+1) (ks++[E.new kind b]) (E.enter kind b)∧Gw w c c')∧w.heap.size≤g∧Only (λg=>c g≠0∧c g≠6) w w':=by
  have lp:=h.eo.row.lt
  have old:∀s∈ks,s.id≠(E.new kind b).id:=λs hs=>by
    have:=h.idr s hs
    show s.id≠(E.nt:Int)+1
    omega
  have v1:IntKind.i64.wrap ((E.nt:Int)+1)=(E.nt:Int)+1:=by have:=h.ntH;have:=h.hH;rw[IntKind.wrap_i64];omega
  have wx:(Lit.int .i64 ((E.nt:Int)+1)).wf=true:=by have:=h.ntH;have:=h.hH;exact wf_i _ (by omega)
  have p19:w.cell? ⟨p,19,none⟩=some (.int .i64 E.nt):=h.cell 19
  have f19:w.frozen? ⟨p,19,none⟩=false:=h.eo.row.frozen 19
  obtain⟨W1,hW1⟩:∃W1,W1=w.setCell ⟨p,19,none⟩ (.int .i64 ((E.nt:Int)+1)):=⟨_,rfl⟩
  have o1:Only (λk=>k=p) w W1:=by rw[hW1];exact (Only.refl (λk=>k=p) w).into rfl _ _
  have r1:Row W1 p 99 (engCells X E.o (E.nt+1) E.ng):=by
    have:=h.eo.row.put 19 (.int .i64 ((E.nt:Int)+1))
    rw[←hW1] at this
    exact this
  have e1:=h.eo.own r1 o1
  obtain⟨W2,hW2⟩:∃W2,W2=W1.alloc (.cells (E.new kind b).cells 123):=⟨_,rfl⟩
  have e2:=e1.born (t:=E.new kind b) old
  rw[←hW2] at e2
  have s1:W1.heap.size=w.heap.size:=by rw[hW1];exact World.size_setCell _ _ _
  have o2:Only n_ W1 W2:=by rw[hW2];exact (Only.refl _ _).alloc _
  have od:Only n_ W2 W2.drew:=(Only.refl _ _).drew
  have c1z:c p≠0∧c p≠6:=by rw[h.eo.cp];exact⟨by decide,by decide⟩
  have O2:=hid (show Only (λg=>c g≠0∧c g≠6) w W2.drew from ((o1.more (S':=λg=>c g≠0∧c g≠6) (λi _ e=>by rw[e];exact c1z)).idle o2).idle od)
  rw[s1] at e2
  have hx:hasV (E.ts.map (tkEnt X.A)) ((E.nt:Int)+1)=false:=by
    cases q:hasV (E.ts.map (tkEnt X.A)) ((E.nt:Int)+1) with
    | false=>rfl
    | true =>
      obtain⟨s,hs,e⟩:=hasV_iff.1 q
      obtain⟨t,ht,rfl⟩:=List.mem_map.1 hs
      exact absurd e (old t (h.sub t ht))
  obtain⟨w3,run3,m3,o3⟩:=(e2.still od).tm.store underlying96 (by rw[List.length_map];omega) ((E.nt:Int)+1) (pT w.heap.size) wx hx
  have e3:=(e2.still od).tmap m3 o3
  have TM:=ent_more X.A E.ts (E.new kind b) w.heap.size (λs hs=>old s (h.sub s hs))
  rw[show E.ts.map (tkEnt X.A)++[((E.nt:Int)+1,pT w.heap.size)]=(E.ts++[E.new kind b]).map (tkEnt (setI X.A (E.new kind b).id w.heap.size)) from TM] at e3
  have O3:=hid (O2.out.same (o3.more (S':=λg=>c g≠0∧c g≠6) (λi _ e=>by
    have:i=X.bt:=e
    rw[this,h.eo.cb];exact⟨by decide,by decide⟩)))
  have E3:=hid e3
  have bd:=h.bd
  have may:=h.may
  unfold Opt.MayC at may
  have PU:=lpush_any b ((E.nt:Int)+1) w3.drew (e3.still ((Only.refl _ _).drew)).ln bd.1 bd.2 (by rw[List.length_map];omega) wx
  have hb':0≤b∧b<E.o.b0:=of_decide_eq_true hb
  have PC:pushC E.o.b0.toNat (E.o.b3+E.o.b4).toNat (E.ts.map Tk.sd) b ((E.nt:Int)+1)=0:=by
    unfold pushC
    rw[if_pos ⟨hb'.1,by omega,by omega⟩,tk_has]
    have:hasK (E.ts.map Tk.sd) ((E.nt:Int)+1)=false:=by
      cases q:hasK (E.ts.map Tk.sd) ((E.nt:Int)+1) with
      | false=>rfl
      | true =>
        obtain⟨s,hs,e⟩:=hasK_iff.1 q
        obtain⟨t,ht,rfl⟩:=List.mem_map.1 hs
        exact absurd e (old t (h.sub t ht))
    rw[this,if_neg (by decide),List.length_map,if_neg (by omega)]
  have PS:pushS E.o.b0.toNat (E.o.b3+E.o.b4).toNat (E.ts.map Tk.sd) b ((E.nt:Int)+1)=(E.ts++[E.new kind b]).map Tk.sd:=by
    unfold pushS
    rw[if_pos PC,List.map_append]
    rfl
  unfold lpushTo at PU
  rw[PS,PC] at PU
  have PU:=hid PU
  have HQ:=hid hq
  have WX:=hid wx
  have HH:=hid h
  have OLD:=hid old
  have SZ:=hid (show w.heap.size≤w3.drew.heap.size from O3.out.size)
  have GB:=hid (show Gw w c (setN c w.heap.size 6) from λg hg=>by
    unfold setN at hg
    by_cases q:g=w.heap.size
    · exact .inr (by omega)
    · rw[if_neg q] at hg;exact .inl hg)
  have z17:W2.drew.cell? ⟨p,17,none⟩=some (.map (some X.bt)):=(e2.still od).row.cell 17
  have zt:=(e2.still od).tk (E.new kind b) (by simp)
  have zA:setI X.A (E.new kind b).id w.heap.size (E.new kind b).id=w.heap.size:=if_pos rfl
  have z0:W2.drew.cell? ⟨w.heap.size,0,none⟩=some (.int .i64 ((E.nt:Int)+1)):=by
    have:=zt.1.cell 0
    rw[show ({ X with A:=setI X.A (E.new kind b).id w.heap.size }:Loc).A (E.new kind b).id=w.heap.size from zA] at this
    exact this
  have q19:W1.cell? ⟨p,19,none⟩=some (.int .i64 ((E.nt:Int)+1)):=r1.cell 19
  have y14:w3.drew.cell? ⟨p,14,none⟩=some (.pointer (some ⟨X.pl,0,none⟩)):=e3.row.cell 14
  have yt:=e3.tk (E.new kind b) (by simp)
  have y0:w3.drew.cell? ⟨w.heap.size,0,none⟩=some (.int .i64 ((E.nt:Int)+1)):=by
    have:=yt.1.cell 0
    rw[show ({ X with A:=setI X.A (E.new kind b).id w.heap.size }:Loc).A (E.new kind b).id=w.heap.size from zA] at this
    exact this
  have HW2:(w.setCell ⟨p,19,none⟩ (.int .i64 ((E.nt:Int)+1))).alloc (.cells #[.int .i64 ((E.nt:Int)+1),.int .i64 kind,.int .i64 b,.int .i64 0,.int .i64 0,.int .i64 0,.bool false,.bool false,.bool false,.int .u64 0] 123)=W2:=by rw[hW2,hW1];rfl
  clear zt yt zA hx e1 e2 e3 o1 o2 o3 od m3 PC PS bd may hb hq hb' wx TM r1 old h c1z
  unfold pT at *
  go_enter func67,ntmps67
  go_upto_region 3 with fail
  first | rw[HW2] | rw[show (w.setCell ⟨p,19,none⟩ (.int .i64 ((E.nt:Int)+1))).alloc (.cells (E.new kind b).cells 123)=W2 from HW2]
  clear HW2 hW2 hW1 p19 f19 q19 v1
  go_region
  clear run3 z17 z0
  go_wp2_with fail
  go_region_with (first
    | (go_at_call 109;(with_reducible refine PU.out.mono ?_);rintro e w6 ⟨rfl,lt6⟩)
    | fail)
  all_goals
    obtain⟨c6,e6,g6,o6⟩:=(E3.out.still ((Only.refl _ _).drew)).lanes lt6
    have E6:=hid e6
    have G6:=hid g6
    have HC:=HH.out
    have cc:∀g,setN c w.heap.size 6 g=2→c g≠0∧c g≠6:=λg hg=>by
      unfold setN at hg
      by_cases q:g=w.heap.size
      · rw[if_pos q] at hg;exact absurd hg (by decide)
      · rw[if_neg q] at hg;rw[hg];exact⟨by decide,by decide⟩
    have O6:=hid (O3.out.same (((Only.refl n_ w3).drew).then_ (o6.more (S':=λg=>c g≠0∧c g≠6) (λi _ e=>cc i e))))
    have TE:=tputF ((E.nt:Int)+1) (kind==3) (E6.out.still ((Only.refl _ _).drew)).tn WX.out (by omega)
    unfold putS at TE
    rw[HQ.out,if_pos rfl] at TE
    have TE:=hid TE
    have y15:w6.drew.cell? ⟨p,15,none⟩=some (.pointer (some ⟨X.pt,0,none⟩)):=e6.row.cell 15
    have yt:=e6.tk (E.new kind b) (by simp)
    have zA:setI X.A (E.new kind b).id w.heap.size (E.new kind b).id=w.heap.size:=if_pos rfl
    have y1:w6.drew.cell? ⟨w.heap.size,0,none⟩=some (.int .i64 ((E.nt:Int)+1)):=by
      have:=yt.1.cell 0
      rw[show ({ X with A:=setI X.A (E.new kind b).id w.heap.size }:Loc).A (E.new kind b).id=w.heap.size from zA] at this
      exact this
    clear lt6 e6 g6 o6 y14 y0 E3 O3 yt zA HC cc
    go_wp2_with fail
    go_region_with (first
      | (go_at_call 110;(with_reducible refine TE.out.mono ?_);rintro e w7 ⟨rfl,t7,o7⟩)
      | fail)
    all_goals
      have e7:=((E6.out.still ((Only.refl _ _).drew)).turns (Nat.le_succ F) t7 o7).up (Nat.le_refl _) (Nat.le_succ H)
      have o8:Only (λg=>c g≠0∧c g≠6) w w7:=O6.out.same (((Only.refl n_ w6).drew).then_ (o7.more (S':=λg=>c g≠0∧c g≠6) (λi _ e=>by
        rcases e with e | e
        · rw[e,HH.out.eo.ct.1];exact⟨by decide,by decide⟩
        · rw[e,HH.out.eo.ct.2];exact⟨by decide,by decide⟩)))
      clear t7 o7
      go_wp2_with fail
      go_ret
      refine⟨w.heap.size,rfl,⟨c6,?_,GB.out.trans G6.out SZ.out⟩,Nat.le_refl _,o8⟩
      have h:=HH.out
      exact { eo:=e7,sub:=λs hs=>(by
                rcases List.mem_append.1 hs with q | q
                · exact List.mem_append_left _ (h.sub s q)
                · exact List.mem_append_right _ q),
              may:=h.may,
              idr:=λt ht=>(by
                show 1≤t.id∧t.id≤((E.nt+1:Nat):Int)
                rcases List.mem_append.1 ht with q | q
                · have:=h.idr t q;omega
                · rw[List.mem_singleton.1 q];show 1≤(E.nt:Int)+1∧(E.nt:Int)+1≤_;omega),
              tag:=h.tag,few:=(by show (E.ts++[E.new kind b]).length≤128;rw[List.length_append,List.length_singleton];omega),mfew:=h.mfew,
              ntH:=(by show E.nt+1≤H+1;have:=h.ntH;omega),ngH:=(by have:=h.ngH;show E.ng≤H+1;omega),hF:=hF,hH:=hH }
end
end Go.Proofs.YtfbpjobobdidiaaGreatDoor
