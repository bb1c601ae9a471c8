/- Texts of the layers below, one behind the other. -/
import Derived.Test.YtfbpjobobdidiaaGreatDoorREd16
set_option maxRecDepth 100000
set_option maxHeartbeats 4000000
namespace Go.Proofs.YtfbpjobobdidiaaGreatDoor
open Lib (hid)
open Go.Proofs.Tryz
open Go.RowKit Go.Maps
set_option linter.unusedVariables false
theorem upd_sd {ts:List Tk} {x:Int} {f:Tk→Tk} (k:Keeps f):(upd ts x f).map Tk.sd=ts.map Tk.sd:=by
 unfold upd
 rw[List.map_map]
 apply List.map_congr_left
 intro t _
 show Tk.sd (if t.id=x then f t else t)=t.sd
 unfold Tk.sd
 rw[(keep_if k x t).1,(keep_if k x t).2]
theorem upd_ent {A:Int→Nat} {ts:List Tk} {x:Int} {f:Tk→Tk} (k:Keeps f):(upd ts x f).map (tkEnt A)=ts.map (tkEnt A):=by
 unfold upd
 rw[List.map_map]
 apply List.map_congr_left
 intro t _
 show tkEnt A (if t.id=x then f t else t)=tkEnt A t
 unfold tkEnt
 rw[(keep_if k x t).1]
section
variable {w w':World} {p:Nat} {c:Nat→Nat} {X:Loc} {F H:Nat} {ks:List Tk} {E:Eng}
theorem EP.tick (h:EP w p c X F H ks E) {t:Tk} (ht:t∈ks) (f:Tk→Tk) (k:Keeps f) (r:Row w' (X.A t.id) 123 (f t).cells) (o:Only (λk=>k=X.A t.id) w w'):EP w' p c X F H (upd ks t.id f) (E.upd t.id f) where
 eo:=by
  have:=h.eo.tick ht f (λs=>(k s).1) r o
  rw[show ((E.upd t.id f).ts.map Tk.sd)=E.ts.map Tk.sd from upd_sd k,show ((E.upd t.id f).ts.map (tkEnt X.A))=E.ts.map (tkEnt X.A) from upd_ent k]
  exact this
 sub:=λs hs=>by
  obtain⟨u,hu,rfl⟩:=upd_mem hs
  exact List.mem_map.2 ⟨u,h.sub u hu,rfl⟩
 may:=h.may
 idr:=λs hs=>by
  obtain⟨u,hu,rfl⟩:=upd_mem hs
  rw[(keep_if k t.id u).1]
  exact h.idr u hu
 tag:=h.tag
 few:=by
  show (upd E.ts t.id f).length≤128
  unfold Go.Proofs.YtfbpjobobdidiaaGreatDoor.upd
  rw[List.length_map];exact h.few
 mfew:=h.mfew
 ntH:=h.ntH
 ngH:=h.ngH
 hF:=h.hF
 hH:=h.hH
theorem EP.put (h:EP w p c X F H ks E) {t:Tk} (ht:t∈ks) (f:Tk→Tk) (k:Keeps f) (i:Nat) (v:Value) (e:(f t).cells=t.cells.setIfInBounds i v):EP (w.setCell ⟨X.A t.id,i,none⟩ v) p c X F H (upd ks t.id f) (E.upd t.id f):=
 h.tick ht f k (by rw[e];exact (h.eo.tk t ht).1.put i v) ((Only.refl (λk=>k=X.A t.id) w).into rfl i v)
theorem EP.turned (h:EP w p c X F H ks E) {qs:List Sl} (hF:F+1<100000000) (t:TnF w' X E.o.b3.toNat E.o.b4.toNat (F+1) qs) (o:Only (two12 X.pt X.bq) w w'):EP w' p c X (F+1) H ks { E with qs:=qs }:=
 { eo:=h.eo.turns (Nat.le_succ F) t o,sub:=h.sub,may:=h.may,idr:=h.idr,tag:=h.tag,few:=h.few,mfew:=h.mfew,ntH:=h.ntH,ngH:=h.ngH,hF:=hF,hH:=h.hH }
theorem EP.waiters (h:EP w p c X F H ks E) {g:List Sx} {H':Nat} (hl:H≤H') (hH:H'<1000000) (k:WGto w X.pg (λg=>c g=4) E.o.b9.toNat H' g w'):∃c',EP w' p c' X F H' ks { E with g:=g }∧Gw w c c'∧Only (λg=>c g=4) w w':=by
 obtain⟨c',e,gw,o⟩:=h.eo.reg hl k
 exact⟨c',{ eo:=e,sub:=h.sub,may:=h.may,idr:=h.idr,tag:=h.tag,few:=h.few,mfew:=h.mfew,ntH:=Nat.le_trans h.ntH hl,ngH:=Nat.le_trans h.ngH hl,hF:=h.hF,hH:=hH },gw,o⟩
theorem EP.waitersV (h:EP w p c X F H ks E) {g:List Sx} {H':Nat} {v:Value} (hl:H≤H') (hH:H'<1000000) (k:WGtoV w X.pg (λg=>c g=4) E.o.b9.toNat H' g v w') (hv:∀b,v.ownBlock=some b→c b=0):∃c',EP w' p c' X F H' ks { E with g:=g }∧Gw w c c'∧Only (λg=>c g=4) w w'∧∀b,v.ownBlock=some b→c' b=0:=by
 obtain⟨c',e,gw,o,z⟩:=h.eo.regV hl k hv
 exact⟨c',{ eo:=e,sub:=h.sub,may:=h.may,idr:=h.idr,tag:=h.tag,few:=h.few,mfew:=h.mfew,ntH:=Nat.le_trans h.ntH hl,ngH:=Nat.le_trans h.ngH hl,hF:=h.hF,hH:=hH },gw,o,z⟩
theorem addS_ok {E:Eng} {t:Int} {x:Wt} (ht:1≤t) (m:mayP x) (n:waitsB E.g x=false) (l:(E.g.length:Int)<E.o.b9):addS E.o.b9.toNat E.g t x=E.g++[⟨t,x⟩]:=by
 have:addI E.o.b9.toNat E.g t x=0:=by
  unfold addI
  unfold mayP at m
  rw[if_pos (show mayW t x from ⟨ht,m.1,m.2.1,by omega⟩),n,if_neg (by decide),if_neg (by omega)]
 unfold addS
 rw[if_pos this]
theorem room16 {E:Eng} {ex rest:List Int} (h:InvX E ex rest) {kind:Int} (hf:if kind=3 then E.fa≠0 else E.fd≠0):putC E.o.b3.toNat E.o.b4.toNat E.qs (E.nt+1) (kind==3)=0∧E.ts.length<128∧(E.ts.length:Int)<E.o.b3+E.o.b4:=by
 have hm:=h.may
 unfold Opt.MayC at hm
 have h1:=h.fewd
 have h2:=h.fewa
 have e:=two_len Sl.a E.qs
 have el:E.ts.length=E.qs.length:=by
  have e1:(E.ts.map (·.id)).length=E.ts.length:=List.length_map _
  have e2:(E.qs.map (·.k)).length=E.qs.length:=List.length_map _
  rw[←e1,←e2]
  refine same_len ?_ ?_ (λx=>?_)
  ·unfold List.Nodup
   rw[List.pairwise_map]
   exact h.ids.imp (λ{a b} q e=>by omega)
  ·unfold List.Nodup
   rw[List.pairwise_map]
   exact h.once
  ·constructor
   ·intro hx
    obtain⟨t,ht,rfl⟩:=List.mem_map.1 hx
    exact List.mem_map.2 ⟨t.sl,h.qs2 t ht,rfl⟩
   ·intro hx
    obtain⟨s,hs,rfl⟩:=List.mem_map.1 hx
    obtain⟨t,ht,rfl⟩:=h.qs1 s hs
    exact List.mem_map.2 ⟨t,ht,rfl⟩
 unfold Eng.fd Eng.fa at hf
 unfold rowL at *
 refine⟨?_,?_,?_⟩
 ·unfold putC
  rw[if_neg (by omega),h.no_q,if_neg (by decide),if_neg]
  unfold mostL rowL
  by_cases k:kind=3
  ·rw[if_pos k] at hf
   simp[k] at *
   omega
  ·rw[if_neg k] at hf
   have kb:(kind==3)=false:=by simpa using k
   rw[kb]
   simp at *
   omega
 ·by_cases k:kind=3
  ·rw[if_pos k] at hf
   simp at *
   omega
  ·rw[if_neg k] at hf
   simp at *
   omega
 ·by_cases k:kind=3
  ·rw[if_pos k] at hf
   simp at *
   omega
  ·rw[if_neg k] at hf
   simp at *
   omega
end
theorem Gw.only {W1 wk w':World} {c ck:Nat→Nat} {S:Nat→Prop} (o:Only (λg=>c g≠0) W1 wk) (gw:Gw W1 c ck) (o2:Only S wk w') (hS:∀g,S g→ck g≠0):Only (λg=>c g≠0) W1 w':=
 o.trans o2 (λi hi s=>by
  rcases gw i (hS i s) with q | q
  ·exact q
  ·omega)
theorem Gw.next {W1 wk:World} {c ck c':Nat→Nat} (o:Only (λg=>c g≠0) W1 wk) (gw:Gw W1 c ck) (g2:Gw wk ck c'):Gw W1 c c':=gw.trans g2 o.size
theorem EP.zero {w:World} {p:Nat} {c:Nat→Nat} {X:Loc} {F H:Nat} {ks:List Tk} {E:Eng} (h:EP w p c X F H ks E) {g:Nat} (hg:w.heap.size≤g):c g=0:=Classical.byContradiction λq=>by have:=h.eo.lt g q;omega
theorem Gw.less {w W1:World} {c c':Nat→Nat} (g:Gw W1 c c') (s:w.heap.size≤W1.heap.size):Gw w c c':=λi hi=>by
 rcases g i hi with q | q
 ·exact .inl q
 ·exact .inr (by omega)
theorem Gw.zero {W1:World} {c c':Nat→Nat} (g:Gw W1 c c') {i:Nat} (z:c i=0) (l:i<W1.heap.size):c' i=0:=Classical.byContradiction λq=>by
 rcases g i q with k | k
 ·exact k z
 ·omega
theorem optPtr_form (A:Int→Nat) (o:Option Tk):∃a,optPtr A o=.pointer a:=by
 cases o with
 | none=>exact⟨none,rfl⟩
 | some t=>exact⟨_,rfl⟩
theorem results_row1 {P:Program} {fn:Func} {p q:Tmp} {ty:TypeId} (h:fn.results=#[.cell p ty,.tmp q]) (tmps:Array Value) (w:World) (g:Nat) (t:TypeId) (cs:Array Value) (d:TypeDesc)
  (hp:tmps.getD p undef=.pointer (some ⟨g,0,none⟩)) (hg:Row w g t cs) (hu:P.underlying ty=some d) (hd:(match d with | .struct _ | .array _ _=>true | _=>false)=true) (hi:(P.info? ty).map (·.size)=some cs.size) :
  (results fn tmps).run P w=.ok (.tuple #[.agg cs,tmps.getD q undef]) w:=results_row_tmpO h tmps w g t cs (0,0) d hp hg hu hd hi
theorem results_row2 {P:Program} {fn:Func} {p q r:Tmp} {ty:TypeId} (h:fn.results=#[.cell p ty,.tmp q,.tmp r]) (tmps:Array Value) (w:World) (g:Nat) (t:TypeId) (cs:Array Value) (d:TypeDesc)
  (hp:tmps.getD p undef=.pointer (some ⟨g,0,none⟩)) (hg:Row w g t cs) (hu:P.underlying ty=some d) (hd:(match d with | .struct _ | .array _ _=>true | _=>false)=true) (hi:(P.info? ty).map (·.size)=some cs.size) :
  (results fn tmps).run P w=.ok (.tuple #[.agg cs,tmps.getD q undef,tmps.getD r undef]) w:=by
 have hp':tmps[p]?.getD undef=.pointer (some ⟨g,0,none⟩):=by simpa using hp
 simp[results,h,hp',asAddr,run_loadVar_row w g t ty cs (0,0) d hg hu hd hi]
theorem results_row3 {P:Program} {fn:Func} {p q r s:Tmp} {ty:TypeId} (h:fn.results=#[.cell p ty,.tmp q,.tmp r,.tmp s]) (tmps:Array Value) (w:World) (g:Nat) (t:TypeId) (cs:Array Value) (d:TypeDesc)
  (hp:tmps.getD p undef=.pointer (some ⟨g,0,none⟩)) (hg:Row w g t cs) (hu:P.underlying ty=some d) (hd:(match d with | .struct _ | .array _ _=>true | _=>false)=true) (hi:(P.info? ty).map (·.size)=some cs.size) :
  (results fn tmps).run P w=.ok (.tuple #[.agg cs,tmps.getD q undef,tmps.getD r undef,tmps.getD s undef]) w:=by
 have hp':tmps[p]?.getD undef=.pointer (some ⟨g,0,none⟩):=by simpa using hp
 simp[results,h,hp',asAddr,run_loadVar_row w g t ty cs (0,0) d hg hu hd hi]
def Tk.toldC (t:Tk) (n:Int):Array Value:=#[.int .i64 t.id,.int .i64 t.kind,.int .i64 t.b,.int .i64 t.l,.int .i64 t.tries,.int .i64 n,.bool t.out,.bool t.fr,.bool t.cut]
theorem Row.tick9 {w:World} {g:Nat} {T:TypeId} {c0 c1 c2 c3 c4 c5 c6 c7 c8:Value} (h:Row w g T #[c0,c1,c2,c3,c4,c5,c6,c7,c8]) (t:Tk) (n:Int) :
  Row (((((((((w.setCell ⟨g,0,none⟩ (.int .i64 t.id)).setCell ⟨g,1,none⟩ (.int .i64 t.kind)).setCell ⟨g,2,none⟩ (.int .i64 t.b)).setCell ⟨g,3,none⟩ (.int .i64 t.l)).setCell ⟨g,4,none⟩ (.int .i64 t.tries)).setCell ⟨g,5,none⟩ (.int .i64 n)).setCell ⟨g,6,none⟩ (.bool t.out)).setCell ⟨g,7,none⟩ (.bool t.fr)).setCell ⟨g,8,none⟩ (.bool t.cut)) g T (t.toldC n):=h.put9 _ _ _ _ _ _ _ _ _
theorem Row.zero9 {w:World} {g:Nat} {T:TypeId} {c0 c1 c2 c3 c4 c5 c6 c7 c8:Value} (h:Row w g T #[c0,c1,c2,c3,c4,c5,c6,c7,c8]) :
  Row (((((((((w.setCell ⟨g,0,none⟩ (.int .i64 0)).setCell ⟨g,1,none⟩ (.int .i64 0)).setCell ⟨g,2,none⟩ (.int .i64 0)).setCell ⟨g,3,none⟩ (.int .i64 0)).setCell ⟨g,4,none⟩ (.int .i64 0)).setCell ⟨g,5,none⟩ (.int .i64 0)).setCell ⟨g,6,none⟩ (.bool false)).setCell ⟨g,7,none⟩ (.bool false)).setCell ⟨g,8,none⟩ (.bool false)) g T #[.int .i64 0,.int .i64 0,.int .i64 0,.int .i64 0,.int .i64 0,.int .i64 0,.bool false,.bool false,.bool false]:=h.put9 _ _ _ _ _ _ _ _ _
theorem only9' {S:Nat→Prop} {a w:World} (o:Only S a w) {g:Nat} (hg:g<a.heap.size→S g) (d0 d1 d2 d3 d4 d5 d6 d7 d8:Value) :
  Only S a (((((((((w.setCell ⟨g,0,none⟩ d0).setCell ⟨g,1,none⟩ d1).setCell ⟨g,2,none⟩ d2).setCell ⟨g,3,none⟩ d3).setCell ⟨g,4,none⟩ d4).setCell ⟨g,5,none⟩ d5).setCell ⟨g,6,none⟩ d6).setCell ⟨g,7,none⟩ d7).setCell ⟨g,8,none⟩ d8):=
 ((((((((o.put (p:=⟨g,0,none⟩) hg d0).put (p:=⟨g,1,none⟩) hg d1).put (p:=⟨g,2,none⟩) hg d2).put (p:=⟨g,3,none⟩) hg d3).put (p:=⟨g,4,none⟩) hg d4).put (p:=⟨g,5,none⟩) hg d5).put (p:=⟨g,6,none⟩) hg d6).put (p:=⟨g,7,none⟩) hg d7).put (p:=⟨g,8,none⟩) hg d8
def EGto (w:World) (p:Nat) (c:Nat→Nat) (F H:Nat) (E:Eng) (w':World):Prop:=(∃c' X ks,EP w' p c' X F H ks E∧Gw w c c')∧Only (λg=>c g≠0) w w'
theorem EGto.of {w w':World} {p:Nat} {c c':Nat→Nat} {X:Loc} {F H F' H':Nat} {ks:List Tk} {E:Eng} (h:EP w' p c' X F H ks E) (g:Gw w c c') (o:Only (λg=>c g≠0) w w') (k:F≤F') (k2:H≤H') (b:F'<100000000) (b2:H'<1000000):EGto w p c F' H' E w':=
 ⟨⟨c',X,ks,h.up k k2 b b2,g⟩,o⟩
theorem EGto.fin {w W1 wn w':World} {p:Nat} {c c':Nat→Nat} {X:Loc} {F H F' H':Nat} {ks:List Tk} {E:Eng} (h:EP wn p c' X F H ks E) (o1:Only n_ w W1) (g:Gw W1 c c') (o:Only (λg=>c g≠0) W1 wn) {s:Nat} (hs:w.heap.size≤s) (hz:c' s=0) (on:Only (λg=>g=s) wn w') (k:F≤F') (k2:H≤H') (b:F'<100000000) (b2:H'<1000000):EGto w p c F' H' E w':=by
 refine EGto.of (h.keep on (λi hi e=>hi (by rw[e];exact hz))) (g.less o1.size) ?_ k k2 b b2
 refine (o1.then_ o).trans on (λi hi e=>?_)
 have:i=s:=e
 omega
def EGtoV (w:World) (p:Nat) (c:Nat→Nat) (F H:Nat) (E:Eng) (v:Value) (w':World):Prop:=(∃c' X ks,EP w' p c' X F H ks E∧Gw w c c'∧∀g,v.ownBlock=some g→c' g=0)∧Only (λg=>c g≠0) w w'
theorem EGtoV.fin {w W1 wn w':World} {p:Nat} {c c':Nat→Nat} {X:Loc} {F H F' H':Nat} {ks:List Tk} {E:Eng} {v:Value} (h:EP wn p c' X F H ks E) (o1:Only n_ w W1) (g:Gw W1 c c') (o:Only (λg=>c g≠0) W1 wn) {s:Nat} (hs:w.heap.size≤s) (hz:c' s=0) (on:Only (λg=>g=s) wn w') (k:F≤F') (k2:H≤H') (b:F'<100000000) (b2:H'<1000000) (hv:∀g,v.ownBlock=some g→c' g=0):EGtoV w p c F' H' E v w':=by
 refine⟨⟨c',X,ks,(h.keep on (λi hi e=>hi (by rw[e];exact hz))).up k k2 b b2,g.less o1.size,hv⟩,?_⟩
 refine (o1.then_ o).trans on (λi hi e=>?_)
 have:i=s:=e
 omega
def E0 (o:Opt):Eng:=⟨o,[],[],[],[],0,0⟩
section
variable {w:World} {pl pt bq pg n m nd na rw_:Nat} {M1 M2:Nat→Prop}
open Classical in
noncomputable def col0 (M1 M2:Nat→Prop) (pt bq a3:Nat) (g:Nat):Nat:=if g=a3+2 then 1 else if g=a3+1 then 7 else if g=a3 then 5 else if M2 g then 4 else if g=pt∨g=bq then 3 else if M1 g then 2 else 0
theorem col0_cases (M1 M2:Nat→Prop) (pt bq a3 g:Nat):(g=a3+2∧col0 M1 M2 pt bq a3 g=1)∨(g=a3+1∧col0 M1 M2 pt bq a3 g=7)∨(g=a3∧col0 M1 M2 pt bq a3 g=5)∨(M2 g∧col0 M1 M2 pt bq a3 g=4)∨((g=pt∨g=bq)∧col0 M1 M2 pt bq a3 g=3)∨(M1 g∧col0 M1 M2 pt bq a3 g=2)∨(¬ M1 g∧¬ M2 g∧g≠pt∧g≠bq∧g≠a3∧g≠a3+1∧g≠a3+2∧col0 M1 M2 pt bq a3 g=0):=by
 unfold col0
 by_cases h1:g=a3+2
 ·exact .inl ⟨h1,if_pos h1⟩
 rw[if_neg h1]
 by_cases h2:g=a3+1
 ·exact .inr (.inl ⟨h2,if_pos h2⟩)
 rw[if_neg h2]
 by_cases h3:g=a3
 ·exact .inr (.inr (.inl ⟨h3,if_pos h3⟩))
 rw[if_neg h3]
 by_cases h4:M2 g
 ·exact .inr (.inr (.inr (.inl ⟨h4,if_pos h4⟩)))
 rw[if_neg h4]
 by_cases h5:g=pt∨g=bq
 ·exact .inr (.inr (.inr (.inr (.inl ⟨h5,if_pos h5⟩))))
 rw[if_neg h5]
 by_cases h6:M1 g
 ·exact .inr (.inr (.inr (.inr (.inr (.inl ⟨h6,if_pos h6⟩)))))
 rw[if_neg h6]
 exact .inr (.inr (.inr (.inr (.inr (.inr ⟨h6,h4,λe=>h5 (.inl e),λe=>h5 (.inr e),h3,h2,h1,rfl⟩)))))
theorem EO.start {o:Opt} {a0 a1 a2 a3:Nat} {A:Int→Nat} {B:Int→Value × Value × Value} (hl:Ln w pl M1 o.b0.toNat (o.b3+o.b4).toNat []) (l1:∀g,M1 g→a0≤g∧g<a1) (ht:TnAt w pt bq o.b3.toNat o.b4.toNat 0 []) (t1:a1≤pt∧pt<a2∧a1≤bq∧bq<a2) (hw:WG w pg M2 o.b9.toNat 0 []) (w1:∀g,M2 g→a2≤g∧g<a3) (ord:a0≤a1∧a1≤a2∧a2≤a3)
  (mt:Mg w a3 []) (mm:Mg w (a3+1) []) (row:Row w (a3+2) 99 (engCells ⟨pl,pt,bq,pg,a3,a3+1,A,B⟩ o 0 0)) :
  EO w (a3+2) (col0 M1 M2 pt bq a3) ⟨pl,pt,bq,pg,a3,a3+1,A,B⟩ 0 0 o 0 0 [] [] [] [] [] [] []∧∀g,col0 M1 M2 pt bq a3 g≠0→a0≤g:=by
 have cs:=col0_cases M1 M2 pt bq a3
 have e2:(λg=>col0 M1 M2 pt bq a3 g=2)=M1:=by
  funext g
  apply propext
  rcases cs g with ⟨h,e⟩|⟨h,e⟩|⟨h,e⟩|⟨h,e⟩|⟨h,e⟩|⟨h,e⟩|⟨h,_,_,_,_,_,_,e⟩
  all_goals rw[e]
  ·exact⟨(λq=>by cases q),λq=>by have:=l1 g q;omega⟩
  ·exact⟨(λq=>by cases q),λq=>by have:=l1 g q;omega⟩
  ·exact⟨(λq=>by cases q),λq=>by have:=l1 g q;omega⟩
  ·exact⟨(λq=>by cases q),λq=>by have:=l1 g q;have:=w1 g h;omega⟩
  ·exact⟨(λq=>by cases q),λq=>by have:=l1 g q;omega⟩
  ·exact⟨λ_=>h,λ_=>rfl⟩
  ·exact⟨(λq=>by cases q),λq=>absurd q h⟩
 have e4:(λg=>col0 M1 M2 pt bq a3 g=4)=M2:=by
  funext g
  apply propext
  rcases cs g with ⟨h,e⟩|⟨h,e⟩|⟨h,e⟩|⟨h,e⟩|⟨h,e⟩|⟨h,e⟩|⟨_,h,_,_,_,_,_,e⟩
  all_goals rw[e]
  ·exact⟨(λq=>by cases q),λq=>by have:=w1 g q;omega⟩
  ·exact⟨(λq=>by cases q),λq=>by have:=w1 g q;omega⟩
  ·exact⟨(λq=>by cases q),λq=>by have:=w1 g q;omega⟩
  ·exact⟨λ_=>h,λ_=>rfl⟩
  ·exact⟨(λq=>by cases q),λq=>by have:=w1 g q;omega⟩
  ·exact⟨(λq=>by cases q),λq=>by have:=w1 g q;have:=l1 g h;omega⟩
  ·exact⟨(λq=>by cases q),λq=>absurd q h⟩
 have c3:∀g,(g=pt∨g=bq)→col0 M1 M2 pt bq a3 g=3:=λg hg=>by
  rcases cs g with ⟨h,e⟩|⟨h,e⟩|⟨h,e⟩|⟨h,e⟩|⟨h,e⟩|⟨h,e⟩|⟨_,_,h1,h2,_,_,_,e⟩
  ·omega
  ·omega
  ·omega
  ·have:=w1 g h;omega
  ·exact e
  ·have:=l1 g h;omega
  ·omega
 refine⟨{ row:=row,cp:=if_pos rfl,ln:=by rw[e2];exact hl,tn:=⟨0,[],ht,rfl,Nat.le_refl _⟩,ct:=⟨c3 _ (.inl rfl),c3 _ (.inr rfl)⟩,wg:=by rw[e4];exact hw,tm:=mt,cb:=?_,tk:=λt h=>(by cases h),inj:=λs h=>(by cases h),mm:=mm,cm:=?_,mv:=λt h=>(by cases h),ma:=λt h=>(by cases h),lt:=λg hg=>?_ },λg hg=>?_⟩
 ·show col0 M1 M2 pt bq a3 a3=5
  unfold col0
  rw[if_neg (by omega),if_neg (by omega),if_pos rfl]
 ·show col0 M1 M2 pt bq a3 (a3+1)=7
  unfold col0
  rw[if_neg (by omega),if_pos rfl]
 ·have lr:=row.lt
  rcases cs g with ⟨h,e⟩|⟨h,e⟩|⟨h,e⟩|⟨h,e⟩|⟨h,e⟩|⟨h,e⟩|⟨_,_,_,_,_,_,_,e⟩
  ·omega
  ·omega
  ·omega
  ·have:=w1 g h;omega
  ·omega
  ·have:=l1 g h;omega
  ·exact absurd e hg
 ·rcases cs g with ⟨h,e⟩|⟨h,e⟩|⟨h,e⟩|⟨h,e⟩|⟨h,e⟩|⟨h,e⟩|⟨_,_,_,_,_,_,_,e⟩
  ·omega
  ·omega
  ·omega
  ·have:=w1 g h;omega
  ·omega
  ·exact (l1 g h).1
  ·exact absurd e hg
end
theorem Inv.start {o:Opt} (h:o.MayC):Inv (E0 o):=by
 have m:=h
 unfold Opt.MayC at m
 exact { may:=h,ids:=List.Pairwise.nil,idr:=λt h=>(by cases h),blk:=λt h=>(by cases h),kin:=λt h=>(by cases h),tri:=λt h=>(by cases h),once:=List.Pairwise.nil,qs1:=λt h=>(by cases h),qs2:=λt h=>(by cases h),fewd:=(by show (0:Int)≤o.b3;omega),fewa:=(by show (0:Int)≤o.b4;omega),good:=good_nil (by show 1≤o.b9.toNat;omega) (by show o.b9.toNat≤64;omega),g1:=λt h=>(by cases h),wr:=λt h=>(by cases h),hd:=λt h=>(by cases h),tags:=List.Pairwise.nil,tagr:=λt h=>(by cases h),mlen:=(by show (0:Int)≤o.b5;omega),mok:=λt h=>(by cases h),mt:=λt h=>(by cases h),rt:=λt h=>(by cases h),nd:=List.Pairwise.nil,all:=λt h=>(by cases h) }
theorem EP.start {w:World} {p:Nat} {o:Opt} {c:Nat→Nat} {X:Loc} (h:EO w p c X 0 0 o 0 0 [] [] [] [] [] [] []) (hm:o.MayC):EP w p c X 0 0 [] (E0 o):=
 { eo:=h,sub:=λt h=>(by cases h),may:=hm,idr:=λt h=>(by cases h),tag:=λt h=>(by cases h),few:=Nat.zero_le _,mfew:=Nat.zero_le _,ntH:=Nat.le_refl _,ngH:=Nat.le_refl _,hF:=by decide,hH:=by decide }
theorem enew_yes (o:Opt) (w:World) (hb:Bd w) (hm:o.MayC) :
  Calls prog 11 #[o.val] w λe w'=>∃p,e=.returned (.tuple #[pT p,.int .i64 0])∧(∃c X,EP w' p c X 0 0 [] (E0 o)∧∀g,c g≠0→w.heap.size≤g)∧Only n_ w w':=by
 have m:=hm
 unfold Opt.MayC at m
 have hmm:=@run_makeMap prog
 obtain⟨W0,hW0⟩:∃W,W=w.alloc (.cells o.cells 23):=⟨_,rfl⟩
 have o0:Only n_ w W0:=by rw[hW0];exact (Only.refl _ _).alloc _
 have r0:Row W0 w.heap.size 23 o.cells:=by rw[hW0];exact Row.fresh _ _ _
 have OP:=opt_may o W0 (hb.still o0)
 rw[if_pos (show o.mayB=true from decide_eq_true hm)] at OP
 have L1:(o.b0.toNat:Int)=o.b0:=by omega
 have L2:((o.b3+o.b4).toNat:Int)=o.b3+o.b4:=by omega
 have L3:(o.b3.toNat:Int)=o.b3:=by omega
 have L4:(o.b4.toNat:Int)=o.b4:=by omega
 have L5:(o.b9.toNat:Int)=o.b9:=by omega
 have LN:=hid (λw=>by have:=lnew_yes o.b0.toNat (o.b3+o.b4).toNat w (by omega) (by omega) (by omega) (by omega);rw[L1,L2] at this;exact this)
 have TN:=hid (λw=>by have:=tnew_yes o.b3.toNat o.b4.toNat w (by omega) (by omega) (by omega);rw[L3,L4] at this;exact this)
 have WN:=hid (λw=>by have:=wnew_yes o.b9.toNat w (by omega) (by omega);rw[L5] at this;exact this)
 have v1:IntKind.i64.wrap (o.b3+o.b4)=o.b3+o.b4:=by rw[IntKind.wrap_i64];omega
 have HM:=hid hm
 have O0:=hid o0
 have R0:=hid r0
 unfold Opt.val at OP ⊢
 unfold Opt.cells at hW0 r0
 have OP:=hid OP
 have KC:=hid (λ(w':World) (h:Only n_ W0 w') (i:Nat)=>(h.still R0.out).cell i)
 have q0:W0.cell? ⟨w.heap.size,0,none⟩=some (.int .i64 o.b0):=r0.cell 0
 have q1:W0.cell? ⟨w.heap.size,1,none⟩=some (.int .i64 o.b1):=r0.cell 1
 have q2:W0.cell? ⟨w.heap.size,2,none⟩=some (.int .i64 o.b2):=r0.cell 2
 have q3:W0.cell? ⟨w.heap.size,3,none⟩=some (.int .i64 o.b3):=r0.cell 3
 have q4:W0.cell? ⟨w.heap.size,4,none⟩=some (.int .i64 o.b4):=r0.cell 4
 have q5:W0.cell? ⟨w.heap.size,5,none⟩=some (.int .i64 o.b5):=r0.cell 5
 have q6:W0.cell? ⟨w.heap.size,6,none⟩=some (.int .i64 o.b6):=r0.cell 6
 have q7:W0.cell? ⟨w.heap.size,7,none⟩=some (.int .i64 o.b7):=r0.cell 7
 have q8:W0.cell? ⟨w.heap.size,8,none⟩=some (.int .i64 o.b8):=r0.cell 8
 have q9:W0.cell? ⟨w.heap.size,9,none⟩=some (.int .i64 o.b9):=r0.cell 9
 have q10:W0.cell? ⟨w.heap.size,10,none⟩=some (.int .i64 o.b10):=r0.cell 10
 have q11:W0.cell? ⟨w.heap.size,11,none⟩=some (.int .i64 o.b11):=r0.cell 11
 have q12:W0.cell? ⟨w.heap.size,12,none⟩=some (.int .i64 o.b12):=r0.cell 12
 have q13:W0.cell? ⟨w.heap.size,13,none⟩=some (.int .i64 o.b13):=r0.cell 13
 clear m hm o0 r0 hb L1 L2 L3 L4 L5
 go_enter func11,ntmps11
 go_upto_region 1 with fail
 rw[←hW0]
 clear hW0
 go_wp2_with fail
 (with_reducible refine OP.out.mono ?_)
 rintro e w1 ⟨rfl,o1⟩
 have O1:=hid o1
 have y0:w1.cell? ⟨w.heap.size,0,none⟩=some (.int .i64 o.b0):=KC.out _ o1 0
 have y3:w1.cell? ⟨w.heap.size,3,none⟩=some (.int .i64 o.b3):=KC.out _ o1 3
 have y4:w1.cell? ⟨w.heap.size,4,none⟩=some (.int .i64 o.b4):=KC.out _ o1 4
 clear q0 q1 q2 q3 q4 q5 q6 q7 q8 q9 q10 q11 q12 q13 o1 OP
 go_wp2_with fail
 (with_reducible refine (LN.out _).mono ?_)
 rintro e w2 ⟨pl,rfl,⟨M1,hl,l1⟩,o2⟩
 have O2:=hid (O1.out.same o2)
 have HL:=hid hl
 have HL1:=hid l1
 have SZ2:=hid o2.size
 have z3:w2.cell? ⟨w.heap.size,3,none⟩=some (.int .i64 o.b3):=KC.out _ O2.out 3
 have z4:w2.cell? ⟨w.heap.size,4,none⟩=some (.int .i64 o.b4):=KC.out _ O2.out 4
 clear y0 y3 y4 hl l1 o2
 go_wp2_with fail
 (with_reducible refine (TN.out _).mono ?_)
 rintro e w3 ⟨pt,bq,rfl,ht,t1,t2,o3⟩
 have O3:=hid (O2.out.same o3)
 have HT:=hid ht
 have HT1:=hid (show w2.heap.size≤pt∧w2.heap.size≤bq from ⟨t1,t2⟩)
 have OO3:=hid o3
 have y9:w3.cell? ⟨w.heap.size,9,none⟩=some (.int .i64 o.b9):=KC.out _ O3.out 9
 clear z3 z4 ht t1 t2 o3
 go_wp2_with fail
 (with_reducible refine (WN.out _).mono ?_)
 rintro e w4 ⟨pg,rfl,⟨M2,hw,hw1⟩,o4⟩
 have O4:=hid (O3.out.same o4)
 have HW:=hid hw
 have HW1:=hid hw1
 have OO4:=hid o4
 have q0:w4.cell? ⟨w.heap.size,0,none⟩=some (.int .i64 o.b0):=KC.out _ O4.out 0
 have q1:w4.cell? ⟨w.heap.size,1,none⟩=some (.int .i64 o.b1):=KC.out _ O4.out 1
 have q2:w4.cell? ⟨w.heap.size,2,none⟩=some (.int .i64 o.b2):=KC.out _ O4.out 2
 have q3:w4.cell? ⟨w.heap.size,3,none⟩=some (.int .i64 o.b3):=KC.out _ O4.out 3
 have q4:w4.cell? ⟨w.heap.size,4,none⟩=some (.int .i64 o.b4):=KC.out _ O4.out 4
 have q5:w4.cell? ⟨w.heap.size,5,none⟩=some (.int .i64 o.b5):=KC.out _ O4.out 5
 have q6:w4.cell? ⟨w.heap.size,6,none⟩=some (.int .i64 o.b6):=KC.out _ O4.out 6
 have q7:w4.cell? ⟨w.heap.size,7,none⟩=some (.int .i64 o.b7):=KC.out _ O4.out 7
 have q8:w4.cell? ⟨w.heap.size,8,none⟩=some (.int .i64 o.b8):=KC.out _ O4.out 8
 have q9:w4.cell? ⟨w.heap.size,9,none⟩=some (.int .i64 o.b9):=KC.out _ O4.out 9
 have q10:w4.cell? ⟨w.heap.size,10,none⟩=some (.int .i64 o.b10):=KC.out _ O4.out 10
 have q11:w4.cell? ⟨w.heap.size,11,none⟩=some (.int .i64 o.b11):=KC.out _ O4.out 11
 have q12:w4.cell? ⟨w.heap.size,12,none⟩=some (.int .i64 o.b12):=KC.out _ O4.out 12
 have q13:w4.cell? ⟨w.heap.size,13,none⟩=some (.int .i64 o.b13):=KC.out _ O4.out 13
 clear y9 hw hw1 o4
 go_wp2
 go_ret2
 have m0:=Mg.made w4
 have a1:Only n_ w4 (w4.alloc (.map #[] 0)):=(Only.refl _ _).alloc _
 have m1:=Mg.made (w4.alloc (.map #[] 0))
 have a2:Only n_ (w4.alloc (.map #[] 0)) ((w4.alloc (.map #[] 0)).alloc (.map #[] 0)):=(Only.refl _ _).alloc _
 have a3:=((Only.refl n_ ((w4.alloc (.map #[] 0)).alloc (.map #[] 0))).alloc (.cells (engCells ⟨pl,pt,bq,pg,w4.heap.size,w4.heap.size+1,λ_=>0,λ_=>(.slice none 0 0,.slice none 0 0,.slice none 0 0)⟩ o 0 0) 99))
 have r3:=Row.fresh ((w4.alloc (.map #[] 0)).alloc (.map #[] 0)) 99 (engCells ⟨pl,pt,bq,pg,w4.heap.size,w4.heap.size+1,λ_=>0,λ_=>(.slice none 0 0,.slice none 0 0,.slice none 0 0)⟩ o 0 0)
 have s1:=SZ2.out
 have s2:=OO3.out.size
 have s3:=OO4.out.size
 have s0:=O1.out.size
 have ss:=O0.out.size
 have a13:=(a1.same a2).same a3
 have ee:=EO.start (o:=o) (a0:=w1.heap.size) (a1:=w2.heap.size) (a2:=w3.heap.size) (a3:=w4.heap.size) ((((HL.out.still OO3.out).still OO4.out)).still a13) (λg hg=>⟨HL1.out g hg,(by obtain⟨r,b,vs,ll⟩:=HL.out;exact ll.lt g hg)⟩)
  ((HT.out.still OO4.out).still a13) ⟨HT1.out.1,HT.out.row.lt,HT1.out.2,HT.out.md.lt⟩ (HW.out.still a13) (λg hg=>⟨HW1.out g hg,HW.out.lt g hg⟩) ⟨s1,s2,s3⟩ (m0.still (a2.same a3)) (by have:=m1.still a3;simpa using this) (by simpa using r3)
 exact⟨w4.heap.size+2,rfl,⟨_,_,EP.start ee.1 HM.out,λg hg=>by have:=ee.2 g hg;have:=O0.out.size;omega⟩,(O0.out.same O4.out).same a13⟩
theorem enew_no (o:Opt) (w:World) (hb:Bd w) (hm:o.mayB=false) :
  Calls prog 11 #[o.val] w λe w'=>e=.returned (.tuple #[.pointer none,.int .i64 1])∧Only n_ w w':=by
 obtain⟨W0,hW0⟩:∃W,W=w.alloc (.cells o.cells 23):=⟨_,rfl⟩
 have o0:Only n_ w W0:=by rw[hW0];exact (Only.refl _ _).alloc _
 have r0:Row W0 w.heap.size 23 o.cells:=by rw[hW0];exact Row.fresh _ _ _
 have OP:=opt_may o W0 (hb.still o0)
 rw[if_neg (show ¬o.mayB=true from by rw[hm];decide)] at OP
 have O0:=hid o0
 unfold Opt.val at OP ⊢
 unfold Opt.cells at hW0 r0
 have OP:=hid OP
 have q0:W0.cell? ⟨w.heap.size,0,none⟩=some (.int .i64 o.b0):=r0.cell 0
 have q1:W0.cell? ⟨w.heap.size,1,none⟩=some (.int .i64 o.b1):=r0.cell 1
 have q2:W0.cell? ⟨w.heap.size,2,none⟩=some (.int .i64 o.b2):=r0.cell 2
 have q3:W0.cell? ⟨w.heap.size,3,none⟩=some (.int .i64 o.b3):=r0.cell 3
 have q4:W0.cell? ⟨w.heap.size,4,none⟩=some (.int .i64 o.b4):=r0.cell 4
 have q5:W0.cell? ⟨w.heap.size,5,none⟩=some (.int .i64 o.b5):=r0.cell 5
 have q6:W0.cell? ⟨w.heap.size,6,none⟩=some (.int .i64 o.b6):=r0.cell 6
 have q7:W0.cell? ⟨w.heap.size,7,none⟩=some (.int .i64 o.b7):=r0.cell 7
 have q8:W0.cell? ⟨w.heap.size,8,none⟩=some (.int .i64 o.b8):=r0.cell 8
 have q9:W0.cell? ⟨w.heap.size,9,none⟩=some (.int .i64 o.b9):=r0.cell 9
 have q10:W0.cell? ⟨w.heap.size,10,none⟩=some (.int .i64 o.b10):=r0.cell 10
 have q11:W0.cell? ⟨w.heap.size,11,none⟩=some (.int .i64 o.b11):=r0.cell 11
 have q12:W0.cell? ⟨w.heap.size,12,none⟩=some (.int .i64 o.b12):=r0.cell 12
 have q13:W0.cell? ⟨w.heap.size,13,none⟩=some (.int .i64 o.b13):=r0.cell 13
 clear o0 r0 hb hm
 go_enter func11,ntmps11
 go_upto_region 1 with fail
 rw[←hW0]
 clear hW0
 go_wp2_with fail
 (with_reducible refine OP.out.mono ?_)
 rintro e w1 ⟨rfl,o1⟩
 have O1:=hid o1
 clear o1 OP
 go_wp2_with fail
 go_ret2
 exact⟨rfl,O0.out.same O1.out⟩
theorem info_u64:(prog.info? 34).map (λi=>(i.zero,i.size,i.bytes))=some (some (.int .u64 0),1,8):=by kernel_rfl
theorem oneU_cells_one (l:List Int):∀u∈l.flatMap oneU,u.oneCell'=true:=λu hu=>by
 obtain⟨x,_,hx⟩:=List.mem_flatMap.1 hu
 exact oneU_one x u hx
theorem oneU_flat_len (l:List Int):(l.flatMap oneU).length=l.length*1:=by
 have:=flat_size oneU1 l
 unfold flat at this
 simpa using this
theorem clonei_any (v:Value) (l:List Int) (w:World) (h:OwI w 0 v l) (hl:l.length≤1000) :
  Calls prog 94 #[v] w λe w'=>∃v',e=.returned v'∧OwI w' w.heap.size v' l∧Only n_ w w':=by
 rcases h.2 with ⟨hv,h2⟩|⟨g,cap,cur,hv,_⟩
 ·subst hv
  have hs:l=[]:=List.eq_nil_of_length_eq_zero h2
  subst hs
  have he:∀w:World,(binOp .eql 44 (.slice none 0 0) (.slice none 0 0)).run prog w=.ok (.bool true) w:=λ_=>rfl
  clear h
  go_enter func94,ntmps94
  go_wp2_with fail
  go_ret
  exact⟨_,rfl,Owns.start _ _ _ _ _,Only.refl n_ w⟩
 ·subst hv
  obtain⟨i0,hi0,hz0,hz1,hz2⟩:=info_partsR info_int8
  have own0:(w.alloc (.cells #[] 3)).ownsRow w.heap.size 3 1 (.slice (some ⟨w.heap.size,0,none⟩) 0 0) 0 []:=by
   refine⟨rfl,.inr ⟨w.heap.size,0,#[],rfl,Nat.le_refl _,?_,Nat.le_refl _,Nat.zero_le _,rfl,rfl⟩⟩
   exact Row.fresh w 3 #[]
  have O0:=hid ((Only.refl n_ w).alloc (.cells #[] 3))
  have H:=hid h
  have all_:=hid (λj u (hj:(l.flatMap one11)[j]? = some u)=>O0.out.cell (World.ownsRow.cells h (g:=g) rfl j u hj) (λs=>s))
  have OW:=hid own0
  have zz:w.heap.size≤(w.alloc (.cells #[] 3)).heap.size:=O0.out.size
  have he:∀w:World,(binOp .eql 44 (.slice (some ⟨g,0,none⟩) l.length cap) (.slice none 0 0)).run prog w=.ok (.bool false) w:=λ_=>rfl
  clear h own0
  go_enter func94,ntmps94
  go_wp2_with (at_builtin;go_loud (refine wpList_append_own _ rfl (.tmp 5) (.tmp 6) 44 rfl w.heap.size 3 i0 _ 1 8 underlying44 hi0 hz0 hz1 hz2 rfl (by decide) _ 0 [] rfl OW.out ⟨g,0,none⟩ l.length cap _ rfl (one_flat_len _) all_.out (one_cells_one _) (by unfold maxLen;omega) (by omega) zz ?_))
  intro v1 w1 hown1 hgrow1 _
  have O1:=hid (O0.out.trans (Only.of_grown hgrow1) (λj hj q=>by have q2:some j=some w.heap.size:=q;injection q2;omega))
  have OW1:=hid (show OwI w1 w.heap.size v1 l from by
   show Owns _ _ _ _ _ _ _
   unfold Owns
   simpa using hown1)
  clear hown1 hgrow1
  go_wp2_with fail
  go_ret
  exact⟨v1,rfl,OW1.out,O1.out⟩
theorem cloneu_any (v:Value) (l:List Int) (w:World) (h:OwnsU w 0 v l) (hl:l.length≤1000) :
  Calls prog 95 #[v] w λe w'=>∃v',e=.returned v'∧OwnsU w' w.heap.size v' l∧Only n_ w w':=by
 rcases h.2 with ⟨hv,h2⟩|⟨g,cap,cur,hv,_⟩
 ·subst hv
  have hs:l=[]:=List.eq_nil_of_length_eq_zero h2
  subst hs
  have he:∀w:World,(binOp .eql 45 (.slice none 0 0) (.slice none 0 0)).run prog w=.ok (.bool true) w:=λ_=>rfl
  clear h
  go_enter func95,ntmps95
  go_wp2_with fail
  go_ret
  exact⟨_,rfl,Owns.start _ _ _ _ _,Only.refl n_ w⟩
 ·subst hv
  obtain⟨i0,hi0,hz0,hz1,hz2⟩:=info_partsR info_u64
  have own0:(w.alloc (.cells #[] 34)).ownsRow w.heap.size 34 1 (.slice (some ⟨w.heap.size,0,none⟩) 0 0) 0 []:=by
   refine⟨rfl,.inr ⟨w.heap.size,0,#[],rfl,Nat.le_refl _,?_,Nat.le_refl _,Nat.zero_le _,rfl,rfl⟩⟩
   exact Row.fresh w 34 #[]
  have O0:=hid ((Only.refl n_ w).alloc (.cells #[] 34))
  have H:=hid h
  have all_:=hid (λj u (hj:(l.flatMap oneU)[j]? = some u)=>O0.out.cell (World.ownsRow.cells h (g:=g) rfl j u hj) (λs=>s))
  have OW:=hid own0
  have zz:w.heap.size≤(w.alloc (.cells #[] 34)).heap.size:=O0.out.size
  have he:∀w:World,(binOp .eql 45 (.slice (some ⟨g,0,none⟩) l.length cap) (.slice none 0 0)).run prog w=.ok (.bool false) w:=λ_=>rfl
  clear h own0
  go_enter func95,ntmps95
  go_wp2_with (at_builtin;go_loud (refine wpList_append_own _ rfl (.tmp 5) (.tmp 6) 45 rfl w.heap.size 34 i0 _ 1 8 underlying45 hi0 hz0 hz1 hz2 rfl (by decide) _ 0 [] rfl OW.out ⟨g,0,none⟩ l.length cap _ rfl (oneU_flat_len _) all_.out (oneU_cells_one _) (by unfold maxLen;omega) (by omega) zz ?_))
  intro v1 w1 hown1 hgrow1 _
  have O1:=hid (O0.out.trans (Only.of_grown hgrow1) (λj hj q=>by have q2:some j=some w.heap.size:=q;injection q2;omega))
  have OW1:=hid (show OwnsU w1 w.heap.size v1 l from by
   show Owns _ _ _ _ _ _ _
   unfold Owns
   simpa using hown1)
  clear hown1 hgrow1
  go_wp2_with fail
  go_ret
  exact⟨v1,rfl,OW1.out,O1.out⟩
structure MvW (w:World) (base:Nat) (v:Value × Value × Value) (m:Mv):Prop where
 ks:OwI w base v.1 m.ks
 vs:OwnsU w base v.2.1 m.vs
 fs:OwI w base v.2.2 m.fs
theorem MvW.still {w w':World} {base:Nat} {v:Value × Value × Value} {m:Mv} (h:MvW w base v m) (o:Only n_ w w'):MvW w' base v m:=⟨h.ks.still o,h.vs.still o,h.fs.still o⟩
theorem MvW.keep {w w':World} {base:Nat} {v:Value × Value × Value} {m:Mv} (h:MvW w base v m) {S:Nat→Prop} (o:Only S w w') (hn:∀g,base≤g→g<w.heap.size→¬ S g):MvW w' base v m:=
 ⟨h.ks.keep o (λg hg=>hn g (h.ks.base_le hg).1 (h.ks.base_le hg).2),h.vs.keep o (λg hg=>hn g (h.vs.base_le hg).1 (h.vs.base_le hg).2),h.fs.keep o (λg hg=>hn g (h.fs.base_le hg).1 (h.fs.base_le hg).2)⟩
theorem MvW.lower {w:World} {base base':Nat} {v:Value × Value × Value} {m:Mv} (h:MvW w base v m) (k:base'≤base):MvW w base' v m:=⟨h.ks.lower11 k,h.vs.lower11 k,h.fs.lower11 k⟩
theorem owns_form {α:Type} {w:World} {base:Nat} {e:TypeId} {k:Nat} {c:α→List Value} {v:Value} {xs:List α} (h:Owns w base e k c v xs):∃a cap,v=.slice a xs.length cap:=by
 rcases h.2 with ⟨h0,h2⟩|⟨g,cap,cur,hv,_⟩
 ·exact⟨none,0,by rw[h0,h2]⟩
 ·exact⟨_,_,hv⟩
theorem info_move:(prog.info? 47).map (·.size)=some 7:=by kernel_rfl
theorem Row.seven {w:World} {g:Nat} {t:TypeId} {c0 c1 c2 c3 c4 c5 c6:Value} (h:Row w g t #[c0,c1,c2,c3,c4,c5,c6]):w.cell? ⟨g,0,none⟩=some c0∧w.cell? ⟨g,1,none⟩=some c1∧w.cell? ⟨g,2,none⟩=some c2∧w.cell? ⟨g,3,none⟩=some c3∧w.cell? ⟨g,4,none⟩=some c4∧w.cell? ⟨g,5,none⟩=some c5∧w.cell? ⟨g,6,none⟩=some c6:=
 ⟨h.cell 0,h.cell 1,h.cell 2,h.cell 3,h.cell 4,h.cell 5,h.cell 6⟩
theorem Row.put7 {w:World} {g:Nat} {t:TypeId} {c0 c1 c2 c3 c4 c5 c6:Value} (h:Row w g t #[c0,c1,c2,c3,c4,c5,c6]) (d0 d1 d2 d3 d4 d5 d6:Value) :
  Row (((((((w.setCell ⟨g,0,none⟩ d0).setCell ⟨g,1,none⟩ d1).setCell ⟨g,2,none⟩ d2).setCell ⟨g,3,none⟩ d3).setCell ⟨g,4,none⟩ d4).setCell ⟨g,5,none⟩ d5).setCell ⟨g,6,none⟩ d6) g t #[d0,d1,d2,d3,d4,d5,d6]:=by
 have e:=((((((h.put 0 d0).put 1 d1).put 2 d2).put 3 d3).put 4 d4).put 5 d5).put 6 d6
 simp only[List.setIfInBounds_toArray,List.set_cons_succ,List.set_cons_zero] at e
 exact e
theorem only7 {S:Nat→Prop} {a w:World} (o:Only S a w) {g:Nat} (hg:g<a.heap.size→S g) (d0 d1 d2 d3 d4 d5 d6:Value) :
  Only S a (((((((w.setCell ⟨g,0,none⟩ d0).setCell ⟨g,1,none⟩ d1).setCell ⟨g,2,none⟩ d2).setCell ⟨g,3,none⟩ d3).setCell ⟨g,4,none⟩ d4).setCell ⟨g,5,none⟩ d5).setCell ⟨g,6,none⟩ d6):=
 ((((((o.put (p:=⟨g,0,none⟩) hg d0).put (p:=⟨g,1,none⟩) hg d1).put (p:=⟨g,2,none⟩) hg d2).put (p:=⟨g,3,none⟩) hg d3).put (p:=⟨g,4,none⟩) hg d4).put (p:=⟨g,5,none⟩) hg d5).put (p:=⟨g,6,none⟩) hg d6
theorem results_move {fn:Func} {q:Tmp} (h:fn.results=#[.cell q 47]) (tmps:Array Value) (w:World) (g:Nat) (cs:Array Value) (h7:cs.size=7)
  (hp:tmps.getD q undef=.pointer (some ⟨g,0,none⟩)) (hg:Row w g 47 cs):(results fn tmps).run prog w=.ok (.agg cs) w:=
 results_cell_row h tmps w g 47 _ (0,0) _ hp hg underlying47 rfl (by rw[info_move,h7])
theorem cloned_any (m:Mv) (v:Value × Value × Value) (w:World) (h:MvW w 0 v m) (l1:m.ks.length≤1000) (l2:m.vs.length≤1000) (l3:m.fs.length≤1000) :
  Calls prog 50 #[m.val v] w λe w'=>∃v',e=.returned (m.val v')∧MvW w' w.heap.size v' m∧Only n_ w w':=by
 obtain⟨v1,v2,v3⟩:=v
 obtain⟨tag,wr,lo,n,ks,vs,fs⟩:=m
 unfold Mv.val
 dsimp only at *
 obtain⟨W1,hW1⟩:∃W1,W1=(w.alloc (.cells #[.int .i64 tag,.bool wr,.int .i64 lo,.int .i64 n,v1,v2,v3] 47)).alloc (.cells #[.int .i64 0,.bool false,.int .i64 0,.int .i64 0,.slice none 0 0,.slice none 0 0,.slice none 0 0] 47):=⟨_,rfl⟩
 obtain⟨bx,tx,o1⟩:=two_new16 w 47 47 #[.int .i64 tag,.bool wr,.int .i64 lo,.int .i64 n,v1,v2,v3] #[.int .i64 0,.bool false,.int .i64 0,.int .i64 0,.slice none 0 0,.slice none 0 0,.slice none 0 0]
 rw[←hW1] at bx tx o1
 have C1:=hid (clonei_any v1 ks W1 (h.ks.still o1) l1)
 have C2:=hid (λw' (o:Only (λg=>w.heap.size≤g) w w')=>cloneu_any v2 vs w' (h.vs.keep o (λg hg e=>by have:=(h.vs.base_le hg).2;omega)) l2)
 have C3:=hid (λw' (o:Only (λg=>w.heap.size≤g) w w')=>clonei_any v3 fs w' (h.fs.keep o (λg hg e=>by have:=(h.fs.base_le hg).2;omega)) l3)
 obtain⟨a1,k1,rfl⟩:=owns_form h.ks
 obtain⟨a2,k2,rfl⟩:=owns_form h.vs
 obtain⟨a3,k3,rfl⟩:=owns_form h.fs
 have O1:=hid o1
 have BX:=hid bx
 have TX:=hid tx
 have q4:W1.cell? ⟨w.heap.size,4,none⟩=some (.slice a1 ks.length k1):=bx.cell 4
 have lb:=bx.lt
 have lw1:w.heap.size+2≤W1.heap.size:=by have:=tx.lt;omega
 clear h o1 bx tx
 go_enter func50,ntmps50
 go_wp2_with fail
 rw[←hW1]
 clear hW1
 (with_reducible refine C1.out.mono ?_)
 rintro e w2 ⟨u1,rfl,h1,o2⟩
 obtain⟨b1,j1,rfl⟩:=owns_form h1
 have r2:=o2.still BX.out
 have t2:=o2.still TX.out
 have p4:w2.cell? ⟨w.heap.size,4,none⟩=some (.slice a1 ks.length k1):=r2.cell 4
 have f4:=r2.frozen 4
 have lb2:=r2.lt
 obtain⟨w3,hw3⟩:∃w3,w3=w2.setCell ⟨w.heap.size,4,none⟩ (.slice b1 ks.length j1):=⟨_,rfl⟩
 have o3:Only (λg=>g=w.heap.size) w2 w3:=by rw[hw3];exact (Only.refl (λk=>k=w.heap.size) w2).into rfl _ _
 have r3:Row w3 w.heap.size 47 #[.int .i64 tag,.bool wr,.int .i64 lo,.int .i64 n,.slice b1 ks.length j1,.slice a2 vs.length k2,.slice a3 fs.length k3]:=by rw[hw3];exact r2.put 4 _
 have t3:=o3.row t2 (by omega)
 have s1:=O1.out.size
 have sW:=hid (show W1.heap.size≤w3.heap.size from Nat.le_trans o2.size o3.size)
 have O3:=hid (((O1.out.same o2).up (S:=λg=>w.heap.size≤g)).same (o3.more (λi _ e=>by rw[e];exact Nat.le_refl _)))
 have M1:=hid (h1.keep o3 (λg hg e=>by have:=(h1.base_le hg).1;have e1:g=w.heap.size:=e;omega))
 have R3:=hid r3
 have T3:=hid t3
 have q5:w3.cell? ⟨w.heap.size,5,none⟩=some (.slice a2 vs.length k2):=r3.cell 5
 clear h1 o2 r2 t2 o3 r3 t3 q4
 go_upto_region 2 with fail
 rw[←hw3]
 clear hw3 p4 f4
 go_wp2_with fail
 (with_reducible refine (C2.out w3 O3.out).mono ?_)
 rintro e w4 ⟨u2,rfl,h2,o4⟩
 obtain⟨b2,j2,rfl⟩:=owns_form h2
 have r4:=o4.still R3.out
 have t4:=o4.still T3.out
 have p5:w4.cell? ⟨w.heap.size,5,none⟩=some (.slice a2 vs.length k2):=r4.cell 5
 have f5:=r4.frozen 5
 have lb4:=r4.lt
 obtain⟨w5,hw5⟩:∃w5,w5=w4.setCell ⟨w.heap.size,5,none⟩ (.slice b2 vs.length j2):=⟨_,rfl⟩
 have o5:Only (λg=>g=w.heap.size) w4 w5:=by rw[hw5];exact (Only.refl (λk=>k=w.heap.size) w4).into rfl _ _
 have r5:Row w5 w.heap.size 47 #[.int .i64 tag,.bool wr,.int .i64 lo,.int .i64 n,.slice b1 ks.length j1,.slice b2 vs.length j2,.slice a3 fs.length k3]:=by rw[hw5];exact r4.put 5 _
 have t5:=o5.row t4 (by omega)
 have s3:=O3.out.size
 have s35:w3.heap.size≤w5.heap.size:=Nat.le_trans o4.size o5.size
 have O5:=hid ((O3.out.idle o4).same (o5.more (λi _ e=>by rw[e];exact Nat.le_refl _)))
 have M1b:=hid ((M1.out.still o4).keep o5 (λg hg e=>by have:=(M1.out.base_le hg).1;have e1:g=w.heap.size:=e;omega))
 have M2:=hid (h2.keep o5 (λg hg e=>by have:=(h2.base_le hg).1;have e1:g=w.heap.size:=e;have:=R3.out.lt;omega))
 have R5:=hid r5
 have T5:=hid t5
 have q6:w5.cell? ⟨w.heap.size,6,none⟩=some (.slice a3 fs.length k3):=r5.cell 6
 clear h2 o4 r4 t4 o5 r5 t5 q5 M1
 go_upto_region 3 with fail
 rw[←hw5]
 clear hw5 p5 f5
 go_wp2_with fail
 (with_reducible refine (C3.out w5 O5.out).mono ?_)
 rintro e w6 ⟨u3,rfl,h3,o6⟩
 obtain⟨b3,j3,rfl⟩:=owns_form h3
 have r6:=o6.still R5.out
 have t6:=o6.still T5.out
 obtain⟨c0,c1,c2,c3,c4,c5,c6⟩:=r6.seven
 have f6:=r6.frozen 6
 have lb6:=r6.lt
 obtain⟨d0,d1,d2,d3,d4,d5,d6⟩:=t6.seven
 have z0:=t6.frozen 0
 have z1:=t6.frozen 1
 have z2:=t6.frozen 2
 have z3:=t6.frozen 3
 have z4:=t6.frozen 4
 have z5:=t6.frozen 5
 have z6:=t6.frozen 6
 have lt6:=t6.lt
 have O6:=hid (O5.out.idle o6)
 have T6:=hid t6
 have M1c:=hid (M1b.out.still o6)
 have M2c:=hid (M2.out.still o6)
 have M3:=hid h3
 have S6:=hid (show w.heap.size+2≤W1.heap.size∧W1.heap.size≤w3.heap.size∧w3.heap.size≤w5.heap.size from ⟨lw1,sW.out,s35⟩)
 clear h3 o6 r6 t6 q6 M1b M2
 go_wp2_with fail
 have FR:=(T6.out.far (p:=⟨w.heap.size,6,none⟩) (by show w.heap.size+1≠w.heap.size;omega) (.slice b3 fs.length j3)).put7 (.int .i64 tag) (.bool wr) (.int .i64 lo) (.int .i64 n) (.slice b1 ks.length j1) (.slice b2 vs.length j2) (.slice b3 fs.length j3)
 have FO:=only7 (((Only.refl (λg=>g=w.heap.size∨g=w.heap.size+1) w6).put (p:=⟨w.heap.size,6,none⟩) (λ_=>.inl rfl) (.slice b3 fs.length j3))) (g:=w.heap.size+1) (λ_=>.inr rfl) (.int .i64 tag) (.bool wr) (.int .i64 lo) (.int .i64 n) (.slice b1 ks.length j1) (.slice b2 vs.length j2) (.slice b3 fs.length j3)
 have NN:∀(base:Nat) (v:Value),base≥w.heap.size+2→∀g,base≤g→¬ (g=w.heap.size∨g=w.heap.size+1):=λbase v hb g hg e=>by omega
 refine bodyPost_ret (results_move rfl _ _ (w.heap.size+1) _ rfl rfl FR) rfl ⟨(.slice b1 ks.length j1,.slice b2 vs.length j2,.slice b3 fs.length j3),rfl,⟨?_,?_,?_⟩,?_⟩
 ·exact (M1c.out.keep FO (λg hg e=>by have:=(M1c.out.base_le hg).1;have:=S6.out;have e1:g=w.heap.size∨g=w.heap.size+1:=e;omega)).lower11 (by have:=S6.out;omega)
 ·exact (M2c.out.keep FO (λg hg e=>by have:=(M2c.out.base_le hg).1;have:=S6.out;have e1:g=w.heap.size∨g=w.heap.size+1:=e;omega)).lower11 (by have:=S6.out;omega)
 ·exact (M3.out.keep FO (λg hg e=>by have:=(M3.out.base_le hg).1;have:=S6.out;have e1:g=w.heap.size∨g=w.heap.size+1:=e;omega)).lower11 (by have:=S6.out;omega)
 ·exact (O6.out.same (FO.more (λi _ e=>by have e1:i=w.heap.size∨i=w.heap.size+1:=e;show w.heap.size≤i;omega))).more (λi hi e=>absurd hi (by have e1:w.heap.size≤i:=e;omega))
end Go.Proofs.YtfbpjobobdidiaaGreatDoor
