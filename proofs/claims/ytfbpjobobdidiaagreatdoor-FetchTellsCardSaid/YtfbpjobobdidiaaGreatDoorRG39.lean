/- Texts of the layers below, one behind the other. -/
import Derived.Test.YtfbpjobobdidiaaGreatDoorROu16
import Derived.Test.YtfbpjobobdidiaaGreatDoorRNx16
import Derived.Test.YtfbpjobobdidiaaGreatDoorRRd16
import Derived.Test.YtfbpjobobdidiaaGreatDoorRWr16
import Derived.Test.YtfbpjobobdidiaaGreatDoorRSe16
set_option maxRecDepth 100000
namespace Go.Proofs.YtfbpjobobdidiaaGreatDoor
open Lib (hid)
open Go.Proofs.Tryz
open Go.RowKit Go.Maps
set_option linter.unusedVariables false
section
variable {w w':World} {p:Nat} {c:Nat→Nat} {X:Loc} {F H:Nat} {o:Opt} {nt ng:Nat} {ss:List Sd} {qs:List Sl} {g:List Sx} {te:List Ent} {ks:List Tk} {me:List Ent} {ms:List Mv} {E:Eng}
theorem EO.home (h:EO w p c X F H o nt ng ss qs g te ks me ms) {m:Mv} (hm:m∈ms) :
    ∃c',EO w p c' X F H o nt ng ss qs g te ks me (ms.filter (λs=>!(s.tag==m.tag)))∧(∀g,(X.B m.tag).1.ownBlock=some g→c' g=0)∧∀g,c' g≠0→c g≠0:=by
  classical
  have c8:∀g,(X.B m.tag).1.ownBlock=some g→c g=8:=λg hg=>(h.mv m hm).ck g hg
  have rc:∀j,j≠8→j≠0→∀g,(if (X.B m.tag).1.ownBlock=some g then 0 else c g)=j↔c g=j:=λj hj j0 g=>by
    by_cases q:(X.B m.tag).1.ownBlock=some g
    · rw[if_pos q,c8 g q];exact⟨λe=>absurd e.symm j0,λe=>absurd e.symm hj⟩
    · rw[if_neg q]
  refine⟨λg=>if (X.B m.tag).1.ownBlock=some g then 0 else c g,
    { row:=h.row,cp:=(rc 1 (by decide) (by decide) p).2 h.cp,ln:=?_,tn:=h.tn,ct:=⟨(rc 3 (by decide) (by decide) _).2 h.ct.1,(rc 3 (by decide) (by decide) _).2 h.ct.2⟩,wg:=?_,tm:=h.tm,cb:=(rc 5 (by decide) (by decide) _).2 h.cb,
      tk:=λt ht=>⟨(h.tk t ht).1,(rc 6 (by decide) (by decide) _).2 (h.tk t ht).2⟩,inj:=h.inj,mm:=h.mm,cm:=(rc 7 (by decide) (by decide) _).2 h.cm,mv:=λs hs=>?_,ma:=λs hs u hu=>h.ma s (List.mem_filter.1 hs).1 u (List.mem_filter.1 hu).1,lt:=λg hg=>?_ },λg hg=>if_pos hg,λg hg=>?_⟩
  · have e:(λg=>(if (X.B m.tag).1.ownBlock=some g then 0 else c g)=2)=λg=>c g=2:=by funext g;exact propext (rc 2 (by decide) (by decide) g)
    rw[e];exact h.ln
  · have e:(λg=>(if (X.B m.tag).1.ownBlock=some g then 0 else c g)=4)=λg=>c g=4:=by funext g;exact propext (rc 4 (by decide) (by decide) g)
    rw[e];exact h.wg
  · obtain⟨hs1,hs2⟩:=List.mem_filter.1 hs
    have ne:m.tag≠s.tag:=λe=>by simp[e] at hs2
    have q:=h.mv s hs1
    have ap:=h.ma m hm s hs1 ne
    exact⟨q.ks,q.vs,q.fs,
      λg hg=>by show (if _ then _ else _)=8;rw[if_neg (λz=>(ap g z).1 hg)];exact q.ck g hg,
      λg hg=>by show (if _ then _ else _)=8;rw[if_neg (λz=>(ap g z).2.1 hg)];exact q.cv g hg,
      λg hg=>by show (if _ then _ else _)=8;rw[if_neg (λz=>(ap g z).2.2 hg)];exact q.cf g hg⟩
  · refine h.lt g (λz=>hg ?_)
    split
    · rfl
    · exact z
  · intro z
    refine hg ?_
    dsimp only
    split
    · rfl
    · exact z
theorem cut_mv (B:Int→Value × Value × Value) (ms:List Mv) (x:Int):cutV (ms.map (mvEnt B)) x=(ms.filter (λs=>!(s.tag==x))).map (mvEnt B):=by
  unfold cutV
  rw[List.filter_map]
  rfl
theorem EP.home (h:EP w p c X F H ks E) {m:Mv} (hm:m∈E.ms) (hg:Mg w' X.bm (cutV (E.ms.map (mvEnt X.B)) m.tag)) (on:Only (λk=>k=X.bm) w w') :
    ∃c',EP w' p c' X F H ks (E.home m.tag)∧OwI w' 0 (X.B m.tag).1 m.ks∧(∀g,(X.B m.tag).1.ownBlock=some g→c' g=0)∧∀g,c' g≠0→c g≠0:=by
  have e0:=h.eo.mmap hg on
  obtain⟨c',h1,h2,h3⟩:=e0.home hm
  rw[cut_mv] at h1
  exact⟨c',{ eo:=h1,sub:=h.sub,may:=h.may,idr:=h.idr,tag:=λs hs=>h.tag s (List.mem_filter.1 hs).1,few:=h.few,mfew:=Nat.le_trans (List.length_filter_le _ _) h.mfew,ntH:=h.ntH,ngH:=h.ngH,hF:=h.hF,hH:=h.hH },(e0.mv m hm).ks,h2,h3⟩
theorem at17_mv (B:Int→Value × Value × Value) (z:Value) (ms:List Mv) (x:Int):atV z (ms.map (mvEnt B)) x=match at17 ms x with | some m=>m.val (B m.tag) | none=>z:=by
  unfold atV at17
  rw[List.find?_map]
  rw[show ((λp:Ent=>p.1==x)∘mvEnt B)=(λm:Mv=>m.tag==x) from rfl]
  cases ms.find? (λm=>m.tag==x)<;>rfl
theorem has_mv (B:Int→Value × Value × Value) (ms:List Mv) (x:Int):hasV (ms.map (mvEnt B)) x=(at17 ms x).isSome:=by
  unfold hasV at17
  rw[Bool.eq_iff_iff,List.find?_isSome,List.any_map,List.any_eq_true]
  exact⟨λ⟨m,h1,h2⟩=>⟨m,h1,h2⟩,λ⟨m,h1,h2⟩=>⟨m,h1,h2⟩⟩
end
def ocC (q:Oc × Value):List Value:=[.int .i64 q.1.t.id,.int .i64 q.1.t.kind,.int .i64 q.1.t.b,.int .i64 q.1.t.l,.int .i64 q.1.t.tries,.int .i64 q.1.n,.bool q.1.t.out,.bool q.1.t.fr,.bool q.1.t.cut,.int .i64 q.1.f,.int .u64 q.1.t.v,q.2]
theorem ocC12 (q:Oc × Value):(ocC q).length=12:=rfl
theorem ocC_one (q:Oc × Value) (h:q.2.oneCell'=true):∀u∈ocC q,u.oneCell'=true:=by
  intro u hu
  simp only[ocC,List.mem_cons,List.not_mem_nil,or_false] at hu
  rcases hu with rfl | rfl | rfl | rfl | rfl | rfl | rfl | rfl | rfl | rfl | rfl | rfl<;>first | rfl | exact h
theorem info_oc12:(prog.info? 73).map (λi=>(i.zero,i.size,i.bytes))=some (some (.agg #[.int .i64 0,.int .i64 0,.int .i64 0,.int .i64 0,.int .i64 0,.int .i64 0,.bool false,.bool false,.bool false,.int .i64 0,.int .u64 0,.slice none 0 0]),12,96):=by kernel_rfl
abbrev OwnsOc (w:World) (base:Nat) (v:Value) (xs:List (Oc × Value)):Prop:=Owns w base 73 12 ocC v xs
structure OcAt (w:World) (base:Nat) (c:Nat→Nat) (v:Value) (xs:List (Oc × Value)):Prop where
  own:OwnsOc w base v xs
  cv:∀g,v.ownBlock=some g→c g=0
  rd:∀q∈xs,RdW w base q.2 q.1.ws
  cq:∀q∈xs,∀g,q.2.ownBlock=some g→c g=0∧v.ownBlock≠some g
theorem OcAt.start (w:World) (base:Nat) (c:Nat→Nat):OcAt w base c (.slice none 0 0) []:=⟨Owns.start _ _ _ _ _,λg hg=>(by cases hg),λq hq=>(by cases hq),λq hq=>(by cases hq)⟩
theorem OcAt.still {w w':World} {base:Nat} {c:Nat→Nat} {v:Value} {xs:List (Oc × Value)} (h:OcAt w base c v xs) (o:Only n_ w w'):OcAt w' base c v xs:=⟨h.own.still o,h.cv,λq hq=>(h.rd q hq).still o,h.cq⟩
theorem OcAt.call {w w':World} {base:Nat} {c c':Nat→Nat} {v:Value} {xs:List (Oc × Value)} (h:OcAt w base c v xs) (gw:Gw w c c') (o:Only (λg=>c g≠0) w w'):OcAt w' base c' v xs where
  own:=h.own.keep o (λg hg z=>z (h.cv g hg))
  cv:=λg hg=>gw.zero (h.cv g hg) (h.own.base_le hg).2
  rd:=λq hq=>(h.rd q hq).keep o (λg hg z=>z ((h.cq q hq g hg).1))
  cq:=λq hq g hg=>⟨gw.zero ((h.cq q hq g hg).1) ((h.rd q hq).late g hg).2,(h.cq q hq g hg).2⟩
theorem OcAt.push {w w':World} {base:Nat} {c:Nat→Nat} {v v':Value} {xs:List (Oc × Value)} (h:OcAt w base c v xs) (z:∀g,w.heap.size≤g→c g=0) {q:Oc × Value} (own:OwnsOc w' base v' (xs++[q])) (og:Only (λj=>some j=v.ownBlock) w w') (hv:v'.ownBlock=v.ownBlock∨v'.ownBlock=some w.heap.size) (rd:RdW w base q.2 q.1.ws) (cq:∀g,q.2.ownBlock=some g→c g=0∧v.ownBlock≠some g):OcAt w' base c v' (xs++[q]):=by
  have all:∀r∈xs++[q],RdW w base r.2 r.1.ws∧∀g,r.2.ownBlock=some g→c g=0∧v.ownBlock≠some g:=λr hr=>by
    rcases List.mem_append.1 hr with k | k
    · exact⟨h.rd r k,h.cq r k⟩
    · rw[List.mem_singleton.1 k];exact⟨rd,cq⟩
  refine⟨own,λg hg=>?_,λr hr=>(all r hr).1.keep og (λg hg k=>((all r hr).2 g hg).2 k.symm),λr hr g hg=>⟨((all r hr).2 g hg).1,λk=>?_⟩⟩
  · rcases hv with e | e
    · exact h.cv g (by rw[←e];exact hg)
    · rw[hg] at e;injection e with e;exact z g (by omega)
  · rcases hv with e | e
    · exact ((all r hr).2 g hg).2 (by rw[←e];exact k)
    · rw[k] at e;injection e with e
      have:=((all r hr).1.late g hg).2
      omega
structure FiR (w5 wr:World) (p:Nat) (c5:Nat→Nat) (b1:Value) (well:Bool) (mks:List Int) (F H:Nat) (E5:Eng) (k:Nat) (E':Eng) (c':Nat→Nat) (X':Loc) (ks':List Tk) (v':Value) (qs:List (Oc × Value)):Prop where
 le:k≤mks.length
 iv:InvX E' [] (mks.drop k)
 fin:(E'.comes well (mks.drop k)).1=(E5.comes well mks).1
 out:qs.map (·.1)++(E'.comes well (mks.drop k)).2=(E5.comes well mks).2
 qn:qs.length=k
 ep:EP wr p c' X' (F+k) H ks' E'
 gw:Gw w5 c5 c'
 oc:OcAt wr w5.heap.size c' v' qs
 row:OwI wr 0 b1 mks
 rc:∀g,b1.ownBlock=some g→c' g=0∧g<w5.heap.size
 only:Only (λg=>c5 g≠0) w5 wr
section
variable {w5 wr w1 w7:World} {p:Nat} {c5:Nat→Nat} {b1:Value} {well:Bool} {mks:List Int} {F H:Nat} {E5:Eng} {k:Nat} {E':Eng} {c':Nat→Nat} {X':Loc} {ks':List Tk} {v':Value} {qs:List (Oc × Value)}
theorem FiR.ticket (h:FiR w5 wr p c5 b1 well mks F H E5 k E' c' X' ks' v' qs) {x:Int} (hx:mks[k]? = some x):∃t,t∈E'.ts∧t.id=x∧at16 E'.ts x=some t∧0≤t.tries∧t.tries≤1000:=by
 have hl:=lt_of_get hx
 have e:mks.drop k=x::mks.drop (k+1):=by rw[List.drop_eq_getElem_cons hl];rw[List.getElem?_eq_getElem hl] at hx;injection hx with hx;rw[hx]
 obtain⟨t,ht,e1,_⟩:=h.iv.rt x (by rw[e];simp)
 have:=h.iv.tri t ht
 have may:=h.iv.may
 unfold Opt.MayC at may
 exact⟨t,ht,e1,by rw[←e1];exact at16_mem h.ep.once ht,this.1,by omega⟩
theorem FiR.next (h:FiR w5 wr p c5 b1 well mks F H E5 k E' c' X' ks' v' qs) {x:Int} (hx:mks[k]? = some x) {t:Tk} (ht:at16 E'.ts x=some t) (hid:t.id=x) {v1:Value}
  (rd:RdW w1 wr.heap.size v1 (if fate16 E' t well=1 then [] else ofL E'.g t.id)) (eg:EGtoV wr p c' (F+k+1) H (if fate16 E' t well=1 then { (E'.upd t.id Tk.back) with qs:=waitS E'.qs t.id true } else (E'.end_ t.id).take t.id) v1 w1) :
  ∃c2 X2 ks2,EP w1 p c2 X2 (F+(k+1)) H ks2 (E'.come well x)∧Gw w5 c5 c2∧OcAt w1 w5.heap.size c2 v' qs∧OwI w1 0 b1 mks∧(∀g,b1.ownBlock=some g→c2 g=0∧g<w5.heap.size)∧Only (λg=>c5 g≠0) w5 w1∧RdW w1 w5.heap.size v1 (E'.outc well x).ws∧(∀g,v1.ownBlock=some g→c2 g=0∧v'.ownBlock≠some g):=by
 obtain⟨⟨c2,X2,ks2,e2,g2,z2⟩,o2⟩:=eg
 have ec:E'.come well x=if fate16 E' t well=1 then { (E'.upd t.id Tk.back) with qs:=waitS E'.qs t.id true } else (E'.end_ t.id).take t.id:=by
  unfold Eng.come
  rw[ht,hid]
  rfl
 have ew:(E'.outc well x).ws=if fate16 E' t well=1 then [] else ofL E'.g t.id:=by
  unfold Eng.outc
  rw[ht,hid]
  rfl
 refine⟨c2,X2,ks2,by rw[ec];exact e2,Gw.next h.only h.gw g2,h.oc.call g2 o2,h.row.keep o2 (λg hg z=>z (h.rc g hg).1),λg hg=>⟨g2.zero (h.rc g hg).1 (h.row.base_le hg).2,(h.rc g hg).2⟩,Gw.only h.only h.gw o2 (λg z=>z),by rw[ew];exact⟨rd.1,λg hg=>⟨Nat.le_trans h.only.size (rd.late g hg).1,(rd.late g hg).2⟩⟩,λg hg=>⟨z2 g hg,λq=>?_⟩⟩
 have:=(rd.late g hg).1
 have:=(h.oc.own.base_le q).2
 omega
theorem FiR.more {W2:World} (h:FiR w5 wr p c5 b1 well mks F H E5 k E' c' X' ks' v' qs) {x:Int} (hx:mks[k]? = some x) {v1:Value} {c2:Nat→Nat} {X2:Loc} {ks2:List Tk}
  (ep:EP W2 p c2 X2 (F+(k+1)) H ks2 (E'.come well x)) (gw:Gw w5 c5 c2) (oc:OcAt W2 w5.heap.size c2 v' qs) (row:OwI W2 0 b1 mks) (rc:∀g,b1.ownBlock=some g→c2 g=0∧g<w5.heap.size) (only:Only (λg=>c5 g≠0) w5 W2) (rd:RdW W2 w5.heap.size v1 (E'.outc well x).ws) (cq:∀g,v1.ownBlock=some g→c2 g=0∧v'.ownBlock≠some g)
  {v7:Value} (own:OwnsOc w7 w5.heap.size v7 (qs++[(E'.outc well x,v1)])) (og:Only (λj=>some j=v'.ownBlock) W2 w7) (hv:v7.ownBlock=v'.ownBlock∨v7.ownBlock=some W2.heap.size) :
  FiR w5 w7 p c5 b1 well mks F H E5 (k+1) (E'.come well x) c2 X2 ks2 v7 (qs++[(E'.outc well x,v1)]):=by
 have hl:=lt_of_get hx
 have e:mks.drop k=x::mks.drop (k+1):=by rw[List.drop_eq_getElem_cons hl];rw[List.getElem?_eq_getElem hl] at hx;injection hx with hx;rw[hx]
 have i:=h.iv
 have f:=h.fin
 have o:=h.out
 rw[e] at i f o
 have nb:∀g,c2 g≠0→¬ some g=v'.ownBlock:=λg hg z=>hg (oc.cv g z.symm)
 exact {
  le:=hl
  iv:=i.come well
  fin:=f
  out:=by
   rw[List.map_append,List.append_assoc]
   exact o
  qn:=by rw[List.length_append,h.qn];rfl
  ep:=ep.keep og nb
  gw:=gw
  oc:=oc.push (λg hg=>ep.zero hg) own og hv rd cq
  row:=row.keep og (λg hg z=>by have:=(oc.own.base_le z.symm).1;have:=(rc g hg).2;omega)
  rc:=rc
  only:=only.trans og (λi hi z=>by have:=(oc.own.base_le z.symm).1;omega) }
end
section
variable {p:Nat} {c:Nat→Nat} {X:Loc} {F H:Nat} {ks:List Tk} {E:Eng}
theorem zeroMv (w:World):(zeroValue 47).run prog w=.ok (.agg #[.int .i64 0,.bool false,.int .i64 0,.int .i64 0,.slice none 0 0,.slice none 0 0,.slice none 0 0]) w:=by kernel_rfl
set_option maxHeartbeats 4000000 in
theorem efinish_any (tag:Int) (well:Bool) (w:World) (h:EP w p c X F H ks E) (iv:Inv E) (wt:(Lit.int .i64 tag).wf=true) (hF:F+300<100000000) :
  Calls prog 24 #[pT p,.int .i64 tag,.bool well] w λe w'=>∃v qs,e=.returned (.tuple #[v,.int .i64 (E.finishC tag)])∧qs.map (·.1)=E.finishO tag well∧(∃c' X' ks',EP w' p c' X' (F+300) H ks' (E.finish tag well)∧Gw w c c'∧OcAt w' w.heap.size c' v qs)∧Only (λg=>c g≠0) w w':=by
 have c18:w.cell? ⟨p,18,none⟩=some (.map (some X.bm)):=h.cell 18
 have LK:=h.eo.mm.look_ok underlying97 (zeroMv w) wt
 rw[at17_mv,has_mv] at LK
 have H0:=hid h
 unfold pT
 cases hf:at17 E.ms tag with
 | none =>
  have EF:=hid (show E.finish tag well=E∧E.finishC tag=3∧E.finishO tag well=[] from by unfold Eng.finish Eng.finishC Eng.finishO;rw[hf];exact⟨rfl,rfl,rfl⟩)
  rw[hf] at LK
  simp only[Option.isSome_none] at LK
  have HFF:=hid hF
  clear h iv wt hf hF
  go_enter func24,ntmps24
  go_wp2_with fail
  go_ret2
  refine⟨_,[],by rw[EF.out.2.1];rfl,by rw[EF.out.2.2];rfl,⟨c,X,ks,?_,Gw.refl _ _,OcAt.start _ _ _⟩,?_⟩
  ·rw[EF.out.1]
   exact (H0.out.still ((Only.refl n_ w).alloc _)).up (by omega) (Nat.le_refl _) HFF.out H0.out.hH
  ·exact ((Only.refl n_ w).alloc _).up
 | some m =>
  obtain⟨hm,ht⟩:=at17_some hf
  have EF:=hid (show E.finish tag well=((E.home tag).comes well m.ks).1∧E.finishC tag=0∧E.finishO tag well=((E.home tag).comes well m.ks).2 from by unfold Eng.finish Eng.finishC Eng.finishO;rw[hf];exact⟨rfl,rfl,rfl⟩)
  rw[hf] at LK
  simp only[Option.isSome_some] at LK
  have IV:=hid (show InvX (E.home tag) [] m.ks from by rw[←ht];exact iv.home hm)
  obtain⟨⟨b1,b2,b3⟩,hB⟩:∃v,X.B m.tag=v:=⟨_,rfl⟩
  have fm:=h.eo.mv m hm
  rw[hB] at fm
  obtain⟨ba,bc,e1⟩:=owns_form fm.ks
  obtain⟨ba2,bc2,e2⟩:=owns_form fm.vs
  obtain⟨ba3,bc3,e3⟩:=owns_form fm.fs
  dsimp only at e1 e2 e3
  subst e1 e2 e3
  rw[hB] at LK
  unfold Mv.val at LK
  obtain⟨W1,hW1⟩:∃W1,W1=w.alloc (.cells #[.int .i64 m.tag,.bool m.wr,.int .i64 m.lo,.int .i64 m.n,.slice ba m.ks.length bc,.slice ba2 m.vs.length bc2,.slice ba3 m.fs.length bc3] 47):=⟨_,rfl⟩
  have r1:Row W1 w.heap.size 47 #[.int .i64 m.tag,.bool m.wr,.int .i64 m.lo,.int .i64 m.n,.slice ba m.ks.length bc,.slice ba2 m.vs.length bc2,.slice ba3 m.fs.length bc3]:=by rw[hW1];exact Row.fresh _ _ _
  have o1:Only n_ w W1:=by rw[hW1];exact (Only.refl _ _).alloc _
  have h1:=h.still o1
  have z0:=h.zero (Nat.le_refl w.heap.size)
  obtain⟨w5,run5,m5,o5⟩:=h1.eo.mm.drop underlying97 tag wt 0
  obtain⟨c5,h5,ob,zb,g5⟩:=h1.home hm (by rw[ht];exact m5) o5
  rw[ht] at h5
  rw[hB] at ob zb
  have r5:=o5.row r1 (λe=>by have:=h.eo.cm;rw[←e,z0] at this;cases this)
  have kl:m.ks.length≤256:=by
   have:=iv.mok m hm
   have may:=iv.may
   unfold Opt.MayC at may
   omega
  have c18':W1.cell? ⟨p,18,none⟩=some (.map (some X.bm)):=h1.cell 18
  have q4:w5.cell? ⟨w.heap.size,4,none⟩=some (.slice ba m.ks.length bc):=r5.cell 4
  dsimp only at ob zb
  clear fm
  have H5:=hid h5
  have OB:=hid ob
  have ZB:=hid zb
  have G5:=hid (show Gw w c c5 from λg hg=>.inl (g5 g hg))
  have C5:=hid g5
  have O5:=hid (show Only (λg=>c g≠0) w w5 from (o1.up (S:=λg=>c g≠0)).same (o5.more (λi _ e=>by rw[e,h.eo.cm];decide)))
  have KL:=hid kl
  have HFF:=hid hF
  obtain⟨i0,hi0,hz0,hz1,hz2⟩:=info_partsR info_oc12
  have I0:=hid hi0
  have I1:=hid hz0
  have I2:=hid hz1
  have I3:=hid hz2
  generalize hms:m.ks=mks at *
  clear h iv hf hm ht hi0 hz0 hz1 hz2 m5 o5 h5 ob zb g5 r5 r1 kl hB h1 z0 hms hF o1
  go_enter func24,ntmps24
  go_upto_region 4 with fail
  rw[←hW1]
  clear hW1
  go_wp2_with fail
  go_loopw [10,12,32] (λv _ i wr=>∃(k:Nat) (E':Eng) (c':Nat→Nat) (X':Loc) (ks':List Tk) (v':Value) (qs:List (Oc × Value)),v'=v∧i=.int .i64 k∧FiR w5 wr p c5 (.slice ba mks.length bc) well mks F H (E.home tag) k E' c' X' ks' v' qs) (λ_ _ i _=>mks.length-(intOf i).toNat)
  case atStart =>
   exact⟨0,E.home tag,c5,X,ks,_,[],rfl,rfl,{ le:=Nat.zero_le _,iv:=IV.out,fin:=rfl,out:=rfl,qn:=rfl,ep:=H5.out,gw:=Gw.refl _ _,oc:=OcAt.start _ _ _,row:=OB.out,rc:=λg hg=>⟨ZB.out g hg,(OB.out.base_le hg).2⟩,only:=Only.refl _ _ }⟩
  case round =>
   obtain⟨k,E',c',X',ks',v',qs,rfl,rfl,hR⟩:=hrel
   have R:=hid hR
   clear hR
   by_cases hlt:k<mks.length
   ·have t1:decide (k<mks.length)=true:=decide_eq_true hlt
    obtain⟨x,hx⟩:∃x,mks[k]? = some x:=⟨_,List.getElem?_eq_getElem hlt⟩
    obtain⟨t,tm,tid,hat,tr0,tr1⟩:=R.out.ticket hx
    have K2:k<256:=by have:=KL.out;omega
    obtain⟨ra',rc',e1,rd'⟩:=Reads.of_owns R.out.row
    obtain⟨g,ao,e2,ck⟩:=rd' k x hx
    cases e1
    subst e2
    have c17:wr.cell? ⟨p,17,none⟩=some (.map (some X'.bt)):=R.out.ep.cell 17
    have wx:(Lit.int .i64 x).wf=true:=by
     have:=R.out.ep.idr t (R.out.ep.sub t tm)
     have:=R.out.ep.ntH
     have:=R.out.ep.hH
     exact wf_i _ (by omega)
    have LK2:=R.out.ep.eo.tm.look underlying96 (zeroPtr wr) wx
    rw[at16_tk,hat] at LK2
    have OU:=eoutcome_any t well wr R.out.ep tm ⟨tr0,tr1⟩ (by have:=HFF.out;omega)
    obtain⟨gt,hgt⟩:∃gt,X'.A t.id=gt:=⟨_,rfl⟩
    unfold optPtr pT at LK2
    unfold pT Oc.val at OU
    simp only[hgt] at LK2 OU
    have OU:=hid OU
    have HX:=hid hx
    have HAT:=hid hat
    have TID:=hid tid
    clear hx hat tm tid rd' wx hgt tr0 tr1
    go_wp2_with fail
    (with_reducible refine OU.out.mono ?_)
    rintro e w6 ⟨v6,rfl,rd6,eg6⟩
    obtain⟨c2,X2,ks2,e2,g2,oc2,ow2,rc2,on2,rdq,cq⟩:=R.out.next HX.out HAT.out TID.out rd6 eg6
    have OCE:((E'.outc well x).t=t∧(E'.outc well x).n=E'.cnt t.id∧(E'.outc well x).f=fate16 E' t well):=by
     unfold Eng.outc
     rw[HAT.out,TID.out]
     exact⟨rfl,rfl,rfl⟩
    obtain⟨sa,sk,rfl⟩:=rdq.len
    obtain⟨W7,hW7⟩:∃W,W=w6.alloc (.cells #[.int .i64 t.id,.int .i64 t.kind,.int .i64 t.b,.int .i64 t.l,.int .i64 t.tries,.int .i64 (E'.cnt t.id),.bool t.out,.bool t.fr,.bool t.cut,.int .i64 (fate16 E' t well),.int .u64 t.v,.slice sa (E'.outc well x).ws.length sk] 73):=⟨_,rfl⟩
    have oa:Only n_ w6 W7:=by rw[hW7];exact (Only.refl _ _).alloc _
    have ES:W7.heap.size=w6.heap.size+1:=by rw[hW7];simp
    have SR:=hid (show Src W7 (.slice (some ⟨w6.heap.size,0,none⟩) 1 1) 1 (ocC (E'.outc well x,.slice sa (E'.outc well x).ws.length sk)) from .inr ⟨_,1,rfl,λj u hj=>by
     have rf:Row W7 w6.heap.size 73 (ocC (E'.outc well x,.slice sa (E'.outc well x).ws.length sk)).toArray:=by
      rw[hW7]
      unfold ocC
      rw[OCE.1,OCE.2.1,OCE.2.2]
      exact Row.fresh _ _ _
     rw[addL11,Nat.zero_add,rf.cell,List.getElem?_toArray]
     exact hj⟩)
    have E2:=hid (e2.still oa)
    have OC2:=hid (oc2.still oa)
    have OW2:=hid (ow2.still oa)
    have RC2:=hid rc2
    have ON2:=hid (on2.idle oa)
    have RD2:=hid (rdq.still oa)
    have CQ2:=hid cq
    have G2:=hid g2
    have QL:=hid (show qs.length≤256 from by rw[R.out.qn];omega)
    have V2:=hid OC2.out.own
    have BSZ:=hid (show w5.heap.size≤W7.heap.size from ON2.out.size)
    clear e2 oc2 ow2 rc2 on2 rdq cq g2 oa rd6 eg6 OCE OU LK2
    go_wp2_with (at_builtin;go_loud (first | rw[←hW7] | skip);(refine wpList_append_src _ rfl (.tmp 36) (.tmp 46) 69 rfl w5.heap.size 73 i0 _ 12 96 underlying69 I0.out I1.out I2.out I3.out rfl (by decide) _ qs.length (qs.flatMap ocC) rfl V2.out _ 1 (ocC (E'.outc well x,.slice sa (E'.outc well x).ws.length sk)) rfl SR.out rfl (ocC_one _ rfl) (by have:=QL.out;unfold maxLen;omega) (by have:=QL.out;omega) BSZ.out ?_))
    intro v7 w7 hown hgrow hblk
    rw[←hW7] at hgrow
    rw[←ES] at hblk
    have V7:OwnsOc w7 w5.heap.size v7 (qs++[(E'.outc well x,.slice sa (E'.outc well x).ws.length sk)]):=by
     show Owns _ _ _ _ _ _ _
     unfold Owns
     rw[List.flatMap_append,List.length_append]
     simpa using hown
    have RR:=hid (R.out.more HX.out E2.out G2.out OC2.out OW2.out RC2.out ON2.out RD2.out CQ2.out V7 (Only.of_grown hgrow) hblk)
    clear hown hgrow hblk V7 hW7 ES
    go_wp2_with fail
    go_roundw
    case rel=>exact⟨k+1,_,_,_,_,_,_,rfl,by go_num,RR.out⟩
    case measure=>simp[intOf];omega
   ·have t1:decide (k<mks.length)=false:=decide_eq_false hlt
    have hk:k=mks.length:=by have:=R.out.le;omega
    have fi:=R.out.fin
    have ou:=R.out.out
    rw[List.drop_eq_nil_of_le (by omega)] at fi ou
    have FI:=hid (show E'=E.finish tag well from by rw[EF.out.1,←fi];rfl)
    have OU:=hid (show qs.map (·.1)=E.finishO tag well from by rw[EF.out.2.2,←ou];exact (List.append_nil _).symm)
    clear hk fi ou
    go_wp2_with fail
    go_ret2
    have s5:=O5.out.size
    have oc:=R.out.oc
    refine⟨_,qs,by rw[EF.out.2.1];rfl,OU.out,⟨c',X',ks',?_,?_,?_⟩,?_⟩
    ·rw[←FI.out]
     exact R.out.ep.up (by have:=R.out.le;have:=KL.out;omega) (Nat.le_refl _) HFF.out H0.out.hH
    ·exact Gw.next O5.out G5.out R.out.gw
    ·exact⟨oc.own.lower11 s5,oc.cv,λq hq=>⟨(oc.rd q hq).1,λg hg=>⟨Nat.le_trans s5 ((oc.rd q hq).late g hg).1,((oc.rd q hq).late g hg).2⟩⟩,oc.cq⟩
    ·exact O5.out.trans R.out.only (λi hi z=>C5.out i z)
end
section
variable {p:Nat} {c:Nat→Nat} {X:Loc} {F H:Nat} {ks:List Tk} {E:Eng}
end
structure LEw (w0 w:World) (p:Nat) (c:Nat→Nat) (F H:Nat) (E:Eng):Prop where
 ep:∃X ks,EP w p c X F H ks E
 inv:Inv E
 new:∀g,c g≠0→w0.heap.size≤g
 only:Only n_ w0 w
section
variable {w0 w w':World} {p:Nat} {c:Nat→Nat} {F H:Nat} {E:Eng}
theorem LEw.still (h:LEw w0 w p c F H E) (o:Only n_ w w'):LEw w0 w' p c F H E:=⟨let ⟨X,ks,k⟩:=h.ep;⟨X,ks,k.still o⟩,h.inv,h.new,h.only.same o⟩
theorem LEw.lt (h:LEw w0 w p c F H E):∀g,c g≠0→g<w.heap.size:=let ⟨X,ks,k⟩:=h.ep;k.eo.lt
theorem LEw.up (h:LEw w0 w p c F H E) {F' H':Nat} (k:F≤F') (k2:H≤H') (b:F'<100000000) (b2:H'<1000000):LEw w0 w p c F' H' E:={ h with ep:=let ⟨X,ks,q⟩:=h.ep;⟨X,ks,q.up k k2 b b2⟩ }
theorem LEw.keepN (h:LEw w0 w p c F H E) {S:Nat→Prop} (o:Only S w w') (hn:∀g,S g→c g=0∧w0.heap.size≤g):LEw w0 w' p c F H E:=
 ⟨let ⟨X,ks,k⟩:=h.ep;⟨X,ks,k.keep o (λg hg s=>hg (hn g s).1)⟩,h.inv,h.new,h.only.trans o (λi hi s=>absurd (hn i s).2 (Nat.not_le.2 hi))⟩
def LEto (w0 w:World) (p:Nat) (c:Nat→Nat) (F H:Nat) (E:Eng) (P:Nat→Prop) (w':World):Prop:=∃c',LEw w0 w' p c' F H E∧Gw w c c'∧(∀g,P g→c' g=0)∧Only (λg=>c g≠0) w w'
theorem LEw.callP (h:LEw w0 w p c F H E) {F' H':Nat} {E':Eng} {P:Nat→Prop} (k:EGtoP w p c F' H' E' P w') (iv:Inv E'):LEto w0 w p c F' H' E' P w':=by
 obtain⟨⟨c',X,ks,e,g,z⟩,o⟩:=k
 refine⟨c',⟨⟨X,ks,e⟩,iv,λi hi=>?_,h.only.trans o (λi hi s=>absurd (h.new i s) (Nat.not_le.2 hi))⟩,g,z,o⟩
 rcases g i hi with q | q
 ·exact h.new i q
 ·exact Nat.le_trans h.only.size q
theorem LEw.call (h:LEw w0 w p c F H E) {F' H':Nat} {E':Eng} (k:EGto w p c F' H' E' w') (iv:Inv E'):LEto w0 w p c F' H' E' (λ_=>False) w':=
 h.callP (let ⟨⟨c',X,ks,e,g⟩,o⟩:=k;⟨⟨c',X,ks,e,g,λ_ q=>q.elim⟩,o⟩) iv
theorem lread (b l:Int) (x:Wt) (h:LEw w0 w p c F H E) (wx:wfW x) (hF:F+10<100000000) (hH:H+2<1000000) :
  Calls prog 21 #[pT p,.int .i64 b,.int .i64 l,x.val] w λe w'=>e=.returned (readA E b l x)∧LEto w0 w p c (F+10) (H+2) (E.read b l x) (λ_=>False) w':=by
 obtain⟨X,ks,k⟩:=h.ep
 exact (eread_any b l x w k h.inv wx hF hH).mono (λe w' z=>⟨z.1,h.call z.2 (h.inv.read b l x)⟩)
theorem lahead (b:Int) (h:LEw w0 w p c F H E) (hF:F+10<100000000) (hH:H+2<1000000) :
  Calls prog 31 #[pT p,.int .i64 b] w λe w'=>e=.returned (aheadA E b)∧LEto w0 w p c (F+10) (H+2) (E.ahead b) (λ_=>False) w':=by
 obtain⟨X,ks,k⟩:=h.ep
 exact (eahead_any b w k h.inv hF hH).mono (λe w' z=>⟨z.1,h.call z.2 (h.inv.ahead b)⟩)
theorem lnext (room:Int) (h:LEw w0 w p c F H E) (r9:-9223372036854775808≤room∧room≤9223372036854775807) (hF:F+1000<100000000) (hH:H+1<1000000) :
  Calls prog 19 #[pT p,.int .i64 room] w λe w'=>∃mv dv v',e=.returned (.tuple #[mv,dv,.bool (E.next room).2.2.isSome])∧OwI w' w.heap.size dv (E.next room).2.1∧NxV w' w.heap.size mv v' (E.next room).2.2∧LEto w0 w p c (F+1000) (H+1) (E.next room).1 (MvB v') w':=by
 obtain⟨X,ks,k⟩:=h.ep
 exact (enext_any room w k h.inv r9 hF hH).mono (λe w' ⟨mv,dv,v',z1,z2,z3,z4⟩=>⟨mv,dv,v',z1,z2,z3,h.callP z4 (h.inv.next room)⟩)
theorem lfinish (tag:Int) (well:Bool) (h:LEw w0 w p c F H E) (wt:(Lit.int .i64 tag).wf=true) (hF:F+300<100000000) :
  Calls prog 24 #[pT p,.int .i64 tag,.bool well] w λe w'=>∃v qs,e=.returned (.tuple #[v,.int .i64 (E.finishC tag)])∧qs.map (·.1)=E.finishO tag well∧∃c',LEw w0 w' p c' (F+300) H (E.finish tag well)∧Gw w c c'∧OcAt w' w.heap.size c' v qs∧Only (λg=>c g≠0) w w':=by
 obtain⟨X,ks,k⟩:=h.ep
 refine (efinish_any tag well w k h.inv wt hF).mono ?_
 rintro e w' ⟨v,qs,z1,z2,⟨c',X',ks',z3,z4,z5⟩,z6⟩
 refine⟨v,qs,z1,z2,c',⟨⟨X',ks',z3⟩,h.inv.finish tag well,λi hi=>?_,h.only.trans z6 (λi hi s=>absurd (h.new i s) (Nat.not_le.2 hi))⟩,z4,z5,z6⟩
 rcases z4 i hi with q | q
 ·exact h.new i q
 ·exact Nat.le_trans h.only.size q
theorem ltickets (h:LEw w0 w p c F H E):Calls prog 18 #[pT p] w λe w'=>∃v,e=.returned v∧OwnsTk w' w.heap.size v E.tells∧Only n_ w w':=by
 obtain⟨X,ks,k⟩:=h.ep
 exact etickets_any w k h.inv.ids
theorem lnew (o:Opt) (hb:Bd w) (hm:o.MayC) (hO:Only n_ w0 w):Calls prog 11 #[o.val] w λe w'=>∃p,e=.returned (.tuple #[pT p,.int .i64 0])∧(∃c,LEw w0 w' p c 0 0 (E0 o)∧∀g,c g≠0→w.heap.size≤g)∧Only n_ w w':=
 (enew_yes o w hb hm).mono (λe w' ⟨p,z1,⟨c,X,z2,z3⟩,z4⟩=>⟨p,z1,⟨c,⟨⟨X,[],z2⟩,Inv.start hm,λg hg=>Nat.le_trans hO.size (z3 g hg),hO.same z4⟩,z3⟩,z4⟩)
end
def A0:Eng:=E0 (usual 10)
def A1:Eng:=A0.ahead 4
def A2:Eng:=A1.read 4 1 ⟨1,0⟩
def A3:Eng:=A2.read 5 1 ⟨1,1⟩
def A4:Eng:=(A3.next 8).1
def A5:Eng:=(A4.next 8).1
def A6:Eng:=A5.finish 1 false
def A7:Eng:=(A6.next 0).1
def A8:Eng:=A7.finish 2 true
theorem a_ahead:aheadA A0 4=.tuple #[.agg #[.int .i64 1,.int .i64 3,.int .i64 4,.int .i64 0,.int .i64 0,.int .i64 0,.bool false,.bool false,.bool false],.int .i64 0]:=by kernel_rfl
theorem a_read1:readA A1 4 1 ⟨1,0⟩=.tuple #[.agg #[.int .i64 1,.int .i64 1,.int .i64 4,.int .i64 1,.int .i64 0,.int .i64 1,.bool false,.bool false,.bool false],.bool true,.bool true,.int .i64 0]:=by kernel_rfl
theorem a_read2:readA A2 5 1 ⟨1,1⟩=.tuple #[.agg #[.int .i64 2,.int .i64 1,.int .i64 5,.int .i64 1,.int .i64 0,.int .i64 1,.bool false,.bool false,.bool false],.bool false,.bool false,.int .i64 0]:=by kernel_rfl
theorem a_next1:(A3.next 8).2=([],some ⟨1,false,4,2,[1,2],[],[4,5]⟩):=by kernel_rfl
theorem a_next2:(A4.next 8).2=([],none):=by kernel_rfl
theorem a_fin1:A5.finishC 1=0∧(A5.finishO 1 false).map (·.f)=[1,1]:=⟨by kernel_rfl,by kernel_rfl⟩
theorem a_next3:(A6.next 0).2=([],some ⟨2,false,4,2,[1,2],[],[]⟩):=by kernel_rfl
theorem a_fin2:A7.finishC 2=0∧(A7.finishO 2 true).map (λo=>(o.f,o.ws))=[(0,[⟨1,0⟩]),(0,[⟨1,1⟩])]:=⟨by kernel_rfl,by kernel_rfl⟩
theorem a_over:A8.tells=[]:=by kernel_rfl
theorem neq_t1 (w:World):(binOp .neq 54 (.agg #[.int .i64 1,.int .i64 3,.int .i64 4,.int .i64 0,.int .i64 0,.int .i64 0,.bool false,.bool false,.bool false]) (.agg #[.int .i64 1,.int .i64 3,.int .i64 4,.int .i64 0,.int .i64 0,.int .i64 0,.bool false,.bool false,.bool false])).run prog w=.ok (.bool false) w:=by kernel_rfl
theorem neq_t2 (w:World):(binOp .neq 54 (.agg #[.int .i64 1,.int .i64 1,.int .i64 4,.int .i64 1,.int .i64 0,.int .i64 1,.bool false,.bool false,.bool false]) (.agg #[.int .i64 1,.int .i64 1,.int .i64 4,.int .i64 1,.int .i64 0,.int .i64 1,.bool false,.bool false,.bool false])).run prog w=.ok (.bool false) w:=by kernel_rfl
theorem eql_r1 (w:World):(binOp .eql 43 (.agg #[.int .i64 4,.int .i64 2]) (.agg #[.int .i64 4,.int .i64 2])).run prog w=.ok (.bool true) w:=by kernel_rfl
section
variable {w0 w w':World} {p:Nat} {c:Nat→Nat} {F H:Nat} {E:Eng}
theorem lwrite (b v:Int) (x:Wt) (h:LEw w0 w p c F H E) (wx:wfW x) (hF:F+10<100000000) (hH:H+2<1000000) :
  Calls prog 22 #[pT p,.int .i64 b,.int .u64 v,x.val] w λe w'=>e=.returned (writeA E b v x)∧LEto w0 w p c (F+10) (H+2) (E.write b v x) (λ_=>False) w':=by
 obtain⟨X,ks,k⟩:=h.ep
 exact (ewrite_any b v x w k h.inv wx hF hH).mono (λe w' z=>⟨z.1,h.call z.2 (h.inv.write b v x)⟩)
theorem lcut (b:Int) (h:LEw w0 w p c F H E) (hF:F+10<100000000) (hH:H+2<1000000) :
  Calls prog 40 #[pT p,.int .i64 b] w λe w'=>e=.returned (cutA E b)∧LEto w0 w p c (F+10) (H+2) (E.cutE b) (λ_=>False) w':=by
 obtain⟨X,ks,k⟩:=h.ep
 exact (ecut_any b w k h.inv hF hH).mono (λe w' z=>⟨z.1,h.call z.2 (h.inv.cutE b)⟩)
theorem lserve (b:Int) (h:LEw w0 w p c F H E) (hF:F+10<100000000) (hH:H+2<1000000) :
  Calls prog 20 #[pT p,.int .i64 b] w λe w'=>∃v,e=.returned (.tuple #[serveT E b,v,.bool (serves (E.head b))])∧RdW w' w.heap.size v (serveW E b)∧LEto w0 w p c (F+10) (H+2) (E.serve b) (λ_=>False) w':=by
 obtain⟨X,ks,k⟩:=h.ep
 exact (eserve_any b w k h.inv hF hH).mono (λe w' ⟨v,z1,z2,z3⟩=>⟨v,z1,z2,h.call z3 (h.inv.serve b)⟩)
theorem lquit (r:Int) (h:LEw w0 w p c F H E) (hF:F+300<100000000) :
  Calls prog 23 #[pT p,.int .i64 r] w λe w'=>∃a n k,e=.returned (.tuple #[.slice a n k,.int .i64 (E.quitC r)])∧LEto w0 w p c (F+300) H (E.quit r) (λ_=>False) w':=by
 obtain⟨X,ks,k⟩:=h.ep
 exact (equit_any r w k h.inv hF).mono (λe w' ⟨a,n,m,z1,z2⟩=>⟨a,n,m,z1,h.call z2 (h.inv.quit r)⟩)
theorem lof (x:Int) (h:LEw w0 w p c F H E) :
  Calls prog 26 #[pT p,.int .i64 x] w λe w'=>∃v',e=.returned v'∧RdW w' w.heap.size v' (ofL E.g x)∧Only n_ w w':=by
 obtain⟨X,ks,k⟩:=h.ep
 exact eof_any x w k
end
end Go.Proofs.YtfbpjobobdidiaaGreatDoor
