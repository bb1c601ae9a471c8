/- Texts of the layers below, one behind the other. -/
import Derived.Test.YtfbpjobobdidiaaGreatDoorQG13
import Derived.Test.YtfbpjobobdidiaaGreatDoorQRe16
namespace Go.Proofs.YtfbpjobobdidiaaGreatDoor
open Lib (hid)
set_option linter.unusedVariables false
theorem InvX.quitL:∀(l:List Int) {E:Eng},InvX E l []→l.Nodup→(∀y∈l,∃t∈E.ts,t.id=y∧(t.kind=2→t.out=false))→Inv (E.quitL l)
 | [],E,h,_,_=>h
 | x::r,E,h,nd,hk=>by
  obtain⟨t,ht,rfl,ko⟩:=hk x (by simp)
  obtain⟨n1,n2⟩:=List.nodup_cons.1 nd
  show Inv (Eng.quitL (if gone16 E t.id then E.end_ t.id else E) r)
  have gd:gone16 E t.id=(decide (E.cnt t.id=0)&&!t.out):=by unfold gone16;rw[find16 h.ids ht];rfl
  cases g:gone16 E t.id with
  | true =>
   rw[if_pos rfl]
   rw[gd] at g
   have g':E.cnt t.id=0∧t.out=false:=by simpa using g
   have nw:∀y∈E.g,y.t≠t.id:=λy hy e=>by
    have:y.w∈ofL E.g t.id:=List.mem_map.2 ⟨y,List.mem_filter.2 ⟨hy,by simpa using e⟩,rfl⟩
    have h0:=g'.1
    unfold Eng.cnt at h0
    have h1:=List.length_pos_of_mem this
    omega
   rw[end_drop nw]
   refine InvX.quitL r ((h.drop_idle ht g'.2).less (λs hs k2 hn hx=>?_)) n2 (λy hy=>?_)
   ·have hs':s.id≠t.id:=by
     have:s∈E.ts.filter (λu=>!(u.id==t.id)):=hs
     simpa using (List.mem_filter.1 this).2
    rcases List.mem_cons.1 hx with q | q
    ·exact absurd q hs'
    ·exact absurd q hn
   ·obtain⟨s,hs,e,k⟩:=hk y (List.mem_cons_of_mem _ hy)
    refine⟨s,?_,e,k⟩
    show s∈E.ts.filter (λu=>!(u.id==t.id))
    rw[List.mem_filter]
    refine⟨hs,?_⟩
    have:s.id≠t.id:=λq=>n1 (by rw[←q,e];exact hy)
    simpa using this
  | false =>
   rw[if_neg (by decide)]
   refine InvX.quitL r (h.less (λs hs k2 hn hx=>?_)) n2 (λy hy=>hk y (List.mem_cons_of_mem _ hy))
   rcases List.mem_cons.1 hx with q | q
   ·have:=h.inj hs ht q
    subst this
    have o:=ko k2
    rw[gd,o] at g
    have c0:E.cnt s.id≠0:=by simpa using g
    unfold Eng.cnt at c0
    cases hl:ofL E.g s.id with
    | nil=>rw[hl] at c0;exact absurd rfl c0
    | cons a m =>
     have:a∈ofL E.g s.id:=by rw[hl];simp
     obtain⟨y,hy,_⟩:=List.mem_map.1 this
     obtain⟨y1,y2⟩:=List.mem_filter.1 hy
     exact⟨y,y1,by simpa using y2⟩
   ·exact absurd q hn
theorem quitC_ok {E:Eng} {r:Int} (h:E.quitC r=0):∀t∈E.ts,t.kind=2→t.out=true→∀w∈ofL E.g t.id,w.r≠r:=by
 intro t ht k o w hw e
 unfold Eng.quitC at h
 have:E.ts.any (λt=>t.kind==2&&t.out&&(ofL E.g t.id).any (λw=>decide (w.r=r)))=true:=by
  rw[List.any_eq_true]
  refine⟨t,ht,?_⟩
  rw[k,o]
  simp only[beq_self_eq_true,Bool.true_and,Bool.and_self]
  rw[List.any_eq_true]
  exact⟨w,hw,decide_eq_true e⟩
 rw[if_pos this] at h
 cases h
theorem Inv.quit {E:Eng} (h:Inv E) (r:Int):Inv (E.quit r):=by
 unfold Eng.quit
 by_cases k:E.quitC r=0
 ·rw[if_pos k]
  refine InvX.quitL _ (h.leave r) ((rise_quit E.g r).imp (λ{a b} q e=>by omega)) (λy hy=>?_)
  obtain⟨z,hz,e1,e2⟩:=mem_quit16.1 hy
  obtain⟨t,ht,e,_⟩:=h.g1 z hz
  refine⟨t,ht,by rw[e,e2],λk2=>?_⟩
  cases o:t.out with
  | false=>rfl
  | true =>
   have hw:z.w∈ofL E.g t.id:=List.mem_map.2 ⟨z,List.mem_filter.2 ⟨hz,by simpa using e.symm⟩,rfl⟩
   exact absurd e1 (quitC_ok k t ht k2 o z.w hw)
 ·rw[if_neg k];exact h
theorem mem_ready {E:Eng} {ex rest:List Int} (h:InvX E ex rest) {kind:Int} {u:Tk}:u∈E.ready kind↔E.head u.b=some u∧u.out=false∧u.kind=kind:=by
 unfold Eng.ready
 rw[List.mem_filter,List.mem_filterMap]
 constructor
 ·rintro ⟨⟨b,hb,e⟩,k⟩
  have:=(mem_head e).2
  rw[this]
  refine⟨e,by simpa using k⟩
 ·rintro ⟨e,o,k⟩
  obtain⟨hm,_⟩:=mem_head e
  have:=h.blk u hm
  refine⟨⟨u.b.toNat,List.mem_range.2 (by omega),?_⟩,by simp[o,k]⟩
  rw[show ((u.b.toNat:Nat):Int)=u.b by omega]
  exact e
theorem isHead_iff {E:Eng} {ex rest:List Int} (h:InvX E ex rest) {t:Tk} (ht:t∈E.ts):E.isHead t=true↔E.head t.b=some t:=by
 unfold Eng.isHead
 cases q:E.head t.b with
 | none=>simp
 | some u =>
  have:=(mem_head q).1
  simp only[beq_iff_eq,Option.some.injEq]
  exact⟨λe=>h.inj this ht e,λe=>by rw[e]⟩
structure Trip (E:Eng) (m:Mv) (bs:List Int):Prop where
 iv:InvX E [] m.ks
 rel:∀(i:Nat) k,m.ks[i]? = some k→∃t∈E.ts,t.id=k∧t.b=m.lo+i∧t.out=true∧(t.kind=2↔m.wr=true)
 nx:∀(j:Nat) b,bs[j]? = some b→b=m.lo+(m.ks.length+j:Nat)∧∃t,E.head b=some t∧t.out=false∧(t.kind=2↔m.wr=true)
 vs:m.vs.length=if m.wr then m.ks.length else 0
 fs:m.fs.length≤m.ks.length
theorem Trip.step {E:Eng} {m:Mv} {b:Int} {r:List Int} (h:Trip E m (b::r)):∃t,E.head b=some t∧t∈E.ts∧t.b=b∧t.out=false∧Trip (E.along m t).1 (E.along m t).2 r:=by
 obtain⟨eb,t,ht,o,k2⟩:=h.nx 0 b rfl
 obtain⟨tm,tb⟩:=mem_head ht
 refine⟨t,ht,tm,tb,o,?_⟩
 have iv:=h.iv.along (t:=t) (by rw[tb];exact ht) o m
 have id_:=λs=>(keep_if keeps_go t.id s).1
 have bl:=λs=>(keep_if keeps_go t.id s).2
 have ki:∀s:Tk,(if s.id=t.id then s.go else s).kind=s.kind:=λs=>by split<;>rfl
 have ou:∀s:Tk,s.out=true→(if s.id=t.id then s.go else s).out=true:=λs q=>by split;rfl;exact q
 have up:∀s∈E.ts,(if s.id=t.id then s.go else s)∈(E.along m t).1.ts:=λs hs=>List.mem_map.2 ⟨s,hs,rfl⟩
 refine⟨iv,λi k hi=>?_,λj b' hj=>?_,?_,?_⟩
 ·have hi:(m.ks++[t.id])[i]? = some k:=hi
  show ∃s∈(E.along m t).1.ts,s.id=k∧s.b=m.lo+i∧s.out=true∧(s.kind=2↔m.wr=true)
  rcases Nat.lt_or_ge i m.ks.length with q | q
  ·rw[List.getElem?_append_left q] at hi
   obtain⟨s,hs,a1,a2,a3,a4⟩:=h.rel i k hi
   exact⟨_,up s hs,by rw[id_];exact a1,by rw[bl];exact a2,ou s a3,by rw[ki];exact a4⟩
  ·rw[List.getElem?_append_right q] at hi
   have:i=m.ks.length:=by
    rcases Nat.lt_or_ge m.ks.length i with z | z
    ·rw[List.getElem?_eq_none (by simp;omega)] at hi;cases hi
    ·omega
   subst this
   simp at hi
   subst hi
   exact⟨_,up t tm,id_ t,by rw[bl,tb];exact eb,by rw[if_pos rfl];rfl,by rw[ki];exact k2⟩
 ·obtain⟨e1,s,hs,so,sk⟩:=h.nx (j+1) b' hj
  refine⟨?_,s,?_,so,sk⟩
  ·show b'=m.lo+((m.ks++[t.id]).length+j:Nat)
   rw[e1,List.length_append,List.length_singleton]
   congr 2
   omega
  ·show ((E.along m t).1).head b'=some s
   rw[show ((E.along m t).1).head b'=(E.head b').map (λu=>if u.id=t.id then u.go else u) from head_upd (E:=E) keeps_go b',hs]
   have:s.id≠t.id:=λe=>by
    have e3:=h.iv.inj (mem_head hs).1 tm e
    subst e3
    rw[so] at o
    have e4:=(mem_head hs).2
    rw[tb] at e4
    rw[e1,eb] at e4
    simp at e4
    omega
   simp[this]
 ·show (if m.wr then m.vs++[t.v] else m.vs).length=if m.wr then (m.ks++[t.id]).length else 0
  have:=h.vs
  cases w:m.wr with
  | true=>rw[w] at this;simp at this ⊢;exact this
  | false=>rw[w] at this;simp at this ⊢;exact this
 ·show (if t.needs then m.fs++[t.b] else m.fs).length≤(m.ks++[t.id]).length
  have:=h.fs
  split<;>simp<;>omega
theorem alongs_cons (E:Eng) (m:Mv) (b:Int) (r:List Int) {t:Tk} (h:E.head b=some t):Eng.alongs E m (b::r)=Eng.alongs (E.along m t).1 (E.along m t).2 r:=by
 show Eng.alongs (E.along m ((E.head b).getD default)).1 (E.along m ((E.head b).getD default)).2 r=_
 rw[h];rfl
theorem Trip.all {bs:List Int}:∀{E:Eng} {m:Mv},Trip E m bs→Trip (Eng.alongs E m bs).1 (Eng.alongs E m bs).2 []∧(Eng.alongs E m bs).2.ks.length=m.ks.length+bs.length∧(Eng.alongs E m bs).2.tag=m.tag∧(Eng.alongs E m bs).2.wr=m.wr∧(Eng.alongs E m bs).2.lo=m.lo∧(Eng.alongs E m bs).2.n=m.n ∧
  (Eng.alongs E m bs).1.o=E.o∧(Eng.alongs E m bs).1.ms=E.ms∧(Eng.alongs E m bs).1.ng=E.ng∧(Eng.alongs E m bs).1.nt=E.nt∧(Eng.alongs E m bs).1.g=E.g:=by
 induction bs with
 | nil=>intro E m h;exact⟨h,by simp[Eng.alongs],rfl,rfl,rfl,rfl,rfl,rfl,rfl,rfl,rfl⟩
 | cons b r ih =>
  intro E m h
  obtain⟨t,ht,tm,tb,o,h2⟩:=h.step
  rw[alongs_cons E m b r ht]
  obtain⟨a0,a1,a2,a3,a4,a5,a6,a7,a8,a9,a10⟩:=ih h2
  refine⟨a0,?_,a2,a3,a4,a5,a6,a7,a8,a9,a10⟩
  rw[a1]
  show (m.ks++[t.id]).length+r.length=_
  simp
  omega
theorem InvX.around {E:Eng} (h:Inv E) {t:Tk} (ht:E.head t.b=some t) (o:t.out=false) {room:Int} (r0:0≤room) (hr:0<room∨t.needs=false) :
  aroundC ((E.ready t.kind).map (·.b)) (((E.ready t.kind).filter (·.needs)).map (·.b)) t.b E.o.b6 room=0:=by
 have hm:=h.may
 unfold Opt.MayC at hm
 have tm:=(mem_head ht).1
 have bb:=h.blk t tm
 have hin:t∈E.ready t.kind:=(mem_ready h).2 ⟨ht,o,rfl⟩
 have hB:hasB ((E.ready t.kind).map (·.b)) t.b=true:=by
  rw[hasB_in bb.1 (by omega)]
  exact decide_eq_true (List.mem_map.2 ⟨t,hin,rfl⟩)
 unfold aroundC
 rw[if_neg (by
  unfold argB mayMost
  rintro (q | q | q)
  ·omega
  ·omega
  ·rw[hB] at q;cases q),if_neg]
 intro q
 rcases costB_cases (hasB (((E.ready t.kind).filter (·.needs)).map (·.b))) t.b with ⟨k1,k2⟩|⟨k1,k2⟩
 ·rcases hr with hr | hr
  ·omega
  ·obtain⟨_,_,hin2⟩:=hasB_yes k1
   obtain⟨u,hu,e⟩:=List.mem_map.1 hin2
   obtain⟨u1,u2⟩:=List.mem_filter.1 hu
   have:=((mem_ready h).1 u1).1
   rw[e,ht] at this
   injection this with this
   subst this
   rw[hr] at u2
   cases u2
 ·omega
theorem run_ok {E:Eng} (h:Inv E) {t:Tk} (ht:E.head t.b=some t) (o:t.out=false) {room:Int} (r0:0≤room) (hr:0<room∨t.needs=false) :
  (E.run t room).Ok∧1≤(E.run t room).c∧(E.run t room).c≤E.o.b6∧0≤(E.run t room).f∧(E.run t room).f+(E.run t room).c≤E.o.b0∧(E.run t room).f≤t.b∧t.b<(E.run t room).f+(E.run t room).c∧Trip E (E.move0 t room) (blocksOf (E.run t room)):=by
 have ac:=h.around ht o r0 hr
 obtain⟨s1,s2,s3,s4,s5,s6⟩:=around_spec ac
 have ok:=s1
 have hh:∀x,(E.run t room).f≤x→x<(E.run t room).f+(E.run t room).c→∃u,E.head x=some u∧u.out=false∧u.kind=t.kind:=λx q1 q2=>by
  obtain⟨u,hu,rfl⟩:=List.mem_map.1 (s5 x q1 q2)
  obtain⟨a,b,c⟩:=(mem_ready h).1 hu
  exact⟨u,a,b,c⟩
 obtain⟨ok1,ok2,ok3,ok4⟩:=s1
 change 0≤(E.run t room).f at ok1
 change 1≤(E.run t room).c at ok2
 change (E.run t room).c≤E.o.b6 at s3
 obtain⟨_,t1,t2⟩:=s2
 change (E.run t room).f≤t.b at t1
 change t.b-(E.run t room).f<(E.run t room).c at t2
 have hend:(E.run t room).f+(E.run t room).c≤E.o.b0:=by
  obtain⟨u,hu,_⟩:=hh ((E.run t room).f+(E.run t room).c-1) (by omega) (by omega)
  obtain⟨um,ub⟩:=mem_head hu
  have:=h.blk u um
  omega
 refine⟨ok,ok2,s3,ok1,hend,t1,by omega,⟨h,λi k hi=>by simp[Eng.move0] at hi,λj b hj=>?_,?_,Nat.le_refl _⟩⟩
 ·unfold blocksOf at hj
  rw[if_pos (show (E.run t room).Ok from ok),List.getElem?_map] at hj
  obtain⟨i,hi,rfl⟩:=Option.map_eq_some_iff.1 hj
  have hi2:=List.getElem?_eq_some_iff.1 hi
  obtain⟨hl,e⟩:=hi2
  rw[List.length_range] at hl
  rw[List.getElem_range] at e
  subst e
  refine⟨by show _=(E.run t room).f+((0+j:Nat):Int);rw[Nat.zero_add],?_⟩
  obtain⟨u,hu,uo,uk⟩:=hh ((E.run t room).f+(j:Int)) (by omega) (by omega)
  refine⟨u,hu,uo,?_⟩
  show u.kind=2↔(t.kind==2)=true
  rw[uk]
  simp
 ·show (0:Nat)=if (t.kind==2)=true then 0 else 0
  split<;>rfl
theorem Inv.begin {E:Eng} (h:Inv E) {t:Tk} (ht:E.head t.b=some t) (o:t.out=false) {room:Int} (r0:0≤room) (hr:0<room∨t.needs=false) (hl:(E.ms.length:Int)<E.o.b5):Inv (E.begin_ t room):=by
 obtain⟨ok,c1,c2,c3,c4,_,_,tr⟩:=run_ok h ht o r0 hr
 obtain⟨T,a1,a2,a3,a4,a5,a6,a7,a8,a9,a10⟩:=tr.all
 have bl:=blocks_len ok
 unfold Eng.begin_ Eng.begun
 generalize Eng.alongs E (E.move0 t room) (blocksOf (E.run t room))=q at *
 obtain⟨E2,m⟩:=q
 dsimp only at *
 have kl:(m.ks.length:Int)=m.n:=by
  rw[a1,a5,bl]
  show ((0+(E.run t room).c.toNat:Nat):Int)=(E.run t room).c
  omega
 have iv:=T.iv
 have mt:m.tag=(E.ng:Int)+1:=a2
 rw[←a7]
 refine { iv with tags:=?_,tagr:=λx hx=>?_,mlen:=?_,mok:=λx hx=>?_,mt:=λx hx=>?_,rt:=λk hk=>(by cases hk),nd:=?_,all:=λs hs so=>?_ }
 ·show (E2.ms++[m]).Pairwise _
  rw[List.pairwise_append]
  refine⟨iv.tags,List.pairwise_singleton _ _,λx hx y hy=>?_⟩
  rw[List.mem_singleton.1 hy,mt]
  have:=iv.tagr x hx
  rw[a8] at this
  omega
 ·show 1≤x.tag∧x.tag≤((E.ng+1:Nat):Int)
  rcases List.mem_append.1 hx with q | q
  ·have:=iv.tagr x q
   rw[a8] at this
   omega
  ·rw[List.mem_singleton.1 q,mt];omega
 ·show ((E2.ms++[m]).length:Int)≤E2.o.b5
  rw[List.length_append,List.length_singleton,a6,a7]
  omega
 ·rcases List.mem_append.1 hx with q | q
  ·exact iv.mok x q
  ·rw[List.mem_singleton.1 q]
   show 1≤m.n∧m.n≤E2.o.b6∧0≤m.lo∧m.lo+m.n≤E2.o.b0∧_
   refine⟨by rw[a5];exact c1,by rw[a5,a6];exact c2,by rw[a4];exact c3,by rw[a4,a5,a6];exact c4,kl,?_,T.fs⟩
   rw[T.vs]
   split
   ·exact kl
   ·rfl
 ·rcases List.mem_append.1 hx with q | q
  ·exact iv.mt x q
  ·rw[List.mem_singleton.1 q]
   exact T.rel
 ·show (List.flatMap Mv.ks (E2.ms++[m])++[]).Nodup
  rw[List.append_nil,List.flatMap_append]
  have:=iv.nd
  simpa [Eng.inM] using this
 ·show s.id∈List.flatMap Mv.ks (E2.ms++[m])++[]
  rw[List.append_nil,List.flatMap_append]
  have:=iv.all s hs so
  simpa [Eng.inM] using this
theorem InvX.nextL {room:Int} (r0:0≤room):∀(l:List Int) (ds:List Int) {E:Eng},Inv E→(E.ms.length:Int)<E.o.b5→l.Nodup→(∀x∈l,∃t∈E.ts,t.id=x∧t.out=false)→Inv (E.nextL room ds l).1
 | [],ds,E,h,_,_,_=>h
 | x::r,ds,E,h,hl,nd,hx=>by
  obtain⟨t,ht,rfl,o⟩:=hx x (by simp)
  obtain⟨n1,n2⟩:=List.nodup_cons.1 nd
  have hx2:∀y∈r,∃s∈E.ts,s.id=y∧s.out=false:=λy hy=>hx y (List.mem_cons_of_mem _ hy)
  unfold Eng.nextL
  rw[find16 h.ids ht,Option.getD_some]
  dsimp only
  cases q:E.isHead t with
  | false=>rw[if_neg (by decide)];exact InvX.nextL r0 r ds h hl n2 hx2
  | true =>
   rw[if_pos rfl]
   have hh:=(isHead_iff h ht).1 q
   by_cases k:0<room∨t.needs=false
   ·rw[if_pos k]
    exact h.begin hh o r0 k hl
   ·rw[if_neg k]
    by_cases k3:t.kind=3
    ·rw[if_pos k3,end_drop (h.none3 ht k3)]
     refine InvX.nextL r0 r _ (h.drop_idle ht o) hl n2 (λy hy=>?_)
     obtain⟨s,hs,e,so⟩:=hx2 y hy
     refine⟨s,?_,e,so⟩
     show s∈E.ts.filter (λu=>!(u.id==t.id))
     rw[List.mem_filter]
     refine⟨hs,?_⟩
     have:s.id≠t.id:=λz=>n1 (by rw[←z,e];exact hy)
     simpa using this
    ·rw[if_neg k3]
     exact InvX.nextL r0 r ds h hl n2 hx2
theorem Inv.waits {E:Eng} {ex rest:List Int} (h:InvX E ex rest):(waitL E.qs).Nodup∧∀x∈waitL E.qs,∃t∈E.ts,t.id=x∧t.out=false:=by
 constructor
 ·unfold waitL rowL List.Nodup
  rw[List.pairwise_map]
  refine List.Pairwise.filter _ ?_
  rw[List.pairwise_append]
  refine⟨h.once.filter _,h.once.filter _,λa ha b hb e=>?_⟩
  obtain⟨a1,a2⟩:=List.mem_filter.1 ha
  obtain⟨b1,b2⟩:=List.mem_filter.1 hb
  have:=h.once.inj a1 b1 e
  subst this
  simp at a2 b2
  rw[a2] at b2;cases b2
 ·intro x hx
  unfold waitL at hx
  obtain⟨s,hs,rfl⟩:=List.mem_map.1 hx
  obtain⟨h1,h2⟩:=List.mem_filter.1 hs
  have:s∈E.qs:=by
   rcases List.mem_append.1 h1 with q | q
   ·exact (List.mem_filter.1 q).1
   ·exact (List.mem_filter.1 q).1
  obtain⟨t,ht,rfl⟩:=h.qs1 s this
  exact⟨t,ht,rfl,by simpa [Tk.sl] using h2⟩
theorem Inv.next {E:Eng} (h:Inv E) (room:Int):Inv (E.next room).1:=by
 unfold Eng.next
 by_cases k:E.o.b5≤(E.ms.length:Int)
 ·rw[if_pos k];exact h
 ·rw[if_neg k]
  exact InvX.nextL (by omega) _ _ h (by omega) (Inv.waits h).1 (Inv.waits h).2
set_option maxRecDepth 100000
def wg (g:List Sx) (b7:Int) (t:Tk):Int:=if 0<(ofL g t.id).length then b7-t.tries else 1
def massL (g:List Sx) (b7:Int):List Tk→Int
 | []=>0
 | t::r=>wg g b7 t+massL g b7 r
def Eng.mass (E:Eng):Int:=massL E.g E.o.b7 E.ts
theorem massL_nonneg {g:List Sx} {b7:Int}:∀{ts:List Tk},(∀t∈ts,1≤wg g b7 t)→(ts.length:Int)≤massL g b7 ts
 | [],_=>Int.le_refl _
 | t::r,h=>by
  have h1:=h t (by simp)
  have h2:=massL_nonneg (ts:=r) (λs hs=>h s (List.mem_cons_of_mem _ hs))
  show ((r.length+1:Nat):Int)≤wg g b7 t+massL g b7 r
  omega
theorem massL_filter {g:List Sx} {b7:Int} (p:Tk→Bool):∀{ts:List Tk},(∀t∈ts,1≤wg g b7 t)→massL g b7 (ts.filter p)≤massL g b7 ts
 | [],_=>Int.le_refl _
 | t::r,h=>by
  have h1:=h t (by simp)
  have h2:=massL_filter p (ts:=r) (λs hs=>h s (List.mem_cons_of_mem _ hs))
  rw[List.filter_cons]
  split
  ·show wg g b7 t+massL g b7 (r.filter p)≤wg g b7 t+massL g b7 r
   omega
  ·show massL g b7 (r.filter p)≤wg g b7 t+massL g b7 r
   omega
theorem massL_out {g:List Sx} {b7:Int} (p:Tk→Bool):∀{ts:List Tk},(∀t∈ts,1≤wg g b7 t)→(∃t∈ts,p t=false)→massL g b7 (ts.filter p)+1≤massL g b7 ts
 | [],_,⟨t,ht,_⟩=>by cases ht
 | s::r,h,⟨t,ht,e⟩=>by
  have h1:=h s (by simp)
  rw[List.filter_cons]
  by_cases q:p s=true
  ·rw[if_pos q]
   have hr:∃t∈r,p t=false:=by
    rcases List.mem_cons.1 ht with k | k
    ·rw[k,q] at e;cases e
    ·exact⟨t,k,e⟩
   have:=massL_out p (ts:=r) (λs hs=>h s (List.mem_cons_of_mem _ hs)) hr
   show wg g b7 s+massL g b7 (r.filter p)+1≤wg g b7 s+massL g b7 r
   omega
  ·rw[if_neg q]
   have:=massL_filter p (ts:=r) (λs hs=>h s (List.mem_cons_of_mem _ hs))
   show massL g b7 (r.filter p)+1≤wg g b7 s+massL g b7 r
   omega
theorem massL_congr {g g':List Sx} {b7:Int}:∀{ts:List Tk},(∀t∈ts,wg g b7 t=wg g' b7 t)→massL g b7 ts=massL g' b7 ts
 | [],_=>rfl
 | t::r,h=>by
  show wg g b7 t+massL g b7 r=wg g' b7 t+massL g' b7 r
  rw[h t (by simp),massL_congr (ts:=r) (λs hs=>h s (List.mem_cons_of_mem _ hs))]
theorem massL_go (g:List Sx) (b7 x:Int):∀ts:List Tk,massL g b7 (upd ts x Tk.go)=massL g b7 ts
 | []=>rfl
 | t::r=>by
  have h:=massL_go g b7 x r
  have e:wg g b7 (if t.id=x then t.go else t)=wg g b7 t:=by split<;>rfl
  show wg g b7 (if t.id=x then t.go else t)+massL g b7 (upd r x Tk.go)=wg g b7 t+massL g b7 r
  rw[h,e]
theorem wg_back (g:List Sx) (b7:Int) (t:Tk):wg g b7 t.back=if 0<(ofL g t.id).length then wg g b7 t-1 else wg g b7 t:=by
 unfold wg
 show (if 0<(ofL g t.id).length then b7-(t.tries+1) else 1)=_
 split<;>omega
theorem massL_back (g:List Sx) (b7 x:Int):∀ts:List Tk,massL g b7 (upd ts x Tk.back)≤massL g b7 ts
 | []=>Int.le_refl _
 | t::r=>by
  have h:=massL_back g b7 x r
  have e:wg g b7 (if t.id=x then t.back else t)≤wg g b7 t:=by
   split
   ·rw[wg_back];split<;>omega
   ·exact Int.le_refl _
  show wg g b7 (if t.id=x then t.back else t)+massL g b7 (upd r x Tk.back)≤wg g b7 t+massL g b7 r
  omega
theorem massL_back1 (g:List Sx) (b7 x:Int) (hx:0<(ofL g x).length):∀ts:List Tk,(∃t∈ts,t.id=x)→massL g b7 (upd ts x Tk.back)+1≤massL g b7 ts
 | [],⟨t,ht,_⟩=>by cases ht
 | s::r,⟨t,ht,e⟩=>by
  show wg g b7 (if s.id=x then s.back else s)+massL g b7 (upd r x Tk.back)+1≤wg g b7 s+massL g b7 r
  by_cases q:s.id=x
  ·have h:=massL_back g b7 x r
   rw[if_pos q,wg_back,q,if_pos hx]
   omega
  ·have h:=massL_back1 g b7 x hx r (by
    rcases List.mem_cons.1 ht with k | k
    ·exact absurd (k▸e) q
    ·exact⟨t,k,e⟩)
   rw[if_neg q]
   omega
theorem InvX.wg1 {E:Eng} {ex rest:List Int} (h:InvX E ex rest):∀t∈E.ts,1≤wg E.g E.o.b7 t:=λt ht=>by
 have:=h.tri t ht
 unfold wg
 split<;>omega
theorem of_left {g:List Sx} {x y:Int} (e:y≠x):ofL (leftT g x) y=ofL g y:=by
 unfold ofL leftT
 rw[List.filter_filter]
 congr 1
 refine List.filter_congr (λs hs=>?_)
 by_cases q:s.t=y
 ·rw[q];simp[e]
 ·simp[q]
theorem come_o (E:Eng) (well:Bool) (x:Int):(E.come well x).o=E.o∧(E.come well x).ms=E.ms:=by
 unfold Eng.come
 split<;>exact⟨rfl,rfl⟩
theorem comes_o (well:Bool):∀(l:List Int) (E:Eng),(E.comes well l).1.o=E.o∧(E.comes well l).1.ms=E.ms
 | [],E=>⟨rfl,rfl⟩
 | x::r,E=>⟨(comes_o well r (E.come well x)).1.trans (come_o E well x).1,(comes_o well r (E.come well x)).2.trans (come_o E well x).2⟩
theorem come_mass {E:Eng} {x:Int} {r:List Int} (h:InvX E [] (x::r)) (well:Bool):(E.come well x).mass+1≤E.mass:=by
 obtain⟨t,ht,rfl,ho⟩:=h.rt x (by simp)
 unfold Eng.come
 rw[find16 h.ids ht,Option.getD_some]
 by_cases f:fate16 E t well=1
 ·rw[if_pos f]
  have c:0<(ofL E.g t.id).length:=by
   unfold fate16 at f
   cases well with
   | true=>cases f
   | false =>
    rw[if_neg (by decide)] at f
    by_cases q:0<E.cnt t.id∧t.tries+1<E.o.b7
    ·have:=q.1
     unfold Eng.cnt at this
     omega
    ·rw[if_neg q] at f;cases f
  exact massL_back1 E.g E.o.b7 t.id c E.ts ⟨t,ht,rfl⟩
 ·rw[if_neg f]
  show massL (leftT E.g t.id) E.o.b7 (E.ts.filter (λu=>!(u.id==t.id)))+1≤massL E.g E.o.b7 E.ts
  rw[massL_congr (g':=E.g) (λs hs=>by
   have hs':s.id≠t.id:=by
    have:=(List.mem_filter.1 hs).2
    simpa using this
   unfold wg
   rw[of_left hs'])]
  exact massL_out _ h.wg1 ⟨t,ht,by simp⟩
theorem comes_mass {well:Bool}:∀(r:List Int) {E:Eng},InvX E [] r→(E.comes well r).1.mass+r.length≤E.mass
 | [],E,h=>by
  show E.mass+((0:Nat):Int)≤E.mass
  omega
 | x::r,E,h=>by
  have h1:=come_mass h well
  have h2:=comes_mass (well:=well) r (h.come well)
  show ((E.come well x).comes well r).1.mass+((r.length+1:Nat):Int)≤E.mass
  omega
theorem finish_mass {E:Eng} (h:Inv E) {m:Mv} (hm:m∈E.ms) (well:Bool):E.finishC m.tag=0∧(E.finish m.tag well).mass+1≤E.mass∧(E.finish m.tag well).o=E.o:=by
 obtain⟨e,_⟩:=tag_inj h.tags hm
 refine⟨by unfold Eng.finishC;rw[e];rfl,?_,?_⟩
 ·unfold Eng.finish
  rw[e]
  have h1:=comes_mass (well:=well) m.ks (h.home hm)
  have h2:=h.mok m hm
  have h3:(E.home m.tag).mass=E.mass:=rfl
  show ((E.home m.tag).comes well m.ks).1.mass+1≤E.mass
  rw[h3] at h1
  omega
 ·unfold Eng.finish
  rw[e]
  exact (comes_o well m.ks (E.home m.tag)).1
theorem alongs_mass:∀(l:List Int) (E:Eng) (m:Mv),(E.alongs m l).1.mass=E.mass∧(E.alongs m l).1.o=E.o
 | [],E,m=>⟨rfl,rfl⟩
 | b::r,E,m=>by
  have h:=alongs_mass r (E.along m ((E.head b).getD default)).1 (E.along m ((E.head b).getD default)).2
  refine⟨h.1.trans ?_,h.2.trans rfl⟩
  exact massL_go E.g E.o.b7 _ E.ts
theorem begin_mass (E:Eng) (t:Tk) (room:Int):(E.begin_ t room).mass=E.mass∧(E.begin_ t room).o=E.o∧(E.begin_ t room).ms.length=E.ms.length+1:=by
 have h:=alongs_mass (blocksOf (E.run t room)) E (E.move0 t room)
 refine⟨h.1,h.2,?_⟩
 show (E.ms++[(E.begun t room).2]).length=_
 rw[List.length_append];rfl
theorem nextL_room {room:Int} (hr:0<room) {E:Eng}:∀(l:List Int) (ds:List Int),((E.nextL room ds l).2.2.isSome=true∧∃t,(E.nextL room ds l).1=E.begin_ t room)∨(E.nextL room ds l).2.2.isSome=false∧(E.nextL room ds l).1=E∧∀x∈l,E.isHead ((at16 E.ts x).getD default)=false
 | [],ds=>.inr ⟨rfl,rfl,λx hx=>by cases hx⟩
 | x::r,ds=>by
  unfold Eng.nextL
  dsimp only
  by_cases k:E.isHead ((at16 E.ts x).getD default)=true
  ·rw[if_pos k,if_pos (.inl hr)]
   exact .inl ⟨rfl,_,rfl⟩
  ·rw[if_neg k]
   rcases nextL_room hr r ds with q|⟨q1,q2,q3⟩
   ·exact .inl q
   ·refine .inr ⟨q1,q2,λy hy=>?_⟩
    rcases List.mem_cons.1 hy with e | e
    ·rw[e];simpa using k
    ·exact q3 y e
theorem next_room {E:Eng} (h:Inv E) {room:Int} (hr:0<room) :
  ((E.next room).2.2.isSome=true∧(E.next room).1.mass=E.mass∧(E.next room).1.o=E.o∧(E.next room).1.ms.length=E.ms.length+1)∨((E.next room).2.2.isSome=false∧(E.next room).1=E∧(E.ms=[]→E.ts=[])):=by
 unfold Eng.next
 by_cases k:E.o.b5≤(E.ms.length:Int)
 ·rw[if_pos k]
  refine .inr ⟨rfl,rfl,λe=>?_⟩
  rw[e] at k
  have:=h.may.2.1
  simp only[List.length_nil] at k
  omega
 ·rw[if_neg k]
  rcases nextL_room (room:=max room 0) (by omega) (E:=E) (waitL E.qs) [] with ⟨q1,t,q2⟩|⟨q1,q2,q3⟩
  ·refine .inl ⟨q1,?_⟩
   rw[q2]
   exact begin_mass E t _
  ·refine .inr ⟨q1,q2,λe=>?_⟩
   cases hts:E.ts with
   | nil=>rfl
   | cons t r =>
    have ht:t∈E.ts:=by rw[hts];simp
    have hh:E.head t.b=some t:=by
     unfold Eng.head Eng.lane
     rw[hts,List.filter_cons,if_pos (by simp)]
     rfl
    have o:t.out=false:=by
     cases o:t.out with
     | false=>rfl
     | true =>
      have:=h.all t ht o
      unfold Eng.inM at this
      rw[e] at this
      simp at this
    have hw:t.id∈waitL E.qs:=by
     unfold waitL rowL
     refine List.mem_map.2 ⟨t.sl,List.mem_filter.2 ⟨List.mem_append.2 ?_,by simp[Tk.sl,o]⟩,rfl⟩
     cases a:t.sl.a with
     | false=>exact .inl (List.mem_filter.2 ⟨h.qs2 t ht,by rw[a];rfl⟩)
     | true=>exact .inr (List.mem_filter.2 ⟨h.qs2 t ht,by rw[a];rfl⟩)
    have:=q3 t.id hw
    rw[find16 h.ids ht,Option.getD_some,(isHead_iff h ht).2 hh] at this
    cases this
def bound16 (o:Opt) (l:List (Tk × Int)):Int:=match l with
 | []=>0
 | q::r=>1+(if 0<q.2 then o.b7-q.1.tries-1 else 0)+bound16 o r
theorem bound_mass (E:Eng):∀ts:List Tk,bound16 E.o (ts.map (λt=>(t,E.cnt t.id)))=massL E.g E.o.b7 ts
 | []=>rfl
 | t::r=>by
  have h:=bound_mass E r
  show 1+(if 0<E.cnt t.id then E.o.b7-t.tries-1 else 0)+bound16 E.o (r.map (λt=>(t,E.cnt t.id)))=wg E.g E.o.b7 t+massL E.g E.o.b7 r
  rw[h]
  unfold wg Eng.cnt
  by_cases q:0<(ofL E.g t.id).length
  ·rw[if_pos q,if_pos (by omega)];omega
  ·rw[if_neg q,if_neg (show ¬(0:Int)<(ofL E.g t.id).length by omega),Int.add_zero]
theorem InvX.mass0 {E:Eng} {ex rest:List Int} (h:InvX E ex rest):0≤E.mass:=by
 have:=massL_nonneg h.wg1
 unfold Eng.mass
 omega
def Mv.rn (m:Mv):Rn:=⟨m.lo,m.n⟩
theorem Inv.mvOk {E:Eng} (h:Inv E) {m:Mv} (hm:m∈E.ms):m.rn.Ok:=by
 have k:=h.mok m hm
 have o:=h.may
 unfold Opt.MayC at o
 unfold Rn.Ok Mv.rn
 dsimp only
 omega
theorem Inv.apart {E:Eng} (h:Inv E) {m n:Mv} (hm:m∈E.ms) (hn:n∈E.ms) (ne:m.tag≠n.tag):meet m.rn n.rn=⟨0,0⟩:=by
 rcases meet_cases m.rn n.rn with ⟨_,_,_,_,x,⟨_,a1,a2⟩,⟨_,b1,b2⟩⟩|⟨e,_⟩
 ·exfalso
  have km:=h.mok m hm
  have kn:=h.mok n hn
  have a1:m.lo≤x:=a1
  have a2:x-m.lo<m.n:=a2
  have b1:n.lo≤x:=b1
  have b2:x-n.lo<n.n:=b2
  obtain⟨k1,hk1⟩:∃k,m.ks[(x-m.lo).toNat]? = some k:=⟨_,List.getElem?_eq_getElem (by omega)⟩
  obtain⟨k2,hk2⟩:∃k,n.ks[(x-n.lo).toNat]? = some k:=⟨_,List.getElem?_eq_getElem (by omega)⟩
  obtain⟨t1,ht1,e1,eb1,eo1,_⟩:=h.mt m hm _ _ hk1
  obtain⟨t2,ht2,e2,eb2,eo2,_⟩:=h.mt n hn _ _ hk2
  have h1:=h.hd t1 ht1 eo1
  have h2:=h.hd t2 ht2 eo2
  rw[show t1.b=x by omega] at h1
  rw[show t2.b=x by omega,h1] at h2
  injection h2 with h2
  have ek:k1=k2:=by rw[←e1,←e2,h2]
  obtain⟨_,l,r,hs,_⟩:=tag_inj h.tags hm
  have nd:=h.nd
  unfold Eng.inM at nd
  rw[List.append_nil,hs,List.flatMap_append,List.flatMap_cons] at nd
  have mk:k1∈m.ks:=List.mem_of_getElem? hk1
  have nk:k1∈n.ks:=by rw[ek];exact List.mem_of_getElem? hk2
  rw[hs] at hn
  rcases List.mem_append.1 hn with q | q
  ·exact (List.nodup_append.1 nd).2.2 k1 (List.mem_flatMap.2 ⟨n,q,nk⟩) k1 (List.mem_append_left _ mk) rfl
  ·rcases List.mem_cons.1 q with q | q
   ·exact ne (by rw[q])
   ·exact (List.nodup_append.1 (List.nodup_append.1 nd).2.1).2.2 k1 mk k1 (List.mem_flatMap.2 ⟨n,q,nk⟩) rfl
 ·exact e
theorem Inv.tagsNe {E:Eng} (h:Inv E) {i j:Nat} {m n:Mv} (hi:E.ms[i]? = some m) (hj:E.ms[j]? = some n) (lt:i<j):m.tag≠n.tag:=by
 obtain⟨hi1,hi2⟩:=List.getElem?_eq_some_iff.1 hi
 obtain⟨hj1,hj2⟩:=List.getElem?_eq_some_iff.1 hj
 have:=List.pairwise_iff_getElem.1 h.tags i j hi1 hj1 lt
 rw[hi2,hj2] at this
 omega
theorem rows_len16 (qs:List Sl):(rowL false qs).length+(rowL true qs).length=qs.length:=by
 induction qs with
 | nil=>rfl
 | cons s r ih =>
  unfold rowL at ih ⊢
  rw[List.filter_cons,List.filter_cons]
  cases s.a with
  | true=>rw[if_neg (by decide),if_pos (by decide),List.length_cons,List.length_cons];omega
  | false=>rw[if_pos (by decide),if_neg (by decide),List.length_cons,List.length_cons];omega
theorem InvX.qsLen {E:Eng} {ex rest:List Int} (h:InvX E ex rest):E.qs.length=E.ts.length:=by
 have n1:E.qs.Nodup:=h.once.imp (λ{a b} q e=>q (by rw[e]))
 have n2:(E.ts.map Tk.sl).Nodup:=by
  unfold List.Nodup
  rw[List.pairwise_map]
  refine h.ids.imp (λ{a b} q e=>?_)
  have:a.id=b.id:=congrArg Sl.k e
  omega
 have p:=(List.perm_ext_iff_of_nodup n1 n2).2 (λs=>by
  constructor
  ·intro hs
   obtain⟨t,ht,e⟩:=h.qs1 s hs
   exact List.mem_map.2 ⟨t,ht,e.symm⟩
  ·intro hs
   obtain⟨t,ht,e⟩:=List.mem_map.1 hs
   exact e▸h.qs2 t ht)
 rw[p.length_eq,List.length_map]
theorem InvX.places {E:Eng} {ex rest:List Int} (h:InvX E ex rest):0≤E.fd∧0≤E.fa∧0≤E.fw∧(E.ts.length:Int)=E.o.b3-E.fd+E.o.b4-E.fa:=by
 have a:=h.fewd
 have b:=h.fewa
 have c:=h.good.len
 have d:=h.may
 unfold Opt.MayC at d
 have e:=rows_len16 E.qs
 have f:=h.qsLen
 unfold Eng.fd Eng.fa Eng.fw
 omega
def outsN (E:Eng) (k:Nat):Nat:=((E.ts.take k).filter (·.out)).length
def runsN (E:Eng) (k:Nat):Int:=((E.ms.take k).map (·.n)).sum
theorem outs_step {E:Eng} {k:Nat} {t:Tk} (h:E.ts[k]? = some t):outsN E (k+1)=outsN E k+(if t.out then 1 else 0):=by
 unfold outsN
 rw[List.take_add_one,h,List.filter_append,List.length_append]
 congr 1
 show ([t].filter (·.out)).length=_
 rw[List.filter_cons]
 split<;>simp_all
theorem outs_le (E:Eng) (k:Nat):outsN E k≤E.ts.length:=by
 unfold outsN
 have h1:=List.length_filter_le (·.out) (E.ts.take k)
 have h2:=List.length_take_le k E.ts
 have h3:=List.length_take_le' k E.ts
 omega
theorem runs_step {E:Eng} {k:Nat} {m:Mv} (h:E.ms[k]? = some m):runsN E (k+1)=runsN E k+m.n:=by
 unfold runsN
 rw[List.take_add_one,h,List.map_append,List.sum_append]
 simp
theorem sum_ks (E:Eng) (h:Inv E):∀l:List Mv,(∀m∈l,m∈E.ms)→(l.map (·.n)).sum=((l.flatMap (·.ks)).length:Int):=by
 intro l
 induction l with
 | nil=>intro _;rfl
 | cons m r ih =>
  intro hl
  have k:=h.mok m (hl m (by simp))
  rw[List.map_cons,List.sum_cons,List.flatMap_cons,List.length_append,ih (λx hx=>hl x (List.mem_cons_of_mem _ hx))]
  omega
theorem outs_all {E:Eng} (h:Inv E):(outsN E E.ts.length:Int)=runsN E E.ms.length:=by
 unfold runsN outsN
 rw[List.take_length,List.take_length,sum_ks E h E.ms (λ_ q=>q)]
 have n1:((E.ts.filter (·.out)).map (·.id)).Nodup:=by
  unfold List.Nodup
  rw[List.pairwise_map]
  exact (h.ids.filter _).imp (λ{a b} q e=>by omega)
 have n2:E.inM.Nodup:=by
  have:=h.nd
  rwa [List.append_nil] at this
 have p:=(List.perm_ext_iff_of_nodup n1 n2).2 (λx=>by
  constructor
  ·intro hx
   obtain⟨t,ht,e⟩:=List.mem_map.1 hx
   obtain⟨ht1,ht2⟩:=List.mem_filter.1 ht
   have:=h.all t ht1 ht2
   rw[List.append_nil,e] at this
   exact this
  ·intro hx
   obtain⟨m,hm,hk⟩:=List.mem_flatMap.1 hx
   obtain⟨i,hi⟩:=List.getElem?_of_mem hk
   obtain⟨t,ht,e1,_,e3,_⟩:=h.mt m hm i x hi
   exact List.mem_map.2 ⟨t,List.mem_filter.2 ⟨ht,e3⟩,e1⟩)
 have:=p.length_eq
 rw[List.length_map] at this
 rw[this]
 rfl
theorem InvX.tsLe {E:Eng} {ex rest:List Int} (h:InvX E ex rest):E.ts.length≤128:=by
 have a:=h.places
 have d:=h.may
 unfold Opt.MayC at d
 have e:=h.fewd
 have f:=h.fewa
 unfold Eng.fd Eng.fa at a
 omega
theorem runs_bd {E:Eng} (h:Inv E):∀k:Nat,0≤runsN E k∧runsN E k≤8*k:=by
 intro k
 induction k with
 | zero=>exact⟨Int.le_refl _,by simp[runsN]⟩
 | succ n ih =>
  cases q:E.ms[n]? with
  | none =>
   have:runsN E (n+1)=runsN E n:=by unfold runsN;rw[List.take_add_one,q];simp
   omega
  | some m =>
   rw[runs_step q]
   have k:=h.mok m (List.mem_of_getElem? q)
   have d:=h.may
   unfold Opt.MayC at d
   omega
theorem Inv.tkOk {E:Eng} (h:Inv E) {t:Tk} (ht:t∈E.ts):0≤t.tries∧t.tries<E.o.b7∧0≤E.cnt t.id∧(t.kind=2→E.cnt t.id≠0):=by
 refine⟨(h.tri t ht).1,(h.tri t ht).2,by unfold Eng.cnt;omega,λk=>?_⟩
 obtain⟨x,hx,e⟩:=h.wr t ht k (by simp)
 have:x.w∈ofL E.g t.id:=List.mem_map.2 ⟨x,List.mem_filter.2 ⟨hx,by simpa using e⟩,rfl⟩
 have:=List.length_pos_of_mem this
 unfold Eng.cnt
 omega
theorem Inv.idsLt {E:Eng} (h:Inv E) {k:Nat} {s t:Tk} (hs:E.ts[k]? = some s) (ht:E.ts[k+1]? = some t):s.id<t.id:=by
 obtain⟨hi1,hi2⟩:=List.getElem?_eq_some_iff.1 hs
 obtain⟨hj1,hj2⟩:=List.getElem?_eq_some_iff.1 ht
 have:=List.pairwise_iff_getElem.1 h.ids k (k+1) hi1 hj1 (Nat.lt_succ_self k)
 rw[hi2,hj2] at this
 exact this
def Eng.act (E:Eng) (a:ActF):Eng:=
 if a.kind=0 then E.read a.a a.b a.w else if a.kind=1 then E.write a.a a.v a.w else if a.kind=2 then E.ahead a.a else if a.kind=3 then E.cutE a.a else if a.kind=4 then E.quit a.a else if a.kind=5 then (E.next a.a).1 else if a.kind=6 then E.finish a.a a.well else if a.kind=7 then E.serve a.a else E
theorem read_o (E:Eng) (b l:Int) (w:Wt):(E.read b l w).o=E.o:=by
 unfold Eng.read
 split
 ·unfold Eng.readB
  split
  ·split<;>rfl
  ·rfl
 ·rfl
theorem write_o (E:Eng) (b v:Int) (w:Wt):(E.write b v w).o=E.o:=by
 unfold Eng.write
 split
 ·unfold Eng.writeB
  split<;>rfl
 ·rfl
theorem ahead_o (E:Eng) (b:Int):(E.ahead b).o=E.o:=by unfold Eng.ahead;split<;>rfl
theorem cutE_o (E:Eng) (b:Int):(E.cutE b).o=E.o:=by
 unfold Eng.cutE
 split
 ·rfl
 ·split<;>rfl
theorem serve_o (E:Eng) (b:Int):(E.serve b).o=E.o:=by unfold Eng.serve;split<;>rfl
theorem quitL_o:∀(l:List Int) (E:Eng),(E.quitL l).o=E.o
 | [],E=>rfl
 | x::r,E=>by
  show (Eng.quitL (if gone16 E x then E.end_ x else E) r).o=E.o
  rw[quitL_o r]
  split<;>rfl
theorem quit_o (E:Eng) (r:Int):(E.quit r).o=E.o:=by
 unfold Eng.quit
 split
 ·exact quitL_o _ _
 ·rfl
theorem nextL_o (room:Int):∀(l:List Int) (E:Eng) (ds:List Int),(E.nextL room ds l).1.o=E.o
 | [],E,ds=>rfl
 | x::r,E,ds=>by
  unfold Eng.nextL
  dsimp only
  split
  ·split
   ·exact (begin_mass _ _ _).2.1
   ·split
    ·exact nextL_o room r _ _
    ·exact nextL_o room r _ _
  ·exact nextL_o room r _ _
theorem next_o (E:Eng) (room:Int):(E.next room).1.o=E.o:=by
 unfold Eng.next
 split
 ·rfl
 ·exact nextL_o _ _ _ _
theorem finish_o (E:Eng) (tag:Int) (well:Bool):(E.finish tag well).o=E.o:=by
 unfold Eng.finish
 split
 ·exact (comes_o _ _ _).1
 ·rfl
theorem act_o (E:Eng) (a:ActF):(E.act a).o=E.o:=by
 unfold Eng.act
 repeat' split
 ·exact read_o _ _ _ _
 ·exact write_o _ _ _ _
 ·exact ahead_o _ _
 ·exact cutE_o _ _
 ·exact quit_o _ _
 ·exact next_o _ _
 ·exact finish_o _ _ _
 ·exact serve_o _ _
 ·rfl
end Go.Proofs.YtfbpjobobdidiaaGreatDoor
namespace Go.Proofs.YtfbpjobobdidiaaGreatDoor
open Lib (hid)
open Go.RowKit
set_option linter.unusedVariables false
set_option maxRecDepth 100000
theorem lefts0 (a:Option Addr) (n k:Nat) (w:World):Calls Tryz.prog 43 #[.slice a n k,.slice none 0 0] w λe w'=>e=.returned (.bool (decide (n=0)))∧w=w':=by
 by_cases h:n=0
 ·subst h
  go_enter Tryz.func43,Tryz.ntmps43
  go_wp2_with fail
  go_loopw [5] (λi wr=>i=.int .i64 0∧w=wr) (λ_ _=>0)
  case atStart=>exact⟨rfl,rfl⟩
  case round =>
   obtain⟨rfl,rfl⟩:=hrel
   go_wp2_with fail
   go_ret
   exact⟨rfl,rfl⟩
 ·have D:=hid (show decide (n=0)=false from decide_eq_false h)
  have t:((n:Int) != 0)=true:=by simpa using h
  go_enter Tryz.func43,Tryz.ntmps43
  go_wp2_with fail
  go_ret
  exact⟨by rw[D.out];rfl,rfl⟩
theorem outcomes0 (a:Option Addr) (n k:Nat) (w:World):Calls Tryz.prog 47 #[.slice a n k,.slice none 0 0] w λe w'=>e=.returned (.bool (decide (n=0)))∧w=w':=by
 by_cases h:n=0
 ·subst h
  go_enter Tryz.func47,Tryz.ntmps47
  go_wp2_with fail
  go_loopw [5] (λi wr=>i=.int .i64 0∧w=wr) (λ_ _=>0)
  case atStart=>exact⟨rfl,rfl⟩
  case round =>
   obtain⟨rfl,rfl⟩:=hrel
   go_wp2_with fail
   go_ret
   exact⟨rfl,rfl⟩
 ·have D:=hid (show decide (n=0)=false from decide_eq_false h)
  have t:((n:Int) != 0)=true:=by simpa using h
  go_enter Tryz.func47,Tryz.ntmps47
  go_wp2_with fail
  go_ret
  exact⟨by rw[D.out];rfl,rfl⟩
theorem same0 (a:Option Addr) (n k:Nat) (w:World):Calls Tryz.prog 29 #[.slice a n k,.slice none 0 0] w λe w'=>e=.returned (.bool (decide (n=0)))∧w=w':=by
 by_cases h:n=0
 ·subst h
  go_enter Tryz.func29,Tryz.ntmps29
  go_wp2_with fail
  go_loopw [5] (λi wr=>i=.int .i64 0∧w=wr) (λ_ _=>0)
  case atStart=>exact⟨rfl,rfl⟩
  case round =>
   obtain⟨rfl,rfl⟩:=hrel
   go_wp2_with fail
   go_ret
   exact⟨rfl,rfl⟩
 ·have D:=hid (show decide (n=0)=false from decide_eq_false h)
  have t:((n:Int) != 0)=true:=by simpa using h
  go_enter Tryz.func29,Tryz.ntmps29
  go_wp2_with fail
  go_ret
  exact⟨by rw[D.out];rfl,rfl⟩
theorem eqb_run (a b:Int) (w:World):(Op.equalIn 10000 43 (.agg #[.int .i64 a,.int .i64 b]) (.agg #[.int .i64 0,.int .i64 0])).run Tryz.prog w=.ok (a==0&&b==0) w:=by
 simp[go_sem]
 by_cases h1:a=0<;>by_cases h2:b=0<;>simp[h1,h2]
theorem ints0 (a:Option Addr) (n k:Nat) (w:World):Calls Tryz.prog 28 #[.slice a n k,.slice none 0 0] w λe w'=>e=.returned (.bool (decide (n=0)))∧w=w':=by
 by_cases h:n=0
 ·subst h
  go_enter Tryz.func28,Tryz.ntmps28
  go_wp2_with fail
  go_loopw [5] (λi wr=>i=.int .i64 0∧w=wr) (λ_ _=>0)
  case atStart=>exact⟨rfl,rfl⟩
  case round =>
   obtain⟨rfl,rfl⟩:=hrel
   go_wp2_with fail
   go_ret
   exact⟨rfl,rfl⟩
 ·have D:=hid (show decide (n=0)=false from decide_eq_false h)
  have t:((n:Int) != 0)=true:=by simpa using h
  go_enter Tryz.func28,Tryz.ntmps28
  go_wp2_with fail
  go_ret
  exact⟨by rw[D.out];rfl,rfl⟩
set_option maxHeartbeats 2000000 in
theorem move0 (tag lo c:Int) (wr:Bool) (a1 a2 a3:Option Addr) (n1 n2 n3 k1 k2 k3:Nat) (w:World) :
  Calls Tryz.prog 45 #[.agg #[.int .i64 tag,.bool wr,.int .i64 lo,.int .i64 c,.slice a1 n1 k1,.slice a2 n2 k2,.slice a3 n3 k3],.agg #[.int .i64 0,.bool false,.int .i64 0,.int .i64 0,.slice none 0 0,.slice none 0 0,.slice none 0 0]] w λe w'=>∃b:Bool,e=.returned (.bool b)∧Only none_ w w':=by
 have ER:=eqb_run lo c
 have IA:=hid (λw=>ints0 a1 n1 k1 w)
 have IB:=hid (λw=>ints0 a3 n3 k3 w)
 generalize decide (n1=0)=d1 at *
 generalize decide (n3=0)=d3 at *
 by_cases h:n2=0
 ·subst h
  have tt:(tag==0)=true∨(tag==0)=false:=by cases (tag==0)<;>simp
  obtain⟨lc,hl⟩:∃lc,(lo==0&&c==0)=lc:=⟨_,rfl⟩
  rw[hl] at ER
  clear hl
  go_enter Tryz.func45,Tryz.ntmps45
  go_wp2_with fail
  obtain⟨W1,hW1⟩:∃W1,W1=(w.alloc (.cells #[.int .i64 tag,.bool wr,.int .i64 lo,.int .i64 c,.slice a1 n1 k1,.slice a2 0 k2,.slice a3 n3 k3] 47)).alloc (.cells #[.int .i64 0,.bool false,.int .i64 0,.int .i64 0,.slice none 0 0,.slice none 0 0,.slice none 0 0] 47):=⟨_,rfl⟩
  have o1:Only none_ w W1:=by rw[hW1];exact ((Only.refl _ _).alloc _).alloc _
  have r1:Row W1 w.heap.size 47 #[.int .i64 tag,.bool wr,.int .i64 lo,.int .i64 c,.slice a1 n1 k1,.slice a2 0 k2,.slice a3 n3 k3]:=by rw[hW1];exact (Row.fresh _ _ _).alloc _
  have r2:Row W1 (w.heap.size+1) 47 #[.int .i64 0,.bool false,.int .i64 0,.int .i64 0,.slice none 0 0,.slice none 0 0,.slice none 0 0]:=by
   rw[hW1]
   have r:=Row.fresh (w.alloc (.cells #[.int .i64 tag,.bool wr,.int .i64 lo,.int .i64 c,.slice a1 n1 k1,.slice a2 0 k2,.slice a3 n3 k3] 47)) 47 #[.int .i64 0,.bool false,.int .i64 0,.int .i64 0,.slice none 0 0,.slice none 0 0,.slice none 0 0]
   rw[World.size_alloc] at r
   exact r
  have O1:=hid o1
  rw[←hW1]
  clear hW1 o1
  obtain⟨x0,x1,x2,x3,x4,x5,x6⟩:=sevenR r1
  obtain⟨y0,y1,y2,y3,y4,y5,y6⟩:=sevenR r2
  clear r1 r2
  generalize w.heap.size+1=gb at *
  generalize w.heap.size=ga at *
  go_loopw [5] (λi wr=>i=.int .i64 0∧W1=wr) (λ_ _=>0)
  case atStart=>exact⟨rfl,rfl⟩
  case round =>
   obtain⟨rfl,rfl⟩:=hrel
   rcases tt with tt | tt
   ·cases wr
    ·cases lc
     ·go_wp2_with fail
      go_ret
      exact⟨_,rfl,O1.out⟩
     ·cases d1
      ·go_wp2_with fail
       (with_reducible refine (IA.out _).mono ?_)
       rintro e w2 ⟨rfl,rfl⟩
       go_wp2_with fail
       go_ret
       exact⟨_,rfl,O1.out⟩
      ·go_wp2_with fail
       (with_reducible refine (IA.out _).mono ?_)
       rintro e w2 ⟨rfl,rfl⟩
       go_wp2_with fail
       (with_reducible refine (IB.out _).mono ?_)
       rintro e w3 ⟨rfl,rfl⟩
       go_wp2_with fail
       go_ret
       exact⟨_,rfl,O1.out⟩
    ·go_wp2_with fail
     go_ret
     exact⟨_,rfl,O1.out⟩
   ·go_wp2_with fail
    go_ret
    exact⟨_,rfl,O1.out⟩
 ·have t:((n2:Int) != 0)=true:=by simpa using h
  go_enter Tryz.func45,Tryz.ntmps45
  go_wp2_with fail
  go_ret
  exact⟨_,rfl,((Only.refl none_ w).alloc _).alloc _⟩
end Go.Proofs.YtfbpjobobdidiaaGreatDoor
