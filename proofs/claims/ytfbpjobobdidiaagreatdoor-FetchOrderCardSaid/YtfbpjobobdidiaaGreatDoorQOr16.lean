/- What is asked of a block is begun in the order in which it was asked: plain facts of an engine. No condition but what each says. -/
import Derived.Test.YtfbpjobobdidiaaGreatDoorQG21
namespace Go.Proofs.YtfbpjobobdidiaaGreatDoor
set_option linter.unusedVariables false
set_option maxRecDepth 100000
def Tk.W (t:Tk):Prop:=t.kind=2∨t.fr=true
structure Goes (E E':Eng):Prop where
 nt:E.nt≤E'.nt
 ts:∀t'∈E'.ts,(∃t∈E.ts,t.id=t'.id∧t.b=t'.b∧(t.W→t'.W)∧(t'.out=true→t.out=true∨t'.W))∨((E.nt:Int)<t'.id∧(t'.out=true→t'.W))
theorem Goes.same {E E':Eng} (h:E'.ts=E.ts) (n:E'.nt=E.nt):Goes E E':=
 ⟨Nat.le_of_eq n.symm,λt' ht=>.inl ⟨t',h▸ht,rfl,rfl,λa=>a,λa=>.inl a⟩⟩
theorem Goes.refl (E:Eng):Goes E E:=Goes.same rfl rfl
theorem Goes.trans {A B C:Eng} (h:Goes A B) (k:Goes B C):Goes A C:=by
 refine⟨Nat.le_trans h.nt k.nt,λt'' ht=>?_⟩
 rcases k.ts t'' ht with ⟨t',h1,e1,e2,e3,e4⟩|⟨e1,e2⟩
 ·rcases h.ts t' h1 with ⟨t,g1,f1,f2,f3,f4⟩|⟨f1,f2⟩
  ·refine .inl ⟨t,g1,f1.trans e1,f2.trans e2,λa=>e3 (f3 a),λa=>?_⟩
   rcases e4 a with q | q
   ·rcases f4 q with r | r
    ·exact .inl r
    ·exact .inr (e3 r)
   ·exact .inr q
  ·refine .inr ⟨by omega,λa=>?_⟩
   rcases e4 a with q | q
   ·exact e3 (f2 q)
   ·exact q
 ·have:=h.nt
  exact .inr ⟨by omega,e2⟩
theorem Goes.less {E E':Eng} (h:∀t∈E'.ts,t∈E.ts) (n:E.nt≤E'.nt):Goes E E':=
 ⟨n,λt' ht=>.inl ⟨t',h t' ht,rfl,rfl,λa=>a,λa=>.inl a⟩⟩
theorem goes_end (E:Eng) (x:Int):Goes E (E.end_ x):=Goes.less (λt ht=>(List.mem_filter.1 ht).1) (Nat.le_refl _)
theorem goes_enter (E:Eng) (k b:Int):Goes E (E.enter k b):=by
 refine⟨Nat.le_succ _,λt ht=>?_⟩
 rcases List.mem_append.1 ht with q | q
 ·exact .inl ⟨t,q,rfl,rfl,λa=>a,λa=>.inl a⟩
 ·obtain rfl:=List.mem_singleton.1 q
  exact .inr ⟨by show (E.nt:Int)<E.nt+1;omega,λa=>by cases a⟩
theorem goes_upd (E:Eng) (x:Int) (f:Tk→Tk) (hi:∀t,(f t).id=t.id) (hb:∀t,(f t).b=t.b) (hw:∀t∈E.ts,t.id=x→t.W→(f t).W) (ho:∀t,(f t).out=true→t.out=true∨(f t).W):Goes E (E.upd x f):=by
 refine⟨Nat.le_refl _,λt' ht=>?_⟩
 obtain⟨t,h1,rfl⟩:=List.mem_map.1 ht
 by_cases e:t.id=x
 ·rw[if_pos e]
  exact .inl ⟨t,h1,(hi t).symm,(hb t).symm,hw t h1 e,ho t⟩
 ·rw[if_neg e]
  exact .inl ⟨t,h1,rfl,rfl,λa=>a,λa=>.inl a⟩
theorem goes_list (E:Eng) (x l:Int):Goes E (E.upd x (Tk.list l)):=goes_upd E x _ (λ_=>rfl) (λ_=>rfl) (λ_ _ _ a=>a) (λ_ a=>.inl a)
theorem goes_worth (E:Eng) (x v:Int):Goes E (E.upd x (Tk.worth v)):=goes_upd E x _ (λ_=>rfl) (λ_=>rfl) (λ_ _ _ a=>a) (λ_ a=>.inl a)
theorem goes_cut (E:Eng) (x:Int):Goes E (E.upd x Tk.cutIt):=goes_upd E x _ (λ_=>rfl) (λ_=>rfl) (λ_ _ _ a=>a) (λ_ a=>.inl a)
theorem goes_go (E:Eng) (x:Int):Goes E (E.upd x Tk.go):=by
 refine goes_upd E x _ (λ_=>rfl) (λ_=>rfl) (λt _ _ a=>?_) (λt _=>.inr ?_)
 ·rcases a with a | a
  ·exact .inl a
  ·exact .inr (by show (t.fr||t.needs)=true;rw[a];rfl)
 ·by_cases k:t.kind=2
  ·exact .inl k
  ·refine .inr ?_
   show (t.fr||t.needs)=true
   unfold Tk.needs
   cases t.fr<;>simp[k]
theorem goes_back (E:Eng) (x:Int):Goes E (E.upd x Tk.back):=goes_upd E x _ (λ_=>rfl) (λ_=>rfl) (λ_ _ _ a=>a) (λ_ a=>by cases a)
theorem last_mem16 {E:Eng} {b:Int} {t:Tk} (h:E.last b=some t):t∈E.ts∧t.b=b:=by
 have:=List.mem_of_getLast? h
 obtain⟨h1,h2⟩:=List.mem_filter.1 this
 exact⟨h1,by simpa using h2⟩
theorem goes_readB {E:Eng} (h:Inv E) (b:Int):Goes E (E.readB b):=by
 unfold Eng.readB
 by_cases j:joins (E.last b)=true
 ·rw[if_pos j]
  by_cases k:((E.last b).getD default).kind=3
  ·rw[if_pos k]
   refine Goes.trans (B:=E.prom (E.readT b)) (Goes.same rfl rfl) (goes_upd _ _ _ (λ_=>rfl) (λ_=>rfl) (λt ht e a=>?_) (λ_ a=>.inl a))
   cases hl:E.last b with
   | none=>rw[hl] at j;cases j
   | some s =>
    have hs:=(last_mem16 hl).1
    have er:E.readT b=s.id:=by unfold Eng.readT;rw[if_pos j,hl];rfl
    have:t=s:=ids_inj h.ids ht hs (by rw[e,er])
    subst this
    rw[hl] at k
    have k:t.kind=3:=k
    rcases a with a | a
    ·omega
    ·exact .inr a
  ·rw[if_neg k];exact Goes.refl _
 ·rw[if_neg j];exact goes_enter _ _ _
theorem goes_read {E:Eng} (h:Inv E) (b l:Int) (x:Wt):Goes E (E.read b l x):=by
 unfold Eng.read
 split
 ·exact ((goes_readB h b).trans (goes_list _ _ _)).trans (Goes.same rfl rfl)
 ·exact Goes.refl _
theorem goes_write (E:Eng) (b v:Int) (x:Wt):Goes E (E.write b v x):=by
 unfold Eng.write
 split
 ·refine Goes.trans (B:=E.writeB b) ?_ (((goes_enter _ _ _).trans (goes_worth _ _ _)).trans (Goes.same rfl rfl))
  unfold Eng.writeB
  split
  ·exact goes_end _ _
  ·exact Goes.refl _
 ·exact Goes.refl _
theorem goes_ahead (E:Eng) (b:Int):Goes E (E.ahead b):=by
 unfold Eng.ahead
 split
 ·exact goes_enter _ _ _
 ·exact Goes.refl _
theorem goes_cutE (E:Eng) (b:Int):Goes E (E.cutE b):=by
 unfold Eng.cutE
 split
 ·exact goes_end _ _
 ·split
  ·exact goes_cut _ _
  ·exact Goes.refl _
theorem goes_serve (E:Eng) (b:Int):Goes E (E.serve b):=by
 unfold Eng.serve
 split
 ·exact (goes_end _ _).trans (Goes.same rfl rfl)
 ·exact Goes.refl _
theorem goes_quitL:∀(l:List Int) (E:Eng),Goes E (E.quitL l)
 | [],E=>Goes.refl E
 | x::r,E=>by
  show Goes E (Eng.quitL (if gone16 E x then E.end_ x else E) r)
  refine Goes.trans ?_ (goes_quitL r _)
  split
  ·exact goes_end _ _
  ·exact Goes.refl _
theorem goes_quit (E:Eng) (r:Int):Goes E (E.quit r):=by
 unfold Eng.quit
 split
 ·exact Goes.trans (A:=E) (B:=E.leave r) (Goes.same rfl rfl) (goes_quitL _ _)
 ·exact Goes.refl _
theorem goes_along (E:Eng) (m:Mv) (t:Tk):Goes E (E.along m t).1:=(goes_go E t.id).trans (Goes.same rfl rfl)
theorem goes_alongs:∀(l:List Int) (E:Eng) (m:Mv),Goes E (E.alongs m l).1
 | [],E,m=>Goes.refl E
 | b::r,E,m=>(goes_along E m _).trans (goes_alongs r _ _)
theorem goes_begin (E:Eng) (t:Tk) (room:Int):Goes E (E.begin_ t room):=
 (goes_alongs (blocksOf (E.run t room)) E (E.move0 t room)).trans (Goes.same rfl rfl)
theorem goes_nextL (room:Int):∀(l:List Int) (E:Eng) (ds:List Int),Goes E (E.nextL room ds l).1
 | [],E,ds=>Goes.refl E
 | x::r,E,ds=>by
  unfold Eng.nextL
  dsimp only
  split
  ·split
   ·exact goes_begin _ _ _
   ·split
    ·exact (goes_end _ _).trans (goes_nextL room r _ _)
    ·exact goes_nextL room r _ _
  ·exact goes_nextL room r _ _
theorem goes_next (E:Eng) (room:Int):Goes E (E.next room).1:=by
 unfold Eng.next
 split
 ·exact Goes.refl _
 ·exact goes_nextL _ _ _ _
theorem goes_come (E:Eng) (well:Bool) (x:Int):Goes E (E.come well x):=by
 unfold Eng.come
 split
 ·exact (goes_back _ _).trans (Goes.same rfl rfl)
 ·exact (goes_end _ _).trans (Goes.same rfl rfl)
theorem goes_comes (well:Bool):∀(l:List Int) (E:Eng),Goes E (E.comes well l).1
 | [],E=>Goes.refl E
 | x::r,E=>(goes_come E well x).trans (goes_comes well r _)
theorem goes_finish (E:Eng) (tag:Int) (well:Bool):Goes E (E.finish tag well):=by
 unfold Eng.finish
 split
 ·exact Goes.trans (A:=E) (B:=E.home tag) (Goes.same rfl rfl) (goes_comes _ _ _)
 ·exact Goes.refl _
structure OInv (E:Eng) (last:Int→Int):Prop where
 le:∀t∈E.ts,last t.b≤t.id
 eq:∀t∈E.ts,t.id=last t.b→t.W
 out:∀t∈E.ts,t.out=true→t.W
 top:∀b,last b≤E.nt
theorem OInv.start {E:Eng} (h:E.ts=[]):OInv E (λ_=>0):=by
 refine⟨?_,?_,?_,λ_=>Int.natCast_nonneg _⟩<;>(intro t ht;rw[h] at ht;cases ht)
theorem OInv.goes {E E':Eng} {last:Int→Int} (h:OInv E last) (g:Goes E E'):OInv E' last:=by
 have hn:=g.nt
 refine⟨λt' ht=>?_,λt' ht e=>?_,λt' ht e=>?_,λb=>by have:=h.top b;omega⟩
 ·rcases g.ts t' ht with ⟨t,h1,e1,e2,_,_⟩|⟨e1,_⟩
  ·rw[←e1,←e2];exact h.le t h1
  ·have:=h.top t'.b;omega
 ·rcases g.ts t' ht with ⟨t,h1,e1,e2,e3,_⟩|⟨e1,_⟩
  ·exact e3 (h.eq t h1 (by rw[e1,e2];exact e))
  ·have:=h.top t'.b;omega
 ·rcases g.ts t' ht with ⟨t,h1,e1,e2,e3,e4⟩|⟨_,e2⟩
  ·rcases e4 e with q | q
   ·exact e3 (h.out t h1 q)
   ·exact q
  ·exact e2 e
theorem head_least {E:Eng} (h:Inv E) {t s:Tk} (ht:E.head t.b=some t) (hs:s∈E.ts) (e:s.b=t.b):t.id≤s.id:=by
 have hl:s∈E.lane t.b:=List.mem_filter.2 ⟨hs,by simpa using e⟩
 unfold Eng.head at ht
 cases q:E.lane t.b with
 | nil=>rw[q] at hl;cases hl
 | cons a r =>
  rw[q] at ht hl
  injection ht with ht
  subst ht
  have pw:(E.lane a.b).Pairwise (λx y=>x.id<y.id):=h.ids.filter _
  rw[q] at pw
  rcases List.mem_cons.1 hl with rfl | k
  ·exact Int.le_refl _
  ·exact Int.le_of_lt ((List.pairwise_cons.1 pw).1 s k)
theorem OInv.begun {E:Eng} {last:Int→Int} (h:OInv E last) (iv:Inv E) {t:Tk} (ht:t∈E.ts) (ho:t.out=true):OInv E (λb=>if b=t.b then t.id else last b):=by
 have hh:=iv.hd t ht ho
 refine⟨λs hs=>?_,λs hs e=>?_,h.out,λb=>?_⟩
 ·show (if s.b=t.b then t.id else last s.b)≤s.id
  split
  ·rename_i e;exact head_least iv hh hs e
  ·exact h.le s hs
 ·have e:s.id=if s.b=t.b then t.id else last s.b:=e
  split at e
  ·have:s=t:=ids_inj iv.ids hs ht e
   subst this
   exact h.out s hs ho
  ·exact h.eq s hs e
 ·show (if b=t.b then t.id else last b)≤E.nt
  split
  ·exact (iv.idr t ht).2
  ·exact h.top b
theorem OInv.served {E:Eng} {last:Int→Int} (h:OInv E last) (iv:Inv E) {b:Int} {t:Tk} (hh:E.head b=some t) (hs:serves (some t)=true):last b<t.id∧t.b=b∧OInv (E.serve b) (λc=>if c=b then t.id else last c):=by
 have hm:t∈E.ts∧t.b=b:=by
  have:=List.mem_of_mem_head? (show t∈(E.lane b).head? from hh)
  obtain⟨h1,h2⟩:=List.mem_filter.1 this
  exact⟨h1,by simpa using h2⟩
 obtain⟨ht,rfl⟩:=hm
 unfold serves at hs
 simp only[Bool.and_eq_true,Bool.not_eq_true',beq_iff_eq] at hs
 obtain⟨⟨k1,k2⟩,k3⟩:=hs
 have nw:¬ t.W:=by
  intro q
  rcases q with q | q
  ·omega
  ·rw[k3] at q;cases q
 have lt:last t.b<t.id:=by
  have:=h.le t ht
  rcases Int.lt_or_eq_of_le this with q | q
  ·exact q
  ·exact absurd (h.eq t ht q.symm) nw
 refine⟨lt,rfl,?_⟩
 have es:E.serve t.b=(E.end_ t.id).take t.id:=by
  unfold Eng.serve
  rw[hh,if_pos (by unfold serves;simp[k1,k2,k3])]
  rfl
 have sub:∀s∈(E.serve t.b).ts,s∈E.ts∧s.id≠t.id:=λs hs=>by
  rw[es] at hs
  obtain⟨h1,h2⟩:=List.mem_filter.1 hs
  exact⟨h1,by simpa using h2⟩
 have en:(E.serve t.b).nt=E.nt:=by rw[es];rfl
 refine⟨λs hs=>?_,λs hs e=>?_,λs hs=>h.out s (sub s hs).1,λc=>?_⟩
 ·show (if s.b=t.b then t.id else last s.b)≤s.id
  split
  ·rename_i e;exact head_least iv hh (sub s hs).1 e
  ·exact h.le s (sub s hs).1
 ·have e:s.id=if s.b=t.b then t.id else last s.b:=e
  split at e
  ·exact absurd e (sub s hs).2
  ·exact h.eq s (sub s hs).1 e
 ·show (if c=t.b then t.id else last c)≤((E.serve t.b).nt:Int)
  rw[en]
  split
  ·exact (iv.idr t ht).2
  ·exact h.top c
theorem nextL_mem (room:Int):∀(l:List Int) (E:Eng) (ds:List Int) (m:Mv),(E.nextL room ds l).2.2=some m→m∈(E.nextL room ds l).1.ms
 | [],E,ds,m,h=>by cases h
 | x::r,E,ds,m,h=>by
  unfold Eng.nextL at h ⊢
  dsimp only at h ⊢
  split at h
  ·rename_i c1
   rw[if_pos c1]
   split at h
   ·rename_i c2
    rw[if_pos c2]
    have h:some (E.begun ((at16 E.ts x).getD default) room).2=some m:=h
    rw[←Option.some.inj h]
    exact List.mem_append.2 (.inr (List.mem_singleton.2 rfl))
   ·rename_i c2
    rw[if_neg c2]
    split at h
    ·rename_i c3
     rw[if_pos c3]
     exact nextL_mem room r _ _ _ h
    ·rename_i c3
     rw[if_neg c3]
     exact nextL_mem room r _ _ _ h
  ·rename_i c1
   rw[if_neg c1]
   exact nextL_mem room r _ _ _ h
theorem next_mem {E:Eng} {room:Int} {m:Mv} (h:(E.next room).2.2=some m):m∈(E.next room).1.ms:=by
 unfold Eng.next at h ⊢
 split at h
 ·cases h
 ·rename_i c
  rw[if_neg c]
  exact nextL_mem _ _ _ _ _ h
def lastOf (m:Mv) (last:Int→Int) (k:Nat) (b:Int):Int:=if m.lo≤b∧b<m.lo+k then m.ks.getD (b-m.lo).toNat 0 else last b
theorem OInv.moves {E:Eng} {last:Int→Int} (h:OInv E last) (iv:Inv E) {m:Mv} (hm:m∈E.ms):∀k:Nat,k≤m.ks.length→OInv E (lastOf m last k)∧∀i:Nat,i<m.ks.length→k≤i→lastOf m last k (m.lo+i)≤m.ks.getD i 0
 | 0,_=>by
  have e:lastOf m last 0=last:=by funext b;unfold lastOf;rw[if_neg (by omega)]
  rw[e]
  refine⟨h,λi hi _=>?_⟩
  obtain⟨t,ht,e1,e2,_,_⟩:=iv.mt m hm i _ (List.getElem?_eq_getElem hi)
  have:=h.le t ht
  rw[List.getD_eq_getElem?_getD,List.getElem?_eq_getElem hi]
  show _≤m.ks[i]
  rw[←e1,←e2]
  exact this
 | k+1,hk=>by
  obtain⟨h1,h2⟩:=h.moves iv hm k (by omega)
  obtain⟨t,ht,e1,e2,e3,_⟩:=iv.mt m hm k _ (List.getElem?_eq_getElem (show k<m.ks.length by omega))
  have hb:=h1.begun iv ht e3
  have e:lastOf m last (k+1)=λb=>if b=t.b then t.id else lastOf m last k b:=by
   funext b
   unfold lastOf
   by_cases c:b=t.b
   ·rw[if_pos (by omega),if_pos c,e1,c,e2,show (m.lo+(k:Int)-m.lo).toNat=k by omega,List.getD_eq_getElem?_getD,List.getElem?_eq_getElem (show k<m.ks.length by omega)]
    rfl
   ·rw[if_neg c]
    by_cases c2:m.lo≤b∧b<m.lo+k
    ·rw[if_pos (by omega),if_pos c2]
    ·rw[if_neg (by omega),if_neg c2]
  refine⟨e▸hb,λi hi hki=>?_⟩
  have:=h2 i hi (by omega)
  unfold lastOf at this ⊢
  rw[if_neg (by omega)] at this ⊢
  exact this
end Go.Proofs.YtfbpjobobdidiaaGreatDoor
