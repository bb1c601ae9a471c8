/- Texts of the layers below, one behind the other. -/
import Derived.Test.YtfbpjobobdidiaaGreatDoorRG13
import Derived.Test.YtfbpjobobdidiaaGreatDoorRRe16
set_option maxRecDepth 100000
namespace Go.Proofs.YtfbpjobobdidiaaGreatDoor
open Lib (hid)
open Go.Proofs.Tryz
set_option linter.unusedVariables false
theorem refC_ok {E:Eng} {ex rest:List Int} (h:InvX E ex rest) {w:Wt} {need:Bool} (k:E.refC w need=0):mayP w∧waitsB E.g w=false∧(E.g.length:Int)<E.o.b9∧(need=true→E.fd≠0):=by
 unfold Eng.refC at k
 by_cases m:mayP w
 ·rw[if_pos m] at k
  by_cases a:waitsB E.g w=true
  ·rw[if_pos a] at k;cases k
  ·rw[if_neg a] at k
   by_cases b:E.fw=0∨(need=true∧E.fd=0)
   ·rw[if_pos b] at k;cases k
   ·have hl:=h.good.len
    have hm:=h.may
    unfold Opt.MayC at hm
    refine⟨m,by simpa using a,?_,λq e=>b (.inr ⟨q,e⟩)⟩
    have:E.fw≠0:=λq=>b (.inl q)
    unfold Eng.fw at this
    omega
 ·rw[if_neg m] at k;cases k
theorem InvX.up {E:Eng} {ex ex' rest:List Int} (h:InvX E ex rest) (k:∀e∈ex,e∈ex'):InvX E ex' rest:={ h with wr:=λt ht k2 hn=>h.wr t ht k2 (λq=>hn (k _ q)) }
theorem readC_ok {E:Eng} {b l:Int} {w:Wt} (k:E.readC b l w=0):E.has b=true∧(l=0∨l=1)∧E.refC w (E.needs b)=0:=by
 unfold Eng.readC at k
 by_cases m:E.has b=true∧(l=0∨l=1)
 ·rw[if_pos m] at k;exact⟨m.1,m.2,k⟩
 ·rw[if_neg m] at k;cases k
theorem writeC_ok {E:Eng} {b:Int} {w:Wt} (k:E.writeC b w=0):E.has b=true∧E.refC w true=0:=by
 unfold Eng.writeC at k
 by_cases m:E.has b=true
 ·rw[if_pos m] at k;exact⟨m,k⟩
 ·rw[if_neg m] at k;cases k
theorem aheadC_ok {E:Eng} {b:Int} (k:E.aheadC b=0):E.has b=true∧E.idle b=true∧E.fa≠0:=by
 unfold Eng.aheadC at k
 by_cases m:E.has b=true
 ·rw[if_pos m] at k
  by_cases a:E.idle b=true
  ·rw[if_pos a] at k
   by_cases c:E.fa=0
   ·rw[if_pos c] at k;cases k
   ·exact⟨m,a,c⟩
  ·rw[if_neg a] at k;cases k
 ·rw[if_neg m] at k;cases k
theorem joins_some {o:Option Tk} (h:joins o=true):∃t,o=some t∧t.kind≠2∧t.cut=false:=by
 cases o with
 | none=>cases h
 | some t=>exact⟨t,rfl,by simpa [joins] using h⟩
theorem rests_some {o:Option Tk} (h:rests o=true):∃t,o=some t∧t.kind=3∧t.out=false:=by
 cases o with
 | none=>cases h
 | some t=>exact⟨t,rfl,by simpa [rests] using h⟩
theorem cuts_some {o:Option Tk} (h:cuts o=true):∃t,o=some t∧t.kind≠2∧t.cut=false∧t.fr=true:=by
 cases o with
 | none=>cases h
 | some t=>exact⟨t,rfl,by simpa [cuts,and_assoc] using h⟩
theorem serves_some {o:Option Tk} (h:serves o=true):∃t,o=some t∧t.kind=1∧t.out=false∧t.fr=false:=by
 cases o with
 | none=>cases h
 | some t=>exact⟨t,rfl,by simpa [serves,and_assoc] using h⟩
theorem Inv.readB {E:Eng} (h:Inv E) {b:Int} (hb:E.has b=true) (hf:E.needs b=true→E.fd≠0):Inv (E.readB b)∧∃t∈(E.readB b).ts,t.id=E.readT b∧t.kind=1∧t.b=b:=by
 unfold Eng.readB Eng.readT
 cases j:joins (E.last b) with
 | true =>
  obtain⟨t,hl,k2,hc⟩:=joins_some j
  obtain⟨tm,tb⟩:=mem_last hl
  simp only[hl,Option.getD_some,if_pos]
  by_cases k3:t.kind=3
  ·rw[if_pos k3]
   have nd:E.needs b=true:=by
    unfold Eng.needs
    rw[hb,j,hl]
    simp[isRead,k3]
   refine⟨h.late tm k3 (hf nd),t.read,mem_upd Tk.read tm,rfl,rfl,tb⟩
  ·rw[if_neg k3]
   refine⟨h,t,tm,rfl,?_,tb⟩
   rcases h.kin t tm with q | q | q
   ·exact q
   ·exact absurd q k2
   ·exact absurd q k3
 | false =>
  have nd:E.needs b=true:=by
   unfold Eng.needs
   rw[hb,j];rfl
  refine⟨h.enter (.inl rfl) hb (by rw[if_neg (by decide)];exact hf nd) (λq=>by cases q),E.new 1 b,List.mem_append_right _ (by simp),rfl,rfl,rfl⟩
theorem Inv.read {E:Eng} (h:Inv E) (b l:Int) (w:Wt):Inv (E.read b l w):=by
 unfold Eng.read
 by_cases k:E.readC b l w=0
 ·rw[if_pos k]
  obtain⟨k1,k2,k3⟩:=readC_ok k
  obtain⟨r1,r2,r3,r4⟩:=refC_ok h k3
  obtain⟨iv,t,tm,ti,tk,_⟩:=h.readB k1 r4
  have gg:(E.readB b).g=E.g:=by
   unfold Eng.readB
   split
   ·split<;>rfl
   ·rfl
  have oo:(E.readB b).o=E.o:=by
   unfold Eng.readB
   split
   ·split<;>rfl
   ·rfl
  have i2:=iv.soft (soft_list l) (E.readT b)
  have tm2:(t.list l)∈((E.readB b).upd (E.readT b) (Tk.list l)).ts:=by rw[←ti];exact mem_upd (Tk.list l) tm
  have:=i2.add (ex':=[]) tm2 (by show t.kind≠3;rw[tk];decide) r1 (by show waitsB (E.readB b).g w=false;rw[gg];exact r2) (by show ((E.readB b).g.length:Int)<(E.readB b).o.b9;rw[gg,oo];exact r3) (λe he=>by cases he)
  rw[show (t.list l).id=E.readT b from ti] at this
  exact this
 ·rw[if_neg k];exact h
theorem Inv.writeB {E:Eng} (h:Inv E) (b:Int):Inv (E.writeB b)∧(E.writeB b).o=E.o∧(E.writeB b).g=E.g∧(E.writeB b).nt=E.nt∧(E.writeB b).ms=E.ms∧(E.writeB b).ng=E.ng∧(rowL false (E.writeB b).qs).length≤(rowL false E.qs).length∧(rowL true (E.writeB b).qs).length≤(rowL true E.qs).length∧∀t∈(E.writeB b).ts,t∈E.ts:=by
 unfold Eng.writeB Eng.goneI
 cases j:rests (E.last b) with
 | true =>
  obtain⟨t,hl,k3,ho⟩:=rests_some j
  obtain⟨tm,tb⟩:=mem_last hl
  simp only[hl,Option.getD_some,if_pos]
  refine⟨?_,rfl,rfl,rfl,rfl,rfl,row_sub false (List.filter_sublist (p:=λs:Sl=>!(s.k==t.id)) (l:=E.qs)),row_sub true (List.filter_sublist (p:=λs:Sl=>!(s.k==t.id)) (l:=E.qs)),λs hs=>(List.mem_filter.1 hs).1⟩
  rw[end_drop (h.none3 tm k3)]
  exact h.drop_idle tm ho
 | false=>exact⟨h,rfl,rfl,rfl,rfl,rfl,Nat.le_refl _,Nat.le_refl _,λt ht=>ht⟩
theorem Inv.write {E:Eng} (h:Inv E) (b v:Int) (w:Wt):Inv (E.write b v w):=by
 unfold Eng.write
 by_cases k:E.writeC b w=0
 ·rw[if_pos k]
  obtain⟨k1,k3⟩:=writeC_ok k
  obtain⟨r1,r2,r3,r4⟩:=refC_ok h k3
  obtain⟨iv,e1,e2,e3,e4,e5,e6,e7,e8⟩:=h.writeB b
  generalize E.writeB b=E1 at *
  have f1:E1.fd≠0:=by
   have:=r4 rfl
   have h1:=h.fewd
   unfold Eng.fd at *
   rw[e1]
   omega
  have i2:=(iv.up (ex':=[(E1.nt:Int)+1]) (λe he=>by cases he)).enter (kind:=2) (b:=b) (.inr (.inl rfl)) (by unfold Eng.has at *;rw[e1];exact k1) (by rw[if_neg (by decide)];exact f1) (λ_ e he=>he)
  have i3:=i2.soft (soft_worth v) ((E1.nt:Int)+1)
  have tm:(E1.new 2 b).worth v∈((E1.enter 2 b).upd ((E1.nt:Int)+1) (Tk.worth v)).ts:=mem_upd (t:=E1.new 2 b) (Tk.worth v) (List.mem_append_right _ (by simp))
  have i4:=i3.add (ex':=[]) tm (by show (2:Int)≠3;decide) r1 (by show waitsB E1.g w=false;rw[e2];exact r2) (by show (E1.g.length:Int)<E1.o.b9;rw[e1,e2];exact r3) (λe he=>.inl (List.mem_singleton.1 he))
  rw[←e3]
  exact i4
 ·rw[if_neg k];exact h
theorem Inv.ahead {E:Eng} (h:Inv E) (b:Int):Inv (E.ahead b):=by
 unfold Eng.ahead
 by_cases k:E.aheadC b=0
 ·rw[if_pos k]
  obtain⟨k1,k2,k3⟩:=aheadC_ok k
  exact h.enter (.inr (.inr rfl)) k1 (by rw[if_pos rfl];exact k3) (λq=>by cases q)
 ·rw[if_neg k];exact h
theorem Inv.cutE {E:Eng} (h:Inv E) (b:Int):Inv (E.cutE b):=by
 unfold Eng.cutE
 cases j:rests (E.head b) with
 | true =>
  obtain⟨t,hl,k3,ho⟩:=rests_some j
  obtain⟨tm,tb⟩:=mem_head hl
  simp only[hl,Option.getD_some,if_pos]
  rw[end_drop (h.none3 tm k3)]
  exact h.drop_idle tm ho
 | false =>
  rw[if_neg (by decide)]
  split
  ·exact h.soft soft_cut _
  ·exact h
theorem Inv.serve {E:Eng} (h:Inv E) (b:Int):Inv (E.serve b):=by
 unfold Eng.serve
 cases j:serves (E.head b) with
 | true =>
  obtain⟨t,hl,k1,ho,_⟩:=serves_some j
  obtain⟨tm,tb⟩:=mem_head hl
  simp only[hl,Option.getD_some,if_pos]
  exact h.drop_idle tm ho
 | false=>rw[if_neg (by decide)];exact h
theorem tag_inj {ms:List Mv} (h:ms.Pairwise (λa b=>a.tag<b.tag)) {m:Mv} (hm:m∈ms):at17 ms m.tag=some m∧∃l r,ms=l++m::r∧ms.filter (λx=>!(x.tag==m.tag))=l++r:=by
 induction ms with
 | nil=>cases hm
 | cons a s ih =>
  obtain⟨h1,h2⟩:=List.pairwise_cons.1 h
  rcases List.mem_cons.1 hm with rfl | hm'
  ·refine⟨by simp[at17],[],s,rfl,?_⟩
   rw[List.filter_cons_of_neg (by simp)]
   exact List.filter_eq_self.2 (λx hx=>by have:=h1 x hx;simp;omega)
  ·obtain⟨i1,l,r,e1,e2⟩:=ih h2 hm'
   have ne:a.tag≠m.tag:=by have:=h1 m hm';omega
   refine⟨?_,a::l,r,by rw[e1];rfl,?_⟩
   ·unfold at17 at *
    rw[List.find?_cons_of_neg (by simpa using ne)]
    exact i1
   ·rw[List.filter_cons_of_pos (by simpa using ne),e2]
    rfl
theorem at17_some {ms:List Mv} {x:Int} {m:Mv} (h:at17 ms x=some m):m∈ms∧m.tag=x:=⟨List.mem_of_find?_eq_some h,by simpa using List.find?_some h⟩
theorem Inv.home {E:Eng} (h:Inv E) {m:Mv} (hm:m∈E.ms):InvX (E.home m.tag) [] m.ks:=by
 obtain⟨_,l,r,e1,e2⟩:=tag_inj h.tags hm
 have em:(E.home m.tag).ms=l++r:=e2
 have sub:∀x∈(E.home m.tag).ms,x∈E.ms:=λx hx=>(List.mem_filter.1 hx).1
 have pm:(E.inM++[]).Perm ((E.home m.tag).inM++m.ks):=by
  unfold Eng.inM
  rw[em,e1,List.append_nil,List.flatMap_append,List.flatMap_cons,List.flatMap_append,List.append_assoc]
  exact List.perm_append_comm.append_left _
 refine { h with tags:=h.tags.filter _,tagr:=λx hx=>h.tagr x (sub x hx),mlen:=?_,mok:=λx hx=>h.mok x (sub x hx),mt:=λx hx=>h.mt x (sub x hx),rt:=λk hk=>?_,nd:=pm.nodup h.nd,all:=λt ht o=>pm.subset (h.all t ht o) }
 ·have:=h.mlen
  have h2:=List.length_filter_le (λx:Mv=>!(x.tag==m.tag)) E.ms
  show ((E.ms.filter (λx:Mv=>!(x.tag==m.tag))).length:Int)≤E.o.b5
  omega
 ·obtain⟨i,hi⟩:=List.getElem?_of_mem hk
  obtain⟨t,ht,a1,a2,a3,a4⟩:=h.mt m hm i k hi
  exact⟨t,ht,a1,a3⟩
theorem InvX.come {E:Eng} {x:Int} {r:List Int} (h:InvX E [] (x::r)) (well:Bool):InvX (E.come well x) [] r:=by
 obtain⟨t,ht,rfl,ho⟩:=h.rt x (by simp)
 unfold Eng.come
 rw[find16 h.ids ht,Option.getD_some]
 by_cases f:fate16 E t well=1
 ·rw[if_pos f]
  refine h.back ht ?_
  unfold fate16 at f
  cases well with
  | true=>cases f
  | false =>
   rw[if_neg (by decide)] at f
   by_cases q:0<E.cnt t.id∧t.tries+1<E.o.b7
   ·exact q.2
   ·rw[if_neg q] at f;cases f
 ·rw[if_neg f]
  exact h.drop_back ht
theorem InvX.comes {well:Bool}:∀(r:List Int) {E:Eng},InvX E [] r→Inv (E.comes well r).1
 | [],E,h=>h
 | x::r,E,h=>InvX.comes r (h.come well)
theorem Inv.finish {E:Eng} (h:Inv E) (tag:Int) (well:Bool):Inv (E.finish tag well):=by
 unfold Eng.finish
 cases q:at17 E.ms tag with
 | none=>exact h
 | some m =>
  obtain⟨hm,rfl⟩:=at17_some q
  exact InvX.comes m.ks (h.home hm)
end Go.Proofs.YtfbpjobobdidiaaGreatDoor
namespace Go.Proofs.YtfbpjobobdidiaaGreatDoor
open Lib (hid)
open Go.Proofs.Tryz
open Go.RowKit Go.Maps
set_option linter.unusedVariables false
structure EP (w:World) (p:Nat) (c:Nat→Nat) (X:Loc) (F H:Nat) (ks:List Tk) (E:Eng):Prop where
 eo:EO w p c X F H E.o E.nt E.ng (E.ts.map Tk.sd) E.qs E.g (E.ts.map (tkEnt X.A)) ks (E.ms.map (mvEnt X.B)) E.ms
 sub:∀t∈E.ts,t∈ks
 may:E.o.MayC
 idr:∀t∈ks,1≤t.id∧t.id≤E.nt
 tag:∀m∈E.ms,1≤m.tag∧m.tag≤E.ng
 few:E.ts.length≤128
 mfew:E.ms.length≤16
 ntH:E.nt≤H
 ngH:E.ng≤H
 hF:F<100000000
 hH:H<1000000
theorem EP.keep {w w':World} {p:Nat} {c:Nat→Nat} {X:Loc} {F H:Nat} {ks:List Tk} {E:Eng} (h:EP w p c X F H ks E) {S:Nat→Prop} (k:Only S w w') (hn:∀g,c g≠0→¬ S g):EP w' p c X F H ks E:={ h with eo:=h.eo.keep k hn }
theorem EP.still {w w':World} {p:Nat} {c:Nat→Nat} {X:Loc} {F H:Nat} {ks:List Tk} {E:Eng} (h:EP w p c X F H ks E) (k:Only n_ w w'):EP w' p c X F H ks E:=h.keep k (λ_ _ s=>s)
theorem EP.up {w:World} {p:Nat} {c:Nat→Nat} {X:Loc} {F H:Nat} {ks:List Tk} {E:Eng} (h:EP w p c X F H ks E) {F' H':Nat} (k:F≤F') (k2:H≤H') (b:F'<100000000) (b2:H'<1000000):EP w p c X F' H' ks E:=
 { h with eo:=h.eo.up k k2,ntH:=Nat.le_trans h.ntH k2,ngH:=Nat.le_trans h.ngH k2,hF:=b,hH:=b2 }
def optPtr (A:Int→Nat):Option Tk→Value
 | none=>.pointer none
 | some t=>pT (A t.id)
theorem at16_tk (A:Int→Nat) (ts:List Tk) (x:Int):atV (.pointer none) (ts.map (tkEnt A)) x=optPtr A (at16 ts x):=by
 unfold atV at16
 rw[List.find?_map]
 have:((λp:Ent=>p.1==x)∘tkEnt A)=λt:Tk=>t.id==x:=rfl
 rw[this]
 cases ts.find? (λt=>t.id==x)<;>rfl
theorem lane_sd (ts:List Tk) (b:Int):laneL (ts.map Tk.sd) b=(ts.filter (λt=>t.b==b)).map (·.id):=by
 unfold laneL
 rw[List.filter_map,List.map_map]
 rfl
theorem once_tk {A:Int→Nat} {ts:List Tk} (h:OnceV (ts.map (tkEnt A))):ts.Pairwise (λs t=>s.id≠t.id):=by
 unfold OnceV at h
 rw[List.pairwise_map] at h
 exact h
theorem at16_mem {ts:List Tk} (o:ts.Pairwise (λs t=>s.id≠t.id)) {t:Tk} (h:t∈ts):at16 ts t.id=some t:=by
 unfold at16
 induction ts with
 | nil=>cases h
 | cons a r ih =>
  obtain⟨o1,o2⟩:=List.pairwise_cons.1 o
  rcases List.mem_cons.1 h with rfl | h'
  ·simp
  ·rw[List.find?_cons_of_neg (by have:=o1 t h';simpa using this)]
   exact ih o2 h'
theorem at16_none {ts:List Tk} {x:Int} (h:∀t∈ts,t.id≠x):at16 ts x=none:=by
 unfold at16
 rw[List.find?_eq_none]
 intro t ht
 simpa using h t ht
theorem EP.once {w:World} {p:Nat} {c:Nat→Nat} {X:Loc} {F H:Nat} {ks:List Tk} {E:Eng} (h:EP w p c X F H ks E):E.ts.Pairwise (λs t=>s.id≠t.id):=once_tk h.eo.tm.1
theorem head_at {E:Eng} (o:E.ts.Pairwise (λs t=>s.id≠t.id)) (h1:∀t∈E.ts,1≤t.id) (b:Int):at16 E.ts (headI (laneL (E.ts.map Tk.sd) b))=E.head b:=by
 rw[lane_sd]
 unfold Eng.head Eng.lane headI
 cases hl:E.ts.filter (λt=>t.b==b) with
 | nil=>exact at16_none (λt ht=>by have:=h1 t ht;simp;omega)
 | cons a r =>
  have:a∈E.ts:=(List.mem_filter.1 (show a∈E.ts.filter (λt=>t.b==b) by rw[hl];simp)).1
  simpa using at16_mem o this
theorem last_at {E:Eng} (o:E.ts.Pairwise (λs t=>s.id≠t.id)) (h1:∀t∈E.ts,1≤t.id) (b:Int):at16 E.ts (lastI (laneL (E.ts.map Tk.sd) b))=E.last b:=by
 rw[lane_sd]
 unfold Eng.last Eng.lane lastI
 rw[List.getLast?_map]
 cases hl:(E.ts.filter (λt=>t.b==b)).getLast? with
 | none=>exact at16_none (λt ht=>by have:=h1 t ht;simp;omega)
 | some a =>
  have:a∈E.ts:=(List.mem_filter.1 (List.mem_of_getLast? hl)).1
  simpa using at16_mem o this
theorem head_in {E:Eng} {b:Int} {t:Tk} (h:E.head b=some t):t∈E.ts∧t.b=b:=by
 have:=List.mem_of_head? h
 unfold Eng.lane at this
 simpa using List.mem_filter.1 this
theorem last_in {E:Eng} {b:Int} {t:Tk} (h:E.last b=some t):t∈E.ts∧t.b=b:=by
 have:=List.mem_of_getLast? h
 unfold Eng.lane at this
 simpa using List.mem_filter.1 this
theorem EP.bd {w:World} {p:Nat} {c:Nat→Nat} {X:Loc} {F H:Nat} {ks:List Tk} {E:Eng} (h:EP w p c X F H ks E):E.o.b0.toNat≤1000∧(E.ts.map Tk.sd).length≤1000:=by
 have:=h.may
 have:=h.few
 unfold Opt.MayC at *
 rw[List.length_map]
 omega
theorem EP.cell {w:World} {p:Nat} {c:Nat→Nat} {X:Loc} {F H:Nat} {ks:List Tk} {E:Eng} (h:EP w p c X F H ks E) (i:Nat):w.cell? ⟨p,i,none⟩=(engCells X E.o E.nt E.ng)[i]?:=h.eo.row.cell i
theorem zeroPtr (w:World):(zeroValue 118).run prog w=.ok (.pointer none) w:=by kernel_rfl
section
variable {p:Nat} {c:Nat→Nat} {X:Loc} {F H:Nat} {ks:List Tk} {E:Eng}
theorem ehas_any (b:Int) (w:World) (h:EP w p c X F H ks E) :
  Calls prog 62 #[pT p,.int .i64 b] w λe w'=>e=.returned (.bool (E.has b))∧Only n_ w w':=by
 have c0:w.cell? ⟨p,0,none⟩=some (.int .i64 E.o.b0):=h.cell 0
 have RO:=hid (Only.refl n_ w)
 unfold Eng.has pT
 generalize E.o.b0=n at *
 clear h
 by_cases h1:0≤b
 ·have d1:decide (0≤b)=true:=decide_eq_true h1
  have EQ:=hid (show decide (0≤b∧b<n)=decide (b<n) from by simp[h1])
  clear h1
  go_enter func62,ntmps62
  go_wp2_with fail
  go_ret
  exact⟨by rw[EQ.out];rfl,RO.out⟩
 ·have d1:decide (0≤b)=false:=decide_eq_false h1
  have EQ:=hid (show decide (0≤b∧b<n)=false from by simp[h1])
  clear h1
  go_enter func62,ntmps62
  go_wp2_with fail
  go_ret
  exact⟨by rw[EQ.out];rfl,RO.out⟩
theorem ehead_any (b:Int) (w:World) (h:EP w p c X F H ks E) :
  Calls prog 57 #[pT p,.int .i64 b] w λe w'=>e=.returned (optPtr X.A (E.head b))∧Only n_ w w':=by
 have c14:w.cell? ⟨p,14,none⟩=some (.pointer (some ⟨X.pl,0,none⟩)):=h.cell 14
 have c17:w.cell? ⟨p,17,none⟩=some (.map (some X.bt)):=h.cell 17
 have HA:=hid (head_at h.once (λt ht=>(h.idr t (h.sub t ht)).1) b)
 have LH:=hid (lhead_any b w h.eo.ln h.bd.1 h.bd.2)
 have wx:(Lit.int .i64 (headI (laneL (E.ts.map Tk.sd) b))).wf=true:=by
  rw[lane_sd]
  unfold headI
  cases hl:(E.ts.filter (λt=>t.b==b)).map (·.id) with
  | nil=>decide
  | cons a r =>
   obtain⟨t,ht,rfl⟩:=List.mem_map.1 (show a∈(E.ts.filter (λt=>t.b==b)).map (·.id) by rw[hl];simp)
   have:=h.idr t (h.sub t (List.mem_filter.1 ht).1)
   have:=h.ntH;have:=h.hH
   exact wf_i _ (by simp;omega)
 have LK:=h.eo.tm.look underlying96 (zeroPtr w) wx
 rw[at16_tk] at LK
 rw[←HA.out]
 unfold pT
 generalize headI (laneL (E.ts.map Tk.sd) b)=x at *
 generalize someB (laneL (E.ts.map Tk.sd) b)=y at *
 generalize optPtr X.A (at16 E.ts x)=z at *
 clear h HA wx
 go_enter func57,ntmps57
 go_wp2_with fail
 (with_reducible refine (LH.out).mono ?_)
 rintro e w' ⟨rfl,rfl⟩
 go_wp2_with fail
 go_ret
 exact⟨rfl,Only.refl _ _⟩
theorem elast_any (b:Int) (w:World) (h:EP w p c X F H ks E) :
  Calls prog 65 #[pT p,.int .i64 b] w λe w'=>e=.returned (optPtr X.A (E.last b))∧Only n_ w w':=by
 have c14:w.cell? ⟨p,14,none⟩=some (.pointer (some ⟨X.pl,0,none⟩)):=h.cell 14
 have c17:w.cell? ⟨p,17,none⟩=some (.map (some X.bt)):=h.cell 17
 have HA:=hid (last_at h.once (λt ht=>(h.idr t (h.sub t ht)).1) b)
 have LH:=hid (llast_any b w h.eo.ln h.bd.1 h.bd.2)
 have wx:(Lit.int .i64 (lastI (laneL (E.ts.map Tk.sd) b))).wf=true:=by
  rw[lane_sd]
  unfold lastI
  cases hl:((E.ts.filter (λt=>t.b==b)).map (·.id)).getLast? with
  | none=>decide
  | some a =>
   obtain⟨t,ht,rfl⟩:=List.mem_map.1 (List.mem_of_getLast? hl)
   have:=h.idr t (h.sub t (List.mem_filter.1 ht).1)
   have:=h.ntH;have:=h.hH
   exact wf_i _ (by simp;omega)
 have LK:=h.eo.tm.look underlying96 (zeroPtr w) wx
 rw[at16_tk] at LK
 rw[←HA.out]
 unfold pT
 generalize lastI (laneL (E.ts.map Tk.sd) b)=x at *
 generalize someB (laneL (E.ts.map Tk.sd) b)=y at *
 generalize optPtr X.A (at16 E.ts x)=z at *
 clear h HA wx
 go_enter func65,ntmps65
 go_wp2_with fail
 (with_reducible refine (LH.out).mono ?_)
 rintro e w' ⟨rfl,rfl⟩
 go_wp2_with fail
 go_ret
 exact⟨rfl,Only.refl _ _⟩
end
theorem ejoin_any (A:Int→Nat) (o:Option Tk) (w:World) (h:∀t,o=some t→Row w (A t.id) 123 t.cells) :
  Calls prog 66 #[optPtr A o] w λe w'=>e=.returned (.bool (joins o))∧Only n_ w w':=by
 have RO:=hid (Only.refl n_ w)
 cases o with
 | none =>
  unfold optPtr
  go_enter func66,ntmps66
  go_wp2_with fail
  go_ret
  exact⟨rfl,RO.out⟩
 | some t =>
  have r:=h t rfl
  obtain⟨g,hg⟩:∃g,A t.id=g:=⟨_,rfl⟩
  show Calls prog 66 #[.pointer (some ⟨A t.id,0,none⟩)] w λe w'=>e=.returned (.bool (!(t.kind==2)&&!t.cut))∧Only n_ w w'
  rw[hg] at r ⊢
  obtain⟨id,kind,b,l,tries,out,fr,cut,v⟩:=t
  have c1:w.cell? ⟨g,1,none⟩=some (.int .i64 kind):=r.cell 1
  have c8:w.cell? ⟨g,8,none⟩=some (.bool cut):=r.cell 8
  dsimp only
  clear h r hg
  by_cases k:kind=2
  ·subst k
   go_enter func66,ntmps66
   go_wp2_with fail
   go_ret
   exact⟨rfl,RO.out⟩
  ·have d1:(kind != 2)=true:=by simpa using k
   have EQ:=hid (show (!(kind==2)&&!cut)=!cut from by simp[k])
   clear k
   go_enter func66,ntmps66
   go_wp2_with fail
   go_ret
   exact⟨by rw[EQ.out];rfl,RO.out⟩
theorem erest_any (A:Int→Nat) (o:Option Tk) (w:World) (h:∀t,o=some t→Row w (A t.id) 123 t.cells) :
  Calls prog 70 #[optPtr A o] w λe w'=>e=.returned (.bool (rests o))∧Only n_ w w':=by
 have RO:=hid (Only.refl n_ w)
 cases o with
 | none =>
  unfold optPtr
  go_enter func70,ntmps70
  go_wp2_with fail
  go_ret
  exact⟨rfl,RO.out⟩
 | some t =>
  have r:=h t rfl
  obtain⟨g,hg⟩:∃g,A t.id=g:=⟨_,rfl⟩
  show Calls prog 70 #[.pointer (some ⟨A t.id,0,none⟩)] w λe w'=>e=.returned (.bool (t.kind==3&&!t.out))∧Only n_ w w'
  rw[hg] at r ⊢
  obtain⟨id,kind,b,l,tries,out,fr,cut,v⟩:=t
  have c1:w.cell? ⟨g,1,none⟩=some (.int .i64 kind):=r.cell 1
  have c6:w.cell? ⟨g,6,none⟩=some (.bool out):=r.cell 6
  dsimp only
  clear h r hg
  by_cases k:kind=3
  ·subst k
   go_enter func70,ntmps70
   go_wp2_with fail
   go_ret
   exact⟨rfl,RO.out⟩
  ·have d1:(kind==3)=false:=by simpa using k
   have EQ:=hid (show ((kind==3)&&!out)=false from by simp[k])
   clear k
   go_enter func70,ntmps70
   go_wp2_with fail
   go_ret
   exact⟨by rw[EQ.out];rfl,RO.out⟩
theorem eneeds_any (g:Nat) (t:Tk) (w:World) (r:Row w g 123 t.cells) :
  Calls prog 58 #[pT g] w λe w'=>e=.returned (.bool t.needs)∧Only n_ w w':=by
 have RO:=hid (Only.refl n_ w)
 unfold pT Tk.needs
 obtain⟨id,kind,b,l,tries,out,fr,cut,v⟩:=t
 have c1:w.cell? ⟨g,1,none⟩=some (.int .i64 kind):=r.cell 1
 have c7:w.cell? ⟨g,7,none⟩=some (.bool fr):=r.cell 7
 dsimp only
 clear r
 by_cases k:kind=2
 ·subst k
  go_enter func58,ntmps58
  go_wp2_with fail
  go_ret
  exact⟨rfl,RO.out⟩
 ·have d1:(kind != 2)=true:=by simpa using k
  have EQ:=hid (show (!(kind==2)&&!fr)=!fr from by simp[k])
  clear k
  go_enter func58,ntmps58
  go_wp2_with fail
  go_ret
  exact⟨by rw[EQ.out];rfl,RO.out⟩
end Go.Proofs.YtfbpjobobdidiaaGreatDoor
namespace Go.Proofs.YtfbpjobobdidiaaGreatDoor
open Lib (hid)
open Go.Proofs.Tryz
set_option linter.unusedVariables false
theorem InvX.quitL:∀(l:List Int) {E:Eng},InvX E l []→l.Nodup→(∀y∈l,∃t∈E.ts,t.id=y∧(t.kind=2→t.out=false))→Inv (E.quitL l)
 | [],E,h,_,_=>h
 | x::r,E,h,nd,hk=>by
  obtain⟨t,ht,rfl,ko⟩:=hk x (by simp)
  obtain⟨n1,n2⟩:=List.nodup_cons.1 nd
  show Inv (Eng.quitL (if gone16 E t.id then E.end_ t.id else E) r)
  have gd:gone16 E t.id=(decide (E.cnt t.id=0)&&!t.out):=by unfold gone16;rw[find16 h.ids ht];rfl
  cases g:gone16 E t.id with
  | true =>
   rw[if_pos rfl]
   rw[gd] at g
   have g':E.cnt t.id=0∧t.out=false:=by simpa using g
   have nw:∀y∈E.g,y.t≠t.id:=λy hy e=>by
    have:y.w∈ofL E.g t.id:=List.mem_map.2 ⟨y,List.mem_filter.2 ⟨hy,by simpa using e⟩,rfl⟩
    have h0:=g'.1
    unfold Eng.cnt at h0
    have h1:=List.length_pos_of_mem this
    omega
   rw[end_drop nw]
   refine InvX.quitL r ((h.drop_idle ht g'.2).less (λs hs k2 hn hx=>?_)) n2 (λy hy=>?_)
   ·have hs':s.id≠t.id:=by
     have:s∈E.ts.filter (λu=>!(u.id==t.id)):=hs
     simpa using (List.mem_filter.1 this).2
    rcases List.mem_cons.1 hx with q | q
    ·exact absurd q hs'
    ·exact absurd q hn
   ·obtain⟨s,hs,e,k⟩:=hk y (List.mem_cons_of_mem _ hy)
    refine⟨s,?_,e,k⟩
    show s∈E.ts.filter (λu=>!(u.id==t.id))
    rw[List.mem_filter]
    refine⟨hs,?_⟩
    have:s.id≠t.id:=λq=>n1 (by rw[←q,e];exact hy)
    simpa using this
  | false =>
   rw[if_neg (by decide)]
   refine InvX.quitL r (h.less (λs hs k2 hn hx=>?_)) n2 (λy hy=>hk y (List.mem_cons_of_mem _ hy))
   rcases List.mem_cons.1 hx with q | q
   ·have:=h.inj hs ht q
    subst this
    have o:=ko k2
    rw[gd,o] at g
    have c0:E.cnt s.id≠0:=by simpa using g
    unfold Eng.cnt at c0
    cases hl:ofL E.g s.id with
    | nil=>rw[hl] at c0;exact absurd rfl c0
    | cons a m =>
     have:a∈ofL E.g s.id:=by rw[hl];simp
     obtain⟨y,hy,_⟩:=List.mem_map.1 this
     obtain⟨y1,y2⟩:=List.mem_filter.1 hy
     exact⟨y,y1,by simpa using y2⟩
   ·exact absurd q hn
theorem quitC_ok {E:Eng} {r:Int} (h:E.quitC r=0):∀t∈E.ts,t.kind=2→t.out=true→∀w∈ofL E.g t.id,w.r≠r:=by
 intro t ht k o w hw e
 unfold Eng.quitC at h
 have:E.ts.any (λt=>t.kind==2&&t.out&&(ofL E.g t.id).any (λw=>decide (w.r=r)))=true:=by
  rw[List.any_eq_true]
  refine⟨t,ht,?_⟩
  rw[k,o]
  simp only[beq_self_eq_true,Bool.true_and,Bool.and_self]
  rw[List.any_eq_true]
  exact⟨w,hw,decide_eq_true e⟩
 rw[if_pos this] at h
 cases h
theorem Inv.quit {E:Eng} (h:Inv E) (r:Int):Inv (E.quit r):=by
 unfold Eng.quit
 by_cases k:E.quitC r=0
 ·rw[if_pos k]
  refine InvX.quitL _ (h.leave r) ((rise_quit E.g r).imp (λ{a b} q e=>by omega)) (λy hy=>?_)
  obtain⟨z,hz,e1,e2⟩:=mem_quit16.1 hy
  obtain⟨t,ht,e,_⟩:=h.g1 z hz
  refine⟨t,ht,by rw[e,e2],λk2=>?_⟩
  cases o:t.out with
  | false=>rfl
  | true =>
   have hw:z.w∈ofL E.g t.id:=List.mem_map.2 ⟨z,List.mem_filter.2 ⟨hz,by simpa using e.symm⟩,rfl⟩
   exact absurd e1 (quitC_ok k t ht k2 o z.w hw)
 ·rw[if_neg k];exact h
theorem mem_ready {E:Eng} {ex rest:List Int} (h:InvX E ex rest) {kind:Int} {u:Tk}:u∈E.ready kind↔E.head u.b=some u∧u.out=false∧u.kind=kind:=by
 unfold Eng.ready
 rw[List.mem_filter,List.mem_filterMap]
 constructor
 ·rintro ⟨⟨b,hb,e⟩,k⟩
  have:=(mem_head e).2
  rw[this]
  refine⟨e,by simpa using k⟩
 ·rintro ⟨e,o,k⟩
  obtain⟨hm,_⟩:=mem_head e
  have:=h.blk u hm
  refine⟨⟨u.b.toNat,List.mem_range.2 (by omega),?_⟩,by simp[o,k]⟩
  rw[show ((u.b.toNat:Nat):Int)=u.b by omega]
  exact e
theorem isHead_iff {E:Eng} {ex rest:List Int} (h:InvX E ex rest) {t:Tk} (ht:t∈E.ts):E.isHead t=true↔E.head t.b=some t:=by
 unfold Eng.isHead
 cases q:E.head t.b with
 | none=>simp
 | some u =>
  have:=(mem_head q).1
  simp only[beq_iff_eq,Option.some.injEq]
  exact⟨λe=>h.inj this ht e,λe=>by rw[e]⟩
structure Trip (E:Eng) (m:Mv) (bs:List Int):Prop where
 iv:InvX E [] m.ks
 rel:∀(i:Nat) k,m.ks[i]? = some k→∃t∈E.ts,t.id=k∧t.b=m.lo+i∧t.out=true∧(t.kind=2↔m.wr=true)
 nx:∀(j:Nat) b,bs[j]? = some b→b=m.lo+(m.ks.length+j:Nat)∧∃t,E.head b=some t∧t.out=false∧(t.kind=2↔m.wr=true)
 vs:m.vs.length=if m.wr then m.ks.length else 0
 fs:m.fs.length≤m.ks.length
theorem Trip.step {E:Eng} {m:Mv} {b:Int} {r:List Int} (h:Trip E m (b::r)):∃t,E.head b=some t∧t∈E.ts∧t.b=b∧t.out=false∧Trip (E.along m t).1 (E.along m t).2 r:=by
 obtain⟨eb,t,ht,o,k2⟩:=h.nx 0 b rfl
 obtain⟨tm,tb⟩:=mem_head ht
 refine⟨t,ht,tm,tb,o,?_⟩
 have iv:=h.iv.along (t:=t) (by rw[tb];exact ht) o m
 have id_:=λs=>(keep_if keeps_go t.id s).1
 have bl:=λs=>(keep_if keeps_go t.id s).2
 have ki:∀s:Tk,(if s.id=t.id then s.go else s).kind=s.kind:=λs=>by split<;>rfl
 have ou:∀s:Tk,s.out=true→(if s.id=t.id then s.go else s).out=true:=λs q=>by split;rfl;exact q
 have up:∀s∈E.ts,(if s.id=t.id then s.go else s)∈(E.along m t).1.ts:=λs hs=>List.mem_map.2 ⟨s,hs,rfl⟩
 refine⟨iv,λi k hi=>?_,λj b' hj=>?_,?_,?_⟩
 ·have hi:(m.ks++[t.id])[i]? = some k:=hi
  show ∃s∈(E.along m t).1.ts,s.id=k∧s.b=m.lo+i∧s.out=true∧(s.kind=2↔m.wr=true)
  rcases Nat.lt_or_ge i m.ks.length with q | q
  ·rw[List.getElem?_append_left q] at hi
   obtain⟨s,hs,a1,a2,a3,a4⟩:=h.rel i k hi
   exact⟨_,up s hs,by rw[id_];exact a1,by rw[bl];exact a2,ou s a3,by rw[ki];exact a4⟩
  ·rw[List.getElem?_append_right q] at hi
   have:i=m.ks.length:=by
    rcases Nat.lt_or_ge m.ks.length i with z | z
    ·rw[List.getElem?_eq_none (by simp;omega)] at hi;cases hi
    ·omega
   subst this
   simp at hi
   subst hi
   exact⟨_,up t tm,id_ t,by rw[bl,tb];exact eb,by rw[if_pos rfl];rfl,by rw[ki];exact k2⟩
 ·obtain⟨e1,s,hs,so,sk⟩:=h.nx (j+1) b' hj
  refine⟨?_,s,?_,so,sk⟩
  ·show b'=m.lo+((m.ks++[t.id]).length+j:Nat)
   rw[e1,List.length_append,List.length_singleton]
   congr 2
   omega
  ·show ((E.along m t).1).head b'=some s
   rw[show ((E.along m t).1).head b'=(E.head b').map (λu=>if u.id=t.id then u.go else u) from head_upd (E:=E) keeps_go b',hs]
   have:s.id≠t.id:=λe=>by
    have e3:=h.iv.inj (mem_head hs).1 tm e
    subst e3
    rw[so] at o
    have e4:=(mem_head hs).2
    rw[tb] at e4
    rw[e1,eb] at e4
    simp at e4
    omega
   simp[this]
 ·show (if m.wr then m.vs++[t.v] else m.vs).length=if m.wr then (m.ks++[t.id]).length else 0
  have:=h.vs
  cases w:m.wr with
  | true=>rw[w] at this;simp at this ⊢;exact this
  | false=>rw[w] at this;simp at this ⊢;exact this
 ·show (if t.needs then m.fs++[t.b] else m.fs).length≤(m.ks++[t.id]).length
  have:=h.fs
  split<;>simp<;>omega
theorem alongs_cons (E:Eng) (m:Mv) (b:Int) (r:List Int) {t:Tk} (h:E.head b=some t):Eng.alongs E m (b::r)=Eng.alongs (E.along m t).1 (E.along m t).2 r:=by
 show Eng.alongs (E.along m ((E.head b).getD default)).1 (E.along m ((E.head b).getD default)).2 r=_
 rw[h];rfl
theorem Trip.all {bs:List Int}:∀{E:Eng} {m:Mv},Trip E m bs→Trip (Eng.alongs E m bs).1 (Eng.alongs E m bs).2 []∧(Eng.alongs E m bs).2.ks.length=m.ks.length+bs.length∧(Eng.alongs E m bs).2.tag=m.tag∧(Eng.alongs E m bs).2.wr=m.wr∧(Eng.alongs E m bs).2.lo=m.lo∧(Eng.alongs E m bs).2.n=m.n ∧
  (Eng.alongs E m bs).1.o=E.o∧(Eng.alongs E m bs).1.ms=E.ms∧(Eng.alongs E m bs).1.ng=E.ng∧(Eng.alongs E m bs).1.nt=E.nt∧(Eng.alongs E m bs).1.g=E.g:=by
 induction bs with
 | nil=>intro E m h;exact⟨h,by simp[Eng.alongs],rfl,rfl,rfl,rfl,rfl,rfl,rfl,rfl,rfl⟩
 | cons b r ih =>
  intro E m h
  obtain⟨t,ht,tm,tb,o,h2⟩:=h.step
  rw[alongs_cons E m b r ht]
  obtain⟨a0,a1,a2,a3,a4,a5,a6,a7,a8,a9,a10⟩:=ih h2
  refine⟨a0,?_,a2,a3,a4,a5,a6,a7,a8,a9,a10⟩
  rw[a1]
  show (m.ks++[t.id]).length+r.length=_
  simp
  omega
theorem InvX.around {E:Eng} (h:Inv E) {t:Tk} (ht:E.head t.b=some t) (o:t.out=false) {room:Int} (r0:0≤room) (hr:0<room∨t.needs=false) :
  aroundC ((E.ready t.kind).map (·.b)) (((E.ready t.kind).filter (·.needs)).map (·.b)) t.b E.o.b6 room=0:=by
 have hm:=h.may
 unfold Opt.MayC at hm
 have tm:=(mem_head ht).1
 have bb:=h.blk t tm
 have hin:t∈E.ready t.kind:=(mem_ready h).2 ⟨ht,o,rfl⟩
 have hB:hasB ((E.ready t.kind).map (·.b)) t.b=true:=by
  rw[hasB_in bb.1 (by omega)]
  exact decide_eq_true (List.mem_map.2 ⟨t,hin,rfl⟩)
 unfold aroundC
 rw[if_neg (by
  unfold argB mayMost
  rintro (q | q | q)
  ·omega
  ·omega
  ·rw[hB] at q;cases q),if_neg]
 intro q
 rcases costB_cases (hasB (((E.ready t.kind).filter (·.needs)).map (·.b))) t.b with ⟨k1,k2⟩|⟨k1,k2⟩
 ·rcases hr with hr | hr
  ·omega
  ·obtain⟨_,_,hin2⟩:=hasB_yes k1
   obtain⟨u,hu,e⟩:=List.mem_map.1 hin2
   obtain⟨u1,u2⟩:=List.mem_filter.1 hu
   have:=((mem_ready h).1 u1).1
   rw[e,ht] at this
   injection this with this
   subst this
   rw[hr] at u2
   cases u2
 ·omega
theorem run_ok {E:Eng} (h:Inv E) {t:Tk} (ht:E.head t.b=some t) (o:t.out=false) {room:Int} (r0:0≤room) (hr:0<room∨t.needs=false) :
  (E.run t room).Ok∧1≤(E.run t room).c∧(E.run t room).c≤E.o.b6∧0≤(E.run t room).f∧(E.run t room).f+(E.run t room).c≤E.o.b0∧(E.run t room).f≤t.b∧t.b<(E.run t room).f+(E.run t room).c∧Trip E (E.move0 t room) (blocksOf (E.run t room)):=by
 have ac:=h.around ht o r0 hr
 obtain⟨s1,s2,s3,s4,s5,s6⟩:=around_spec ac
 have ok:=s1
 have hh:∀x,(E.run t room).f≤x→x<(E.run t room).f+(E.run t room).c→∃u,E.head x=some u∧u.out=false∧u.kind=t.kind:=λx q1 q2=>by
  obtain⟨u,hu,rfl⟩:=List.mem_map.1 (s5 x q1 q2)
  obtain⟨a,b,c⟩:=(mem_ready h).1 hu
  exact⟨u,a,b,c⟩
 obtain⟨ok1,ok2,ok3,ok4⟩:=s1
 change 0≤(E.run t room).f at ok1
 change 1≤(E.run t room).c at ok2
 change (E.run t room).c≤E.o.b6 at s3
 obtain⟨_,t1,t2⟩:=s2
 change (E.run t room).f≤t.b at t1
 change t.b-(E.run t room).f<(E.run t room).c at t2
 have hend:(E.run t room).f+(E.run t room).c≤E.o.b0:=by
  obtain⟨u,hu,_⟩:=hh ((E.run t room).f+(E.run t room).c-1) (by omega) (by omega)
  obtain⟨um,ub⟩:=mem_head hu
  have:=h.blk u um
  omega
 refine⟨ok,ok2,s3,ok1,hend,t1,by omega,⟨h,λi k hi=>by simp[Eng.move0] at hi,λj b hj=>?_,?_,Nat.le_refl _⟩⟩
 ·unfold blocksOf at hj
  rw[if_pos (show (E.run t room).Ok from ok),List.getElem?_map] at hj
  obtain⟨i,hi,rfl⟩:=Option.map_eq_some_iff.1 hj
  have hi2:=List.getElem?_eq_some_iff.1 hi
  obtain⟨hl,e⟩:=hi2
  rw[List.length_range] at hl
  rw[List.getElem_range] at e
  subst e
  refine⟨by show _=(E.run t room).f+((0+j:Nat):Int);rw[Nat.zero_add],?_⟩
  obtain⟨u,hu,uo,uk⟩:=hh ((E.run t room).f+(j:Int)) (by omega) (by omega)
  refine⟨u,hu,uo,?_⟩
  show u.kind=2↔(t.kind==2)=true
  rw[uk]
  simp
 ·show (0:Nat)=if (t.kind==2)=true then 0 else 0
  split<;>rfl
theorem Inv.begin {E:Eng} (h:Inv E) {t:Tk} (ht:E.head t.b=some t) (o:t.out=false) {room:Int} (r0:0≤room) (hr:0<room∨t.needs=false) (hl:(E.ms.length:Int)<E.o.b5):Inv (E.begin_ t room):=by
 obtain⟨ok,c1,c2,c3,c4,_,_,tr⟩:=run_ok h ht o r0 hr
 obtain⟨T,a1,a2,a3,a4,a5,a6,a7,a8,a9,a10⟩:=tr.all
 have bl:=blocks_len ok
 unfold Eng.begin_ Eng.begun
 generalize Eng.alongs E (E.move0 t room) (blocksOf (E.run t room))=q at *
 obtain⟨E2,m⟩:=q
 dsimp only at *
 have kl:(m.ks.length:Int)=m.n:=by
  rw[a1,a5,bl]
  show ((0+(E.run t room).c.toNat:Nat):Int)=(E.run t room).c
  omega
 have iv:=T.iv
 have mt:m.tag=(E.ng:Int)+1:=a2
 rw[←a7]
 refine { iv with tags:=?_,tagr:=λx hx=>?_,mlen:=?_,mok:=λx hx=>?_,mt:=λx hx=>?_,rt:=λk hk=>(by cases hk),nd:=?_,all:=λs hs so=>?_ }
 ·show (E2.ms++[m]).Pairwise _
  rw[List.pairwise_append]
  refine⟨iv.tags,List.pairwise_singleton _ _,λx hx y hy=>?_⟩
  rw[List.mem_singleton.1 hy,mt]
  have:=iv.tagr x hx
  rw[a8] at this
  omega
 ·show 1≤x.tag∧x.tag≤((E.ng+1:Nat):Int)
  rcases List.mem_append.1 hx with q | q
  ·have:=iv.tagr x q
   rw[a8] at this
   omega
  ·rw[List.mem_singleton.1 q,mt];omega
 ·show ((E2.ms++[m]).length:Int)≤E2.o.b5
  rw[List.length_append,List.length_singleton,a6,a7]
  omega
 ·rcases List.mem_append.1 hx with q | q
  ·exact iv.mok x q
  ·rw[List.mem_singleton.1 q]
   show 1≤m.n∧m.n≤E2.o.b6∧0≤m.lo∧m.lo+m.n≤E2.o.b0∧_
   refine⟨by rw[a5];exact c1,by rw[a5,a6];exact c2,by rw[a4];exact c3,by rw[a4,a5,a6];exact c4,kl,?_,T.fs⟩
   rw[T.vs]
   split
   ·exact kl
   ·rfl
 ·rcases List.mem_append.1 hx with q | q
  ·exact iv.mt x q
  ·rw[List.mem_singleton.1 q]
   exact T.rel
 ·show (List.flatMap Mv.ks (E2.ms++[m])++[]).Nodup
  rw[List.append_nil,List.flatMap_append]
  have:=iv.nd
  simpa [Eng.inM] using this
 ·show s.id∈List.flatMap Mv.ks (E2.ms++[m])++[]
  rw[List.append_nil,List.flatMap_append]
  have:=iv.all s hs so
  simpa [Eng.inM] using this
theorem InvX.nextL {room:Int} (r0:0≤room):∀(l:List Int) (ds:List Int) {E:Eng},Inv E→(E.ms.length:Int)<E.o.b5→l.Nodup→(∀x∈l,∃t∈E.ts,t.id=x∧t.out=false)→Inv (E.nextL room ds l).1
 | [],ds,E,h,_,_,_=>h
 | x::r,ds,E,h,hl,nd,hx=>by
  obtain⟨t,ht,rfl,o⟩:=hx x (by simp)
  obtain⟨n1,n2⟩:=List.nodup_cons.1 nd
  have hx2:∀y∈r,∃s∈E.ts,s.id=y∧s.out=false:=λy hy=>hx y (List.mem_cons_of_mem _ hy)
  unfold Eng.nextL
  rw[find16 h.ids ht,Option.getD_some]
  dsimp only
  cases q:E.isHead t with
  | false=>rw[if_neg (by decide)];exact InvX.nextL r0 r ds h hl n2 hx2
  | true =>
   rw[if_pos rfl]
   have hh:=(isHead_iff h ht).1 q
   by_cases k:0<room∨t.needs=false
   ·rw[if_pos k]
    exact h.begin hh o r0 k hl
   ·rw[if_neg k]
    by_cases k3:t.kind=3
    ·rw[if_pos k3,end_drop (h.none3 ht k3)]
     refine InvX.nextL r0 r _ (h.drop_idle ht o) hl n2 (λy hy=>?_)
     obtain⟨s,hs,e,so⟩:=hx2 y hy
     refine⟨s,?_,e,so⟩
     show s∈E.ts.filter (λu=>!(u.id==t.id))
     rw[List.mem_filter]
     refine⟨hs,?_⟩
     have:s.id≠t.id:=λz=>n1 (by rw[←z,e];exact hy)
     simpa using this
    ·rw[if_neg k3]
     exact InvX.nextL r0 r ds h hl n2 hx2
theorem Inv.waits {E:Eng} {ex rest:List Int} (h:InvX E ex rest):(waitL E.qs).Nodup∧∀x∈waitL E.qs,∃t∈E.ts,t.id=x∧t.out=false:=by
 constructor
 ·unfold waitL rowL List.Nodup
  rw[List.pairwise_map]
  refine List.Pairwise.filter _ ?_
  rw[List.pairwise_append]
  refine⟨h.once.filter _,h.once.filter _,λa ha b hb e=>?_⟩
  obtain⟨a1,a2⟩:=List.mem_filter.1 ha
  obtain⟨b1,b2⟩:=List.mem_filter.1 hb
  have:=h.once.inj a1 b1 e
  subst this
  simp at a2 b2
  rw[a2] at b2;cases b2
 ·intro x hx
  unfold waitL at hx
  obtain⟨s,hs,rfl⟩:=List.mem_map.1 hx
  obtain⟨h1,h2⟩:=List.mem_filter.1 hs
  have:s∈E.qs:=by
   rcases List.mem_append.1 h1 with q | q
   ·exact (List.mem_filter.1 q).1
   ·exact (List.mem_filter.1 q).1
  obtain⟨t,ht,rfl⟩:=h.qs1 s this
  exact⟨t,ht,rfl,by simpa [Tk.sl] using h2⟩
theorem Inv.next {E:Eng} (h:Inv E) (room:Int):Inv (E.next room).1:=by
 unfold Eng.next
 by_cases k:E.o.b5≤(E.ms.length:Int)
 ·rw[if_pos k];exact h
 ·rw[if_neg k]
  exact InvX.nextL (by omega) _ _ h (by omega) (Inv.waits h).1 (Inv.waits h).2
def wg (g:List Sx) (b7:Int) (t:Tk):Int:=if 0<(ofL g t.id).length then b7-t.tries else 1
def massL (g:List Sx) (b7:Int):List Tk→Int
 | []=>0
 | t::r=>wg g b7 t+massL g b7 r
def Eng.mass (E:Eng):Int:=massL E.g E.o.b7 E.ts
theorem massL_go (g:List Sx) (b7 x:Int):∀ts:List Tk,massL g b7 (upd ts x Tk.go)=massL g b7 ts
 | []=>rfl
 | t::r=>by
  have h:=massL_go g b7 x r
  have e:wg g b7 (if t.id=x then t.go else t)=wg g b7 t:=by split<;>rfl
  show wg g b7 (if t.id=x then t.go else t)+massL g b7 (upd r x Tk.go)=wg g b7 t+massL g b7 r
  rw[h,e]
theorem come_o (E:Eng) (well:Bool) (x:Int):(E.come well x).o=E.o∧(E.come well x).ms=E.ms:=by
 unfold Eng.come
 split<;>exact⟨rfl,rfl⟩
theorem comes_o (well:Bool):∀(l:List Int) (E:Eng),(E.comes well l).1.o=E.o∧(E.comes well l).1.ms=E.ms
 | [],E=>⟨rfl,rfl⟩
 | x::r,E=>⟨(comes_o well r (E.come well x)).1.trans (come_o E well x).1,(comes_o well r (E.come well x)).2.trans (come_o E well x).2⟩
theorem alongs_mass:∀(l:List Int) (E:Eng) (m:Mv),(E.alongs m l).1.mass=E.mass∧(E.alongs m l).1.o=E.o
 | [],E,m=>⟨rfl,rfl⟩
 | b::r,E,m=>by
  have h:=alongs_mass r (E.along m ((E.head b).getD default)).1 (E.along m ((E.head b).getD default)).2
  refine⟨h.1.trans ?_,h.2.trans rfl⟩
  exact massL_go E.g E.o.b7 _ E.ts
theorem begin_mass (E:Eng) (t:Tk) (room:Int):(E.begin_ t room).mass=E.mass∧(E.begin_ t room).o=E.o∧(E.begin_ t room).ms.length=E.ms.length+1:=by
 have h:=alongs_mass (blocksOf (E.run t room)) E (E.move0 t room)
 refine⟨h.1,h.2,?_⟩
 show (E.ms++[(E.begun t room).2]).length=_
 rw[List.length_append];rfl
theorem rows_len16 (qs:List Sl):(rowL false qs).length+(rowL true qs).length=qs.length:=by
 induction qs with
 | nil=>rfl
 | cons s r ih =>
  unfold rowL at ih ⊢
  rw[List.filter_cons,List.filter_cons]
  cases s.a with
  | true=>rw[if_neg (by decide),if_pos (by decide),List.length_cons,List.length_cons];omega
  | false=>rw[if_pos (by decide),if_neg (by decide),List.length_cons,List.length_cons];omega
theorem InvX.qsLen {E:Eng} {ex rest:List Int} (h:InvX E ex rest):E.qs.length=E.ts.length:=by
 have n1:E.qs.Nodup:=h.once.imp (λ{a b} q e=>q (by rw[e]))
 have n2:(E.ts.map Tk.sl).Nodup:=by
  unfold List.Nodup
  rw[List.pairwise_map]
  refine h.ids.imp (λ{a b} q e=>?_)
  have:a.id=b.id:=congrArg Sl.k e
  omega
 have p:=(List.perm_ext_iff_of_nodup n1 n2).2 (λs=>by
  constructor
  ·intro hs
   obtain⟨t,ht,e⟩:=h.qs1 s hs
   exact List.mem_map.2 ⟨t,ht,e.symm⟩
  ·intro hs
   obtain⟨t,ht,e⟩:=List.mem_map.1 hs
   exact e▸h.qs2 t ht)
 rw[p.length_eq,List.length_map]
theorem InvX.places {E:Eng} {ex rest:List Int} (h:InvX E ex rest):0≤E.fd∧0≤E.fa∧0≤E.fw∧(E.ts.length:Int)=E.o.b3-E.fd+E.o.b4-E.fa:=by
 have a:=h.fewd
 have b:=h.fewa
 have c:=h.good.len
 have d:=h.may
 unfold Opt.MayC at d
 have e:=rows_len16 E.qs
 have f:=h.qsLen
 unfold Eng.fd Eng.fa Eng.fw
 omega
theorem InvX.tsLe {E:Eng} {ex rest:List Int} (h:InvX E ex rest):E.ts.length≤128:=by
 have a:=h.places
 have d:=h.may
 unfold Opt.MayC at d
 have e:=h.fewd
 have f:=h.fewa
 unfold Eng.fd Eng.fa at a
 omega
def bookK (book told:List Wt) (k:Nat):List Wt:=book.filter (λw=>!(told.take k).contains w)
theorem bookK_zero (book told:List Wt):bookK book told 0=book:=by
 unfold bookK
 rw[List.take_zero]
 simp
theorem bookK_len (book told:List Wt) (k:Nat):(bookK book told k).length≤book.length:=List.length_filter_le _ _
theorem erase_filter {l:List Wt} (h:l.Nodup) (x:Wt):l.erase x=l.filter (λw=>!(w==x)):=by
 induction l with
 | nil=>rfl
 | cons a r ih =>
  obtain⟨h1,h2⟩:=List.nodup_cons.1 h
  rw[List.erase_cons,List.filter_cons]
  by_cases e:a=x
  ·subst e
   rw[if_pos (by simp),if_neg (by simp)]
   refine (List.filter_eq_self.2 (λb hb=>?_)).symm
   simp only[Bool.not_eq_true',beq_eq_false_iff_ne,ne_eq]
   exact λq=>h1 (q▸hb)
  ·rw[if_neg (by simpa using e),if_pos (by simpa using e),ih h2]
theorem bookK_step {book told:List Wt} (hb:book.Nodup) (ht:told.Nodup) {k:Nat} {x:Wt} (hx:told[k]? = some x) (hm:x∈book):x∈bookK book told k∧(bookK book told k).erase x=bookK book told (k+1):=by
 have hk:told.take (k+1)=told.take k++[x]:=by rw[List.take_add_one,hx];rfl
 have nx:x∉told.take k:=λq=>by
  have h2:(told.take (k+1)).Nodup:=ht.sublist (List.take_sublist _ _)
  rw[hk] at h2
  have:=(List.nodup_append.1 h2).2.2 x q x (by simp)
  exact this rfl
 refine⟨List.mem_filter.2 ⟨hm,by simpa using nx⟩,?_⟩
 unfold bookK
 rw[erase_filter (hb.filter _),List.filter_filter,hk]
 refine List.filter_congr (λw _=>?_)
 simp only[List.contains_eq_mem,List.mem_append,List.mem_singleton,Bool.decide_or,Bool.not_or]
 rw[Bool.and_comm]
 congr 1
theorem bookK_all {book told:List Wt} (k:Nat) (hk:told.length≤k):bookK book told k=book.filter (λw=>!told.contains w):=by unfold bookK;rw[List.take_of_length_le hk]
theorem mem_of16 {g:List Sx} {t:Int} {w:Wt}:w∈ofL g t↔∃s∈g,s.t=t∧s.w=w:=by
 unfold ofL
 simp[List.mem_map,List.mem_filter,and_assoc]
theorem wt_inj {g:List Sx} (h:(g.map Sx.w).Nodup) {s u:Sx} (hs:s∈g) (hu:u∈g) (e:s.w=u.w):s=u:=by
 induction g with
 | nil=>cases hs
 | cons a r ih =>
  obtain⟨h1,h2⟩:=List.nodup_cons.1 (show (a.w::r.map Sx.w).Nodup from h)
  rcases List.mem_cons.1 hs with rfl | hs'<;>rcases List.mem_cons.1 hu with rfl | hu'
  ·rfl
  ·exact absurd (List.mem_map.2 ⟨u,hu',e.symm⟩) h1
  ·exact absurd (List.mem_map.2 ⟨s,hs',e⟩) h1
  ·exact ih h2 hs' hu'
theorem strike_map {g:List Sx} (told:List Wt) (p:Sx→Bool) (hp:∀s∈g,p s=false↔s.w∈told):(g.map Sx.w).filter (λw=>!told.contains w)=(g.filter p).map Sx.w:=by
 rw[List.filter_map]
 congr 1
 refine List.filter_congr (λs hs=>?_)
 have:=hp s hs
 simp only[Function.comp]
 by_cases q:s.w∈told
 ·rw[this.2 q];simp[q]
 ·cases e:p s with
  | true=>simp[q]
  | false=>exact absurd (this.1 e) q
theorem of_nodup16 {g:List Sx} (h:(g.map Sx.w).Nodup) (t:Int):(ofL g t).Nodup:=h.sublist (List.filter_sublist.map Sx.w)
theorem of_sub16 {g:List Sx} {t:Int} {w:Wt} (h:w∈ofL g t):w∈g.map Sx.w:=by
 obtain⟨s,hs,_,e⟩:=mem_of16.1 h
 exact List.mem_map.2 ⟨s,hs,e⟩
def Eng.book (E:Eng):List Wt:=E.g.map Sx.w
theorem InvX.bookN {E:Eng} {ex rest:List Int} (h:InvX E ex rest):E.book.Nodup:=h.good.once
structure Struck (E E':Eng) (told:List Wt):Prop where
 nd:told.Nodup
 sub:∀w∈told,w∈E.book
 eq:E.book.filter (λw=>!told.contains w)=E'.book
theorem Struck.none {E E':Eng} (h:E'.g=E.g):Struck E E' []:=⟨List.nodup_nil,λw hw=>(by cases hw),by
 unfold Eng.book
 rw[h]
 simp⟩
theorem Struck.done {E E':Eng} {told:List Wt} (h:Struck E E' told) (k:Nat) (hk:told.length≤k):bookK E.book told k=E'.book:=by rw[bookK_all k hk];exact h.eq
theorem Struck.trans {A B C:Eng} {u v:List Wt} (h:Struck A B u) (k:Struck B C v):Struck A C (u++v):=by
 have hv:∀w∈v,w∈A.book∧w∉u:=λw hw=>by
  have:=k.sub w hw
  rw[←h.eq] at this
  have:=List.mem_filter.1 this
  exact⟨this.1,by simpa using this.2⟩
 refine⟨List.nodup_append.2 ⟨h.nd,k.nd,λa ha b hb e=>(hv b hb).2 (e▸ha)⟩,λw hw=>?_,?_⟩
 ·rcases List.mem_append.1 hw with q | q
  ·exact h.sub w q
  ·exact (hv w q).1
 ·rw[←k.eq,←h.eq,List.filter_filter]
  refine List.filter_congr (λw _=>?_)
  simp only[List.contains_eq_mem,List.mem_append,Bool.decide_or,Bool.not_or]
  rw[Bool.and_comm]
theorem Struck.take {E E':Eng} {x:Int} (hb:E.book.Nodup) (h:E'.g=leftT E.g x):Struck E E' (ofL E.g x):=by
 refine⟨of_nodup16 hb x,λw hw=>of_sub16 hw,?_⟩
 unfold Eng.book
 rw[h]
 refine strike_map _ _ (λs hs=>?_)
 constructor
 ·intro e
  exact mem_of16.2 ⟨s,hs,by simpa using e,rfl⟩
 ·intro e
  obtain⟨u,hu,e1,e2⟩:=mem_of16.1 e
  rw[wt_inj hb hu hs e2] at e1
  simpa using e1
theorem Struck.req {E E':Eng} {r:Int} (hb:E.book.Nodup) (h:E'.g=leftR E.g r):Struck E E' (E.book.filter (λw=>decide (w.r=r))):=by
 refine⟨hb.filter _,λw hw=>(List.mem_filter.1 hw).1,?_⟩
 unfold Eng.book
 rw[h]
 refine strike_map _ _ (λs hs=>?_)
 constructor
 ·intro e
  exact List.mem_filter.2 ⟨List.mem_map.2 ⟨s,hs,rfl⟩,by simpa using e⟩
 ·intro e
  have:=(List.mem_filter.1 e).2
  simpa using this
theorem read_book (E:Eng) (b l:Int) (w:Wt):(E.read b l w).book=if E.readC b l w=0 then E.book++[w] else E.book:=by
 unfold Eng.read
 split
 ·unfold Eng.readB Eng.book
  split
  ·split<;>exact List.map_append
  ·exact List.map_append
 ·rfl
theorem write_book (E:Eng) (b v:Int) (w:Wt):(E.write b v w).book=if E.writeC b w=0 then E.book++[w] else E.book:=by
 unfold Eng.write
 split
 ·unfold Eng.writeB Eng.book
  split<;>exact List.map_append
 ·rfl
theorem ahead_g (E:Eng) (b:Int):(E.ahead b).g=E.g:=by unfold Eng.ahead;split<;>rfl
theorem cutE_g (E:Eng) (b:Int):(E.cutE b).g=E.g:=by
 unfold Eng.cutE
 split
 ·rfl
 ·split<;>rfl
theorem alongs_g:∀(l:List Int) (E:Eng) (m:Mv),(E.alongs m l).1.g=E.g
 | [],E,m=>rfl
 | b::r,E,m=>alongs_g r (E.along m ((E.head b).getD default)).1 _
theorem nextL_g (room:Int):∀(l:List Int) (E:Eng) (ds:List Int),(E.nextL room ds l).1.g=E.g
 | [],E,ds=>rfl
 | x::r,E,ds=>by
  unfold Eng.nextL
  dsimp only
  split
  ·split
   ·exact alongs_g _ _ _
   ·split
    ·exact nextL_g room r _ _
    ·exact nextL_g room r _ _
  ·exact nextL_g room r _ _
theorem next_g (E:Eng) (room:Int):(E.next room).1.g=E.g:=by
 unfold Eng.next
 split
 ·rfl
 ·exact nextL_g _ _ _ _
theorem quitL_g:∀(l:List Int) (E:Eng),(E.quitL l).g=E.g
 | [],E=>rfl
 | x::r,E=>by
  show (Eng.quitL (if gone16 E x then E.end_ x else E) r).g=E.g
  rw[quitL_g r]
  split<;>rfl
theorem quit_struck {E:Eng} (h:Inv E) (r:Int):Struck E (E.quit r) (if E.quitC r=0 then E.book.filter (λw=>decide (w.r=r)) else []):=by
 unfold Eng.quit
 split
 ·exact Struck.req h.bookN (quitL_g _ _)
 ·exact Struck.none rfl
theorem serve_struck {E:Eng} (h:Inv E) (b:Int):Struck E (E.serve b) (if serves (E.head b) then ofL E.g ((E.head b).getD default).id else []):=by
 unfold Eng.serve
 split
 ·exact Struck.take h.bookN rfl
 ·exact Struck.none rfl
theorem come_struck {E:Eng} {x:Int} {r:List Int} (h:InvX E [] (x::r)) (well:Bool):Struck E (E.come well x) (E.outc well x).ws:=by
 unfold Eng.come Eng.outc
 dsimp only
 split
 ·exact Struck.none rfl
 ·exact Struck.take h.bookN rfl
theorem comes_struck {well:Bool}:∀(r:List Int) {E:Eng},InvX E [] r→Struck E (E.comes well r).1 ((E.comes well r).2.flatMap (·.ws))
 | [],E,h=>Struck.none rfl
 | x::r,E,h=>(come_struck h well).trans (comes_struck r (h.come well))
theorem finish_struck {E:Eng} (h:Inv E) (tag:Int) (well:Bool):Struck E (E.finish tag well) ((E.finishO tag well).flatMap (·.ws)):=by
 unfold Eng.finish Eng.finishO
 cases q:at17 E.ms tag with
 | none=>exact Struck.none rfl
 | some m =>
  obtain⟨hm,rfl⟩:=at17_some q
  have k:=comes_struck (well:=well) m.ks (h.home hm)
  exact⟨k.nd,k.sub,k.eq⟩
def cntS (E:Eng) (k:Nat):Nat:=((E.ts.take k).map (λt=>(ofL E.g t.id).length)).sum
theorem cntS_step {E:Eng} {k:Nat} {t:Tk} (h:E.ts[k]? = some t):cntS E (k+1)=cntS E k+(ofL E.g t.id).length:=by
 unfold cntS
 rw[List.take_add_one,h]
 simp
theorem sum_of {ts:List Tk}:∀{g:List Sx},ts.Pairwise (λa b=>a.id<b.id)→(∀x∈g,∃t∈ts,t.id=x.t)→((ts.map (λt=>(ofL g t.id).length)).sum:Nat)=g.length:=by
 induction ts with
 | nil =>
  intro g _ h
  cases g with
  | nil=>rfl
  | cons a r=>obtain⟨t,ht,_⟩:=h a (by simp);cases ht
 | cons t r ih =>
  intro g hp h
  obtain⟨h1,h2⟩:=List.pairwise_cons.1 hp
  have e:(r.map (λs=>(ofL g s.id).length))=(r.map (λs=>(ofL (leftT g t.id) s.id).length)):=List.map_congr_left (λs hs=>by
   rw[of_other g (show s.id≠t.id from λq=>by have:=h1 s hs;omega)])
  rw[List.map_cons,List.sum_cons,e,ih h2 (λx hx=>by
   obtain⟨hx1,hx2⟩:=List.mem_filter.1 hx
   obtain⟨s,hs,es⟩:=h x hx1
   rcases List.mem_cons.1 hs with rfl | q
   ·exact absurd es.symm (by simpa using hx2)
   ·exact⟨s,q,es⟩)]
  have:=take_frees g t.id
  omega
theorem cntS_all {E:Eng} (h:Inv E):cntS E E.ts.length=E.book.length:=by
 unfold cntS
 rw[List.take_length,sum_of h.ids (λx hx=>by obtain⟨t,ht,e,_⟩:=h.g1 x hx;exact⟨t,ht,e⟩)]
 exact (List.length_map _).symm
theorem cntS_mono (E:Eng):∀(k j:Nat),k≤j→cntS E k≤cntS E j:=by
 intro k j h
 induction h with
 | refl=>exact Nat.le_refl _
 | step h ih =>
  rename_i m
  refine Nat.le_trans ih ?_
  cases q:E.ts[m]? with
  | none =>
   unfold cntS
   rw[List.take_add_one,q]
   simp
  | some t=>rw[cntS_step q];exact Nat.le_add_right _ _
theorem cntS_le {E:Eng} (h:Inv E) {k:Nat} (hk:k≤E.ts.length):cntS E k≤E.book.length:=by
 rw[←cntS_all h]
 exact cntS_mono E _ _ hk
theorem book_le {E:Eng} (h:Inv E):E.book.length≤64:=by
 have h1:=h.good.len
 have h2:=h.good.high
 unfold Eng.book
 rw[List.length_map]
 omega
def Eng.act (E:Eng) (a:ActF):Eng:=
 if a.kind=0 then E.read a.a a.b a.w else if a.kind=1 then E.write a.a a.v a.w else if a.kind=2 then E.ahead a.a else if a.kind=3 then E.cutE a.a else if a.kind=4 then E.quit a.a else if a.kind=5 then (E.next a.a).1 else if a.kind=6 then E.finish a.a a.well else if a.kind=7 then E.serve a.a else E
theorem read_o (E:Eng) (b l:Int) (w:Wt):(E.read b l w).o=E.o:=by
 unfold Eng.read
 split
 ·unfold Eng.readB
  split
  ·split<;>rfl
  ·rfl
 ·rfl
theorem write_o (E:Eng) (b v:Int) (w:Wt):(E.write b v w).o=E.o:=by
 unfold Eng.write
 split
 ·unfold Eng.writeB
  split<;>rfl
 ·rfl
theorem ahead_o (E:Eng) (b:Int):(E.ahead b).o=E.o:=by unfold Eng.ahead;split<;>rfl
theorem cutE_o (E:Eng) (b:Int):(E.cutE b).o=E.o:=by
 unfold Eng.cutE
 split
 ·rfl
 ·split<;>rfl
theorem serve_o (E:Eng) (b:Int):(E.serve b).o=E.o:=by unfold Eng.serve;split<;>rfl
theorem quitL_o:∀(l:List Int) (E:Eng),(E.quitL l).o=E.o
 | [],E=>rfl
 | x::r,E=>by
  show (Eng.quitL (if gone16 E x then E.end_ x else E) r).o=E.o
  rw[quitL_o r]
  split<;>rfl
theorem quit_o (E:Eng) (r:Int):(E.quit r).o=E.o:=by
 unfold Eng.quit
 split
 ·exact quitL_o _ _
 ·rfl
theorem nextL_o (room:Int):∀(l:List Int) (E:Eng) (ds:List Int),(E.nextL room ds l).1.o=E.o
 | [],E,ds=>rfl
 | x::r,E,ds=>by
  unfold Eng.nextL
  dsimp only
  split
  ·split
   ·exact (begin_mass _ _ _).2.1
   ·split
    ·exact nextL_o room r _ _
    ·exact nextL_o room r _ _
  ·exact nextL_o room r _ _
theorem next_o (E:Eng) (room:Int):(E.next room).1.o=E.o:=by
 unfold Eng.next
 split
 ·rfl
 ·exact nextL_o _ _ _ _
theorem finish_o (E:Eng) (tag:Int) (well:Bool):(E.finish tag well).o=E.o:=by
 unfold Eng.finish
 split
 ·exact (comes_o _ _ _).1
 ·rfl
theorem act_o (E:Eng) (a:ActF):(E.act a).o=E.o:=by
 unfold Eng.act
 repeat' split
 ·exact read_o _ _ _ _
 ·exact write_o _ _ _ _
 ·exact ahead_o _ _
 ·exact cutE_o _ _
 ·exact quit_o _ _
 ·exact next_o _ _
 ·exact finish_o _ _ _
 ·exact serve_o _ _
 ·rfl
end Go.Proofs.YtfbpjobobdidiaaGreatDoor
namespace Go.Proofs.YtfbpjobobdidiaaGreatDoor
open Lib (hid)
open Go.Proofs.Tryz
open Go.RowKit
set_option linter.unusedVariables false
theorem lefts0 (a:Option Addr) (n k:Nat) (w:World):Calls prog 43 #[.slice a n k,.slice none 0 0] w λe w'=>e=.returned (.bool (decide (n=0)))∧w=w':=by
 by_cases h:n=0
 ·subst h
  go_enter func43,ntmps43
  go_wp2_with fail
  go_loopw [5] (λi wr=>i=.int .i64 0∧w=wr) (λ_ _=>0)
  case atStart=>exact⟨rfl,rfl⟩
  case round =>
   obtain⟨rfl,rfl⟩:=hrel
   go_wp2_with fail
   go_ret
   exact⟨rfl,rfl⟩
 ·have D:=hid (show decide (n=0)=false from decide_eq_false h)
  have t:((n:Int) != 0)=true:=by simpa using h
  go_enter func43,ntmps43
  go_wp2_with fail
  go_ret
  exact⟨by rw[D.out];rfl,rfl⟩
theorem outcomes0 (a:Option Addr) (n k:Nat) (w:World):Calls prog 47 #[.slice a n k,.slice none 0 0] w λe w'=>e=.returned (.bool (decide (n=0)))∧w=w':=by
 by_cases h:n=0
 ·subst h
  go_enter func47,ntmps47
  go_wp2_with fail
  go_loopw [5] (λi wr=>i=.int .i64 0∧w=wr) (λ_ _=>0)
  case atStart=>exact⟨rfl,rfl⟩
  case round =>
   obtain⟨rfl,rfl⟩:=hrel
   go_wp2_with fail
   go_ret
   exact⟨rfl,rfl⟩
 ·have D:=hid (show decide (n=0)=false from decide_eq_false h)
  have t:((n:Int) != 0)=true:=by simpa using h
  go_enter func47,ntmps47
  go_wp2_with fail
  go_ret
  exact⟨by rw[D.out];rfl,rfl⟩
theorem same0 (a:Option Addr) (n k:Nat) (w:World):Calls prog 29 #[.slice a n k,.slice none 0 0] w λe w'=>e=.returned (.bool (decide (n=0)))∧w=w':=by
 by_cases h:n=0
 ·subst h
  go_enter func29,ntmps29
  go_wp2_with fail
  go_loopw [5] (λi wr=>i=.int .i64 0∧w=wr) (λ_ _=>0)
  case atStart=>exact⟨rfl,rfl⟩
  case round =>
   obtain⟨rfl,rfl⟩:=hrel
   go_wp2_with fail
   go_ret
   exact⟨rfl,rfl⟩
 ·have D:=hid (show decide (n=0)=false from decide_eq_false h)
  have t:((n:Int) != 0)=true:=by simpa using h
  go_enter func29,ntmps29
  go_wp2_with fail
  go_ret
  exact⟨by rw[D.out];rfl,rfl⟩
theorem eqb_run (a b:Int) (w:World):(Op.equalIn 10000 43 (.agg #[.int .i64 a,.int .i64 b]) (.agg #[.int .i64 0,.int .i64 0])).run prog w=.ok (a==0&&b==0) w:=by
 simp[go_sem]
 by_cases h1:a=0<;>by_cases h2:b=0<;>simp[h1,h2]
theorem ints0 (a:Option Addr) (n k:Nat) (w:World):Calls prog 28 #[.slice a n k,.slice none 0 0] w λe w'=>e=.returned (.bool (decide (n=0)))∧w=w':=by
 by_cases h:n=0
 ·subst h
  go_enter func28,ntmps28
  go_wp2_with fail
  go_loopw [5] (λi wr=>i=.int .i64 0∧w=wr) (λ_ _=>0)
  case atStart=>exact⟨rfl,rfl⟩
  case round =>
   obtain⟨rfl,rfl⟩:=hrel
   go_wp2_with fail
   go_ret
   exact⟨rfl,rfl⟩
 ·have D:=hid (show decide (n=0)=false from decide_eq_false h)
  have t:((n:Int) != 0)=true:=by simpa using h
  go_enter func28,ntmps28
  go_wp2_with fail
  go_ret
  exact⟨by rw[D.out];rfl,rfl⟩
set_option maxHeartbeats 2000000 in
theorem move0 (tag lo c:Int) (wr:Bool) (a1 a2 a3:Option Addr) (n1 n2 n3 k1 k2 k3:Nat) (w:World) :
  Calls prog 45 #[.agg #[.int .i64 tag,.bool wr,.int .i64 lo,.int .i64 c,.slice a1 n1 k1,.slice a2 n2 k2,.slice a3 n3 k3],.agg #[.int .i64 0,.bool false,.int .i64 0,.int .i64 0,.slice none 0 0,.slice none 0 0,.slice none 0 0]] w λe w'=>∃b:Bool,e=.returned (.bool b)∧Only n_ w w':=by
 have ER:=eqb_run lo c
 have IA:=hid (λw=>ints0 a1 n1 k1 w)
 have IB:=hid (λw=>ints0 a3 n3 k3 w)
 generalize decide (n1=0)=d1 at *
 generalize decide (n3=0)=d3 at *
 by_cases h:n2=0
 ·subst h
  have tt:(tag==0)=true∨(tag==0)=false:=by cases (tag==0)<;>simp
  obtain⟨lc,hl⟩:∃lc,(lo==0&&c==0)=lc:=⟨_,rfl⟩
  rw[hl] at ER
  clear hl
  go_enter func45,ntmps45
  go_wp2_with fail
  obtain⟨W1,hW1⟩:∃W1,W1=(w.alloc (.cells #[.int .i64 tag,.bool wr,.int .i64 lo,.int .i64 c,.slice a1 n1 k1,.slice a2 0 k2,.slice a3 n3 k3] 47)).alloc (.cells #[.int .i64 0,.bool false,.int .i64 0,.int .i64 0,.slice none 0 0,.slice none 0 0,.slice none 0 0] 47):=⟨_,rfl⟩
  have o1:Only n_ w W1:=by rw[hW1];exact ((Only.refl _ _).alloc _).alloc _
  have r1:Row W1 w.heap.size 47 #[.int .i64 tag,.bool wr,.int .i64 lo,.int .i64 c,.slice a1 n1 k1,.slice a2 0 k2,.slice a3 n3 k3]:=by rw[hW1];exact (Row.fresh _ _ _).alloc _
  have r2:Row W1 (w.heap.size+1) 47 #[.int .i64 0,.bool false,.int .i64 0,.int .i64 0,.slice none 0 0,.slice none 0 0,.slice none 0 0]:=by
   rw[hW1]
   have r:=Row.fresh (w.alloc (.cells #[.int .i64 tag,.bool wr,.int .i64 lo,.int .i64 c,.slice a1 n1 k1,.slice a2 0 k2,.slice a3 n3 k3] 47)) 47 #[.int .i64 0,.bool false,.int .i64 0,.int .i64 0,.slice none 0 0,.slice none 0 0,.slice none 0 0]
   rw[World.size_alloc] at r
   exact r
  have O1:=hid o1
  rw[←hW1]
  clear hW1 o1
  obtain⟨x0,x1,x2,x3,x4,x5,x6⟩:=sevenR r1
  obtain⟨y0,y1,y2,y3,y4,y5,y6⟩:=sevenR r2
  clear r1 r2
  generalize w.heap.size+1=gb at *
  generalize w.heap.size=ga at *
  go_loopw [5] (λi wr=>i=.int .i64 0∧W1=wr) (λ_ _=>0)
  case atStart=>exact⟨rfl,rfl⟩
  case round =>
   obtain⟨rfl,rfl⟩:=hrel
   rcases tt with tt | tt
   ·cases wr
    ·cases lc
     ·go_wp2_with fail
      go_ret
      exact⟨_,rfl,O1.out⟩
     ·cases d1
      ·go_wp2_with fail
       (with_reducible refine (IA.out _).mono ?_)
       rintro e w2 ⟨rfl,rfl⟩
       go_wp2_with fail
       go_ret
       exact⟨_,rfl,O1.out⟩
      ·go_wp2_with fail
       (with_reducible refine (IA.out _).mono ?_)
       rintro e w2 ⟨rfl,rfl⟩
       go_wp2_with fail
       (with_reducible refine (IB.out _).mono ?_)
       rintro e w3 ⟨rfl,rfl⟩
       go_wp2_with fail
       go_ret
       exact⟨_,rfl,O1.out⟩
    ·go_wp2_with fail
     go_ret
     exact⟨_,rfl,O1.out⟩
   ·go_wp2_with fail
    go_ret
    exact⟨_,rfl,O1.out⟩
 ·have t:((n2:Int) != 0)=true:=by simpa using h
  go_enter func45,ntmps45
  go_wp2_with fail
  go_ret
  exact⟨_,rfl,((Only.refl n_ w).alloc _).alloc _⟩
end Go.Proofs.YtfbpjobobdidiaaGreatDoor
