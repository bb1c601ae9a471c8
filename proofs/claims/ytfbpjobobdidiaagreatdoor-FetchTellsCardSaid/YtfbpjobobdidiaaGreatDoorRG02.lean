/- Texts of the layers below, one behind the other. -/
import Derived.Test.YtfbpjobobdidiaaGreatDoorRG01
import Derived.Shelf.AbstractIn
import Derived.Maps.OwnIn
import Derived.DeepKeys4
import Derived.Sort.WalkA
import Derived.Sort.WalkB2
import Derived.Sort.WalkC4
import Derived.Sort.WalkA6
import Derived.Deep.RegionHeld3
import Derived.Deep.Cut
set_option maxRecDepth 100000
set_option maxHeartbeats 4000000
namespace Go.Proofs.YtfbpjobobdidiaaGreatDoor
open Lib (hid)
open Go.Proofs.Tryz
open Go.RowKit
set_option linter.unusedVariables false
theorem ints16_any (v u:Value) (xs ys:List Int) (w:World) (hx:Reads w v xs) (hy:Reads w u ys) (hm:xs.length≤1000000) (hm2:ys.length≤1000000) :
  Calls prog 28 #[v,u] w λe w'=>e=.returned (.bool (decide (xs=ys)))∧Only n_ w w':=by
 obtain⟨a,ca,rfl,ha⟩:=hx
 obtain⟨b,cb,rfl,hb⟩:=hy
 by_cases hl:xs.length=ys.length
 ·have HA:=hid ha
  have HB:=hid hb
  have t:((xs.length:Int) != (ys.length:Int))=false:=by simp[hl]
  have HL:=hid hl
  clear ha hb
  have hl':xs.length≤ys.length:=by omega
  clear hl
  go_enter func28,ntmps28
  go_wp2_with fail
  go_loopw [5] (λi wr=>∃k:Nat,k≤xs.length∧i=.int .i64 k∧Only n_ w wr∧∀j,j<k→xs[j]? = ys[j]?) (λi _=>xs.length-(intOf i).toNat)
  case atStart=>exact⟨0,Nat.zero_le _,rfl,Only.refl _ _,λj hj=>by omega⟩
  case round =>
   obtain⟨k,hk,rfl,o,eq⟩:=hrel
   have O:=hid o
   have EQ:=hid eq
   clear o eq
   by_cases hlt:k<xs.length
   ·obtain⟨x,hx⟩:∃x,xs[k]? = some x:=⟨_,List.getElem?_eq_getElem hlt⟩
    have hlt2:k<ys.length:=by omega
    obtain⟨y,hy⟩:∃y,ys[k]? = some y:=⟨_,List.getElem?_eq_getElem hlt2⟩
    obtain⟨g1,o1,rfl,c1⟩:=HA.out k x hx
    obtain⟨g2,o2,rfl,c2⟩:=HB.out k y hy
    have d1:=O.out.cell c1 (λs=>s)
    have d2:=O.out.cell c2 (λs=>s)
    have HX:=hid hx
    have HY:=hid hy
    clear hx hy c1 c2 HA HB
    by_cases e:x=y
    ·have t2:(x != y)=false:=by simp[e]
     have E2:=hid e
     clear e
     go_wp2_with fail
     go_quiet (fail)
     go_wp2_with fail
     go_roundw
     case rel=>exact⟨k+1,by omega,by go_num,O.out.drewN _,λj hj=>by
      rcases Nat.lt_or_ge j k with c | c
      ·exact EQ.out j c
      ·obtain rfl:j=k:=by omega
       rw[HX.out,HY.out,E2.out]⟩
     case measure=>simp[intOf];omega
    ·have t2:(x != y)=true:=by simpa using e
     have NE:=hid (show decide (xs=ys)=false from by
      have:¬ xs=ys:=λq=>by
       have:=HX.out
       rw[q,HY.out] at this
       injection this with this
       exact e this.symm
      simpa using this)
     clear e
     go_wp2_with fail
     go_quiet (fail)
     go_wp2_with fail
     go_ret
     exact⟨by rw[NE.out];rfl,O.out.drewN _⟩
   ·have YE:=hid (show decide (xs=ys)=true from by
     have:xs=ys:=eq_upto HL.out (λj hj=>EQ.out j (by omega))
     simpa using this)
    have hge:xs.length≤k:=by omega
    go_wp2_with fail
    go_ret
    exact⟨by rw[YE.out];rfl,O.out⟩
 ·have t:((xs.length:Int) != (ys.length:Int))=true:=by simp;omega
  have NE:=hid (show decide (xs=ys)=false from by
   have:¬ xs=ys:=λq=>hl (by rw[q])
   simpa using this)
  clear ha hb hl
  go_enter func28,ntmps28
  go_wp2_with fail
  go_ret
  exact⟨by rw[NE.out];rfl,Only.refl _ _⟩
end Go.Proofs.YtfbpjobobdidiaaGreatDoor
namespace Go.Proofs.YtfbpjobobdidiaaGreatDoor
open Lib (hid)
open Go.Proofs.Tryz
open Go.RowKit Go.Maps
set_option linter.unusedVariables false
def anyE (v:Value):Option (DataW Value × List MemPlace):=some (.held v,[])
theorem anyE_mk (v:Value):anyE v=some (.held v,[]):=rfl
theorem anyE_inv {v:Value} {y:DataW Value × List MemPlace} (h:anyE v=some y):y=(.held v,[]):=(Option.some.inj h).symm
abbrev Ent:=Int × Value
def hasV (es:List Ent) (x:Int):Bool:=es.any (λp=>p.1==x)
theorem hasV_iff {es:List Ent} {x:Int}:hasV es x=true↔∃p∈es,p.1=x:=by
 unfold hasV
 rw[List.any_eq_true]
 simp
def atV (z:Value) (es:List Ent) (x:Int):Value:=match es.find? (λp=>p.1==x) with | some p=>p.2 | none=>z
def OnceV (es:List Ent):Prop:=es.Pairwise (λa b=>a.1≠b.1)
theorem OnceV.inj:∀{ss:List Ent},OnceV ss→∀{a b:Ent},a∈ss→b∈ss→a.1=b.1→a=b
 | [],_,_,_,ha,_,_=>by cases ha
 | s::r,h,a,b,ha,hb,e=>by
  have h':=List.pairwise_cons.1 h
  rcases List.mem_cons.1 ha with rfl | ha'
  ·rcases List.mem_cons.1 hb with rfl | hb'
   ·rfl
   ·exact absurd e (h'.1 b hb')
  ·rcases List.mem_cons.1 hb with rfl | hb'
   ·exact absurd e.symm (h'.1 a ha')
   ·exact OnceV.inj (show OnceV r from h'.2) ha' hb' e
theorem OnceV.keys {es:List Ent} (h:OnceV es):(es.map (·.1)).Nodup:=by
 unfold List.Nodup
 rw[List.pairwise_map]
 exact h
theorem atV_of {z:Value} {es:List Ent} (o:OnceV es) {p:Ent} (hp:p∈es):atV z es p.1=p.2:=by
 unfold atV
 cases hf:es.find? (λq=>q.1==p.1) with
 | none=>exact absurd (List.find?_eq_none.1 hf p hp) (by simp)
 | some q =>
  have h1:=List.find?_some hf
  have h2:=List.mem_of_find?_eq_some hf
  rw[o.inj h2 hp (by simpa using h1)]
theorem atV_no {z:Value} {es:List Ent} {x:Int} (h:hasV es x=false):atV z es x=z:=by
 unfold atV
 rw[List.find?_eq_none.2 (λp hp=>by
  intro q
  have:hasV es x=true:=hasV_iff.2 ⟨p,hp,by simpa using q⟩
  rw[h] at this;cases this)]
def ReadsV (D:DataW Value) (es:List Ent):Prop:=(∀x,has D (.int .i64 x)=hasV es x)∧∀p∈es,∀z,D.atKey (.int .i64 p.1) z=.held p.2
theorem ReadsV.nil:ReadsV (.map []) []:=⟨λ_=>rfl,λ_ h=>by cases h⟩
theorem ReadsV.put {D:DataW Value} {ps:List Ent} (h:ReadsV D ps) (m:IsMap D) (x:Int) (v:Value) (hx:hasV ps x=false):ReadsV (D.put (.int .i64 x) (.held v)) (ps++[(x,v)]):=by
 have hx':∀e∈ps,e.1≠x:=λe he q=>by
  have:hasV ps x=true:=hasV_iff.2 ⟨e,he,q⟩
  rw[hx] at this;cases this
 refine⟨λy=>?_,λe he z=>?_⟩
 ·by_cases k:y=x
  ·subst k
   rw[has_put_same m (keyI _)]
   simp[hasV]
  ·rw[has_put_other (lit_ne k),h.1]
   have:(x==y)=false:=by simp;exact λq=>k q.symm
   simp[hasV,this]
 ·rcases List.mem_append.1 he with he' | he'
  ·rw[atKey_put_other (lit_ne (hx' e he'))]
   exact h.2 e he' z
  ·rw[List.mem_singleton.1 he',atKey_put_same m (keyI _)]
def cutV (es:List Ent) (x:Int):List Ent:=es.filter (λp=>!(p.1==x))
theorem cutV_mem {es:List Ent} {x:Int} {p:Ent}:p∈cutV es x↔p∈es∧p.1≠x:=by
 unfold cutV
 rw[List.mem_filter]
 simp
theorem OnceV.cut {es:List Ent} (h:OnceV es) (x:Int):OnceV (cutV es x):=h.filter _
theorem OnceV.more {es:List Ent} (h:OnceV es) (x:Int) (v:Value) (hx:hasV es x=false):OnceV (es++[(x,v)]):=by
 unfold OnceV
 rw[List.pairwise_append]
 refine⟨h,List.pairwise_singleton _ _,λa ha c hc=>?_⟩
 rw[List.mem_singleton.1 hc]
 rintro e
 have:hasV es x=true:=hasV_iff.2 ⟨a,ha,e⟩
 rw[hx] at this;cases this
theorem ReadsV.del {D:DataW Value} {ps:List Ent} (h:ReadsV D ps) (x:Int):ReadsV (D.del (.int .i64 x)) (cutV ps x):=by
 refine⟨λy=>?_,λe he z=>?_⟩
 ·by_cases k:y=x
  ·subst k
   rw[has_del_same]
   cases hq:hasV (cutV ps y) y with
   | false=>rfl
   | true =>
    obtain⟨p,hp,e⟩:=hasV_iff.1 hq
    exact absurd e (cutV_mem.1 hp).2
  ·rw[has_del_other (lit_ne k),h.1,Bool.eq_iff_iff,hasV_iff,hasV_iff]
   constructor
   ·rintro ⟨p,hp,rfl⟩
    exact⟨p,cutV_mem.2 ⟨hp,k⟩,rfl⟩
   ·rintro ⟨p,hp,rfl⟩
    exact⟨p,(cutV_mem.1 hp).1,rfl⟩
 ·have he':=cutV_mem.1 he
  rw[atKey_del_other (lit_ne he'.2)]
  exact h.2 e he'.1 z
theorem ReadsV.look {D:DataW Value} {ps:List Ent} (h:ReadsV D ps) (o:OnceV ps) (x:Int) (z:Value):D.atKey (.int .i64 x) (.held z)=.held (atV z ps x):=by
 cases hc:hasV ps x with
 | true =>
  obtain⟨p,hp,rfl⟩:=hasV_iff.1 hc
  rw[h.2 p hp,atV_of o hp]
 | false =>
  have:=h.1 x
  rw[hc] at this
  rw[atKey_of_not_has this,atV_no hc]
theorem key_intV {w:World} {b n:Nat} {D:DataW Value} (h:w.ownsMap prog 3 anyE b n D):∀kl,has D kl=true→∃x,kl=.int .i64 x:=by
 intro kl hk
 obtain⟨es,clock,hb,F,_,rfl⟩:=h
 obtain⟨p,hp,hpk⟩:=List.any_eq_true.1 hk
 obtain⟨x,hx,rfl⟩:=List.mem_map.1 (mem_sorted.1 hp)
 obtain⟨y,hy⟩:=F.reads x hx
 rw[WideElems.rg_of hy] at hpk
 obtain⟨a,_,e2,_⟩:=keyOf_int_inv underlying3 (WideElems.rd_key hy)
 have:=WideAt.sameKey_eq hpk
 exact⟨a,by rw[←this,e2]⟩
theorem tightV {w:World} {b n:Nat} {D:DataW Value} (h:w.ownsMap prog 3 anyE b n D):w.ownsMap prog 3 anyE b (size D) D:=by
 obtain⟨es,clock,hb,F,_,rfl⟩:=h
 exact⟨es,clock,hb,F,by rw[size_eq,length_sorted];simp,rfl⟩
theorem ReadsV.size {w:World} {b n:Nat} {D:DataW Value} {ss:List Ent} (h:ReadsV D ss) (o:w.ownsMap prog 3 anyE b n D) (hn:OnceV ss):size D=ss.length:=by
 have KI:=key_intV o
 obtain⟨ps,rfl,hp,hk⟩:=o.entries lawI
 show ps.length=ss.length
 have e1:(ps.map (λp=>match p.1 with | .int .i64 x=>x | _=>0)).length=ps.length:=List.length_map _
 have e2:(ss.map (λe=>e.1)).length=ss.length:=List.length_map _
 rw[←e1,←e2]
 have hi:∀p∈ps,∃x,p.1=.int .i64 x:=λp hp'=>KI p.1 (List.any_eq_true.2 ⟨p,hp',WideAt.sameKey_self (hk p hp')⟩)
 refine same_len ?_ hn.keys ?_
 ·unfold List.Nodup
  rw[List.pairwise_map]
  refine hp.imp_of_mem ?_
  intro p q hp1 hq1 hne e
  obtain⟨x,hx⟩:=hi p hp1
  obtain⟨y,hy⟩:=hi q hq1
  simp only[hx,hy] at e
  exact hne (by rw[hx,hy,e])
 ·intro x
  have h1:=h.1 x
  constructor
  ·intro hm
   obtain⟨p,hp1,e⟩:=List.mem_map.1 hm
   obtain⟨y,hy⟩:=hi p hp1
   simp only[hy] at e
   subst e
   have:has (DataW.map ps) (.int .i64 y)=true:=List.any_eq_true.2 ⟨p,hp1,by rw[hy];exact WideAt.sameKey_self (keyI _)⟩
   rw[h1] at this
   obtain⟨a,ha,e⟩:=hasV_iff.1 this
   exact List.mem_map.2 ⟨a,ha,e⟩
  ·intro hm
   obtain⟨a,ha,e⟩:=List.mem_map.1 hm
   rw[hasV_iff.2 ⟨a,ha,e⟩] at h1
   obtain⟨p,hp1,hpk⟩:=List.any_eq_true.1 h1
   have:=WideAt.sameKey_eq hpk
   exact List.mem_map.2 ⟨p,hp1,by simp only[this]⟩
def Mg (w:World) (b:Nat) (es:List Ent):Prop:=OnceV es∧∃D,w.ownsMap prog 3 anyE b es.length D∧ReadsV D es
theorem Mg.of {w:World} {b n:Nat} {D:DataW Value} {es:List Ent} (o:w.ownsMap prog 3 anyE b n D) (h:ReadsV D es) (hn:OnceV es):Mg w b es:=
 ⟨hn,D,by rw[←h.size o hn];exact tightV o,h⟩
theorem owns_keepV {w w':World} {b n:Nat} {D:DataW Value} (h:w.ownsMap prog 3 anyE b n D) {S:Nat→Prop} (o:Only S w w') (hn:¬ S b):w'.ownsMap prog 3 anyE b n D:=by
 have lt:=h.lt
 obtain⟨es,clock,hb,r⟩:=h
 exact⟨es,clock,(o.block b lt hn).trans hb,r⟩
theorem Mg.keep {w w':World} {b:Nat} {es:List Ent} (h:Mg w b es) {S:Nat→Prop} (o:Only S w w') (hn:¬ S b):Mg w' b es:=by
 obtain⟨h0,D,h1,h2⟩:=h
 exact⟨h0,D,owns_keepV h1 o hn,h2⟩
theorem Mg.still {w w':World} {b:Nat} {es:List Ent} (h:Mg w b es) (o:Only n_ w w'):Mg w' b es:=h.keep o (λs=>s)
theorem Mg.made (w:World):Mg (w.alloc (.map #[] 0)) w.heap.size []:=⟨List.Pairwise.nil,_,World.ownsMap_made w prog 3 anyE,ReadsV.nil⟩
theorem Mg.len {w:World} {b:Nat} {es:List Ent} (h:Mg w b es) {t e:TypeId} (ht:prog.underlying t=some (.map 3 e)) (ty:TypeId):(Builtin.len_ #[t] ty #[.map (some b)]).run prog w=.ok (.int .i64 es.length) w:=by
 obtain⟨hn,D,h1,h2⟩:=h
 have:=h1.len ht ty
 rw[h2.size h1 hn] at this
 exact this
theorem Mg.look {w:World} {b:Nat} {es:List Ent} (h:Mg w b es) {t e:TypeId} (ht:prog.underlying t=some (.map 3 e)) {z:Value} (hz:(zeroValue e).run prog w=.ok z w) {x:Int} (wx:(Lit.int .i64 x).wf=true) :
  (Instr.lookup t (.map (some b)) (.int .i64 x) false).run prog w=.ok (atV z es x) w:=by
 obtain⟨o,D,h1,h2⟩:=h
 obtain⟨v,zs,hrun,hv⟩:=h1.lookup lawI ht hz (anyE_mk z) (keyOf_int_mk underlying3 wx)
 rw[h2.look o x] at hv
 have e:=anyE_inv hv
 injection e with e
 injection e with e
 rw[e]
 exact hrun
theorem Mg.look_ok {w:World} {b:Nat} {es:List Ent} (h:Mg w b es) {t e:TypeId} (ht:prog.underlying t=some (.map 3 e)) {z:Value} (hz:(zeroValue e).run prog w=.ok z w) {x:Int} (wx:(Lit.int .i64 x).wf=true) :
  (Instr.lookup t (.map (some b)) (.int .i64 x) true).run prog w=.ok (.tuple #[atV z es x,.bool (hasV es x)]) w:=by
 obtain⟨o,D,h1,h2⟩:=h
 obtain⟨v,zs,hrun,hv⟩:=h1.look_ok lawI ht hz (anyE_mk z) (keyOf_int_mk underlying3 wx)
 rw[h2.1 x] at hrun
 rw[h2.look o x] at hv
 have e:=anyE_inv hv
 injection e with e
 injection e with e
 rw[e]
 exact hrun
theorem Mg.store {w:World} {b:Nat} {es:List Ent} (h:Mg w b es) {t e:TypeId} (ht:prog.underlying t=some (.map 3 e)) (hl:es.length≤1000) (x:Int) (v:Value) (wx:(Lit.int .i64 x).wf=true) (hx:hasV es x=false) :
  ∃w',(Instr.mapUpdate t (.map (some b)) (.int .i64 x) v).run prog w=.ok () w'∧Mg w' b (es++[(x,v)])∧Only (λk=>k=b) w w':=by
 obtain⟨hn,D,k1,k2⟩:=h
 have IM:IsMap D:=let ⟨es,_,_,_,_,e⟩:=k1;⟨_,e⟩
 obtain⟨w',e1,e2,e3⟩:=k1.store lawI ht (by unfold maxLen;omega) (keyOf_int_mk underlying3 wx) (anyE_mk v)
 exact⟨w',e1,Mg.of e2 (k2.put IM x v hx) (hn.more x v hx),only_turned e3⟩
theorem Mg.drop {w:World} {b:Nat} {es:List Ent} (h:Mg w b es) {t e:TypeId} (ht:prog.underlying t=some (.map 3 e)) (x:Int) (wx:(Lit.int .i64 x).wf=true) (ty:TypeId) :
  ∃w',(Builtin.delete_ #[t,3] ty #[.map (some b),.int .i64 x]).run prog w=.ok (.tuple #[]) w'∧Mg w' b (cutV es x)∧Only (λk=>k=b) w w':=by
 obtain⟨hn,D,k1,k2⟩:=h
 obtain⟨w',e1,e2,e3⟩:=k1.drop lawI ht (keyOf_int_mk underlying3 wx) ty
 exact⟨w',e1,Mg.of e2 (k2.del x) (hn.cut x),only_turned e3⟩
def GotV (es:List Ent) (left:Lit→Bool) (xs:List Ent):Prop:=(∀p∈xs,p∈es)∧(xs.map (·.1)).Nodup∧∀e∈es,e.1∈xs.map (·.1)↔left (.int .i64 e.1)=false
theorem GotV.start {D:DataW Value} {es:List Ent} (h:ReadsV D es):GotV es (has D) []:=by
 refine⟨λp hp=>(by cases hp),List.Pairwise.nil,λe he=>⟨λq=>(by cases q),λq=>?_⟩⟩
 rw[h.1,hasV_iff.2 ⟨e,he,rfl⟩] at q
 cases q
abbrev strikeV (left:Lit→Bool) (x:Int):Lit→Bool:=λz=>left z&&!z.sameKey (.int .i64 x)
theorem key_eqV (x y:Int):(Lit.int .i64 x).sameKey (.int .i64 y)=(x==y):=by
 simp[Lit.sameKey]
 rfl
theorem GotV.step {es xs:List Ent} {left:Lit→Bool} {e:Ent} (h:GotV es left xs) (he:e∈es) (hl:left (.int .i64 e.1)=true):GotV es (strikeV left e.1) (xs++[e]):=by
 refine⟨λp hp=>?_,?_,λa ha=>?_⟩
 ·rcases List.mem_append.1 hp with q | q
  ·exact h.1 p q
  ·rw[List.mem_singleton.1 q];exact he
 ·rw[List.map_append]
  unfold List.Nodup
  rw[List.pairwise_append]
  refine⟨h.2.1,List.pairwise_singleton _ _,λa ha b hb q=>?_⟩
  have:b=e.1:=by simpa using hb
  subst this
  subst q
  have:=(h.2.2 e he).1 ha
  rw[hl] at this
  cases this
 ·rw[List.map_append,List.mem_append,h.2.2 a ha]
  simp only[strikeV,key_eqV,List.map_cons,List.map_nil,List.mem_singleton]
  by_cases k:a.1=e.1
  ·simp[k]
  ·have kf:(a.1==e.1)=false:=by simp[k]
   simp[k,kf]
theorem GotV.over {es xs:List Ent} {left:Lit→Bool} (h:GotV es left xs) (hl:∀kl,left kl=false):∀x,x∈xs.map (·.1)↔x∈es.map (·.1):=λx=>by
 constructor
 ·intro hx
  obtain⟨p,hp,rfl⟩:=List.mem_map.1 hx
  exact List.mem_map.2 ⟨p,h.1 p hp,rfl⟩
 ·intro hx
  obtain⟨p,hp,rfl⟩:=List.mem_map.1 hx
  exact (h.2.2 p hp).2 (hl _)
theorem ranges_keepV {w w':World} {b r n cnt:Nat} {D:DataW Value} {left:Lit→Bool} (h:w.ranges prog 3 anyE b r n D left cnt) {S:Nat→Prop} (o:Only S w w') (hb:¬ S b) (hr:¬ S r):w'.ranges prog 3 anyE b r n D left cnt:=by
 have h1:=h.owns.lt
 have h2:=h.lt
 obtain⟨es,clock,since,seen,c0,k1,F,hs,hD,k2,rest⟩:=h
 exact⟨es,clock,since,seen,c0,(o.block b h1 hb).trans k1,F,hs,hD,(o.block r h2 hr).trans k2,rest⟩
theorem entry_ofV {D:DataW Value} {es:List Ent} (h:ReadsV D es) {x:Int} {v:Value} (hat:∀zd,D.atKey (.int .i64 x) zd=.held v):(x,v)∈es:=by
 cases hc:hasV es x with
 | true =>
  obtain⟨q,hq,rfl⟩:=hasV_iff.1 hc
  have:=(h.2 q hq .nil).symm.trans (hat .nil)
  injection this with this
  rw[←this]
  exact hq
 | false =>
  have h1:=h.1 x
  rw[hc] at h1
  have e1:=hat .nil
  rw[atKey_of_not_has h1] at e1
  cases e1
structure LL (w:World) (p r b:Nat) (vs:List Value) (M:Nat→Prop) (n room:Nat) (ss:List Sd):Prop where
 row:Row w p 142 #[.slice (some ⟨r,0,none⟩) n n,.int .i64 room,.map (some b)]
 rows:Row w r 209 vs.toArray
 len:vs.length=n
 lanes:∀(i:Nat) v,vs[i]? = some v→OwI w 0 v (laneL ss (i:Int))
 apart:∀(i j:Nat) u v g,vs[i]? = some u→vs[j]? = some v→u.ownBlock=some g→v.ownBlock=some g→i=j
 md:Md w b ss
 once:Once ss
 inb:∀s∈ss,0≤s.b∧s.b<n
 mp:M p
 mr:M r
 mb:M b
 mv:∀(i:Nat) v g,vs[i]? = some v→v.ownBlock=some g→M g
 lt:∀g,M g→g<w.heap.size
theorem LL.keep {w w':World} {p r b:Nat} {vs:List Value} {M:Nat→Prop} {n room:Nat} {ss:List Sd} (h:LL w p r b vs M n room ss) {S:Nat→Prop} (o:Only S w w') (hn:∀g,M g→¬ S g):LL w' p r b vs M n room ss:=
 ⟨o.row h.row (hn p h.mp),o.row h.rows (hn r h.mr),h.len,λi v hv=>(h.lanes i v hv).keep o (λg hg=>hn g (h.mv i v g hv hg)),h.apart,h.md.keep o (hn b h.mb),h.once,h.inb,h.mp,h.mr,h.mb,h.mv,λg hg=>Nat.lt_of_lt_of_le (h.lt g hg) o.size⟩
theorem LL.still {w w':World} {p r b:Nat} {vs:List Value} {M:Nat→Prop} {n room:Nat} {ss:List Sd} (h:LL w p r b vs M n room ss) (o:Only n_ w w'):LL w' p r b vs M n room ss:=h.keep o (λ_ _ s=>s)
theorem LL.out {w:World} {p r b:Nat} {vs:List Value} {M:Nat→Prop} {n room:Nat} {ss:List Sd} (h:LL w p r b vs M n room ss) {x:Int} (hx:¬ (0≤x∧x<n)):laneL ss x=[]:=by
 unfold laneL
 rw[List.map_eq_nil_iff,List.filter_eq_nil_iff]
 intro s hs e
 have e:s.b=x:=by simpa using e
 have:=h.inb s hs
 omega
def Ln (w:World) (p:Nat) (M:Nat→Prop) (n room:Nat) (ss:List Sd):Prop:=∃r b vs,LL w p r b vs M n room ss
theorem Ln.keep {w w':World} {p:Nat} {M:Nat→Prop} {n room:Nat} {ss:List Sd} (h:Ln w p M n room ss) {S:Nat→Prop} (o:Only S w w') (hn:∀g,M g→¬ S g):Ln w' p M n room ss:=by
 obtain⟨r,b,vs,h⟩:=h
 exact⟨r,b,vs,h.keep o hn⟩
theorem Ln.still {w w':World} {p:Nat} {M:Nat→Prop} {n room:Nat} {ss:List Sd} (h:Ln w p M n room ss) (o:Only n_ w w'):Ln w' p M n room ss:=h.keep o (λ_ _ s=>s)
def LnTo (w:World) (p:Nat) (M:Nat→Prop) (n room:Nat) (ss:List Sd) (w':World):Prop:=(∃M':Nat→Prop,Ln w' p M' n room ss∧∀g,M' g→M g∨w.heap.size≤g)∧Only M w w'
theorem Ln.to {w w':World} {p:Nat} {M:Nat→Prop} {n room:Nat} {ss:List Sd} (h:Ln w p M n room ss) (o:Only n_ w w'):LnTo w p M n room ss w':=⟨⟨M,h.still o,λg hg=>.inl hg⟩,o.more (λ_ _ k=>k.elim)⟩
theorem nil1 (v:Value):([v]:List Value).length=1:=rfl
theorem info_row:(prog.info? 209).map (λi=>(i.zero,i.size,i.bytes))=some (some (.slice none 0 0),1,24):=by kernel_rfl
theorem lnew_yes (n room:Nat) (w:World) (h1:1≤n) (h2:n≤256) (h3:1≤room) (h4:room≤128) :
  Calls prog 34 #[.int .i64 n,.int .i64 room] w λe w'=>∃p,e=.returned (.tuple #[.pointer (some ⟨p,0,none⟩),.int .i64 0])∧(∃M:Nat→Prop,Ln w' p M n room []∧∀g,M g→w.heap.size≤g)∧Only n_ w w':=by
 have hmm:=@run_makeMap prog
 obtain⟨i0,hi0,hz0,hz1,hz2⟩:=info_partsR info_row
 have MK:=run_make_flat (P:=prog) (c:=λv:Value=>[v]) (.slice none 0 0) nil1 (by decide) 139 209 i0 (.slice none 0 0) underlying139 hi0 hz0 hz1 rfl .i64 .i64 n (by rw[hz2];omega) (by omega)
 have d1:decide ((n:Int)<1)=false:=by simp;omega
 have d2:decide ((256:Int)<(n:Int))=false:=by simp;omega
 have d3:decide ((room:Int)<1)=false:=by simp;omega
 have d4:decide ((128:Int)<(room:Int))=false:=by simp;omega
 have FL:=hid (show flat (λv:Value=>[v]) (List.replicate n (.slice none 0 0))=(List.replicate n (.slice none 0 0)).toArray from by unfold flat;simp)
 rw[FL.out] at MK
 clear h1 h2 h3 h4 hi0 hz0 hz1 hz2
 generalize hVS:List.replicate n (Value.slice none 0 0)=vs at MK
 have VS:=hid hVS
 clear hVS FL
 go_enter func34,ntmps34
 go_wp2
 go_ret2
 have r0:=Row.fresh w 209 vs.toArray
 have o0:=World.ownsMap_made (H:=Unit) (w.alloc (.cells vs.toArray 209)) prog 3 (plainElem prog 3)
 have r1:=Row.fresh ((w.alloc (.cells vs.toArray 209)).alloc (.map #[] 0)) 142 #[.slice (some ⟨w.heap.size,0,none⟩) n n,.int .i64 room,.map (some (w.heap.size+1))]
 simp only[World.size_alloc] at r1 o0
 have ev:∀(i:Nat) v,vs[i]? = some v→v=.slice none 0 0:=λi v hv=>by
  rw[←VS.out] at hv
  exact List.eq_of_mem_replicate (List.mem_of_getElem? hv)
 refine⟨w.heap.size+1+1,rfl,⟨λg=>w.heap.size≤g∧g<w.heap.size+3,⟨w.heap.size,w.heap.size+1,vs,?_⟩,λg hg=>hg.1⟩,(((Only.refl _ _).alloc _).alloc _).alloc _⟩
 exact {
  row:=r1
  rows:=(r0.alloc _).alloc _
  len:=by rw[←VS.out];simp
  lanes:=λi v hv=>by rw[ev i v hv];exact Owns.start _ _ _ _ _
  apart:=λi j u v g hu hv k _=>by rw[ev i u hu] at k;cases k
  md:=⟨_,o0.alloc _,Reads11.nil⟩
  once:=List.Pairwise.nil
  inb:=λs hs=>by cases hs
  mp:=by constructor<;>omega
  mr:=by constructor<;>omega
  mb:=by constructor<;>omega
  mv:=λi v g hv k=>by rw[ev i v hv] at k;cases k
  lt:=λg hg=>by simp only[World.size_alloc];omega }
end Go.Proofs.YtfbpjobobdidiaaGreatDoor
namespace Go.Proofs.YtfbpjobobdidiaaGreatDoor
open Lib (hid)
open Go.Proofs.Tryz
open Go.RowKit
set_option linter.unusedVariables false
def Wt.val (w:Wt):Value:=.agg #[.int .i64 w.r,.int .i64 w.p]
def Wt.cells (w:Wt):List Value:=[.int .i64 w.r,.int .i64 w.p]
theorem wt2 (w:Wt):(Wt.cells w).length=2:=rfl
theorem wt_one:∀y:Wt,∀u∈Wt.cells y,u.oneCell'=true:=by
 intro y u hu
 simp only[Wt.cells,List.mem_cons,List.not_mem_nil,or_false] at hu
 rcases hu with rfl | rfl<;>rfl
theorem info_wt:(prog.info? 36).map (λi=>(i.zero,i.size,i.bytes))=some (some (.agg #[.int .i64 0,.int .i64 0]),2,16):=by kernel_rfl
theorem Owns.lower14 {α:Type} {w:World} {base base':Nat} {e:TypeId} {k:Nat} {c:α→List Value} {v:Value} {xs:List α} (h:Owns w base e k c v xs) (hb:base'≤base):Owns w base' e k c v xs:=by
 refine⟨h.1,?_⟩
 rcases h.2 with h2|⟨g,cap,cur,hv,hg,r⟩
 ·exact .inl h2
 ·exact .inr ⟨g,cap,cur,hv,Nat.le_trans hb hg,r⟩
abbrev OwnsWt (w:World) (base:Nat) (v:Value) (xs:List Wt):Prop:=Owns w base 36 2 Wt.cells v xs
def ReadsW (w:World) (v:Value) (xs:List Wt):Prop:=∃a cap,v=.slice a xs.length cap∧∀(i:Nat) (x:Wt),xs[i]? = some x→∃g o,a=some ⟨g,o,none⟩∧w.cell? ⟨g,o+i*2,none⟩=some (.int .i64 x.r)∧w.cell? ⟨g,o+i*2+1,none⟩=some (.int .i64 x.p)
theorem ReadsW.of_owns {w:World} {base:Nat} {v:Value} {xs:List Wt} (h:OwnsWt w base v xs):ReadsW w v xs:=by
 rcases h.2 with ⟨hv,h2⟩|⟨g,cap,cur,hv,hg,hh,h3,h4,_⟩
 ·have:xs=[]:=List.eq_nil_of_length_eq_zero h2
  subst this
  exact⟨none,0,hv,λi x hx=>by simp at hx⟩
 ·subst hv
  refine⟨_,cap,rfl,λi r hx=>⟨g,0,rfl,?_,?_⟩⟩
  ·have:=Owns.cell h wt2 hx (j:=0) (by decide)
   rw[Nat.zero_add]
   simpa [Wt.cells] using this
  ·have:=Owns.cell h wt2 hx (j:=1) (by decide)
   rw[Nat.zero_add]
   simpa [Wt.cells] using this
theorem ReadsW.still {w w':World} {v:Value} {xs:List Wt} (h:ReadsW w v xs) (o:Only n_ w w'):ReadsW w' v xs:=by
 obtain⟨a,cap,rfl,hc⟩:=h
 refine⟨a,cap,rfl,λi x hx=>?_⟩
 obtain⟨g,o',rfl,h1,h2⟩:=hc i x hx
 exact⟨g,o',rfl,o.cell h1 (λs=>s),o.cell h2 (λs=>s)⟩
theorem eq_wt (r s:Wt) (w:World):(Op.equalIn 10000 36 (.agg #[.int .i64 r.r,.int .i64 r.p]) (.agg #[.int .i64 s.r,.int .i64 s.p])).run prog w=.ok (decide (r=s)) w:=by
 have h:decide (r=s)=(r.r==s.r&&r.p==s.p):=by
  obtain⟨a,b⟩:=r
  obtain⟨a',b'⟩:=s
  rw[Bool.eq_iff_iff]
  simp
 rw[h]
 simp[go_sem]
 by_cases h1:r.r=s.r<;>by_cases h2:r.p=s.p<;>simp[h1,h2]
structure Sl where
 k:Int
 a:Bool
 s:Bool
deriving DecidableEq
def Pl.sl (p:Pl):Sl:=⟨p.k,p.a,p.s⟩
def rowL (a:Bool) (ss:List Sl):List Sl:=ss.filter (λs=>s.a==a)
def hasL (ss:List Sl) (x:Int):Bool:=ss.any (λs=>s.k==x)
def atL (ss:List Sl) (x:Int):Sl:=(ss.find? (λs=>s.k==x)).getD ⟨0,false,false⟩
def cutL (ss:List Sl) (x:Int):List Sl:=ss.filter (λs=>!(s.k==x))
def mostL (nd na:Nat) (a:Bool):Nat:=if a then na else nd
def putC (nd na:Nat) (ss:List Sl) (x:Int) (a:Bool):Int:=if x<1 then 1 else if hasL ss x then 4 else if mostL nd na a≤(rowL a ss).length then 2 else 0
def putS (nd na:Nat) (ss:List Sl) (x:Int) (a:Bool):List Sl:=if putC nd na ss x a=0 then ss++[⟨x,a,true⟩] else ss
def waitC (ss:List Sl) (x:Int) (v:Bool):Int:=if hasL ss x then (if (atL ss x).s==v then 5 else 0) else 3
def waitS (ss:List Sl) (x:Int) (v:Bool):List Sl:=ss.map (λs=>if s.k=x then { s with s:=v } else s)
def promC (nd:Nat) (ss:List Sl) (x:Int):Int:=if hasL ss x then (if (atL ss x).a then (if nd≤(rowL false ss).length then 2 else 0) else 5) else 3
def promS (nd:Nat) (ss:List Sl) (x:Int):List Sl:=if promC nd ss x=0 then cutL ss x++[⟨x,false,(atL ss x).s⟩] else ss
def endC (ss:List Sl) (x:Int):Int:=if hasL ss x then 0 else 3
def waitL (ss:List Sl):List Int:=((rowL false ss++rowL true ss).filter (·.s)).map (·.k)
theorem hasL_iff {ss:List Sl} {x:Int}:hasL ss x=true↔∃p∈ss,p.k=x:=by
 unfold hasL
 rw[List.any_eq_true]
 simp
def OnceL (ss:List Sl):Prop:=ss.Pairwise (λa b=>a.k≠b.k)
theorem OnceL.inj:∀{ss:List Sl},OnceL ss→∀{a b:Sl},a∈ss→b∈ss→a.k=b.k→a=b
 | [],_,_,_,ha,_,_=>by cases ha
 | s::r,h,a,b,ha,hb,e=>by
  have h':=List.pairwise_cons.1 h
  rcases List.mem_cons.1 ha with rfl | ha'
  ·rcases List.mem_cons.1 hb with rfl | hb'
   ·rfl
   ·exact absurd e (h'.1 b hb')
  ·rcases List.mem_cons.1 hb with rfl | hb'
   ·exact absurd e.symm (h'.1 a ha')
   ·exact OnceL.inj (show OnceL r from h'.2) ha' hb' e
theorem has_sl (ps:List Pl) (x:Int):hasL (ps.map Pl.sl) x=hasP ps x:=by
 unfold hasL hasP
 rw[List.any_map]
 rfl
theorem at_sl (ps:List Pl) (x:Int):atL (ps.map Pl.sl) x=(atP ps x).sl:=by
 unfold atL atP
 rw[List.find?_map]
 have:((λs:Sl=>s.k==x)∘Pl.sl)=(λp:Pl=>p.k==x):=rfl
 rw[this]
 cases ps.find? (λp=>p.k==x)<;>rfl
theorem row_sl (a:Bool) (ps:List Pl):rowL a (ps.map Pl.sl)=(ps.filter (λp=>p.a==a)).map Pl.sl:=by
 unfold rowL
 rw[List.filter_map]
 rfl
theorem cut_sl (ps:List Pl) (x:Int):cutL (ps.map Pl.sl) x=(ps.filter (λp=>!(p.k==x))).map Pl.sl:=by
 unfold cutL
 rw[List.filter_map]
 rfl
def waitP (ps:List Pl):List Pl:=(ps.filter (λp=>p.a==false)++ps.filter (λp=>p.a==true)).filter (·.s)
theorem wait_sl (ps:List Pl):waitL (ps.map Pl.sl)=(waitP ps).map (·.k):=by
 unfold waitL waitP
 rw[row_sl,row_sl,←List.map_append,List.filter_map,List.map_map]
 rfl
theorem wait_mem {ps:List Pl} {p:Pl}:p∈waitP ps↔p∈ps∧p.s=true:=by
 unfold waitP
 simp only[List.mem_filter,List.mem_append]
 constructor
 ·rintro ⟨⟨h,_⟩|⟨h,_⟩,hs⟩<;>exact⟨h,hs⟩
 ·rintro ⟨h,hs⟩
  refine⟨?_,hs⟩
  cases e:p.a
  ·exact .inl ⟨h,by simp⟩
  ·exact .inr ⟨h,by simp⟩
def Rise (ps:List Pl):Prop:=ps.Pairwise (λa b=>a.n<b.n)
theorem wait_rise {ps:List Pl} (h:Rise ps) (hb:∀p∈ps,0≤p.n∧p.n<1000000000):(waitP ps).Pairwise (λp q=>kv p<kv q):=by
 unfold waitP
 apply List.Pairwise.filter
 rw[List.pairwise_append]
 have part:∀a:Bool,(ps.filter (λp=>p.a==a)).Pairwise (λp q=>kv p<kv q):=λa=>by
  refine (h.filter (λp=>p.a==a)).imp_of_mem ?_
  intro p q hp hq hlt
  have e1:p.a=a:=by simpa using (List.mem_filter.1 hp).2
  have e2:q.a=a:=by simpa using (List.mem_filter.1 hq).2
  unfold kv
  rw[e1,e2]
  omega
 refine⟨part false,part true,λp hp q hq=>?_⟩
 have e1:=List.mem_filter.1 hp
 have e2:=List.mem_filter.1 hq
 have f1:p.a=false:=by simpa using e1.2
 have f2:q.a=true:=by simpa using e2.2
 have b1:=hb p e1.1
 have b2:=hb q e2.1
 unfold kv
 rw[f1,f2]
 simp
 omega
theorem wait_nodup {ps:List Pl} (h:Rise ps) (hb:∀p∈ps,0≤p.n∧p.n<1000000000):(waitP ps).Nodup:=(wait_rise h hb).imp (λk q=>by rw[q] at k;omega)
theorem wait_perm {ps xs:List Pl} (h:Rise ps) (hb:∀p∈ps,0≤p.n∧p.n<1000000000) (hp:xs.Perm ps):(xs.filter (·.s)).Perm (waitP ps):=by
 have nd:ps.Nodup:=h.imp (λk q=>by rw[q] at k;omega)
 refine same_perm ((hp.nodup_iff.2 nd).filter _) (wait_nodup h hb) (λp=>?_)
 rw[wait_mem,List.mem_filter,hp.mem_iff]
theorem two_len {α:Type} (f:α→Bool) (l:List α):(l.filter (λx=>f x==false)).length+(l.filter (λx=>f x==true)).length=l.length:=by
 induction l with
 | nil=>rfl
 | cons x l ih =>
  rw[List.filter_cons,List.filter_cons]
  cases f x<;>simp at ih ⊢<;>omega
theorem wait_len (ps:List Pl):(waitP ps).length≤ps.length:=by
 unfold waitP
 refine Nat.le_trans (List.length_filter_le _ _) ?_
 rw[List.length_append,two_len]
 exact Nat.le_refl _
end Go.Proofs.YtfbpjobobdidiaaGreatDoor
namespace Go.Proofs.YtfbpjobobdidiaaGreatDoor
open Lib (hid)
open Go.Proofs.Tryz
open Go.RowKit Go.Maps Go.Sort Go.Shelf
set_option linter.unusedVariables false
def sortI (l:List Int):List Int:=l.mergeSort leI
theorem Mg.perm {w:World} {b:Nat} {es:List Ent} {D:DataW Value} (hn:OnceV es) (h1:w.ownsMap prog 3 anyE b es.length D) (h2:ReadsV D es):(es.map (·.1)).Perm (intKeys D):=
 CollectedI.perm (left:=λ_=>false) ⟨hn.keys,λx=>by rw[h2.1 x,hasV_iff];simp⟩ h1 lawI underlying3 (λ_=>rfl)
theorem sorts16 (m:Nat):AnyZI.SortsIn prog Tryz.sortedA_ren Fence.wide m:=
  ⟨λblk off cap ss W hH hblk hsz=>callsIn_wide.2 (AnyM.slices_Sort_int Tryz.sortA blk off cap ss W hH hblk hsz),
   λp cap W=>callsIn_wide.2 (AnyM.slices_Sort_int_none Tryz.sortA p cap W)⟩
theorem rising_tk (w:World) (b:Nat) (es:List Ent) (h:Mg w b es) (hle:es.length≤1000) :
  Calls prog 54 #[.map (some b)] w λe w'=>∃v,e=.returned v∧OwI w' w.heap.size v (sortI (es.map (·.1)))∧Only n_ w w':=by
 refine (callsIn_wide (n:=6)).1 ?_
 obtain⟨hn,D,h1,h2⟩:=h
 have hbl:=h1.lt
 have hsz:Maps.size D=es.length:=by rw[h2.size h1 hn]
 have PP:=Mg.perm hn h1 h2
 have hseq:SeqGives Fence.wide 2 prog 130 #[.pointer (some ⟨w.heap.size,0,none⟩)] encZ (λss=>ss.Perm (intKeys D)) (Maps.size D) (w.alloc (.cells #[.map (some b)] 96)):=
  AnyZI.keys_gives (ρ:=Tryz.keysT_ren) { Tryz.keysT with } Fence.wide _ trivial rfl (by omega) w.heap.size b _ D _ (by simp) (by simp) (by
   obtain⟨es,clock,hb,Ft,hs,hD⟩:=h1
   exact⟨es,clock,(Below.heap_alloc _ _ b hbl).trans hb,Ft,hs,hD⟩)
 have cK:∀mb W,CallsIn Fence.wide 5 prog 96 #[.map mb] W λe w'=>e=.returned (.func (.func 130) #[] #[.pointer (some ⟨W.heap.size,0,none⟩)])∧w'=W.alloc (.cells #[.map mb] 96):=λmb W=>AnyZI.keys_in Tryz.keysT Fence.wide 5 trivial rfl mb W
 have cS:=AnyZI.sorted_in Tryz.sortedA Fence.wide 5 trivial trivial trivial trivial rfl (by omega) (sorts16 _) (enters_of func118 (by kernel_rfl) rfl) 130 #[.pointer (some ⟨w.heap.size,0,none⟩)] trivial (enters_of func130 (by kernel_rfl) rfl) _ _ (by rw[hsz];unfold maxLen;omega) (by rw[hsz];omega) _ hseq
 change CallsIn _ _ prog 92 _ _ _ at cS
 have hfK:Fence.wide.fn 96:=trivial
 have hfS:Fence.wide.fn 92:=trivial
 have PP:=hid PP
 clear hseq h1 h2 hn hsz
 refine callsIn_of_wp func54 rfl trivial ?_ rfl
 simp only[ntmps54,List.size_toArray,List.length_cons,List.length_nil,Nat.reduceAdd,Nat.reduceSub,Array.replicate_succ,Array.replicate_zero,List.push_toArray,List.append_toArray,List.nil_append,List.cons_append]
 gi_wp2_with (first
  | (gi_at_call 96;refine (cK _ _).mono ?_;rintro e w' ⟨rfl,rfl⟩)
  | (gi_at_call 92;refine cS.mono ?_;rintro e w' ⟨v,ss,rfl,hS,hrow,hnil,hb⟩))
 go_ret
 have e1:ss.mergeSort (λx y=>decide (x≤y))=sortI (es.map (·.1)):=mergeSort_of_perm_i (hS.trans PP.out.symm)
 rw[e1] at hrow
 have el:ss.length=(sortI (es.map (·.1))).length:=by rw[←e1,List.length_mergeSort]
 rw[el] at hrow
 have ob:=(Only.of_below hb).more (S':=λk=>w.heap.size≤k) (λi _ q=>by simp at q;omega)
 refine⟨v,rfl,?_,?_⟩
 ·show Owns _ _ _ _ _ _ _
  unfold Owns
  rw[one_map]
  exact ownsRow_base_a hrow (by simp)
 ·exact (((Only.refl (λk=>w.heap.size≤k) w).alloc _).same ob).more (λi hi q=>absurd q (Nat.not_le.2 hi))
end Go.Proofs.YtfbpjobobdidiaaGreatDoor
namespace Go.Proofs.YtfbpjobobdidiaaGreatDoor
open Lib (hid)
open Go.Proofs.Tryz
open Go.RowKit Go.Maps
set_option linter.unusedVariables false
structure En where
 s:Sx
 n:Nat
 deriving DecidableEq
instance:Inhabited En:=⟨⟨⟨0,⟨0,0⟩⟩,0⟩⟩
theorem laid14:laidOutB prog=true:=by kernel_rfl
theorem wideW:(match prog.underlying 36 with | some (.array _ _) | some (.struct _)=>true | _=>false)=true:=by rw[underlying36]
theorem lawW:Keyed prog 36:=Keyed.of_law (deep_law_laid laid14 (m:=2) (by omega) (of_decide_eq_true (by kernel_rfl)) (by kernel_rfl) wideW)
def klit (x:Wt):Lit:=.string (keyBytes [.int .i64 x.r,.int .i64 x.p])
theorem keyW {x:Wt} (h:wfW x):keyOf prog 36 x.val=some (klit x):=by
 have hk:prog.keyType 36=true:=by kernel_rfl
 have hc:prog.cellsOf 36=2:=cellsWt
 have hi:prog.cellsOf 3=1:=cellsI
 obtain⟨m,hm⟩:∃m,prog.types.size+1=m+2:=⟨prog.types.size-1,by have:(1:Nat)≤prog.types.size:=of_decide_eq_true (by kernel_rfl);omega⟩
 unfold keyOf klit Wt.val
 rw[underlying36]
 simp only
 rw[if_pos (by simp[hk,Value.formed,underlying36,hc]),hm]
 have h1:(Lit.int .i64 x.r).wf=true:=h.1
 have h2:(Lit.int .i64 x.p).wf=true:=h.2
 unfold Program.keyLits
 rw[underlying36]
 simp[Value.cells,hc,hi,Program.keyLits,underlying3,h1,h2]
theorem formed_agg {v:Value} (h:v.formed prog 36=true):∃a b:Value,v=.agg #[a,b]:=by
 have hc:prog.cellsOf 36=2:=cellsWt
 unfold Value.formed at h
 rw[underlying36] at h
 cases v<;>simp[hc] at h
 rename_i cs
 obtain⟨l⟩:=cs
 match l,h with
 | [a,b],_=>exact⟨a,b,rfl⟩
theorem lits_int {m:Nat} {a:Value} {l:List Lit} (h:prog.keyLits (m+1) 3 [a]=some l):∃n,a=.int .i64 n∧(Lit.int .i64 n).wf=true∧l=[.int .i64 n]:=by
 unfold Program.keyLits at h
 rw[underlying3] at h
 cases a with
 | int q n =>
  simp only at h
  split at h
  ·rename_i k
   obtain⟨rfl,k2⟩:=k
   exact⟨n,rfl,k2,(Option.some.inj h).symm⟩
  ·cases h
 | _=>cases h
theorem key_inv {v:Value} {kl:Lit} (h:keyOf prog 36 v=some kl):∃x:Wt,v=x.val∧wfW x∧kl=klit x:=by
 have hc:prog.cellsOf 36=2:=cellsWt
 have hi:prog.cellsOf 3=1:=cellsI
 obtain⟨m,hm⟩:∃m,prog.types.size+1=m+2:=⟨prog.types.size-1,by have:(1:Nat)≤prog.types.size:=of_decide_eq_true (by kernel_rfl);omega⟩
 have h0:=h
 unfold keyOf at h
 rw[underlying36] at h
 simp only at h
 split at h
 ·rename_i hf
  obtain⟨a,b,rfl⟩:=formed_agg ((Bool.and_eq_true_iff.1 hf).2)
  rw[hm] at h
  unfold Program.keyLits at h
  rw[underlying36] at h
  simp only[Option.map_eq_some_iff] at h
  obtain⟨ls,h,rfl⟩:=h
  split at h
  ·simp only[Option.map_eq_some_iff] at h
   obtain⟨ll,h,rfl⟩:=h
   have e0:(List.drop 0 (Value.agg #[a,b]).cells.toList).take 1=[a]:=rfl
   have e1:(List.drop 1 (Value.agg #[a,b]).cells.toList).take 1=[b]:=rfl
   simp only[List.mapM_cons,List.mapM_nil,bind,Option.bind_eq_some_iff,hi,e0,e1,pure] at h
   obtain⟨l1,h1,l2,⟨l3,h3,l4,h4,h5⟩,h6⟩:=h
   obtain⟨n1,rfl,w1,rfl⟩:=lits_int h1
   obtain⟨n2,rfl,w2,rfl⟩:=lits_int h3
   exact⟨⟨n1,n2⟩,rfl,⟨w1,w2⟩,by have:=keyW (x:=⟨n1,n2⟩) ⟨w1,w2⟩;unfold Wt.val at this;rw[this] at h0;exact (Option.some.inj h0).symm⟩
  ·cases h
 ·cases h
theorem klit_inj {x y:Wt} (hx:wfW x) (hy:wfW y) (h:klit x=klit y):x=y:=by
 have h1:=keyW hx
 rw[h] at h1
 have:=lawW.inj h1 (keyW hy)
 unfold Wt.val at this
 simp at this
 obtain⟨a,b⟩:=this
 cases x;cases y
 simp_all
theorem klit_key (x:Wt):WideAt.IsKeyLit (klit x):=trivial
theorem klit_same {x y:Wt} (hx:wfW x) (hy:wfW y):(klit x).sameKey (klit y)=decide (x=y):=by
 by_cases e:x=y
 ·subst e;rw[WideAt.sameKey_self (klit_key x)];simp
 ·rw[decide_eq_false e]
  exact Maps.sameKey_ne (λk=>e (klit_inj hx hy k))
def stDat (t:Int) (n:Nat):DataW Unit:=.agg [.lit (.int .i64 t),.lit (.int .i64 n)]
def stVal (t:Int) (n:Nat):Value:=.agg #[.int .i64 t,.int .i64 n]
def stElem:Value→Option (DataW Unit × List MemPlace)
 | .agg cs=>match cs.toList with
  | [.int .i64 t,.int .i64 n]=>some (.agg [.lit (.int .i64 t),.lit (.int .i64 n)],[])
  | _=>none
 | _=>none
theorem stElem_mk (t:Int) (n:Nat):stElem (stVal t n)=some (stDat t n,[]):=rfl
theorem stElem_inv {v:Value} {y:DataW Unit × List MemPlace} (h:stElem v=some y):∃t n:Int,v=.agg #[.int .i64 t,.int .i64 n]∧y=(.agg [.lit (.int .i64 t),.lit (.int .i64 n)],[]):=by
 unfold stElem at h
 split at h
 ·rename_i cs
  split at h
  ·rename_i t n e
   refine⟨t,n,?_,(Option.some.inj h).symm⟩
   congr 1
   apply Array.ext'
   exact e
  ·cases h
 ·cases h
theorem stVal_of {v:Value} {t:Int} {n:Nat} {zs:List MemPlace} (h:stElem v=some (stDat t n,zs)):v=stVal t n:=by
 obtain⟨t',n',rfl,e⟩:=stElem_inv h
 injection e with e
 unfold stDat at e
 simp only[DataW.agg.injEq,List.cons.injEq,DataW.lit.injEq,Lit.int.injEq,true_and,and_true] at e
 obtain⟨rfl,rfl⟩:=e
 rfl
theorem zeroSt (w:World):(zeroValue 193).run prog w=.ok (stVal 0 0) w:=by kernel_rfl
def OnceE (es:List En):Prop:=es.Pairwise (λa b=>a.s.w≠b.s.w)
theorem OnceE.inj:∀{es:List En},OnceE es→∀{a b:En},a∈es→b∈es→a.s.w=b.s.w→a=b
 | [],_,_,_,ha,_,_=>by cases ha
 | s::r,h,a,b,ha,hb,e=>by
  have h':=List.pairwise_cons.1 h
  rcases List.mem_cons.1 ha with rfl | ha'
  ·rcases List.mem_cons.1 hb with rfl | hb'
   ·rfl
   ·exact absurd e (h'.1 b hb')
  ·rcases List.mem_cons.1 hb with rfl | hb'
   ·exact absurd e.symm (h'.1 a ha')
   ·exact OnceE.inj (show OnceE r from h'.2) ha' hb' e
theorem OnceE.nodup {es:List En} (h:OnceE es):es.Nodup:=h.imp (λk q=>k (by rw[q]))
theorem OnceE.sub {es fs:List En} (h:OnceE es) (s:fs.Sublist es):OnceE fs:=List.Pairwise.sublist s h
def hasE (es:List En) (x:Wt):Bool:=es.any (λe=>decide (e.s.w=x))
theorem hasE_iff {es:List En} {x:Wt}:hasE es x=true↔∃e∈es,e.s.w=x:=by
 unfold hasE
 rw[List.any_eq_true]
 simp
def tick (es:List En) (x:Wt):Int:=((es.find? (λe=>decide (e.s.w=x))).map (λe=>e.s.t)).getD 0
def turn (es:List En) (x:Wt):Nat:=((es.find? (λe=>decide (e.s.w=x))).map (λe=>e.n)).getD 0
theorem find_of {es:List En} (o:OnceE es) {e:En} (h:e∈es):es.find? (λa=>decide (a.s.w=e.s.w))=some e:=by
 cases hf:es.find? (λa=>decide (a.s.w=e.s.w)) with
 | none=>exact absurd (List.find?_eq_none.1 hf e h) (by simp)
 | some q =>
  have h1:=List.find?_some hf
  have h2:=List.mem_of_find?_eq_some hf
  rw[o.inj h2 h (by simpa using h1)]
theorem turn_of {es:List En} (o:OnceE es) {e:En} (h:e∈es):turn es e.s.w=e.n:=by unfold turn;rw[find_of o h];rfl
theorem tick_of {es:List En} (o:OnceE es) {e:En} (h:e∈es):tick es e.s.w=e.s.t:=by unfold tick;rw[find_of o h];rfl
theorem none_of {es:List En} {x:Wt} (h:hasE es x=false):es.find? (λa=>decide (a.s.w=x))=none:=by
 rw[List.find?_eq_none]
 intro e he q
 have:hasE es x=true:=hasE_iff.2 ⟨e,he,by simpa using q⟩
 rw[h] at this;cases this
structure Reads14 (D:DataW Unit) (es:List En):Prop where
 has:∀x,wfW x→Maps.has D (klit x)=hasE es x
 at_:∀e∈es,∀z,D.atKey (klit e.s.w) z=stDat e.s.t e.n
 wf:∀e∈es,wfW e.s.w
theorem Reads14.nil:Reads14 (.map []) []:=⟨λ_ _=>rfl,λ_ h=>(by cases h),λ_ h=>(by cases h)⟩
theorem klit_ne {x y:Wt} (hx:wfW x) (hy:wfW y) (h:y≠x):klit y≠klit x:=λk=>h (klit_inj hy hx k)
theorem Reads14.put {D:DataW Unit} {es:List En} (h:Reads14 D es) (m:IsMap D) (e:En) (we:wfW e.s.w) (hn:hasE es e.s.w=false):Reads14 (D.put (klit e.s.w) (stDat e.s.t e.n)) (es++[e]):=by
 refine⟨λy wy=>?_,λf hf z=>?_,λf hf=>?_⟩
 ·by_cases k:y=e.s.w
  ·subst k
   rw[has_put_same m (klit_key _)]
   exact (hasE_iff.2 ⟨e,by simp,rfl⟩).symm
  ·rw[has_put_other (klit_ne we wy k),h.has y wy]
   unfold hasE
   rw[List.any_append]
   simp[show ¬e.s.w=y from λq=>k q.symm]
 ·rcases List.mem_append.1 hf with hf | hf
  ·rw[atKey_put_other (klit_ne we (h.wf f hf) (λq=>by
    have:hasE es e.s.w=true:=hasE_iff.2 ⟨f,hf,q⟩
    rw[hn] at this;cases this))]
   exact h.at_ f hf z
  ·rw[List.mem_singleton.1 hf,atKey_put_same m (klit_key _)]
 ·rcases List.mem_append.1 hf with hf | hf
  ·exact h.wf f hf
  ·rw[List.mem_singleton.1 hf];exact we
def outE (es:List En) (x:Wt):List En:=es.filter (λe=>decide (e.s.w≠x))
theorem Reads14.del {D:DataW Unit} {es:List En} (h:Reads14 D es) (x:Wt) (wx:wfW x):Reads14 (D.del (klit x)) (outE es x):=by
 refine⟨λy wy=>?_,λf hf z=>?_,λf hf=>h.wf f (List.mem_filter.1 hf).1⟩
 ·by_cases k:y=x
  ·subst k
   rw[has_del_same]
   cases hq:hasE (outE es y) y with
   | false=>rfl
   | true =>
    obtain⟨f,hf,e⟩:=hasE_iff.1 hq
    have:=(List.mem_filter.1 hf).2
    simp[e] at this
  ·rw[has_del_other (klit_ne wx wy k),h.has y wy,Bool.eq_iff_iff,hasE_iff,hasE_iff]
   constructor
   ·rintro ⟨f,hf,rfl⟩
    exact⟨f,List.mem_filter.2 ⟨hf,by simpa using k⟩,rfl⟩
   ·rintro ⟨f,hf,rfl⟩
    exact⟨f,(List.mem_filter.1 hf).1,rfl⟩
 ·have hf':=List.mem_filter.1 hf
  rw[atKey_del_other (klit_ne wx (h.wf f hf'.1) (by simpa using hf'.2))]
  exact h.at_ f hf'.1 z
theorem Reads14.look {D:DataW Unit} {es:List En} (h:Reads14 D es) (o:OnceE es) (x:Wt) (wx:wfW x):D.atKey (klit x) (stDat 0 0)=stDat (tick es x) (turn es x):=by
 cases hc:hasE es x with
 | true =>
  obtain⟨e,he,rfl⟩:=hasE_iff.1 hc
  rw[h.at_ e he,tick_of o he,turn_of o he]
 | false =>
  have:=h.has x wx
  rw[hc] at this
  unfold tick turn
  rw[atKey_of_not_has this,none_of hc]
  rfl
theorem key_wt {w:World} {b n:Nat} {D:DataW Unit} (h:w.ownsMap prog 36 stElem b n D):∀kl,Maps.has D kl=true→∃x,wfW x∧kl=klit x:=by
 intro kl hk
 obtain⟨es,clock,hb,F,_,rfl⟩:=h
 obtain⟨p,hp,hpk⟩:=List.any_eq_true.1 hk
 obtain⟨x,hx,rfl⟩:=List.mem_map.1 (mem_sorted.1 hp)
 obtain⟨y,hy⟩:=F.reads x hx
 rw[WideElems.rg_of hy] at hpk
 obtain⟨a,_,wa,e2⟩:=key_inv (WideElems.rd_key hy)
 have:=WideAt.sameKey_eq hpk
 exact⟨a,wa,by rw[←this,e2]⟩
theorem tight14 {w:World} {b n:Nat} {D:DataW Unit} (h:w.ownsMap prog 36 stElem b n D):w.ownsMap prog 36 stElem b (size D) D:=by
 obtain⟨es,clock,hb,F,_,rfl⟩:=h
 exact⟨es,clock,hb,F,by rw[size_eq,length_sorted];simp,rfl⟩
theorem sub_len14 {α:Type} [DecidableEq α]:∀(l l':List α),l.Nodup→(∀x∈l,x∈l')→l.length≤l'.length
 | [],_,_,_=>Nat.zero_le _
 | a::r,l',hn,hs=>by
  obtain⟨h1,h2⟩:=List.nodup_cons.1 hn
  have ha:a∈l':=hs a (by simp)
  have:=sub_len14 r (l'.erase a) h2 (λx hx=>by
   have hx':x∈l':=hs x (by simp[hx])
   exact (List.mem_erase_of_ne (λq=>h1 (by rw[←q];exact hx))).2 hx')
  rw[List.length_erase_of_mem ha] at this
  have:0<l'.length:=List.length_pos_of_mem ha
  simp only[List.length_cons]
  omega
theorem same_len14 {α:Type} [DecidableEq α] {l l':List α} (h:l.Nodup) (h':l'.Nodup) (k:∀x,x∈l↔x∈l'):l.length=l'.length:=
 Nat.le_antisymm (sub_len14 l l' h (λx hx=>(k x).1 hx)) (sub_len14 l' l h' (λx hx=>(k x).2 hx))
noncomputable def unk (l:Lit):Wt:=open Classical in if h:∃x,wfW x∧l=klit x then h.choose else ⟨0,0⟩
theorem unk_klit {x:Wt} (hx:wfW x):unk (klit x)=x:=by
 unfold unk
 have h:∃y,wfW y∧klit x=klit y:=⟨x,hx,rfl⟩
 rw[dif_pos h]
 exact (klit_inj hx h.choose_spec.1 h.choose_spec.2).symm
theorem Reads14.size {w:World} {b n:Nat} {D:DataW Unit} {es:List En} (h:Reads14 D es) (o:w.ownsMap prog 36 stElem b n D) (hn:OnceE es):Maps.size D=es.length:=by
 have KI:=key_wt o
 obtain⟨ps,rfl,hp,hk⟩:=o.entries lawW
 show ps.length=es.length
 have e1:(ps.map (λp=>unk p.1)).length=ps.length:=List.length_map _
 have e2:(es.map (λe=>e.s.w)).length=es.length:=List.length_map _
 rw[←e1,←e2]
 have hi:∀p∈ps,∃x,wfW x∧p.1=klit x:=λp hp'=>KI p.1 (List.any_eq_true.2 ⟨p,hp',WideAt.sameKey_self (hk p hp')⟩)
 refine same_len14 ?_ (by unfold List.Nodup;rw[List.pairwise_map];exact hn) ?_
 ·unfold List.Nodup
  rw[List.pairwise_map]
  refine hp.imp_of_mem ?_
  intro p q hp1 hq1 hne e
  obtain⟨x,wx,hx⟩:=hi p hp1
  obtain⟨y,wy,hy⟩:=hi q hq1
  rw[hx,hy,unk_klit wx,unk_klit wy] at e
  exact hne (by rw[hx,hy,e])
 ·intro x
  constructor
  ·intro hm
   obtain⟨p,hp1,e⟩:=List.mem_map.1 hm
   obtain⟨y,wy,hy⟩:=hi p hp1
   rw[hy,unk_klit wy] at e
   subst e
   have:Maps.has (DataW.map ps) (klit y)=true:=List.any_eq_true.2 ⟨p,hp1,by rw[hy];exact WideAt.sameKey_self (klit_key _)⟩
   rw[h.has y wy] at this
   obtain⟨a,ha,e⟩:=hasE_iff.1 this
   exact List.mem_map.2 ⟨a,ha,e⟩
  ·intro hm
   obtain⟨a,ha,e⟩:=List.mem_map.1 hm
   have wx:wfW x:=e▸h.wf a ha
   have h1:=h.has x wx
   rw[hasE_iff.2 ⟨a,ha,e⟩] at h1
   obtain⟨p,hp1,hpk⟩:=List.any_eq_true.1 h1
   have:=WideAt.sameKey_eq hpk
   exact List.mem_map.2 ⟨p,hp1,by simp only[this];exact unk_klit wx⟩
def Md14 (w:World) (b:Nat) (es:List En):Prop:=∃D,w.ownsMap prog 36 stElem b es.length D∧Reads14 D es
theorem Md14.of {w:World} {b n:Nat} {D:DataW Unit} {es:List En} (o:w.ownsMap prog 36 stElem b n D) (h:Reads14 D es) (hn:OnceE es):Md14 w b es:=
 ⟨D,by rw[←h.size o hn];exact tight14 o,h⟩
theorem owns_keep14 {w w':World} {b n:Nat} {D:DataW Unit} (h:w.ownsMap prog 36 stElem b n D) {S:Nat→Prop} (o:Only S w w') (hn:¬ S b):w'.ownsMap prog 36 stElem b n D:=by
 have lt:=h.lt
 obtain⟨es,clock,hb,r⟩:=h
 exact⟨es,clock,(o.block b lt hn).trans hb,r⟩
theorem Md14.keep {w w':World} {b:Nat} {es:List En} (h:Md14 w b es) {S:Nat→Prop} (o:Only S w w') (hn:¬ S b):Md14 w' b es:=by
 obtain⟨D,h1,h2⟩:=h
 exact⟨D,owns_keep14 h1 o hn,h2⟩
theorem Md14.still {w w':World} {b:Nat} {es:List En} (h:Md14 w b es) (o:Only n_ w w'):Md14 w' b es:=h.keep o (λs=>s)
theorem Md14.lt {w:World} {b:Nat} {es:List En} (h:Md14 w b es):b<w.heap.size:=by
 obtain⟨D,h1,_⟩:=h
 exact h1.lt
theorem Md14.ne {w:World} {p b:Nat} {es:List En} {t:TypeId} {cs:Array Value} (h:Md14 w b es) (r:Row w p t cs):p≠b:=by
 rintro rfl
 obtain⟨D,⟨es,clock,hb,_⟩,_⟩:=h
 unfold Row at r
 rw[r] at hb
 cases hb
theorem only_turned14 {w w':World} {b:Nat} (h:w.mapTurned w' b):Only (λk=>k=b) w w':=(Only.of_grown h.grown).more (λi _ e=>by injection e)
theorem Md14.len {w:World} {b:Nat} {es:List En} (h:Md14 w b es) (o:OnceE es) (ty:TypeId):(Builtin.len_ #[148] ty #[.map (some b)]).run prog w=.ok (.int .i64 es.length) w:=by
 obtain⟨D,h1,h2⟩:=h
 have:=h1.len underlying148 ty
 rw[h2.size h1 o] at this
 exact this
theorem Md14.look {w:World} {b:Nat} {es:List En} (h:Md14 w b es) (o:OnceE es) {x:Wt} (wx:wfW x) :
  (Instr.lookup 148 (.map (some b)) (.agg #[.int .i64 x.r,.int .i64 x.p]) true).run prog w=.ok (.tuple #[stVal (tick es x) (turn es x),.bool (hasE es x)]) w:=by
 obtain⟨D,h1,h2⟩:=h
 obtain⟨v,zs,hrun,hv⟩:=h1.look_ok lawW underlying148 (zeroSt w) (stElem_mk 0 0) (keyW wx)
 rw[h2.has x wx] at hrun
 have e:=h2.look o x wx
 rw[e] at hv
 rw[stVal_of hv] at hrun
 exact hrun
theorem Md14.get {w:World} {b:Nat} {es:List En} (h:Md14 w b es) (o:OnceE es) {x:Wt} (wx:wfW x) :
  (Instr.lookup 148 (.map (some b)) (.agg #[.int .i64 x.r,.int .i64 x.p]) false).run prog w=.ok (stVal (tick es x) (turn es x)) w:=by
 obtain⟨D,h1,h2⟩:=h
 obtain⟨v,zs,hrun,hv⟩:=h1.lookup lawW underlying148 (zeroSt w) (stElem_mk 0 0) (keyW wx)
 have e:=h2.look o x wx
 rw[e] at hv
 rw[stVal_of hv] at hrun
 exact hrun
theorem Md14.store {w:World} {b:Nat} {es:List En} (h:Md14 w b es) (o:OnceE es) (hl:es.length≤1000) (e:En) (we:wfW e.s.w) (hn:hasE es e.s.w=false) :
  ∃w',(Instr.mapUpdate 148 (.map (some b)) (.agg #[.int .i64 e.s.w.r,.int .i64 e.s.w.p]) (.agg #[.int .i64 e.s.t,.int .i64 e.n])).run prog w=.ok () w'∧Md14 w' b (es++[e])∧Only (λk=>k=b) w w':=by
 obtain⟨D,k1,k2⟩:=h
 have IM:IsMap D:=let ⟨es,_,_,_,_,e⟩:=k1;⟨_,e⟩
 obtain⟨w',e1,e2,e3⟩:=k1.store lawW underlying148 (by unfold maxLen;omega) (keyW we) (stElem_mk e.s.t e.n)
 refine⟨w',e1,Md14.of e2 (k2.put IM e we hn) ?_,only_turned14 e3⟩
 unfold OnceE
 rw[List.pairwise_append]
 refine⟨o,List.pairwise_singleton _ _,λa ha c hc q=>?_⟩
 rw[List.mem_singleton.1 hc] at q
 have:hasE es e.s.w=true:=hasE_iff.2 ⟨a,ha,q⟩
 rw[hn] at this;cases this
theorem Md14.drop {w:World} {b:Nat} {es:List En} (h:Md14 w b es) (o:OnceE es) (x:Wt) (wx:wfW x) (ty:TypeId) :
  ∃w',(Builtin.delete_ #[148,36] ty #[.map (some b),.agg #[.int .i64 x.r,.int .i64 x.p]]).run prog w=.ok (.tuple #[]) w'∧Md14 w' b (outE es x)∧Only (λk=>k=b) w w' ∧
   ∀r n D left cnt,w.ranges prog 36 stElem b r n D left cnt→∃cnt',w'.ranges prog 36 stElem b r n (D.del (klit x)) (λz=>left z&&!z.sameKey (klit x)) cnt'∧cnt'≤cnt:=by
 obtain⟨D,k1,k2⟩:=h
 obtain⟨w',e1,e2,e3⟩:=k1.drop lawW underlying148 (keyW wx) ty
 refine⟨w',e1,Md14.of e2 (k2.del x wx) (o.sub List.filter_sublist),only_turned14 e3,λr n D' left cnt hr=>?_⟩
 obtain⟨w'',cnt',f1,f2,f3,_⟩:=hr.drop lawW underlying148 (keyW wx) ty
 have:w''=w':=by
  have:=f1.symm.trans e1
  injection this
 subst this
 exact⟨cnt',f2,f3⟩
end Go.Proofs.YtfbpjobobdidiaaGreatDoor
namespace Go.Proofs.YtfbpjobobdidiaaGreatDoor
open Lib (hid)
open Go.Proofs.Tryz
open Go.RowKit Go.Sort
set_option linter.unusedVariables false
def klt (κ:Wt→Int) (x y:Wt):Bool:=decide (κ x<κ y)
theorem klt_swo (κ:Wt→Int):SWO (klt κ) where
 irrefl x:=by unfold klt;simp
 trans x y z h1 h2:=by unfold klt at *;simp at *;omega
 ntrans x y z h1 h2:=by unfold klt at *;simp at *;omega
def kcmp (κ:Wt→Int) (x y:Wt):Int:=Go.Lib.compareInt (κ x) (κ y)
theorem kcmp_lt (κ:Wt→Int) (x y:Wt):decide (kcmp κ x y<0)=klt κ x y:=by
 unfold kcmp klt Go.Lib.compareInt
 by_cases h1:κ x<κ y
 ·simp[h1]
 ·by_cases h2:κ y<κ x<;>simp[h1,h2]
structure Sq (w0 w:World) (g:Nat) (d:Array Wt):Prop where
 cell:∀i,i<d.size→w.cell? ⟨g,i*2,none⟩=some (.int .i64 d[i]!.r)∧w.cell? ⟨g,i*2+1,none⟩=some (.int .i64 d[i]!.p)
 fz:∀k,w.frozen? ⟨g,k,none⟩=false
 ok:∀i,i<d.size→wfW d[i]!
 only:Only (λk=>k=g) w0 w
 lt:g<w.heap.size
theorem Sq.still {w0 w w':World} {g:Nat} {d:Array Wt} (h:Sq w0 w g d) (o:Only n_ w w'):Sq w0 w' g d:=
 ⟨λi hi=>⟨o.cell (h.cell i hi).1 (λs=>s),o.cell (h.cell i hi).2 (λs=>s)⟩,λk=>by
  have:=o.block g h.lt (λs=>s)
  unfold World.frozen?
  rw[this]
  exact h.fz k,h.ok,h.only.idle o,Nat.lt_of_lt_of_le h.lt o.size⟩
theorem Sq.drewN {w0 w:World} {g:Nat} {d:Array Wt} (h:Sq w0 w g d) (n:Nat):Sq w0 (w.drewN n) g d:=h.still ((Only.refl _ _).drewN n)
def lay2 (w:World) (g i:Nat) (x:Wt):World:=(w.setCell ⟨g,i*2,none⟩ (.int .i64 x.r)).setCell ⟨g,i*2+1,none⟩ (.int .i64 x.p)
theorem lay2_frozen (w:World) (g i:Nat) (x:Wt) (a:Addr):(lay2 w g i x).frozen? a=w.frozen? a:=by unfold lay2;rw[World.frozen?_setCell,World.frozen?_setCell]
theorem lay2_size (w:World) (g i:Nat) (x:Wt):(lay2 w g i x).heap.size=w.heap.size:=by simp[lay2,World.setCell]
theorem lay2_only (w:World) (g i:Nat) (x:Wt):Only (λk=>k=g) w (lay2 w g i x):=((Only.refl (λk=>k=g) w).into rfl _ _).into rfl _ _
theorem cell_same {w:World} {g o:Nat} {v u:Value} (h:w.cell? ⟨g,o,none⟩=some u):(w.setCell ⟨g,o,none⟩ v).cell? ⟨g,o,none⟩=some v:=World.cell?_setCell_same' _ _ _ (by rw[h];rfl)
theorem cell_else {w:World} {g o o':Nat} {v:Value} (h:o≠o'):(w.setCell ⟨g,o',none⟩ v).cell? ⟨g,o,none⟩=w.cell? ⟨g,o,none⟩:=by
 by_cases k:g<w.heap.size
 ·unfold World.cell? World.setCell
  simp only[Array.getElem?_modify,if_true]
  cases hb:w.heap[g]? with
  | none=>rfl
  | some ob =>
   cases ob<;>simp
   rename_i cs t fr
   rw[Array.getElem?_setIfInBounds_ne (λe=>h e.symm)]
 ·unfold World.cell? World.setCell
  rw[Array.getElem?_eq_none (by simp;exact Nat.le_of_not_lt k),Array.getElem?_eq_none (Nat.le_of_not_lt k)]
theorem lay2_cell {w:World} {g i j:Nat} {x y:Wt} (h:w.cell? ⟨g,j*2,none⟩=some (.int .i64 y.r)∧w.cell? ⟨g,j*2+1,none⟩=some (.int .i64 y.p)) :
  (lay2 w g i x).cell? ⟨g,j*2,none⟩=some (.int .i64 (if j=i then x else y).r)∧(lay2 w g i x).cell? ⟨g,j*2+1,none⟩=some (.int .i64 (if j=i then x else y).p):=by
 unfold lay2
 by_cases e:j=i
 ·subst e
  rw[if_pos rfl]
  refine⟨?_,?_⟩
  ·rw[cell_else (by omega)]
   exact cell_same h.1
  ·exact cell_same (u:=.int .i64 y.p) (by rw[cell_else (by omega)];exact h.2)
 ·rw[if_neg e]
  refine⟨?_,?_⟩
  ·rw[cell_else (by omega),cell_else (by omega)];exact h.1
  ·rw[cell_else (by omega),cell_else (by omega)];exact h.2
theorem swp_at14 {d:Array Wt} {i j k:Nat} (hi:i<d.size) (hj:j<d.size):(swp d i j)[k]! = if k=j then d[i]! else if k=i then d[j]! else d[k]!:=by
 by_cases e:k=j
 ·subst e;rw[if_pos rfl,swp_right d i k hj]
 ·rw[if_neg e]
  by_cases e2:k=i
  ·subst e2;rw[if_pos rfl,swp_left d k j hi e]
  ·rw[if_neg e2,swp_other d i j k e2 e]
theorem Sq.swap {w0 w:World} {g:Nat} {d:Array Wt} (h:Sq w0 w g d) {i j:Nat} {x y:Wt} (hi:i<d.size) (hj:j<d.size) (hx:d[i]! = x) (hy:d[j]! = y):Sq w0 (lay2 (lay2 w g i y) g j x) g (swp d i j):=by
 refine⟨λk hk=>?_,λk=>by rw[lay2_frozen,lay2_frozen];exact h.fz k,λk hk=>?_,h.only.same ((lay2_only w g i y).same (lay2_only _ g j x)),by rw[lay2_size,lay2_size];exact h.lt⟩
 ·rw[size_swp] at hk
  rw[swp_at14 hi hj]
  have:=lay2_cell (i:=j) (x:=x) (lay2_cell (i:=i) (x:=y) (h.cell k hk))
  by_cases e:k=j
  ·rw[if_pos e] at this ⊢;rw[hx];exact this
  ·rw[if_neg e] at this ⊢
   by_cases e2:k=i
   ·rw[if_pos e2] at this ⊢;rw[hy];exact this
   ·rw[if_neg e2] at this ⊢;exact this
 ·rw[size_swp] at hk
  rw[swp_at14 hi hj]
  by_cases e:k=j
  ·rw[if_pos e];exact h.ok i hi
  ·rw[if_neg e]
   by_cases e2:k=i
   ·rw[if_pos e2];exact h.ok j hj
   ·rw[if_neg e2];exact h.ok k hk
abbrev cmpV (p:Nat):Value:=.func (.func 123) #[.pointer (some ⟨p,0,none⟩)] #[]
def Less (κ:Wt→Int) (w0:World) (g p:Nat):Prop:=∀w,Only (λk=>k=g) w0 w→∀x y:Wt,wfW x→wfW y →
 Calls prog 123 #[.pointer (some ⟨p,0,none⟩),.agg #[.int .i64 x.r,.int .i64 x.p],.agg #[.int .i64 y.r,.int .i64 y.p]] w λe w'=>e=.returned (.int .i64 (kcmp κ x y))∧Only n_ w w'
theorem Less.at_ {κ:Wt→Int} {w0:World} {g p:Nat} (h:Less κ w0 g p) {w w':World} {d:Array Wt} (s:Sq w0 w g d) (o:Only n_ w w') {i j:Nat} {x y:Wt} (hi:i<d.size) (hj:j<d.size) (hx:d[i]! = x) (hy:d[j]! = y) :
  Calls prog 123 #[.pointer (some ⟨p,0,none⟩),.agg #[.int .i64 x.r,.int .i64 x.p],.agg #[.int .i64 y.r,.int .i64 y.p]] w' λe w''=>e=.returned (.int .i64 (kcmp κ x y))∧Only n_ w' w'':=
 h w' (s.only.idle o) x y (hx▸s.ok i hi) (hy▸s.ok j hj)
end Go.Proofs.YtfbpjobobdidiaaGreatDoor
namespace Go.Proofs.YtfbpjobobdidiaaGreatDoor
open Lib (hid)
open Go.Proofs.Tryz
open Go.RowKit
set_option linter.unusedVariables false
theorem step_append_mine16 {P:Program} {ops:Array Oper} {o:Oper} {a:Act} {w:World} {K:Act→World→Prop} {Q:Exit→Act→World→Prop} {E:Prop}
  (hg:o.guard=none) (s x:Operand) (t:TypeId) (hop:o.op=Op.call { callee:=Callee.builtin Builtin.append,args:=#[s,x],argTypes:=#[t,t] })
  (base:Nat) (e:TypeId) (i:TypeInfo) (z:Value) (size bytes:Nat) (h1:P.underlying t=some (.slice e)) (h2:P.info? e=some i) (h3:i.zero=some z) (h4:i.size=size) (h5:i.bytes=bytes) (h6:z.cells.size=size) (h7:0<size)
  (v:Value) (k:Nat) (xs:List Value) (hs:a.eval s=v) (hown:w.ownsRow base e size v k xs)
  (ad:Addr) (m c:Nat) (news:List Value) (hx:a.eval x=.slice (some ad) m c) (hn:news.length=m*size) (hc:∀j u,news[j]? = some u→w.cell? (ad.add j)=some u) (h1c:∀u∈news,u.oneCell'=true)
  (b1:k+m≤maxLen) (b2:(k+m)*bytes≤140737488355328) (b3:base≤w.heap.size)
  (hK:∀v' w',w'.ownsRow base e size v' (k+m) (xs++news)→w.grownBy w' v.ownBlock→K (a.put o.dst v') w') :
  if Region.wanted o (yielded ops a.tmps)=true then Oper.wp P o a w K Q else E:=by
 have hw:Region.wanted o (yielded ops a.tmps)=true:=by simp[Region.wanted,hg]
 rw[if_pos hw]
 obtain⟨v',w',hrun,r1,r2,_⟩:=run_append_own (P:=P) w base t o.type e i z size bytes h1 h2 h3 h4 h5 h6 h7 v k xs hown ad m c news hn hc h1c b1 b2 b3
 unfold Oper.wp
 simp[execOp,hop,resolve,invoke,builtin,hs,hx,hrun,Result.andThen]
 exact hK v' w' r1 r2
theorem flat_take16 {α:Type} {c:α→List Value} {k:Nat} (hk:∀a,(c a).length=k):∀(l:List α) (i:Nat),(l.take i).flatMap c=(l.flatMap c).take (i*k):=by
 intro l
 induction l with
 | nil=>intro i;simp
 | cons x l ih =>
  intro i
  cases i with
  | zero=>simp
  | succ i =>
   rw[List.take_succ_cons,List.flatMap_cons,List.flatMap_cons,ih,show (i+1)*k=(c x).length+i*k by rw[hk,Nat.succ_mul,Nat.add_comm],List.take_length_add_append]
theorem flat_drop16 {α:Type} {c:α→List Value} {k:Nat} (hk:∀a,(c a).length=k):∀(l:List α) (i:Nat),(l.drop i).flatMap c=(l.flatMap c).drop (i*k):=by
 intro l
 induction l with
 | nil=>intro i;simp
 | cons x l ih =>
  intro i
  cases i with
  | zero=>simp
  | succ i =>
   rw[List.drop_succ_cons,List.flatMap_cons,ih,show (i+1)*k=(c x).length+i*k by rw[hk,Nat.succ_mul,Nat.add_comm],List.drop_append]
   simp
theorem wt_cells_one (l:List Wt):∀u∈l.flatMap Wt.cells,u.oneCell'=true:=λu hu=>by
 obtain⟨x,_,hx⟩:=List.mem_flatMap.1 hu
 exact wt_one x u hx
theorem wt_flat_len (l:List Wt):(l.flatMap Wt.cells).length=l.length*2:=by
 have:=flat_size wt2 l
 unfold flat at this
 simpa using this
theorem add16 (b o n:Nat):(Addr.mk b o none).add n=⟨b,o+n,none⟩:=by
 unfold Addr.add
 split
 ·rename_i z;rw[z];rfl
 ·rfl
theorem erase_at {l:List Wt} {x:Wt} {i:Nat} (h:l[i]? = some x) (hn:∀j y,j<i→l[j]? = some y→y≠x):l.erase x=l.take i++l.drop (i+1):=by
 induction l generalizing i with
 | nil=>cases h
 | cons a r ih =>
  cases i with
  | zero =>
   injection h with h
   subst h
   simp
  | succ i =>
   have na:a≠x:=hn 0 a (by omega) rfl
   rw[List.erase_cons,if_neg (by simpa using na),ih (i:=i) h (λj y hj hy=>hn (j+1) y (by omega) hy)]
   rfl
theorem without16 (l:List Wt) (x:Wt) (v:Value) (base:Nat) (w:World) (h:OwnsWt w base v l) (hl:l.length≤1000) (hx:x∈l) :
    Calls prog 25 #[v,.agg #[.int .i64 x.r,.int .i64 x.p]] w λe w'=>(∃v',e=.returned (.tuple #[v',.bool true])∧OwnsWt w' w.heap.size v' (l.erase x))∧Only n_ w w':=by
  have ne:l≠[]:=λe=>by rw[e] at hx;cases hx
  obtain⟨g,ca,rfl,hg0,hg2,hca,hmx⟩:=h.form ne
  have HR:=hid h
  obtain⟨i0,hi0,hz0,hz1,hz2⟩:=info_partsR info_wt
  have I0:=hid hi0
  have I1:=hid hz0
  have I2:=hid hz1
  have I3:=hid hz2
  have HX:=hid hx
  have HL:=hid hl
  clear hi0 hz0 hz1 hz2 h hx ne hl
  obtain⟨W1,hW1⟩:∃W,W=w.alloc (.cells #[.int .i64 x.r,.int .i64 x.p] 36):=⟨_,rfl⟩
  have o1:Only n_ w W1:=by rw[hW1];exact (Only.refl _ _).alloc _
  have RX:=hid (show Row W1 w.heap.size 36 #[.int .i64 x.r,.int .i64 x.p] from by rw[hW1];exact Row.fresh _ _ _)
  have SZ:w.heap.size≤W1.heap.size:=o1.size
  have O1:=hid o1
  have HR1:=hid (HR.out.still o1)
  have HS:=hid (show w.heap.size≤W1.heap.size from SZ)
  clear o1
  have hfin:∀(W':World) (v':Value),OwnsWt W' W1.heap.size v' (l.erase x)→OwnsWt W' w.heap.size v' (l.erase x):=λW' v' h=>h.lower14 HS.out
  have FI:=hid hfin
  clear hfin SZ
  go_enter func25,ntmps25
  go_upto_region 1 with fail
  rw[←hW1]
  clear hW1
  obtain⟨xb,hxb⟩:∃n,w.heap.size=n:=⟨_,rfl⟩
  rw[hxb] at RX ⊢
  rw[hxb] at HS
  clear hxb
  go_wp2_with fail
  go_loopw [6] (λi wr=>∃j:Nat,i=.int .i64 j∧j≤l.length∧Only n_ W1 wr∧∀m y,m<j→l[m]? = some y→y≠x) (λi _=>l.length-(intOf i).toNat)
  case atStart=>exact⟨0,rfl,Nat.zero_le _,Only.refl _ _,λm y hm=>by omega⟩
  case round =>
    obtain⟨i,rfl,hi,ow,hn⟩:=hrel
    have HN:=hid hn
    have OW:=hid ow
    have O1:=hid (O1.out.same ow)
    have HR1:=hid (HR1.out.still ow)
    have RX:=hid (ow.still RX.out)
    have HS:=hid (Nat.le_trans HS.out ow.size)
    have FI:=hid (λ(W':World) (v':Value) (h:OwnsWt W' wr.heap.size v' (l.erase x))=>FI.out W' v' (h.lower14 ow.size))
    clear hn ow
    have hl:=HL.out
    by_cases hlt:i<l.length
    · have t1:decide (i<l.length)=true:=decide_eq_true hlt
      obtain⟨y,hy⟩:∃y,l[i]? = some y:=⟨_,List.getElem?_eq_getElem hlt⟩
      have HY:=hid hy
      have cy:∀j,j<2→wr.cell? ⟨g,i*2+j,none⟩=(Wt.cells y)[j]?:=λj hj=>Owns.cell HR1.out wt2 hy hj
      have c0:wr.cell? ⟨g,i*2,none⟩=some (.int .i64 y.r):=cy 0 (by decide)
      have c1:wr.cell? ⟨g,i*2+1,none⟩=some (.int .i64 y.p):=cy 1 (by decide)
      obtain⟨x0,x1⟩:=RX.out.two
      have x0:wr.drew.cell? ⟨xb,0,none⟩=some (.int .i64 x.r):=x0
      have x1:wr.drew.cell? ⟨xb,1,none⟩=some (.int .i64 x.p):=x1
      have EQ:=λw=>eq_wt y x w
      clear hy cy
      by_cases e:y=x
      · subst e
        have ER:=hid (erase_at HY.out HN.out)
        have de:decide (y=y)=true:=decide_eq_true rfl
        rw[de] at EQ
        clear de
        go_upto_region 4 with fail
        go_region
        go_upto_region 5 with fail
        obtain⟨W5,hW5⟩:∃W,W=wr.drew:=⟨_,rfl⟩
        have o5:Only n_ wr W5:=by rw[hW5];exact (Only.refl _ _).drew
        have s5:W5.heap.size=wr.heap.size:=by rw[hW5];rfl
        have HR5:=hid (HR1.out.still o5)
        have O5:=hid (O1.out.same o5)
        have FI5:=hid (λ(W':World) (v':Value) (h:OwnsWt W' W5.heap.size v' (l.erase y))=>FI.out W' v' (s5▸h))
        rw[←hW5]
        clear c0 c1 x0 x1 EQ t1 hW5 s5 o5
        have all_:∀j u,(l.flatMap Wt.cells)[j]? = some u→W5.cell? ((Addr.mk g 0 none).add j)=some u:=World.ownsRow.cells HR5.out (g:=g) rfl
        have hc1:∀(W:World),Only n_ W5 W→∀j u,((l.take i).flatMap Wt.cells)[j]? = some u→W.cell? ((Addr.mk g 0 none).add j)=some u:=λW o j u hj=>by
          rw[flat_take16 wt2] at hj
          have hj2:j<i*2:=by have:=lt_of_get hj;rw[List.length_take] at this;omega
          rw[List.getElem?_take_of_lt hj2] at hj
          exact o.cell (all_ j u hj) (λs=>s)
        have hc2:∀(W:World),Only n_ W5 W→∀j u,((l.drop (i+1)).flatMap Wt.cells)[j]? = some u→W.cell? ((Addr.mk g ((i+1)*2) none).add j)=some u:=λW o j u hj=>by
          rw[flat_drop16 wt2,List.getElem?_drop] at hj
          have:=all_ _ u hj
          rw[add16] at this
          rw[add16]
          refine o.cell ?_ (λs=>s)
          simpa using this
        have n1:((l.take i).flatMap Wt.cells).length=i*2:=by rw[wt_flat_len,List.length_take];congr 1;omega
        have n2:((l.drop (i+1)).flatMap Wt.cells).length=(l.length-(i+1))*2:=by rw[wt_flat_len,List.length_drop]
        have own0:((W5.alloc (.cells #[] 36)).drew).ownsRow W5.heap.size 36 2 (.slice (some ⟨W5.heap.size,0,none⟩) 0 0) 0 []:=by
          refine⟨rfl,.inr ⟨W5.heap.size,0,#[],rfl,Nat.le_refl _,?_,Nat.le_refl _,Nat.zero_le _,rfl,rfl⟩⟩
          exact Row.fresh W5 36 #[]
        have O0:=((Only.refl n_ W5).alloc (.cells #[] 36)).drew
        have zO:W5.heap.size≤((W5.alloc (.cells #[] 36)).drew).heap.size:=O0.size
        have b1:i≤ca:=by omega
        have b2:(i:Int)+1≤(l.length:Int):=by omega
        have b3:i+1≤l.length:=by omega
        have b4:(0:Int)≤(i:Int)+1:=by omega
        have HW:=hid (show IntKind.i64.wrap ((i:Int)+1)=(i:Int)+1∧wrap64 ((i:Int)+1)=(i:Int)+1 from ⟨by rw[IntKind.wrap_i64];omega,by unfold wrap64;omega⟩)
        have HC1:=hid hc1
        have HC2:=hid hc2
        have N1:=hid n1
        have N2:=hid n2
        have OW0:=hid own0
        have OO0:=hid O0
        clear hc1 hc2 n1 n2 own0 O0 all_
        by_cases hcc:ca=i+1
        · subst hcc
          have xl:l.length=i+1:=by omega
          have F:=hid (show ∀v2 w2,w2.ownsRow W5.heap.size 36 2 v2 (0+i+0) ([]++(l.take i).flatMap Wt.cells++([]:List Wt).flatMap Wt.cells)→OwnsWt w2 W5.heap.size v2 (l.erase y) from λv2 w2 h=>by
            have D3:l.drop (i+1)=[]:=List.drop_of_length_le (by omega)
            show World.ownsRow _ _ _ _ _ _ _
            rw[ER.out,D3,List.flatMap_append,List.length_append,List.length_take]
            have e:min i l.length+([]:List Wt).length=0+i+0:=by simp;omega
            rw[e]
            simpa using h)
          have b5:(i:Int)≤(i:Int)+1:=by omega
          have m1:0+i≤maxLen:=by unfold maxLen;omega
          have m2:0+i+0≤maxLen:=by unfold maxLen;omega
          have m3:(0+i)*16≤140737488355328:=by omega
          have m4:(0+i+0)*16≤140737488355328:=by omega
          obtain⟨hw2,hw3⟩:=HW.out
          have N3:=hid (show (([]:List Wt).flatMap Wt.cells).length=0*2 from rfl)
          go_region_law (first
            | (refine step_append_mine16 rfl (.tmp 19) (.tmp 22) 59 rfl W5.heap.size 36 i0 _ 2 16 underlying59 I0.out I1.out I2.out I3.out rfl (by decide) _ 0 [] rfl OW0.out ⟨g,0,none⟩ i (i+1) _ rfl N1.out (HC1.out _ OO0.out) (wt_cells_one _) m1 m3 zO ?_
               intro v1 w1 hown1 hgrow1
               have O2:=hid (OO0.out.trans (Only.of_grown hgrow1) (λj hj q=>by have q2:some j=some W5.heap.size:=q;injection q2;omega))
               have OW5:=hid hown1
               have z1:W5.heap.size≤w1.heap.size:=O2.out.size
               clear hown1 hgrow1)
            | (refine step_append_mine16 rfl (.tmp 23) (.tmp 27) 59 rfl W5.heap.size 36 i0 _ 2 16 underlying59 I0.out I1.out I2.out I3.out rfl (by decide) _ (0+i) _ rfl OW5.out ⟨g,0,none⟩ 0 0 _ rfl N3.out (λj u hj=>by simp at hj) (wt_cells_one _) m2 m4 z1 ?_
               intro v2 w2 hown2 hgrow2
               have O3:=hid (O2.out.trans (Only.of_grown hgrow2) (λj hj q=>by have:=(World.ownsRow.lt OW5.out j q.symm).1;omega))
               have OW2:=hid (F.out _ _ hown2)
               clear hown2 hgrow2)
            | fail)
          all_goals
            go_wp2_with fail
            refine bodyPost_ret (results_tmp2 rfl _ _ _) rfl ?_
            exact⟨⟨_,rfl,FI5.out _ _ OW2.out⟩,O5.out.same O3.out⟩
        · have m1:0+i≤maxLen:=by unfold maxLen;omega
          have m2:0+i+(l.length-(i+1))≤maxLen:=by unfold maxLen;omega
          have m3:(0+i)*16≤140737488355328:=by omega
          have m4:(0+i+(l.length-(i+1)))*16≤140737488355328:=by omega
          have F:=hid (show ∀v2 w2,w2.ownsRow W5.heap.size 36 2 v2 (0+i+(l.length-(i+1))) ([]++(l.take i).flatMap Wt.cells++(l.drop (i+1)).flatMap Wt.cells)→OwnsWt w2 W5.heap.size v2 (l.erase y) from λv2 w2 h=>by
            show World.ownsRow _ _ _ _ _ _ _
            rw[ER.out,List.flatMap_append,List.length_append,List.length_take,List.length_drop]
            have e:min i l.length+(l.length-(i+1))=0+i+(l.length-(i+1)):=by omega
            rw[e]
            simpa using h)
          obtain⟨hw2,hw3⟩:=HW.out
          go_region_law (first
            | (refine step_append_mine16 rfl (.tmp 19) (.tmp 22) 59 rfl W5.heap.size 36 i0 _ 2 16 underlying59 I0.out I1.out I2.out I3.out rfl (by decide) _ 0 [] rfl OW0.out ⟨g,0,none⟩ i ca _ rfl N1.out (HC1.out _ OO0.out) (wt_cells_one _) m1 m3 zO ?_
               intro v1 w1 hown1 hgrow1
               have O2:=hid (OO0.out.trans (Only.of_grown hgrow1) (λj hj q=>by have q2:some j=some W5.heap.size:=q;injection q2;omega))
               have OW5:=hid hown1
               have z1:W5.heap.size≤w1.heap.size:=O2.out.size
               clear hown1 hgrow1)
            | (refine step_append_mine16 rfl (.tmp 23) (.tmp 27) 59 rfl W5.heap.size 36 i0 _ 2 16 underlying59 I0.out I1.out I2.out I3.out rfl (by decide) _ (0+i) _ rfl OW5.out ⟨g,(i+1)*2,none⟩ (l.length-(i+1)) (ca-(i+1)) _ rfl N2.out (HC2.out _ O2.out) (wt_cells_one _) m2 m4 z1 ?_
               intro v2 w2 hown2 hgrow2
               have O3:=hid (O2.out.trans (Only.of_grown hgrow2) (λj hj q=>by have:=(World.ownsRow.lt OW5.out j q.symm).1;omega))
               have OW2:=hid (F.out _ _ hown2)
               clear hown2 hgrow2)
            | fail)
          all_goals
            go_wp2_with fail
            refine bodyPost_ret (results_tmp2 rfl _ _ _) rfl ?_
            exact⟨⟨_,rfl,FI5.out _ _ OW2.out⟩,O5.out.same O3.out⟩
      · have de:decide (y=x)=false:=decide_eq_false e
        rw[de] at EQ
        have w1:IntKind.i64.wrap ((i:Int)+1)=(i:Int)+1:=by rw[IntKind.wrap_i64];omega
        have NE:=hid e
        clear e de
        go_upto_region 4 with fail
        go_region
        all_goals
          go_wp2_with fail
          go_roundw
          case rel=>exact⟨i+1,by go_num,by omega,OW.out.drew,λm z hm hz=>by
            by_cases q:m=i
            · subst q;rw[HY.out] at hz;injection hz with hz;rw[←hz];exact NE.out
            · exact HN.out m z (by omega) hz⟩
          case measure=>simp[intOf];omega
    · exfalso
      obtain⟨j,hj⟩:=List.getElem?_of_mem HX.out
      have:=(List.getElem?_eq_some_iff.1 hj).1
      exact HN.out j x (by omega) hj rfl
end Go.Proofs.YtfbpjobobdidiaaGreatDoor
namespace Go.Proofs.YtfbpjobobdidiaaGreatDoor
open Lib (hid)
open Go.Proofs.Tryz
open Go.RowKit Go.Maps
set_option linter.unusedVariables false
structure TnAt (w:World) (p b nd na L:Nat) (ps:List Pl):Prop where
 row:Row w p 147 #[.int .i64 nd,.int .i64 na,.map (some b),.int .i64 L]
 md:Md12 w b ps
 once:Once12 ps
 rise:Rise ps
 top:∀q∈ps,0≤q.n∧q.n≤L
 few:∀a,(ps.filter (λq=>q.a==a)).length≤mostL nd na a
 nd64:nd≤64
 na64:na≤64
abbrev two12 (p b:Nat):Nat→Prop:=λk=>k=p∨k=b
theorem TnAt.keep {w w':World} {p b nd na L:Nat} {ps:List Pl} (h:TnAt w p b nd na L ps) {S:Nat→Prop} (o:Only S w w') (hp:¬ S p) (hb:¬ S b):TnAt w' p b nd na L ps:=
 ⟨o.row h.row hp,h.md.keep o hb,h.once,h.rise,h.top,h.few,h.nd64,h.na64⟩
theorem TnAt.still {w w':World} {p b nd na L:Nat} {ps:List Pl} (h:TnAt w p b nd na L ps) (o:Only n_ w w'):TnAt w' p b nd na L ps:=h.keep o (λs=>s) (λs=>s)
theorem TnAt.len {w:World} {p b nd na L:Nat} {ps:List Pl} (h:TnAt w p b nd na L ps):ps.length≤128:=by
 have e:=two_len Pl.a ps
 have h1:=h.few false
 have h2:=h.few true
 have:=h.nd64
 have:=h.na64
 unfold mostL at h1 h2
 simp at h1 h2
 simp at e
 omega
theorem TnAt.ne {w:World} {p b nd na L:Nat} {ps:List Pl} (h:TnAt w p b nd na L ps):p≠b:=h.md.ne h.row
def Freed12 (nd na:Nat) (ps:List Pl) (w:World) (e:Ending) (w':World):Prop:=
 e=.returned (.tuple #[.int .i64 ((nd:Int)-(ps.filter (λq=>q.a==false)).length),.int .i64 ((na:Int)-(ps.filter (λq=>q.a==true)).length)])∧Only n_ w w'
theorem filt_step {f:Pl→Bool} {xs:List Pl} {q:Pl}:((xs++[q]).filter f).length=(xs.filter f).length+(if f q then 1 else 0):=by
 rw[List.filter_append,List.length_append]
 cases h:f q<;>simp[h]
theorem tfree_any {p b nd na L:Nat} {ps:List Pl} (w:World) (h:TnAt w p b nd na L ps) :
  Calls prog 52 #[.pointer (some ⟨p,0,none⟩)] w (Freed12 nd na ps w):=by
 have c0:w.cell? ⟨p,0,none⟩=some (.int .i64 nd):=by rw[h.row.cell];rfl
 have c1:w.cell? ⟨p,1,none⟩=some (.int .i64 na):=by rw[h.row.cell];rfl
 have c2:w.cell? ⟨p,2,none⟩=some (.map (some b)):=by rw[h.row.cell];rfl
 have LE:=h.len
 have d64:=h.nd64
 have a64:=h.na64
 obtain⟨D0,hown,hr0⟩:=h.md
 have OC:=hid h.once
 have OW:=hid hown
 have HR:=hid hr0
 have lb:=hown.lt
 clear h hown hr0
 go_enter func52,ntmps52
 go_wp2_with fail
 go_quiet (fail)
 have OW2:=hid (owns_keep12 OW.out ((Only.refl n_ w).drewN nq) (λs=>s))
 have N0:=hid ((Only.refl n_ w).drewN nq)
 obtain⟨w9,hw9⟩:∃w9,w9=w.drewN nq:=⟨_,rfl⟩
 have c2':w9.cell? ⟨p,2,none⟩=some (.map (some b)):=by rw[hw9];exact c2
 rw[←hw9] at OW2 N0 ⊢
 clear c0 c1 c2 hw9 OW
 go_wp2_with (first
  | (at_range;refine wpList_range_own _ rfl _ 145 rfl 3 169 lawI12 underlying145 _ b ps.length D0 rfl OW2.out ?_;intro w0 hrg0 hg0 hs0)
  | go_in)
 have RG0:=hid hrg0
 have G0:=hid (show Only n_ w w0 from N0.out.same ((Only.of_grown hg0).more (λ_ _ e=>by cases e)))
 have sz0:w.heap.size≤w9.heap.size:=N0.out.size
 clear hrg0 hg0 hs0
 go_frame
 go_loopw [2,3] (λv2 v3 wr=>∃(left:Lit→Bool) (cnt:Nat) (xs:List Pl),wr.ranges prog 3 plElem b w9.heap.size ps.length D0 left cnt∧v2=.int .i64 ((nd:Int)-(xs.filter (λq=>q.a==false)).length)∧v3=.int .i64 ((na:Int)-(xs.filter (λq=>q.a==true)).length)∧Got12 ps left xs∧Only n_ w wr)
  (λ_ _ wr=>wr.rangeLeft b w9.heap.size)
 case atStart =>
  exact⟨_,_,[],RG0.out,by simp,by simp,Got12.start HR.out,G0.out⟩
 case round =>
  obtain⟨left,cnt,xs,hrg,rfl,rfl,hg,ow⟩:=hrel
  have RG:=hid hrg
  have GO:=hid hg
  have OO:=hid ow
  have l1:=List.length_filter_le (λq:Pl=>q.a==false) xs
  have l2:=List.length_filter_le (λq:Pl=>q.a==true) xs
  have xl:=hg.len
  clear ow hg
  obtain⟨m,hm⟩:∃m,(xs.filter (λq=>q.a==false)).length=m:=⟨_,rfl⟩
  obtain⟨n,hn⟩:∃n,(xs.filter (λq=>q.a==true)).length=n:=⟨_,rfl⟩
  have HM:=hid hm
  have HN:=hid hn
  rw[hm] at l1 ⊢
  rw[hn] at l2 ⊢
  clear hm hn
  go_wp2_with (first
   | (at_next;refine wpList_next_ranges _ rfl _ rfl 3 lawI12 plElem (Value.int .i64) plVal (λkey kl hkey=>by obtain⟨x,rfl,_⟩:=Maps.keyOf_int_inv underlying3 hkey;exact⟨x,rfl⟩) (λv y hv=>by obtain⟨q,rfl,_⟩:=plElem_inv hv;exact⟨q,rfl⟩) b w9.heap.size ps.length _ _ _ rfl RG.out ?_ ?_)
   | go_in)
  ·intro _ hl0
   have PP:=GO.out.over OC.out hl0
   have e1:=(PP.filter (λq=>q.a==false)).length_eq
   have e2:=(PP.filter (λq=>q.a==true)).length_eq
   have E1:=hid (HM.out.symm.trans e1)
   have E2:=hid (HN.out.symm.trans e2)
   clear hl0 PP e1 e2
   go_wp2_with fail
   go_ret2
   exact⟨by rw[E1.out,E2.out];rfl,OO.out⟩
  ·intro x q kl y zs w1 cnt1 hkey hlx hq hat hrg1 hlt hg1 hs1 hen
   obtain⟨x',ex,rfl,hwx⟩:=Maps.keyOf_int_inv underlying3 hkey
   cases ex
   rw[plElem_mk] at hq
   injection hq with hq
   injection hq with hq1 hq2
   subst hq1 hq2
   obtain⟨qm,rfl⟩:=entry_of12 HR.out hat
   have G1:=hid (Only.of_grown hg1)
   have O3:=hid (OO.out.trans G1.out (λi hi z=>by have:=Option.some.inj z;omega))
   have GS:=hid (GO.out.step OC.out qm hlx)
   have RG1:=hid hrg1
   have RA:=hid (λo=>World.ranges.alloc (o:=o) (show w1.ranges prog 3 plElem b w9.heap.size ps.length D0 (strike12 left q.k) cnt1 from hrg1))
   have S2:=hid (filt_step (f:=λq:Pl=>q.a==false) (xs:=xs) (q:=q))
   have S3:=hid (filt_step (f:=λq:Pl=>q.a==true) (xs:=xs) (q:=q))
   unfold plVal at hen ⊢
   clear hkey hat hrg1 hg1 hs1 hlx qm
   cases ha:q.a with
   | false =>
    rw[ha] at hen
    go_wp2_with fail
    go_roundw
    case rel=>exact⟨strike12 left q.k,cnt1,xs++[q],RA.out _,by rw[S2.out,HM.out,ha];simp;omega,by rw[S3.out,HN.out,ha];simp,GS.out,O3.out.alloc _⟩
    case measure=>rw[World.ranges.left_eq (RA.out _),RG.out.left_eq];exact hlt
   | true =>
    rw[ha] at hen
    go_wp2_with fail
    go_roundw
    case rel=>exact⟨strike12 left q.k,cnt1,xs++[q],RA.out _,by rw[S2.out,HM.out,ha];simp,by rw[S3.out,HN.out,ha];simp;omega,GS.out,O3.out.alloc _⟩
    case measure=>rw[World.ranges.left_eq (RA.out _),RG.out.left_eq];exact hlt
end Go.Proofs.YtfbpjobobdidiaaGreatDoor
