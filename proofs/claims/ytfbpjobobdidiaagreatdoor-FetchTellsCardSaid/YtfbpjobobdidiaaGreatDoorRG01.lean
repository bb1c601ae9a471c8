/- Texts of the layers below, one behind the other. -/
import Derived.Test.YtfbpjobobdidiaaGreatDoorRG00
import Derived.Maps.AppendAt
import Derived.Deep.RegionLaw
import Derived.Lib.Walk
import Derived.Laws.Rows
import Derived.Laws.Tables
import Derived.Deep.WholeRow
import Derived.Lib.SmallJoins
import Derived.RegionTactic
set_option maxRecDepth 100000
set_option maxHeartbeats 4000000
namespace Go.Proofs.YtfbpjobobdidiaaGreatDoor
open Lib (hid)
open Go.Proofs.Tryz
open Go.RowKit
set_option linter.unusedVariables false
def Rn.val (r:Rn):Value:=.agg #[.int .i64 r.f,.int .i64 r.c]
theorem isBlock_q (x:Int) (w:World):Calls prog 157 #[.int .i64 x] w λe w'=>e=.returned (.bool (decide (0≤x∧x<256)))∧w'=w:=by
 by_cases h0:0≤x
 ·have d0:decide (0≤x)=true:=decide_eq_true h0
  by_cases h1:x<256
  ·have d1:decide (x<256)=true:=decide_eq_true h1
   rw[show decide (0≤x∧x<256)=true from decide_eq_true (by omega)]
   clear h0 h1
   skip
   go_enter func157,ntmps157
   go_wp2_with fail
   go_ret
   exact⟨rfl,rfl⟩
  ·have d1:decide (x<256)=false:=decide_eq_false h1
   rw[show decide (0≤x∧x<256)=false from decide_eq_false (by omega)]
   clear h0 h1
   skip
   go_enter func157,ntmps157
   go_wp2_with fail
   go_ret
   exact⟨rfl,rfl⟩
 ·have d0:decide (0≤x)=false:=decide_eq_false h0
  rw[show decide (0≤x∧x<256)=false from decide_eq_false (by omega)]
  clear h0
  skip
  go_enter func157,ntmps157
  go_wp2_with fail
  go_ret
  exact⟨rfl,rfl⟩
theorem isBlock_any (x:Int) (w:World):Calls prog 157 #[.int .i64 x] w λe w'=>e=.returned (.bool (decide (0≤x∧x<256)))∧Only n_ w w':=
 (isBlock_q x w).mono (λe w' h=>⟨h.1,by rw[h.2];exact Only.refl _ _⟩)
theorem may_any (x:Int) (w:World):Calls prog 137 #[.int .i64 x] w λe w'=>e=.returned (.bool (decide (mayMost x)))∧Only n_ w w':=by
 by_cases h0:1≤x
 ·have d0:decide (1≤x)=true:=decide_eq_true h0
  by_cases h1:x≤8
  ·have d1:decide (x≤8)=true:=decide_eq_true h1
   rw[show decide (mayMost x)=true from decide_eq_true (by unfold mayMost;omega)]
   clear h0 h1
   skip
   go_enter func137,ntmps137
   go_wp2_with fail
   go_ret
   exact⟨rfl,Only.refl _ _⟩
  ·have d1:decide (x≤8)=false:=decide_eq_false h1
   rw[show decide (mayMost x)=false from decide_eq_false (by unfold mayMost;omega)]
   clear h0 h1
   skip
   go_enter func137,ntmps137
   go_wp2_with fail
   go_ret
   exact⟨rfl,Only.refl _ _⟩
 ·have d0:decide (1≤x)=false:=decide_eq_false h0
  rw[show decide (mayMost x)=false from decide_eq_false (by unfold mayMost;omega)]
  clear h0
  skip
  go_enter func137,ntmps137
  go_wp2_with fail
  go_ret
  exact⟨rfl,Only.refl _ _⟩
theorem end_any (r:Rn) (w:World) (h:-9223372036854775808≤r.f+r.c∧r.f+r.c≤9223372036854775807):Calls prog 158 #[r.val] w λe w'=>e=.returned (.int .i64 (r.f+r.c))∧Only n_ w w':=by
 have v:IntKind.i64.wrap (r.f+r.c)=r.f+r.c:=by rw[IntKind.wrap_i64];omega
 clear h
 unfold Rn.val
 go_enter func158,ntmps158
 go_wp2_with fail
 go_ret
 exact⟨rfl,(Only.refl n_ w).alloc _⟩
theorem is_any (r:Rn) (w:World):Calls prog 141 #[r.val] w λe w'=>e=.returned (.bool (decide (r.Ok)))∧Only n_ w w':=by
 by_cases h0:0≤r.f
 ·have d0:decide (0≤r.f)=true:=decide_eq_true h0
  by_cases h1:1≤r.c
  ·have d1:decide (1≤r.c)=true:=decide_eq_true h1
   by_cases h2:r.c≤256
   ·have d2:decide (r.c≤256)=true:=decide_eq_true h2
    have v:IntKind.i64.wrap (256-r.c)=256-r.c:=by rw[IntKind.wrap_i64];omega
    by_cases h3:r.f≤256-r.c
    ·have d3:decide (r.f≤256-r.c)=true:=decide_eq_true h3
     rw[show decide (r.Ok)=true from decide_eq_true (by unfold Rn.Ok;omega)]
     clear h0 h1 h2 h3
     unfold Rn.val
     go_enter func141,ntmps141
     go_wp2_with fail
     go_ret
     exact⟨rfl,(Only.refl n_ w).alloc _⟩
    ·have d3:decide (r.f≤256-r.c)=false:=decide_eq_false h3
     rw[show decide (r.Ok)=false from decide_eq_false (by unfold Rn.Ok;omega)]
     clear h0 h1 h2 h3
     unfold Rn.val
     go_enter func141,ntmps141
     go_wp2_with fail
     go_ret
     exact⟨rfl,(Only.refl n_ w).alloc _⟩
   ·have d2:decide (r.c≤256)=false:=decide_eq_false h2
    rw[show decide (r.Ok)=false from decide_eq_false (by unfold Rn.Ok;omega)]
    clear h0 h1 h2
    unfold Rn.val
    go_enter func141,ntmps141
    go_wp2_with fail
    go_ret
    exact⟨rfl,(Only.refl n_ w).alloc _⟩
  ·have d1:decide (1≤r.c)=false:=decide_eq_false h1
   rw[show decide (r.Ok)=false from decide_eq_false (by unfold Rn.Ok;omega)]
   clear h0 h1
   unfold Rn.val
   go_enter func141,ntmps141
   go_wp2_with fail
   go_ret
   exact⟨rfl,(Only.refl n_ w).alloc _⟩
 ·have d0:decide (0≤r.f)=false:=decide_eq_false h0
  rw[show decide (r.Ok)=false from decide_eq_false (by unfold Rn.Ok;omega)]
  clear h0
  unfold Rn.val
  go_enter func141,ntmps141
  go_wp2_with fail
  go_ret
  exact⟨rfl,(Only.refl n_ w).alloc _⟩
def Src (w:World) (v:Value) (m:Nat) (news:List Value):Prop:=(v=.slice none 0 0∧m=0∧news=[])∨∃ad c,v=.slice (some ad) m c∧∀j u,news[j]? = some u→w.cell? (ad.add j)=some u
theorem run_append_nil {P:Program} {w:World} {base:Nat} {t ty e:TypeId} {i:TypeInfo} {size:Nat} (ht:P.underlying t=some (.slice e)) (hi:P.info? e=some i) {v:Value} {n:Nat} {xs:List Value} (hown:w.ownsRow base e size v n xs) :
  (Builtin.append_ #[t,t] ty #[v,.slice none 0 0]).run P w=.ok v w:=by
 rcases hown.2 with ⟨rfl,rfl⟩|⟨g,cap,cur,rfl,_,_,h3,_⟩
 ·simp[Builtin.append_,run_underlying ht,sizeOf,run_typeInfo w hi,Builtin.lenOf,Builtin.firstCells]
 ·simp[Builtin.append_,run_underlying ht,sizeOf,run_typeInfo w hi,Builtin.lenOf,Builtin.firstCells,h3,storeCells]
theorem run_append_src {P:Program} {w:World} (base:Nat) (t ty e:TypeId) (i:TypeInfo) (z:Value) (size bytes:Nat) (ht:P.underlying t=some (.slice e)) (hi:P.info? e=some i) (hz:i.zero=some z)
  (hsize:i.size=size) (hby:i.bytes=bytes) (hzs:z.cells.size=size) (hsz:0<size)
  (v:Value) (n:Nat) (xs:List Value) (hown:w.ownsRow base e size v n xs)
  (x:Value) (m:Nat) (news:List Value) (hx:Src w x m news) (hl:news.length=m*size) (h1:∀u∈news,u.oneCell'=true)
  (h63:n+m≤maxLen) (hbytes:(n+m)*bytes≤140737488355328) (hbase:base≤w.heap.size) :
  ∃v' w',(Builtin.append_ #[t,t] ty #[v,x]).run P w=.ok v' w'∧w'.ownsRow base e size v' (n+m) (xs++news)∧w.grownBy w' v.ownBlock∧(v'.ownBlock=v.ownBlock∨v'.ownBlock=some w.heap.size):=by
 rcases hx with ⟨rfl,rfl,rfl⟩|⟨ad,c,rfl,hc⟩
 ·refine⟨v,w,run_append_nil ht hi hown,?_,⟨rfl,rfl,rfl,Nat.le_refl _,λ_ _ _=>rfl⟩,.inl rfl⟩
  simpa using hown
 ·obtain⟨v',w',r1,r2,r3,_,r5⟩:=run_append_own_at (P:=P) (w:=w) base t ty e i z size bytes ht hi hz hsize hby hzs hsz v n xs hown ad m c news hl hc h1 h63 hbytes hbase
  exact⟨v',w',r1,r2,r3,r5⟩
theorem wpList_append_src {P:Program} (w:World) {ops:Array Oper} {rest:List Oper} {o:Oper} {a:Act} {Q:Exit→Act→World→Prop} (hgd:o.guard=none) (s x:Operand) (t:TypeId)
  (ho:o.op=.call { callee:=.builtin .append,args:=#[s,x],argTypes:=#[t,t] })
  (base:Nat) (e:TypeId) (i:TypeInfo) (z:Value) (size bytes:Nat) (ht:P.underlying t=some (.slice e)) (hi:P.info? e=some i) (hz:i.zero=some z)
  (hsize:i.size=size) (hby:i.bytes=bytes) (hzs:z.cells.size=size) (hsz:0<size)
  (v:Value) (n:Nat) (xs:List Value) (hs:a.eval s=v) (hown:w.ownsRow base e size v n xs)
  (vx:Value) (m:Nat) (news:List Value) (hx:a.eval x=vx) (hsrc:Src w vx m news) (hl:news.length=m*size) (h1:∀u∈news,u.oneCell'=true)
  (h63:n+m≤maxLen) (hbytes:(n+m)*bytes≤140737488355328) (hbase:base≤w.heap.size)
  (h:∀v' w',w'.ownsRow base e size v' (n+m) (xs++news)→w.grownBy w' v.ownBlock→(v'.ownBlock=v.ownBlock∨v'.ownBlock=some w.heap.size)→wpList P ops Q rest (a.put o.dst v') w'):wpList P ops Q (o::rest) a w:=by
 refine wpList_plain hgd λK hK=>?_
 obtain⟨v',w',hr,h2,h3,h4⟩:=run_append_src (P:=P) (w:=w) base t o.type e i z size bytes ht hi hz hsize hby hzs hsz v n xs hown vx m news hsrc hl h1 h63 hbytes hbase
 unfold Oper.wp execOp
 simp only[ho,resolve,invoke,builtin,Sem.run_bind,Sem.run_pure,Result.andThen_ok,List.map_toArray,List.map_cons,List.map_nil,hs,hx,hr]
 exact hK _ _ (h v' w' h2 h3 h4)
theorem step_append_src {P:Program} {ops:Array Oper} {o:Oper} {a:Act} {w:World} {K:Act→World→Prop} {Q:Exit→Act→World→Prop} {E:Prop}
  (hg:o.guard=none) (s x:Operand) (t:TypeId) (hop:o.op=Op.call { callee:=Callee.builtin Builtin.append,args:=#[s,x],argTypes:=#[t,t] })
  (base:Nat) (e:TypeId) (i:TypeInfo) (z:Value) (size bytes:Nat) (h1:P.underlying t=some (.slice e)) (h2:P.info? e=some i) (h3:i.zero=some z) (h4:i.size=size) (h5:i.bytes=bytes) (h6:z.cells.size=size) (h7:0<size)
  (v:Value) (k:Nat) (xs:List Value) (hs:a.eval s=v) (hown:w.ownsRow base e size v k xs)
  (vx:Value) (m:Nat) (news:List Value) (hx:a.eval x=vx) (hsrc:Src w vx m news) (hn:news.length=m*size) (h1c:∀u∈news,u.oneCell'=true)
  (b1:k+m≤maxLen) (b2:(k+m)*bytes≤140737488355328) (b3:base≤w.heap.size)
  (hK:∀v' w',w'.ownsRow base e size v' (k+m) (xs++news)→w.grownBy w' v.ownBlock→K (a.put o.dst v') w') :
  if Region.wanted o (yielded ops a.tmps)=true then Oper.wp P o a w K Q else E:=by
 have hw:Region.wanted o (yielded ops a.tmps)=true:=by simp[Region.wanted,hg]
 rw[if_pos hw]
 obtain⟨v',w',hrun,r1,r2,_⟩:=run_append_src (P:=P) (w:=w) base t o.type e i z size bytes h1 h2 h3 h4 h5 h6 h7 v k xs hown vx m news hsrc hn h1c b1 b2 b3
 unfold Oper.wp
 simp[execOp,hop,resolve,invoke,builtin,hs,hx,hrun,Result.andThen]
 exact hK v' w' r1 r2
theorem info_partsR {e:TypeId} {z:Value} {n m:Nat} (h:(prog.info? e).map (λi=>(i.zero,i.size,i.bytes))=some (some z,n,m)) :
  ∃i:TypeInfo,prog.info? e=some i∧i.zero=some z∧i.size=n∧i.bytes=m:=by
 cases hq:prog.info? e with
 | none=>simp[hq] at h
 | some i =>
  simp[hq] at h
  exact⟨i,rfl,h.1,h.2.1,h.2.2⟩
theorem flat_takeL {α:Type} {c:α→List Value} {k:Nat} (hk:∀a,(c a).length=k):∀(l:List α) (i:Nat),(l.take i).flatMap c=(l.flatMap c).take (i*k):=by
 intro l
 induction l with
 | nil=>intro i;simp
 | cons x l ih =>
  intro i
  cases i with
  | zero=>simp
  | succ i =>
   rw[List.take_succ_cons,List.flatMap_cons,List.flatMap_cons,ih,show (i+1)*k=(c x).length+i*k by rw[hk,Nat.succ_mul,Nat.add_comm],List.take_length_add_append]
theorem flat_dropL {α:Type} {c:α→List Value} {k:Nat} (hk:∀a,(c a).length=k):∀(l:List α) (i:Nat),(l.drop i).flatMap c=(l.flatMap c).drop (i*k):=by
 intro l
 induction l with
 | nil=>intro i;simp
 | cons x l ih =>
  intro i
  cases i with
  | zero=>simp
  | succ i =>
   rw[List.drop_succ_cons,List.flatMap_cons,ih,show (i+1)*k=(c x).length+i*k by rw[hk,Nat.succ_mul,Nat.add_comm],List.drop_append]
   simp
theorem Owns.lower11 {α:Type} {w:World} {base base':Nat} {e:TypeId} {k:Nat} {c:α→List Value} {v:Value} {xs:List α} (h:Owns w base e k c v xs) (hb:base'≤base):Owns w base' e k c v xs:=by
 refine⟨h.1,?_⟩
 rcases h.2 with h2|⟨g,cap,cur,hv,hg,r⟩
 ·exact .inl h2
 ·exact .inr ⟨g,cap,cur,hv,Nat.le_trans hb hg,r⟩
theorem addL11 (b o n:Nat):(Addr.mk b o none).add n=⟨b,o+n,none⟩:=by
 unfold Addr.add
 split
 ·rename_i z;rw[z];rfl
 ·rfl
end Go.Proofs.YtfbpjobobdidiaaGreatDoor
namespace Go.Proofs.YtfbpjobobdidiaaGreatDoor
open Lib (hid)
open Go.Proofs.Tryz
open Go.RowKit Go.Maps
set_option linter.unusedVariables false
theorem lawI12:Keyed prog 3:=int_keyed underlying3
theorem keyI12 (x:Int):WideAt.IsKeyLit (.int .i64 x):=trivial
def plDat (p:Pl):DataW Unit:=.agg [.lit (.int .i64 p.k),.lit (.bool p.a),.lit (.int .i64 p.n),.lit (.bool p.s)]
def plVal (p:Pl):Value:=.agg #[.int .i64 p.k,.bool p.a,.int .i64 p.n,.bool p.s]
def plElem:Value→Option (DataW Unit × List MemPlace)
 | .agg cs=>match cs.toList with
  | [.int .i64 k,.bool a,.int .i64 n,.bool s]=>some (plDat ⟨k,a,n,s⟩,[])
  | _=>none
 | _=>none
theorem plElem_mk (p:Pl):plElem (plVal p)=some (plDat p,[]):=rfl
theorem plElem_inv {v:Value} {y:DataW Unit × List MemPlace} (h:plElem v=some y):∃p,v=plVal p∧y=(plDat p,[]):=by
 unfold plElem at h
 split at h
 ·rename_i cs
  split at h
  ·rename_i k a n s e
   refine⟨⟨k,a,n,s⟩,?_,(Option.some.inj h).symm⟩
   unfold plVal
   congr 1
   apply Array.ext'
   exact e
  ·cases h
 ·cases h
theorem plDat_inj {p q:Pl} (h:plDat p=plDat q):p=q:=by
 unfold plDat at h
 cases p;cases q
 simp only[DataW.agg.injEq,List.cons.injEq,DataW.lit.injEq,Lit.int.injEq,Lit.bool.injEq,true_and,and_true] at h
 obtain⟨rfl,rfl,rfl,rfl⟩:=h
 rfl
def zeroP:Pl:=⟨0,false,0,false⟩
theorem zeroE (w:World):(zeroValue 169).run prog w=.ok (plVal zeroP) w:=by kernel_rfl
def hasP (ps:List Pl) (x:Int):Bool:=ps.any (λp=>p.k==x)
theorem hasP_iff {ps:List Pl} {x:Int}:hasP ps x=true↔∃p∈ps,p.k=x:=by
 unfold hasP
 rw[List.any_eq_true]
 simp
def atP (ps:List Pl) (x:Int):Pl:=(ps.find? (λp=>p.k==x)).getD zeroP
def Once12 (ps:List Pl):Prop:=ps.Pairwise (λa b=>a.k≠b.k)
theorem Once12.inj:∀{ss:List Pl},Once12 ss→∀{a b:Pl},a∈ss→b∈ss→a.k=b.k→a=b
 | [],_,_,_,ha,_,_=>by cases ha
 | s::r,h,a,b,ha,hb,e=>by
  have h':=List.pairwise_cons.1 h
  rcases List.mem_cons.1 ha with rfl | ha'
  ·rcases List.mem_cons.1 hb with rfl | hb'
   ·rfl
   ·exact absurd e (h'.1 b hb')
  ·rcases List.mem_cons.1 hb with rfl | hb'
   ·exact absurd e.symm (h'.1 a ha')
   ·exact Once12.inj (show Once12 r from h'.2) ha' hb' e
theorem Once12.nodup {ps:List Pl} (h:Once12 ps):ps.Nodup:=h.imp (λk q=>k (by rw[q]))
theorem atP_of {ps:List Pl} (o:Once12 ps) {p:Pl} (hp:p∈ps):atP ps p.k=p:=by
 unfold atP
 cases hf:ps.find? (λq=>q.k==p.k) with
 | none=>exact absurd (List.find?_eq_none.1 hf p hp) (by simp)
 | some q =>
  have h1:=List.find?_some hf
  have h2:=List.mem_of_find?_eq_some hf
  exact o.inj h2 hp (by simpa using h1)
theorem atP_no {ps:List Pl} {x:Int} (h:hasP ps x=false):atP ps x=zeroP:=by
 unfold atP
 rw[List.find?_eq_none.2 (λp hp=>by
  intro q
  have:hasP ps x=true:=hasP_iff.2 ⟨p,hp,by simpa using q⟩
  rw[h] at this;cases this)]
 rfl
theorem atP_has {ps:List Pl} {x:Int} (h:hasP ps x=true):atP ps x∈ps∧(atP ps x).k=x:=by
 obtain⟨p,hp,e⟩:=hasP_iff.1 h
 unfold atP
 cases hf:ps.find? (λq=>q.k==x) with
 | none=>exact absurd (List.find?_eq_none.1 hf p hp) (by simp[e])
 | some q=>exact⟨List.mem_of_find?_eq_some hf,by simpa using List.find?_some hf⟩
def Reads12 (D:DataW Unit) (ps:List Pl):Prop:=(∀x,has D (.int .i64 x)=hasP ps x)∧∀p∈ps,∀z,D.atKey (.int .i64 p.k) z=plDat p
theorem Reads12.nil:Reads12 (.map []) []:=⟨λ_=>rfl,λ_ h=>by cases h⟩
theorem lit_ne12 {x y:Int} (h:y≠x):(Lit.int .i64 y)≠Lit.int .i64 x:=λk=>h (by injection k)
theorem Reads12.put {D:DataW Unit} {ps qs:List Pl} (h:Reads12 D ps) (m:IsMap D) (q:Pl) (h1:∀p∈qs,p=q∨(p∈ps∧p.k≠q.k)) (h2:q∈qs) (h3:∀p∈ps,p.k≠q.k→p∈qs):Reads12 (D.put (.int .i64 q.k) (plDat q)) qs:=by
 refine⟨λy=>?_,λe he z=>?_⟩
 ·by_cases k:y=q.k
  ·subst k
   rw[has_put_same m (keyI12 _)]
   exact (hasP_iff.2 ⟨q,h2,rfl⟩).symm
  ·rw[has_put_other (lit_ne12 k),h.1,Bool.eq_iff_iff,hasP_iff,hasP_iff]
   constructor
   ·rintro ⟨p,hp,rfl⟩
    exact⟨p,h3 p hp k,rfl⟩
   ·rintro ⟨p,hp,rfl⟩
    rcases h1 p hp with rfl|⟨hp',_⟩
    ·exact absurd rfl k
    ·exact⟨p,hp',rfl⟩
 ·rcases h1 e he with rfl|⟨he',k⟩
  ·rw[atKey_put_same m (keyI12 _)]
  ·rw[atKey_put_other (lit_ne12 k)]
   exact h.2 e he' z
theorem Reads12.del {D:DataW Unit} {ps qs:List Pl} (h:Reads12 D ps) (x:Int) (h1:∀p,p∈qs↔p∈ps∧p.k≠x):Reads12 (D.del (.int .i64 x)) qs:=by
 refine⟨λy=>?_,λe he z=>?_⟩
 ·by_cases k:y=x
  ·subst k
   rw[has_del_same]
   cases hq:hasP qs y with
   | false=>rfl
   | true =>
    obtain⟨p,hp,e⟩:=hasP_iff.1 hq
    exact absurd e ((h1 p).1 hp).2
  ·rw[has_del_other (lit_ne12 k),h.1,Bool.eq_iff_iff,hasP_iff,hasP_iff]
   constructor
   ·rintro ⟨p,hp,rfl⟩
    exact⟨p,(h1 p).2 ⟨hp,k⟩,rfl⟩
   ·rintro ⟨p,hp,rfl⟩
    exact⟨p,((h1 p).1 hp).1,rfl⟩
 ·have he':=(h1 e).1 he
  rw[atKey_del_other (lit_ne12 he'.2)]
  exact h.2 e he'.1 z
theorem Reads12.look {D:DataW Unit} {ps:List Pl} (h:Reads12 D ps) (o:Once12 ps) (x:Int):D.atKey (.int .i64 x) (plDat zeroP)=plDat (atP ps x):=by
 cases hc:hasP ps x with
 | true =>
  obtain⟨p,hp,rfl⟩:=hasP_iff.1 hc
  rw[h.2 p hp,atP_of o hp]
 | false =>
  have:=h.1 x
  rw[hc] at this
  rw[atKey_of_not_has this,atP_no hc]
theorem key_int12 {w:World} {b n:Nat} {D:DataW Unit} (h:w.ownsMap prog 3 plElem b n D):∀kl,has D kl=true→∃x,kl=.int .i64 x:=by
 intro kl hk
 obtain⟨es,clock,hb,F,_,rfl⟩:=h
 obtain⟨p,hp,hpk⟩:=List.any_eq_true.1 hk
 obtain⟨x,hx,rfl⟩:=List.mem_map.1 (mem_sorted.1 hp)
 obtain⟨y,hy⟩:=F.reads x hx
 rw[WideElems.rg_of hy] at hpk
 obtain⟨a,_,e2,_⟩:=keyOf_int_inv underlying3 (WideElems.rd_key hy)
 have:=WideAt.sameKey_eq hpk
 exact⟨a,by rw[←this,e2]⟩
theorem tight12 {w:World} {b n:Nat} {D:DataW Unit} (h:w.ownsMap prog 3 plElem b n D):w.ownsMap prog 3 plElem b (size D) D:=by
 obtain⟨es,clock,hb,F,_,rfl⟩:=h
 exact⟨es,clock,hb,F,by rw[size_eq,length_sorted];simp,rfl⟩
theorem sub_len12 {α:Type} [DecidableEq α]:∀(l l':List α),l.Nodup→(∀x∈l,x∈l')→l.length≤l'.length
 | [],_,_,_=>Nat.zero_le _
 | a::r,l',hn,hs=>by
  obtain⟨h1,h2⟩:=List.nodup_cons.1 hn
  have ha:a∈l':=hs a (by simp)
  have:=sub_len12 r (l'.erase a) h2 (λx hx=>by
   have hx':x∈l':=hs x (by simp[hx])
   exact (List.mem_erase_of_ne (λq=>h1 (by rw[←q];exact hx))).2 hx')
  rw[List.length_erase_of_mem ha] at this
  have:0<l'.length:=List.length_pos_of_mem ha
  simp only[List.length_cons]
  omega
theorem same_len12 {α:Type} [DecidableEq α] {l l':List α} (h:l.Nodup) (h':l'.Nodup) (k:∀x,x∈l↔x∈l'):l.length=l'.length:=
 Nat.le_antisymm (sub_len12 l l' h (λx hx=>(k x).1 hx)) (sub_len12 l' l h' (λx hx=>(k x).2 hx))
theorem same_perm {α:Type} [DecidableEq α]:∀{l l':List α},l.Nodup→l'.Nodup→(∀x,x∈l↔x∈l')→l.Perm l'
 | [],l',_,_,k=>by
  have:l'=[]:=List.eq_nil_iff_forall_not_mem.2 (λa ha=>by have:=(k a).2 ha;cases this)
  rw[this]
 | a::r,l',h,h',k=>by
  obtain⟨h1,h2⟩:=List.nodup_cons.1 h
  have ha:a∈l':=(k a).1 (by simp)
  have hr:r.Perm (l'.erase a):=same_perm h2 (h'.erase a) (λx=>by
   constructor
   ·intro hx
    exact (List.mem_erase_of_ne (λq=>h1 (by rw[←q];exact hx))).2 ((k x).1 (by simp[hx]))
   ·intro hx
    have hm:=List.mem_of_mem_erase hx
    rcases List.mem_cons.1 ((k x).2 hm) with q | q
    ·subst q
     exact absurd hx (List.Nodup.not_mem_erase h')
    ·exact q)
  exact (hr.cons a).trans (List.perm_cons_erase ha).symm
theorem Reads12.size {w:World} {b n:Nat} {D:DataW Unit} {ss:List Pl} (h:Reads12 D ss) (o:w.ownsMap prog 3 plElem b n D) (hn:Once12 ss):size D=ss.length:=by
 have KI:=key_int12 o
 obtain⟨ps,rfl,hp,hk⟩:=o.entries lawI12
 show ps.length=ss.length
 have e1:(ps.map (λp=>match p.1 with | .int .i64 x=>x | _=>0)).length=ps.length:=List.length_map _
 have e2:(ss.map (λe=>e.k)).length=ss.length:=List.length_map _
 rw[←e1,←e2]
 have hi:∀p∈ps,∃x,p.1=.int .i64 x:=λp hp'=>KI p.1 (List.any_eq_true.2 ⟨p,hp',WideAt.sameKey_self (hk p hp')⟩)
 refine same_len12 ?_ (by unfold List.Nodup;rw[List.pairwise_map];exact hn) ?_
 ·unfold List.Nodup
  rw[List.pairwise_map]
  refine hp.imp_of_mem ?_
  intro p q hp1 hq1 hne e
  obtain⟨x,hx⟩:=hi p hp1
  obtain⟨y,hy⟩:=hi q hq1
  simp only[hx,hy] at e
  exact hne (by rw[hx,hy,e])
 ·intro x
  have h1:=h.1 x
  constructor
  ·intro hm
   obtain⟨p,hp1,e⟩:=List.mem_map.1 hm
   obtain⟨y,hy⟩:=hi p hp1
   simp only[hy] at e
   subst e
   have:has (DataW.map ps) (.int .i64 y)=true:=List.any_eq_true.2 ⟨p,hp1,by rw[hy];exact WideAt.sameKey_self (keyI12 _)⟩
   rw[h1] at this
   obtain⟨a,ha,e⟩:=hasP_iff.1 this
   exact List.mem_map.2 ⟨a,ha,e⟩
  ·intro hm
   obtain⟨a,ha,e⟩:=List.mem_map.1 hm
   rw[hasP_iff.2 ⟨a,ha,e⟩] at h1
   obtain⟨p,hp1,hpk⟩:=List.any_eq_true.1 h1
   have:=WideAt.sameKey_eq hpk
   exact List.mem_map.2 ⟨p,hp1,by simp only[this]⟩
def Md12 (w:World) (b:Nat) (ps:List Pl):Prop:=∃D,w.ownsMap prog 3 plElem b ps.length D∧Reads12 D ps
theorem Md12.of {w:World} {b n:Nat} {D:DataW Unit} {ps:List Pl} (o:w.ownsMap prog 3 plElem b n D) (h:Reads12 D ps) (hn:Once12 ps):Md12 w b ps:=
 ⟨D,by rw[←h.size o hn];exact tight12 o,h⟩
theorem owns_keep12 {w w':World} {b n:Nat} {D:DataW Unit} (h:w.ownsMap prog 3 plElem b n D) {S:Nat→Prop} (o:Only S w w') (hn:¬ S b):w'.ownsMap prog 3 plElem b n D:=by
 have lt:=h.lt
 obtain⟨es,clock,hb,r⟩:=h
 exact⟨es,clock,(o.block b lt hn).trans hb,r⟩
theorem Md12.keep {w w':World} {b:Nat} {ps:List Pl} (h:Md12 w b ps) {S:Nat→Prop} (o:Only S w w') (hn:¬ S b):Md12 w' b ps:=by
 obtain⟨D,h1,h2⟩:=h
 exact⟨D,owns_keep12 h1 o hn,h2⟩
theorem Md12.lt {w:World} {b:Nat} {ps:List Pl} (h:Md12 w b ps):b<w.heap.size:=by
 obtain⟨D,h1,_⟩:=h
 exact h1.lt
theorem Md12.ne {w:World} {p b:Nat} {ps:List Pl} {t:TypeId} {cs:Array Value} (h:Md12 w b ps) (r:Row w p t cs):p≠b:=by
 rintro rfl
 obtain⟨D,⟨es,clock,hb,_⟩,_⟩:=h
 unfold Row at r
 rw[r] at hb
 cases hb
theorem Md12.still {w w':World} {b:Nat} {ps:List Pl} (h:Md12 w b ps) (o:Only n_ w w'):Md12 w' b ps:=h.keep o (λs=>s)
theorem only_turned12 {w w':World} {b:Nat} (h:w.mapTurned w' b):Only (λk=>k=b) w w':=(Only.of_grown h.grown).more (λi _ e=>by injection e)
theorem Md12.look {w:World} {b:Nat} {ps:List Pl} (h:Md12 w b ps) (o:Once12 ps) {x:Int} (wx:(Lit.int .i64 x).wf=true) :
  (Instr.lookup 145 (.map (some b)) (.int .i64 x) true).run prog w=.ok (.tuple #[plVal (atP ps x),.bool (hasP ps x)]) w:=by
 obtain⟨D,h1,h2⟩:=h
 obtain⟨v,zs,hrun,hv⟩:=h1.look_ok lawI12 underlying145 (zeroE w) (plElem_mk zeroP) (keyOf_int_mk underlying3 wx)
 rw[h2.1 x] at hrun
 rw[h2.look o x] at hv
 obtain⟨p,rfl,e⟩:=plElem_inv hv
 injection e with e
 rw[plDat_inj e]
 exact hrun
theorem Md12.store {w:World} {b:Nat} {ps qs:List Pl} (h:Md12 w b ps) (hn:Once12 qs) (hl:ps.length≤1000) (q:Pl) (wx:(Lit.int .i64 q.k).wf=true) (h1:∀p∈qs,p=q∨(p∈ps∧p.k≠q.k)) (h2:q∈qs) (h3:∀p∈ps,p.k≠q.k→p∈qs) :
  ∃w',(Instr.mapUpdate 145 (.map (some b)) (.int .i64 q.k) (plVal q)).run prog w=.ok () w'∧Md12 w' b qs∧Only (λk=>k=b) w w':=by
 obtain⟨D,k1,k2⟩:=h
 have IM:IsMap D:=let ⟨es,_,_,_,_,e⟩:=k1;⟨_,e⟩
 obtain⟨w',e1,e2,e3⟩:=k1.store lawI12 underlying145 (by unfold maxLen;omega) (keyOf_int_mk underlying3 wx) (plElem_mk q)
 exact⟨w',e1,Md12.of e2 (k2.put IM q h1 h2 h3) hn,only_turned12 e3⟩
theorem Md12.drop {w:World} {b:Nat} {ps qs:List Pl} (h:Md12 w b ps) (hn:Once12 qs) (x:Int) (wx:(Lit.int .i64 x).wf=true) (h1:∀p,p∈qs↔p∈ps∧p.k≠x) (ty:TypeId) :
  ∃w',(Builtin.delete_ #[145,3] ty #[.map (some b),.int .i64 x]).run prog w=.ok (.tuple #[]) w'∧Md12 w' b qs∧Only (λk=>k=b) w w':=by
 obtain⟨D,k1,k2⟩:=h
 obtain⟨w',e1,e2,e3⟩:=k1.drop lawI12 underlying145 (keyOf_int_mk underlying3 wx) ty
 exact⟨w',e1,Md12.of e2 (k2.del x h1) hn,only_turned12 e3⟩
def Got12 (ps:List Pl) (left:Lit→Bool) (xs:List Pl):Prop:=xs.Nodup∧∀e,e∈xs↔e∈ps∧left (.int .i64 e.k)=false
theorem Got12.start {D:DataW Unit} {ps:List Pl} (h:Reads12 D ps):Got12 ps (has D) []:=by
 refine⟨List.Pairwise.nil,λe=>⟨λq=>(by cases q),λ⟨he,q⟩=>?_⟩⟩
 rw[h.1,hasP_iff.2 ⟨e,he,rfl⟩] at q
 cases q
abbrev strike12 (left:Lit→Bool) (x:Int):Lit→Bool:=λz=>left z&&!z.sameKey (.int .i64 x)
theorem key_eq12 (x y:Int):(Lit.int .i64 x).sameKey (.int .i64 y)=(x==y):=by
 simp[Lit.sameKey]
 rfl
theorem Got12.step {ps xs:List Pl} {left:Lit→Bool} {e:Pl} (h:Got12 ps left xs) (hn:Once12 ps) (he:e∈ps) (hl:left (.int .i64 e.k)=true):Got12 ps (strike12 left e.k) (xs++[e]):=by
 refine⟨?_,λa=>?_⟩
 ·unfold List.Nodup
  rw[List.pairwise_append]
  refine⟨h.1,List.pairwise_singleton _ _,λa ha b hb q=>?_⟩
  have:b=e:=by simpa using hb
  subst this
  subst q
  have:=((h.2 _).1 ha).2
  rw[hl] at this
  cases this
 ·rw[List.mem_append,h.2 a]
  simp only[strike12,key_eq12,List.mem_singleton]
  constructor
  ·rintro (⟨ha,q⟩|rfl)
   ·exact⟨ha,by rw[q];rfl⟩
   ·exact⟨he,by simp⟩
  ·rintro ⟨ha,q⟩
   by_cases k:a.k=e.k
   ·exact .inr (hn.inj ha he k)
   ·have kf:(a.k==e.k)=false:=by simp[k]
    rw[kf] at q
    simp at q
    exact .inl ⟨ha,q⟩
theorem Got12.len {ps xs:List Pl} {left:Lit→Bool} (h:Got12 ps left xs):xs.length≤ps.length:=sub_len12 _ _ h.1 (λx hx=>((h.2 x).1 hx).1)
theorem Got12.over {ps xs:List Pl} {left:Lit→Bool} (h:Got12 ps left xs) (hn:Once12 ps) (hl:∀kl,left kl=false):xs.Perm ps:=same_perm h.1 hn.nodup (λe=>by
 rw[h.2 e,hl]
 simp)
theorem ranges_keep12 {w w':World} {b r n cnt:Nat} {D:DataW Unit} {left:Lit→Bool} (h:w.ranges prog 3 plElem b r n D left cnt) {S:Nat→Prop} (o:Only S w w') (hb:¬ S b) (hr:¬ S r):w'.ranges prog 3 plElem b r n D left cnt:=by
 have h1:=h.owns.lt
 have h2:=h.lt
 obtain⟨es,clock,since,seen,c0,k1,F,hs,hD,k2,rest⟩:=h
 exact⟨es,clock,since,seen,c0,(o.block b h1 hb).trans k1,F,hs,hD,(o.block r h2 hr).trans k2,rest⟩
theorem entry_of12 {D:DataW Unit} {ps:List Pl} (h:Reads12 D ps) {x:Int} {p:Pl} (hat:∀zd,D.atKey (.int .i64 x) zd=plDat p):p∈ps∧p.k=x:=by
 cases hc:hasP ps x with
 | true =>
  obtain⟨q,hq,rfl⟩:=hasP_iff.1 hc
  have:=(h.2 q hq (plDat zeroP)).symm.trans (hat (plDat zeroP))
  rw[←plDat_inj this]
  exact⟨hq,rfl⟩
 | false =>
  have h1:=h.1 x
  rw[hc] at h1
  have e1:=hat (plDat zeroP)
  have e2:=hat (plDat ⟨1,false,0,false⟩)
  rw[atKey_of_not_has h1] at e1 e2
  have:=plDat_inj (e1.trans e2.symm)
  exact absurd this (by decide)
end Go.Proofs.YtfbpjobobdidiaaGreatDoor
namespace Go.Proofs.YtfbpjobobdidiaaGreatDoor
open Lib (hid)
open Go.Proofs.Tryz
open Go.RowKit
set_option linter.unusedVariables false
def inB (l g n:Int):Bool:=decide (l≤n∧n≤g)
theorem has_any (l g n:Int) (w:World) :
  Calls prog 76 #[.agg #[.int .i64 l,.int .i64 g],.int .i64 n] w λe w'=>e=.returned (.bool (inB l g n))∧Only n_ w w':=by
 by_cases h1:l≤n
 ·by_cases h2:n≤g
  ·go_enter func76,ntmps76
   go_wp2
   go_ret
   refine⟨by rw[show inB l g n=true from decide_eq_true (by omega)];rfl,?_⟩
   exact ((Only.refl n_ w).alloc _)
  ·go_enter func76,ntmps76
   go_wp2
   go_ret
   refine⟨by rw[show inB l g n=false from decide_eq_false (by omega)];rfl,?_⟩
   exact ((Only.refl n_ w).alloc _)
 ·go_enter func76,ntmps76
  go_wp2
  go_ret
  refine⟨by rw[show inB l g n=false from decide_eq_false (by omega)];rfl,?_⟩
  exact ((Only.refl n_ w).alloc _)
structure Opt where
 (b0 b1 b2 b3 b4 b5 b6 b7 b8 b9 b10 b11 b12 b13:Int)
 deriving DecidableEq
def Opt.cells (o:Opt):Array Value:=#[.int .i64 o.b0,.int .i64 o.b1,.int .i64 o.b2,.int .i64 o.b3,.int .i64 o.b4,.int .i64 o.b5,.int .i64 o.b6,.int .i64 o.b7,.int .i64 o.b8,.int .i64 o.b9,.int .i64 o.b10,.int .i64 o.b11,.int .i64 o.b12,.int .i64 o.b13]
def Opt.val (o:Opt):Value:=.agg #[.int .i64 o.b0,.int .i64 o.b1,.int .i64 o.b2,.int .i64 o.b3,.int .i64 o.b4,.int .i64 o.b5,.int .i64 o.b6,.int .i64 o.b7,.int .i64 o.b8,.int .i64 o.b9,.int .i64 o.b10,.int .i64 o.b11,.int .i64 o.b12,.int .i64 o.b13]
theorem results_row_tmpO {P:Program} {fn:Func} {p q:Tmp} {ty:TypeId} (h:fn.results=#[.cell p ty,.tmp q]) (tmps:Array Value) (w:World) (g:Nat) (t:TypeId) (cs:Array Value) (fr:Nat × Nat) (d:TypeDesc)
  (hp:tmps.getD p undef=.pointer (some ⟨g,0,none⟩)) (hg:w.heap[g]? = some (.cells cs t fr))
  (hu:P.underlying ty=some d) (hd:(match d with | .struct _ | .array _ _=>true | _=>false)=true) (hi:(P.info? ty).map (·.size)=some cs.size) :
  (results fn tmps).run P w=.ok (.tuple #[.agg cs,tmps.getD q undef]) w:=by
 have hp':tmps[p]?.getD undef=.pointer (some ⟨g,0,none⟩):=by simpa using hp
 simp[results,h,hp',asAddr,run_loadVar_row w g t ty cs fr d hg hu hd hi]
theorem info_opt:(prog.info? 23).map (·.size)=some 14:=by kernel_rfl
theorem info_nums:(prog.info? 134).map (·.size)=some 14:=by kernel_rfl
theorem results_nums {fn:Func} {p:Tmp} (h:fn.results=#[.cell p 134]) (tmps:Array Value) (w:World) (g:Nat) (o:Opt)
  (hp:tmps.getD p undef=.pointer (some ⟨g,0,none⟩)) (hg:Row w g 134 o.cells):(results fn tmps).run prog w=.ok o.val w:=
 results_cell_row h tmps w g 134 _ (0,0) _ hp hg underlying134 rfl info_nums
theorem results_opt {fn:Func} {p:Tmp} (h:fn.results=#[.cell p 23]) (tmps:Array Value) (w:World) (g:Nat) (o:Opt)
  (hp:tmps.getD p undef=.pointer (some ⟨g,0,none⟩)) (hg:Row w g 23 o.cells):(results fn tmps).run prog w=.ok o.val w:=
 results_cell_row h tmps w g 23 _ (0,0) _ hp hg underlying23 rfl info_opt
theorem numbers_any (o:Opt) (w:World) :
  Calls prog 75 #[o.val] w λe w'=>e=.returned o.val∧Only n_ w w':=by
 obtain⟨b0,b1,b2,b3,b4,b5,b6,b7,b8,b9,b10,b11,b12,b13⟩:=o
 unfold Opt.val
 dsimp only
 go_enter func75,ntmps75
 go_wp2
 refine bodyPost_ret (results_nums rfl _ _ (w.heap.size+1) ⟨b0,b1,b2,b3,b4,b5,b6,b7,b8,b9,b10,b11,b12,b13⟩ rfl ?_) rfl ⟨rfl,?_⟩
 ·have r:=Row.fresh (w.alloc (.cells #[.int .i64 b0,.int .i64 b1,.int .i64 b2,.int .i64 b3,.int .i64 b4,.int .i64 b5,.int .i64 b6,.int .i64 b7,.int .i64 b8,.int .i64 b9,.int .i64 b10,.int .i64 b11,.int .i64 b12,.int .i64 b13] 23)) 134 (Opt.cells ⟨b0,b1,b2,b3,b4,b5,b6,b7,b8,b9,b10,b11,b12,b13⟩)
  rw[World.size_alloc] at r
  exact r
 ·exact (((Only.refl n_ w).alloc _).alloc _)
end Go.Proofs.YtfbpjobobdidiaaGreatDoor
namespace Go.Proofs.YtfbpjobobdidiaaGreatDoor
open Lib (hid)
open Go.Proofs.Tryz
open Go.RowKit Go.ChangeShapes Go.WideShapes Go.Deep
set_option linter.unusedVariables false
theorem bd_i64 {a:Int} (h:(Lit.int .i64 a).wf=true):-9223372036854775808≤a∧a≤9223372036854775807:=by
 simp only[Lit.wf,Bool.and_eq_true,decide_eq_true_eq] at h
 exact h
structure Act1 where
 kind:Int
 n:Int
 w:Wt
instance:Inhabited Act1:=⟨⟨0,0,⟨0,0⟩⟩⟩
theorem cellsWt:prog.cellsOf 36=2:=by kernel_rfl
theorem cellsI:prog.cellsOf 3=1:=by kernel_rfl
theorem wt_cells {H:Type} {enc:TypeId × Value→H} {W:World} {fuel:Nat} {cs:List Value} {x:DataW H × List MemPlace} (hf:DataW.trod enc prog W 0 (λ_=>true) true fuel 36 cs=some x) :
  ∃r p:Int,cs=[.int .i64 r,.int .i64 p]∧(Lit.int .i64 r).wf=true∧(Lit.int .i64 p).wf=true:=by
 obtain⟨hl,m,hx⟩:=open_fields underlying36 (by kernel_rfl) cellsWt hf
 obtain⟨v0,y0,e0,t0⟩:=hx 0 _ rfl
 obtain⟨v1,y1,e1,t1⟩:=hx 1 _ rfl
 obtain⟨a0,q0,_,w0⟩:=DataW.trod_int underlying3 t0
 obtain⟨a1,q1,_,w1⟩:=DataW.trod_int underlying3 t1
 simp only[List.cons.injEq,and_true] at q0 q1
 subst q0 q1
 refine⟨a0,a1,?_,w0,w1⟩
 apply List.ext_getElem?
 intro j
 match j with
 | 0=>exact e0
 | 1=>exact e1
 | j+2=>rw[List.getElem?_eq_none (by rw[hl];show 2≤j+2;omega),List.getElem?_eq_none (by show 2≤j+2;omega)]
def wfW (x:Wt):Prop:=(Lit.int .i64 x.r).wf=true∧(Lit.int .i64 x.p).wf=true
end Go.Proofs.YtfbpjobobdidiaaGreatDoor
namespace Go.Proofs.YtfbpjobobdidiaaGreatDoor
open Lib (hid)
open Go.Proofs.Tryz
open Go.RowKit
set_option linter.unusedVariables false
abbrev OwnsPl (w:World) (base:Nat) (v:Value) (d:List Pl):Prop:=Owns w base 169 4 Pl.cells v d
theorem OwnsPl.len {w:World} {base:Nat} {v:Value} {d:List Pl} (h:OwnsPl w base v d):∃a cap,v=.slice a d.length cap:=by
 rcases h.2 with ⟨h0,h2⟩|⟨g,cap,cur,hv,_⟩
 ·exact⟨none,0,by rw[h0,h2]⟩
 ·exact⟨_,_,hv⟩
theorem OwnsPl.four {w:World} {base g cap:Nat} {d:List Pl} (h:OwnsPl w base (.slice (some ⟨g,0,none⟩) d.length cap) d) {i:Nat} {p:Pl} (hi:d[i]? = some p) :
  w.cell? ⟨g,i*4,none⟩=some (.int .i64 p.k)∧w.cell? ⟨g,i*4+1,none⟩=some (.bool p.a)∧w.cell? ⟨g,i*4+2,none⟩=some (.int .i64 p.n)∧w.cell? ⟨g,i*4+3,none⟩=some (.bool p.s):=
 ⟨Owns.cell h pl4 hi (j:=0) (by decide),Owns.cell h pl4 hi (j:=1) (by decide),Owns.cell h pl4 hi (j:=2) (by decide),Owns.cell h pl4 hi (j:=3) (by decide)⟩
theorem Owns.put1 {α:Type} {w:World} {base g n cap:Nat} {e:TypeId} {k:Nat} {c:α→List Value} {xs:List α} (h:Owns w base e k c (.slice (some ⟨g,0,none⟩) n cap) xs) (hk:∀a,(c a).length=k) {i:Nat} {a a':α} (hi:xs[i]? = some a) {j:Nat} (hj:j<k) {v:Value} (hv:c a'=(c a).set j v) :
  Owns (w.setCell ⟨g,i*k+j,none⟩ v) base e k c (.slice (some ⟨g,0,none⟩) n cap) (xs.set i a'):=by
 have e1:=flat_set hk xs i a a' j v hi hj hv
 obtain⟨h1,h2⟩:=h
 refine⟨?_,?_⟩
 ·rw[←e1,List.length_set,List.length_set]
  exact h1
 ·rcases h2 with ⟨q,_⟩|⟨g',cap',cur,q,hg,hb,h3,h4,h5,h6⟩
  ·cases q
  ·simp only[Value.slice.injEq,Option.some.injEq,Addr.mk.injEq,and_true] at q
   obtain⟨rfl,q2,rfl⟩:=q
   refine .inr ⟨g,cap,cur.setIfInBounds (i*k+j) v,by rw[List.length_set,←q2],hg,?_,by rw[List.length_set];exact h3,h4,by rw[Array.size_setIfInBounds];exact h5,?_⟩
   ·have r:Row w g e cur:=hb
    exact r.put _ _
   ·rw[List.length_set,←e1,←h6,Array.toList_setIfInBounds,List.take_set]
theorem Owns.init {α:Type} {w:World} {base g m cap:Nat} {e:TypeId} {k:Nat} {c:α→List Value} (hk:∀a,(c a).length=k) {xs:List α} {y:α} (h:Owns w base e k c (.slice (some ⟨g,0,none⟩) m cap) (xs++[y])) :
  Owns w base e k c (.slice (some ⟨g,0,none⟩) xs.length cap) xs:=by
 obtain⟨h1,h2⟩:=h
 have hx:(xs.flatMap c).length=xs.length*k:=by
  have:=flat_size hk xs
  unfold flat at this
  simpa using this
 refine⟨hx,?_⟩
 rcases h2 with ⟨q,_⟩|⟨g',cap',cur,q,hg,hb,h3,h4,h5,h6⟩
 ·cases q
 ·simp only[Value.slice.injEq,Option.some.injEq,Addr.mk.injEq,and_true] at q
  obtain⟨rfl,rfl,rfl⟩:=q
  refine .inr ⟨g,cap,cur,rfl,hg,hb,by rw[List.length_append] at h3;omega,h4,h5,?_⟩
  have e1:xs.length*k≤(xs++[y]).length*k:=Nat.mul_le_mul_right _ (by simp)
  have:=congrArg (List.take (xs.length*k)) h6
  rw[List.take_take,Nat.min_eq_left e1,List.flatMap_append,List.take_append_of_le_length (by omega),List.take_of_length_le (l:=xs.flatMap c) (by omega)] at this
  exact this
theorem OwnsPl.put {w:World} {base g n cap:Nat} {d:List Pl} (h:OwnsPl w base (.slice (some ⟨g,0,none⟩) n cap) d) {i:Nat} {p:Pl} (hi:d[i]? = some p) (q:Pl) :
  OwnsPl ((((w.setCell ⟨g,i*4,none⟩ (.int .i64 q.k)).setCell ⟨g,i*4+1,none⟩ (.bool q.a)).setCell ⟨g,i*4+2,none⟩ (.int .i64 q.n)).setCell ⟨g,i*4+3,none⟩ (.bool q.s)) base (.slice (some ⟨g,0,none⟩) n cap) (d.set i q):=by
 have h1:=Owns.put1 h pl4 hi (a':=⟨q.k,p.a,p.n,p.s⟩) (j:=0) (by decide) (v:=.int .i64 q.k) rfl
 have h2:=Owns.put1 h1 pl4 (get_set hi) (a':=⟨q.k,q.a,p.n,p.s⟩) (j:=1) (by decide) (v:=.bool q.a) rfl
 have h3:=Owns.put1 h2 pl4 (get_set (get_set hi)) (a':=⟨q.k,q.a,q.n,p.s⟩) (j:=2) (by decide) (v:=.int .i64 q.n) rfl
 have h4:=Owns.put1 h3 pl4 (get_set (get_set (get_set hi))) (a':=q) (j:=3) (by decide) (v:=.bool q.s) rfl
 rw[List.set_set,List.set_set,List.set_set] at h4
 exact h4
theorem qlen_any {w:World} {base:Nat} {v:Value} {d:List Pl} (h:OwnsPl w base v d):Calls prog 98 #[v] w λe w'=>e=.returned (.int .i64 d.length)∧w=w':=by
 obtain⟨a,cap,rfl⟩:=h.len
 clear h
 go_enter func98,ntmps98
 go_wp2
 go_ret
 exact⟨rfl,rfl⟩
theorem qless_any {w:World} {base:Nat} {v:Value} {d:List Pl} (h:OwnsPl w base v d) {i j:Nat} {p q:Pl} (hi:d[i]? = some p) (hj:d[j]? = some q) (hl:d.length≤1000) :
  Calls prog 210 #[v,.int .i64 i,.int .i64 j] w λe w'=>e=.returned (.bool (ltP p q))∧Only n_ w w':=by
 have li:=lt_of_get hi
 have lj:=lt_of_get hj
 obtain⟨g,cap,rfl,_⟩:=h.form (by rintro rfl;simp at hi)
 obtain⟨_,c1,c2,_⟩:=h.four hi
 obtain⟨_,d1,d2,_⟩:=h.four hj
 obtain⟨n,hn⟩:∃n,d.length=n:=⟨_,rfl⟩
 rw[hn] at li lj hl ⊢
 clear h hi hj hn
 by_cases ha:p.a=q.a
 ·have e1:(p.a==q.a)=true:=by simp[ha]
  have E:=hid (show ltP p q=decide (p.n<q.n) from by unfold ltP bne;rw[e1];rfl)
  clear ha
  go_enter func210,ntmps210
  go_wp2_with fail
  go_quiet (fail)
  go_wp2_with fail
  go_quiet (fail)
  go_wp2_with fail
  go_ret
  exact⟨by rw[E.out];rfl,((Only.refl n_ w).drewN _).drewN _⟩
 ·have e1:(p.a==q.a)=false:=by simp[ha]
  have E:=hid (show ltP p q=q.a from by unfold ltP bne;rw[e1];rfl)
  clear ha
  go_enter func210,ntmps210
  go_wp2_with fail
  go_quiet (fail)
  go_wp2_with fail
  go_ret
  exact⟨by rw[E.out];rfl,(Only.refl n_ w).drewN _⟩
theorem OwnsPl.drew {w:World} {base:Nat} {v:Value} {d:List Pl} (h:OwnsPl w base v d):OwnsPl w.drew base v d:=h
theorem swap_only {w:World} {g:Nat} {S:Nat→Prop} (hS:S g) (i:Nat) (q:Pl):Only S w ((((w.setCell ⟨g,i*4,none⟩ (.int .i64 q.k)).setCell ⟨g,i*4+1,none⟩ (.bool q.a)).setCell ⟨g,i*4+2,none⟩ (.int .i64 q.n)).setCell ⟨g,i*4+3,none⟩ (.bool q.s)):=
 (((((Only.refl S w).into hS _ _).into hS _ _).into hS _ _).into hS _ _)
theorem qswap_any {w:World} {base:Nat} {v:Value} {d:List Pl} (h:OwnsPl w base v d) {i j:Nat} {p q:Pl} (hi:d[i]? = some p) (hj:d[j]? = some q) (hl:d.length≤1000) :
  Calls prog 211 #[v,.int .i64 i,.int .i64 j] w λe w'=>e=.returned (.tuple #[])∧OwnsPl w' base v (swp12 d i j p q)∧Only (λk=>some k=v.ownBlock) w w':=by
 have li:=lt_of_get hi
 have lj:=lt_of_get hj
 obtain⟨g,cap,rfl,_⟩:=h.form (by rintro rfl;simp at hi)
 have h1:=h.put hi q
 have hj1:(d.set i q)[j]? = some (if i=j then q else q):=by
  rw[List.getElem?_set]
  by_cases k:i=j
  ·subst k;simp[li]
  ·simp[k,hj]
 have H2:=hid (h1.put hj1 p)
 have PQ:=hid (show i=j→p=q from by rintro rfl;rw[hi] at hj;exact Option.some.inj hj)
 obtain⟨c0,c1,c2,c3⟩:=h.four hi
 obtain⟨d0,d1,d2,d3⟩:=h.four hj
 have fz:∀k,w.frozen? ⟨g,k,none⟩=false:=λk=>h.frozen k
 obtain⟨n,hn⟩:∃n,d.length=n:=⟨_,rfl⟩
 rw[hn] at li lj hl H2 ⊢
 clear h hi hj hn h1 hj1
 have SO:=hid (λW i q=>swap_only (w:=W) (g:=g) (S:=λk=>some k=(Value.slice (some ⟨g,0,none⟩) n cap).ownBlock) rfl i q)
 by_cases ij:i=j
 ·subst ij
  have QP:=PQ.out rfl
  subst QP
  go_enter func211,ntmps211
  go_wp2_with fail
  go_region
  all_goals (try go_wp2)
  all_goals go_end0
  all_goals exact⟨rfl,H2.out.drew,((SO.out _ i p).same (SO.out _ i p)).drew⟩
 ·have n1:¬ i*4=j*4:=by omega
  have n2:¬ j*4=i*4:=by omega
  clear ij PQ
  go_enter func211,ntmps211
  go_wp2_with fail
  go_region
  all_goals (try go_wp2)
  all_goals go_end0
  all_goals exact⟨rfl,H2.out.drew,((SO.out _ i q).same (SO.out _ j p)).drew⟩
theorem step_append_at {P:Program} {ops:Array Oper} {o:Oper} {a:Act} {w:World} {K:Act→World→Prop} {Q:Exit→Act→World→Prop} {E:Prop}
  (hg:o.guard=none) (s x:Operand) (t:TypeId) (hop:o.op=Op.call { callee:=Callee.builtin Builtin.append,args:=#[s,x],argTypes:=#[t,t] })
  (base:Nat) (e:TypeId) (i:TypeInfo) (z:Value) (size bytes:Nat) (h1:P.underlying t=some (.slice e)) (h2:P.info? e=some i) (h3:i.zero=some z) (h4:i.size=size) (h5:i.bytes=bytes) (h6:z.cells.size=size) (h7:0<size)
  (v:Value) (k:Nat) (xs:List Value) (hs:a.eval s=v) (hown:w.ownsRow base e size v k xs)
  (ad:Addr) (m c:Nat) (news:List Value) (hx:a.eval x=.slice (some ad) m c) (hn:news.length=m*size) (hc:∀j u,news[j]? = some u→w.cell? (ad.add j)=some u) (h1c:∀u∈news,u.oneCell'=true)
  (b1:k+m≤maxLen) (b2:(k+m)*bytes≤140737488355328) (b3:base≤w.heap.size)
  (hK:∀v' w',w'.ownsRow base e size v' (k+m) (xs++news)→w.grownBy w' v.ownBlock→(v'.ownBlock=v.ownBlock∨v'.ownBlock=some w.heap.size)→K (a.put o.dst v') w') :
  if Region.wanted o (yielded ops a.tmps)=true then Oper.wp P o a w K Q else E:=by
 have hw:Region.wanted o (yielded ops a.tmps)=true:=by simp[Region.wanted,hg]
 rw[if_pos hw]
 obtain⟨v',w',hrun,r1,r2,_,r3⟩:=run_append_own_at (P:=P) (w:=w) base t o.type e i z size bytes h1 h2 h3 h4 h5 h6 h7 v k xs hown ad m c news hn hc h1c b1 b2 b3
 unfold Oper.wp
 simp[execOp,hop,resolve,invoke,builtin,hs,hx,hrun,Result.andThen]
 exact hK v' w' r1 r2 r3
theorem add12 (b o n:Nat):(Addr.mk b o none).add n=⟨b,o+n,none⟩:=by
 unfold Addr.add
 split
 ·rename_i z;rw[z];rfl
 ·rfl
def Pl.val (p:Pl):Value:=.agg #[.int .i64 p.k,.bool p.a,.int .i64 p.n,.bool p.s]
theorem info_pl:(prog.info? 169).map (λi=>(i.zero,i.size,i.bytes))=some (some (.agg #[.int .i64 0,.bool false,.int .i64 0,.bool false]),4,32):=by kernel_rfl
theorem run_assert_place (k n:Int) (a s:Bool) (w:World):(Instr.typeAssert (.iface 169 (.agg #[.int .i64 k,.bool a,.int .i64 n,.bool s])) 20 169 false).run prog w=.ok (.agg #[.int .i64 k,.bool a,.int .i64 n,.bool s]) w:=by kernel_rfl
structure Qu (w:World) (c base:Nat) (v:Value) (d:List Pl):Prop where
 row:Row w c 172 #[v]
 own:OwnsPl w base v d
 low:base≤c
theorem row_ne {w:World} {c base:Nat} {u v:Value} {d:List Pl} (hr:Row w c 172 #[u]) (ho:OwnsPl w base v d):some c≠v.ownBlock:=λq=>by
 rcases ho.2 with ⟨rfl,_⟩|⟨g,cap,cur,rfl,_,hg,_⟩
 ·cases q
 ·have:c=g:=by simpa [Value.ownBlock] using q
  subst this
  unfold Row at hr
  rw[hr] at hg
  injection hg with hg
  injection hg with _ hg
  exact absurd hg (by decide)
theorem Qu.ne {w:World} {c base:Nat} {v:Value} {d:List Pl} (h:Qu w c base v d):some c≠v.ownBlock:=row_ne h.row h.own
abbrev quB (c:Nat) (v:Value):Nat→Prop:=λk=>k=c∨some k=v.ownBlock
theorem qpush_any {w:World} {c base:Nat} {v:Value} {d:List Pl} (h:Qu w c base v d) (p:Pl) (hl:d.length≤1000) :
    Calls prog 213 #[.pointer (some ⟨c,0,none⟩),.iface 169 p.val] w λe w'=>e=.returned (.tuple #[])∧(∃v',Qu w' c base v' (d++[p])∧∀g,v'.ownBlock=some g→v.ownBlock=some g∨w.heap.size≤g)∧Only (quB c v) w w':=by
  have ra:=run_assert_place p.k p.n p.a p.s
  have lc:=h.row.lt
  have NE:=hid h.ne
  have LO:=hid h.low
  have OA:=hid (((Only.refl n_ w).alloc (.cells #[.int .i64 p.k,.bool p.a,.int .i64 p.n,.bool p.s] 169)).drew)
  have RA:=hid (show Row ((w.alloc (.cells #[.int .i64 p.k,.bool p.a,.int .i64 p.n,.bool p.s] 169)).drew) w.heap.size 169 #[.int .i64 p.k,.bool p.a,.int .i64 p.n,.bool p.s] from Row.fresh w _ _)
  have NEWS:=hid (show ∀j u,([.int .i64 p.k,.bool p.a,.int .i64 p.n,.bool p.s]:List Value)[j]? = some u→((w.alloc (.cells #[.int .i64 p.k,.bool p.a,.int .i64 p.n,.bool p.s] 169)).drew).cell? ((Addr.mk w.heap.size 0 none).add j)=some u from λj u hj=>by rw[add12,Nat.zero_add,RA.out.cell,List.getElem?_toArray];exact hj)
  have OWN:=hid (show ((w.alloc (.cells #[.int .i64 p.k,.bool p.a,.int .i64 p.n,.bool p.s] 169)).drew).ownsRow base 169 4 v d.length (d.flatMap Pl.cells) from h.own.still OA.out)
  have c1:w.cell? ⟨c,0,none⟩=some v:=by rw[h.row.cell];rfl
  have c2:w.drew.cell? ⟨c,0,none⟩=some v:=c1
  have c3:((w.alloc (.cells #[.int .i64 p.k,.bool p.a,.int .i64 p.n,.bool p.s] 169)).drew).cell? ⟨c,0,none⟩=some v:=OA.out.cell c1 (λs=>s)
  have B1:=hid (show d.length+1≤maxLen from by unfold maxLen;omega)
  have B2:=hid (show (d.length+1)*32≤140737488355328 from by omega)
  have zA:base≤((w.alloc (.cells #[.int .i64 p.k,.bool p.a,.int .i64 p.n,.bool p.s] 169)).drew).heap.size:=by have:=OA.out.size;have:=LO.out;omega
  have R:=hid h.row
  obtain⟨a,cap,rfl⟩:=h.own.len
  obtain⟨i0,hi0,hz0,hz1,hz2⟩:=info_parts info_pl
  have I0:=hid hi0
  have I1:=hid hz0
  have I2:=hid hz1
  have I3:=hid hz2
  clear hi0 hz0 hz1 hz2 h hl
  unfold Pl.val
  go_enter func213,ntmps213
  go_wp2_with fail
  go_region_law (first
    | (refine step_append_at rfl (.tmp 7) (.tmp 10) 172 rfl base 169 i0 _ 4 32 underlying172 I0.out I1.out I2.out I3.out rfl (by decide) _ d.length _ rfl OWN.out ⟨w.heap.size,0,none⟩ 1 1 [.int .i64 p.k,.bool p.a,.int .i64 p.n,.bool p.s] rfl rfl NEWS.out (pl_one p) B1.out B2.out zA ?_
       intro v1 w1 hown1 hgrow1 hat1
       have AT:=hid hat1
       have O1:=hid ((OA.out.up (S:=quB c (.slice a d.length cap))).same ((Only.of_grown hgrow1).more (λ_ _ q=>.inr q)))
       have OW1:=hid (show OwnsPl w1 base v1 (d++[p]) from by
         unfold OwnsPl Owns
         rw[List.flatMap_append,List.length_append]
         simpa [Pl.cells] using hown1)
       have R1:=hid ((Only.of_grown hgrow1).row (show Row ((w.alloc (.cells #[.int .i64 p.k,.bool p.a,.int .i64 p.n,.bool p.s] 169)).drew) c 172 #[.slice a d.length cap] from OA.out.still R.out) (λq=>NE.out q))
       have NE1:=hid (row_ne R1.out OW1.out)
       have z1:=R1.out.frozen 0
       have c4:w1.cell? ⟨c,0,none⟩=some (.slice a d.length cap):=by rw[R1.out.cell];rfl
       have l4:=R1.out.lt
       obtain⟨a1,cap1,rfl⟩:∃a1 cap1,v1=.slice a1 (d.length+1) cap1:=(by have:=OW1.out.len;simpa using this)
       clear hown1 hgrow1 hat1)
    | fail)
  all_goals
    go_wp2_with fail
    go_end0
    have OP:=(Only.refl (λk=>k=c) w1).into rfl 0 (.slice a1 (d.length+1) cap1)
    exact⟨rfl,⟨_,⟨R1.out.put 0 _,OW1.out.keep OP (λg hg e=>NE1.out (by rw[hg,e])),LO.out⟩,λg hg=>by
      rcases AT.out with q | q
      · exact .inl (q▸hg)
      · rw[q] at hg;injection hg with hg;have:=OA.out.size;right;have z:g=((w.alloc (.cells #[.int .i64 p.k,.bool p.a,.int .i64 p.n,.bool p.s] 169)).drew).heap.size:=hg.symm;omega⟩,O1.out.same (OP.more (λ_ _ q=>Or.inl q))⟩
theorem qpop_any {w:World} {c base:Nat} {v:Value} {d:List Pl} {p:Pl} (h:Qu w c base v (d++[p])) (hl:d.length≤1000) :
  Calls prog 212 #[.pointer (some ⟨c,0,none⟩)] w λe w'=>e=.returned (.iface 169 p.val)∧(∃v',Qu w' c base v' d)∧Only (quB c v) w w':=by
 obtain⟨g,cap,rfl,lg,gl,gc,gm⟩:=h.own.form (by simp)
 have hp:(d++[p])[d.length]? = some p:=by simp
 obtain⟨c0,c1,c2,c3⟩:=h.own.four hp
 have QL:=hid (qlen_any h.own)
 have z:=h.row.frozen 0
 have lc:=h.row.lt
 have q0:w.cell? ⟨c,0,none⟩=some (.slice (some ⟨g,0,none⟩) (d.length+1) cap):=by rw[h.row.cell];simp
 have H:=hid h
 simp only[List.length_append,List.length_cons,List.length_nil,Nat.zero_add] at QL gc
 have hw:IntKind.i64.wrap ((d.length+1:Nat)-1:Int)=(d.length:Int):=by rw[IntKind.wrap_i64];omega
 obtain⟨n,hn⟩:∃n,d.length=n:=⟨_,rfl⟩
 rw[hn] at c0 c1 c2 c3 q0 hw hl QL gc
 clear h hp
 go_enter func212,ntmps212
 go_wp2_with fail
 (with_reducible refine QL.out.mono ?_)
 rintro e w' ⟨rfl,rfl⟩
 go_wp2_with fail
 go_ret
 have OP:=(Only.refl (quB c (Value.slice (some ⟨g,0,none⟩) (d++[p]).length cap)) w).into (.inl rfl) 0 (.slice (some ⟨g,0,none⟩) n cap)
 have OC:=(Only.refl (λk=>k=c) w).into rfl 0 (.slice (some ⟨g,0,none⟩) n cap)
 have OI:=Owns.init pl4 H.out.own
 rw[hn] at OI
 refine⟨rfl,⟨_,(H.out.row.put 0 (.slice (some ⟨g,0,none⟩) n cap)).alloc _,?_,H.out.low⟩,OP.alloc _⟩
 exact (OI.keep OC (λa ha e=>H.out.ne (by rw[←e];exact ha.symm))).still ((Only.refl _ _).alloc _)
end Go.Proofs.YtfbpjobobdidiaaGreatDoor
