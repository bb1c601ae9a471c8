/- Texts of the layers below, one behind the other. -/
import Derived.Test.YtfbpjobobdidiaaGreatDoorRHdown
import Derived.Test.YtfbpjobobdidiaaGreatDoorRAm
import Derived.Test.YtfbpjobobdidiaaGreatDoorRG11
import Derived.Test.YtfbpjobobdidiaaGreatDoorRSo62
import Derived.Test.YtfbpjobobdidiaaGreatDoorRLnPush2
set_option maxRecDepth 100000
set_option maxHeartbeats 4000000
namespace Go.Proofs.YtfbpjobobdidiaaGreatDoor
open Lib (hid)
open Go.Proofs.Tryz
open Go.RowKit
set_option linter.unusedVariables false
def Popped (w:World) (c base:Nat) (v:Value) (d:List Pl) (x:Pl) (e:Ending) (w':World):Prop:=
 e=.returned (.iface 169 x.val)∧∃v' d',(d'++[x]).Perm d∧Heaped (fv d') d'.length∧Qu w' c base v' d'∧Only (quB c v) w w'
theorem list_last {f:List Pl} {n:Nat} {x:Pl} (hl:f.length=n+1) (hx:f[n]? = some x):f=f.take n++[x]:=by
 have h1:f=f.take n++f.drop n:=(List.take_append_drop n f).symm
 have h2:f.drop n=[x]:=by
  rw[List.drop_eq_getElem_cons (by omega),List.drop_of_length_le (by omega)]
  rw[List.getElem?_eq_getElem (by omega)] at hx
  rw[Option.some.inj hx]
 rw[h2] at h1
 exact h1
theorem hpop_any {w:World} {c base n:Nat} {v:Value} {d:List Pl} {x:Pl} (h:Qu w c base v d) (hl:d.length=n+1) (hx:d[0]? = some x) (hh:Heaped (fv d) d.length) (hb:InB d) (hn:n<1000) :
  Calls prog 99 #[.iface 174 (.pointer (some ⟨c,0,none⟩))] w (Popped w c base v d x):=by
 have eL:=e_len
 have eS:=e_swap
 have eP:=e_pop
 have mL:=m_len h.cellv
 have mS:=m_swap h.cellv
 have QL:=hid (qlen_any h.own)
 obtain⟨y,hy⟩:∃y,d[n]? = some y:=⟨_,List.getElem?_eq_getElem (by omega)⟩
 have QS:=hid (show Calls prog 211 #[v,.int .i64 0,.int .i64 n] w _ from qswap_any (i:=0) h.own hx hy (by omega))
 rw[hl] at QL
 have H:=hid h
 have P1:=hid (swp_perm hx hy)
 have L1:=hid (show (swp12 d 0 n x y).length=n+1 by rw[swp_len,hl])
 have A1:=hid (show (swp12 d 0 n x y)[n]? = some x by rw[swp_at hx hy,if_pos rfl])
 have D1:=hid (show DownOk (fv (swp12 d 0 n x y)) n 0 from heaped_root (f:=fv d) (by rw[←hl];exact hh) (λi h1 h2=>by unfold fv;rw[swp_at hx hy,if_neg (by omega),if_neg (by omega)]))
 have HB:=hid (hb.perm P1.out)
 have hwi:IntKind.i64.wrap ((n+1:Nat)-1:Int)=(n:Int):=by rw[IntKind.wrap_i64];omega
 clear h hl hx hy hh hb
 go_enter func99,ntmps99
 go_wp2_with fail
 (with_reducible refine QL.out.mono ?_)
 rintro e w' ⟨rfl,rfl⟩
 go_wp2_with fail
 (with_reducible refine QS.out.mono ?_)
 rintro e w1 ⟨rfl,o2,o3⟩
 have Q1:=hid (H.out.rowed o3 o2)
 have O1:=hid (show Only (quB c v) w w1 from o3.more (λ_ _ q=>Or.inr q))
 have DN:=hid (down_any Q1.out (by have:=L1.out;omega) D1.out HB.out (by have:=L1.out;omega))
 clear o2 o3 mL mS QL QS
 go_wp2_with fail
 (with_reducible refine DN.out.mono ?_)
 rintro e w2 ⟨⟨b,rfl⟩,f,hp,hh,hm,h2,o2⟩
 have lf:f.length=n+1:=by rw[hp.length_eq];exact L1.out
 have fx:f[n]? = some x:=by rw[hm n (Nat.le_refl _)];exact A1.out
 have EF:=hid (list_last lf fx)
 have tl:(f.take n).length=n:=by rw[List.length_take];omega
 have HP:=hid (hp.trans P1.out)
 have HH:=hid (heaped_less hh (Nat.le_refl _) (g:=fv (f.take n)) (λi hi=>by unfold fv;rw[List.getElem?_take_of_lt hi]))
 have O2:=hid (O1.out.same o2)
 have QP:=hid (qpop_any (d:=f.take n) (p:=x) (by rw[←EF.out];exact h2) (by omega))
 have mP := show (method 375 174 (.pointer (some ⟨c, 0, none⟩)) "Pop").run Tryz.prog w2 = .ok (212, .pointer (some ⟨c, 0, none⟩)) w2 from m_pop _ w2
 have TL:=hid tl
 clear hp hh hm h2 o2 lf fx tl
 generalize hv:x.val=pv at *
 go_wp2_with fail
 (with_reducible refine QP.out.mono ?_)
 rintro e w3 ⟨rfl,⟨v3,h3⟩,o3⟩
 have H3:=hid h3
 have O3:=hid o3
 clear h3 o3
 go_wp2_with fail
 go_ret
 exact⟨by rw[hv];rfl,v3,f.take n,by rw[←EF.out];exact HP.out,by rw[TL.out];exact HH.out,H3.out,O2.out.same O3.out⟩
end Go.Proofs.YtfbpjobobdidiaaGreatDoor
namespace Go.Proofs.YtfbpjobobdidiaaGreatDoor
open Lib (hid)
open Go.Proofs.Tryz
set_option linter.unusedVariables false
structure Tk where
 id:Int
 kind:Int
 b:Int
 l:Int
 tries:Int
 out:Bool
 fr:Bool
 cut:Bool
 v:Int
 deriving DecidableEq
instance:Inhabited Tk:=⟨⟨0,0,0,0,0,false,false,false,0⟩⟩
def Tk.cells (t:Tk):Array Value:=#[.int .i64 t.id,.int .i64 t.kind,.int .i64 t.b,.int .i64 t.l,.int .i64 t.tries,.int .i64 0,.bool t.out,.bool t.fr,.bool t.cut,.int .u64 t.v]
def Tk.told (t:Tk) (n:Int):Value:=.agg #[.int .i64 t.id,.int .i64 t.kind,.int .i64 t.b,.int .i64 t.l,.int .i64 t.tries,.int .i64 n,.bool t.out,.bool t.fr,.bool t.cut]
def noTk:Value:=.agg #[.int .i64 0,.int .i64 0,.int .i64 0,.int .i64 0,.int .i64 0,.int .i64 0,.bool false,.bool false,.bool false]
def Tk.sd (t:Tk):Sd:=⟨t.b,t.id⟩
def Tk.sl (t:Tk):Sl:=⟨t.id,t.kind==3,!t.out⟩
def Tk.needs (t:Tk):Bool:=!(t.kind==2)&&!t.fr
def joins:Option Tk→Bool
 | none=>false
 | some t=>!(t.kind==2)&&!t.cut
def rests:Option Tk→Bool
 | none=>false
 | some t=>t.kind==3&&!t.out
structure Mv where
 tag:Int
 wr:Bool
 lo:Int
 n:Int
 ks:List Int
 vs:List Int
 fs:List Int
 deriving DecidableEq
instance:Inhabited Mv:=⟨⟨0,false,0,0,[],[],[]⟩⟩
structure Eng where
 o:Opt
 qs:List Sl
 g:List Sx
 ts:List Tk
 ms:List Mv
 nt:Nat
 ng:Nat
def at16 (ts:List Tk) (x:Int):Option Tk:=ts.find? (λt=>t.id==x)
def Eng.lane (E:Eng) (b:Int):List Tk:=E.ts.filter (λt=>t.b==b)
def Eng.head (E:Eng) (b:Int):Option Tk:=(E.lane b).head?
def Eng.last (E:Eng) (b:Int):Option Tk:=(E.lane b).getLast?
def Eng.has (E:Eng) (b:Int):Bool:=decide (0≤b∧b<E.o.b0)
def isRead:Option Tk→Bool
 | none=>false
 | some t=>t.kind==1
def Eng.needs (E:Eng) (b:Int):Bool:=E.has b&&!(joins (E.last b)&&isRead (E.last b))
def Eng.idle (E:Eng) (b:Int):Bool:=E.has b&&(E.head b).isNone
def Eng.cnt (E:Eng) (x:Int):Int:=(ofL E.g x).length
def Eng.fd (E:Eng):Int:=E.o.b3-(rowL false E.qs).length
def Eng.fa (E:Eng):Int:=E.o.b4-(rowL true E.qs).length
def Eng.fw (E:Eng):Int:=E.o.b9-E.g.length
def mayP (w:Wt):Prop:=1≤w.r∧0≤w.p∧w.p<8
instance (w:Wt):Decidable (mayP w):=by unfold mayP;infer_instance
def Eng.refC (E:Eng) (w:Wt) (need:Bool):Int:=if mayP w then if waitsB E.g w then 4 else if E.fw=0∨(need=true∧E.fd=0) then 2 else 0 else 1
def Eng.new (E:Eng) (kind b:Int):Tk:=⟨E.nt+1,kind,b,0,0,false,false,false,0⟩
def Eng.enter (E:Eng) (kind b:Int):Eng:={ E with nt:=E.nt+1,ts:=E.ts++[E.new kind b],qs:=E.qs++[⟨E.nt+1,kind==3,true⟩] }
def Eng.end_ (E:Eng) (x:Int):Eng:={ E with ts:=E.ts.filter (λt=>!(t.id==x)),qs:=cutL E.qs x }
def upd (ts:List Tk) (x:Int) (f:Tk→Tk):List Tk:=ts.map (λt=>if t.id=x then f t else t)
def Eng.upd (E:Eng) (x:Int) (f:Tk→Tk):Eng:={ E with ts:=Go.Proofs.YtfbpjobobdidiaaGreatDoor.upd E.ts x f }
def Eng.add (E:Eng) (x:Int) (w:Wt):Eng:={ E with g:=E.g++[⟨x,w⟩] }
def Eng.prom (E:Eng) (x:Int):Eng:={ E with qs:=cutL E.qs x++[⟨x,false,(atL E.qs x).s⟩] }
def Tk.read (t:Tk):Tk:={ t with kind:=1 }
def Tk.list (l:Int) (t:Tk):Tk:={ t with l:=l }
def Tk.worth (v:Int) (t:Tk):Tk:={ t with v:=v }
def Tk.cutIt (t:Tk):Tk:={ t with cut:=true }
def Tk.go (t:Tk):Tk:={ t with out:=true,fr:=t.fr||t.needs }
def Tk.back (t:Tk):Tk:={ t with out:=false,tries:=t.tries+1 }
def Eng.readC (E:Eng) (b l:Int) (w:Wt):Int:=if E.has b=true∧(l=0∨l=1) then E.refC w (E.needs b) else 1
def Eng.readT (E:Eng) (b:Int):Int:=if joins (E.last b) then ((E.last b).getD default).id else E.nt+1
def Eng.readB (E:Eng) (b:Int):Eng:=if joins (E.last b) then (if ((E.last b).getD default).kind=3 then (E.prom (E.readT b)).upd (E.readT b) Tk.read else E) else E.enter 1 b
def Eng.read (E:Eng) (b l:Int) (w:Wt):Eng:=if E.readC b l w=0 then ((E.readB b).upd (E.readT b) (Tk.list l)).add (E.readT b) w else E
def Eng.writeC (E:Eng) (b:Int) (w:Wt):Int:=if E.has b=true then E.refC w true else 1
def Eng.goneI (E:Eng) (b:Int):Int:=if rests (E.last b) then ((E.last b).getD default).id else 0
def Eng.writeB (E:Eng) (b:Int):Eng:=if rests (E.last b) then E.end_ (E.goneI b) else E
def Eng.write (E:Eng) (b v:Int) (w:Wt):Eng:=if E.writeC b w=0 then ((((E.writeB b).enter 2 b).upd (E.nt+1) (Tk.worth v)).add (E.nt+1) w) else E
def Eng.aheadC (E:Eng) (b:Int):Int:=if E.has b=true then (if E.idle b=true then (if E.fa=0 then 2 else 0) else 5) else 1
def Eng.ahead (E:Eng) (b:Int):Eng:=if E.aheadC b=0 then E.enter 3 b else E
def cuts:Option Tk→Bool
 | none=>false
 | some t=>!(t.kind==2)&&!t.cut&&t.fr
def Eng.cutE (E:Eng) (b:Int):Eng:=if rests (E.head b) then E.end_ ((E.head b).getD default).id else if cuts (E.head b) then E.upd ((E.head b).getD default).id Tk.cutIt else E
def serves:Option Tk→Bool
 | none=>false
 | some t=>t.kind==1&&!t.out&&!t.fr
def Eng.take (E:Eng) (x:Int):Eng:={ E with g:=leftT E.g x }
def Eng.serve (E:Eng) (b:Int):Eng:=if serves (E.head b) then (E.end_ ((E.head b).getD default).id).take ((E.head b).getD default).id else E
def Eng.quitC (E:Eng) (r:Int):Int:=if E.ts.any (λt=>t.kind==2&&t.out&&(ofL E.g t.id).any (λw=>decide (w.r=r))) then 5 else 0
def Eng.leave (E:Eng) (r:Int):Eng:={ E with g:=leftR E.g r }
def gone16 (E:Eng) (x:Int):Bool:=decide (E.cnt x=0)&&!((at16 E.ts x).getD default).out
def Eng.quitL (E:Eng):List Int→Eng
 | []=>E
 | x::r=>Eng.quitL (if gone16 E x then E.end_ x else E) r
def Eng.quit (E:Eng) (r:Int):Eng:=if E.quitC r=0 then (E.leave r).quitL (quitI E.g r) else E
def Eng.ready (E:Eng) (kind:Int):List Tk:=((List.range E.o.b0.toNat).filterMap (λb:Nat=>E.head b)).filter (λt=>!t.out&&(t.kind==kind))
def Eng.run (E:Eng) (t:Tk) (room:Int):Rn:=aroundR ((E.ready t.kind).map (·.b)) (((E.ready t.kind).filter (·.needs)).map (·.b)) t.b E.o.b6 room
def Eng.along (E:Eng) (m:Mv) (t:Tk):Eng × Mv:=
 ({ (E.upd t.id Tk.go) with qs:=waitS E.qs t.id false },{ m with ks:=m.ks++[t.id],fs:=if t.needs then m.fs++[t.b] else m.fs,vs:=if m.wr then m.vs++[t.v] else m.vs })
def Eng.alongs (E:Eng) (m:Mv):List Int→Eng × Mv
 | []=>(E,m)
 | b::r=>let p:=E.along m ((E.head b).getD default);Eng.alongs p.1 p.2 r
def Eng.move0 (E:Eng) (t:Tk) (room:Int):Mv:=⟨E.ng+1,t.kind==2,(E.run t room).f,(E.run t room).c,[],[],[]⟩
def Eng.begun (E:Eng) (t:Tk) (room:Int):Eng × Mv:=Eng.alongs E (E.move0 t room) (blocksOf (E.run t room))
def Eng.begin_ (E:Eng) (t:Tk) (room:Int):Eng:={ (E.begun t room).1 with ng:=E.ng+1,ms:=E.ms++[(E.begun t room).2] }
def Eng.isHead (E:Eng) (t:Tk):Bool:=match E.head t.b with | some h=>h.id==t.id | none=>false
def Eng.nextL (E:Eng) (room:Int) (ds:List Int):List Int→Eng × List Int × Option Mv
 | []=>(E,ds,none)
 | x::r =>
  let t:=(at16 E.ts x).getD default
  if E.isHead t then
   if 0<room∨t.needs=false then (E.begin_ t room,ds,some (E.begun t room).2)
   else if t.kind=3 then Eng.nextL (E.end_ x) room (ds++[t.b]) r
   else Eng.nextL E room ds r
  else Eng.nextL E room ds r
def Eng.next (E:Eng) (room:Int):Eng × List Int × Option Mv:=if E.o.b5≤E.ms.length then (E,[],none) else E.nextL (max room 0) [] (waitL E.qs)
def fate16 (E:Eng) (t:Tk) (well:Bool):Int:=if well then 0 else if 0<E.cnt t.id∧t.tries+1<E.o.b7 then 1 else 2
structure Oc where
 t:Tk
 n:Int
 f:Int
 ws:List Wt
def Eng.outc (E:Eng) (well:Bool) (x:Int):Oc:=let t:=(at16 E.ts x).getD default;⟨t,E.cnt x,fate16 E t well,if fate16 E t well=1 then [] else ofL E.g x⟩
def Eng.come (E:Eng) (well:Bool) (x:Int):Eng:=if fate16 E ((at16 E.ts x).getD default) well=1 then { (E.upd x Tk.back) with qs:=waitS E.qs x true } else (E.end_ x).take x
def Eng.comes (E:Eng) (well:Bool):List Int→Eng × List Oc
 | []=>(E,[])
 | x::r=>let p:=Eng.comes (E.come well x) well r;(p.1,E.outc well x::p.2)
def at17 (ms:List Mv) (x:Int):Option Mv:=ms.find? (λm=>m.tag==x)
def Eng.home (E:Eng) (x:Int):Eng:={ E with ms:=E.ms.filter (λm=>!(m.tag==x)) }
def Eng.finish (E:Eng) (tag:Int) (well:Bool):Eng:=match at17 E.ms tag with | some m=>((E.home tag).comes well m.ks).1 | none=>E
def Eng.finishC (E:Eng) (tag:Int):Int:=if (at17 E.ms tag).isSome then 0 else 3
def Eng.finishO (E:Eng) (tag:Int) (well:Bool):List Oc:=match at17 E.ms tag with | some m=>((E.home tag).comes well m.ks).2 | none=>[]
end Go.Proofs.YtfbpjobobdidiaaGreatDoor
namespace Go.Proofs.YtfbpjobobdidiaaGreatDoor
open Lib (hid)
open Go.Proofs.Tryz
open Go.RowKit
set_option linter.unusedVariables false
def usual (b:Int):Opt:=⟨b,8,2,16,8,4,4,3,8,32,4,8,16,4⟩
theorem rusual_any (b:Int) (w:World):Calls prog 27 #[.int .i64 b] w λe w'=>e=.returned (usual b).val∧Only n_ w w':=by
 go_enter func27,ntmps27
 go_wp2
 exact bodyPost_ret (results_opt rfl _ _ w.heap.size (usual b) rfl (Row.fresh w 23 (usual b).cells)) rfl ⟨rfl,(Only.refl n_ w).alloc _⟩
end Go.Proofs.YtfbpjobobdidiaaGreatDoor
namespace Go.Proofs.YtfbpjobobdidiaaGreatDoor
open Lib (hid)
open Go.Proofs.Tryz
open Go.RowKit Go.Maps
set_option linter.unusedVariables false
theorem wpList_append_one8 {α:Type} {P:Program} {w:World} {ops:Array Oper} {rest:List Oper} {o:Oper} {a:Act} {Q:Exit→Act→World→Prop} (hgd:o.guard=none) (s x:Operand) (t:TypeId)
  (ho:o.op=.call { callee:=.builtin .append,args:=#[s,x],argTypes:=#[t,t] })
  {base:Nat} {e:TypeId} {k:Nat} {c:α→List Value} (i:TypeInfo) (z:Value) (bytes:Nat) (ht:P.underlying t=some (.slice e)) (hi:P.info? e=some i) (hz:i.zero=some z)
  (hsize:i.size=k) (hby:i.bytes=bytes) (hzs:z.cells.size=k) (hk0:0<k) (hk:∀y,(c y).length=k) (h1:∀y,∀u∈c y,u.oneCell'=true)
  {v:Value} {xs:List α} (hs:a.eval s=v) (hown:Owns w base e k c v xs)
  {g cc:Nat} {y:α} (hx:a.eval x=.slice (some ⟨g,0,none⟩) 1 cc) (hrow:Row w g e (c y).toArray)
  (hlen:xs.length<9223372036854775807) (hbytes:(xs.length+1)*bytes≤140737488355328) (hbase:base≤w.heap.size)
  (h:∀v' w',Owns w' base e k c v' (xs++[y])→Only (λj=>some j=v.ownBlock) w w'→wpList P ops Q rest (a.put o.dst v') w'):wpList P ops Q (o::rest) a w:=by
 refine wpList_append_own w hgd s x t ho base e i z k bytes ht hi hz hsize hby hzs hk0 v xs.length (xs.flatMap c) hs hown ⟨g,0,none⟩ 1 cc (c y) hx (by rw[hk];omega) ?_ (h1 y) (by unfold maxLen;omega) hbytes hbase ?_
 ·intro j u hj
  rw[add12,Nat.zero_add,hrow.cell,List.getElem?_toArray]
  exact hj
 ·intro v' w' h2 h3 _
  refine h v' w' ?_ (Only.of_grown h3)
  unfold Owns
  rw[List.flatMap_append,List.length_append]
  simpa using h2
theorem own_notMap {α:Type} {w:World} {base:Nat} {e:TypeId} {k:Nat} {c:α→List Value} {v:Value} {xs:List α} (h:Owns w base e k c v xs) {b n:Nat} {D:DataW Unit} (o:w.ownsMap prog 3 plElem b n D):some b≠v.ownBlock:=by
 intro q
 obtain⟨es,clock,hb,_⟩:=o
 rcases h.2 with ⟨rfl,_⟩|⟨g,cap,cur,rfl,_,hg,_⟩
 ·cases q
 ·have:b=g:=by simpa [Value.ownBlock] using q
  subst this
  rw[hb] at hg
  cases hg
theorem own_notIter {α:Type} {w:World} {base:Nat} {e:TypeId} {k:Nat} {c:α→List Value} {v:Value} {xs:List α} (h:Owns w base e k c v xs) {b r n cnt:Nat} {D:DataW Unit} {left:Lit→Bool} (o:w.ranges prog 3 plElem b r n D left cnt):some r≠v.ownBlock:=by
 intro q
 obtain⟨_,_,_,_,_,_,_,_,_,hit,_⟩:=o
 rcases h.2 with ⟨rfl,_⟩|⟨g,cap,cur,rfl,_,hg,_⟩
 ·cases q
 ·have:r=g:=by simpa [Value.ownBlock] using q
  subst this
  rw[hit] at hg
  cases hg
theorem row_notIter {w:World} {c:Nat} {t:TypeId} {cs:Array Value} (h:Row w c t cs) {b r n cnt:Nat} {D:DataW Unit} {left:Lit→Bool} (o:w.ranges prog 3 plElem b r n D left cnt):r≠c∧b≠c:=by
 obtain⟨_,_,_,_,_,hb,_,_,_,hit,_⟩:=o
 unfold Row at h
 constructor
 ·rintro rfl;rw[h] at hit;cases hit
 ·rintro rfl;rw[h] at hb;cases hb
theorem own_apart {α β:Type} {w:World} {base base':Nat} {e e':TypeId} {k k':Nat} {c:α→List Value} {c':β→List Value} {v v':Value} {xs:List α} {ys:List β} (h:Owns w base e k c v xs) (h':Owns w base' e' k' c' v' ys) (ne:e≠e') (g:Nat) (hg:v.ownBlock=some g):v'.ownBlock≠some g:=by
 intro q
 rcases h.2 with ⟨rfl,_⟩|⟨g1,cap,cur,rfl,_,h1,_⟩
 ·cases hg
 ·rcases h'.2 with ⟨rfl,_⟩|⟨g2,cap',cur',rfl,_,h2,_⟩
  ·cases q
  ·have e1:g1=g:=by simpa [Value.ownBlock] using hg
   have e2:g2=g:=by simpa [Value.ownBlock] using q
   subst e1 e2
   rw[h1] at h2
   injection h2 with h2
   injection h2 with _ h2
   exact ne h2
theorem own_row {α:Type} {w:World} {base c:Nat} {e t:TypeId} {k:Nat} {f:α→List Value} {v:Value} {xs:List α} {cs:Array Value} (h:Owns w base e k f v xs) (r:Row w c t cs) (ne:e≠t):some c≠v.ownBlock:=by
 intro q
 rcases h.2 with ⟨rfl,_⟩|⟨g1,cap,cur,rfl,_,h1,_⟩
 ·cases q
 ·have e1:c=g1:=by simpa [Value.ownBlock] using q
  subst e1
  unfold Row at r
  rw[r] at h1
  injection h1 with h1
  injection h1 with _ h1
  exact ne h1.symm
theorem run_field_k (k n:Int) (a s:Bool) (w:World):(Instr.field 169 (.agg #[.int .i64 k,.bool a,.int .i64 n,.bool s]) 0).run prog w=.ok (.int .i64 k) w:=by kernel_rfl
def lenV:Value→Nat
 | .slice _ n _=>n
 | _=>0
theorem own_len12 {w:World} {base:Nat} {v:Value} {l:List Int} (h:OwI w base v l):∃a c,v=.slice a l.length c:=by
 rcases h.2 with ⟨h0,h2⟩|⟨g,cap,cur,hv,_⟩
 ·exact⟨none,0,by rw[h0,h2]⟩
 ·exact⟨_,_,hv⟩
theorem own_lenV {w:World} {base:Nat} {v:Value} {l:List Int} (h:OwI w base v l):lenV v=l.length:=by
 obtain⟨a,c,rfl⟩:=own_len12 h
 rfl
def Told12 (xs:List Int) (w:World) (e:Ending) (w':World):Prop:=∃a cap,e=.returned (.slice a xs.length cap)∧OwI w' w.heap.size (.slice a xs.length cap) xs∧Only n_ w w'
theorem filt_more {xs:List Pl} {q:Pl} (h:q.s=true):(xs++[q]).filter (·.s)=xs.filter (·.s)++[q]:=by
 rw[List.filter_append]
 simp[h]
theorem filt_less {xs:List Pl} {q:Pl} (h:q.s=false):(xs++[q]).filter (·.s)=xs.filter (·.s):=by
 rw[List.filter_append]
 simp[h]
theorem twaiting_any {p b nd na L:Nat} {ps:List Pl} (w:World) (h:TnAt w p b nd na L ps) (hL:L<100000000) :
  Calls prog 56 #[.pointer (some ⟨p,0,none⟩)] w (Told12 (waitL (ps.map Pl.sl)) w):=by
 have c2:w.cell? ⟨p,2,none⟩=some (.map (some b)):=by rw[h.row.cell];rfl
 have lp:=h.row.lt
 have LE:=h.len
 have PB:=hid (show ∀q∈ps,0≤q.n∧q.n<1000000000 from λq hq=>by have:=h.top q hq;omega)
 have RSE:=hid h.rise
 have OC:=hid h.once
 obtain⟨D0,hown,hr0⟩:=h.md
 have HR:=hid hr0
 have lb:=hown.lt
 have o1:=(Only.refl n_ w).alloc (.cells #[.slice none 0 0] 172)
 have O1:=hid o1
 have OW:=hid (owns_keep12 hown o1 (λs=>s))
 have Q0:=hid (show Qu (w.alloc (.cells #[.slice none 0 0] 172)) w.heap.size w.heap.size (.slice none 0 0) [] from ⟨Row.fresh _ _ _,Owns.start _ _ _ _ _,Nat.le_refl _⟩)
 have SZ:=hid (show (w.alloc (.cells #[.slice none 0 0] 172)).heap.size=w.heap.size+1 by simp)
 rw[wait_sl]
 have c2':(w.alloc (.cells #[.slice none 0 0] 172)).cell? ⟨p,2,none⟩=some (.map (some b)):=o1.cell c2 (λs=>s)
 clear h hown hr0 o1
 generalize hW:w.alloc (.cells #[.slice none 0 0] 172)=W at *
 go_enter func56,ntmps56
 go_wp2_with (first
  | (at_range;refine wpList_range_own _ rfl _ 145 rfl 3 169 lawI12 underlying145 _ b ps.length D0 rfl (by first | exact OW.out | (rw[hW];exact OW.out)) ?_;intro w0 hrg0 hg0 hs0)
  | go_in)
 have RG0:=hid hrg0
 have G0:=hid (show Only n_ W w0 from (Only.of_grown hg0).more (λ_ _ e=>by cases e))
 clear hrg0 hg0 hs0
 go_frame
 go_loopw [12] (λ_ wr=>∃(left:Lit→Bool) (cnt:Nat) (xs d:List Pl) (v:Value),wr.ranges prog 3 plElem b W.heap.size ps.length D0 left cnt∧Got12 ps left xs∧d.Perm (xs.filter (·.s))∧Heaped (fv d) d.length∧Qu wr w.heap.size w.heap.size v d∧Only n_ w wr)
  (λ_ wr=>wr.rangeLeft b W.heap.size)
 case atStart =>
  exact⟨_,_,[],[],_,RG0.out,Got12.start HR.out,List.Perm.refl _,λi h0 h1=>absurd h1 (Nat.not_lt_zero _),Q0.out.still G0.out,O1.out.same G0.out⟩
 case round =>
  obtain⟨left,cnt,xs,d,v,hrg,hg,hp,hh,hq,ow⟩:=hrel
  have RG:=hid hrg
  have GO:=hid hg
  have OO:=hid ow
  have PP:=hid hp
  have HH:=hid hh
  have QU:=hid hq
  have l1:=List.length_filter_le (λq:Pl=>q.s) xs
  have xl:=hg.len
  have dl:=hp.length_eq
  clear hrg ow hg hp hh hq
  go_wp2_with (first
   | (at_next;refine wpList_next_ranges _ rfl _ rfl 3 lawI12 plElem (Value.int .i64) plVal (λkey kl hkey=>by obtain⟨x,rfl,_⟩:=Maps.keyOf_int_inv underlying3 hkey;exact⟨x,rfl⟩) (λv y hv=>by obtain⟨q,rfl,_⟩:=plElem_inv hv;exact⟨q,rfl⟩) b W.heap.size ps.length _ _ _ rfl RG.out ?_ ?_)
   | go_in)
  ·intro _ hl0
   have OV:=hid (wait_perm RSE.out PB.out (GO.out.over OC.out hl0))
   have RSW:=hid (wait_rise RSE.out PB.out)
   have TL:=hid (Nat.le_trans (wait_len ps) LE)
   have TB:=hid (show InB (waitP ps) from λq hq=>PB.out q (wait_mem.1 hq).1)
   generalize hT:waitP ps=tt at *
   have HT:=hid hT
   clear hT
   have PT:=hid (PP.out.trans OV.out)
   clear hl0 OV PP GO RG l1 xl dl
   obtain⟨i0,hi0,hz0,hz1,hz2⟩:=info_parts info_int8
   have I0:=hid hi0
   have I1:=hid hz0
   have I2:=hid hz1
   have I3:=hid hz2
   clear hi0 hz0 hz1 hz2
   go_wp2_with fail
   go_loopw [6] (λtv wr=>∃(r:Nat) (d:List Pl) (v:Value),r+d.length=tt.length∧OwI wr w.heap.size tv ((tt.take r).map (·.k))∧d.Perm (tt.drop r)∧Heaped (fv d) d.length∧Qu wr w.heap.size w.heap.size v d∧Only n_ w wr) (λtv _=>tt.length-lenV tv)
   case atStart=>exact⟨0,d,v,by rw[Nat.zero_add];exact PT.out.length_eq,Owns.start _ _ _ _ _,PT.out,HH.out,QU.out,OO.out⟩
   case round =>
    obtain⟨r,f,u,hl,ho,hp,hh,hq,ow⟩:=hrel
    clear HH QU PT OO
    have q0:=hq.cellv
    have QL:=hid (qlen_any hq.own)
    have HO:=hid ho
    have HQ:=hid hq
    have OO:=hid ow
    have PF:=hid hp
    have HF:=hid hh
    have LV:=hid (own_lenV ho)
    have HL:=hid hl
    clear ho hq ow hp hh
    cases hn:f.length with
    | zero =>
     have ET:=hid (show tt.take r=tt from List.take_of_length_le (by omega))
     rw[hn] at QL
     have HO2:=HO.out
     rw[ET.out] at HO2
     obtain⟨a,cap,rfl⟩:=own_len12 HO2
     have HO2:=hid HO2
     rw[List.length_map] at HO2
     clear HO LV
     rw[List.length_map]
     go_wp2_with fail
     (with_reducible refine QL.out.mono ?_)
     rintro e w' ⟨rfl,rfl⟩
     go_wp2_with fail
     go_ret
     show Told12 _ w _ _
     rw[HT.out]
     refine⟨a,cap,by rw[List.length_map];rfl,by rw[List.length_map];exact HO2.out,OO.out⟩
    | succ n =>
     obtain⟨x,hx⟩:∃x,f[0]? = some x:=⟨_,List.getElem?_eq_getElem (by omega)⟩
     obtain⟨t,ht⟩:∃t,tt[r]? = some t:=⟨_,List.getElem?_eq_getElem (by omega)⟩
     have hd:tt.drop r=t::tt.drop (r+1):=by
      have hr:=lt_of_get ht
      rw[List.getElem?_eq_getElem hr] at ht
      rw[List.drop_eq_getElem_cons hr,Option.some.inj ht]
     have hp:=PF.out
     rw[hd] at hp
     have XT:=hid (least_first hp (by have:=RSW.out.drop (i:=r);rw[hd] at this;exact this) HF.out hx)
     have PF2:=hid hp
     have IB:=hid (show InB f from λz hz=>TB.out z (List.mem_of_mem_drop (PF.out.mem_iff.1 hz)))
     have POP:=hpop_any HQ.out hn hx HF.out IB.out (by have:=TL.out;omega)
     have ra:=run_assert_place x.k x.n x.a x.s
     have rf:=run_field_k x.k x.n x.a x.s
     have TK:=hid (show (tt.take (r+1)).map (·.k)=(tt.take r).map (·.k)++[x.k] from by rw[XT.out,List.take_add_one,ht];simp)
     unfold Popped Pl.val at POP
     have POP:=hid POP
     have l1:=hid (show ((tt.take r).map (·.k)).length<9223372036854775807 from by have:=TL.out;rw[List.length_map,List.length_take];omega)
     have l2:=hid (show (((tt.take r).map (·.k)).length+1)*8≤140737488355328 from by have:=TL.out;rw[List.length_map,List.length_take];omega)
     have TR:=hid (show ((tt.take r).map (·.k)).length=r∧((tt.take (r+1)).map (·.k)).length=r+1 from by rw[List.length_map,List.length_take,List.length_map,List.length_take];omega)
     have HN:=hid hn
     have RT:=hid (lt_of_get ht)
     rw[hn] at QL
     have dn:decide ((0:Int)<((n+1:Nat):Int))=true:=by simp
     clear hx ht hd hp hl hn
     go_wp2_with fail
     (with_reducible refine QL.out.mono ?_)
     rintro e w' ⟨rfl,rfl⟩
     go_wp2_with fail
     (with_reducible refine POP.out.mono ?_)
     rintro e w3 ⟨rfl,u3,f3,p3,hh3,h3,o3⟩
     have H3:=hid h3
     have P3:=hid (perm_last PF2.out p3 XT.out)
     have HH3:=hid hh3
     have L3:=hid (show f3.length=n from by have:=p3.length_eq;rw[List.length_append,HN.out] at this;simpa using this)
     have HO3:=hid (HO.out.keep o3 (λg hg z=>z.elim (λz=>own_row HO.out HQ.out.row (by decide) (by rw[←z,hg])) (λz=>own_apart HO.out HQ.out.own (by decide) g hg z.symm)))
     have O3:=hid (OO.out.trans o3 (λi hi z=>by
      rcases z with z | z
      ·omega
      ·have:=(Owns.base_le HQ.out.own z.symm).1;omega))
     clear p3 hh3 h3 o3
     have oa:=(Only.refl n_ w3).alloc (.cells #[.int .i64 x.k] 3)
     have OA:=hid oa
     have RF:=hid (Row.fresh w3 3 #[.int .i64 x.k])
     have HO4:=hid (HO3.out.still oa)
     have H4:=hid (H3.out.still oa)
     have O4:=hid (O3.out.idle oa)
     have sz:w.heap.size≤(w3.alloc (.cells #[.int .i64 x.k] 3)).heap.size:=O4.out.size
     clear oa
     go_wp2_with (first
      | (at_builtin;go_loud (refine wpList_append_one8 rfl (.tmp 25) (.tmp 30) 44 rfl (c:=one11) i0 _ 8 underlying44 I0.out I1.out I2.out I3.out rfl (by decide) one1 one_one rfl HO4.out (y:=x.k) rfl RF.out l1.out l2.out sz ?_;intro v5 w5 hown5 hO5))
      | go_in)
     have H5:=hid (H4.out.keep hO5 (λz=>own_row HO4.out H4.out.row (by decide) z) (λg hg z=>own_apart HO4.out H4.out.own (by decide) g z.symm hg))
     have O5:=hid (O4.out.trans hO5 (λi hi z=>by have:=(Owns.base_le HO4.out z.symm).1;omega))
     rw[←TK.out] at hown5
     have W5:=hid hown5
     clear hown5 hO5
     go_wp2_with fail
     go_roundw
     case rel=>exact⟨r+1,f3,u3,by have:=HL.out;have:=HN.out;have:=L3.out;omega,W5.out,P3.out,HH3.out,H5.out,O5.out⟩
     case measure =>
      rw[own_lenV W5.out,LV.out,TR.out.1,TR.out.2]
      have:=RT.out
      omega
  ·intro x q kl y zs w1 cnt1 hkey hlx hq hat hrg1 hlt hg1 hs1 hen
   obtain⟨x',ex,rfl,hwx⟩:=Maps.keyOf_int_inv underlying3 hkey
   cases ex
   rw[plElem_mk] at hq
   injection hq with hq
   injection hq with hq1 hq2
   subst hq1 hq2
   obtain⟨qm,rfl⟩:=entry_of12 HR.out hat
   have G1:=hid (Only.of_grown hg1)
   have sz:=SZ.out
   have O3:=hid (OO.out.trans G1.out (λi hi z=>by have:=Option.some.inj z;omega))
   have GS:=hid (GO.out.step OC.out qm hlx)
   have RA:=hid (World.ranges.alloc (o:=.cells #[.int .i64 q.k,.bool q.a,.int .i64 q.n,.bool q.s] 169) (show w1.ranges prog 3 plElem b W.heap.size ps.length D0 (strike12 left q.k) cnt1 from hrg1))
   have ni:=row_notIter QU.out.row RG.out
   have nv:=own_notIter QU.out.own RG.out
   have nb:=own_notMap QU.out.own RG.out.owns
   have Q1:=hid (QU.out.keep G1.out (λz=>ni.1 (Option.some.inj z).symm) (λg hg z=>nv (by rw[←z,hg])))
   have Q2:=hid (Q1.out.still ((Only.refl n_ w1).alloc (.cells #[.int .i64 q.k,.bool q.a,.int .i64 q.n,.bool q.s] 169)))
   have O4:=hid (O3.out.alloc (.cells #[.int .i64 q.k,.bool q.a,.int .i64 q.n,.bool q.s] 169))
   have NI:=hid (show ¬quB w.heap.size v b∧¬ quB w.heap.size v W.heap.size from ⟨λz=>z.elim (λz=>ni.2 z) (λz=>nb z),λz=>z.elim (λz=>ni.1 z) (λz=>nv z)⟩)
   unfold plVal at hen ⊢
   clear hkey hat hrg1 hg1 hs1 hlx ni nv nb sz
   cases ha:q.s with
   | false =>
    rw[ha] at hen RA Q2 O4
    have FM:=hid (filt_less (xs:=xs) ha)
    go_wp2_with fail
    go_roundw
    case rel=>exact⟨strike12 left q.k,cnt1,xs++[q],d,v,RA.out,GS.out,by rw[FM.out];exact PP.out,HH.out,Q2.out,O4.out⟩
    case measure=>rw[World.ranges.left_eq RA.out,RG.out.left_eq];exact hlt
   | true =>
    rw[ha] at hen RA Q2 O4
    have FM:=hid (filt_more (xs:=xs) ha)
    have IB:=hid (show InB (d++[q]) from λz hz=>by
     rcases List.mem_append.1 hz with hz | hz
     ·exact PB.out z ((GO.out.2 z).1 (List.mem_filter.1 (PP.out.mem_iff.1 hz)).1).1
     ·rw[List.mem_singleton.1 hz];exact PB.out q qm)
    have HP:=hpush_any Q2.out q HH.out IB.out (by omega)
    unfold Pl.val at HP
    rw[ha] at HP
    have HP:=hid HP
    go_wp2_with fail
    (with_reducible refine HP.out.mono ?_)
    rintro e w4 ⟨rfl,v4,d4,p4,hh4,h4,l4,o4⟩
    have R4:=hid (ranges_keep12 RA.out o4 NI.out.1 NI.out.2)
    have O5:=hid (O4.out.trans o4 (λi hi z=>by
     rcases z with z | z
     ·omega
     ·have:=(Owns.base_le Q2.out.own z.symm).1;omega))
    have P4:=hid (p4.trans (PP.out.append_right [q]))
    have Q4:=hid h4
    have H4:=hid hh4
    clear o4 p4 h4 l4 hh4
    go_wp2_with fail
    go_roundw
    case rel=>exact⟨strike12 left q.k,cnt1,xs++[q],d4,v4,R4.out,GS.out,by rw[FM.out];exact P4.out,H4.out,Q4.out,O5.out⟩
    case measure=>rw[World.ranges.left_eq R4.out,RG.out.left_eq];exact hlt
end Go.Proofs.YtfbpjobobdidiaaGreatDoor
namespace Go.Proofs.YtfbpjobobdidiaaGreatDoor
open Lib (hid)
open Go.Proofs.Tryz
open Go.RowKit Go.Sort
set_option linter.unusedVariables false
theorem sift_len (lt:Wt→Wt→Bool) (hi F:Nat):∀(N root:Nat) (d:Array Wt),hi-root≤N→(siftDown lt hi F root d).size=d.size:=by
 intro N
 induction N with
 | zero=>intro root d h;rw[siftDown,dif_pos (by omega)]
 | succ N ih =>
  intro root d h
  rw[siftDown]
  split
  ·rfl
  ·split
   ·split
    ·rfl
    ·split
     ·rw[ih _ _ (by omega),size_swp]
     ·rfl
   ·split
    ·rfl
    ·rw[ih _ _ (by omega),size_swp]
theorem sift_size (lt:Wt→Wt→Bool) (hi F root:Nat) (d:Array Wt):(siftDown lt hi F root d).size=d.size:=sift_len lt hi F _ root d (Nat.le_refl _)
theorem heap49 {κ:Wt→Int} {w0:World} {g p n cap:Nat} (LS:Less κ w0 g p) (a b:Nat) (d:Array Wt) (w:World) (S:Sq w0 w g d) (hd:d.size=n) (hab:a<b) (hb:b≤n) (hn:n≤1000) :
  Calls prog 174 #[.slice (some ⟨g,0,none⟩) n cap,.int .i64 a,.int .i64 b,cmpV p] w λe w'=>e=.returned (.tuple #[])∧Sq w0 w' g (heapSort (klt κ) d a b):=by
 have HS:=hid S
 have HL:=hid LS
 have HD:=hid hd
 clear S LS hd
 obtain⟨hi,hhi⟩:∃hi,hi=b-a:=⟨_,rfl⟩
 obtain⟨h0,hh0⟩:∃h0,h0=(hi-1) / 2:=⟨_,rfl⟩
 have v1:IntKind.i64.wrap ((b:Int)-(a:Int))=(hi:Int):=by rw[IntKind.wrap_i64];omega
 have v2:IntKind.i64.wrap ((hi:Int)-1)=(hi:Int)-1:=by rw[IntKind.wrap_i64];omega
 have v3:IntKind.i64.wrap (((hi:Int)-1).tdiv 2)=(h0:Int):=by rw[show ((hi:Int)-1).tdiv 2=(h0:Int) from by rw[show (hi:Int)-1=((hi-1:Nat):Int) by omega,hh0];rfl,IntKind.wrap_i64];omega
 have EQ:=hid (show heapSort (klt κ) d a b=heapPop (klt κ) a hi (heapBuild (klt κ) hi a (h0+1) d) from by rw[hhi,hh0,hhi];rfl)
 have HB:=hid (show a+hi=b∧1≤hi∧h0<hi from by omega)
 have hin:hi≤n:=by omega
 have BN:=hid (show a<n from by omega)
 rw[EQ.out]
 obtain⟨d1,hd1⟩:∃x,x=heapBuild (klt κ) hi a (h0+1) d:=⟨_,rfl⟩
 rw[←hd1]
 have E1:=hid hd1
 clear EQ hhi hh0 hd1
 unfold cmpV
 go_enter func174,ntmps174
 go_wp2_with fail
 go_loopw [11] (λv wr=>∃(k:Nat) (kv:Int) (dk:Array Wt),v=.int .i64 kv∧kv=(k:Int)-1∧k≤h0+1∧dk.size=n∧Sq w0 wr g dk∧heapBuild (klt κ) hi a k dk=d1) (λv _=>(intOf v+1).toNat)
 case atStart=>exact⟨h0+1,_,d,rfl,by omega,Nat.le_refl _,HD.out,HS.out,E1.out.symm⟩
 case round =>
  obtain⟨W0,rfl⟩:∃x:World,x=wr:=⟨_,rfl⟩
  obtain⟨k,kv,dk,rfl,hkv,hk,hsk,hS,hO⟩:=hrel
  have S2:=hid hS
  have O2:=hid hO
  have K2:=hid hsk
  clear hS hO hsk HS HD
  cases k with
  | succ k =>
   obtain rfl:kv=(k:Int):=by omega
   clear hkv
   have t1:decide ((0:Int)≤(k:Int))=true:=decide_eq_true (by omega)
   have v4:IntKind.i64.wrap ((k:Int)-1)=(k:Int)-1:=by have:=HB.out;rw[IntKind.wrap_i64];omega
   have SI:=hid (sift62 (cap:=cap) HL.out k hi a dk _ S2.out K2.out (by have:=HB.out;omega) (by have:=HB.out;omega) hn)
   have SZ:=hid (show (siftDown (klt κ) hi a k dk).size=n from by rw[sift_size];exact K2.out)
   go_wp2_with fail
   (with_reducible refine SI.out.mono ?_)
   rintro e w3 ⟨rfl,S3⟩
   have S3:=hid S3
   go_wp2_with fail
   go_roundw
   case rel=>exact⟨k,_,siftDown (klt κ) hi a k dk,rfl,rfl,by omega,SZ.out,S3.out,by rw[←O2.out];rfl⟩
   case measure=>simp[intOf]
  | zero =>
   obtain rfl:kv=-1:=by omega
   clear hkv
   have v5:IntKind.i64.wrap ((hi:Int)-1)=(hi:Int)-1:=v2
   have S1:=hid (show Sq w0 W0 g d1 from by rw[←show dk=d1 from O2.out];exact S2.out)
   have K1:=hid (show d1.size=n from by rw[←show dk=d1 from O2.out];exact K2.out)
   clear O2 hk S2 K2
   go_wp2_with fail
   go_loopw [12] (λv wr=>∃(k:Nat) (kv:Int) (dk:Array Wt),v=.int .i64 kv∧kv=(k:Int)-1∧k≤hi∧dk.size=n∧Sq w0 wr g dk∧heapPop (klt κ) a k dk=heapPop (klt κ) a hi d1) (λv _=>(intOf v+1).toNat)
   case atStart=>exact⟨hi,_,d1,rfl,rfl,Nat.le_refl _,K1.out,S1.out,rfl⟩
   case round =>
    clear S1 K1
    obtain⟨W0,rfl⟩:∃x:World,x=wr:=⟨_,rfl⟩
    obtain⟨k,kv,dk,rfl,hkv,hk,hsk,hS,hO⟩:=hrel
    have S2:=hid hS
    have O2:=hid hO
    have K2:=hid hsk
    clear hS hO hsk
    cases k with
    | zero =>
     obtain rfl:kv=-1:=by omega
     clear hkv
     go_wp2_with fail
     go_end0
     exact⟨rfl,by rw[←O2.out];exact S2.out⟩
    | succ k =>
     obtain rfl:kv=(k:Int):=by omega
     clear hkv
     have t1:decide ((0:Int)≤(k:Int))=true:=decide_eq_true (by omega)
     have v4:IntKind.i64.wrap ((k:Int)-1)=(k:Int)-1:=by rw[IntKind.wrap_i64];omega
     obtain⟨fy,hfy⟩:∃x,x=a+k:=⟨_,rfl⟩
     have b1:(a:Int)<(n:Int):=by have:=BN.out;omega
     have FN:=hid (show fy<n from by have:=HB.out;omega)
     have b2:(fy:Int)<(n:Int):=by have:=FN.out;omega
     have v6:IntKind.i64.wrap ((a:Int)+(k:Int))=(fy:Int):=by rw[IntKind.wrap_i64];omega
     have KH:=hid hk
     have hkn:a+k≤n:=by have:=HB.out;omega
     by_cases k0:k=0
     ·subst k0
      have fya:fy=a:=by omega
      rw[fya] at v6
      clear hfy b2 FN hk
      obtain⟨xb,hxb⟩:∃x,dk[a]! = x:=⟨_,rfl⟩
      obtain⟨yb,hyb⟩:∃y,dk[a]! = y:=⟨_,rfl⟩
      have j1b:a<dk.size:=by rw[K2.out];exact BN.out
      have j2b:a<dk.size:=by rw[K2.out];exact BN.out
      have KSb:=hid (λ(w':World) (s:Sq w0 w' g dk)=>show (w'.cell? ⟨g,a*2,none⟩=some (.int .i64 xb.r)∧w'.cell? ⟨g,a*2+1,none⟩=some (.int .i64 xb.p))∧(w'.cell? ⟨g,a*2,none⟩=some (.int .i64 yb.r)∧w'.cell? ⟨g,a*2+1,none⟩=some (.int .i64 yb.p)) from
       ⟨by rw[←hxb];exact s.cell a j1b,by rw[←hyb];exact s.cell a j2b⟩)
      have CLb:=hid (λ(w':World) (s:Sq w0 w' g dk)=>HL.out.at_ s (Only.refl n_ w') j1b j2b hxb hyb)
      have DDb:=hid (S2.out.still ((Only.refl n_ W0).drew))
      obtain⟨⟨cx0b,cx1b⟩,cy0b,cy1b⟩:=KSb.out _ DDb.out
      have J1b:=hid j1b
      have J2b:=hid j2b
      have HXb:=hid hxb
      have HYb:=hid hyb
      clear j1b j2b hxb hyb
      obtain rfl:yb=xb:=HYb.out.symm.trans HXb.out
      have SI:=hid (λ(w':World) (s:Sq w0 w' g (swp dk a a))=>show Calls prog 187 #[.slice (some ⟨g,0,none⟩) n cap,.int .i64 0,.int .i64 0,.int .i64 a,.func (.func 123) #[.pointer (some ⟨p,0,none⟩)] #[]] w' (λe w''=>e=.returned (.tuple #[])∧Sq w0 w'' g (siftDown (klt κ) 0 a 0 (swp dk a a))) from sift62 (n:=n) (cap:=cap) HL.out 0 0 a (swp dk a a) w' s (by rw[size_swp];exact K2.out) (Nat.zero_le _) hkn hn)
      have SZ:=hid (show (siftDown (klt κ) 0 a 0 (swp dk a a)).size=n from by rw[sift_size,size_swp];exact K2.out)
      clear hkn
      have SW:=hid (S2.out.still ((Only.refl n_ W0).drew) |>.swap J1b.out J2b.out HXb.out HYb.out)
      obtain⟨⟨ex0b,ex1b⟩,ey0b,ey1b⟩:=KSb.out _ S2.out
      have fzb:∀k,W0.frozen? ⟨g,k,none⟩=false:=S2.out.fz
      go_wp2_with fail
      go_region
      all_goals (try go_wp2_with fail)
      all_goals clear ex0b ex1b ey0b ey1b fzb
      all_goals
       refine (SI.out _ SW.out).mono ?_
       rintro e w3 ⟨rfl,S3⟩
       have S3:=hid S3
       go_wp2_with fail
       go_roundw
       case rel=>exact⟨0,_,siftDown (klt κ) 0 a 0 (swp dk a a),rfl,rfl,Nat.zero_le _,SZ.out,S3.out,by rw[←O2.out];rfl⟩
       case measure=>simp[intOf]
     ·have AP:a<fy:=by omega
      have FY:=hid hfy
      clear hfy hk
      obtain⟨xb,hxb⟩:∃x,dk[a]! = x:=⟨_,rfl⟩
      obtain⟨yb,hyb⟩:∃y,dk[fy]! = y:=⟨_,rfl⟩
      have j1b:a<dk.size:=by rw[K2.out];exact BN.out
      have j2b:fy<dk.size:=by rw[K2.out];exact FN.out
      have KSb:=hid (λ(w':World) (s:Sq w0 w' g dk)=>show (w'.cell? ⟨g,a*2,none⟩=some (.int .i64 xb.r)∧w'.cell? ⟨g,a*2+1,none⟩=some (.int .i64 xb.p))∧(w'.cell? ⟨g,fy*2,none⟩=some (.int .i64 yb.r)∧w'.cell? ⟨g,fy*2+1,none⟩=some (.int .i64 yb.p)) from
       ⟨by rw[←hxb];exact s.cell a j1b,by rw[←hyb];exact s.cell fy j2b⟩)
      have CLb:=hid (λ(w':World) (s:Sq w0 w' g dk)=>HL.out.at_ s (Only.refl n_ w') j1b j2b hxb hyb)
      have DDb:=hid (S2.out.still ((Only.refl n_ W0).drew))
      obtain⟨⟨cx0b,cx1b⟩,cy0b,cy1b⟩:=KSb.out _ DDb.out
      have J1b:=hid j1b
      have J2b:=hid j2b
      have HXb:=hid hxb
      have HYb:=hid hyb
      clear j1b j2b hxb hyb
      have SI:=hid (λ(w':World) (s:Sq w0 w' g (swp dk a fy))=>show Calls prog 187 #[.slice (some ⟨g,0,none⟩) n cap,.int .i64 0,.int .i64 k,.int .i64 a,.func (.func 123) #[.pointer (some ⟨p,0,none⟩)] #[]] w' (λe w''=>e=.returned (.tuple #[])∧Sq w0 w'' g (siftDown (klt κ) k a 0 (swp dk a fy))) from sift62 (n:=n) (cap:=cap) HL.out 0 k a (swp dk a fy) w' s (by rw[size_swp];exact K2.out) (Nat.zero_le _) hkn hn)
      have SZ:=hid (show (siftDown (klt κ) k a 0 (swp dk a fy)).size=n from by rw[sift_size,size_swp];exact K2.out)
      clear hkn
      have SW:=hid (S2.out.still ((Only.refl n_ W0).drew) |>.swap J1b.out J2b.out HXb.out HYb.out)
      obtain⟨⟨ex0b,ex1b⟩,ey0b,ey1b⟩:=KSb.out _ S2.out
      have fzb:∀k,W0.frozen? ⟨g,k,none⟩=false:=S2.out.fz
      have n1b:¬ a*2=fy*2:=by omega
      have n2b:¬ fy*2=a*2:=by omega
      go_wp2_with fail
      go_region
      all_goals (try go_wp2_with fail)
      all_goals clear ex0b ex1b ey0b ey1b fzb
      all_goals
       refine (SI.out _ SW.out).mono ?_
       rintro e w3 ⟨rfl,S3⟩
       have S3:=hid S3
       go_wp2_with fail
       go_roundw
       case rel=>exact⟨k,_,siftDown (klt κ) k a 0 (swp dk a fy),rfl,rfl,by have:=KH.out;omega,SZ.out,S3.out,by rw[←O2.out];show _=heapPop (klt κ) a k (siftDown (klt κ) k a 0 (swp dk a (a+k)));rw[←FY.out]⟩
       case measure=>simp[intOf]
end Go.Proofs.YtfbpjobobdidiaaGreatDoor
namespace Go.Proofs.YtfbpjobobdidiaaGreatDoor
open Lib (hid)
open Go.Proofs.Tryz
set_option linter.unusedVariables false
def Eng.inM (E:Eng):List Int:=E.ms.flatMap (·.ks)
structure InvX (E:Eng) (ex rest:List Int):Prop where
 may:E.o.MayC
 ids:E.ts.Pairwise (λa b=>a.id<b.id)
 idr:∀t∈E.ts,1≤t.id∧t.id≤E.nt
 blk:∀t∈E.ts,0≤t.b∧t.b<E.o.b0
 kin:∀t∈E.ts,t.kind=1∨t.kind=2∨t.kind=3
 tri:∀t∈E.ts,0≤t.tries∧t.tries<E.o.b7
 once:OnceL E.qs
 qs1:∀s∈E.qs,∃t∈E.ts,s=t.sl
 qs2:∀t∈E.ts,t.sl∈E.qs
 fewd:((rowL false E.qs).length:Int)≤E.o.b3
 fewa:((rowL true E.qs).length:Int)≤E.o.b4
 good:GoodR E.o.b9.toNat E.g
 g1:∀x∈E.g,∃t∈E.ts,t.id=x.t∧t.kind≠3
 wr:∀t∈E.ts,t.kind=2→t.id∉ex→∃x∈E.g,x.t=t.id
 hd:∀t∈E.ts,t.out=true→E.head t.b=some t
 tags:E.ms.Pairwise (λa b=>a.tag<b.tag)
 tagr:∀m∈E.ms,1≤m.tag∧m.tag≤E.ng
 mlen:(E.ms.length:Int)≤E.o.b5
 mok:∀m∈E.ms,1≤m.n∧m.n≤E.o.b6∧0≤m.lo∧m.lo+m.n≤E.o.b0∧(m.ks.length:Int)=m.n∧(m.vs.length:Int)=(if m.wr then m.n else 0)∧m.fs.length≤m.ks.length
 mt:∀m∈E.ms,∀(i:Nat) k,m.ks[i]? = some k→∃t∈E.ts,t.id=k∧t.b=m.lo+i∧t.out=true∧(t.kind=2↔m.wr=true)
 rt:∀k∈rest,∃t∈E.ts,t.id=k∧t.out=true
 nd:(E.inM++rest).Nodup
 all:∀t∈E.ts,t.out=true→t.id∈E.inM++rest
abbrev Inv (E:Eng):Prop:=InvX E [] []
theorem ids_inj {ts:List Tk} (h:ts.Pairwise (λa b=>a.id<b.id)) {s t:Tk} (hs:s∈ts) (ht:t∈ts) (e:s.id=t.id):s=t:=by
 induction ts with
 | nil=>cases hs
 | cons a r ih =>
  obtain⟨h1,h2⟩:=List.pairwise_cons.1 h
  rcases List.mem_cons.1 hs with rfl | hs'<;>rcases List.mem_cons.1 ht with rfl | ht'
  ·rfl
  ·have:=h1 t ht';omega
  ·have:=h1 s hs';omega
  ·exact ih h2 hs' ht'
theorem InvX.inj {E:Eng} {ex rest:List Int} (h:InvX E ex rest) {s t:Tk} (hs:s∈E.ts) (ht:t∈E.ts) (e:s.id=t.id):s=t:=ids_inj h.ids hs ht e
theorem find16 {ts:List Tk} (h:ts.Pairwise (λa b=>a.id<b.id)) {t:Tk} (ht:t∈ts):at16 ts t.id=some t:=by
 unfold at16
 cases q:ts.find? (λs=>s.id==t.id) with
 | none=>exact absurd (List.find?_eq_none.1 q t ht) (by simp)
 | some s =>
  have h1:=List.mem_of_find?_eq_some q
  have h2:s.id=t.id:=by simpa using List.find?_some q
  rw[ids_inj h h1 ht h2]
theorem upd_mem {ts:List Tk} {x:Int} {f:Tk→Tk} {s:Tk} (h:s∈upd ts x f):∃t∈ts,s=if t.id=x then f t else t:=by
 obtain⟨t,ht,rfl⟩:=List.mem_map.1 h
 exact⟨t,ht,rfl⟩
theorem mem_upd {ts:List Tk} {t:Tk} (f:Tk→Tk) (h:t∈ts):f t∈upd ts t.id f:=List.mem_map.2 ⟨t,h,if_pos rfl⟩
def Keeps (f:Tk→Tk):Prop:=∀t,(f t).id=t.id∧(f t).b=t.b
theorem keep_if {f:Tk→Tk} (h:Keeps f) (x:Int) (t:Tk):(if t.id=x then f t else t).id=t.id∧(if t.id=x then f t else t).b=t.b:=by
 split
 ·exact h t
 ·exact⟨rfl,rfl⟩
theorem upd_ids {ts:List Tk} {x:Int} {f:Tk→Tk} (k:Keeps f) (h:ts.Pairwise (λa b=>a.id<b.id)):(upd ts x f).Pairwise (λa b=>a.id<b.id):=by
 unfold upd
 rw[List.pairwise_map]
 refine h.imp ?_
 intro a b q
 rw[(keep_if k x a).1,(keep_if k x b).1]
 exact q
theorem head_upd {E:Eng} {x:Int} {f:Tk→Tk} (k:Keeps f) (b:Int):(E.upd x f).head b=(E.head b).map (λt=>if t.id=x then f t else t):=by
 unfold Eng.head Eng.lane Eng.upd upd
 rw[List.filter_map,List.head?_map]
 congr 2
 apply List.filter_congr
 intro t _
 simp only[Function.comp]
 rw[(keep_if k x t).2]
theorem mem_head {E:Eng} {b:Int} {t:Tk} (h:E.head b=some t):t∈E.ts∧t.b=b:=by
 have:=List.mem_of_head? h
 unfold Eng.lane at this
 simpa using List.mem_filter.1 this
theorem mem_last {E:Eng} {b:Int} {t:Tk} (h:E.last b=some t):t∈E.ts∧t.b=b:=by
 have:=List.mem_of_getLast? h
 unfold Eng.lane at this
 simpa using List.mem_filter.1 this
structure Soft (f:Tk→Tk):Prop where
 keeps:Keeps f
 kind:∀t,(f t).kind=t.kind
 out:∀t,(f t).out=t.out
 tries:∀t,(f t).tries=t.tries
theorem soft_list (l:Int):Soft (Tk.list l):=⟨λ_=>⟨rfl,rfl⟩,λ_=>rfl,λ_=>rfl,λ_=>rfl⟩
theorem soft_worth (v:Int):Soft (Tk.worth v):=⟨λ_=>⟨rfl,rfl⟩,λ_=>rfl,λ_=>rfl,λ_=>rfl⟩
theorem soft_cut:Soft Tk.cutIt:=⟨λ_=>⟨rfl,rfl⟩,λ_=>rfl,λ_=>rfl,λ_=>rfl⟩
theorem soft_if {f:Tk→Tk} (h:Soft f) (x:Int) (t:Tk):(if t.id=x then f t else t).id=t.id∧(if t.id=x then f t else t).b=t.b∧(if t.id=x then f t else t).kind=t.kind∧(if t.id=x then f t else t).out=t.out∧(if t.id=x then f t else t).tries=t.tries:=by
 split
 ·exact⟨(h.keeps t).1,(h.keeps t).2,h.kind t,h.out t,h.tries t⟩
 ·exact⟨rfl,rfl,rfl,rfl,rfl⟩
theorem InvX.soft {E:Eng} {ex rest:List Int} (h:InvX E ex rest) {f:Tk→Tk} (k:Soft f) (x:Int):InvX (E.upd x f) ex rest:=by
 have sl:∀t:Tk,(if t.id=x then f t else t).sl=t.sl:=λt=>by
  obtain⟨e1,_,e2,e3,_⟩:=soft_if k x t
  unfold Tk.sl
  rw[e1,e2,e3]
 have up:∀t∈E.ts,(if t.id=x then f t else t)∈upd E.ts x f:=λt ht=>List.mem_map.2 ⟨t,ht,rfl⟩
 refine { h with ids:=upd_ids k.keeps h.ids,idr:=λs hs=>?_,blk:=λs hs=>?_,kin:=λs hs=>?_,tri:=λs hs=>?_,qs1:=λs hs=>?_,qs2:=λs hs=>?_,g1:=λy hy=>?_,wr:=λs hs=>?_,hd:=λs hs=>?_,mt:=λm hm i q hi=>?_,rt:=λq hq=>?_,all:=λs hs=>?_ }
 all_goals first
  | (obtain⟨t,ht,rfl⟩:=upd_mem hs;obtain⟨e1,e2,e3,e4,e5⟩:=soft_if k x t)
  | skip
 ·rw[e1];exact h.idr t ht
 ·rw[e2];exact h.blk t ht
 ·rw[e3];exact h.kin t ht
 ·rw[e5];exact h.tri t ht
 ·obtain⟨t,ht,rfl⟩:=h.qs1 s hs
  exact⟨_,up t ht,(sl t).symm⟩
 ·rw[sl];exact h.qs2 t ht
 ·obtain⟨t,ht,e,k3⟩:=h.g1 y hy
  obtain⟨e1,e2,e3,e4,e5⟩:=soft_if k x t
  exact⟨_,up t ht,by rw[e1];exact e,by rw[e3];exact k3⟩
 ·rw[e1,e3];exact h.wr t ht
 ·rw[e4,e2,head_upd k.keeps]
  intro q
  rw[h.hd t ht q]
  rfl
 ·obtain⟨t,ht,a1,a2,a3,a4⟩:=h.mt m hm i q hi
  obtain⟨e1,e2,e3,e4,e5⟩:=soft_if k x t
  exact⟨_,up t ht,by rw[e1];exact a1,by rw[e2];exact a2,by rw[e4];exact a3,by rw[e3];exact a4⟩
 ·obtain⟨t,ht,a1,a2⟩:=h.rt q hq
  obtain⟨e1,e2,e3,e4,e5⟩:=soft_if k x t
  exact⟨_,up t ht,by rw[e1];exact a1,by rw[e4];exact a2⟩
 ·rw[e1,e4];exact h.all t ht
theorem InvX.less {E:Eng} {ex ex' rest:List Int} (h:InvX E ex rest) (k:∀t∈E.ts,t.kind=2→t.id∉ex'→t.id∈ex→∃x∈E.g,x.t=t.id):InvX E ex' rest:=
  { h with wr:=λt ht k2 hn=>(by
             by_cases q:t.id∈ex
             · exact k t ht k2 hn q
             · exact h.wr t ht k2 q) }
theorem row_more (a:Bool) (qs:List Sl) (s:Sl):(rowL a (qs++[s])).length=(rowL a qs).length+if s.a==a then 1 else 0:=by
 unfold rowL
 rw[List.filter_append,List.length_append]
 by_cases h:s.a==a
 ·rw[if_pos h];simp[h]
 ·rw[if_neg h];simp[h]
theorem InvX.new_id {E:Eng} {ex rest:List Int} (h:InvX E ex rest):∀t∈E.ts,t.id≠(E.nt:Int)+1:=λt ht=>by have:=h.idr t ht;omega
theorem InvX.no_q {E:Eng} {ex rest:List Int} (h:InvX E ex rest):hasL E.qs (E.nt+1)=false:=by
 cases q:hasL E.qs (E.nt+1) with
 | false=>rfl
 | true =>
  obtain⟨s,hs,e⟩:=hasL_iff.1 q
  obtain⟨t,ht,rfl⟩:=h.qs1 s hs
  exact absurd e (h.new_id t ht)
theorem head_more {E:Eng} {kind b b':Int} {t:Tk} (h:E.head b'=some t):(E.enter kind b).head b'=some t:=by
 unfold Eng.head Eng.lane Eng.enter at *
 rw[List.filter_append]
 cases q:E.ts.filter (λt=>t.b==b') with
 | nil=>rw[q] at h;cases h
 | cons a r=>rw[q] at h;exact h
theorem InvX.enter {E:Eng} {ex rest:List Int} (h:InvX E ex rest) {kind b:Int} (hk:kind=1∨kind=2∨kind=3) (hb:E.has b=true) (hf:if kind=3 then E.fa≠0 else E.fd≠0) (he:kind=2→∀e∈[(E.nt:Int)+1],e∈ex) :
  InvX (E.enter kind b) ex rest:=by
 have hb':0≤b∧b<E.o.b0:=of_decide_eq_true hb
 have hm:=h.may
 unfold Opt.MayC at hm
 have mem:∀s∈E.ts++[E.new kind b],s∈E.ts∨s=E.new kind b:=λs hs=>by
  rcases List.mem_append.1 hs with q | q
  ·exact .inl q
  ·exact .inr (List.mem_singleton.1 q)
 have old:∀s∈E.ts,s∈(E.enter kind b).ts:=λs hs=>List.mem_append_left _ hs
 refine { may:=h.may,ids:=?_,idr:=λs hs=>?_,blk:=λs hs=>?_,kin:=λs hs=>?_,tri:=λs hs=>?_,once:=?_,qs1:=λs hs=>?_,qs2:=λs hs=>?_,fewd:=?_,fewa:=?_,good:=h.good,g1:=λy hy=>?_,wr:=λs hs=>?_,hd:=λs hs=>?_,tags:=h.tags,tagr:=h.tagr,mlen:=h.mlen,mok:=h.mok,mt:=λm hm i q hi=>?_,rt:=λq hq=>?_,nd:=h.nd,all:=λs hs=>?_ }
 ·show (E.ts++[E.new kind b]).Pairwise _
  rw[List.pairwise_append]
  refine⟨h.ids,List.pairwise_singleton _ _,λa ha c hc=>?_⟩
  rw[List.mem_singleton.1 hc]
  have:=h.idr a ha
  show a.id<(E.nt:Int)+1
  omega
 ·show 1≤s.id∧s.id≤((E.nt+1:Nat):Int)
  rcases mem s hs with q | rfl
  ·have:=h.idr s q;omega
  ·show 1≤(E.nt:Int)+1∧(E.nt:Int)+1≤_;omega
 ·rcases mem s hs with q | rfl
  ·exact h.blk s q
  ·exact hb'
 ·rcases mem s hs with q | rfl
  ·exact h.kin s q
  ·exact hk
 ·rcases mem s hs with q | rfl
  ·exact h.tri s q
  ·show 0≤(0:Int)∧(0:Int)<E.o.b7;omega
 ·show List.Pairwise (λa b:Sl=>a.k≠b.k) (E.qs++[⟨(E.nt:Int)+1,kind==3,true⟩])
  rw[List.pairwise_append]
  refine⟨h.once,List.pairwise_singleton _ _,λa ha c hc=>?_⟩
  rw[List.mem_singleton.1 hc]
  obtain⟨t,ht,rfl⟩:=h.qs1 a ha
  exact h.new_id t ht
 ·rcases List.mem_append.1 hs with q | q
  ·obtain⟨t,ht,e⟩:=h.qs1 s q
   exact⟨t,old t ht,e⟩
  ·rw[List.mem_singleton.1 q]
   exact⟨E.new kind b,List.mem_append_right _ (by simp),rfl⟩
 ·rcases mem s hs with q | rfl
  ·exact List.mem_append_left _ (h.qs2 s q)
  ·exact List.mem_append_right _ (by simp[Tk.sl,Eng.new])
 ·show ((rowL false (E.qs++[⟨(E.nt:Int)+1,kind==3,true⟩])).length:Int)≤E.o.b3
  rw[row_more]
  have:=h.fewd
  unfold Eng.fd at hf
  by_cases k:kind=3
  ·simp[k];omega
  ·rw[if_neg k] at hf
   simp[k];omega
 ·show ((rowL true (E.qs++[⟨(E.nt:Int)+1,kind==3,true⟩])).length:Int)≤E.o.b4
  rw[row_more]
  have:=h.fewa
  unfold Eng.fa at hf
  by_cases k:kind=3
  ·rw[if_pos k] at hf
   simp[k];omega
  ·simp[k];omega
 ·obtain⟨t,ht,e⟩:=h.g1 y hy
  exact⟨t,old t ht,e⟩
 ·rcases mem s hs with q | rfl
  ·exact h.wr s q
  ·intro k hn
   exact absurd (he k _ (by simp[Eng.new])) hn
 ·rcases mem s hs with q | rfl
  ·intro o;exact head_more (h.hd s q o)
  ·intro o;cases o
 ·obtain⟨t,ht,e⟩:=h.mt m hm i q hi
  exact⟨t,old t ht,e⟩
 ·obtain⟨t,ht,e⟩:=h.rt q hq
  exact⟨t,old t ht,e⟩
 ·rcases mem s hs with q | rfl
  ·exact h.all s q
  ·intro o;cases o
end Go.Proofs.YtfbpjobobdidiaaGreatDoor
namespace Go.Proofs.YtfbpjobobdidiaaGreatDoor
open Lib (hid)
open Go.Proofs.Tryz
open Go.RowKit Go.Maps
set_option linter.unusedVariables false
def oneU (x:Int):List Value:=[.int .u64 x]
theorem oneU1 (x:Int):(oneU x).length=1:=rfl
theorem oneU_one:∀y:Int,∀u∈oneU y,u.oneCell'=true:=by
 intro y u hu
 simp only[oneU,List.mem_cons,List.not_mem_nil,or_false] at hu
 rcases hu with rfl;rfl
abbrev OwnsU (w:World) (base:Nat) (v:Value) (xs:List Int):Prop:=Owns w base 34 1 oneU v xs
structure Loc where
 pl:Nat
 pt:Nat
 bq:Nat
 pg:Nat
 bt:Nat
 bm:Nat
 A:Int→Nat
 B:Int→Value × Value × Value
def pT (g:Nat):Value:=.pointer (some ⟨g,0,none⟩)
def tkEnt (A:Int→Nat) (t:Tk):Ent:=(t.id,pT (A t.id))
def Mv.val (m:Mv) (v:Value × Value × Value):Value:=.agg #[.int .i64 m.tag,.bool m.wr,.int .i64 m.lo,.int .i64 m.n,v.1,v.2.1,v.2.2]
def mvEnt (B:Int→Value × Value × Value) (m:Mv):Ent:=(m.tag,m.val (B m.tag))
def engCells (X:Loc) (o:Opt) (nt ng:Nat):Array Value:=
 #[.int .i64 o.b0,.int .i64 o.b1,.int .i64 o.b2,.int .i64 o.b3,.int .i64 o.b4,.int .i64 o.b5,.int .i64 o.b6,.int .i64 o.b7,.int .i64 o.b8,.int .i64 o.b9,.int .i64 o.b10,.int .i64 o.b11,.int .i64 o.b12,.int .i64 o.b13,
  pT X.pl,pT X.pt,pT X.pg,.map (some X.bt),.map (some X.bm),.int .i64 nt,.int .i64 ng]
structure MvAt (w:World) (c:Nat→Nat) (v:Value × Value × Value) (m:Mv):Prop where
 ks:OwI w 0 v.1 m.ks
 vs:OwnsU w 0 v.2.1 m.vs
 fs:OwI w 0 v.2.2 m.fs
 ck:∀g,v.1.ownBlock=some g→c g=8
 cv:∀g,v.2.1.ownBlock=some g→c g=8
 cf:∀g,v.2.2.ownBlock=some g→c g=8
theorem MvAt.keep {w w':World} {c:Nat→Nat} {v:Value × Value × Value} {m:Mv} (h:MvAt w c v m) {S:Nat→Prop} (o:Only S w w') (hn:∀g,c g=8→¬ S g):MvAt w' c v m:=
 ⟨h.ks.keep o (λg hg=>hn g (h.ck g hg)),h.vs.keep o (λg hg=>hn g (h.cv g hg)),h.fs.keep o (λg hg=>hn g (h.cf g hg)),h.ck,h.cv,h.cf⟩
theorem MvAt.colour {w:World} {c c':Nat→Nat} {v:Value × Value × Value} {m:Mv} (h:MvAt w c v m) (k:∀g,g<w.heap.size→c g=8→c' g=8):MvAt w c' v m:=
 ⟨h.ks,h.vs,h.fs,λg hg=>k g (h.ks.base_le hg).2 (h.ck g hg),λg hg=>k g (h.vs.base_le hg).2 (h.cv g hg),λg hg=>k g (h.fs.base_le hg).2 (h.cf g hg)⟩
def TnF (w:World) (X:Loc) (nd na F:Nat) (qs:List Sl):Prop:=∃L ps,TnAt w X.pt X.bq nd na L ps∧ps.map Pl.sl=qs∧L≤F
def Aside (B:Int→Value × Value × Value) (ms:List Mv):Prop:=∀m∈ms,∀n∈ms,m.tag≠n.tag→∀g,(B m.tag).1.ownBlock=some g→(B n.tag).1.ownBlock≠some g∧(B n.tag).2.1.ownBlock≠some g∧(B n.tag).2.2.ownBlock≠some g
structure EO (w:World) (p:Nat) (c:Nat→Nat) (X:Loc) (F H:Nat) (o:Opt) (nt ng:Nat) (ss:List Sd) (qs:List Sl) (g:List Sx) (te:List Ent) (ks:List Tk) (me:List Ent) (ms:List Mv):Prop where
 row:Row w p 99 (engCells X o nt ng)
 cp:c p=1
 ln:Ln w X.pl (λg=>c g=2) o.b0.toNat (o.b3+o.b4).toNat ss
 tn:TnF w X o.b3.toNat o.b4.toNat F qs
 ct:c X.pt=3∧c X.bq=3
 wg:WG w X.pg (λg=>c g=4) o.b9.toNat H g
 tm:Mg w X.bt te
 cb:c X.bt=5
 tk:∀t∈ks,Row w (X.A t.id) 123 t.cells∧c (X.A t.id)=6
 inj:∀s∈ks,∀t∈ks,X.A s.id=X.A t.id→s=t
 mm:Mg w X.bm me
 cm:c X.bm=7
 mv:∀m∈ms,MvAt w c (X.B m.tag) m
 ma:Aside X.B ms
 lt:∀g,c g≠0→g<w.heap.size
theorem TnF.keep {w w':World} {X:Loc} {nd na F:Nat} {qs:List Sl} (h:TnF w X nd na F qs) {S:Nat→Prop} (o:Only S w w') (hp:¬ S X.pt) (hb:¬ S X.bq):TnF w' X nd na F qs:=by
 obtain⟨L,ps,h1,h2,h3⟩:=h
 exact⟨L,ps,h1.keep o hp hb,h2,h3⟩
section
variable {w w':World} {p:Nat} {c:Nat→Nat} {X:Loc} {F H:Nat} {o:Opt} {nt ng:Nat} {ss:List Sd} {qs:List Sl} {g:List Sx} {te:List Ent} {ks:List Tk} {me:List Ent} {ms:List Mv}
theorem EO.keep (h:EO w p c X F H o nt ng ss qs g te ks me ms) {S:Nat→Prop} (k:Only S w w') (hn:∀g,c g≠0→¬ S g):EO w' p c X F H o nt ng ss qs g te ks me ms where
 row:=k.row h.row (hn p (by rw[h.cp];decide))
 cp:=h.cp
 ln:=h.ln.keep k (λg hg=>hn g (by rw[hg];decide))
 tn:=h.tn.keep k (hn _ (by rw[h.ct.1];decide)) (hn _ (by rw[h.ct.2];decide))
 ct:=h.ct
 wg:=h.wg.keep k (λg hg=>hn g (by rw[hg];decide))
 tm:=h.tm.keep k (hn _ (by rw[h.cb];decide))
 cb:=h.cb
 tk:=λt ht=>⟨k.row (h.tk t ht).1 (hn _ (by rw[(h.tk t ht).2];decide)),(h.tk t ht).2⟩
 inj:=h.inj
 mm:=h.mm.keep k (hn _ (by rw[h.cm];decide))
 cm:=h.cm
 mv:=λm hm=>(h.mv m hm).keep k (λg hg=>hn g (by rw[hg];decide))
 ma:=h.ma
 lt:=λg hg=>Nat.lt_of_lt_of_le (h.lt g hg) k.size
theorem EO.still (h:EO w p c X F H o nt ng ss qs g te ks me ms) (k:Only n_ w w'):EO w' p c X F H o nt ng ss qs g te ks me ms:=h.keep k (λ_ _ s=>s)
theorem EO.up (h:EO w p c X F H o nt ng ss qs g te ks me ms) {F' H':Nat} (k:F≤F') (k2:H≤H'):EO w p c X F' H' o nt ng ss qs g te ks me ms:=
 { h with tn:=(let ⟨L,ps,h1,h2,h3⟩:=h.tn;⟨L,ps,h1,h2,Nat.le_trans h3 k⟩),wg:=h.wg.up k2 }
def recol (c:Nat→Nat) (i:Nat) (M:Nat→Prop) [DecidablePred M] (g:Nat):Nat:=if M g then i else if c g=i then 0 else c g
def Gw (w:World) (c c':Nat→Nat):Prop:=∀g,c' g≠0→c g≠0∨w.heap.size≤g
theorem Gw.refl (w:World) (c:Nat→Nat):Gw w c c:=λ_ h=>.inl h
theorem Gw.trans {w w':World} {c c' c'':Nat→Nat} (h:Gw w c c') (k:Gw w' c' c'') (s:w.heap.size≤w'.heap.size):Gw w c c'':=λg hg=>by
 rcases k g hg with q | q
 ·exact h g q
 ·exact .inr (by omega)
theorem recol_other {c:Nat→Nat} {i j:Nat} {M:Nat→Prop} [DecidablePred M] (lt:∀g,c g≠0→g<w.heap.size) (hM:∀g,M g→c g=i∨w.heap.size≤g) (hj:j≠i) (j0:j≠0) (g:Nat):recol c i M g=j↔c g=j:=by
 unfold recol
 by_cases m:M g
 ·rw[if_pos m]
  constructor
  ·intro q;exact absurd q.symm hj
  ·intro q
   rcases hM g m with k | k
   ·rw[q] at k;exact absurd k hj
   ·have:=lt g (by rw[q];exact j0)
    omega
 ·rw[if_neg m]
  by_cases k:c g=i
  ·rw[if_pos k]
   constructor
   ·intro q;exact absurd q.symm j0
   ·intro q;rw[q] at k;exact absurd k hj
  ·rw[if_neg k]
theorem recol_self {c:Nat→Nat} {i:Nat} {M:Nat→Prop} [DecidablePred M] (i0:i≠0) (g:Nat):recol c i M g=i↔M g:=by
 unfold recol
 by_cases m:M g
 ·rw[if_pos m];exact⟨λ_=>m,λ_=>rfl⟩
 ·rw[if_neg m]
  by_cases k:c g=i
  ·rw[if_pos k];exact⟨λq=>absurd q.symm i0,λq=>absurd q m⟩
  ·rw[if_neg k];exact⟨λq=>absurd q k,λq=>absurd q m⟩
theorem recol_gw {c:Nat→Nat} {i:Nat} {M:Nat→Prop} [DecidablePred M] (i0:i≠0) (hM:∀g,M g→c g=i∨w.heap.size≤g):Gw w c (recol c i M):=λg hg=>by
 unfold recol at hg
 by_cases m:M g
 ·rcases hM g m with k | k
  ·exact .inl (by rw[k];exact i0)
  ·exact .inr k
 ·rw[if_neg m] at hg
  by_cases k:c g=i
  ·rw[if_pos k] at hg;exact absurd rfl hg
  ·rw[if_neg k] at hg;exact .inl hg
theorem EO.lanes (h:EO w p c X F H o nt ng ss qs g te ks me ms) {ss':List Sd} (k:LnTo w X.pl (λg=>c g=2) o.b0.toNat (o.b3+o.b4).toNat ss' w') :
    ∃c',EO w' p c' X F H o nt ng ss' qs g te ks me ms∧Gw w c c'∧Only (λg=>c g=2) w w':=by
  classical
  obtain⟨⟨M,l,hM⟩,o2⟩:=k
  have rc:=λ(j:Nat) (hj:j≠2) (j0:j≠0) (g:Nat)=>recol_other (M:=M) (i:=2) h.lt hM hj j0 g
  refine⟨recol c 2 M,?_,recol_gw (by decide) hM,o2⟩
  have hn:∀(j g:Nat),j≠2→c g=j→¬ c g=2:=λj g hj e q=>hj (by rw[←e,q])
  refine { row:=o2.row h.row (hn 1 p (by decide) h.cp),cp:=(rc 1 (by decide) (by decide) p).2 h.cp,ln:=?_,tn:=h.tn.keep o2 (hn 3 _ (by decide) h.ct.1) (hn 3 _ (by decide) h.ct.2),ct:=⟨(rc 3 (by decide) (by decide) _).2 h.ct.1,(rc 3 (by decide) (by decide) _).2 h.ct.2⟩,
           wg:=?_,tm:=h.tm.keep o2 (hn 5 _ (by decide) h.cb),cb:=(rc 5 (by decide) (by decide) _).2 h.cb,tk:=λt ht=>⟨o2.row (h.tk t ht).1 (hn 6 _ (by decide) (h.tk t ht).2),(rc 6 (by decide) (by decide) _).2 (h.tk t ht).2⟩,inj:=h.inj,
           mm:=h.mm.keep o2 (hn 7 _ (by decide) h.cm),cm:=(rc 7 (by decide) (by decide) _).2 h.cm,mv:=λm hm=>?_,ma:=h.ma,lt:=λg hg=>?_ }
  · have e:(λg=>recol c 2 M g=2)=M:=by funext g;exact propext (recol_self (by decide) g)
    rw[e];exact l
  · have e:(λg=>recol c 2 M g=4)=λg=>c g=4:=by funext g;exact propext (rc 4 (by decide) (by decide) g)
    rw[e];exact h.wg.keep o2 (λg hg=>hn 4 g (by decide) hg)
  · refine ((h.mv m hm).colour (c':=recol c 2 M) (λg _ q=>(rc 8 (by decide) (by decide) g).2 q)).keep o2 (λg hg=>hn 8 g (by decide) ((rc 8 (by decide) (by decide) g).1 hg))
  · obtain⟨r,b,vs,ll⟩:=l
    by_cases m:M g
    · exact ll.lt g m
    · unfold recol at hg
      rw[if_neg m] at hg
      by_cases q:c g=2
      · rw[if_pos q] at hg;exact absurd rfl hg
      · rw[if_neg q] at hg
        exact Nat.lt_of_lt_of_le (h.lt g hg) o2.size
theorem EO.reg (h:EO w p c X F H o nt ng ss qs g te ks me ms) {g':List Sx} {H':Nat} (hF:H≤H') (k:WGto w X.pg (λg=>c g=4) o.b9.toNat H' g' w') :
    ∃c',EO w' p c' X F H' o nt ng ss qs g' te ks me ms∧Gw w c c'∧Only (λg=>c g=4) w w':=by
  classical
  replace h:=h.up (Nat.le_refl F) hF
  obtain⟨⟨M,l,hM⟩,o2⟩:=k
  have rc:=λ(j:Nat) (hj:j≠4) (j0:j≠0) (g:Nat)=>recol_other (M:=M) (i:=4) h.lt hM hj j0 g
  refine⟨recol c 4 M,?_,recol_gw (by decide) hM,o2⟩
  have hn:∀(j g:Nat),j≠4→c g=j→¬ c g=4:=λj g hj e q=>hj (by rw[←e,q])
  refine { row:=o2.row h.row (hn 1 p (by decide) h.cp),cp:=(rc 1 (by decide) (by decide) p).2 h.cp,ln:=?_,tn:=h.tn.keep o2 (hn 3 _ (by decide) h.ct.1) (hn 3 _ (by decide) h.ct.2),ct:=⟨(rc 3 (by decide) (by decide) _).2 h.ct.1,(rc 3 (by decide) (by decide) _).2 h.ct.2⟩,
           wg:=?_,tm:=h.tm.keep o2 (hn 5 _ (by decide) h.cb),cb:=(rc 5 (by decide) (by decide) _).2 h.cb,tk:=λt ht=>⟨o2.row (h.tk t ht).1 (hn 6 _ (by decide) (h.tk t ht).2),(rc 6 (by decide) (by decide) _).2 (h.tk t ht).2⟩,inj:=h.inj,
           mm:=h.mm.keep o2 (hn 7 _ (by decide) h.cm),cm:=(rc 7 (by decide) (by decide) _).2 h.cm,mv:=λm hm=>?_,ma:=h.ma,lt:=λg hg=>?_ }
  · have e:(λg=>recol c 4 M g=2)=λg=>c g=2:=by funext g;exact propext (rc 2 (by decide) (by decide) g)
    rw[e];exact h.ln.keep o2 (λg hg=>hn 2 g (by decide) hg)
  · have e:(λg=>recol c 4 M g=4)=M:=by funext g;exact propext (recol_self (by decide) g)
    rw[e];exact l
  · refine ((h.mv m hm).colour (c':=recol c 4 M) (λg _ q=>(rc 8 (by decide) (by decide) g).2 q)).keep o2 (λg hg=>hn 8 g (by decide) ((rc 8 (by decide) (by decide) g).1 hg))
  · by_cases m:M g
    · exact l.lt g m
    · unfold recol at hg
      rw[if_neg m] at hg
      by_cases q:c g=4
      · rw[if_pos q] at hg;exact absurd rfl hg
      · rw[if_neg q] at hg
        exact Nat.lt_of_lt_of_le (h.lt g hg) o2.size
theorem EO.regV (h:EO w p c X F H o nt ng ss qs g te ks me ms) {g':List Sx} {H':Nat} {v:Value} (hF:H≤H') (k:WGtoV w X.pg (λg=>c g=4) o.b9.toNat H' g' v w') (hv:∀b,v.ownBlock=some b→c b=0) :
    ∃c',EO w' p c' X F H' o nt ng ss qs g' te ks me ms∧Gw w c c'∧Only (λg=>c g=4) w w'∧∀b,v.ownBlock=some b→c' b=0:=by
  classical
  replace h:=h.up (Nat.le_refl F) hF
  obtain⟨⟨M,l,hM,hV⟩,o2⟩:=k
  have rc:=λ(j:Nat) (hj:j≠4) (j0:j≠0) (g:Nat)=>recol_other (M:=M) (i:=4) h.lt hM hj j0 g
  refine⟨recol c 4 M,?_,recol_gw (by decide) hM,o2,λb hb=>by
    unfold recol
    rw[if_neg (hV b hb),hv b hb]
    rfl⟩
  have hn:∀(j g:Nat),j≠4→c g=j→¬ c g=4:=λj g hj e q=>hj (by rw[←e,q])
  refine { row:=o2.row h.row (hn 1 p (by decide) h.cp),cp:=(rc 1 (by decide) (by decide) p).2 h.cp,ln:=?_,tn:=h.tn.keep o2 (hn 3 _ (by decide) h.ct.1) (hn 3 _ (by decide) h.ct.2),ct:=⟨(rc 3 (by decide) (by decide) _).2 h.ct.1,(rc 3 (by decide) (by decide) _).2 h.ct.2⟩,
           wg:=?_,tm:=h.tm.keep o2 (hn 5 _ (by decide) h.cb),cb:=(rc 5 (by decide) (by decide) _).2 h.cb,tk:=λt ht=>⟨o2.row (h.tk t ht).1 (hn 6 _ (by decide) (h.tk t ht).2),(rc 6 (by decide) (by decide) _).2 (h.tk t ht).2⟩,inj:=h.inj,
           mm:=h.mm.keep o2 (hn 7 _ (by decide) h.cm),cm:=(rc 7 (by decide) (by decide) _).2 h.cm,mv:=λm hm=>?_,ma:=h.ma,lt:=λg hg=>?_ }
  · have e:(λg=>recol c 4 M g=2)=λg=>c g=2:=by funext g;exact propext (rc 2 (by decide) (by decide) g)
    rw[e];exact h.ln.keep o2 (λg hg=>hn 2 g (by decide) hg)
  · have e:(λg=>recol c 4 M g=4)=M:=by funext g;exact propext (recol_self (by decide) g)
    rw[e];exact l
  · refine ((h.mv m hm).colour (c':=recol c 4 M) (λg _ q=>(rc 8 (by decide) (by decide) g).2 q)).keep o2 (λg hg=>hn 8 g (by decide) ((rc 8 (by decide) (by decide) g).1 hg))
  · by_cases m:M g
    · exact l.lt g m
    · unfold recol at hg
      rw[if_neg m] at hg
      by_cases q:c g=4
      · rw[if_pos q] at hg;exact absurd rfl hg
      · rw[if_neg q] at hg
        exact Nat.lt_of_lt_of_le (h.lt g hg) o2.size
theorem EO.turns (h:EO w p c X F H o nt ng ss qs g te ks me ms) {qs':List Sl} {F':Nat} (hF:F≤F') (k:TnF w' X o.b3.toNat o.b4.toNat F' qs') (o2:Only (two12 X.pt X.bq) w w') :
    EO w' p c X F' H o nt ng ss qs' g te ks me ms:=by
  replace h:=h.up hF (Nat.le_refl H)
  have hn:∀(j g:Nat),j≠3→c g=j→¬ two12 X.pt X.bq g:=λj g hj e q=>hj (by rcases q with q | q;exact (by rw[←e,q];exact h.ct.1);exact (by rw[←e,q];exact h.ct.2))
  exact { row:=o2.row h.row (hn 1 p (by decide) h.cp),cp:=h.cp,ln:=h.ln.keep o2 (λg hg=>hn 2 g (by decide) hg),tn:=k,ct:=h.ct,wg:=h.wg.keep o2 (λg hg=>hn 4 g (by decide) hg),tm:=h.tm.keep o2 (hn 5 _ (by decide) h.cb),cb:=h.cb,
          tk:=λt ht=>⟨o2.row (h.tk t ht).1 (hn 6 _ (by decide) (h.tk t ht).2),(h.tk t ht).2⟩,inj:=h.inj,mm:=h.mm.keep o2 (hn 7 _ (by decide) h.cm),cm:=h.cm,mv:=λm hm=>(h.mv m hm).keep o2 (λg hg=>hn 8 g (by decide) hg),
          ma:=h.ma,lt:=λg hg=>Nat.lt_of_lt_of_le (h.lt g hg) o2.size }
theorem EO.tmap (h:EO w p c X F H o nt ng ss qs g te ks me ms) {te':List Ent} (k:Mg w' X.bt te') (o2:Only (λk=>k=X.bt) w w'):EO w' p c X F H o nt ng ss qs g te' ks me ms:=by
  have hn:∀(j g:Nat),j≠5→c g=j→¬ g=X.bt:=λj g hj e q=>hj (by rw[←e,q];exact h.cb)
  exact { row:=o2.row h.row (hn 1 p (by decide) h.cp),cp:=h.cp,ln:=h.ln.keep o2 (λg hg=>hn 2 g (by decide) hg),tn:=h.tn.keep o2 (hn 3 _ (by decide) h.ct.1) (hn 3 _ (by decide) h.ct.2),ct:=h.ct,wg:=h.wg.keep o2 (λg hg=>hn 4 g (by decide) hg),tm:=k,cb:=h.cb,
          tk:=λt ht=>⟨o2.row (h.tk t ht).1 (hn 6 _ (by decide) (h.tk t ht).2),(h.tk t ht).2⟩,inj:=h.inj,mm:=h.mm.keep o2 (hn 7 _ (by decide) h.cm),cm:=h.cm,mv:=λm hm=>(h.mv m hm).keep o2 (λg hg=>hn 8 g (by decide) hg),
          ma:=h.ma,lt:=λg hg=>Nat.lt_of_lt_of_le (h.lt g hg) o2.size }
theorem EO.mmap (h:EO w p c X F H o nt ng ss qs g te ks me ms) {me':List Ent} (k:Mg w' X.bm me') (o2:Only (λk=>k=X.bm) w w'):EO w' p c X F H o nt ng ss qs g te ks me' ms:=by
  have hn:∀(j g:Nat),j≠7→c g=j→¬ g=X.bm:=λj g hj e q=>hj (by rw[←e,q];exact h.cm)
  exact { row:=o2.row h.row (hn 1 p (by decide) h.cp),cp:=h.cp,ln:=h.ln.keep o2 (λg hg=>hn 2 g (by decide) hg),tn:=h.tn.keep o2 (hn 3 _ (by decide) h.ct.1) (hn 3 _ (by decide) h.ct.2),ct:=h.ct,wg:=h.wg.keep o2 (λg hg=>hn 4 g (by decide) hg),tm:=h.tm.keep o2 (hn 5 _ (by decide) h.cb),cb:=h.cb,
          tk:=λt ht=>⟨o2.row (h.tk t ht).1 (hn 6 _ (by decide) (h.tk t ht).2),(h.tk t ht).2⟩,inj:=h.inj,mm:=k,cm:=h.cm,mv:=λm hm=>(h.mv m hm).keep o2 (λg hg=>hn 8 g (by decide) hg),
          ma:=h.ma,lt:=λg hg=>Nat.lt_of_lt_of_le (h.lt g hg) o2.size }
theorem EO.own (h:EO w p c X F H o nt ng ss qs g te ks me ms) {nt' ng':Nat} (k:Row w' p 99 (engCells X o nt' ng')) (o2:Only (λk=>k=p) w w'):EO w' p c X F H o nt' ng' ss qs g te ks me ms:=by
  have hn:∀(j g:Nat),j≠1→c g=j→¬ g=p:=λj g hj e q=>hj (by rw[←e,q];exact h.cp)
  exact { row:=k,cp:=h.cp,ln:=h.ln.keep o2 (λg hg=>hn 2 g (by decide) hg),tn:=h.tn.keep o2 (hn 3 _ (by decide) h.ct.1) (hn 3 _ (by decide) h.ct.2),ct:=h.ct,wg:=h.wg.keep o2 (λg hg=>hn 4 g (by decide) hg),tm:=h.tm.keep o2 (hn 5 _ (by decide) h.cb),cb:=h.cb,
          tk:=λt ht=>⟨o2.row (h.tk t ht).1 (hn 6 _ (by decide) (h.tk t ht).2),(h.tk t ht).2⟩,inj:=h.inj,mm:=h.mm.keep o2 (hn 7 _ (by decide) h.cm),cm:=h.cm,mv:=λm hm=>(h.mv m hm).keep o2 (λg hg=>hn 8 g (by decide) hg),
          ma:=h.ma,lt:=λg hg=>Nat.lt_of_lt_of_le (h.lt g hg) o2.size }
theorem EO.tick (h:EO w p c X F H o nt ng ss qs g te ks me ms) {t:Tk} (ht:t∈ks) (f:Tk→Tk) (hf:∀s,(f s).id=s.id) (k:Row w' (X.A t.id) 123 (f t).cells) (o2:Only (λk=>k=X.A t.id) w w') :
    EO w' p c X F H o nt ng ss qs g te (upd ks t.id f) me ms:=by
  have ct:=(h.tk t ht).2
  have hn:∀(j g:Nat),j≠6→c g=j→¬ g=X.A t.id:=λj g hj e q=>hj (by rw[←e,q];exact ct)
  have iff:∀s∈ks,((if s.id=t.id then f s else s).id=s.id):=λs _=>by split;exact hf s;rfl
  refine { row:=o2.row h.row (hn 1 p (by decide) h.cp),cp:=h.cp,ln:=h.ln.keep o2 (λg hg=>hn 2 g (by decide) hg),tn:=h.tn.keep o2 (hn 3 _ (by decide) h.ct.1) (hn 3 _ (by decide) h.ct.2),ct:=h.ct,wg:=h.wg.keep o2 (λg hg=>hn 4 g (by decide) hg),tm:=h.tm.keep o2 (hn 5 _ (by decide) h.cb),cb:=h.cb,
           tk:=λs hs=>?_,inj:=λs hs u hu e=>?_,mm:=h.mm.keep o2 (hn 7 _ (by decide) h.cm),cm:=h.cm,mv:=λm hm=>(h.mv m hm).keep o2 (λg hg=>hn 8 g (by decide) hg),
           ma:=h.ma,lt:=λg hg=>Nat.lt_of_lt_of_le (h.lt g hg) o2.size }
  · obtain⟨s,hs',rfl⟩:=List.mem_map.1 hs
    replace hs:=hs'
    rw[iff s hs]
    refine⟨?_,(h.tk s hs).2⟩
    by_cases e:s.id=t.id
    · have:s=t:=h.inj s hs t ht (by rw[e])
      rw[if_pos e,this]
      exact k
    · rw[if_neg e]
      exact o2.row (h.tk s hs).1 (λq=>e (by rw[h.inj s hs t ht q]))
  · obtain⟨s,hs',rfl⟩:=List.mem_map.1 hs
    obtain⟨u,hu',rfl⟩:=List.mem_map.1 hu
    replace hs:=hs'
    replace hu:=hu'
    rw[iff s hs,iff u hu] at e
    rw[h.inj s hs u hu e]
def setI {α:Type} (f:Int→α) (x:Int) (a:α):Int→α:=λy=>if y=x then a else f y
def setN (f:Nat→Nat) (x:Nat) (a:Nat):Nat→Nat:=λy=>if y=x then a else f y
theorem EO.born (h:EO w p c X F H o nt ng ss qs g te ks me ms) {t:Tk} (hk:∀s∈ks,s.id≠t.id) :
    EO (w.alloc (.cells t.cells 123)) p (setN c w.heap.size 6) { X with A:=setI X.A t.id w.heap.size } F H o nt ng ss qs g te (ks++[t]) me ms:=by
  have o2:Only n_ w (w.alloc (.cells t.cells 123)):=(Only.refl _ _).alloc _
  have c0:c w.heap.size=0:=Classical.byContradiction λq=>by have:=h.lt _ q;omega
  have rc:∀(j:Nat),j≠6→j≠0→∀g,setN c w.heap.size 6 g=j↔c g=j:=λj hj j0 g=>by
    unfold setN
    by_cases e:g=w.heap.size
    · rw[if_pos e,e,c0];exact⟨λq=>absurd q.symm hj,λq=>absurd q.symm j0⟩
    · rw[if_neg e]
  have hA:∀s∈ks,setI X.A t.id w.heap.size s.id=X.A s.id:=λs hs=>if_neg (hk s hs)
  have hl:∀s∈ks,X.A s.id<w.heap.size:=λs hs=>(h.tk s hs).1.lt
  have q:=h.still o2
  refine { row:=q.row,cp:=(rc 1 (by decide) (by decide) _).2 h.cp,ln:=?_,tn:=q.tn,ct:=⟨(rc 3 (by decide) (by decide) _).2 h.ct.1,(rc 3 (by decide) (by decide) _).2 h.ct.2⟩,wg:=?_,tm:=q.tm,cb:=(rc 5 (by decide) (by decide) _).2 h.cb,
           tk:=λs hs=>?_,inj:=λs hs u hu e=>?_,mm:=q.mm,cm:=(rc 7 (by decide) (by decide) _).2 h.cm,mv:=λm hm=>(q.mv m hm).colour (λg _ k=>(rc 8 (by decide) (by decide) g).2 k),ma:=h.ma,lt:=λg hg=>?_ }
  · have e:(λg=>setN c w.heap.size 6 g=2)=λg=>c g=2:=by funext g;exact propext (rc 2 (by decide) (by decide) g)
    rw[e];exact q.ln
  · have e:(λg=>setN c w.heap.size 6 g=4)=λg=>c g=4:=by funext g;exact propext (rc 4 (by decide) (by decide) g)
    rw[e];exact q.wg
  · rcases List.mem_append.1 hs with hs | hs
    · rw[show ({ X with A:=setI X.A t.id w.heap.size }:Loc).A s.id=X.A s.id from hA s hs]
      refine⟨(q.tk s hs).1,?_⟩
      unfold setN
      rw[if_neg (by have:=hl s hs;omega)]
      exact (h.tk s hs).2
    · rw[List.mem_singleton.1 hs,show ({ X with A:=setI X.A t.id w.heap.size }:Loc).A t.id=w.heap.size from if_pos rfl]
      exact⟨Row.fresh _ _ _,if_pos rfl⟩
  · rcases List.mem_append.1 hs with hs | hs<;>rcases List.mem_append.1 hu with hu | hu
    · rw[show ({ X with A:=setI X.A t.id w.heap.size }:Loc).A s.id=X.A s.id from hA s hs,show ({ X with A:=setI X.A t.id w.heap.size }:Loc).A u.id=X.A u.id from hA u hu] at e
      exact h.inj s hs u hu e
    · rw[List.mem_singleton.1 hu,show ({ X with A:=setI X.A t.id w.heap.size }:Loc).A s.id=X.A s.id from hA s hs,show ({ X with A:=setI X.A t.id w.heap.size }:Loc).A t.id=w.heap.size from if_pos rfl] at e
      have:=hl s hs;omega
    · rw[List.mem_singleton.1 hs,show ({ X with A:=setI X.A t.id w.heap.size }:Loc).A u.id=X.A u.id from hA u hu,show ({ X with A:=setI X.A t.id w.heap.size }:Loc).A t.id=w.heap.size from if_pos rfl] at e
      have:=hl u hu;omega
    · rw[List.mem_singleton.1 hs,List.mem_singleton.1 hu]
  · unfold setN at hg
    by_cases e:g=w.heap.size
    · rw[e];simp
    · rw[if_neg e] at hg
      have:=h.lt g hg
      simp only[World.size_alloc];omega
end
end Go.Proofs.YtfbpjobobdidiaaGreatDoor
namespace Go.Proofs.YtfbpjobobdidiaaGreatDoor
open Lib (hid)
open Go.Proofs.Tryz
set_option linter.unusedVariables false
theorem cutL_mem {qs:List Sl} {x:Int} {s:Sl}:s∈cutL qs x↔s∈qs∧s.k≠x:=by
 unfold cutL
 rw[List.mem_filter]
 simp
theorem InvX.atq {E:Eng} {ex rest:List Int} (h:InvX E ex rest) {t:Tk} (ht:t∈E.ts):atL E.qs t.id=t.sl∧hasL E.qs t.id=true:=by
 have hm:=h.qs2 t ht
 refine⟨?_,hasL_iff.2 ⟨_,hm,rfl⟩⟩
 unfold atL
 cases q:E.qs.find? (λs=>s.k==t.id) with
 | none=>exact absurd (List.find?_eq_none.1 q _ hm) (by simp[Tk.sl])
 | some s =>
  have h1:=List.mem_of_find?_eq_some q
  have h2:s.k=t.id:=by simpa using List.find?_some q
  exact h.once.inj h1 hm h2
theorem row_sub (a:Bool) {l m:List Sl} (h:l.Sublist m):(rowL a l).length≤(rowL a m).length:=(h.filter _).length_le
theorem keeps_read:Keeps Tk.read:=λ_=>⟨rfl,rfl⟩
theorem keeps_go:Keeps Tk.go:=λ_=>⟨rfl,rfl⟩
theorem keeps_back:Keeps Tk.back:=λ_=>⟨rfl,rfl⟩
theorem InvX.late {E:Eng} {ex rest:List Int} (h:InvX E ex rest) {t:Tk} (ht:t∈E.ts) (k3:t.kind=3) (hf:E.fd≠0):InvX ((E.prom t.id).upd t.id Tk.read) ex rest:=by
 have out:∀s:Tk,(if s.id=t.id then s.read else s).out=s.out:=λs=>by split<;>rfl
 have tri:∀s:Tk,(if s.id=t.id then s.read else s).tries=s.tries:=λs=>by split<;>rfl
 have id_:=λs=>(keep_if keeps_read t.id s).1
 have bl:=λs=>(keep_if keeps_read t.id s).2
 have up:∀s∈E.ts,(if s.id=t.id then s.read else s)∈upd E.ts t.id Tk.read:=λs hs=>List.mem_map.2 ⟨s,hs,rfl⟩
 have k2:∀s∈E.ts,((if s.id=t.id then s.read else s).kind=2↔s.kind=2):=λs hs=>by
  by_cases e:s.id=t.id
  ·rw[if_pos e,h.inj hs ht e,k3];show (1:Int)=2↔_;simp
  ·rw[if_neg e]
 obtain⟨aq,hq⟩:=h.atq ht
 have sl:∀s∈E.ts,s.id≠t.id→(if s.id=t.id then s.read else s).sl=s.sl:=λs _ e=>by rw[if_neg e]
 refine { may:=h.may,ids:=upd_ids keeps_read h.ids,idr:=λs hs=>?_,blk:=λs hs=>?_,kin:=λs hs=>?_,tri:=λs hs=>?_,once:=?_,qs1:=λs hs=>?_,qs2:=λs hs=>?_,fewd:=?_,fewa:=?_,good:=h.good,g1:=λy hy=>?_,wr:=λs hs=>?_,hd:=λs hs=>?_,tags:=h.tags,tagr:=h.tagr,mlen:=h.mlen,mok:=h.mok,mt:=λm hm i q hi=>?_,rt:=λq hq=>?_,nd:=h.nd,all:=λs hs=>?_ }
 ·obtain⟨s,hs2,rfl⟩:=upd_mem hs;have hs:=hs2;rw[id_];exact h.idr s hs
 ·obtain⟨s,hs2,rfl⟩:=upd_mem hs;have hs:=hs2;rw[bl];exact h.blk s hs
 ·obtain⟨s,hs2,rfl⟩:=upd_mem hs;have hs:=hs2
  by_cases e:s.id=t.id
  ·rw[if_pos e];exact .inl rfl
  ·rw[if_neg e];exact h.kin s hs
 ·obtain⟨s,hs2,rfl⟩:=upd_mem hs;have hs:=hs2;rw[tri];exact h.tri s hs
 ·show List.Pairwise (λa b:Sl=>a.k≠b.k) (cutL E.qs t.id++[⟨t.id,false,(atL E.qs t.id).s⟩])
  rw[List.pairwise_append]
  refine⟨h.once.filter _,List.pairwise_singleton _ _,λa ha c hc=>?_⟩
  rw[List.mem_singleton.1 hc]
  exact (cutL_mem.1 ha).2
 ·rcases List.mem_append.1 hs with q | q
  ·obtain⟨q1,q2⟩:=cutL_mem.1 q
   obtain⟨u,hu,rfl⟩:=h.qs1 s q1
   exact⟨_,up u hu,(sl u hu q2).symm⟩
  ·rw[List.mem_singleton.1 q,aq]
   exact⟨_,up t ht,by rw[if_pos rfl];rfl⟩
 ·obtain⟨s,hs2,rfl⟩:=upd_mem hs;have hs:=hs2
  by_cases e:s.id=t.id
  ·rw[if_pos e,h.inj hs ht e]
   refine List.mem_append_right _ ?_
   rw[aq]
   simp[Tk.sl,Tk.read]
  ·rw[if_neg e]
   exact List.mem_append_left _ (cutL_mem.2 ⟨h.qs2 s hs,e⟩)
 ·show ((rowL false (cutL E.qs t.id++[⟨t.id,false,(atL E.qs t.id).s⟩])).length:Int)≤E.o.b3
  rw[row_more]
  have h1:=row_sub false (List.filter_sublist (p:=λs:Sl=>!(s.k==t.id)) (l:=E.qs))
  have h2:=h.fewd
  unfold Eng.fd at hf
  unfold cutL
  simp
  omega
 ·show ((rowL true (cutL E.qs t.id++[⟨t.id,false,(atL E.qs t.id).s⟩])).length:Int)≤E.o.b4
  rw[row_more]
  have h1:=row_sub true (List.filter_sublist (p:=λs:Sl=>!(s.k==t.id)) (l:=E.qs))
  have h2:=h.fewa
  unfold cutL
  simp
  omega
 ·obtain⟨s,hs,e,k⟩:=h.g1 y hy
  refine⟨_,up s hs,by rw[id_];exact e,?_⟩
  by_cases q:s.id=t.id
  ·rw[if_pos q];show (1:Int)≠3;decide
  ·rw[if_neg q];exact k
 ·obtain⟨s,hs2,rfl⟩:=upd_mem hs;have hs:=hs2
  rw[id_,k2 s hs]
  exact h.wr s hs
 ·obtain⟨s,hs2,rfl⟩:=upd_mem hs;have hs:=hs2
  rw[out,bl]
  intro o
  rw[show ((E.prom t.id).upd t.id Tk.read).head s.b=(E.head s.b).map (λu=>if u.id=t.id then u.read else u) from head_upd (E:=E.prom t.id) keeps_read s.b,h.hd s hs o]
  rfl
 ·obtain⟨s,hs,a1,a2,a3,a4⟩:=h.mt m hm i q hi
  exact⟨_,up s hs,by rw[id_];exact a1,by rw[bl];exact a2,by rw[out];exact a3,by rw[k2 s hs];exact a4⟩
 ·obtain⟨s,hs,a1,a2⟩:=h.rt q hq
  exact⟨_,up s hs,by rw[id_];exact a1,by rw[out];exact a2⟩
 ·obtain⟨s,hs2,rfl⟩:=upd_mem hs;have hs:=hs2
  rw[id_,out]
  exact h.all s hs
theorem good_filt16 {room:Nat} {g:List Sx} (h:GoodR room g) (p:Sx→Bool):GoodR room (g.filter p):=
 ⟨h.low,h.high,Nat.le_trans (List.length_filter_le _ _) h.len,((List.filter_sublist (p:=p) (l:=g)).map Sx.w).nodup h.once,λs hs=>h.may s (List.mem_filter.1 hs).1⟩
theorem head_filter {E:Eng} {x:Int} {t:Tk} (h:E.head t.b=some t) (e:t.id≠x):(E.end_ x).head t.b=some t:=by
 unfold Eng.head Eng.lane Eng.end_ at *
 show ((E.ts.filter (λu=>!(u.id==x))).filter (λu=>u.b==t.b)).head? = some t
 rw[List.filter_filter]
 cases q:E.ts.filter (λu=>u.b==t.b) with
 | nil=>rw[q] at h;cases h
 | cons a r =>
  rw[q] at h
  injection h with h
  subst h
  have e2:E.ts.filter (λu=>u.b==a.b&&!(u.id==x))=(E.ts.filter (λu=>u.b==a.b)).filter (λu=>!(u.id==x)):=by
   rw[List.filter_filter]
   congr 1
   funext u
   rw[Bool.and_comm]
  rw[e2,q,List.filter_cons_of_pos (by simpa using e)]
  rfl
def Eng.drop (E:Eng) (x:Int):Eng:=(E.end_ x).take x
theorem InvX.drop {E:Eng} {ex rest rest':List Int} (h:InvX E ex rest) {t:Tk} (ht:t∈E.ts) (hx:t.id∉E.inM++rest') (hr:∀k∈rest,k=t.id∨k∈rest') (hs:∀k∈rest',k∈rest) (nd:(E.inM++rest').Nodup):InvX (E.drop t.id) ex rest':=by
 have mem:∀s,s∈(E.drop t.id).ts↔s∈E.ts∧s.id≠t.id:=λs=>by
  show s∈E.ts.filter (λu=>!(u.id==t.id))↔_
  rw[List.mem_filter];simp
 have memg:∀y,y∈(E.drop t.id).g↔y∈E.g∧y.t≠t.id:=λy=>by
  show y∈leftT E.g t.id↔_
  unfold leftT
  rw[List.mem_filter];simp
 refine { may:=h.may,ids:=h.ids.filter _,idr:=λs hs=>h.idr s ((mem s).1 hs).1,blk:=λs hs=>h.blk s ((mem s).1 hs).1,kin:=λs hs=>h.kin s ((mem s).1 hs).1,tri:=λs hs=>h.tri s ((mem s).1 hs).1,once:=h.once.filter _,qs1:=λs hs=>?_,qs2:=λs hs=>?_,fewd:=?_,fewa:=?_,good:=good_filt16 h.good _,g1:=λy hy=>?_,wr:=λs hs=>?_,hd:=λs hs=>?_,tags:=h.tags,tagr:=h.tagr,mlen:=h.mlen,mok:=h.mok,mt:=λm hm i q hi=>?_,rt:=λq hq=>?_,nd:=nd,all:=λs hs=>?_ }
 ·obtain⟨q1,q2⟩:=cutL_mem.1 hs
  obtain⟨u,hu,rfl⟩:=h.qs1 s q1
  exact⟨u,(mem u).2 ⟨hu,q2⟩,rfl⟩
 ·obtain⟨q1,q2⟩:=(mem s).1 hs
  exact cutL_mem.2 ⟨h.qs2 s q1,q2⟩
 ·have h1:=row_sub false (List.filter_sublist (p:=λs:Sl=>!(s.k==t.id)) (l:=E.qs))
  have h2:=h.fewd
  show ((rowL false (cutL E.qs t.id)).length:Int)≤E.o.b3
  unfold cutL
  omega
 ·have h1:=row_sub true (List.filter_sublist (p:=λs:Sl=>!(s.k==t.id)) (l:=E.qs))
  have h2:=h.fewa
  show ((rowL true (cutL E.qs t.id)).length:Int)≤E.o.b4
  unfold cutL
  omega
 ·obtain⟨q1,q2⟩:=(memg y).1 hy
  obtain⟨s,hs,e,k⟩:=h.g1 y q1
  exact⟨s,(mem s).2 ⟨hs,by rw[e];exact q2⟩,e,k⟩
 ·obtain⟨q1,q2⟩:=(mem s).1 hs
  intro k hn
  obtain⟨y,hy,e⟩:=h.wr s q1 k hn
  exact⟨y,(memg y).2 ⟨hy,by rw[e];exact q2⟩,e⟩
 ·obtain⟨q1,q2⟩:=(mem s).1 hs
  intro o
  exact head_filter (h.hd s q1 o) q2
 ·obtain⟨s,hs',a1,a2,a3,a4⟩:=h.mt m hm i q hi
  refine⟨s,(mem s).2 ⟨hs',λe=>hx (List.mem_append_left _ ?_)⟩,a1,a2,a3,a4⟩
  rw[←e,a1]
  exact List.mem_flatMap.2 ⟨m,hm,List.mem_of_getElem? hi⟩
 ·obtain⟨s,hs',a1,a2⟩:=h.rt q (hs q hq)
  refine⟨s,(mem s).2 ⟨hs',λe=>hx (List.mem_append_right _ ?_)⟩,a1,a2⟩
  rw[←e,a1];exact hq
 ·obtain⟨q1,q2⟩:=(mem s).1 hs
  intro o
  rcases List.mem_append.1 (h.all s q1 o) with q | q
  ·exact List.mem_append_left _ q
  ·rcases hr _ q with e | e
   ·exact absurd e q2
   ·exact List.mem_append_right _ e
theorem InvX.notM {E:Eng} {ex rest:List Int} (h:InvX E ex rest) {t:Tk} (ht:t∈E.ts) (o:t.out=false):t.id∉E.inM++rest:=by
 intro q
 rcases List.mem_append.1 q with q | q
 ·obtain⟨m,hm,hk⟩:=List.mem_flatMap.1 q
  obtain⟨i,hi⟩:=List.getElem?_of_mem hk
  obtain⟨s,hs,a1,a2,a3,a4⟩:=h.mt m hm i _ hi
  rw[h.inj hs ht a1,o] at a3
  cases a3
 ·obtain⟨s,hs,a1,a2⟩:=h.rt _ q
  rw[h.inj hs ht a1,o] at a2
  cases a2
theorem InvX.drop_idle {E:Eng} {ex rest:List Int} (h:InvX E ex rest) {t:Tk} (ht:t∈E.ts) (o:t.out=false):InvX (E.drop t.id) ex rest:=
 h.drop ht (h.notM ht o) (λk hk=>.inr hk) (λk hk=>hk) h.nd
theorem InvX.drop_back {E:Eng} {ex r:List Int} {t:Tk} (h:InvX E ex (t.id::r)) (ht:t∈E.ts):InvX (E.drop t.id) ex r:=by
 have nd:=h.nd
 rw[List.nodup_append] at nd
 obtain⟨n1,n2,n3⟩:=nd
 obtain⟨n4,n5⟩:=List.nodup_cons.1 n2
 refine h.drop ht ?_ (λk hk=>?_) (λk hk=>List.mem_cons_of_mem _ hk) ?_
 ·intro q
  rcases List.mem_append.1 q with q | q
  ·exact n3 _ q _ (by simp) rfl
  ·exact n4 q
 ·rcases List.mem_cons.1 hk with q | q
  ·exact .inl q
  ·exact .inr q
 ·rw[List.nodup_append]
  exact⟨n1,n5,λa ha b hb=>n3 a ha b (List.mem_cons_of_mem _ hb)⟩
theorem take_none {E:Eng} {x:Int} (h:∀y∈E.g,y.t≠x):E.take x=E:=by
 unfold Eng.take leftT
 have:E.g.filter (λs=>decide (s.t≠x))=E.g:=List.filter_eq_self.2 (λy hy=>by simpa using h y hy)
 rw[this]
theorem InvX.none3 {E:Eng} {ex rest:List Int} (h:InvX E ex rest) {t:Tk} (ht:t∈E.ts) (k:t.kind=3):∀y∈E.g,y.t≠t.id:=λy hy e=>by
 obtain⟨s,hs,a,b⟩:=h.g1 y hy
 rw[h.inj hs ht (by rw[a,e])] at b
 exact b k
theorem end_drop {E:Eng} {x:Int} (h:∀y∈E.g,y.t≠x):E.end_ x=E.drop x:=(take_none (E:=E.end_ x) h).symm
theorem InvX.add {E:Eng} {ex ex' rest:List Int} (h:InvX E ex rest) {t:Tk} (ht:t∈E.ts) (k:t.kind≠3) {w:Wt} (m:mayP w) (n:waitsB E.g w=false) (l:(E.g.length:Int)<E.o.b9) (he:∀e∈ex,e=t.id∨e∈ex'):InvX (E.add t.id w) ex' rest:=by
 have:=(h.idr t ht).1
 have hm:=h.may
 unfold Opt.MayC at hm
 refine { h with good:=?_,g1:=λy hy=>?_,wr:=λs hs k2 hn=>?_ }
 ·refine⟨h.good.low,h.good.high,?_,?_,?_⟩
  ·show (E.g++[(⟨t.id,w⟩:Sx)]).length≤E.o.b9.toNat
   rw[List.length_append,List.length_singleton];omega
  ·show ((E.g++[(⟨t.id,w⟩:Sx)]).map Sx.w).Nodup
   rw[List.map_append,List.map_singleton,List.nodup_append]
   refine⟨h.good.once,by simp,λy hy z hz e=>?_⟩
   rw[List.mem_singleton] at hz
   obtain⟨s,hs,e2⟩:=List.mem_map.1 hy
   have:waitsB E.g w=true:=List.any_eq_true.2 ⟨s,hs,decide_eq_true (by rw[e2,e,hz])⟩
   rw[n] at this;cases this
  ·intro s hs
   rcases List.mem_append.1 hs with q | q
   ·exact h.good.may s q
   ·rw[List.mem_singleton.1 q]
    unfold mayP at m
    unfold mayW
    simp only
    omega
 ·rcases List.mem_append.1 hy with q | q
  ·exact h.g1 y q
  ·rw[List.mem_singleton.1 q]
   exact⟨t,ht,rfl,k⟩
 ·by_cases q:s.id∈ex
  ·rcases he _ q with e | e
   ·exact⟨⟨t.id,w⟩,List.mem_append_right _ (by simp),e.symm⟩
   ·exact absurd e hn
  ·obtain⟨y,hy,e⟩:=h.wr s hs k2 q
   exact⟨y,List.mem_append_left _ hy,e⟩
theorem mem_put16 {l:List Int} {n k:Int}:k∈putI l n↔k=n∨k∈l:=by
 induction l with
 | nil=>simp[putI]
 | cons x l ih =>
  show k∈(if x<n then x::putI l n else if x=n then x::l else n::x::l)↔_
  split
  ·rw[List.mem_cons,ih,List.mem_cons]
   constructor
   ·rintro (q | q | q)<;>simp[q]
   ·rintro (q | q | q)<;>simp[q]
  ·split
   ·rename_i e
    subst e
    rw[List.mem_cons]
    constructor
    ·rintro (q | q)<;>simp[q]
    ·rintro (q | q | q)<;>simp[q]
   ·simp
theorem mem_quit16 {g:List Sx} {r k:Int}:k∈quitI g r↔∃y∈g,y.w.r=r∧y.t=k:=by
 unfold quitI
 have:∀(l:List Sx) (m:List Int),k∈l.foldl (λl s=>putI l s.t) m↔k∈m∨∃y∈l,y.t=k:=by
  intro l
  induction l with
  | nil=>intro m;simp
  | cons s l ih =>
   intro m
   rw[List.foldl_cons,ih,mem_put16]
   constructor
   ·rintro ((q|q)|⟨y,hy,e⟩)
    ·exact .inr ⟨s,by simp,q.symm⟩
    ·exact .inl q
    ·exact .inr ⟨y,by simp[hy],e⟩
   ·rintro (q|⟨y,hy,e⟩)
    ·exact .inl (.inr q)
    ·rcases List.mem_cons.1 hy with rfl | hy'
     ·exact .inl (.inl e.symm)
     ·exact .inr ⟨y,hy',e⟩
 rw[this]
 constructor
 ·rintro (q|⟨y,hy,e⟩)
  ·cases q
  ·obtain⟨h1,h2⟩:=List.mem_filter.1 hy
   exact⟨y,h1,by simpa using h2,e⟩
 ·rintro ⟨y,hy,e1,e2⟩
  exact .inr ⟨y,List.mem_filter.2 ⟨hy,by simpa using e1⟩,e2⟩
theorem InvX.leave {E:Eng} (h:Inv E) (r:Int):InvX (E.leave r) (quitI E.g r) []:=by
 refine { h with good:=good_filt16 h.good _,g1:=λy hy=>h.g1 y (List.mem_filter.1 hy).1,wr:=λs hs k2 hn=>?_ }
 obtain⟨y,hy,e⟩:=h.wr s hs k2 (by simp)
 refine⟨y,List.mem_filter.2 ⟨hy,?_⟩,e⟩
 have:y.w.r≠r:=λq=>hn (mem_quit16.2 ⟨y,hy,q,e⟩)
 simpa using this
theorem wait_memS {qs:List Sl} {x:Int} {v:Bool} {s:Sl}:s∈waitS qs x v↔∃q∈qs,s=if q.k=x then { q with s:=v } else q:=by
 unfold waitS
 rw[List.mem_map]
 exact⟨λ⟨q,h,e⟩=>⟨q,h,e.symm⟩,λ⟨q,h,e⟩=>⟨q,h,e.symm⟩⟩
theorem wait_once {qs:List Sl} (h:OnceL qs) (x:Int) (v:Bool):OnceL (waitS qs x v):=by
 unfold OnceL waitS
 rw[List.pairwise_map]
 refine h.imp ?_
 intro a b q
 have:∀s:Sl,(if s.k=x then { s with s:=v } else s).k=s.k:=λs=>by split<;>rfl
 rw[this,this]
 exact q
theorem wait_row {qs:List Sl} (a:Bool) (x:Int) (v:Bool):(rowL a (waitS qs x v)).length=(rowL a qs).length:=by
 unfold rowL waitS
 rw[List.filter_map,List.length_map]
 congr 1
 apply List.filter_congr
 intro s _
 simp only[Function.comp]
 split<;>rfl
theorem InvX.flip {E:Eng} {ex rest rest':List Int} (h:InvX E ex rest) {t:Tk} (ht:t∈E.ts) (f:Tk→Tk) (v:Bool) (kf:Keeps f) (k1:∀s,(f s).kind=s.kind) (k2:∀s,(f s).out=v) (k3:0≤(f t).tries∧(f t).tries<E.o.b7)
  (hh:v=true→E.head t.b=some t) (hM:t.id∉E.inM) (h1:∀k∈rest',k=t.id∧v=true∨k∈rest∧k≠t.id) (h2:∀k∈rest,k≠t.id→k∈rest') (h3:v=true→t.id∈rest') (nd:(E.inM++rest').Nodup) :
  InvX { (E.upd t.id f) with qs:=waitS E.qs t.id (!v) } ex rest':=by
 have id_:=λs=>(keep_if kf t.id s).1
 have bl:=λs=>(keep_if kf t.id s).2
 have ki:∀s:Tk,(if s.id=t.id then f s else s).kind=s.kind:=λs=>by split;exact k1 s;rfl
 have up:∀s∈E.ts,(if s.id=t.id then f s else s)∈upd E.ts t.id f:=λs hs=>List.mem_map.2 ⟨s,hs,rfl⟩
 have sl:∀s∈E.ts,(if s.id=t.id then f s else s).sl=if s.id=t.id then { s.sl with s:=!v } else s.sl:=λs hs=>by
  by_cases e:s.id=t.id
  ·rw[if_pos e,if_pos e]
   unfold Tk.sl
   rw[(kf s).1,k1,k2]
  ·rw[if_neg e,if_neg e]
 refine { may:=h.may,ids:=upd_ids kf h.ids,idr:=λs hs=>?_,blk:=λs hs=>?_,kin:=λs hs=>?_,tri:=λs hs=>?_,once:=wait_once h.once _ _,qs1:=λs hs=>?_,qs2:=λs hs=>?_,fewd:=?_,fewa:=?_,good:=h.good,g1:=λy hy=>?_,wr:=λs hs=>?_,hd:=λs hs=>?_,tags:=h.tags,tagr:=h.tagr,mlen:=h.mlen,mok:=h.mok,mt:=λm hm i q hi=>?_,rt:=λq hq=>?_,nd:=nd,all:=λs hs=>?_ }
 ·obtain⟨s,hs2,rfl⟩:=upd_mem hs;have hs:=hs2;rw[id_];exact h.idr s hs
 ·obtain⟨s,hs2,rfl⟩:=upd_mem hs;have hs:=hs2;rw[bl];exact h.blk s hs
 ·obtain⟨s,hs2,rfl⟩:=upd_mem hs;have hs:=hs2;rw[ki];exact h.kin s hs
 ·obtain⟨s,hs2,rfl⟩:=upd_mem hs;have hs:=hs2
  by_cases e:s.id=t.id
  ·rw[if_pos e,h.inj hs ht e];exact k3
  ·rw[if_neg e];exact h.tri s hs
 ·obtain⟨q,hq,rfl⟩:=wait_memS.1 hs
  obtain⟨u,hu,rfl⟩:=h.qs1 q hq
  exact⟨_,up u hu,(sl u hu).symm⟩
 ·obtain⟨s,hs2,rfl⟩:=upd_mem hs;have hs:=hs2
  rw[sl s hs]
  exact wait_memS.2 ⟨s.sl,h.qs2 s hs,rfl⟩
 ·show ((rowL false (waitS E.qs t.id (!v))).length:Int)≤E.o.b3
  rw[wait_row];exact h.fewd
 ·show ((rowL true (waitS E.qs t.id (!v))).length:Int)≤E.o.b4
  rw[wait_row];exact h.fewa
 ·obtain⟨s,hs,e,k⟩:=h.g1 y hy
  exact⟨_,up s hs,by rw[id_];exact e,by rw[ki];exact k⟩
 ·obtain⟨s,hs2,rfl⟩:=upd_mem hs;have hs:=hs2
  rw[id_,ki]
  exact h.wr s hs
 ·obtain⟨s,hs2,rfl⟩:=upd_mem hs;have hs:=hs2
  rw[bl,show Eng.head { (E.upd t.id f) with qs:=waitS E.qs t.id (!v) } s.b=(E.head s.b).map (λu=>if u.id=t.id then f u else u) from head_upd (E:=E) kf s.b]
  intro o
  by_cases e:s.id=t.id
  ·have:=h.inj hs ht e
   subst this
   rw[if_pos rfl,k2] at o
   rw[hh o]
   rfl
  ·rw[if_neg e] at o
   rw[h.hd s hs o]
   rfl
 ·obtain⟨s,hs,a1,a2,a3,a4⟩:=h.mt m hm i q hi
  have ne:s.id≠t.id:=λe=>hM (by rw[←e,a1];exact List.mem_flatMap.2 ⟨m,hm,List.mem_of_getElem? hi⟩)
  exact⟨_,up s hs,by rw[id_];exact a1,by rw[bl];exact a2,by rw[if_neg ne];exact a3,by rw[ki];exact a4⟩
 ·rcases h1 q hq with ⟨e,ev⟩|⟨e,ne⟩
  ·exact⟨_,up t ht,by rw[id_];exact e.symm,by rw[if_pos rfl,k2];exact ev⟩
  ·obtain⟨s,hs,a1,a2⟩:=h.rt q e
   exact⟨_,up s hs,by rw[id_];exact a1,by rw[if_neg (by rw[a1];exact ne)];exact a2⟩
 ·obtain⟨s,hs2,rfl⟩:=upd_mem hs;have hs:=hs2
  rw[id_]
  intro o
  by_cases e:s.id=t.id
  ·rw[if_pos e,k2] at o
   rw[e]
   exact List.mem_append_right _ (h3 o)
  ·rw[if_neg e] at o
   rcases List.mem_append.1 (h.all s hs o) with q | q
   ·exact List.mem_append_left _ q
   ·exact List.mem_append_right _ (h2 _ q e)
theorem InvX.along {E:Eng} {ex rest:List Int} (h:InvX E ex rest) {t:Tk} (ht:E.head t.b=some t) (o:t.out=false) (m:Mv):InvX (E.along m t).1 ex (rest++[t.id]):=by
 have tm:=(mem_head ht).1
 have nM:=h.notM tm o
 have nm1:t.id∉E.inM:=λq=>nM (List.mem_append_left _ q)
 have nm2:t.id∉rest:=λq=>nM (List.mem_append_right _ q)
 refine h.flip tm Tk.go true keeps_go (λ_=>rfl) (λ_=>rfl) (h.tri t tm) (λ_=>ht) nm1 (λk hk=>?_) (λk hk _=>List.mem_append_left _ hk) (λ_=>List.mem_append_right _ (by simp)) ?_
 ·rcases List.mem_append.1 hk with q | q
  ·exact .inr ⟨q,λe=>nm2 (by rw[←e];exact q)⟩
  ·exact .inl ⟨List.mem_singleton.1 q,rfl⟩
 ·rw[←List.append_assoc,List.nodup_append]
  refine⟨h.nd,by simp,λa ha b hb e=>?_⟩
  rw[List.mem_singleton.1 hb] at e
  exact nM (by rw[←e];exact ha)
theorem InvX.back {E:Eng} {ex r:List Int} {t:Tk} (h:InvX E ex (t.id::r)) (ht:t∈E.ts) (k:t.tries+1<E.o.b7):InvX { (E.upd t.id Tk.back) with qs:=waitS E.qs t.id true } ex r:=by
 have nd:=h.nd
 rw[List.nodup_append] at nd
 obtain⟨n1,n2,n3⟩:=nd
 obtain⟨n4,n5⟩:=List.nodup_cons.1 n2
 have:=h.tri t ht
 refine h.flip ht Tk.back false keeps_back (λ_=>rfl) (λ_=>rfl) ⟨(by show 0≤t.tries+1;omega),k⟩ (λq=>by cases q) (λq=>n3 _ q _ (by simp) rfl) (λk hk=>.inr ⟨List.mem_cons_of_mem _ hk,λe=>n4 (by rw[←e];exact hk)⟩) (λk hk ne=>?_) (λq=>by cases q) ?_
 ·rcases List.mem_cons.1 hk with q | q
  ·exact absurd q ne
  ·exact q
 ·rw[List.nodup_append]
  exact⟨n1,n5,λa ha b hb=>n3 a ha b (List.mem_cons_of_mem _ hb)⟩
end Go.Proofs.YtfbpjobobdidiaaGreatDoor
