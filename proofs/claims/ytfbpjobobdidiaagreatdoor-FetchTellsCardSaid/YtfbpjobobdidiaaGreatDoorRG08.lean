/- Texts of the layers below, one behind the other. -/
import Derived.Test.YtfbpjobobdidiaaGreatDoorRG06
import Derived.Test.YtfbpjobobdidiaaGreatDoorRows
import Derived.LaidMore
import Derived.Lay
import Derived.Lib.LaidU8
import Derived.Stop.Joined
import Derived.Lib.MinMax
set_option maxRecDepth 100000
set_option maxHeartbeats 4000000
namespace Go.Proofs.YtfbpjobobdidiaaGreatDoor
open Lib (hid)
open Go.Proofs.Tryz
open Go.RowKit
set_option linter.unusedVariables false
theorem three_new (w:World) (t0 t1 t2:TypeId) (c0 c1 c2:Array Value) :
  Row (((w.alloc (.cells c0 t0)).alloc (.cells c1 t1)).alloc (.cells c2 t2)) w.heap.size t0 c0∧Row (((w.alloc (.cells c0 t0)).alloc (.cells c1 t1)).alloc (.cells c2 t2)) (w.heap.size+1) t1 c1 ∧
  Row (((w.alloc (.cells c0 t0)).alloc (.cells c1 t1)).alloc (.cells c2 t2)) (w.heap.size+1+1) t2 c2∧Only n_ w (((w.alloc (.cells c0 t0)).alloc (.cells c1 t1)).alloc (.cells c2 t2)):=by
 have r1:=Row.fresh (w.alloc (.cells c0 t0)) t1 c1
 have r2:=Row.fresh ((w.alloc (.cells c0 t0)).alloc (.cells c1 t1)) t2 c2
 simp only[World.size_alloc] at r1 r2
 exact⟨((Row.fresh w t0 c0).alloc _).alloc _,r1.alloc _,r2,(((Only.refl n_ w).alloc _).alloc _).alloc _⟩
theorem four_new (w:World) (t0 t1 t2 t3:TypeId) (c0 c1 c2 c3:Array Value) :
  Row ((((w.alloc (.cells c0 t0)).alloc (.cells c1 t1)).alloc (.cells c2 t2)).alloc (.cells c3 t3)) w.heap.size t0 c0∧Row ((((w.alloc (.cells c0 t0)).alloc (.cells c1 t1)).alloc (.cells c2 t2)).alloc (.cells c3 t3)) (w.heap.size+1) t1 c1 ∧
  Row ((((w.alloc (.cells c0 t0)).alloc (.cells c1 t1)).alloc (.cells c2 t2)).alloc (.cells c3 t3)) (w.heap.size+1+1) t2 c2∧Row ((((w.alloc (.cells c0 t0)).alloc (.cells c1 t1)).alloc (.cells c2 t2)).alloc (.cells c3 t3)) (w.heap.size+1+1+1) t3 c3 ∧
  Only n_ w ((((w.alloc (.cells c0 t0)).alloc (.cells c1 t1)).alloc (.cells c2 t2)).alloc (.cells c3 t3)):=by
 obtain⟨h0,h1,h2,o⟩:=three_new w t0 t1 t2 c0 c1 c2
 have r3:=Row.fresh (((w.alloc (.cells c0 t0)).alloc (.cells c1 t1)).alloc (.cells c2 t2)) t3 c3
 simp only[World.size_alloc] at r3
 exact⟨h0.alloc _,h1.alloc _,h2.alloc _,r3,o.alloc _⟩
end Go.Proofs.YtfbpjobobdidiaaGreatDoor
namespace Go.Proofs.YtfbpjobobdidiaaGreatDoor
open Lib (hid)
open Go.Proofs.Tryz
open Go.RowKit Go.Maps
set_option linter.unusedVariables false
def outI (l:List Int) (x:Int):List Int:=l.filter (λy=>!(y==x))
theorem lane_cut (ss:List Sd) (x b:Int):laneL (cutK ss x) b=outI (laneL ss b) x:=by
 unfold laneL cutK outI
 rw[List.filter_map,List.filter_filter,List.filter_filter]
 congr 1
 apply List.filter_congr
 intro s _
 simp[Bool.and_comm]
theorem lane_nodup {ss:List Sd} (h:Once ss) (b:Int):(laneL ss b).Nodup:=by
 unfold laneL List.Nodup
 rw[List.pairwise_map]
 exact List.Pairwise.filter _ h
theorem lane_mem {ss:List Sd} {x:Int} (h:Once ss) (hx:hasK ss x=true):x∈laneL ss (blockI ss x):=by
 obtain⟨s,hs,rfl⟩:=hasK_iff.1 hx
 rw[blockI_of h hs]
 exact List.mem_map.2 ⟨s,List.mem_filter.2 ⟨hs,by simp⟩,rfl⟩
theorem lane_other {ss:List Sd} {x b:Int} (h:Once ss) (hb:b≠blockI ss x):x∉laneL ss b:=by
 intro hm
 obtain⟨s,hs,e⟩:=List.mem_map.1 hm
 obtain⟨h1,h2⟩:=List.mem_filter.1 hs
 have h2:s.b=b:=by simpa using h2
 subst e
 rw[blockI_of h h1] at hb
 exact hb h2.symm
theorem out_not {l:List Int} {x:Int} (h:x∉l):outI l x=l:=by
 unfold outI
 rw[List.filter_eq_self]
 intro y hy
 have:y≠x:=λe=>h (by rw[←e];exact hy)
 simpa using this
theorem out_at:∀{l:List Int},l.Nodup→∀{k:Nat} {x:Int},l[k]? = some x→l.eraseIdx k=outI l x
 | [],_,k,x,h=>by simp at h
 | a::r,hn,0,x,h=>by
  simp only[List.getElem?_cons_zero,Option.some.injEq] at h
  subst h
  have:=(List.nodup_cons.1 hn).1
  show r=outI (a::r) a
  have e:outI (a::r) a=outI r a:=by unfold outI;rw[List.filter_cons_of_neg (by simp)]
  rw[e,out_not this]
 | a::r,hn,k+1,x,h=>by
  rw[List.getElem?_cons_succ] at h
  obtain⟨n1,n2⟩:=List.nodup_cons.1 hn
  have hx:a≠x:=λe=>n1 (by rw[e];exact List.mem_of_getElem? h)
  show a::r.eraseIdx k=_
  have e:outI (a::r) x=a::outI r x:=by unfold outI;rw[List.filter_cons_of_pos (by simpa using hx)]
  rw[e,out_at n2 h]
theorem sd_cut:∀{ss:List Sd},Once ss→∀{k:Nat} {s:Sd},ss[k]? = some s→ss.take k++ss.drop (k+1)=cutK ss s.k
 | [],_,k,x,h=>by simp at h
 | a::r,hn,0,x,h=>by
  simp only[List.getElem?_cons_zero,Option.some.injEq] at h
  subst h
  have:=(List.pairwise_cons.1 hn).1
  show r=cutK (a::r) a.k
  unfold cutK
  rw[List.filter_cons_of_neg (by simp)]
  symm
  rw[List.filter_eq_self]
  intro y hy
  have:y.k≠a.k:=λe=>this y hy e.symm
  simpa using this
 | a::r,hn,k+1,x,h=>by
  rw[List.getElem?_cons_succ] at h
  obtain⟨n1,n2⟩:=List.pairwise_cons.1 hn
  have hx:a.k≠x.k:=n1 x (List.mem_of_getElem? h)
  show a::(r.take k++r.drop (k+1))=_
  have e:cutK (a::r) x.k=a::cutK r x.k:=by unfold cutK;rw[List.filter_cons_of_pos (by simpa using hx)]
  rw[e,sd_cut (show Once r from n2) h]
theorem pull_cut {ss:List Sd} (h:Once ss) (x:Int):pullS ss x=cutK ss x:=by
 unfold pullS
 cases hk:tkAt ss x with
 | none =>
  symm
  show cutK ss x=ss
  unfold cutK
  rw[List.filter_eq_self]
  intro y hy
  obtain⟨i,hi,e⟩:=List.getElem_of_mem hy
  have:y.k≠x:=tk_none hk i y (by rw[List.getElem?_eq_getElem hi,e])
  simpa using this
 | some k =>
  obtain⟨s,hs,rfl,_⟩:=tk_of hk
  exact sd_cut h hs
def idxI (l:List Int) (x:Int):Int:=match l.findIdx? (λy=>y==x) with | some k=>k | none=>-1
theorem idx_at {l:List Int} {x:Int} {k:Nat} {y:Int} (h:l[k]? = some y) (hx:y=x) (hb:∀(j:Nat) a,j<k→l[j]? = some a→a≠x):idxI l x=k:=by
 have hk:=lt_of_get h
 have:l.findIdx? (λy=>y==x)=some k:=by
  rw[List.findIdx?_eq_some_iff_getElem]
  refine⟨hk,?_,λj hj=>?_⟩
  ·rw[List.getElem?_eq_getElem hk] at h
   injection h with h
   rw[h];simp[hx]
  ·have:=hb j l[j] hj (List.getElem?_eq_getElem (by omega))
   simp[this]
 unfold idxI
 rw[this]
theorem idx_no {l:List Int} {x:Int} (hb:∀(j:Nat) a,l[j]? = some a→a≠x):idxI l x=-1:=by
 have:l.findIdx? (λy=>y==x)=none:=by
  rw[List.findIdx?_eq_none_iff]
  intro a ha
  obtain⟨j,hj,rfl⟩:=List.getElem_of_mem ha
  simpa using hb j _ (List.getElem?_eq_getElem hj)
 unfold idxI
 rw[this]
theorem idx_mem {l:List Int} {x:Int} (h:x∈l):∃k:Nat,idxI l x=k∧l[k]? = some x:=by
 unfold idxI
 cases hk:l.findIdx? (λy=>y==x) with
 | none =>
  rw[List.findIdx?_eq_none_iff] at hk
  have:=hk x h
  simp at this
 | some k =>
  rw[List.findIdx?_eq_some_iff_getElem] at hk
  obtain⟨hl,h1,_⟩:=hk
  have h1:l[k]=x:=by simpa using h1
  exact⟨k,rfl,by rw[List.getElem?_eq_getElem hl,h1]⟩
theorem index_any (v:Value) (l:List Int) (x:Int) (w:World) (h:Reads w v l) (hl:l.length≤1000) :
  Calls prog 159 #[v,.int .i64 x] w λe w'=>e=.returned (.int .i64 (idxI l x))∧w=w':=by
 obtain⟨a,cap,rfl,hc⟩:=h
 have HC:=hid hc
 clear hc
 go_enter func159,ntmps159
 go_wp2_with fail
 go_loop [8] (λi=>∃k:Nat,k≤l.length∧i=.int .i64 k∧∀j a,j<k→l[j]? = some a→a≠x) (λi=>l.length-(intOf i).toNat)
 case atStart=>exact⟨0,Nat.zero_le _,rfl,λj a hj=>by omega⟩
 case round =>
  obtain⟨k,hk,rfl,hn⟩:=hrel
  have HN:=hid hn
  clear hn
  by_cases hlt:k<l.length
  ·obtain⟨y,hy⟩:∃y,l[k]? = some y:=⟨_,List.getElem?_eq_getElem hlt⟩
   obtain⟨g1,o1,rfl,c1⟩:=HC.out k y hy
   have HY:=hid hy
   clear hy
   by_cases e:x=y
   ·have t:(x==y)=true:=by simp[e]
    have FE:=hid (show idxI l x=k from idx_at HY.out e.symm HN.out)
    clear e
    go_wp2_with fail
    go_ret
    exact⟨by rw[FE.out];try rfl,rfl⟩
   ·have t:(x==y)=false:=by simpa using e
    have NX:=hid (show ∀j a,j<k+1→l[j]? = some a→a≠x from λj a hj ha=>by
     by_cases q:j=k
     ·subst q;rw[HY.out] at ha;injection ha with ha;subst ha;exact λz=>e z.symm
     ·exact HN.out j a (by omega) ha)
    clear e
    go_wp2_with fail
    go_round
    case rel=>exact⟨k+1,by omega,by go_num,NX.out⟩
    case measure=>simp[intOf];omega
  ·have hge:l.length≤k:=by omega
   have FE:=hid (show idxI l x=-1 from idx_no (λj a ha=>HN.out j a (Nat.lt_of_lt_of_le (lt_of_get ha) hge) ha))
   go_wp2_with fail
   go_ret
   exact⟨by rw[FE.out];try rfl,rfl⟩
theorem with_any (v:Value) (l:List Int) (x:Int) (w:World) (h:OwI w 0 v l) (hn:l.Nodup) (hx:x∈l) (hl:l.length≤1000) :
  Calls prog 143 #[v,.int .i64 x] w λe w'=>∃v',e=.returned v'∧OwI w' 0 v' (outI l x)∧v'.ownBlock=v.ownBlock∧Only (λj=>some j=v.ownBlock) w w':=by
 obtain⟨k,hk,hkx⟩:=idx_mem hx
 have lk:=lt_of_get hkx
 have IX:=hid (index_any v l x w (Reads.of_owns h) hl)
 rw[hk] at IX
 have E1:=hid (out_at hn hkx)
 obtain⟨g,cap,rfl,_⟩:=Owns.form h (λe=>by rw[e] at hx;cases hx)
 have DL:=hid (del11_any g cap k l w h lk hl)
 rw[E1.out] at DL
 have hwi:IntKind.i64.wrap ((k:Int)+1)=(k:Int)+1:=by rw[IntKind.wrap_i64];omega
 clear h hn hx hk hkx E1
 go_enter func143,ntmps143
 go_wp2_with fail
 (with_reducible refine IX.out.mono ?_)
 rintro e w' ⟨rfl,rfl⟩
 go_wp2_with fail
 (with_reducible refine DL.out.mono ?_)
 rintro e w' ⟨rfl,ho,o⟩
 have HO:=hid ho
 have OO:=hid o
 clear ho o IX DL
 go_wp2_with fail
 go_ret
 exact⟨_,rfl,HO.out,rfl,OO.out.more (λi _ e=>by rw[e];rfl)⟩
end Go.Proofs.YtfbpjobobdidiaaGreatDoor
namespace Go.Proofs.YtfbpjobobdidiaaGreatDoor
open Lib (hid)
open Go.Proofs.Tryz
open Go.ChangeShapes Go.WideShapes Go.ChangeAt Go.RowKit Go.Lib
set_option linter.unusedVariables false
def laidB : List (String × DataW Unit) := [("forerunner/ask.bounds", Rows.laid_forerunner_ask_bounds)]
theorem bounds_told:Rows.laid_forerunner_ask_bounds=.agg ((lows.zip tops).map λq=>.agg ([q.1,q.2].map λz=>(.lit (.int .i64 z):DataW Unit))):=rfl
theorem bd_of {W:World} (h:laidMetH prog laidB W):Bd W:=by
 rw[MakeChecks.laidMetH_plain _ _ _ (by kernel_rfl)] at h
 obtain⟨ps,⟨g,t,cs,fuel,p,q,hg,ht,hv,hd,_,_⟩,_,_⟩:=h
 obtain rfl := Option.some.inj ((show Tryz.prog.globalNamed "forerunner/ask.bounds" = some 0 by kernel_rfl).symm.trans hg)
 obtain rfl:=Option.some.inj ((show (prog.globals[0]?).map (·.type)=some 138 by kernel_rfl).symm.trans ht)
 rw[bounds_told] at hd
 have c46:prog.cellsOf 137=2:=by kernel_rfl
 have cI:prog.cellsOf 3=1:=by kernel_rfl
 have both:∀(i:Nat) (l g:Int),lows[i]? = some l→tops[i]? = some g→W.cell? ⟨0,i*2,none⟩=some (.int .i64 l)∧W.cell? ⟨0,i*2+1,none⟩=some (.int .i64 g):=by
  intro i l g hl hg2
  have hi:i<14:=lt_of_get hl
  obtain⟨fuel',d,q,hdi,he⟩:=array_elem underlying138 hd i hi
  have hz:(lows.zip tops)[i]? = some (l,g):=by
   rw[List.getElem?_zip_eq_some]
   exact⟨hl,hg2⟩
  rw[List.getElem?_map,hz] at hdi
  obtain rfl:=Option.some.inj hdi
  rw[c46] at he
  have hcs:=ints_of_struct underlying137 (λj f hj=>by
   match j,hj with
   | 0,hj=>simp at hj;subst hj;exact⟨underlying3,rfl,cI⟩
   | 1,hj=>simp at hj;subst hj;exact⟨underlying3,rfl,cI⟩
   | j+2,hj=>simp at hj) (by rw[c46];rfl) he
  have e0:=congrArg (·[0]?) hcs
  have e1:=congrArg (·[1]?) hcs
  simp only[List.getElem?_take,List.getElem?_drop] at e0 e1
  constructor
  ·rw[World.var?_cell hg hv (i*2),←Array.getElem?_toList]
   simpa using e0
  ·rw[World.var?_cell hg hv (i*2+1),←Array.getElem?_toList]
   simpa using e1
 constructor
 ·intro i l hl
  obtain⟨g,hg2⟩:∃g,tops[i]? = some g:=⟨_,List.getElem?_eq_getElem (show i<14 from lt_of_get hl)⟩
  exact (both i l g hl hg2).1
 ·intro i g hg2
  obtain⟨l,hl⟩:∃l,lows[i]? = some l:=⟨_,List.getElem?_eq_getElem (show i<14 from lt_of_get hg2)⟩
  exact (both i l g hl hg2).2
theorem laid_met (os:Os) (args:Array Value):laidMetH prog laidB ((World.laidAll prog os laidB).forCall (λ_ _=>0) ⟨#[],args,[]⟩).memory:=by
 rw[MakeChecks.laidMetH_plain _ _ _ (by kernel_rfl)]
 exact laidMet_laidAll _ (by kernel_rfl) (by kernel_rfl)
theorem laid_shaped (os:Os):(World.laidAll prog os laidB).Shaped prog:=World.shaped_of_ZipB (by kernel_rfl) (by kernel_rfl)
end Go.Proofs.YtfbpjobobdidiaaGreatDoor
namespace Go.Proofs.YtfbpjobobdidiaaGreatDoor
open Lib (hid)
open Go.Proofs.Tryz
open Go.RowKit
set_option linter.unusedVariables false
def Pushed (w:World) (c base:Nat) (v:Value) (d:List Pl) (p:Pl) (e:Ending) (w':World):Prop:=
 e=.returned (.tuple #[])∧∃v' d',d'.Perm (d++[p])∧Heaped (fv d') d'.length∧Qu w' c base v' d'∧(∀g,v'.ownBlock=some g→v.ownBlock=some g∨w.heap.size≤g)∧Only (quB c v) w w'
theorem fv_more {d:List Pl} {p:Pl}:∀i,i<d.length→fv (d++[p]) i=fv d i:=λi hi=>by
 unfold fv
 rw[List.getElem?_append_left hi]
theorem hpush_any {w:World} {c base:Nat} {v:Value} {d:List Pl} (h:Qu w c base v d) (p:Pl) (hh:Heaped (fv d) d.length) (hb:InB (d++[p])) (hl:d.length<1000) :
  Calls prog 97 #[.iface 174 (.pointer (some ⟨c,0,none⟩)),.iface 169 p.val] w (Pushed w c base v d p):=by
 have mP := show (method 375 174 (.pointer (some ⟨c, 0, none⟩)) "Push").run Tryz.prog w = .ok (213, .pointer (some ⟨c, 0, none⟩)) w from m_push _ w
 have eP:=e_push
 have eL:=e_len
 have QP:=hid (qpush_any h p (by omega))
 have HU:=hid (heaped_push hh (λi hi=>fv_more (p:=p) i hi))
 have HB:=hid hb
 have hl2:(d++[p]).length=d.length+1:=by simp
 have HL:=hid hl2
 clear h hh hb
 generalize hv:p.val=pv at *
 go_enter func97,ntmps97
 go_wp2_with fail
 (with_reducible refine (QP.out).mono ?_)
 rintro e w1 ⟨rfl,⟨v1,h1,l1⟩,o1⟩
 have H1:=hid h1
 have O1:=hid o1
 have L1:=hid l1
 have mL:=m_len h1.cellv
 have QL:=hid (qlen_any h1.own)
 rw[hl2] at QL
 have UP:=hid (up_any (j:=d.length) h1 (by omega) (by rw[hl2];exact HU.out) HB.out (by omega))
 have hwi:IntKind.i64.wrap ((d.length+1:Nat)-1:Int)=(d.length:Int):=by rw[IntKind.wrap_i64];omega
 obtain⟨n,hn⟩:∃n,d.length=n:=⟨_,rfl⟩
 rw[hn] at QL UP hwi hl
 clear h1 o1 l1 QP mP HL hl2 hn
 go_wp2_with fail
 (with_reducible refine QL.out.mono ?_)
 rintro e w' ⟨rfl,rfl⟩
 go_wp2_with fail
 (with_reducible refine UP.out.mono ?_)
 rintro e w2 ⟨rfl,d2,p2,hh2,h2,o2⟩
 have O2:=hid o2
 have H2:=hid h2
 clear o2 h2
 go_wp2_with fail
 go_end0
 exact⟨rfl,v1,d2,p2,hh2,H2.out,L1.out,O1.out.trans O2.out (λi hi q=>by
  rcases q with q | q
  ·exact .inl q
  ·rcases L1.out i q.symm with k | k
   ·exact .inr k.symm
   ·omega)⟩
end Go.Proofs.YtfbpjobobdidiaaGreatDoor
namespace Go.Proofs.YtfbpjobobdidiaaGreatDoor
open Lib (hid)
open Go.Proofs.Tryz
open Go.RowKit Go.Maps
set_option linter.unusedVariables false
theorem row_of_owns {w:World} {v:Value} {l:List Int} {g:Nat} (h:OwI w 0 v l) (hg:v.ownBlock=some g):∃cur,Row w g 3 cur:=by
 rcases h.2 with ⟨hv,_⟩|⟨g',cap,cur,hv,_,hh,_⟩
 ·rw[hv] at hg;cases hg
 ·rw[hv] at hg
  injection hg with hg
  exact⟨cur,by rw[←hg];exact hh⟩
theorem LL.gp {w:World} {p r b:Nat} {vs:List Value} {M:Nat→Prop} {n room:Nat} {ss:List Sd} (h:LL w p r b vs M n room ss) {i:Nat} {v:Value} {g:Nat} (hv:vs[i]? = some v) (hg:v.ownBlock=some g):g≠p∧g≠r∧g≠b:=by
 obtain⟨cur,hr⟩:=row_of_owns (h.lanes i v hv) hg
 exact⟨hr.apart h.row (by decide),hr.apart h.rows (by decide),h.md.ne hr⟩
theorem LL.pr {w:World} {p r b:Nat} {vs:List Value} {M:Nat→Prop} {n room:Nat} {ss:List Sd} (h:LL w p r b vs M n room ss):p≠r∧p≠b∧r≠b:=⟨h.row.apart h.rows (by decide),h.md.ne h.row,h.md.ne h.rows⟩
theorem LL.turned {w w5 w7:World} {p r b k:Nat} {vs:List Value} {v v5:Value} {M:Nat→Prop} {n room:Nat} {ss fs:List Sd} (h:LL w p r b vs M n room ss) (hv:vs[k]? = some v) (o5:Only (λj=>some j=v.ownBlock) w w5)
  (ho:OwI w5 0 v5 (laneL fs (k:Int))) (hat:v5.ownBlock=v.ownBlock∨∃g,v5.ownBlock=some g∧w.heap.size≤g) (o7:Only (λj=>j=b) (w5.setCell ⟨r,k,none⟩ v5) w7) (md:Md w7 b fs)
  (hs:∀i:Int,i≠k→laneL fs i=laneL ss i) (once:Once fs) (inb:∀s∈fs,0≤s.b∧s.b<n):LnTo w p M n room fs w7:=by
 have hk:=lt_of_get hv
 have ng:∀g,v5.ownBlock=some g→g≠p∧g≠r∧g≠b:=λg hg=>by
  rcases hat with q|⟨g',q,hl⟩
  ·exact h.gp hv (by rw[←q];exact hg)
  ·rw[q] at hg
   injection hg with hg
   have:=h.lt p h.mp
   have:=h.lt r h.mr
   have:=h.lt b h.mb
   omega
 have np:¬ some p=v.ownBlock:=λe=>(h.gp hv e.symm).1 rfl
 have nr:¬ some r=v.ownBlock:=λe=>(h.gp hv e.symm).2.1 rfl
 have o6:=(Only.refl (λj=>j=r) w5).into rfl k v5
 have O57:Only (λj=>j=r∨j=b) w5 w7:=(o6.more (λ_ _ e=>Or.inl e)).trans o7 (λ_ _ e=>Or.inr e)
 have rows:=o7.row ((o5.row h.rows nr).put k v5) (λe=>h.pr.2.2 e)
 have evs:vs.toArray.setIfInBounds k v5=(vs.set k v5).toArray:=by simp
 rw[evs] at rows
 have gv:∀i u,(vs.set k v5)[i]? = some u→(i=k∧u=v5)∨(i≠k∧vs[i]? = some u):=λi u hu=>by
  rw[List.getElem?_set] at hu
  by_cases e:k=i
  ·rw[if_pos e,if_pos hk] at hu
   injection hu with hu
   exact .inl ⟨e.symm,hu.symm⟩
  ·rw[if_neg e] at hu
   exact .inr ⟨λq=>e q.symm,hu⟩
 have z5:=o5.size
 have z7:=O57.size
 have nv:∀i u g,i≠k→vs[i]? = some u→u.ownBlock=some g→v5.ownBlock≠some g:=λi u g hi hu hg e=>by
  rcases hat with q|⟨g',q,hl⟩
  ·rw[q] at e
   exact hi (h.apart i k u v g hu hv hg e)
  ·rw[q] at e
   injection e with e
   have:=h.lt g (h.mv i u g hu hg)
   omega
 refine⟨⟨λg=>M g∨(w.heap.size≤g∧g<w7.heap.size),⟨r,b,vs.set k v5,?_⟩,λg hg=>hg.imp id (·.1)⟩,?_⟩
 ·exact {
   row:=O57.row (o5.row h.row np) (λe=>by rcases e with e | e;exact h.pr.1 e;exact h.pr.2.1 e)
   rows:=rows
   len:=by rw[List.length_set];exact h.len
   lanes:=λi u hu=>by
    rcases gv i u hu with ⟨rfl,rfl⟩|⟨hi,hu⟩
    ·exact ho.keep O57 (λg hg e=>by rcases e with e | e;exact (ng g hg).2.1 e;exact (ng g hg).2.2 e)
    ·rw[hs (i:Int) (by omega)]
     refine ((h.lanes i u hu).keep o5 (λg hg e=>hi (h.apart i k u v g hu hv hg e.symm))).keep O57 (λg hg e=>?_)
     have:=h.gp hu hg
     rcases e with e | e
     ·exact this.2.1 e
     ·exact this.2.2 e
   apart:=λi j u v' g hu hv' hg hg'=>by
    rcases gv i u hu with ⟨rfl,rfl⟩|⟨hi,hu2⟩
    ·rcases gv j v' hv' with ⟨rfl,rfl⟩|⟨hj,hv'⟩
     ·rfl
     ·exact absurd hg (nv j v' g hj hv' hg')
    ·rcases gv j v' hv' with ⟨rfl,rfl⟩|⟨hj,hv2⟩
     ·exact absurd hg' (nv i u g hi hu2 hg)
     ·exact h.apart i j u v' g hu2 hv2 hg hg'
   md:=md
   once:=once
   inb:=inb
   mp:=.inl h.mp
   mr:=.inl h.mr
   mb:=.inl h.mb
   mv:=λi u g hu hg=>by
    rcases gv i u hu with ⟨rfl,rfl⟩|⟨hi,hu⟩
    ·rcases hat with q|⟨g',q,hl⟩
     ·exact .inl (h.mv _ v g hv (by rw[←q];exact hg))
     ·have l5:=(ho.base_le hg).2
      rw[q] at hg
      injection hg with hg
      exact .inr ⟨by omega,by omega⟩
    ·exact .inl (h.mv i u g hu hg)
   lt:=λg hg=>by
    rcases hg with hg | hg
    ·have:=h.lt g hg;omega
    ·exact hg.2 }
 ·refine (o5.more (λi _ e=>h.mv k v i hv e.symm)).trans O57 (λi _ e=>?_)
  rcases e with e | e
  ·rw[e];exact h.mr
  ·rw[e];exact h.mb
theorem lane_more (ss:List Sd) (b x i:Int):laneL (ss++[⟨b,x⟩]) i=if b=i then laneL ss i++[x] else laneL ss i:=by
 unfold laneL
 rw[List.filter_append,List.map_append]
 by_cases h:b=i
 ·rw[if_pos h,List.filter_cons_of_pos (by simpa using h)];rfl
 ·rw[if_neg h,List.filter_cons_of_neg (by simpa using h)];simp
theorem step_append_at11 {P:Program} {ops:Array Oper} {o:Oper} {a:Act} {w:World} {K:Act→World→Prop} {Q:Exit→Act→World→Prop} {E:Prop}
  (hg:o.guard=none) (s x:Operand) (t:TypeId) (hop:o.op=Op.call { callee:=Callee.builtin Builtin.append,args:=#[s,x],argTypes:=#[t,t] })
  (base:Nat) (e:TypeId) (i:TypeInfo) (z:Value) (size bytes:Nat) (h1:P.underlying t=some (.slice e)) (h2:P.info? e=some i) (h3:i.zero=some z) (h4:i.size=size) (h5:i.bytes=bytes) (h6:z.cells.size=size) (h7:0<size)
  (v:Value) (k:Nat) (xs:List Value) (hs:a.eval s=v) (hown:w.ownsRow base e size v k xs)
  (ad:Addr) (m c:Nat) (news:List Value) (hx:a.eval x=.slice (some ad) m c) (hn:news.length=m*size) (hc:∀j u,news[j]? = some u→w.cell? (ad.add j)=some u) (h1c:∀u∈news,u.oneCell'=true)
  (b1:k+m≤maxLen) (b2:(k+m)*bytes≤140737488355328) (b3:base≤w.heap.size)
  (hK:∀v' w',w'.ownsRow base e size v' (k+m) (xs++news)→w.grownBy w' v.ownBlock→(v'.ownBlock=v.ownBlock∨v'.ownBlock=some w.heap.size)→K (a.put o.dst v') w') :
  if Region.wanted o (yielded ops a.tmps)=true then Oper.wp P o a w K Q else E:=by
 have hw:Region.wanted o (yielded ops a.tmps)=true:=by simp[Region.wanted,hg]
 rw[if_pos hw]
 obtain⟨v',w',hrun,r1,r2,_,r4⟩:=run_append_own_at (P:=P) w base t o.type e i z size bytes h1 h2 h3 h4 h5 h6 h7 v k xs hown ad m c news hn hc h1c b1 b2 b3
 unfold Oper.wp
 simp[execOp,hop,resolve,invoke,builtin,hs,hx,hrun,Result.andThen]
 exact hK v' w' r1 r2 r4
end Go.Proofs.YtfbpjobobdidiaaGreatDoor
namespace Go.Proofs.YtfbpjobobdidiaaGreatDoor
open Lib (hid)
open Go.Proofs.Tryz
open Go.RowKit
set_option linter.unusedVariables false
theorem Owns.full {α:Type} {w:World} {base:Nat} {e:TypeId} {k:Nat} {c:α→List Value} (hk:∀a,(c a).length=k) {g n:Nat} {xs:List α} (h:Row w g e (flat c xs)) (hn:xs.length=n) (hb:base≤g) (hm:n≤maxLen):Owns w base e k c (.slice (some ⟨g,0,none⟩) n n) xs:=by
 subst hn
 have sz:=flat_size hk xs
 have fl:(xs.flatMap c).length=xs.length*k:=by rw[←sz];unfold flat;rw[List.size_toArray]
 refine⟨fl,.inr ⟨g,xs.length,flat c xs,rfl,hb,h,Nat.le_refl _,hm,sz,?_⟩⟩
 unfold flat
 rw[List.take_of_length_le]
 rw[fl]
 exact Nat.le_refl _
theorem blocks_get {r:Rn} (h:r.Ok) {j:Nat} (hj:(j:Int)<r.c):(blocksOf r)[j]? = some (r.f+(j:Int)):=by
 unfold blocksOf
 rw[if_pos h,List.getElem?_map,List.getElem?_range (by omega)]
 rfl
theorem blocks_any (r:Rn) (w:World) :
  Calls prog 103 #[r.val] w λe w'=>∃v,e=.returned v∧OwI w' w.heap.size v (blocksOf r)∧Only n_ w w':=by
 have IA:=hid (λw=>is_any r w)
 by_cases h:r.Ok
 ·rw[decide_eq_true h] at IA
  have h':=h
  unfold Rn.Ok at h'
  obtain⟨n,hn⟩:=Int.eq_ofNat_of_zero_le (show 0≤r.c by omega)
  have BG:=hid (λ(j:Nat) (hj:j<n)=>blocks_get h (j:=j) (by omega))
  have BL:=hid (show (blocksOf r).length=n from by rw[blocks_len h];omega)
  obtain⟨i0,hi0,hz0,hz1,hz2⟩:=info_partsR info_int8
  have MK:=run_make_flat (P:=prog) (c:=one11) 0 one1 (by decide) 44 3 i0 (.int .i64 0) underlying44 hi0 hz0 hz1 rfl .i64 .i64 n (by rw[hz2];omega) (by omega)
  generalize blocksOf r=bl at *
  obtain⟨f,c⟩:=r
  dsimp only at *
  subst hn
  unfold Rn.val at *
  dsimp only at *
  have F:=hid h'
  clear hi0 hz0 hz1 hz2 h h'
  go_enter func103,ntmps103
  go_wp2_with fail
  have R0:=hid (Row.fresh w 43 #[.int .i64 f,.int .i64 (n:Int)])
  have O0:=hid ((Only.refl n_ w).alloc (.cells #[.int .i64 f,.int .i64 (n:Int)] 43))
  (with_reducible refine (IA.out _).mono ?_)
  rintro e w2 ⟨rfl,o2⟩
  have R2:=hid (o2.still R0.out)
  have O2:=hid (O0.out.same o2)
  clear o2 R0 O0
  obtain⟨r0,r1⟩:=R2.out.two
  go_wp2_with fail
  have lt:=R2.out.lt
  have R3:=hid (R2.out.alloc (.cells (flat one11 (List.replicate n 0)) 3))
  have B3:=hid (Row.fresh w2 3 (flat one11 (List.replicate n 0)))
  have O3:=hid (O2.out.alloc (.cells (flat one11 (List.replicate n 0)) 3))
  have sz:=O2.out.size
  clear r0 r1 R2 O2 MK
  revert lt R3 B3 O3 sz
  generalize w2.alloc (.cells (flat one11 (List.replicate n 0)) 3)=W3
  generalize w2.heap.size=gs
  generalize hg0:w.heap.size=g0
  intro lt R3 B3 O3 sz
  have GW:=hid (show w.heap.size=g0∧g0<gs from ⟨hg0,lt⟩)
  clear hg0 lt sz
  go_loopw [13] (λi wr=>∃k:Nat,k≤n∧i=.int .i64 k∧(∃l:List Int,l.length=n∧(∀j,j<k→l[j]? = some (f+(j:Int)))∧Row wr gs 3 (flat one11 l))∧Row wr g0 43 #[.int .i64 f,.int .i64 (n:Int)]∧Only n_ w wr) (λi _=>n-(intOf i).toNat)
  case atStart=>exact⟨0,Nat.zero_le _,rfl,⟨List.replicate n 0,by simp,λj hj=>by omega,B3.out⟩,R3.out,O3.out⟩
  case round =>
   obtain⟨k,hk,rfl,⟨l,hl,hj,hb⟩,hr,o⟩:=hrel
   have O:=hid o
   have B:=hid hb
   have R:=hid hr
   have L:=hid hl
   have J:=hid hj
   clear B3 R3 O3 o hb hr hl hj
   have FF:=F.out
   by_cases hlt:k<n
   ·obtain⟨y,hy⟩:∃y,l[k]? = some y:=⟨_,List.getElem?_eq_getElem (by rw[L.out];exact hlt)⟩
    have v:IntKind.i64.wrap (f+(k:Int))=f+(k:Int):=by rw[IntKind.wrap_i64];omega
    have hn:n≤256:=by omega
    clear FF
    have c0:W3.cell? ⟨0,0,none⟩=W3.cell? ⟨0,0,none⟩:=rfl
    obtain⟨r0,r1⟩:=R.out.two
    have f1:=B.out.frozen k
    have c1:wr.cell? ⟨gs,k,none⟩=some (.int .i64 y):=by
     rw[B.out.cell]
     have:=flat_get (c:=one11) one1 hy (j:=0) (by decide)
     rwa [Nat.mul_one,Nat.add_zero] at this
    have HY:=hid hy
    clear hy c0
    go_wp2_with fail
    go_roundw
    case rel =>
     refine⟨k+1,by omega,by go_num,⟨l.set k (f+(k:Int)),by rw[List.length_set];exact L.out,λj q=>?_,?_⟩,R.out.far (by have:=GW.out;show g0≠gs;omega) _,O.out.new (by have:=GW.out;omega) _ _⟩
     ·rw[List.getElem?_set]
      by_cases e:k=j
      ·subst e
       rw[if_pos rfl,if_pos (by rw[L.out];exact hlt)]
      ·rw[if_neg e]
       exact J.out j (by omega)
     ·have p:=B.out.put k (.int .i64 (f+(k:Int)))
      have q:=flat_put (c:=one11) one1 (i:=k) (j:=0) HY.out (a':=f+(k:Int)) (v:=.int .i64 (f+(k:Int))) (by decide) rfl
      rw[Nat.mul_one,Nat.add_zero] at q
      rw[q] at p
      exact p
    case measure=>simp[intOf];omega
   ·have e:k=n:=by omega
    subst e
    have LE:l=bl:=eq_upto (by rw[L.out,BL.out]) (λj q=>by rw[J.out j (by rw[←L.out];exact q),BG.out j (by rw[←L.out];exact q)])
    subst LE
    have hn:k≤256:=by omega
    clear FF
    go_wp2_with fail
    go_ret
    exact⟨_,rfl,Owns.full one1 B.out L.out (by have:=GW.out;omega) (by unfold maxLen;omega),O.out⟩
 ·rw[decide_eq_false h] at IA
  rw[show blocksOf r=[] from by unfold blocksOf;rw[if_neg h]]
  clear h
  unfold Rn.val at *
  go_enter func103,ntmps103
  go_wp2_with fail
  have O0:=hid ((Only.refl n_ w).alloc (.cells #[.int .i64 r.f,.int .i64 r.c] 43))
  (with_reducible refine (IA.out _).mono ?_)
  rintro e w2 ⟨rfl,o2⟩
  have O2:=hid (O0.out.same o2)
  clear o2 O0
  go_wp2_with fail
  go_ret
  exact⟨_,rfl,Owns.start _ _ _ _ _,O2.out⟩
end Go.Proofs.YtfbpjobobdidiaaGreatDoor
namespace Go.Proofs.YtfbpjobobdidiaaGreatDoor
open Lib (hid)
open Go.Proofs.Tryz
open Go.RowKit Go.Maps
set_option linter.unusedVariables false
def lpushTo (p:Nat) (M:Nat→Prop) (n room:Nat) (ss:List Sd) (b x:Int) (w:World) (e:Ending) (w':World):Prop:=e=.returned (.int .i64 (pushC n room ss b x))∧LnTo w p M n room (pushS n room ss b x) w'
theorem int_form {w:World} {v:Value} {n:Nat} {xs:List Value} (h:w.ownsRow 0 3 1 v n xs):∃a n c,v=.slice a n c:=by
 rcases h.2 with ⟨h0,_⟩|⟨g,cap,cur,hv,_⟩
 ·exact⟨none,0,0,h0⟩
 ·exact⟨_,_,_,hv⟩
theorem lpush_arg {p r mb:Nat} {vs:List Value} {M:Nat→Prop} {n room:Nat} {ss:List Sd} (b x:Int) (w:World) (h:LL w p r mb vs M n room ss) (hin:¬ (0≤b∧b<n∧1≤x)) :
  Calls prog 109 #[.pointer (some ⟨p,0,none⟩),.int .i64 b,.int .i64 x] w (lpushTo p M n room ss b x w):=by
 have HAS:=hid (lhas_any b w h)
 have PC:=hid (show pushC n room ss b x=1 from by unfold pushC;rw[if_neg hin])
 have PS:=hid (show pushS n room ss b x=ss from by unfold pushS;rw[PC.out];rfl)
 have H:=hid (show Ln w p M n room ss from ⟨r,mb,vs,h⟩)
 by_cases hb:0≤b∧b<n
 ·have E:=hid (show decide (0≤b∧b<n)=true from decide_eq_true hb)
  have d:decide (x<1)=true:=by simp;omega
  clear h hin hb
  go_enter func109,ntmps109
  go_wp2_with fail
  (with_reducible refine HAS.out.mono ?_)
  rintro e w' ⟨rfl,rfl⟩
  rw[E.out]
  go_wp2_with fail
  go_ret
  exact⟨by rw[PC.out];rfl,by rw[PS.out];exact H.out.to (Only.refl _ _)⟩
 ·have E:=hid (show decide (0≤b∧b<n)=false from decide_eq_false hb)
  clear h hin hb
  go_enter func109,ntmps109
  go_wp2_with fail
  (with_reducible refine HAS.out.mono ?_)
  rintro e w' ⟨rfl,rfl⟩
  rw[E.out]
  go_wp2_with fail
  go_ret
  exact⟨by rw[PC.out];rfl,by rw[PS.out];exact H.out.to (Only.refl _ _)⟩
theorem lpush_exists {p r mb:Nat} {vs:List Value} {M:Nat→Prop} {n room:Nat} {ss:List Sd} (b x:Int) (w:World) (h:LL w p r mb vs M n room ss) (hin:0≤b∧b<n∧1≤x) (hx:(Lit.int .i64 x).wf=true) (hk:hasK ss x=true) :
  Calls prog 109 #[.pointer (some ⟨p,0,none⟩),.int .i64 b,.int .i64 x] w (lpushTo p M n room ss b x w):=by
 have HAS:=hid (lhas_any b w h)
 rw[decide_eq_true (show 0≤b∧b<(n:Int) by omega)] at HAS
 have PC:=hid (show pushC n room ss b x=4 from by unfold pushC;rw[if_pos hin,tk_has,hk,if_pos rfl])
 have PS:=hid (show pushS n room ss b x=ss from by unfold pushS;rw[PC.out];rfl)
 have H:=hid (show Ln w p M n room ss from ⟨r,mb,vs,h⟩)
 have c2:w.cell? ⟨p,2,none⟩=some (.map (some mb)):=by rw[h.row.cell];rfl
 obtain⟨D,hown,hr⟩:=h.md
 have hkey:=keyOf_int_mk underlying3 hx
 have OW:=hid hown
 have q:=hr.1 x
 rw[hk] at q
 have d:decide (x<1)=false:=by simp;omega
 clear h hin hk hown hr hx
 go_enter func109,ntmps109
 go_wp2_with fail
 (with_reducible refine HAS.out.mono ?_)
 rintro e w' ⟨rfl,rfl⟩
 go_wp2_with (first
  | (at_lookup;refine wpList_lookup_own_ok_int _ rfl _ _ 140 rfl 3 3 .i64 lawI underlying140 underlying3 (zeroI _) mb _ D rfl OW.out _ _ rfl hkey ?_;intro c1 hat hwc)
  | go_in)
 go_ret
 exact⟨by rw[PC.out];rfl,by rw[PS.out];exact H.out.to (Only.refl _ _)⟩
theorem lpush_full {p r mb:Nat} {vs:List Value} {M:Nat→Prop} {n room:Nat} {ss:List Sd} (b x:Int) (w:World) (h:LL w p r mb vs M n room ss) (hin:0≤b∧b<n∧1≤x) (hx:(Lit.int .i64 x).wf=true) (hk:hasK ss x=false) (hr:ss.length=room) :
  Calls prog 109 #[.pointer (some ⟨p,0,none⟩),.int .i64 b,.int .i64 x] w (lpushTo p M n room ss b x w):=by
 have HAS:=hid (lhas_any b w h)
 rw[decide_eq_true (show 0≤b∧b<(n:Int) by omega)] at HAS
 have PC:=hid (show pushC n room ss b x=2 from by unfold pushC;rw[if_pos hin,tk_has,hk,if_neg (by decide),if_pos (by omega)])
 have PS:=hid (show pushS n room ss b x=ss from by unfold pushS;rw[PC.out];rfl)
 have H:=hid (show Ln w p M n room ss from ⟨r,mb,vs,h⟩)
 have c2:w.cell? ⟨p,2,none⟩=some (.map (some mb)):=by rw[h.row.cell];rfl
 have c2':w.drew.cell? ⟨p,2,none⟩=some (.map (some mb)):=c2
 have c1':w.drew.cell? ⟨p,1,none⟩=some (.int .i64 room):=by show w.cell? _=_;rw[h.row.cell];rfl
 have LEN:=(h.md.still (Only.refl n_ w).drew).len h.once
 have t:((ss.length:Int)==(room:Int))=true:=by simp;omega
 obtain⟨D,hown,hrd⟩:=h.md
 have hkey:=keyOf_int_mk underlying3 hx
 have OW:=hid hown
 have q:=hrd.1 x
 rw[hk] at q
 have d:decide (x<1)=false:=by simp;omega
 clear h hin hk hown hrd hx hr
 generalize ss.length=m at LEN t OW
 go_enter func109,ntmps109
 go_wp2_with fail
 (with_reducible refine HAS.out.mono ?_)
 rintro e w' ⟨rfl,rfl⟩
 go_wp2_with (first
  | (at_lookup;refine wpList_lookup_own_ok_int _ rfl _ _ 140 rfl 3 3 .i64 lawI underlying140 underlying3 (zeroI _) mb _ D rfl OW.out _ _ rfl hkey ?_;intro c1 hat hwc)
  | go_in)
 go_region
 all_goals
  go_wp2_with fail
  go_ret
  exact⟨by rw[PC.out];rfl,by rw[PS.out];exact H.out.to (Only.refl _ _).drew⟩
def lpullTo (p:Nat) (M:Nat→Prop) (n room:Nat) (ss:List Sd) (x:Int) (w:World) (e:Ending) (w':World):Prop:=e=.returned (.tuple #[.int .i64 (blockI ss x),.int .i64 (pullC ss x)])∧LnTo w p M n room (pullS ss x) w'
theorem int_form11 {w:World} {v:Value} {l:List Int} (h:OwI w 0 v l):∃a n c,v=.slice a n c:=by
 rcases h.2 with ⟨h0,_⟩|⟨g,cap,cur,hv,_⟩
 ·exact⟨none,0,0,h0⟩
 ·exact⟨_,_,_,hv⟩
theorem lpull_no {p r mb:Nat} {vs:List Value} {M:Nat→Prop} {n room:Nat} {ss:List Sd} (x:Int) (w:World) (h:LL w p r mb vs M n room ss) (hx:(Lit.int .i64 x).wf=true) (hk:hasK ss x=false) :
  Calls prog 105 #[.pointer (some ⟨p,0,none⟩),.int .i64 x] w (lpullTo p M n room ss x w):=by
 have PC:=hid (show blockI ss x=0∧pullC ss x=3∧pullS ss x=ss from ⟨blockI_no hk,by unfold pullC;rw[tk_has,hk];rfl,by
  have e:=hk
  rw[←tk_has] at e
  unfold pullS
  cases q:tkAt ss x with
  | none=>rfl
  | some k=>rw[q] at e;cases e⟩)
 have H:=hid (show Ln w p M n room ss from ⟨r,mb,vs,h⟩)
 have c2:w.cell? ⟨p,2,none⟩=some (.map (some mb)):=by rw[h.row.cell];rfl
 obtain⟨D,hown,hr⟩:=h.md
 have hkey:=keyOf_int_mk underlying3 hx
 have OW:=hid hown
 have q:=hr.1 x
 rw[hk] at q
 clear h hk hown hr hx
 go_enter func105,ntmps105
 go_wp2_with (first
  | (at_lookup;refine wpList_lookup_own_ok_int _ rfl _ _ 140 rfl 3 3 .i64 lawI underlying140 underlying3 (zeroI _) mb _ D rfl OW.out _ _ rfl hkey ?_;intro c1 hat hwc)
  | go_in)
 go_ret2
 exact⟨by rw[PC.out.1,PC.out.2.1];rfl,by rw[PC.out.2.2];exact H.out.to (Only.refl _ _)⟩
theorem lpull_yes {p r mb:Nat} {vs:List Value} {M:Nat→Prop} {n room:Nat} {ss:List Sd} (x:Int) (w:World) (h:LL w p r mb vs M n room ss) (hn:n≤1000) (hl:ss.length≤1000) (hx:(Lit.int .i64 x).wf=true) (hk:hasK ss x=true) :
    Calls prog 105 #[.pointer (some ⟨p,0,none⟩),.int .i64 x] w (lpullTo p M n room ss x w):=by
  have PC:=hid (show pullC ss x=0∧pullS ss x=cutK ss x from ⟨by unfold pullC;rw[tk_has,hk];rfl,pull_cut h.once x⟩)
  have hb:0≤blockI ss x∧blockI ss x<n:=by
    obtain⟨s,hs,rfl⟩:=hasK_iff.1 hk
    rw[blockI_of h.once hs]
    exact h.inb s hs
  have MEM:=hid (lane_mem h.once hk)
  have OTH:=hid (λ(i:Int) (hi:i≠blockI ss x)=>(lane_cut ss x i).trans (out_not (lane_other h.once hi)))
  have CUT:=hid (lane_cut ss x (blockI ss x))
  have NOD:=hid (lane_nodup h.once (blockI ss x))
  have LLE:=hid (Nat.le_trans (lane_le ss (blockI ss x)) hl)
  unfold lpullTo
  rw[PC.out.1,PC.out.2]
  have H:=hid h
  have c2:w.cell? ⟨p,2,none⟩=some (.map (some mb)):=by rw[h.row.cell];rfl
  obtain⟨D,hown,hr⟩:=h.md
  have hkey:=keyOf_int_mk underlying3 hx
  have OW:=hid hown
  have q:=hr.1 x
  rw[hk] at q
  have RD:=hid (hr.look h.once x)
  have HR:=hid hr
  obtain⟨k,hbk⟩:∃k:Nat,blockI ss x=k:=⟨(blockI ss x).toNat,by omega⟩
  rw[hbk] at MEM OTH CUT NOD LLE hb RD ⊢
  have hkn:k<n:=by omega
  obtain⟨v,hv⟩:∃v,vs[k]? = some v:=⟨_,List.getElem?_eq_getElem (by rw[h.len];exact hkn)⟩
  have HV:=hid hv
  have NGV:=hid (λg (hg:v.ownBlock=some g)=>h.gp hv hg)
  have lp:=h.row.lt
  have lr:=h.rows.lt
  have pr:=h.pr.1
  have KS:=hid (λw' (o:Only (λj=>some j=v.ownBlock) w w')=>(show w'.cell? ⟨p,0,none⟩=some (.slice (some ⟨r,0,none⟩) n n)∧w'.cell? ⟨p,2,none⟩=some (.map (some mb))∧w'.cell? ⟨r,k,none⟩=some v∧w'.frozen? ⟨r,k,none⟩=false from by
    have r1:=o.row h.row (λe=>(NGV.out p e.symm).1 rfl)
    have r2:=o.row h.rows (λe=>(NGV.out r e.symm).2.1 rfl)
    exact⟨by rw[r1.cell];rfl,by rw[r1.cell];rfl,by rw[r2.cell];simpa using hv,r2.frozen k⟩))
  have WITH:=hid (with_any v _ x w.drew ((h.lanes k v hv).still (Only.refl n_ w).drew) NOD.out MEM.out LLE.out)
  have kn:(k:Int)<(n:Int):=by omega
  clear h hk hown hr hx hbk hv hb
  go_enter func105,ntmps105
  go_wp2_with (first
    | (at_lookup;refine wpList_lookup_own_ok_int _ rfl _ _ 140 rfl 3 3 .i64 lawI underlying140 underlying3 (zeroI _) mb _ D rfl OW.out _ _ rfl hkey ?_;intro c1 hat hwc)
    | go_in)
  have hc:=RD.out _ hat
  subst hc
  clear hat hwc c2
  obtain⟨g0,g2,g3,z2⟩:=KS.out _ (Only.refl _ w)
  obtain⟨e0,e2,e3,z3⟩:=KS.out _ ((Only.refl _ w).drew)
  go_region_with (first
    | (go_at_call 143;(with_reducible refine (WITH.out).mono ?_);rintro e w5 ⟨v5,rfl,h5,a5,o5⟩;obtain⟨b5,n5,k5,rfl⟩:=int_form11 h5;dsimp only
       have W5:=hid h5
       have A5:=hid a5
       have O5:=hid ((Only.refl _ w).drew.same o5)
       obtain⟨y0,y2,y3,y4⟩:=KS.out _ O5.out
       have lp5:p<w5.heap.size:=Nat.lt_of_lt_of_le lp O5.out.size
       have lr5:r<w5.heap.size:=Nat.lt_of_lt_of_le lr O5.out.size
       clear h5 a5 o5)
    | fail)
  all_goals
    have O6:=hid ((Only.refl (λj=>j=r) w5).into rfl k (.slice b5 n5 k5))
    have OW6:=hid (owns_keep (owns_keep OW.out O5.out (λe=>(NGV.out mb e.symm).2.2 rfl)) O6.out (λe=>H.out.pr.2.2 e.symm))
    have c6:(w5.setCell ⟨r,k,none⟩ (.slice b5 n5 k5)).cell? ⟨p,2,none⟩=some (.map (some mb)):=O6.out.cell y2 pr
    have K:=hid (λw7 (own2:w7.ownsMap prog 3 (plainElem prog 3) mb ss.length (D.del (.int .i64 x))) (turn2:(w5.setCell ⟨r,k,none⟩ (.slice b5 n5 k5)).mapTurned w7 mb)=>H.out.turned (w7:=w7) (fs:=cutK ss x) HV.out O5.out (by rw[CUT.out];exact W5.out) (.inl A5.out) (only_turned turn2) (Md.of own2 (HR.out.del x) (H.out.once.cut x)) (λi hi=>OTH.out i hi) (H.out.once.cut x) (λs hs=>H.out.inb s (List.mem_filter.1 hs).1))
    generalize w5.setCell ⟨r,k,none⟩ (.slice b5 n5 k5)=w6 at *
    clear y0 y2 y3 y4 e0 e2 e3 z3 g0 g2 g3 z2 O6 W5 A5 O5
    go_wp2_with (first
      | (at_delete;refine wpList_delete_own _ rfl _ _ 140 3 rfl 3 lawI underlying140 _ mb _ D rfl OW6.out _ _ rfl hkey ?_;intro w7 own2 turn2)
      | go_in)
    go_ret2
    exact⟨rfl,K.out w7 own2 turn2⟩
theorem lpull_any {p:Nat} {M:Nat→Prop} {n room:Nat} {ss:List Sd} (x:Int) (w:World) (h:Ln w p M n room ss) (hn:n≤1000) (hl:ss.length≤1000) (hx:(Lit.int .i64 x).wf=true) :
  Calls prog 105 #[.pointer (some ⟨p,0,none⟩),.int .i64 x] w (lpullTo p M n room ss x w):=by
 obtain⟨r,mb,vs,h⟩:=h
 cases hk:hasK ss x with
 | true=>exact lpull_yes x w h hn hl hx hk
 | false=>exact lpull_no x w h hx hk
end Go.Proofs.YtfbpjobobdidiaaGreatDoor
