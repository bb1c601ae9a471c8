/- Texts of the layers below, one behind the other. -/
import Derived.Shelf.Lay
import Derived.Test.YtfbpjobobdidiaaGreatDoorRG04
import Derived.Handy
set_option maxRecDepth 100000
set_option maxHeartbeats 4000000
namespace Go.Proofs.YtfbpjobobdidiaaGreatDoor
open Lib (hid)
open Go.Proofs.Tryz
open Go.RowKit
set_option linter.unusedVariables false
theorem m_push (a : Addr) (w : World) : (method 375 174 (.pointer (some a)) "Push").run Tryz.prog w = .ok (213, .pointer (some a)) w := by kernel_rfl
theorem m_pop (a : Addr) (w : World) : (method 375 174 (.pointer (some a)) "Pop").run Tryz.prog w = .ok (212, .pointer (some a)) w := by kernel_rfl
theorem meth_info (name:String) (f:Nat) (h:(prog.info? 174).map (λi=>(i.methods.find? (·.name==name)).map (λm=>(m.path,m.func)))=some (some (#[],some (f,false)))) {c:Nat} {v:Value} {w:World} (hc:w.cell? ⟨c,0,none⟩=some v) :
  (method 375 174 (.pointer (some ⟨c,0,none⟩)) name).run prog w=.ok (f,v) w:=by
 obtain⟨I,hI,h2⟩:=Option.map_eq_some_iff.1 h
 obtain⟨m,hm,h3⟩:=Option.map_eq_some_iff.1 h2
 injection h3 with h3 h4
 show (method (374+1) _ _ _).run _ _=_
 unfold method
 have hw:∀(t:TypeId) (x y:Value) (w:World),(∃s m,x=.string s∧y=.string m)→(Builtin.ssaWrapNilChk_ #[t] t #[.pointer (some ⟨c,0,none⟩),x,y]).run prog w=.ok (.pointer (some ⟨c,0,none⟩)) w:=by
  rintro t x y w ⟨s,m,rfl,rfl⟩
  rfl
 simp[run_typeInfo w hI,hm,h3,h4,follow,receiverAt,Place.get,run_underlying underlying174,loadVar,hc,Tryz.isAgg172,strVal,hw,asAddr]
theorem m_len {c : Nat} {v : Value} {w : World} (hc : w.cell? ⟨c, 0, none⟩ = some v) : (method 375 174 (.pointer (some ⟨c, 0, none⟩)) "Len").run Tryz.prog w = .ok (98, v) w := meth_info _ _ (by kernel_rfl) hc
theorem m_less {c : Nat} {v : Value} {w : World} (hc : w.cell? ⟨c, 0, none⟩ = some v) : (method 375 174 (.pointer (some ⟨c, 0, none⟩)) "Less").run Tryz.prog w = .ok (210, v) w := meth_info _ _ (by kernel_rfl) hc
theorem m_swap {c : Nat} {v : Value} {w : World} (hc : w.cell? ⟨c, 0, none⟩ = some v) : (method 375 174 (.pointer (some ⟨c, 0, none⟩)) "Swap").run Tryz.prog w = .ok (211, v) w := meth_info _ _ (by kernel_rfl) hc
theorem e_len (args:Array Value) (w:World):(callFunc 98 args).run prog w=.ok (.enter 98 args) w:=enters_of func98 (by kernel_rfl) rfl args w
theorem e_less (args:Array Value) (w:World):(callFunc 210 args).run prog w=.ok (.enter 210 args) w:=enters_of func210 (by kernel_rfl) rfl args w
theorem e_swap (args:Array Value) (w:World):(callFunc 211 args).run prog w=.ok (.enter 211 args) w:=enters_of func211 (by kernel_rfl) rfl args w
theorem e_push (args:Array Value) (w:World):(callFunc 213 args).run prog w=.ok (.enter 213 args) w:=enters_of func213 (by kernel_rfl) rfl args w
theorem e_pop (args:Array Value) (w:World):(callFunc 212 args).run prog w=.ok (.enter 212 args) w:=enters_of func212 (by kernel_rfl) rfl args w
def InB (d:List Pl):Prop:=∀p∈d,0≤p.n∧p.n<1000000000
theorem InB.perm {d e:List Pl} (h:InB d) (p:e.Perm d):InB e:=λx hx=>h x (p.mem_iff.1 hx)
theorem Qu.cellv {w:World} {c base:Nat} {v:Value} {d:List Pl} (h:Qu w c base v d):w.cell? ⟨c,0,none⟩=some v:=by rw[h.row.cell];rfl
theorem Qu.keep {w w':World} {c base:Nat} {v:Value} {d:List Pl} (h:Qu w c base v d) {S:Nat→Prop} (o:Only S w w') (h1:¬ S c) (h2:∀g,v.ownBlock=some g→¬ S g):Qu w' c base v d:=⟨o.row h.row h1,Owns.keep h.own o h2,h.low⟩
theorem Qu.still {w w':World} {c base:Nat} {v:Value} {d:List Pl} (h:Qu w c base v d) (o:Only n_ w w'):Qu w' c base v d:=h.keep o (λs=>s) (λ_ _ s=>s)
theorem Qu.rowed {w w':World} {c base:Nat} {v:Value} {d e:List Pl} (h:Qu w c base v d) (o:Only (λk=>some k=v.ownBlock) w w') (ho:OwnsPl w' base v e):Qu w' c base v e:=⟨o.row h.row h.ne,ho,h.low⟩
def Upped (w:World) (c base:Nat) (v:Value) (d:List Pl) (e:Ending) (w':World):Prop:=e=.returned (.tuple #[])∧∃d',d'.Perm d∧Heaped (fv d') d'.length∧Qu w' c base v d'∧Only (quB c v) w w'
theorem up_any {w:World} {c base:Nat} {v:Value} {d:List Pl} {j:Nat} (h:Qu w c base v d) (hj:j<d.length) (hu:UpOk (fv d) d.length j) (hb:InB d) (hl:d.length≤1000) :
  Calls prog 131 #[.iface 174 (.pointer (some ⟨c,0,none⟩)),.int .i64 j] w (Upped w c base v d):=by
 have H:=hid h
 have HU:=hid hu
 have HB:=hid hb
 have HJ:=hid hj
 clear h hu hb hj
 go_enter func131,ntmps131
 go_wp2_with fail
 go_loopw [1] (λi wr=>∃(k:Nat) (f:List Pl),i=.int .i64 k∧k<f.length∧f.Perm d∧UpOk (fv f) f.length k∧Qu wr c base v f∧Only (quB c v) w wr) (λi _=>(intOf i).toNat)
 case atStart=>exact⟨j,d,rfl,HJ.out,List.Perm.refl _,HU.out,H.out,Only.refl _ _⟩
 case round =>
  obtain⟨k,f,rfl,hk,hp,hu,hq,ho⟩:=hrel
  have mL:=m_less hq.cellv
  have eL:=e_less
  have eS:=e_swap
  have len:=hp.length_eq
  by_cases k0:k=0
  ·subst k0
   have HQ:=hid hq
   clear hq
   go_wp2_with fail
   go_end0
   exact⟨rfl,f,hp,up_stop hu (.inl rfl),HQ.out,ho⟩
  ·obtain⟨q,hqq⟩:∃q,(k-1) / 2=q:=⟨_,rfl⟩
   have hqk:q<k:=by omega
   obtain⟨x,hx⟩:∃x,f[k]? = some x:=⟨_,List.getElem?_eq_getElem hk⟩
   obtain⟨y,hy⟩:∃y,f[q]? = some y:=⟨_,List.getElem?_eq_getElem (by omega)⟩
   have LT:=hid (lt_kv ((HB.out.perm hp) x (List.mem_of_getElem? hx)) ((HB.out.perm hp) y (List.mem_of_getElem? hy)))
   have QL:=hid (qless_any hq.own hx hy (by omega))
   have HQ:=hid hq
   have t1:wrap64 (((k:Int)-1).tdiv 2)=(q:Int):=by
    rw[Int.tdiv_eq_ediv_of_nonneg (by omega)]
    unfold wrap64
    omega
   have t2:((q:Int)==(k:Int))=false:=by simp;omega
   have t3:((k:Int)-1).tdiv 2=(q:Int):=by
    rw[Int.tdiv_eq_ediv_of_nonneg (by omega)]
    omega
   have t4:((q==k):Bool)=false:=by simp;omega
   clear hq
   cases hlt:ltP x y with
   | false =>
    rw[hlt] at QL LT
    have HS:=hid (up_stop hu (.inr (by rw[hqq,fv_at hx,fv_at hy];have:=LT.out;simpa using this.symm)))
    clear hu LT hlt
    go_wp2_with fail
    (with_reducible refine (QL.out).mono ?_)
    rintro e w1 ⟨rfl,o1⟩
    have O1:=hid o1
    clear o1
    go_wp2_with fail
    go_end0
    exact⟨rfl,f,hp,HS.out,HQ.out.still O1.out,ho.idle O1.out⟩
   | true =>
    rw[hlt] at QL LT
    have HS:=hid (up_go hu (by omega) hk (by rw[hqq,fv_at hx,fv_at hy];have:=LT.out;simpa using this.symm))
    rw[hqq] at HS
    clear hu LT hlt
    go_wp2_with fail
    (with_reducible refine (QL.out).mono ?_)
    rintro e w1 ⟨rfl,o1⟩
    have O1:=hid (ho.idle o1)
    have Q1:=hid (HQ.out.still o1)
    have mS:=m_swap Q1.out.cellv
    have QS:=hid (qswap_any Q1.out.own hy hx (by omega))
    clear o1 mL
    go_wp2_with fail
    (with_reducible refine (QS.out).mono ?_)
    rintro e w2 ⟨rfl,o2,o3⟩
    have Q2:=hid (Q1.out.rowed o3 o2)
    have O2:=hid (O1.out.same (o3.more (λ_ _ q=>Or.inr q)))
    clear o2 o3
    have FV:=hid (fv_swp hy hx)
    go_wp2_with fail
    go_roundw
    case rel=>exact⟨q,swp12 f q k y x,rfl,by rw[swp_len];omega,(swp_perm hy hx).trans hp,by rw[swp_len,FV.out];exact HS.out,Q2.out,O2.out⟩
    case measure=>simp[intOf];omega
end Go.Proofs.YtfbpjobobdidiaaGreatDoor
namespace Go.Proofs.YtfbpjobobdidiaaGreatDoor
open Lib (hid)
open Go.Proofs.Tryz
set_option linter.unusedVariables false
def seats (es:List En):List Sx:=es.map En.s
structure FineE (came:Nat) (es:List En):Prop where
 rise:es.Pairwise (λa b=>a.n<b.n)
 top:∀e∈es,e.n≤came
theorem fine_nil (n:Nat):FineE n []:=⟨List.Pairwise.nil,λ_ h=>(by cases h)⟩
theorem FineE.sub {came:Nat} {es fs:List En} (h:FineE came es) (s:fs.Sublist es):FineE came fs:=⟨h.rise.sublist s,λe he=>h.top e (s.subset he)⟩
theorem FineE.add {came:Nat} {es:List En} (h:FineE came es) (s:Sx):FineE (came+1) (es++[⟨s,came+1⟩]):=by
 refine⟨?_,λe he=>?_⟩
 ·rw[List.pairwise_append]
  refine⟨h.rise,List.pairwise_singleton _ _,λa ha b hb=>?_⟩
  rw[List.mem_singleton.1 hb]
  have:=h.top a ha
  show a.n<came+1
  omega
 ·rcases List.mem_append.1 he with he | he
  ·have:=h.top e he;omega
  ·rw[List.mem_singleton.1 he];exact Nat.le_refl _
theorem has_seats (es:List En) (x:Wt):hasE es x=waitsB (seats es) x:=by
 unfold hasE waitsB seats
 rw[List.any_map]
 rfl
theorem once_of {es:List En} (h:((seats es).map Sx.w).Nodup):OnceE es:=by
 unfold OnceE
 unfold seats List.Nodup at h
 rw[List.pairwise_map,List.pairwise_map] at h
 exact h
theorem seats_filter (es:List En) (f:Sx→Bool):seats (es.filter (λe=>f e.s))=(seats es).filter f:=by
 unfold seats
 rw[List.filter_map]
 rfl
theorem seats_len (es:List En):(seats es).length=es.length:=List.length_map _
def ofE (es:List En) (t:Int):List En:=es.filter (λe=>decide (e.s.t=t))
theorem ofE_seats (es:List En) (t:Int):(ofE es t).map (λe=>e.s.w)=ofL (seats es) t:=by
 unfold ofE ofL
 rw[←seats_filter es (λs=>decide (s.t=t))]
 unfold seats
 rw[List.map_map]
 rfl
theorem sorted_of {came:Nat} {es fs:List En} {ws:List Wt} (o:OnceE es) (r:FineE came es) (s:fs.Sublist es) (hn:ws.Nodup) (hm:∀x,x∈ws↔∃e∈fs,e.s.w=x) (hs:ws.Pairwise (λx y=>¬ (turn es y<turn es x))):ws=fs.map (λe=>e.s.w):=by
 have tn:∀e∈fs,turn es e.s.w=e.n:=λe he=>turn_of o (s.subset he)
 have inj:∀x∈ws,∀y∈ws,turn es x=turn es y→x=y:=by
  intro x hx y hy k
  obtain⟨e,he,rfl⟩:=(hm x).1 hx
  obtain⟨f,hf,rfl⟩:=(hm y).1 hy
  rw[tn e he,tn f hf] at k
  have:∀{l:List En},l.Pairwise (λa b=>a.n<b.n)→e∈l→f∈l→e=f:=by
   intro l
   induction l with
   | nil=>intro _ h;cases h
   | cons z l ih =>
    intro hp h1 h2
    obtain⟨p1,p2⟩:=List.pairwise_cons.1 hp
    rcases List.mem_cons.1 h1 with q1 | q1
    ·rcases List.mem_cons.1 h2 with q2 | q2
     ·rw[q1,q2]
     ·have:=p1 f q2;rw[←q1] at this;omega
    ·rcases List.mem_cons.1 h2 with q2 | q2
     ·have:=p1 e q1;rw[←q2] at this;omega
     ·exact ih p2 q1 q2
  rw[this r.rise (s.subset he) (s.subset hf)]
 have h1:ws.Pairwise (λx y=>turn es x<turn es y):=by
  refine List.Pairwise.imp_of_mem (R:=λx y=>x≠y∧¬ (turn es y<turn es x)) ?_ (hn.and hs)
  intro x y hx hy ⟨ne,k⟩
  rcases Nat.lt_or_ge (turn es x) (turn es y) with q | q
  ·exact q
  ·exact absurd (inj x hx y hy (by omega)) ne
 have h2:(fs.map (λe=>e.s.w)).Pairwise (λx y=>turn es x<turn es y):=by
  rw[List.pairwise_map]
  refine List.Pairwise.imp_of_mem ?_ (r.rise.sublist s)
  intro a b ha hb k
  rw[tn a ha,tn b hb]
  exact k
 have uni:∀{l l':List Wt},l.Pairwise (λx y=>turn es x<turn es y)→l'.Pairwise (λx y=>turn es x<turn es y)→(∀x,x∈l↔x∈l')→l=l':=by
  intro l
  induction l with
  | nil =>
   intro l' _ _ h
   cases l' with
   | nil=>rfl
   | cons b r'=>have:=(h b).2 (by simp);cases this
  | cons a r ih =>
   intro l' hl hl' h
   cases l' with
   | nil=>have:=(h a).1 (by simp);cases this
   | cons b r' =>
    obtain⟨h1,h2⟩:=List.pairwise_cons.1 hl
    obtain⟨h3,h4⟩:=List.pairwise_cons.1 hl'
    have e:a=b:=by
     rcases List.mem_cons.1 ((h a).1 (by simp)) with q | q
     ·exact q
     ·rcases List.mem_cons.1 ((h b).2 (by simp)) with k | k
      ·exact k.symm
      ·have:=h3 a q
       have:=h1 b k
       omega
    subst e
    congr 1
    refine ih h2 h4 (λx=>⟨λhx=>?_,λhx=>?_⟩)
    ·rcases List.mem_cons.1 ((h x).1 (by simp[hx])) with q | q
     ·have:=h1 x hx;rw[q] at this;omega
     ·exact q
    ·rcases List.mem_cons.1 ((h x).2 (by simp[hx])) with q | q
     ·have:=h3 x hx;rw[q] at this;omega
     ·exact q
 refine uni h1 h2 (λx=>?_)
 rw[hm x]
 constructor
 ·rintro ⟨e,he,rfl⟩;exact List.mem_map.2 ⟨e,he,rfl⟩
 ·intro h;obtain⟨e,he,k⟩:=List.mem_map.1 h;exact⟨e,he,k⟩
end Go.Proofs.YtfbpjobobdidiaaGreatDoor
namespace Go.Proofs.YtfbpjobobdidiaaGreatDoor
open Lib (hid)
open Go.Proofs.Tryz
open Go.RowKit
set_option linter.unusedVariables false
theorem take_more {xs:List Int} {k:Nat} {x:Int} (h:xs[k]? = some x):xs.take (k+1)=xs.take k++[x]:=by
 rw[List.take_add_one,h];rfl
theorem allB_more (l:List Int) (x:Int):decide (allB (l++[x]))=(decide (allB l)&&decide (0≤x∧x<256)):=by
 rw[Bool.eq_iff_iff,Bool.and_eq_true]
 simp only[decide_eq_true_eq]
 unfold allB
 constructor
 ·intro h
  exact⟨λy hy=>h y (by simp[hy]),h x (by simp)⟩
 ·intro h y hy
  rw[List.mem_append,List.mem_singleton] at hy
  rcases hy with hy | rfl
  ·exact h.1 y hy
  ·exact h.2
theorem hasB_more (l:List Int) (x y:Int) (h0:0≤y) (h1:y<256):hasB (l++[x]) y=(hasB l y||decide (y=x)):=by
 rw[hasB_in h0 h1,hasB_in h0 h1,Bool.eq_iff_iff,Bool.or_eq_true]
 simp only[decide_eq_true_eq,List.mem_append,List.mem_singleton]
theorem hasB_out (l:List Int) (x y:Int) (hx:¬ (0≤x∧x<256)) (h0:0≤y) (h1:y<256):hasB (l++[x]) y=hasB l y:=by
 rw[hasB_more l x y h0 h1,decide_eq_false (show ¬y=x by omega),Bool.or_false]
theorem SetAt.same {w:World} {g:Nat} {p q:Int→Bool} (h:SetAt w g p) (e:∀x:Int,0≤x→x<256→p x=q x):SetAt w g q:=by
 unfold SetAt
 rw[←bits_same e]
 exact h
theorem setOf_any (v:Value) (xs:List Int) (w:World) (h:Reads w v xs) (hm:xs.length≤1000000) :
  Calls prog 136 #[v] w λe w'=>e=.returned (.tuple #[.agg (bits13 (hasB xs)),.bool (decide (allB xs))])∧Only n_ w w':=by
 obtain⟨A,cap,rfl,hc⟩:=h
 have H:=hid hc
 clear hc
 have ZS:=zero_set
 go_enter func136,ntmps136
 go_wp2_with fail
 clear ZS
 have O0:=hid ((Only.refl n_ w).alloc (.cells (bits13 λx=>false) 212))
 have S0:=hid (show SetAt (w.alloc (.cells (bits13 λx=>false) 212)) w.heap.size (λ_=>false) from Row.fresh w 212 (bits13 λx=>false))
 have GE:=hid (Nat.le_refl w.heap.size)
 revert GE S0 O0
 generalize w.alloc (.cells (bits13 λx=>false) 212)=W1
 generalize hg:w.heap.size=g
 intro O0 S0 GE
 have GW:=hid (show w.heap.size≤g from Nat.le_of_eq hg)
 clear GE hg
 go_loopw [8,3] (λi a wr=>∃k:Nat,k≤xs.length∧i=.int .i64 k∧a=.bool (decide (allB (xs.take k)))∧SetAt wr g (hasB (xs.take k))∧Only n_ w wr) (λi _ _=>xs.length-(intOf i).toNat)
 case atStart =>
  refine⟨0,Nat.zero_le _,rfl,?_,S0.out.same (λx h0 h1=>?_),O0.out⟩
  ·rw[decide_eq_true]
   intro x hx
   simp at hx
  ·rw[hasB_in h0 h1]
   simp
 case round =>
  obtain⟨k,hk,rfl,rfl,s,o⟩:=hrel
  have O:=hid o
  have S:=hid s
  clear o s
  by_cases hlt:k<xs.length
  ·obtain⟨x,hx⟩:∃x,xs[k]? = some x:=⟨_,List.getElem?_eq_getElem hlt⟩
   obtain⟨g1,o1,rfl,c1⟩:=H.out k x hx
   have d1:=O.out.cell c1 (λs=>s)
   have HX:=hid (take_more hx)
   clear hx c1 H
   have IB:=hid (λw=>isBlock_any x w)
   by_cases hb:0≤x∧x<256
   ·rw[decide_eq_true hb] at IB
    obtain⟨n,rfl⟩:=Int.eq_ofNat_of_zero_le hb.1
    have hn:n<256:=by omega
    clear hb
    go_wp2_with fail
    (with_reducible refine (IB.out _).mono ?_)
    rintro e w2 ⟨rfl,o2⟩
    have O2:=hid (O.out.same o2)
    have S2:=hid (S.out.still o2)
    have f2:w2.frozen? ⟨g,n,none⟩=false:=Row.frozen S2.out n
    have c2:=SetAt.cell S2.out hn
    clear d1 o2 O S
    go_wp2_with fail
    go_roundw
    case rel =>
     refine⟨k+1,by omega,by go_num,?_,?_,O2.out.new GW.out _ _⟩
     ·rw[HX.out,allB_more,decide_eq_true (show (0:Int)≤(n:Int)∧(n:Int)<256 by omega),Bool.and_true]
     ·have r:=Row.put S2.out n (.bool true)
      rw[bits_put] at r
      rw[HX.out]
      exact SetAt.same r (λy h0 h1=>(hasB_more _ _ y h0 h1).symm)
    case measure=>simp[intOf];omega
   ·rw[decide_eq_false hb] at IB
    have HB:=hid hb
    clear hb
    go_wp2_with fail
    (with_reducible refine (IB.out _).mono ?_)
    rintro e w2 ⟨rfl,o2⟩
    have O2:=hid (O.out.same o2)
    have S2:=hid (S.out.still o2)
    clear d1 o2 O S
    go_wp2_with fail
    go_roundw
    case rel =>
     refine⟨k+1,by omega,by go_num,?_,?_,O2.out⟩
     ·rw[HX.out,allB_more,decide_eq_false HB.out,Bool.and_false]
     ·rw[HX.out]
      exact SetAt.same S2.out (λy h0 h1=>(hasB_out _ _ y HB.out h0 h1).symm)
    case measure=>simp[intOf];omega
  ·have hge:xs.length≤k:=by omega
   have TK:=hid (List.take_of_length_le hge)
   rw[TK.out] at S
   rw[TK.out]
   generalize hq:decide (allB xs)=q
   have HQ:=hid hq
   clear hq hm
   go_wp2_with (first | (refine wpList_load_row rfl 212 _ rfl g rfl 212 (bits13 (hasB xs)) (0,0) _ S.out underlying212 rfl (size_set _) ?_) | (refine wpList_store_row rfl 212 _ _ rfl g (bits13 (hasB xs)) rfl rfl 212 (bits13 (hasB xs)) S.out (size_set _) rfl (bits_one _) ?_))
   refine bodyPost_ret (results_set2 rfl _ _ g (hasB xs) rfl (S.out.store _)) rfl ⟨?_,O.out.whole (λh=>by have:=GW.out;omega) _⟩
   rw[HQ.out]
   rfl
theorem has_q (g:Nat) (p:Int→Bool) (x:Int) (w:World) (h:SetAt w g p) :
  Calls prog 138 #[.pointer (some ⟨g,0,none⟩),.int .i64 x] w λe w'=>e=.returned (.bool (decide (0≤x∧x<256)&&p x))∧w'=w:=by
 have IB:=hid (isBlock_q x w)
 have S:=hid h
 clear h
 by_cases hb:0≤x∧x<256
 ·rw[decide_eq_true hb] at IB
  rw[decide_eq_true hb,Bool.true_and]
  obtain⟨n,rfl⟩:=Int.eq_ofNat_of_zero_le hb.1
  have hn:n<256:=by omega
  clear hb
  have c:=SetAt.cell S.out hn
  go_enter func138,ntmps138
  go_wp2_with fail
  (with_reducible refine IB.out.mono ?_)
  rintro e w2 ⟨rfl,rfl⟩
  go_wp2_with fail
  go_ret
  exact⟨rfl,rfl⟩
 ·rw[decide_eq_false hb] at IB
  rw[decide_eq_false hb,Bool.false_and]
  clear hb
  go_enter func138,ntmps138
  go_wp2_with fail
  (with_reducible refine IB.out.mono ?_)
  rintro e w2 ⟨rfl,rfl⟩
  go_wp2_with fail
  go_ret
  exact⟨rfl,rfl⟩
theorem hasB_and (xs:List Int) (x:Int):(decide (0≤x∧x<256)&&hasB xs x)=hasB xs x:=by
 cases h:hasB xs x
 ·rw[Bool.and_false]
 ·have:=hasB_yes h
  rw[decide_eq_true (show 0≤x∧x<256 from ⟨this.1,this.2.1⟩)]
  rfl
theorem hasq_set (g:Nat) (xs:List Int) (x:Int) (w:World) (h:SetAt w g (hasB xs)) :
  Calls prog 138 #[.pointer (some ⟨g,0,none⟩),.int .i64 x] w λe w'=>e=.returned (.bool (hasB xs x))∧w'=w:=by
 have:=has_q g (hasB xs) x w h
 rw[hasB_and] at this
 exact this
theorem has_set (g:Nat) (xs:List Int) (x:Int) (w:World) (h:SetAt w g (hasB xs)) :
  Calls prog 138 #[.pointer (some ⟨g,0,none⟩),.int .i64 x] w λe w'=>e=.returned (.bool (hasB xs x))∧Only n_ w w':=
 (hasq_set g xs x w h).mono (λe w' h=>⟨h.1,by rw[h.2];exact Only.refl _ _⟩)
theorem costq_set (g:Nat) (xs:List Int) (x:Int) (w:World) (h:SetAt w g (hasB xs)) :
  Calls prog 139 #[.pointer (some ⟨g,0,none⟩),.int .i64 x] w λe w'=>e=.returned (.int .i64 (costB (hasB xs) x))∧w'=w:=by
 have HS:=hid (hasq_set g xs x w h)
 clear h
 rcases costB_cases (hasB xs) x with ⟨h1,h2⟩|⟨h1,h2⟩
 all_goals
  rw[h1] at HS
  rw[h2]
  clear h1 h2
  go_enter func139,ntmps139
  go_wp2_with fail
  (with_reducible refine HS.out.mono ?_)
  rintro e w2 ⟨rfl,rfl⟩
  go_wp2_with fail
  go_ret
  exact⟨rfl,rfl⟩
theorem cost_set (g:Nat) (xs:List Int) (x:Int) (w:World) (h:SetAt w g (hasB xs)) :
  Calls prog 139 #[.pointer (some ⟨g,0,none⟩),.int .i64 x] w λe w'=>e=.returned (.int .i64 (costB (hasB xs) x))∧Only n_ w w':=
 (costq_set g xs x w h).mono (λe w' h=>⟨h.1,by rw[h.2];exact Only.refl _ _⟩)
def lows:List Int:=[1,1,1,1,0,1,1,1,1,1,1,1,1,1]
def tops:List Int:=[256,64,64,64,64,16,8,8,16,64,16,32,64,16]
structure Bd (w:World):Prop where
 lo:∀i l,lows[i]? = some l→w.cell? ⟨0,i*2,none⟩=some (.int .i64 l)
 hi:∀i g,tops[i]? = some g→w.cell? ⟨0,i*2+1,none⟩=some (.int .i64 g)
theorem Bd.still {w w':World} (h:Bd w) (o:Only n_ w w'):Bd w':=
 ⟨λi l e=>o.cell (h.lo i l e) (λs=>s),λi g e=>o.cell (h.hi i g e) (λs=>s)⟩
def Opt.list (o:Opt):List Int:=[o.b0,o.b1,o.b2,o.b3,o.b4,o.b5,o.b6,o.b7,o.b8,o.b9,o.b10,o.b11,o.b12,o.b13]
def Opt.May (o:Opt):Prop:=(∀(i:Nat) (l g x:Int),lows[i]? = some l→tops[i]? = some g→o.list[i]? = some x→l≤x∧x≤g)∧o.b2≤o.b1
theorem opt_index (o:Opt) (w:World):∀(i:Nat) (x:Int),o.list[i]? = some x→(Instr.index 134 o.val (.int .i64 (i:Int))).run prog w=.ok (.int .i64 x) w
 | 0,x,h=>by obtain rfl:=Option.some.inj h;kernel_rfl
 | 1,x,h=>by obtain rfl:=Option.some.inj h;kernel_rfl
 | 2,x,h=>by obtain rfl:=Option.some.inj h;kernel_rfl
 | 3,x,h=>by obtain rfl:=Option.some.inj h;kernel_rfl
 | 4,x,h=>by obtain rfl:=Option.some.inj h;kernel_rfl
 | 5,x,h=>by obtain rfl:=Option.some.inj h;kernel_rfl
 | 6,x,h=>by obtain rfl:=Option.some.inj h;kernel_rfl
 | 7,x,h=>by obtain rfl:=Option.some.inj h;kernel_rfl
 | 8,x,h=>by obtain rfl:=Option.some.inj h;kernel_rfl
 | 9,x,h=>by obtain rfl:=Option.some.inj h;kernel_rfl
 | 10,x,h=>by obtain rfl:=Option.some.inj h;kernel_rfl
 | 11,x,h=>by obtain rfl:=Option.some.inj h;kernel_rfl
 | 12,x,h=>by obtain rfl:=Option.some.inj h;kernel_rfl
 | 13,x,h=>by obtain rfl:=Option.some.inj h;kernel_rfl
 | i+14,x,h=>by simp[Opt.list] at h
theorem options_any (o:Opt) (c:Int) (w:World) (hb:Bd w) (hc:(o.May∧c=0)∨(¬ o.May∧c=1)) :
  Calls prog 33 #[o.val] w λe w'=>e=.returned (.int .i64 c)∧Only n_ w w':=by
 obtain⟨b0,b1,b2,b3,b4,b5,b6,b7,b8,b9,b10,b11,b12,b13⟩:=o
 have HB:=hid hb
 clear hb
 have HC:=hid hc
 clear hc
 have IX:=hid (opt_index ⟨b0,b1,b2,b3,b4,b5,b6,b7,b8,b9,b10,b11,b12,b13⟩)
 have NA:=hid (numbers_any ⟨b0,b1,b2,b3,b4,b5,b6,b7,b8,b9,b10,b11,b12,b13⟩)
 unfold Opt.val at *
 dsimp only at *
 have RB:=hid (Row.fresh w 23 (Opt.cells ⟨b0,b1,b2,b3,b4,b5,b6,b7,b8,b9,b10,b11,b12,b13⟩))
 have OB:=hid ((Only.refl n_ w).alloc (.cells (Opt.cells ⟨b0,b1,b2,b3,b4,b5,b6,b7,b8,b9,b10,b11,b12,b13⟩) 23))
 go_enter func33,ntmps33
 go_wp2_with fail
 (with_reducible refine (NA.out _).mono ?_)
 rintro e w2 ⟨rfl,o⟩
 have R2:=hid (o.still RB.out)
 have O2:=hid (OB.out.same o)
 have B2:=hid (HB.out.still O2.out)
 clear o RB OB
 go_wp2_with fail
 go_loopw [7] (λi wr=>∃k:Nat,k≤14∧i=.int .i64 k∧(∀(j:Nat) (l g x:Int),j<k→lows[j]? = some l→tops[j]? = some g→(Opt.list ⟨b0,b1,b2,b3,b4,b5,b6,b7,b8,b9,b10,b11,b12,b13⟩)[j]? = some x→l≤x∧x≤g)∧Only n_ w2 wr) (λi _=>14-(intOf i).toNat)
 case atStart=>exact⟨0,Nat.zero_le _,rfl,λj l g x h=>absurd h (Nat.not_lt_zero j),Only.refl _ _⟩
 case round =>
  obtain⟨k,hk,rfl,hv,ho⟩:=hrel
  have V:=hid hv
  have O:=hid ho
  have R:=hid (ho.still R2.out)
  have B:=hid (B2.out.still ho)
  clear hv ho
  by_cases hlt:k<14
  ·have t0:decide ((k:Int)<14)=true:=decide_eq_true (by omega)
   obtain⟨x,hx⟩:∃x,(Opt.list ⟨b0,b1,b2,b3,b4,b5,b6,b7,b8,b9,b10,b11,b12,b13⟩)[k]? = some x:=⟨_,List.getElem?_eq_getElem (show k<14 from hlt)⟩
   obtain⟨l,hl⟩:∃l,lows[k]? = some l:=⟨_,List.getElem?_eq_getElem (show k<14 from hlt)⟩
   obtain⟨g,hg⟩:∃l,tops[k]? = some l:=⟨_,List.getElem?_eq_getElem (show k<14 from hlt)⟩
   have ix:=IX.out wr k x hx
   have c0:=B.out.lo k l hl
   have c1:=B.out.hi k g hg
   have HX:=hid hx
   have HL:=hid hl
   have HG:=hid hg
   clear hx hl hg
   go_wp2_with fail
   (with_reducible refine (has_any _ _ _ _).mono ?_)
   rintro e w3 ⟨rfl,o⟩
   have O3:=hid (O.out.same o)
   clear o ix c0 c1
   cases q:inB l g x with
   | true =>
    have hq:l≤x∧x≤g:=of_decide_eq_true q
    have HQ:=hid hq
    clear q hq
    go_wp2_with fail
    go_roundw
    case rel =>
     refine⟨k+1,hlt,by go_num,λj l' g' x' hj h1 h2 h3=>?_,O3.out⟩
     rcases Nat.lt_or_ge j k with q | q
     ·exact V.out j l' g' x' q h1 h2 h3
     ·obtain rfl:j=k:=by omega
      obtain rfl:=Option.some.inj (HL.out.symm.trans h1)
      obtain rfl:=Option.some.inj (HG.out.symm.trans h2)
      obtain rfl:=Option.some.inj (HX.out.symm.trans h3)
      exact HQ.out
    case measure=>simp[intOf];omega
   | false =>
    have hq:¬ (l≤x∧x≤g):=of_decide_eq_false q
    have NM:=hid (λh:Opt.May ⟨b0,b1,b2,b3,b4,b5,b6,b7,b8,b9,b10,b11,b12,b13⟩=>hq (h.1 k l g x HL.out HG.out HX.out))
    clear q hq
    go_wp2_with fail
    go_ret
    rcases HC.out with h | h
    ·exact absurd h.1 NM.out
    ·rw[h.2]
     exact⟨rfl,O2.out.same O3.out⟩
  ·obtain rfl:k=14:=by omega
   have c1:wr.cell? ⟨w.heap.size,1,none⟩=some (.int .i64 b1):=(R.out.cell 1).trans rfl
   have c2:wr.cell? ⟨w.heap.size,2,none⟩=some (.int .i64 b2):=(R.out.cell 2).trans rfl
   by_cases q:b2≤b1
   ·have HM:=hid (show Opt.May ⟨b0,b1,b2,b3,b4,b5,b6,b7,b8,b9,b10,b11,b12,b13⟩ from ⟨λi l g x h1 h2 h3=>V.out i l g x (lt_of_get h1) h1 h2 h3,q⟩)
    go_wp2_with fail
    go_ret
    rcases HC.out with h | h
    ·rw[h.2]
     exact⟨rfl,O2.out.same O.out⟩
    ·exact absurd HM.out h.1
   ·have HM:=hid (λh:Opt.May ⟨b0,b1,b2,b3,b4,b5,b6,b7,b8,b9,b10,b11,b12,b13⟩=>q h.2)
    go_wp2_with fail
    go_ret
    rcases HC.out with h | h
    ·exact absurd h.1 HM.out
    ·rw[h.2]
     exact⟨rfl,O2.out.same O.out⟩
end Go.Proofs.YtfbpjobobdidiaaGreatDoor
namespace Go.Proofs.YtfbpjobobdidiaaGreatDoor
open Lib (hid)
open Go.Proofs.Tryz
open Go.RowKit Go.ChangeShapes Go.WideShapes Go.Deep
set_option linter.unusedVariables false
theorem cellsOpt:prog.cellsOf 23=14:=by kernel_rfl
theorem open_opt (W:World) (base:Nat) (H:Type) (enc:TypeId × Value→H) (v:Value) (d:DataW H) (p:List MemPlace) (o:Value.okWide prog W .any base 23 v) (h:DataW.Trod enc prog W 0 (λ_=>true) true 23 v d p) :
  ∃f:Opt,v=f.val∧True:=by
 simp only[Value.okWide,underlying23] at o
 obtain⟨cs,rfl,hsz,_⟩:=o
 rw[cellsOpt] at hsz
 obtain⟨fuel,hf⟩:=h
 simp only[Value.cells] at hf
 obtain⟨hl,m,hx⟩:=open_fields underlying23 (by kernel_rfl) cellsOpt hf
 obtain⟨v0,y0,e0,t0⟩:=hx 0 _ rfl
 obtain⟨a0,q0,_,w0⟩:=DataW.trod_int underlying3 t0
 obtain⟨v1,y1,e1,t1⟩:=hx 1 _ rfl
 obtain⟨a1,q1,_,w1⟩:=DataW.trod_int underlying3 t1
 obtain⟨v2,y2,e2,t2⟩:=hx 2 _ rfl
 obtain⟨a2,q2,_,w2⟩:=DataW.trod_int underlying3 t2
 obtain⟨v3,y3,e3,t3⟩:=hx 3 _ rfl
 obtain⟨a3,q3,_,w3⟩:=DataW.trod_int underlying3 t3
 obtain⟨v4,y4,e4,t4⟩:=hx 4 _ rfl
 obtain⟨a4,q4,_,w4⟩:=DataW.trod_int underlying3 t4
 obtain⟨v5,y5,e5,t5⟩:=hx 5 _ rfl
 obtain⟨a5,q5,_,w5⟩:=DataW.trod_int underlying3 t5
 obtain⟨v6,y6,e6,t6⟩:=hx 6 _ rfl
 obtain⟨a6,q6,_,w6⟩:=DataW.trod_int underlying3 t6
 obtain⟨v7,y7,e7,t7⟩:=hx 7 _ rfl
 obtain⟨a7,q7,_,w7⟩:=DataW.trod_int underlying3 t7
 obtain⟨v8,y8,e8,t8⟩:=hx 8 _ rfl
 obtain⟨a8,q8,_,w8⟩:=DataW.trod_int underlying3 t8
 obtain⟨v9,y9,e9,t9⟩:=hx 9 _ rfl
 obtain⟨a9,q9,_,w9⟩:=DataW.trod_int underlying3 t9
 obtain⟨v10,y10,e10,t10⟩:=hx 10 _ rfl
 obtain⟨a10,q10,_,w10⟩:=DataW.trod_int underlying3 t10
 obtain⟨v11,y11,e11,t11⟩:=hx 11 _ rfl
 obtain⟨a11,q11,_,w11⟩:=DataW.trod_int underlying3 t11
 obtain⟨v12,y12,e12,t12⟩:=hx 12 _ rfl
 obtain⟨a12,q12,_,w12⟩:=DataW.trod_int underlying3 t12
 obtain⟨v13,y13,e13,t13⟩:=hx 13 _ rfl
 obtain⟨a13,q13,_,w13⟩:=DataW.trod_int underlying3 t13
 simp only[List.cons.injEq,and_true] at q0 q1 q2 q3 q4 q5 q6 q7 q8 q9 q10 q11 q12 q13
 subst q0 q1 q2 q3 q4 q5 q6 q7 q8 q9 q10 q11 q12 q13
 have hcs:cs=Opt.cells ⟨a0,a1,a2,a3,a4,a5,a6,a7,a8,a9,a10,a11,a12,a13⟩:=by
  apply Array.toList_inj.1
  apply List.ext_getElem?
  intro j
  match j with
  | 0=>exact e0
  | 1=>exact e1
  | 2=>exact e2
  | 3=>exact e3
  | 4=>exact e4
  | 5=>exact e5
  | 6=>exact e6
  | 7=>exact e7
  | 8=>exact e8
  | 9=>exact e9
  | 10=>exact e10
  | 11=>exact e11
  | 12=>exact e12
  | 13=>exact e13
  | j+14=>rw[List.getElem?_eq_none (by rw[hl];show 14≤j+14;omega),List.getElem?_eq_none (by show 14≤j+14;omega)]
 subst hcs
 exact⟨⟨a0,a1,a2,a3,a4,a5,a6,a7,a8,a9,a10,a11,a12,a13⟩,rfl,trivial⟩
structure ActF where
 kind:Int
 a:Int
 b:Int
 v:Int
 w:Wt
 well:Bool
def ActF.cells (x:ActF):List Value:=[.int .i64 x.kind,.int .i64 x.a,.int .i64 x.b,.int .u64 x.v,.int .i64 x.w.r,.int .i64 x.w.p,.bool x.well]
def ActF.val (x:ActF):Value:=.agg #[.int .i64 x.kind,.int .i64 x.a,.int .i64 x.b,.int .u64 x.v,.int .i64 x.w.r,.int .i64 x.w.p,.bool x.well]
instance:Inhabited ActF:=⟨⟨0,0,0,0,⟨0,0⟩,false⟩⟩
theorem cellsAct16:prog.cellsOf 38=7:=by kernel_rfl
theorem cellsU16:prog.cellsOf 34=1:=by kernel_rfl
theorem cellsBo16:prog.cellsOf 4=1:=by kernel_rfl
structure ActF.Wf (x:ActF):Prop where
 kind:(Lit.int .i64 x.kind).wf=true
 a:(Lit.int .i64 x.a).wf=true
 b:(Lit.int .i64 x.b).wf=true
 v:(Lit.int .u64 x.v).wf=true
 w:wfW x.w
theorem open_acts16 {H:Type} {enc:TypeId × Value→H} {W:World} {fuel:Nat} {A:Option Addr} {len cap:Nat} {x:DataW H × List MemPlace} (h:DataW.trod enc prog W 0 (λ_=>true) true fuel 24 [.slice A len cap]=some x) :
  len≤maxLen∧∃xs:List ActF,xs.length=len∧Holds W A 7 ActF.cells xs∧∀a∈xs,a.Wf:=by
 refine open_rows (c:=ActF.cells) (wf:=ActF.Wf) underlying24 cellsAct16 (by decide) (λ_=>rfl) ?_ h
 intro n cs x hx
 obtain⟨ys,m,e1,e2,hlen,hyl,hf⟩:=DataW.trod_struct underlying38 hx
 have h0:=hf 0 _ rfl
 have h1:=hf 1 _ rfl
 have h2:=hf 2 _ rfl
 have h3:=hf 3 _ rfl
 have h4:=hf 4 _ rfl
 have h5:=hf 5 _ rfl
 change DataW.trod enc prog W 0 (λ_=>true) true m 3 (List.take (prog.cellsOf 3) (List.drop 0 cs))=_ at h0
 change DataW.trod enc prog W 0 (λ_=>true) true m 3 (List.take (prog.cellsOf 3) (List.drop 1 cs))=_ at h1
 change DataW.trod enc prog W 0 (λ_=>true) true m 3 (List.take (prog.cellsOf 3) (List.drop 2 cs))=_ at h2
 change DataW.trod enc prog W 0 (λ_=>true) true m 34 (List.take (prog.cellsOf 34) (List.drop 3 cs))=_ at h3
 change DataW.trod enc prog W 0 (λ_=>true) true m 36 (List.take (prog.cellsOf 36) (List.drop 4 cs))=_ at h4
 change DataW.trod enc prog W 0 (λ_=>true) true m 4 (List.take (prog.cellsOf 4) (List.drop 6 cs))=_ at h5
 rw[cellsI] at h0 h1 h2
 rw[cellsU16] at h3
 rw[cellsWt] at h4
 rw[cellsBo16] at h5
 rw[cellsAct16] at hlen
 have hy6:ys.length=6:=hyl
 match cs,hlen,ys,hy6 with
 | [c0,c1,c2,c3,c4,c5,c6],_,[y0,y1,y2,y3,y4,y5],_ =>
  obtain⟨a0,q0,_,w0⟩:=DataW.trod_int underlying3 h0
  obtain⟨a1,q1,_,w1⟩:=DataW.trod_int underlying3 h1
  obtain⟨a2,q2,_,w2⟩:=DataW.trod_int underlying3 h2
  obtain⟨a3,q3,_,w3⟩:=DataW.trod_int underlying34 h3
  obtain⟨r,p,q4,wr,wp⟩:=wt_cells h4
  obtain⟨a5,q5,_⟩:=DataW.trod_bool underlying4 h5
  simp only[List.drop_zero,List.take_succ_cons,List.take_zero,List.drop_succ_cons,List.cons.injEq,and_true] at q0 q1 q2 q3 q4 q5
  obtain⟨rfl,rfl⟩:=q4
  subst q0 q1 q2 q3 q5
  exact⟨⟨a0,a1,a2,a3,⟨r,p⟩,a5⟩,rfl,w0,w1,w2,w3,wr,wp⟩
theorem act_at16 {w w':World} {A:Option Addr} {xs:List ActF} (h:Holds w A 7 ActF.cells xs) (hb:Below w.heap.size w w') {i:Nat} {a:ActF} (hi:xs[i]? = some a) :
  ∃b o,A=some ⟨b,o,none⟩∧b<w.heap.size∧w'.cell? ⟨b,o+i*7,none⟩=some (.int .i64 a.kind)∧w'.cell? ⟨b,o+i*7+1,none⟩=some (.int .i64 a.a)∧w'.cell? ⟨b,o+i*7+2,none⟩=some (.int .i64 a.b)∧w'.cell? ⟨b,o+i*7+3,none⟩=some (.int .u64 a.v)∧w'.cell? ⟨b,o+i*7+4,none⟩=some (.int .i64 a.w.r)∧w'.cell? ⟨b,o+i*7+5,none⟩=some (.int .i64 a.w.p)∧w'.cell? ⟨b,o+i*7+6,none⟩=some (.bool a.well):=by
 obtain⟨b,o,e,hlt,hc⟩:=h.at_ hb hi
 exact⟨b,o,e,hlt,hc 0 _ rfl,hc 1 _ rfl,hc 2 _ rfl,hc 3 _ rfl,hc 4 _ rfl,hc 5 _ rfl,hc 6 _ rfl⟩
end Go.Proofs.YtfbpjobobdidiaaGreatDoor
namespace Go.Proofs.YtfbpjobobdidiaaGreatDoor
open Lib (hid)
open Go.Proofs.Tryz
open Go.RowKit Go.Maps
set_option linter.unusedVariables false
theorem Owns.row11 {α:Type} {w:World} {base:Nat} {e:TypeId} {k:Nat} {c:α→List Value} {n g cap:Nat} {xs:List α} (h:Owns w base e k c (.slice (some ⟨g,0,none⟩) n cap) xs) :
  ∃cur:Array Value,Row w g e cur∧base≤g∧n=xs.length∧n≤cap∧cap≤maxLen∧cur.size=cap*k∧cur.toList.take (n*k)=xs.flatMap c:=by
 obtain⟨h1,h2⟩:=h
 rcases h2 with ⟨h',_⟩|⟨g',cap',cur,h',hb,hg,h3,h4,h5,h6⟩
 ·simp at h'
 ·simp only[Value.slice.injEq,Option.some.injEq,Addr.mk.injEq,and_true] at h'
  obtain⟨rfl,rfl,rfl⟩:=h'
  exact⟨cur,hg,hb,rfl,h3,h4,h5,h6⟩
theorem Row.lays {t:TypeId} {g:Nat}:∀(vs:List Value) (o:Nat) (w:World) (cs:Array Value),Row w g t cs →
  ∃cs',Row (w.setCells g o vs) g t cs'∧cs'.size=cs.size∧∀j,cs'[j]? = if o≤j∧j<o+vs.length∧j<cs.size then vs[j-o]? else cs[j]?
 | [],o,w,cs,h=>⟨cs,h,rfl,λj=>by rw[if_neg (by simp;omega)]⟩
 | v::r,o,w,cs,h=>by
  obtain⟨cs',h1,h2,h3⟩:=Row.lays r (o+1) _ _ (h.put o v)
  refine⟨cs',h1,by rw[h2,Array.size_setIfInBounds],λj=>?_⟩
  rw[h3,Array.size_setIfInBounds,List.length_cons]
  by_cases q:o+1≤j∧j<o+1+r.length∧j<cs.size
  ·rw[if_pos q,if_pos (by omega),show j-o=(j-(o+1))+1 by omega,List.getElem?_cons_succ]
  ·rw[if_neg q,Array.getElem?_setIfInBounds]
   by_cases e:o=j
   ·subst e
    rw[if_pos rfl]
    by_cases l:o<cs.size
    ·rw[if_pos l,if_pos (by omega),Nat.sub_self,List.getElem?_cons_zero]
    ·rw[if_neg l,if_neg (by omega),Array.getElem?_eq_none (by omega)]
   ·rw[if_neg e,if_neg (by omega)]
theorem Only.lays {S:Nat→Prop} {g:Nat} (hg:S g) {a:World}:∀(vs:List Value) (o:Nat) (w:World),Only S a w→Only S a (w.setCells g o vs)
 | [],_,_,h=>h
 | v::r,o,w,h=>Only.lays hg r (o+1) _ (h.into hg o v)
theorem one_len (l:List Int):(l.flatMap one11).length=l.length:=by rw[one_flat_len,Nat.mul_one]
theorem one_erase (l:List Int) (k:Nat):(l.eraseIdx k).flatMap one11=(l.flatMap one11).take k++(l.drop (k+1)).flatMap one11:=by
 rw[List.eraseIdx_eq_take_drop_succ,List.flatMap_append,flat_takeL one1,Nat.mul_one]
theorem Owns.out11 {w:World} {g cap k n:Nat} {ss:List Int} (h:OwI w 0 (.slice (some ⟨g,0,none⟩) n cap) ss) (hk:k<ss.length) (z:Value) :
  OwI ((w.drew.setCells g k ((ss.drop (k+1)).flatMap one11)).setCells g (n-1) [z]) 0 (.slice (some ⟨g,0,none⟩) (n-1) cap) (ss.eraseIdx k):=by
 obtain⟨cur,r,hb,hn,h3,h4,h5,h6⟩:=Owns.row11 h
 rw[Nat.mul_one] at h5 h6
 obtain⟨c1,r1,s1,e1⟩:=Row.lays ((ss.drop (k+1)).flatMap one11) k _ _ r.drew
 obtain⟨c2,r2,s2,e2⟩:=Row.lays [z] (n-1) _ _ r1
 have e:c2.toList.take (n-1)=(ss.eraseIdx k).flatMap one11:=by
  apply List.ext_getElem?
  intro j
  rcases Nat.lt_or_ge j (n-1) with q | q
  ·rw[List.getElem?_take_of_lt q,Array.getElem?_toList,e2,if_neg (by omega),e1,one_len,List.length_drop,one_erase]
   have e6:∀j,j<n→cur[j]? = (ss.flatMap one11)[j]?:=λj hj=>by
    rw[←h6,List.getElem?_take_of_lt hj,Array.getElem?_toList]
   by_cases a:j<k
   ·rw[if_neg (by omega),List.getElem?_append_left (by rw[List.length_take,one_len];omega),List.getElem?_take_of_lt a,e6 j (by omega)]
   ·rw[if_pos ⟨by omega,by omega,by omega⟩,List.getElem?_append_right (by rw[List.length_take,one_len];omega),List.length_take,one_len]
    congr 1
    omega
  ·rw[List.getElem?_eq_none (by rw[List.length_take];omega),List.getElem?_eq_none (by rw[one_len,List.length_eraseIdx,if_pos hk];omega)]
 refine⟨?_,.inr ⟨g,cap,c2,by rw[List.length_eraseIdx,if_pos hk,hn],hb,r2,by rw[List.length_eraseIdx,if_pos hk];omega,h4,by rw[s2,s1,Nat.mul_one];exact h5,?_⟩⟩
 ·rw[one_flat_len]
 ·rw[List.length_eraseIdx,if_pos hk,←hn,Nat.mul_one];exact e
theorem clear_one (g m n c:Nat) (ty:TypeId) (w:World) (cs:Array Value) (hn:n=1) (r:Row w g 3 cs) (h:m+1≤cs.size) (zs:List Value) (hz:zs=[.int .i64 0]) :
  (Builtin.clear_ #[209] ty #[.slice (some ⟨g,m,none⟩) n c]).run prog w=.ok (.tuple #[]) (w.setCells g m zs):=by
 subst hn
 have hst:=run_storeCells_cells (P:=prog) g m zs 0 w (λj hj=>by
  have hj:j<1:=by simpa [hz] using hj
  rw[r.cell,Array.getElem?_eq_getElem (by omega)];rfl) (λj hj=>r.frozen _) (by intro v hv;rw[hz] at hv;rw[List.mem_singleton.1 hv];rfl)
 simp only[Nat.add_zero] at hst
 have zi:∀w:World,(zeroValue 3).run prog w=.ok (.int .i64 0) w:=zeroI
 have e:(Builtin.zeroCells (Value.int .i64 0).cells 1).toList=zs:=by rw[hz];kernel_rfl
 clear hz
 simp[Builtin.clear_,run_underlying underlying209,e,hst,zi]
theorem del11_any (g cap k:Nat) (ss:List Int) (w:World) (h:OwI w 0 (.slice (some ⟨g,0,none⟩) ss.length cap) ss) (hk:k<ss.length) (hl:ss.length≤1000) :
  Calls prog 160 #[.slice (some ⟨g,0,none⟩) ss.length cap,.int .i64 k,.int .i64 ((k:Int)+1)] w λe w'=>e=.returned (.slice (some ⟨g,0,none⟩) (ss.length-1) cap)∧OwI w' 0 (.slice (some ⟨g,0,none⟩) (ss.length-1) cap) (ss.eraseIdx k)∧Only (λj=>j=g) w w':=by
 have OUT:=hid (Owns.out11 h hk (.int .i64 0))
 obtain⟨cur,r,_,_,hc1,hc2,hc3,hc4⟩:=Owns.row11 h
 rw[Nat.mul_one] at hc3
 have lw:=r.lt
 have R:=hid r
 have H:=hid h
 obtain⟨i0,hi0,hz0,hz1,hz2⟩:=info_partsR info_int8
 have I0:=hid hi0
 have I2:=hid hz1
 clear hi0 hz0 hz1 hz2
 have CS:=hid hc3
 have HC:=hid hc1
 have q0:((k:Int)==(k:Int)+1)=false:=by simp;omega
 have q1:(0:Int)≤(k:Int)+1:=by omega
 have q2:(k:Int)+1≤(ss.length:Int):=by omega
 have q3:((k:Int)+1).toNat=k+1:=by omega
 have q4:(k:Int)≤(k:Int)+1:=by omega
 have q5:k≤cap:=by omega
 have q6:ss.length≤cap:=hc1
 have q7:(k:Int)≤(ss.length:Int):=by omega
 clear h r hc3 hc4
 go_enter func160,ntmps160
 go_wp2_with fail
 by_cases hcc:cap=k+1
 ·subst hcc
  have SP:=hid (show ∀j,j<((ss.drop (k+1)).flatMap one11).length→(w.drew.cell? ⟨g,0+k*1+j,none⟩).isSome=true∧w.drew.frozen? ⟨g,0+k*1+j,none⟩=false from λj hj=>by
   rw[one_len,List.length_drop] at hj
   refine⟨?_,R.out.drew.frozen _⟩
   rw[R.out.drew.cell,Array.getElem?_eq_getElem (by have:=CS.out;omega)]
   rfl)
  have N2:=hid (show ((ss.drop (k+1)).flatMap one11).length=0*1 by rw[one_len,List.length_drop];omega)
  have xl:ss.length-1=k:=by omega
  rw[xl] at OUT
  have XL:=hid xl
  clear xl
  have C2:=hid (show ∀j u,((ss.drop (k+1)).flatMap one11)[j]? = some u→w.drew.cell? ((Addr.mk g 0 none).add j)=some u from λj u hj=>by
   rw[List.drop_of_length_le (by omega)] at hj
   simp at hj)
  go_region_law (refine step_append_room rfl (.tmp 22) (.tmp 25) 209 rfl 3 i0 1 underlying209 I0.out I2.out g 0 k (k+1) (by simp[Act.eval,Act.put]) ⟨g,0,none⟩ 0 0 ((ss.drop (k+1)).flatMap one11) (by simp[Act.eval,Act.put]) N2.out C2.out (one_cells_one _) (by omega) SP.out ?_)
  have RW:=hid (Row.lays ((ss.drop (k+1)).flatMap one11) k _ _ R.out.drew)
  have OW:=hid (Only.lays (S:=λj=>j=g) rfl ((ss.drop (k+1)).flatMap one11) k _ (Only.refl (λj=>j=g) w).drew)
  obtain⟨c1,rw1,rw2,rw3⟩:=RW.out
  have R1:=hid rw1
  have RS:=hid rw2
  obtain⟨zs,hzs⟩:∃zs:List Value,zs=[.int .i64 0]:=⟨_,rfl⟩
  rw[←hzs] at OUT
  have ZS:=hid hzs
  clear rw1 rw2 rw3 RW hzs
  generalize w.drew.setCells g k ((ss.drop (k+1)).flatMap one11)=W1 at *
  have CL:=λty=>clear_one g k (ss.length-k) 1 ty W1 c1 (by omega) R1.out (by have:=CS.out;have:=RS.out;omega) zs ZS.out
  have OZ:=hid (Only.lays (S:=λj=>j=g) rfl zs k _ OW.out)
  go_wp2
  go_ret
  rw[XL.out]
  exact⟨rfl,OUT.out,OZ.out⟩
 ·have SP:=hid (show ∀j,j<((ss.drop (k+1)).flatMap one11).length→(w.drew.cell? ⟨g,0+k*1+j,none⟩).isSome=true∧w.drew.frozen? ⟨g,0+k*1+j,none⟩=false from λj hj=>by
   rw[one_len,List.length_drop] at hj
   refine⟨?_,R.out.drew.frozen _⟩
   rw[R.out.drew.cell,Array.getElem?_eq_getElem (by have:=CS.out;omega)]
   rfl)
  have N2:=hid (show ((ss.drop (k+1)).flatMap one11).length=(ss.length-(k+1))*1 by rw[one_flat_len,List.length_drop])
  have C2:=hid (show ∀j u,((ss.drop (k+1)).flatMap one11)[j]? = some u→w.drew.cell? ((Addr.mk g (k+1) none).add j)=some u from λj u hj=>by
   rw[flat_dropL one1,List.getElem?_drop] at hj
   have:=World.ownsRow.cells H.out (g:=g) rfl _ u hj
   rw[addL11] at this ⊢
   simpa using this)
  go_region_law (refine step_append_room rfl (.tmp 22) (.tmp 25) 209 rfl 3 i0 1 underlying209 I0.out I2.out g 0 k cap (by simp[Act.eval,Act.put]) ⟨g,k+1,none⟩ (ss.length-(k+1)) (cap-(k+1)) ((ss.drop (k+1)).flatMap one11) (by simp[Act.eval,Act.put]) N2.out C2.out (one_cells_one _) (by omega) SP.out ?_)
  rw[show k+(ss.length-(k+1))=ss.length-1 from by omega]
  have RW:=hid (Row.lays ((ss.drop (k+1)).flatMap one11) k _ _ R.out.drew)
  have OW:=hid (Only.lays (S:=λj=>j=g) rfl ((ss.drop (k+1)).flatMap one11) k _ (Only.refl (λj=>j=g) w).drew)
  obtain⟨c1,rw1,rw2,rw3⟩:=RW.out
  have R1:=hid rw1
  have RS:=hid rw2
  obtain⟨zs,hzs⟩:∃zs:List Value,zs=[.int .i64 0]:=⟨_,rfl⟩
  rw[←hzs] at OUT
  have ZS:=hid hzs
  clear rw1 rw2 rw3 RW hzs
  generalize w.drew.setCells g k ((ss.drop (k+1)).flatMap one11)=W1 at *
  have CL:=λty=>clear_one g (ss.length-1) (ss.length-(ss.length-1)) (cap-(ss.length-1)) ty W1 c1 (by omega) R1.out (by have:=CS.out;have:=RS.out;omega) zs ZS.out
  have OZ:=hid (Only.lays (S:=λj=>j=g) rfl zs (ss.length-1) _ OW.out)
  go_wp2
  go_ret
  exact⟨rfl,OUT.out,OZ.out⟩
end Go.Proofs.YtfbpjobobdidiaaGreatDoor
