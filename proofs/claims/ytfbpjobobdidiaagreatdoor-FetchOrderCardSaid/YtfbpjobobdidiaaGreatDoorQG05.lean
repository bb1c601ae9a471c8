/- Texts of the layers below, one behind the other. -/
import Derived.Test.YtfbpjobobdidiaaGreatDoorQG02
import Derived.Test.YtfbpjobobdidiaaGreatDoorQG00
import Derived.Test.YtfbpjobobdidiaaGreatDoorQG04
import Derived.Test.YtfbpjobobdidiaaGreatDoorQG01
import Derived.Handy
import Derived.OpenShut
import Derived.Lib.SmallJoins
import Derived.Deep.RegionLaw
import Derived.Shelf.Abstract
import Derived.Shelf.RegionOpen
import Derived.WalkKit
import Derived.OwnWalkIn
import Derived.TacticsInMore
import Derived.LoopNIn
import Derived.LoopIn
import Derived.RegionIn
import Derived.Sort.MapsRangeIn
import Derived.Lib.SlicesCompact
namespace Go.Proofs.YtfbpjobobdidiaaGreatDoor
open Lib (hid)
set_option linter.unusedVariables false
set_option maxRecDepth 100000
def seats (es:List En):List Sx:=es.map En.s
structure FineE (came:Nat) (es:List En):Prop where
 rise:es.Pairwise (λa b=>a.n<b.n)
 top:∀e∈es,e.n≤came
theorem fine_nil (n:Nat):FineE n []:=⟨List.Pairwise.nil,λ_ h=>(by cases h)⟩
theorem FineE.sub {came:Nat} {es fs:List En} (h:FineE came es) (s:fs.Sublist es):FineE came fs:=⟨h.rise.sublist s,λe he=>h.top e (s.subset he)⟩
theorem FineE.add {came:Nat} {es:List En} (h:FineE came es) (s:Sx):FineE (came+1) (es++[⟨s,came+1⟩]):=by
 refine⟨?_,λe he=>?_⟩
 ·rw[List.pairwise_append]
  refine⟨h.rise,List.pairwise_singleton _ _,λa ha b hb=>?_⟩
  rw[List.mem_singleton.1 hb]
  have:=h.top a ha
  show a.n<came+1
  omega
 ·rcases List.mem_append.1 he with he | he
  ·have:=h.top e he;omega
  ·rw[List.mem_singleton.1 he];exact Nat.le_refl _
theorem has_seats (es:List En) (x:Wt):hasE es x=waitsB (seats es) x:=by
 unfold hasE waitsB seats
 rw[List.any_map]
 rfl
theorem once_of {es:List En} (h:((seats es).map Sx.w).Nodup):OnceE es:=by
 unfold OnceE
 unfold seats List.Nodup at h
 rw[List.pairwise_map,List.pairwise_map] at h
 exact h
theorem seats_filter (es:List En) (f:Sx→Bool):seats (es.filter (λe=>f e.s))=(seats es).filter f:=by
 unfold seats
 rw[List.filter_map]
 rfl
theorem seats_len (es:List En):(seats es).length=es.length:=List.length_map _
def ofE (es:List En) (t:Int):List En:=es.filter (λe=>decide (e.s.t=t))
theorem ofE_seats (es:List En) (t:Int):(ofE es t).map (λe=>e.s.w)=ofL (seats es) t:=by
 unfold ofE ofL
 rw[←seats_filter es (λs=>decide (s.t=t))]
 unfold seats
 rw[List.map_map]
 rfl
theorem sorted_of {came:Nat} {es fs:List En} {ws:List Wt} (o:OnceE es) (r:FineE came es) (s:fs.Sublist es) (hn:ws.Nodup) (hm:∀x,x∈ws↔∃e∈fs,e.s.w=x) (hs:ws.Pairwise (λx y=>¬ (turn es y<turn es x))):ws=fs.map (λe=>e.s.w):=by
 have tn:∀e∈fs,turn es e.s.w=e.n:=λe he=>turn_of o (s.subset he)
 have inj:∀x∈ws,∀y∈ws,turn es x=turn es y→x=y:=by
  intro x hx y hy k
  obtain⟨e,he,rfl⟩:=(hm x).1 hx
  obtain⟨f,hf,rfl⟩:=(hm y).1 hy
  rw[tn e he,tn f hf] at k
  have:∀{l:List En},l.Pairwise (λa b=>a.n<b.n)→e∈l→f∈l→e=f:=by
   intro l
   induction l with
   | nil=>intro _ h;cases h
   | cons z l ih =>
    intro hp h1 h2
    obtain⟨p1,p2⟩:=List.pairwise_cons.1 hp
    rcases List.mem_cons.1 h1 with q1 | q1
    ·rcases List.mem_cons.1 h2 with q2 | q2
     ·rw[q1,q2]
     ·have:=p1 f q2;rw[←q1] at this;omega
    ·rcases List.mem_cons.1 h2 with q2 | q2
     ·have:=p1 e q1;rw[←q2] at this;omega
     ·exact ih p2 q1 q2
  rw[this r.rise (s.subset he) (s.subset hf)]
 have h1:ws.Pairwise (λx y=>turn es x<turn es y):=by
  refine List.Pairwise.imp_of_mem (R:=λx y=>x≠y∧¬ (turn es y<turn es x)) ?_ (hn.and hs)
  intro x y hx hy ⟨ne,k⟩
  rcases Nat.lt_or_ge (turn es x) (turn es y) with q | q
  ·exact q
  ·exact absurd (inj x hx y hy (by omega)) ne
 have h2:(fs.map (λe=>e.s.w)).Pairwise (λx y=>turn es x<turn es y):=by
  rw[List.pairwise_map]
  refine List.Pairwise.imp_of_mem ?_ (r.rise.sublist s)
  intro a b ha hb k
  rw[tn a ha,tn b hb]
  exact k
 have uni:∀{l l':List Wt},l.Pairwise (λx y=>turn es x<turn es y)→l'.Pairwise (λx y=>turn es x<turn es y)→(∀x,x∈l↔x∈l')→l=l':=by
  intro l
  induction l with
  | nil =>
   intro l' _ _ h
   cases l' with
   | nil=>rfl
   | cons b r'=>have:=(h b).2 (by simp);cases this
  | cons a r ih =>
   intro l' hl hl' h
   cases l' with
   | nil=>have:=(h a).1 (by simp);cases this
   | cons b r' =>
    obtain⟨h1,h2⟩:=List.pairwise_cons.1 hl
    obtain⟨h3,h4⟩:=List.pairwise_cons.1 hl'
    have e:a=b:=by
     rcases List.mem_cons.1 ((h a).1 (by simp)) with q | q
     ·exact q
     ·rcases List.mem_cons.1 ((h b).2 (by simp)) with k | k
      ·exact k.symm
      ·have:=h3 a q
       have:=h1 b k
       omega
    subst e
    congr 1
    refine ih h2 h4 (λx=>⟨λhx=>?_,λhx=>?_⟩)
    ·rcases List.mem_cons.1 ((h x).1 (by simp[hx])) with q | q
     ·have:=h1 x hx;rw[q] at this;omega
     ·exact q
    ·rcases List.mem_cons.1 ((h x).2 (by simp[hx])) with q | q
     ·have:=h3 x hx;rw[q] at this;omega
     ·exact q
 refine uni h1 h2 (λx=>?_)
 rw[hm x]
 constructor
 ·rintro ⟨e,he,rfl⟩;exact List.mem_map.2 ⟨e,he,rfl⟩
 ·intro h;obtain⟨e,he,k⟩:=List.mem_map.1 h;exact⟨e,he,k⟩
end Go.Proofs.YtfbpjobobdidiaaGreatDoor
namespace Go.Proofs.YtfbpjobobdidiaaGreatDoor
open Lib (hid)
open Go.RowKit
set_option linter.unusedVariables false
set_option maxRecDepth 100000
theorem take_more {xs:List Int} {k:Nat} {x:Int} (h:xs[k]? = some x):xs.take (k+1)=xs.take k++[x]:=by
 rw[List.take_add_one,h];rfl
theorem allB_more (l:List Int) (x:Int):decide (allB (l++[x]))=(decide (allB l)&&decide (0≤x∧x<256)):=by
 rw[Bool.eq_iff_iff,Bool.and_eq_true]
 simp only[decide_eq_true_eq]
 unfold allB
 constructor
 ·intro h
  exact⟨λy hy=>h y (by simp[hy]),h x (by simp)⟩
 ·intro h y hy
  rw[List.mem_append,List.mem_singleton] at hy
  rcases hy with hy | rfl
  ·exact h.1 y hy
  ·exact h.2
theorem hasB_more (l:List Int) (x y:Int) (h0:0≤y) (h1:y<256):hasB (l++[x]) y=(hasB l y||decide (y=x)):=by
 rw[hasB_in h0 h1,hasB_in h0 h1,Bool.eq_iff_iff,Bool.or_eq_true]
 simp only[decide_eq_true_eq,List.mem_append,List.mem_singleton]
theorem hasB_out (l:List Int) (x y:Int) (hx:¬ (0≤x∧x<256)) (h0:0≤y) (h1:y<256):hasB (l++[x]) y=hasB l y:=by
 rw[hasB_more l x y h0 h1,decide_eq_false (show ¬y=x by omega),Bool.or_false]
theorem SetAt.same {w:World} {g:Nat} {p q:Int→Bool} (h:SetAt w g p) (e:∀x:Int,0≤x→x<256→p x=q x):SetAt w g q:=by
 unfold SetAt
 rw[←bits_same e]
 exact h
set_option maxHeartbeats 2000000 in
theorem setOf_any (v:Value) (xs:List Int) (w:World) (h:Reads w v xs) (hm:xs.length≤1000000) :
  Calls Tryz.prog 136 #[v] w λe w'=>e=.returned (.tuple #[.agg (bits13 (hasB xs)),.bool (decide (allB xs))])∧Only none_ w w':=by
 obtain⟨A,cap,rfl,hc⟩:=h
 have H:=hid hc
 clear hc
 have ZS:=zero_set
 go_enter Tryz.func136,Tryz.ntmps136
 go_wp2_with fail
 clear ZS
 have O0:=hid ((Only.refl none_ w).alloc (.cells (bits13 λx=>false) 212))
 have S0:=hid (show SetAt (w.alloc (.cells (bits13 λx=>false) 212)) w.heap.size (λ_=>false) from Row.fresh w 212 (bits13 λx=>false))
 have GE:=hid (Nat.le_refl w.heap.size)
 revert GE S0 O0
 generalize w.alloc (.cells (bits13 λx=>false) 212)=W1
 generalize hg:w.heap.size=g
 intro O0 S0 GE
 have GW:=hid (show w.heap.size≤g from Nat.le_of_eq hg)
 clear GE hg
 go_loopw [8,3] (λi a wr=>∃k:Nat,k≤xs.length∧i=.int .i64 k∧a=.bool (decide (allB (xs.take k)))∧SetAt wr g (hasB (xs.take k))∧Only none_ w wr) (λi _ _=>xs.length-(intOf i).toNat)
 case atStart =>
  refine⟨0,Nat.zero_le _,rfl,?_,S0.out.same (λx h0 h1=>?_),O0.out⟩
  ·rw[decide_eq_true]
   intro x hx
   simp at hx
  ·rw[hasB_in h0 h1]
   simp
 case round =>
  obtain⟨k,hk,rfl,rfl,s,o⟩:=hrel
  have O:=hid o
  have S:=hid s
  clear o s
  by_cases hlt:k<xs.length
  ·obtain⟨x,hx⟩:∃x,xs[k]? = some x:=⟨_,List.getElem?_eq_getElem hlt⟩
   obtain⟨g1,o1,rfl,c1⟩:=H.out k x hx
   have d1:=O.out.cell c1 (λs=>s)
   have HX:=hid (take_more hx)
   clear hx c1 H
   have IB:=hid (λw=>isBlock_any x w)
   by_cases hb:0≤x∧x<256
   ·rw[decide_eq_true hb] at IB
    obtain⟨n,rfl⟩:=Int.eq_ofNat_of_zero_le hb.1
    have hn:n<256:=by omega
    clear hb
    go_wp2_with fail
    (with_reducible refine (IB.out _).mono ?_)
    rintro e w2 ⟨rfl,o2⟩
    have O2:=hid (O.out.same o2)
    have S2:=hid (S.out.still o2)
    have f2:w2.frozen? ⟨g,n,none⟩=false:=Row.frozen S2.out n
    have c2:=SetAt.cell S2.out hn
    clear d1 o2 O S
    go_wp2_with fail
    go_roundw
    case rel =>
     refine⟨k+1,by omega,by go_num,?_,?_,O2.out.new GW.out _ _⟩
     ·rw[HX.out,allB_more,decide_eq_true (show (0:Int)≤(n:Int)∧(n:Int)<256 by omega),Bool.and_true]
     ·have r:=Row.put S2.out n (.bool true)
      rw[bits_put] at r
      rw[HX.out]
      exact SetAt.same r (λy h0 h1=>(hasB_more _ _ y h0 h1).symm)
    case measure=>simp[intOf];omega
   ·rw[decide_eq_false hb] at IB
    have HB:=hid hb
    clear hb
    go_wp2_with fail
    (with_reducible refine (IB.out _).mono ?_)
    rintro e w2 ⟨rfl,o2⟩
    have O2:=hid (O.out.same o2)
    have S2:=hid (S.out.still o2)
    clear d1 o2 O S
    go_wp2_with fail
    go_roundw
    case rel =>
     refine⟨k+1,by omega,by go_num,?_,?_,O2.out⟩
     ·rw[HX.out,allB_more,decide_eq_false HB.out,Bool.and_false]
     ·rw[HX.out]
      exact SetAt.same S2.out (λy h0 h1=>(hasB_out _ _ y HB.out h0 h1).symm)
    case measure=>simp[intOf];omega
  ·have hge:xs.length≤k:=by omega
   have TK:=hid (List.take_of_length_le hge)
   rw[TK.out] at S
   rw[TK.out]
   generalize hq:decide (allB xs)=q
   have HQ:=hid hq
   clear hq hm
   go_wp2_with (first | (refine wpList_load_row rfl 212 _ rfl g rfl 212 (bits13 (hasB xs)) (0,0) _ S.out Tryz.underlying212 rfl (size_set _) ?_) | (refine wpList_store_row rfl 212 _ _ rfl g (bits13 (hasB xs)) rfl rfl 212 (bits13 (hasB xs)) S.out (size_set _) rfl (bits_one _) ?_))
   refine bodyPost_ret (results_set2 rfl _ _ g (hasB xs) rfl (S.out.store _)) rfl ⟨?_,O.out.whole (λh=>by have:=GW.out;omega) _⟩
   rw[HQ.out]
   rfl
theorem has_q (g:Nat) (p:Int→Bool) (x:Int) (w:World) (h:SetAt w g p) :
  Calls Tryz.prog 138 #[.pointer (some ⟨g,0,none⟩),.int .i64 x] w λe w'=>e=.returned (.bool (decide (0≤x∧x<256)&&p x))∧w'=w:=by
 have IB:=hid (isBlock_q x w)
 have S:=hid h
 clear h
 by_cases hb:0≤x∧x<256
 ·rw[decide_eq_true hb] at IB
  rw[decide_eq_true hb,Bool.true_and]
  obtain⟨n,rfl⟩:=Int.eq_ofNat_of_zero_le hb.1
  have hn:n<256:=by omega
  clear hb
  have c:=SetAt.cell S.out hn
  go_enter Tryz.func138,Tryz.ntmps138
  go_wp2_with fail
  (with_reducible refine IB.out.mono ?_)
  rintro e w2 ⟨rfl,rfl⟩
  go_wp2_with fail
  go_ret
  exact⟨rfl,rfl⟩
 ·rw[decide_eq_false hb] at IB
  rw[decide_eq_false hb,Bool.false_and]
  clear hb
  go_enter Tryz.func138,Tryz.ntmps138
  go_wp2_with fail
  (with_reducible refine IB.out.mono ?_)
  rintro e w2 ⟨rfl,rfl⟩
  go_wp2_with fail
  go_ret
  exact⟨rfl,rfl⟩
theorem hasB_and (xs:List Int) (x:Int):(decide (0≤x∧x<256)&&hasB xs x)=hasB xs x:=by
 cases h:hasB xs x
 ·rw[Bool.and_false]
 ·have:=hasB_yes h
  rw[decide_eq_true (show 0≤x∧x<256 from ⟨this.1,this.2.1⟩)]
  rfl
theorem hasq_set (g:Nat) (xs:List Int) (x:Int) (w:World) (h:SetAt w g (hasB xs)) :
  Calls Tryz.prog 138 #[.pointer (some ⟨g,0,none⟩),.int .i64 x] w λe w'=>e=.returned (.bool (hasB xs x))∧w'=w:=by
 have:=has_q g (hasB xs) x w h
 rw[hasB_and] at this
 exact this
theorem has_set (g:Nat) (xs:List Int) (x:Int) (w:World) (h:SetAt w g (hasB xs)) :
  Calls Tryz.prog 138 #[.pointer (some ⟨g,0,none⟩),.int .i64 x] w λe w'=>e=.returned (.bool (hasB xs x))∧Only none_ w w':=
 (hasq_set g xs x w h).mono (λe w' h=>⟨h.1,by rw[h.2];exact Only.refl _ _⟩)
theorem costq_set (g:Nat) (xs:List Int) (x:Int) (w:World) (h:SetAt w g (hasB xs)) :
  Calls Tryz.prog 139 #[.pointer (some ⟨g,0,none⟩),.int .i64 x] w λe w'=>e=.returned (.int .i64 (costB (hasB xs) x))∧w'=w:=by
 have HS:=hid (hasq_set g xs x w h)
 clear h
 rcases costB_cases (hasB xs) x with ⟨h1,h2⟩|⟨h1,h2⟩
 all_goals
  rw[h1] at HS
  rw[h2]
  clear h1 h2
  go_enter Tryz.func139,Tryz.ntmps139
  go_wp2_with fail
  (with_reducible refine HS.out.mono ?_)
  rintro e w2 ⟨rfl,rfl⟩
  go_wp2_with fail
  go_ret
  exact⟨rfl,rfl⟩
theorem cost_set (g:Nat) (xs:List Int) (x:Int) (w:World) (h:SetAt w g (hasB xs)) :
  Calls Tryz.prog 139 #[.pointer (some ⟨g,0,none⟩),.int .i64 x] w λe w'=>e=.returned (.int .i64 (costB (hasB xs) x))∧Only none_ w w':=
 (costq_set g xs x w h).mono (λe w' h=>⟨h.1,by rw[h.2];exact Only.refl _ _⟩)
def lows:List Int:=[1,1,1,1,0,1,1,1,1,1,1,1,1,1]
def tops:List Int:=[256,64,64,64,64,16,8,8,16,64,16,32,64,16]
structure Bd (w:World):Prop where
 lo:∀i l,lows[i]? = some l→w.cell? ⟨0,i*2,none⟩=some (.int .i64 l)
 hi:∀i g,tops[i]? = some g→w.cell? ⟨0,i*2+1,none⟩=some (.int .i64 g)
theorem Bd.still {w w':World} (h:Bd w) (o:Only none_ w w'):Bd w':=
 ⟨λi l e=>o.cell (h.lo i l e) (λs=>s),λi g e=>o.cell (h.hi i g e) (λs=>s)⟩
def Opt.list (o:Opt):List Int:=[o.b0,o.b1,o.b2,o.b3,o.b4,o.b5,o.b6,o.b7,o.b8,o.b9,o.b10,o.b11,o.b12,o.b13]
def Opt.May (o:Opt):Prop:=(∀(i:Nat) (l g x:Int),lows[i]? = some l→tops[i]? = some g→o.list[i]? = some x→l≤x∧x≤g)∧o.b2≤o.b1
theorem opt_index (o:Opt) (w:World):∀(i:Nat) (x:Int),o.list[i]? = some x→(Instr.index 134 o.val (.int .i64 (i:Int))).run Tryz.prog w=.ok (.int .i64 x) w
 | 0,x,h=>by obtain rfl:=Option.some.inj h;kernel_rfl
 | 1,x,h=>by obtain rfl:=Option.some.inj h;kernel_rfl
 | 2,x,h=>by obtain rfl:=Option.some.inj h;kernel_rfl
 | 3,x,h=>by obtain rfl:=Option.some.inj h;kernel_rfl
 | 4,x,h=>by obtain rfl:=Option.some.inj h;kernel_rfl
 | 5,x,h=>by obtain rfl:=Option.some.inj h;kernel_rfl
 | 6,x,h=>by obtain rfl:=Option.some.inj h;kernel_rfl
 | 7,x,h=>by obtain rfl:=Option.some.inj h;kernel_rfl
 | 8,x,h=>by obtain rfl:=Option.some.inj h;kernel_rfl
 | 9,x,h=>by obtain rfl:=Option.some.inj h;kernel_rfl
 | 10,x,h=>by obtain rfl:=Option.some.inj h;kernel_rfl
 | 11,x,h=>by obtain rfl:=Option.some.inj h;kernel_rfl
 | 12,x,h=>by obtain rfl:=Option.some.inj h;kernel_rfl
 | 13,x,h=>by obtain rfl:=Option.some.inj h;kernel_rfl
 | i+14,x,h=>by simp[Opt.list] at h
theorem options_any (o:Opt) (c:Int) (w:World) (hb:Bd w) (hc:(o.May∧c=0)∨(¬ o.May∧c=1)) :
  Calls Tryz.prog 33 #[o.val] w λe w'=>e=.returned (.int .i64 c)∧Only none_ w w':=by
 obtain⟨b0,b1,b2,b3,b4,b5,b6,b7,b8,b9,b10,b11,b12,b13⟩:=o
 have HB:=hid hb
 clear hb
 have HC:=hid hc
 clear hc
 have IX:=hid (opt_index ⟨b0,b1,b2,b3,b4,b5,b6,b7,b8,b9,b10,b11,b12,b13⟩)
 have NA:=hid (numbers_any ⟨b0,b1,b2,b3,b4,b5,b6,b7,b8,b9,b10,b11,b12,b13⟩)
 unfold Opt.val at *
 dsimp only at *
 have RB:=hid (Row.fresh w 23 (Opt.cells ⟨b0,b1,b2,b3,b4,b5,b6,b7,b8,b9,b10,b11,b12,b13⟩))
 have OB:=hid ((Only.refl none_ w).alloc (.cells (Opt.cells ⟨b0,b1,b2,b3,b4,b5,b6,b7,b8,b9,b10,b11,b12,b13⟩) 23))
 go_enter Tryz.func33,Tryz.ntmps33
 go_wp2_with fail
 (with_reducible refine (NA.out _).mono ?_)
 rintro e w2 ⟨rfl,o⟩
 have R2:=hid (o.still RB.out)
 have O2:=hid (OB.out.same o)
 have B2:=hid (HB.out.still O2.out)
 clear o RB OB
 go_wp2_with fail
 go_loopw [7] (λi wr=>∃k:Nat,k≤14∧i=.int .i64 k∧(∀(j:Nat) (l g x:Int),j<k→lows[j]? = some l→tops[j]? = some g→(Opt.list ⟨b0,b1,b2,b3,b4,b5,b6,b7,b8,b9,b10,b11,b12,b13⟩)[j]? = some x→l≤x∧x≤g)∧Only none_ w2 wr) (λi _=>14-(intOf i).toNat)
 case atStart=>exact⟨0,Nat.zero_le _,rfl,λj l g x h=>absurd h (Nat.not_lt_zero j),Only.refl _ _⟩
 case round =>
  obtain⟨k,hk,rfl,hv,ho⟩:=hrel
  have V:=hid hv
  have O:=hid ho
  have R:=hid (ho.still R2.out)
  have B:=hid (B2.out.still ho)
  clear hv ho
  by_cases hlt:k<14
  ·have t0:decide ((k:Int)<14)=true:=decide_eq_true (by omega)
   obtain⟨x,hx⟩:∃x,(Opt.list ⟨b0,b1,b2,b3,b4,b5,b6,b7,b8,b9,b10,b11,b12,b13⟩)[k]? = some x:=⟨_,List.getElem?_eq_getElem (show k<14 from hlt)⟩
   obtain⟨l,hl⟩:∃l,lows[k]? = some l:=⟨_,List.getElem?_eq_getElem (show k<14 from hlt)⟩
   obtain⟨g,hg⟩:∃l,tops[k]? = some l:=⟨_,List.getElem?_eq_getElem (show k<14 from hlt)⟩
   have ix:=IX.out wr k x hx
   have c0:=B.out.lo k l hl
   have c1:=B.out.hi k g hg
   have HX:=hid hx
   have HL:=hid hl
   have HG:=hid hg
   clear hx hl hg
   go_wp2_with fail
   (with_reducible refine (has_any _ _ _ _).mono ?_)
   rintro e w3 ⟨rfl,o⟩
   have O3:=hid (O.out.same o)
   clear o ix c0 c1
   cases q:inB l g x with
   | true =>
    have hq:l≤x∧x≤g:=of_decide_eq_true q
    have HQ:=hid hq
    clear q hq
    go_wp2_with fail
    go_roundw
    case rel =>
     refine⟨k+1,hlt,by go_num,λj l' g' x' hj h1 h2 h3=>?_,O3.out⟩
     rcases Nat.lt_or_ge j k with q | q
     ·exact V.out j l' g' x' q h1 h2 h3
     ·obtain rfl:j=k:=by omega
      obtain rfl:=Option.some.inj (HL.out.symm.trans h1)
      obtain rfl:=Option.some.inj (HG.out.symm.trans h2)
      obtain rfl:=Option.some.inj (HX.out.symm.trans h3)
      exact HQ.out
    case measure=>simp[intOf];omega
   | false =>
    have hq:¬ (l≤x∧x≤g):=of_decide_eq_false q
    have NM:=hid (λh:Opt.May ⟨b0,b1,b2,b3,b4,b5,b6,b7,b8,b9,b10,b11,b12,b13⟩=>hq (h.1 k l g x HL.out HG.out HX.out))
    clear q hq
    go_wp2_with fail
    go_ret
    rcases HC.out with h | h
    ·exact absurd h.1 NM.out
    ·rw[h.2]
     exact⟨rfl,O2.out.same O3.out⟩
  ·obtain rfl:k=14:=by omega
   have c1:wr.cell? ⟨w.heap.size,1,none⟩=some (.int .i64 b1):=(R.out.cell 1).trans rfl
   have c2:wr.cell? ⟨w.heap.size,2,none⟩=some (.int .i64 b2):=(R.out.cell 2).trans rfl
   by_cases q:b2≤b1
   ·have HM:=hid (show Opt.May ⟨b0,b1,b2,b3,b4,b5,b6,b7,b8,b9,b10,b11,b12,b13⟩ from ⟨λi l g x h1 h2 h3=>V.out i l g x (lt_of_get h1) h1 h2 h3,q⟩)
    go_wp2_with fail
    go_ret
    rcases HC.out with h | h
    ·rw[h.2]
     exact⟨rfl,O2.out.same O.out⟩
    ·exact absurd HM.out h.1
   ·have HM:=hid (λh:Opt.May ⟨b0,b1,b2,b3,b4,b5,b6,b7,b8,b9,b10,b11,b12,b13⟩=>q h.2)
    go_wp2_with fail
    go_ret
    rcases HC.out with h | h
    ·exact absurd h.1 HM.out
    ·rw[h.2]
     exact⟨rfl,O2.out.same O.out⟩
end Go.Proofs.YtfbpjobobdidiaaGreatDoor
namespace Go.Proofs.YtfbpjobobdidiaaGreatDoor
open Lib (hid)
open Go.RowKit Go.ChangeShapes Go.WideShapes Go.Deep
set_option linter.unusedVariables false
theorem cellsOpt:Tryz.prog.cellsOf 23=14:=by kernel_rfl
set_option maxRecDepth 100000 in
theorem open_opt (W:World) (base:Nat) (H:Type) (enc:TypeId × Value→H) (v:Value) (d:DataW H) (p:List MemPlace) (o:Value.okWide Tryz.prog W .any base 23 v) (h:DataW.Trod enc Tryz.prog W 0 (λ_=>true) true 23 v d p) :
  ∃f:Opt,v=f.val∧True:=by
 simp only[Value.okWide,Tryz.underlying23] at o
 obtain⟨cs,rfl,hsz,_⟩:=o
 rw[cellsOpt] at hsz
 obtain⟨fuel,hf⟩:=h
 simp only[Value.cells] at hf
 obtain⟨hl,m,hx⟩:=open_fields Tryz.underlying23 (by kernel_rfl) cellsOpt hf
 obtain⟨v0,y0,e0,t0⟩:=hx 0 _ rfl
 obtain⟨a0,q0,_,w0⟩:=DataW.trod_int Tryz.underlying3 t0
 obtain⟨v1,y1,e1,t1⟩:=hx 1 _ rfl
 obtain⟨a1,q1,_,w1⟩:=DataW.trod_int Tryz.underlying3 t1
 obtain⟨v2,y2,e2,t2⟩:=hx 2 _ rfl
 obtain⟨a2,q2,_,w2⟩:=DataW.trod_int Tryz.underlying3 t2
 obtain⟨v3,y3,e3,t3⟩:=hx 3 _ rfl
 obtain⟨a3,q3,_,w3⟩:=DataW.trod_int Tryz.underlying3 t3
 obtain⟨v4,y4,e4,t4⟩:=hx 4 _ rfl
 obtain⟨a4,q4,_,w4⟩:=DataW.trod_int Tryz.underlying3 t4
 obtain⟨v5,y5,e5,t5⟩:=hx 5 _ rfl
 obtain⟨a5,q5,_,w5⟩:=DataW.trod_int Tryz.underlying3 t5
 obtain⟨v6,y6,e6,t6⟩:=hx 6 _ rfl
 obtain⟨a6,q6,_,w6⟩:=DataW.trod_int Tryz.underlying3 t6
 obtain⟨v7,y7,e7,t7⟩:=hx 7 _ rfl
 obtain⟨a7,q7,_,w7⟩:=DataW.trod_int Tryz.underlying3 t7
 obtain⟨v8,y8,e8,t8⟩:=hx 8 _ rfl
 obtain⟨a8,q8,_,w8⟩:=DataW.trod_int Tryz.underlying3 t8
 obtain⟨v9,y9,e9,t9⟩:=hx 9 _ rfl
 obtain⟨a9,q9,_,w9⟩:=DataW.trod_int Tryz.underlying3 t9
 obtain⟨v10,y10,e10,t10⟩:=hx 10 _ rfl
 obtain⟨a10,q10,_,w10⟩:=DataW.trod_int Tryz.underlying3 t10
 obtain⟨v11,y11,e11,t11⟩:=hx 11 _ rfl
 obtain⟨a11,q11,_,w11⟩:=DataW.trod_int Tryz.underlying3 t11
 obtain⟨v12,y12,e12,t12⟩:=hx 12 _ rfl
 obtain⟨a12,q12,_,w12⟩:=DataW.trod_int Tryz.underlying3 t12
 obtain⟨v13,y13,e13,t13⟩:=hx 13 _ rfl
 obtain⟨a13,q13,_,w13⟩:=DataW.trod_int Tryz.underlying3 t13
 simp only[List.cons.injEq,and_true] at q0 q1 q2 q3 q4 q5 q6 q7 q8 q9 q10 q11 q12 q13
 subst q0 q1 q2 q3 q4 q5 q6 q7 q8 q9 q10 q11 q12 q13
 have hcs:cs=Opt.cells ⟨a0,a1,a2,a3,a4,a5,a6,a7,a8,a9,a10,a11,a12,a13⟩:=by
  apply Array.toList_inj.1
  apply List.ext_getElem?
  intro j
  match j with
  | 0=>exact e0
  | 1=>exact e1
  | 2=>exact e2
  | 3=>exact e3
  | 4=>exact e4
  | 5=>exact e5
  | 6=>exact e6
  | 7=>exact e7
  | 8=>exact e8
  | 9=>exact e9
  | 10=>exact e10
  | 11=>exact e11
  | 12=>exact e12
  | 13=>exact e13
  | j+14=>rw[List.getElem?_eq_none (by rw[hl];show 14≤j+14;omega),List.getElem?_eq_none (by show 14≤j+14;omega)]
 subst hcs
 exact⟨⟨a0,a1,a2,a3,a4,a5,a6,a7,a8,a9,a10,a11,a12,a13⟩,rfl,trivial⟩
structure ActF where
 kind:Int
 a:Int
 b:Int
 v:Int
 w:Wt
 well:Bool
def ActF.cells (x:ActF):List Value:=[.int .i64 x.kind,.int .i64 x.a,.int .i64 x.b,.int .u64 x.v,.int .i64 x.w.r,.int .i64 x.w.p,.bool x.well]
def ActF.val (x:ActF):Value:=.agg #[.int .i64 x.kind,.int .i64 x.a,.int .i64 x.b,.int .u64 x.v,.int .i64 x.w.r,.int .i64 x.w.p,.bool x.well]
instance:Inhabited ActF:=⟨⟨0,0,0,0,⟨0,0⟩,false⟩⟩
theorem cellsAct16:Tryz.prog.cellsOf 38=7:=by kernel_rfl
theorem cellsU16:Tryz.prog.cellsOf 34=1:=by kernel_rfl
theorem cellsBo16:Tryz.prog.cellsOf 4=1:=by kernel_rfl
structure ActF.Wf (x:ActF):Prop where
 kind:(Lit.int .i64 x.kind).wf=true
 a:(Lit.int .i64 x.a).wf=true
 b:(Lit.int .i64 x.b).wf=true
 v:(Lit.int .u64 x.v).wf=true
 w:wfW x.w
set_option maxRecDepth 100000 in
theorem open_acts16 {H:Type} {enc:TypeId × Value→H} {W:World} {fuel:Nat} {A:Option Addr} {len cap:Nat} {x:DataW H × List MemPlace} (h:DataW.trod enc Tryz.prog W 0 (λ_=>true) true fuel 24 [.slice A len cap]=some x) :
  len≤maxLen∧∃xs:List ActF,xs.length=len∧Holds W A 7 ActF.cells xs∧∀a∈xs,a.Wf:=by
 refine open_rows (c:=ActF.cells) (wf:=ActF.Wf) Tryz.underlying24 cellsAct16 (by decide) (λ_=>rfl) ?_ h
 intro n cs x hx
 obtain⟨ys,m,e1,e2,hlen,hyl,hf⟩:=DataW.trod_struct Tryz.underlying38 hx
 have h0:=hf 0 _ rfl
 have h1:=hf 1 _ rfl
 have h2:=hf 2 _ rfl
 have h3:=hf 3 _ rfl
 have h4:=hf 4 _ rfl
 have h5:=hf 5 _ rfl
 change DataW.trod enc Tryz.prog W 0 (λ_=>true) true m 3 (List.take (Tryz.prog.cellsOf 3) (List.drop 0 cs))=_ at h0
 change DataW.trod enc Tryz.prog W 0 (λ_=>true) true m 3 (List.take (Tryz.prog.cellsOf 3) (List.drop 1 cs))=_ at h1
 change DataW.trod enc Tryz.prog W 0 (λ_=>true) true m 3 (List.take (Tryz.prog.cellsOf 3) (List.drop 2 cs))=_ at h2
 change DataW.trod enc Tryz.prog W 0 (λ_=>true) true m 34 (List.take (Tryz.prog.cellsOf 34) (List.drop 3 cs))=_ at h3
 change DataW.trod enc Tryz.prog W 0 (λ_=>true) true m 36 (List.take (Tryz.prog.cellsOf 36) (List.drop 4 cs))=_ at h4
 change DataW.trod enc Tryz.prog W 0 (λ_=>true) true m 4 (List.take (Tryz.prog.cellsOf 4) (List.drop 6 cs))=_ at h5
 rw[cellsI] at h0 h1 h2
 rw[cellsU16] at h3
 rw[cellsWt] at h4
 rw[cellsBo16] at h5
 rw[cellsAct16] at hlen
 have hy6:ys.length=6:=hyl
 match cs,hlen,ys,hy6 with
 | [c0,c1,c2,c3,c4,c5,c6],_,[y0,y1,y2,y3,y4,y5],_ =>
  obtain⟨a0,q0,_,w0⟩:=DataW.trod_int Tryz.underlying3 h0
  obtain⟨a1,q1,_,w1⟩:=DataW.trod_int Tryz.underlying3 h1
  obtain⟨a2,q2,_,w2⟩:=DataW.trod_int Tryz.underlying3 h2
  obtain⟨a3,q3,_,w3⟩:=DataW.trod_int Tryz.underlying34 h3
  obtain⟨r,p,q4,wr,wp⟩:=wt_cells h4
  obtain⟨a5,q5,_⟩:=DataW.trod_bool Tryz.underlying4 h5
  simp only[List.drop_zero,List.take_succ_cons,List.take_zero,List.drop_succ_cons,List.cons.injEq,and_true] at q0 q1 q2 q3 q4 q5
  obtain⟨rfl,rfl⟩:=q4
  subst q0 q1 q2 q3 q5
  exact⟨⟨a0,a1,a2,a3,⟨r,p⟩,a5⟩,rfl,w0,w1,w2,w3,wr,wp⟩
theorem act_at16 {w w':World} {A:Option Addr} {xs:List ActF} (h:Holds w A 7 ActF.cells xs) (hb:Below w.heap.size w w') {i:Nat} {a:ActF} (hi:xs[i]? = some a) :
  ∃b o,A=some ⟨b,o,none⟩∧b<w.heap.size∧w'.cell? ⟨b,o+i*7,none⟩=some (.int .i64 a.kind)∧w'.cell? ⟨b,o+i*7+1,none⟩=some (.int .i64 a.a)∧w'.cell? ⟨b,o+i*7+2,none⟩=some (.int .i64 a.b)∧w'.cell? ⟨b,o+i*7+3,none⟩=some (.int .u64 a.v)∧w'.cell? ⟨b,o+i*7+4,none⟩=some (.int .i64 a.w.r)∧w'.cell? ⟨b,o+i*7+5,none⟩=some (.int .i64 a.w.p)∧w'.cell? ⟨b,o+i*7+6,none⟩=some (.bool a.well):=by
 obtain⟨b,o,e,hlt,hc⟩:=h.at_ hb hi
 exact⟨b,o,e,hlt,hc 0 _ rfl,hc 1 _ rfl,hc 2 _ rfl,hc 3 _ rfl,hc 4 _ rfl,hc 5 _ rfl,hc 6 _ rfl⟩
end Go.Proofs.YtfbpjobobdidiaaGreatDoor
namespace Go.Proofs.YtfbpjobobdidiaaGreatDoor
open Lib (hid)
open Go.RowKit Go.Maps
set_option linter.unusedVariables false
set_option maxRecDepth 100000
theorem Owns.row11 {α:Type} {w:World} {base:Nat} {e:TypeId} {k:Nat} {c:α→List Value} {n g cap:Nat} {xs:List α} (h:Owns w base e k c (.slice (some ⟨g,0,none⟩) n cap) xs) :
  ∃cur:Array Value,Row w g e cur∧base≤g∧n=xs.length∧n≤cap∧cap≤maxLen∧cur.size=cap*k∧cur.toList.take (n*k)=xs.flatMap c:=by
 obtain⟨h1,h2⟩:=h
 rcases h2 with ⟨h',_⟩|⟨g',cap',cur,h',hb,hg,h3,h4,h5,h6⟩
 ·simp at h'
 ·simp only[Value.slice.injEq,Option.some.injEq,Addr.mk.injEq,and_true] at h'
  obtain⟨rfl,rfl,rfl⟩:=h'
  exact⟨cur,hg,hb,rfl,h3,h4,h5,h6⟩
theorem Row.lays {t:TypeId} {g:Nat}:∀(vs:List Value) (o:Nat) (w:World) (cs:Array Value),Row w g t cs →
  ∃cs',Row (w.setCells g o vs) g t cs'∧cs'.size=cs.size∧∀j,cs'[j]? = if o≤j∧j<o+vs.length∧j<cs.size then vs[j-o]? else cs[j]?
 | [],o,w,cs,h=>⟨cs,h,rfl,λj=>by rw[if_neg (by simp;omega)]⟩
 | v::r,o,w,cs,h=>by
  obtain⟨cs',h1,h2,h3⟩:=Row.lays r (o+1) _ _ (h.put o v)
  refine⟨cs',h1,by rw[h2,Array.size_setIfInBounds],λj=>?_⟩
  rw[h3,Array.size_setIfInBounds,List.length_cons]
  by_cases q:o+1≤j∧j<o+1+r.length∧j<cs.size
  ·rw[if_pos q,if_pos (by omega),show j-o=(j-(o+1))+1 by omega,List.getElem?_cons_succ]
  ·rw[if_neg q,Array.getElem?_setIfInBounds]
   by_cases e:o=j
   ·subst e
    rw[if_pos rfl]
    by_cases l:o<cs.size
    ·rw[if_pos l,if_pos (by omega),Nat.sub_self,List.getElem?_cons_zero]
    ·rw[if_neg l,if_neg (by omega),Array.getElem?_eq_none (by omega)]
   ·rw[if_neg e,if_neg (by omega)]
theorem Only.lays {S:Nat→Prop} {g:Nat} (hg:S g) {a:World}:∀(vs:List Value) (o:Nat) (w:World),Only S a w→Only S a (w.setCells g o vs)
 | [],_,_,h=>h
 | v::r,o,w,h=>Only.lays hg r (o+1) _ (h.into hg o v)
theorem one_len (l:List Int):(l.flatMap one11).length=l.length:=by rw[one_flat_len,Nat.mul_one]
theorem one_erase (l:List Int) (k:Nat):(l.eraseIdx k).flatMap one11=(l.flatMap one11).take k++(l.drop (k+1)).flatMap one11:=by
 rw[List.eraseIdx_eq_take_drop_succ,List.flatMap_append,flat_takeL one1,Nat.mul_one]
theorem Owns.out11 {w:World} {g cap k n:Nat} {ss:List Int} (h:OwnsInts w 0 (.slice (some ⟨g,0,none⟩) n cap) ss) (hk:k<ss.length) (z:Value) :
  OwnsInts ((w.drew.setCells g k ((ss.drop (k+1)).flatMap one11)).setCells g (n-1) [z]) 0 (.slice (some ⟨g,0,none⟩) (n-1) cap) (ss.eraseIdx k):=by
 obtain⟨cur,r,hb,hn,h3,h4,h5,h6⟩:=Owns.row11 h
 rw[Nat.mul_one] at h5 h6
 obtain⟨c1,r1,s1,e1⟩:=Row.lays ((ss.drop (k+1)).flatMap one11) k _ _ r.drew
 obtain⟨c2,r2,s2,e2⟩:=Row.lays [z] (n-1) _ _ r1
 have e:c2.toList.take (n-1)=(ss.eraseIdx k).flatMap one11:=by
  apply List.ext_getElem?
  intro j
  rcases Nat.lt_or_ge j (n-1) with q | q
  ·rw[List.getElem?_take_of_lt q,Array.getElem?_toList,e2,if_neg (by omega),e1,one_len,List.length_drop,one_erase]
   have e6:∀j,j<n→cur[j]? = (ss.flatMap one11)[j]?:=λj hj=>by
    rw[←h6,List.getElem?_take_of_lt hj,Array.getElem?_toList]
   by_cases a:j<k
   ·rw[if_neg (by omega),List.getElem?_append_left (by rw[List.length_take,one_len];omega),List.getElem?_take_of_lt a,e6 j (by omega)]
   ·rw[if_pos ⟨by omega,by omega,by omega⟩,List.getElem?_append_right (by rw[List.length_take,one_len];omega),List.length_take,one_len]
    congr 1
    omega
  ·rw[List.getElem?_eq_none (by rw[List.length_take];omega),List.getElem?_eq_none (by rw[one_len,List.length_eraseIdx,if_pos hk];omega)]
 refine⟨?_,.inr ⟨g,cap,c2,by rw[List.length_eraseIdx,if_pos hk,hn],hb,r2,by rw[List.length_eraseIdx,if_pos hk];omega,h4,by rw[s2,s1,Nat.mul_one];exact h5,?_⟩⟩
 ·rw[one_flat_len]
 ·rw[List.length_eraseIdx,if_pos hk,←hn,Nat.mul_one];exact e
theorem clear_one (g m n c:Nat) (ty:TypeId) (w:World) (cs:Array Value) (hn:n=1) (r:Row w g 3 cs) (h:m+1≤cs.size) (zs:List Value) (hz:zs=[.int .i64 0]) :
  (Builtin.clear_ #[209] ty #[.slice (some ⟨g,m,none⟩) n c]).run Tryz.prog w=.ok (.tuple #[]) (w.setCells g m zs):=by
 subst hn
 have hst:=run_storeCells_cells (P:=Tryz.prog) g m zs 0 w (λj hj=>by
  have hj:j<1:=by simpa [hz] using hj
  rw[r.cell,Array.getElem?_eq_getElem (by omega)];rfl) (λj hj=>r.frozen _) (by intro v hv;rw[hz] at hv;rw[List.mem_singleton.1 hv];rfl)
 simp only[Nat.add_zero] at hst
 have zi:∀w:World,(zeroValue 3).run Tryz.prog w=.ok (.int .i64 0) w:=zeroI
 have e:(Builtin.zeroCells (Value.int .i64 0).cells 1).toList=zs:=by rw[hz];kernel_rfl
 clear hz
 simp[Builtin.clear_,run_underlying Tryz.underlying209,e,hst,zi]
set_option maxRecDepth 100000 in
set_option maxHeartbeats 4000000 in
theorem del11_any (g cap k:Nat) (ss:List Int) (w:World) (h:OwnsInts w 0 (.slice (some ⟨g,0,none⟩) ss.length cap) ss) (hk:k<ss.length) (hl:ss.length≤1000) :
  Calls Tryz.prog 160 #[.slice (some ⟨g,0,none⟩) ss.length cap,.int .i64 k,.int .i64 ((k:Int)+1)] w λe w'=>e=.returned (.slice (some ⟨g,0,none⟩) (ss.length-1) cap)∧OwnsInts w' 0 (.slice (some ⟨g,0,none⟩) (ss.length-1) cap) (ss.eraseIdx k)∧Only (λj=>j=g) w w':=by
 have OUT:=hid (Owns.out11 h hk (.int .i64 0))
 obtain⟨cur,r,_,_,hc1,hc2,hc3,hc4⟩:=Owns.row11 h
 rw[Nat.mul_one] at hc3
 have lw:=r.lt
 have R:=hid r
 have H:=hid h
 obtain⟨i0,hi0,hz0,hz1,hz2⟩:=info_partsR info_int8
 have I0:=hid hi0
 have I2:=hid hz1
 clear hi0 hz0 hz1 hz2
 have CS:=hid hc3
 have HC:=hid hc1
 have q0:((k:Int)==(k:Int)+1)=false:=by simp;omega
 have q1:(0:Int)≤(k:Int)+1:=by omega
 have q2:(k:Int)+1≤(ss.length:Int):=by omega
 have q3:((k:Int)+1).toNat=k+1:=by omega
 have q4:(k:Int)≤(k:Int)+1:=by omega
 have q5:k≤cap:=by omega
 have q6:ss.length≤cap:=hc1
 have q7:(k:Int)≤(ss.length:Int):=by omega
 clear h r hc3 hc4
 go_enter Tryz.func160,Tryz.ntmps160
 go_wp2_with fail
 by_cases hcc:cap=k+1
 ·subst hcc
  have SP:=hid (show ∀j,j<((ss.drop (k+1)).flatMap one11).length→(w.drew.cell? ⟨g,0+k*1+j,none⟩).isSome=true∧w.drew.frozen? ⟨g,0+k*1+j,none⟩=false from λj hj=>by
   rw[one_len,List.length_drop] at hj
   refine⟨?_,R.out.drew.frozen _⟩
   rw[R.out.drew.cell,Array.getElem?_eq_getElem (by have:=CS.out;omega)]
   rfl)
  have N2:=hid (show ((ss.drop (k+1)).flatMap one11).length=0*1 by rw[one_len,List.length_drop];omega)
  have xl:ss.length-1=k:=by omega
  rw[xl] at OUT
  have XL:=hid xl
  clear xl
  have C2:=hid (show ∀j u,((ss.drop (k+1)).flatMap one11)[j]? = some u→w.drew.cell? ((Addr.mk g 0 none).add j)=some u from λj u hj=>by
   rw[List.drop_of_length_le (by omega)] at hj
   simp at hj)
  go_region_law (refine step_append_room rfl (.tmp 22) (.tmp 25) 209 rfl 3 i0 1 Tryz.underlying209 I0.out I2.out g 0 k (k+1) (by simp[Act.eval,Act.put]) ⟨g,0,none⟩ 0 0 ((ss.drop (k+1)).flatMap one11) (by simp[Act.eval,Act.put]) N2.out C2.out (one_cells_one _) (by omega) SP.out ?_)
  have RW:=hid (Row.lays ((ss.drop (k+1)).flatMap one11) k _ _ R.out.drew)
  have OW:=hid (Only.lays (S:=λj=>j=g) rfl ((ss.drop (k+1)).flatMap one11) k _ (Only.refl (λj=>j=g) w).drew)
  obtain⟨c1,rw1,rw2,rw3⟩:=RW.out
  have R1:=hid rw1
  have RS:=hid rw2
  obtain⟨zs,hzs⟩:∃zs:List Value,zs=[.int .i64 0]:=⟨_,rfl⟩
  rw[←hzs] at OUT
  have ZS:=hid hzs
  clear rw1 rw2 rw3 RW hzs
  generalize w.drew.setCells g k ((ss.drop (k+1)).flatMap one11)=W1 at *
  have CL:=λty=>clear_one g k (ss.length-k) 1 ty W1 c1 (by omega) R1.out (by have:=CS.out;have:=RS.out;omega) zs ZS.out
  have OZ:=hid (Only.lays (S:=λj=>j=g) rfl zs k _ OW.out)
  go_wp2
  go_ret
  rw[XL.out]
  exact⟨rfl,OUT.out,OZ.out⟩
 ·have SP:=hid (show ∀j,j<((ss.drop (k+1)).flatMap one11).length→(w.drew.cell? ⟨g,0+k*1+j,none⟩).isSome=true∧w.drew.frozen? ⟨g,0+k*1+j,none⟩=false from λj hj=>by
   rw[one_len,List.length_drop] at hj
   refine⟨?_,R.out.drew.frozen _⟩
   rw[R.out.drew.cell,Array.getElem?_eq_getElem (by have:=CS.out;omega)]
   rfl)
  have N2:=hid (show ((ss.drop (k+1)).flatMap one11).length=(ss.length-(k+1))*1 by rw[one_flat_len,List.length_drop])
  have C2:=hid (show ∀j u,((ss.drop (k+1)).flatMap one11)[j]? = some u→w.drew.cell? ((Addr.mk g (k+1) none).add j)=some u from λj u hj=>by
   rw[flat_dropL one1,List.getElem?_drop] at hj
   have:=World.ownsRow.cells H.out (g:=g) rfl _ u hj
   rw[addL11] at this ⊢
   simpa using this)
  go_region_law (refine step_append_room rfl (.tmp 22) (.tmp 25) 209 rfl 3 i0 1 Tryz.underlying209 I0.out I2.out g 0 k cap (by simp[Act.eval,Act.put]) ⟨g,k+1,none⟩ (ss.length-(k+1)) (cap-(k+1)) ((ss.drop (k+1)).flatMap one11) (by simp[Act.eval,Act.put]) N2.out C2.out (one_cells_one _) (by omega) SP.out ?_)
  rw[show k+(ss.length-(k+1))=ss.length-1 from by omega]
  have RW:=hid (Row.lays ((ss.drop (k+1)).flatMap one11) k _ _ R.out.drew)
  have OW:=hid (Only.lays (S:=λj=>j=g) rfl ((ss.drop (k+1)).flatMap one11) k _ (Only.refl (λj=>j=g) w).drew)
  obtain⟨c1,rw1,rw2,rw3⟩:=RW.out
  have R1:=hid rw1
  have RS:=hid rw2
  obtain⟨zs,hzs⟩:∃zs:List Value,zs=[.int .i64 0]:=⟨_,rfl⟩
  rw[←hzs] at OUT
  have ZS:=hid hzs
  clear rw1 rw2 rw3 RW hzs
  generalize w.drew.setCells g k ((ss.drop (k+1)).flatMap one11)=W1 at *
  have CL:=λty=>clear_one g (ss.length-1) (ss.length-(ss.length-1)) (cap-(ss.length-1)) ty W1 c1 (by omega) R1.out (by have:=CS.out;have:=RS.out;omega) zs ZS.out
  have OZ:=hid (Only.lays (S:=λj=>j=g) rfl zs (ss.length-1) _ OW.out)
  go_wp2
  go_ret
  exact⟨rfl,OUT.out,OZ.out⟩
end Go.Proofs.YtfbpjobobdidiaaGreatDoor
namespace Go.Proofs.YtfbpjobobdidiaaGreatDoor
open Lib (hid)
open Go.RowKit Go.Maps Go.Shelf
set_option linter.unusedVariables false
set_option maxRecDepth 100000
attribute [local go_sem] Oper.semAt_some
def Got14 (es:List En) (left:Lit→Bool) (xs:List En):Prop:=xs.Nodup∧∀e,e∈xs↔e∈es∧left (klit e.s.w)=false
theorem Got14.start {D:DataW Unit} {es:List En} (h:Reads14 D es):Got14 es (Maps.has D) []:=by
 refine⟨List.Pairwise.nil,λe=>⟨λq=>(by cases q),λ⟨he,q⟩=>?_⟩⟩
 rw[h.has _ (h.wf e he),hasE_iff.2 ⟨e,he,rfl⟩] at q
 cases q
abbrev strike14 (left:Lit→Bool) (x:Wt):Lit→Bool:=λz=>left z&&!z.sameKey (klit x)
theorem Got14.step {es xs:List En} {left:Lit→Bool} {e:En} (h:Got14 es left xs) (hn:OnceE es) (hw:∀e∈es,wfW e.s.w) (he:e∈es) (hl:left (klit e.s.w)=true):Got14 es (strike14 left e.s.w) (xs++[e]):=by
 refine⟨?_,λa=>?_⟩
 ·unfold List.Nodup
  rw[List.pairwise_append]
  refine⟨h.1,List.pairwise_singleton _ _,λa ha b hb q=>?_⟩
  have:b=e:=by simpa using hb
  subst this
  subst q
  have:=((h.2 _).1 ha).2
  rw[hl] at this
  cases this
 ·rw[List.mem_append,h.2 a,List.mem_singleton]
  constructor
  ·rintro (⟨ha,q⟩|rfl)
   ·exact⟨ha,by show (left _&&_)=false;rw[q];rfl⟩
   ·exact⟨he,by show (left _&&!_)=false;rw[WideAt.sameKey_self (klit_key _)];simp⟩
  ·rintro ⟨ha,q⟩
   by_cases k:a.s.w=e.s.w
   ·exact .inr (hn.inj ha he k)
   ·have q2:(left (klit a.s.w)&&!(klit a.s.w).sameKey (klit e.s.w))=false:=q
    rw[klit_same (hw a ha) (hw e he),decide_eq_false k] at q2
    simp at q2
    exact .inl ⟨ha,q2⟩
theorem Got14.over {es xs:List En} {left:Lit→Bool} (h:Got14 es left xs) (hn:OnceE es) (hl:∀kl,left kl=false):xs.Perm es:=by
 have m:∀e,e∈xs↔e∈es:=λe=>by rw[h.2 e,hl];simp
 exact (List.perm_ext_iff_of_nodup h.1 hn.nodup).2 m
theorem Got14.ok {es xs:List En} {left:Lit→Bool} {e:En} (h:Got14 es left xs) (he:e∈es) (hl:left (klit e.s.w)=true):(xs++[e]).Nodup∧∀y∈xs++[e],y∈es:=by
 refine⟨?_,λy hy=>?_⟩
 ·rw[List.nodup_append]
  refine⟨h.1,by simp,λa ha b hb q=>?_⟩
  rw[List.mem_singleton.1 hb] at q
  subst q
  have:=((h.2 _).1 ha).2
  rw[hl] at this;cases this
 ·rcases List.mem_append.1 hy with hy | hy
  ·exact ((h.2 y).1 hy).1
  ·rw[List.mem_singleton.1 hy];exact he
def HasOf (es:List En) (D:DataW Unit):Prop:=∀kl,Maps.has D kl=true→∃e∈es,kl=klit e.s.w∧∀z,D.atKey kl z=stDat e.s.t e.n
def Takes (b:Nat) (x:En) (W W':World):Prop:=∀r n D left cnt,left (klit x.s.w)=false→W.ranges Tryz.prog 36 stElem b r n D left cnt →
 ∃D' cnt',W'.ranges Tryz.prog 36 stElem b r n D' left cnt'∧cnt'≤cnt∧(D'=D∨D'=D.del (klit x.s.w))
abbrev encE (x:En):Array Value:=#[.agg #[.int .i64 x.s.w.r,.int .i64 x.s.w.p],.agg #[.int .i64 x.s.t,.int .i64 x.n]]
theorem HasOf.start {w:World} {b n:Nat} {D:DataW Unit} {es:List En} (o:w.ownsMap Tryz.prog 36 stElem b n D) (h:Reads14 D es):HasOf es D:=by
 intro kl hk
 obtain⟨x,wx,rfl⟩:=key_wt o kl hk
 rw[h.has x wx] at hk
 obtain⟨e,he,rfl⟩:=hasE_iff.1 hk
 exact⟨e,he,rfl,h.at_ e he⟩
theorem HasOf.next {es:List En} {D D':DataW Unit} {x:En} (h:HasOf es D) (hw:∀e∈es,wfW e.s.w) (hx:x∈es) (k:D'=D∨D'=D.del (klit x.s.w)):HasOf es D':=by
 rcases k with rfl | rfl
 ·exact h
 ·intro kl hk
  by_cases e:kl=klit x.s.w
  ·subst e;rw[has_del_same] at hk;cases hk
  ·rw[has_del_other e] at hk
   obtain⟨f,hf,rfl,k2⟩:=h kl hk
   exact⟨f,hf,rfl,λz=>by rw[atKey_del_other e];exact k2 z⟩
theorem has_true_of_atKey' {D:DataW Unit} {kl:Lit} {y:DataW Unit} (h:∀zd,D.atKey kl zd=y):Maps.has D kl=true:=has_true_of_atKey h
theorem all_any (p:Nat) (w:World) :
  Calls Tryz.prog 117 #[.pointer (some ⟨p,0,none⟩)] w λe w' =>
   e=.returned (.func (.func 149) #[] #[.pointer (some ⟨w.heap.size,0,none⟩)])∧w'=w.alloc (.cells #[.pointer (some ⟨p,0,none⟩)] 93):=by
 go_enter Tryz.func117,Tryz.ntmps117
 go_wp2
 go_ret
 exact⟨rfl,rfl⟩
set_option maxRecDepth 100000 in
set_option maxHeartbeats 2000000 in
theorem iter14 (m:Nat) (hm:1≤m) (l Bs b nn p:Nat) (D0:DataW Unit) (es:List En) (room came:Int) (hr0:Reads14 D0 es) (hon:OnceE es) (J:List En→World→Prop)
  (hY:∀pre x W,J pre W→((pre++[x]).Nodup∧∀y∈pre++[x],y∈es)→YieldAt Fence.wide (m-1) Tryz.prog l (encE x) W λe W'=>e=.returned (.bool true)∧J (pre++[x]) W'∧Takes b x W W')
  (W:World) (hJ:AbidesFrom W.heap.size J) (hBs:W.cell? ⟨Bs,0,none⟩=some (.pointer (some ⟨p,0,none⟩))) (hR:Row W p 150 #[.int .i64 room,.map (some b),.int .i64 came]) (hown:W.ownsMap Tryz.prog 36 stElem b nn D0) (h0:J [] W) :
  CallsIn Fence.wide m Tryz.prog 149 #[.func (.yield l) #[] #[],.pointer (some ⟨Bs,0,none⟩)] W λe W'=>(∃v,e=.returned v)∧∃xs,xs.Perm es∧J xs W':=by
 have c1:W.cell? ⟨p,1,none⟩=some (.map (some b)):=by rw[hR.cell];rfl
 have HO:=hid (HasOf.start hown hr0)
 have HR:=hid hr0
 have HN:=hid hon
 clear hr0 hon hR
 refine callsIn_of_wp Tryz.func149 rfl trivial ?_ rfl
 simp only[Tryz.ntmps149,List.size_toArray,List.length_cons,List.length_nil,Nat.reduceAdd,Nat.reduceSub,Array.replicate_succ,Array.replicate_zero,List.push_toArray,List.append_toArray,List.nil_append,List.cons_append]
 gi_wp2_with (first
  | (gi_at_range;refine wpListIn_range_own _ rfl _ 148 rfl 36 193 lawW Tryz.underlying148 _ b nn _ rfl hown ?_;intro w0 hrg0 hg0 hs0)
  | gi_in)
 have J0:=hJ [] W w0 none h0 hg0 (λr e=>by cases e)
 clear h0
 go_frame
 gi_loopw [3] (λ_ wr=>∃(left:Lit→Bool) (cnt:Nat) (xs:List En) (D:DataW Unit),wr.ranges Tryz.prog 36 stElem b W.heap.size nn D left cnt∧Got14 es left xs∧HasOf es D∧J xs wr)
  (λ_ wr=>wr.rangeLeft b W.heap.size)
 case atStart=>exact⟨_,_,[],D0,hrg0,Got14.start HR.out,HO.out,J0⟩
 case round =>
  obtain⟨left,cnt,xs,D,hrg,hC,hH,hJs⟩:=hrel
  gi_wp2_with (first
   | (gi_at_next;refine wpListIn_next_ranges _ rfl _ rfl 36 lawW stElem Wt.val (λ(q:Int × Int)=>.agg #[.int .i64 q.1,.int .i64 q.2]) (λkey kl hk=>by obtain⟨x,hx,_⟩:=key_inv hk;exact⟨x,hx⟩) (λv y hv=>by obtain⟨t,n,hx,_⟩:=stElem_inv hv;exact⟨(t,n),hx⟩) b W.heap.size nn _ _ _ rfl hrg ?_ ?_)
   | gi_in)
  ·intro hc0 hl0
   gi_wp2
   go_end0
   exact⟨⟨_,rfl⟩,xs,hC.over HN.out hl0,hJs⟩
  ·intro x t tn kl yd yp w2 cnt2 hkey hlk hv hat hrg2 hlt hg2 hs2 hen
   obtain⟨x',ex,wx,rfl⟩:=key_inv hkey
   have hx':x=x':=by
    unfold Wt.val at ex
    simp at ex
    cases x;cases x'
    simp_all
   subst hx'
   obtain⟨e,he,ek,ea⟩:=hH _ (has_true_of_atKey' hat)
   have exw:e.s.w=x:=(klit_inj wx (HR.out.wf e he) ek).symm
   subst exw
   have yd0:yd=stDat e.s.t e.n:=(hat .nil).symm.trans (ea .nil)
   subst yd0
   have vv:=stVal_of hv
   have tt:t=e.s.t∧tn=(e.n:Int):=by
    unfold stVal at vv
    simpa using vv
   obtain⟨rfl,rfl⟩:=tt
   have J2:=hJ xs wr w2 (some W.heap.size) hJs hg2 (λr q=>by cases q;exact⟨Nat.le_refl _,hrg.iter_walk⟩)
   have J3:=hJ xs _ _ none (hJ xs _ _ none J2 (World.grownBy_alloc w2 (.cells #[.int .i64 e.s.w.r,.int .i64 e.s.w.p] 36) none) (λr q=>by cases q)) (World.grownBy_alloc _ (.cells #[.int .i64 e.s.t,.int .i64 e.n] 193) none) (λr q=>by cases q)
   have OK:=hC.ok he hlk
   obtain⟨fn,tmps,assign,body,hy,hQ⟩:=hY xs e _ J3 OK
   have R3:=(hrg2.alloc (.cells #[.int .i64 e.s.w.r,.int .i64 e.s.w.p] 36)).alloc (.cells #[.int .i64 e.s.t,.int .i64 e.n] 193)
   have GS:=hid (hC.step HN.out HR.out.wf he hlk)
   have HH:=hid hH
   have HE:=hid he
   have RR:=hid R3
   have LT:=hid hlt
   have RG:=hid hrg
   unfold Wt.val at hen ⊢
   clear hs2 OK hkey hlk hv hat hrg2 hg2 hC hH he ek ea vv J2 J3 R3 hlt wx ex hJs
   gi_wp2
   refine hQ.mono ?_
   rintro e' W4 ⟨rfl,hJ4,hT⟩
   obtain⟨D',cnt',r4,le4,hD⟩:=hT _ _ _ _ _ (show strike14 left e.s.w (klit e.s.w)=false from by show (left _&&!_)=false;rw[WideAt.sameKey_self (klit_key _)];simp) RR.out
   gi_wp2
   go_roundw
   case rel=>exact⟨_,cnt',xs++[e],D',r4,GS.out,HH.out.next HR.out.wf HE.out hD,hJ4⟩
   case measure=>rw[r4.left_eq,RG.out.left_eq];have:=LT.out;omega
end Go.Proofs.YtfbpjobobdidiaaGreatDoor
namespace Go.Proofs.YtfbpjobobdidiaaGreatDoor
open Lib (hid)
open Go.Lib
set_option linter.unusedVariables false
set_option maxRecDepth 100000
def tkL (ss:List Sx) (r:Int):List Int:=(ss.filter (λs=>decide (s.w.r=r))).map Sx.t
theorem rise_uni:∀{l l':List Int},l.Pairwise (·<·)→l'.Pairwise (·<·)→(∀x,x∈l↔x∈l')→l=l':=by
 intro l
 induction l with
 | nil =>
  intro l' _ _ h
  cases l' with
  | nil=>rfl
  | cons b r'=>have:=(h b).2 (by simp);cases this
 | cons a r ih =>
  intro l' hl hl' h
  cases l' with
  | nil=>have:=(h a).1 (by simp);cases this
  | cons b r' =>
   obtain⟨h1,h2⟩:=List.pairwise_cons.1 hl
   obtain⟨h3,h4⟩:=List.pairwise_cons.1 hl'
   have e:a=b:=by
    rcases List.mem_cons.1 ((h a).1 (by simp)) with q | q
    ·exact q
    ·rcases List.mem_cons.1 ((h b).2 (by simp)) with k | k
     ·exact k.symm
     ·have:=h3 a q
      have:=h1 b k
      omega
   subst e
   congr 1
   refine ih h2 h4 (λx=>⟨λhx=>?_,λhx=>?_⟩)
   ·rcases List.mem_cons.1 ((h x).1 (by simp[hx])) with q | q
    ·have:=h1 x hx;rw[q] at this;omega
    ·exact q
   ·rcases List.mem_cons.1 ((h x).2 (by simp[hx])) with q | q
    ·have:=h3 x hx;rw[q] at this;omega
    ·exact q
theorem mem_putI (l:List Int) (n x:Int):x∈putI l n↔x=n∨x∈l:=by
 induction l with
 | nil=>simp[putI]
 | cons a l ih =>
  unfold putI
  split
  ·rw[List.mem_cons,ih,List.mem_cons]
   constructor
   ·rintro (h | h | h)
    ·exact .inr (.inl h)
    ·exact .inl h
    ·exact .inr (.inr h)
   ·rintro (h | h | h)
    ·exact .inr (.inl h)
    ·exact .inl h
    ·exact .inr (.inr h)
  ·split
   ·rename_i h;subst h;simp
   ·simp
theorem rise_put {l:List Int} (h:l.Pairwise (·<·)) (n:Int):(putI l n).Pairwise (·<·):=by
 induction l with
 | nil=>simp[putI]
 | cons a l ih =>
  obtain⟨h1,h2⟩:=List.pairwise_cons.1 h
  unfold putI
  split
  ·rename_i k
   refine List.pairwise_cons.2 ⟨λx hx=>?_,ih h2⟩
   rcases (mem_putI l n x).1 hx with rfl | q
   ·exact k
   ·exact h1 x q
  ·split
   ·exact h
   ·rename_i k1 k2
    refine List.pairwise_cons.2 ⟨λx hx=>?_,h⟩
    rcases List.mem_cons.1 hx with rfl | q
    ·omega
    ·have:=h1 x q;omega
theorem rise_quit (ss:List Sx) (r:Int):(quitI ss r).Pairwise (·<·):=by
 unfold quitI
 have:∀(l:List Sx) (m:List Int),m.Pairwise (·<·)→(l.foldl (λl s=>putI l s.t) m).Pairwise (·<·):=by
  intro l
  induction l with
  | nil=>intro m h;exact h
  | cons s l ih=>intro m h;exact ih _ (rise_put h _)
 exact this _ _ List.Pairwise.nil
theorem compact_up {d:Array Int} (hs:∀i j,i<j→j<d.size→d[i]!≤d[j]!):∀m,m≤d.size→(compactUpTo d m).Pairwise (·<·)∧∀x,x∈compactUpTo d m↔∃j,j<m∧d[j]! = x:=by
 intro m
 induction m with
 | zero=>intro _;exact⟨by simp[compactUpTo],λx=>by simp[compactUpTo]⟩
 | succ m ih =>
  intro hm
  obtain⟨h1,h2⟩:=ih (by omega)
  rw[compactUpTo_succ]
  by_cases k:keeps d m=true
  ·rw[if_pos k]
   refine⟨?_,λx=>?_⟩
   ·rw[List.pairwise_append]
    refine⟨h1,List.pairwise_singleton _ _,λa ha b hb=>?_⟩
    rw[List.mem_singleton.1 hb]
    obtain⟨j,hj,rfl⟩:=(h2 a).1 ha
    have q1:=hs j m hj (by omega)
    unfold keeps at k
    simp only[decide_eq_true_eq] at k
    rcases k with k | k
    ·omega
    ·have q2:d[j]!≤d[m-1]!:=by
      rcases Nat.lt_or_ge j (m-1) with q | q
      ·exact hs j (m-1) q (by omega)
      ·rw[show j=m-1 from by omega];exact Int.le_refl _
     have q3:=hs (m-1) m (by omega) (by omega)
     omega
   ·rw[List.mem_append,h2 x,List.mem_singleton]
    constructor
    ·rintro (⟨j,hj,e⟩|e)
     ·exact⟨j,by omega,e⟩
     ·exact⟨m,Nat.lt_succ_self _,e.symm⟩
    ·rintro ⟨j,hj,e⟩
     rcases Nat.lt_or_ge j m with q | q
     ·exact .inl ⟨j,q,e⟩
     ·rw[show j=m from by omega] at e;exact .inr e.symm
  ·rw[if_neg k,List.append_nil]
   refine⟨h1,λx=>?_⟩
   rw[h2 x]
   have k2:¬ (m=0∨d[m]!≠d[m-1]!):=λq=>k (by unfold keeps;exact decide_eq_true q)
   have k3:0<m∧d[m]! = d[m-1]!:=⟨by omega,by
    by_cases q:d[m]! = d[m-1]!
    ·exact q
    ·exact absurd (.inr q) k2⟩
   constructor
   ·rintro ⟨j,hj,e⟩;exact⟨j,by omega,e⟩
   ·rintro ⟨j,hj,e⟩
    rcases Nat.lt_or_ge j m with q | q
    ·exact⟨j,q,e⟩
    ·rw[show j=m from by omega,k3.2] at e
     exact⟨m-1,by omega,e⟩
theorem compact_quit {ss:List Sx} {r:Int} {zs:List Int} (h:zs.Perm (tkL ss r)):compact (zs.mergeSort λx y=>decide (x≤y))=quitI ss r:=by
 obtain⟨ys,hys⟩:∃ys,zs.mergeSort (λx y=>decide (x≤y))=ys:=⟨_,rfl⟩
 have p:ys.Perm zs:=by rw[←hys];exact List.mergeSort_perm _ _
 have s:ys.Pairwise (λx y=>x≤y):=by
  rw[←hys]
  refine (List.pairwise_mergeSort (le:=λx y:Int=>decide (x≤y)) (λa b c h1 h2=>by simp at *;omega) (λa b=>by simp;omega) zs).imp ?_
  intro a b k
  simpa using k
 rw[hys]
 obtain⟨c1,c2⟩:=compact_up (d:=ys.toArray) (λi j hij hj=>by
  have hj':j<ys.length:=by simpa using hj
  have:=(List.pairwise_iff_getElem.1 s) i j (by omega) hj' hij
  rw[getElem!_pos ys.toArray i (by simpa using by omega),getElem!_pos ys.toArray j hj]
  simpa using this) ys.length (by simp)
 refine rise_uni c1 (rise_quit ss r) (λx=>?_)
 show x∈compactUpTo ys.toArray ys.length↔_
 rw[c2,mem_quit]
 have:(∃j,j<ys.length∧ys.toArray[j]! = x)↔x∈ys:=by
  constructor
  ·rintro ⟨j,hj,e⟩
   rw[getElem!_pos ys.toArray j (by simpa using hj)] at e
   rw[←e]
   simp
  ·intro hx
   obtain⟨j,hj,e⟩:=List.getElem_of_mem hx
   exact⟨j,hj,by rw[getElem!_pos ys.toArray j (by simpa using hj)];simpa using e⟩
 rw[this,p.mem_iff,h.mem_iff]
 unfold tkL
 rw[List.mem_map]
 constructor
 ·rintro ⟨s,hs,e⟩
  obtain⟨h1,h2⟩:=List.mem_filter.1 hs
  exact⟨s,h1,by simpa using h2,e⟩
 ·rintro ⟨s,h1,h2,e⟩
  exact⟨s,List.mem_filter.2 ⟨h1,by simpa using h2⟩,e⟩
end Go.Proofs.YtfbpjobobdidiaaGreatDoor
namespace Go.Proofs.YtfbpjobobdidiaaGreatDoor
open Lib (hid)
open Go.RowKit Go.Maps
set_option linter.unusedVariables false
set_option maxRecDepth 100000
abbrev Var (w:World) (q:Nat) (v:Value):Prop:=w.cell? ⟨q,0,none⟩=some v
theorem Var.lt {w:World} {q:Nat} {v:Value} (h:Var w q v):q<w.heap.size:=by
 rcases Nat.lt_or_ge q w.heap.size with k | k
 ·exact k
 ·unfold Var at h
  simp[World.cell?,Array.getElem?_eq_none k] at h
def coded (c:Int):Option Int:=if c=0 then none else some c
theorem coded_get (c:Int):(coded c).getD 0=c:=by unfold coded;split<;>simp_all
def TurnTo (w':World) (p b nd na L:Nat) (ss:List Sl):Prop:=∃L' ps,TnAt w' p b nd na L' ps∧ps.map Pl.sl=ss∧L'≤L+1
def Does (w:World) (p b nd na L:Nat) (c:Int) (ss:List Sl) (e:Ending) (w':World):Prop:=e=done (coded c)∧TurnTo w' p b nd na L ss∧Only (two12 p b) w w'
theorem TnAt.to {w w':World} {p b nd na L:Nat} {ps:List Pl} (h:TnAt w p b nd na L ps) (o:Only none_ w w'):TurnTo w' p b nd na L (ps.map Pl.sl):=⟨L,ps,h.still o,rfl,by omega⟩
theorem row_len (ps:List Pl) (a:Bool):(rowL a (ps.map Pl.sl)).length=(ps.filter (λq=>q.a==a)).length:=by rw[row_sl,List.length_map]
theorem enter_sl {ps:List Pl} {L:Nat} {q:Pl}:(enterP ps L q).map Pl.sl=cutL (ps.map Pl.sl) q.k++[⟨q.k,q.a,q.s⟩]:=by
 unfold enterP
 rw[List.map_append,cut_sl]
 rfl
theorem cut_no {ss:List Sl} {x:Int} (h:hasL ss x=false):cutL ss x=ss:=by
 unfold cutL
 rw[List.filter_eq_self]
 intro s hs
 have:s.k≠x:=λe=>by
  have:=hasL_iff.2 ⟨s,hs,e⟩
  rw[h] at this;cases this
 simpa using this
set_option maxHeartbeats 2000000 in
theorem put1_any {p b nd na L qk qt qa:Nat} {ps:List Pl} (x:Int) (a:Bool) (w:World) (h:TnAt w p b nd na L ps) (hk:Var w qk (.int .i64 x)) (ht:Var w qt (.pointer (some ⟨p,0,none⟩))) (ha:Var w qa (.bool a)) (wx:(Lit.int .i64 x).wf=true) (hL:L<100000000) :
  Calls Tryz.prog 146 #[.pointer (some ⟨qk,0,none⟩),.pointer (some ⟨qt,0,none⟩),.pointer (some ⟨qa,0,none⟩)] w (Does w p b nd na L (putC nd na (ps.map Pl.sl) x a) (putS nd na (ps.map Pl.sl) x a)):=by
 have H:=hid h
 have lk:=hk.lt
 have lt':=ht.lt
 have la:=ha.lt
 have hk':w.drew.cell? ⟨qk,0,none⟩=some (.int .i64 x):=hk
 have ht':w.drew.cell? ⟨qt,0,none⟩=some (.pointer (some ⟨p,0,none⟩)):=ht
 have ha':w.drew.cell? ⟨qa,0,none⟩=some (.bool a):=ha
 by_cases h1:x<1
 ·have PC:=hid (show putC nd na (ps.map Pl.sl) x a=1 from by unfold putC;rw[if_pos h1])
  have PS:=hid (show putS nd na (ps.map Pl.sl) x a=ps.map Pl.sl from by unfold putS;rw[PC.out];rfl)
  have d:decide (1≤x)=false:=by simp;omega
  clear h h1
  go_enter Tryz.func146,Tryz.ntmps146
  go_wp2_with fail
  (with_reducible refine (unless_no _ _).mono ?_)
  rintro e w' ⟨rfl,rfl⟩
  go_wp2_with fail
  refine⟨rfl,?_⟩
  rw[PC.out,PS.out]
  exact⟨rfl,H.out.to (Only.refl _ _),Only.refl _ _⟩
 ·have d:decide (1≤x)=true:=by simp;omega
  have c2:w.drew.cell? ⟨p,2,none⟩=some (.map (some b)):=by show w.cell? _=_;rw[h.row.cell];rfl
  have LK:=(show Md12 w.drew b ps from h.md).look h.once wx
  have OZ:=hid (((Only.refl none_ w).alloc (.cells #[.int .i64 0,.bool false,.int .i64 0,.bool false] 169)).drew)
  have c2z:((w.alloc (.cells #[.int .i64 0,.bool false,.int .i64 0,.bool false] 169)).drew).cell? ⟨p,2,none⟩=some (.map (some b)):=OZ.out.cell (show w.cell? _=_ by rw[h.row.cell];rfl) (λs=>s)
  have hkz:((w.alloc (.cells #[.int .i64 0,.bool false,.int .i64 0,.bool false] 169)).drew).cell? ⟨qk,0,none⟩=some (.int .i64 x):=OZ.out.cell hk (λs=>s)
  have htz:((w.alloc (.cells #[.int .i64 0,.bool false,.int .i64 0,.bool false] 169)).drew).cell? ⟨qt,0,none⟩=some (.pointer (some ⟨p,0,none⟩)):=OZ.out.cell ht (λs=>s)
  have LZ:=(h.md.still OZ.out).look h.once wx
  have e0:=has_sl ps x
  cases hh:hasP ps x with
  | true =>
   have PC:=hid (show putC nd na (ps.map Pl.sl) x a=4 from by unfold putC;rw[if_neg h1,e0,hh];rfl)
   have PS:=hid (show putS nd na (ps.map Pl.sl) x a=ps.map Pl.sl from by unfold putS;rw[PC.out];rfl)
   rw[hh] at LK LZ
   generalize atP ps x=q at LK LZ
   unfold plVal at LK LZ
   clear h h1 e0 hh
   go_enter Tryz.func146,Tryz.ntmps146
   go_wp2_with fail
   (with_reducible refine (unless_yes _ _).mono ?_)
   rintro e w' ⟨rfl,rfl⟩
   go_wp2_with fail
   go_region
   all_goals
    go_wp2_with fail
    (with_reducible refine (unless_no _ _).mono ?_)
    rintro e w' ⟨rfl,rfl⟩
    go_wp2_with fail
    refine⟨rfl,?_⟩
    rw[PC.out,PS.out]
    first
     | exact⟨rfl,H.out.to ((Only.refl _ _).drew.alloc _),(Only.refl _ _).drew.alloc _⟩
     | exact⟨rfl,H.out.to (((Only.refl _ _).alloc _).drew),((Only.refl _ _).alloc _).drew⟩
  | false =>
   rw[hh] at LK LZ
   generalize atP ps x=q at LK LZ
   unfold plVal at LK LZ
   have hx0:hasL (ps.map Pl.sl) x=false:=e0.trans hh
   have RL:=row_len ps a
   by_cases hr:0<roomP nd na ps a
   ·have PC:=hid (show putC nd na (ps.map Pl.sl) x a=0 from by unfold putC;unfold roomP at hr;rw[if_neg h1,hx0,if_neg (by simp),if_neg (by omega)])
    have PS:=hid (show (enterP ps L ⟨x,a,0,true⟩).map Pl.sl=putS nd na (ps.map Pl.sl) x a from by unfold putS;rw[PC.out,if_pos rfl,enter_sl,cut_no hx0])
    have EN:=hid (λ(W:World) (o:Only none_ w W)=>tenter_yes (⟨x,a,0,true⟩:Pl) W (H.out.still o) hr hL wx)
    clear h h1 e0 hh hr hx0 RL
    go_enter Tryz.func146,Tryz.ntmps146
    go_wp2_with fail
    (with_reducible refine (unless_yes _ _).mono ?_)
    rintro e w' ⟨rfl,rfl⟩
    go_wp2_with fail
    go_region
    all_goals
     go_wp2_with fail
     (with_reducible refine (unless_yes _ _).mono ?_)
     rintro e w' ⟨rfl,rfl⟩
     go_wp2_with fail
     (with_reducible refine (EN.out _ ?_).mono ?_)
     ·first | exact (Only.refl _ _).drew.alloc _ | exact ((Only.refl _ _).alloc _).drew
     rintro e w2 ⟨rfl,h2,o2⟩
     have H2:=hid h2
     have O2:=hid (show Only (two12 p b) w w2 from by first | exact ((Only.refl _ _).drew.alloc _).then_ o2 | exact (((Only.refl _ _).alloc _).drew).then_ o2)
     clear h2 o2
     go_wp2_with fail
     go_end0
     unfold Does
     rw[PC.out]
     exact⟨rfl,⟨_,_,H2.out,PS.out,Nat.le_refl _⟩,O2.out⟩
   ·have PC:=hid (show putC nd na (ps.map Pl.sl) x a=2 from by unfold putC;unfold roomP at hr;rw[if_neg h1,hx0,if_neg (by simp),if_pos (by omega)])
    have PS:=hid (show putS nd na (ps.map Pl.sl) x a=ps.map Pl.sl from by unfold putS;rw[PC.out];rfl)
    have EN:=hid (λ(W:World) (o:Only none_ w W)=>tenter_no (⟨x,a,0,true⟩:Pl) W (H.out.still o) hr)
    clear h h1 e0 hh hr hx0 RL
    go_enter Tryz.func146,Tryz.ntmps146
    go_wp2_with fail
    (with_reducible refine (unless_yes _ _).mono ?_)
    rintro e w' ⟨rfl,rfl⟩
    go_wp2_with fail
    go_region
    all_goals
     go_wp2_with fail
     (with_reducible refine (unless_yes _ _).mono ?_)
     rintro e w' ⟨rfl,rfl⟩
     go_wp2_with fail
     (with_reducible refine (EN.out _ ?_).mono ?_)
     ·first | exact (Only.refl _ _).drew.alloc _ | exact ((Only.refl _ _).alloc _).drew
     rintro e w2 ⟨rfl,o2⟩
     have O2:=hid (show Only none_ w w2 from by first | exact ((Only.refl _ _).drew.alloc _).same o2 | exact (((Only.refl _ _).alloc _).drew).same o2)
     clear o2
     go_wp2_with fail
     refine⟨rfl,?_⟩
     rw[PC.out,PS.out]
     exact⟨rfl,H.out.to O2.out,O2.out.up⟩
set_option maxHeartbeats 2000000 in
theorem promote1_any {p b nd na L qk qt:Nat} {ps:List Pl} (x:Int) (w:World) (h:TnAt w p b nd na L ps) (ht:Var w qt (.pointer (some ⟨p,0,none⟩))) (hk:Var w qk (.int .i64 x)) (wx:(Lit.int .i64 x).wf=true) (hL:L<100000000) :
  Calls Tryz.prog 111 #[.pointer (some ⟨qt,0,none⟩),.pointer (some ⟨qk,0,none⟩)] w (Does w p b nd na L (promC nd (ps.map Pl.sl) x) (promS nd (ps.map Pl.sl) x)):=by
 have H:=hid h
 have lk:=hk.lt
 have lt':=ht.lt
 have e0:=has_sl ps x
 cases hh:hasP ps x with
 | false =>
  have PC:=hid (show promC nd (ps.map Pl.sl) x=3 from by unfold promC;rw[e0,hh];rfl)
  have PS:=hid (show promS nd (ps.map Pl.sl) x=ps.map Pl.sl from by unfold promS;rw[PC.out];rfl)
  have AT:=hid (tat_no x w h wx hh)
  clear h e0 hh
  go_enter Tryz.func111,Tryz.ntmps111
  go_wp2_with fail
  (with_reducible refine (AT.out).mono ?_)
  rintro e w1 ⟨rfl,o1⟩
  go_wp2_with fail
  refine⟨rfl,?_⟩
  rw[PC.out,PS.out]
  exact⟨rfl,H.out.to o1,o1.up⟩
 | true =>
  have AT:=hid (tat_yes x w h wx hh)
  have hx0:hasL (ps.map Pl.sl) x=true:=e0.trans hh
  have HK:=hid (atP_has hh).2
  have ea:=at_sl ps x
  generalize atP ps x=q at *
  cases ha:q.a with
  | false =>
   have PC:=hid (show promC nd (ps.map Pl.sl) x=5 from by unfold promC;rw[hx0,ea];simp[Pl.sl,ha])
   have PS:=hid (show promS nd (ps.map Pl.sl) x=ps.map Pl.sl from by unfold promS;rw[PC.out];rfl)
   rw[ha] at AT
   clear h e0 hh hx0 ea
   go_enter Tryz.func111,Tryz.ntmps111
   go_wp2_with fail
   (with_reducible refine (AT.out).mono ?_)
   rintro e w1 ⟨rfl,o1⟩
   have O1:=hid o1
   clear o1
   go_wp2_with fail
   (with_reducible refine (unless_no _ _).mono ?_)
   rintro e w' ⟨rfl,rfl⟩
   go_wp2_with fail
   refine⟨rfl,?_⟩
   rw[PC.out,PS.out]
   exact⟨rfl,H.out.to (O1.out.alloc _),(O1.out.alloc _).up⟩
  | true =>
   rw[ha] at AT
   have RL:=row_len ps false
   by_cases hr:0<roomP nd na ps false
   ·have PC:=hid (show promC nd (ps.map Pl.sl) x=0 from by unfold promC;unfold roomP mostL at hr;rw[hx0,ea];simp[Pl.sl,ha] at hr RL ⊢;omega)
    have PS:=hid (show (enterP ps L ⟨q.k,false,q.n,q.s⟩).map Pl.sl=promS nd (ps.map Pl.sl) x from by unfold promS;rw[PC.out,if_pos rfl,enter_sl,ea];simp only[HK.out,Pl.sl])
    have WX:=hid wx
    have EN:=hid (λ(W:World) (o:Only none_ w W)=>tenter_yes (⟨q.k,false,q.n,q.s⟩:Pl) W (H.out.still o) hr hL (by rw[HK.out];exact WX.out))
    clear h e0 hh hx0 ea hr RL wx
    go_enter Tryz.func111,Tryz.ntmps111
    go_wp2_with fail
    (with_reducible refine (AT.out).mono ?_)
    rintro e w1 ⟨rfl,o1⟩
    have O1:=hid o1
    have ht1:w1.cell? ⟨qt,0,none⟩=some (.pointer (some ⟨p,0,none⟩)):=o1.cell ht (λs=>s)
    have lt1:qt<w1.heap.size:=Nat.lt_of_lt_of_le lt' o1.size
    clear o1
    go_wp2_with fail
    (with_reducible refine (unless_yes _ _).mono ?_)
    rintro e w' ⟨rfl,rfl⟩
    go_wp2_with fail
    (with_reducible refine (EN.out _ ?_).mono ?_)
    ·exact O1.out.alloc _
    rintro e w2 ⟨rfl,h2,o2⟩
    have H2:=hid h2
    have O2:=hid ((O1.out.alloc _).then_ o2)
    clear h2 o2
    go_wp2_with fail
    go_end0
    unfold Does
    rw[PC.out]
    exact⟨rfl,⟨_,_,H2.out,PS.out,Nat.le_refl _⟩,O2.out⟩
   ·have PC:=hid (show promC nd (ps.map Pl.sl) x=2 from by unfold promC;unfold roomP mostL at hr;rw[hx0,ea];simp[Pl.sl,ha] at hr RL ⊢;omega)
    have PS:=hid (show promS nd (ps.map Pl.sl) x=ps.map Pl.sl from by unfold promS;rw[PC.out];rfl)
    have EN:=hid (λ(W:World) (o:Only none_ w W)=>tenter_no (⟨q.k,false,q.n,q.s⟩:Pl) W (H.out.still o) hr)
    clear h e0 hh hx0 ea hr RL
    go_enter Tryz.func111,Tryz.ntmps111
    go_wp2_with fail
    (with_reducible refine (AT.out).mono ?_)
    rintro e w1 ⟨rfl,o1⟩
    have O1:=hid o1
    have ht1:w1.cell? ⟨qt,0,none⟩=some (.pointer (some ⟨p,0,none⟩)):=o1.cell ht (λs=>s)
    have lt1:qt<w1.heap.size:=Nat.lt_of_lt_of_le lt' o1.size
    clear o1
    go_wp2_with fail
    (with_reducible refine (unless_yes _ _).mono ?_)
    rintro e w' ⟨rfl,rfl⟩
    go_wp2_with fail
    (with_reducible refine (EN.out _ ?_).mono ?_)
    ·exact O1.out.alloc _
    rintro e w2 ⟨rfl,o2⟩
    have O2:=hid ((O1.out.alloc _).same o2)
    clear o2
    go_wp2_with fail
    refine⟨rfl,?_⟩
    rw[PC.out,PS.out]
    exact⟨rfl,H.out.to O2.out,O2.out.up⟩
end Go.Proofs.YtfbpjobobdidiaaGreatDoor
