/- Texts of the layers below, one behind the other. -/
import Derived.Test.YtfbpjobobdidiaaGreatDoorRG02
set_option maxRecDepth 100000
set_option maxHeartbeats 4000000
namespace Go.Proofs.YtfbpjobobdidiaaGreatDoor
open Lib (hid)
open Go.Proofs.Tryz
open Go.RowKit Go.Maps
set_option linter.unusedVariables false
theorem lhas_any {p r b:Nat} {vs:List Value} {M:Nat→Prop} {n room:Nat} {ss:List Sd} (x:Int) (w:World) (h:LL w p r b vs M n room ss) :
  Calls prog 145 #[.pointer (some ⟨p,0,none⟩),.int .i64 x] w λe w'=>e=.returned (.bool (decide (0≤x∧x<n)))∧w=w':=by
 have c0:w.cell? ⟨p,0,none⟩=some (.slice (some ⟨r,0,none⟩) n n):=by rw[h.row.cell];rfl
 clear h
 by_cases h0:0≤x
 ·have d0:decide (0≤x)=true:=by simpa using h0
  have E:=hid (show decide (0≤x∧x<n)=decide (x<n) from by simp[h0])
  clear h0
  go_enter func145,ntmps145
  go_wp2_with fail
  go_ret
  exact⟨by rw[E.out];rfl,rfl⟩
 ·have d0:decide (0≤x)=false:=by simpa using h0
  have E:=hid (show decide (0≤x∧x<n)=false from by simp[h0])
  clear h0
  go_enter func145,ntmps145
  go_wp2_with fail
  go_ret
  exact⟨by rw[E.out];rfl,rfl⟩
theorem llane_any {p r b:Nat} {vs:List Value} {M:Nat→Prop} {n room:Nat} {ss:List Sd} (x:Int) (w:World) (h:LL w p r b vs M n room ss) (hn:n≤1000) :
  Calls prog 133 #[.pointer (some ⟨p,0,none⟩),.int .i64 x] w λe w'=>∃v,e=.returned v∧OwI w 0 v (laneL ss x)∧w=w':=by
 have HAS:=hid (lhas_any x w h)
 have c0:w.cell? ⟨p,0,none⟩=some (.slice (some ⟨r,0,none⟩) n n):=by rw[h.row.cell];rfl
 by_cases hx:0≤x∧x<n
 ·have E:=hid (show decide (0≤x∧x<n)=true from decide_eq_true hx)
  obtain⟨k,rfl⟩:∃k:Nat,x=k:=⟨x.toNat,by omega⟩
  have hk:k<n:=by omega
  obtain⟨v,hv⟩:∃v,vs[k]? = some v:=⟨_,List.getElem?_eq_getElem (by rw[h.len];exact hk)⟩
  have LV:=hid (h.lanes k v hv)
  have c1:w.cell? ⟨r,k,none⟩=some v:=by rw[h.rows.cell];simpa using hv
  clear h hx hv
  go_enter func133,ntmps133
  go_wp2_with fail
  (with_reducible refine HAS.out.mono ?_)
  rintro e w' ⟨rfl,rfl⟩
  rw[E.out]
  go_wp2_with fail
  go_ret
  exact⟨v,rfl,LV.out,rfl⟩
 ·have E:=hid (show decide (0≤x∧x<n)=false from decide_eq_false hx)
  have L0:=hid (h.out hx)
  clear h hx
  go_enter func133,ntmps133
  go_wp2_with fail
  (with_reducible refine HAS.out.mono ?_)
  rintro e w' ⟨rfl,rfl⟩
  rw[E.out]
  go_wp2_with fail
  go_ret
  exact⟨_,rfl,by rw[L0.out];exact Owns.start _ _ _ _ _,rfl⟩
def atI (l:List Int) (x:Int):Int:=if 0≤x then (l[x.toNat]?).getD 0 else 0
def atB (l:List Int) (x:Int):Bool:=decide (0≤x∧x<l.length)
theorem at_head (l:List Int):atI l 0=headI l∧atB l 0=someB l:=by
 cases l<;>simp[atI,atB,headI,someB]
theorem at_last (l:List Int):atI l ((l.length:Int)-1)=lastI l∧atB l ((l.length:Int)-1)=someB l:=by
 cases hl:l with
 | nil=>simp[atI,atB,lastI,someB]
 | cons a m =>
  rw[←hl]
  have p:0<l.length:=by rw[hl];simp
  refine⟨?_,?_⟩
  ·unfold atI lastI
   rw[if_pos (by omega),List.getLast?_eq_getElem?,show ((l.length:Int)-1).toNat=l.length-1 by omega]
  ·unfold atB someB
   rw[decide_eq_true (by omega),hl];rfl
theorem at_any (v:Value) (l:List Int) (x:Int) (w:World) (h:Reads w v l) (hl:l.length≤1000) :
  Calls prog 134 #[v,.int .i64 x] w λe w'=>e=.returned (.tuple #[.int .i64 (atI l x),.bool (atB l x)])∧w=w':=by
 obtain⟨a,cap,rfl,hc⟩:=h
 by_cases h0:x<0
 ·have d0:decide (x<0)=true:=by simpa using h0
  have E:=hid (show atI l x=0∧atB l x=false from ⟨by unfold atI;rw[if_neg (by omega)],by unfold atB;rw[decide_eq_false (by omega)]⟩)
  clear h0 hc
  go_enter func134,ntmps134
  go_wp2_with fail
  go_ret2
  exact⟨by rw[E.out.1,E.out.2];rfl,rfl⟩
 ·have d0:decide (x<0)=false:=by simpa using h0
  by_cases h1:(l.length:Int)≤x
  ·have d1:decide ((l.length:Int)≤x)=true:=by simpa using h1
   have E:=hid (show atI l x=0∧atB l x=false from ⟨by unfold atI;rw[if_pos (by omega),List.getElem?_eq_none (by omega)];rfl,by unfold atB;rw[decide_eq_false (by omega)]⟩)
   clear h0 h1 hc
   go_enter func134,ntmps134
   go_wp2_with fail
   go_ret2
   exact⟨by rw[E.out.1,E.out.2];rfl,rfl⟩
  ·obtain⟨k,rfl⟩:∃k:Nat,x=k:=⟨x.toNat,by omega⟩
   have hk:k<l.length:=by omega
   have d1:decide ((l.length:Int)≤(k:Int))=false:=by simpa using h1
   have d2:decide (l.length≤k)=false:=by simpa using hk
   obtain⟨y,hy⟩:∃y,l[k]? = some y:=⟨_,List.getElem?_eq_getElem hk⟩
   obtain⟨g,o,rfl,c⟩:=hc k y hy
   have E:=hid (show atI l k=y∧atB l k=true from ⟨by unfold atI;rw[if_pos (by omega),Int.toNat_natCast,hy];rfl,by unfold atB;rw[decide_eq_true (by omega)]⟩)
   clear h0 h1 hc hy
   go_enter func134,ntmps134
   go_wp2_with fail
   go_ret2
   exact⟨by rw[E.out.1,E.out.2];rfl,rfl⟩
theorem lhead_any {p:Nat} {M:Nat→Prop} {n room:Nat} {ss:List Sd} (x:Int) (w:World) (h:Ln w p M n room ss) (hn:n≤1000) (hl:ss.length≤1000) :
  Calls prog 100 #[.pointer (some ⟨p,0,none⟩),.int .i64 x] w λe w'=>e=.returned (.tuple #[.int .i64 (headI (laneL ss x)),.bool (someB (laneL ss x))])∧w=w':=by
 obtain⟨r,b,vs,h⟩:=h
 have LN:=hid (llane_any x w h hn)
 have le:=lane_le ss x
 clear h
 generalize laneL ss x=l at LN le ⊢
 go_enter func100,ntmps100
 go_wp2_with fail
 (with_reducible refine LN.out.mono ?_)
 rintro e w' ⟨v,rfl,ho,rfl⟩
 have AT:=hid (at_any v l 0 w (Reads.of_owns ho) (by omega))
 rw[(at_head l).1,(at_head l).2] at AT
 clear ho LN
 go_wp2_with fail
 (with_reducible refine AT.out.mono ?_)
 rintro e w' ⟨rfl,rfl⟩
 go_wp2_with fail
 go_ret2
 exact⟨rfl,rfl⟩
theorem llast_any {p:Nat} {M:Nat→Prop} {n room:Nat} {ss:List Sd} (x:Int) (w:World) (h:Ln w p M n room ss) (hn:n≤1000) (hl:ss.length≤1000) :
  Calls prog 108 #[.pointer (some ⟨p,0,none⟩),.int .i64 x] w λe w'=>e=.returned (.tuple #[.int .i64 (lastI (laneL ss x)),.bool (someB (laneL ss x))])∧w=w':=by
 obtain⟨r,b,vs,h⟩:=h
 have LN:=hid (llane_any x w h hn)
 have le:=lane_le ss x
 clear h
 generalize laneL ss x=l at LN le ⊢
 go_enter func108,ntmps108
 go_wp2_with fail
 (with_reducible refine LN.out.mono ?_)
 rintro e w' ⟨v,rfl,ho,rfl⟩
 have rd:=Reads.of_owns ho
 have AT:=hid (at_any v l ((l.length:Int)-1) w rd (by omega))
 rw[(at_last l).1,(at_last l).2] at AT
 obtain⟨a,cap,rfl,hc⟩:=rd
 have hwi:IntKind.i64.wrap ((l.length:Int)-1)=(l.length:Int)-1:=by rw[IntKind.wrap_i64];omega
 clear ho hc LN
 go_wp2_with fail
 (with_reducible refine AT.out.mono ?_)
 rintro e w' ⟨rfl,rfl⟩
 go_wp2_with fail
 go_ret2
 exact⟨rfl,rfl⟩
theorem blockI_no {ss:List Sd} {x:Int} (h:hasK ss x=false):blockI ss x=0:=by
 rw[←tk_has] at h
 unfold blockI
 cases hk:tkAt ss x with
 | none=>rfl
 | some k=>rw[hk] at h;cases h
theorem Reads11.look {D:DataW Unit} {ss:List Sd} (h:Reads11 D ss) (o:Once ss) (x c:Int) (e:D.atKey (.int .i64 x) (.lit (.int .i64 0))=.lit (.int .i64 c)):c=blockI ss x:=by
 cases hc:hasK ss x with
 | true=>exact h.at_ o x c _ hc e
 | false =>
  have:=h.1 x
  rw[hc] at this
  rw[atKey_of_not_has this] at e
  rw[blockI_no hc]
  injection e with e
  injection e with _ e
  exact e.symm
end Go.Proofs.YtfbpjobobdidiaaGreatDoor
namespace Go.Proofs.YtfbpjobobdidiaaGreatDoor
open Lib (hid)
open Go.Proofs.Tryz
open Go.RowKit Go.Sort
set_option linter.unusedVariables false
theorem ins48 {κ:Wt→Int} {w0:World} {g p n cap:Nat} (LS:Less κ w0 g p) (a b:Nat) (d:Array Wt) (w:World) (S:Sq w0 w g d) (hd:d.size=n) (hab:a≤b) (hb:b≤n) (hn:n≤1000) :
  Calls prog 173 #[.slice (some ⟨g,0,none⟩) n cap,.int .i64 a,.int .i64 b,cmpV p] w λe w'=>e=.returned (.tuple #[])∧Sq w0 w' g (insertionSort (klt κ) d a b):=by
 have HS:=hid S
 have HL:=hid LS
 have HD:=hid hd
 clear S LS hd
 unfold cmpV
 go_enter func173,ntmps173
 go_wp2_with fail
 go_loopw [8] (λv wr=>∃(i:Nat) (dk:Array Wt),v=.int .i64 (i:Int)∧a<i∧i≤b+1∧dk.size=n∧Sq w0 wr g dk∧insOuter (klt κ) a b i dk=insertionSort (klt κ) d a b) (λv _=>b+1-(intOf v).toNat)
 case atStart=>exact⟨a+1,d,by go_num,by omega,by omega,HD.out,HS.out,rfl⟩
 case round =>
  obtain⟨i,dk,rfl,hai,hib,hsk,hS,hO⟩:=hrel
  have S1:=hid hS
  have O1:=hid hO
  have K1:=hid hsk
  clear hS hO hsk HS HD
  by_cases hlt:i<b
  ·have t1:decide ((i:Int)<(b:Int))=true:=decide_eq_true (by omega)
   go_wp2_with fail
   go_loopw [9] (λv wx=>∃(j:Nat) (dj:Array Wt),v=.int .i64 (j:Int)∧a≤j∧j≤i∧dj.size=n∧Sq w0 wx g dj∧insInner (klt κ) a j dj=insInner (klt κ) a i dk) (λv _=>(intOf v).toNat)
   case atStart=>exact⟨i,dk,rfl,by omega,Nat.le_refl _,K1.out,S1.out,rfl⟩
   case round =>
    obtain⟨wx,rfl⟩:∃x:World,x=wr:=⟨_,rfl⟩
    obtain⟨j,dj,rfl,haj,hji,hsj,hS,hI⟩:=hrel
    have S2:=hid hS
    have I2:=hid hI
    have K2:=hid hsj
    clear hS hI hsj
    have JN:=hid (show j<n from by omega)
    by_cases hja:a<j
    ·obtain⟨x,hx⟩:∃x,dj[j]! = x:=⟨_,rfl⟩
     obtain⟨y,hy⟩:∃y,dj[j-1]! = y:=⟨_,rfl⟩
     have t2:decide ((a:Int)<(j:Int))=true:=decide_eq_true (by omega)
     have j1:j<dj.size:=by rw[K2.out];exact JN.out
     have j2:j-1<dj.size:=by omega
     have KS:=hid (λ(w':World) (s:Sq w0 w' g dj)=>show (w'.cell? ⟨g,j*2,none⟩=some (.int .i64 x.r)∧w'.cell? ⟨g,j*2+1,none⟩=some (.int .i64 x.p))∧(w'.cell? ⟨g,(j-1)*2,none⟩=some (.int .i64 y.r)∧w'.cell? ⟨g,(j-1)*2+1,none⟩=some (.int .i64 y.p)) from
      ⟨by rw[←hx];exact s.cell j j1,by rw[←hy];exact s.cell (j-1) j2⟩)
     have CL:=hid (λ(w':World) (s:Sq w0 w' g dj)=>HL.out.at_ s (Only.refl n_ w') j1 j2 hx hy)
     have v1:IntKind.i64.wrap ((j:Int)-1)=((j-1:Nat):Int):=by rw[IntKind.wrap_i64];omega
     have b0:(0:Int)≤((j-1:Nat):Int):=by omega
     have b1:((j-1:Nat):Int)<(n:Int):=by omega
     have b2:(j:Int)<(n:Int):=by omega
     have DD:=hid (S2.out.still ((Only.refl n_ wx).drew))
     obtain⟨⟨cx0,cx1⟩,cy0,cy1⟩:=KS.out _ DD.out
     have J1:=hid j1
     have J2:=hid j2
     have HX:=hid hx
     have HY:=hid hy
     clear j1 j2 hx hy
     by_cases hl:klt κ x y=true
     ·have l1:decide (kcmp κ x y<0)=true:=by rw[kcmp_lt];exact hl
      have HLT:=hid hl
      clear hl
      go_wp2_with fail
      go_region_held3 (λw'=>(w'.cell? ⟨g,j*2,none⟩=some (.int .i64 x.r)∧w'.cell? ⟨g,j*2+1,none⟩=some (.int .i64 x.p))∧(w'.cell? ⟨g,(j-1)*2,none⟩=some (.int .i64 y.r)∧w'.cell? ⟨g,(j-1)*2+1,none⟩=some (.int .i64 y.p)))
       (first
        | (with_reducible exact KS.out _ Q1.out)
        | (with_reducible exact KS.out _ DD.out)
        | fail)
       (first
        | (go_at_call 123;(with_reducible refine (CL.out _ DD.out).mono ?_);rintro e u1 ⟨rfl,o1⟩;have Q1:=hid (DD.out.still o1))
        | fail)
      have SW:=hid (Q1.out.still ((Only.refl n_ u1).drew) |>.swap J1.out J2.out HX.out HY.out)
      obtain⟨⟨ex0,ex1⟩,ey0,ey1⟩:=KS.out _ Q1.out
      have fz:∀k,u1.frozen? ⟨g,k,none⟩=false:=Q1.out.fz
      have n1:¬ j*2=(j-1)*2:=by omega
      have n2:¬ (j-1)*2=j*2:=by omega
      clear cx0 cx1 cy0 cy1
      go_wp2_with fail
      go_region
      all_goals (try go_wp2_with fail)
      all_goals
       go_roundw
       case rel=>exact⟨j-1,swp dj j (j-1),rfl,by omega,by omega,by rw[size_swp];exact K2.out,SW.out,by rw[←I2.out,insInner_go (klt κ) a j dj hja (by rw[HX.out,HY.out];exact HLT.out)]⟩
       case measure=>simp[intOf];omega
     ·have hl:klt κ x y=false:=by simpa using hl
      have l1:decide (kcmp κ x y<0)=false:=by rw[kcmp_lt];exact hl
      have ST:=hid (insInner_stop (klt κ) a j dj (.inr (by rw[HX.out,HY.out];exact hl)))
      clear hl
      go_wp2_with fail
      go_region_held3 (λw'=>(w'.cell? ⟨g,j*2,none⟩=some (.int .i64 x.r)∧w'.cell? ⟨g,j*2+1,none⟩=some (.int .i64 x.p))∧(w'.cell? ⟨g,(j-1)*2,none⟩=some (.int .i64 y.r)∧w'.cell? ⟨g,(j-1)*2+1,none⟩=some (.int .i64 y.p)))
       (first
        | (with_reducible exact KS.out _ Q1.out)
        | (with_reducible exact KS.out _ DD.out)
        | fail)
       (first
        | (go_at_call 123;(with_reducible refine (CL.out _ DD.out).mono ?_);rintro e u1 ⟨rfl,o1⟩;have Q1:=hid (DD.out.still o1))
        | fail)
      go_wp2_with fail
      go_roundw
      case rel=>exact⟨i+1,dj,by go_num,by omega,by omega,K2.out,Q1.out,by rw[←O1.out,insOuter_go _ _ _ _ _ hlt,←I2.out,ST.out]⟩
      case measure=>simp[intOf];omega
    ·have t2:decide ((a:Int)<(j:Int))=false:=decide_eq_false (by omega)
     have ST:=hid (insInner_stop (klt κ) a j dj (.inl (by omega)))
     go_wp2_with fail
     go_quiet (fail)
     go_wp2_with fail
     go_roundw
     case rel=>exact⟨i+1,dj,by go_num,by omega,by omega,K2.out,S2.out.drewN _,by rw[←O1.out,insOuter_go _ _ _ _ _ hlt,←I2.out,ST.out]⟩
     case measure=>simp[intOf];omega
  ·have t1:decide ((i:Int)<(b:Int))=false:=decide_eq_false (by omega)
   go_wp2_with fail
   go_end0
   exact⟨rfl,by rw[←O1.out,insOuter_stop _ _ _ _ _ hlt];exact S1.out⟩
end Go.Proofs.YtfbpjobobdidiaaGreatDoor
namespace Go.Proofs.YtfbpjobobdidiaaGreatDoor
open Lib (hid)
open Go.Proofs.Tryz
open Go.RowKit
set_option linter.unusedVariables false
theorem own_form14 {α:Type} {w:World} {base:Nat} {e:TypeId} {k:Nat} {c:α→List Value} {v:Value} {es:List α} (h:Owns w base e k c v es):∃a n cap,v=.slice a n cap:=by
 rcases h.2 with ⟨h0,_⟩|⟨g,cap,cur,hv,_⟩
 ·exact⟨none,0,0,h0⟩
 ·exact⟨_,_,_,hv⟩
def bits13 (p:Int→Bool):Array Value:=Array.ofFn (n:=256) λi=>.bool (p (i.val:Int))
theorem bits_size (p:Int→Bool):(bits13 p).size=256:=by simp[bits13]
theorem bits_get (p:Int→Bool) {i:Nat} (h:i<256):(bits13 p)[i]? = some (.bool (p (i:Int))):=by simp[bits13,h]
theorem bits_put (p:Int→Bool) (x:Nat):(bits13 p).setIfInBounds x (.bool true)=bits13 (λy=>p y||decide (y=(x:Int))):=by
 apply Array.ext_getElem?
 intro i
 rw[Array.getElem?_setIfInBounds]
 by_cases h:i<256
 ·rw[bits_get p h,bits_get _ h]
  by_cases e:x=i
  ·subst e
   rw[if_pos rfl,if_pos (by rw[bits_size];exact h)]
   simp
  ·rw[if_neg e]
   have:¬ ((i:Int)=(x:Int)):=by omega
   simp[this]
 ·rw[Array.getElem?_eq_none (by rw[bits_size];omega),Array.getElem?_eq_none (by rw[bits_size];omega)]
  by_cases e:x=i
  ·subst e;rw[if_pos rfl,if_neg (by rw[bits_size];exact h)]
  ·rw[if_neg e]
theorem bits_one (p:Int→Bool):(bits13 p).all (·.oneCell')=true:=by
 rw[Array.all_eq_true]
 intro i hi
 simp[bits13]
 rfl
theorem bits_same {p q:Int→Bool} (h:∀x:Int,0≤x→x<256→p x=q x):bits13 p=bits13 q:=by
 apply Array.ext_getElem?
 intro i
 by_cases k:i<256
 ·rw[bits_get p k,bits_get q k,h i (by omega) (by omega)]
 ·rw[Array.getElem?_eq_none (by rw[bits_size];omega),Array.getElem?_eq_none (by rw[bits_size];omega)]
theorem info_set:(prog.info? 212).map (λi=>(i.zero,i.size))=some (some (.agg (bits13 (λ_=>false))),256):=by kernel_rfl
theorem zero_set (w:World):(zeroValue 212).run prog w=.ok (.agg (bits13 (λ_=>false))) w:=(zero_of_info info_set).1 w
theorem size_set (p:Int→Bool):(prog.info? 212).map (·.size)=some (bits13 p).size:=by rw[bits_size];exact (zero_of_info info_set).2
def SetAt (w:World) (g:Nat) (p:Int→Bool):Prop:=Row w g 212 (bits13 p)
theorem SetAt.still {w w':World} {g:Nat} {p:Int→Bool} (h:SetAt w g p) (o:Only n_ w w'):SetAt w' g p:=o.still h
theorem SetAt.cell {w:World} {g:Nat} {p:Int→Bool} (h:SetAt w g p) {i:Nat} (hi:i<256):w.cell? ⟨g,i,none⟩=some (.bool (p (i:Int))):=by rw[Row.cell h,bits_get p hi]
theorem Row.whole {w:World} {g:Nat} {t:TypeId} {cs:Array Value} (h:Row w g t cs) (ds:Array Value):Row (w.setRow g ds) g t ds:=setRow_heap w g cs ds t (0,0) h
theorem SetAt.store {w:World} {g:Nat} {p:Int→Bool} (h:SetAt w g p) (q:Int→Bool):SetAt (w.setRow g (bits13 q)) g q:=Row.whole h (bits13 q)
theorem Only.whole {S:Nat→Prop} {a w:World} (h:Only S a w) {g:Nat} (hg:g<a.heap.size→S g) (cs:Array Value):Only S a (w.setRow g cs):=
 h.trans (S':=λk=>k=g) ⟨rfl,rfl,rfl,by simp,λk _ hn=>setRow_other _ _ _ _ hn⟩ (λi hi s=>by subst s;exact hg hi)
theorem results_row_tmp {P:Program} {fn:Func} {p q:Tmp} {ty:TypeId} (h:fn.results=#[.cell p ty,.tmp q]) (tmps:Array Value) (w:World) (g:Nat) (t:TypeId) (cs:Array Value) (fr:Nat × Nat) (d:TypeDesc)
  (hp:tmps.getD p undef=.pointer (some ⟨g,0,none⟩)) (hg:w.heap[g]? = some (.cells cs t fr))
  (hu:P.underlying ty=some d) (hd:(match d with | .struct _ | .array _ _=>true | _=>false)=true) (hi:(P.info? ty).map (·.size)=some cs.size) :
  (results fn tmps).run P w=.ok (.tuple #[.agg cs,tmps.getD q undef]) w:=by
 have hp':tmps[p]?.getD undef=.pointer (some ⟨g,0,none⟩):=by simpa using hp
 simp[results,h,hp',asAddr,run_loadVar_row w g t ty cs fr d hg hu hd hi]
theorem results_set2 {fn:Func} {p q:Tmp} (h:fn.results=#[.cell p 212,.tmp q]) (tmps:Array Value) (w:World) (g:Nat) (f:Int→Bool)
  (hp:tmps.getD p undef=.pointer (some ⟨g,0,none⟩)) (hg:SetAt w g f):(results fn tmps).run prog w=.ok (.tuple #[.agg (bits13 f),tmps.getD q undef]) w:=
 results_row_tmp h tmps w g 212 (bits13 f) (0,0) _ hp hg underlying212 rfl (size_set f)
theorem info_run:(prog.info? 43).map (·.size)=some 2:=by kernel_rfl
theorem results_run {fn:Func} {p:Tmp} (h:fn.results=#[.cell p 43]) (tmps:Array Value) (w:World) (g:Nat) (r:Rn)
  (hp:tmps.getD p undef=.pointer (some ⟨g,0,none⟩)) (hg:Row w g 43 #[.int .i64 r.f,.int .i64 r.c]):(results fn tmps).run prog w=.ok r.val w:=
 results_cell_row h tmps w g 43 _ (0,0) _ hp hg underlying43 rfl info_run
theorem results_run2 {fn:Func} {p q:Tmp} (h:fn.results=#[.cell p 43,.tmp q]) (tmps:Array Value) (w:World) (g:Nat) (r:Rn)
  (hp:tmps.getD p undef=.pointer (some ⟨g,0,none⟩)) (hg:Row w g 43 #[.int .i64 r.f,.int .i64 r.c]):(results fn tmps).run prog w=.ok (.tuple #[r.val,tmps.getD q undef]) w:=
 results_row_tmp h tmps w g 43 _ (0,0) _ hp hg underlying43 rfl info_run
end Go.Proofs.YtfbpjobobdidiaaGreatDoor
namespace Go.Proofs.YtfbpjobobdidiaaGreatDoor
open Lib (hid)
open Go.Proofs.Tryz
open Go.RowKit Go.Maps
set_option linter.unusedVariables false
def roomP (nd na:Nat) (ps:List Pl) (a:Bool):Int:=(mostL nd na a:Int)-(ps.filter (λq=>q.a==a)).length
theorem troom_any {p b nd na L:Nat} {ps:List Pl} (a:Bool) (w:World) (h:TnAt w p b nd na L ps) :
  Calls prog 147 #[.pointer (some ⟨p,0,none⟩),.bool a] w λe w'=>e=.returned (.int .i64 (roomP nd na ps a))∧Only n_ w w':=by
 have FR:=hid (tfree_any w h)
 unfold Freed12 at FR
 unfold roomP
 clear h
 cases a with
 | false =>
  have E:=hid (show mostL nd na false=nd from rfl)
  rw[E.out]
  generalize (ps.filter (λq=>q.a==false)).length=m at *
  generalize (ps.filter (λq=>q.a==true)).length=n at *
  go_enter func147,ntmps147
  go_wp2_with fail
  (with_reducible refine (FR.out).mono ?_)
  rintro e w1 ⟨rfl,o⟩
  have O:=hid o
  clear o
  go_wp2_with fail
  go_ret
  exact⟨rfl,O.out⟩
 | true =>
  have E:=hid (show mostL nd na true=na from rfl)
  rw[E.out]
  generalize (ps.filter (λq=>q.a==false)).length=m at *
  generalize (ps.filter (λq=>q.a==true)).length=n at *
  go_enter func147,ntmps147
  go_wp2_with fail
  (with_reducible refine (FR.out).mono ?_)
  rintro e w1 ⟨rfl,o⟩
  have O:=hid o
  clear o
  go_wp2_with fail
  go_ret
  exact⟨rfl,O.out⟩
theorem tat_yes {p b nd na L:Nat} {ps:List Pl} (x:Int) (w:World) (h:TnAt w p b nd na L ps) (wx:(Lit.int .i64 x).wf=true) (hx:hasP ps x=true) :
  Calls prog 112 #[.pointer (some ⟨p,0,none⟩),.int .i64 x] w λe w'=>e=.returned (.agg #[.int .i64 (atP ps x).k,.bool (atP ps x).a,.int .i64 (atP ps x).n,.bool (atP ps x).s])∧Only n_ w w':=by
 have c2:w.cell? ⟨p,2,none⟩=some (.map (some b)):=by rw[h.row.cell];rfl
 have o1:=(Only.refl n_ w).alloc (.cells #[.int .i64 0,.bool false,.int .i64 0,.bool false] 169)
 have LK:=(h.md.still o1).look h.once wx
 have c2':(w.alloc (.cells #[.int .i64 0,.bool false,.int .i64 0,.bool false] 169)).cell? ⟨p,2,none⟩=some (.map (some b)):=o1.cell c2 (λs=>s)
 rw[hx] at LK
 have lp:=h.row.lt
 have O1:=hid o1
 generalize atP ps x=q at *
 unfold plVal at LK
 clear h wx hx o1
 go_enter func112,ntmps112
 go_wp2_with fail
 (with_reducible refine (unless_yes _ _).mono ?_)
 rintro e w' ⟨rfl,rfl⟩
 go_wp2_with fail
 refine bodyPost_ret (v:=.agg #[.int .i64 q.k,.bool q.a,.int .i64 q.n,.bool q.s]) (by simp[results,Tryz.results112,go_sem]) rfl ⟨rfl,?_⟩
 exact ((Only.refl _ _).alloc _).alloc _
theorem tat_no {p b nd na L:Nat} {ps:List Pl} (x:Int) (w:World) (h:TnAt w p b nd na L ps) (wx:(Lit.int .i64 x).wf=true) (hx:hasP ps x=false) :
  Calls prog 112 #[.pointer (some ⟨p,0,none⟩),.int .i64 x] w λe w'=>e=left 3∧Only n_ w w':=by
 have c2:w.cell? ⟨p,2,none⟩=some (.map (some b)):=by rw[h.row.cell];rfl
 have o1:=(Only.refl n_ w).alloc (.cells #[.int .i64 0,.bool false,.int .i64 0,.bool false] 169)
 have LK:=(h.md.still o1).look h.once wx
 have c2':(w.alloc (.cells #[.int .i64 0,.bool false,.int .i64 0,.bool false] 169)).cell? ⟨p,2,none⟩=some (.map (some b)):=o1.cell c2 (λs=>s)
 rw[hx] at LK
 have lp:=h.row.lt
 have O1:=hid o1
 generalize atP ps x=q at *
 unfold plVal at LK
 clear h wx hx o1
 go_enter func112,ntmps112
 go_wp2_with fail
 (with_reducible refine (unless_no _ _).mono ?_)
 rintro e w' ⟨rfl,rfl⟩
 go_wp2_with fail
 exact⟨rfl,rfl,O1.out.alloc _⟩
def enterP (ps:List Pl) (L:Nat) (q:Pl):List Pl:=ps.filter (λp=>!(p.k==q.k))++[⟨q.k,q.a,L+1,q.s⟩]
theorem enter_at {w w':World} {p b nd na L:Nat} {ps:List Pl} {q:Pl} (h:TnAt w p b nd na L ps) (hr:0<roomP nd na ps q.a) (r:Row w' p 147 #[.int .i64 nd,.int .i64 na,.map (some b),.int .i64 ((L+1:Nat):Int)]) (m:Md12 w' b (enterP ps L q)) (o:Once12 (enterP ps L q)):TnAt w' p b nd na (L+1) (enterP ps L q):=by
 refine⟨r,m,o,?_,?_,?_,h.nd64,h.na64⟩
 ·unfold Rise enterP
  rw[List.pairwise_append]
  refine⟨h.rise.filter _,List.pairwise_singleton _ _,λa ha c hc=>?_⟩
  rw[List.mem_singleton.1 hc]
  have:=(h.top a (List.mem_filter.1 ha).1).2
  show a.n<(L:Int)+1
  omega
 ·intro a ha
  rcases List.mem_append.1 ha with ha | ha
  ·have:=h.top a (List.mem_filter.1 ha).1
   omega
  ·rw[List.mem_singleton.1 ha]
   show (0:Int)≤(L:Int)+1∧(L:Int)+1≤((L+1:Nat):Int)
   omega
 ·intro a
  unfold enterP
  have h1:=h.few a
  have h2:((ps.filter (λp=>!(p.k==q.k))).filter (λp=>p.a==a)).length≤(ps.filter (λp=>p.a==a)).length:=by
   rw[List.filter_filter]
   have:(λp:Pl=>(p.a==a)&&!(p.k==q.k))=λp=>(!(p.k==q.k))&&(p.a==a):=by funext p;rw[Bool.and_comm]
   rw[this,←List.filter_filter]
   exact List.length_filter_le _ _
  rw[List.filter_append,List.length_append]
  by_cases e:q.a=a
  ·subst e
   have:(List.filter (λp:Pl=>p.a==q.a) [⟨q.k,q.a,(L:Int)+1,q.s⟩]).length≤1:=List.length_filter_le _ _
   unfold roomP at hr
   omega
  ·have:(List.filter (λp:Pl=>p.a==a) [⟨q.k,q.a,(L:Int)+1,q.s⟩]).length=0:=by
    simp[e]
   omega
theorem enter_once {ps:List Pl} (h:Once12 ps) (L:Nat) (q:Pl):Once12 (enterP ps L q):=by
 unfold Once12 enterP
 rw[List.pairwise_append]
 refine⟨h.filter _,List.pairwise_singleton _ _,λa ha c hc=>?_⟩
 rw[List.mem_singleton.1 hc]
 simpa using (List.mem_filter.1 ha).2
theorem tenter_no {p b nd na L:Nat} {ps:List Pl} (q:Pl) (w:World) (h:TnAt w p b nd na L ps) (hr:¬ 0<roomP nd na ps q.a) :
  Calls prog 113 #[.pointer (some ⟨p,0,none⟩),.agg #[.int .i64 q.k,.bool q.a,.int .i64 q.n,.bool q.s]] w λe w'=>e=left 2∧Only n_ w w':=by
 have o1:=(Only.refl n_ w).alloc (.cells #[.int .i64 q.k,.bool q.a,.int .i64 q.n,.bool q.s] 169)
 have O1:=hid o1
 have RM:=hid (troom_any q.a _ (h.still o1))
 have d:decide (0<roomP nd na ps q.a)=false:=by simpa using hr
 clear h o1 hr
 generalize roomP nd na ps q.a=r at *
 go_enter func113,ntmps113
 go_wp2_with fail
 (with_reducible refine (RM.out).mono ?_)
 rintro e w1 ⟨rfl,o⟩
 have O2:=hid (O1.out.same o)
 clear o
 go_wp2_with fail
 (with_reducible refine (unless_no _ _).mono ?_)
 rintro e w' ⟨rfl,rfl⟩
 go_wp2_with fail
 exact⟨rfl,rfl,O2.out⟩
theorem tenter_yes {p b nd na L:Nat} {ps:List Pl} (q:Pl) (w:World) (h:TnAt w p b nd na L ps) (hr:0<roomP nd na ps q.a) (hL:L<100000000) (wx:(Lit.int .i64 q.k).wf=true) :
  Calls prog 113 #[.pointer (some ⟨p,0,none⟩),.agg #[.int .i64 q.k,.bool q.a,.int .i64 q.n,.bool q.s]] w λe w'=>e=.returned (.tuple #[])∧TnAt w' p b nd na (L+1) (enterP ps L q)∧Only (two12 p b) w w':=by
 have o1:=(Only.refl n_ w).alloc (.cells #[.int .i64 q.k,.bool q.a,.int .i64 q.n,.bool q.s] 169)
 have O1:=hid o1
 have RM:=hid (troom_any q.a _ (h.still o1))
 have d:decide (0<roomP nd na ps q.a)=true:=by simpa using hr
 have H:=hid h
 have HR:=hid hr
 have lp:=h.row.lt
 have lb:=h.md.lt
 have ne:=h.ne
 have RX:=hid (Row.fresh w 169 #[.int .i64 q.k,.bool q.a,.int .i64 q.n,.bool q.s])
 clear h o1 hr
 generalize roomP nd na ps q.a=r at RM d
 go_enter func113,ntmps113
 go_wp2_with fail
 (with_reducible refine (RM.out).mono ?_)
 rintro e w1 ⟨rfl,o⟩
 have O2:=hid (O1.out.same o)
 have RX1:=hid (o.still RX.out)
 have H1:=hid (H.out.still O2.out)
 obtain⟨x,hx⟩:∃x,w.heap.size=x:=⟨_,rfl⟩
 have nx:p≠x:=by omega
 have nb:b≠x:=by omega
 rw[hx] at RX1 ⊢
 have HX:=hid hx
 clear o RX RM H
 have c3:w1.cell? ⟨p,3,none⟩=some (.int .i64 L):=by rw[H1.out.row.cell];rfl
 have c2:w1.cell? ⟨p,2,none⟩=some (.map (some b)):=by rw[H1.out.row.cell];rfl
 have z3:=H1.out.row.frozen 3
 have z2:=RX1.out.frozen 2
 obtain⟨e0,e1,e2,e3⟩:=RX1.out.four
 go_wp2_with fail
 (with_reducible refine (unless_yes _ _).mono ?_)
 rintro e w' ⟨rfl,rfl⟩
 go_wp2_with fail
 have oS:=((Only.refl (λk=>k=p∨k=x) w1).into (b:=p) (.inl rfl) 3 (.int .i64 ((L:Int)+1))).into (b:=x) (.inr rfl) 2 (.int .i64 ((L:Int)+1))
 have R3:=hid ((((H1.out.row.put 3 (.int .i64 ((L:Int)+1))).far (p:=⟨x,2,none⟩) nx (.int .i64 ((L:Int)+1)))).drew)
 have RX3:=hid (((RX1.out.far (p:=⟨p,3,none⟩) (λe=>nx e.symm) (.int .i64 ((L:Int)+1))).put 2 (.int .i64 ((L:Int)+1))).drew)
 have M3:=hid (H1.out.md.keep oS.drew (λe=>e.elim (λk=>ne k.symm) nb))
 have oP:=(O2.out.up (S:=two12 p b)).trans oS.drew (λi hi e=>e.elim (λk=>.inl k) (λk=>by omega))
 have OP:=hid oP
 clear oS oP c3 c2 z3 z2 e0 e1 e2 e3
 have c2:(((w1.setCell ⟨p,3,none⟩ (.int .i64 ((L:Int)+1))).setCell ⟨x,2,none⟩ (.int .i64 ((L:Int)+1))).drew).cell? ⟨p,2,none⟩=some (.map (some b)):=by rw[R3.out.cell];rfl
 obtain⟨e0,e1,e2,e3⟩:(((w1.setCell ⟨p,3,none⟩ (.int .i64 ((L:Int)+1))).setCell ⟨x,2,none⟩ (.int .i64 ((L:Int)+1))).drew).cell? ⟨x,0,none⟩=some (.int .i64 q.k)∧(((w1.setCell ⟨p,3,none⟩ (.int .i64 ((L:Int)+1))).setCell ⟨x,2,none⟩ (.int .i64 ((L:Int)+1))).drew).cell? ⟨x,1,none⟩=some (.bool q.a)∧(((w1.setCell ⟨p,3,none⟩ (.int .i64 ((L:Int)+1))).setCell ⟨x,2,none⟩ (.int .i64 ((L:Int)+1))).drew).cell? ⟨x,2,none⟩=some (.int .i64 ((L:Int)+1))∧(((w1.setCell ⟨p,3,none⟩ (.int .i64 ((L:Int)+1))).setCell ⟨x,2,none⟩ (.int .i64 ((L:Int)+1))).drew).cell? ⟨x,3,none⟩=some (.bool q.s):=RX3.out.four
 have ON:=hid (enter_once H1.out.once L q)
 obtain⟨w5,run5,m5,o5⟩:=M3.out.store (qs:=enterP ps L q) ON.out (by have:=H1.out.len;omega) ⟨q.k,q.a,L+1,q.s⟩ wx (λr hr=>by
  rcases List.mem_append.1 hr with hr | hr
  ·have:=List.mem_filter.1 hr
   exact .inr ⟨this.1,by simpa using this.2⟩
  ·exact .inl (List.mem_singleton.1 hr)) (List.mem_append.2 (.inr (by simp))) (λr hr hk=>List.mem_append.2 (.inl (List.mem_filter.2 ⟨hr,by simpa using hk⟩)))
 have M5:=hid m5
 have O5:=hid (OP.out.same (o5.more (λi hi e=>.inr e)))
 have R5:=hid (o5.row R3.out (λe=>ne e))
 unfold plVal at run5
 clear m5 o5
 go_region
 all_goals
  go_wp2_with fail
  go_end0
  exact⟨rfl,enter_at H1.out HR.out R5.out M5.out ON.out,O5.out⟩
theorem one_cells_one (l:List Int):∀u∈l.flatMap one11,u.oneCell'=true:=λu hu=>by
 obtain⟨x,_,hx⟩:=List.mem_flatMap.1 hu
 exact one_one x u hx
theorem one_flat_len (l:List Int):(l.flatMap one11).length=l.length*1:=by
 have:=flat_size one1 l
 unfold flat at this
 simpa using this
theorem lheads_any {p:Nat} {M:Nat→Prop} {n room:Nat} {ss:List Sd} (w:World) (h:Ln w p M n room ss) (hl:ss.length≤1000) (hn:n≤1000) :
  Calls prog 135 #[.pointer (some ⟨p,0,none⟩)] w λe w'=>∃v',e=.returned v'∧OwI w' w.heap.size v' (headsL ss n)∧Only n_ w w':=by
 obtain⟨r,b,vs,h⟩:=h
 have KR:=hid (λw' (o:Only n_ w w')=>h.still o)
 have c0:w.cell? ⟨p,0,none⟩=some (.slice (some ⟨r,0,none⟩) n n):=by rw[h.row.cell];rfl
 clear h
 obtain⟨i0,hi0,hz0,hz1,hz2⟩:=info_partsR info_int8
 have I0:=hid hi0
 have I1:=hid hz0
 have I2:=hid hz1
 have I3:=hid hz2
 clear hi0 hz0 hz1 hz2
 go_enter func135,ntmps135
 go_wp2_with fail
 go_loopw [3,13] (λv i wr=>∃(k:Nat),k≤n∧i=.int .i64 k∧OwI wr w.heap.size v (headsL ss k)∧Only n_ w wr) (λ_ i _=>n-(intOf i).toNat)
 case atStart=>exact⟨0,Nat.zero_le _,rfl,Owns.start _ _ _ _ _,Only.refl _ _⟩
 case round =>
  obtain⟨k,hk,rfl,hV,hO⟩:=hrel
  have HO:=hid hO
  have HW:=hid hV
  by_cases hlt:k<n
  ·have hh:=KR.out _ hO
   obtain⟨u,hu⟩:∃u,vs[k]? = some u:=⟨_,List.getElem?_eq_getElem (by rw[hh.len];exact hlt)⟩
   have c1:wr.cell? ⟨r,k,none⟩=some u:=by rw[hh.rows.cell];simpa using hu
   have ll:=lane_le ss (k:Int)
   have AT:=hid (at_any u _ 0 wr (Reads.of_owns (hh.lanes k u hu)) (by omega))
   rw[(at_head _).1,(at_head _).2] at AT
   clear hO hV hh hu ll
   cases e:laneL ss (k:Int) with
   | nil =>
    have MORE:=hid (heads_skip e)
    rw[e] at AT
    have E0:=hid (show headI []=0∧someB []=false from ⟨rfl,rfl⟩)
    rw[E0.out.1,E0.out.2] at AT
    clear e
    go_wp2_with fail
    (with_reducible refine AT.out.mono ?_)
    rintro e w' ⟨rfl,rfl⟩
    go_wp2_with fail
    go_roundw
    case rel=>exact⟨k+1,by omega,by go_num,by rw[MORE.out];exact HW.out,HO.out⟩
    case measure=>simp[intOf];omega
   | cons x l =>
    have MORE:=hid (heads_yes e)
    rw[e] at AT
    have E0:=hid (show headI (x::l)=x∧someB (x::l)=true from ⟨rfl,rfl⟩)
    rw[E0.out.1,E0.out.2] at AT
    clear e
    have RF:=hid (Row.fresh wr 3 #[.int .i64 x])
    have HW2:=hid (HW.out.still ((Only.refl n_ wr).alloc (.cells #[.int .i64 x] 3)))
    have HO2:=hid (HO.out.idle ((Only.refl n_ wr).alloc (.cells #[.int .i64 x] 3)))
    have sz:w.heap.size≤(wr.alloc (.cells #[.int .i64 x] 3)).heap.size:=HO2.out.size
    have ln:=heads_le ss k
    have l1:=hid (show (headsL ss k).length<9223372036854775807 from by omega)
    have l2:=hid (show ((headsL ss k).length+1)*8≤140737488355328 from by omega)
    clear ln
    go_wp2_with fail
    (with_reducible refine AT.out.mono ?_)
    rintro e w' ⟨rfl,rfl⟩
    go_wp2_with (at_builtin;go_loud (refine wpList_append_one rfl (.tmp 23) (.tmp 25) 44 rfl (c:=one11) i0 _ 8 underlying44 I0.out I1.out I2.out I3.out rfl (by decide) one1 one_one rfl HW2.out (y:=x) rfl RF.out l1.out l2.out sz ?_;intro v5 w5 hown5 hO5))
    rw[←MORE.out] at hown5
    have HO5:=hid (HO2.out.trans hO5 (λi hi q=>by omega))
    have W5:=hid hown5
    clear hown5 hO5
    go_wp2_with fail
    go_roundw
    case rel=>exact⟨k+1,by omega,by go_num,W5.out,HO5.out⟩
    case measure=>simp[intOf];omega
  ·have e:k=n:=by omega
   subst e
   go_wp2_with fail
   go_ret
   exact⟨_,rfl,HW.out,HO.out⟩
end Go.Proofs.YtfbpjobobdidiaaGreatDoor
