/- Texts of the layers below, one behind the other. -/
import Derived.Test.YtfbpjobobdidiaaGreatDoorRG29
set_option maxRecDepth 100000
set_option maxHeartbeats 4000000
namespace Go.Proofs.YtfbpjobobdidiaaGreatDoor
open Lib (hid)
open Go.Proofs.Tryz
open Go.RowKit Go.Maps
set_option linter.unusedVariables false
theorem wpList_append_one16 {α:Type} {P:Program} {w:World} {ops:Array Oper} {rest:List Oper} {o:Oper} {a:Act} {Q:Exit→Act→World→Prop} (hgd:o.guard=none) (s x:Operand) (t:TypeId)
  (ho:o.op=.call { callee:=.builtin .append,args:=#[s,x],argTypes:=#[t,t] })
  {base:Nat} {e:TypeId} {k:Nat} {c:α→List Value} (i:TypeInfo) (z:Value) (bytes:Nat) (ht:P.underlying t=some (.slice e)) (hi:P.info? e=some i) (hz:i.zero=some z)
  (hsize:i.size=k) (hby:i.bytes=bytes) (hzs:z.cells.size=k) (hk0:0<k) (hk:∀y,(c y).length=k) (h1:∀y,∀u∈c y,u.oneCell'=true)
  {v:Value} {xs:List α} (hs:a.eval s=v) (hown:Owns w base e k c v xs)
  {g cc:Nat} {y:α} (hx:a.eval x=.slice (some ⟨g,0,none⟩) 1 cc) (hrow:Row w g e (c y).toArray)
  (hlen:xs.length<9223372036854775807) (hbytes:(xs.length+1)*bytes≤140737488355328) (hbase:base≤w.heap.size)
  (h:∀v' w',Owns w' base e k c v' (xs++[y])→Only (λj=>some j=v.ownBlock) w w'→(v'.ownBlock=v.ownBlock∨v'.ownBlock=some w.heap.size)→wpList P ops Q rest (a.put o.dst v') w'):wpList P ops Q (o::rest) a w:=by
 refine wpList_plain hgd λK' hK'=>?_
 have news:∀j u,(c y)[j]? = some u→w.cell? ((⟨g,0,none⟩:Addr).add j)=some u:=λj u hj=>by
  rw[add12,Nat.zero_add,hrow.cell,List.getElem?_toArray]
  exact hj
 obtain⟨v',w',hrun,r1,r2,_,r4⟩:=run_append_own_at (P:=P) w base t o.type e i z k bytes ht hi hz hsize hby hzs hk0 v xs.length (xs.flatMap c) hown ⟨g,0,none⟩ 1 cc (c y) (by rw[hk];omega) news (h1 y) (by unfold maxLen;omega) hbytes hbase
 unfold Oper.wp
 simp[execOp,ho,resolve,invoke,builtin,hs,hx,hrun,Result.andThen]
 refine hK' _ _ (h v' w' ?_ (Only.of_grown r2) r4)
 unfold Owns
 rw[List.flatMap_append,List.length_append]
 simpa using r1
section
variable {p:Nat} {c:Nat→Nat} {X:Loc} {F H:Nat} {ks:List Tk} {E:Eng}
def Eng.heads (E:Eng):List Tk:=(List.range E.o.b0.toNat).filterMap (λb:Nat=>E.head b)
theorem heads_tk (E:Eng):headsL (E.ts.map Tk.sd) E.o.b0.toNat=E.heads.map (·.id):=by
 unfold headsL Eng.heads
 rw[List.map_filterMap]
 congr 1
 funext b
 rw[lane_sd,List.head?_map]
 rfl
theorem heads_in {E:Eng} {t:Tk} (h:t∈E.heads):t∈E.ts:=by
 unfold Eng.heads at h
 obtain⟨b,hb,e⟩:=List.mem_filterMap.1 h
 exact (head_in e).1
def goes (kind:Int) (t:Tk):Bool:=!t.out&&(t.kind==kind)
theorem eready_any (kind:Int) (w:World) (h:EP w p c X F H ks E) :
  Calls prog 101 #[pT p,.int .i64 kind] w λe w'=>∃v u,e=.returned (.tuple #[v,u])∧OwI w' w.heap.size v ((E.ready kind).map (·.b))∧OwI w' w.heap.size u (((E.ready kind).filter (·.needs)).map (·.b))∧Only n_ w w':=by
 have c14:w.cell? ⟨p,14,none⟩=some (.pointer (some ⟨X.pl,0,none⟩)):=h.cell 14
 have HH:=lheads_any w h.eo.ln h.bd.2 h.bd.1
 rw[heads_tk] at HH
 have HH:=hid HH
 have LH:E.heads.length≤256:=by
  have:=h.may
  unfold Opt.MayC at this
  have h2:=List.length_filterMap_le (λb:Nat=>E.head b) (List.range E.o.b0.toNat)
  rw[List.length_range] at h2
  unfold Eng.heads
  omega
 have RE:E.ready kind=E.heads.filter (goes kind):=rfl
 rw[RE]
 have H0:=hid h
 have ONC:=hid h.once
 clear RE
 generalize hts:E.heads=hs at *
 have INS:=hid (λt (ht:t∈hs)=>show t∈E.ts from heads_in (by rw[hts];exact ht))
 obtain⟨i0,hi0,hz0,hz1,hz2⟩:=info_partsR info_int8
 have I0:=hid hi0
 have I1:=hid hz0
 have I2:=hid hz1
 have I3:=hid hz2
 clear hi0 hz0 hz1 hz2 h hts
 unfold pT
 go_enter func101,ntmps101
 go_wp2_with fail
 (with_reducible refine (HH.out).mono ?_)
 rintro e w1 ⟨v1,rfl,own1,o1⟩
 have rd1:=Reads.of_owns own1
 obtain⟨ra,rc,rfl,rd⟩:=rd1
 have O1:=hid o1
 have RD:=hid rd
 rw[List.length_map]
 clear rd own1 o1
 go_wp2_with fail
 go_loopw [4,5,7,8,15] (λv u _ _ i wr=>∃k:Nat,k≤hs.length∧i=.int .i64 k∧OwI wr w1.heap.size v (((hs.take k).filter (goes kind)).map (·.b))∧OwI wr w1.heap.size u ((((hs.take k).filter (goes kind)).filter (·.needs)).map (·.b))∧(∀g,v.ownBlock=some g→u.ownBlock≠some g)∧Only n_ w1 wr) (λ_ _ _ _ i _=>hs.length-(intOf i).toNat)
 case atStart=>exact⟨0,Nat.zero_le _,rfl,Owns.start _ _ _ _ _,Owns.start _ _ _ _ _,λg hg=>(by cases hg),Only.refl _ _⟩
 case round =>
  obtain⟨k,hk,rfl,hv,hu,ap,ho⟩:=hrel
  have HV:=hid hv
  have HU:=hid hu
  have AP:=hid ap
  have HO:=hid ho
  clear hv hu ap ho
  by_cases hlt:k<hs.length
  ·obtain⟨t,ht⟩:∃t,hs[k]? = some t:=⟨_,List.getElem?_eq_getElem hlt⟩
   have tm:=INS.out t (List.mem_of_getElem? ht)
   have hw0:=(H0.out.still (O1.out.same HO.out))
   have rdw:=(show Reads w1 (.slice ra (hs.map (·.id)).length rc) (hs.map (·.id)) from ⟨ra,rc,rfl,RD.out⟩).still HO.out
   obtain⟨ra',rc',e1,rd'⟩:=rdw
   obtain⟨g,ao,e2,ck⟩:=rd' k t.id (by rw[List.getElem?_map,ht];rfl)
   cases e1
   subst e2
   have c14:wr.cell? ⟨p,14,none⟩=some (.pointer (some ⟨X.pl,0,none⟩)):=hw0.cell 14
   have c17:wr.cell? ⟨p,17,none⟩=some (.map (some X.bt)):=hw0.cell 17
   have tid:=H0.out.idr t (H0.out.sub t tm)
   have wx:(Lit.int .i64 t.id).wf=true:=wf_i _ (by have:=H0.out.ntH;have:=H0.out.hH;omega)
   have LK:=hw0.eo.tm.look underlying96 (zeroPtr wr) wx
   rw[at16_tk,at16_mem ONC.out tm] at LK
   have r:=hw0.rowOf tm
   obtain⟨gt,hgt⟩:∃gt,X.A t.id=gt:=⟨_,rfl⟩
   unfold optPtr pT at LK
   simp only[hgt] at LK r
   have R:=hid r
   have c1:wr.cell? ⟨gt,1,none⟩=some (.int .i64 t.kind):=r.cell 1
   have c2:wr.cell? ⟨gt,2,none⟩=some (.int .i64 t.b):=r.cell 2
   have c6:wr.cell? ⟨gt,6,none⟩=some (.bool t.out):=r.cell 6
   have TKE:=hid (show hs.take (k+1)=hs.take k++[t] from by rw[List.take_add_one,ht];rfl)
   have TL:=hid (show (hs.take k).length≤256 from by rw[List.length_take];omega)
   clear r hw0 rd' tid wx hgt tm ht
   cases hout:t.out with
   | true =>
    have GO:=hid (show (hs.take (k+1)).filter (goes kind)=(hs.take k).filter (goes kind) from by rw[TKE.out,List.filter_append];simp[goes,hout])
    rw[hout] at c6
    clear hout
    go_wp2_with fail
    go_roundw
    case rel=>exact⟨k+1,by omega,by go_num,by rw[GO.out];exact HV.out,by rw[GO.out];exact HU.out,AP.out,HO.out⟩
    case measure=>simp[intOf];omega
   | false =>
    rw[hout] at c6
    by_cases kk:t.kind=kind
    ·have kb:(t.kind != kind)=false:=by simpa using kk
     have GO:=hid (show (hs.take (k+1)).filter (goes kind)=(hs.take k).filter (goes kind)++[t] from by rw[TKE.out,List.filter_append];simp[goes,hout,kk])
     have L1:=hid (show ((hs.take k).filter (goes kind)).length≤256 from Nat.le_trans (List.length_filter_le _ _) TL.out)
     have L2:=hid (show (((hs.take k).filter (goes kind)).filter (·.needs)).length≤256 from Nat.le_trans (List.length_filter_le _ _) L1.out)
     clear hout kk
     have RF:=hid (Row.fresh wr 3 #[.int .i64 t.b])
     have oa:Only n_ wr (wr.alloc (.cells #[.int .i64 t.b] 3)):=(Only.refl n_ wr).alloc _
     have HV2:=hid (HV.out.still oa)
     have HU2:=hid (HU.out.still oa)
     have HO2:=hid (HO.out.same oa)
     have R2:=hid (R.out |> oa.still)
     have sz:=HO2.out.size
     have l1:(((hs.take k).filter (goes kind)).map (·.b)).length<9223372036854775807:=by rw[List.length_map];have:=L1.out;omega
     have l2:((((hs.take k).filter (goes kind)).map (·.b)).length+1)*8≤140737488355328:=by rw[List.length_map];have:=L1.out;omega
     go_wp2_with (at_builtin;go_loud (refine wpList_append_one16 rfl (.tmp 39) (.tmp 45) 44 rfl (c:=one11) i0 _ 8 underlying44 I0.out I1.out I2.out I3.out rfl (by decide) one1 one_one rfl HV2.out (y:=t.b) rfl RF.out l1 l2 sz ?_;intro v5 w5 hown5 hO5 hb5))
     have hO5:Only (λj=>some j=u4.ownBlock) (wr.alloc (.cells #[.int .i64 t.b] 3)) w5:=hO5
     have hb5:v5.ownBlock=u4.ownBlock∨v5.ownBlock=some (wr.alloc (.cells #[.int .i64 t.b] 3)).heap.size:=hb5
     have V5:=hid (show OwI w5 w1.heap.size v5 (((hs.take (k+1)).filter (goes kind)).map (·.b)) from by rw[GO.out,List.map_append];exact hown5)
     have U5:=hid (HU2.out.keep hO5 (λg hg e=>AP.out g e.symm hg))
     have AP5:=hid (show ∀g,v5.ownBlock=some g→u5.ownBlock≠some g from λg hg e=>hb5.elim (λq=>AP.out g (q▸hg) e) (λq=>by
      have:=(HU2.out.base_le e).2
      rw[q] at hg
      cases hg
      omega))
     have HO5:=hid (HO2.out.trans hO5 (λi hi q=>by have:=(HV2.out.base_le q.symm).1;omega))
     have R5:=hid (hO5.row R2.out (λe=>own_row HV2.out R2.out (by decide) e))
     have EN:=hid (eneeds_any gt t w5 R5.out)
     clear hown5 hO5 hb5 HV2 HU2 HO2 HV HU AP l1 l2 sz
     unfold pT at EN
     cases hn:t.needs with
     | false =>
      rw[hn] at EN
      have GU:=hid (show ((hs.take (k+1)).filter (goes kind)).filter (·.needs)=((hs.take k).filter (goes kind)).filter (·.needs) from by rw[GO.out,List.filter_append];simp[hn])
      clear hn
      (with_reducible refine EN.out.mono ?_)
      rintro e w6 ⟨rfl,o6⟩
      have U6:=hid (U5.out.still o6)
      have V6:=hid (V5.out.still o6)
      have HO6:=hid (HO5.out.same o6)
      clear o6 U5 V5 HO5
      go_wp2_with fail
      go_roundw
      case rel=>exact⟨k+1,by omega,by go_num,V6.out,by rw[GU.out];exact U6.out,AP5.out,HO6.out⟩
      case measure=>simp[intOf];omega
     | true =>
      rw[hn] at EN
      have GU:=hid (show ((hs.take (k+1)).filter (goes kind)).filter (·.needs)=((hs.take k).filter (goes kind)).filter (·.needs)++[t] from by rw[GO.out,List.filter_append];simp[hn])
      clear hn
      (with_reducible refine EN.out.mono ?_)
      rintro e w6 ⟨rfl,o6⟩
      have c2:w6.cell? ⟨gt,2,none⟩=some (.int .i64 t.b):=(R5.out |> o6.still).cell 2
      have RF6:=hid (Row.fresh w6 3 #[.int .i64 t.b])
      have oa6:Only n_ w6 (w6.alloc (.cells #[.int .i64 t.b] 3)):=(Only.refl n_ w6).alloc _
      have U6:=hid (U5.out.still (o6.same oa6))
      have V6:=hid (V5.out.still (o6.same oa6))
      have HO6:=hid (HO5.out.same (o6.same oa6))
      have sz:=HO6.out.size
      have l1:((((hs.take k).filter (goes kind)).filter (·.needs)).map (·.b)).length<9223372036854775807:=by rw[List.length_map];have:=L2.out;omega
      have l2:(((((hs.take k).filter (goes kind)).filter (·.needs)).map (·.b)).length+1)*8≤140737488355328:=by rw[List.length_map];have:=L2.out;omega
      clear o6 U5 V5 HO5
      go_wp2_with (at_builtin;go_loud (refine wpList_append_one16 rfl (.tmp 49) (.tmp 55) 44 rfl (c:=one11) i0 _ 8 underlying44 I0.out I1.out I2.out I3.out rfl (by decide) one1 one_one rfl U6.out (y:=t.b) rfl RF6.out l1 l2 sz ?_;intro v7 w7 hown7 hO7 hb7))
      have hO7:Only (λj=>some j=u5.ownBlock) (w6.alloc (.cells #[.int .i64 t.b] 3)) w7:=hO7
      have hb7:v7.ownBlock=u5.ownBlock∨v7.ownBlock=some (w6.alloc (.cells #[.int .i64 t.b] 3)).heap.size:=hb7
      have U7:=hid (show OwI w7 w1.heap.size v7 ((((hs.take (k+1)).filter (goes kind)).filter (·.needs)).map (·.b)) from by rw[GU.out,List.map_append];exact hown7)
      have V7:=hid (V6.out.keep hO7 (λg hg e=>AP5.out g hg e.symm))
      have AP7:=hid (show ∀g,v5.ownBlock=some g→v7.ownBlock≠some g from λg hg e=>hb7.elim (λq=>AP5.out g hg (q▸e)) (λq=>by
       have:=(V6.out.base_le hg).2
       rw[q] at e
       cases e
       omega))
      have HO7:=hid (HO6.out.trans hO7 (λi hi q=>by have:=(U6.out.base_le q.symm).1;omega))
      clear hown7 hO7 hb7 U6 V6 HO6
      go_wp2_with fail
      go_roundw
      case rel=>exact⟨k+1,by omega,by go_num,V7.out,U7.out,AP7.out,HO7.out⟩
      case measure=>simp[intOf];omega
    ·have kb:(t.kind != kind)=true:=by simpa using kk
     have GO:=hid (show (hs.take (k+1)).filter (goes kind)=(hs.take k).filter (goes kind) from by rw[TKE.out,List.filter_append];simp[goes,kk])
     clear hout kk
     go_wp2_with fail
     go_roundw
     case rel=>exact⟨k+1,by omega,by go_num,by rw[GO.out];exact HV.out,by rw[GO.out];exact HU.out,AP.out,HO.out⟩
     case measure=>simp[intOf];omega
  ·have e:k=hs.length:=by omega
   subst e
   have HV2:=HV.out
   have HU2:=HU.out
   rw[List.take_length] at HV2 HU2
   obtain⟨va,vc,rfl⟩:=own_len12 HV2
   obtain⟨ua,uc,rfl⟩:=own_len12 HU2
   have HV2:=hid HV2
   have HU2:=hid HU2
   clear HV HU AP
   go_wp2_with fail
   go_ret2
   exact⟨_,_,rfl,HV2.out.lower11 O1.out.size,HU2.out.lower11 O1.out.size,O1.out.same HO.out⟩
end
section
variable {p:Nat} {c:Nat→Nat} {X:Loc} {F H:Nat} {ks:List Tk} {E:Eng}
def fateN (b7 n tries:Int) (well:Bool):Int:=if well then 0 else if 0<n∧tries+1<b7 then 1 else 2
theorem efate_any (t:Tk) (n:Int) (well:Bool) (w:World) (h:EP w p c X F H ks E) (ht:0≤t.tries∧t.tries≤1000) :
  Calls prog 120 #[pT p,t.told n,.bool well] w λe w'=>e=.returned (.int .i64 (fateN E.o.b7 n t.tries well))∧Only n_ w w':=by
 obtain⟨W1,hW1⟩:∃W1,W1=w.alloc (.cells (t.toldC n) 54):=⟨_,rfl⟩
 have o1:Only n_ w W1:=by rw[hW1];exact (Only.refl _ _).alloc _
 have r1:Row W1 w.heap.size 54 (t.toldC n):=by rw[hW1];exact Row.fresh _ _ _
 have od:=o1.drew
 have q7:W1.cell? ⟨p,7,none⟩=some (.int .i64 E.o.b7):=(h.still o1).cell 7
 have q4:W1.cell? ⟨w.heap.size,4,none⟩=some (.int .i64 t.tries):=r1.cell 4
 have q5:W1.cell? ⟨w.heap.size,5,none⟩=some (.int .i64 n):=r1.cell 5
 have v1:IntKind.i64.wrap (t.tries+1)=t.tries+1:=by rw[IntKind.wrap_i64];omega
 have O1:=hid o1
 have OD:=hid od
 clear h o1 r1 od ht
 unfold Tk.told Tk.toldC at *
 unfold pT
 generalize E.o.b7=b7 at *
 cases well with
 | true =>
  go_enter func120,ntmps120
  go_wp2_with fail
  rw[←hW1]
  go_ret
  exact⟨rfl,O1.out⟩
 | false =>
  by_cases k1:0<n
  ·have d1:decide (0<n)=true:=decide_eq_true k1
   by_cases k2:t.tries+1<b7
   ·have d2:decide (t.tries+1<b7)=true:=decide_eq_true k2
    have EQ:=hid (show fateN b7 n t.tries false=1 from by unfold fateN;rw[if_neg (by decide),if_pos ⟨k1,k2⟩])
    clear k1 k2
    go_enter func120,ntmps120
    go_upto_region 3 with fail
    rw[←hW1]
    clear hW1
    go_quiet (fail)
    go_wp2_with fail
    go_ret
    exact⟨by rw[EQ.out];rfl,O1.out.drewN _⟩
   ·have d2:decide (t.tries+1<b7)=false:=decide_eq_false k2
    have EQ:=hid (show fateN b7 n t.tries false=2 from by unfold fateN;rw[if_neg (by decide),if_neg (λq=>k2 q.2)])
    clear k1 k2
    go_enter func120,ntmps120
    go_upto_region 3 with fail
    rw[←hW1]
    clear hW1
    go_quiet (fail)
    go_wp2_with fail
    go_ret
    exact⟨by rw[EQ.out];rfl,O1.out.drewN _⟩
  ·have d1:decide (0<n)=false:=decide_eq_false k1
   have EQ:=hid (show fateN b7 n t.tries false=2 from by unfold fateN;rw[if_neg (by decide),if_neg (λq=>k1 q.1)])
   clear k1
   go_enter func120,ntmps120
   go_upto_region 3 with fail
   rw[←hW1]
   clear hW1
   go_quiet (fail)
   go_wp2_with fail
   go_ret
   exact⟨by rw[EQ.out];rfl,O1.out.drewN _⟩
end
section
variable {p:Nat} {c:Nat→Nat} {X:Loc} {F H:Nat} {ks:List Tk} {E:Eng}
theorem etfree_any (w:World) (h:EP w p c X F H ks E) :
  Calls prog 52 #[.pointer (some ⟨X.pt,0,none⟩)] w λe w'=>e=.returned (.tuple #[.int .i64 E.fd,.int .i64 E.fa])∧Only n_ w w':=by
 have m:=h.may
 unfold Opt.MayC at m
 obtain⟨L,ps,tn,hq,_⟩:=h.eo.tn
 have TF:=tfree_any w tn
 unfold Freed12 at TF
 have e1:((E.o.b3.toNat:Int)-(ps.filter (λq=>q.a==false)).length)=E.fd:=by
  unfold Eng.fd
  rw[←hq,row_len]
  omega
 have e2:((E.o.b4.toNat:Int)-(ps.filter (λq=>q.a==true)).length)=E.fa:=by
  unfold Eng.fa
  rw[←hq,row_len]
  omega
 rw[e1,e2] at TF
 exact TF
def aheadA (E:Eng) (b:Int):Value:=.tuple #[if E.aheadC b=0 then (E.new 3 b).told ((E.ahead b).cnt (E.nt+1)) else noTk,.int .i64 (E.aheadC b)]
theorem ahead_no {E:Eng} {b:Int} (h:E.aheadC b≠0):aheadA E b=.tuple #[noTk,.int .i64 (E.aheadC b)]∧E.ahead b=E:=by
 unfold aheadA Eng.ahead
 rw[if_neg h,if_neg h]
 exact⟨rfl,rfl⟩
theorem ahead_yes {E:Eng} {b:Int} (h:E.aheadC b=0):aheadA E b=.tuple #[(E.new 3 b).told ((E.enter 3 b).cnt (E.nt+1)),.int .i64 0]∧E.ahead b=E.enter 3 b:=by
 unfold aheadA Eng.ahead
 rw[if_pos h,if_pos h,h]
 exact⟨rfl,rfl⟩
theorem eahead_any (b:Int) (w:World) (h:EP w p c X F H ks E) (iv:Inv E) (hF:F+10<100000000) (hH:H+2<1000000) :
  Calls prog 31 #[pT p,.int .i64 b] w λe w'=>e=.returned (aheadA E b)∧EGto w p c (F+10) (H+2) (E.ahead b) w':=by
 obtain⟨W1,hW1⟩:∃W1,W1=w.alloc (.cells #[.int .i64 0,.int .i64 0,.int .i64 0,.int .i64 0,.int .i64 0,.int .i64 0,.bool false,.bool false,.bool false] 54):=⟨_,rfl⟩
 have tx:Row W1 w.heap.size 54 #[.int .i64 0,.int .i64 0,.int .i64 0,.int .i64 0,.int .i64 0,.int .i64 0,.bool false,.bool false,.bool false]:=by rw[hW1];exact Row.fresh _ _ _
 have o1:Only n_ w W1:=by rw[hW1];exact (Only.refl _ _).alloc _
 have h1:=h.still o1
 have HB:=ehas_any b W1 h1
 have HI:=hid (λw' (o:Only n_ W1 w')=>show Calls prog 30 #[.pointer (some ⟨p,0,none⟩),.int .i64 b] w' λe w''=>e=.returned (.bool (E.idle b))∧Only n_ w' w'' from eidle_any b w' (h1.still o))
 have TF:=hid (λw' (o:Only n_ W1 w')=>etfree_any w' (h1.still o))
 have TX:=hid tx
 have O1:=hid o1
 have H1:=hid h1
 have IV:=hid iv
 have HFF:=hid hF
 have HH:=hid hH
 have Z1:=hid (h.zero (Nat.le_refl _))
 have lp:=h.eo.row.lt
 have ls1:=tx.lt
 clear h h1 iv hF hH tx o1
 have NO:=hid (@ahead_no E b)
 have EC:=hid (show E.aheadC b=if E.has b=true then (if E.idle b=true then (if E.fa=0 then 2 else 0) else 5) else 1 from rfl)
 unfold pT at HB ⊢
 cases hb:E.has b with
 | false =>
  rw[hb] at HB
  have C1:=hid (show E.aheadC b=1 from by rw[EC.out,hb];rfl)
  clear hb
  have HB:=hid HB
  go_enter func31,ntmps31
  go_wp2_with fail
  rw[←hW1]
  clear hW1
  (with_reducible refine HB.out.mono ?_)
  rintro e w2 ⟨rfl,o2⟩
  have O2:=hid o2
  clear o2
  have T2:=hid (O2.out.still TX.out)
  have H2:=hid (H1.out.still O2.out)
  obtain⟨d0,d1,d2,d3,d4,d5,d6,d7,d8⟩:=T2.out.nine
  have z0:=T2.out.frozen 0
  have z1:=T2.out.frozen 1
  have z2:=T2.out.frozen 2
  have z3:=T2.out.frozen 3
  have z4:=T2.out.frozen 4
  have z5:=T2.out.frozen 5
  have z6:=T2.out.frozen 6
  have z7:=T2.out.frozen 7
  have z8:=T2.out.frozen 8
  have l2:=T2.out.lt
  have NO2:=hid (NO.out (by rw[C1.out];decide))
  go_wp2_with fail
  refine bodyPost_ret (results_row1 rfl _ _ w.heap.size _ _ _ rfl (Row.zero9 T2.out) underlying54 rfl info_tick) rfl ⟨?_,?_⟩
  ·rw[NO2.out.1,C1.out];rfl
  ·rw[NO2.out.2]
   exact EGto.fin H2.out O1.out (Gw.refl _ _) O2.out.up (Nat.le_refl _) Z1.out (only9' (Only.refl (λg=>g=w.heap.size) w2) (λ_=>rfl) _ _ _ _ _ _ _ _ _) (by omega) (by omega) HFF.out HH.out
 | true =>
  rw[hb] at HB
  have HS:=hid hb
  have HB:=hid HB
  cases hi:E.idle b with
  | false =>
   rw[hi] at HI
   have C1:=hid (show E.aheadC b=5 from by rw[EC.out,hb,hi];rfl)
   clear hb hi
   go_enter func31,ntmps31
   go_wp2_with fail
   rw[←hW1]
   clear hW1
   (with_reducible refine HB.out.mono ?_)
   rintro e w2 ⟨rfl,o2⟩
   have O2:=hid o2
   clear o2
   go_wp2_with fail
   (with_reducible refine (HI.out w2 O2.out).mono ?_)
   rintro e w3 ⟨rfl,o3⟩
   have O3:=hid (O2.out.same o3)
   clear o3
   have T2:=hid (O3.out.still TX.out)
   have H2:=hid (H1.out.still O3.out)
   obtain⟨d0,d1,d2,d3,d4,d5,d6,d7,d8⟩:=T2.out.nine
   have z0:=T2.out.frozen 0
   have z1:=T2.out.frozen 1
   have z2:=T2.out.frozen 2
   have z3:=T2.out.frozen 3
   have z4:=T2.out.frozen 4
   have z5:=T2.out.frozen 5
   have z6:=T2.out.frozen 6
   have z7:=T2.out.frozen 7
   have z8:=T2.out.frozen 8
   have l2:=T2.out.lt
   have NO2:=hid (NO.out (by rw[C1.out];decide))
   go_wp2_with fail
   refine bodyPost_ret (results_row1 rfl _ _ w.heap.size _ _ _ rfl (Row.zero9 T2.out) underlying54 rfl info_tick) rfl ⟨?_,?_⟩
   ·rw[NO2.out.1,C1.out];rfl
   ·rw[NO2.out.2]
    exact EGto.fin H2.out O1.out (Gw.refl _ _) O3.out.up (Nat.le_refl _) Z1.out (only9' (Only.refl (λg=>g=w.heap.size) w3) (λ_=>rfl) _ _ _ _ _ _ _ _ _) (by omega) (by omega) HFF.out HH.out
  | true =>
   rw[hi] at HI
   by_cases hf:E.fa=0
   ·have C1:=hid (show E.aheadC b=2 from by rw[EC.out,hb,hi,if_pos rfl,if_pos rfl,if_pos hf])
    rw[hf] at TF
    generalize E.fd=fd at *
    clear hb hi hf
    go_enter func31,ntmps31
    go_wp2_with fail
    rw[←hW1]
    clear hW1
    (with_reducible refine HB.out.mono ?_)
    rintro e w2 ⟨rfl,o2⟩
    have O2:=hid o2
    clear o2
    go_wp2_with fail
    (with_reducible refine (HI.out w2 O2.out).mono ?_)
    rintro e w3 ⟨rfl,o3⟩
    have O3:=hid (O2.out.same o3)
    clear o3
    have y15:w3.cell? ⟨p,15,none⟩=some (.pointer (some ⟨X.pt,0,none⟩)):=(H1.out.still O3.out).cell 15
    go_wp2_with fail
    (with_reducible refine (TF.out w3 O3.out).mono ?_)
    rintro e w4 ⟨rfl,o4⟩
    have O4:=hid (O3.out.same o4)
    clear o4 y15
    have T2:=hid (O4.out.still TX.out)
    have H2:=hid (H1.out.still O4.out)
    obtain⟨d0,d1,d2,d3,d4,d5,d6,d7,d8⟩:=T2.out.nine
    have z0:=T2.out.frozen 0
    have z1:=T2.out.frozen 1
    have z2:=T2.out.frozen 2
    have z3:=T2.out.frozen 3
    have z4:=T2.out.frozen 4
    have z5:=T2.out.frozen 5
    have z6:=T2.out.frozen 6
    have z7:=T2.out.frozen 7
    have z8:=T2.out.frozen 8
    have l2:=T2.out.lt
    have NO2:=hid (NO.out (by rw[C1.out];decide))
    go_wp2_with fail
    refine bodyPost_ret (results_row1 rfl _ _ w.heap.size _ _ _ rfl (Row.zero9 T2.out) underlying54 rfl info_tick) rfl ⟨?_,?_⟩
    ·rw[NO2.out.1,C1.out];rfl
    ·rw[NO2.out.2]
     exact EGto.fin H2.out O1.out (Gw.refl _ _) O4.out.up (Nat.le_refl _) Z1.out (only9' (Only.refl (λg=>g=w.heap.size) w4) (λ_=>rfl) _ _ _ _ _ _ _ _ _) (by omega) (by omega) HFF.out HH.out
   ·have C0:=hid (show E.aheadC b=0 from by rw[EC.out,hb,hi,if_pos rfl,if_pos rfl,if_neg hf])
    obtain⟨m1,m2,m3⟩:=room16 IV.out (kind:=3) (by rw[if_pos rfl];exact hf)
    have RM:=hid (show putC E.o.b3.toNat E.o.b4.toNat E.qs (E.nt+1) ((3:Int)==3)=0∧E.ts.length<128∧(E.ts.length:Int)<E.o.b3+E.o.b4 from ⟨m1,m2,m3⟩)
    have df:(E.fa==0)=false:=by simpa using hf
    generalize E.fd=fd at *
    generalize E.fa=fa at *
    clear hb hi hf m1 m2 m3
    go_enter func31,ntmps31
    go_wp2_with fail
    rw[←hW1]
    clear hW1
    (with_reducible refine HB.out.mono ?_)
    rintro e w2 ⟨rfl,o2⟩
    have O2:=hid o2
    clear o2
    go_wp2_with fail
    (with_reducible refine (HI.out w2 O2.out).mono ?_)
    rintro e w3 ⟨rfl,o3⟩
    have O3:=hid (O2.out.same o3)
    clear o3
    have y15:w3.cell? ⟨p,15,none⟩=some (.pointer (some ⟨X.pt,0,none⟩)):=(H1.out.still O3.out).cell 15
    go_wp2_with fail
    (with_reducible refine (TF.out w3 O3.out).mono ?_)
    rintro e w4 ⟨rfl,o4⟩
    have O4:=hid (O3.out.same o4)
    clear o4 y15
    have EN:=eenter_any 3 b w4 (H1.out.still O4.out) HS.out RM.out.1 RM.out.2.1 RM.out.2.2 (by have:=HFF.out;omega) (by have:=HH.out;omega)
    unfold pT at EN
    have EN:=hid EN
    go_wp2_with fail
    (with_reducible refine EN.out.mono ?_)
    rintro e w7 ⟨g5,rfl,⟨c7,h7,gw7⟩,lg7,o7⟩
    have hg5:(X.with (E.nt+1) g5).A (E.new 3 b).id=g5:=if_pos rfl
    have O7:=hid (Gw.only (S:=λg=>c g≠0∧c g≠6) (O4.out.up (S:=λg=>c g≠0)) (Gw.refl W1 c) o7 (λg e=>e.1))
    have G7:=hid (Gw.next (O4.out.up (S:=λg=>c g≠0)) (Gw.refl W1 c) gw7)
    have r7:=(h7.eo.tk (E.new 3 b) (by simp)).1
    rw[hg5] at r7
    have H7:=hid h7
    have TD:=etold_any (E.new 3 b) g5 w7 h7 r7
    obtain⟨tv,htv⟩:∃tv,tv=E.new 3 b:=⟨_,rfl⟩
    rw[←htv] at TD
    generalize hn:Eng.cnt _ tv.id=n at TD
    unfold pT Tk.told at TD
    have TD:=hid TD
    have TV:=hid htv
    have HN:=hid hn
    clear htv hn h7 o7 gw7 lg7 r7 EN hg5
    go_wp2_with fail
    (with_reducible refine TD.out.mono ?_)
    rintro e w8 ⟨rfl,o8⟩
    have O8:=hid (O7.out.idle o8)
    have T8:=hid (O8.out.row TX.out (λe=>e Z1.out))
    have H8:=hid (H7.out.still o8)
    clear o8 TD
    obtain⟨d0,d1,d2,d3,d4,d5,d6,d7,d8⟩:=T8.out.nine
    have z0:=T8.out.frozen 0
    have z1:=T8.out.frozen 1
    have z2:=T8.out.frozen 2
    have z3:=T8.out.frozen 3
    have z4:=T8.out.frozen 4
    have z5:=T8.out.frozen 5
    have z6:=T8.out.frozen 6
    have z7:=T8.out.frozen 7
    have z8:=T8.out.frozen 8
    have l8:=T8.out.lt
    go_wp2_with fail
    have AY:=ahead_yes C0.out
    refine bodyPost_ret (results_row1 rfl _ _ w.heap.size _ _ _ rfl (Row.tick9 T8.out tv n) underlying54 rfl info_tick) rfl ⟨?_,?_⟩
    ·rw[AY.1,←HN.out,TV.out]
     rfl
    ·rw[AY.2]
     exact EGto.fin H8.out O1.out G7.out O8.out (Nat.le_refl _) (G7.out.zero Z1.out ls1) (only9' (Only.refl (λg=>g=w.heap.size) _) (λ_=>rfl) _ _ _ _ _ _ _ _ _) (by omega) (by omega) HFF.out HH.out
end
section
variable {p:Nat} {c:Nat→Nat} {X:Loc} {F H:Nat} {ks:List Tk} {E:Eng}
def Tk.leftC (t:Tk) (n:Int) (gone:Bool):Array Value:=#[.int .i64 t.id,.int .i64 t.kind,.int .i64 t.b,.int .i64 t.l,.int .i64 t.tries,.int .i64 n,.bool t.out,.bool t.fr,.bool t.cut,.bool gone]
def Tk.left (t:Tk) (n:Int) (gone:Bool):Value:=.agg (t.leftC n gone)
def noLeft:Value:=.agg #[.int .i64 0,.int .i64 0,.int .i64 0,.int .i64 0,.int .i64 0,.int .i64 0,.bool false,.bool false,.bool false,.bool false]
theorem info_left:(prog.info? 101).map (·.size)=some 10:=by kernel_rfl
theorem Row.ten10 {w:World} {g:Nat} {t:TypeId} {c0 c1 c2 c3 c4 c5 c6 c7 c8 c9:Value} (h:Row w g t #[c0,c1,c2,c3,c4,c5,c6,c7,c8,c9]):w.cell? ⟨g,0,none⟩=some c0∧w.cell? ⟨g,1,none⟩=some c1∧w.cell? ⟨g,2,none⟩=some c2∧w.cell? ⟨g,3,none⟩=some c3∧w.cell? ⟨g,4,none⟩=some c4∧w.cell? ⟨g,5,none⟩=some c5∧w.cell? ⟨g,6,none⟩=some c6∧w.cell? ⟨g,7,none⟩=some c7∧w.cell? ⟨g,8,none⟩=some c8∧w.cell? ⟨g,9,none⟩=some c9:=
 ⟨h.cell 0,h.cell 1,h.cell 2,h.cell 3,h.cell 4,h.cell 5,h.cell 6,h.cell 7,h.cell 8,h.cell 9⟩
theorem Row.put10 {w:World} {g:Nat} {t:TypeId} {c0 c1 c2 c3 c4 c5 c6 c7 c8 c9:Value} (h:Row w g t #[c0,c1,c2,c3,c4,c5,c6,c7,c8,c9]) (d0 d1 d2 d3 d4 d5 d6 d7 d8 d9:Value):Row ((((((((((w.setCell ⟨g,0,none⟩ d0).setCell ⟨g,1,none⟩ d1).setCell ⟨g,2,none⟩ d2).setCell ⟨g,3,none⟩ d3).setCell ⟨g,4,none⟩ d4).setCell ⟨g,5,none⟩ d5).setCell ⟨g,6,none⟩ d6).setCell ⟨g,7,none⟩ d7).setCell ⟨g,8,none⟩ d8).setCell ⟨g,9,none⟩ d9) g t #[d0,d1,d2,d3,d4,d5,d6,d7,d8,d9]:=by
 have e:=((((((((((h.put 0 d0).put 1 d1).put 2 d2).put 3 d3).put 4 d4).put 5 d5).put 6 d6).put 7 d7).put 8 d8).put 9 d9)
 simp only[List.setIfInBounds_toArray,List.set_cons_succ,List.set_cons_zero] at e
 exact e
theorem Row.left10 {w:World} {g:Nat} {T:TypeId} {c0 c1 c2 c3 c4 c5 c6 c7 c8 c9:Value} (h:Row w g T #[c0,c1,c2,c3,c4,c5,c6,c7,c8,c9]) (t:Tk) (n:Int) (gone:Bool):Row ((((((((((w.setCell ⟨g,0,none⟩ (.int .i64 t.id)).setCell ⟨g,1,none⟩ (.int .i64 t.kind)).setCell ⟨g,2,none⟩ (.int .i64 t.b)).setCell ⟨g,3,none⟩ (.int .i64 t.l)).setCell ⟨g,4,none⟩ (.int .i64 t.tries)).setCell ⟨g,5,none⟩ (.int .i64 n)).setCell ⟨g,6,none⟩ (.bool t.out)).setCell ⟨g,7,none⟩ (.bool t.fr)).setCell ⟨g,8,none⟩ (.bool t.cut)).setCell ⟨g,9,none⟩ (.bool gone)) g T (t.leftC n gone):=h.put10 _ _ _ _ _ _ _ _ _ _
theorem Row.zero10 {w:World} {g:Nat} {T:TypeId} {c0 c1 c2 c3 c4 c5 c6 c7 c8 c9:Value} (h:Row w g T #[c0,c1,c2,c3,c4,c5,c6,c7,c8,c9]):Row ((((((((((w.setCell ⟨g,0,none⟩ (.int .i64 0)).setCell ⟨g,1,none⟩ (.int .i64 0)).setCell ⟨g,2,none⟩ (.int .i64 0)).setCell ⟨g,3,none⟩ (.int .i64 0)).setCell ⟨g,4,none⟩ (.int .i64 0)).setCell ⟨g,5,none⟩ (.int .i64 0)).setCell ⟨g,6,none⟩ (.bool false)).setCell ⟨g,7,none⟩ (.bool false)).setCell ⟨g,8,none⟩ (.bool false)).setCell ⟨g,9,none⟩ (.bool false)) g T #[.int .i64 0,.int .i64 0,.int .i64 0,.int .i64 0,.int .i64 0,.int .i64 0,.bool false,.bool false,.bool false,.bool false]:=h.put10 _ _ _ _ _ _ _ _ _ _
theorem only10 {S:Nat→Prop} {a w:World} (o:Only S a w) {g:Nat} (hg:g<a.heap.size→S g) (d0 d1 d2 d3 d4 d5 d6 d7 d8 d9:Value):Only S a ((((((((((w.setCell ⟨g,0,none⟩ d0).setCell ⟨g,1,none⟩ d1).setCell ⟨g,2,none⟩ d2).setCell ⟨g,3,none⟩ d3).setCell ⟨g,4,none⟩ d4).setCell ⟨g,5,none⟩ d5).setCell ⟨g,6,none⟩ d6).setCell ⟨g,7,none⟩ d7).setCell ⟨g,8,none⟩ d8).setCell ⟨g,9,none⟩ d9):=
 (((((((((o.put (p:=⟨g,0,none⟩) hg d0).put (p:=⟨g,1,none⟩) hg d1).put (p:=⟨g,2,none⟩) hg d2).put (p:=⟨g,3,none⟩) hg d3).put (p:=⟨g,4,none⟩) hg d4).put (p:=⟨g,5,none⟩) hg d5).put (p:=⟨g,6,none⟩) hg d6).put (p:=⟨g,7,none⟩) hg d7).put (p:=⟨g,8,none⟩) hg d8).put (p:=⟨g,9,none⟩) hg d9
def cutA (E:Eng) (b:Int):Value:=
 if rests (E.head b) then .tuple #[((E.head b).getD default).left ((E.cutE b).cnt ((E.head b).getD default).id) true,.bool true]
 else if cuts (E.head b) then .tuple #[(((E.head b).getD default).cutIt).left ((E.cutE b).cnt ((E.head b).getD default).id) false,.bool true]
 else .tuple #[noLeft,.bool false]
theorem cut_rest {E:Eng} {b:Int} {t:Tk} (h:E.head b=some t) (r:rests (some t)=true):cutA E b=.tuple #[t.left ((E.end_ t.id).cnt t.id) true,.bool true]∧E.cutE b=E.end_ t.id:=by
 unfold cutA Eng.cutE
 rw[h,r]
 exact⟨rfl,rfl⟩
theorem cut_cut {E:Eng} {b:Int} {t:Tk} (h:E.head b=some t) (r:rests (some t)=false) (k:cuts (some t)=true):cutA E b=.tuple #[t.cutIt.left ((E.upd t.id Tk.cutIt).cnt t.id) false,.bool true]∧E.cutE b=E.upd t.id Tk.cutIt:=by
 unfold cutA Eng.cutE
 rw[h,r,k]
 exact⟨rfl,rfl⟩
theorem cut_not {E:Eng} {b:Int} (r:rests (E.head b)=false) (k:cuts (E.head b)=false):cutA E b=.tuple #[noLeft,.bool false]∧E.cutE b=E:=by
 unfold cutA Eng.cutE
 rw[r,k]
 exact⟨rfl,rfl⟩
theorem ecut_any (b:Int) (w:World) (h:EP w p c X F H ks E) (iv:Inv E) (hF:F+10<100000000) (hH:H+2<1000000) :
  Calls prog 40 #[pT p,.int .i64 b] w λe w'=>e=.returned (cutA E b)∧EGto w p c (F+10) (H+2) (E.cutE b) w':=by
 obtain⟨W1,hW1⟩:∃W1,W1=w.alloc (.cells #[.int .i64 0,.int .i64 0,.int .i64 0,.int .i64 0,.int .i64 0,.int .i64 0,.bool false,.bool false,.bool false,.bool false] 101):=⟨_,rfl⟩
 have tx:Row W1 w.heap.size 101 #[.int .i64 0,.int .i64 0,.int .i64 0,.int .i64 0,.int .i64 0,.int .i64 0,.bool false,.bool false,.bool false,.bool false]:=by rw[hW1];exact Row.fresh _ _ _
 have o1:Only n_ w W1:=by rw[hW1];exact (Only.refl _ _).alloc _
 have h1:=h.still o1
 have LL:=ehead_any b W1 h1
 have ER:=λw' (o:Only n_ W1 w')=>erest_any X.A (E.head b) w' ((h1.still o).headRow b)
 have EJ:=λw' (o:Only n_ W1 w')=>ejoin_any X.A (E.head b) w' ((h1.still o).headRow b)
 have TX:=hid tx
 have O1:=hid o1
 have H1:=hid h1
 have IV:=hid iv
 have HFF:=hid hF
 have HH:=hid hH
 have Z1:=hid (h.zero (Nat.le_refl _))
 have lp:=h.eo.row.lt
 have ls1:=tx.lt
 clear h h1 iv hF hH tx o1
 unfold pT at LL ⊢
 cases hd:E.head b with
 | none =>
  rw[hd] at LL ER EJ
  have CC:=cut_not (E:=E) (b:=b) (by rw[hd];rfl) (by rw[hd];rfl)
  have CA:=hid CC.1
  have CE:=hid CC.2
  unfold optPtr joins rests at *
  have LL:=hid LL
  have ER:=hid ER
  have EJ:=hid EJ
  clear hd CC
  go_enter func40,ntmps40
  go_wp2_with fail
  rw[←hW1]
  clear hW1
  (with_reducible refine LL.out.mono ?_)
  rintro e w2 ⟨rfl,o2⟩
  have O2:=hid o2
  clear o2
  go_wp2_with fail
  (with_reducible refine (ER.out w2 O2.out).mono ?_)
  rintro e w3 ⟨rfl,o3⟩
  have O3:=hid (O2.out.same o3)
  clear o3
  go_wp2_with fail
  (with_reducible refine (EJ.out w3 O3.out).mono ?_)
  rintro e w4 ⟨rfl,o4⟩
  have O4:=hid (O3.out.same o4)
  clear o4
  have T2:=hid (O4.out.still TX.out)
  have H2:=hid (H1.out.still O4.out)
  obtain⟨d0,d1,d2,d3,d4,d5,d6,d7,d8,d9⟩:=T2.out.ten10
  have z0:=T2.out.frozen 0
  have z1:=T2.out.frozen 1
  have z2:=T2.out.frozen 2
  have z3:=T2.out.frozen 3
  have z4:=T2.out.frozen 4
  have z5:=T2.out.frozen 5
  have z6:=T2.out.frozen 6
  have z7:=T2.out.frozen 7
  have z8:=T2.out.frozen 8
  have z9:=T2.out.frozen 9
  have l2:=T2.out.lt
  go_wp2_with fail
  refine bodyPost_ret (results_row1 rfl _ _ w.heap.size _ _ _ rfl (Row.zero10 T2.out) underlying101 rfl info_left) rfl ⟨?_,?_⟩
  ·rw[CA.out];rfl
  ·rw[CE.out]
   exact EGto.fin H2.out O1.out (Gw.refl _ _) O4.out.up (Nat.le_refl _) Z1.out (only10 (Only.refl (λg=>g=w.heap.size) w4) (λ_=>rfl) _ _ _ _ _ _ _ _ _ _) (by omega) (by omega) HFF.out HH.out
 | some t =>
  rw[hd] at LL ER EJ
  have HD:=hid hd
  have TM0:=hid (head_in hd).1
  have TKS:=hid (H1.out.sub t (head_in hd).1)
  obtain⟨g5,hg5⟩:∃g5,X.A t.id=g5:=⟨_,rfl⟩
  have HG5:=hid hg5
  have R1:=hid ((H1.out.eo.tk t TKS.out).1)
  have nz0:=((H1.out.eo.tk t TKS.out).2)
  rw[hg5] at nz0
  have NZ:=hid nz0
  clear nz0
  unfold optPtr pT at LL ER EJ
  simp only[hg5] at LL ER EJ
  cases hr:rests (some t) with
  | true =>
   rw[hr] at ER
   have CC:=cut_rest hd hr
   have CA:=hid CC.1
   have CE:=hid CC.2
   have LL:=hid LL
   have ER:=hid ER
   clear EJ hd hr CC
   go_enter func40,ntmps40
   go_wp2_with fail
   rw[←hW1]
   clear hW1
   (with_reducible refine LL.out.mono ?_)
   rintro e w2 ⟨rfl,o2⟩
   have O2:=hid o2
   clear o2
   go_wp2_with fail
   (with_reducible refine (ER.out w2 O2.out).mono ?_)
   rintro e w3 ⟨rfl,o3⟩
   have O3:=hid (O2.out.same o3)
   clear o3
   have EN:=eend_any t w3 (H1.out.still O3.out) TKS.out (by have:=HFF.out;omega)
   unfold pT at EN
   rw[hg5] at EN
   have EN:=hid EN
   go_wp2_with fail
   (with_reducible refine EN.out.mono ?_)
   rintro e w7 ⟨rfl,⟨c7,h7,gw7⟩,o7⟩
   have O7:=hid (Gw.only (S:=λg=>c g≠0∧c g≠6) (O3.out.up (S:=λg=>c g≠0)) (Gw.refl W1 c) o7 (λg e=>e.1))
   have G7:=hid (Gw.next (O3.out.up (S:=λg=>c g≠0)) (Gw.refl W1 c) gw7)
   have r7:=(h7.eo.tk t TKS.out).1
   rw[hg5] at r7
   have H7:=hid h7
   have TD:=etold_any t g5 w7 h7 r7
   clear h7 o7 gw7 r7 EN hg5 LL ER
   obtain⟨tv,htv⟩:∃tv,tv=t:=⟨_,rfl⟩
   rw[←htv] at TD
   generalize hn:Eng.cnt _ tv.id=n at TD
   unfold pT Tk.told at TD
   have TD:=hid TD
   have TV:=hid htv
   have HN:=hid hn
   clear htv hn
   go_wp2_with fail
   (with_reducible refine TD.out.mono ?_)
   rintro e w8 ⟨rfl,o8⟩
   have O8:=hid (O7.out.idle o8)
   have T8:=hid (O8.out.row TX.out (λe=>e Z1.out))
   have H8:=hid (H7.out.still o8)
   clear o8 TD
   obtain⟨d0,d1,d2,d3,d4,d5,d6,d7,d8,d9⟩:=T8.out.ten10
   have z0:=T8.out.frozen 0
   have z1:=T8.out.frozen 1
   have z2:=T8.out.frozen 2
   have z3:=T8.out.frozen 3
   have z4:=T8.out.frozen 4
   have z5:=T8.out.frozen 5
   have z6:=T8.out.frozen 6
   have z7:=T8.out.frozen 7
   have z8:=T8.out.frozen 8
   have z9:=T8.out.frozen 9
   have l8:=T8.out.lt
   go_wp2_with fail
   refine bodyPost_ret (results_row1 rfl _ _ w.heap.size _ _ _ rfl (Row.left10 T8.out tv n true) underlying101 rfl info_left) rfl ⟨?_,?_⟩
   ·rw[CA.out,←HN.out,TV.out]
    rfl
   ·rw[CE.out]
    exact EGto.fin H8.out O1.out G7.out O8.out (Nat.le_refl _) (G7.out.zero Z1.out ls1) (only10 (Only.refl (λg=>g=w.heap.size) _) (λ_=>rfl) _ _ _ _ _ _ _ _ _ _) (by omega) (by omega) HFF.out HH.out
  | false =>
   rw[hr] at ER
   have ER:=hid ER
   have LL:=hid LL
   have HR:=hid hr
   cases hj:joins (some t) with
   | false =>
    rw[hj] at EJ
    have CC:=cut_not (E:=E) (b:=b) (by rw[hd];exact hr) (by rw[hd];show (joins (some t)&&t.fr)=false;rw[hj];rfl)
    have CA:=hid CC.1
    have CE:=hid CC.2
    have EJ:=hid EJ
    clear hd hr hj CC
    go_enter func40,ntmps40
    go_wp2_with fail
    rw[←hW1]
    clear hW1
    (with_reducible refine LL.out.mono ?_)
    rintro e w2 ⟨rfl,o2⟩
    have O2:=hid o2
    clear o2
    go_wp2_with fail
    (with_reducible refine (ER.out w2 O2.out).mono ?_)
    rintro e w3 ⟨rfl,o3⟩
    have O3:=hid (O2.out.same o3)
    clear o3
    go_wp2_with fail
    (with_reducible refine (EJ.out w3 O3.out).mono ?_)
    rintro e w4 ⟨rfl,o4⟩
    have O4:=hid (O3.out.same o4)
    clear o4
    have T2:=hid (O4.out.still TX.out)
    have H2:=hid (H1.out.still O4.out)
    obtain⟨d0,d1,d2,d3,d4,d5,d6,d7,d8,d9⟩:=T2.out.ten10
    have z0:=T2.out.frozen 0
    have z1:=T2.out.frozen 1
    have z2:=T2.out.frozen 2
    have z3:=T2.out.frozen 3
    have z4:=T2.out.frozen 4
    have z5:=T2.out.frozen 5
    have z6:=T2.out.frozen 6
    have z7:=T2.out.frozen 7
    have z8:=T2.out.frozen 8
    have z9:=T2.out.frozen 9
    have l2:=T2.out.lt
    go_wp2_with fail
    refine bodyPost_ret (results_row1 rfl _ _ w.heap.size _ _ _ rfl (Row.zero10 T2.out) underlying101 rfl info_left) rfl ⟨?_,?_⟩
    ·rw[CA.out];rfl
    ·rw[CE.out]
     exact EGto.fin H2.out O1.out (Gw.refl _ _) O4.out.up (Nat.le_refl _) Z1.out (only10 (Only.refl (λg=>g=w.heap.size) w4) (λ_=>rfl) _ _ _ _ _ _ _ _ _ _) (by omega) (by omega) HFF.out HH.out
   | true =>
    rw[hj] at EJ
    have EJ:=hid EJ
    cases hf:t.fr with
    | false =>
     have CC:=cut_not (E:=E) (b:=b) (by rw[hd];exact hr) (by rw[hd];show (joins (some t)&&t.fr)=false;rw[hf,Bool.and_false])
     have CA:=hid CC.1
     have CE:=hid CC.2
     clear hd hr hj CC
     go_enter func40,ntmps40
     go_wp2_with fail
     rw[←hW1]
     clear hW1
     (with_reducible refine LL.out.mono ?_)
     rintro e w2 ⟨rfl,o2⟩
     have O2:=hid o2
     clear o2
     go_wp2_with fail
     (with_reducible refine (ER.out w2 O2.out).mono ?_)
     rintro e w3 ⟨rfl,o3⟩
     have O3:=hid (O2.out.same o3)
     clear o3
     go_wp2_with fail
     (with_reducible refine (EJ.out w3 O3.out).mono ?_)
     rintro e w4 ⟨rfl,o4⟩
     have O4:=hid (O3.out.same o4)
     clear o4
     have q7:w4.cell? ⟨g5,7,none⟩=some (.bool false):=by
      have:=(O4.out.still R1.out).cell 7
      rw[hg5] at this
      rw[this]
      show some (Value.bool t.fr)=_
      rw[hf]
     clear hf
     have T2:=hid (O4.out.still TX.out)
     have H2:=hid (H1.out.still O4.out)
     obtain⟨d0,d1,d2,d3,d4,d5,d6,d7,d8,d9⟩:=T2.out.ten10
     have z0:=T2.out.frozen 0
     have z1:=T2.out.frozen 1
     have z2:=T2.out.frozen 2
     have z3:=T2.out.frozen 3
     have z4:=T2.out.frozen 4
     have z5:=T2.out.frozen 5
     have z6:=T2.out.frozen 6
     have z7:=T2.out.frozen 7
     have z8:=T2.out.frozen 8
     have z9:=T2.out.frozen 9
     have l2:=T2.out.lt
     go_wp2_with fail
     refine bodyPost_ret (results_row1 rfl _ _ w.heap.size _ _ _ rfl (Row.zero10 T2.out) underlying101 rfl info_left) rfl ⟨?_,?_⟩
     ·rw[CA.out];rfl
     ·rw[CE.out]
      exact EGto.fin H2.out O1.out (Gw.refl _ _) O4.out.up (Nat.le_refl _) Z1.out (only10 (Only.refl (λg=>g=w.heap.size) w4) (λ_=>rfl) _ _ _ _ _ _ _ _ _ _) (by omega) (by omega) HFF.out HH.out
    | true =>
     have CC:=cut_cut (E:=E) (b:=b) hd hr (by show (joins (some t)&&t.fr)=true;rw[hf,hj];rfl)
     have CA:=hid CC.1
     have CE:=hid CC.2
     clear hd hr hj CC
     go_enter func40,ntmps40
     go_wp2_with fail
     rw[←hW1]
     clear hW1
     (with_reducible refine LL.out.mono ?_)
     rintro e w2 ⟨rfl,o2⟩
     have O2:=hid o2
     clear o2
     go_wp2_with fail
     (with_reducible refine (ER.out w2 O2.out).mono ?_)
     rintro e w3 ⟨rfl,o3⟩
     have O3:=hid (O2.out.same o3)
     clear o3
     go_wp2_with fail
     (with_reducible refine (EJ.out w3 O3.out).mono ?_)
     rintro e w4 ⟨rfl,o4⟩
     have O4:=hid (O3.out.same o4)
     clear o4
     have q7:w4.cell? ⟨g5,7,none⟩=some (.bool true):=by
      have:=(O4.out.still R1.out).cell 7
      rw[hg5] at this
      rw[this]
      show some (Value.bool t.fr)=_
      rw[hf]
     clear hf
     have h4:=H1.out.still O4.out
     have r4:=(h4.eo.tk t TKS.out).1
     rw[hg5] at r4
     have lg4:=r4.lt
     have p8:w4.cell? ⟨g5,8,none⟩=some (.bool t.cut):=r4.cell 8
     have f8:w4.frozen? ⟨g5,8,none⟩=false:=r4.frozen 8
     obtain⟨w7,hw7⟩:∃w7,w7=w4.setCell ⟨g5,8,none⟩ (.bool true):=⟨_,rfl⟩
     have h7:=h4.put TKS.out Tk.cutIt soft_cut.keeps 8 (.bool true) rfl
     rw[hg5,←hw7] at h7
     have o7:Only (λk=>k=g5) w4 w7:=by rw[hw7];exact (Only.refl (λk=>k=g5) w4).into rfl _ _
     have O7:=hid (Gw.only (O4.out.up (S:=λg=>c g≠0)) (Gw.refl W1 c) o7 (λg e=>by rw[e,NZ.out];decide))
     have G7:=hid (Gw.refl W1 c)
     have r7:=(h7.eo.tk _ (mem_upd Tk.cutIt TKS.out)).1
     rw[show X.A t.cutIt.id=g5 from HG5.out] at r7
     have H7:=hid h7
     have TD:=etold_any t.cutIt g5 w7 h7 r7
     clear h7 o7 r7 hg5 LL ER EJ h4 r4
     obtain⟨tv,htv⟩:∃tv,tv=t.cutIt:=⟨_,rfl⟩
     rw[←htv] at TD
     generalize hn:Eng.cnt _ tv.id=n at TD
     unfold pT Tk.told at TD
     have TD:=hid TD
     have TV:=hid htv
     have HN:=hid hn
     clear htv hn
     go_wp2_with fail
     rw[←hw7]
     clear hw7 p8 f8 q7
     (with_reducible refine TD.out.mono ?_)
     rintro e w8 ⟨rfl,o8⟩
     have O8:=hid (O7.out.idle o8)
     have T8:=hid (O8.out.row TX.out (λe=>e Z1.out))
     have H8:=hid (H7.out.still o8)
     clear o8 TD
     obtain⟨d0,d1,d2,d3,d4,d5,d6,d7,d8,d9⟩:=T8.out.ten10
     have z0:=T8.out.frozen 0
     have z1:=T8.out.frozen 1
     have z2:=T8.out.frozen 2
     have z3:=T8.out.frozen 3
     have z4:=T8.out.frozen 4
     have z5:=T8.out.frozen 5
     have z6:=T8.out.frozen 6
     have z7:=T8.out.frozen 7
     have z8:=T8.out.frozen 8
     have z9:=T8.out.frozen 9
     have l8:=T8.out.lt
     go_wp2_with fail
     refine bodyPost_ret (results_row1 rfl _ _ w.heap.size _ _ _ rfl (Row.left10 T8.out tv n false) underlying101 rfl info_left) rfl ⟨?_,?_⟩
     ·rw[CA.out,←HN.out,TV.out]
      rfl
     ·rw[CE.out]
      exact EGto.fin H8.out O1.out G7.out O8.out (Nat.le_refl _) (G7.out.zero Z1.out ls1) (only10 (Only.refl (λg=>g=w.heap.size) _) (λ_=>rfl) _ _ _ _ _ _ _ _ _ _) (by omega) (by omega) HFF.out HH.out
end
end Go.Proofs.YtfbpjobobdidiaaGreatDoor
