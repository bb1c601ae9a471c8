/- Package fetch's Next. -/
import Derived.Test.YtfbpjobobdidiaaGreatDoorRBg16
import Derived.Lib.Builder
import Derived.LaidEqlPtr
namespace Go.Proofs.YtfbpjobobdidiaaGreatDoor
open Lib (hid)
open Go.Proofs.Tryz
open Go.RowKit Go.Maps
set_option linter.unusedVariables false
set_option maxRecDepth 100000
structure NxR (w1 wr:World) (p:Nat) (c:Nat→Nat) (iv:Value) (ids:List Int) (room:Int) (F H:Nat) (E:Eng) (k:Nat) (E':Eng) (c':Nat→Nat) (X':Loc) (ks':List Tk) (dv:Value) (ds:List Int):Prop where
 le:k≤ids.length
 inv:Inv E'
 ms:E'.ms=E.ms
 o:E'.o=E.o
 nx:E'.nextL room ds (ids.drop k)=E.nextL room [] ids
 live:∀x∈ids.drop k,∃t∈E'.ts,t.id=x∧t.out=false
 len:ds.length≤k
 ep:EP wr p c' X' (F+k) H ks' E'
 gw:Gw w1 c c'
 own:OwI wr w1.heap.size dv ds
 dc:∀g,dv.ownBlock=some g→c' g=0
 idr:OwI wr 0 iv ids
 idc:∀g,iv.ownBlock=some g→c' g=0∧g<w1.heap.size
 only:Only (λg=>c g≠0) w1 wr
section
variable {w1 wr w' w7:World} {p:Nat} {c:Nat→Nat} {iv:Value} {ids:List Int} {room:Int} {F H:Nat} {E:Eng} {k:Nat} {E':Eng} {c':Nat→Nat} {X':Loc} {ks':List Tk} {dv:Value} {ds:List Int}
theorem NxR.still (h:NxR w1 wr p c iv ids room F H E k E' c' X' ks' dv ds) (o:Only n_ wr w'):NxR w1 w' p c iv ids room F H E k E' c' X' ks' dv ds:=
 { h with ep:=h.ep.still o,own:=h.own.still o,idr:=h.idr.still o,only:=h.only.idle o }
theorem NxR.ticket (h:NxR w1 wr p c iv ids room F H E k E' c' X' ks' dv ds) {x:Int} (hx:ids[k]? = some x):ids.drop k=x::ids.drop (k+1)∧∃t,t∈E'.ts∧t.id=x∧at16 E'.ts x=some t∧t.out=false:=by
 have hl:=lt_of_get hx
 have e:ids.drop k=x::ids.drop (k+1):=by rw[List.drop_eq_getElem_cons hl];rw[List.getElem?_eq_getElem hl] at hx;injection hx with hx;rw[hx]
 obtain⟨t,ht,e1,o⟩:=h.live x (by rw[e];simp)
 exact⟨e,t,ht,e1,by rw[←e1];exact at16_mem h.ep.once ht,o⟩
theorem NxR.pass (h:NxR w1 wr p c iv ids room F H E k E' c' X' ks' dv ds) {x:Int} (hx:ids[k]? = some x) {t:Tk} (hat:at16 E'.ts x=some t) (hc:E'.isHead t=false∨(¬ (0<room∨t.needs=false)∧t.kind≠3)) (o:Only n_ wr w') (hF:F+k+1<100000000):NxR w1 w' p c iv ids room F H E (k+1) E' c' X' ks' dv ds:=by
 obtain⟨e,_⟩:=h.ticket hx
 have n:=h.nx
 rw[e] at n
 have n2:E'.nextL room ds (x::ids.drop (k+1))=E'.nextL room ds (ids.drop (k+1)):=by
  rw[Eng.nextL]
  rw[hat,Option.getD_some]
  rcases hc with q|⟨q,q3⟩
  ·rw[q,if_neg (by decide)]
  ·cases E'.isHead t with
   | false=>rw[if_neg (by decide)]
   | true=>rw[if_pos rfl,if_neg q,if_neg q3]
 have s:=h.still o
 exact { s with le:=lt_of_get hx,nx:=by rw[←n2];exact n,live:=λy hy=>h.live y (by rw[e];exact List.mem_cons_of_mem _ hy),len:=Nat.le_succ_of_le h.len,ep:=s.ep.up (Nat.le_succ _) (Nat.le_refl _) hF h.ep.hH }
theorem NxR.drop (h:NxR w1 wr p c iv ids room F H E k E' c' X' ks' dv ds) (nd:ids.Nodup) {x:Int} (hx:ids[k]? = some x) {t:Tk} (hat:at16 E'.ts x=some t) (hd:E'.isHead t=true) (hc:¬ (0<room∨t.needs=false)) (h3:t.kind=3)
  {c2:Nat→Nat} {u:World} (ep:EP u p c2 X' (F+k+1) H ks' (E'.end_ t.id)) (g2:Gw wr c' c2) (o2:Only (λg=>c' g≠0) wr u) {W:World} (oa:Only n_ u W)
  {v7:Value} (own:OwI w7 w1.heap.size v7 (ds++[t.b])) (og:Only (λj=>some j=dv.ownBlock) W w7) (hv:v7.ownBlock=dv.ownBlock∨v7.ownBlock=some W.heap.size):NxR w1 w7 p c iv ids room F H E (k+1) (E'.end_ t.id) c2 X' ks' v7 (ds++[t.b]):=by
 obtain⟨e,t',tm,tid,hat',out⟩:=h.ticket hx
 rw[hat] at hat'
 injection hat' with hat'
 subst hat'
 have n:=h.nx
 rw[e] at n
 have n2:E'.nextL room ds (x::ids.drop (k+1))=(E'.end_ t.id).nextL room (ds++[t.b]) (ids.drop (k+1)):=by
  rw[Eng.nextL]
  rw[hat,Option.getD_some]
  rw[hd,if_pos rfl,if_neg hc,if_pos h3,tid]
 have nd2:ids.drop k |>.Nodup:=nd.sublist (List.drop_sublist _ _)
 rw[e] at nd2
 have n1:=(List.nodup_cons.1 nd2).1
 have dl:∀g,dv.ownBlock=some g→w1.heap.size≤g∧g<wr.heap.size:=λg hg=>h.own.base_le hg
 have dz:∀g,dv.ownBlock=some g→c2 g=0:=λg hg=>g2.zero (h.dc g hg) (dl g hg).2
 have io:=h.inv.none3 tm h3
 exact {
  le:=lt_of_get hx
  inv:=by rw[end_drop io];exact h.inv.drop_idle tm out
  ms:=h.ms
  o:=h.o
  nx:=by rw[←n2];exact n
  live:=λy hy=>by
   obtain⟨s,hs,e1,so⟩:=h.live y (by rw[e];exact List.mem_cons_of_mem _ hy)
   refine⟨s,?_,e1,so⟩
   show s∈E'.ts.filter (λu=>!(u.id==t.id))
   rw[List.mem_filter]
   refine⟨hs,?_⟩
   have:s.id≠t.id:=λz=>n1 (by rw[←tid,←z,e1];exact hy)
   simpa using this
  len:=by rw[List.length_append,List.length_singleton];have:=h.len;omega
  ep:=(ep.still oa).keep og (λg hg z=>hg (dz g z.symm))
  gw:=Gw.next h.only h.gw g2
  own:=own
  dc:=λg hg=>by
   rcases hv with q | q
   ·exact dz g (by rw[←q];exact hg)
   ·rw[hg] at q;injection q with q;exact (ep.still oa).zero (by omega)
  idr:=((h.idr.keep o2 (λg hg z=>z (h.idc g hg).1)).still oa).keep og (λg hg z=>by have:=(dl g z.symm).1;have:=(h.idc g hg).2;omega)
  idc:=λg hg=>⟨g2.zero (h.idc g hg).1 (h.idr.base_le hg).2,(h.idc g hg).2⟩
  only:=((Gw.only h.only h.gw o2 (λg z=>z)).idle oa).trans og (λi hi z=>by have:=(dl i z.symm).1;omega) }
end
section
variable {w1 wr w' w7:World} {p:Nat} {c:Nat→Nat} {iv:Value} {ids:List Int} {room:Int} {F H:Nat} {E:Eng} {k:Nat} {E':Eng} {c':Nat→Nat} {X':Loc} {ks':List Tk} {dv:Value} {ds:List Int}
theorem NxR.beg (h:NxR w1 wr p c iv ids room F H E k E' c' X' ks' dv ds) {x:Int} (hx:ids[k]? = some x) {t:Tk} (hat:at16 E'.ts x=some t) (hd:E'.isHead t=true) (hr:0<room∨t.needs=false):E.nextL room [] ids=(E'.begin_ t room,ds,some (E'.begun t room).2):=by
 obtain⟨e,_⟩:=h.ticket hx
 have n:=h.nx
 rw[e] at n
 rw[←n,Eng.nextL]
 rw[hat,Option.getD_some]
 rw[hd,if_pos rfl,if_pos hr]
theorem NxR.over (h:NxR w1 wr p c iv ids room F H E k E' c' X' ks' dv ds) (hk:¬ k<ids.length):E.nextL room [] ids=(E',ds,none):=by
 have n:=h.nx
 rw[List.drop_eq_nil_of_le (by omega)] at n
 rw[←n,Eng.nextL]
end
def noMv:Value:=.agg #[.int .i64 0,.bool false,.int .i64 0,.int .i64 0,.slice none 0 0,.slice none 0 0,.slice none 0 0]
def NxV (w':World) (base:Nat) (mv:Value) (v':Value × Value × Value):Option Mv→Prop
 | some m=>mv=m.val v'∧MvW w' base v' m
 | none=>mv=noMv∧v'=(.slice none 0 0,.slice none 0 0,.slice none 0 0)
theorem info_fticket:(prog.info? 123).map (·.size)=some 10:=by kernel_rfl
theorem neq_tk_same (g:Nat) (w:World):(binOp .neq 118 (.pointer (some ⟨g,0,none⟩)) (.pointer (some ⟨g,0,none⟩))).run prog w=.ok (.bool false) w:=by
 cases hj:prog.info? 123 with
 | none=>have:=info_fticket;rw[hj] at this;cases this
 | some j=>exact Lib.run_neq_ptr_same w _ underlying118 hj
theorem neq_tk_other {g g':Nat} {w:World} {t t':TypeId} {cs cs':Array Value} (r:Row w g t cs) (r':Row w g' t' cs') (ne:g≠g'):(binOp .neq 118 (.pointer (some ⟨g,0,none⟩)) (.pointer (some ⟨g',0,none⟩))).run prog w=.ok (.bool true) w:=by
 cases hj:prog.info? 123 with
 | none=>have:=info_fticket;rw[hj] at this;cases this
 | some j =>
  have hs:j.size≠0:=by have:=info_fticket;rw[hj] at this;simp at this;omega
  have hne:(Addr.mk g 0 none)≠⟨g',0,none⟩:=λe=>ne (by injection e)
  have h:∀d:Nat,(Op.equalIn (d+1) 118 (.pointer (some ⟨g,0,none⟩)) (.pointer (some ⟨g',0,none⟩))).run prog w=.ok false w:=λd=>by
   simp[Op.equalIn,run_underlying underlying118,sizeOf,typeInfo,hj,hs,run_sameAddr_other w hne r r']
  simp only[binOp]
  simp[Op.equal,Op.maxDepth,h 9999]
theorem neq_tk_none (g:Nat) (w:World):(binOp .neq 118 (.pointer none) (.pointer (some ⟨g,0,none⟩))).run prog w=.ok (.bool true) w:=by
 kernel_rfl
section
variable {p:Nat} {c:Nat→Nat} {X:Loc} {F H:Nat} {ks:List Tk} {E:Eng}
theorem waits_len {E:Eng} (iv:Inv E) (few:E.ts.length≤128):(waitL E.qs).length≤128:=by
 obtain⟨nd,al⟩:=Inv.waits iv
 have:=sub_len (waitL E.qs) (E.ts.map (·.id)) nd (λx hx=>by
  obtain⟨t,ht,e,_⟩:=al x hx
  exact List.mem_map.2 ⟨t,ht,e⟩)
 rw[List.length_map] at this
 omega
set_option maxHeartbeats 4000000 in
theorem enext_any (room:Int) (w:World) (h:EP w p c X F H ks E) (iv:Inv E) (r9:-9223372036854775808≤room∧room≤9223372036854775807) (hF:F+1000<100000000) (hH:H+1<1000000) :
  Calls prog 19 #[pT p,.int .i64 room] w λe w'=>∃mv dv v',e=.returned (.tuple #[mv,dv,.bool (E.next room).2.2.isSome])∧OwI w' w.heap.size dv (E.next room).2.1∧NxV w' w.heap.size mv v' (E.next room).2.2∧EGtoP w p c (F+1000) (H+1) (E.next room).1 (MvB v') w':=by
 have WL:=hid (waits_len iv h.few)
 obtain⟨wnd,wal⟩:=Inv.waits iv
 obtain⟨W1,hW1⟩:∃W1,W1=w.alloc (.cells #[.int .i64 0,.bool false,.int .i64 0,.int .i64 0,.slice none 0 0,.slice none 0 0,.slice none 0 0] 47):=⟨_,rfl⟩
 have tx:Row W1 w.heap.size 47 #[.int .i64 0,.bool false,.int .i64 0,.int .i64 0,.slice none 0 0,.slice none 0 0,.slice none 0 0]:=by rw[hW1];exact Row.fresh _ _ _
 have o1:Only n_ w W1:=by rw[hW1];exact (Only.refl _ _).alloc _
 have h1:=h.still o1
 have H1:=hid h1
 have TX:=hid tx
 have O1:=hid o1
 have Z0:=hid (h.zero (Nat.le_refl w.heap.size))
 have LEN:=hid (λ(w':World) (o:Only n_ W1 w')=>(h1.still o).eo.mm.len underlying97 3)
 have IV:=hid iv
 have WND:=hid wnd
 have WAL:=hid wal
 have c18:W1.cell? ⟨p,18,none⟩=some (.map (some X.bm)):=h1.cell 18
 have c5:W1.cell? ⟨p,5,none⟩=some (.int .i64 E.o.b5):=h1.cell 5
 have len0:=LEN.out W1 (Only.refl _ _)
 have len1:=LEN.out W1.drew ((Only.refl n_ W1).drew)
 rw[List.length_map] at len0 len1
 obtain⟨i0,hi0,hz0,hz1,hz2⟩:=info_partsR info_int8
 have I0:=hid hi0
 have I1:=hid hz0
 have I2:=hid hz1
 have I3:=hid hz2
 unfold pT
 clear h iv wnd wal tx o1 h1 hi0 hz0 hz1 hz2
 go_enter func19,ntmps19
 go_upto_region 1 with fail
 rw[←hW1]
 clear hW1
 by_cases hb:E.o.b5≤(E.ms.length:Int)
 ·have t1:decide (E.o.b5≤(E.ms.length:Int))=true:=decide_eq_true hb
  have EN:=hid (show E.next room=(E,[],none) from if_pos hb)
  clear hb
  obtain⟨d0,d1,d2,d3,d4,d5,d6⟩:=TX.out.seven
  have z0:=TX.out.frozen 0
  have z1:=TX.out.frozen 1
  have z2:=TX.out.frozen 2
  have z3:=TX.out.frozen 3
  have z4:=TX.out.frozen 4
  have z5:=TX.out.frozen 5
  have z6:=TX.out.frozen 6
  have lt9:=TX.out.lt
  go_region
  go_wp2_with fail
  have FR:=(Only.refl n_ _).drew.still (TX.out.put7 (.int .i64 0) (.bool false) (.int .i64 0) (.int .i64 0) (.slice none 0 0) (.slice none 0 0) (.slice none 0 0))
  have FO:=(only7 (Only.refl (λg=>g=w.heap.size) W1) (g:=w.heap.size) (λ_=>rfl) (.int .i64 0) (.bool false) (.int .i64 0) (.int .i64 0) (.slice none 0 0) (.slice none 0 0) (.slice none 0 0)).drew
  refine bodyPost_ret (results_row2 rfl _ _ w.heap.size _ _ _ rfl FR underlying47 rfl info_move) rfl ⟨noMv,.slice none 0 0,(.slice none 0 0,.slice none 0 0,.slice none 0 0),?_,?_,?_,?_⟩
  ·rw[EN.out];rfl
  ·rw[EN.out];exact Owns.start _ _ _ _ _
  ·rw[EN.out];exact⟨rfl,rfl⟩
  ·rw[EN.out]
   exact EGtoP.fin H1.out (Only.refl n_ w) (Gw.refl w c) (O1.out.up) (Nat.le_refl _) Z0.out FO (by omega) (by omega) (by omega) hH (λg hg=>by rcases hg with q | q | q<;>cases q)
 ·have t1:decide (E.o.b5≤(E.ms.length:Int))=false:=decide_eq_false hb
  obtain⟨rm,hrm⟩:∃rm,rm=max room 0:=⟨_,rfl⟩
  have EN:=hid (show E.next room=E.nextL rm [] (waitL E.qs) from by rw[hrm];exact if_neg hb)
  have RM:=hid (show 0≤rm∧rm≤9223372036854775807 from by omega)
  have MB:=hid (show (E.ms.length:Int)<E.o.b5 from by omega)
  have HRM:=hid hrm.symm
  obtain⟨W2,hW2⟩:∃W2,W2=W1.drew:=⟨_,rfl⟩
  have od:Only n_ W1 W2:=by rw[hW2];exact (Only.refl _ _).drew
  have H2:=hid (H1.out.still od)
  have T2:=hid (od.still TX.out)
  have O2:=hid (O1.out.same od)
  obtain⟨L,ps,tn,eps,hL⟩:=H2.out.eo.tn
  have TW:=twaiting_any W2 tn (by have:=H2.out.hF;omega)
  rw[eps] at TW
  have TW:=hid TW
  have c15:W2.cell? ⟨p,15,none⟩=some (.pointer (some ⟨X.pt,0,none⟩)):=H2.out.cell 15
  clear hb hrm od tn eps hL
  go_region
  go_upto_region 4 with fail
  rw[←hW2,HRM.out]
  clear hW2 c18 c5 len0 len1 t1
  go_wp2_with fail
  (with_reducible refine TW.out.mono ?_)
  rintro e w1 ⟨ia,icap,rfl,oi,o1⟩
  have H3:=hid (H2.out.still o1)
  have T3:=hid (o1.still T2.out)
  have O3:=hid (O2.out.same o1)
  have OI:=hid oi
  have Z2:=hid (λg (hg:W2.heap.size≤g)=>show c g=0 from H2.out.zero hg)
  clear oi o1 TW c15
  generalize hids:waitL E.qs=ids at *
  go_wp2_with fail
  go_loopw [5,8,9,30,40,50,63] (λdv _ _ i _ _ _ wr=>∃(k:Nat) (E':Eng) (c':Nat→Nat) (X':Loc) (ks':List Tk) (dv':Value) (ds:List Int),dv'=dv∧i=.int .i64 k∧NxR w1 wr p c (.slice ia ids.length icap) ids rm F H E k E' c' X' ks' dv' ds) (λ_ _ _ i _ _ _ _=>ids.length-(intOf i).toNat)
  case atStart =>
   exact⟨0,E,c,X,ks,_,[],rfl,rfl,{ le:=Nat.zero_le _,inv:=IV.out,ms:=rfl,o:=rfl,nx:=rfl,live:=WAL.out,len:=Nat.le_refl _,ep:=H3.out,gw:=Gw.refl _ _,own:=Owns.start _ _ _ _ _,dc:=λg hg=>(by cases hg),idr:=OI.out.lower11 (Nat.zero_le _),idc:=λg hg=>⟨Z2.out g (OI.out.base_le hg).1,(OI.out.base_le hg).2⟩,only:=Only.refl _ _ }⟩
  case round =>
   obtain⟨k,E',c',X',ks',dv',ds,rfl,rfl,hR⟩:=hrel
   have R:=hid hR
   clear hR
   have wl:=WL.out
   by_cases hlt:k<ids.length
   ·have t1:decide (k<ids.length)=true:=decide_eq_true hlt
    obtain⟨x,hx⟩:∃x,ids[k]? = some x:=⟨_,List.getElem?_eq_getElem hlt⟩
    obtain⟨_,t,tm,tid,hat,out⟩:=R.out.ticket hx
    obtain⟨ra',rc',e1,rd'⟩:=Reads.of_owns R.out.idr
    obtain⟨g,ao,e2,ck⟩:=rd' k x hx
    cases e1
    subst e2
    have c17:wr.cell? ⟨p,17,none⟩=some (.map (some X'.bt)):=R.out.ep.cell 17
    have wx:(Lit.int .i64 x).wf=true:=by
     have:=R.out.ep.idr t (R.out.ep.sub t tm)
     have:=R.out.ep.ntH
     have:=R.out.ep.hH
     exact wf_i _ (by omega)
    have LK2:=R.out.ep.eo.tm.look underlying96 (zeroPtr wr) wx
    rw[at16_tk,hat] at LK2
    have r0:=R.out.ep.rowOf tm
    have EH:=ehead_any t.b wr R.out.ep
    obtain⟨gt,hgt⟩:∃gt,X'.A t.id=gt:=⟨_,rfl⟩
    rw[hgt] at r0
    have HGT:=hid hgt
    unfold optPtr pT at LK2
    unfold pT at EH
    simp only[hgt] at LK2
    have R0:=hid r0
    have x2:wr.cell? ⟨gt,2,none⟩=some (.int .i64 t.b):=R0.out.cell 2
    have HX:=hid hx
    have HAT:=hid hat
    have TID:=hid tid
    have TM:=hid tm
    have TO:=hid out
    cases hh:E'.isHead t with
    | true =>
     rw[(isHead_iff R.out.inv tm).1 hh] at EH
     unfold optPtr pT at EH
     simp only[hgt] at EH
     have EH:=hid EH
     have HH:=hid hh
     clear hx hat tm tid out rd' wx hgt r0 hh
     go_wp2_with fail
     (with_reducible refine EH.out.mono ?_)
     rintro e w2 ⟨rfl,o2⟩
     have R2:=hid (R.out.still o2)
     have R1:=hid (o2.still R0.out)
     clear o2 EH x2
     have ne0:=neq_tk_same gt w2
     have K128:k<128:=by omega
     by_cases h0:0<rm
     ·have q1:decide (0<rm)=true:=decide_eq_true h0
      have HR:=hid (show 0<rm∨t.needs=false from .inl h0)
      have RQ:=hid R2.out
      clear h0
      have BE:=ebegin_any t rm w2 RQ.out.ep RQ.out.inv ((isHead_iff RQ.out.inv TM.out).1 HH.out) TO.out RM.out.1 RM.out.2 HR.out (by rw[RQ.out.ms,RQ.out.o];exact MB.out) (by omega) hH
      unfold pT at BE
      simp only[HGT.out] at BE
      unfold Mv.val at BE
      have BE:=hid BE
      go_wp2_with fail
      (with_reducible refine BE.out.mono ?_)
      rintro e w3 ⟨⟨y1,y2,y3⟩,rfl,m3,⟨⟨c4,X4,ks4,e4,g4,zp4⟩,o4⟩⟩
      obtain⟨ya1,yk1,ye1⟩:=owns_form m3.ks
      obtain⟨ya2,yk2,ye2⟩:=owns_form m3.vs
      obtain⟨ya3,yk3,ye3⟩:=owns_form m3.fs
      dsimp only at ye1 ye2 ye3
      subst ye1 ye2 ye3
      have NX:=hid (RQ.out.beg HX.out HAT.out HH.out HR.out)
      have OO:=hid (show Only (λg=>c g≠0) w w3 from O3.out.then_ (Gw.only RQ.out.only RQ.out.gw o4 (λg z=>z)))
      have GG:=hid (show Gw w c c4 from (Gw.next RQ.out.only RQ.out.gw g4).less O3.out.size)
      have TT:=hid ((Gw.only RQ.out.only RQ.out.gw o4 (λg z=>z)).row T3.out (λz=>z Z0.out))
      have ZZ:=hid ((Gw.next RQ.out.only RQ.out.gw g4).zero Z0.out T3.out.lt)
      have OD:=hid (RQ.out.own.keep o4 (λg hg z=>z (RQ.out.dc g hg)))
      have E4:=hid e4
      have Z4:=hid zp4
      have M3:=hid m3
      have SQ:=hid (show w.heap.size<w1.heap.size∧w1.heap.size≤w2.heap.size from ⟨T3.out.lt,RQ.out.only.size⟩)
      have z0:=TT.out.frozen 0
      have z1:=TT.out.frozen 1
      have z2:=TT.out.frozen 2
      have z3:=TT.out.frozen 3
      have z4:=TT.out.frozen 4
      have z5:=TT.out.frozen 5
      have z6:=TT.out.frozen 6
      have lt9:=TT.out.lt
      obtain⟨d0,d1,d2,d3,d4,d5,d6⟩:=TT.out.seven
      clear e4 g4 zp4 o4 m3 BE
      go_wp2_with fail
      have FR:=TT.out.put7 (.int .i64 (E'.begun t rm).2.tag) (.bool (E'.begun t rm).2.wr) (.int .i64 (E'.begun t rm).2.lo) (.int .i64 (E'.begun t rm).2.n) (.slice ya1 (E'.begun t rm).2.ks.length yk1) (.slice ya2 (E'.begun t rm).2.vs.length yk2) (.slice ya3 (E'.begun t rm).2.fs.length yk3)
      have FO:=only7 (Only.refl (λg=>g=w.heap.size) w3) (g:=w.heap.size) (λ_=>rfl) (.int .i64 (E'.begun t rm).2.tag) (.bool (E'.begun t rm).2.wr) (.int .i64 (E'.begun t rm).2.lo) (.int .i64 (E'.begun t rm).2.n) (.slice ya1 (E'.begun t rm).2.ks.length yk1) (.slice ya2 (E'.begun t rm).2.vs.length yk2) (.slice ya3 (E'.begun t rm).2.fs.length yk3)
      refine bodyPost_ret (results_row2 rfl _ _ w.heap.size _ _ _ rfl FR underlying47 rfl info_move) rfl ⟨(E'.begun t rm).2.val (.slice ya1 (E'.begun t rm).2.ks.length yk1,.slice ya2 (E'.begun t rm).2.vs.length yk2,.slice ya3 (E'.begun t rm).2.fs.length yk3),dv',(.slice ya1 (E'.begun t rm).2.ks.length yk1,.slice ya2 (E'.begun t rm).2.vs.length yk2,.slice ya3 (E'.begun t rm).2.fs.length yk3),?_,?_,?_,?_⟩
      ·rw[EN.out,NX.out];rfl
      ·rw[EN.out,NX.out]
       exact (OD.out.keep FO (λg hg z=>by have e1:g=w.heap.size:=z;have:=(OD.out.base_le hg).1;have:=SQ.out;omega)).lower11 (by have:=SQ.out;omega)
      ·rw[EN.out,NX.out]
       exact⟨rfl,(M3.out.keep FO (λg hg _ z=>by have e1:g=w.heap.size:=z;have:=SQ.out;omega)).lower (by have:=SQ.out;omega)⟩
      ·rw[EN.out,NX.out]
       exact EGtoP.fin E4.out (Only.refl n_ w) GG.out OO.out (Nat.le_refl _) ZZ.out FO (by omega) (Nat.le_refl _) (by omega) hH Z4.out
     ·have q1:decide (0<rm)=false:=decide_eq_false h0
      have NF:=eneeds_any gt t w2 R1.out
      unfold pT at NF
      have NF:=hid NF
      cases hn:t.needs with
      | false =>
       rw[hn] at NF
       have HR:=hid (show 0<rm∨t.needs=false from .inr hn)
       clear h0 hn
       go_wp2_with fail
       (with_reducible refine NF.out.mono ?_)
       rintro e w2' ⟨rfl,o2'⟩
       have RQ:=hid (R2.out.still o2')
       clear o2' NF
       have BE:=ebegin_any t rm w2' RQ.out.ep RQ.out.inv ((isHead_iff RQ.out.inv TM.out).1 HH.out) TO.out RM.out.1 RM.out.2 HR.out (by rw[RQ.out.ms,RQ.out.o];exact MB.out) (by omega) hH
       unfold pT at BE
       simp only[HGT.out] at BE
       unfold Mv.val at BE
       have BE:=hid BE
       go_wp2_with fail
       (with_reducible refine BE.out.mono ?_)
       rintro e w3 ⟨⟨y1,y2,y3⟩,rfl,m3,⟨⟨c4,X4,ks4,e4,g4,zp4⟩,o4⟩⟩
       obtain⟨ya1,yk1,ye1⟩:=owns_form m3.ks
       obtain⟨ya2,yk2,ye2⟩:=owns_form m3.vs
       obtain⟨ya3,yk3,ye3⟩:=owns_form m3.fs
       dsimp only at ye1 ye2 ye3
       subst ye1 ye2 ye3
       have NX:=hid (RQ.out.beg HX.out HAT.out HH.out HR.out)
       have OO:=hid (show Only (λg=>c g≠0) w w3 from O3.out.then_ (Gw.only RQ.out.only RQ.out.gw o4 (λg z=>z)))
       have GG:=hid (show Gw w c c4 from (Gw.next RQ.out.only RQ.out.gw g4).less O3.out.size)
       have TT:=hid ((Gw.only RQ.out.only RQ.out.gw o4 (λg z=>z)).row T3.out (λz=>z Z0.out))
       have ZZ:=hid ((Gw.next RQ.out.only RQ.out.gw g4).zero Z0.out T3.out.lt)
       have OD:=hid (RQ.out.own.keep o4 (λg hg z=>z (RQ.out.dc g hg)))
       have E4:=hid e4
       have Z4:=hid zp4
       have M3:=hid m3
       have SQ:=hid (show w.heap.size<w1.heap.size∧w1.heap.size≤w2'.heap.size from ⟨T3.out.lt,RQ.out.only.size⟩)
       have z0:=TT.out.frozen 0
       have z1:=TT.out.frozen 1
       have z2:=TT.out.frozen 2
       have z3:=TT.out.frozen 3
       have z4:=TT.out.frozen 4
       have z5:=TT.out.frozen 5
       have z6:=TT.out.frozen 6
       have lt9:=TT.out.lt
       obtain⟨d0,d1,d2,d3,d4,d5,d6⟩:=TT.out.seven
       clear e4 g4 zp4 o4 m3 BE
       go_wp2_with fail
       have FR:=TT.out.put7 (.int .i64 (E'.begun t rm).2.tag) (.bool (E'.begun t rm).2.wr) (.int .i64 (E'.begun t rm).2.lo) (.int .i64 (E'.begun t rm).2.n) (.slice ya1 (E'.begun t rm).2.ks.length yk1) (.slice ya2 (E'.begun t rm).2.vs.length yk2) (.slice ya3 (E'.begun t rm).2.fs.length yk3)
       have FO:=only7 (Only.refl (λg=>g=w.heap.size) w3) (g:=w.heap.size) (λ_=>rfl) (.int .i64 (E'.begun t rm).2.tag) (.bool (E'.begun t rm).2.wr) (.int .i64 (E'.begun t rm).2.lo) (.int .i64 (E'.begun t rm).2.n) (.slice ya1 (E'.begun t rm).2.ks.length yk1) (.slice ya2 (E'.begun t rm).2.vs.length yk2) (.slice ya3 (E'.begun t rm).2.fs.length yk3)
       refine bodyPost_ret (results_row2 rfl _ _ w.heap.size _ _ _ rfl FR underlying47 rfl info_move) rfl ⟨(E'.begun t rm).2.val (.slice ya1 (E'.begun t rm).2.ks.length yk1,.slice ya2 (E'.begun t rm).2.vs.length yk2,.slice ya3 (E'.begun t rm).2.fs.length yk3),dv',(.slice ya1 (E'.begun t rm).2.ks.length yk1,.slice ya2 (E'.begun t rm).2.vs.length yk2,.slice ya3 (E'.begun t rm).2.fs.length yk3),?_,?_,?_,?_⟩
       ·rw[EN.out,NX.out];rfl
       ·rw[EN.out,NX.out]
        exact (OD.out.keep FO (λg hg z=>by have e1:g=w.heap.size:=z;have:=(OD.out.base_le hg).1;have:=SQ.out;omega)).lower11 (by have:=SQ.out;omega)
       ·rw[EN.out,NX.out]
        exact⟨rfl,(M3.out.keep FO (λg hg _ z=>by have e1:g=w.heap.size:=z;have:=SQ.out;omega)).lower (by have:=SQ.out;omega)⟩
       ·rw[EN.out,NX.out]
        exact EGtoP.fin E4.out (Only.refl n_ w) GG.out OO.out (Nat.le_refl _) ZZ.out FO (by omega) (Nat.le_refl _) (by omega) hH Z4.out
      | true =>
       rw[hn] at NF
       have NC:=hid (show ¬(0<rm∨t.needs=false) from by rw[hn];simp;omega)
       clear h0 hn
       go_wp2_with fail
       (with_reducible refine NF.out.mono ?_)
       rintro e w2' ⟨rfl,o2'⟩
       have RQ:=hid (R2.out.still o2')
       have RR1:=hid (o2'.still R1.out)
       have x1:w2'.cell? ⟨gt,1,none⟩=some (.int .i64 t.kind):=RR1.out.cell 1
       clear o2' NF
       by_cases k3:t.kind=3
       ·have q3:(t.kind==3)=true:=by simp[k3]
        have K3:=hid k3
        clear k3
        have tks:=RQ.out.ep.sub t TM.out
        have EE:=eend_any t w2' RQ.out.ep tks (by omega)
        unfold pT at EE
        simp only[HGT.out] at EE
        have EE:=hid EE
        have C6:=hid (show c' gt=6 from by rw[←HGT.out];exact (RQ.out.ep.eo.tk t tks).2)
        clear tks
        go_wp2_with fail
        (with_reducible refine EE.out.mono ?_)
        rintro e w3 ⟨rfl,⟨c4,e4,g4⟩,o4⟩
        have E4:=hid e4
        have G4:=hid g4
        have O4:=hid (o4.more (S':=λg=>c' g≠0) (λi _ z=>z.1))
        have R4:=hid (o4.row RR1.out (λz=>z.2 C6.out))
        have x2:w3.cell? ⟨gt,2,none⟩=some (.int .i64 t.b):=R4.out.cell 2
        have OD:=hid (RQ.out.own.keep O4.out (λg hg z=>z (RQ.out.dc g hg)))
        clear e4 g4 o4 EE
        obtain⟨W5,hW5⟩:∃W,W=w3.alloc (.cells #[.int .i64 t.b] 3):=⟨_,rfl⟩
        have oa:Only n_ w3 W5:=by rw[hW5];exact (Only.refl _ _).alloc _
        have rf:Row W5 w3.heap.size 3 #[.int .i64 t.b]:=by rw[hW5];exact Row.fresh _ _ _
        have ES:W5.heap.size=w3.heap.size+1:=by rw[hW5];simp
        have SR:=hid (show Src W5 (.slice (some ⟨w3.heap.size,0,none⟩) 1 1) 1 [.int .i64 t.b] from .inr ⟨_,1,rfl,λj u hj=>by
         rw[addL11,Nat.zero_add,rf.cell,List.getElem?_toArray]
         exact hj⟩)
        have OA:=hid oa
        have OD5:=hid (OD.out.still oa)
        have DL:=hid (show ds.length≤128 from by have:=RQ.out.len;omega)
        have BSZ:=hid (show w1.heap.size≤W5.heap.size from Nat.le_trans RQ.out.only.size (Nat.le_trans O4.out.size oa.size))
        clear oa rf OD
        go_wp2_with (at_builtin;go_loud (first | rw[←hW5] | skip);(refine wpList_append_src _ rfl (.tmp 73) (.tmp 79) 44 rfl w1.heap.size 3 i0 _ 1 8 underlying44 I0.out I1.out I2.out I3.out rfl (by decide) _ ds.length (ds.flatMap one11) rfl OD5.out _ 1 [.int .i64 t.b] rfl SR.out rfl (λu hu=>by rw[List.mem_singleton.1 hu];rfl) (by have:=DL.out;unfold maxLen;omega) (by have:=DL.out;omega) BSZ.out ?_))
        intro v7 w7 hown hgrow hblk
        rw[←hW5] at hgrow
        rw[←ES] at hblk
        have V7:OwI w7 w1.heap.size v7 (ds++[t.b]):=by
         show Owns _ _ _ _ _ _ _
         unfold Owns
         rw[List.flatMap_append,List.length_append]
         simpa [one11] using hown
        have RR:=hid (RQ.out.drop WND.out HX.out HAT.out HH.out NC.out K3.out E4.out G4.out O4.out OA.out V7 (Only.of_grown hgrow) hblk)
        clear hown hgrow hblk V7 hW5 ES
        go_wp2_with fail
        go_roundw
        case rel=>exact⟨k+1,_,_,_,_,_,_,rfl,by go_num,RR.out⟩
        case measure=>simp[intOf];omega
       ·have q3:(t.kind==3)=false:=by simpa using k3
        have RR:=hid (RQ.out.pass HX.out HAT.out (.inr ⟨NC.out,k3⟩) (Only.refl n_ _) (by omega))
        clear k3
        go_wp2_with fail
        go_roundw
        case rel=>exact⟨k+1,_,_,_,_,_,_,rfl,by go_num,RR.out⟩
        case measure=>simp[intOf];omega
    | false =>
     have HD:=hid hh
     have K128:k<128:=by omega
     have PTR:∃a,optPtr X'.A (E'.head t.b)=.pointer a∧∀w2,Only n_ wr w2→(binOp .neq 118 (.pointer a) (.pointer (some ⟨gt,0,none⟩))).run prog w2=.ok (.bool true) w2:=by
      cases hd:E'.head t.b with
      | none=>exact⟨none,rfl,λw2 _=>neq_tk_none gt w2⟩
      | some u =>
       have um:=(mem_head hd).1
       have ru:=R.out.ep.rowOf um
       refine⟨some ⟨X'.A u.id,0,none⟩,rfl,λw2 o=>neq_tk_other (o.still ru) (o.still R0.out) (λe=>?_)⟩
       have:u=t:=R.out.ep.eo.inj u (R.out.ep.sub u um) t (R.out.ep.sub t TM.out) (by rw[e,HGT.out])
       rw[this] at hd
       rw[(isHead_iff R.out.inv tm).2 hd] at hh
       cases hh
     obtain⟨pa,hpa,hne⟩:=PTR
     rw[hpa] at EH
     have EH:=hid EH
     clear hx hat tm tid out rd' wx hgt r0 hh hpa
     go_wp2_with fail
     (with_reducible refine EH.out.mono ?_)
     rintro e w2 ⟨rfl,o2⟩
     have ne0:=hne w2 o2
     have RR:=hid (R.out.pass HX.out HAT.out (.inl HD.out) o2 (by omega))
     clear o2 EH x2 hne
     go_wp2_with fail
     go_roundw
     case rel=>exact⟨k+1,_,_,_,_,_,_,rfl,by go_num,RR.out⟩
     case measure=>simp[intOf];omega
   ·have t1:decide (k<ids.length)=false:=decide_eq_false hlt
    have NX:=hid (R.out.over hlt)
    have KB:=hid (show k≤128 from by have:=R.out.le;omega)
    clear hlt
    have TT:=hid (R.out.only.row T3.out (λz=>z Z0.out))
    have ZZ:=hid (R.out.gw.zero Z0.out T3.out.lt)
    have z0:=TT.out.frozen 0
    have z1:=TT.out.frozen 1
    have z2:=TT.out.frozen 2
    have z3:=TT.out.frozen 3
    have z4:=TT.out.frozen 4
    have z5:=TT.out.frozen 5
    have z6:=TT.out.frozen 6
    have lt9:=TT.out.lt
    obtain⟨d0,d1,d2,d3,d4,d5,d6⟩:=TT.out.seven
    go_wp2_with fail
    have FR:=TT.out.put7 (.int .i64 0) (.bool false) (.int .i64 0) (.int .i64 0) (.slice none 0 0) (.slice none 0 0) (.slice none 0 0)
    have FO:=only7 (Only.refl (λg=>g=w.heap.size) wr) (g:=w.heap.size) (λ_=>rfl) (.int .i64 0) (.bool false) (.int .i64 0) (.int .i64 0) (.slice none 0 0) (.slice none 0 0) (.slice none 0 0)
    refine bodyPost_ret (results_row2 rfl _ _ w.heap.size _ _ _ rfl FR underlying47 rfl info_move) rfl ⟨noMv,dv',(.slice none 0 0,.slice none 0 0,.slice none 0 0),?_,?_,?_,?_⟩
    ·rw[EN.out,NX.out];rfl
    ·rw[EN.out,NX.out]
     exact (R.out.own.keep FO (λg hg z=>by have e1:g=w.heap.size:=z;have:=(R.out.own.base_le hg).1;have:=T3.out.lt;omega)).lower11 (Nat.le_of_lt T3.out.lt)
    ·rw[EN.out,NX.out];exact⟨rfl,rfl⟩
    ·rw[EN.out,NX.out]
     exact EGtoP.fin R.out.ep (Only.refl n_ w) (R.out.gw.less O3.out.size) (O3.out.then_ R.out.only) (Nat.le_refl _) ZZ.out FO (by have:=KB.out;omega) (by omega) (by omega) hH (λg hg=>by rcases hg with q | q | q<;>cases q)
end
end Go.Proofs.YtfbpjobobdidiaaGreatDoor
