/- Package fetch's takeAlong: a ticket goes out with a move. -/
import Derived.Test.YtfbpjobobdidiaaGreatDoorRG29
namespace Go.Proofs.YtfbpjobobdidiaaGreatDoor
open Lib (hid)
open Go.Proofs.Tryz
open Go.RowKit Go.Maps
set_option linter.unusedVariables false
set_option maxRecDepth 100000
theorem form16 {w:World} {base:Nat} {e:TypeId} {size k:Nat} {v:Value} {xs:List Value} (h:w.ownsRow base e size v k xs):∃a n c,v=.slice a n c:=by
 rcases h.2 with ⟨h0,_⟩|⟨g,cap,cur,hv,_⟩
 ·exact⟨none,0,0,h0⟩
 ·exact⟨_,_,_,hv⟩
def Mv.row (m:Mv) (v:Value × Value × Value):Array Value:=#[.int .i64 m.tag,.bool m.wr,.int .i64 m.lo,.int .i64 m.n,v.1,v.2.1,v.2.2]
structure MvR (w:World) (base mb:Nat) (v:Value × Value × Value) (m:Mv):Prop where
 row:Row w mb 47 (m.row v)
 ws:MvW w base v m
 ap:∀g,v.1.ownBlock=some g→v.2.2.ownBlock≠some g
abbrev mine (base mb:Nat):Nat→Prop:=λg=>g=mb∨base≤g
section
variable {w wa w5:World} {base mb:Nat} {v:Value × Value × Value} {m:Mv}
theorem MvR.still {w':World} (h:MvR w base mb v m) (o:Only n_ w w'):MvR w' base mb v m:=⟨o.still h.row,h.ws.still o,h.ap⟩
theorem MvR.keep {w':World} (h:MvR w base mb v m) {S:Nat→Prop} (o:Only S w w') (hm:¬ S mb) (hn:∀g,base≤g→g<w.heap.size→¬ S g):MvR w' base mb v m:=⟨o.row h.row hm,h.ws.keep o hn,h.ap⟩
theorem MvR.ks5 (h:MvR w base mb v m) (oa:Only n_ w wa) {v5:Value} {x:Int} (own:OwI w5 base v5 (m.ks++[x])) (o5:Only (λj=>some j=v.1.ownBlock) wa w5) (b5:v5.ownBlock=v.1.ownBlock∨v5.ownBlock=some wa.heap.size) :
  MvR (w5.setCell ⟨mb,4,none⟩ v5) base mb (v5,v.2.1,v.2.2) { m with ks:=m.ks++[x] }∧Only (mine base mb) w (w5.setCell ⟨mb,4,none⟩ v5):=by
 have ha:=h.still oa
 have r5:=o5.row ha.row (own_row ha.ws.ks ha.row (by decide))
 have o6:Only (λk=>k=mb) w5 (w5.setCell ⟨mb,4,none⟩ v5):=(Only.refl (λk=>k=mb) w5).into rfl 4 v5
 have nb:∀g,g=mb→v5.ownBlock≠some g:=λg e q=>own_row own r5 (by decide) (by rw[←e];exact q.symm)
 refine⟨⟨r5.put 4 v5,⟨own.keep o6 (λg hg e=>nb g e hg),?_,?_⟩,?_⟩,?_⟩
 ·exact (ha.ws.vs.keep o5 (λg hg e=>own_apart ha.ws.vs ha.ws.ks (by decide) g hg e.symm)).keep o6 (λg hg e=>own_row (ha.ws.vs.keep o5 (λg hg e=>own_apart ha.ws.vs ha.ws.ks (by decide) g hg e.symm)) r5 (by decide) (by rw[←e];exact hg.symm))
 ·exact (ha.ws.fs.keep o5 (λg hg e=>ha.ap g e.symm hg)).keep o6 (λg hg e=>own_row (ha.ws.fs.keep o5 (λg hg e=>ha.ap g e.symm hg)) r5 (by decide) (by rw[←e];exact hg.symm))
 ·intro g hg e
  rcases b5 with q | q
  ·exact h.ap g (q▸hg) e
  ·have:=(ha.ws.fs.base_le e).2
   rw[show v5.ownBlock=some g from hg] at q
   cases q
   omega
 ·exact ((oa.up (S:=mine base mb)).trans o5 (λi hi q=>.inr (ha.ws.ks.base_le q.symm).1)).trans o6 (λi hi e=>.inl e)
theorem MvR.fs5 (h:MvR w base mb v m) (oa:Only n_ w wa) {v5:Value} {x:Int} (own:OwI w5 base v5 (m.fs++[x])) (o5:Only (λj=>some j=v.2.2.ownBlock) wa w5) (b5:v5.ownBlock=v.2.2.ownBlock∨v5.ownBlock=some wa.heap.size) :
  MvR (w5.setCell ⟨mb,6,none⟩ v5) base mb (v.1,v.2.1,v5) { m with fs:=m.fs++[x] }∧Only (mine base mb) w (w5.setCell ⟨mb,6,none⟩ v5):=by
 have ha:=h.still oa
 have r5:=o5.row ha.row (own_row ha.ws.fs ha.row (by decide))
 have o6:Only (λk=>k=mb) w5 (w5.setCell ⟨mb,6,none⟩ v5):=(Only.refl (λk=>k=mb) w5).into rfl 6 v5
 refine⟨⟨r5.put 6 v5,⟨?_,?_,own.keep o6 (λg hg e=>own_row own r5 (by decide) (by rw[←e];exact hg.symm))⟩,?_⟩,?_⟩
 ·exact (ha.ws.ks.keep o5 (λg hg e=>ha.ap g hg e.symm)).keep o6 (λg hg e=>own_row (ha.ws.ks.keep o5 (λg hg e=>ha.ap g hg e.symm)) r5 (by decide) (by rw[←e];exact hg.symm))
 ·exact (ha.ws.vs.keep o5 (λg hg e=>own_apart ha.ws.vs ha.ws.fs (by decide) g hg e.symm)).keep o6 (λg hg e=>own_row (ha.ws.vs.keep o5 (λg hg e=>own_apart ha.ws.vs ha.ws.fs (by decide) g hg e.symm)) r5 (by decide) (by rw[←e];exact hg.symm))
 ·intro g hg e
  rcases b5 with q | q
  ·exact h.ap g hg (q▸e)
  ·have:=(ha.ws.ks.base_le hg).2
   rw[show v5.ownBlock=some g from e] at q
   cases q
   omega
 ·exact ((oa.up (S:=mine base mb)).trans o5 (λi hi q=>.inr (ha.ws.fs.base_le q.symm).1)).trans o6 (λi hi e=>.inl e)
theorem MvR.vs5 (h:MvR w base mb v m) (oa:Only n_ w wa) {v5:Value} {x:Int} (own:OwnsU w5 base v5 (m.vs++[x])) (o5:Only (λj=>some j=v.2.1.ownBlock) wa w5) :
  MvR (w5.setCell ⟨mb,5,none⟩ v5) base mb (v.1,v5,v.2.2) { m with vs:=m.vs++[x] }∧Only (mine base mb) w (w5.setCell ⟨mb,5,none⟩ v5):=by
 have ha:=h.still oa
 have r5:=o5.row ha.row (own_row ha.ws.vs ha.row (by decide))
 have o6:Only (λk=>k=mb) w5 (w5.setCell ⟨mb,5,none⟩ v5):=(Only.refl (λk=>k=mb) w5).into rfl 5 v5
 refine⟨⟨r5.put 5 v5,⟨?_,own.keep o6 (λg hg e=>own_row own r5 (by decide) (by rw[←e];exact hg.symm)),?_⟩,h.ap⟩,?_⟩
 ·exact (ha.ws.ks.keep o5 (λg hg e=>own_apart ha.ws.ks ha.ws.vs (by decide) g hg e.symm)).keep o6 (λg hg e=>own_row (ha.ws.ks.keep o5 (λg hg e=>own_apart ha.ws.ks ha.ws.vs (by decide) g hg e.symm)) r5 (by decide) (by rw[←e];exact hg.symm))
 ·exact (ha.ws.fs.keep o5 (λg hg e=>own_apart ha.ws.fs ha.ws.vs (by decide) g hg e.symm)).keep o6 (λg hg e=>own_row (ha.ws.fs.keep o5 (λg hg e=>own_apart ha.ws.fs ha.ws.vs (by decide) g hg e.symm)) r5 (by decide) (by rw[←e];exact hg.symm))
 ·exact ((oa.up (S:=mine base mb)).trans o5 (λi hi q=>.inr (ha.ws.vs.base_le q.symm).1)).trans o6 (λi hi e=>.inl e)
end
theorem upd_upd {ts:List Tk} {x:Int} {f1 f2 g:Tk→Tk} (k:Keeps f1) (h:∀s∈ts,s.id=x→f2 (f1 s)=g s):upd (upd ts x f1) x f2=upd ts x g:=by
 unfold Go.Proofs.YtfbpjobobdidiaaGreatDoor.upd
 rw[List.map_map]
 apply List.map_congr_left
 intro s hs
 show (if (if s.id=x then f1 s else s).id=x then f2 (if s.id=x then f1 s else s) else (if s.id=x then f1 s else s))=_
 by_cases e:s.id=x
 ·simp only[if_pos e]
  rw[if_pos (by rw[(k s).1];exact e)]
  exact h s hs e
 ·simp only[if_neg e]
theorem upd_one {ts:List Tk} {x:Int} {f g:Tk→Tk} (h:∀s∈ts,s.id=x→f s=g s):upd ts x f=upd ts x g:=by
 unfold Go.Proofs.YtfbpjobobdidiaaGreatDoor.upd
 apply List.map_congr_left
 intro s hs
 by_cases e:s.id=x
 ·rw[if_pos e,if_pos e];exact h s hs e
 ·rw[if_neg e,if_neg e]
def Tk.frame (t:Tk):Tk:={ t with fr:=true }
def Tk.depart (t:Tk):Tk:={ t with out:=true }
section
variable {p:Nat} {c:Nat→Nat} {X:Loc} {F H:Nat} {ks:List Tk} {E:Eng} {base mb:Nat}
set_option maxHeartbeats 4000000 in
theorem ealong_any (t:Tk) (v:Value × Value × Value) (m:Mv) (w:World) (h:EP w p c X F H ks E) (ht:t∈ks) (hF:F+1<100000000) (hm:MvR w base mb v m) (hz:∀g,base≤g→c g=0) (hmz:c mb=0) (hb:base≤w.heap.size) (hl:m.ks.length≤1000∧m.vs.length≤1000∧m.fs.length≤1000) :
    Calls prog 104 #[pT p,pT (X.A t.id),pT mb] w λe w'=>∃v',e=.returned (.tuple #[])∧MvR w' base mb v' (E.along m t).2∧EP w' p c X (F+1) H (upd ks t.id Tk.go) (E.along m t).1∧Only (λg=>c g≠0∨mine base mb g) w w':=by
  have r0:=(h.eo.tk t ht).1
  have nz:=(h.eo.tk t ht).2
  obtain⟨g,hg⟩:∃g,X.A t.id=g:=⟨_,rfl⟩
  rw[hg] at r0 nz
  have HG:=hid hg
  rw[hg]
  obtain⟨i0,hi0,hz0,hz1,hz2⟩:=info_partsR info_int8
  have I0:=hid hi0
  have I1:=hid hz0
  have I2:=hid hz1
  have I3:=hid hz2
  clear hi0 hz0 hz1 hz2
  obtain⟨i1,hi0,hz0,hz1,hz2⟩:=info_partsR info_u64
  have I0u:=hid hi0
  have I1u:=hid hz0
  have I2u:=hid hz1
  have I3u:=hid hz2
  clear hi0 hz0 hz1 hz2
  obtain⟨v1,v2,v3⟩:=v
  have H0:=hid h
  have HM:=hid hm
  have R0:=hid r0
  have HB:=hid hb
  have HB0:=hid hb
  have HL:=hid hl
  have HT:=hid ht
  have HFF:=hid hF
  have NZ:=hid nz
  have ZZ:=hid (show ∀i,c i≠0→¬ mine base mb i from λi hi e=>by
    rcases e with e | e
    · exact hi (by rw[e];exact hmz)
    · exact hi (hz i e))
  clear h hm r0 hg hb hl ht hF nz hz hmz
  unfold pT
  go_enter func104,ntmps104
  have OA:=hid (((Only.refl n_ w).drew).alloc (.cells #[.int .i64 t.id] 3))
  have OWN:=hid (show ((w.drew).alloc (.cells #[.int .i64 t.id] 3)).ownsRow base 3 1 v1 (m.ks).length ((m.ks).flatMap one11) from HM.out.ws.ks.still OA.out)
  have NEWS:=hid (show ∀j u,([.int .i64 t.id]:List Value)[j]? = some u→((w.drew).alloc (.cells #[.int .i64 t.id] 3)).cell? ((Addr.mk (w.drew).heap.size 0 none).add j)=some u from λj u hj=>by rw[addL11,Nat.zero_add,(Row.fresh w.drew _ _).cell,List.getElem?_toArray];exact hj)
  have ONES:=hid (show ∀u∈([.int .i64 t.id]:List Value),u.oneCell'=true from λu hu=>by rw[List.mem_singleton.1 hu];rfl)
  have B1:=hid (show (m.ks).length+1≤maxLen from by have:=HL.out;unfold maxLen;omega)
  have B2:=hid (show ((m.ks).length+1)*8≤140737488355328 from by have:=HL.out;omega)
  have BS:=hid (show base≤((w.drew).alloc (.cells #[.int .i64 t.id] 3)).heap.size from Nat.le_trans HB.out OA.out.size)
  have KS:=hid (λ(w':World) (o:Only (λj=>some j=v1.ownBlock) w w')=>(show w'.cell? ⟨mb,4,none⟩=some v1∧w'.frozen? ⟨mb,4,none⟩=false∧w'.cell? ⟨g,0,none⟩=some (.int .i64 t.id) from by
    have r1:=o.row HM.out.row (own_row HM.out.ws.ks HM.out.row (by decide))
    have r2:=o.row R0.out (own_row HM.out.ws.ks R0.out (by decide))
    exact⟨r1.cell 4,r1.frozen 4,r2.cell 0⟩))
  obtain⟨a0,a1,a2⟩:=KS.out _ (Only.refl _ w)
  obtain⟨e0,e1,e2⟩:=KS.out _ ((Only.refl _ w).drew)
  obtain⟨f0,f1,f2⟩:=KS.out _ OA.out.up
  obtain⟨k0,k1,k2⟩:=KS.out _ ((((Only.refl n_ w).alloc (.cells #[.int .i64 t.id] 3)).drew).up)
  go_wp2_with fail
  go_cut [17] from 6 to 20 (λ_ wx=>∃v',MvR wx base mb (v',v2,v3) { m with ks:=m.ks++[t.id] }∧Only (mine base mb) w wx)
  case first =>
    go_region_law
      (first
        | (refine step_append_at11 rfl (.tmp 10) (.tmp 16) 44 rfl base 3 i0 _ 1 8 underlying44 I0.out I1.out I2.out I3.out rfl (by decide) v1 (m.ks).length ((m.ks).flatMap one11) (by simp[Act.eval]) OWN.out ⟨w.drew.heap.size,0,none⟩ 1 1 [.int .i64 t.id] (by simp[Act.eval]) rfl NEWS.out ONES.out B1.out B2.out BS.out ?_
           intro v5 w5 hown5 hgrow5 hat5
           obtain⟨a5,n5,k5,rfl⟩:=form16 hown5
           have G5:=hid (Only.of_grown hgrow5)
           have AT:=hid hat5
           have W5:=hid hown5
           obtain⟨y0,y1,y2⟩:=KS.out _ (OA.out.up.trans (S':=λj=>some j=v1.ownBlock) (Only.of_grown hgrow5) (λi _ s=>s))
           clear hown5 hgrow5 hat5)
        | fail)
    all_goals
      go_wp2_with fail
      go_meet
      have q:=HM.out.ks5 (x:=t.id) OA.out (v5:=.slice a5 n5 k5) (w5:=w5) (by
        show Owns _ _ _ _ _ _ _
        unfold Owns
        have k:=W5.out
        rw[List.flatMap_append,List.length_append]
        simpa [one11] using k) G5.out AT.out
      exact⟨_,q.1,q.2⟩
  case rest =>
    obtain⟨z1,hm1,om1⟩:=hcut
    clear OA OWN NEWS ONES B1 B2 BS KS a0 a1 a2 e0 e1 e2 f0 f1 f2 k0 k1 k2
    have H1:=hid (H0.out.keep om1 ZZ.out)
    have R1:=hid (om1.row R0.out (ZZ.out _ (by rw[NZ.out];decide)))
    have HM1:=hid hm1
    have O1:=hid om1
    have EN:=hid (eneeds_any g t wc R1.out)
    clear R0 HM hm1 om1
    unfold pT at EN
    go_wp2_with fail
    (with_reducible refine EN.out.mono ?_)
    rintro e w2 ⟨rfl,o2⟩
    have H2:=hid (H1.out.still o2)
    have R0:=hid (o2.still R1.out)
    have HM:=hid (HM1.out.still o2)
    have O2:=hid (O1.out.same o2.up)
    have HB:=hid (show base≤w2.heap.size from Nat.le_trans HB.out O2.out.size)
    clear o2 R1 HM1 O1 EN H1
    cases hn:t.needs with
    | true =>
      have HN:=hid hn
      have OA:=hid (((Only.refl n_ w2).drew).alloc (.cells #[.int .i64 t.b] 3))
      have OWN:=hid (show ((w2.drew).alloc (.cells #[.int .i64 t.b] 3)).ownsRow base 3 1 v3 (m.fs).length ((m.fs).flatMap one11) from HM.out.ws.fs.still OA.out)
      have NEWS:=hid (show ∀j u,([.int .i64 t.b]:List Value)[j]? = some u→((w2.drew).alloc (.cells #[.int .i64 t.b] 3)).cell? ((Addr.mk (w2.drew).heap.size 0 none).add j)=some u from λj u hj=>by rw[addL11,Nat.zero_add,(Row.fresh w2.drew _ _).cell,List.getElem?_toArray];exact hj)
      have ONES:=hid (show ∀u∈([.int .i64 t.b]:List Value),u.oneCell'=true from λu hu=>by rw[List.mem_singleton.1 hu];rfl)
      have B1:=hid (show (m.fs).length+1≤maxLen from by have:=HL.out;unfold maxLen;omega)
      have B2:=hid (show ((m.fs).length+1)*8≤140737488355328 from by have:=HL.out;omega)
      have BS:=hid (show base≤((w2.drew).alloc (.cells #[.int .i64 t.b] 3)).heap.size from Nat.le_trans HB.out OA.out.size)
      have KS:=hid (λ(w':World) (o:Only (λj=>some j=v3.ownBlock) w2 w')=>(show w'.cell? ⟨mb,6,none⟩=some v3∧w'.frozen? ⟨mb,6,none⟩=false∧w'.cell? ⟨g,2,none⟩=some (.int .i64 t.b) from by
        have r1:=o.row HM.out.row (own_row HM.out.ws.fs HM.out.row (by decide))
        have r2:=o.row R0.out (own_row HM.out.ws.fs R0.out (by decide))
        exact⟨r1.cell 6,r1.frozen 6,r2.cell 2⟩))
      obtain⟨a0,a1,a2⟩:=KS.out _ (Only.refl _ w2)
      obtain⟨e0,e1,e2⟩:=KS.out _ ((Only.refl _ w2).drew)
      obtain⟨f0,f1,f2⟩:=KS.out _ OA.out.up
      obtain⟨k0,k1,k2⟩:=KS.out _ ((((Only.refl n_ w2).alloc (.cells #[.int .i64 t.b] 3)).drew).up)
      go_wp2_with fail
      go_cut [33] from 22 to 36 (λ_ wx=>∃v',MvR wx base mb (z1,v2,v') { m with ks:=m.ks++[t.id],fs:=m.fs++[t.b] }∧Only (mine base mb) w2 wx)
      case first =>
        go_region_law
          (first
            | (refine step_append_at11 rfl (.tmp 26) (.tmp 32) 44 rfl base 3 i0 _ 1 8 underlying44 I0.out I1.out I2.out I3.out rfl (by decide) v3 (m.fs).length ((m.fs).flatMap one11) (by simp[Act.eval]) OWN.out ⟨w2.drew.heap.size,0,none⟩ 1 1 [.int .i64 t.b] (by simp[Act.eval]) rfl NEWS.out ONES.out B1.out B2.out BS.out ?_
               intro v5 w5 hown5 hgrow5 hat5
               obtain⟨a5,n5,k5,rfl⟩:=form16 hown5
               have G5:=hid (Only.of_grown hgrow5)
               have AT:=hid hat5
               have W5:=hid hown5
               obtain⟨y0,y1,y2⟩:=KS.out _ (OA.out.up.trans (S':=λj=>some j=v3.ownBlock) (Only.of_grown hgrow5) (λi _ s=>s))
               clear hown5 hgrow5 hat5)
            | fail)
        all_goals
          go_wp2_with fail
          go_meet
          have q:=HM.out.fs5 (x:=t.b) OA.out (v5:=.slice a5 n5 k5) (w5:=w5) (by
            show Owns _ _ _ _ _ _ _
            unfold Owns
            have k:=W5.out
            rw[List.flatMap_append,List.length_append]
            simpa [one11] using k) G5.out AT.out
          exact⟨_,q.1,q.2⟩
      case rest =>
        obtain⟨z3,hm3,om3⟩:=hcut
        clear OA OWN NEWS ONES B1 B2 BS KS a0 a1 a2 e0 e1 e2 f0 f1 f2 k0 k1 k2
        have h3:=H2.out.keep om3 ZZ.out
        have r3:=om3.row R0.out (ZZ.out _ (by rw[NZ.out];decide))
        have O3:=hid (O2.out.same om3)
        have HM3:=hid hm3
        have y7:wc.cell? ⟨g,7,none⟩=some (.bool t.fr):=r3.cell 7
        have f7:=r3.frozen 7
        have l7:=r3.lt
        obtain⟨w5,hw5⟩:∃w5,w5=wc.setCell ⟨g,7,none⟩ (.bool true):=⟨_,rfl⟩
        have h5:=h3.put HT.out Tk.frame (λs=>⟨rfl,rfl⟩) 7 (.bool true) rfl
        rw[HG.out,←hw5] at h5
        have o5:Only (λk=>k=g) wc w5:=by rw[hw5];exact (Only.refl (λk=>k=g) wc).into rfl 7 _
        have r5:Row w5 g 123 (Tk.frame t).cells:=by rw[hw5];exact r3.put 7 _
        have hm5:=HM3.out.keep o5 (λe=>ZZ.out g (by rw[NZ.out];decide) (.inl e.symm)) (λj hj _ e=>ZZ.out g (by rw[NZ.out];decide) (.inr (by have e1:j=g:=e;omega)))
        have c1:w5.cell? ⟨mb,1,none⟩=some (.bool m.wr):=hm5.row.cell 1
        have O5:=hid ((O3.out.more (S':=λg=>c g≠0∨mine base mb g) (λi _ e=>.inr e)).trans o5 (λi _ e=>.inl (by have e1:i=g:=e;rw[e1,NZ.out];decide)))
        clear HM R0 O2 H2 O3 HM3 hm3 om3 HB
        have HT3:=hid (show t.frame∈Go.Proofs.YtfbpjobobdidiaaGreatDoor.upd ks t.id Tk.frame from List.mem_map.2 ⟨t,HT.out,if_pos rfl⟩)
        have HM:=hid hm5
        have H3:=hid h5
        have R0:=hid r5
        have O2:=hid O5.out
        have HB:=hid (show base≤w5.heap.size from Nat.le_trans HB0.out O5.out.size)
        clear hm5 h5 r5 O5 o5 h3 r3
        go_upto_region 4 with fail
        rw[←hw5]
        clear hw5 y7 f7 l7
        cases hw:m.wr with
        | true =>
          have HW:=hid hw
          rw[hw] at c1
          clear hw
          have OA:=hid (((Only.refl n_ w5).drew).alloc (.cells #[.int .u64 t.v] 34))
          have OWN:=hid (show ((w5.drew).alloc (.cells #[.int .u64 t.v] 34)).ownsRow base 34 1 v2 (m.vs).length ((m.vs).flatMap oneU) from HM.out.ws.vs.still OA.out)
          have NEWS:=hid (show ∀j u,([.int .u64 t.v]:List Value)[j]? = some u→((w5.drew).alloc (.cells #[.int .u64 t.v] 34)).cell? ((Addr.mk (w5.drew).heap.size 0 none).add j)=some u from λj u hj=>by rw[addL11,Nat.zero_add,(Row.fresh w5.drew _ _).cell,List.getElem?_toArray];exact hj)
          have ONES:=hid (show ∀u∈([.int .u64 t.v]:List Value),u.oneCell'=true from λu hu=>by rw[List.mem_singleton.1 hu];rfl)
          have B1:=hid (show (m.vs).length+1≤maxLen from by have:=HL.out;unfold maxLen;omega)
          have B2:=hid (show ((m.vs).length+1)*8≤140737488355328 from by have:=HL.out;omega)
          have BS:=hid (show base≤((w5.drew).alloc (.cells #[.int .u64 t.v] 34)).heap.size from Nat.le_trans HB.out OA.out.size)
          have KS:=hid (λ(w':World) (o:Only (λj=>some j=v2.ownBlock) w5 w')=>(show w'.cell? ⟨mb,5,none⟩=some v2∧w'.frozen? ⟨mb,5,none⟩=false∧w'.cell? ⟨g,9,none⟩=some (.int .u64 t.v) from by
            have r1:=o.row HM.out.row (own_row HM.out.ws.vs HM.out.row (by decide))
            have r2:=o.row R0.out (own_row HM.out.ws.vs R0.out (by decide))
            exact⟨r1.cell 5,r1.frozen 5,r2.cell 9⟩))
          obtain⟨a0,a1,a2⟩:=KS.out _ (Only.refl _ w5)
          obtain⟨e0,e1,e2⟩:=KS.out _ ((Only.refl _ w5).drew)
          obtain⟨f0,f1,f2⟩:=KS.out _ OA.out.up
          obtain⟨k0,k1,k2⟩:=KS.out _ ((((Only.refl n_ w5).alloc (.cells #[.int .u64 t.v] 34)).drew).up)
          go_wp2_with fail
          go_cut [54] from 44 to 57 (λ_ wx=>∃v',MvR wx base mb (z1,v',z3) { m with ks:=m.ks++[t.id],fs:=m.fs++[t.b],vs:=m.vs++[t.v] }∧Only (mine base mb) w5 wx)
          case first =>
            go_region_law
              (first
                | (refine step_append_at11 rfl (.tmp 48) (.tmp 53) 45 rfl base 34 i1 _ 1 8 underlying45 I0u.out I1u.out I2u.out I3u.out rfl (by decide) v2 (m.vs).length ((m.vs).flatMap oneU) (by simp[Act.eval]) OWN.out ⟨w5.drew.heap.size,0,none⟩ 1 1 [.int .u64 t.v] (by simp[Act.eval]) rfl NEWS.out ONES.out B1.out B2.out BS.out ?_
                   intro v5 w5 hown5 hgrow5 hat5
                   obtain⟨a5,n5,k5,rfl⟩:=form16 hown5
                   have G5:=hid (Only.of_grown hgrow5)
                   have AT:=hid hat5
                   have W5:=hid hown5
                   obtain⟨y0,y1,y2⟩:=KS.out _ (OA.out.up.trans (S':=λj=>some j=v2.ownBlock) (Only.of_grown hgrow5) (λi _ s=>s))
                   clear hown5 hgrow5 hat5)
                | fail)
            all_goals
              go_wp2_with fail
              go_meet
              have q:=HM.out.vs5 (x:=t.v) OA.out (v5:=.slice a5 n5 k5) (w5:=w5) (by
                show Owns _ _ _ _ _ _ _
                unfold Owns
                have k:=W5.out
                rw[List.flatMap_append,List.length_append]
                simpa [oneU] using k) G5.out
              exact⟨_,q.1,q.2⟩
          case rest =>
            obtain⟨z2,hm4,om4⟩:=hcut
            clear OA OWN NEWS ONES B1 B2 BS KS a0 a1 a2 e0 e1 e2 f0 f1 f2 k0 k1 k2 c1
            have H4:=hid (H3.out.keep om4 ZZ.out)
            have R4:=hid (om4.row R0.out (ZZ.out _ (by rw[NZ.out];decide)))
            have O4:=hid (O2.out.trans om4 (λi _ e=>.inr e))
            have HM4:=hid hm4
            clear hm4 om4 HM H3 R0 O2
            have HM:=hid HM4.out
            have H3:=hid H4.out
            have RF:=hid R4.out
            have O2:=hid O4.out
            clear HM4 H4 R4 O4
            have y6:wc.cell? ⟨g,6,none⟩=some (.bool t.out):=RF.out.cell 6
            have f6:=RF.out.frozen 6
            have l6:=RF.out.lt
            obtain⟨w6,hw6⟩:∃w6,w6=wc.setCell ⟨g,6,none⟩ (.bool true):=⟨_,rfl⟩
            have h6:=H3.out.put HT3.out Tk.depart (λs=>⟨rfl,rfl⟩) 6 (.bool true) rfl
            have gq:X.A (t.frame).id=g:=HG.out
            rw[gq,←hw6] at h6
            have o6:Only (λk=>k=g) wc w6:=by rw[hw6];exact (Only.refl (λk=>k=g) wc).into rfl 6 _
            have r6:Row w6 g 123 (Tk.depart t.frame).cells:=by rw[hw6];exact RF.out.put 6 _
            have HM6:=hid (HM.out.keep o6 (λe=>ZZ.out g (by rw[NZ.out];decide) (.inl e.symm)) (λj hj _ e=>ZZ.out g (by rw[NZ.out];decide) (.inr (by have e1:j=g:=e;omega))))
            have O6:=hid (O2.out.trans o6 (λi _ e=>.inl (by have e1:i=g:=e;rw[e1,NZ.out];decide)))
            have H6:=hid h6
            have TS:=tstartF t.id (h6.still ((Only.refl n_ w6).drew)).eo.tn (wf_id H0.out HT.out)
            have TS:=hid TS
            have y15:w6.drew.cell? ⟨p,15,none⟩=some (.pointer (some ⟨X.pt,0,none⟩)):=h6.cell 15
            have y0:w6.drew.cell? ⟨g,0,none⟩=some (.int .i64 t.id):=r6.cell 0
            clear h6 r6 o6 gq
            go_upto_region 7 with fail
            rw[←hw6]
            clear hw6 y6 f6 l6 RF HM O2 H3
            go_region_with (first
              | (go_at_call 142;(with_reducible refine TS.out.mono ?_);rintro e w8 ⟨rfl,t8,o8⟩)
              | fail)
            all_goals
              have h8:=(H6.out.still ((Only.refl n_ w6).drew)).turned HFF.out t8 o8
              have S8:∀i,two12 X.pt X.bq i→c i≠0:=λi e=>by
                rcases e with e | e
                · rw[e,H0.out.eo.ct.1];decide
                · rw[e,H0.out.eo.ct.2];decide
              have hm8:=(HM6.out.still ((Only.refl n_ w6).drew)).keep o8 (λe=>ZZ.out mb (S8 _ e) (.inl rfl)) (λj hj _ e=>ZZ.out j (S8 _ e) (.inr hj))
              have O8:=hid ((O6.out.idle ((Only.refl n_ w6).drew)).trans o8 (λi _ e=>.inl (S8 i e)))
              have H8:=hid h8
              have HM8:=hid hm8
              clear h8 hm8 t8 o8
              go_wp2_with fail
              go_end0
              refine⟨(z1,z2,z3),rfl,?_,?_,O8.out⟩
              · have k:=HM8.out
                show MvR _ _ _ _ { m with ks:=m.ks++[t.id],fs:=if t.needs then m.fs++[t.b] else m.fs,vs:=if m.wr then m.vs++[t.v] else m.vs }
                have ev:(if m.wr then m.vs++[t.v] else m.vs)=m.vs++[t.v]:=by rw[HW.out];rfl
                rw[ev,HN.out]
                exact k
              · have UQ:∀s∈ks,s.id=t.id→s=t:=λs hs e=>H0.out.eo.inj s hs t HT.out (by rw[e])
                have e1:Go.Proofs.YtfbpjobobdidiaaGreatDoor.upd (Go.Proofs.YtfbpjobobdidiaaGreatDoor.upd ks t.id Tk.frame) t.id Tk.depart=Go.Proofs.YtfbpjobobdidiaaGreatDoor.upd ks t.id Tk.go:=upd_upd (λs=>⟨rfl,rfl⟩) (λs hs e=>by rw[UQ s hs e];simp[Tk.depart,Tk.frame,Tk.go,HN.out])
                have e2:Go.Proofs.YtfbpjobobdidiaaGreatDoor.upd (Go.Proofs.YtfbpjobobdidiaaGreatDoor.upd E.ts t.id Tk.frame) t.id Tk.depart=Go.Proofs.YtfbpjobobdidiaaGreatDoor.upd E.ts t.id Tk.go:=upd_upd (λs=>⟨rfl,rfl⟩) (λs hs e=>by rw[UQ s (H0.out.sub s hs) e];simp[Tk.depart,Tk.frame,Tk.go,HN.out])
                have fin:EP w8 p c X (F+1) H (Go.Proofs.YtfbpjobobdidiaaGreatDoor.upd (Go.Proofs.YtfbpjobobdidiaaGreatDoor.upd ks t.id Tk.frame) t.id Tk.depart) { E with ts:=Go.Proofs.YtfbpjobobdidiaaGreatDoor.upd (Go.Proofs.YtfbpjobobdidiaaGreatDoor.upd E.ts t.id Tk.frame) t.id Tk.depart,qs:=waitS E.qs t.id false }:=H8.out
                rw[e1,e2] at fin
                exact fin
        | false =>
          have HW:=hid hw
          rw[hw] at c1
          clear hw
          have RF:=hid R0.out
          have y6:w5.cell? ⟨g,6,none⟩=some (.bool t.out):=RF.out.cell 6
          have f6:=RF.out.frozen 6
          have l6:=RF.out.lt
          obtain⟨w6,hw6⟩:∃w6,w6=w5.setCell ⟨g,6,none⟩ (.bool true):=⟨_,rfl⟩
          have h6:=H3.out.put HT3.out Tk.depart (λs=>⟨rfl,rfl⟩) 6 (.bool true) rfl
          have gq:X.A (t.frame).id=g:=HG.out
          rw[gq,←hw6] at h6
          have o6:Only (λk=>k=g) w5 w6:=by rw[hw6];exact (Only.refl (λk=>k=g) w5).into rfl 6 _
          have r6:Row w6 g 123 (Tk.depart t.frame).cells:=by rw[hw6];exact RF.out.put 6 _
          have HM6:=hid (HM.out.keep o6 (λe=>ZZ.out g (by rw[NZ.out];decide) (.inl e.symm)) (λj hj _ e=>ZZ.out g (by rw[NZ.out];decide) (.inr (by have e1:j=g:=e;omega))))
          have O6:=hid (O2.out.trans o6 (λi _ e=>.inl (by have e1:i=g:=e;rw[e1,NZ.out];decide)))
          have H6:=hid h6
          have TS:=tstartF t.id (h6.still ((Only.refl n_ w6).drew)).eo.tn (wf_id H0.out HT.out)
          have TS:=hid TS
          have y15:w6.drew.cell? ⟨p,15,none⟩=some (.pointer (some ⟨X.pt,0,none⟩)):=h6.cell 15
          have y0:w6.drew.cell? ⟨g,0,none⟩=some (.int .i64 t.id):=r6.cell 0
          clear h6 r6 o6 gq
          go_upto_region 7 with fail
          rw[←hw6]
          clear hw6 y6 f6 l6 RF HM O2 H3
          go_region_with (first
            | (go_at_call 142;(with_reducible refine TS.out.mono ?_);rintro e w8 ⟨rfl,t8,o8⟩)
            | fail)
          all_goals
            have h8:=(H6.out.still ((Only.refl n_ w6).drew)).turned HFF.out t8 o8
            have S8:∀i,two12 X.pt X.bq i→c i≠0:=λi e=>by
              rcases e with e | e
              · rw[e,H0.out.eo.ct.1];decide
              · rw[e,H0.out.eo.ct.2];decide
            have hm8:=(HM6.out.still ((Only.refl n_ w6).drew)).keep o8 (λe=>ZZ.out mb (S8 _ e) (.inl rfl)) (λj hj _ e=>ZZ.out j (S8 _ e) (.inr hj))
            have O8:=hid ((O6.out.idle ((Only.refl n_ w6).drew)).trans o8 (λi _ e=>.inl (S8 i e)))
            have H8:=hid h8
            have HM8:=hid hm8
            clear h8 hm8 t8 o8
            go_wp2_with fail
            go_end0
            refine⟨(z1,v2,z3),rfl,?_,?_,O8.out⟩
            · have k:=HM8.out
              show MvR _ _ _ _ { m with ks:=m.ks++[t.id],fs:=if t.needs then m.fs++[t.b] else m.fs,vs:=if m.wr then m.vs++[t.v] else m.vs }
              have ev:(if m.wr then m.vs++[t.v] else m.vs)=m.vs:=by rw[HW.out];rfl
              rw[ev,HN.out]
              exact k
            · have UQ:∀s∈ks,s.id=t.id→s=t:=λs hs e=>H0.out.eo.inj s hs t HT.out (by rw[e])
              have e1:Go.Proofs.YtfbpjobobdidiaaGreatDoor.upd (Go.Proofs.YtfbpjobobdidiaaGreatDoor.upd ks t.id Tk.frame) t.id Tk.depart=Go.Proofs.YtfbpjobobdidiaaGreatDoor.upd ks t.id Tk.go:=upd_upd (λs=>⟨rfl,rfl⟩) (λs hs e=>by rw[UQ s hs e];simp[Tk.depart,Tk.frame,Tk.go,HN.out])
              have e2:Go.Proofs.YtfbpjobobdidiaaGreatDoor.upd (Go.Proofs.YtfbpjobobdidiaaGreatDoor.upd E.ts t.id Tk.frame) t.id Tk.depart=Go.Proofs.YtfbpjobobdidiaaGreatDoor.upd E.ts t.id Tk.go:=upd_upd (λs=>⟨rfl,rfl⟩) (λs hs e=>by rw[UQ s (H0.out.sub s hs) e];simp[Tk.depart,Tk.frame,Tk.go,HN.out])
              have fin:EP w8 p c X (F+1) H (Go.Proofs.YtfbpjobobdidiaaGreatDoor.upd (Go.Proofs.YtfbpjobobdidiaaGreatDoor.upd ks t.id Tk.frame) t.id Tk.depart) { E with ts:=Go.Proofs.YtfbpjobobdidiaaGreatDoor.upd (Go.Proofs.YtfbpjobobdidiaaGreatDoor.upd E.ts t.id Tk.frame) t.id Tk.depart,qs:=waitS E.qs t.id false }:=H8.out
              rw[e1,e2] at fin
              exact fin
    | false =>
      have HN:=hid hn
      have c1:w2.cell? ⟨mb,1,none⟩=some (.bool m.wr):=HM.out.row.cell 1
      have O3:=hid (O2.out.more (S':=λg=>c g≠0∨mine base mb g) (λi _ e=>.inr e))
      have H3:=hid H2.out
      have HT3:=hid HT.out
      clear O2 H2
      have O2:=hid O3.out
      clear O3
      cases hw:m.wr with
      | true =>
        have HW:=hid hw
        rw[hw] at c1
        clear hw
        have OA:=hid (((Only.refl n_ w2).drew).alloc (.cells #[.int .u64 t.v] 34))
        have OWN:=hid (show ((w2.drew).alloc (.cells #[.int .u64 t.v] 34)).ownsRow base 34 1 v2 (m.vs).length ((m.vs).flatMap oneU) from HM.out.ws.vs.still OA.out)
        have NEWS:=hid (show ∀j u,([.int .u64 t.v]:List Value)[j]? = some u→((w2.drew).alloc (.cells #[.int .u64 t.v] 34)).cell? ((Addr.mk (w2.drew).heap.size 0 none).add j)=some u from λj u hj=>by rw[addL11,Nat.zero_add,(Row.fresh w2.drew _ _).cell,List.getElem?_toArray];exact hj)
        have ONES:=hid (show ∀u∈([.int .u64 t.v]:List Value),u.oneCell'=true from λu hu=>by rw[List.mem_singleton.1 hu];rfl)
        have B1:=hid (show (m.vs).length+1≤maxLen from by have:=HL.out;unfold maxLen;omega)
        have B2:=hid (show ((m.vs).length+1)*8≤140737488355328 from by have:=HL.out;omega)
        have BS:=hid (show base≤((w2.drew).alloc (.cells #[.int .u64 t.v] 34)).heap.size from Nat.le_trans HB.out OA.out.size)
        have KS:=hid (λ(w':World) (o:Only (λj=>some j=v2.ownBlock) w2 w')=>(show w'.cell? ⟨mb,5,none⟩=some v2∧w'.frozen? ⟨mb,5,none⟩=false∧w'.cell? ⟨g,9,none⟩=some (.int .u64 t.v) from by
          have r1:=o.row HM.out.row (own_row HM.out.ws.vs HM.out.row (by decide))
          have r2:=o.row R0.out (own_row HM.out.ws.vs R0.out (by decide))
          exact⟨r1.cell 5,r1.frozen 5,r2.cell 9⟩))
        obtain⟨a0,a1,a2⟩:=KS.out _ (Only.refl _ w2)
        obtain⟨e0,e1,e2⟩:=KS.out _ ((Only.refl _ w2).drew)
        obtain⟨f0,f1,f2⟩:=KS.out _ OA.out.up
        obtain⟨k0,k1,k2⟩:=KS.out _ ((((Only.refl n_ w2).alloc (.cells #[.int .u64 t.v] 34)).drew).up)
        go_wp2_with fail
        go_cut [54] from 44 to 57 (λ_ wx=>∃v',MvR wx base mb (z1,v',v3) { m with ks:=m.ks++[t.id],vs:=m.vs++[t.v] }∧Only (mine base mb) w2 wx)
        case first =>
          go_region_law
            (first
              | (refine step_append_at11 rfl (.tmp 48) (.tmp 53) 45 rfl base 34 i1 _ 1 8 underlying45 I0u.out I1u.out I2u.out I3u.out rfl (by decide) v2 (m.vs).length ((m.vs).flatMap oneU) (by simp[Act.eval]) OWN.out ⟨w2.drew.heap.size,0,none⟩ 1 1 [.int .u64 t.v] (by simp[Act.eval]) rfl NEWS.out ONES.out B1.out B2.out BS.out ?_
                 intro v5 w5 hown5 hgrow5 hat5
                 obtain⟨a5,n5,k5,rfl⟩:=form16 hown5
                 have G5:=hid (Only.of_grown hgrow5)
                 have AT:=hid hat5
                 have W5:=hid hown5
                 obtain⟨y0,y1,y2⟩:=KS.out _ (OA.out.up.trans (S':=λj=>some j=v2.ownBlock) (Only.of_grown hgrow5) (λi _ s=>s))
                 clear hown5 hgrow5 hat5)
              | fail)
          all_goals
            go_wp2_with fail
            go_meet
            have q:=HM.out.vs5 (x:=t.v) OA.out (v5:=.slice a5 n5 k5) (w5:=w5) (by
              show Owns _ _ _ _ _ _ _
              unfold Owns
              have k:=W5.out
              rw[List.flatMap_append,List.length_append]
              simpa [oneU] using k) G5.out
            exact⟨_,q.1,q.2⟩
        case rest =>
          obtain⟨z2,hm4,om4⟩:=hcut
          clear OA OWN NEWS ONES B1 B2 BS KS a0 a1 a2 e0 e1 e2 f0 f1 f2 k0 k1 k2 c1
          have H4:=hid (H3.out.keep om4 ZZ.out)
          have R4:=hid (om4.row R0.out (ZZ.out _ (by rw[NZ.out];decide)))
          have O4:=hid (O2.out.trans om4 (λi _ e=>.inr e))
          have HM4:=hid hm4
          clear hm4 om4 HM H3 R0 O2
          have HM:=hid HM4.out
          have H3:=hid H4.out
          have RF:=hid R4.out
          have O2:=hid O4.out
          clear HM4 H4 R4 O4
          have y6:wc.cell? ⟨g,6,none⟩=some (.bool t.out):=RF.out.cell 6
          have f6:=RF.out.frozen 6
          have l6:=RF.out.lt
          obtain⟨w6,hw6⟩:∃w6,w6=wc.setCell ⟨g,6,none⟩ (.bool true):=⟨_,rfl⟩
          have h6:=H3.out.put HT3.out Tk.depart (λs=>⟨rfl,rfl⟩) 6 (.bool true) rfl
          have gq:X.A (t).id=g:=HG.out
          rw[gq,←hw6] at h6
          have o6:Only (λk=>k=g) wc w6:=by rw[hw6];exact (Only.refl (λk=>k=g) wc).into rfl 6 _
          have r6:Row w6 g 123 (Tk.depart t).cells:=by rw[hw6];exact RF.out.put 6 _
          have HM6:=hid (HM.out.keep o6 (λe=>ZZ.out g (by rw[NZ.out];decide) (.inl e.symm)) (λj hj _ e=>ZZ.out g (by rw[NZ.out];decide) (.inr (by have e1:j=g:=e;omega))))
          have O6:=hid (O2.out.trans o6 (λi _ e=>.inl (by have e1:i=g:=e;rw[e1,NZ.out];decide)))
          have H6:=hid h6
          have TS:=tstartF t.id (h6.still ((Only.refl n_ w6).drew)).eo.tn (wf_id H0.out HT.out)
          have TS:=hid TS
          have y15:w6.drew.cell? ⟨p,15,none⟩=some (.pointer (some ⟨X.pt,0,none⟩)):=h6.cell 15
          have y0:w6.drew.cell? ⟨g,0,none⟩=some (.int .i64 t.id):=r6.cell 0
          clear h6 r6 o6 gq
          go_upto_region 7 with fail
          rw[←hw6]
          clear hw6 y6 f6 l6 RF HM O2 H3
          go_region_with (first
            | (go_at_call 142;(with_reducible refine TS.out.mono ?_);rintro e w8 ⟨rfl,t8,o8⟩)
            | fail)
          all_goals
            have h8:=(H6.out.still ((Only.refl n_ w6).drew)).turned HFF.out t8 o8
            have S8:∀i,two12 X.pt X.bq i→c i≠0:=λi e=>by
              rcases e with e | e
              · rw[e,H0.out.eo.ct.1];decide
              · rw[e,H0.out.eo.ct.2];decide
            have hm8:=(HM6.out.still ((Only.refl n_ w6).drew)).keep o8 (λe=>ZZ.out mb (S8 _ e) (.inl rfl)) (λj hj _ e=>ZZ.out j (S8 _ e) (.inr hj))
            have O8:=hid ((O6.out.idle ((Only.refl n_ w6).drew)).trans o8 (λi _ e=>.inl (S8 i e)))
            have H8:=hid h8
            have HM8:=hid hm8
            clear h8 hm8 t8 o8
            go_wp2_with fail
            go_end0
            refine⟨(z1,z2,v3),rfl,?_,?_,O8.out⟩
            · have k:=HM8.out
              show MvR _ _ _ _ { m with ks:=m.ks++[t.id],fs:=if t.needs then m.fs++[t.b] else m.fs,vs:=if m.wr then m.vs++[t.v] else m.vs }
              have ev:(if m.wr then m.vs++[t.v] else m.vs)=m.vs++[t.v]:=by rw[HW.out];rfl
              rw[ev,HN.out]
              exact k
            · have UQ:∀s∈ks,s.id=t.id→s=t:=λs hs e=>H0.out.eo.inj s hs t HT.out (by rw[e])
              have e1:Go.Proofs.YtfbpjobobdidiaaGreatDoor.upd ks t.id Tk.depart=Go.Proofs.YtfbpjobobdidiaaGreatDoor.upd ks t.id Tk.go:=upd_one (λs hs e=>by rw[UQ s hs e];simp[Tk.depart,Tk.go,HN.out])
              have e2:Go.Proofs.YtfbpjobobdidiaaGreatDoor.upd E.ts t.id Tk.depart=Go.Proofs.YtfbpjobobdidiaaGreatDoor.upd E.ts t.id Tk.go:=upd_one (λs hs e=>by rw[UQ s (H0.out.sub s hs) e];simp[Tk.depart,Tk.go,HN.out])
              have fin:EP w8 p c X (F+1) H (Go.Proofs.YtfbpjobobdidiaaGreatDoor.upd ks t.id Tk.depart) { E with ts:=Go.Proofs.YtfbpjobobdidiaaGreatDoor.upd E.ts t.id Tk.depart,qs:=waitS E.qs t.id false }:=H8.out
              rw[e1,e2] at fin
              exact fin
      | false =>
        have HW:=hid hw
        rw[hw] at c1
        clear hw
        have RF:=hid R0.out
        have y6:w2.cell? ⟨g,6,none⟩=some (.bool t.out):=RF.out.cell 6
        have f6:=RF.out.frozen 6
        have l6:=RF.out.lt
        obtain⟨w6,hw6⟩:∃w6,w6=w2.setCell ⟨g,6,none⟩ (.bool true):=⟨_,rfl⟩
        have h6:=H3.out.put HT3.out Tk.depart (λs=>⟨rfl,rfl⟩) 6 (.bool true) rfl
        have gq:X.A (t).id=g:=HG.out
        rw[gq,←hw6] at h6
        have o6:Only (λk=>k=g) w2 w6:=by rw[hw6];exact (Only.refl (λk=>k=g) w2).into rfl 6 _
        have r6:Row w6 g 123 (Tk.depart t).cells:=by rw[hw6];exact RF.out.put 6 _
        have HM6:=hid (HM.out.keep o6 (λe=>ZZ.out g (by rw[NZ.out];decide) (.inl e.symm)) (λj hj _ e=>ZZ.out g (by rw[NZ.out];decide) (.inr (by have e1:j=g:=e;omega))))
        have O6:=hid (O2.out.trans o6 (λi _ e=>.inl (by have e1:i=g:=e;rw[e1,NZ.out];decide)))
        have H6:=hid h6
        have TS:=tstartF t.id (h6.still ((Only.refl n_ w6).drew)).eo.tn (wf_id H0.out HT.out)
        have TS:=hid TS
        have y15:w6.drew.cell? ⟨p,15,none⟩=some (.pointer (some ⟨X.pt,0,none⟩)):=h6.cell 15
        have y0:w6.drew.cell? ⟨g,0,none⟩=some (.int .i64 t.id):=r6.cell 0
        clear h6 r6 o6 gq
        go_upto_region 7 with fail
        rw[←hw6]
        clear hw6 y6 f6 l6 RF HM O2 H3
        go_region_with (first
          | (go_at_call 142;(with_reducible refine TS.out.mono ?_);rintro e w8 ⟨rfl,t8,o8⟩)
          | fail)
        all_goals
          have h8:=(H6.out.still ((Only.refl n_ w6).drew)).turned HFF.out t8 o8
          have S8:∀i,two12 X.pt X.bq i→c i≠0:=λi e=>by
            rcases e with e | e
            · rw[e,H0.out.eo.ct.1];decide
            · rw[e,H0.out.eo.ct.2];decide
          have hm8:=(HM6.out.still ((Only.refl n_ w6).drew)).keep o8 (λe=>ZZ.out mb (S8 _ e) (.inl rfl)) (λj hj _ e=>ZZ.out j (S8 _ e) (.inr hj))
          have O8:=hid ((O6.out.idle ((Only.refl n_ w6).drew)).trans o8 (λi _ e=>.inl (S8 i e)))
          have H8:=hid h8
          have HM8:=hid hm8
          clear h8 hm8 t8 o8
          go_wp2_with fail
          go_end0
          refine⟨(z1,v2,v3),rfl,?_,?_,O8.out⟩
          · have k:=HM8.out
            show MvR _ _ _ _ { m with ks:=m.ks++[t.id],fs:=if t.needs then m.fs++[t.b] else m.fs,vs:=if m.wr then m.vs++[t.v] else m.vs }
            have ev:(if m.wr then m.vs++[t.v] else m.vs)=m.vs:=by rw[HW.out];rfl
            rw[ev,HN.out]
            exact k
          · have UQ:∀s∈ks,s.id=t.id→s=t:=λs hs e=>H0.out.eo.inj s hs t HT.out (by rw[e])
            have e1:Go.Proofs.YtfbpjobobdidiaaGreatDoor.upd ks t.id Tk.depart=Go.Proofs.YtfbpjobobdidiaaGreatDoor.upd ks t.id Tk.go:=upd_one (λs hs e=>by rw[UQ s hs e];simp[Tk.depart,Tk.go,HN.out])
            have e2:Go.Proofs.YtfbpjobobdidiaaGreatDoor.upd E.ts t.id Tk.depart=Go.Proofs.YtfbpjobobdidiaaGreatDoor.upd E.ts t.id Tk.go:=upd_one (λs hs e=>by rw[UQ s (H0.out.sub s hs) e];simp[Tk.depart,Tk.go,HN.out])
            have fin:EP w8 p c X (F+1) H (Go.Proofs.YtfbpjobobdidiaaGreatDoor.upd ks t.id Tk.depart) { E with ts:=Go.Proofs.YtfbpjobobdidiaaGreatDoor.upd E.ts t.id Tk.depart,qs:=waitS E.qs t.id false }:=H8.out
            rw[e1,e2] at fin
            exact fin
end
end Go.Proofs.YtfbpjobobdidiaaGreatDoor
