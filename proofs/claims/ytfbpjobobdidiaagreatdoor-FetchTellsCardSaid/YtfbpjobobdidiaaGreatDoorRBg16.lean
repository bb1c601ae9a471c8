/- Package fetch's begin: a move goes out. -/
import Derived.Test.YtfbpjobobdidiaaGreatDoorRG36
namespace Go.Proofs.YtfbpjobobdidiaaGreatDoor
open Lib (hid)
open Go.Proofs.Tryz
open Go.RowKit Go.Maps
set_option linter.unusedVariables false
set_option maxRecDepth 100000
theorem Row.two16 {w:World} {g:Nat} {t:TypeId} {a b:Value} (h:Row w g t #[a,b]):w.cell? ⟨g,0,none⟩=some a∧w.cell? ⟨g,1,none⟩=some b:=⟨h.cell 0,h.cell 1⟩
section
variable {p:Nat} {c:Nat→Nat} {X:Loc} {F H:Nat} {ks:List Tk} {E:Eng}
structure BgR (w5 wr:World) (p:Nat) (c:Nat→Nat) (X:Loc) (F H base mb:Nat) (ng:Nat) (E:Eng) (m0:Mv) (bs:List Int) (k:Nat) (E':Eng) (m':Mv) (ks':List Tk) (v':Value × Value × Value):Prop where
 le:k≤bs.length
 trip:Trip E' m' (bs.drop k)
 all:Eng.alongs E' m' (bs.drop k)=Eng.alongs E m0 bs
 len:m'.ks.length=k
 ms:E'.ms=E.ms
 ep:EP wr p c X (F+k) H ks' { E' with ng:=ng }
 mv:MvR wr base mb v' m'
 only:Only (λg=>c g≠0∨mine base mb g) w5 wr
theorem BgR.lens {w5 wr:World} {base mb ng:Nat} {m0:Mv} {bs:List Int} {k:Nat} {E':Eng} {m':Mv} {ks':List Tk} {v':Value × Value × Value} (h:BgR w5 wr p c X F H base mb ng E m0 bs k E' m' ks' v') (hk:k≤256):m'.ks.length≤1000∧m'.vs.length≤1000∧m'.fs.length≤1000:=by
 have h1:=h.len
 have h2:=h.trip.vs
 have h3:=h.trip.fs
 split at h2<;>omega
set_option maxHeartbeats 4000000 in
theorem ebegin_any (t:Tk) (room:Int) (w:World) (h:EP w p c X F H ks E) (iv:Inv E) (ht:E.head t.b=some t) (out:t.out=false) (r0:0≤room) (r9:room≤9223372036854775807) (hr:0<room∨t.needs=false) (hl:(E.ms.length:Int)<E.o.b5) (hF:F+300<100000000) (hH:H+1<1000000) :
    Calls prog 59 #[pT p,pT (X.A t.id),.int .i64 room] w λe w'=>∃v',e=.returned ((E.begun t room).2.val v')∧MvW w' w.heap.size v' (E.begun t room).2∧EGtoP w p c (F+300) (H+1) (E.begin_ t room) (MvB v') w':=by
  have hm:=mem_head ht
  have rt:=h.rowOf hm.1
  obtain⟨ok,c1,c2,c3,c4,_,_,tr⟩:=run_ok iv ht out r0 hr
  have ac:=InvX.around iv ht out r0 hr
  have bl:=blocks_len ok
  have TR:=hid tr
  have may:=h.may
  unfold Opt.MayC at may
  have BL:=hid (show (blocksOf (E.run t room)).length≤256 from by rw[bl];omega)
  have MS:=hid (show E.ms.length<16 from by omega)
  have TAGS:=hid (λs (hs:s∈E.ms)=>show s.tag≠(E.ng:Int)+1 from by have:=h.tag s hs;omega)
  have nz5:=(h.eo.tk t (h.sub t hm.1)).2
  have rlen:(E.ready t.kind).length≤256:=by
    have h2:=List.length_filterMap_le (λb:Nat=>E.head b) (List.range E.o.b0.toNat)
    rw[List.length_range] at h2
    have:=List.length_filter_le (λt':Tk=>!t'.out&&(t'.kind==t.kind)) ((List.range E.o.b0.toNat).filterMap (λb:Nat=>E.head b))
    unfold Eng.ready
    omega
  have RL:=hid rlen
  have NGH:=hid h.ngH
  have RB:=hid (show E.run t room=aroundR ((E.ready t.kind).map (·.b)) (((E.ready t.kind).filter (·.needs)).map (·.b)) t.b E.o.b6 room from rfl)
  have BB:=hid (show E.begun t room=Eng.alongs E (E.move0 t room) (blocksOf (E.run t room)) from rfl)
  have AC:=hid ac
  obtain⟨g5,hg5⟩:∃g5,X.A t.id=g5:=⟨_,rfl⟩
  rw[hg5] at rt nz5
  obtain⟨W1,hW1⟩:∃W1,W1=w.alloc (.cells #[.int .i64 0,.bool false,.int .i64 0,.int .i64 0,.slice none 0 0,.slice none 0 0,.slice none 0 0] 47):=⟨_,rfl⟩
  have tx:Row W1 w.heap.size 47 #[.int .i64 0,.bool false,.int .i64 0,.int .i64 0,.slice none 0 0,.slice none 0 0,.slice none 0 0]:=by rw[hW1];exact Row.fresh _ _ _
  have o1:Only n_ w W1:=by rw[hW1];exact (Only.refl _ _).alloc _
  have H1:=hid (h.still o1)
  have R1:=hid (o1.still rt)
  have TX:=hid tx
  have O1:=hid o1
  have Z0:=hid (h.zero (Nat.le_refl w.heap.size))
  have NZ:=hid nz5
  have c51:W1.cell? ⟨g5,1,none⟩=some (.int .i64 t.kind):=R1.out.cell 1
  have RY:=eready_any t.kind W1 H1.out
  unfold pT at RY ⊢
  have RY:=hid RY
  rw[hg5]
  clear h iv ht out hr hm rt ok c1 c2 c3 c4 tr ac bl may hl nz5 rlen tx o1 hg5
  go_enter func59,ntmps59
  go_upto_region 1 with fail
  rw[←hW1]
  clear hW1
  go_wp2_with fail
  (with_reducible refine RY.out.mono ?_)
  rintro e w2 ⟨v2,u2,rfl,ov,ou,o2⟩
  have rv:=Reads.of_owns ov
  have ru:=Reads.of_owns ou
  have AR:=hid (λw' (o:Only n_ w2 w')=>show Calls prog 102 #[v2,u2,.int .i64 t.b,.int .i64 E.o.b6,.int .i64 room] w' (λe w''=>e=.returned (.tuple #[(.agg #[.int .i64 (E.run t room).f,.int .i64 (E.run t room).c]),.int .i64 0])∧Only n_ w' w'') from by
    have:=around_any v2 u2 _ _ t.b E.o.b6 room w' (rv.still o) (ru.still o) (by rw[List.length_map];have:=RL.out;omega) (by rw[List.length_map];have:=List.length_filter_le (λx:Tk=>x.needs) (E.ready t.kind);have:=RL.out;omega) r9
    rw[AC.out,←RB.out] at this
    exact this)
  have H2:=hid (H1.out.still o2)
  have R2:=hid (o2.still R1.out)
  have T2:=hid (o2.still TX.out)
  have O2:=hid (O1.out.same o2)
  have KV:=hid (λw' (o:Only n_ w2 w')=>show w'.cell? ⟨g5,2,none⟩=some (.int .i64 t.b)∧w'.cell? ⟨p,6,none⟩=some (.int .i64 E.o.b6) from ⟨(o.still R2.out).cell 2,(H2.out.still o).cell 6⟩)
  clear rv ru ov ou o2 RY H1 R1 c51
  obtain⟨k1,k2⟩:=KV.out _ ((Only.refl n_ w2).drew)
  go_upto_region 2 with fail
  go_cut [9,10] from 24 to 41 (λs9 _ wx=>∃B,s9=.pointer (some ⟨B,0,none⟩)∧w2.heap.size≤B∧Row wx B 43 #[.int .i64 (E.run t room).f,.int .i64 (E.run t room).c]∧Only n_ w2 wx)
  case first =>
    go_region_held3 (λw'=>w'.cell? ⟨g5,2,none⟩=some (.int .i64 t.b)∧w'.cell? ⟨p,6,none⟩=some (.int .i64 E.o.b6))
      (first | (with_reducible exact KV.out _ O4.out) | (with_reducible exact KV.out _ ((O4.out.put (p:=⟨w2.heap.size,0,none⟩) (λk=>absurd k (Nat.lt_irrefl _)) _).put (p:=⟨w2.heap.size,1,none⟩) (λk=>absurd k (Nat.lt_irrefl _)) _)) | (with_reducible exact KV.out _ (O4.out.alloc _)) | (with_reducible exact KV.out _ (((Only.refl n_ w2).alloc _).drew)) | (with_reducible exact KV.out _ ((Only.refl n_ w2).drew)) | fail)
      (first
        | (go_at_call 102;(with_reducible refine (AR.out w2.drew ((Only.refl n_ w2).drew)).mono ?_);rintro e w4 ⟨rfl,o4⟩;have O4:=hid (((Only.refl n_ w2).drew).same o4))
        | (go_at_call 102;(with_reducible refine (AR.out _ (((Only.refl n_ w2).alloc _).drew)).mono ?_);rintro e w4 ⟨rfl,o4⟩;have O4:=hid ((((Only.refl n_ w2).alloc _).drew).same o4);have N4:=hid (o4.still (Row.fresh w2 43 #[.int .i64 0,.int .i64 0]));obtain⟨n0,n1⟩:=N4.out.two16;have y0:=N4.out.frozen 0;have y1:=N4.out.frozen 1;have ln4:=N4.out.lt)
        | fail)
    all_goals
      go_wp2_with fail
      go_meet
      first
        | exact⟨_,rfl,O4.out.size,Row.fresh _ _ _,O4.out.alloc _⟩
        | exact⟨_,rfl,Nat.le_refl _,(N4.out.put 0 _).put 1 _,(O4.out.put (p:=⟨w2.heap.size,0,none⟩) (λk=>absurd k (Nat.lt_irrefl _)) _).put (p:=⟨w2.heap.size,1,none⟩) (λk=>absurd k (Nat.lt_irrefl _)) _⟩
  case rest =>
    obtain⟨B,rfl,hB,rb,o3⟩:=hcut
    have h3:=H2.out.still o3
    have r3:=o3.still R2.out
    have t3:=o3.still T2.out
    have zB:c B=0:=H2.out.zero hB
    have np:∀g,c g≠1→¬ g=p:=λg hg e=>hg (by rw[e];exact H2.out.eo.cp)
    have v1:IntKind.i64.wrap ((E.ng:Int)+1)=(E.ng:Int)+1:=by have:=NGH.out;rw[IntKind.wrap_i64];omega
    have p20:wc.cell? ⟨p,20,none⟩=some (.int .i64 E.ng):=h3.cell 20
    have f20:wc.frozen? ⟨p,20,none⟩=false:=h3.eo.row.frozen 20
    have lp:=h3.eo.row.lt
    obtain⟨W4,hW4⟩:∃W4,W4=wc.setCell ⟨p,20,none⟩ (.int .i64 ((E.ng:Int)+1)):=⟨_,rfl⟩
    have o4:Only (λk=>k=p) wc W4:=by rw[hW4];exact (Only.refl (λk=>k=p) wc).into rfl _ _
    have r4:Row W4 p 99 (engCells X E.o E.nt (E.ng+1)):=by
      have:=h3.eo.row.put 20 (.int .i64 ((E.ng:Int)+1))
      rw[←hW4] at this
      exact this
    have H4:=hid (h3.tagged r4 o4 hH)
    have B4:=hid (o4.row rb (np B (by rw[zB];decide)))
    have R4:=hid (o4.row r3 (np g5 (by rw[NZ.out];decide)))
    have T4:=hid (o4.row t3 (np _ (by rw[Z0.out];decide)))
    have O4:=hid (((O2.out.same o3).up (S:=λg=>c g≠0)).same (o4.more (λi _ e=>by rw[e,H2.out.eo.cp];decide)))
    clear AR KV T2 R2 k1 k2 h3 r3 t3 o4 r4 o3 rb
    go_upto_region 4 with fail
    rw[←hW4]
    clear hW4 p20 f20 v1 lp
    have KV:=hid (λw' (o:Only n_ W4 w')=>show w'.cell? ⟨p,20,none⟩=some (.int .i64 ((E.ng:Int)+1))∧w'.cell? ⟨g5,1,none⟩=some (.int .i64 t.kind)∧w'.cell? ⟨B,0,none⟩=some (.int .i64 (E.run t room).f)∧w'.cell? ⟨B,1,none⟩=some (.int .i64 (E.run t room).c) from ⟨(H4.out.still o).cell 20,(o.still R4.out).cell 1,(o.still B4.out).two16⟩)
    obtain⟨a1,a2,a3,a4⟩:=KV.out _ (Only.refl n_ W4)
    obtain⟨b1,b2,b3,b4⟩:=KV.out _ ((Only.refl n_ W4).drew)
    obtain⟨e1,e2,e3,e4⟩:=KV.out _ (((Only.refl n_ W4).alloc (.cells #[.int .i64 0,.bool false,.int .i64 0,.int .i64 0,.slice none 0 0,.slice none 0 0,.slice none 0 0] 47)).drew)
    go_cut [11] from 48 to 60 (λs11 wx=>∃mb,s11=.pointer (some ⟨mb,0,none⟩)∧W4.heap.size≤mb∧Row wx mb 47 ((E.move0 t room).row (.slice none 0 0,.slice none 0 0,.slice none 0 0))∧Only n_ W4 wx)
    case first =>
      go_region
      all_goals
        go_wp2_with fail
        go_meet
        first
          | exact⟨_,rfl,Nat.le_refl _,(Only.refl n_ _).drew.still (Row.fresh W4 _ _),((Only.refl n_ W4).alloc _).drew⟩
          | exact⟨_,rfl,Nat.le_refl _,Row.fresh _ _ _,((Only.refl n_ W4).drew).alloc _⟩
    case rest =>
      obtain⟨mb,rfl,hmb,rm,o5⟩:=hcut
      have H5:=hid (H4.out.still o5)
      have B5:=hid (o5.still B4.out)
      have T5:=hid (o5.still T4.out)
      have M5:=hid rm
      have O5:=hid (O4.out.idle o5)
      have ZM:=hid (show c mb=0 from H4.out.zero hmb)
      have LM:=hid (show W4.heap.size≤mb from hmb)
      obtain⟨a1,a2⟩:=B5.out.two16
      have BC:=blocks_any (E.run t room) wc
      unfold Rn.val at BC
      have BC:=hid BC
      have LB:=hid (show mb<wc.heap.size from rm.lt)
      have ZC:=hid (λg (hg:wc.heap.size≤g)=>show c g=0 from H5.out.zero hg)
      have LW:=hid (show w.heap.size<W4.heap.size from T4.out.lt)
      clear hmb rm o5 H4 R4 T4 B4 KV b1 b2 b3 b4 e1 e2 e3 e4
      go_wp2_with fail
      (with_reducible refine BC.out.mono ?_)
      rintro e w5 ⟨v5,rfl,ob,o6⟩
      have H6:=hid (H5.out.still o6)
      have M6:=hid (o6.still M5.out)
      have T6:=hid (o6.still T5.out)
      have O6:=hid (O5.out.idle o6)
      have OB:=hid ob
      have S5:=hid (show wc.heap.size≤w5.heap.size from o6.size)
      obtain⟨va,vc,rfl⟩:=owns_form ob
      generalize hbs:blocksOf (E.run t room)=bs at *
      clear BC M5 T5 H5 B5 O5 O4 ob o6
      go_wp2_with fail
      go_loopw [13,63] (λ_ i wr=>∃(k:Nat) (E':Eng) (m':Mv) (ks':List Tk) (v':Value × Value × Value),i=.int .i64 k∧BgR w5 wr p c X F (H+1) w5.heap.size mb (E.ng+1) E (E.move0 t room) bs k E' m' ks' v') (λ_ i _=>bs.length-(intOf i).toNat)
      case atStart =>
        exact⟨0,E,E.move0 t room,ks,(.slice none 0 0,.slice none 0 0,.slice none 0 0),rfl,
          { le:=Nat.zero_le _,trip:=TR.out,all:=rfl,len:=rfl,ms:=rfl,ep:=H6.out,mv:=⟨M6.out,⟨Owns.start _ _ _ _ _,Owns.start _ _ _ _ _,Owns.start _ _ _ _ _⟩,λg hg=>(by cases hg)⟩,only:=Only.refl _ _ }⟩
      case round =>
        obtain⟨k,E',m',ks',v',rfl,hR⟩:=hrel
        have R:=hid hR
        clear hR
        by_cases hlt:k<bs.length
        · have t1:decide (k<bs.length)=true:=decide_eq_true hlt
          obtain⟨b,hb⟩:∃b,bs[k]? = some b:=⟨_,List.getElem?_eq_getElem hlt⟩
          have e:bs.drop k=b::bs.drop (k+1):=by rw[List.drop_eq_getElem_cons hlt];rw[List.getElem?_eq_getElem hlt] at hb;injection hb with hb;rw[hb]
          have trp:=R.out.trip
          have al:=R.out.all
          rw[e] at trp al
          obtain⟨t',ht',tm',tb',to',tr'⟩:=trp.step
          rw[alongs_cons _ _ _ _ ht'] at al
          have AL:=hid al
          have TN:=hid tr'
          have K2:k<256:=by have:=BL.out;omega
          have obk:=OB.out.keep R.out.only (λg hg z=>by
            have q:=OB.out.base_le hg
            have l:=LB.out
            rcases z with z | z | z
            · exact z (ZC.out g q.1)
            · omega
            · omega)
          have rdw:=Reads.of_owns obk
          obtain⟨ra',rc',e1,rd'⟩:=rdw
          obtain⟨g,ao,e2,ck⟩:=rd' k b hb
          cases e1
          subst e2
          have EH:=ehead_any b wr R.out.ep
          rw[show ({ E' with ng:=E.ng+1 }:Eng).head b=some t' from ht'] at EH
          have tks:=R.out.ep.sub t' tm'
          have AG:=hid (λw' (o:Only n_ wr w')=>ealong_any t' v' m' w' (R.out.ep.still o) tks (by have:=R.out.le;omega) (R.out.mv.still o) (λi hi=>ZC.out i (by have:=S5.out;omega)) ZM.out (Nat.le_trans R.out.only.size o.size) (R.out.lens (by omega)))
          obtain⟨gt,hgt⟩:∃gt,X.A t'.id=gt:=⟨_,rfl⟩
          unfold optPtr pT at EH
          unfold pT at AG
          simp only[hgt] at EH AG
          have EH:=hid EH
          clear obk rd' trp al ht' tm' tb' to' tr' e hb tks hgt
          go_wp2_with fail
          (with_reducible refine EH.out.mono ?_)
          rintro e w6 ⟨rfl,o6⟩
          go_wp2_with fail
          (with_reducible refine (AG.out w6 o6).mono ?_)
          rintro e w7 ⟨v7,rfl,m7,e7,o7⟩
          have RR:=hid (show BgR w5 w7 p c X F (H+1) w5.heap.size mb (E.ng+1) E (E.move0 t room) bs (k+1) (E'.along m' t').1 (E'.along m' t').2 (upd ks' t'.id Tk.go) v7 from
            { le:=hlt,trip:=TN.out,all:=AL.out,len:=(by
                show (m'.ks++[t'.id]).length=k+1
                rw[List.length_append,R.out.len];rfl),ms:=R.out.ms,ep:=e7,mv:=m7,only:=(R.out.only.idle o6).same o7 })
          clear o6 m7 e7 o7 EH AG R
          go_wp2_with fail
          go_roundw
          case rel=>exact⟨k+1,_,_,_,_,by go_num,RR.out⟩
          case measure=>simp[intOf];omega
        · have t1:decide (k<bs.length)=false:=decide_eq_false hlt
          have hk:k=bs.length:=by have:=R.out.le;omega
          have al:=R.out.all
          rw[List.drop_eq_nil_of_le (by omega)] at al
          have TA:=TR.out.all
          rw[←al] at TA
          have tag:m'.tag=(E.ng:Int)+1:=TA.2.2.1
          have BE:=hid (show E.begun t room=(E',m') from by rw[BB.out,←al];rfl)
          have LN:=hid (R.out.lens (by have:=BL.out;omega))
          obtain⟨v1,v2,v3⟩:=v'
          have TG:=hid tag
          have nn:=NGH.out
          have wt:(Lit.int .i64 m'.tag).wf=true:=by rw[tag];exact wf_i _ (by omega)
          have wt2:=wt
          rw[tag] at wt2
          have hx:hasV (E'.ms.map (mvEnt X.B)) m'.tag=false:=by
            cases q:hasV (E'.ms.map (mvEnt X.B)) m'.tag with
            | false=>rfl
            | true =>
              obtain⟨s,hs,e⟩:=hasV_iff.1 q
              obtain⟨u,hu,rfl⟩:=List.mem_map.1 hs
              rw[R.out.ms] at hu
              exact absurd (show u.tag=(E.ng:Int)+1 from by rw[←tag];exact e) (TAGS.out u hu)
          have epd:=R.out.ep.still ((Only.refl n_ wr).drew)
          obtain⟨w8,run8,g8,o8⟩:=epd.eo.mm.store underlying97 (by rw[List.length_map];show E'.ms.length≤1000;rw[R.out.ms];have:=MS.out;omega) m'.tag (m'.val (v1,v2,v3)) wt hx
          obtain⟨m0,m1,m2,m3,m4,m5,m6⟩:=R.out.mv.row.seven
          have c18:wr.cell? ⟨p,18,none⟩=some (.map (some X.bm)):=R.out.ep.cell 18
          have c18':wr.drew.cell? ⟨p,18,none⟩=some (.map (some X.bm)):=R.out.ep.cell 18
          have d0:wr.drew.cell? ⟨mb,0,none⟩=some (.int .i64 m'.tag):=m0
          have d1:wr.drew.cell? ⟨mb,1,none⟩=some (.bool m'.wr):=m1
          have d2:wr.drew.cell? ⟨mb,2,none⟩=some (.int .i64 m'.lo):=m2
          have d3:wr.drew.cell? ⟨mb,3,none⟩=some (.int .i64 m'.n):=m3
          have d4:wr.drew.cell? ⟨mb,4,none⟩=some v1:=m4
          have d5:wr.drew.cell? ⟨mb,5,none⟩=some v2:=m5
          have d6:wr.drew.cell? ⟨mb,6,none⟩=some v3:=m6
          unfold Mv.val at run8
          have G8:=hid g8
          have O8:=hid o8
          have ED:=hid epd
          clear tag wt2 TA al g8 o8 epd hx wt nn hk
          go_upto_region 10 with fail
          go_cut [] from 73 to 80 (λwx=>wx=w8)
          case first =>
            go_region
            all_goals
              go_wp2_with fail
              go_meet
              rfl
          case rest =>
            obtain rfl:=hcut
            have nbm:∀g,c g=0→¬ g=X.bm:=λg hg e=>by rw[e,H6.out.eo.cm] at hg;cases hg
            have od:Only n_ wr wr.drew:=(Only.refl _ _).drew
            have lm:=LM.out
            have lw:=LW.out
            have lb:=LB.out
            have s5:=S5.out
            have bb:∀g,w5.heap.size≤g→c g=0:=λg hg=>ZC.out g (by omega)
            have nb:X.bm<w5.heap.size:=by
              rcases Nat.lt_or_ge X.bm w5.heap.size with q | q
              · exact q
              · exact absurd rfl (nbm _ (bb _ q))
            have mw:MvW wr.drew w5.heap.size (v1,v2,v3) m':=R.out.mv.ws.still od
            obtain⟨c8,X8,e8,g8⟩:=ED.out.newm (m:=m') (v:=(v1,v2,v3)) mw bb (λs hs=>by
              have hs':s∈E'.ms:=hs
              rw[R.out.ms] at hs'
              have:=TAGS.out s hs'
              rw[TG.out];exact this) (by
              rw[TG.out]
              show 1≤(E.ng:Int)+1∧(E.ng:Int)+1≤((E.ng+1:Nat):Int)
              omega) (by show E'.ms.length<16;rw[R.out.ms];exact MS.out) G8.out O8.out
            have m8:=(mw.other O8.out nb).lower (Nat.zero_le _)
            have r8:=O8.out.row (od.still R.out.mv.row) (nbm mb ZM.out)
            have t8:=O8.out.row (od.still (R.out.only.row T6.out (λz=>by
              rcases z with z | z | z
              · exact z Z0.out
              · omega
              · omega))) (nbm _ Z0.out)
            have oo8:Only (λg=>c g≠0) w wc:=
              ((O6.out.trans R.out.only (λi hi z=>by
                rcases z with z | z | z
                · exact z
                · omega
                · omega)).idle od).same (O8.out.more (S':=λg=>c g≠0) (λi _ e=>by rw[e,H6.out.eo.cm];decide))
            have CL:=cloned_any m' (v1,v2,v3) wc m8 LN.out.1 LN.out.2.1 LN.out.2.2
            unfold Mv.val at CL
            have CL:=hid CL
            have T8:=hid t8
            have E8:=hid e8
            have GW8:=hid (show Gw w c c8 from λg hg=>by
              rcases g8 g hg with q | q
              · exact .inl q
              · exact .inr (by omega))
            have OO8:=hid oo8
            have Z8:=hid (show c8 w.heap.size=0 from Classical.byContradiction λq=>by
              rcases g8 _ q with z | z
              · exact z Z0.out
              · omega)
            obtain⟨m0,m1,m2,m3,m4,m5,m6⟩:=r8.seven
            clear e8 g8 m8 r8 t8 oo8 mw c18 c18' d0 d1 d2 d3 d4 d5 d6 run8 nbm nb bb od
            go_wp2_with fail
            (with_reducible refine CL.out.mono ?_)
            rintro e w9 ⟨⟨y1,y2,y3⟩,rfl,m9,o9⟩
            obtain⟨ya1,yk1,ye1⟩:=owns_form m9.ks
            obtain⟨ya2,yk2,ye2⟩:=owns_form m9.vs
            obtain⟨ya3,yk3,ye3⟩:=owns_form m9.fs
            dsimp only at ye1 ye2 ye3
            subst ye1 ye2 ye3
            have T9:=hid (o9.still T8.out)
            have M9:=hid m9
            have E9:=hid (E8.out.still o9)
            have O9:=hid (OO8.out.idle o9)
            have S9:=hid o9.size
            obtain⟨d0,d1,d2,d3,d4,d5,d6⟩:=T9.out.seven
            have z0:=T9.out.frozen 0
            have z1:=T9.out.frozen 1
            have z2:=T9.out.frozen 2
            have z3:=T9.out.frozen 3
            have z4:=T9.out.frozen 4
            have z5:=T9.out.frozen 5
            have z6:=T9.out.frozen 6
            have lt9:=T9.out.lt
            clear m9 o9 CL
            go_wp2_with fail
            have FR:=T9.out.put7 (.int .i64 m'.tag) (.bool m'.wr) (.int .i64 m'.lo) (.int .i64 m'.n) (.slice ya1 m'.ks.length yk1) (.slice ya2 m'.vs.length yk2) (.slice ya3 m'.fs.length yk3)
            have FO:=only7 (Only.refl (λg=>g=w.heap.size) w9) (g:=w.heap.size) (λ_=>rfl) (.int .i64 m'.tag) (.bool m'.wr) (.int .i64 m'.lo) (.int .i64 m'.n) (.slice ya1 m'.ks.length yk1) (.slice ya2 m'.vs.length yk2) (.slice ya3 m'.fs.length yk3)
            refine bodyPost_ret (results_move rfl _ _ w.heap.size _ rfl rfl FR) rfl ⟨(.slice ya1 m'.ks.length yk1,.slice ya2 m'.vs.length yk2,.slice ya3 m'.fs.length yk3),?_,?_,?_⟩
            · rw[BE.out];rfl
            · rw[BE.out]
              exact (M9.out.keep FO (λg hg _ e=>by have e1:g=w.heap.size:=e;have:=T8.out.lt;omega)).lower (by have:=T8.out.lt;omega)
            · have eb:E.begin_ t room={ { E' with ng:=E.ng+1 } with ms:=E'.ms++[m'] }:=by
                unfold Eng.begin_
                rw[BE.out,R.out.ms]
              rw[eb]
              exact EGtoP.fin E9.out (Only.refl n_ w) GW8.out O9.out (Nat.le_refl _) Z8.out FO (by have:=R.out.le;have:=BL.out;omega) (Nat.le_refl _) hF hH (λg hg=>E8.out.zero (M9.out.blocks hg).1)
end
end Go.Proofs.YtfbpjobobdidiaaGreatDoor
