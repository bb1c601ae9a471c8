/- The switch of FetchTells: what is done, who is told, and the book ahead of striking them out. -/
import Derived.Test.YtfbpjobobdidiaaGreatDoorRFetchTellsR
set_option maxHeartbeats 4000000
namespace Go.Proofs.YtfbpjobobdidiaaGreatDoor
open Lib (hid)
open Go.Proofs.Tryz
open Go.RowKit
set_option linter.unusedVariables false
set_option maxRecDepth 100000
def blockAt (n:Nat):Code→Option Code
 | .block i a=>if i==n then some (.block i a) else blockAt n a
 | .seq a b=>match blockAt n a with | some l=>some l | none=>blockAt n b
 | .cond _ a b=>match blockAt n a with | some l=>some l | none=>blockAt n b
 | .loop a=>blockAt n a
 | .scope a=>blockAt n a
 | _=>none
def codeAt (f:Func) (n:Nat):Code:=match f.body with | some c=>(blockAt n c).getD c | none=>.ret
structure Told (w0 w w':World) (p ob:Nat) (c:Nat→Nat) (F H:Nat) (o:Opt) (v7 v10:Value):Prop where
 all:∃(c':Nat→Nat) (E':Eng) (B tw:List Wt),LO w0 w' p c' F H E' ob o∧OwnsWt w' w0.heap.size v7 B∧(∀g,v7.ownBlock=some g→c' g=0)∧ReadsW w' v10 tw∧B.Nodup∧tw.Nodup∧(∀x∈tw,x∈B)∧bookK B tw tw.length=E'.book∧B.length≤66
theorem ReadsW.nil (w:World):ReadsW w (.slice none 0 0) []:=⟨none,0,rfl,λi x hx=>by cases hx⟩
theorem run_append_zero {P:Program} {w:World} {base:Nat} {t ty e:TypeId} {i:TypeInfo} {size c:Nat} (ht:P.underlying t=some (.slice e)) (hi:P.info? e=some i) {v:Value} {n:Nat} {xs:List Value} (hown:w.ownsRow base e size v n xs) :
  (Builtin.append_ #[t,t] ty #[v,.slice none 0 c]).run P w=.ok v w:=by
 rcases hown.2 with ⟨rfl,rfl⟩|⟨g,cap,cur,rfl,_,_,h3,_⟩
 ·simp[Builtin.append_,run_underlying ht,sizeOf,run_typeInfo w hi,Builtin.lenOf,Builtin.firstCells]
 ·simp[Builtin.append_,run_underlying ht,sizeOf,run_typeInfo w hi,Builtin.lenOf,Builtin.firstCells,h3,storeCells]
theorem run_append_rd {w:World} (base:Nat) (ty:TypeId) (v:Value) (n:Nat) (xs:List Value) (hown:w.ownsRow base 36 2 v n xs) (x:Value) (ws:List Wt) (hx:ReadsW w x ws) (h63:n+ws.length≤maxLen) (hbytes:(n+ws.length)*16≤140737488355328) (hbase:base≤w.heap.size) :
  ∃v' w',(Builtin.append_ #[59,59] ty #[v,x]).run prog w=.ok v' w'∧w'.ownsRow base 36 2 v' (n+ws.length) (xs++ws.flatMap Wt.cells)∧w.grownBy w' v.ownBlock∧(v'.ownBlock=v.ownBlock∨v'.ownBlock=some w.heap.size):=by
 obtain⟨i0,hi0,hz0,hz1,hz2⟩:=info_partsR info_wt
 obtain⟨a,cap,rfl,hc⟩:=hx
 cases a with
 | none =>
  have e:ws=[]:=by
   cases ws with
   | nil=>rfl
   | cons y r=>obtain⟨g,o,e,_⟩:=hc 0 y rfl;cases e
  subst e
  exact⟨v,w,run_append_zero underlying59 hi0 hown,by simpa using hown,⟨rfl,rfl,rfl,Nat.le_refl _,λ_ _ _=>rfl⟩,.inl rfl⟩
 | some ad =>
  refine run_append_src base 59 ty 36 i0 _ 2 16 underlying59 hi0 hz0 hz1 hz2 rfl (by decide) v n xs hown _ ws.length (ws.flatMap Wt.cells) (.inr ⟨ad,cap,rfl,λj u hj=>?_⟩) (wt_flat_len ws) (wt_cells_one ws) h63 hbytes hbase
  have lj:=lt_of_get hj
  rw[wt_flat_len] at lj
  obtain⟨y,hy⟩:∃y,ws[j / 2]? = some y:=⟨_,List.getElem?_eq_getElem (by omega)⟩
  obtain⟨g,o,e,c0,c1⟩:=hc (j / 2) y hy
  simp only[Option.some.injEq] at e
  subst e
  have hf:(ws.flatMap Wt.cells)[j]? = (Wt.cells y)[j % 2]?:=by
   have h1:=flat_drop16 wt2 ws (j / 2)
   have h2:(ws.drop (j / 2))=y::ws.drop (j / 2+1):=by rw[List.drop_eq_getElem_cons (by omega)];congr 1;rw[List.getElem?_eq_getElem (by omega)] at hy;exact Option.some.inj hy
   rw[h2,List.flatMap_cons] at h1
   have h3:(ws.flatMap Wt.cells)[j]? = ((ws.flatMap Wt.cells).drop (j / 2*2))[j % 2]?:=by rw[List.getElem?_drop];congr 1;omega
   rw[h3,←h1,List.getElem?_append_left (by rw[wt2];omega)]
  rw[hf] at hj
  rw[add16]
  rcases (show j % 2=0∨j % 2=1 by omega) with q | q
  ·rw[q] at hj
   injection hj with hj
   rw[←hj,show o+j=o+j / 2*2 by omega]
   exact c0
  ·rw[q] at hj
   injection hj with hj
   rw[←hj,show o+j=o+j / 2*2+1 by omega]
   exact c1
theorem wpList_append_rd (w:World) {ops:Array Oper} {rest:List Oper} {o:Oper} {a:Go.Act} {Q:Exit→Go.Act→World→Prop} (hgd:o.guard=none) (s x:Operand)
  (ho:o.op=.call { callee:=.builtin .append,args:=#[s,x],argTypes:=#[59,59] })
  (base:Nat) (v:Value) (n:Nat) (xs:List Value) (hs:a.eval s=v) (hown:w.ownsRow base 36 2 v n xs)
  (vx:Value) (ws:List Wt) (hx:a.eval x=vx) (hsrc:ReadsW w vx ws) (h63:n+ws.length≤maxLen) (hbytes:(n+ws.length)*16≤140737488355328) (hbase:base≤w.heap.size)
  (h:∀v' w',w'.ownsRow base 36 2 v' (n+ws.length) (xs++ws.flatMap Wt.cells)→w.grownBy w' v.ownBlock→(v'.ownBlock=v.ownBlock∨v'.ownBlock=some w.heap.size)→wpList prog ops Q rest (a.put o.dst v') w'):wpList prog ops Q (o::rest) a w:=by
 refine wpList_plain hgd λK hK=>?_
 obtain⟨v',w',hr,h2,h3,h4⟩:=run_append_rd base o.type v n xs hown vx ws hsrc h63 hbytes hbase
 unfold Oper.wp execOp
 simp only[ho,resolve,invoke,builtin,Sem.run_bind,Sem.run_pure,Result.andThen_ok,List.map_toArray,List.map_cons,List.map_nil,hs,hx,hr]
 exact hK _ _ (h v' w' h2 h3 h4)
theorem Told.struck {w0 w w':World} {p ob:Nat} {c c':Nat→Nat} {F H:Nat} {o:Opt} {v7 v10:Value} {E E':Eng} {tw:List Wt} (iv:Inv E) (s:Struck E E' tw) (l:LO w0 w' p c' F H E' ob o) (b:OwnsWt w' w0.heap.size v7 E.book) (z:∀g,v7.ownBlock=some g→c' g=0) (r:ReadsW w' v10 tw):Told w0 w w' p ob c F H o v7 v10:=
 ⟨c',E',E.book,tw,l,b,z,r,iv.bookN,s.nd,s.sub,s.done _ (Nat.le_refl _),Nat.le_trans (book_le iv) (by decide)⟩
def SwAll (w0 w:World) (p ob ab:Nat) (c:Nat→Nat) (F H:Nat) (a0:Opt) (a:ActF) (vb:Value) (cd:Code):Prop:=∀{s0 s1 s3 s4 s6 s8 s11 s12 s13 s14 s15 s16 s17 s18 s19 s20 s21 s22 s23 s24 s25 s26 s27 s28 s29 s30 s31 s32 s33 s34 s35 s36 s37 s38 s39 s40 s41 s42 s43 s44 s45 s46 s47 s48 s49 s50 s51 s52 s53 s54 s55 s56 s57 s58 s59 s60 s61 s62 s63 s65 s66 s67 s68 s69 s70 s71 s72 s73 s74 s75 s76 s77 s78 s79 s80 s81 s82 s83 s84 s85 s86 s87 s88 s89 s90 s91 s92 s93 s94 s95 s96 s97 s98 s99 s100 s101 s102 s103 s104 s105 s106 s107 s108 s109 s110 s111 s112 s113 s114 s115 s116 s117 s118 s119 s120 s121 s122 s123 s124 s125 s126 s127 s128 s129 s130 s131 s132 s133 s134 s135 s136 s137 s138 s139 s140 s141 s142 s143 s144 s145 s146 s147 s148 s149 s150 s151 s152 s153 s154 s155 s156 s157 s158 s159 s160 s161 s162 s163 s164 s165 s166 s167 s168 s169 s170 s171 s172 s173 s174 s175 s176 s177 s178 s179 s180 s181 s182 s183 s184 s185 s186 s187 s188 s189 s190 s191 s192 s193 s194 s195 s196 s197 s198 s199 s200 s201 s202 s203 s204 s205 s206 s207 s208 s209 s210 s211 s212 s213 s214 s215 s216 s217 s218 s219 s220 s221 s222 s223 s224 s225 s226 s227 s228 s229 s230 s231 s232 s233 s234 s235 s236 s237 s238 s239 s240 s241 s242 s243 s244 s245 s246 s247 s248 s249 s250 s251:Value} {Q:Exit→Go.Act→World→Prop},(∀(w':World) (v7 v10 r11 r12 r13 r14 r15 r16 r17 r18 r19 r20 r21 r22 r23 r24 r25 r26 r65 r66 r67 r68 r69 r70 r71 r72 r73 r74 r75 r76 r77 r78 r79 r80 r81 r82 r83 r84 r85 r86 r87 r88 r89 r90 r91 r92 r93 r94 r95 r96 r97 r98 r99 r100 r101 r102 r103 r104 r105 r106 r107 r108 r109 r110 r111 r112 r113 r114 r115 r116 r117 r118 r119 r120 r121 r122 r123 r124 r125 r126 r127 r128 r129 r130 r131 r132 r133 r134 r135 r136 r137 r138 r139 r140 r141 r142 r143 r144 r145 r146 r147 r148 r149 r150 r151 r152 r153 r154 r155 r156 r157 r158 r159 r160 r161 r162 r163 r164 r165 r166 r167 r168 r169 r170 r171 r172 r173 r174 r175 r176 r177 r178 r179 r180 r181 r182 r183 r184 r185:Value),Told w0 w w' p ob c (F+1000) (H+2) a0 v7 v10→Q .normal { tmps:=List.toArray (s0::s1::.pointer (some ⟨ob,0,none⟩)::s3::s4::.pointer (some ⟨p,0,none⟩)::s6::v7::s8::.pointer (some ⟨ab,0,none⟩)::v10::r11::r12::r13::r14::r15::r16::r17::r18::r19::r20::r21::r22::r23::r24::r25::r26::s27::s28::s29::s30::s31::s32::s33::s34::s35::s36::s37::s38::s39::s40::s41::s42::s43::s44::s45::s46::s47::s48::s49::s50::s51::s52::s53::s54::s55::s56::s57::s58::s59::s60::s61::s62::s63::.int .i64 a.kind::r65::r66::r67::r68::r69::r70::r71::r72::r73::r74::r75::r76::r77::r78::r79::r80::r81::r82::r83::r84::r85::r86::r87::r88::r89::r90::r91::r92::r93::r94::r95::r96::r97::r98::r99::r100::r101::r102::r103::r104::r105::r106::r107::r108::r109::r110::r111::r112::r113::r114::r115::r116::r117::r118::r119::r120::r121::r122::r123::r124::r125::r126::r127::r128::r129::r130::r131::r132::r133::r134::r135::r136::r137::r138::r139::r140::r141::r142::r143::r144::r145::r146::r147::r148::r149::r150::r151::r152::r153::r154::r155::r156::r157::r158::r159::r160::r161::r162::r163::r164::r165::r166::r167::r168::r169::r170::r171::r172::r173::r174::r175::r176::r177::r178::r179::r180::r181::r182::r183::r184::r185::s186::s187::s188::s189::s190::s191::s192::s193::s194::s195::s196::s197::s198::s199::s200::s201::s202::s203::s204::s205::s206::s207::s208::s209::s210::s211::s212::s213::s214::s215::s216::s217::s218::s219::s220::s221::s222::s223::s224::s225::s226::s227::s228::s229::s230::s231::s232::s233::s234::s235::s236::s237::s238::s239::s240::s241::s242::s243::s244::s245::s246::s247::s248::s249::s250::s251::[]),defers:=[] } w') →
  Code.wp prog cd Q { tmps:=List.toArray (s0::s1::.pointer (some ⟨ob,0,none⟩)::s3::s4::.pointer (some ⟨p,0,none⟩)::s6::vb::s8::.pointer (some ⟨ab,0,none⟩)::.slice none 0 0::s11::s12::s13::s14::s15::s16::s17::s18::s19::s20::s21::s22::s23::s24::s25::s26::s27::s28::s29::s30::s31::s32::s33::s34::s35::s36::s37::s38::s39::s40::s41::s42::s43::s44::s45::s46::s47::s48::s49::s50::s51::s52::s53::s54::s55::s56::s57::s58::s59::s60::s61::s62::s63::.int .i64 a.kind::s65::s66::s67::s68::s69::s70::s71::s72::s73::s74::s75::s76::s77::s78::s79::s80::s81::s82::s83::s84::s85::s86::s87::s88::s89::s90::s91::s92::s93::s94::s95::s96::s97::s98::s99::s100::s101::s102::s103::s104::s105::s106::s107::s108::s109::s110::s111::s112::s113::s114::s115::s116::s117::s118::s119::s120::s121::s122::s123::s124::s125::s126::s127::s128::s129::s130::s131::s132::s133::s134::s135::s136::s137::s138::s139::s140::s141::s142::s143::s144::s145::s146::s147::s148::s149::s150::s151::s152::s153::s154::s155::s156::s157::s158::s159::s160::s161::s162::s163::s164::s165::s166::s167::s168::s169::s170::s171::s172::s173::s174::s175::s176::s177::s178::s179::s180::s181::s182::s183::s184::s185::s186::s187::s188::s189::s190::s191::s192::s193::s194::s195::s196::s197::s198::s199::s200::s201::s202::s203::s204::s205::s206::s207::s208::s209::s210::s211::s212::s213::s214::s215::s216::s217::s218::s219::s220::s221::s222::s223::s224::s225::s226::s227::s228::s229::s230::s231::s232::s233::s234::s235::s236::s237::s238::s239::s240::s241::s242::s243::s244::s245::s246::s247::s248::s249::s250::s251::[]),defers:=[] } w
theorem tells_other {w0 w:World} {p ob ab:Nat} {c:Nat→Nat} {F H:Nat} {E:Eng} {a0:Opt} {a:ActF} {vb:Value} (L:Hid (LO w0 w p c F H E ob a0)) (HM:Hid a0.MayC) (WA:Hid a.Wf) (RA:Hid (Row w ab 38 #[.int .i64 a.kind,.int .i64 a.a,.int .i64 a.b,.int .u64 a.v,.int .i64 a.w.r,.int .i64 a.w.p,.bool a.well]∧c ab=0)) (BK:Hid (OwnsWt w w0.heap.size vb E.book)) (BZ:Hid (∀g,vb.ownBlock=some g→c g=0)) (fF:F+1000<100000000) (fH:H+2<1000000) (k0:(a.kind==0)=false) (k1:(a.kind==1)=false) (k4:(a.kind==4)=false) (k6:(a.kind==6)=false) (k7:(a.kind==7)=false) (cd:Code) (hcd:cd=codeAt Tryz.f5 2):SwAll w0 w p ob ab c F H a0 a vb cd:=by
 subst hcd
 unfold SwAll
 intros
 conv=>arg 2;whnf
 have IV:=hid L.out.le.inv
 obtain⟨z0,z1,z2,z3,z4,z5,z6⟩:=RA.out.1.seven
 go_upto_region 15 with fail
 refine wp_of_postN (tells15 L.out HM.out WA.out RA.out fF fH _ (by kernel_rfl)) ?_
 rintro a' w9 ⟨r65,r66,r67,r68,r69,rfl,c9,pr,h9,hpr,g9,o9⟩
 (try simp only[Exit.then])
 have B9:=hid (BK.out.keep o9 (λg hg z=>by rcases z with z | z;exact z (BZ.out g hg);have:=(BK.out.base_le hg).2;omega))
 have Z9:=hid (show ∀g,vb.ownBlock=some g→c9 g=0 from λg hg=>g9.zero (BZ.out g hg) (BK.out.base_le hg).2)
 have S:=Struck.none (E:=E) (E':=E.act a) (by
  have h0:¬ a.kind=0:=by simpa using k0
  have h1:¬ a.kind=1:=by simpa using k1
  have h4:¬ a.kind=4:=by simpa using k4
  have h6:¬ a.kind=6:=by simpa using k6
  have h7:¬ a.kind=7:=by simpa using k7
  unfold Eng.act
  simp only[h0,h1,h4,h6,h7,if_false]
  split
  ·exact ahead_g _ _
  ·split
   ·exact cutE_g _ _
   ·split
    ·exact next_g _ _
    ·rfl)
 go_wp2_with fail
 exact Told.struck IV.out S h9 B9.out Z9.out (ReadsW.nil _)
theorem step_append_rd {ops:Array Oper} {o:Oper} {a:Go.Act} {w:World} {K:Go.Act→World→Prop} {Q:Exit→Go.Act→World→Prop} {E:Prop}
  (hg:o.guard=none) (s x:Operand) (hop:o.op=Op.call { callee:=Callee.builtin Builtin.append,args:=#[s,x],argTypes:=#[59,59] })
  (base:Nat) (v:Value) (n:Nat) (xs:List Value) (hs:a.eval s=v) (hown:w.ownsRow base 36 2 v n xs)
  (vx:Value) (ws:List Wt) (hx:a.eval x=vx) (hsrc:ReadsW w vx ws) (h63:n+ws.length≤maxLen) (hbytes:(n+ws.length)*16≤140737488355328) (hbase:base≤w.heap.size)
  (hK:∀v' w',w'.ownsRow base 36 2 v' (n+ws.length) (xs++ws.flatMap Wt.cells)→w.grownBy w' v.ownBlock→K (a.put o.dst v') w') :
  if Region.wanted o (yielded ops a.tmps)=true then Oper.wp prog o a w K Q else E:=by
 have hw:Region.wanted o (yielded ops a.tmps)=true:=by simp[Region.wanted,hg]
 rw[if_pos hw]
 obtain⟨v',w',hrun,r1,r2,_⟩:=run_append_rd base o.type v n xs hown vx ws hsrc h63 hbytes hbase
 unfold Oper.wp
 simp[execOp,hop,resolve,invoke,builtin,hs,hx,hrun,Result.andThen]
 exact hK v' w' r1 r2
theorem tells19 {w:World} {ab:Nat} {vb:Value} {l:List Wt} {x:Wt} (hb:ReadsW w vb l) (hl:l.length≤64) (h4:∀W,Only n_ w W→W.cell? ⟨ab,4,none⟩=some (.int .i64 x.r)) (h5:∀W,Only n_ w W→W.cell? ⟨ab,5,none⟩=some (.int .i64 x.p)) (cd:List Oper) (hcd:cd=opsAt Tryz.f5 19) {s0 s1 s2 s3 s4 s5 s6 s8 s10 s11 s12 s13 s14 s15 s16 s17 s18 s19 s20 s21 s22 s23 s24 s25 s26 s27 s28 s29 s30 s31 s32 s33 s34 s35 s36 s37 s38 s39 s40 s41 s42 s43 s44 s45 s46 s47 s48 s49 s50 s51 s52 s53 s54 s55 s56 s57 s58 s59 s60 s61 s62 s63 s64 s65 s66 s67 s68 s69 s70 s71 s72 s73 s74 s75 s76 s77 s78 s79 s80 s81 s82 s83 s84 s85 s86 s87 s88 s89 s90 s91 s92 s93 s94 s95 s96 s97 s98 s99 s100 s101 s102 s103 s104 s105 s106 s107 s108 s109 s110 s111 s112 s113 s114 s115 s116 s117 s118 s119 s120 s121 s122 s123 s124 s125 s126 s127 s128 s129 s130 s131 s132 s133 s134 s135 s136 s137 s138 s139 s140 s141 s142 s143 s144 s145 s146 s147 s148 s149 s150 s151 s152 s153 s154 s155 s156 s157 s158 s159 s160 s161 s162 s163 s164 s165 s166 s167 s168 s169 s170 s171 s172 s173 s174 s175 s176 s177 s178 s179 s180 s181 s182 s183 s184 s185 s186 s187 s188 s189 s190 s191 s192 s193 s194 s195 s196 s197 s198 s199 s200 s201 s202 s203 s204 s205 s206 s207 s208 s209 s210 s211 s212 s213 s214 s215 s216 s217 s218 s219 s220 s221 s222 s223 s224 s225 s226 s227 s228 s229 s230 s231 s232 s233 s234 s235 s236 s237 s238 s239 s240 s241 s242 s243 s244 s245 s246 s247 s248 s249 s250 s251:Value} :
    Code.wp prog (Code.region 19 cd.toArray true) (PostN λa' w'=>∃v7 r87 r88 r89 r90 r91 r92 r93:Value,a'={ tmps:=List.toArray (s0::s1::s2::s3::s4::s5::s6::v7::s8::.pointer (some ⟨ab,0,none⟩)::s10::s11::s12::s13::s14::s15::s16::s17::s18::s19::s20::s21::s22::s23::s24::s25::s26::s27::s28::s29::s30::s31::s32::s33::s34::s35::s36::s37::s38::s39::s40::s41::s42::s43::s44::s45::s46::s47::s48::s49::s50::s51::s52::s53::s54::s55::s56::s57::s58::s59::s60::s61::s62::s63::s64::s65::s66::s67::s68::s69::s70::s71::s72::s73::s74::s75::s76::s77::s78::s79::s80::s81::s82::s83::s84::s85::s86::r87::r88::r89::r90::r91::r92::r93::s94::s95::s96::s97::s98::s99::s100::s101::s102::s103::s104::s105::s106::s107::s108::s109::s110::s111::s112::s113::s114::s115::s116::s117::s118::s119::s120::s121::s122::s123::s124::s125::s126::s127::s128::s129::s130::s131::s132::s133::s134::s135::s136::s137::s138::s139::s140::s141::s142::s143::s144::s145::s146::s147::s148::s149::s150::s151::s152::s153::s154::s155::s156::s157::s158::s159::s160::s161::s162::s163::s164::s165::s166::s167::s168::s169::s170::s171::s172::s173::s174::s175::s176::s177::s178::s179::s180::s181::s182::s183::s184::s185::s186::s187::s188::s189::s190::s191::s192::s193::s194::s195::s196::s197::s198::s199::s200::s201::s202::s203::s204::s205::s206::s207::s208::s209::s210::s211::s212::s213::s214::s215::s216::s217::s218::s219::s220::s221::s222::s223::s224::s225::s226::s227::s228::s229::s230::s231::s232::s233::s234::s235::s236::s237::s238::s239::s240::s241::s242::s243::s244::s245::s246::s247::s248::s249::s250::s251::[]),defers:=[] }∧OwnsWt w' w.heap.size v7 (l++[x])∧Only n_ w w') { tmps:=List.toArray (s0::s1::s2::s3::s4::s5::s6::vb::s8::.pointer (some ⟨ab,0,none⟩)::s10::s11::s12::s13::s14::s15::s16::s17::s18::s19::s20::s21::s22::s23::s24::s25::s26::s27::s28::s29::s30::s31::s32::s33::s34::s35::s36::s37::s38::s39::s40::s41::s42::s43::s44::s45::s46::s47::s48::s49::s50::s51::s52::s53::s54::s55::s56::s57::s58::s59::s60::s61::s62::s63::s64::s65::s66::s67::s68::s69::s70::s71::s72::s73::s74::s75::s76::s77::s78::s79::s80::s81::s82::s83::s84::s85::s86::s87::s88::s89::s90::s91::s92::s93::s94::s95::s96::s97::s98::s99::s100::s101::s102::s103::s104::s105::s106::s107::s108::s109::s110::s111::s112::s113::s114::s115::s116::s117::s118::s119::s120::s121::s122::s123::s124::s125::s126::s127::s128::s129::s130::s131::s132::s133::s134::s135::s136::s137::s138::s139::s140::s141::s142::s143::s144::s145::s146::s147::s148::s149::s150::s151::s152::s153::s154::s155::s156::s157::s158::s159::s160::s161::s162::s163::s164::s165::s166::s167::s168::s169::s170::s171::s172::s173::s174::s175::s176::s177::s178::s179::s180::s181::s182::s183::s184::s185::s186::s187::s188::s189::s190::s191::s192::s193::s194::s195::s196::s197::s198::s199::s200::s201::s202::s203::s204::s205::s206::s207::s208::s209::s210::s211::s212::s213::s214::s215::s216::s217::s218::s219::s220::s221::s222::s223::s224::s225::s226::s227::s228::s229::s230::s231::s232::s233::s234::s235::s236::s237::s238::s239::s240::s241::s242::s243::s244::s245::s246::s247::s248::s249::s250::s251::[]),defers:=[] } w:=by
  subst hcd
  conv=>arg 2;arg 2;arg 1;whnf
  obtain⟨va,vk,rfl,hbc⟩:=hb
  have HB:=hid (λ(W:World) (o:Only n_ w W)=>ReadsW.still (show ReadsW w (.slice va l.length vk) l from ⟨va,vk,rfl,hbc⟩) o)
  have KS:=hid (λ(W:World) (o:Only n_ w W)=>And.intro (h4 W o) (h5 W o))
  have LL:=hid hl
  have own:∀(W:World) (g:Nat),Row W g 36 #[]→w.heap.size≤g→World.ownsRow W w.heap.size 36 2 (.slice (some ⟨g,0,none⟩) 0 0) 0 []:=λW g r hg=>⟨rfl,.inr ⟨g,0,#[],rfl,hg,r,Nat.le_refl _,Nat.zero_le _,rfl,rfl⟩⟩
  have OW:=hid own
  have rd1:∀(W:World) (g:Nat),Row W g 36 #[.int .i64 x.r,.int .i64 x.p]→ReadsW W (.slice (some ⟨g,0,none⟩) 1 1) [x]:=λW g r=>⟨some ⟨g,0,none⟩,1,rfl,λi y hy=>by
    match i,hy with
    | 0,hy=>injection hy with hy;subst hy;exact⟨g,0,rfl,r.cell 0,r.cell 1⟩
    | n+1,hy=>cases hy⟩
  have RD:=hid rd1
  have OA:=hid ((((Only.refl n_ w).alloc (.cells #[] 36))).drew)
  have OF:=hid ((((Only.refl n_ w).alloc (.cells #[.int .i64 x.r,.int .i64 x.p] 36))).drew)
  have OAF:=hid ((((Only.refl n_ w).alloc (.cells #[] 36)).alloc (.cells #[.int .i64 x.r,.int .i64 x.p] 36)).drew)
  have OFA:=hid ((((Only.refl n_ w).alloc (.cells #[.int .i64 x.r,.int .i64 x.p] 36)).alloc (.cells #[] 36)).drew)
  have RA1:=hid (show Row ((w.alloc (.cells #[] 36)).drew) w.heap.size 36 #[] from (Row.fresh w 36 #[]).drew)
  have RA2:=hid (show Row (((w.alloc (.cells #[] 36)).alloc (.cells #[.int .i64 x.r,.int .i64 x.p] 36)).drew) w.heap.size 36 #[] from ((Row.fresh w 36 #[]).alloc _).drew)
  have RF2:=hid (show Row (((w.alloc (.cells #[] 36)).alloc (.cells #[.int .i64 x.r,.int .i64 x.p] 36)).drew) (w.heap.size+1) 36 #[.int .i64 x.r,.int .i64 x.p] from by
    have r:=Row.fresh (w.alloc (.cells #[] 36)) 36 #[.int .i64 x.r,.int .i64 x.p]
    rw[World.size_alloc] at r
    exact r.drew)
  have RF3:=hid (show Row (((w.alloc (.cells #[.int .i64 x.r,.int .i64 x.p] 36)).alloc (.cells #[] 36)).drew) w.heap.size 36 #[.int .i64 x.r,.int .i64 x.p] from ((Row.fresh w 36 #[.int .i64 x.r,.int .i64 x.p]).alloc _).drew)
  have RA3:=hid (show Row (((w.alloc (.cells #[.int .i64 x.r,.int .i64 x.p] 36)).alloc (.cells #[] 36)).drew) (w.heap.size+1) 36 #[] from by
    have r:=Row.fresh (w.alloc (.cells #[.int .i64 x.r,.int .i64 x.p] 36)) 36 #[]
    rw[World.size_alloc] at r
    exact r.drew)
  have S1:w.heap.size≤w.heap.size+1:=Nat.le_succ _
  have m1:0+l.length≤maxLen:=by unfold maxLen;omega
  have m2:(0+l.length)*16≤140737488355328:=by omega
  have m3:l.length+[x].length≤maxLen:=by unfold maxLen;simp;omega
  have m4:(l.length+[x].length)*16≤140737488355328:=by simp;omega
  have F1:=hid (λ(W:World) (v:Value) (h:World.ownsRow W w.heap.size 36 2 v (0+l.length) ([]++l.flatMap Wt.cells))=>(show OwnsWt W w.heap.size v l from by
    show World.ownsRow _ _ _ _ _ _ _
    simpa using h))
  have FIN:=hid (λ(W:World) (v:Value) (h:World.ownsRow W w.heap.size 36 2 v (l.length+[x].length) (l.flatMap Wt.cells++[x].flatMap Wt.cells))=>(show OwnsWt W w.heap.size v (l++[x]) from by
    show World.ownsRow _ _ _ _ _ _ _
    rw[List.flatMap_append,List.length_append]
    exact h))
  clear own rd1 hbc h4 h5 hl
  go_region_held3 (λW=>W.cell? ⟨ab,4,none⟩=some (.int .i64 x.r)∧W.cell? ⟨ab,5,none⟩=some (.int .i64 x.p))
    (first
      | (with_reducible exact KS.out _ O2.out)
      | (with_reducible exact KS.out _ O1F.out)
      | (with_reducible exact KS.out _ O1.out)
      | (exact KS.out _ (Only.refl _ _).drew)
      | (exact KS.out _ OAF.out)
      | (exact KS.out _ OFA.out)
      | (exact KS.out _ OA.out)
      | (exact KS.out _ OF.out)
      | fail)
    (first
      | (refine step_append_rd rfl (.tmp 87) (.tmp 88) rfl w.heap.size _ 0 [] rfl (OW.out _ _ RA1.out (Nat.le_refl _)) _ l rfl (HB.out _ OA.out) m1 m2 OA.out.size ?_
         intro v1 w1 hown1 hgrow1
         have O1:=hid (OA.out.trans (Only.of_grown hgrow1) (λj hj q=>by have q2:some j=some w.heap.size:=q;injection q2;omega))
         have V1:=hid (F1.out w1 v1 hown1)
         have O1F:=hid (O1.out.alloc (.cells #[.int .i64 x.r,.int .i64 x.p] 36))
         have RXF:=hid (RD.out _ _ (Row.fresh w1 36 #[.int .i64 x.r,.int .i64 x.p]))
         have V1F:=hid (V1.out.still ((Only.refl n_ w1).alloc (.cells #[.int .i64 x.r,.int .i64 x.p] 36)))
         clear hown1 hgrow1)
      | (refine step_append_rd rfl (.tmp 87) (.tmp 88) rfl w.heap.size _ 0 [] rfl (OW.out _ _ RA2.out (Nat.le_refl _)) _ l rfl (HB.out _ OAF.out) m1 m2 OAF.out.size ?_
         intro v1 w1 hown1 hgrow1
         have og:=Only.of_grown hgrow1
         have O1:=hid (OAF.out.trans og (λj hj q=>by have q2:some j=some w.heap.size:=q;injection q2;omega))
         have V1:=hid (F1.out w1 v1 hown1)
         have RX1:=hid (RD.out w1 _ (og.row RF2.out (λq=>by have q2:some (w.heap.size+1)=some w.heap.size:=q;injection q2;omega)))
         clear hown1 hgrow1 og)
      | (refine step_append_rd rfl (.tmp 87) (.tmp 88) rfl w.heap.size _ 0 [] rfl (OW.out _ _ RA3.out S1) _ l rfl (HB.out _ OFA.out) m1 m2 OFA.out.size ?_
         intro v1 w1 hown1 hgrow1
         have og:=Only.of_grown hgrow1
         have O1:=hid (OFA.out.trans og (λj hj q=>by have q2:some j=some (w.heap.size+1):=q;injection q2;omega))
         have V1:=hid (F1.out w1 v1 hown1)
         have RX1:=hid (RD.out w1 _ (og.row RF3.out (λq=>by have q2:some w.heap.size=some (w.heap.size+1):=q;injection q2;omega)))
         clear hown1 hgrow1 og)
      | (refine step_append_rd rfl (.tmp 89) (.tmp 92) rfl w.heap.size _ l.length _ rfl V1F.out _ [x] rfl RXF.out m3 m4 O1F.out.size ?_
         intro v2 w2 hown2 hgrow2
         have O2:=hid (O1F.out.trans (Only.of_grown hgrow2) (λj hj q=>by have:=(V1F.out.base_le q.symm).1;omega))
         have V2:=hid (FIN.out w2 v2 hown2)
         clear hown2 hgrow2)
      | (refine step_append_rd rfl (.tmp 89) (.tmp 92) rfl w.heap.size _ l.length _ rfl V1.out _ [x] rfl RX1.out m3 m4 O1.out.size ?_
         intro v2 w2 hown2 hgrow2
         have O2:=hid (O1.out.trans (Only.of_grown hgrow2) (λj hj q=>by have:=(V1.out.base_le q.symm).1;omega))
         have V2:=hid (FIN.out w2 v2 hown2)
         clear hown2 hgrow2)
      | fail)
  all_goals
    go_wp2_with fail
    exact⟨v2,_,_,_,_,_,_,_,rfl,V2.out,O2.out⟩
theorem tells23 {w:World} {ab:Nat} {vb:Value} {l:List Wt} {x:Wt} (hb:ReadsW w vb l) (hl:l.length≤64) (h4:∀W,Only n_ w W→W.cell? ⟨ab,4,none⟩=some (.int .i64 x.r)) (h5:∀W,Only n_ w W→W.cell? ⟨ab,5,none⟩=some (.int .i64 x.p)) (cd:List Oper) (hcd:cd=opsAt Tryz.f5 23) {s0 s1 s2 s3 s4 s5 s6 s8 s10 s11 s12 s13 s14 s15 s16 s17 s18 s19 s20 s21 s22 s23 s24 s25 s26 s27 s28 s29 s30 s31 s32 s33 s34 s35 s36 s37 s38 s39 s40 s41 s42 s43 s44 s45 s46 s47 s48 s49 s50 s51 s52 s53 s54 s55 s56 s57 s58 s59 s60 s61 s62 s63 s64 s65 s66 s67 s68 s69 s70 s71 s72 s73 s74 s75 s76 s77 s78 s79 s80 s81 s82 s83 s84 s85 s86 s87 s88 s89 s90 s91 s92 s93 s94 s95 s96 s97 s98 s99 s100 s101 s102 s103 s104 s105 s106 s107 s108 s109 s110 s111 s112 s113 s114 s115 s116 s117 s118 s119 s120 s121 s122 s123 s124 s125 s126 s127 s128 s129 s130 s131 s132 s133 s134 s135 s136 s137 s138 s139 s140 s141 s142 s143 s144 s145 s146 s147 s148 s149 s150 s151 s152 s153 s154 s155 s156 s157 s158 s159 s160 s161 s162 s163 s164 s165 s166 s167 s168 s169 s170 s171 s172 s173 s174 s175 s176 s177 s178 s179 s180 s181 s182 s183 s184 s185 s186 s187 s188 s189 s190 s191 s192 s193 s194 s195 s196 s197 s198 s199 s200 s201 s202 s203 s204 s205 s206 s207 s208 s209 s210 s211 s212 s213 s214 s215 s216 s217 s218 s219 s220 s221 s222 s223 s224 s225 s226 s227 s228 s229 s230 s231 s232 s233 s234 s235 s236 s237 s238 s239 s240 s241 s242 s243 s244 s245 s246 s247 s248 s249 s250 s251:Value} :
    Code.wp prog (Code.region 23 cd.toArray true) (PostN λa' w'=>∃v7 r110 r111 r112 r113 r114 r115 r116:Value,a'={ tmps:=List.toArray (s0::s1::s2::s3::s4::s5::s6::v7::s8::.pointer (some ⟨ab,0,none⟩)::s10::s11::s12::s13::s14::s15::s16::s17::s18::s19::s20::s21::s22::s23::s24::s25::s26::s27::s28::s29::s30::s31::s32::s33::s34::s35::s36::s37::s38::s39::s40::s41::s42::s43::s44::s45::s46::s47::s48::s49::s50::s51::s52::s53::s54::s55::s56::s57::s58::s59::s60::s61::s62::s63::s64::s65::s66::s67::s68::s69::s70::s71::s72::s73::s74::s75::s76::s77::s78::s79::s80::s81::s82::s83::s84::s85::s86::s87::s88::s89::s90::s91::s92::s93::s94::s95::s96::s97::s98::s99::s100::s101::s102::s103::s104::s105::s106::s107::s108::s109::r110::r111::r112::r113::r114::r115::r116::s117::s118::s119::s120::s121::s122::s123::s124::s125::s126::s127::s128::s129::s130::s131::s132::s133::s134::s135::s136::s137::s138::s139::s140::s141::s142::s143::s144::s145::s146::s147::s148::s149::s150::s151::s152::s153::s154::s155::s156::s157::s158::s159::s160::s161::s162::s163::s164::s165::s166::s167::s168::s169::s170::s171::s172::s173::s174::s175::s176::s177::s178::s179::s180::s181::s182::s183::s184::s185::s186::s187::s188::s189::s190::s191::s192::s193::s194::s195::s196::s197::s198::s199::s200::s201::s202::s203::s204::s205::s206::s207::s208::s209::s210::s211::s212::s213::s214::s215::s216::s217::s218::s219::s220::s221::s222::s223::s224::s225::s226::s227::s228::s229::s230::s231::s232::s233::s234::s235::s236::s237::s238::s239::s240::s241::s242::s243::s244::s245::s246::s247::s248::s249::s250::s251::[]),defers:=[] }∧OwnsWt w' w.heap.size v7 (l++[x])∧Only n_ w w') { tmps:=List.toArray (s0::s1::s2::s3::s4::s5::s6::vb::s8::.pointer (some ⟨ab,0,none⟩)::s10::s11::s12::s13::s14::s15::s16::s17::s18::s19::s20::s21::s22::s23::s24::s25::s26::s27::s28::s29::s30::s31::s32::s33::s34::s35::s36::s37::s38::s39::s40::s41::s42::s43::s44::s45::s46::s47::s48::s49::s50::s51::s52::s53::s54::s55::s56::s57::s58::s59::s60::s61::s62::s63::s64::s65::s66::s67::s68::s69::s70::s71::s72::s73::s74::s75::s76::s77::s78::s79::s80::s81::s82::s83::s84::s85::s86::s87::s88::s89::s90::s91::s92::s93::s94::s95::s96::s97::s98::s99::s100::s101::s102::s103::s104::s105::s106::s107::s108::s109::s110::s111::s112::s113::s114::s115::s116::s117::s118::s119::s120::s121::s122::s123::s124::s125::s126::s127::s128::s129::s130::s131::s132::s133::s134::s135::s136::s137::s138::s139::s140::s141::s142::s143::s144::s145::s146::s147::s148::s149::s150::s151::s152::s153::s154::s155::s156::s157::s158::s159::s160::s161::s162::s163::s164::s165::s166::s167::s168::s169::s170::s171::s172::s173::s174::s175::s176::s177::s178::s179::s180::s181::s182::s183::s184::s185::s186::s187::s188::s189::s190::s191::s192::s193::s194::s195::s196::s197::s198::s199::s200::s201::s202::s203::s204::s205::s206::s207::s208::s209::s210::s211::s212::s213::s214::s215::s216::s217::s218::s219::s220::s221::s222::s223::s224::s225::s226::s227::s228::s229::s230::s231::s232::s233::s234::s235::s236::s237::s238::s239::s240::s241::s242::s243::s244::s245::s246::s247::s248::s249::s250::s251::[]),defers:=[] } w:=by
  subst hcd
  conv=>arg 2;arg 2;arg 1;whnf
  obtain⟨va,vk,rfl,hbc⟩:=hb
  have HB:=hid (λ(W:World) (o:Only n_ w W)=>ReadsW.still (show ReadsW w (.slice va l.length vk) l from ⟨va,vk,rfl,hbc⟩) o)
  have KS:=hid (λ(W:World) (o:Only n_ w W)=>And.intro (h4 W o) (h5 W o))
  have LL:=hid hl
  have own:∀(W:World) (g:Nat),Row W g 36 #[]→w.heap.size≤g→World.ownsRow W w.heap.size 36 2 (.slice (some ⟨g,0,none⟩) 0 0) 0 []:=λW g r hg=>⟨rfl,.inr ⟨g,0,#[],rfl,hg,r,Nat.le_refl _,Nat.zero_le _,rfl,rfl⟩⟩
  have OW:=hid own
  have rd1:∀(W:World) (g:Nat),Row W g 36 #[.int .i64 x.r,.int .i64 x.p]→ReadsW W (.slice (some ⟨g,0,none⟩) 1 1) [x]:=λW g r=>⟨some ⟨g,0,none⟩,1,rfl,λi y hy=>by
    match i,hy with
    | 0,hy=>injection hy with hy;subst hy;exact⟨g,0,rfl,r.cell 0,r.cell 1⟩
    | n+1,hy=>cases hy⟩
  have RD:=hid rd1
  have OA:=hid ((((Only.refl n_ w).alloc (.cells #[] 36))).drew)
  have OF:=hid ((((Only.refl n_ w).alloc (.cells #[.int .i64 x.r,.int .i64 x.p] 36))).drew)
  have OAF:=hid ((((Only.refl n_ w).alloc (.cells #[] 36)).alloc (.cells #[.int .i64 x.r,.int .i64 x.p] 36)).drew)
  have OFA:=hid ((((Only.refl n_ w).alloc (.cells #[.int .i64 x.r,.int .i64 x.p] 36)).alloc (.cells #[] 36)).drew)
  have RA1:=hid (show Row ((w.alloc (.cells #[] 36)).drew) w.heap.size 36 #[] from (Row.fresh w 36 #[]).drew)
  have RA2:=hid (show Row (((w.alloc (.cells #[] 36)).alloc (.cells #[.int .i64 x.r,.int .i64 x.p] 36)).drew) w.heap.size 36 #[] from ((Row.fresh w 36 #[]).alloc _).drew)
  have RF2:=hid (show Row (((w.alloc (.cells #[] 36)).alloc (.cells #[.int .i64 x.r,.int .i64 x.p] 36)).drew) (w.heap.size+1) 36 #[.int .i64 x.r,.int .i64 x.p] from by
    have r:=Row.fresh (w.alloc (.cells #[] 36)) 36 #[.int .i64 x.r,.int .i64 x.p]
    rw[World.size_alloc] at r
    exact r.drew)
  have RF3:=hid (show Row (((w.alloc (.cells #[.int .i64 x.r,.int .i64 x.p] 36)).alloc (.cells #[] 36)).drew) w.heap.size 36 #[.int .i64 x.r,.int .i64 x.p] from ((Row.fresh w 36 #[.int .i64 x.r,.int .i64 x.p]).alloc _).drew)
  have RA3:=hid (show Row (((w.alloc (.cells #[.int .i64 x.r,.int .i64 x.p] 36)).alloc (.cells #[] 36)).drew) (w.heap.size+1) 36 #[] from by
    have r:=Row.fresh (w.alloc (.cells #[.int .i64 x.r,.int .i64 x.p] 36)) 36 #[]
    rw[World.size_alloc] at r
    exact r.drew)
  have S1:w.heap.size≤w.heap.size+1:=Nat.le_succ _
  have m1:0+l.length≤maxLen:=by unfold maxLen;omega
  have m2:(0+l.length)*16≤140737488355328:=by omega
  have m3:l.length+[x].length≤maxLen:=by unfold maxLen;simp;omega
  have m4:(l.length+[x].length)*16≤140737488355328:=by simp;omega
  have F1:=hid (λ(W:World) (v:Value) (h:World.ownsRow W w.heap.size 36 2 v (0+l.length) ([]++l.flatMap Wt.cells))=>(show OwnsWt W w.heap.size v l from by
    show World.ownsRow _ _ _ _ _ _ _
    simpa using h))
  have FIN:=hid (λ(W:World) (v:Value) (h:World.ownsRow W w.heap.size 36 2 v (l.length+[x].length) (l.flatMap Wt.cells++[x].flatMap Wt.cells))=>(show OwnsWt W w.heap.size v (l++[x]) from by
    show World.ownsRow _ _ _ _ _ _ _
    rw[List.flatMap_append,List.length_append]
    exact h))
  clear own rd1 hbc h4 h5 hl
  go_region_held3 (λW=>W.cell? ⟨ab,4,none⟩=some (.int .i64 x.r)∧W.cell? ⟨ab,5,none⟩=some (.int .i64 x.p))
    (first
      | (with_reducible exact KS.out _ O2.out)
      | (with_reducible exact KS.out _ O1F.out)
      | (with_reducible exact KS.out _ O1.out)
      | (exact KS.out _ (Only.refl _ _).drew)
      | (exact KS.out _ OAF.out)
      | (exact KS.out _ OFA.out)
      | (exact KS.out _ OA.out)
      | (exact KS.out _ OF.out)
      | fail)
    (first
      | (refine step_append_rd rfl (.tmp 110) (.tmp 111) rfl w.heap.size _ 0 [] rfl (OW.out _ _ RA1.out (Nat.le_refl _)) _ l rfl (HB.out _ OA.out) m1 m2 OA.out.size ?_
         intro v1 w1 hown1 hgrow1
         have O1:=hid (OA.out.trans (Only.of_grown hgrow1) (λj hj q=>by have q2:some j=some w.heap.size:=q;injection q2;omega))
         have V1:=hid (F1.out w1 v1 hown1)
         have O1F:=hid (O1.out.alloc (.cells #[.int .i64 x.r,.int .i64 x.p] 36))
         have RXF:=hid (RD.out _ _ (Row.fresh w1 36 #[.int .i64 x.r,.int .i64 x.p]))
         have V1F:=hid (V1.out.still ((Only.refl n_ w1).alloc (.cells #[.int .i64 x.r,.int .i64 x.p] 36)))
         clear hown1 hgrow1)
      | (refine step_append_rd rfl (.tmp 110) (.tmp 111) rfl w.heap.size _ 0 [] rfl (OW.out _ _ RA2.out (Nat.le_refl _)) _ l rfl (HB.out _ OAF.out) m1 m2 OAF.out.size ?_
         intro v1 w1 hown1 hgrow1
         have og:=Only.of_grown hgrow1
         have O1:=hid (OAF.out.trans og (λj hj q=>by have q2:some j=some w.heap.size:=q;injection q2;omega))
         have V1:=hid (F1.out w1 v1 hown1)
         have RX1:=hid (RD.out w1 _ (og.row RF2.out (λq=>by have q2:some (w.heap.size+1)=some w.heap.size:=q;injection q2;omega)))
         clear hown1 hgrow1 og)
      | (refine step_append_rd rfl (.tmp 110) (.tmp 111) rfl w.heap.size _ 0 [] rfl (OW.out _ _ RA3.out S1) _ l rfl (HB.out _ OFA.out) m1 m2 OFA.out.size ?_
         intro v1 w1 hown1 hgrow1
         have og:=Only.of_grown hgrow1
         have O1:=hid (OFA.out.trans og (λj hj q=>by have q2:some j=some (w.heap.size+1):=q;injection q2;omega))
         have V1:=hid (F1.out w1 v1 hown1)
         have RX1:=hid (RD.out w1 _ (og.row RF3.out (λq=>by have q2:some w.heap.size=some (w.heap.size+1):=q;injection q2;omega)))
         clear hown1 hgrow1 og)
      | (refine step_append_rd rfl (.tmp 112) (.tmp 115) rfl w.heap.size _ l.length _ rfl V1F.out _ [x] rfl RXF.out m3 m4 O1F.out.size ?_
         intro v2 w2 hown2 hgrow2
         have O2:=hid (O1F.out.trans (Only.of_grown hgrow2) (λj hj q=>by have:=(V1F.out.base_le q.symm).1;omega))
         have V2:=hid (FIN.out w2 v2 hown2)
         clear hown2 hgrow2)
      | (refine step_append_rd rfl (.tmp 112) (.tmp 115) rfl w.heap.size _ l.length _ rfl V1.out _ [x] rfl RX1.out m3 m4 O1.out.size ?_
         intro v2 w2 hown2 hgrow2
         have O2:=hid (O1.out.trans (Only.of_grown hgrow2) (λj hj q=>by have:=(V1.out.base_le q.symm).1;omega))
         have V2:=hid (FIN.out w2 v2 hown2)
         clear hown2 hgrow2)
      | fail)
  all_goals
    go_wp2_with fail
    exact⟨v2,_,_,_,_,_,_,_,rfl,V2.out,O2.out⟩
theorem tells_serve {w0 w:World} {p ob ab:Nat} {c:Nat→Nat} {F H:Nat} {E:Eng} {a0:Opt} {a:ActF} {vb:Value} (L:Hid (LO w0 w p c F H E ob a0)) (HM:Hid a0.MayC) (WA:Hid a.Wf) (RA:Hid (Row w ab 38 #[.int .i64 a.kind,.int .i64 a.a,.int .i64 a.b,.int .u64 a.v,.int .i64 a.w.r,.int .i64 a.w.p,.bool a.well]∧c ab=0)) (BK:Hid (OwnsWt w w0.heap.size vb E.book)) (BZ:Hid (∀g,vb.ownBlock=some g→c g=0)) (fF:F+1000<100000000) (fH:H+2<1000000) (kk:a.kind=7) (cd:Code) (hcd:cd=codeAt Tryz.f5 2):SwAll w0 w p ob ab c F H a0 a vb cd:=by
 subst hcd
 unfold SwAll
 intros
 conv=>arg 2;whnf
 have IV:=hid L.out.le.inv
 obtain⟨z0,z1,z2,z3,z4,z5,z6⟩:=RA.out.1.seven
 have t0:(a.kind==0)=false:=by simp[kk]
 have t1:(a.kind==1)=false:=by simp[kk]
 have t4:(a.kind==4)=false:=by simp[kk]
 have t6:(a.kind==6)=false:=by simp[kk]
 have t7:(a.kind==7)=true:=by simp[kk]
 clear kk
 have CA:=lserve a.a L.out.le (by omega) (by omega)
 obtain⟨d0,d1,d2,d3,d4,d5,e0,e1,e2,hv⟩:=serveT_is E a.a
 rw[hv] at CA
 unfold pT at CA
 have CA:=hid CA
 have NO:=hid (serve_o E a.a)
 have S:=hid (show Struck E (E.serve a.a) (serveW E a.a) from serve_struck IV.out a.a)
 clear hv
 go_wp2_with fail
 (with_reducible refine CA.out.mono ?_)
 rintro e w8 ⟨v8,rfl,rd,c8,h8,g8,_,o8⟩
 have R8:=hid rd.1
 obtain⟨va,vk,rfl⟩:=rd.len
 have L8:=hid (L.out.to h8 g8 o8 NO.out)
 have B8:=hid (BK.out.keep o8 (λg hg z=>z (BZ.out g hg)))
 have Z8:=hid (show ∀g,vb.ownBlock=some g→c8 g=0 from λg hg=>g8.zero (BZ.out g hg) (BK.out.base_le hg).2)
 clear rd h8 g8 o8 CA z0 z1 z2 z3 z4 z5 z6
 go_wp2_with fail
 exact Told.struck IV.out S.out ((L8.out.up (by omega) (by omega) fF fH).still ((Only.refl n_ _).alloc _)) (B8.out.still ((Only.refl n_ _).alloc _)) Z8.out (ReadsW.still R8.out ((Only.refl n_ _).alloc _))
theorem tells_quit {w0 w:World} {p ob ab:Nat} {c:Nat→Nat} {F H:Nat} {E:Eng} {a0:Opt} {a:ActF} {vb:Value} (L:Hid (LO w0 w p c F H E ob a0)) (HM:Hid a0.MayC) (WA:Hid a.Wf) (RA:Hid (Row w ab 38 #[.int .i64 a.kind,.int .i64 a.a,.int .i64 a.b,.int .u64 a.v,.int .i64 a.w.r,.int .i64 a.w.p,.bool a.well]∧c ab=0)) (BK:Hid (OwnsWt w w0.heap.size vb E.book)) (BZ:Hid (∀g,vb.ownBlock=some g→c g=0)) (fF:F+1000<100000000) (fH:H+2<1000000) (kk:a.kind=4) (cd:Code) (hcd:cd=codeAt Tryz.f5 2):SwAll w0 w p ob ab c F H a0 a vb cd:=by
 subst hcd
 unfold SwAll
 intros
 conv=>arg 2;whnf
 have IV:=hid L.out.le.inv
 obtain⟨z0,z1,z2,z3,z4,z5,z6⟩:=RA.out.1.seven
 have t0:(a.kind==0)=false:=by simp[kk]
 have t1:(a.kind==1)=false:=by simp[kk]
 have t4:(a.kind==4)=true:=by simp[kk]
 have t6:(a.kind==6)=false:=by simp[kk]
 have t7:(a.kind==7)=false:=by simp[kk]
 clear kk
 have CA:=lquit a.a L.out.le (by omega)
 unfold pT at CA
 have NO:=hid (quit_o E a.a)
 have S:=hid (quit_struck IV.out a.a)
 have bl:=book_le IV.out
 have BLE:=hid bl
 obtain⟨ba,bc,rfl⟩:=owns_formQ BK.out
 obtain⟨nb,hnb⟩:∃n,E.book.length=n:=⟨_,rfl⟩
 rw[hnb] at BK BZ bl ⊢
 have NB:=hid hnb
 obtain⟨cq,hcq⟩:∃x,E.quitC a.a=x:=⟨_,rfl⟩
 rw[hcq] at CA S
 have CA:=hid CA
 clear hnb hcq
 go_wp2_with fail
 (with_reducible refine CA.out.mono ?_)
 rintro e w8 ⟨qa,qn,qk,rfl,c8,h8,g8,_,o8⟩
 have L8:=hid (L.out.to h8 g8 o8 NO.out)
 have B8:=hid (BK.out.keep o8 (λg hg z=>z (BZ.out g hg)))
 have Z8:=hid (show ∀g,(Value.slice ba nb bc).ownBlock=some g→c8 g=0 from λg hg=>g8.zero (BZ.out g hg) (BK.out.base_le hg).2)
 have RA8:=hid (kept g8 o8 RA.out)
 clear h8 g8 o8 CA z0 z1 z2 z3 z4 z5 z6
 by_cases hc:cq=0
 ·have t8:(cq==0)=true:=by simp[hc]
  rw[if_pos hc] at S
  obtain⟨i0,hi0,hz0,hz1,hz2⟩:=info_partsR info_wt
  have I0:=hid hi0
  have I1:=hid hz0
  have I2:=hid hz1
  have I3:=hid hz2
  clear hc hi0 hz0 hz1 hz2
  go_wp2_with fail
  go_loopw [10,20] (λv i wr=>∃(j:Nat) (u:Value),u=v∧i=.int .i64 j∧j≤nb∧Only n_ w8 wr∧OwnsWt wr w8.heap.size u ((E.book.take j).filter (λx:Wt=>decide (x.r=a.a)))) (λ_ i _=>nb-(intOf i).toNat)
  case atStart=>exact⟨0,_,rfl,rfl,Nat.zero_le _,Only.refl _ _,Owns.start _ _ _ _ _⟩
  case round =>
   obtain⟨j,u,rfl,rfl,hj,oj,uj⟩:=hrel
   have OJ:=hid oj
   have UJ:=hid uj
   clear oj uj
   by_cases hlj:j<nb
   ·have t9:decide (j<nb)=true:=decide_eq_true hlj
    obtain⟨x,hx⟩:∃x,E.book[j]? = some x:=⟨_,List.getElem?_eq_getElem (by rw[NB.out];exact hlj)⟩
    obtain⟨bg,bc',eb,_⟩:=Owns.form B8.out (by intro e;rw[e] at hx;cases hx)
    simp only[Value.slice.injEq] at eb
    obtain⟨rfl,en,rfl⟩:=eb
    clear en
    obtain⟨ua,uc,rfl⟩:=owns_formQ UJ.out
    have BF:=hid (show OwnsWt w8 w0.heap.size (.slice (some ⟨bg,0,none⟩) E.book.length bc) E.book from by rw[NB.out];exact B8.out)
    have c0:wr.cell? ⟨bg,j*2,none⟩=some (.int .i64 x.r):=OJ.out.cell (Owns.cell BF.out wt2 hx (j:=0) (by decide)) (λs=>s)
    have c1:wr.cell? ⟨bg,j*2+1,none⟩=some (.int .i64 x.p):=OJ.out.cell (Owns.cell BF.out wt2 hx (j:=1) (by decide)) (λs=>s)
    have z1:wr.cell? ⟨ab,1,none⟩=some (.int .i64 a.a):=(OJ.out.still RA8.out.1).cell 1
    have hv:IntKind.i64.wrap ((j:Int)+1)=(j:Int)+1:=by rw[IntKind.wrap_i64];omega
    have TK:=hid (show E.book.take (j+1)=E.book.take j++[x] from sxtake hx)
    have CC:=hid (And.intro c0 c1)
    clear hx
    cases he:(x.r==a.a) with
    | false =>
     have FL:=hid (show (E.book.take (j+1)).filter (λx:Wt=>decide (x.r=a.a))=(E.book.take j).filter (λx:Wt=>decide (x.r=a.a)) from by
      rw[TK.out,List.filter_append]
      have hne:¬ x.r=a.a:=by simpa using he
      simp[hne])
     go_upto_region 29 with fail
     go_region
     all_goals
      go_wp2_with fail
      go_roundw
      case rel=>exact⟨j+1,_,rfl,by go_num,by omega,OJ.out.drew,by rw[FL.out];exact UJ.out.still ((Only.refl _ _).drew)⟩
      case measure=>simp[intOf];omega
    | true =>
     have FL:=hid (show (E.book.take (j+1)).filter (λx:Wt=>decide (x.r=a.a))=(E.book.take j).filter (λx:Wt=>decide (x.r=a.a))++[x] from by
      rw[TK.out,List.filter_append]
      have hne:x.r=a.a:=by simpa using he
      simp[hne])
     have FN:=hid (show ((E.book.take j).filter (λx:Wt=>decide (x.r=a.a))).length≤64 from by
      have h1:=List.length_filter_le (λx:Wt=>decide (x.r=a.a)) (E.book.take j)
      rw[List.length_take] at h1
      have:=BLE.out
      omega)
     go_upto_region 29 with fail
     go_region
     all_goals
      go_upto_region 30 with fail
      obtain⟨W5,hW5⟩:∃W,W=wr.drew:=⟨_,rfl⟩
      have o5:Only n_ wr W5:=by rw[hW5];exact (Only.refl _ _).drew
      have x0:=o5.cell CC.out.1 (λs=>s)
      have x1:=o5.cell CC.out.2 (λs=>s)
      rw[←hW5]
      clear hW5
      obtain⟨W9,hW9⟩:∃W,W=W5.alloc (.cells #[.int .i64 x.r,.int .i64 x.p] 36):=⟨_,rfl⟩
      have oa:Only n_ W5 W9:=by rw[hW9];exact (Only.refl _ _).alloc _
      have rf:Row W9 W5.heap.size 36 #[.int .i64 x.r,.int .i64 x.p]:=by rw[hW9];exact Row.fresh _ _ _
      have SR:=hid (show Src W9 (.slice (some ⟨W5.heap.size,0,none⟩) 1 1) 1 (Wt.cells x) from .inr ⟨_,1,rfl,λi y hj=>by
       rw[addL11,Nat.zero_add,rf.cell,List.getElem?_toArray]
       exact hj⟩)
      have O9:=hid ((OJ.out.same o5).same oa)
      have U9:=hid ((UJ.out.still o5).still oa)
      have fl:=FN.out
      have B9:=hid (show w8.heap.size≤W9.heap.size from O9.out.size)
      clear oa rf o5 c0 c1 z1
      go_wp2_with (at_builtin;go_loud (first | rw[←hW9] | skip);(refine wpList_append_src _ rfl (.tmp 144) (.tmp 149) 59 rfl w8.heap.size 36 i0 _ 2 16 underlying59 I0.out I1.out I2.out I3.out rfl (by decide) _ ((E.book.take j).filter (λx:Wt=>decide (x.r=a.a))).length (((E.book.take j).filter (λx:Wt=>decide (x.r=a.a))).flatMap Wt.cells) rfl U9.out _ 1 (Wt.cells x) rfl SR.out rfl (wt_one _) (by unfold maxLen;omega) (by omega) B9.out ?_))
      intro v' w10 hown hgrow hblk
      rw[←hW9] at hgrow
      have V10:=hid (show OwnsWt w10 w8.heap.size v' ((E.book.take (j+1)).filter (λx:Wt=>decide (x.r=a.a))) from by
       rw[FL.out]
       show Owns _ _ _ _ _ _ _
       unfold Owns
       rw[List.flatMap_append,List.length_append]
       simpa using hown)
      have O10:=hid (O9.out.trans (Only.of_grown hgrow) (λi hi q=>by have:=(U9.out.base_le q.symm).1;omega))
      clear hown hgrow hblk hW9 x0 x1
      go_wp2_with fail
      go_roundw
      case rel=>exact⟨j+1,v',rfl,by go_num,by omega,O10.out,V10.out⟩
      case measure=>simp[intOf];omega
   ·have t9:decide (j<nb)=false:=decide_eq_false hlj
    have UF:=hid (show OwnsWt wr w8.heap.size u (E.book.filter (λx:Wt=>decide (x.r=a.a))) from by have:=UJ.out;rwa [List.take_of_length_le (by rw[NB.out];omega)] at this)
    go_wp2_with fail
    exact Told.struck IV.out S.out ((L8.out.up (by omega) (by omega) fF fH).still OJ.out) (B8.out.still OJ.out) Z8.out (ReadsW.of_owns UF.out)
 ·have t8:(cq==0)=false:=by simpa using hc
  rw[if_neg hc] at S
  clear hc
  go_wp2_with fail
  go_loopw [10,20] (λv i wr=>v=.slice none 0 0∧i=.int .i64 0∧w8=wr) (λ_ _ _=>0)
  case atStart=>exact⟨rfl,rfl,rfl⟩
  case round =>
   obtain⟨rfl,rfl,rfl⟩:=hrel
   have t9:decide (0<nb)=true∨decide (0<nb)=false:=by cases decide (0<nb)<;>simp
   rcases t9 with t9 | t9
   all_goals
    go_wp2_with fail
    exact Told.struck IV.out S.out (L8.out.up (by omega) (by omega) fF fH) B8.out Z8.out (ReadsW.nil _)
theorem tells_finish {w0 w:World} {p ob ab:Nat} {c:Nat→Nat} {F H:Nat} {E:Eng} {a0:Opt} {a:ActF} {vb:Value} (L:Hid (LO w0 w p c F H E ob a0)) (HM:Hid a0.MayC) (WA:Hid a.Wf) (RA:Hid (Row w ab 38 #[.int .i64 a.kind,.int .i64 a.a,.int .i64 a.b,.int .u64 a.v,.int .i64 a.w.r,.int .i64 a.w.p,.bool a.well]∧c ab=0)) (BK:Hid (OwnsWt w w0.heap.size vb E.book)) (BZ:Hid (∀g,vb.ownBlock=some g→c g=0)) (fF:F+1000<100000000) (fH:H+2<1000000) (kk:a.kind=6) (cd:Code) (hcd:cd=codeAt Tryz.f5 2):SwAll w0 w p ob ab c F H a0 a vb cd:=by
 subst hcd
 unfold SwAll
 intros
 conv=>arg 2;whnf
 have IV:=hid L.out.le.inv
 obtain⟨z0,z1,z2,z3,z4,z5,z6⟩:=RA.out.1.seven
 have t0:(a.kind==0)=false:=by simp[kk]
 have t1:(a.kind==1)=false:=by simp[kk]
 have t4:(a.kind==4)=false:=by simp[kk]
 have t6:(a.kind==6)=true:=by simp[kk]
 have t7:(a.kind==7)=false:=by simp[kk]
 clear kk
 have CA:=lfinish a.a a.well L.out.le WA.out.a (by omega)
 unfold pT at CA
 have CA:=hid CA
 have NO:=hid (finish_o E a.a a.well)
 have S:=hid (finish_struck IV.out a.a a.well)
 have TLen:=hid (show ((E.finishO a.a a.well).flatMap (·.ws)).length≤64 from Nat.le_trans (S.out.nd.length_le_of_subset (λx hx=>S.out.sub x hx)) (book_le IV.out))
 go_wp2_with fail
 (with_reducible refine CA.out.mono ?_)
 rintro e w8 ⟨v8,qs,rfl,eqs,c8,h8,g8,oc8,o8⟩
 obtain⟨va,vk,rfl⟩:=owns_formQ oc8.own
 have L8:=hid (L.out.to h8 g8 o8 NO.out)
 have B8:=hid (BK.out.keep o8 (λg hg z=>z (BZ.out g hg)))
 have Z8:=hid (show ∀g,vb.ownBlock=some g→c8 g=0 from λg hg=>g8.zero (BZ.out g hg) (BK.out.base_le hg).2)
 have OC:=hid oc8
 have EQ:=hid eqs
 have WS:=hid (show ∀j,(qs.take j).flatMap (·.1.ws)=((E.finishO a.a a.well).take j).flatMap (·.ws) from λj=>by rw[←eqs,←List.map_take,List.flatMap_map])
 have FE:=hid (show qs.flatMap (·.1.ws)=(E.finishO a.a a.well).flatMap (·.ws) from by rw[←eqs,List.flatMap_map])
 obtain⟨qn,hqn⟩:∃n,qs.length=n:=⟨_,rfl⟩
 have QN:=hid hqn
 have q16:qn≤8:=by
  have e1:qn=(E.finishO a.a a.well).length:=by rw[←hqn,←eqs,List.length_map]
  rw[e1]
  unfold Eng.finishO
  cases q:at17 E.ms a.a with
  | none=>exact Nat.zero_le _
  | some m =>
   have hm:=(at17_some q).1
   have mo:=IV.out.mok m hm
   have o8':=IV.out.may
   unfold Opt.MayC at o8'
   have cl:∀(l:List Int) (E1:Eng),(E1.comes a.well l).2.length=l.length:=by
    intro l
    induction l with
    | nil=>intro E1;rfl
    | cons x r ih=>intro E1;show (_::_).length=_;rw[List.length_cons,List.length_cons];congr 1;exact ih _
   show ((E.home a.a).comes a.well m.ks).2.length≤8
   rw[cl]
   omega
 rw[hqn]
 clear oc8 eqs h8 g8 o8 CA hqn z0 z1 z2 z3 z4 z5 z6
 go_wp2_with fail
 go_loopw [10,23] (λv i wr=>∃(j:Nat) (u:Value),u=v∧i=.int .i64 j∧j≤qn∧Only n_ w8 wr∧OwnsWt wr w8.heap.size u ((qs.take j).flatMap (·.1.ws))) (λ_ i _=>qn-(intOf i).toNat)
 case atStart=>exact⟨0,_,rfl,rfl,Nat.zero_le _,Only.refl _ _,Owns.start _ _ _ _ _⟩
 case round =>
  obtain⟨j,u,rfl,rfl,hj,oj,uj⟩:=hrel
  have OJ:=hid oj
  have UJ:=hid uj
  clear oj uj
  by_cases hlj:j<qn
  ·have t9:decide (j<qn)=true:=decide_eq_true hlj
   obtain⟨q,hq⟩:∃q,qs[j]? = some q:=⟨_,List.getElem?_eq_getElem (by rw[QN.out];exact hlj)⟩
   obtain⟨gl,lc,el,_⟩:=OC.out.own.form (by intro e;rw[e] at hq;cases hq)
   simp only[Value.slice.injEq] at el
   obtain⟨rfl,en,rfl⟩:=el
   clear en
   have RD:=hid (OC.out.rd q (List.mem_of_getElem? hq))
   obtain⟨ra,rk,er⟩:=RD.out.len
   have c11:wr.cell? ⟨gl,j*12+11,none⟩=some (.slice ra q.1.ws.length rk):=by
    rw[←er]
    exact OJ.out.cell (Owns.cell OC.out.own ocC12 hq (j:=11) (by decide)) (λs=>s)
   have RW:=hid (show ReadsW wr (.slice ra q.1.ws.length rk) q.1.ws from by rw[←er];exact ReadsW.still RD.out.1 OJ.out)
   have TK:=hid (show (qs.take (j+1)).flatMap (·.1.ws)=(qs.take j).flatMap (·.1.ws)++q.1.ws from by rw[List.take_add_one,hq,List.flatMap_append];simp)
   have LN:=hid (show ((qs.take (j+1)).flatMap (·.1.ws)).length≤64 from by
    have h1:((qs.take (j+1)).flatMap (·.1.ws)).length≤(qs.flatMap (·.1.ws)).length:=by
     have e:qs.flatMap (·.1.ws)=(qs.take (j+1)).flatMap (·.1.ws)++(qs.drop (j+1)).flatMap (·.1.ws):=by rw[←List.flatMap_append,List.take_append_drop]
     rw[e,List.length_append]
     omega
    rw[FE.out] at h1
    exact Nat.le_trans h1 TLen.out)
   have hv:IntKind.i64.wrap ((j:Int)+1)=(j:Int)+1:=by rw[IntKind.wrap_i64];omega
   obtain⟨nw,hnw⟩:∃n,q.1.ws.length=n:=⟨_,rfl⟩
   have NW:=hid hnw
   rw[hnw] at c11
   have RW2:=hid (show ReadsW wr (.slice ra nw rk) q.1.ws from by rw[←hnw];exact RW.out)
   have LL:=hid (show ((qs.take j).flatMap (·.1.ws)).length+q.1.ws.length≤64 from by have:=LN.out;rw[TK.out,List.length_append] at this;exact this)
   have m1:((qs.take j).flatMap (·.1.ws)).length+q.1.ws.length≤maxLen:=by have:=LL.out;unfold maxLen;omega
   have m2:(((qs.take j).flatMap (·.1.ws)).length+q.1.ws.length)*16≤140737488355328:=by have:=LL.out;omega
   have M:=hid (And.intro m1 m2)
   have B9:=hid OJ.out.size
   clear hq er hnw m1 m2
   go_wp2_with (at_builtin;(refine wpList_append_rd _ rfl (.tmp 168) (.tmp 173) rfl w8.heap.size _ _ _ rfl UJ.out _ q.1.ws rfl RW2.out M.out.1 M.out.2 B9.out ?_))
   intro v' w10 hown hgrow hblk
   have V10:=hid (show OwnsWt w10 w8.heap.size v' ((qs.take (j+1)).flatMap (·.1.ws)) from by
    rw[TK.out]
    show Owns _ _ _ _ _ _ _
    unfold Owns
    rw[List.flatMap_append,List.length_append,List.length_flatMap,List.map_take]
    exact hown)
   have O10:=hid (OJ.out.trans (Only.of_grown hgrow) (λi hi q=>by have:=(UJ.out.base_le q.symm).1;omega))
   clear hown hgrow hblk c11
   go_wp2_with fail
   go_roundw
   case rel=>exact⟨j+1,v',rfl,by go_num,by omega,O10.out,V10.out⟩
   case measure=>simp[intOf];omega
  ·have t9:decide (j<qn)=false:=decide_eq_false hlj
   have UF:=hid (show OwnsWt wr w8.heap.size u ((E.finishO a.a a.well).flatMap (·.ws)) from by
    have:=UJ.out
    rwa [List.take_of_length_le (by rw[QN.out];omega),FE.out] at this)
   go_wp2_with fail
   exact Told.struck IV.out S.out ((L8.out.up (by omega) (by omega) fF fH).still OJ.out) (B8.out.still OJ.out) Z8.out (ReadsW.of_owns UF.out)
theorem tells_read {w0 w:World} {p ob ab:Nat} {c:Nat→Nat} {F H:Nat} {E:Eng} {a0:Opt} {a:ActF} {vb:Value} (L:Hid (LO w0 w p c F H E ob a0)) (HM:Hid a0.MayC) (WA:Hid a.Wf) (RA:Hid (Row w ab 38 #[.int .i64 a.kind,.int .i64 a.a,.int .i64 a.b,.int .u64 a.v,.int .i64 a.w.r,.int .i64 a.w.p,.bool a.well]∧c ab=0)) (BK:Hid (OwnsWt w w0.heap.size vb E.book)) (BZ:Hid (∀g,vb.ownBlock=some g→c g=0)) (fF:F+1000<100000000) (fH:H+2<1000000) (kk:a.kind=0) (cd:Code) (hcd:cd=codeAt Tryz.f5 2):SwAll w0 w p ob ab c F H a0 a vb cd:=by
 subst hcd
 unfold SwAll
 intros
 conv=>arg 2;whnf
 have IV:=hid L.out.le.inv
 obtain⟨z0,z1,z2,z3,z4,z5,z6⟩:=RA.out.1.seven
 have t0:(a.kind==0)=true:=by simp[kk]
 have t1:(a.kind==1)=false:=by simp[kk]
 have t4:(a.kind==4)=false:=by simp[kk]
 have t6:(a.kind==6)=false:=by simp[kk]
 have t7:(a.kind==7)=false:=by simp[kk]
 clear kk
 have CA:=lread a.a a.b a.w L.out.le WA.out.w (by omega) (by omega)
 unfold pT Wt.val readA at CA
 obtain⟨d0,d1,d2,d3,d4,d5,e0,e1,e2,hv⟩:=readV_is E a.a a.b a.w
 rw[hv] at CA
 generalize readJ E a.a a.b a.w=j1 at CA
 generalize readL E a.a a.b a.w=l1 at CA
 clear hv
 have CA:=hid CA
 have NO:=hid (read_o E a.a a.b a.w)
 have BO:=hid (read_book E a.a a.b a.w)
 have IV2:=hid (IV.out.read a.a a.b a.w)
 obtain⟨E2,hE2⟩:∃E',E.read a.a a.b a.w=E':=⟨_,rfl⟩
 obtain⟨cc,hcc⟩:∃x,E.readC a.a a.b a.w=x:=⟨_,rfl⟩
 rw[hcc] at CA BO
 rw[hE2] at CA BO NO IV2
 have bl:=book_le IV.out
 have BLE:=hid bl
 clear hcc hE2 bl
 go_wp2_with fail
 (with_reducible refine CA.out.mono ?_)
 rintro e w8 ⟨rfl,c8,h8,g8,_,o8⟩
 obtain⟨W9,hW9⟩:∃W,W=w8.alloc (.cells #[.int .i64 d0,.int .i64 d1,.int .i64 d2,.int .i64 d3,.int .i64 d4,.int .i64 d5,.bool e0,.bool e1,.bool e2] 54):=⟨_,rfl⟩
 have oa:Only n_ w8 W9:=by rw[hW9];exact (Only.refl _ _).alloc _
 have L9:=hid ((L.out.to h8 g8 o8 NO.out).still oa)
 have B9:=hid ((BK.out.keep o8 (λg hg z=>z (BZ.out g hg))).still oa)
 have Z9:=hid (show ∀g,vb.ownBlock=some g→c8 g=0 from λg hg=>g8.zero (BZ.out g hg) (BK.out.base_le hg).2)
 have RA9:=hid (still0 (kept g8 o8 RA.out) oa)
 clear h8 g8 o8 oa CA z0 z1 z2 z3 z4 z5 z6
 go_upto_region 18 with fail
 rw[←hW9]
 clear hW9
 by_cases hc:cc=0
 ·have t8:(cc==0)=true:=by simp[hc]
  rw[if_pos hc] at BO
  clear hc
  go_upto_region 19 with fail
  refine wp_of_postN (tells19 (l:=E.book) (x:=a.w) (ReadsW.of_owns B9.out) BLE.out (λW o=>(o.still RA9.out.1).cell 4) (λW o=>(o.still RA9.out.1).cell 5) _ (by kernel_rfl)) ?_
  rintro a' w10 ⟨v7,r87,r88,r89,r90,r91,r92,r93,rfl,ow,o10⟩
  (try simp only[Exit.then])
  have OW:=hid (show OwnsWt w10 w0.heap.size v7 E2.book from by rw[BO.out];exact ow.lower14 L9.out.le.only.size)
  have ZZ:=hid (show ∀g,v7.ownBlock=some g→c8 g=0 from λg hg=>Classical.byContradiction λq=>by have h1:=L9.out.le.lt g q;have h2:=(Owns.base_le ow hg).1;omega)
  have L10:=hid (L9.out.still o10)
  clear ow o10
  go_wp2_with fail
  exact Told.struck IV2.out (Struck.none rfl) (L10.out.up (by omega) (by omega) fF fH) OW.out ZZ.out (ReadsW.nil _)
 ·have t8:(cc==0)=false:=by simpa using hc
  rw[if_neg hc] at BO
  clear hc
  go_wp2_with fail
  exact Told.struck IV2.out (Struck.none rfl) (L9.out.up (by omega) (by omega) fF fH) (by rw[BO.out];exact B9.out) Z9.out (ReadsW.nil _)
theorem tells_write {w0 w:World} {p ob ab:Nat} {c:Nat→Nat} {F H:Nat} {E:Eng} {a0:Opt} {a:ActF} {vb:Value} (L:Hid (LO w0 w p c F H E ob a0)) (HM:Hid a0.MayC) (WA:Hid a.Wf) (RA:Hid (Row w ab 38 #[.int .i64 a.kind,.int .i64 a.a,.int .i64 a.b,.int .u64 a.v,.int .i64 a.w.r,.int .i64 a.w.p,.bool a.well]∧c ab=0)) (BK:Hid (OwnsWt w w0.heap.size vb E.book)) (BZ:Hid (∀g,vb.ownBlock=some g→c g=0)) (fF:F+1000<100000000) (fH:H+2<1000000) (kk:a.kind=1) (cd:Code) (hcd:cd=codeAt Tryz.f5 2):SwAll w0 w p ob ab c F H a0 a vb cd:=by
 subst hcd
 unfold SwAll
 intros
 conv=>arg 2;whnf
 have IV:=hid L.out.le.inv
 obtain⟨z0,z1,z2,z3,z4,z5,z6⟩:=RA.out.1.seven
 have t0:(a.kind==0)=false:=by simp[kk]
 have t1:(a.kind==1)=true:=by simp[kk]
 have t4:(a.kind==4)=false:=by simp[kk]
 have t6:(a.kind==6)=false:=by simp[kk]
 have t7:(a.kind==7)=false:=by simp[kk]
 clear kk
 have CA:=lwrite a.a a.v a.w L.out.le WA.out.w (by omega) (by omega)
 unfold pT Wt.val writeA at CA
 have hv:IsTk (if E.writeC a.a a.w=0 then (((E.writeB a.a).new 2 a.a).worth a.v).told ((E.write a.a a.v a.w).cnt (E.nt+1)) else noTk):=by
  split
  ·exact told_is _ _
  ·exact no_is
 obtain⟨d0,d1,d2,d3,d4,d5,e0,e1,e2,hv⟩:=hv
 rw[hv] at CA
 generalize (if E.writeC a.a a.w=0 then E.goneI a.a else 0)=j1 at CA
 clear hv
 have CA:=hid CA
 have NO:=hid (write_o E a.a a.v a.w)
 have BO:=hid (write_book E a.a a.v a.w)
 have IV2:=hid (IV.out.write a.a a.v a.w)
 obtain⟨E2,hE2⟩:∃E',E.write a.a a.v a.w=E':=⟨_,rfl⟩
 obtain⟨cc,hcc⟩:∃x,E.writeC a.a a.w=x:=⟨_,rfl⟩
 rw[hcc] at CA BO
 rw[hE2] at CA BO NO IV2
 have bl:=book_le IV.out
 have BLE:=hid bl
 clear hcc hE2 bl
 go_wp2_with fail
 (with_reducible refine CA.out.mono ?_)
 rintro e w8 ⟨rfl,c8,h8,g8,_,o8⟩
 obtain⟨W9,hW9⟩:∃W,W=w8.alloc (.cells #[.int .i64 d0,.int .i64 d1,.int .i64 d2,.int .i64 d3,.int .i64 d4,.int .i64 d5,.bool e0,.bool e1,.bool e2] 54):=⟨_,rfl⟩
 have oa:Only n_ w8 W9:=by rw[hW9];exact (Only.refl _ _).alloc _
 have L9:=hid ((L.out.to h8 g8 o8 NO.out).still oa)
 have B9:=hid ((BK.out.keep o8 (λg hg z=>z (BZ.out g hg))).still oa)
 have Z9:=hid (show ∀g,vb.ownBlock=some g→c8 g=0 from λg hg=>g8.zero (BZ.out g hg) (BK.out.base_le hg).2)
 have RA9:=hid (still0 (kept g8 o8 RA.out) oa)
 clear h8 g8 o8 oa CA z0 z1 z2 z3 z4 z5 z6
 go_upto_region 22 with fail
 rw[←hW9]
 clear hW9
 by_cases hc:cc=0
 ·have t8:(cc==0)=true:=by simp[hc]
  rw[if_pos hc] at BO
  clear hc
  go_upto_region 23 with fail
  refine wp_of_postN (tells23 (l:=E.book) (x:=a.w) (ReadsW.of_owns B9.out) BLE.out (λW o=>(o.still RA9.out.1).cell 4) (λW o=>(o.still RA9.out.1).cell 5) _ (by kernel_rfl)) ?_
  rintro a' w10 ⟨v7,r110,r111,r112,r113,r114,r115,r116,rfl,ow,o10⟩
  (try simp only[Exit.then])
  have OW:=hid (show OwnsWt w10 w0.heap.size v7 E2.book from by rw[BO.out];exact ow.lower14 L9.out.le.only.size)
  have ZZ:=hid (show ∀g,v7.ownBlock=some g→c8 g=0 from λg hg=>Classical.byContradiction λq=>by have h1:=L9.out.le.lt g q;have h2:=(Owns.base_le ow hg).1;omega)
  have L10:=hid (L9.out.still o10)
  clear ow o10
  go_wp2_with fail
  exact Told.struck IV2.out (Struck.none rfl) (L10.out.up (by omega) (by omega) fF fH) OW.out ZZ.out (ReadsW.nil _)
 ·have t8:(cc==0)=false:=by simpa using hc
  rw[if_neg hc] at BO
  clear hc
  go_wp2_with fail
  exact Told.struck IV2.out (Struck.none rfl) (L9.out.up (by omega) (by omega) fF fH) (by rw[BO.out];exact B9.out) Z9.out (ReadsW.nil _)
theorem tells_switch {w0 w:World} {p ob ab:Nat} {c:Nat→Nat} {F H:Nat} {E:Eng} {a0:Opt} {a:ActF} {vb:Value} (L:Hid (LO w0 w p c F H E ob a0)) (HM:Hid a0.MayC) (WA:Hid a.Wf) (RA:Hid (Row w ab 38 #[.int .i64 a.kind,.int .i64 a.a,.int .i64 a.b,.int .u64 a.v,.int .i64 a.w.r,.int .i64 a.w.p,.bool a.well]∧c ab=0)) (BK:Hid (OwnsWt w w0.heap.size vb E.book)) (BZ:Hid (∀g,vb.ownBlock=some g→c g=0)) (fF:F+1000<100000000) (fH:H+2<1000000) (cd:Code) (hcd:cd=codeAt Tryz.f5 2):SwAll w0 w p ob ab c F H a0 a vb cd:=by
 by_cases k0:a.kind=0
 ·exact tells_read L HM WA RA BK BZ fF fH k0 cd hcd
 by_cases k1:a.kind=1
 ·exact tells_write L HM WA RA BK BZ fF fH k1 cd hcd
 by_cases k4:a.kind=4
 ·exact tells_quit L HM WA RA BK BZ fF fH k4 cd hcd
 by_cases k6:a.kind=6
 ·exact tells_finish L HM WA RA BK BZ fF fH k6 cd hcd
 by_cases k7:a.kind=7
 ·exact tells_serve L HM WA RA BK BZ fF fH k7 cd hcd
 exact tells_other L HM WA RA BK BZ fF fH (by simpa using k0) (by simpa using k1) (by simpa using k4) (by simpa using k6) (by simpa using k7) cd hcd
end Go.Proofs.YtfbpjobobdidiaaGreatDoor
