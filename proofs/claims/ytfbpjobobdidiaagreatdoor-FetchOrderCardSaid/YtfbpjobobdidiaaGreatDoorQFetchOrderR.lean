/- Regions of FetchOrder as lemmas of their own. -/
import Derived.Test.YtfbpjobobdidiaaGreatDoorQLx16
import Derived.Test.YtfbpjobobdidiaaGreatDoorQOr16
namespace Go.Proofs.YtfbpjobobdidiaaGreatDoor
open Lib (hid)
open Go.RowKit
set_option linter.unusedVariables false
set_option maxRecDepth 100000
theorem rnewA (o:Opt) {w0 w:World} {p ob ab:Nat} {c:Nat→Nat} {F H:Nat} {E:Eng} {T:TypeId} {cs:Array Value} (h:LO w0 w p c F H E ob o) (ra:Row w ab T cs∧c ab=0):Calls Tryz.prog 13 #[.agg #[.int .i64 o.b0,.int .i64 o.b1,.int .i64 o.b2,.int .i64 o.b3,.int .i64 o.b4,.int .i64 o.b5,.int .i64 o.b6,.int .i64 o.b7,.int .i64 o.b8,.int .i64 o.b9,.int .i64 o.b10,.int .i64 o.b11,.int .i64 o.b12,.int .i64 o.b13]] w λe w'=>∃pr,e=.returned (.pointer (some ⟨pr,0,none⟩))∧LO w0 w' p c F H E ob o∧(Row w' ab T cs∧c ab=0)∧Em w' pr o∧w0.heap.size≤pr∧c pr=0∧pr≠ob∧pr≠ab∧w.heap.size≤pr∧Only none_ w w':=by
 refine (rnew16 o w).mono ?_
 rintro e w' ⟨pr,rfl,k1,k2,k3⟩
 have:=h.row.lt
 have:=ra.1.lt
 exact⟨pr,rfl,h.still k3,still0 ra k3,k2,Nat.le_trans h.le.only.size k1,Classical.byContradiction λq=>by have:=h.le.lt pr q;omega,by omega,by omega,k1,k3⟩
theorem lstepA (o:Opt) (a:ActF) (wa:a.Wf) {w0 w:World} {p pr ob ab:Nat} {c:Nat→Nat} {F H:Nat} {E:Eng} {T:TypeId} {cs:Array Value} (h:LO w0 w p c F H E ob o) (ra:Row w ab T cs∧c ab=0) (hr:Em w pr o) (hp:w0.heap.size≤pr) (hc:c pr=0) (hn:pr≠ob) (ha:pr≠ab) (hm:o.MayC) (hF:F+1000<100000000) (hH:H+2<1000000) :
  Calls Tryz.prog 12 #[.pointer (some ⟨p,0,none⟩),.pointer (some ⟨pr,0,none⟩),.agg #[.int .i64 a.kind,.int .i64 a.a,.int .i64 a.b,.int .u64 a.v,.int .i64 a.w.r,.int .i64 a.w.p,.bool a.well]] w λe w'=>(∃z,e=.returned (.bool z))∧∃c',LO w0 w' p c' (F+1000) (H+2) (E.act a) ob o∧(Row w' ab T cs∧c' ab=0)∧Gw w c c'∧Only (λg=>c g≠0∨g=pr) w w':=by
 refine (lstep o a wa h hr hp hc hn hm hF hH).mono ?_
 rintro e w' ⟨z,c',l1,l2,l3⟩
 refine⟨z,c',l1,⟨l3.row ra.1 (λs=>?_),l2.zero ra.2 ra.1.lt⟩,l2,l3⟩
 rcases s with s | s
 ·exact s ra.2
 ·exact ha s.symm
set_option maxHeartbeats 4000000 in
theorem order31 {w0 w:World} {p ob ab:Nat} {c:Nat→Nat} {F H:Nat} {E:Eng} {a0:Opt} {a:ActF} (L:LO w0 w p c F H E ob a0) (HM:a0.MayC) (WA:a.Wf) (RA:Row w ab 38 #[.int .i64 a.kind,.int .i64 a.a,.int .i64 a.b,.int .u64 a.v,.int .i64 a.w.r,.int .i64 a.w.p,.bool a.well]∧c ab=0) (fF:F+1000<100000000) (fH:H+2<1000000) (l:List Oper) (hl:l=opsAt Tryz.f4 31) (s0 s1 s3 s4 s6 s7 s8 s10 s11 s12 s13 s14 s15 s16 s17 s18 s19 s20 s21 s22 s23 s24 s25 s26 s27 s28 s29 s30 s31 s32 s33 s34 s35 s36 s37 s38 s39 s40 s41 s42 s43 s44 s45 s46 s47 s48 s49 s50 s51 s52 s53 s54 s55 s56 s57 s58 s59 s60 s61 s62 s63 s64 s65 s66 s67 s68 s69 s70 s71 s72 s73 s74 s75 s76 s77 s78 s79 s80 s81 s82 s83 s84 s85 s86 s87 s88 s89 s90 s91 s92 s93 s94 s95 s96 s97 s98 s99 s100 s101 s102 s103 s104 s105 s106 s107 s108 s109 s110 s111 s112 s113 s114 s115 s116 s117 s118 s119 s120 s121 s122 s123 s124 s125 s126 s127 s128 s129 s130 s131 s132 s133 s134 s135 s136 s137 s138 s139 s140 s141 s142 s143 s144 s145 s146:Value) :
  Code.wp Tryz.prog (Code.region 31 l.toArray true) (PostN λa' w'=>∃r142 r143 r144 r145 r146:Value,a'={ tmps:=List.toArray (s0::s1::.pointer (some ⟨ob,0,none⟩)::s3::s4::.pointer (some ⟨p,0,none⟩)::s6::s7::s8::.pointer (some ⟨ab,0,none⟩)::s10::s11::s12::s13::s14::s15::s16::s17::s18::s19::s20::s21::s22::s23::s24::s25::s26::s27::s28::s29::s30::s31::s32::s33::s34::s35::s36::s37::s38::s39::s40::s41::s42::s43::s44::s45::s46::s47::s48::s49::s50::s51::s52::s53::s54::s55::s56::s57::s58::s59::s60::s61::s62::s63::s64::s65::s66::s67::s68::s69::s70::s71::s72::s73::s74::s75::s76::s77::s78::s79::s80::s81::s82::s83::s84::s85::s86::s87::s88::s89::s90::s91::s92::s93::s94::s95::s96::s97::s98::s99::s100::s101::s102::s103::s104::s105::s106::s107::s108::s109::s110::s111::s112::s113::s114::s115::s116::s117::s118::s119::s120::s121::s122::s123::s124::s125::s126::s127::s128::s129::s130::s131::s132::s133::s134::s135::s136::s137::s138::s139::s140::s141::r142::r143::r144::r145::r146::[]),defers:=[] }∧∃(c':Nat→Nat) (pr:Nat),LO w0 w' p c' (F+1000) (H+2) (E.act a) ob a0∧w.heap.size≤pr∧Gw w c c'∧Only (λg=>c g≠0∨g=pr) w w') { tmps:=List.toArray (s0::s1::.pointer (some ⟨ob,0,none⟩)::s3::s4::.pointer (some ⟨p,0,none⟩)::s6::s7::s8::.pointer (some ⟨ab,0,none⟩)::s10::s11::s12::s13::s14::s15::s16::s17::s18::s19::s20::s21::s22::s23::s24::s25::s26::s27::s28::s29::s30::s31::s32::s33::s34::s35::s36::s37::s38::s39::s40::s41::s42::s43::s44::s45::s46::s47::s48::s49::s50::s51::s52::s53::s54::s55::s56::s57::s58::s59::s60::s61::s62::s63::s64::s65::s66::s67::s68::s69::s70::s71::s72::s73::s74::s75::s76::s77::s78::s79::s80::s81::s82::s83::s84::s85::s86::s87::s88::s89::s90::s91::s92::s93::s94::s95::s96::s97::s98::s99::s100::s101::s102::s103::s104::s105::s106::s107::s108::s109::s110::s111::s112::s113::s114::s115::s116::s117::s118::s119::s120::s121::s122::s123::s124::s125::s126::s127::s128::s129::s130::s131::s132::s133::s134::s135::s136::s137::s138::s139::s140::s141::s142::s143::s144::s145::s146::[]),defers:=[] } w:=by
 subst hl
 conv=>arg 2;arg 2;arg 1;whnf
 have LD:=hid (L.still ((Only.refl none_ w).drew))
 have AD:=hid (still0 RA ((Only.refl none_ w).drew))
 have KS:=hid (λ(w':World) (c':Nat→Nat) (F' H':Nat) (E':Eng) (h:LO w0 w' p c' F' H' E' ob a0) (r:Row w' ab 38 #[.int .i64 a.kind,.int .i64 a.a,.int .i64 a.b,.int .u64 a.v,.int .i64 a.w.r,.int .i64 a.w.p,.bool a.well]∧c' ab=0)=>(show w'.cell? ⟨ob,0,none⟩=some (.int .i64 a0.b0)∧w'.cell? ⟨ob,1,none⟩=some (.int .i64 a0.b1)∧w'.cell? ⟨ob,2,none⟩=some (.int .i64 a0.b2)∧w'.cell? ⟨ob,3,none⟩=some (.int .i64 a0.b3)∧w'.cell? ⟨ob,4,none⟩=some (.int .i64 a0.b4)∧w'.cell? ⟨ob,5,none⟩=some (.int .i64 a0.b5)∧w'.cell? ⟨ob,6,none⟩=some (.int .i64 a0.b6)∧w'.cell? ⟨ob,7,none⟩=some (.int .i64 a0.b7)∧w'.cell? ⟨ob,8,none⟩=some (.int .i64 a0.b8)∧w'.cell? ⟨ob,9,none⟩=some (.int .i64 a0.b9)∧w'.cell? ⟨ob,10,none⟩=some (.int .i64 a0.b10)∧w'.cell? ⟨ob,11,none⟩=some (.int .i64 a0.b11)∧w'.cell? ⟨ob,12,none⟩=some (.int .i64 a0.b12)∧w'.cell? ⟨ob,13,none⟩=some (.int .i64 a0.b13)∧w'.cell? ⟨ab,0,none⟩=some (.int .i64 a.kind)∧w'.cell? ⟨ab,1,none⟩=some (.int .i64 a.a)∧w'.cell? ⟨ab,2,none⟩=some (.int .i64 a.b)∧w'.cell? ⟨ab,3,none⟩=some (.int .u64 a.v)∧w'.cell? ⟨ab,4,none⟩=some (.int .i64 a.w.r)∧w'.cell? ⟨ab,5,none⟩=some (.int .i64 a.w.p)∧w'.cell? ⟨ab,6,none⟩=some (.bool a.well) from ⟨(fourteen h.row).1,(fourteen h.row).2.1,(fourteen h.row).2.2.1,(fourteen h.row).2.2.2.1,(fourteen h.row).2.2.2.2.1,(fourteen h.row).2.2.2.2.2.1,(fourteen h.row).2.2.2.2.2.2.1,(fourteen h.row).2.2.2.2.2.2.2.1,(fourteen h.row).2.2.2.2.2.2.2.2.1,(fourteen h.row).2.2.2.2.2.2.2.2.2.1,(fourteen h.row).2.2.2.2.2.2.2.2.2.2.1,(fourteen h.row).2.2.2.2.2.2.2.2.2.2.2.1,(fourteen h.row).2.2.2.2.2.2.2.2.2.2.2.2.1,(fourteen h.row).2.2.2.2.2.2.2.2.2.2.2.2.2,r.1.cell 0,r.1.cell 1,r.1.cell 2,r.1.cell 3,r.1.cell 4,r.1.cell 5,r.1.cell 6⟩))
 go_region_held3 (λw'=>w'.cell? ⟨ob,0,none⟩=some (.int .i64 a0.b0)∧w'.cell? ⟨ob,1,none⟩=some (.int .i64 a0.b1)∧w'.cell? ⟨ob,2,none⟩=some (.int .i64 a0.b2)∧w'.cell? ⟨ob,3,none⟩=some (.int .i64 a0.b3)∧w'.cell? ⟨ob,4,none⟩=some (.int .i64 a0.b4)∧w'.cell? ⟨ob,5,none⟩=some (.int .i64 a0.b5)∧w'.cell? ⟨ob,6,none⟩=some (.int .i64 a0.b6)∧w'.cell? ⟨ob,7,none⟩=some (.int .i64 a0.b7)∧w'.cell? ⟨ob,8,none⟩=some (.int .i64 a0.b8)∧w'.cell? ⟨ob,9,none⟩=some (.int .i64 a0.b9)∧w'.cell? ⟨ob,10,none⟩=some (.int .i64 a0.b10)∧w'.cell? ⟨ob,11,none⟩=some (.int .i64 a0.b11)∧w'.cell? ⟨ob,12,none⟩=some (.int .i64 a0.b12)∧w'.cell? ⟨ob,13,none⟩=some (.int .i64 a0.b13)∧w'.cell? ⟨ab,0,none⟩=some (.int .i64 a.kind)∧w'.cell? ⟨ab,1,none⟩=some (.int .i64 a.a)∧w'.cell? ⟨ab,2,none⟩=some (.int .i64 a.b)∧w'.cell? ⟨ab,3,none⟩=some (.int .u64 a.v)∧w'.cell? ⟨ab,4,none⟩=some (.int .i64 a.w.r)∧w'.cell? ⟨ab,5,none⟩=some (.int .i64 a.w.p)∧w'.cell? ⟨ab,6,none⟩=some (.bool a.well))
  (first
   | (with_reducible exact KS.out _ _ _ _ _ L6.out A6.out)
   | (with_reducible exact KS.out _ _ _ _ _ L5.out A5.out)
   | (with_reducible exact KS.out _ _ _ _ _ LD.out AD.out)
   | fail)
  (first
   | (go_at_call 13;(with_reducible refine (rnewA a0 LD.out AD.out).mono ?_);rintro e w5 ⟨pr,rfl,h5,a5,e5,s5,z5,n5,m5,p5,o5⟩;have L5:=hid h5;have A5:=hid a5;have E5:=hid e5;have O5:=hid o5)
   | (go_at_call 12;(with_reducible refine (lstepA a0 a WA L5.out A5.out E5.out s5 z5 n5 m5 HM fF fH).mono ?_);rintro e w6 ⟨⟨z6,rfl⟩,c6,h6,a6,g6,o6⟩;have L6:=hid h6;have A6:=hid a6;have G6:=hid g6;have O6:=hid o6)
   | fail)
 all_goals
  go_wp2_with fail
  exact⟨_,_,_,_,_,rfl,_,pr,L6.out,p5,λi hi=>(G6.out i hi).imp id (λq=>Nat.le_trans O5.out.size q),(((Only.refl (λg=>c g≠0∨g=pr) w).drew).idle O5.out).same O6.out⟩
def lasts (f:Int→Int):Array Value:=Array.ofFn (n:=256) λi=>.int .i64 (f (i.val:Int))
theorem lasts_size (f:Int→Int):(lasts f).size=256:=by simp[lasts]
theorem lasts_get (f:Int→Int) {i:Nat} (h:i<256):(lasts f)[i]? = some (.int .i64 (f (i:Int))):=by simp[lasts,h]
theorem lasts_put (f g:Int→Int) (x:Nat) (v:Int) (h:∀b:Int,g b=if b=x then v else f b):(lasts f).setIfInBounds x (.int .i64 v)=lasts g:=by
 apply Array.ext_getElem?
 intro i
 rw[Array.getElem?_setIfInBounds]
 by_cases k:i<256
 ·rw[lasts_get f k,lasts_get g k,h]
  by_cases e:x=i
  ·subst e
   rw[if_pos rfl,if_pos (by rw[lasts_size];exact k),if_pos rfl]
  ·rw[if_neg e,if_neg (by omega)]
 ·rw[Array.getElem?_eq_none (by rw[lasts_size];omega),Array.getElem?_eq_none (by rw[lasts_size];omega)]
  by_cases e:x=i
  ·subst e;rw[if_pos rfl,if_neg (by rw[lasts_size];exact k)]
  ·rw[if_neg e]
theorem goes_act {E:Eng} (h:Inv E) (a:ActF):Goes E (E.act a):=by
 unfold Eng.act
 repeat' split
 ·exact goes_read h _ _ _
 ·exact goes_write _ _ _ _
 ·exact goes_ahead _ _
 ·exact goes_cutE _ _
 ·exact goes_quit _ _
 ·exact goes_next _ _
 ·exact goes_finish _ _ _
 ·exact goes_serve _ _
 ·exact Goes.refl _
theorem last_up (m:Mv) (last:Int→Int) (j:Nat) {kj:Int} (h:m.ks[j]? = some kj) (b:Int):lastOf m last (j+1) b=if b=m.lo+j then kj else lastOf m last j b:=by
 unfold lastOf
 by_cases e:b=m.lo+j
 ·rw[if_pos e,if_pos (by omega),e,show (m.lo+(j:Int)-m.lo).toNat=j by omega,List.getD_eq_getElem?_getD,h]
  rfl
 ·rw[if_neg e]
  by_cases c:m.lo≤b∧b<m.lo+j
  ·rw[if_pos c,if_pos (by omega)]
  ·rw[if_neg c,if_neg (by omega)]
theorem info_lasts:(Tryz.prog.info? 56).map (λi=>(i.zero,i.size))=some (some (.agg (lasts (λ_=>0))),256):=by kernel_rfl
theorem zero_lasts (w:World):(zeroValue 56).run Tryz.prog w=.ok (.agg (lasts (λ_=>0))) w:=(zero_of_info info_lasts).1 w
end Go.Proofs.YtfbpjobobdidiaaGreatDoor
