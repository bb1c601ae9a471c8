/- Regions of FetchDrains as lemmas of their own. -/
import Derived.Test.YtfbpjobobdidiaaGreatDoorQLx16
namespace Go.Proofs.YtfbpjobobdidiaaGreatDoor
open Lib (hid)
open Go.RowKit
set_option linter.unusedVariables false
set_option maxRecDepth 100000
set_option maxHeartbeats 4000000 in
theorem drains11 {w0 w:World} {p ob sb so len1 cap1 k:Nat} {c:Nat→Nat} {F H:Nat} {E:Eng} {a0:Opt} {a:ActF} (L:LO w0 w p c F H E ob a0) (HM:a0.MayC) (WA:a.Wf) (AC:Hid (∀w',Below w0.heap.size w0 w'→w'.cell? ⟨sb,so+k*7,none⟩=some (.int .i64 a.kind)∧w'.cell? ⟨sb,so+k*7+1,none⟩=some (.int .i64 a.a)∧w'.cell? ⟨sb,so+k*7+1+1,none⟩=some (.int .i64 a.b)∧w'.cell? ⟨sb,so+k*7+1+1+1,none⟩=some (.int .u64 a.v)∧w'.cell? ⟨sb,so+k*7+1+1+1+1,none⟩=some (.int .i64 a.w.r)∧w'.cell? ⟨sb,so+k*7+1+1+1+1+1,none⟩=some (.int .i64 a.w.p)∧w'.cell? ⟨sb,so+k*7+1+1+1+1+1+1,none⟩=some (.bool a.well))) (hlt:k<len1) (hk0:len1≤9223372036854775807) (fF:F+1000<100000000) (fH:H+2<1000000) (l:List Oper) (hl:l=opsAt Tryz.f6 11) (s0 s2 s4 s5 s6 s8 s10 s11 s12 s13 s14 s15 s16 s17 s18 s19 s20 s21 s22 s23 s24 s25 s26 s27 s28 s29 s30 s31 s32 s33 s34 s35 s36 s37 s38 s39 s40 s41 s42 s43 s44 s45 s46 s47 s48 s49 s50 s51 s52 s53 s54 s55 s56 s57 s58 s59 s60 s61 s62 s63 s64 s65 s66 s67 s68 s69 s70 s71 s72 s73 s74 s75 s76 s77 s78 s79 s80 s81 s82 s83 s84 s85 s86 s87 s88 s89 s90 s91 s92 s93 s94 s95 s96 s97 s98 s99 s100 s101 s102 s103 s104 s105 s106 s107 s108 s109 s110 s111 s112 s113 s114 s115 s116 s117 s118 s119 s120 s121 s122 s123 s124 s125 s126 s127 s128 s129 s130 s131 s132 s133 s134 s135 s136:Value) :
  Code.wp Tryz.prog (Code.region 11 l.toArray true) (PostN λa' w'=>∃r44 r45 r46 r47 r48 r49 r50 r51:Value,a'={ tmps:=List.toArray (s0::.slice (some ⟨sb,so,none⟩) len1 cap1::s2::.pointer (some ⟨ob,0,none⟩)::s4::s5::s6::.pointer (some ⟨p,0,none⟩)::s8::.int .i64 k::s10::s11::s12::s13::s14::s15::s16::s17::s18::s19::s20::s21::s22::s23::s24::s25::s26::s27::s28::s29::s30::s31::s32::s33::s34::s35::s36::s37::s38::s39::s40::s41::s42::s43::r44::r45::r46::r47::r48::r49::r50::r51::s52::s53::s54::s55::s56::s57::s58::s59::s60::s61::s62::s63::s64::s65::s66::s67::s68::s69::s70::s71::s72::s73::s74::s75::s76::s77::s78::s79::s80::s81::s82::s83::s84::s85::s86::s87::s88::s89::s90::s91::s92::s93::s94::s95::s96::s97::s98::s99::s100::s101::s102::s103::s104::s105::s106::s107::s108::s109::s110::s111::s112::s113::s114::s115::s116::s117::s118::s119::s120::s121::s122::s123::s124::s125::s126::s127::s128::s129::s130::s131::s132::s133::s134::s135::s136::[]),defers:=[] }∧∃c':Nat→Nat,LO w0 w' p c' (F+1000) (H+2) (E.act a) ob a0) { tmps:=List.toArray (s0::.slice (some ⟨sb,so,none⟩) len1 cap1::s2::.pointer (some ⟨ob,0,none⟩)::s4::s5::s6::.pointer (some ⟨p,0,none⟩)::s8::.int .i64 k::s10::s11::s12::s13::s14::s15::s16::s17::s18::s19::s20::s21::s22::s23::s24::s25::s26::s27::s28::s29::s30::s31::s32::s33::s34::s35::s36::s37::s38::s39::s40::s41::s42::s43::s44::s45::s46::s47::s48::s49::s50::s51::s52::s53::s54::s55::s56::s57::s58::s59::s60::s61::s62::s63::s64::s65::s66::s67::s68::s69::s70::s71::s72::s73::s74::s75::s76::s77::s78::s79::s80::s81::s82::s83::s84::s85::s86::s87::s88::s89::s90::s91::s92::s93::s94::s95::s96::s97::s98::s99::s100::s101::s102::s103::s104::s105::s106::s107::s108::s109::s110::s111::s112::s113::s114::s115::s116::s117::s118::s119::s120::s121::s122::s123::s124::s125::s126::s127::s128::s129::s130::s131::s132::s133::s134::s135::s136::[]),defers:=[] } w:=by
 subst hl
 conv=>arg 2;arg 2;arg 1;whnf
 have LD:=hid (L.still ((Only.refl none_ w).drew))
 have KS:=hid (λ(w':World) (c':Nat→Nat) (F' H':Nat) (E':Eng) (h:LO w0 w' p c' F' H' E' ob a0)=>(show w'.cell? ⟨ob,0,none⟩=some (.int .i64 a0.b0)∧w'.cell? ⟨ob,1,none⟩=some (.int .i64 a0.b1)∧w'.cell? ⟨ob,2,none⟩=some (.int .i64 a0.b2)∧w'.cell? ⟨ob,3,none⟩=some (.int .i64 a0.b3)∧w'.cell? ⟨ob,4,none⟩=some (.int .i64 a0.b4)∧w'.cell? ⟨ob,5,none⟩=some (.int .i64 a0.b5)∧w'.cell? ⟨ob,6,none⟩=some (.int .i64 a0.b6)∧w'.cell? ⟨ob,7,none⟩=some (.int .i64 a0.b7)∧w'.cell? ⟨ob,8,none⟩=some (.int .i64 a0.b8)∧w'.cell? ⟨ob,9,none⟩=some (.int .i64 a0.b9)∧w'.cell? ⟨ob,10,none⟩=some (.int .i64 a0.b10)∧w'.cell? ⟨ob,11,none⟩=some (.int .i64 a0.b11)∧w'.cell? ⟨ob,12,none⟩=some (.int .i64 a0.b12)∧w'.cell? ⟨ob,13,none⟩=some (.int .i64 a0.b13)∧w'.cell? ⟨sb,so+k*7,none⟩=some (.int .i64 a.kind)∧w'.cell? ⟨sb,so+k*7+1,none⟩=some (.int .i64 a.a)∧w'.cell? ⟨sb,so+k*7+1+1,none⟩=some (.int .i64 a.b)∧w'.cell? ⟨sb,so+k*7+1+1+1,none⟩=some (.int .u64 a.v)∧w'.cell? ⟨sb,so+k*7+1+1+1+1,none⟩=some (.int .i64 a.w.r)∧w'.cell? ⟨sb,so+k*7+1+1+1+1+1,none⟩=some (.int .i64 a.w.p)∧w'.cell? ⟨sb,so+k*7+1+1+1+1+1+1,none⟩=some (.bool a.well) from ⟨(fourteen h.row).1,(fourteen h.row).2.1,(fourteen h.row).2.2.1,(fourteen h.row).2.2.2.1,(fourteen h.row).2.2.2.2.1,(fourteen h.row).2.2.2.2.2.1,(fourteen h.row).2.2.2.2.2.2.1,(fourteen h.row).2.2.2.2.2.2.2.1,(fourteen h.row).2.2.2.2.2.2.2.2.1,(fourteen h.row).2.2.2.2.2.2.2.2.2.1,(fourteen h.row).2.2.2.2.2.2.2.2.2.2.1,(fourteen h.row).2.2.2.2.2.2.2.2.2.2.2.1,(fourteen h.row).2.2.2.2.2.2.2.2.2.2.2.2.1,(fourteen h.row).2.2.2.2.2.2.2.2.2.2.2.2.2,AC.out w' h.below⟩))
 have hlt':(k:Int)<(len1:Int):=by omega
 go_region_held3 (λw'=>w'.cell? ⟨ob,0,none⟩=some (.int .i64 a0.b0)∧w'.cell? ⟨ob,1,none⟩=some (.int .i64 a0.b1)∧w'.cell? ⟨ob,2,none⟩=some (.int .i64 a0.b2)∧w'.cell? ⟨ob,3,none⟩=some (.int .i64 a0.b3)∧w'.cell? ⟨ob,4,none⟩=some (.int .i64 a0.b4)∧w'.cell? ⟨ob,5,none⟩=some (.int .i64 a0.b5)∧w'.cell? ⟨ob,6,none⟩=some (.int .i64 a0.b6)∧w'.cell? ⟨ob,7,none⟩=some (.int .i64 a0.b7)∧w'.cell? ⟨ob,8,none⟩=some (.int .i64 a0.b8)∧w'.cell? ⟨ob,9,none⟩=some (.int .i64 a0.b9)∧w'.cell? ⟨ob,10,none⟩=some (.int .i64 a0.b10)∧w'.cell? ⟨ob,11,none⟩=some (.int .i64 a0.b11)∧w'.cell? ⟨ob,12,none⟩=some (.int .i64 a0.b12)∧w'.cell? ⟨ob,13,none⟩=some (.int .i64 a0.b13)∧w'.cell? ⟨sb,so+k*7,none⟩=some (.int .i64 a.kind)∧w'.cell? ⟨sb,so+k*7+1,none⟩=some (.int .i64 a.a)∧w'.cell? ⟨sb,so+k*7+1+1,none⟩=some (.int .i64 a.b)∧w'.cell? ⟨sb,so+k*7+1+1+1,none⟩=some (.int .u64 a.v)∧w'.cell? ⟨sb,so+k*7+1+1+1+1,none⟩=some (.int .i64 a.w.r)∧w'.cell? ⟨sb,so+k*7+1+1+1+1+1,none⟩=some (.int .i64 a.w.p)∧w'.cell? ⟨sb,so+k*7+1+1+1+1+1+1,none⟩=some (.bool a.well))
  (first
   | (with_reducible exact KS.out _ _ _ _ _ L6.out)
   | (with_reducible exact KS.out _ _ _ _ _ L5.out)
   | (with_reducible exact KS.out _ _ _ _ _ LD.out)
   | fail)
  (first
   | (go_at_call 13;(with_reducible refine (rnewS a0 LD.out).mono ?_);rintro e w5 ⟨pr,rfl,h5,e5,s5,z5,n5,_⟩;have L5:=hid h5;have E5:=hid e5)
   | (go_at_call 12;(with_reducible refine (lstep a0 a WA L5.out E5.out s5 z5 n5 HM fF fH).mono ?_);rintro e w6 ⟨⟨z6,rfl⟩,c6,h6,_,_⟩;have L6:=hid h6)
   | fail)
 all_goals
  go_wp2_with fail
  exact⟨_,_,_,_,_,_,_,_,rfl,_,L6.out⟩
theorem bound16_add (o:Opt) (l:List (Tk × Int)) (q:Tk × Int):bound16 o (l++[q])=bound16 o l+(1+(if 0<q.2 then o.b7-q.1.tries-1 else 0)):=by
 induction l with
 | nil=>show 1+_+0=0+(1+_);omega
 | cons a r ih=>show 1+_+bound16 o (r++[q])=1+_+bound16 o r+_;rw[ih];omega
theorem bound16_bd (o:Opt) (h8:o.b7≤8):∀l:List (Tk × Int),(∀q∈l,0≤q.1.tries∧q.1.tries<o.b7)→0≤bound16 o l∧bound16 o l≤8*l.length
 | [],_=>⟨Int.le_refl _,by show (0:Int)≤_;omega⟩
 | q::r,h=>by
  have h1:=h q (by simp)
  have h2:=bound16_bd o h8 r (λs hs=>h s (List.mem_cons_of_mem _ hs))
  rw[List.length_cons]
  show 0≤1+(if 0<q.2 then o.b7-q.1.tries-1 else 0)+bound16 o r∧1+(if 0<q.2 then o.b7-q.1.tries-1 else 0)+bound16 o r≤_
  split<;>omega
theorem bound16_all (E:Eng):bound16 E.o E.tells=E.mass:=bound_mass E E.ts
theorem lnext_b {w0 w:World} {p:Nat} {c:Nat→Nat} {F H:Nat} {E:Eng} (room:Int) (h:LEw w0 w p c F H E) (r9:-9223372036854775808≤room∧room≤9223372036854775807) (hF:F+1000<100000000) (hH:H+1<1000000) :
  Calls Tryz.prog 19 #[.pointer (some ⟨p,0,none⟩),.int .i64 room] w λe w'=>∃tg wrr lo nn q1 n1 k1 q2 n2 k2 q3 n3 k3 ad nd kd,e=.returned (.tuple #[.agg #[.int .i64 tg,.bool wrr,.int .i64 lo,.int .i64 nn,.slice q1 n1 k1,.slice q2 n2 k2,.slice q3 n3 k3],.slice ad nd kd,.bool (E.next room).2.2.isSome])∧LEto w0 w p c (F+1000) (H+1) (E.next room).1 (λ_=>False) w':=by
 rcases hq:(E.next room).2 with ⟨ds,om⟩
 cases om with
 | none =>
  refine (lnext_none h r9 hq hF hH).mono ?_
  rintro e w' ⟨dv,rfl,hd,hl⟩
  obtain⟨ad,kd,rfl⟩:=owns_form hd
  exact⟨_,_,_,_,_,_,_,_,_,_,_,_,_,_,_,_,rfl,hl⟩
 | some m =>
  refine (lnext_some h r9 hq hF hH).mono ?_
  rintro e w' ⟨a1,k1,a2,k2,a3,k3,dv,rfl,hd,_,c',l1,l2,_,l4⟩
  obtain⟨ad,kd,rfl⟩:=owns_form hd
  exact⟨_,_,_,_,_,_,_,_,_,_,_,_,_,_,_,_,rfl,c',l1,l2,(λ_ z=>z.elim),l4⟩
end Go.Proofs.YtfbpjobobdidiaaGreatDoor
