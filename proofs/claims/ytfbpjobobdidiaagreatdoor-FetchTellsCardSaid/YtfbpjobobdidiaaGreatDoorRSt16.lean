/- Tickets held against each other, whatever they are; what calls answer, told as tuples. -/
import Derived.Test.YtfbpjobobdidiaaGreatDoorRAw16
import Derived.Test.YtfbpjobobdidiaaGreatDoorRRw16
import Derived.Test.YtfbpjobobdidiaaGreatDoorRRv16
set_option maxHeartbeats 4000000
namespace Go.Proofs.YtfbpjobobdidiaaGreatDoor
open Go.Proofs.Tryz
open Go.RowKit Go.Maps
set_option linter.unusedVariables false
set_option maxRecDepth 100000
theorem eq_tk16 (a0 a1 a2 a3 a4 a5 c0 c1 c2 c3 c4 c5:Int) (a6 a7 a8 c6 c7 c8:Bool):∃z:Bool,∀w:World,(Op.equalIn 10000 54 (.agg #[.int .i64 a0,.int .i64 a1,.int .i64 a2,.int .i64 a3,.int .i64 a4,.int .i64 a5,.bool a6,.bool a7,.bool a8]) (.agg #[.int .i64 c0,.int .i64 c1,.int .i64 c2,.int .i64 c3,.int .i64 c4,.int .i64 c5,.bool c6,.bool c7,.bool c8])).run prog w=.ok z w:=by
 by_cases h0:a0=c0
 case neg=>exact⟨false,λw=>by simp[go_sem,h0]⟩
 subst h0
 by_cases h1:a1=c1
 case neg=>exact⟨false,λw=>by simp[go_sem,h1]⟩
 subst h1
 by_cases h2:a2=c2
 case neg=>exact⟨false,λw=>by simp[go_sem,h2]⟩
 subst h2
 by_cases h3:a3=c3
 case neg=>exact⟨false,λw=>by simp[go_sem,h3]⟩
 subst h3
 by_cases h4:a4=c4
 case neg=>exact⟨false,λw=>by simp[go_sem,h4]⟩
 subst h4
 by_cases h5:a5=c5
 case neg=>exact⟨false,λw=>by simp[go_sem,h5]⟩
 subst h5
 by_cases h6:a6=c6
 case neg=>exact⟨false,λw=>by simp[go_sem,h6]⟩
 subst h6
 by_cases h7:a7=c7
 case neg=>exact⟨false,λw=>by simp[go_sem,h7]⟩
 subst h7
 by_cases h8:a8=c8
 case neg=>exact⟨false,λw=>by simp[go_sem,h8]⟩
 subst h8
 exact⟨true,λw=>by simp[go_sem]⟩
theorem eq_lf16 (a0 a1 a2 a3 a4 a5 c0 c1 c2 c3 c4 c5:Int) (a6 a7 a8 a9 c6 c7 c8 c9:Bool):∃z:Bool,∀w:World,(Op.equalIn 10000 101 (.agg #[.int .i64 a0,.int .i64 a1,.int .i64 a2,.int .i64 a3,.int .i64 a4,.int .i64 a5,.bool a6,.bool a7,.bool a8,.bool a9]) (.agg #[.int .i64 c0,.int .i64 c1,.int .i64 c2,.int .i64 c3,.int .i64 c4,.int .i64 c5,.bool c6,.bool c7,.bool c8,.bool c9])).run prog w=.ok z w:=by
 by_cases h0:a0=c0
 case neg=>exact⟨false,λw=>by simp[go_sem,h0]⟩
 subst h0
 by_cases h1:a1=c1
 case neg=>exact⟨false,λw=>by simp[go_sem,h1]⟩
 subst h1
 by_cases h2:a2=c2
 case neg=>exact⟨false,λw=>by simp[go_sem,h2]⟩
 subst h2
 by_cases h3:a3=c3
 case neg=>exact⟨false,λw=>by simp[go_sem,h3]⟩
 subst h3
 by_cases h4:a4=c4
 case neg=>exact⟨false,λw=>by simp[go_sem,h4]⟩
 subst h4
 by_cases h5:a5=c5
 case neg=>exact⟨false,λw=>by simp[go_sem,h5]⟩
 subst h5
 by_cases h6:a6=c6
 case neg=>exact⟨false,λw=>by simp[go_sem,h6]⟩
 subst h6
 by_cases h7:a7=c7
 case neg=>exact⟨false,λw=>by simp[go_sem,h7]⟩
 subst h7
 by_cases h8:a8=c8
 case neg=>exact⟨false,λw=>by simp[go_sem,h8]⟩
 subst h8
 by_cases h9:a9=c9
 case neg=>exact⟨false,λw=>by simp[go_sem,h9]⟩
 subst h9
 exact⟨true,λw=>by simp[go_sem]⟩
def StTo (w0 w:World) (p pr:Nat) (c:Nat→Nat) (F H:Nat) (E':Eng) (w':World):Prop:=∃c',LEw w0 w' p c' F H E'∧Gw w c c'∧Only (λg=>c g≠0∨g=pr) w w'
theorem told_is (t:Tk) (n:Int):IsTk (t.told n):=⟨_,_,_,_,_,_,_,_,_,rfl⟩
theorem no_is:IsTk noTk:=⟨_,_,_,_,_,_,_,_,_,rfl⟩
theorem readV_is (E:Eng) (b l:Int) (x:Wt):IsTk (readV E b l x):=by
 unfold readV
 split
 ·exact told_is _ _
 ·exact no_is
theorem writeA_is (E:Eng) (b v:Int) (x:Wt):∃u g cc,writeA E b v x=.tuple #[u,.int .i64 g,.int .i64 cc]∧IsTk u:=by
 refine⟨_,_,_,rfl,?_⟩
 split
 ·exact told_is _ _
 ·exact no_is
theorem aheadA_is (E:Eng) (b:Int):∃u cc,aheadA E b=.tuple #[u,.int .i64 cc]∧IsTk u:=by
 refine⟨_,_,rfl,?_⟩
 split
 ·exact told_is _ _
 ·exact no_is
def IsLf (v:Value):Prop:=∃(a0 a1 a2 a3 a4 a5:Int) (b0 b1 b2 b3:Bool),v=.agg #[.int .i64 a0,.int .i64 a1,.int .i64 a2,.int .i64 a3,.int .i64 a4,.int .i64 a5,.bool b0,.bool b1,.bool b2,.bool b3]
theorem cutA_is (E:Eng) (b:Int):∃u z,cutA E b=.tuple #[u,.bool z]∧IsLf u:=by
 unfold cutA
 split
 ·exact⟨_,_,rfl,_,_,_,_,_,_,_,_,_,_,rfl⟩
 ·split
  ·exact⟨_,_,rfl,_,_,_,_,_,_,_,_,_,_,rfl⟩
  ·exact⟨_,_,rfl,_,_,_,_,_,_,_,_,_,_,rfl⟩
theorem serveT_is (E:Eng) (b:Int):IsTk (serveT E b):=by
 unfold serveT
 split
 ·exact told_is _ _
 ·exact no_is
theorem ten0 {w:World} {g:Nat} {t:TypeId} {a0 a1 a2 a3 a4 a5 a6 a7 a8 a9:Value} (h:Row w g t #[a0,a1,a2,a3,a4,a5,a6,a7,a8,a9]):w.cell? ⟨g,0,none⟩=some a0∧w.cell? ⟨g,1,none⟩=some a1∧w.cell? ⟨g,2,none⟩=some a2∧w.cell? ⟨g,3,none⟩=some a3∧w.cell? ⟨g,4,none⟩=some a4∧w.cell? ⟨g,5,none⟩=some a5∧w.cell? ⟨g,6,none⟩=some a6∧w.cell? ⟨g,7,none⟩=some a7∧w.cell? ⟨g,8,none⟩=some a8∧w.cell? ⟨g,9,none⟩=some a9:=
 ⟨h.cell 0,h.cell 1,h.cell 2,h.cell 3,h.cell 4,h.cell 5,h.cell 6,h.cell 7,h.cell 8,h.cell 9⟩
theorem LEw.pr {w0 w w':World} {p pr:Nat} {c:Nat→Nat} {F H:Nat} {E:Eng} (h:LEw w0 w p c F H E) (hc:c pr=0) (hp:w0.heap.size≤pr) (o:Only (λk=>k=pr) w w'):LEw w0 w' p c F H E:=h.keepN o (λg e=>by rw[e];exact⟨hc,hp⟩)
theorem StTo.make {w0 w w2 w3:World} {p pr:Nat} {c c2:Nat→Nat} {F H F' H':Nat} {E:Eng} (h:LEw w0 w3 p c2 F H E) (g:Gw w c c2) (o:Only (λg=>c g≠0) w w2) (o2:Only (λk=>k=pr) w2 w3) (k:F≤F') (k2:H≤H') (b:F'<100000000) (b2:H'<1000000):StTo w0 w p pr c F' H' E w3:=
 ⟨c2,h.up k k2 b b2,g,(o.more (λ_ _ e=>.inl e)).trans o2 (λi hi e=>.inr e)⟩
section
variable {w0 w w':World} {p:Nat} {c:Nat→Nat} {F H:Nat} {E:Eng}
theorem lnext_is (room:Int) (h:LEw w0 w p c F H E) (r9:-9223372036854775808≤room∧room≤9223372036854775807) (hF:F+1000<100000000) (hH:H+1<1000000) :
  Calls prog 19 #[.pointer (some ⟨p,0,none⟩),.int .i64 room] w λe w'=>∃tg wrr lo nn q1 n1 k1 q2 n2 k2 q3 n3 k3 ad nd kd j1,e=.returned (.tuple #[.agg #[.int .i64 tg,.bool wrr,.int .i64 lo,.int .i64 nn,.slice q1 n1 k1,.slice q2 n2 k2,.slice q3 n3 k3],.slice ad nd kd,.bool j1])∧LEto w0 w p c (F+1000) (H+1) (E.next room).1 (λ_=>False) w':=by
 rcases hq:(E.next room).2 with ⟨ds,om⟩
 cases om with
 | none =>
  refine (lnext_none h r9 hq hF hH).mono ?_
  rintro e w' ⟨dv,rfl,hd,hl⟩
  obtain⟨ad,kd,rfl⟩:=owns_form hd
  exact⟨_,_,_,_,_,_,_,_,_,_,_,_,_,_,_,_,_,rfl,hl⟩
 | some m =>
  refine (lnext_some h r9 hq hF hH).mono ?_
  rintro e w' ⟨a1,k1,a2,k2,a3,k3,dv,rfl,hd,_,c',l1,l2,_,l4⟩
  obtain⟨ad,kd,rfl⟩:=owns_form hd
  exact⟨_,_,_,_,_,_,_,_,_,_,_,_,_,_,_,_,_,rfl,c',l1,l2,(λ_ z=>z.elim),l4⟩
theorem lfinish_is (tag:Int) (well:Bool) (h:LEw w0 w p c F H E) (wt:(Lit.int .i64 tag).wf=true) (hF:F+300<100000000) :
  Calls prog 24 #[.pointer (some ⟨p,0,none⟩),.int .i64 tag,.bool well] w λe w'=>∃ad nd kd,e=.returned (.tuple #[.slice ad nd kd,.int .i64 (E.finishC tag)])∧∃c',LEw w0 w' p c' (F+300) H (E.finish tag well)∧Gw w c c'∧Only (λg=>c g≠0) w w':=by
 refine (lfinish tag well h wt hF).mono ?_
 rintro e w' ⟨v,qs,rfl,_,c',l1,l2,l3,l4⟩
 obtain⟨a,k,rfl⟩:=owns_formQ l3.own
 exact⟨_,_,_,rfl,c',l1,l2,l4⟩
theorem lserve_is (b:Int) (h:LEw w0 w p c F H E) (hF:F+10<100000000) (hH:H+2<1000000) :
  Calls prog 20 #[.pointer (some ⟨p,0,none⟩),.int .i64 b] w λe w'=>∃ad nd kd,e=.returned (.tuple #[serveT E b,.slice ad nd kd,.bool (serves (E.head b))])∧LEto w0 w p c (F+10) (H+2) (E.serve b) (λ_=>False) w':=by
 refine (lserve b h hF hH).mono ?_
 rintro e w' ⟨v,rfl,hd,hl⟩
 obtain⟨a,k,rfl⟩:=hd.len
 exact⟨_,_,_,rfl,hl⟩
end
end Go.Proofs.YtfbpjobobdidiaaGreatDoor
