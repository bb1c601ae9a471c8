/- Some of a row of waiters change places. -/
import Derived.Test.YtfbpjobobdidiaaGreatDoorRSo51
import Derived.Shelf.SlSortCmp.Xorshift
import Derived.Laws.Bits64b
import Derived.Deep.CutRange
import Derived.Deep.CutBlock
set_option maxRecDepth 100000
namespace Go.Proofs.YtfbpjobobdidiaaGreatDoor
open Lib (hid)
open Go.Proofs.Tryz
open Go.RowKit Go.Sort
set_option linter.unusedVariables false
theorem pow_len (l:Nat) (h:1≤l):1 <<< bitsLen l≤2*l∧1≤1 <<< bitsLen l:=by
 have e:1 <<< bitsLen l=2*2 ^ Nat.log2 l:=by
  unfold bitsLen
  rw[if_neg (by omega),Nat.one_shiftLeft,Nat.pow_succ,Nat.mul_comm]
 rw[e]
 have:=Nat.log2_self_le (n:=l) (by omega)
 have:=Nat.two_pow_pos (Nat.log2 l)
 omega
theorem next59 (rb X:Nat) (hX:X<18446744073709551616) (w:World) (h:Row w rb 249 #[.int .u64 X]) :
  Calls prog 184 #[.pointer (some ⟨rb,0,none⟩)] w λe w'=>∃X':Nat,e=.returned (.int .u64 X')∧X'<18446744073709551616∧Row w' rb 249 #[.int .u64 X']∧Only (λk=>k=rb) w w':=by
 refine (AnyF.xorshift_Next (P:=prog) (ρ:=Tryz.sortWt_ren) { Tryz.sortWt with } rb 0 X hX w (by rw[h.cell];rfl) (h.frozen 0)).mono ?_
 rintro e w' ⟨rfl,rfl⟩
 exact⟨_,rfl,xorNextN_lt X hX,(h.put 0 _).drewN 3,((Only.refl (λk=>k=rb) w).into rfl _ _).drewN 3⟩
theorem pow58 (l:Nat) (hl:l<4611686018427387904) (w:World) :
  Calls prog 183 #[.int .i64 l] w λe w'=>e=.returned (.int .u64 ((1 <<< bitsLen l:Nat):Int))∧w'=w:=
 AnyF.nextPowerOfTwo (P:=prog) (ρ:=Tryz.sortWt_ren) { Tryz.sortWt with } l hl w
set_option maxHeartbeats 4000000 in
theorem brk50 {w0:World} {g p n cap:Nat} (a b:Nat) (d:Array Wt) (w:World) (S:Sq w0 w g d) (hd:d.size=n) (hab:a+12<b) (hb:b≤n) (hn:n≤1000) :
  Calls prog 175 #[.slice (some ⟨g,0,none⟩) n cap,.int .i64 a,.int .i64 b,cmpV p] w λe w'=>e=.returned (.tuple #[])∧∃d',PermIn a b d d'∧Sq w0 w' g d':=by
 have HD:=hid hd
 have BB:=hid (show a<b∧b≤n from by omega)
 obtain⟨l,hl⟩:∃l,l=b-a:=⟨_,rfl⟩
 obtain⟨q,hq⟩:∃q,q=l / 4:=⟨_,rfl⟩
 obtain⟨i0,hi0⟩:∃i0,i0=a+q*2-1:=⟨_,rfl⟩
 obtain⟨m,hm⟩:∃m,m=1 <<< bitsLen l:=⟨_,rfl⟩
 have PL:=hid (show m≤2*l∧1≤m from by rw[hm];exact pow_len l (by omega))
 have PW:=hid (λ(w:World)=>show Calls prog 183 #[.int .i64 l] w (λe w'=>e=.returned (.int .u64 (m:Int))∧w'=w) from by rw[hm];exact pow58 l (by omega) w)
 clear hm
 have IQ:=hid (show a≤i0∧i0+2<b∧a+l=b∧13≤l∧l≤1000∧i0+1=a+q*2 from by omega)
 have v1:IntKind.i64.wrap ((b:Int)-(a:Int))=(l:Int):=by rw[IntKind.wrap_i64];omega
 have v1':IntKind.u64.wrap (l:Int)=(l:Int):=by rw[IntKind.wrap_u64];omega
 have v2:IntKind.i64.wrap ((l:Int).tdiv 4)=(q:Int):=by rw[show (l:Int).tdiv 4=(q:Int) from by rw[hq];rfl,IntKind.wrap_i64];omega
 have v2':IntKind.i64.wrap ((l:Int) / 4)=(q:Int):=by rw[show (l:Int) / 4=(q:Int) from by rw[hq];rfl,IntKind.wrap_i64];omega
 have v4:IntKind.i64.wrap ((q:Int)*2)=(q:Int)*2:=by rw[IntKind.wrap_i64];omega
 have v5:IntKind.i64.wrap ((a:Int)+(q:Int)*2)=((i0+1:Nat):Int):=by rw[IntKind.wrap_i64];omega
 have v6:IntKind.i64.wrap (((i0+1:Nat):Int)-1)=(i0:Int):=by rw[IntKind.wrap_i64];omega
 have v7:IntKind.i64.wrap (((i0+1:Nat):Int)+1)=((i0+2:Nat):Int):=by rw[IntKind.wrap_i64];omega
 have t8:decide ((8:Int)≤(l:Int))=true:=decide_eq_true (by omega)
 have v8:IntKind.u64.wrap ((m:Int)-1)=((m-1:Nat):Int):=by have:=PL.out;rw[IntKind.wrap_u64];omega
 obtain⟨ip,hip⟩:∃x,x=((i0+1:Nat):Int):=⟨_,rfl⟩
 obtain⟨iq,hiq⟩:∃x,x=((i0+2:Nat):Int):=⟨_,rfl⟩
 obtain⟨m1,hm1⟩:∃x,x=m-1:=⟨_,rfl⟩
 rw[←hip] at v5 v6 v7
 rw[←hiq] at v7
 rw[←hm1] at v8
 have EQ:=hid (show iq=(i0:Int)+2∧m1+1=m from by have:=PL.out;omega)
 have S1:=hid (S.still ((Only.refl n_ w).alloc (.cells #[.int .u64 l] 249)))
 have R1:=hid (Row.fresh w 249 #[.int .u64 l])
 have NE:=hid (show ¬w.heap.size=g from λe=>by have:=S.lt;omega)
 have W0S:=hid S.only.size
 clear S hd hl hq hi0 hip hiq hm1 hab
 unfold cmpV
 go_enter func175,ntmps175
 go_wp2_with fail
 (with_reducible refine (PW.out _).mono ?_)
 rintro e w1 ⟨rfl,rfl⟩
 go_wp2_with fail
 go_loopw [11] (λv wr=>∃(i X:Nat) (dk:Array Wt),v=.int .i64 (i:Int)∧i0≤i∧i≤i0+3∧dk.size=n∧Sq w0 wr g dk∧Row wr w.heap.size 249 #[.int .u64 X]∧X<18446744073709551616∧PermIn a b d dk) (λv _=>i0+3-(intOf v).toNat)
 case atStart=>exact⟨i0,l,d,rfl,Nat.le_refl _,Nat.le_add_right _ _,HD.out,S1.out,R1.out,by have:=IQ.out;omega,permIn_refl _ _ _⟩
 case round =>
  obtain⟨W0,rfl⟩:∃x:World,x=wr:=⟨_,rfl⟩
  obtain⟨i,X,dk,rfl,h1,h2,hsk,hS,hR,hX,hP⟩:=hrel
  have S2:=hid hS
  have K2:=hid hsk
  have R2:=hid hR
  have X2:=hid hX
  have P2:=hid hP
  clear hS hsk hR hX hP S1 R1 HD
  by_cases hi:i<i0+3
  ·have t1:decide ((i:Int)≤iq)=true:=decide_eq_true (by have:=EQ.out;omega)
   have NX:=hid (next59 w.heap.size X X2.out W0 R2.out)
   have v9:IntKind.i64.wrap ((i:Int)+1)=(i:Int)+1:=by have:=IQ.out;rw[IntKind.wrap_i64];omega
   have II:=hid (show i0≤i∧i<i0+3 from ⟨h1,hi⟩)
   have IN:=hid (show i<n from by have:=IQ.out;have:=BB.out;omega)
   have c1:(i:Int)<(n:Int):=by have:=IN.out;omega
   clear h1 h2 hi
   go_wp2_with fail
   (with_reducible refine NX.out.mono ?_)
   rintro e W1 ⟨X',rfl,xl,r3,o3⟩
   have XL:=hid xl
   have R3:=hid r3
   have S3:=hid (show Sq w0 W1 g dk from
    ⟨λk hk=>⟨o3.cell (S2.out.cell k hk).1 (λe=>NE.out e.symm),o3.cell (S2.out.cell k hk).2 (λe=>NE.out e.symm)⟩,λk=>by
     have:=o3.block g S2.out.lt (λe=>NE.out e.symm)
     unfold World.frozen?
     rw[this]
     exact S2.out.fz k,S2.out.ok,S2.out.only.trans o3 (λj hj e=>by have:=W0S.out;omega),Nat.lt_of_lt_of_le S2.out.lt o3.size⟩)
   obtain⟨r,hr⟩:∃r,r=X' &&& m1:=⟨_,rfl⟩
   have va:bits .and .u64 (X':Int) (m1:Int)=(r:Int):=by rw[hr];exact bits_and_u64_nat X' m1 xl (by have:=EQ.out;have:=PL.out;have:=IQ.out;omega)
   have RL:=hid (show r≤m1 from by rw[hr];exact Nat.and_le_right)
   have vb:IntKind.i64.wrap (r:Int)=(r:Int):=by have:=RL.out;have:=EQ.out;have:=PL.out;have:=IQ.out;rw[IntKind.wrap_i64];omega
   clear hr xl r3 o3 NX
   by_cases hrl:l≤r
   ·have t2:decide ((l:Int)≤(r:Int))=true:=decide_eq_true (by omega)
    have t2n:decide (l≤r)=true:=decide_eq_true hrl
    obtain⟨o,ho⟩:∃o,o=r-l:=⟨_,rfl⟩
    obtain⟨fo,hfo⟩:∃x,x=a+o:=⟨_,rfl⟩
    have vc:IntKind.i64.wrap ((r:Int)-(l:Int))=(o:Int):=by have:=RL.out;have:=EQ.out;have:=PL.out;have:=IQ.out;rw[IntKind.wrap_i64];omega
    have vd:IntKind.i64.wrap ((a:Int)+(o:Int))=(fo:Int):=by have:=RL.out;have:=EQ.out;have:=PL.out;have:=IQ.out;rw[IntKind.wrap_i64];omega
    have FE:=hid (show a≤fo∧fo<b from by have:=RL.out;have:=EQ.out;have:=PL.out;have:=IQ.out;omega)
    have FO:=hid (show fo<n from by have:=FE.out;have:=BB.out;omega)
    have c2:(fo:Int)<(n:Int):=by have:=FO.out;omega
    clear ho hfo hrl
    by_cases hs:fo=i
    ·rw[hs] at vd
     clear c2 FE FO hs
     obtain⟨xb,hxb⟩:∃x,dk[i]! = x:=⟨_,rfl⟩
     obtain⟨yb,hyb⟩:∃y,dk[i]! = y:=⟨_,rfl⟩
     have j1b:i<dk.size:=by rw[K2.out];exact IN.out
     have j2b:i<dk.size:=by rw[K2.out];exact IN.out
     have KSb:=hid (λ(w':World) (s:Sq w0 w' g dk)=>show (w'.cell? ⟨g,i*2,none⟩=some (.int .i64 xb.r)∧w'.cell? ⟨g,i*2+1,none⟩=some (.int .i64 xb.p))∧(w'.cell? ⟨g,i*2,none⟩=some (.int .i64 yb.r)∧w'.cell? ⟨g,i*2+1,none⟩=some (.int .i64 yb.p)) from
      ⟨by rw[←hxb];exact s.cell i j1b,by rw[←hyb];exact s.cell i j2b⟩)
     have DDb:=hid (S3.out.still ((Only.refl n_ W1).drew))
     obtain⟨⟨cx0b,cx1b⟩,cy0b,cy1b⟩:=KSb.out _ DDb.out
     have J1b:=hid j1b
     have J2b:=hid j2b
     have HXb:=hid hxb
     have HYb:=hid hyb
     clear j1b j2b hxb hyb
     obtain rfl:yb=xb:=HYb.out.symm.trans HXb.out
     have SW:=hid (S3.out.still ((Only.refl n_ W1).drew) |>.swap J1b.out J2b.out HXb.out HYb.out)
     obtain⟨⟨ex0b,ex1b⟩,ey0b,ey1b⟩:=KSb.out _ S3.out
     have fzb:∀k,W1.frozen? ⟨g,k,none⟩=false:=S3.out.fz
     go_wp2_with fail
     go_region
     all_goals (try go_wp2_with fail)
     all_goals clear ex0b ex1b ey0b ey1b fzb
     all_goals
      go_roundw
      case rel=>exact⟨i+1,X',swp dk i i,by go_num,by have:=II.out;omega,by have:=II.out;omega,by rw[size_swp];exact K2.out,SW.out,(R3.out.far (p:=⟨g,_,none⟩) (λe=>NE.out e) _).far (p:=⟨g,_,none⟩) (λe=>NE.out e) _ |>.far (p:=⟨g,_,none⟩) (λe=>NE.out e) _ |>.far (p:=⟨g,_,none⟩) (λe=>NE.out e) _,XL.out,permIn_trans _ _ _ _ _ P2.out (swp_permIn _ _ _ _ _ (by have:=II.out;have:=IQ.out;omega) (by have:=II.out;have:=IQ.out;omega) (by have:=II.out;have:=IQ.out;omega) (by have:=II.out;have:=IQ.out;omega) (by rw[K2.out];exact BB.out.2))⟩
      case measure=>have:=II.out;simp[intOf];omega
    ·have AP:¬ fo=i∧¬ i=fo:=⟨hs,λe=>hs e.symm⟩
     clear hs
     obtain⟨xb,hxb⟩:∃x,dk[i]! = x:=⟨_,rfl⟩
     obtain⟨yb,hyb⟩:∃y,dk[fo]! = y:=⟨_,rfl⟩
     have j1b:i<dk.size:=by rw[K2.out];exact IN.out
     have j2b:fo<dk.size:=by rw[K2.out];exact FO.out
     have KSb:=hid (λ(w':World) (s:Sq w0 w' g dk)=>show (w'.cell? ⟨g,i*2,none⟩=some (.int .i64 xb.r)∧w'.cell? ⟨g,i*2+1,none⟩=some (.int .i64 xb.p))∧(w'.cell? ⟨g,fo*2,none⟩=some (.int .i64 yb.r)∧w'.cell? ⟨g,fo*2+1,none⟩=some (.int .i64 yb.p)) from
      ⟨by rw[←hxb];exact s.cell i j1b,by rw[←hyb];exact s.cell fo j2b⟩)
     have DDb:=hid (S3.out.still ((Only.refl n_ W1).drew))
     obtain⟨⟨cx0b,cx1b⟩,cy0b,cy1b⟩:=KSb.out _ DDb.out
     have J1b:=hid j1b
     have J2b:=hid j2b
     have HXb:=hid hxb
     have HYb:=hid hyb
     clear j1b j2b hxb hyb
     have SW:=hid (S3.out.still ((Only.refl n_ W1).drew) |>.swap J1b.out J2b.out HXb.out HYb.out)
     obtain⟨⟨ex0b,ex1b⟩,ey0b,ey1b⟩:=KSb.out _ S3.out
     have fzb:∀k,W1.frozen? ⟨g,k,none⟩=false:=S3.out.fz
     have n1b:¬ i*2=fo*2:=by omega
     have n2b:¬ fo*2=i*2:=by omega
     go_wp2_with fail
     go_region
     all_goals (try go_wp2_with fail)
     all_goals clear ex0b ex1b ey0b ey1b fzb
     all_goals
      go_roundw
      case rel=>exact⟨i+1,X',swp dk i fo,by go_num,by have:=II.out;omega,by have:=II.out;omega,by rw[size_swp];exact K2.out,SW.out,(R3.out.far (p:=⟨g,_,none⟩) (λe=>NE.out e) _).far (p:=⟨g,_,none⟩) (λe=>NE.out e) _ |>.far (p:=⟨g,_,none⟩) (λe=>NE.out e) _ |>.far (p:=⟨g,_,none⟩) (λe=>NE.out e) _,XL.out,permIn_trans _ _ _ _ _ P2.out (swp_permIn _ _ _ _ _ (by have:=II.out;have:=IQ.out;omega) (by have:=II.out;have:=IQ.out;omega) (by have:=II.out;have:=IQ.out;have:=FE.out;omega) (by have:=II.out;have:=IQ.out;have:=FE.out;omega) (by rw[K2.out];exact BB.out.2))⟩
      case measure=>have:=II.out;simp[intOf];omega
   ·have t2:decide ((l:Int)≤(r:Int))=false:=decide_eq_false (by omega)
    have t2n:decide (l≤r)=false:=decide_eq_false hrl
    obtain⟨fo,hfo⟩:∃x,x=a+r:=⟨_,rfl⟩
    have vd:IntKind.i64.wrap ((a:Int)+(r:Int))=(fo:Int):=by have:=RL.out;have:=EQ.out;have:=PL.out;have:=IQ.out;rw[IntKind.wrap_i64];omega
    have FE:=hid (show a≤fo∧fo<b from by have:=RL.out;have:=EQ.out;have:=PL.out;have:=IQ.out;omega)
    have FO:=hid (show fo<n from by have:=FE.out;have:=BB.out;omega)
    have c2:(fo:Int)<(n:Int):=by have:=FO.out;omega
    clear hfo hrl
    by_cases hs:fo=i
    ·rw[hs] at vd
     clear c2 FE FO hs
     obtain⟨xb,hxb⟩:∃x,dk[i]! = x:=⟨_,rfl⟩
     obtain⟨yb,hyb⟩:∃y,dk[i]! = y:=⟨_,rfl⟩
     have j1b:i<dk.size:=by rw[K2.out];exact IN.out
     have j2b:i<dk.size:=by rw[K2.out];exact IN.out
     have KSb:=hid (λ(w':World) (s:Sq w0 w' g dk)=>show (w'.cell? ⟨g,i*2,none⟩=some (.int .i64 xb.r)∧w'.cell? ⟨g,i*2+1,none⟩=some (.int .i64 xb.p))∧(w'.cell? ⟨g,i*2,none⟩=some (.int .i64 yb.r)∧w'.cell? ⟨g,i*2+1,none⟩=some (.int .i64 yb.p)) from
      ⟨by rw[←hxb];exact s.cell i j1b,by rw[←hyb];exact s.cell i j2b⟩)
     have DDb:=hid (S3.out.still ((Only.refl n_ W1).drew))
     obtain⟨⟨cx0b,cx1b⟩,cy0b,cy1b⟩:=KSb.out _ DDb.out
     have J1b:=hid j1b
     have J2b:=hid j2b
     have HXb:=hid hxb
     have HYb:=hid hyb
     clear j1b j2b hxb hyb
     obtain rfl:yb=xb:=HYb.out.symm.trans HXb.out
     have SW:=hid (S3.out.still ((Only.refl n_ W1).drew) |>.swap J1b.out J2b.out HXb.out HYb.out)
     obtain⟨⟨ex0b,ex1b⟩,ey0b,ey1b⟩:=KSb.out _ S3.out
     have fzb:∀k,W1.frozen? ⟨g,k,none⟩=false:=S3.out.fz
     go_wp2_with fail
     go_region
     all_goals (try go_wp2_with fail)
     all_goals clear ex0b ex1b ey0b ey1b fzb
     all_goals
      go_roundw
      case rel=>exact⟨i+1,X',swp dk i i,by go_num,by have:=II.out;omega,by have:=II.out;omega,by rw[size_swp];exact K2.out,SW.out,(R3.out.far (p:=⟨g,_,none⟩) (λe=>NE.out e) _).far (p:=⟨g,_,none⟩) (λe=>NE.out e) _ |>.far (p:=⟨g,_,none⟩) (λe=>NE.out e) _ |>.far (p:=⟨g,_,none⟩) (λe=>NE.out e) _,XL.out,permIn_trans _ _ _ _ _ P2.out (swp_permIn _ _ _ _ _ (by have:=II.out;have:=IQ.out;omega) (by have:=II.out;have:=IQ.out;omega) (by have:=II.out;have:=IQ.out;omega) (by have:=II.out;have:=IQ.out;omega) (by rw[K2.out];exact BB.out.2))⟩
      case measure=>have:=II.out;simp[intOf];omega
    ·have AP:¬ fo=i∧¬ i=fo:=⟨hs,λe=>hs e.symm⟩
     clear hs
     obtain⟨xb,hxb⟩:∃x,dk[i]! = x:=⟨_,rfl⟩
     obtain⟨yb,hyb⟩:∃y,dk[fo]! = y:=⟨_,rfl⟩
     have j1b:i<dk.size:=by rw[K2.out];exact IN.out
     have j2b:fo<dk.size:=by rw[K2.out];exact FO.out
     have KSb:=hid (λ(w':World) (s:Sq w0 w' g dk)=>show (w'.cell? ⟨g,i*2,none⟩=some (.int .i64 xb.r)∧w'.cell? ⟨g,i*2+1,none⟩=some (.int .i64 xb.p))∧(w'.cell? ⟨g,fo*2,none⟩=some (.int .i64 yb.r)∧w'.cell? ⟨g,fo*2+1,none⟩=some (.int .i64 yb.p)) from
      ⟨by rw[←hxb];exact s.cell i j1b,by rw[←hyb];exact s.cell fo j2b⟩)
     have DDb:=hid (S3.out.still ((Only.refl n_ W1).drew))
     obtain⟨⟨cx0b,cx1b⟩,cy0b,cy1b⟩:=KSb.out _ DDb.out
     have J1b:=hid j1b
     have J2b:=hid j2b
     have HXb:=hid hxb
     have HYb:=hid hyb
     clear j1b j2b hxb hyb
     have SW:=hid (S3.out.still ((Only.refl n_ W1).drew) |>.swap J1b.out J2b.out HXb.out HYb.out)
     obtain⟨⟨ex0b,ex1b⟩,ey0b,ey1b⟩:=KSb.out _ S3.out
     have fzb:∀k,W1.frozen? ⟨g,k,none⟩=false:=S3.out.fz
     have n1b:¬ i*2=fo*2:=by omega
     have n2b:¬ fo*2=i*2:=by omega
     go_wp2_with fail
     go_region
     all_goals (try go_wp2_with fail)
     all_goals clear ex0b ex1b ey0b ey1b fzb
     all_goals
      go_roundw
      case rel=>exact⟨i+1,X',swp dk i fo,by go_num,by have:=II.out;omega,by have:=II.out;omega,by rw[size_swp];exact K2.out,SW.out,(R3.out.far (p:=⟨g,_,none⟩) (λe=>NE.out e) _).far (p:=⟨g,_,none⟩) (λe=>NE.out e) _ |>.far (p:=⟨g,_,none⟩) (λe=>NE.out e) _ |>.far (p:=⟨g,_,none⟩) (λe=>NE.out e) _,XL.out,permIn_trans _ _ _ _ _ P2.out (swp_permIn _ _ _ _ _ (by have:=II.out;have:=IQ.out;omega) (by have:=II.out;have:=IQ.out;omega) (by have:=II.out;have:=IQ.out;have:=FE.out;omega) (by have:=II.out;have:=IQ.out;have:=FE.out;omega) (by rw[K2.out];exact BB.out.2))⟩
      case measure=>have:=II.out;simp[intOf];omega
  ·have t1:decide ((i:Int)≤iq)=false:=decide_eq_false (by have:=EQ.out;omega)
   go_wp2_with fail
   go_end0
   exact⟨rfl,dk,P2.out,S2.out⟩
end Go.Proofs.YtfbpjobobdidiaaGreatDoor
