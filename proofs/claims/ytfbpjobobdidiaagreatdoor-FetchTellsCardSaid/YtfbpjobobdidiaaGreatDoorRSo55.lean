/- A row of waiters is parted: who is less than the pivot, who is not. -/
import Derived.Test.YtfbpjobobdidiaaGreatDoorRSo54
set_option maxRecDepth 100000
namespace Go.Proofs.YtfbpjobobdidiaaGreatDoor
open Lib (hid)
open Go.Proofs.Tryz
open Go.RowKit Go.Sort
set_option linter.unusedVariables false
set_option maxHeartbeats 4000000 in
theorem par55 {κ:Wt→Int} {w0:World} {g p n cap:Nat} (LS:Less κ w0 g p) (a b pv:Nat) (d:Array Wt) (w:World) (S:Sq w0 w g d) (hd:d.size=n) (hap:a<pv) (hpb:pv<b) (hb:b≤n) (hn:n≤1000) :
  Calls prog 180 #[.slice (some ⟨g,0,none⟩) n cap,.int .i64 a,.int .i64 b,.int .i64 pv,cmpV p] w λe w'=>∃(m:Nat) (bp:Bool) (d':Array Wt),e=.returned (.tuple #[.int .i64 m,.bool bp])∧partition (klt κ) d a b pv=(m,bp,d')∧Sq w0 w' g d':=by
 have S0:=hid S
 have HL:=hid LS
 have K0:=hid hd
 have BB:=hid (show a<b∧b≤n∧n≤1000 from by omega)
 have AN:=hid (show a<n from by omega)
 have PN:=hid (show pv<n from by omega)
 have AB:=hid (show a+1<b from by omega)
 have ca:(a:Int)<(n:Int):=by omega
 have cp:(pv:Int)<(n:Int):=by omega
 obtain⟨i,hi⟩:∃i,i=a+1:=⟨_,rfl⟩
 obtain⟨j,hj⟩:∃j,j=b-1:=⟨_,rfl⟩
 have v1:IntKind.i64.wrap ((a:Int)+1)=(i:Int):=by rw[IntKind.wrap_i64];omega
 have v2:IntKind.i64.wrap ((b:Int)-1)=(j:Int):=by rw[IntKind.wrap_i64];omega
 have BND:=hid (show a<i∧i≤j+1∧j<b from by omega)
 have EI:=hid hi
 have EJ:=hid hj
 have AP:¬ a=pv∧¬ pv=a:=by omega
 clear S LS hd hb hn hpb hap hi hj
 unfold cmpV
 go_enter func180,ntmps180
 obtain⟨xz,hxz⟩:∃x,d[a]! = x:=⟨_,rfl⟩
 obtain⟨yz,hyz⟩:∃y,d[pv]! = y:=⟨_,rfl⟩
 have j1z:a<d.size:=by rw[K0.out];exact AN.out
 have j2z:pv<d.size:=by rw[K0.out];exact PN.out
 have KSz:=hid (λ(w':World) (s:Sq w0 w' g d)=>show (w'.cell? ⟨g,a*2,none⟩=some (.int .i64 xz.r)∧w'.cell? ⟨g,a*2+1,none⟩=some (.int .i64 xz.p))∧(w'.cell? ⟨g,pv*2,none⟩=some (.int .i64 yz.r)∧w'.cell? ⟨g,pv*2+1,none⟩=some (.int .i64 yz.p)) from
  ⟨by rw[←hxz];exact s.cell a j1z,by rw[←hyz];exact s.cell pv j2z⟩)
 have DDz:=hid (S0.out.still ((Only.refl n_ w).drew))
 obtain⟨⟨cx0z,cx1z⟩,cy0z,cy1z⟩:=KSz.out _ DDz.out
 have J1z:=hid j1z
 have J2z:=hid j2z
 have HXz:=hid hxz
 have HYz:=hid hyz
 clear j1z j2z hxz hyz
 have SW0:=hid (S0.out.still ((Only.refl n_ w).drew) |>.swap J1z.out J2z.out HXz.out HYz.out)
 obtain⟨⟨ex0z,ex1z⟩,ey0z,ey1z⟩:=KSz.out _ S0.out
 have fzz:∀k,w.frozen? ⟨g,k,none⟩=false:=S0.out.fz
 have n1z:¬ a*2=pv*2:=by omega
 have n2z:¬ pv*2=a*2:=by omega
 go_wp2_with fail
 go_region
 all_goals clear ex0z ex1z ey0z ey1z fzz
 all_goals
  obtain⟨dk,hd1⟩:∃x,x=swp d a pv:=⟨_,rfl⟩
  have K2:=hid (show dk.size=n from by rw[hd1,size_swp];exact K0.out)
  have ED:=hid hd1
  have S2':=hid (show Sq w0 _ g dk from by rw[hd1];exact SW0.out)
  clear hd1 SW0 S0 K0 cp PN AP
  have S2:=S2'
  clear S2'
  go_upto_block 0 with fail
  go_cut [12] (λv wx=>∃t:Nat,v=.int .i64 (t:Int)∧i≤t∧t≤j+1∧t=scanUp (λx=>klt κ x dk[a]!) dk j i∧Sq w0 wx g dk)
  case first =>
   go_wp2_with fail
   go_loopw [12] (λv wx=>∃t:Nat,v=.int .i64 (t:Int)∧i≤t∧t≤j+1∧scanUp (λx=>klt κ x dk[a]!) dk j t=scanUp (λx=>klt κ x dk[a]!) dk j i∧Sq w0 wx g dk) (λv _=>j+2-(intOf v).toNat)
   case atStart=>exact⟨i,rfl,Nat.le_refl _,by have:=BND.out;omega,rfl,S2.out⟩
   case round =>
    obtain⟨W1,rfl⟩:∃x:World,x=wr:=⟨_,rfl⟩
    obtain⟨t,rfl,ht1,ht2,hT,hS⟩:=hrel
    have T2:=hid hT
    have S3:=hid hS
    clear hT hS
    by_cases hij:t≤j
    ·have tt:decide ((t:Int)≤(j:Int))=true:=decide_eq_true (by omega)
     have tn:decide (t≤j)=true:=decide_eq_true hij
     have TT:=hid (And.intro hij (And.intro ht1 ht2))
     have TN:=hid (show t<n from by have:=BND.out;have:=BB.out;omega)
     have c1:(t:Int)<(n:Int):=by have:=TN.out;omega
     have vt:IntKind.i64.wrap ((t:Int)+1)=((t+1:Nat):Int):=by have:=BND.out;have:=BB.out;rw[IntKind.wrap_i64];omega
     clear hij ht1 ht2
     obtain⟨xs,hxs⟩:∃x,dk[t]! = x:=⟨_,rfl⟩
     obtain⟨ys,hys⟩:∃y,dk[a]! = y:=⟨_,rfl⟩
     have j1s:t<dk.size:=by rw[K2.out];exact TN.out
     have j2s:a<dk.size:=by rw[K2.out];exact AN.out
     have KSs:=hid (λ(w':World) (s:Sq w0 w' g dk)=>show (w'.cell? ⟨g,t*2,none⟩=some (.int .i64 xs.r)∧w'.cell? ⟨g,t*2+1,none⟩=some (.int .i64 xs.p))∧(w'.cell? ⟨g,a*2,none⟩=some (.int .i64 ys.r)∧w'.cell? ⟨g,a*2+1,none⟩=some (.int .i64 ys.p)) from
      ⟨by rw[←hxs];exact s.cell t j1s,by rw[←hys];exact s.cell a j2s⟩)
     have CLs:=hid (λ(w':World) (s:Sq w0 w' g dk)=>HL.out.at_ s (Only.refl n_ w') j1s j2s hxs hys)
     have DDs:=hid (S3.out.still ((Only.refl n_ W1).drew))
     obtain⟨⟨cx0s,cx1s⟩,cy0s,cy1s⟩:=KSs.out _ DDs.out
     have J1s:=hid j1s
     have J2s:=hid j2s
     have HXs:=hid hxs
     have HYs:=hid hys
     clear j1s j2s hxs hys
     by_cases hls:klt κ xs ys=true
     ·have ls:decide (kcmp κ xs ys<0)=true:=by rw[kcmp_lt];exact hls
      have HLTs:=hid hls
      clear hls
      go_wp2_with fail
      go_region_held3 (λw'=>(w'.cell? ⟨g,t*2,none⟩=some (.int .i64 xs.r)∧w'.cell? ⟨g,t*2+1,none⟩=some (.int .i64 xs.p))∧(w'.cell? ⟨g,a*2,none⟩=some (.int .i64 ys.r)∧w'.cell? ⟨g,a*2+1,none⟩=some (.int .i64 ys.p)))
       (first
        | (with_reducible exact KSs.out _ QT.out)
        | (with_reducible exact KSs.out _ DDs.out)
        | fail)
       (first
        | (go_at_call 123;(with_reducible refine (CLs.out _ DDs.out).mono ?_);rintro e u1 ⟨rfl,os⟩;have QT:=hid (DDs.out.still os);clear os)
        | fail)
      clear cx0s cx1s cy0s cy1s
      go_wp2_with fail
      go_roundw
      case rel=>exact⟨t+1,rfl,by have:=TT.out;omega,by have:=TT.out;omega,by rw[←T2.out,scanUp_go (λx=>klt κ x dk[a]!) dk j t TT.out.1 (by show klt κ _ _=true;rw[HXs.out,HYs.out,HLTs.out])],QT.out⟩
      case measure=>have:=TT.out;have:=BND.out;simp[intOf];omega
     ·have hls:klt κ xs ys=false:=by simpa using hls
      have ls:decide (kcmp κ xs ys<0)=false:=by rw[kcmp_lt];exact hls
      have HLTs:=hid hls
      clear hls
      go_wp2_with fail
      go_region_held3 (λw'=>(w'.cell? ⟨g,t*2,none⟩=some (.int .i64 xs.r)∧w'.cell? ⟨g,t*2+1,none⟩=some (.int .i64 xs.p))∧(w'.cell? ⟨g,a*2,none⟩=some (.int .i64 ys.r)∧w'.cell? ⟨g,a*2+1,none⟩=some (.int .i64 ys.p)))
       (first
        | (with_reducible exact KSs.out _ QT.out)
        | (with_reducible exact KSs.out _ DDs.out)
        | fail)
       (first
        | (go_at_call 123;(with_reducible refine (CLs.out _ DDs.out).mono ?_);rintro e u1 ⟨rfl,os⟩;have QT:=hid (DDs.out.still os);clear os)
        | fail)
      clear cx0s cx1s cy0s cy1s
      go_wp2_with fail
      go_meet
      exact⟨t,rfl,TT.out.2.1,TT.out.2.2,by rw[←T2.out,scanUp_end (λx=>klt κ x dk[a]!) dk j t (.inr (by show klt κ _ _=false;rw[HXs.out,HYs.out,HLTs.out]))],QT.out⟩
    ·have tt:decide ((t:Int)≤(j:Int))=false:=decide_eq_false (by omega)
     have tn:decide (t≤j)=false:=decide_eq_false hij
     have TT:=hid (And.intro ht1 ht2)
     have TE:=hid (scanUp_end (λx=>klt κ x dk[a]!) dk j t (.inl hij))
     clear hij ht1 ht2
     go_wp2_with fail
     go_quiet (fail)
     go_wp2_with fail
     go_meet
     exact⟨t,rfl,TT.out.1,TT.out.2,by rw[←T2.out,TE.out],S3.out.drewN _⟩
  case rest =>
   obtain⟨i2,rfl,hi1,hi2,hI,hS⟩:=hcut
   have BND0:=BND
   have E1:=hid hI
   have S4:=hid hS
   have H1:=hid (And.intro hi1 hi2)
   clear hI hS S2 hi1 hi2
   obtain⟨W0,rfl⟩:∃x:World,x=wc:=⟨_,rfl⟩
   replace BND:=hid (show a<i2∧i2≤j+1∧j<b from by have:=BND0.out;have:=H1.out;omega)
   go_upto_block 2 with fail
   go_cut [13] (λv wx=>∃t:Nat,v=.int .i64 (t:Int)∧i2≤t+1∧t≤j∧t=scanDown (λx=>!klt κ x dk[a]!) dk i2 j∧Sq w0 wx g dk)
   case first =>
    go_wp2_with fail
    go_loopw [13] (λv wx=>∃t:Nat,v=.int .i64 (t:Int)∧i2≤t+1∧t≤j∧scanDown (λx=>!klt κ x dk[a]!) dk i2 t=scanDown (λx=>!klt κ x dk[a]!) dk i2 j∧Sq w0 wx g dk) (λv _=>(intOf v).toNat)
    case atStart=>exact⟨j,rfl,by have:=BND.out;omega,Nat.le_refl _,rfl,S4.out⟩
    case round =>
     obtain⟨W1,rfl⟩:∃x:World,x=wr:=⟨_,rfl⟩
     obtain⟨t,rfl,ht1,ht2,hT,hS⟩:=hrel
     have T2:=hid hT
     have S3:=hid hS
     clear hT hS
     by_cases hij:i2≤t
     ·have tt:decide ((i2:Int)≤(t:Int))=true:=decide_eq_true (by omega)
      have tn:decide (i2≤t)=true:=decide_eq_true hij
      have TT:=hid (And.intro hij (And.intro ht1 ht2))
      have TN:=hid (show t<n from by have:=BND.out;have:=BB.out;omega)
      have c1:(t:Int)<(n:Int):=by have:=TN.out;omega
      have vt:IntKind.i64.wrap ((t:Int)-1)=((t-1:Nat):Int):=by have:=BND.out;have:=BB.out;rw[IntKind.wrap_i64];omega
      clear hij ht1 ht2
      obtain⟨xs,hxs⟩:∃x,dk[t]! = x:=⟨_,rfl⟩
      obtain⟨ys,hys⟩:∃y,dk[a]! = y:=⟨_,rfl⟩
      have j1s:t<dk.size:=by rw[K2.out];exact TN.out
      have j2s:a<dk.size:=by rw[K2.out];exact AN.out
      have KSs:=hid (λ(w':World) (s:Sq w0 w' g dk)=>show (w'.cell? ⟨g,t*2,none⟩=some (.int .i64 xs.r)∧w'.cell? ⟨g,t*2+1,none⟩=some (.int .i64 xs.p))∧(w'.cell? ⟨g,a*2,none⟩=some (.int .i64 ys.r)∧w'.cell? ⟨g,a*2+1,none⟩=some (.int .i64 ys.p)) from
       ⟨by rw[←hxs];exact s.cell t j1s,by rw[←hys];exact s.cell a j2s⟩)
      have CLs:=hid (λ(w':World) (s:Sq w0 w' g dk)=>HL.out.at_ s (Only.refl n_ w') j1s j2s hxs hys)
      have DDs:=hid (S3.out.still ((Only.refl n_ W1).drew))
      obtain⟨⟨cx0s,cx1s⟩,cy0s,cy1s⟩:=KSs.out _ DDs.out
      have J1s:=hid j1s
      have J2s:=hid j2s
      have HXs:=hid hxs
      have HYs:=hid hys
      clear j1s j2s hxs hys
      by_cases hls:klt κ xs ys=true
      ·have ls:decide (kcmp κ xs ys<0)=true:=by rw[kcmp_lt];exact hls
       have HLTs:=hid hls
       clear hls
       go_wp2_with fail
       go_region_held3 (λw'=>(w'.cell? ⟨g,t*2,none⟩=some (.int .i64 xs.r)∧w'.cell? ⟨g,t*2+1,none⟩=some (.int .i64 xs.p))∧(w'.cell? ⟨g,a*2,none⟩=some (.int .i64 ys.r)∧w'.cell? ⟨g,a*2+1,none⟩=some (.int .i64 ys.p)))
        (first
         | (with_reducible exact KSs.out _ QT.out)
         | (with_reducible exact KSs.out _ DDs.out)
         | fail)
        (first
         | (go_at_call 123;(with_reducible refine (CLs.out _ DDs.out).mono ?_);rintro e u1 ⟨rfl,os⟩;have QT:=hid (DDs.out.still os);clear os)
         | fail)
       clear cx0s cx1s cy0s cy1s
       go_wp2_with fail
       go_meet
       exact⟨t,rfl,TT.out.2.1,TT.out.2.2,by rw[←T2.out,scanDown_end (λx=>!klt κ x dk[a]!) dk i2 t (.inr (by show (!(klt κ _ _))=false;rw[HXs.out,HYs.out,HLTs.out];rfl))],QT.out⟩
      ·have hls:klt κ xs ys=false:=by simpa using hls
       have ls:decide (kcmp κ xs ys<0)=false:=by rw[kcmp_lt];exact hls
       have HLTs:=hid hls
       clear hls
       go_wp2_with fail
       go_region_held3 (λw'=>(w'.cell? ⟨g,t*2,none⟩=some (.int .i64 xs.r)∧w'.cell? ⟨g,t*2+1,none⟩=some (.int .i64 xs.p))∧(w'.cell? ⟨g,a*2,none⟩=some (.int .i64 ys.r)∧w'.cell? ⟨g,a*2+1,none⟩=some (.int .i64 ys.p)))
        (first
         | (with_reducible exact KSs.out _ QT.out)
         | (with_reducible exact KSs.out _ DDs.out)
         | fail)
        (first
         | (go_at_call 123;(with_reducible refine (CLs.out _ DDs.out).mono ?_);rintro e u1 ⟨rfl,os⟩;have QT:=hid (DDs.out.still os);clear os)
         | fail)
       clear cx0s cx1s cy0s cy1s
       go_wp2_with fail
       go_roundw
       case rel=>exact⟨t-1,rfl,by have:=TT.out;omega,by have:=TT.out;omega,by rw[←T2.out,scanDown_go (λx=>!klt κ x dk[a]!) dk i2 t TT.out.1 (by have:=TT.out;have:=BND.out;omega) (by show (!(klt κ _ _))=true;rw[HXs.out,HYs.out,HLTs.out];rfl)],QT.out⟩
       case measure=>have:=TT.out;have:=BND.out;simp[intOf];omega
     ·have tt:decide ((i2:Int)≤(t:Int))=false:=decide_eq_false (by omega)
      have tn:decide (i2≤t)=false:=decide_eq_false hij
      have TT:=hid (And.intro ht1 ht2)
      have TE:=hid (scanDown_end (λx=>!klt κ x dk[a]!) dk i2 t (.inl hij))
      clear hij ht1 ht2
      go_wp2_with fail
      go_quiet (fail)
      go_wp2_with fail
      go_meet
      exact⟨t,rfl,TT.out.1,TT.out.2,by rw[←T2.out,TE.out],S3.out.drewN _⟩
   case rest =>
    obtain⟨j2,rfl,hj1,hj2,hJ,hS⟩:=hcut
    have E2:=hid hJ
    have S5:=hid hS
    have H2:=hid (And.intro hj1 hj2)
    clear hJ hS S4 hj1 hj2
    obtain⟨W0,rfl⟩:∃x:World,x=wc:=⟨_,rfl⟩
    by_cases hij:j2<i2
    ·have t1:decide ((j2:Int)<(i2:Int))=true:=decide_eq_true (by omega)
     have t1n:decide (j2<i2)=true:=decide_eq_true hij
     have JN:=hid (show j2<n from by have:=H2.out;have:=BND.out;have:=BB.out;omega)
     have c3:(j2:Int)<(n:Int):=by have:=JN.out;omega
     have EB:=hid (part_first_break (lt:=klt κ) d a b pv EI.out EJ.out ED.out E1.out E2.out hij)
     clear hij
     by_cases hja:j2=a
     ·obtain rfl:a=j2:=hja.symm
      obtain⟨xf,hxf⟩:∃x,dk[a]! = x:=⟨_,rfl⟩
      obtain⟨yf,hyf⟩:∃y,dk[a]! = y:=⟨_,rfl⟩
      have j1f:a<dk.size:=by rw[K2.out];exact AN.out
      have j2f:a<dk.size:=by rw[K2.out];exact AN.out
      have KSf:=hid (λ(w':World) (s:Sq w0 w' g dk)=>show (w'.cell? ⟨g,a*2,none⟩=some (.int .i64 xf.r)∧w'.cell? ⟨g,a*2+1,none⟩=some (.int .i64 xf.p))∧(w'.cell? ⟨g,a*2,none⟩=some (.int .i64 yf.r)∧w'.cell? ⟨g,a*2+1,none⟩=some (.int .i64 yf.p)) from
       ⟨by rw[←hxf];exact s.cell a j1f,by rw[←hyf];exact s.cell a j2f⟩)
      have DDf:=hid (S5.out.still ((Only.refl n_ W0).drew))
      obtain⟨⟨cx0f,cx1f⟩,cy0f,cy1f⟩:=KSf.out _ DDf.out
      have J1f:=hid j1f
      have J2f:=hid j2f
      have HXf:=hid hxf
      have HYf:=hid hyf
      clear j1f j2f hxf hyf
      obtain rfl:yf=xf:=HYf.out.symm.trans HXf.out
      have SF:=hid (S5.out.still ((Only.refl n_ W0).drew) |>.swap J1f.out J2f.out HXf.out HYf.out)
      obtain⟨⟨ex0f,ex1f⟩,ey0f,ey1f⟩:=KSf.out _ S5.out
      have fzf:∀k,W0.frozen? ⟨g,k,none⟩=false:=S5.out.fz
      go_wp2_with fail
      go_region
      all_goals (try go_wp2_with fail)
      all_goals clear ex0f ex1f ey0f ey1f fzf
      all_goals
       go_ret2
       exact⟨_,true,_,rfl,EB.out,SF.out⟩
     ·have APJ:¬ j2=a∧¬ a=j2:=⟨hja,λe=>hja e.symm⟩
      clear hja
      obtain⟨xf,hxf⟩:∃x,dk[j2]! = x:=⟨_,rfl⟩
      obtain⟨yf,hyf⟩:∃y,dk[a]! = y:=⟨_,rfl⟩
      have j1f:j2<dk.size:=by rw[K2.out];exact JN.out
      have j2f:a<dk.size:=by rw[K2.out];exact AN.out
      have KSf:=hid (λ(w':World) (s:Sq w0 w' g dk)=>show (w'.cell? ⟨g,j2*2,none⟩=some (.int .i64 xf.r)∧w'.cell? ⟨g,j2*2+1,none⟩=some (.int .i64 xf.p))∧(w'.cell? ⟨g,a*2,none⟩=some (.int .i64 yf.r)∧w'.cell? ⟨g,a*2+1,none⟩=some (.int .i64 yf.p)) from
       ⟨by rw[←hxf];exact s.cell j2 j1f,by rw[←hyf];exact s.cell a j2f⟩)
      have DDf:=hid (S5.out.still ((Only.refl n_ W0).drew))
      obtain⟨⟨cx0f,cx1f⟩,cy0f,cy1f⟩:=KSf.out _ DDf.out
      have J1f:=hid j1f
      have J2f:=hid j2f
      have HXf:=hid hxf
      have HYf:=hid hyf
      clear j1f j2f hxf hyf
      have SF:=hid (S5.out.still ((Only.refl n_ W0).drew) |>.swap J1f.out J2f.out HXf.out HYf.out)
      obtain⟨⟨ex0f,ex1f⟩,ey0f,ey1f⟩:=KSf.out _ S5.out
      have fzf:∀k,W0.frozen? ⟨g,k,none⟩=false:=S5.out.fz
      have n1f:¬ j2*2=a*2:=by omega
      have n2f:¬ a*2=j2*2:=by omega
      go_wp2_with fail
      go_region
      all_goals (try go_wp2_with fail)
      all_goals clear ex0f ex1f ey0f ey1f fzf
      all_goals
       go_ret2
       exact⟨_,true,_,rfl,EB.out,SF.out⟩
    ·have t1:decide ((j2:Int)<(i2:Int))=false:=decide_eq_false (by omega)
     have t1n:decide (j2<i2)=false:=decide_eq_false hij
     have IJ:=hid (show i2<n∧j2<n from by have:=H2.out;have:=BND.out;have:=BB.out;omega)
     have c1:(i2:Int)<(n:Int):=by have:=IJ.out;omega
     have c2:(j2:Int)<(n:Int):=by have:=IJ.out;omega
     have v3:IntKind.i64.wrap ((i2:Int)+1)=((i2+1:Nat):Int):=by have:=IJ.out;have:=BB.out;rw[IntKind.wrap_i64];omega
     have v4:IntKind.i64.wrap ((j2:Int)-1)=((j2-1:Nat):Int):=by have:=IJ.out;have:=BND.out;have:=BB.out;rw[IntKind.wrap_i64];omega
     have LT:=hid (part_scans_lt (lt:=klt κ) a i j dk (by have:=BND0.out;omega) E1.out E2.out (by omega))
     have AP:¬ i2=j2∧¬ j2=i2:=by have:=LT.out;omega
     have EG:=hid (part_first_go (lt:=klt κ) d a b pv EI.out EJ.out ED.out E1.out E2.out hij)
     clear hij
     obtain⟨xb,hxb⟩:∃x,dk[i2]! = x:=⟨_,rfl⟩
     obtain⟨yb,hyb⟩:∃y,dk[j2]! = y:=⟨_,rfl⟩
     have j1b:i2<dk.size:=by rw[K2.out];exact IJ.out.1
     have j2b:j2<dk.size:=by rw[K2.out];exact IJ.out.2
     have KSb:=hid (λ(w':World) (s:Sq w0 w' g dk)=>show (w'.cell? ⟨g,i2*2,none⟩=some (.int .i64 xb.r)∧w'.cell? ⟨g,i2*2+1,none⟩=some (.int .i64 xb.p))∧(w'.cell? ⟨g,j2*2,none⟩=some (.int .i64 yb.r)∧w'.cell? ⟨g,j2*2+1,none⟩=some (.int .i64 yb.p)) from
      ⟨by rw[←hxb];exact s.cell i2 j1b,by rw[←hyb];exact s.cell j2 j2b⟩)
     have DDb:=hid (S5.out.still ((Only.refl n_ W0).drew))
     obtain⟨⟨cx0b,cx1b⟩,cy0b,cy1b⟩:=KSb.out _ DDb.out
     have J1b:=hid j1b
     have J2b:=hid j2b
     have HXb:=hid hxb
     have HYb:=hid hyb
     clear j1b j2b hxb hyb
     have SW:=hid (S5.out.still ((Only.refl n_ W0).drew) |>.swap J1b.out J2b.out HXb.out HYb.out)
     obtain⟨⟨ex0b,ex1b⟩,ey0b,ey1b⟩:=KSb.out _ S5.out
     have fzb:∀k,W0.frozen? ⟨g,k,none⟩=false:=S5.out.fz
     have n1b:¬ i2*2=j2*2:=by omega
     have n2b:¬ j2*2=i2*2:=by omega
     go_wp2_with fail
     go_region
     all_goals (try go_wp2_with fail)
     all_goals clear ex0b ex1b ey0b ey1b fzb
     all_goals
      obtain⟨d2,hd2⟩:∃x,x=swp dk i2 j2:=⟨_,rfl⟩
      obtain⟨ii,hii⟩:∃x,x=i2+1:=⟨_,rfl⟩
      obtain⟨jj,hjj⟩:∃x,x=j2-1:=⟨_,rfl⟩
      have Z2:=hid (show Sq w0 _ g d2 from by rw[hd2];exact SW.out)
      have D2:=hid (show d2.size=n from by rw[hd2,size_swp];exact K2.out)
      have IJ2:=hid (show a<ii∧ii≤jj+1∧jj<b from by have:=LT.out;have:=BND.out;have:=H2.out;omega)
      rw[←hd2,←hii,←hjj] at EG
      rw[←hii] at v3
      rw[←hjj] at v4
      have EII:=hid hii
      have EJJ:=hid hjj
      clear hd2 hii hjj SW c1 c2 IJ LT AP BND BND0 E1 E2 H1 H2 S5 K2 EI EJ ED
      go_wp2_with fail
      go_loopw [12,13] (λv u wr=>∃(i j:Nat) (dk:Array Wt),v=.int .i64 (i:Int)∧u=.int .i64 (j:Int)∧(a<i∧i≤j+1∧j<b)∧dk.size=n∧Sq w0 wr g dk∧partLoop (klt κ) a i j dk=partLoop (klt κ) a ii jj d2) (λv u _=>(intOf u+1-intOf v).toNat)
      case atStart=>exact⟨ii,jj,d2,by first | rfl | (rw[EII.out];done) | (rw[EII.out];go_num),by first | rfl | (rw[EJJ.out];done) | (rw[EJJ.out];go_num),IJ2.out,D2.out,Z2.out,rfl⟩
      case round =>
       obtain⟨W0,rfl⟩:∃x:World,x=wr:=⟨_,rfl⟩
       obtain⟨i,j,dk,rfl,rfl,hb3,hsk,hS,hO⟩:=hrel
       have S2:=hid hS
       have O2:=hid hO
       have K2:=hid hsk
       have BND:=hid hb3
       clear hS hO hsk hb3 Z2 D2
       go_upto_block 6 with fail
       go_cut [12] from 105 to 122 (λv wx=>∃t:Nat,v=.int .i64 (t:Int)∧i≤t∧t≤j+1∧t=scanUp (λx=>klt κ x dk[a]!) dk j i∧Sq w0 wx g dk)
       case first =>
        go_wp2_with fail
        go_loopw [12] (λv wx=>∃t:Nat,v=.int .i64 (t:Int)∧i≤t∧t≤j+1∧scanUp (λx=>klt κ x dk[a]!) dk j t=scanUp (λx=>klt κ x dk[a]!) dk j i∧Sq w0 wx g dk) (λv _=>j+2-(intOf v).toNat)
        case atStart=>exact⟨i,rfl,Nat.le_refl _,by have:=BND.out;omega,rfl,S2.out⟩
        case round =>
         obtain⟨W1,rfl⟩:∃x:World,x=wr:=⟨_,rfl⟩
         obtain⟨t,rfl,ht1,ht2,hT,hS⟩:=hrel
         have T2:=hid hT
         have S3:=hid hS
         clear hT hS
         by_cases hij:t≤j
         ·have tt:decide ((t:Int)≤(j:Int))=true:=decide_eq_true (by omega)
          have tn:decide (t≤j)=true:=decide_eq_true hij
          have TT:=hid (And.intro hij (And.intro ht1 ht2))
          have TN:=hid (show t<n from by have:=BND.out;have:=BB.out;omega)
          have c1:(t:Int)<(n:Int):=by have:=TN.out;omega
          have vt:IntKind.i64.wrap ((t:Int)+1)=((t+1:Nat):Int):=by have:=BND.out;have:=BB.out;rw[IntKind.wrap_i64];omega
          clear hij ht1 ht2
          obtain⟨xs,hxs⟩:∃x,dk[t]! = x:=⟨_,rfl⟩
          obtain⟨ys,hys⟩:∃y,dk[a]! = y:=⟨_,rfl⟩
          have j1s:t<dk.size:=by rw[K2.out];exact TN.out
          have j2s:a<dk.size:=by rw[K2.out];exact AN.out
          have KSs:=hid (λ(w':World) (s:Sq w0 w' g dk)=>show (w'.cell? ⟨g,t*2,none⟩=some (.int .i64 xs.r)∧w'.cell? ⟨g,t*2+1,none⟩=some (.int .i64 xs.p))∧(w'.cell? ⟨g,a*2,none⟩=some (.int .i64 ys.r)∧w'.cell? ⟨g,a*2+1,none⟩=some (.int .i64 ys.p)) from
           ⟨by rw[←hxs];exact s.cell t j1s,by rw[←hys];exact s.cell a j2s⟩)
          have CLs:=hid (λ(w':World) (s:Sq w0 w' g dk)=>HL.out.at_ s (Only.refl n_ w') j1s j2s hxs hys)
          have DDs:=hid (S3.out.still ((Only.refl n_ W1).drew))
          obtain⟨⟨cx0s,cx1s⟩,cy0s,cy1s⟩:=KSs.out _ DDs.out
          have J1s:=hid j1s
          have J2s:=hid j2s
          have HXs:=hid hxs
          have HYs:=hid hys
          clear j1s j2s hxs hys
          by_cases hls:klt κ xs ys=true
          ·have ls:decide (kcmp κ xs ys<0)=true:=by rw[kcmp_lt];exact hls
           have HLTs:=hid hls
           clear hls
           go_wp2_with fail
           go_region_held3 (λw'=>(w'.cell? ⟨g,t*2,none⟩=some (.int .i64 xs.r)∧w'.cell? ⟨g,t*2+1,none⟩=some (.int .i64 xs.p))∧(w'.cell? ⟨g,a*2,none⟩=some (.int .i64 ys.r)∧w'.cell? ⟨g,a*2+1,none⟩=some (.int .i64 ys.p)))
            (first
             | (with_reducible exact KSs.out _ QT.out)
             | (with_reducible exact KSs.out _ DDs.out)
             | fail)
            (first
             | (go_at_call 123;(with_reducible refine (CLs.out _ DDs.out).mono ?_);rintro e u1 ⟨rfl,os⟩;have QT:=hid (DDs.out.still os);clear os)
             | fail)
           clear cx0s cx1s cy0s cy1s
           go_wp2_with fail
           go_roundw
           case rel=>exact⟨t+1,rfl,by have:=TT.out;omega,by have:=TT.out;omega,by rw[←T2.out,scanUp_go (λx=>klt κ x dk[a]!) dk j t TT.out.1 (by show klt κ _ _=true;rw[HXs.out,HYs.out,HLTs.out])],QT.out⟩
           case measure=>have:=TT.out;have:=BND.out;simp[intOf];omega
          ·have hls:klt κ xs ys=false:=by simpa using hls
           have ls:decide (kcmp κ xs ys<0)=false:=by rw[kcmp_lt];exact hls
           have HLTs:=hid hls
           clear hls
           go_wp2_with fail
           go_region_held3 (λw'=>(w'.cell? ⟨g,t*2,none⟩=some (.int .i64 xs.r)∧w'.cell? ⟨g,t*2+1,none⟩=some (.int .i64 xs.p))∧(w'.cell? ⟨g,a*2,none⟩=some (.int .i64 ys.r)∧w'.cell? ⟨g,a*2+1,none⟩=some (.int .i64 ys.p)))
            (first
             | (with_reducible exact KSs.out _ QT.out)
             | (with_reducible exact KSs.out _ DDs.out)
             | fail)
            (first
             | (go_at_call 123;(with_reducible refine (CLs.out _ DDs.out).mono ?_);rintro e u1 ⟨rfl,os⟩;have QT:=hid (DDs.out.still os);clear os)
             | fail)
           clear cx0s cx1s cy0s cy1s
           go_wp2_with fail
           go_meet
           exact⟨t,rfl,TT.out.2.1,TT.out.2.2,by rw[←T2.out,scanUp_end (λx=>klt κ x dk[a]!) dk j t (.inr (by show klt κ _ _=false;rw[HXs.out,HYs.out,HLTs.out]))],QT.out⟩
         ·have tt:decide ((t:Int)≤(j:Int))=false:=decide_eq_false (by omega)
          have tn:decide (t≤j)=false:=decide_eq_false hij
          have TT:=hid (And.intro ht1 ht2)
          have TE:=hid (scanUp_end (λx=>klt κ x dk[a]!) dk j t (.inl hij))
          clear hij ht1 ht2
          go_wp2_with fail
          go_quiet (fail)
          go_wp2_with fail
          go_meet
          exact⟨t,rfl,TT.out.1,TT.out.2,by rw[←T2.out,TE.out],S3.out.drewN _⟩
       case rest =>
        obtain⟨i2,rfl,hi1,hi2,hI,hS⟩:=hcut
        have BND0:=BND
        have E1:=hid hI
        have S4:=hid hS
        have H1:=hid (And.intro hi1 hi2)
        clear hI hS S2 hi1 hi2
        obtain⟨W0,rfl⟩:∃x:World,x=wc:=⟨_,rfl⟩
        replace BND:=hid (show a<i2∧i2≤j+1∧j<b from by have:=BND0.out;have:=H1.out;omega)
        go_upto_block 8 with fail
        go_cut [13] from 123 to 141 (λv wx=>∃t:Nat,v=.int .i64 (t:Int)∧i2≤t+1∧t≤j∧t=scanDown (λx=>!klt κ x dk[a]!) dk i2 j∧Sq w0 wx g dk)
        case first =>
         go_wp2_with fail
         go_loopw [13] (λv wx=>∃t:Nat,v=.int .i64 (t:Int)∧i2≤t+1∧t≤j∧scanDown (λx=>!klt κ x dk[a]!) dk i2 t=scanDown (λx=>!klt κ x dk[a]!) dk i2 j∧Sq w0 wx g dk) (λv _=>(intOf v).toNat)
         case atStart=>exact⟨j,rfl,by have:=BND.out;omega,Nat.le_refl _,rfl,S4.out⟩
         case round =>
          obtain⟨W1,rfl⟩:∃x:World,x=wr:=⟨_,rfl⟩
          obtain⟨t,rfl,ht1,ht2,hT,hS⟩:=hrel
          have T2:=hid hT
          have S3:=hid hS
          clear hT hS
          by_cases hij:i2≤t
          ·have tt:decide ((i2:Int)≤(t:Int))=true:=decide_eq_true (by omega)
           have tn:decide (i2≤t)=true:=decide_eq_true hij
           have TT:=hid (And.intro hij (And.intro ht1 ht2))
           have TN:=hid (show t<n from by have:=BND.out;have:=BB.out;omega)
           have c1:(t:Int)<(n:Int):=by have:=TN.out;omega
           have vt:IntKind.i64.wrap ((t:Int)-1)=((t-1:Nat):Int):=by have:=BND.out;have:=BB.out;rw[IntKind.wrap_i64];omega
           clear hij ht1 ht2
           obtain⟨xs,hxs⟩:∃x,dk[t]! = x:=⟨_,rfl⟩
           obtain⟨ys,hys⟩:∃y,dk[a]! = y:=⟨_,rfl⟩
           have j1s:t<dk.size:=by rw[K2.out];exact TN.out
           have j2s:a<dk.size:=by rw[K2.out];exact AN.out
           have KSs:=hid (λ(w':World) (s:Sq w0 w' g dk)=>show (w'.cell? ⟨g,t*2,none⟩=some (.int .i64 xs.r)∧w'.cell? ⟨g,t*2+1,none⟩=some (.int .i64 xs.p))∧(w'.cell? ⟨g,a*2,none⟩=some (.int .i64 ys.r)∧w'.cell? ⟨g,a*2+1,none⟩=some (.int .i64 ys.p)) from
            ⟨by rw[←hxs];exact s.cell t j1s,by rw[←hys];exact s.cell a j2s⟩)
           have CLs:=hid (λ(w':World) (s:Sq w0 w' g dk)=>HL.out.at_ s (Only.refl n_ w') j1s j2s hxs hys)
           have DDs:=hid (S3.out.still ((Only.refl n_ W1).drew))
           obtain⟨⟨cx0s,cx1s⟩,cy0s,cy1s⟩:=KSs.out _ DDs.out
           have J1s:=hid j1s
           have J2s:=hid j2s
           have HXs:=hid hxs
           have HYs:=hid hys
           clear j1s j2s hxs hys
           by_cases hls:klt κ xs ys=true
           ·have ls:decide (kcmp κ xs ys<0)=true:=by rw[kcmp_lt];exact hls
            have HLTs:=hid hls
            clear hls
            go_wp2_with fail
            go_region_held3 (λw'=>(w'.cell? ⟨g,t*2,none⟩=some (.int .i64 xs.r)∧w'.cell? ⟨g,t*2+1,none⟩=some (.int .i64 xs.p))∧(w'.cell? ⟨g,a*2,none⟩=some (.int .i64 ys.r)∧w'.cell? ⟨g,a*2+1,none⟩=some (.int .i64 ys.p)))
             (first
              | (with_reducible exact KSs.out _ QT.out)
              | (with_reducible exact KSs.out _ DDs.out)
              | fail)
             (first
              | (go_at_call 123;(with_reducible refine (CLs.out _ DDs.out).mono ?_);rintro e u1 ⟨rfl,os⟩;have QT:=hid (DDs.out.still os);clear os)
              | fail)
            clear cx0s cx1s cy0s cy1s
            go_wp2_with fail
            go_meet
            exact⟨t,rfl,TT.out.2.1,TT.out.2.2,by rw[←T2.out,scanDown_end (λx=>!klt κ x dk[a]!) dk i2 t (.inr (by show (!(klt κ _ _))=false;rw[HXs.out,HYs.out,HLTs.out];rfl))],QT.out⟩
           ·have hls:klt κ xs ys=false:=by simpa using hls
            have ls:decide (kcmp κ xs ys<0)=false:=by rw[kcmp_lt];exact hls
            have HLTs:=hid hls
            clear hls
            go_wp2_with fail
            go_region_held3 (λw'=>(w'.cell? ⟨g,t*2,none⟩=some (.int .i64 xs.r)∧w'.cell? ⟨g,t*2+1,none⟩=some (.int .i64 xs.p))∧(w'.cell? ⟨g,a*2,none⟩=some (.int .i64 ys.r)∧w'.cell? ⟨g,a*2+1,none⟩=some (.int .i64 ys.p)))
             (first
              | (with_reducible exact KSs.out _ QT.out)
              | (with_reducible exact KSs.out _ DDs.out)
              | fail)
             (first
              | (go_at_call 123;(with_reducible refine (CLs.out _ DDs.out).mono ?_);rintro e u1 ⟨rfl,os⟩;have QT:=hid (DDs.out.still os);clear os)
              | fail)
            clear cx0s cx1s cy0s cy1s
            go_wp2_with fail
            go_roundw
            case rel=>exact⟨t-1,rfl,by have:=TT.out;omega,by have:=TT.out;omega,by rw[←T2.out,scanDown_go (λx=>!klt κ x dk[a]!) dk i2 t TT.out.1 (by have:=TT.out;have:=BND.out;omega) (by show (!(klt κ _ _))=true;rw[HXs.out,HYs.out,HLTs.out];rfl)],QT.out⟩
            case measure=>have:=TT.out;have:=BND.out;simp[intOf];omega
          ·have tt:decide ((i2:Int)≤(t:Int))=false:=decide_eq_false (by omega)
           have tn:decide (i2≤t)=false:=decide_eq_false hij
           have TT:=hid (And.intro ht1 ht2)
           have TE:=hid (scanDown_end (λx=>!klt κ x dk[a]!) dk i2 t (.inl hij))
           clear hij ht1 ht2
           go_wp2_with fail
           go_quiet (fail)
           go_wp2_with fail
           go_meet
           exact⟨t,rfl,TT.out.1,TT.out.2,by rw[←T2.out,TE.out],S3.out.drewN _⟩
        case rest =>
         obtain⟨j2,rfl,hj1,hj2,hJ,hS⟩:=hcut
         have E2:=hid hJ
         have S5:=hid hS
         have H2:=hid (And.intro hj1 hj2)
         clear hJ hS S4 hj1 hj2
         obtain⟨W0,rfl⟩:∃x:World,x=wc:=⟨_,rfl⟩
         by_cases hij:j2<i2
         ·have t1:decide ((j2:Int)<(i2:Int))=true:=decide_eq_true (by omega)
          have t1n:decide (j2<i2)=true:=decide_eq_true hij
          have JN:=hid (show j2<n from by have:=H2.out;have:=BND.out;have:=BB.out;omega)
          have c3:(j2:Int)<(n:Int):=by have:=JN.out;omega
          have EB:=hid (part_break (lt:=klt κ) a i j dk E1.out E2.out hij)
          clear hij
          by_cases hja:j2=a
          ·obtain rfl:a=j2:=hja.symm
           obtain⟨xf,hxf⟩:∃x,dk[a]! = x:=⟨_,rfl⟩
           obtain⟨yf,hyf⟩:∃y,dk[a]! = y:=⟨_,rfl⟩
           have j1f:a<dk.size:=by rw[K2.out];exact AN.out
           have j2f:a<dk.size:=by rw[K2.out];exact AN.out
           have KSf:=hid (λ(w':World) (s:Sq w0 w' g dk)=>show (w'.cell? ⟨g,a*2,none⟩=some (.int .i64 xf.r)∧w'.cell? ⟨g,a*2+1,none⟩=some (.int .i64 xf.p))∧(w'.cell? ⟨g,a*2,none⟩=some (.int .i64 yf.r)∧w'.cell? ⟨g,a*2+1,none⟩=some (.int .i64 yf.p)) from
            ⟨by rw[←hxf];exact s.cell a j1f,by rw[←hyf];exact s.cell a j2f⟩)
           have DDf:=hid (S5.out.still ((Only.refl n_ W0).drew))
           obtain⟨⟨cx0f,cx1f⟩,cy0f,cy1f⟩:=KSf.out _ DDf.out
           have J1f:=hid j1f
           have J2f:=hid j2f
           have HXf:=hid hxf
           have HYf:=hid hyf
           clear j1f j2f hxf hyf
           obtain rfl:yf=xf:=HYf.out.symm.trans HXf.out
           have SF:=hid (S5.out.still ((Only.refl n_ W0).drew) |>.swap J1f.out J2f.out HXf.out HYf.out)
           obtain⟨⟨ex0f,ex1f⟩,ey0f,ey1f⟩:=KSf.out _ S5.out
           have fzf:∀k,W0.frozen? ⟨g,k,none⟩=false:=S5.out.fz
           go_wp2_with fail
           go_region
           all_goals (try go_wp2_with fail)
           all_goals clear ex0f ex1f ey0f ey1f fzf
           all_goals
            go_ret2
            exact⟨_,false,_,rfl,by rw[EG.out,←O2.out,EB.out],SF.out⟩
          ·have APJ:¬ j2=a∧¬ a=j2:=⟨hja,λe=>hja e.symm⟩
           clear hja
           obtain⟨xf,hxf⟩:∃x,dk[j2]! = x:=⟨_,rfl⟩
           obtain⟨yf,hyf⟩:∃y,dk[a]! = y:=⟨_,rfl⟩
           have j1f:j2<dk.size:=by rw[K2.out];exact JN.out
           have j2f:a<dk.size:=by rw[K2.out];exact AN.out
           have KSf:=hid (λ(w':World) (s:Sq w0 w' g dk)=>show (w'.cell? ⟨g,j2*2,none⟩=some (.int .i64 xf.r)∧w'.cell? ⟨g,j2*2+1,none⟩=some (.int .i64 xf.p))∧(w'.cell? ⟨g,a*2,none⟩=some (.int .i64 yf.r)∧w'.cell? ⟨g,a*2+1,none⟩=some (.int .i64 yf.p)) from
            ⟨by rw[←hxf];exact s.cell j2 j1f,by rw[←hyf];exact s.cell a j2f⟩)
           have DDf:=hid (S5.out.still ((Only.refl n_ W0).drew))
           obtain⟨⟨cx0f,cx1f⟩,cy0f,cy1f⟩:=KSf.out _ DDf.out
           have J1f:=hid j1f
           have J2f:=hid j2f
           have HXf:=hid hxf
           have HYf:=hid hyf
           clear j1f j2f hxf hyf
           have SF:=hid (S5.out.still ((Only.refl n_ W0).drew) |>.swap J1f.out J2f.out HXf.out HYf.out)
           obtain⟨⟨ex0f,ex1f⟩,ey0f,ey1f⟩:=KSf.out _ S5.out
           have fzf:∀k,W0.frozen? ⟨g,k,none⟩=false:=S5.out.fz
           have n1f:¬ j2*2=a*2:=by omega
           have n2f:¬ a*2=j2*2:=by omega
           go_wp2_with fail
           go_region
           all_goals (try go_wp2_with fail)
           all_goals clear ex0f ex1f ey0f ey1f fzf
           all_goals
            go_ret2
            exact⟨_,false,_,rfl,by rw[EG.out,←O2.out,EB.out],SF.out⟩
         ·have t1:decide ((j2:Int)<(i2:Int))=false:=decide_eq_false (by omega)
          have t1n:decide (j2<i2)=false:=decide_eq_false hij
          have IJ:=hid (show i2<n∧j2<n from by have:=H2.out;have:=BND.out;have:=BB.out;omega)
          have c1:(i2:Int)<(n:Int):=by have:=IJ.out;omega
          have c2:(j2:Int)<(n:Int):=by have:=IJ.out;omega
          have v3:IntKind.i64.wrap ((i2:Int)+1)=((i2+1:Nat):Int):=by have:=IJ.out;have:=BB.out;rw[IntKind.wrap_i64];omega
          have v4:IntKind.i64.wrap ((j2:Int)-1)=((j2-1:Nat):Int):=by have:=IJ.out;have:=BND.out;have:=BB.out;rw[IntKind.wrap_i64];omega
          have LT:=hid (part_scans_lt (lt:=klt κ) a i j dk (by have:=BND0.out;omega) E1.out E2.out (by omega))
          have AP:¬ i2=j2∧¬ j2=i2:=by have:=LT.out;omega
          have EB:=hid (part_go (lt:=klt κ) a i j dk E1.out E2.out hij)
          have HIJ:=hid hij
          clear hij
          obtain⟨xb,hxb⟩:∃x,dk[i2]! = x:=⟨_,rfl⟩
          obtain⟨yb,hyb⟩:∃y,dk[j2]! = y:=⟨_,rfl⟩
          have j1b:i2<dk.size:=by rw[K2.out];exact IJ.out.1
          have j2b:j2<dk.size:=by rw[K2.out];exact IJ.out.2
          have KSb:=hid (λ(w':World) (s:Sq w0 w' g dk)=>show (w'.cell? ⟨g,i2*2,none⟩=some (.int .i64 xb.r)∧w'.cell? ⟨g,i2*2+1,none⟩=some (.int .i64 xb.p))∧(w'.cell? ⟨g,j2*2,none⟩=some (.int .i64 yb.r)∧w'.cell? ⟨g,j2*2+1,none⟩=some (.int .i64 yb.p)) from
           ⟨by rw[←hxb];exact s.cell i2 j1b,by rw[←hyb];exact s.cell j2 j2b⟩)
          have DDb:=hid (S5.out.still ((Only.refl n_ W0).drew))
          obtain⟨⟨cx0b,cx1b⟩,cy0b,cy1b⟩:=KSb.out _ DDb.out
          have J1b:=hid j1b
          have J2b:=hid j2b
          have HXb:=hid hxb
          have HYb:=hid hyb
          clear j1b j2b hxb hyb
          have SW:=hid (S5.out.still ((Only.refl n_ W0).drew) |>.swap J1b.out J2b.out HXb.out HYb.out)
          obtain⟨⟨ex0b,ex1b⟩,ey0b,ey1b⟩:=KSb.out _ S5.out
          have fzb:∀k,W0.frozen? ⟨g,k,none⟩=false:=S5.out.fz
          have n1b:¬ i2*2=j2*2:=by omega
          have n2b:¬ j2*2=i2*2:=by omega
          go_wp2_with fail
          go_region
          all_goals (try go_wp2_with fail)
          all_goals clear ex0b ex1b ey0b ey1b fzb
          all_goals
           go_roundw
           case rel=>exact⟨i2+1,j2-1,swp dk i2 j2,by go_num,rfl,by have:=LT.out;have:=BND.out;have:=H2.out;omega,by rw[size_swp];exact K2.out,SW.out,by rw[←O2.out,EB.out]⟩
           case measure=>have:=LT.out;have:=BND.out;have:=HIJ.out;have:=H2.out;have:=H1.out;have:=BND0.out;simp[intOf];omega
end Go.Proofs.YtfbpjobobdidiaaGreatDoor
