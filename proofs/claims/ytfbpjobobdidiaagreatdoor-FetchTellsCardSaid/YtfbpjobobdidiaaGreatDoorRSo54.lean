/- A row of waiters is parted: who is alike the pivot, who is greater. -/
import Derived.Test.YtfbpjobobdidiaaGreatDoorRSo50
import Derived.Deep.DeepCutAuto
import Derived.Sort.WalkC
set_option maxRecDepth 100000
namespace Go.Proofs.YtfbpjobobdidiaaGreatDoor
open Lib (hid)
open Go.Proofs.Tryz
open Go.RowKit Go.Sort
set_option linter.unusedVariables false
theorem peq_lt (κ:Wt→Int) (a i j:Nat) (dk:Array Wt) (h0:0<i) {i2 j2:Nat} (hi2:i2=scanUp (λx=>!klt κ dk[a]! x) dk j i) (hj2:j2=scanDown (λx=>klt κ dk[a]! x) dk i2 j) (h:i2≤j2):i2<j2:=by
 subst hi2;subst hj2
 obtain⟨u1,_,_,u4⟩:=scanUp_spec (λx=>!klt κ dk[a]! x) dk j _ i rfl
 obtain⟨s1,_,_,s4⟩:=scanDown_spec (λx=>klt κ dk[a]! x) dk (scanUp (λx=>!klt κ dk[a]! x) dk j i) j
 rcases Nat.lt_or_ge (scanUp (λx=>!klt κ dk[a]! x) dk j i) (scanDown (λx=>klt κ dk[a]! x) dk (scanUp (λx=>!klt κ dk[a]! x) dk j i) j) with k | k
 ·exact k
 ·have e:=Nat.le_antisymm h k
  have w1:=s4 h (by omega)
  have w2:=u4 (by omega)
  rw[←e] at w1
  replace w1:klt κ dk[a]! dk[scanUp (λx=>!klt κ dk[a]! x) dk j i]! = false:=w1
  replace w2:(!(klt κ dk[a]! dk[scanUp (λx=>!klt κ dk[a]! x) dk j i]!))=false:=w2
  rw[w1] at w2
  cases w2
set_option maxHeartbeats 4000000 in
theorem peq54 {κ:Wt→Int} {w0:World} {g p n cap:Nat} (LS:Less κ w0 g p) (a b pv:Nat) (d:Array Wt) (w:World) (S:Sq w0 w g d) (hd:d.size=n) (hap:a<pv) (hpb:pv<b) (hb:b≤n) (hn:n≤1000) :
  Calls prog 179 #[.slice (some ⟨g,0,none⟩) n cap,.int .i64 a,.int .i64 b,.int .i64 pv,cmpV p] w λe w'=>∃(m:Nat) (d':Array Wt),e=.returned (.int .i64 m)∧partitionEqual (klt κ) d a b pv=(m,d')∧Sq w0 w' g d':=by
 have S0:=hid S
 have HL:=hid LS
 have K0:=hid hd
 have BB:=hid (show a<b∧b≤n∧n≤1000 from by omega)
 have AN:=hid (show a<n from by omega)
 have APV:=hid hap
 have PN:=hid (show pv<n from by omega)
 have ca:(a:Int)<(n:Int):=by omega
 have cp:(pv:Int)<(n:Int):=by omega
 have v1:IntKind.i64.wrap ((a:Int)+1)=((a+1:Nat):Int):=by rw[IntKind.wrap_i64];omega
 have v2:IntKind.i64.wrap ((b:Int)-1)=((b-1:Nat):Int):=by rw[IntKind.wrap_i64];omega
 clear S LS hd hb hn hpb hap
 unfold cmpV
 have AP:¬ a=pv∧¬ pv=a:=by have:=APV.out;omega
 go_enter func179,ntmps179
 obtain⟨xz,hxz⟩:∃x,d[a]! = x:=⟨_,rfl⟩
 obtain⟨yz,hyz⟩:∃y,d[pv]! = y:=⟨_,rfl⟩
 have j1z:a<d.size:=by rw[K0.out];exact AN.out
 have j2z:pv<d.size:=by rw[K0.out];exact PN.out
 have KSz:=hid (λ(w':World) (s:Sq w0 w' g d)=>show (w'.cell? ⟨g,a*2,none⟩=some (.int .i64 xz.r)∧w'.cell? ⟨g,a*2+1,none⟩=some (.int .i64 xz.p))∧(w'.cell? ⟨g,pv*2,none⟩=some (.int .i64 yz.r)∧w'.cell? ⟨g,pv*2+1,none⟩=some (.int .i64 yz.p)) from
  ⟨by rw[←hxz];exact s.cell a j1z,by rw[←hyz];exact s.cell pv j2z⟩)
 have DDz:=hid (S0.out.still ((Only.refl n_ w).drew))
 obtain⟨⟨cx0z,cx1z⟩,cy0z,cy1z⟩:=KSz.out _ DDz.out
 have J1z:=hid j1z
 have J2z:=hid j2z
 have HXz:=hid hxz
 have HYz:=hid hyz
 clear j1z j2z hxz hyz
 have SW:=hid (S0.out.still ((Only.refl n_ w).drew) |>.swap J1z.out J2z.out HXz.out HYz.out)
 obtain⟨⟨ex0z,ex1z⟩,ey0z,ey1z⟩:=KSz.out _ S0.out
 have fzz:∀k,w.frozen? ⟨g,k,none⟩=false:=S0.out.fz
 have n1z:¬ a*2=pv*2:=by omega
 have n2z:¬ pv*2=a*2:=by omega
 go_wp2_with fail
 go_region
 all_goals (try go_wp2_with fail)
 all_goals clear ex0z ex1z ey0z ey1z fzz
 all_goals
  obtain⟨d1,hd1⟩:∃x,x=swp d a pv:=⟨_,rfl⟩
  have Z1:=hid (show Sq w0 _ g d1 from by rw[hd1];exact SW.out)
  have D1:=hid (show d1.size=n from by rw[hd1,size_swp];exact K0.out)
  have R1:=hid (show partitionEqual (klt κ) d a b pv=partEqLoop (klt κ) a (a+1) (b-1) d1 from by rw[hd1];rfl)
  clear hd1 SW
  go_wp2_with fail
  go_loopw [11,12] (λv u wr=>∃(i j:Nat) (dk:Array Wt),v=.int .i64 (i:Int)∧u=.int .i64 (j:Int)∧(a<i∧i≤j+1∧j<b)∧dk.size=n∧Sq w0 wr g dk∧partEqLoop (klt κ) a i j dk=partEqLoop (klt κ) a (a+1) (b-1) d1) (λv u _=>(intOf u+1-intOf v).toNat)
  case atStart=>exact⟨a+1,b-1,d1,by go_num,rfl,by have:=BB.out;omega,D1.out,Z1.out,rfl⟩
  case round =>
   obtain⟨W0,rfl⟩:∃x:World,x=wr:=⟨_,rfl⟩
   obtain⟨i,j,dk,rfl,rfl,hb3,hsk,hS,hO⟩:=hrel
   have S2:=hid hS
   have O2:=hid hO
   have K2:=hid hsk
   have BND:=hid hb3
   clear hS hO hsk hb3 Z1 D1
   go_upto_block 2 with fail
   go_cut [11] from 31 to 49 (λv wx=>∃t:Nat,v=.int .i64 (t:Int)∧i≤t∧t≤j+1∧t=scanUp (λx=>!klt κ dk[a]! x) dk j i∧Sq w0 wx g dk)
   case first =>
    go_wp2_with fail
    go_loopw [11] (λv wx=>∃t:Nat,v=.int .i64 (t:Int)∧i≤t∧t≤j+1∧scanUp (λx=>!klt κ dk[a]! x) dk j t=scanUp (λx=>!klt κ dk[a]! x) dk j i∧Sq w0 wx g dk) (λv _=>j+2-(intOf v).toNat)
    case atStart=>exact⟨i,rfl,Nat.le_refl _,by have:=BND.out;omega,rfl,S2.out⟩
    case round =>
     obtain⟨W1,rfl⟩:∃x:World,x=wr:=⟨_,rfl⟩
     obtain⟨t,rfl,ht1,ht2,hT,hS⟩:=hrel
     have T2:=hid hT
     have S3:=hid hS
     clear hT hS
     by_cases hij:t≤j
     ·have tt:decide ((t:Int)≤(j:Int))=true:=decide_eq_true (by omega)
      have tn:decide (t≤j)=true:=decide_eq_true hij
      have TT:=hid (And.intro hij (And.intro ht1 ht2))
      have TN:=hid (show t<n from by have:=BND.out;have:=BB.out;omega)
      have c1:(t:Int)<(n:Int):=by have:=TN.out;omega
      have vt:IntKind.i64.wrap ((t:Int)+1)=((t+1:Nat):Int):=by have:=BND.out;have:=BB.out;rw[IntKind.wrap_i64];omega
      clear hij ht1 ht2
      obtain⟨xs,hxs⟩:∃x,dk[a]! = x:=⟨_,rfl⟩
      obtain⟨ys,hys⟩:∃y,dk[t]! = y:=⟨_,rfl⟩
      have j1s:a<dk.size:=by rw[K2.out];exact AN.out
      have j2s:t<dk.size:=by rw[K2.out];exact TN.out
      have KSs:=hid (λ(w':World) (s:Sq w0 w' g dk)=>show (w'.cell? ⟨g,a*2,none⟩=some (.int .i64 xs.r)∧w'.cell? ⟨g,a*2+1,none⟩=some (.int .i64 xs.p))∧(w'.cell? ⟨g,t*2,none⟩=some (.int .i64 ys.r)∧w'.cell? ⟨g,t*2+1,none⟩=some (.int .i64 ys.p)) from
       ⟨by rw[←hxs];exact s.cell a j1s,by rw[←hys];exact s.cell t j2s⟩)
      have CLs:=hid (λ(w':World) (s:Sq w0 w' g dk)=>HL.out.at_ s (Only.refl n_ w') j1s j2s hxs hys)
      have DDs:=hid (S3.out.still ((Only.refl n_ W1).drew))
      obtain⟨⟨cx0s,cx1s⟩,cy0s,cy1s⟩:=KSs.out _ DDs.out
      have J1s:=hid j1s
      have J2s:=hid j2s
      have HXs:=hid hxs
      have HYs:=hid hys
      clear j1s j2s hxs hys
      by_cases hls:klt κ xs ys=true
      ·have ls:decide (kcmp κ xs ys<0)=true:=by rw[kcmp_lt];exact hls
       have HLTs:=hid hls
       clear hls
       go_wp2_with fail
       go_region_held3 (λw'=>(w'.cell? ⟨g,a*2,none⟩=some (.int .i64 xs.r)∧w'.cell? ⟨g,a*2+1,none⟩=some (.int .i64 xs.p))∧(w'.cell? ⟨g,t*2,none⟩=some (.int .i64 ys.r)∧w'.cell? ⟨g,t*2+1,none⟩=some (.int .i64 ys.p)))
        (first
         | (with_reducible exact KSs.out _ QT.out)
         | (with_reducible exact KSs.out _ DDs.out)
         | fail)
        (first
         | (go_at_call 123;(with_reducible refine (CLs.out _ DDs.out).mono ?_);rintro e u1 ⟨rfl,os⟩;have QT:=hid (DDs.out.still os);clear os)
         | fail)
       clear cx0s cx1s cy0s cy1s
       go_wp2_with fail
       go_meet
       exact⟨t,rfl,TT.out.2.1,TT.out.2.2,by rw[←T2.out,scanUp_end (λx=>!klt κ dk[a]! x) dk j t (.inr (by show (!(klt κ _ _))=false;rw[HXs.out,HYs.out,HLTs.out];rfl))],QT.out⟩
      ·have hls:klt κ xs ys=false:=by simpa using hls
       have ls:decide (kcmp κ xs ys<0)=false:=by rw[kcmp_lt];exact hls
       have HLTs:=hid hls
       clear hls
       go_wp2_with fail
       go_region_held3 (λw'=>(w'.cell? ⟨g,a*2,none⟩=some (.int .i64 xs.r)∧w'.cell? ⟨g,a*2+1,none⟩=some (.int .i64 xs.p))∧(w'.cell? ⟨g,t*2,none⟩=some (.int .i64 ys.r)∧w'.cell? ⟨g,t*2+1,none⟩=some (.int .i64 ys.p)))
        (first
         | (with_reducible exact KSs.out _ QT.out)
         | (with_reducible exact KSs.out _ DDs.out)
         | fail)
        (first
         | (go_at_call 123;(with_reducible refine (CLs.out _ DDs.out).mono ?_);rintro e u1 ⟨rfl,os⟩;have QT:=hid (DDs.out.still os);clear os)
         | fail)
       clear cx0s cx1s cy0s cy1s
       go_wp2_with fail
       go_roundw
       case rel=>exact⟨t+1,rfl,by have:=TT.out;omega,by have:=TT.out;omega,by rw[←T2.out,scanUp_go (λx=>!klt κ dk[a]! x) dk j t TT.out.1 (by show (!(klt κ _ _))=true;rw[HXs.out,HYs.out,HLTs.out];rfl)],QT.out⟩
       case measure=>have:=TT.out;have:=BND.out;simp[intOf];omega
     ·have tt:decide ((t:Int)≤(j:Int))=false:=decide_eq_false (by omega)
      have tn:decide (t≤j)=false:=decide_eq_false hij
      have TT:=hid (And.intro ht1 ht2)
      have TE:=hid (scanUp_end (λx=>!klt κ dk[a]! x) dk j t (.inl hij))
      clear hij ht1 ht2
      go_wp2_with fail
      go_quiet (fail)
      go_wp2_with fail
      go_meet
      exact⟨t,rfl,TT.out.1,TT.out.2,by rw[←T2.out,TE.out],S3.out.drewN _⟩
   case rest =>
    obtain⟨i2,rfl,hi1,hi2,hI,hS⟩:=hcut
    have BND0:=BND
    have E1:=hid hI
    have S4:=hid hS
    have H1:=hid (And.intro hi1 hi2)
    clear hI hS S2 hi1 hi2
    obtain⟨W0,rfl⟩:∃x:World,x=wc:=⟨_,rfl⟩
    replace BND:=hid (show a<i2∧i2≤j+1∧j<b from by have:=BND0.out;have:=H1.out;omega)
    go_upto_block 4 with fail
    go_cut [12] from 50 to 67 (λv wx=>∃t:Nat,v=.int .i64 (t:Int)∧i2≤t+1∧t≤j∧t=scanDown (λx=>klt κ dk[a]! x) dk i2 j∧Sq w0 wx g dk)
    case first =>
     go_wp2_with fail
     go_loopw [12] (λv wx=>∃t:Nat,v=.int .i64 (t:Int)∧i2≤t+1∧t≤j∧scanDown (λx=>klt κ dk[a]! x) dk i2 t=scanDown (λx=>klt κ dk[a]! x) dk i2 j∧Sq w0 wx g dk) (λv _=>(intOf v).toNat)
     case atStart=>exact⟨j,rfl,by have:=BND.out;omega,Nat.le_refl _,rfl,S4.out⟩
     case round =>
      obtain⟨W1,rfl⟩:∃x:World,x=wr:=⟨_,rfl⟩
      obtain⟨t,rfl,ht1,ht2,hT,hS⟩:=hrel
      have T2:=hid hT
      have S3:=hid hS
      clear hT hS
      by_cases hij:i2≤t
      ·have tt:decide ((i2:Int)≤(t:Int))=true:=decide_eq_true (by omega)
       have tn:decide (i2≤t)=true:=decide_eq_true hij
       have TT:=hid (And.intro hij (And.intro ht1 ht2))
       have TN:=hid (show t<n from by have:=BND.out;have:=BB.out;omega)
       have c1:(t:Int)<(n:Int):=by have:=TN.out;omega
       have vt:IntKind.i64.wrap ((t:Int)-1)=((t-1:Nat):Int):=by have:=BND.out;have:=BB.out;rw[IntKind.wrap_i64];omega
       clear hij ht1 ht2
       obtain⟨xs,hxs⟩:∃x,dk[a]! = x:=⟨_,rfl⟩
       obtain⟨ys,hys⟩:∃y,dk[t]! = y:=⟨_,rfl⟩
       have j1s:a<dk.size:=by rw[K2.out];exact AN.out
       have j2s:t<dk.size:=by rw[K2.out];exact TN.out
       have KSs:=hid (λ(w':World) (s:Sq w0 w' g dk)=>show (w'.cell? ⟨g,a*2,none⟩=some (.int .i64 xs.r)∧w'.cell? ⟨g,a*2+1,none⟩=some (.int .i64 xs.p))∧(w'.cell? ⟨g,t*2,none⟩=some (.int .i64 ys.r)∧w'.cell? ⟨g,t*2+1,none⟩=some (.int .i64 ys.p)) from
        ⟨by rw[←hxs];exact s.cell a j1s,by rw[←hys];exact s.cell t j2s⟩)
       have CLs:=hid (λ(w':World) (s:Sq w0 w' g dk)=>HL.out.at_ s (Only.refl n_ w') j1s j2s hxs hys)
       have DDs:=hid (S3.out.still ((Only.refl n_ W1).drew))
       obtain⟨⟨cx0s,cx1s⟩,cy0s,cy1s⟩:=KSs.out _ DDs.out
       have J1s:=hid j1s
       have J2s:=hid j2s
       have HXs:=hid hxs
       have HYs:=hid hys
       clear j1s j2s hxs hys
       by_cases hls:klt κ xs ys=true
       ·have ls:decide (kcmp κ xs ys<0)=true:=by rw[kcmp_lt];exact hls
        have HLTs:=hid hls
        clear hls
        go_wp2_with fail
        go_region_held3 (λw'=>(w'.cell? ⟨g,a*2,none⟩=some (.int .i64 xs.r)∧w'.cell? ⟨g,a*2+1,none⟩=some (.int .i64 xs.p))∧(w'.cell? ⟨g,t*2,none⟩=some (.int .i64 ys.r)∧w'.cell? ⟨g,t*2+1,none⟩=some (.int .i64 ys.p)))
         (first
          | (with_reducible exact KSs.out _ QT.out)
          | (with_reducible exact KSs.out _ DDs.out)
          | fail)
         (first
          | (go_at_call 123;(with_reducible refine (CLs.out _ DDs.out).mono ?_);rintro e u1 ⟨rfl,os⟩;have QT:=hid (DDs.out.still os);clear os)
          | fail)
        clear cx0s cx1s cy0s cy1s
        go_wp2_with fail
        go_roundw
        case rel=>exact⟨t-1,rfl,by have:=TT.out;omega,by have:=TT.out;omega,by rw[←T2.out,scanDown_go (λx=>klt κ dk[a]! x) dk i2 t TT.out.1 (by have:=TT.out;have:=BND.out;omega) (by show klt κ _ _=true;rw[HXs.out,HYs.out,HLTs.out])],QT.out⟩
        case measure=>have:=TT.out;have:=BND.out;simp[intOf];omega
       ·have hls:klt κ xs ys=false:=by simpa using hls
        have ls:decide (kcmp κ xs ys<0)=false:=by rw[kcmp_lt];exact hls
        have HLTs:=hid hls
        clear hls
        go_wp2_with fail
        go_region_held3 (λw'=>(w'.cell? ⟨g,a*2,none⟩=some (.int .i64 xs.r)∧w'.cell? ⟨g,a*2+1,none⟩=some (.int .i64 xs.p))∧(w'.cell? ⟨g,t*2,none⟩=some (.int .i64 ys.r)∧w'.cell? ⟨g,t*2+1,none⟩=some (.int .i64 ys.p)))
         (first
          | (with_reducible exact KSs.out _ QT.out)
          | (with_reducible exact KSs.out _ DDs.out)
          | fail)
         (first
          | (go_at_call 123;(with_reducible refine (CLs.out _ DDs.out).mono ?_);rintro e u1 ⟨rfl,os⟩;have QT:=hid (DDs.out.still os);clear os)
          | fail)
        clear cx0s cx1s cy0s cy1s
        go_wp2_with fail
        go_meet
        exact⟨t,rfl,TT.out.2.1,TT.out.2.2,by rw[←T2.out,scanDown_end (λx=>klt κ dk[a]! x) dk i2 t (.inr (by show klt κ _ _=false;rw[HXs.out,HYs.out,HLTs.out]))],QT.out⟩
      ·have tt:decide ((i2:Int)≤(t:Int))=false:=decide_eq_false (by omega)
       have tn:decide (i2≤t)=false:=decide_eq_false hij
       have TT:=hid (And.intro ht1 ht2)
       have TE:=hid (scanDown_end (λx=>klt κ dk[a]! x) dk i2 t (.inl hij))
       clear hij ht1 ht2
       go_wp2_with fail
       go_quiet (fail)
       go_wp2_with fail
       go_meet
       exact⟨t,rfl,TT.out.1,TT.out.2,by rw[←T2.out,TE.out],S3.out.drewN _⟩
    case rest =>
     obtain⟨j2,rfl,hj1,hj2,hJ,hS⟩:=hcut
     have E2:=hid hJ
     have S5:=hid hS
     have H2:=hid (And.intro hj1 hj2)
     clear hJ hS S4 hj1 hj2
     obtain⟨W0,rfl⟩:∃x:World,x=wc:=⟨_,rfl⟩
     by_cases hij:j2<i2
     ·have t1:decide ((j2:Int)<(i2:Int))=true:=decide_eq_true (by omega)
      have t1n:decide (j2<i2)=true:=decide_eq_true hij
      have EB:=hid (partEq_break (lt:=klt κ) a i j dk E1.out E2.out hij)
      clear hij
      go_wp2_with fail
      go_ret
      refine⟨i2,dk,rfl,by rw[R1.out,←O2.out,EB.out],S5.out⟩
     ·have t1:decide ((j2:Int)<(i2:Int))=false:=decide_eq_false (by omega)
      have t1n:decide (j2<i2)=false:=decide_eq_false hij
      have EB:=hid (partEq_go (lt:=klt κ) a i j dk E1.out E2.out hij)
      have IJ:=hid (show i2<n∧j2<n from by have:=H2.out;have:=BND.out;have:=BB.out;omega)
      have c1:(i2:Int)<(n:Int):=by have:=IJ.out;omega
      have c2:(j2:Int)<(n:Int):=by have:=IJ.out;omega
      have v3:IntKind.i64.wrap ((i2:Int)+1)=((i2+1:Nat):Int):=by have:=IJ.out;have:=BB.out;rw[IntKind.wrap_i64];omega
      have v4:IntKind.i64.wrap ((j2:Int)-1)=((j2-1:Nat):Int):=by have:=IJ.out;have:=BND.out;have:=BB.out;rw[IntKind.wrap_i64];omega
      have HIJ:=hid hij
      have LT:=hid (peq_lt κ a i j dk (by have:=BND0.out;omega) E1.out E2.out (by omega))
      have AP:¬ i2=j2∧¬ j2=i2:=by have:=LT.out;omega
      clear hij
      obtain⟨xb,hxb⟩:∃x,dk[i2]! = x:=⟨_,rfl⟩
      obtain⟨yb,hyb⟩:∃y,dk[j2]! = y:=⟨_,rfl⟩
      have j1b:i2<dk.size:=by rw[K2.out];exact IJ.out.1
      have j2b:j2<dk.size:=by rw[K2.out];exact IJ.out.2
      have KSb:=hid (λ(w':World) (s:Sq w0 w' g dk)=>show (w'.cell? ⟨g,i2*2,none⟩=some (.int .i64 xb.r)∧w'.cell? ⟨g,i2*2+1,none⟩=some (.int .i64 xb.p))∧(w'.cell? ⟨g,j2*2,none⟩=some (.int .i64 yb.r)∧w'.cell? ⟨g,j2*2+1,none⟩=some (.int .i64 yb.p)) from
       ⟨by rw[←hxb];exact s.cell i2 j1b,by rw[←hyb];exact s.cell j2 j2b⟩)
      have DDb:=hid (S5.out.still ((Only.refl n_ W0).drew))
      obtain⟨⟨cx0b,cx1b⟩,cy0b,cy1b⟩:=KSb.out _ DDb.out
      have J1b:=hid j1b
      have J2b:=hid j2b
      have HXb:=hid hxb
      have HYb:=hid hyb
      clear j1b j2b hxb hyb
      have SW:=hid (S5.out.still ((Only.refl n_ W0).drew) |>.swap J1b.out J2b.out HXb.out HYb.out)
      obtain⟨⟨ex0b,ex1b⟩,ey0b,ey1b⟩:=KSb.out _ S5.out
      have fzb:∀k,W0.frozen? ⟨g,k,none⟩=false:=S5.out.fz
      have n1b:¬ i2*2=j2*2:=by omega
      have n2b:¬ j2*2=i2*2:=by omega
      go_wp2_with fail
      go_region
      all_goals (try go_wp2_with fail)
      all_goals clear ex0b ex1b ey0b ey1b fzb
      all_goals
       go_roundw
       case rel=>exact⟨i2+1,j2-1,swp dk i2 j2,by go_num,rfl,by have:=LT.out;have:=BND.out;have:=HIJ.out;have:=H2.out;have:=H1.out;omega,by rw[size_swp];exact K2.out,SW.out,by rw[←O2.out,EB.out]⟩
       case measure=>have:=BND.out;have:=HIJ.out;have:=H2.out;have:=H1.out;have:=BND0.out;simp[intOf];omega
end Go.Proofs.YtfbpjobobdidiaaGreatDoor
