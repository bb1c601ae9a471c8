/- A row of waiters is sorted. -/
import Derived.Test.YtfbpjobobdidiaaGreatDoorRSo55
import Derived.Test.YtfbpjobobdidiaaGreatDoorRSo53
set_option maxRecDepth 100000
namespace Go.Proofs.YtfbpjobobdidiaaGreatDoor
open Lib (hid)
open Go.Proofs.Tryz
open Go.RowKit Go.Sort
set_option linter.unusedVariables false
set_option maxHeartbeats 4000000 in
theorem pdq35 {κ:Wt→Int} {w0:World} {g p n cap:Nat} (LS:Less κ w0 g p) (hn:n≤1000):∀(N a b limit:Nat) (d:Array Wt) (w:World),b-a<N→Sq w0 w g d→d.size=n→a≤b→b≤n→limit≤1000→Below (klt κ) a b d →
  Calls prog 153 #[.slice (some ⟨g,0,none⟩) n cap,.int .i64 a,.int .i64 b,.int .i64 limit,cmpV p] w λe w'=>e=.returned (.tuple #[])∧∃d',PermIn a b d d'∧SortedIn (klt κ) a b d'∧Sq w0 w' g d':=by
 have HL:=hid LS
 have C48:=hid (λ(x y:Nat) (e1:Array Wt) (w':World) (s:Sq w0 w' g e1) (hz:e1.size=n) (hxy:x≤y) (hyn:y≤n)=>show Calls prog 173 #[.slice (some ⟨g,0,none⟩) n cap,.int .i64 x,.int .i64 y,.func (.func 123) #[.pointer (some ⟨p,0,none⟩)] #[]] w' (λe w''=>e=.returned (.tuple #[])∧Sq w0 w'' g (insertionSort (klt κ) e1 x y)) from ins48 (n:=n) (cap:=cap) HL.out x y e1 w' s hz hxy hyn hn)
 have C49:=hid (λ(x y:Nat) (e1:Array Wt) (w':World) (s:Sq w0 w' g e1) (hz:e1.size=n) (hxy:x<y) (hyn:y≤n)=>show Calls prog 174 #[.slice (some ⟨g,0,none⟩) n cap,.int .i64 x,.int .i64 y,.func (.func 123) #[.pointer (some ⟨p,0,none⟩)] #[]] w' (λe w''=>e=.returned (.tuple #[])∧Sq w0 w'' g (heapSort (klt κ) e1 x y)) from heap49 (n:=n) (cap:=cap) HL.out x y e1 w' s hz hxy hyn hn)
 have C50:=hid (λ(x y:Nat) (e1:Array Wt) (w':World) (s:Sq w0 w' g e1) (hz:e1.size=n) (hxy:x+12<y) (hyn:y≤n)=>show Calls prog 175 #[.slice (some ⟨g,0,none⟩) n cap,.int .i64 x,.int .i64 y,.func (.func 123) #[.pointer (some ⟨p,0,none⟩)] #[]] w' (λe w''=>e=.returned (.tuple #[])∧∃d',PermIn x y e1 d'∧Sq w0 w'' g d') from brk50 (n:=n) (cap:=cap) x y e1 w' s hz hxy hyn hn)
 have C51:=hid (λ(x y:Nat) (e1:Array Wt) (w':World) (s:Sq w0 w' g e1) (hz:e1.size=n) (hxy:x+12<y) (hyn:y≤n)=>show Calls prog 176 #[.slice (some ⟨g,0,none⟩) n cap,.int .i64 x,.int .i64 y,.func (.func 123) #[.pointer (some ⟨p,0,none⟩)] #[]] w' (λe w''=>∃z h:Nat,e=.returned (.tuple #[.int .i64 z,.int .i64 h])∧(x<z∧z+1<y)∧h≤2∧Sq w0 w'' g e1) from piv51 (n:=n) (cap:=cap) HL.out x y e1 w' s hz hxy hyn hn)
 have C52:=hid (λ(x y:Nat) (e1:Array Wt) (w':World) (s:Sq w0 w' g e1) (hz:e1.size=n) (hxy:x<y) (hyn:y≤n)=>show Calls prog 177 #[.slice (some ⟨g,0,none⟩) n cap,.int .i64 x,.int .i64 y,.func (.func 123) #[.pointer (some ⟨p,0,none⟩)] #[]] w' (λe w''=>e=.returned (.tuple #[])∧Sq w0 w'' g (reverseRange e1 x y)) from rev52 (n:=n) (cap:=cap) x y e1 w' s hz hxy hyn hn)
 have C53:=hid (λ(x y:Nat) (e1:Array Wt) (w':World) (s:Sq w0 w' g e1) (hz:e1.size=n) (hxy:x<y) (hyn:y≤n)=>show Calls prog 178 #[.slice (some ⟨g,0,none⟩) n cap,.int .i64 x,.int .i64 y,.func (.func 123) #[.pointer (some ⟨p,0,none⟩)] #[]] w' (λe w''=>∃(r:Bool) (d':Array Wt),e=.returned (.bool r)∧partialInsertionSort (klt κ) e1 x y=(d',r)∧Sq w0 w'' g d') from pin53 (n:=n) (cap:=cap) HL.out x y e1 w' s hz hxy hyn hn)
 have C54:=hid (λ(x y z:Nat) (e1:Array Wt) (w':World) (s:Sq w0 w' g e1) (hz:e1.size=n) (hxz:x<z) (hzy:z<y) (hyn:y≤n)=>show Calls prog 179 #[.slice (some ⟨g,0,none⟩) n cap,.int .i64 x,.int .i64 y,.int .i64 z,.func (.func 123) #[.pointer (some ⟨p,0,none⟩)] #[]] w' (λe w''=>∃(m:Nat) (d':Array Wt),e=.returned (.int .i64 m)∧partitionEqual (klt κ) e1 x y z=(m,d')∧Sq w0 w'' g d') from peq54 (n:=n) (cap:=cap) HL.out x y z e1 w' s hz hxz hzy hyn hn)
 have C55:=hid (λ(x y z:Nat) (e1:Array Wt) (w':World) (s:Sq w0 w' g e1) (hz:e1.size=n) (hxz:x<z) (hzy:z<y) (hyn:y≤n)=>show Calls prog 180 #[.slice (some ⟨g,0,none⟩) n cap,.int .i64 x,.int .i64 y,.int .i64 z,.func (.func 123) #[.pointer (some ⟨p,0,none⟩)] #[]] w' (λe w''=>∃(m:Nat) (bp:Bool) (d':Array Wt),e=.returned (.tuple #[.int .i64 m,.bool bp])∧partition (klt κ) e1 x y z=(m,bp,d')∧Sq w0 w'' g d') from par55 (n:=n) (cap:=cap) HL.out x y z e1 w' s hz hxz hzy hyn hn)
 clear LS
 unfold cmpV
 intro N
 induction N with
 | zero=>intro a b limit d w h;exact absurd h (Nat.not_lt_zero _)
 | succ N ih =>
  intro a b limit d w hN S hd hab hb hl hB
  have IH:=hid ih
  have S0:=hid S
  have K0:=hid hd
  have R0:=hid (Rest.all (lt:=klt κ) hab (by rw[hd];exact hb) hB)
  have BN:=hid (show b≤n∧b-a≤N from ⟨hb,by omega⟩)
  have NL:=hid hn
  clear ih S hd hab hb hB hN
  go_enter func153,ntmps153
  go_wp2_with fail
  go_loopw [1,2,3,10,11] (λx y z u v wr=>∃(a' b' lim:Nat) (wb wp:Bool) (dk:Array Wt),x=.int .i64 (a':Int)∧y=.int .i64 (b':Int)∧z=.int .i64 (lim:Int)∧u=.bool wb∧v=.bool wp∧dk.size=n∧Sq w0 wr g dk∧lim≤1000∧PermIn a b d dk∧Rest (klt κ) a b a' b' dk) (λx y _ _ _ _=>(intOf y-intOf x).toNat)
  case atStart=>exact⟨a,b,limit,true,true,d,rfl,rfl,rfl,rfl,rfl,K0.out,S0.out,hl,permIn_refl _ _ _,R0.out⟩
  case round =>
   clear hl
   obtain⟨W0,rfl⟩:∃x:World,x=wr:=⟨_,rfl⟩
   obtain⟨a',b',lim,wb,wp,dk,rfl,rfl,rfl,rfl,rfl,hsk,hS,hl,hP,hR⟩:=hrel
   have S2:=hid hS
   have K2:=hid hsk
   have P2:=hid hP
   have R2:=hid hR
   have LM:=hid hl
   obtain⟨l,hll⟩:∃l,l=b'-a':=⟨_,rfl⟩
   have AB:=hid (show a≤a'∧a'≤b'∧b'≤n∧l=b'-a'∧b'-a'≤N∧b'≤b∧n≤1000 from ⟨hR.lo,hR.mid,Nat.le_trans hR.hi BN.out.1,hll,by have:=BN.out;have:=hR.lo;have:=hR.hi;omega,hR.hi,NL.out⟩)
   have v1:IntKind.i64.wrap ((b':Int)-(a':Int))=(l:Int):=by have:=AB.out;rw[IntKind.wrap_i64];omega
   clear hsk hS hP hR S0 K0 R0 hll
   by_cases h12:l≤12
   ·have t1:decide ((l:Int)≤12)=true:=decide_eq_true (by omega)
    have t1n:decide (l≤12)=true:=decide_eq_true h12
    have IS:=hid (insertionSort_holds (lt:=klt κ) (klt_swo κ) dk a' b' R2.out.mid (by rw[K2.out];exact AB.out.2.2.1))
    clear h12 hl
    go_wp2_with fail
    (with_reducible refine (C48.out a' b' dk _ S2.out K2.out AB.out.2.1 AB.out.2.2.1).mono ?_)
    rintro e W1 ⟨rfl,hS⟩
    have S3:=hid hS
    clear hS
    go_wp2_with fail
    refine bodyPost_ret (results_none rfl _ _ _) rfl ?_
    exact⟨rfl,_,permIn_trans _ _ _ _ _ P2.out (R2.out.wide IS.out.1),R2.out.done _ IS.out.1 IS.out.2,S3.out⟩
   ·have t1:decide ((l:Int)≤12)=false:=decide_eq_false (by omega)
    have t1n:decide (l≤12)=false:=decide_eq_false h12
    have L12:=hid (show a'+12<b' from by have:=AB.out;omega)
    clear h12
    by_cases hl0:lim=0
    ·have t2:((lim:Int)==0)=true:=by rw[hl0];rfl
     have IS:=hid (heapSort_holds (lt:=klt κ) (klt_swo κ) dk a' b' R2.out.mid (by rw[K2.out];exact AB.out.2.2.1))
     clear hl hl0
     go_wp2_with fail
     (with_reducible refine (C49.out a' b' dk _ S2.out K2.out (by have:=L12.out;omega) AB.out.2.2.1).mono ?_)
     rintro e W1 ⟨rfl,hS⟩
     have S3:=hid hS
     clear hS
     go_wp2_with fail
     refine bodyPost_ret (results_none rfl _ _ _) rfl ?_
     exact⟨rfl,_,permIn_trans _ _ _ _ _ P2.out (R2.out.wide IS.out.1),R2.out.done _ IS.out.1 IS.out.2,S3.out⟩
    ·have t2:((lim:Int)==0)=false:=by rw[beq_eq_false_iff_ne];intro h;exact hl0 (by omega)
     have L0:=hid hl0
     clear hl hl0
     go_upto_if 39 with fail
     go_cut [3] from 21 to 147 (λz wx=>∃(l1:Nat) (d1:Array Wt),z=.int .i64 (l1:Int)∧l1≤1000∧PermIn a' b' dk d1∧Sq w0 wx g d1)
     case first =>
      cases wb with
      | true =>
       go_wp2_with fail
       go_meet
       exact⟨lim,dk,rfl,LM.out,permIn_refl _ _ _,S2.out⟩
      | false =>
       have vl:IntKind.i64.wrap ((lim:Int)-1)=((lim-1:Nat):Int):=by have:=LM.out;have:=L0.out;rw[IntKind.wrap_i64];omega
       go_wp2_with fail
       (with_reducible refine (C50.out a' b' dk _ S2.out K2.out L12.out AB.out.2.2.1).mono ?_)
       rintro e W1 ⟨rfl,d1,q,hS⟩
       have Q1:=hid q
       have S3:=hid hS
       clear hS q
       go_wp2_with fail
       go_meet
       exact⟨lim-1,d1,rfl,by have:=LM.out;omega,Q1.out,S3.out⟩
     case rest =>
      obtain⟨l1,d1,rfl,hl1,q,hS⟩:=hcut
      have S3:=hid hS
      have R3:=hid (R2.out.perm q)
      have P3:=hid (permIn_trans _ _ _ _ _ P2.out (R2.out.wide q))
      have K3:=hid (show d1.size=n from by rw[q.1];exact K2.out)
      clear hS q S2 R2 P2 K2 LM L0 t1 t1n t2
      obtain⟨lim,rfl⟩:∃x,x=l1:=⟨_,rfl⟩
      have LM:=hid hl1
      obtain⟨W0,rfl⟩:∃x:World,x=wc:=⟨_,rfl⟩
      clear hl1
      go_wp2_with fail
      (with_reducible refine (C51.out a' b' d1 _ S3.out K3.out L12.out AB.out.2.2.1).mono ?_)
      rintro e W1 ⟨z,h,rfl,hz,hh,hS⟩
      have S4:=hid hS
      have Z1:=hid hz
      have H1:=hid hh
      clear hS hz hh S3
      go_upto_if 56 with fail
      go_cut [13,14] from 21 to 147 (λu v wx=>∃(pv h':Nat) (d2:Array Wt),u=.int .i64 (pv:Int)∧v=.int .i64 (h':Int)∧(a'<pv∧pv<b')∧PermIn a' b' d1 d2∧Sq w0 wx g d2)
      case first =>
       by_cases h2:h=2
       ·obtain⟨y1,hy1⟩:∃y,y=b'-1:=⟨_,rfl⟩
        obtain⟨y2,hy2⟩:∃y,y=z-a':=⟨_,rfl⟩
        obtain⟨pv,hpv⟩:∃y,y=y1-y2:=⟨_,rfl⟩
        have PB:=hid (show a'<pv∧pv<b' from by have:=AB.out;have:=Z1.out;have:=L12.out;omega)
        have w1:IntKind.i64.wrap ((b':Int)-1)=(y1:Int):=by have:=AB.out;have:=L12.out;rw[IntKind.wrap_i64];omega
        have w2:IntKind.i64.wrap ((z:Int)-(a':Int))=(y2:Int):=by have:=AB.out;have:=Z1.out;rw[IntKind.wrap_i64];omega
        have w3:IntKind.i64.wrap ((y1:Int)-(y2:Int))=(pv:Int):=by have:=AB.out;have:=Z1.out;have:=L12.out;rw[IntKind.wrap_i64];omega
        subst h2
        have t3:(((2:Nat):Int)==2)=true:=rfl
        have RV:=hid (reverseRange_holds d1 a' b' R3.out.mid (by rw[K3.out];exact AB.out.2.2.1))
        clear hy1 hy2 hpv
        go_wp2_with fail
        (with_reducible refine (C52.out a' b' d1 _ S4.out K3.out (by have:=L12.out;omega) AB.out.2.2.1).mono ?_)
        rintro e W2 ⟨rfl,hS⟩
        have S5:=hid hS
        clear hS
        go_wp2_with fail
        go_meet
        exact⟨pv,1,_,rfl,rfl,PB.out,RV.out,S5.out⟩
       ·have t3:((h:Int)==2)=false:=by rw[beq_eq_false_iff_ne];intro k;exact h2 (by omega)
        clear h2
        go_wp2_with fail
        go_meet
        exact⟨z,h,d1,rfl,rfl,by have:=Z1.out;omega,permIn_refl _ _ _,S4.out⟩
      case rest =>
       obtain⟨pv,h',d2,rfl,rfl,hpv,q,hS⟩:=hcut
       have S5:=hid hS
       have R5:=hid (R3.out.perm q)
       have P5:=hid (permIn_trans _ _ _ _ _ P3.out (R3.out.wide q))
       have K5:=hid (show d2.size=n from by rw[q.1];exact K3.out)
       have PV:=hid hpv
       clear hS q S4 R3 P3 K3 Z1 H1 hpv
       obtain⟨W0,rfl⟩:∃x:World,x=wc:=⟨_,rfl⟩
       go_upto_region 15 with fail
       go_cut [75] from 21 to 147 (λv wx=>∃r:Bool,v=.bool r∧Only n_ W0 wx)
       case first =>
        cases wb with
        | false =>
         go_wp2_with fail
         go_meet
         exact⟨false,rfl,Only.refl _ _⟩
        | true =>
         cases wp with
         | false =>
          go_wp2_with fail
          go_meet
          exact⟨false,rfl,Only.refl _ _⟩
         | true =>
          obtain⟨r1,hr1⟩:∃r1,((h':Int)==1)=r1:=⟨_,rfl⟩
          go_wp2_with fail
          go_meet
          exact⟨_,rfl,Only.refl _ _⟩
       case rest =>
        obtain⟨r,rfl,oo⟩:=hcut
        replace S5:=hid (S5.out.still oo)
        clear oo
        obtain⟨W0,rfl⟩:∃x:World,x=wc:=⟨_,rfl⟩
        go_upto_if 75 with fail
        go_cut [13] from 21 to 147 (λv wx=>v=.int .i64 (pv:Int)∧∃d3:Array Wt,PermIn a' b' d2 d3∧Sq w0 wx g d3)
        case first =>
         cases r with
         | false =>
          go_wp2_with fail
          go_meet
          exact⟨rfl,d2,permIn_refl _ _ _,S5.out⟩
         | true =>
          go_wp2_with fail
          (with_reducible refine (C53.out a' b' d2 _ S5.out K5.out (by have:=L12.out;omega) AB.out.2.2.1).mono ?_)
          rintro e W2 ⟨r2,d3,rfl,he,hS⟩
          have S6:=hid hS
          have PI:=hid (partialInsertionSort_holds (lt:=klt κ) (klt_swo κ) d2 a' b' (by have:=L12.out;omega) (by rw[K5.out];exact AB.out.2.2.1) R5.out.below)
          rw[he] at PI
          clear hS he
          cases r2 with
          | true =>
           go_wp2_with fail
           refine bodyPost_ret (results_none rfl _ _ _) rfl ?_
           exact⟨rfl,d3,permIn_trans _ _ _ _ _ P5.out (R5.out.wide PI.out.1),R5.out.done _ PI.out.1 (PI.out.2 (by trivial)),S6.out⟩
          | false =>
           go_wp2_with fail
           go_meet
           exact⟨rfl,d3,PI.out.1,S6.out⟩
        case rest =>
         obtain⟨rfl,d3,q,hS⟩:=hcut
         have S6:=hid hS
         have R6:=hid (R5.out.perm q)
         have P6:=hid (permIn_trans _ _ _ _ _ P5.out (R5.out.wide q))
         have K6:=hid (show d3.size=n from by rw[q.1];exact K5.out)
         clear hS q S5 R5 P5 K5
         obtain⟨W0,rfl⟩:∃x:World,x=wc:=⟨_,rfl⟩
         go_upto_region 17 with fail
         go_cut [97] from 21 to 147 (λv wx=>∃r:Bool,v=.bool r∧(r=true→0<a'∧klt κ d3[a'-1]! d3[pv]! = false)∧Sq w0 wx g d3)
         case first =>
          by_cases ha0:0<a'
          ·have t4:decide ((0:Int)<(a':Int))=true:=decide_eq_true (by omega)
           have t4n:decide (0<a')=true:=decide_eq_true ha0
           have A0:=hid ha0
           have vm:IntKind.i64.wrap ((a':Int)-1)=((a'-1:Nat):Int):=by have:=AB.out;rw[IntKind.wrap_i64];omega
           have c1:((a'-1:Nat):Int)<(n:Int):=by have:=AB.out;have:=L12.out;omega
           have c2:(pv:Int)<(n:Int):=by have:=AB.out;have:=PV.out;omega
           clear ha0
           obtain⟨xs,hxs⟩:∃x,d3[(a'-1)]! = x:=⟨_,rfl⟩
           obtain⟨ys,hys⟩:∃y,d3[pv]! = y:=⟨_,rfl⟩
           have j1s:(a'-1)<d3.size:=by rw[K6.out];have:=AB.out;have:=L12.out;omega
           have j2s:pv<d3.size:=by rw[K6.out];have:=AB.out;have:=PV.out;omega
           have KSs:=hid (λ(w':World) (s:Sq w0 w' g d3)=>show (w'.cell? ⟨g,(a'-1)*2,none⟩=some (.int .i64 xs.r)∧w'.cell? ⟨g,(a'-1)*2+1,none⟩=some (.int .i64 xs.p))∧(w'.cell? ⟨g,pv*2,none⟩=some (.int .i64 ys.r)∧w'.cell? ⟨g,pv*2+1,none⟩=some (.int .i64 ys.p)) from
            ⟨by rw[←hxs];exact s.cell ((a'-1)) j1s,by rw[←hys];exact s.cell pv j2s⟩)
           have CLs:=hid (λ(w':World) (s:Sq w0 w' g d3)=>HL.out.at_ s (Only.refl n_ w') j1s j2s hxs hys)
           have DDs:=hid (S6.out.still ((Only.refl n_ W0).drew))
           obtain⟨⟨cx0s,cx1s⟩,cy0s,cy1s⟩:=KSs.out _ DDs.out
           have J1s:=hid j1s
           have J2s:=hid j2s
           have HXs:=hid hxs
           have HYs:=hid hys
           clear j1s j2s hxs hys
           by_cases hls:klt κ xs ys=true
           ·have ls:decide (kcmp κ xs ys<0)=true:=by rw[kcmp_lt];exact hls
            have HLTs:=hid hls
            clear hls
            go_wp2_with fail
            go_region_held3 (λw'=>(w'.cell? ⟨g,(a'-1)*2,none⟩=some (.int .i64 xs.r)∧w'.cell? ⟨g,(a'-1)*2+1,none⟩=some (.int .i64 xs.p))∧(w'.cell? ⟨g,pv*2,none⟩=some (.int .i64 ys.r)∧w'.cell? ⟨g,pv*2+1,none⟩=some (.int .i64 ys.p)))
             (first
              | (with_reducible exact KSs.out _ QT.out)
              | (with_reducible exact KSs.out _ DDs.out)
              | fail)
             (first
              | (go_at_call 123;(with_reducible refine (CLs.out _ DDs.out).mono ?_);rintro e u1 ⟨rfl,os⟩;have QT:=hid (DDs.out.still os);clear os)
              | fail)
            clear cx0s cx1s cy0s cy1s
            go_wp2_with fail
            go_meet
            exact⟨false,rfl,(λh=>by cases h),QT.out⟩
           ·have hls:klt κ xs ys=false:=by simpa using hls
            have ls:decide (kcmp κ xs ys<0)=false:=by rw[kcmp_lt];exact hls
            have HLTs:=hid hls
            clear hls
            go_wp2_with fail
            go_region_held3 (λw'=>(w'.cell? ⟨g,(a'-1)*2,none⟩=some (.int .i64 xs.r)∧w'.cell? ⟨g,(a'-1)*2+1,none⟩=some (.int .i64 xs.p))∧(w'.cell? ⟨g,pv*2,none⟩=some (.int .i64 ys.r)∧w'.cell? ⟨g,pv*2+1,none⟩=some (.int .i64 ys.p)))
             (first
              | (with_reducible exact KSs.out _ QT.out)
              | (with_reducible exact KSs.out _ DDs.out)
              | fail)
             (first
              | (go_at_call 123;(with_reducible refine (CLs.out _ DDs.out).mono ?_);rintro e u1 ⟨rfl,os⟩;have QT:=hid (DDs.out.still os);clear os)
              | fail)
            clear cx0s cx1s cy0s cy1s
            go_wp2_with fail
            go_meet
            exact⟨true,rfl,(λ_=>⟨A0.out,by rw[HXs.out,HYs.out,HLTs.out]⟩),QT.out⟩
          ·have t4:decide ((0:Int)<(a':Int))=false:=decide_eq_false (by omega)
           have t4n:decide (0<a')=false:=decide_eq_false ha0
           clear ha0
           go_wp2_with fail
           go_quiet (fail)
           go_wp2_with fail
           go_meet
           exact⟨false,rfl,(λh=>by cases h),S6.out.drewN _⟩
         case rest =>
          obtain⟨r,rfl,hr,hS⟩:=hcut
          have S7:=hid hS
          have RR:=hid hr
          clear hS hr S6
          obtain⟨W0,rfl⟩:∃x:World,x=wc:=⟨_,rfl⟩
          cases r with
          | true =>
           go_wp2_with fail
           (with_reducible refine (C54.out a' b' pv d3 _ S7.out K6.out PV.out.1 PV.out.2 AB.out.2.2.1).mono ?_)
           rintro e W2 ⟨m,d4,rfl,he,hS⟩
           have S8:=hid hS
           have EQ:=hid (R6.out.equal (klt_swo κ) (Nat.le_of_lt PV.out.1) PV.out.2 (RR.out (by trivial)).1 (RR.out (by trivial)).2 he)
           have K8:=hid (show d4.size=n from by rw[EQ.out.1.1];exact K6.out)
           clear hS he
           go_wp2_with fail
           go_roundw
           case rel=>exact⟨m,b',lim,wb,wp,d4,rfl,rfl,rfl,rfl,rfl,K8.out,S8.out,LM.out,permIn_trans _ _ _ _ _ P6.out (R6.out.wide EQ.out.1),EQ.out.2.2.2⟩
           case measure=>have:=EQ.out.2.1;have:=EQ.out.2.2.1;simp[intOf];omega
          | false =>
           go_wp2_with fail
           (with_reducible refine (C55.out a' b' pv d3 _ S7.out K6.out PV.out.1 PV.out.2 AB.out.2.2.1).mono ?_)
           rintro e W2 ⟨m,bp,d4,rfl,he,hS⟩
           have S8:=hid hS
           have EQ:=hid (R6.out.part (klt_swo κ) (Nat.le_of_lt PV.out.1) PV.out.2 he)
           have K8:=hid (show d4.size=n from by rw[EQ.out.1.1];exact K6.out)
           have P8:=hid (permIn_trans _ _ _ _ _ P6.out (R6.out.wide EQ.out.1))
           have R8:=hid EQ.out.2.1
           have PT:=hid EQ.out.2.2
           have MB:=hid (show a'≤m∧m<b' from ⟨PT.out.lo,PT.out.hi⟩)
           obtain⟨ll,hll⟩:∃x,x=m-a':=⟨_,rfl⟩
           obtain⟨rl,hrl⟩:∃x,x=b'-m:=⟨_,rfl⟩
           obtain⟨l8,hl8⟩:∃x,x=l / 8:=⟨_,rfl⟩
           have x1:IntKind.i64.wrap ((m:Int)-(a':Int))=(ll:Int):=by have:=MB.out;have:=AB.out;rw[IntKind.wrap_i64];omega
           have x2:IntKind.i64.wrap ((b':Int)-(m:Int))=(rl:Int):=by have:=MB.out;have:=AB.out;rw[IntKind.wrap_i64];omega
           have x3:IntKind.i64.wrap ((l:Int).tdiv 8)=(l8:Int):=by rw[show (l:Int).tdiv 8=(l8:Int) from by rw[hl8];rfl,IntKind.wrap_i64];have:=AB.out;omega
           have x3':IntKind.i64.wrap ((l:Int) / 8)=(l8:Int):=by rw[show (l:Int) / 8=(l8:Int) from by rw[hl8];rfl,IntKind.wrap_i64];have:=AB.out;omega
           have x4:IntKind.i64.wrap ((m:Int)+1)=((m+1:Nat):Int):=by have:=MB.out;have:=AB.out;rw[IntKind.wrap_i64];omega
           obtain⟨q1,hq1⟩:∃q,decide ((l8:Int)≤(ll:Int))=q:=⟨_,rfl⟩
           obtain⟨q2,hq2⟩:∃q,decide ((l8:Int)≤(rl:Int))=q:=⟨_,rfl⟩
           clear hS he EQ hll hrl hl8 S7 R6 P6 K6 RR PV
           by_cases hlr:ll<rl
           ·have tt:decide ((ll:Int)<(rl:Int))=true:=decide_eq_true (by omega)
            have ttn:decide (ll<rl)=true:=decide_eq_true hlr
            have BL:=hid (Parted.belowL R8.out PT.out)
            have MM:=hid (show a'≤m∧m<b' from ⟨PT.out.lo,PT.out.hi⟩)
            clear hlr
            go_wp2_with fail
            (with_reducible refine (IH.out a' m lim d4 _ (by have:=MM.out;have:=AB.out;omega) S8.out K8.out MM.out.1 (by have:=MM.out;have:=AB.out;omega) (by have:=LM.out;omega) BL.out).mono ?_)
            rintro e W9 ⟨rfl,d5,q,s5,hS9⟩
            have LF:=hid (R8.out.left (klt_swo κ) PT.out q s5)
            have S9:=hid hS9
            have K9:=hid (show d5.size=n from by rw[q.1];exact K8.out)
            clear q s5 hS9
            go_wp2_with fail
            go_roundw
            case rel=>exact⟨m+1,b',lim,_,_,d5,by first | rfl | go_num,rfl,rfl,rfl,rfl,K9.out,S9.out,LM.out,permIn_trans _ _ _ _ _ P8.out (R8.out.wide LF.out.1),LF.out.2⟩
            case measure=>have:=MM.out;have:=AB.out;simp[intOf];omega
           ·have tt:decide ((ll:Int)<(rl:Int))=false:=decide_eq_false (by omega)
            have ttn:decide (ll<rl)=false:=decide_eq_false hlr
            have BR:=hid (Parted.belowR PT.out)
            have MM:=hid (show a'≤m∧m<b' from ⟨PT.out.lo,PT.out.hi⟩)
            clear hlr
            go_wp2_with fail
            have CI:=IH.out (m+1) b' lim d4 W2 (by have:=MM.out;have:=AB.out;omega) S8.out K8.out (by have:=MM.out;omega) AB.out.2.2.1 (by have:=LM.out;omega) BR.out
            rw[show ((m+1:Nat):Int)=(m:Int)+1 from rfl] at CI
            (with_reducible refine CI.mono ?_)
            clear CI
            rintro e W9 ⟨rfl,d5,q,s5,hS9⟩
            have LF:=hid (R8.out.right (klt_swo κ) PT.out q s5)
            have S9:=hid hS9
            have K9:=hid (show d5.size=n from by rw[q.1];exact K8.out)
            clear q s5 hS9
            go_wp2_with fail
            go_roundw
            case rel=>exact⟨a',m,lim,_,_,d5,rfl,rfl,rfl,rfl,rfl,K9.out,S9.out,LM.out,permIn_trans _ _ _ _ _ P8.out (R8.out.wide LF.out.1),LF.out.2⟩
            case measure=>have:=MM.out;have:=AB.out;simp[intOf];omega
end Go.Proofs.YtfbpjobobdidiaaGreatDoor
