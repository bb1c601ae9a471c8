/- A row of waiters is almost sorted. -/
import Derived.Test.YtfbpjobobdidiaaGreatDoorRSo54
set_option maxRecDepth 100000
namespace Go.Proofs.YtfbpjobobdidiaaGreatDoor
open Lib (hid)
open Go.Proofs.Tryz
open Go.RowKit Go.Sort
set_option linter.unusedVariables false
set_option maxHeartbeats 4000000 in
theorem pin53 {κ:Wt→Int} {w0:World} {g p n cap:Nat} (LS:Less κ w0 g p) (a b:Nat) (d:Array Wt) (w:World) (S:Sq w0 w g d) (hd:d.size=n) (hab:a<b) (hb:b≤n) (hn:n≤1000) :
  Calls prog 178 #[.slice (some ⟨g,0,none⟩) n cap,.int .i64 a,.int .i64 b,cmpV p] w λe w'=>∃(r:Bool) (d':Array Wt),e=.returned (.bool r)∧partialInsertionSort (klt κ) d a b=(d',r)∧Sq w0 w' g d':=by
 have S0:=hid S
 have HL:=hid LS
 have K0:=hid hd
 obtain⟨l,hl⟩:∃l,l=b-a:=⟨_,rfl⟩
 have BB:=hid (show a<b∧b≤n∧n≤1000∧l=b-a from by omega)
 have v1:IntKind.i64.wrap ((a:Int)+1)=((a+1:Nat):Int):=by rw[IntKind.wrap_i64];omega
 have v2:IntKind.i64.wrap ((b:Int)-(a:Int))=(l:Int):=by rw[IntKind.wrap_i64];omega
 clear S LS hd hb hn hab hl
 unfold cmpV
 go_enter func178,ntmps178
 go_wp2_with fail
 go_loopw [9,10] (λv u wr=>∃(s i:Nat) (dk:Array Wt),u=.int .i64 (s:Int)∧v=.int .i64 (i:Int)∧(a<i∧i≤b)∧s≤5∧dk.size=n∧Sq w0 wr g dk∧partialIns (klt κ) a b (5-s) i dk=partialInsertionSort (klt κ) d a b) (λ_ u _=>5-(intOf u).toNat)
 case atStart=>exact⟨0,a+1,d,rfl,by go_num,by have:=BB.out;omega,by decide,K0.out,S0.out,rfl⟩
 case round =>
  obtain⟨W0,rfl⟩:∃x:World,x=wr:=⟨_,rfl⟩
  obtain⟨s,i,dk,rfl,rfl,hb2,hs,hsk,hS,hO⟩:=hrel
  have S2:=hid hS
  have O2:=hid hO
  have K2:=hid hsk
  have BND:=hid hb2
  clear hS hO hsk hb2 S0 K0
  by_cases hs5:s<5
  ·have t5:decide ((s:Int)<5)=true:=decide_eq_true (by omega)
   have t5n:decide (s<5)=true:=decide_eq_true hs5
   have SB:=hid hs5
   have vs:IntKind.i64.wrap ((s:Int)+1)=((s+1:Nat):Int):=by rw[IntKind.wrap_i64];omega
   clear hs hs5
   go_upto_block 2 with fail
   go_cut [9] from 19 to 38 (λv wx=>∃t:Nat,v=.int .i64 (t:Int)∧i≤t∧t≤b∧scanSorted (klt κ) dk b i=t∧Sq w0 wx g dk)
   case first =>
    go_wp2_with fail
    go_loopw [9] (λv wx=>∃t:Nat,v=.int .i64 (t:Int)∧i≤t∧t≤b∧scanSorted (klt κ) dk b t=scanSorted (klt κ) dk b i∧Sq w0 wx g dk) (λv _=>b+1-(intOf v).toNat)
    case atStart=>exact⟨i,rfl,Nat.le_refl _,BND.out.2,rfl,S2.out⟩
    case round =>
     obtain⟨W1,rfl⟩:∃x:World,x=wr:=⟨_,rfl⟩
     obtain⟨t,rfl,ht1,ht2,hT,hS⟩:=hrel
     have T2:=hid hT
     have S3:=hid hS
     clear hT hS
     by_cases hij:t<b
     ·have tt:decide ((t:Int)<(b:Int))=true:=decide_eq_true (by omega)
      have tn:decide (t<b)=true:=decide_eq_true hij
      have TT:=hid (show t<b∧i≤t∧1≤t from by have:=BND.out;omega)
      have TN:=hid (show t<n from by have:=BB.out;omega)
      have vm:IntKind.i64.wrap ((t:Int)-1)=((t-1:Nat):Int):=by have:=TT.out;have:=TN.out;have:=BB.out;rw[IntKind.wrap_i64];omega
      have c1:(t:Int)<(n:Int):=by have:=TN.out;omega
      have c2:((t-1:Nat):Int)<(n:Int):=by have:=TN.out;omega
      have vt:IntKind.i64.wrap ((t:Int)+1)=((t+1:Nat):Int):=by have:=TN.out;have:=BB.out;rw[IntKind.wrap_i64];omega
      clear hij ht1 ht2
      obtain⟨xs,hxs⟩:∃x,dk[t]! = x:=⟨_,rfl⟩
      obtain⟨ys,hys⟩:∃y,dk[(t-1)]! = y:=⟨_,rfl⟩
      have j1s:t<dk.size:=by rw[K2.out];exact TN.out
      have j2s:(t-1)<dk.size:=by rw[K2.out];have:=TN.out;omega
      have KSs:=hid (λ(w':World) (s:Sq w0 w' g dk)=>show (w'.cell? ⟨g,t*2,none⟩=some (.int .i64 xs.r)∧w'.cell? ⟨g,t*2+1,none⟩=some (.int .i64 xs.p))∧(w'.cell? ⟨g,(t-1)*2,none⟩=some (.int .i64 ys.r)∧w'.cell? ⟨g,(t-1)*2+1,none⟩=some (.int .i64 ys.p)) from
       ⟨by rw[←hxs];exact s.cell t j1s,by rw[←hys];exact s.cell ((t-1)) j2s⟩)
      have CLs:=hid (λ(w':World) (s:Sq w0 w' g dk)=>HL.out.at_ s (Only.refl n_ w') j1s j2s hxs hys)
      have DDs:=hid (S3.out.still ((Only.refl n_ W1).drew))
      obtain⟨⟨cx0s,cx1s⟩,cy0s,cy1s⟩:=KSs.out _ DDs.out
      have J1s:=hid j1s
      have J2s:=hid j2s
      have HXs:=hid hxs
      have HYs:=hid hys
      clear j1s j2s hxs hys
      by_cases hls:klt κ xs ys=true
      ·have ls:decide (kcmp κ xs ys<0)=true:=by rw[kcmp_lt];exact hls
       have HLTs:=hid hls
       clear hls
       go_wp2_with fail
       go_region_held3 (λw'=>(w'.cell? ⟨g,t*2,none⟩=some (.int .i64 xs.r)∧w'.cell? ⟨g,t*2+1,none⟩=some (.int .i64 xs.p))∧(w'.cell? ⟨g,(t-1)*2,none⟩=some (.int .i64 ys.r)∧w'.cell? ⟨g,(t-1)*2+1,none⟩=some (.int .i64 ys.p)))
        (first
         | (with_reducible exact KSs.out _ QT.out)
         | (with_reducible exact KSs.out _ DDs.out)
         | fail)
        (first
         | (go_at_call 123;(with_reducible refine (CLs.out _ DDs.out).mono ?_);rintro e u1 ⟨rfl,os⟩;have QT:=hid (DDs.out.still os);clear os)
         | fail)
       clear cx0s cx1s cy0s cy1s
       go_wp2_with fail
       go_meet
       exact⟨t,rfl,TT.out.2.1,Nat.le_of_lt TT.out.1,by rw[←T2.out,scanSorted_stop (lt:=klt κ) dk b t (.inr (by rw[HXs.out,HYs.out,HLTs.out]))],QT.out⟩
      ·have hls:klt κ xs ys=false:=by simpa using hls
       have ls:decide (kcmp κ xs ys<0)=false:=by rw[kcmp_lt];exact hls
       have HLTs:=hid hls
       clear hls
       go_wp2_with fail
       go_region_held3 (λw'=>(w'.cell? ⟨g,t*2,none⟩=some (.int .i64 xs.r)∧w'.cell? ⟨g,t*2+1,none⟩=some (.int .i64 xs.p))∧(w'.cell? ⟨g,(t-1)*2,none⟩=some (.int .i64 ys.r)∧w'.cell? ⟨g,(t-1)*2+1,none⟩=some (.int .i64 ys.p)))
        (first
         | (with_reducible exact KSs.out _ QT.out)
         | (with_reducible exact KSs.out _ DDs.out)
         | fail)
        (first
         | (go_at_call 123;(with_reducible refine (CLs.out _ DDs.out).mono ?_);rintro e u1 ⟨rfl,os⟩;have QT:=hid (DDs.out.still os);clear os)
         | fail)
       clear cx0s cx1s cy0s cy1s
       go_wp2_with fail
       go_roundw
       case rel=>exact⟨t+1,rfl,by have:=TT.out;omega,by have:=TT.out;omega,by rw[←T2.out,scanSorted_go (lt:=klt κ) dk b t TT.out.1 (by rw[HXs.out,HYs.out,HLTs.out])],QT.out⟩
       case measure=>have:=TT.out;simp[intOf];omega
     ·have tt:decide ((t:Int)<(b:Int))=false:=decide_eq_false (by omega)
      have tn:decide (t<b)=false:=decide_eq_false hij
      have TT:=hid (And.intro ht1 ht2)
      have TE:=hid (scanSorted_stop (lt:=klt κ) dk b t (.inl hij))
      clear hij ht1 ht2
      go_wp2_with fail
      go_quiet (fail)
      go_wp2_with fail
      go_meet
      exact⟨t,rfl,TT.out.1,TT.out.2,by rw[←T2.out,TE.out],S3.out.drewN _⟩
   case rest =>
    obtain⟨k,rfl,hk1,hk2,hk3,hS⟩:=hcut
    have S4:=hid hS
    have E1:=hid hk3
    clear hS S2 hk3
    obtain⟨W0,rfl⟩:∃x:World,x=wc:=⟨_,rfl⟩
    by_cases hkb:k=b
    ·have te:((k:Int)==(b:Int))=true:=by simp[hkb]
     have PT:=hid (pi_true (lt:=klt κ) a b s i dk SB.out (by rw[E1.out,hkb]))
     clear hkb hk1 hk2
     go_wp2_with fail
     go_ret
     exact⟨true,dk,rfl,by rw[←O2.out,PT.out],S4.out⟩
    ·have te:((k:Int)==(b:Int))=false:=by rw[beq_eq_false_iff_ne];intro h;exact hkb (by omega)
     by_cases h50:b-a<50
     ·have ts:decide ((l:Int)<50)=true:=decide_eq_true (by have:=BB.out;omega)
      have tsn:decide (l<50)=true:=decide_eq_true (by have:=BB.out;omega)
      have PT:=hid (pi_short (lt:=klt κ) a b s i dk SB.out (by rw[E1.out];exact hkb) h50)
      clear hkb hk1 hk2 h50
      go_wp2_with fail
      go_ret
      exact⟨false,dk,rfl,by rw[←O2.out,PT.out],S4.out⟩
     ·have ts:decide ((l:Int)<50)=false:=decide_eq_false (by have:=BB.out;omega)
      have tsn:decide (l<50)=false:=decide_eq_false (by have:=BB.out;omega)
      have GO:=hid (pi_go (lt:=klt κ) a b s i k dk SB.out E1.out hkb h50)
      obtain⟨bk,hbk⟩:∃x,x=b-k:=⟨_,rfl⟩
      obtain⟨ka,hka⟩:∃x,x=k-a:=⟨_,rfl⟩
      have KB:=hid (show a<k∧k<b∧bk=b-k∧ka=k-a from by have:=BND.out;omega)
      have vk:IntKind.i64.wrap ((k:Int)-(a:Int))=(ka:Int):=by have:=BB.out;have:=BND.out;rw[IntKind.wrap_i64];omega
      have vb:IntKind.i64.wrap ((b:Int)-(k:Int))=(bk:Int):=by have:=BB.out;have:=BND.out;rw[IntKind.wrap_i64];omega
      have vm:IntKind.i64.wrap ((k:Int)-1)=((k-1:Nat):Int):=by have:=BB.out;have:=BND.out;rw[IntKind.wrap_i64];omega
      have vp:IntKind.i64.wrap ((k:Int)+1)=((k+1:Nat):Int):=by have:=BB.out;have:=BND.out;rw[IntKind.wrap_i64];omega
      have c1:(k:Int)<(n:Int):=by have:=BB.out;omega
      have c2:((k-1:Nat):Int)<(n:Int):=by have:=BB.out;omega
      have nk:¬ k=k-1∧¬ k-1=k:=by have:=BND.out;omega
      clear hkb hk1 hk2 h50 hbk hka
      obtain⟨xk,hxk⟩:∃x,dk[k]! = x:=⟨_,rfl⟩
      obtain⟨yk,hyk⟩:∃y,dk[(k-1)]! = y:=⟨_,rfl⟩
      have j1k:k<dk.size:=by rw[K2.out];have:=KB.out;have:=BB.out;omega
      have j2k:(k-1)<dk.size:=by rw[K2.out];have:=KB.out;have:=BB.out;omega
      have KSk:=hid (λ(w':World) (s:Sq w0 w' g dk)=>show (w'.cell? ⟨g,k*2,none⟩=some (.int .i64 xk.r)∧w'.cell? ⟨g,k*2+1,none⟩=some (.int .i64 xk.p))∧(w'.cell? ⟨g,(k-1)*2,none⟩=some (.int .i64 yk.r)∧w'.cell? ⟨g,(k-1)*2+1,none⟩=some (.int .i64 yk.p)) from
       ⟨by rw[←hxk];exact s.cell k j1k,by rw[←hyk];exact s.cell ((k-1)) j2k⟩)
      have DDk:=hid (S4.out.still ((Only.refl n_ W0).drew))
      obtain⟨⟨cx0k,cx1k⟩,cy0k,cy1k⟩:=KSk.out _ DDk.out
      have J1k:=hid j1k
      have J2k:=hid j2k
      have HXk:=hid hxk
      have HYk:=hid hyk
      clear j1k j2k hxk hyk
      have SK:=hid (S4.out.still ((Only.refl n_ W0).drew) |>.swap J1k.out J2k.out HXk.out HYk.out)
      obtain⟨⟨ex0k,ex1k⟩,ey0k,ey1k⟩:=KSk.out _ S4.out
      have fzk:∀k,W0.frozen? ⟨g,k,none⟩=false:=S4.out.fz
      have n1k:¬ k*2=(k-1)*2:=by omega
      have n2k:¬ (k-1)*2=k*2:=by omega
      go_wp2_with fail
      go_region
      all_goals clear ex0k ex1k ey0k ey1k fzk
      all_goals
       obtain⟨d2,hd2⟩:∃x,x=swp dk k (k-1):=⟨_,rfl⟩
       have S5:=hid (show Sq w0 _ g d2 from by rw[hd2];exact SK.out)
       have K5:=hid (show d2.size=n from by rw[hd2,size_swp];exact K2.out)
       have D2:=hid hd2
       clear hd2 SK c1 c2
       by_cases hl:2≤k-a
       ·have tl:decide ((2:Int)≤(ka:Int))=true:=decide_eq_true (by have:=KB.out;omega)
        have tln:decide (2≤ka)=true:=decide_eq_true (by have:=KB.out;omega)
        have HLW:=hid hl
        clear hl
        go_upto_block 4 with fail
        go_cut [11] from 62 to 100 (λ_ wx=>∃dt:Array Wt,dt.size=n∧Sq w0 wx g dt∧dt=shiftDown (klt κ) (k-1) d2)
        case first =>
         go_wp2_with fail
         go_loopw [11] (λv wx=>∃(t:Nat) (dt:Array Wt),v=.int .i64 (t:Int)∧t≤k-1∧t≤b∧dt.size=n∧Sq w0 wx g dt∧shiftDown (klt κ) t dt=shiftDown (klt κ) (k-1) d2) (λv _=>(intOf v).toNat)
         case atStart=>exact⟨k-1,d2,by first | rfl | go_num,Nat.le_refl _,by have:=KB.out;omega,K5.out,S5.out,rfl⟩
         case round =>
          obtain⟨W1,rfl⟩:∃x:World,x=wr:=⟨_,rfl⟩
          obtain⟨t,dt,rfl,ht1,ht2,hK,hS,hT⟩:=hrel
          have T2:=hid hT
          have S3:=hid hS
          have KT:=hid hK
          clear hT hS hK
          by_cases hij:1≤t
          ·have tt:decide ((1:Int)≤(t:Int))=true:=decide_eq_true (by omega)
           have tn:decide (1≤t)=true:=decide_eq_true hij
           have TT:=hid (show 1≤t∧t≤k-1∧t≤b from by have:=KB.out;omega)
           have TN:=hid (show t<n from by have:=BB.out;have:=KB.out;omega)
           have vm:IntKind.i64.wrap ((t:Int)-1)=((t-1:Nat):Int):=by have:=TT.out;have:=TN.out;have:=BB.out;rw[IntKind.wrap_i64];omega
           have c1:(t:Int)<(n:Int):=by have:=TN.out;omega
           have c2:((t-1:Nat):Int)<(n:Int):=by have:=TN.out;omega
           have nn:¬ t=t-1∧¬ t-1=t:=by have:=TT.out;omega
           clear hij ht1 ht2
           obtain⟨xs,hxs⟩:∃x,dt[t]! = x:=⟨_,rfl⟩
           obtain⟨ys,hys⟩:∃y,dt[(t-1)]! = y:=⟨_,rfl⟩
           have j1s:t<dt.size:=by rw[KT.out];exact TN.out
           have j2s:(t-1)<dt.size:=by rw[KT.out];have:=TN.out;omega
           have KSs:=hid (λ(w':World) (s:Sq w0 w' g dt)=>show (w'.cell? ⟨g,t*2,none⟩=some (.int .i64 xs.r)∧w'.cell? ⟨g,t*2+1,none⟩=some (.int .i64 xs.p))∧(w'.cell? ⟨g,(t-1)*2,none⟩=some (.int .i64 ys.r)∧w'.cell? ⟨g,(t-1)*2+1,none⟩=some (.int .i64 ys.p)) from
            ⟨by rw[←hxs];exact s.cell t j1s,by rw[←hys];exact s.cell ((t-1)) j2s⟩)
           have CLs:=hid (λ(w':World) (s:Sq w0 w' g dt)=>HL.out.at_ s (Only.refl n_ w') j1s j2s hxs hys)
           have DDs:=hid (S3.out.still ((Only.refl n_ W1).drew))
           obtain⟨⟨cx0s,cx1s⟩,cy0s,cy1s⟩:=KSs.out _ DDs.out
           have J1s:=hid j1s
           have J2s:=hid j2s
           have HXs:=hid hxs
           have HYs:=hid hys
           clear j1s j2s hxs hys
           by_cases hls:klt κ xs ys=true
           ·have ls:decide (kcmp κ xs ys<0)=true:=by rw[kcmp_lt];exact hls
            have HLTs:=hid hls
            clear hls
            go_wp2_with fail
            go_region_held3 (λw'=>(w'.cell? ⟨g,t*2,none⟩=some (.int .i64 xs.r)∧w'.cell? ⟨g,t*2+1,none⟩=some (.int .i64 xs.p))∧(w'.cell? ⟨g,(t-1)*2,none⟩=some (.int .i64 ys.r)∧w'.cell? ⟨g,(t-1)*2+1,none⟩=some (.int .i64 ys.p)))
             (first
              | (with_reducible exact KSs.out _ QT.out)
              | (with_reducible exact KSs.out _ DDs.out)
              | fail)
             (first
              | (go_at_call 123;(with_reducible refine (CLs.out _ DDs.out).mono ?_);rintro e u1 ⟨rfl,os⟩;have QT:=hid (DDs.out.still os);clear os)
              | fail)
            clear cx0s cx1s cy0s cy1s
            have SW:=hid (QT.out.still ((Only.refl n_ u1).drew) |>.swap J1s.out J2s.out HXs.out HYs.out)
            obtain⟨⟨ex0s,ex1s⟩,ey0s,ey1s⟩:=KSs.out _ QT.out
            have fzs:∀k,u1.frozen? ⟨g,k,none⟩=false:=QT.out.fz
            have n1s:¬ t*2=(t-1)*2:=by omega
            have n2s:¬ (t-1)*2=t*2:=by omega
            go_wp2_with fail
            go_region
            all_goals (try go_wp2_with fail)
            all_goals clear ex0s ex1s ey0s ey1s fzs
            all_goals
             go_roundw
             case rel=>exact⟨t-1,swp dt t (t-1),rfl,by have:=TT.out;omega,by have:=TT.out;omega,by rw[size_swp];exact KT.out,SW.out,by rw[←T2.out,shiftDown_go (lt:=klt κ) t dt TT.out.1 (by rw[HXs.out,HYs.out,HLTs.out])]⟩
             case measure=>have:=TT.out;simp[intOf];omega
           ·have hls:klt κ xs ys=false:=by simpa using hls
            have ls:decide (kcmp κ xs ys<0)=false:=by rw[kcmp_lt];exact hls
            have HLTs:=hid hls
            clear hls
            go_wp2_with fail
            go_region_held3 (λw'=>(w'.cell? ⟨g,t*2,none⟩=some (.int .i64 xs.r)∧w'.cell? ⟨g,t*2+1,none⟩=some (.int .i64 xs.p))∧(w'.cell? ⟨g,(t-1)*2,none⟩=some (.int .i64 ys.r)∧w'.cell? ⟨g,(t-1)*2+1,none⟩=some (.int .i64 ys.p)))
             (first
              | (with_reducible exact KSs.out _ QT.out)
              | (with_reducible exact KSs.out _ DDs.out)
              | fail)
             (first
              | (go_at_call 123;(with_reducible refine (CLs.out _ DDs.out).mono ?_);rintro e u1 ⟨rfl,os⟩;have QT:=hid (DDs.out.still os);clear os)
              | fail)
            clear cx0s cx1s cy0s cy1s
            go_wp2_with fail
            go_meet
            exact⟨dt,KT.out,QT.out,by rw[←T2.out,shiftDown_stop (lt:=klt κ) t dt (.inr (by rw[HXs.out,HYs.out,HLTs.out]))]⟩
          ·have tt:decide ((1:Int)≤(t:Int))=false:=decide_eq_false (by omega)
           have tn:decide (1≤t)=false:=decide_eq_false hij
           have TE:=hid (shiftDown_stop (lt:=klt κ) t dt (.inl (by omega)))
           clear hij ht1 ht2
           go_wp2_with fail
           go_meet
           exact⟨dt,KT.out,S3.out,by rw[←T2.out,TE.out]⟩
        case rest =>
         obtain⟨d3,hK,hS,hE⟩:=hcut
         have S6:=hid hS
         have K6:=hid hK
         have E6:=hid (show fixDown (klt κ) a k (swp dk k (k-1))=d3 from by unfold fixDown;rw[if_pos HLW.out,←D2.out];exact hE.symm)
         clear hK hS hE
         by_cases hu:2≤b-k
         ·have tu:decide ((2:Int)≤(bk:Int))=true:=decide_eq_true (by have:=KB.out;omega)
          have tun:decide (2≤bk)=true:=decide_eq_true (by have:=KB.out;omega)
          have HU:=hid hu
          clear hu
          go_wp2_with fail
          go_loopw [12] (λv wx=>∃(t:Nat) (dt:Array Wt),v=.int .i64 (t:Int)∧k+1≤t∧t≤b∧dt.size=n∧Sq w0 wx g dt∧shiftUp (klt κ) b t dt=shiftUp (klt κ) b (k+1) d3) (λv _=>b+1-(intOf v).toNat)
          case atStart=>exact⟨k+1,d3,by first | rfl | go_num,Nat.le_refl _,by have:=KB.out;omega,K6.out,S6.out,rfl⟩
          case round =>
           obtain⟨W1,rfl⟩:∃x:World,x=wr:=⟨_,rfl⟩
           obtain⟨t,dt,rfl,ht1,ht2,hK,hS,hT⟩:=hrel
           have T2:=hid hT
           have S3:=hid hS
           have KT:=hid hK
           clear hT hS hK
           by_cases hij:t<b
           ·have tt:decide ((t:Int)<(b:Int))=true:=decide_eq_true (by omega)
            have tn:decide (t<b)=true:=decide_eq_true hij
            have TT:=hid (show t<b∧k+1≤t∧1≤t from by have:=KB.out;omega)
            have TN:=hid (show t<n from by have:=BB.out;have:=KB.out;omega)
            have vm:IntKind.i64.wrap ((t:Int)-1)=((t-1:Nat):Int):=by have:=TT.out;have:=TN.out;have:=BB.out;rw[IntKind.wrap_i64];omega
            have c1:(t:Int)<(n:Int):=by have:=TN.out;omega
            have c2:((t-1:Nat):Int)<(n:Int):=by have:=TN.out;omega
            have nn:¬ t=t-1∧¬ t-1=t:=by have:=TT.out;omega
            have vt:IntKind.i64.wrap ((t:Int)+1)=((t+1:Nat):Int):=by have:=TN.out;have:=BB.out;rw[IntKind.wrap_i64];omega
            clear hij ht1 ht2
            obtain⟨xs,hxs⟩:∃x,dt[t]! = x:=⟨_,rfl⟩
            obtain⟨ys,hys⟩:∃y,dt[(t-1)]! = y:=⟨_,rfl⟩
            have j1s:t<dt.size:=by rw[KT.out];exact TN.out
            have j2s:(t-1)<dt.size:=by rw[KT.out];have:=TN.out;omega
            have KSs:=hid (λ(w':World) (s:Sq w0 w' g dt)=>show (w'.cell? ⟨g,t*2,none⟩=some (.int .i64 xs.r)∧w'.cell? ⟨g,t*2+1,none⟩=some (.int .i64 xs.p))∧(w'.cell? ⟨g,(t-1)*2,none⟩=some (.int .i64 ys.r)∧w'.cell? ⟨g,(t-1)*2+1,none⟩=some (.int .i64 ys.p)) from
             ⟨by rw[←hxs];exact s.cell t j1s,by rw[←hys];exact s.cell ((t-1)) j2s⟩)
            have CLs:=hid (λ(w':World) (s:Sq w0 w' g dt)=>HL.out.at_ s (Only.refl n_ w') j1s j2s hxs hys)
            have DDs:=hid (S3.out.still ((Only.refl n_ W1).drew))
            obtain⟨⟨cx0s,cx1s⟩,cy0s,cy1s⟩:=KSs.out _ DDs.out
            have J1s:=hid j1s
            have J2s:=hid j2s
            have HXs:=hid hxs
            have HYs:=hid hys
            clear j1s j2s hxs hys
            by_cases hls:klt κ xs ys=true
            ·have ls:decide (kcmp κ xs ys<0)=true:=by rw[kcmp_lt];exact hls
             have HLTs:=hid hls
             clear hls
             go_wp2_with fail
             go_region_held3 (λw'=>(w'.cell? ⟨g,t*2,none⟩=some (.int .i64 xs.r)∧w'.cell? ⟨g,t*2+1,none⟩=some (.int .i64 xs.p))∧(w'.cell? ⟨g,(t-1)*2,none⟩=some (.int .i64 ys.r)∧w'.cell? ⟨g,(t-1)*2+1,none⟩=some (.int .i64 ys.p)))
              (first
               | (with_reducible exact KSs.out _ QT.out)
               | (with_reducible exact KSs.out _ DDs.out)
               | fail)
              (first
               | (go_at_call 123;(with_reducible refine (CLs.out _ DDs.out).mono ?_);rintro e u1 ⟨rfl,os⟩;have QT:=hid (DDs.out.still os);clear os)
               | fail)
             clear cx0s cx1s cy0s cy1s
             have SW:=hid (QT.out.still ((Only.refl n_ u1).drew) |>.swap J1s.out J2s.out HXs.out HYs.out)
             obtain⟨⟨ex0s,ex1s⟩,ey0s,ey1s⟩:=KSs.out _ QT.out
             have fzs:∀k,u1.frozen? ⟨g,k,none⟩=false:=QT.out.fz
             have n1s:¬ t*2=(t-1)*2:=by omega
             have n2s:¬ (t-1)*2=t*2:=by omega
             go_wp2_with fail
             go_region
             all_goals (try go_wp2_with fail)
             all_goals clear ex0s ex1s ey0s ey1s fzs
             all_goals
              go_roundw
              case rel=>exact⟨t+1,swp dt t (t-1),rfl,by have:=TT.out;omega,by have:=TT.out;omega,by rw[size_swp];exact KT.out,SW.out,by rw[←T2.out,shiftUp_go (lt:=klt κ) b t dt TT.out.1 (by rw[HXs.out,HYs.out,HLTs.out])]⟩
              case measure=>have:=TT.out;simp[intOf];omega
            ·have hls:klt κ xs ys=false:=by simpa using hls
             have ls:decide (kcmp κ xs ys<0)=false:=by rw[kcmp_lt];exact hls
             have HLTs:=hid hls
             clear hls
             go_wp2_with fail
             go_region_held3 (λw'=>(w'.cell? ⟨g,t*2,none⟩=some (.int .i64 xs.r)∧w'.cell? ⟨g,t*2+1,none⟩=some (.int .i64 xs.p))∧(w'.cell? ⟨g,(t-1)*2,none⟩=some (.int .i64 ys.r)∧w'.cell? ⟨g,(t-1)*2+1,none⟩=some (.int .i64 ys.p)))
              (first
               | (with_reducible exact KSs.out _ QT.out)
               | (with_reducible exact KSs.out _ DDs.out)
               | fail)
              (first
               | (go_at_call 123;(with_reducible refine (CLs.out _ DDs.out).mono ?_);rintro e u1 ⟨rfl,os⟩;have QT:=hid (DDs.out.still os);clear os)
               | fail)
             clear cx0s cx1s cy0s cy1s
             go_wp2_with fail
             all_goals
              go_roundw
              case rel=>exact⟨s+1,k,dt,rfl,by first | rfl | go_num,by have:=KB.out;omega,by have:=SB.out;omega,KT.out,QT.out,by rw[←O2.out,GO.out];show partialIns (klt κ) a b (5-(s+1)) k dt=partialIns (klt κ) a b (5-(s+1)) k (fixUp (klt κ) b k (fixDown (klt κ) a k (swp dk k (k-1))));rw[E6.out];unfold fixUp;rw[if_pos HU.out,←T2.out,shiftUp_stop (lt:=klt κ) b t dt (.inr (by rw[HXs.out,HYs.out,HLTs.out]))]⟩
              case measure=>have:=SB.out;simp[intOf];omega
           ·have tt:decide ((t:Int)<(b:Int))=false:=decide_eq_false (by omega)
            have tn:decide (t<b)=false:=decide_eq_false hij
            have TE:=hid (shiftUp_stop (lt:=klt κ) b t dt (.inl hij))
            clear hij ht1 ht2
            go_wp2_with fail
            all_goals
             go_roundw
             case rel=>exact⟨s+1,k,dt,rfl,by first | rfl | go_num,by have:=KB.out;omega,by have:=SB.out;omega,KT.out,S3.out,by rw[←O2.out,GO.out];show partialIns (klt κ) a b (5-(s+1)) k dt=partialIns (klt κ) a b (5-(s+1)) k (fixUp (klt κ) b k (fixDown (klt κ) a k (swp dk k (k-1))));rw[E6.out];unfold fixUp;rw[if_pos HU.out,←T2.out,TE.out]⟩
             case measure=>have:=SB.out;simp[intOf];omega
         ·have tu:decide ((2:Int)≤(bk:Int))=false:=decide_eq_false (by have:=KB.out;omega)
          have tun:decide (2≤bk)=false:=decide_eq_false (by have:=KB.out;omega)
          have HU:=hid hu
          clear hu
          go_wp2_with fail
          all_goals
           go_roundw
           case rel=>exact⟨s+1,k,d3,rfl,by first | rfl | go_num,by have:=KB.out;omega,by have:=SB.out;omega,K6.out,S6.out,by rw[←O2.out,GO.out];show partialIns (klt κ) a b (5-(s+1)) k d3=partialIns (klt κ) a b (5-(s+1)) k (fixUp (klt κ) b k (fixDown (klt κ) a k (swp dk k (k-1))));rw[E6.out];unfold fixUp;rw[if_neg HU.out]⟩
           case measure=>have:=SB.out;simp[intOf];omega
       ·have tl:decide ((2:Int)≤(ka:Int))=false:=decide_eq_false (by have:=KB.out;omega)
        have tln:decide (2≤ka)=false:=decide_eq_false (by have:=KB.out;omega)
        have E6:=hid (show fixDown (klt κ) a k (swp dk k (k-1))=d2 from by unfold fixDown;rw[if_neg hl,←D2.out])
        clear hl
        by_cases hu:2≤b-k
        ·have tu:decide ((2:Int)≤(bk:Int))=true:=decide_eq_true (by have:=KB.out;omega)
         have tun:decide (2≤bk)=true:=decide_eq_true (by have:=KB.out;omega)
         have HU:=hid hu
         clear hu
         go_wp2_with fail
         go_loopw [12] (λv wx=>∃(t:Nat) (dt:Array Wt),v=.int .i64 (t:Int)∧k+1≤t∧t≤b∧dt.size=n∧Sq w0 wx g dt∧shiftUp (klt κ) b t dt=shiftUp (klt κ) b (k+1) d2) (λv _=>b+1-(intOf v).toNat)
         case atStart=>exact⟨k+1,d2,by first | rfl | go_num,Nat.le_refl _,by have:=KB.out;omega,K5.out,S5.out,rfl⟩
         case round =>
          obtain⟨W1,rfl⟩:∃x:World,x=wr:=⟨_,rfl⟩
          obtain⟨t,dt,rfl,ht1,ht2,hK,hS,hT⟩:=hrel
          have T2:=hid hT
          have S3:=hid hS
          have KT:=hid hK
          clear hT hS hK
          by_cases hij:t<b
          ·have tt:decide ((t:Int)<(b:Int))=true:=decide_eq_true (by omega)
           have tn:decide (t<b)=true:=decide_eq_true hij
           have TT:=hid (show t<b∧k+1≤t∧1≤t from by have:=KB.out;omega)
           have TN:=hid (show t<n from by have:=BB.out;have:=KB.out;omega)
           have vm:IntKind.i64.wrap ((t:Int)-1)=((t-1:Nat):Int):=by have:=TT.out;have:=TN.out;have:=BB.out;rw[IntKind.wrap_i64];omega
           have c1:(t:Int)<(n:Int):=by have:=TN.out;omega
           have c2:((t-1:Nat):Int)<(n:Int):=by have:=TN.out;omega
           have nn:¬ t=t-1∧¬ t-1=t:=by have:=TT.out;omega
           have vt:IntKind.i64.wrap ((t:Int)+1)=((t+1:Nat):Int):=by have:=TN.out;have:=BB.out;rw[IntKind.wrap_i64];omega
           clear hij ht1 ht2
           obtain⟨xs,hxs⟩:∃x,dt[t]! = x:=⟨_,rfl⟩
           obtain⟨ys,hys⟩:∃y,dt[(t-1)]! = y:=⟨_,rfl⟩
           have j1s:t<dt.size:=by rw[KT.out];exact TN.out
           have j2s:(t-1)<dt.size:=by rw[KT.out];have:=TN.out;omega
           have KSs:=hid (λ(w':World) (s:Sq w0 w' g dt)=>show (w'.cell? ⟨g,t*2,none⟩=some (.int .i64 xs.r)∧w'.cell? ⟨g,t*2+1,none⟩=some (.int .i64 xs.p))∧(w'.cell? ⟨g,(t-1)*2,none⟩=some (.int .i64 ys.r)∧w'.cell? ⟨g,(t-1)*2+1,none⟩=some (.int .i64 ys.p)) from
            ⟨by rw[←hxs];exact s.cell t j1s,by rw[←hys];exact s.cell ((t-1)) j2s⟩)
           have CLs:=hid (λ(w':World) (s:Sq w0 w' g dt)=>HL.out.at_ s (Only.refl n_ w') j1s j2s hxs hys)
           have DDs:=hid (S3.out.still ((Only.refl n_ W1).drew))
           obtain⟨⟨cx0s,cx1s⟩,cy0s,cy1s⟩:=KSs.out _ DDs.out
           have J1s:=hid j1s
           have J2s:=hid j2s
           have HXs:=hid hxs
           have HYs:=hid hys
           clear j1s j2s hxs hys
           by_cases hls:klt κ xs ys=true
           ·have ls:decide (kcmp κ xs ys<0)=true:=by rw[kcmp_lt];exact hls
            have HLTs:=hid hls
            clear hls
            go_wp2_with fail
            go_region_held3 (λw'=>(w'.cell? ⟨g,t*2,none⟩=some (.int .i64 xs.r)∧w'.cell? ⟨g,t*2+1,none⟩=some (.int .i64 xs.p))∧(w'.cell? ⟨g,(t-1)*2,none⟩=some (.int .i64 ys.r)∧w'.cell? ⟨g,(t-1)*2+1,none⟩=some (.int .i64 ys.p)))
             (first
              | (with_reducible exact KSs.out _ QT.out)
              | (with_reducible exact KSs.out _ DDs.out)
              | fail)
             (first
              | (go_at_call 123;(with_reducible refine (CLs.out _ DDs.out).mono ?_);rintro e u1 ⟨rfl,os⟩;have QT:=hid (DDs.out.still os);clear os)
              | fail)
            clear cx0s cx1s cy0s cy1s
            have SW:=hid (QT.out.still ((Only.refl n_ u1).drew) |>.swap J1s.out J2s.out HXs.out HYs.out)
            obtain⟨⟨ex0s,ex1s⟩,ey0s,ey1s⟩:=KSs.out _ QT.out
            have fzs:∀k,u1.frozen? ⟨g,k,none⟩=false:=QT.out.fz
            have n1s:¬ t*2=(t-1)*2:=by omega
            have n2s:¬ (t-1)*2=t*2:=by omega
            go_wp2_with fail
            go_region
            all_goals (try go_wp2_with fail)
            all_goals clear ex0s ex1s ey0s ey1s fzs
            all_goals
             go_roundw
             case rel=>exact⟨t+1,swp dt t (t-1),rfl,by have:=TT.out;omega,by have:=TT.out;omega,by rw[size_swp];exact KT.out,SW.out,by rw[←T2.out,shiftUp_go (lt:=klt κ) b t dt TT.out.1 (by rw[HXs.out,HYs.out,HLTs.out])]⟩
             case measure=>have:=TT.out;simp[intOf];omega
           ·have hls:klt κ xs ys=false:=by simpa using hls
            have ls:decide (kcmp κ xs ys<0)=false:=by rw[kcmp_lt];exact hls
            have HLTs:=hid hls
            clear hls
            go_wp2_with fail
            go_region_held3 (λw'=>(w'.cell? ⟨g,t*2,none⟩=some (.int .i64 xs.r)∧w'.cell? ⟨g,t*2+1,none⟩=some (.int .i64 xs.p))∧(w'.cell? ⟨g,(t-1)*2,none⟩=some (.int .i64 ys.r)∧w'.cell? ⟨g,(t-1)*2+1,none⟩=some (.int .i64 ys.p)))
             (first
              | (with_reducible exact KSs.out _ QT.out)
              | (with_reducible exact KSs.out _ DDs.out)
              | fail)
             (first
              | (go_at_call 123;(with_reducible refine (CLs.out _ DDs.out).mono ?_);rintro e u1 ⟨rfl,os⟩;have QT:=hid (DDs.out.still os);clear os)
              | fail)
            clear cx0s cx1s cy0s cy1s
            go_wp2_with fail
            all_goals
             go_roundw
             case rel=>exact⟨s+1,k,dt,rfl,by first | rfl | go_num,by have:=KB.out;omega,by have:=SB.out;omega,KT.out,QT.out,by rw[←O2.out,GO.out];show partialIns (klt κ) a b (5-(s+1)) k dt=partialIns (klt κ) a b (5-(s+1)) k (fixUp (klt κ) b k (fixDown (klt κ) a k (swp dk k (k-1))));rw[E6.out];unfold fixUp;rw[if_pos HU.out,←T2.out,shiftUp_stop (lt:=klt κ) b t dt (.inr (by rw[HXs.out,HYs.out,HLTs.out]))]⟩
             case measure=>have:=SB.out;simp[intOf];omega
          ·have tt:decide ((t:Int)<(b:Int))=false:=decide_eq_false (by omega)
           have tn:decide (t<b)=false:=decide_eq_false hij
           have TE:=hid (shiftUp_stop (lt:=klt κ) b t dt (.inl hij))
           clear hij ht1 ht2
           go_wp2_with fail
           all_goals
            go_roundw
            case rel=>exact⟨s+1,k,dt,rfl,by first | rfl | go_num,by have:=KB.out;omega,by have:=SB.out;omega,KT.out,S3.out,by rw[←O2.out,GO.out];show partialIns (klt κ) a b (5-(s+1)) k dt=partialIns (klt κ) a b (5-(s+1)) k (fixUp (klt κ) b k (fixDown (klt κ) a k (swp dk k (k-1))));rw[E6.out];unfold fixUp;rw[if_pos HU.out,←T2.out,TE.out]⟩
            case measure=>have:=SB.out;simp[intOf];omega
        ·have tu:decide ((2:Int)≤(bk:Int))=false:=decide_eq_false (by have:=KB.out;omega)
         have tun:decide (2≤bk)=false:=decide_eq_false (by have:=KB.out;omega)
         have HU:=hid hu
         clear hu
         go_wp2_with fail
         all_goals
          go_roundw
          case rel=>exact⟨s+1,k,d2,rfl,by first | rfl | go_num,by have:=KB.out;omega,by have:=SB.out;omega,K5.out,S5.out,by rw[←O2.out,GO.out];show partialIns (klt κ) a b (5-(s+1)) k d2=partialIns (klt κ) a b (5-(s+1)) k (fixUp (klt κ) b k (fixDown (klt κ) a k (swp dk k (k-1))));rw[E6.out];unfold fixUp;rw[if_neg HU.out]⟩
          case measure=>have:=SB.out;simp[intOf];omega
  ·have t5:decide ((s:Int)<5)=false:=decide_eq_false (by omega)
   have t5n:decide (s<5)=false:=decide_eq_false hs5
   obtain rfl:s=5:=by omega
   have PE:=hid (pi_end (lt:=klt κ) a b i dk)
   clear hs hs5
   go_wp2_with fail
   go_ret
   exact⟨false,dk,rfl,by rw[←O2.out,PE.out],S2.out⟩
end Go.Proofs.YtfbpjobobdidiaaGreatDoor
