/- A heap of waiters: one sinks. -/
import Derived.Test.YtfbpjobobdidiaaGreatDoorRG02
set_option maxRecDepth 100000
namespace Go.Proofs.YtfbpjobobdidiaaGreatDoor
open Lib (hid)
open Go.Proofs.Tryz
open Go.RowKit Go.Sort
set_option linter.unusedVariables false
set_option maxHeartbeats 4000000 in
theorem sift62 {κ:Wt→Int} {w0:World} {g p n cap:Nat} (LS:Less κ w0 g p) (lo hi first:Nat) (d:Array Wt) (w:World) (S:Sq w0 w g d) (hd:d.size=n) (hlo:lo≤hi) (hb:first+hi≤n) (hn:n≤1000) :
  Calls prog 187 #[.slice (some ⟨g,0,none⟩) n cap,.int .i64 lo,.int .i64 hi,.int .i64 first,cmpV p] w λe w'=>e=.returned (.tuple #[])∧Sq w0 w' g (siftDown (klt κ) hi first lo d):=by
 have HS:=hid S
 have HL:=hid LS
 have HD:=hid hd
 clear S LS hd
 unfold cmpV
 go_enter func187,ntmps187
 go_wp2_with fail
 go_loopw [10] (λv wr=>∃(root:Nat) (dk:Array Wt),v=.int .i64 (root:Int)∧root≤hi∧dk.size=n∧Sq w0 wr g dk∧siftDown (klt κ) hi first root dk=siftDown (klt κ) hi first lo d) (λv _=>hi+1-(intOf v).toNat)
 case atStart=>exact⟨lo,d,rfl,hlo,HD.out,HS.out,rfl⟩
 case round =>
  obtain⟨W0,rfl⟩:∃x:World,x=wr:=⟨_,rfl⟩
  obtain⟨root,dk,rfl,hr,hsk,hS,hO⟩:=hrel
  have S2:=hid hS
  have O2:=hid hO
  have K2:=hid hsk
  clear hS hO hsk HS HD
  obtain⟨c,hc⟩:∃c,c=2*root+1:=⟨_,rfl⟩
  obtain⟨c1,hc1⟩:∃c1,c1=c+1:=⟨_,rfl⟩
  obtain⟨fr,hfr⟩:∃x,x=first+root:=⟨_,rfl⟩
  obtain⟨fc,hfc⟩:∃x,x=first+c:=⟨_,rfl⟩
  obtain⟨fc1,hfc1⟩:∃x,x=first+c1:=⟨_,rfl⟩
  have v1:IntKind.i64.wrap (2*(root:Int))=2*(root:Int):=by rw[IntKind.wrap_i64];omega
  have v2:IntKind.i64.wrap (2*(root:Int)+1)=(c:Int):=by rw[IntKind.wrap_i64];omega
  have v3:IntKind.i64.wrap ((c:Int)+1)=(c1:Int):=by rw[IntKind.wrap_i64];omega
  have v4:IntKind.i64.wrap ((first:Int)+(c:Int))=(fc:Int):=by rw[IntKind.wrap_i64];omega
  have v5:IntKind.i64.wrap ((fc:Int)+1)=(fc1:Int):=by rw[IntKind.wrap_i64];omega
  have v6:IntKind.i64.wrap ((first:Int)+(root:Int))=(fr:Int):=by rw[IntKind.wrap_i64];omega
  have v7:IntKind.i64.wrap ((first:Int)+(c1:Int))=(fc1:Int):=by rw[IntKind.wrap_i64];omega
  have EC:=hid (And.intro hc hc1)
  have EF:=hid (show fr=first+root∧fc=first+(2*root+1)∧fc1=first+(2*root+2) from by omega)
  by_cases hch:c<hi
  ·have t1:decide ((hi:Int)≤(c:Int))=false:=decide_eq_false (by omega)
   have FR:=hid (show fr<n from by omega)
   have FRC:=hid (show fc<n∧(c1<hi→fc1<n) from by omega)
   have AP:fr<fc∧fc<fc1:=by omega
   have b1:(fr:Int)<(n:Int):=by omega
   have b2:(fc:Int)<(n:Int):=by omega
   by_cases hc1h:c1<hi
   ·have t2:decide ((c1:Int)<(hi:Int))=true:=decide_eq_true (by omega)
    have b3:(fc1:Int)<(n:Int):=by omega
    have CH:=hid (And.intro hch hc1h)
    clear hc hc1 hfr hfc hfc1 hb
    obtain⟨xa,hxa⟩:∃x,dk[fc]! = x:=⟨_,rfl⟩
    obtain⟨ya,hya⟩:∃y,dk[fc1]! = y:=⟨_,rfl⟩
    have j1a:fc<dk.size:=by rw[K2.out];exact FRC.out.1
    have j2a:fc1<dk.size:=by rw[K2.out];exact FRC.out.2 hc1h
    have KSa:=hid (λ(w':World) (s:Sq w0 w' g dk)=>show (w'.cell? ⟨g,fc*2,none⟩=some (.int .i64 xa.r)∧w'.cell? ⟨g,fc*2+1,none⟩=some (.int .i64 xa.p))∧(w'.cell? ⟨g,fc1*2,none⟩=some (.int .i64 ya.r)∧w'.cell? ⟨g,fc1*2+1,none⟩=some (.int .i64 ya.p)) from
     ⟨by rw[←hxa];exact s.cell fc j1a,by rw[←hya];exact s.cell fc1 j2a⟩)
    have CLa:=hid (λ(w':World) (s:Sq w0 w' g dk)=>HL.out.at_ s (Only.refl n_ w') j1a j2a hxa hya)
    have DDa:=hid (S2.out.still ((Only.refl n_ W0).drew))
    obtain⟨⟨cx0a,cx1a⟩,cy0a,cy1a⟩:=KSa.out _ DDa.out
    have J1a:=hid j1a
    have J2a:=hid j2a
    have HXa:=hid hxa
    have HYa:=hid hya
    clear j1a j2a hxa hya
    by_cases hla:klt κ xa ya=true
    ·have la:decide (kcmp κ xa ya<0)=true:=by rw[kcmp_lt];exact hla
     have HLTa:=hid hla
     clear hla
     go_wp2_with fail
     go_region_held3 (λw'=>(w'.cell? ⟨g,fc*2,none⟩=some (.int .i64 xa.r)∧w'.cell? ⟨g,fc*2+1,none⟩=some (.int .i64 xa.p))∧(w'.cell? ⟨g,fc1*2,none⟩=some (.int .i64 ya.r)∧w'.cell? ⟨g,fc1*2+1,none⟩=some (.int .i64 ya.p)))
      (first
       | (with_reducible exact KSa.out _ Q1.out)
       | (with_reducible exact KSa.out _ DDa.out)
       | fail)
      (first
       | (go_at_call 123;(with_reducible refine (CLa.out _ DDa.out).mono ?_);rintro e u1 ⟨rfl,oa⟩;have Q1:=hid (DDa.out.still oa);clear oa)
       | fail)
     clear cx0a cx1a cy0a cy1a
     obtain⟨xb,hxb⟩:∃x,dk[fr]! = x:=⟨_,rfl⟩
     obtain⟨yb,hyb⟩:∃y,dk[fc1]! = y:=⟨_,rfl⟩
     have j1b:fr<dk.size:=by rw[K2.out];exact FR.out
     have j2b:fc1<dk.size:=by rw[K2.out];exact FRC.out.2 hc1h
     have KSb:=hid (λ(w':World) (s:Sq w0 w' g dk)=>show (w'.cell? ⟨g,fr*2,none⟩=some (.int .i64 xb.r)∧w'.cell? ⟨g,fr*2+1,none⟩=some (.int .i64 xb.p))∧(w'.cell? ⟨g,fc1*2,none⟩=some (.int .i64 yb.r)∧w'.cell? ⟨g,fc1*2+1,none⟩=some (.int .i64 yb.p)) from
      ⟨by rw[←hxb];exact s.cell fr j1b,by rw[←hyb];exact s.cell fc1 j2b⟩)
     have CLb:=hid (λ(w':World) (s:Sq w0 w' g dk)=>HL.out.at_ s (Only.refl n_ w') j1b j2b hxb hyb)
     have DDb:=hid (Q1.out.still ((Only.refl n_ u1).drew))
     obtain⟨⟨cx0b,cx1b⟩,cy0b,cy1b⟩:=KSb.out _ DDb.out
     have J1b:=hid j1b
     have J2b:=hid j2b
     have HXb:=hid hxb
     have HYb:=hid hyb
     clear j1b j2b hxb hyb
     by_cases hlb:klt κ xb yb=true
     ·have lb:decide (kcmp κ xb yb<0)=true:=by rw[kcmp_lt];exact hlb
      have HLTb:=hid hlb
      clear hlb
      have GO:=hid (sd_right_go (lt:=klt κ) (hi:=hi) (F:=first) (root:=root) dk (by have:=EC.out;omega) (by rw[←EF.out.2.1,←EF.out.2.2];rw[HXa.out,HYa.out];exact HLTa.out) (by rw[←EF.out.1,←EF.out.2.2,HXb.out,HYb.out];exact HLTb.out))
      go_wp2_with fail
      go_region_held3 (λw'=>(w'.cell? ⟨g,fr*2,none⟩=some (.int .i64 xb.r)∧w'.cell? ⟨g,fr*2+1,none⟩=some (.int .i64 xb.p))∧(w'.cell? ⟨g,fc1*2,none⟩=some (.int .i64 yb.r)∧w'.cell? ⟨g,fc1*2+1,none⟩=some (.int .i64 yb.p)))
       (first
        | (with_reducible exact KSb.out _ Q2.out)
        | (with_reducible exact KSb.out _ DDb.out)
        | fail)
       (first
        | (go_at_call 123;(with_reducible refine (CLb.out _ DDb.out).mono ?_);rintro e u2 ⟨rfl,ob⟩;have Q2:=hid (DDb.out.still ob);clear ob)
        | fail)
      clear cx0b cx1b cy0b cy1b
      have SW:=hid (Q2.out.still ((Only.refl n_ u2).drew) |>.swap J1b.out J2b.out HXb.out HYb.out)
      obtain⟨⟨ex0b,ex1b⟩,ey0b,ey1b⟩:=KSb.out _ Q2.out
      have fzb:∀k,u2.frozen? ⟨g,k,none⟩=false:=Q2.out.fz
      have n1b:¬ fr*2=fc1*2:=by omega
      have n2b:¬ fc1*2=fr*2:=by omega
      go_wp2_with fail
      go_region
      all_goals (try go_wp2_with fail)
      all_goals clear ex0b ex1b ey0b ey1b fzb
      all_goals
       go_roundw
       case rel=>exact⟨c1,swp dk fr fc1,rfl,by have:=EC.out;omega,by rw[size_swp];exact K2.out,SW.out,by rw[←O2.out,GO.out,EF.out.1,EF.out.2.2,show c1=_ from (by have:=EC.out;omega:c1=2*root+2)]⟩
       case measure=>have:=EC.out;simp[intOf];omega
     ·have hlb:klt κ xb yb=false:=by simpa using hlb
      have lb:decide (kcmp κ xb yb<0)=false:=by rw[kcmp_lt];exact hlb
      have HLTb:=hid hlb
      clear hlb
      have ST:=hid (sd_right_stop (lt:=klt κ) (hi:=hi) (F:=first) (root:=root) dk (by have:=EC.out;omega) (by rw[←EF.out.2.1,←EF.out.2.2];rw[HXa.out,HYa.out];exact HLTa.out) (by rw[←EF.out.1,←EF.out.2.2,HXb.out,HYb.out];exact HLTb.out))
      go_wp2_with fail
      go_region_held3 (λw'=>(w'.cell? ⟨g,fr*2,none⟩=some (.int .i64 xb.r)∧w'.cell? ⟨g,fr*2+1,none⟩=some (.int .i64 xb.p))∧(w'.cell? ⟨g,fc1*2,none⟩=some (.int .i64 yb.r)∧w'.cell? ⟨g,fc1*2+1,none⟩=some (.int .i64 yb.p)))
       (first
        | (with_reducible exact KSb.out _ Q2.out)
        | (with_reducible exact KSb.out _ DDb.out)
        | fail)
       (first
        | (go_at_call 123;(with_reducible refine (CLb.out _ DDb.out).mono ?_);rintro e u2 ⟨rfl,ob⟩;have Q2:=hid (DDb.out.still ob);clear ob)
        | fail)
      clear cx0b cx1b cy0b cy1b
      go_wp2_with fail
      refine bodyPost_ret (results_none rfl _ _ _) rfl ?_
      exact⟨rfl,by rw[←O2.out,ST.out];exact Q2.out⟩
    ·have hla:klt κ xa ya=false:=by simpa using hla
     have la:decide (kcmp κ xa ya<0)=false:=by rw[kcmp_lt];exact hla
     have HLTa:=hid hla
     clear hla
     go_wp2_with fail
     go_region_held3 (λw'=>(w'.cell? ⟨g,fc*2,none⟩=some (.int .i64 xa.r)∧w'.cell? ⟨g,fc*2+1,none⟩=some (.int .i64 xa.p))∧(w'.cell? ⟨g,fc1*2,none⟩=some (.int .i64 ya.r)∧w'.cell? ⟨g,fc1*2+1,none⟩=some (.int .i64 ya.p)))
      (first
       | (with_reducible exact KSa.out _ Q1.out)
       | (with_reducible exact KSa.out _ DDa.out)
       | fail)
      (first
       | (go_at_call 123;(with_reducible refine (CLa.out _ DDa.out).mono ?_);rintro e u1 ⟨rfl,oa⟩;have Q1:=hid (DDa.out.still oa);clear oa)
       | fail)
     clear cx0a cx1a cy0a cy1a
     obtain⟨xb,hxb⟩:∃x,dk[fr]! = x:=⟨_,rfl⟩
     obtain⟨yb,hyb⟩:∃y,dk[fc]! = y:=⟨_,rfl⟩
     have j1b:fr<dk.size:=by rw[K2.out];exact FR.out
     have j2b:fc<dk.size:=by rw[K2.out];exact FRC.out.1
     have KSb:=hid (λ(w':World) (s:Sq w0 w' g dk)=>show (w'.cell? ⟨g,fr*2,none⟩=some (.int .i64 xb.r)∧w'.cell? ⟨g,fr*2+1,none⟩=some (.int .i64 xb.p))∧(w'.cell? ⟨g,fc*2,none⟩=some (.int .i64 yb.r)∧w'.cell? ⟨g,fc*2+1,none⟩=some (.int .i64 yb.p)) from
      ⟨by rw[←hxb];exact s.cell fr j1b,by rw[←hyb];exact s.cell fc j2b⟩)
     have CLb:=hid (λ(w':World) (s:Sq w0 w' g dk)=>HL.out.at_ s (Only.refl n_ w') j1b j2b hxb hyb)
     have DDb:=hid (Q1.out.still ((Only.refl n_ u1).drew))
     obtain⟨⟨cx0b,cx1b⟩,cy0b,cy1b⟩:=KSb.out _ DDb.out
     have J1b:=hid j1b
     have J2b:=hid j2b
     have HXb:=hid hxb
     have HYb:=hid hyb
     clear j1b j2b hxb hyb
     by_cases hlb:klt κ xb yb=true
     ·have lb:decide (kcmp κ xb yb<0)=true:=by rw[kcmp_lt];exact hlb
      have HLTb:=hid hlb
      clear hlb
      have GO:=hid (sd_left_go (lt:=klt κ) (hi:=hi) (F:=first) (root:=root) dk (by have:=EC.out;omega) (λ_=>by rw[←EF.out.2.1,←EF.out.2.2];rw[HXa.out,HYa.out];exact HLTa.out) (by rw[←EF.out.1,←EF.out.2.1,HXb.out,HYb.out];exact HLTb.out))
      go_wp2_with fail
      go_region_held3 (λw'=>(w'.cell? ⟨g,fr*2,none⟩=some (.int .i64 xb.r)∧w'.cell? ⟨g,fr*2+1,none⟩=some (.int .i64 xb.p))∧(w'.cell? ⟨g,fc*2,none⟩=some (.int .i64 yb.r)∧w'.cell? ⟨g,fc*2+1,none⟩=some (.int .i64 yb.p)))
       (first
        | (with_reducible exact KSb.out _ Q2.out)
        | (with_reducible exact KSb.out _ DDb.out)
        | fail)
       (first
        | (go_at_call 123;(with_reducible refine (CLb.out _ DDb.out).mono ?_);rintro e u2 ⟨rfl,ob⟩;have Q2:=hid (DDb.out.still ob);clear ob)
        | fail)
      clear cx0b cx1b cy0b cy1b
      have SW:=hid (Q2.out.still ((Only.refl n_ u2).drew) |>.swap J1b.out J2b.out HXb.out HYb.out)
      obtain⟨⟨ex0b,ex1b⟩,ey0b,ey1b⟩:=KSb.out _ Q2.out
      have fzb:∀k,u2.frozen? ⟨g,k,none⟩=false:=Q2.out.fz
      have n1b:¬ fr*2=fc*2:=by omega
      have n2b:¬ fc*2=fr*2:=by omega
      go_wp2_with fail
      go_region
      all_goals (try go_wp2_with fail)
      all_goals clear ex0b ex1b ey0b ey1b fzb
      all_goals
       go_roundw
       case rel=>exact⟨c,swp dk fr fc,rfl,by have:=EC.out;omega,by rw[size_swp];exact K2.out,SW.out,by rw[←O2.out,GO.out,EF.out.1,EF.out.2.1,show c=_ from (by have:=EC.out;omega:c=2*root+1)]⟩
       case measure=>have:=EC.out;simp[intOf];omega
     ·have hlb:klt κ xb yb=false:=by simpa using hlb
      have lb:decide (kcmp κ xb yb<0)=false:=by rw[kcmp_lt];exact hlb
      have HLTb:=hid hlb
      clear hlb
      have ST:=hid (sd_left_stop (lt:=klt κ) (hi:=hi) (F:=first) (root:=root) dk (by have:=EC.out;omega) (λ_=>by rw[←EF.out.2.1,←EF.out.2.2];rw[HXa.out,HYa.out];exact HLTa.out) (by rw[←EF.out.1,←EF.out.2.1,HXb.out,HYb.out];exact HLTb.out))
      go_wp2_with fail
      go_region_held3 (λw'=>(w'.cell? ⟨g,fr*2,none⟩=some (.int .i64 xb.r)∧w'.cell? ⟨g,fr*2+1,none⟩=some (.int .i64 xb.p))∧(w'.cell? ⟨g,fc*2,none⟩=some (.int .i64 yb.r)∧w'.cell? ⟨g,fc*2+1,none⟩=some (.int .i64 yb.p)))
       (first
        | (with_reducible exact KSb.out _ Q2.out)
        | (with_reducible exact KSb.out _ DDb.out)
        | fail)
       (first
        | (go_at_call 123;(with_reducible refine (CLb.out _ DDb.out).mono ?_);rintro e u2 ⟨rfl,ob⟩;have Q2:=hid (DDb.out.still ob);clear ob)
        | fail)
      clear cx0b cx1b cy0b cy1b
      go_wp2_with fail
      refine bodyPost_ret (results_none rfl _ _ _) rfl ?_
      exact⟨rfl,by rw[←O2.out,ST.out];exact Q2.out⟩
   ·have t2:decide ((c1:Int)<(hi:Int))=false:=decide_eq_false (by omega)
    have CH:=hid hch
    clear hc hc1 hfr hfc hfc1 hb
    go_wp2_with fail
    go_quiet (fail)
    have S3:=hid (S2.out.drewN nq)
    revert S3
    generalize W0.drewN nq=W1
    intro S3
    obtain⟨xb,hxb⟩:∃x,dk[fr]! = x:=⟨_,rfl⟩
    obtain⟨yb,hyb⟩:∃y,dk[fc]! = y:=⟨_,rfl⟩
    have j1b:fr<dk.size:=by rw[K2.out];exact FR.out
    have j2b:fc<dk.size:=by rw[K2.out];exact FRC.out.1
    have KSb:=hid (λ(w':World) (s:Sq w0 w' g dk)=>show (w'.cell? ⟨g,fr*2,none⟩=some (.int .i64 xb.r)∧w'.cell? ⟨g,fr*2+1,none⟩=some (.int .i64 xb.p))∧(w'.cell? ⟨g,fc*2,none⟩=some (.int .i64 yb.r)∧w'.cell? ⟨g,fc*2+1,none⟩=some (.int .i64 yb.p)) from
     ⟨by rw[←hxb];exact s.cell fr j1b,by rw[←hyb];exact s.cell fc j2b⟩)
    have CLb:=hid (λ(w':World) (s:Sq w0 w' g dk)=>HL.out.at_ s (Only.refl n_ w') j1b j2b hxb hyb)
    have DDb:=hid (S3.out.still ((Only.refl n_ W1).drew))
    obtain⟨⟨cx0b,cx1b⟩,cy0b,cy1b⟩:=KSb.out _ DDb.out
    have J1b:=hid j1b
    have J2b:=hid j2b
    have HXb:=hid hxb
    have HYb:=hid hyb
    clear j1b j2b hxb hyb
    by_cases hlb:klt κ xb yb=true
    ·have lb:decide (kcmp κ xb yb<0)=true:=by rw[kcmp_lt];exact hlb
     have HLTb:=hid hlb
     clear hlb
     have GO:=hid (sd_left_go (lt:=klt κ) (hi:=hi) (F:=first) (root:=root) dk (by have:=EC.out;omega) (λh=>by have:=EC.out;omega) (by rw[←EF.out.1,←EF.out.2.1,HXb.out,HYb.out];exact HLTb.out))
     go_wp2_with fail
     go_region_held3 (λw'=>(w'.cell? ⟨g,fr*2,none⟩=some (.int .i64 xb.r)∧w'.cell? ⟨g,fr*2+1,none⟩=some (.int .i64 xb.p))∧(w'.cell? ⟨g,fc*2,none⟩=some (.int .i64 yb.r)∧w'.cell? ⟨g,fc*2+1,none⟩=some (.int .i64 yb.p)))
      (first
       | (with_reducible exact KSb.out _ Q2.out)
       | (with_reducible exact KSb.out _ DDb.out)
       | fail)
      (first
       | (go_at_call 123;(with_reducible refine (CLb.out _ DDb.out).mono ?_);rintro e u2 ⟨rfl,ob⟩;have Q2:=hid (DDb.out.still ob);clear ob)
       | fail)
     clear cx0b cx1b cy0b cy1b
     have SW:=hid (Q2.out.still ((Only.refl n_ u2).drew) |>.swap J1b.out J2b.out HXb.out HYb.out)
     obtain⟨⟨ex0b,ex1b⟩,ey0b,ey1b⟩:=KSb.out _ Q2.out
     have fzb:∀k,u2.frozen? ⟨g,k,none⟩=false:=Q2.out.fz
     have n1b:¬ fr*2=fc*2:=by omega
     have n2b:¬ fc*2=fr*2:=by omega
     go_wp2_with fail
     go_region
     all_goals (try go_wp2_with fail)
     all_goals clear ex0b ex1b ey0b ey1b fzb
     all_goals
      go_roundw
      case rel=>exact⟨c,swp dk fr fc,rfl,by have:=EC.out;omega,by rw[size_swp];exact K2.out,SW.out,by rw[←O2.out,GO.out,EF.out.1,EF.out.2.1,show c=_ from (by have:=EC.out;omega:c=2*root+1)]⟩
      case measure=>have:=EC.out;simp[intOf];omega
    ·have hlb:klt κ xb yb=false:=by simpa using hlb
     have lb:decide (kcmp κ xb yb<0)=false:=by rw[kcmp_lt];exact hlb
     have HLTb:=hid hlb
     clear hlb
     have ST:=hid (sd_left_stop (lt:=klt κ) (hi:=hi) (F:=first) (root:=root) dk (by have:=EC.out;omega) (λh=>by have:=EC.out;omega) (by rw[←EF.out.1,←EF.out.2.1,HXb.out,HYb.out];exact HLTb.out))
     go_wp2_with fail
     go_region_held3 (λw'=>(w'.cell? ⟨g,fr*2,none⟩=some (.int .i64 xb.r)∧w'.cell? ⟨g,fr*2+1,none⟩=some (.int .i64 xb.p))∧(w'.cell? ⟨g,fc*2,none⟩=some (.int .i64 yb.r)∧w'.cell? ⟨g,fc*2+1,none⟩=some (.int .i64 yb.p)))
      (first
       | (with_reducible exact KSb.out _ Q2.out)
       | (with_reducible exact KSb.out _ DDb.out)
       | fail)
      (first
       | (go_at_call 123;(with_reducible refine (CLb.out _ DDb.out).mono ?_);rintro e u2 ⟨rfl,ob⟩;have Q2:=hid (DDb.out.still ob);clear ob)
       | fail)
     clear cx0b cx1b cy0b cy1b
     go_wp2_with fail
     refine bodyPost_ret (results_none rfl _ _ _) rfl ?_
     exact⟨rfl,by rw[←O2.out,ST.out];exact Q2.out⟩
  ·have t1:decide ((hi:Int)≤(c:Int))=true:=decide_eq_true (by omega)
   have ST:=hid (sd_end (lt:=klt κ) (hi:=hi) (F:=first) (root:=root) dk (by omega))
   go_wp2_with fail
   go_end0
   exact⟨rfl,by rw[←O2.out,ST.out];exact S2.out⟩
end Go.Proofs.YtfbpjobobdidiaaGreatDoor
