/- A pivot is chosen out of a row of waiters. -/
import Derived.Test.YtfbpjobobdidiaaGreatDoorRG13
set_option maxRecDepth 100000
set_option maxHeartbeats 4000000
namespace Go.Proofs.YtfbpjobobdidiaaGreatDoor
open Lib (hid)
open Go.Proofs.Tryz
open Go.RowKit Go.Sort
set_option linter.unusedVariables false
theorem rev52 {w0:World} {g p n cap:Nat} (a b:Nat) (d:Array Wt) (w:World) (S:Sq w0 w g d) (hd:d.size=n) (hab:a<b) (hb:b≤n) (hn:n≤1000) :
  Calls prog 177 #[.slice (some ⟨g,0,none⟩) n cap,.int .i64 a,.int .i64 b,cmpV p] w λe w'=>e=.returned (.tuple #[])∧Sq w0 w' g (reverseRange d a b):=by
 have HS:=hid S
 have HD:=hid hd
 clear S hd
 obtain⟨b1,hb1⟩:∃x,x=b-1:=⟨_,rfl⟩
 have v1:IntKind.i64.wrap ((b:Int)-1)=(b1:Int):=by rw[IntKind.wrap_i64];omega
 have RE:=hid (show reverseRange d a b=reverseLoop a b1 d from by rw[hb1];rfl)
 rw[RE.out]
 have B1:=hid (show b1<n∧a≤b1 from by omega)
 clear hb1 RE
 unfold cmpV
 go_enter func177,ntmps177
 go_wp2_with fail
 go_loopw [8,9] (λv u wr=>∃(i j:Nat) (dk:Array Wt),v=.int .i64 (i:Int)∧u=.int .i64 (j:Int)∧a≤i∧j≤b1∧dk.size=n∧Sq w0 wr g dk∧reverseLoop i j dk=reverseLoop a b1 d) (λv u _=>(intOf u-intOf v).toNat)
 case atStart=>exact⟨a,b1,d,rfl,rfl,Nat.le_refl _,Nat.le_refl _,HD.out,HS.out,rfl⟩
 case round =>
  obtain⟨W0,rfl⟩:∃x:World,x=wr:=⟨_,rfl⟩
  obtain⟨i,j,dk,rfl,rfl,hai,hjb,hsk,hS,hO⟩:=hrel
  have S2:=hid hS
  have O2:=hid hO
  have K2:=hid hsk
  clear hS hO hsk HS HD
  by_cases hij:i<j
  ·have t1:decide ((i:Int)<(j:Int))=true:=decide_eq_true (by omega)
   have v2:IntKind.i64.wrap ((i:Int)+1)=((i+1:Nat):Int):=by have:=B1.out;rw[IntKind.wrap_i64];omega
   have v3:IntKind.i64.wrap ((j:Int)-1)=((j-1:Nat):Int):=by have:=B1.out;rw[IntKind.wrap_i64];omega
   have c1:(i:Int)<(n:Int):=by have:=B1.out;omega
   have c2:(j:Int)<(n:Int):=by have:=B1.out;omega
   obtain⟨xb,hxb⟩:∃x,dk[i]! = x:=⟨_,rfl⟩
   obtain⟨yb,hyb⟩:∃y,dk[j]! = y:=⟨_,rfl⟩
   have j1b:i<dk.size:=by rw[K2.out];omega
   have j2b:j<dk.size:=by rw[K2.out];omega
   have KSb:=hid (λ(w':World) (s:Sq w0 w' g dk)=>show (w'.cell? ⟨g,i*2,none⟩=some (.int .i64 xb.r)∧w'.cell? ⟨g,i*2+1,none⟩=some (.int .i64 xb.p))∧(w'.cell? ⟨g,j*2,none⟩=some (.int .i64 yb.r)∧w'.cell? ⟨g,j*2+1,none⟩=some (.int .i64 yb.p)) from
    ⟨by rw[←hxb];exact s.cell i j1b,by rw[←hyb];exact s.cell j j2b⟩)
   have DDb:=hid (S2.out.still ((Only.refl n_ W0).drew))
   obtain⟨⟨cx0b,cx1b⟩,cy0b,cy1b⟩:=KSb.out _ DDb.out
   have J1b:=hid j1b
   have J2b:=hid j2b
   have HXb:=hid hxb
   have HYb:=hid hyb
   clear j1b j2b hxb hyb
   have SW:=hid (S2.out.still ((Only.refl n_ W0).drew) |>.swap J1b.out J2b.out HXb.out HYb.out)
   obtain⟨⟨ex0b,ex1b⟩,ey0b,ey1b⟩:=KSb.out _ S2.out
   have fzb:∀k,W0.frozen? ⟨g,k,none⟩=false:=S2.out.fz
   have n1b:¬ i*2=j*2:=by omega
   have n2b:¬ j*2=i*2:=by omega
   go_wp2_with fail
   go_region
   all_goals (try go_wp2_with fail)
   all_goals clear ex0b ex1b ey0b ey1b fzb
   all_goals
    go_roundw
    case rel=>exact⟨i+1,j-1,swp dk i j,by go_num,rfl,by omega,by omega,by rw[size_swp];exact K2.out,SW.out,by rw[←O2.out];exact (show reverseLoop i j dk=_ from by rw[reverseLoop,if_pos hij]).symm⟩
    case measure=>simp[intOf];omega
  ·have t1:decide ((i:Int)<(j:Int))=false:=decide_eq_false (by omega)
   go_wp2_with fail
   go_end0
   exact⟨rfl,by rw[←O2.out,reverseLoop,if_neg hij];exact S2.out⟩
structure Sp (w0 w:World) (g:Nat) (d:Array Wt) (sb s:Nat):Prop where
 sq:Sq w0 w g d
 row:Row w sb 3 #[.int .i64 s]
 new:w0.heap.size≤sb
 ne:sb≠g
theorem Sp.still {w0 w w':World} {g:Nat} {d:Array Wt} {sb s:Nat} (h:Sp w0 w g d sb s) (o:Only n_ w w'):Sp w0 w' g d sb s:=⟨h.sq.still o,o.still h.row,h.new,h.ne⟩
theorem Sp.up {w0 w:World} {g:Nat} {d:Array Wt} {sb s:Nat} (h:Sp w0 w g d sb s) (s':Nat):Sp w0 (w.setCell ⟨sb,0,none⟩ (.int .i64 s')) g d sb s':=by
 have o:Only (λk=>k=sb) w (w.setCell ⟨sb,0,none⟩ (.int .i64 s')):=(Only.refl (λk=>k=sb) w).into rfl _ _
 refine⟨⟨λi hi=>⟨o.cell (h.sq.cell i hi).1 (λe=>h.ne e.symm),o.cell (h.sq.cell i hi).2 (λe=>h.ne e.symm)⟩,λk=>by rw[World.frozen?_setCell];exact h.sq.fz k,h.sq.ok,h.sq.only.trans o (λi hi e=>by have:=h.new;omega),Nat.lt_of_lt_of_le h.sq.lt o.size⟩,h.row.put 0 _,h.new,h.ne⟩
theorem ord66 {κ:Wt→Int} {w0:World} {g p n cap:Nat} (LS:Less κ w0 g p) (a b sb s:Nat) (d:Array Wt) (w:World) (S:Sp w0 w g d sb s) (hd:d.size=n) (ha:a<n) (hb:b<n) (hn:n≤1000) (hs:s≤1000) :
  Calls prog 191 #[.slice (some ⟨g,0,none⟩) n cap,.int .i64 a,.int .i64 b,.pointer (some ⟨sb,0,none⟩),cmpV p] w λe w'=>∃x y s':Nat,e=.returned (.tuple #[.int .i64 x,.int .i64 y])∧((x=a∧y=b)∨(x=b∧y=a))∧s'≤s+1∧Sp w0 w' g d sb s':=by
 have SP:=hid S
 have S2:=hid S.sq
 have HL:=hid LS
 have K2:=hid hd
 have c1:(a:Int)<(n:Int):=by omega
 have c2:(b:Int)<(n:Int):=by omega
 clear S LS hd
 have v1:IntKind.i64.wrap ((s:Int)+1)=((s+1:Nat):Int):=by rw[IntKind.wrap_i64];omega
 have B2:=hid (And.intro ha hb)
 obtain⟨xb,hxb⟩:∃x,d[b]! = x:=⟨_,rfl⟩
 obtain⟨yb,hyb⟩:∃y,d[a]! = y:=⟨_,rfl⟩
 have j1b:b<d.size:=by rw[K2.out];exact B2.out.2
 have j2b:a<d.size:=by rw[K2.out];exact B2.out.1
 have KSb:=hid (λ(w':World) (s:Sq w0 w' g d)=>show (w'.cell? ⟨g,b*2,none⟩=some (.int .i64 xb.r)∧w'.cell? ⟨g,b*2+1,none⟩=some (.int .i64 xb.p))∧(w'.cell? ⟨g,a*2,none⟩=some (.int .i64 yb.r)∧w'.cell? ⟨g,a*2+1,none⟩=some (.int .i64 yb.p)) from
  ⟨by rw[←hxb];exact s.cell b j1b,by rw[←hyb];exact s.cell a j2b⟩)
 have CLb:=hid (λ(w':World) (s:Sq w0 w' g d)=>HL.out.at_ s (Only.refl n_ w') j1b j2b hxb hyb)
 have DDb:=hid (S2.out.still ((Only.refl n_ w).drew))
 obtain⟨⟨cx0b,cx1b⟩,cy0b,cy1b⟩:=KSb.out _ DDb.out
 have J1b:=hid j1b
 have J2b:=hid j2b
 have HXb:=hid hxb
 have HYb:=hid hyb
 clear j1b j2b hxb hyb
 have DP:=hid (SP.out.still ((Only.refl n_ w).drew))
 unfold cmpV
 by_cases hlb:klt κ xb yb=true
 ·have lb:decide (kcmp κ xb yb<0)=true:=by rw[kcmp_lt];exact hlb
  have HLTb:=hid hlb
  clear hlb
  go_enter func191,ntmps191
  go_wp2_with fail
  go_region_held3 (λw'=>(w'.cell? ⟨g,b*2,none⟩=some (.int .i64 xb.r)∧w'.cell? ⟨g,b*2+1,none⟩=some (.int .i64 xb.p))∧(w'.cell? ⟨g,a*2,none⟩=some (.int .i64 yb.r)∧w'.cell? ⟨g,a*2+1,none⟩=some (.int .i64 yb.p)))
   (first
    | (with_reducible exact KSb.out _ Q1.out)
    | (with_reducible exact KSb.out _ DDb.out)
    | fail)
   (first
    | (go_at_call 123;(with_reducible refine (CLb.out _ DDb.out).mono ?_);rintro e u1 ⟨rfl,ob⟩;have Q1:=hid (DDb.out.still ob); have QP:=hid (DP.out.still ob);have QP:=hid (DP.out.still ob);clear ob)
    | fail)
  clear cx0b cx1b cy0b cy1b
  have rc:u1.cell? ⟨sb,0,none⟩=some (.int .i64 s):=by rw[QP.out.row.cell];rfl
  have rz:u1.frozen? ⟨sb,0,none⟩=false:=QP.out.row.frozen 0
  go_wp2_with fail
  go_ret2
  exact⟨b,a,s+1,rfl,.inr ⟨rfl,rfl⟩,Nat.le_refl _,QP.out.up (s+1)⟩
 ·have hlb:klt κ xb yb=false:=by simpa using hlb
  have lb:decide (kcmp κ xb yb<0)=false:=by rw[kcmp_lt];exact hlb
  have HLTb:=hid hlb
  clear hlb
  go_enter func191,ntmps191
  go_wp2_with fail
  go_region_held3 (λw'=>(w'.cell? ⟨g,b*2,none⟩=some (.int .i64 xb.r)∧w'.cell? ⟨g,b*2+1,none⟩=some (.int .i64 xb.p))∧(w'.cell? ⟨g,a*2,none⟩=some (.int .i64 yb.r)∧w'.cell? ⟨g,a*2+1,none⟩=some (.int .i64 yb.p)))
   (first
    | (with_reducible exact KSb.out _ Q1.out)
    | (with_reducible exact KSb.out _ DDb.out)
    | fail)
   (first
    | (go_at_call 123;(with_reducible refine (CLb.out _ DDb.out).mono ?_);rintro e u1 ⟨rfl,ob⟩;have Q1:=hid (DDb.out.still ob);have QP:=hid (DP.out.still ob);clear ob)
    | fail)
  clear cx0b cx1b cy0b cy1b
  go_wp2_with fail
  go_ret2
  exact⟨a,b,s,rfl,.inl ⟨rfl,rfl⟩,Nat.le_succ _,QP.out⟩
theorem med64 {κ:Wt→Int} {w0:World} {g p n cap:Nat} (LS:Less κ w0 g p) (a b c sb s:Nat) (d:Array Wt) (w:World) (S:Sp w0 w g d sb s) (hd:d.size=n) (ha:a<n) (hb:b<n) (hc:c<n) (hn:n≤1000) (hs:s≤900) :
  Calls prog 189 #[.slice (some ⟨g,0,none⟩) n cap,.int .i64 a,.int .i64 b,.int .i64 c,.pointer (some ⟨sb,0,none⟩),cmpV p] w λe w'=>∃x s':Nat,e=.returned (.int .i64 x)∧(x=a∨x=b∨x=c)∧s'≤s+3∧Sp w0 w' g d sb s':=by
 have SP:=hid S
 have HL:=hid LS
 have K2:=hid hd
 have OR:=hid (λ(a b s:Nat) (w:World) (S:Sp w0 w g d sb s) (ha:a<n) (hb:b<n) (hs:s≤1000)=>show Calls prog 191 #[.slice (some ⟨g,0,none⟩) n cap,.int .i64 a,.int .i64 b,.pointer (some ⟨sb,0,none⟩),.func (.func 123) #[.pointer (some ⟨p,0,none⟩)] #[]] w (λe w'=>∃x y s':Nat,e=.returned (.tuple #[.int .i64 x,.int .i64 y])∧((x=a∧y=b)∨(x=b∧y=a))∧s'≤s+1∧Sp w0 w' g d sb s') from ord66 (n:=n) (cap:=cap) HL.out a b sb s d w S K2.out ha hb hn hs)
 have BB:=hid (show a<n∧b<n∧c<n∧s≤900 from ⟨ha,hb,hc,hs⟩)
 clear S LS hd
 unfold cmpV
 go_enter func189,ntmps189
 go_wp2_with fail
 (with_reducible refine (OR.out a b s w SP.out ha hb (by omega)).mono ?_)
 rintro e w1 ⟨x1,y1,s1,rfl,h1,l1,q1⟩
 have H1:=hid h1
 have L1:=hid l1
 have Q1:=hid q1
 have C1:=hid (show x1<n∧y1<n∧s1≤950 from by omega)
 clear h1 l1 q1 SP
 go_wp2_with fail
 (with_reducible refine (OR.out y1 c s1 w1 Q1.out C1.out.2.1 BB.out.2.2.1 (by have:=C1.out;omega)).mono ?_)
 rintro e w2 ⟨x2,y2,s2,rfl,h2,l2,q2⟩
 have H2:=hid h2
 have L2:=hid l2
 have Q2:=hid q2
 have C2:=hid (show x2<n∧y2<n∧s2≤960 from by have:=C1.out;omega)
 clear h2 l2 q2 Q1
 go_wp2_with fail
 (with_reducible refine (OR.out x1 x2 s2 w2 Q2.out C1.out.1 C2.out.1 (by have:=C2.out;omega)).mono ?_)
 rintro e w3 ⟨x3,y3,s3,rfl,h3,l3,q3⟩
 have H3:=hid h3
 have L3:=hid l3
 have Q3:=hid q3
 clear h3 l3 q3 Q2
 go_wp2_with fail
 go_ret
 exact⟨y3,s3,rfl,by have:=H1.out;have:=H2.out;have:=H3.out;omega,by have:=L1.out;have:=L2.out;have:=L3.out;omega,Q3.out⟩
theorem adj63 {κ:Wt→Int} {w0:World} {g p n cap:Nat} (LS:Less κ w0 g p) (a sb s:Nat) (d:Array Wt) (w:World) (S:Sp w0 w g d sb s) (hd:d.size=n) (ha:1≤a) (hb:a+1<n) (hn:n≤1000) (hs:s≤900) :
  Calls prog 188 #[.slice (some ⟨g,0,none⟩) n cap,.int .i64 a,.pointer (some ⟨sb,0,none⟩),cmpV p] w λe w'=>∃x s':Nat,e=.returned (.int .i64 x)∧(a≤x+1∧x≤a+1)∧s'≤s+3∧Sp w0 w' g d sb s':=by
 have v1:IntKind.i64.wrap ((a:Int)-1)=((a-1:Nat):Int):=by rw[IntKind.wrap_i64];omega
 have v2:IntKind.i64.wrap ((a:Int)+1)=((a+1:Nat):Int):=by rw[IntKind.wrap_i64];omega
 have MD:=hid (show Calls prog 189 #[.slice (some ⟨g,0,none⟩) n cap,.int .i64 ((a-1:Nat):Int),.int .i64 a,.int .i64 ((a+1:Nat):Int),.pointer (some ⟨sb,0,none⟩),.func (.func 123) #[.pointer (some ⟨p,0,none⟩)] #[]] w (λe w'=>∃x s':Nat,e=.returned (.int .i64 x)∧(x=a-1∨x=a∨x=a+1)∧s'≤s+3∧Sp w0 w' g d sb s') from med64 (n:=n) (cap:=cap) LS (a-1) a (a+1) sb s d w S hd (by omega) (by omega) hb hn hs)
 generalize hA:((a-1:Nat):Int)=am at *
 generalize hB:((a+1:Nat):Int)=ap at *
 clear hA hB S LS hd
 unfold cmpV
 go_enter func188,ntmps188
 go_wp2_with fail
 (with_reducible refine MD.out.mono ?_)
 rintro e w1 ⟨x1,s1,rfl,h1,l1,q1⟩
 have H1:=hid h1
 have L1:=hid l1
 have Q1:=hid q1
 clear h1 l1 q1
 go_wp2_with fail
 go_ret
 exact⟨x1,s1,rfl,by have:=H1.out;omega,L1.out,Q1.out⟩
theorem piv51 {κ:Wt→Int} {w0:World} {g p n cap:Nat} (LS:Less κ w0 g p) (a b:Nat) (d:Array Wt) (w:World) (S:Sq w0 w g d) (hd:d.size=n) (hab:a+12<b) (hb:b≤n) (hn:n≤1000) :
  Calls prog 176 #[.slice (some ⟨g,0,none⟩) n cap,.int .i64 a,.int .i64 b,cmpV p] w λe w'=>∃x h:Nat,e=.returned (.tuple #[.int .i64 x,.int .i64 h])∧(a<x∧x+1<b)∧h≤2∧Sq w0 w' g d:=by
 have HL:=hid LS
 have K2:=hid hd
 obtain⟨l,hl⟩:∃l,l=b-a:=⟨_,rfl⟩
 obtain⟨q,hq⟩:∃q,q=l / 4:=⟨_,rfl⟩
 obtain⟨i,hi⟩:∃i,i=a+q:=⟨_,rfl⟩
 obtain⟨j,hj⟩:∃j,j=a+q*2:=⟨_,rfl⟩
 obtain⟨k,hk⟩:∃k,k=a+q*3:=⟨_,rfl⟩
 have v1:IntKind.i64.wrap ((b:Int)-(a:Int))=(l:Int):=by rw[IntKind.wrap_i64];omega
 have v2:IntKind.i64.wrap ((l:Int).tdiv 4)=(q:Int):=by rw[show (l:Int).tdiv 4=(q:Int) from by rw[hq];rfl,IntKind.wrap_i64];omega
 have v2':IntKind.i64.wrap ((l:Int) / 4)=(q:Int):=by rw[show (l:Int) / 4=(q:Int) from by rw[hq];rfl,IntKind.wrap_i64];omega
 have v3:IntKind.i64.wrap ((q:Int)*1)=(q:Int):=by rw[IntKind.wrap_i64];omega
 have v3':IntKind.i64.wrap (q:Int)=(q:Int):=by rw[IntKind.wrap_i64];omega
 have v4:IntKind.i64.wrap ((q:Int)*2)=(q:Int)*2:=by rw[IntKind.wrap_i64];omega
 have v5:IntKind.i64.wrap ((q:Int)*3)=(q:Int)*3:=by rw[IntKind.wrap_i64];omega
 have v6:IntKind.i64.wrap ((a:Int)+(q:Int))=(i:Int):=by rw[IntKind.wrap_i64];omega
 have v7:IntKind.i64.wrap ((a:Int)+(q:Int)*2)=(j:Int):=by rw[IntKind.wrap_i64];omega
 have v8:IntKind.i64.wrap ((a:Int)+(q:Int)*3)=(k:Int):=by rw[IntKind.wrap_i64];omega
 have SP:=hid (show Sp w0 (w.alloc (.cells #[.int .i64 0] 3)) g d w.heap.size 0 from ⟨S.still ((Only.refl n_ w).alloc _),Row.fresh _ _ _,S.only.size,λe=>by have:=S.lt;omega⟩)
 have t8:decide ((8:Int)≤(l:Int))=true:=decide_eq_true (by omega)
 have BB:=hid (show a<b∧3≤q∧l=b-a∧q=l / 4∧i=a+q∧j=a+q*2∧k=a+q*3 from by omega)
 have MD:=hid (λ(a b c sb s:Nat) (w:World) (S:Sp w0 w g d sb s) (ha:a<n) (hb:b<n) (hc:c<n) (hs:s≤900)=>show Calls prog 189 #[.slice (some ⟨g,0,none⟩) n cap,.int .i64 a,.int .i64 b,.int .i64 c,.pointer (some ⟨sb,0,none⟩),.func (.func 123) #[.pointer (some ⟨p,0,none⟩)] #[]] w (λe w'=>∃x s':Nat,e=.returned (.int .i64 x)∧(x=a∨x=b∨x=c)∧s'≤s+3∧Sp w0 w' g d sb s') from med64 (n:=n) (cap:=cap) HL.out a b c sb s d w S K2.out ha hb hc hn hs)
 have AD:=hid (λ(a sb s:Nat) (w:World) (S:Sp w0 w g d sb s) (ha:1≤a) (hb:a+1<n) (hs:s≤900)=>show Calls prog 188 #[.slice (some ⟨g,0,none⟩) n cap,.int .i64 a,.pointer (some ⟨sb,0,none⟩),.func (.func 123) #[.pointer (some ⟨p,0,none⟩)] #[]] w (λe w'=>∃x s':Nat,e=.returned (.int .i64 x)∧(a≤x+1∧x≤a+1)∧s'≤s+3∧Sp w0 w' g d sb s') from adj63 (n:=n) (cap:=cap) HL.out a sb s d w S K2.out ha hb hn hs)
 clear S LS hd hq hi hj hk
 have FIN:∀(m:Nat),(a≤m∧m<b)→(a≤m∧m<b):=λm h=>h
 unfold cmpV
 by_cases h50:50≤l
 ·have t50:decide ((50:Int)≤(l:Int))=true:=decide_eq_true (by omega)
  clear hl FIN hab
  go_enter func176,ntmps176
  go_wp2_with fail
  (with_reducible refine (AD.out i _ 0 _ SP.out (by have:=BB.out;omega) (by have:=BB.out;omega) (by omega)).mono ?_)
  rintro e w1 ⟨x1,s1,rfl,h1,l1,q1⟩
  have H1:=hid h1
  have L1:=hid l1
  have Q1:=hid q1
  clear h1 l1 q1 SP
  go_wp2_with fail
  (with_reducible refine (AD.out j _ s1 _ Q1.out (by have:=BB.out;omega) (by have:=BB.out;omega) (by have:=L1.out;omega)).mono ?_)
  rintro e w2 ⟨x2,s2,rfl,h2,l2,q2⟩
  have H2:=hid h2
  have L2:=hid l2
  have Q2:=hid q2
  clear h2 l2 q2 Q1
  go_wp2_with fail
  (with_reducible refine (AD.out k _ s2 _ Q2.out (by have:=BB.out;omega) (by have:=BB.out;omega) (by have:=L1.out;have:=L2.out;omega)).mono ?_)
  rintro e w3 ⟨x3,s3,rfl,h3,l3,q3⟩
  have H3:=hid h3
  have L3:=hid l3
  have Q3:=hid q3
  clear h3 l3 q3 Q2
  go_wp2_with fail
  (with_reducible refine (MD.out x1 x2 x3 _ s3 _ Q3.out (by have:=BB.out;have:=H1.out;omega) (by have:=BB.out;have:=H2.out;omega) (by have:=BB.out;have:=H3.out;omega) (by have:=L1.out;have:=L2.out;have:=L3.out;omega)).mono ?_)
  rintro e w4 ⟨x4,s4,rfl,h4,l4,q4⟩
  have H4:=hid (show a<x4∧x4+1<b from by have:=BB.out;have:=H1.out;have:=H2.out;have:=H3.out;omega)
  have L4:=hid (show s4≤12 from by have:=L1.out;have:=L2.out;have:=L3.out;omega)
  have Q4:=hid q4
  clear h4 l4 q4 Q3
  have rc:w4.cell? ⟨w.heap.size,0,none⟩=some (.int .i64 s4):=by rw[Q4.out.row.cell];rfl
  by_cases e0:s4=0
  ·have z1:((s4:Int)==0)=true:=by simp[e0]
   clear e0
   go_wp2_with fail
   go_ret2
   exact⟨x4,1,rfl,H4.out,by decide,Q4.out.sq⟩
  ·have z1:((s4:Int)==0)=false:=by simp[e0]
   by_cases e1:s4=12
   ·have z2:((s4:Int)==12)=true:=by simp[e1]
    clear e0 e1
    go_wp2_with fail
    go_ret2
    exact⟨x4,2,rfl,H4.out,by decide,Q4.out.sq⟩
   ·have z2:((s4:Int)==12)=false:=by simp;omega
    clear e0 e1
    go_wp2_with fail
    go_ret2
    exact⟨x4,0,rfl,H4.out,by decide,Q4.out.sq⟩
 ·have t50:decide ((50:Int)≤(l:Int))=false:=decide_eq_false (by omega)
  clear hl FIN hab
  go_enter func176,ntmps176
  go_wp2_with fail
  (with_reducible refine (MD.out i j k _ 0 _ SP.out (by have:=BB.out;omega) (by have:=BB.out;omega) (by have:=BB.out;omega) (by omega)).mono ?_)
  rintro e w4 ⟨x4,s4,rfl,h4,l4,q4⟩
  have H4:=hid (show a<x4∧x4+1<b from by have:=BB.out;omega)
  have L4:=hid (show s4≤12 from by omega)
  have Q4:=hid q4
  clear h4 l4 q4 SP
  have rc:w4.cell? ⟨w.heap.size,0,none⟩=some (.int .i64 s4):=by rw[Q4.out.row.cell];rfl
  by_cases e0:s4=0
  ·have z1:((s4:Int)==0)=true:=by simp[e0]
   clear e0
   go_wp2_with fail
   go_ret2
   exact⟨x4,1,rfl,H4.out,by decide,Q4.out.sq⟩
  ·have z1:((s4:Int)==0)=false:=by simp[e0]
   by_cases e1:s4=12
   ·have z2:((s4:Int)==12)=true:=by simp[e1]
    clear e0 e1
    go_wp2_with fail
    go_ret2
    exact⟨x4,2,rfl,H4.out,by decide,Q4.out.sq⟩
   ·have z2:((s4:Int)==12)=false:=by simp;omega
    clear e0 e1
    go_wp2_with fail
    go_ret2
    exact⟨x4,0,rfl,H4.out,by decide,Q4.out.sq⟩
end Go.Proofs.YtfbpjobobdidiaaGreatDoor
