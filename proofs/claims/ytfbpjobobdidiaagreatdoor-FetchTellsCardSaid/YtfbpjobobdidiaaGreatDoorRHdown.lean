/- A heap of places in memory: what stands at the root goes down; the first comes out. -/
import Derived.Test.YtfbpjobobdidiaaGreatDoorRG08
namespace Go.Proofs.YtfbpjobobdidiaaGreatDoor
open Lib (hid)
open Go.Proofs.Tryz
open Go.RowKit
set_option linter.unusedVariables false
set_option maxRecDepth 100000
def Downed (w:World) (c base:Nat) (v:Value) (d:List Pl) (n:Nat) (e:Ending) (w':World):Prop:=
 (∃b,e=.returned (.bool b))∧∃d',d'.Perm d∧Heaped (fv d') n∧(∀m,n≤m→d'[m]? = d[m]?)∧Qu w' c base v d'∧Only (quB c v) w w'
set_option maxHeartbeats 4000000 in
theorem down_any {w:World} {c base n:Nat} {v:Value} {d:List Pl} (h:Qu w c base v d) (hn:n≤d.length) (hd:DownOk (fv d) n 0) (hb:InB d) (hl:d.length≤1000) :
  Calls prog 132 #[.iface 174 (.pointer (some ⟨c,0,none⟩)),.int .i64 0,.int .i64 n] w (Downed w c base v d n):=by
 have H:=hid h
 have HD:=hid hd
 have HB:=hid hb
 have n1000:n≤1000:=by omega
 clear h hd hb
 go_enter func132,ntmps132
 go_wp2_with fail
 go_loopw [7] (λi wr=>∃(k:Nat) (f:List Pl),i=.int .i64 k∧k≤1000∧f.Perm d∧DownOk (fv f) n k∧(∀m,n≤m→f[m]? = d[m]?)∧Qu wr c base v f∧Only (quB c v) w wr) (λi _=>n-(intOf i).toNat)
 case atStart=>exact⟨0,d,rfl,by omega,List.Perm.refl _,HD.out,λ_ _=>rfl,H.out,Only.refl _ _⟩
 case round =>
  obtain⟨k,f,rfl,hk,hp,hd,hm,hq,ho⟩:=hrel
  have eL:=e_less
  have eS:=e_swap
  have len:=hp.length_eq
  have HM:=hid hm
  have HQ:=hid hq
  have HBF:=hid (HB.out.perm hp)
  clear hm hq H HD
  by_cases k1:n≤2*k+1
  ·have HS:=hid (down_stop hd (λm m0 h1 h2=>by omega))
   clear hd
   have t1:decide ((n:Int)≤2*(k:Int)+1)=true:=by simp;omega
   go_wp2_with fail
   go_ret
   exact⟨⟨_,rfl⟩,f,hp,HS.out,HM.out,HQ.out,ho⟩
  ·have t1:decide ((n:Int)≤2*(k:Int)+1)=false:=by simp;omega
   have t2:decide ((2*(k:Int)+1)<0)=false:=by simp;omega
   obtain⟨a,ha⟩:∃a,2*k+1=a:=⟨_,rfl⟩
   have ea:2*(k:Int)+1=(a:Int):=by omega
   obtain⟨z,hz⟩:∃z,f[k]? = some z:=⟨_,List.getElem?_eq_getElem (by omega)⟩
   obtain⟨x,hx⟩:∃x,f[a]? = some x:=⟨_,List.getElem?_eq_getElem (by omega)⟩
   have HZ:=hid hz
   have HX:=hid hx
   have BZ:=hid (HBF.out z (List.mem_of_getElem? hz))
   have BX:=hid (HBF.out x (List.mem_of_getElem? hx))
   have OO:=hid ho
   have HDN:=hid hd
   have mL:=m_less HQ.out.cellv
   clear hz hx ho hd
   by_cases k2:n≤a+1
   ·have t3:decide ((a:Int)+1<(n:Int))=false:=by simp;omega
    have QK:=hid (qless_any HQ.out.own HX.out HZ.out (by omega))
    have LK:=hid (lt_kv BX.out BZ.out)
    have LEAST:=hid (show ∀m,0<m→m<n→(m-1) / 2=k→fv f a≤fv f m from λm m0 h1 h2=>by
         have:m=a:=by omega
         rw[this];exact Int.le_refl _)
    cases hlk:ltP x z with
    | false =>
     rw[hlk] at QK LK
     have HS:=hid (down_stop HDN.out (λm m0 h1 h2=>Int.le_trans (by rw[fv_at HZ.out,fv_at HX.out];have:=LK.out;simpa using this.symm) (LEAST.out m m0 h1 h2)))
     clear hlk
     go_wp2_with fail
     (with_reducible refine (QK.out).mono ?_)
     rintro e w8 ⟨rfl,o8⟩
     go_wp2_with fail
     go_ret
     exact⟨⟨_,rfl⟩,f,hp,HS.out,HM.out,HQ.out.still o8,OO.out.idle o8⟩
    | true =>
     rw[hlk] at QK LK
     have HS:=hid (down_go HDN.out (by omega) (by omega) (by omega) (by rw[fv_at HZ.out,fv_at HX.out];have:=LK.out;simpa using this.symm) LEAST.out)
     clear hlk
     go_wp2_with fail
     (with_reducible refine (QK.out).mono ?_)
     rintro e w8 ⟨rfl,o8⟩
     have O8:=hid (OO.out.idle o8)
     have Q8:=hid (HQ.out.still o8)
     have mS:=m_swap Q8.out.cellv
     have QS:=hid (qswap_any Q8.out.own HZ.out HX.out (by omega))
     clear o8
     go_wp2_with fail
     (with_reducible refine (QS.out).mono ?_)
     rintro e w9 ⟨rfl,o2,o3⟩
     have Q9:=hid (Q8.out.rowed o3 o2)
     have O9:=hid (O8.out.same (o3.more (λ_ _ q=>Or.inr q)))
     clear o2 o3
     have FV:=hid (fv_swp HZ.out HX.out)
     go_wp2_with fail
     go_roundw
     case rel=>exact⟨a,swp12 f k a z x,rfl,by omega,(swp_perm HZ.out HX.out).trans hp,by rw[FV.out];exact HS.out,λm h1=>by rw[swp_at HZ.out HX.out,if_neg (by omega),if_neg (by omega)];exact HM.out m h1,Q9.out,O9.out⟩
     case measure=>simp[intOf];omega
   ·have t3:decide ((a:Int)+1<(n:Int))=true:=by simp;omega
    obtain⟨b,hb⟩:∃b,a+1=b:=⟨_,rfl⟩
    have eb:(a:Int)+1=(b:Int):=by omega
    obtain⟨y,hy⟩:∃y,f[b]? = some y:=⟨_,List.getElem?_eq_getElem (by omega)⟩
    have HY:=hid hy
    have BY:=hid (HBF.out y (List.mem_of_getElem? hy))
    have QJ:=hid (qless_any HQ.out.own HY.out HX.out (by omega))
    have LJ:=hid (lt_kv BY.out BX.out)
    clear hy
    cases hlj:ltP y x with
    | false =>
     rw[hlj] at QJ LJ
     clear hlj
     go_wp2_with fail
     (with_reducible refine (QJ.out).mono ?_)
     rintro e w7 ⟨rfl,o7⟩
     have Q7:=hid (HQ.out.still o7)
     have O7:=hid (OO.out.idle o7)
     clear o7 mL
     have mL:=m_less Q7.out.cellv
     have QK:=hid (qless_any Q7.out.own HX.out HZ.out (by omega))
     have LK:=hid (lt_kv BX.out BZ.out)
     have LEAST:=hid (show ∀m,0<m→m<n→(m-1) / 2=k→fv f a≤fv f m from λm m0 h1 h2=>by
           have:m=a∨m=b:=by omega
           rcases this with q | q
           ·rw[q];exact Int.le_refl _
           ·rw[q,fv_at HX.out,fv_at HY.out];have:=LJ.out;simpa using this.symm)
     cases hlk:ltP x z with
     | false =>
      rw[hlk] at QK LK
      have HS:=hid (down_stop HDN.out (λm m0 h1 h2=>Int.le_trans (by rw[fv_at HZ.out,fv_at HX.out];have:=LK.out;simpa using this.symm) (LEAST.out m m0 h1 h2)))
      clear hlk
      go_wp2_with fail
      (with_reducible refine (QK.out).mono ?_)
      rintro e w8 ⟨rfl,o8⟩
      go_wp2_with fail
      go_ret
      exact⟨⟨_,rfl⟩,f,hp,HS.out,HM.out,Q7.out.still o8,O7.out.idle o8⟩
     | true =>
      rw[hlk] at QK LK
      have HS:=hid (down_go HDN.out (by omega) (by omega) (by omega) (by rw[fv_at HZ.out,fv_at HX.out];have:=LK.out;simpa using this.symm) LEAST.out)
      clear hlk
      go_wp2_with fail
      (with_reducible refine (QK.out).mono ?_)
      rintro e w8 ⟨rfl,o8⟩
      have O8:=hid (O7.out.idle o8)
      have Q8:=hid (Q7.out.still o8)
      have mS:=m_swap Q8.out.cellv
      have QS:=hid (qswap_any Q8.out.own HZ.out HX.out (by omega))
      clear o8
      go_wp2_with fail
      (with_reducible refine (QS.out).mono ?_)
      rintro e w9 ⟨rfl,o2,o3⟩
      have Q9:=hid (Q8.out.rowed o3 o2)
      have O9:=hid (O8.out.same (o3.more (λ_ _ q=>Or.inr q)))
      clear o2 o3
      have FV:=hid (fv_swp HZ.out HX.out)
      go_wp2_with fail
      go_roundw
      case rel=>exact⟨a,swp12 f k a z x,rfl,by omega,(swp_perm HZ.out HX.out).trans hp,by rw[FV.out];exact HS.out,λm h1=>by rw[swp_at HZ.out HX.out,if_neg (by omega),if_neg (by omega)];exact HM.out m h1,Q9.out,O9.out⟩
      case measure=>simp[intOf];omega
    | true =>
     rw[hlj] at QJ LJ
     clear hlj
     go_wp2_with fail
     (with_reducible refine (QJ.out).mono ?_)
     rintro e w7 ⟨rfl,o7⟩
     have Q7:=hid (HQ.out.still o7)
     have O7:=hid (OO.out.idle o7)
     clear o7 mL
     have mL:=m_less Q7.out.cellv
     have QK:=hid (qless_any Q7.out.own HY.out HZ.out (by omega))
     have LK:=hid (lt_kv BY.out BZ.out)
     have LEAST:=hid (show ∀m,0<m→m<n→(m-1) / 2=k→fv f b≤fv f m from λm m0 h1 h2=>by
           have:m=a∨m=b:=by omega
           rcases this with q | q
           ·rw[q,fv_at HX.out,fv_at HY.out];have:=LJ.out;have:kv y<kv x:=by simpa using this.symm
            omega
           ·rw[q];exact Int.le_refl _)
     cases hlk:ltP y z with
     | false =>
      rw[hlk] at QK LK
      have HS:=hid (down_stop HDN.out (λm m0 h1 h2=>Int.le_trans (by rw[fv_at HZ.out,fv_at HY.out];have:=LK.out;simpa using this.symm) (LEAST.out m m0 h1 h2)))
      clear hlk
      go_wp2_with fail
      (with_reducible refine (QK.out).mono ?_)
      rintro e w8 ⟨rfl,o8⟩
      go_wp2_with fail
      go_ret
      exact⟨⟨_,rfl⟩,f,hp,HS.out,HM.out,Q7.out.still o8,O7.out.idle o8⟩
     | true =>
      rw[hlk] at QK LK
      have HS:=hid (down_go HDN.out (by omega) (by omega) (by omega) (by rw[fv_at HZ.out,fv_at HY.out];have:=LK.out;simpa using this.symm) LEAST.out)
      clear hlk
      go_wp2_with fail
      (with_reducible refine (QK.out).mono ?_)
      rintro e w8 ⟨rfl,o8⟩
      have O8:=hid (O7.out.idle o8)
      have Q8:=hid (Q7.out.still o8)
      have mS:=m_swap Q8.out.cellv
      have QS:=hid (qswap_any Q8.out.own HZ.out HY.out (by omega))
      clear o8
      go_wp2_with fail
      (with_reducible refine (QS.out).mono ?_)
      rintro e w9 ⟨rfl,o2,o3⟩
      have Q9:=hid (Q8.out.rowed o3 o2)
      have O9:=hid (O8.out.same (o3.more (λ_ _ q=>Or.inr q)))
      clear o2 o3
      have FV:=hid (fv_swp HZ.out HY.out)
      go_wp2_with fail
      go_roundw
      case rel=>exact⟨b,swp12 f k b z y,rfl,by omega,(swp_perm HZ.out HY.out).trans hp,by rw[FV.out];exact HS.out,λm h1=>by rw[swp_at HZ.out HY.out,if_neg (by omega),if_neg (by omega)];exact HM.out m h1,Q9.out,O9.out⟩
      case measure=>simp[intOf];omega
end Go.Proofs.YtfbpjobobdidiaaGreatDoor
