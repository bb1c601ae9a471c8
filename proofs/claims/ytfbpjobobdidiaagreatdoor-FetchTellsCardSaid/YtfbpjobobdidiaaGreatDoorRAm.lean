/- The document's own answer on options, and what is usual. No condition but what each says. -/
import Derived.Test.YtfbpjobobdidiaaGreatDoorRG05
namespace Go.Proofs.YtfbpjobobdidiaaGreatDoor
open Lib (hid)
open Go.Proofs.Tryz
open Go.RowKit
set_option linter.unusedVariables false
set_option maxRecDepth 100000
def Opt.MayC (o:Opt):Prop:=
 (1≤o.b0∧o.b0≤256∧1≤o.b1∧o.b1≤64∧1≤o.b2∧o.b2≤o.b1)∧(1≤o.b3∧o.b3≤64∧0≤o.b4∧o.b4≤64∧1≤o.b5∧o.b5≤16∧1≤o.b6∧o.b6≤8) ∧
 (1≤o.b7∧o.b7≤8∧1≤o.b8∧o.b8≤16∧1≤o.b9∧o.b9≤64)∧(1≤o.b10∧o.b10≤16∧1≤o.b11∧o.b11≤32∧1≤o.b12∧o.b12≤64∧1≤o.b13∧o.b13≤16)
instance (o:Opt):Decidable o.MayC:=by unfold Opt.MayC;infer_instance
def Opt.mayB (o:Opt):Bool:=decide o.MayC
theorem may_iff (o:Opt):o.May↔o.MayC:=by
 constructor
 ·rintro ⟨h,h2⟩
  have q0:=h 0 1 256 o.b0 rfl rfl rfl
  have q1:=h 1 1 64 o.b1 rfl rfl rfl
  have q2:=h 2 1 64 o.b2 rfl rfl rfl
  have q3:=h 3 1 64 o.b3 rfl rfl rfl
  have q4:=h 4 0 64 o.b4 rfl rfl rfl
  have q5:=h 5 1 16 o.b5 rfl rfl rfl
  have q6:=h 6 1 8 o.b6 rfl rfl rfl
  have q7:=h 7 1 8 o.b7 rfl rfl rfl
  have q8:=h 8 1 16 o.b8 rfl rfl rfl
  have q9:=h 9 1 64 o.b9 rfl rfl rfl
  have q10:=h 10 1 16 o.b10 rfl rfl rfl
  have q11:=h 11 1 32 o.b11 rfl rfl rfl
  have q12:=h 12 1 64 o.b12 rfl rfl rfl
  have q13:=h 13 1 16 o.b13 rfl rfl rfl
  exact⟨⟨q0.1,q0.2,q1.1,q1.2,q2.1,h2⟩,⟨q3.1,q3.2,q4.1,q4.2,q5.1,q5.2,q6.1,q6.2⟩,⟨q7.1,q7.2,q8.1,q8.2,q9.1,q9.2⟩,q10.1,q10.2,q11.1,q11.2,q12.1,q12.2,q13.1,q13.2⟩
 ·rintro ⟨⟨p0,p0',p1,p1',p2,p2'⟩,⟨p3,p3',p4,p4',p5,p5',p6,p6'⟩,⟨p7,p7',p8,p8',p9,p9'⟩,p10,p10',p11,p11',p12,p12',p13,p13'⟩
  refine⟨λi l g x hl hg hx=>?_,p2'⟩
  match i,hl,hg,hx with
  | 0,hl,hg,hx=>(obtain rfl:=Option.some.inj hl;obtain rfl:=Option.some.inj hg;obtain rfl:=Option.some.inj hx;exact⟨p0,p0'⟩)
  | 1,hl,hg,hx=>(obtain rfl:=Option.some.inj hl;obtain rfl:=Option.some.inj hg;obtain rfl:=Option.some.inj hx;exact⟨p1,p1'⟩)
  | 2,hl,hg,hx=>(obtain rfl:=Option.some.inj hl;obtain rfl:=Option.some.inj hg;obtain rfl:=Option.some.inj hx;exact⟨p2,by omega⟩)
  | 3,hl,hg,hx=>(obtain rfl:=Option.some.inj hl;obtain rfl:=Option.some.inj hg;obtain rfl:=Option.some.inj hx;exact⟨p3,p3'⟩)
  | 4,hl,hg,hx=>(obtain rfl:=Option.some.inj hl;obtain rfl:=Option.some.inj hg;obtain rfl:=Option.some.inj hx;exact⟨p4,p4'⟩)
  | 5,hl,hg,hx=>(obtain rfl:=Option.some.inj hl;obtain rfl:=Option.some.inj hg;obtain rfl:=Option.some.inj hx;exact⟨p5,p5'⟩)
  | 6,hl,hg,hx=>(obtain rfl:=Option.some.inj hl;obtain rfl:=Option.some.inj hg;obtain rfl:=Option.some.inj hx;exact⟨p6,p6'⟩)
  | 7,hl,hg,hx=>(obtain rfl:=Option.some.inj hl;obtain rfl:=Option.some.inj hg;obtain rfl:=Option.some.inj hx;exact⟨p7,p7'⟩)
  | 8,hl,hg,hx=>(obtain rfl:=Option.some.inj hl;obtain rfl:=Option.some.inj hg;obtain rfl:=Option.some.inj hx;exact⟨p8,p8'⟩)
  | 9,hl,hg,hx=>(obtain rfl:=Option.some.inj hl;obtain rfl:=Option.some.inj hg;obtain rfl:=Option.some.inj hx;exact⟨p9,p9'⟩)
  | 10,hl,hg,hx=>(obtain rfl:=Option.some.inj hl;obtain rfl:=Option.some.inj hg;obtain rfl:=Option.some.inj hx;exact⟨p10,p10'⟩)
  | 11,hl,hg,hx=>(obtain rfl:=Option.some.inj hl;obtain rfl:=Option.some.inj hg;obtain rfl:=Option.some.inj hx;exact⟨p11,p11'⟩)
  | 12,hl,hg,hx=>(obtain rfl:=Option.some.inj hl;obtain rfl:=Option.some.inj hg;obtain rfl:=Option.some.inj hx;exact⟨p12,p12'⟩)
  | 13,hl,hg,hx=>(obtain rfl:=Option.some.inj hl;obtain rfl:=Option.some.inj hg;obtain rfl:=Option.some.inj hx;exact⟨p13,p13'⟩)
  | i+14,hl,hg,hx=>simp[lows] at hl
theorem opt_may (o:Opt) (w:World) (hb:Bd w):Calls prog 33 #[o.val] w λe w'=>e=.returned (.int .i64 (if o.mayB=true then 0 else 1))∧Only n_ w w':=by
 refine options_any o _ w hb ?_
 by_cases h:o.MayC
 ·exact .inl ⟨(may_iff o).2 h,by rw[show o.mayB=true from decide_eq_true h];rfl⟩
 ·exact .inr ⟨λk=>h ((may_iff o).1 k),by rw[show o.mayB=false from decide_eq_false h];rfl⟩
set_option maxHeartbeats 4000000 in
theorem ropt_may (o:Opt) (w:World):Calls prog 32 #[o.val] w λe w'=>e=.returned (.bool o.mayB)∧Only n_ w w':=by
  obtain⟨b0,b1,b2,b3,b4,b5,b6,b7,b8,b9,b10,b11,b12,b13⟩:=o
  have HT:=hid (λh=>show Opt.mayB ⟨b0,b1,b2,b3,b4,b5,b6,b7,b8,b9,b10,b11,b12,b13⟩=true from decide_eq_true h)
  have HF:=hid (λh=>show Opt.mayB ⟨b0,b1,b2,b3,b4,b5,b6,b7,b8,b9,b10,b11,b12,b13⟩=false from decide_eq_false h)
  unfold Opt.val
  dsimp only
  generalize Opt.mayB ⟨b0,b1,b2,b3,b4,b5,b6,b7,b8,b9,b10,b11,b12,b13⟩=m at *
  go_enter func32,ntmps32
  go_wp2_with fail
  all_goals
    go_ret
    refine⟨?_,(Only.refl n_ w).alloc _⟩
  all_goals
    first
      | (rw[HF.out (λh=>by simp only[Opt.MayC] at h;omega)];done)
      | (rw[HF.out (λh=>by simp only[Opt.MayC] at h;omega)];rfl)
      | (rw[HT.out (by simp only[Opt.MayC];omega)];done)
      | (rw[HT.out (by simp only[Opt.MayC];omega)];rfl)
      | (by_cases hq:b13≤16
         · rw[HT.out (by simp only[Opt.MayC];omega)]
           exact congrArg (λb=>Ending.returned (.bool b)) (decide_eq_true hq)
         · rw[HF.out (λh=>by simp only[Opt.MayC] at h;omega)]
           exact congrArg (λb=>Ending.returned (.bool b)) (decide_eq_false hq))
      | fail
end Go.Proofs.YtfbpjobobdidiaaGreatDoor
