/- Behind any steps no ticket is left behind as many finishings as those who wait may try: the tied card, for every options and every row of acts, on no condition but that the package's table of bounds is as its text lays it. -/
import Derived.Test.YtfbpjobobdidiaaGreatDoorTie
import Derived.Test.YtfbpjobobdidiaaGreatDoorCards
import Derived.Test.YtfbpjobobdidiaaGreatDoorQFetchDrainsW
namespace Go.Proofs.YtfbpjobobdidiaaGreatDoor.fetchDrains
open Lib (hid)
open Go.ChangeShapes Go.WideShapes Go.ChangeAt Go.RowKit
set_option linter.unusedVariables false
theorem own:ownKnob Tryz.prog.godebug=none:=by kernel_rfl
theorem laidOut:laidOutB Tryz.prog=true:=by kernel_rfl
set_option maxRecDepth 100000 in
theorem lifted (os:Os) (started:os.Started) (H:Type) (enc:TypeId × Value→H) :
  ReturnsInHanded {} Tryz.checked os 6 .any (λw args=>(Rows.fetchDrainsSpec.pre enc Tryz.prog Tryz.f6 Rows.fetchDrainsRow.domain false w args∧laidMetH Tryz.prog laidB w)∧sizedMet enc Tryz.prog Tryz.f6 (OpenSpec.ofChange Rows.fetchDrainsSpec) false w args) (Rows.fetchDrainsSpec.post enc Tryz.prog Tryz.f6 false true false false):=by
 refine returnsInHanded_of_change_and (C:=Tryz.checked) (X:=λw _=>laidMetH Tryz.prog laidB w) (λ_ _ _ hh h=>h.of_heap hh) own started (by kernel_rfl) Tryz.func6
  (ChangeSpec.witness_shaped (enc:=enc) (C:=Tryz.checked) (os:=os) (X:=λw _=>laidMetH Tryz.prog laidB w) false (World.laidAll Tryz.prog os laidB) #[.agg #[.int .i64 0,.int .i64 0,.int .i64 0,.int .i64 0,.int .i64 0,.int .i64 0,.int .i64 0,.int .i64 0,.int .i64 0,.int .i64 0,.int .i64 0,.int .i64 0,.int .i64 0,.int .i64 0],.slice none 0 0,.slice none 0 0] 8 (World.laidAll_os _ _ _)
   (laid_shaped os) (by kernel_rfl) (by kernel_rfl) (by kernel_rfl) (laid_met os _)) ?_
 intro W base args ds gs before hval0 hW _ _ hL _
 have HBD:=hid (bd_of hL)
 have hval:∀(j:Nat) t v,Tryz.f6.params[j]? = some t→args[j]? = some v→Value.okWide Tryz.prog W .any base t v:=hval0
 have hW':=hW
 obtain⟨p,q,hA0,hV,rfl,hfz,hnd⟩:=hW
 have hA:DataW.TrodAll enc Tryz.prog W 0 (λ_=>true) true Tryz.f6.params.toList args.toList ds p:=hA0
 rw[Tryz.params6] at hA hval
 obtain⟨v0,vs0,d0,ds0,p0,q0,hargs,rfl,rfl,h0,r0⟩:=trodAll_cons hA
 obtain⟨v1,vs1,d1,ds1,p1,q1,rfl,rfl,rfl,h1,r1⟩:=trodAll_cons r0
 obtain⟨v2,vs2,d2,ds2,p2,q2,rfl,rfl,rfl,h2,r2⟩:=trodAll_cons r1
 obtain⟨rfl,rfl,rfl⟩:=trodAll_nil r2
 obtain rfl:args=#[v0,v1,v2]:=by cases args;simp_all
 obtain⟨rfl,rfl⟩:=trodVars_none hV
 have o0:=hval 0 23 v0 rfl rfl
 have k0:=h0
 have lt0:∀x∈p0,x.block<W.heap.size:=by obtain⟨m,hm⟩:=k0;exact DataW.trod_lt m _ _ _ hm
 obtain⟨a0,rfl,wa0⟩:=open_opt W base H enc v0 d0 p0 o0 h0
 have k1:=h1
 have lt1:∀x∈p1,x.block<W.heap.size:=by obtain⟨m,hm⟩:=k1;exact DataW.trod_lt m _ _ _ hm
 obtain⟨ad1,len1,cap1,rfl⟩:=okWide_slice Tryz.underlying24 (hval 1 24 v1 rfl rfl)
 obtain⟨fuel1,hf1⟩:=h1
 obtain⟨max1,xs1,el1,hold1,wf1⟩:=open_acts16 hf1
 have k2:=h2
 have lt2:∀x∈p2,x.block<W.heap.size:=by obtain⟨m,hm⟩:=k2;exact DataW.trod_lt m _ _ _ hm
 obtain⟨ad2,len2,cap2,rfl⟩:=okWide_slice Tryz.underlying77 (hval 2 77 v2 rfl rfl)
 obtain⟨fuel2,hf2⟩:=h2
 obtain⟨max2,xs2,el2,hold2,wf2⟩:=open_bytes hf2
 have shut:∀W',Below W.heap.size W W'→DataW.TrodAll enc Tryz.prog W' 0 (λb=>decide (b<W.heap.size)) true [23,24,77] [a0.val,.slice ad1 len1 cap1,.slice ad2 len2 cap2] [d0,d1,d2] (p0++(p1++(p2++[]))):=λW' bel =>
  (trodAll_cons_mk (Below.trod laidOut (by kernel_rfl) (of_decide_eq_true (by kernel_rfl)) k0 bel lt0) (trodAll_cons_mk (Below.trod laidOut (by kernel_rfl) (of_decide_eq_true (by kernel_rfl)) k1 bel lt1) (trodAll_cons_mk (Below.trod laidOut (by kernel_rfl) (of_decide_eq_true (by kernel_rfl)) k2 bel lt2) trodAll_mk0)))
 clear hA0 hval0
 refine (walk W HBD.out a0 wa0 ad1 len1 cap1 xs1 max1 el1 hold1 wf1 ad2 len2 cap2 xs2 max2 el2 hold2 wf2).mono λe W' ⟨he,bel⟩=>?_
 subst he
 exact⟨_,rfl,_,_,_,[],_,[],hW',trodAll_mk1 (shut_bool Tryz.underlying4 _),shut W' bel,rfl,bel.frame _,λh=>by cases h⟩
theorem over:Rows.fetchDrainsRow.holds Tryz.pinned (OpenSpec.ofChange Rows.fetchDrainsSpec):=
 OpenClaim.holds_of_wide 6 Tryz.f6 rfl rfl rfl rfl rfl rfl rfl ⟨rfl,rfl,rfl,rfl,rfl⟩ rfl rfl rfl rfl rfl (by kernel_rfl) Tryz.func6 (by kernel_rfl)
  (of_decide_eq_true (by kernel_rfl)) (by unfold Func.isWrapper;first | (rw[if_pos (by decide +kernel)];kernel_rfl) | (rw[if_neg (by decide +kernel)];exact⟨rfl,rfl⟩))
  (λos started H enc _=>lifted os started H enc)
theorem fetchDrains_card:Rows.FetchDrainsCardSaid:=
 Claim7.holds_tied_plain_at .later [] [.wider] true (true, "564228ed393d57c4b0ab062f5d316b7d65287d55b3365b7377dd3069374d72da") true over (fun _ h => by cases h) (by kernel_rfl) (fun _ h => by cases h) fetchDrains_row_tie rfl ⟨rfl, rfl⟩ (by kernel_rfl) rfl
  (λf fn hf hfn=>by
   obtain rfl : f = 6 := Option.some.inj ((show Tryz.prog.funcNamed "forerunner/forerunnerlaw16.FetchDrains" = some 6 by kernel_rfl).symm.trans hf) |>.symm
   obtain rfl:fn=Tryz.f6:=(Option.some.inj (Tryz.func6.symm.trans hfn)).symm
   exact⟨by kernel_rfl,λj t ht=>by
    rw[Tryz.params6] at ht
    have hm:t∈[23,24,77]:=by simpa using Array.mem_of_getElem? ht
    have hall:([23,24,77].all λu=>!Tryz.prog.wantsStandIn u)=true:=by kernel_rfl
    exact (show Tryz.prog.wantsStandIn t=false by simpa using List.all_eq_true.1 hall t hm)⟩)
  (by kernel_rfl)
#print axioms fetchDrains_card
end Go.Proofs.YtfbpjobobdidiaaGreatDoor.fetchDrains
