/- The document's own tracker: any access; somebody waits, something goes unused. -/
import Derived.Test.YtfmmmiiohaaegaaRfound
import Derived.Test.YtfmmmiiohaaegaaRnew
import Derived.Test.YtfmmmiiohaaegaaRnil
import Derived.Test.YtfmmmiiohaaegaaRfull
import Derived.Test.YtfmmmiiohaaegaaRtune
namespace Go.Proofs.Ytfmmmiiohaaegaa
open Go.RowKit Go.Maps
set_option linter.unusedVariables false

theorem RSat.one {w : World} {q qt qt' : Nat} {v v' : Value} {M M' : Nat → Prop} {c c' : Cf} {t t' : Tr} (h : RSat w q qt v M c t) (h' : RSat w q qt' v' M' c' t') : v = v' := by
  have := (Row.one h.row h'.row).2
  have e := congrArg (fun a : Array Value => a[0]?) this
  simpa using e
theorem racc_any {q : Nat} {M : Nat → Prop} {c : Cf} {t : Tr} (f n : Int) (w : World) (h : RS w q M c t) (hf : Fine10 c t) (hu : t.uses ≤ 900) :
    Calls Try.prog 13 #[.pointer (some ⟨q, 0, none⟩), .int .i64 f, .int .i64 n] w fun e w' => raccTwo c t f n e w q M w' := by
  cases hm : mayAcc c.blk f n with
  | false => exact racc_no f n w h hf hm
  | true =>
    cases ht : topOf t.ss f with
    | some i =>
      obtain ⟨s, hs, _⟩ := top_of ht
      exact racc_found f n w h hf hu hm i s ht hs
    | none =>
      cases hb : lookB c.size c.life t.es f n with
      | false => exact racc_none f n w h hf hu hm ht hb
      | true =>
        by_cases hfull : c.most ≤ t.ss.length
        · exact racc_full f n w h hf hu hm ht hb hfull (fun e => by have := hf.ok.m1; rw [e] at hfull; simp at hfull; omega)
        · have h' := h
          obtain ⟨qt, v, hr⟩ := h'
          by_cases hv : v = .slice none 0 0
          · exact racc_nil f n w h hf hu hm ht hb hfull (fun qt' v' hr' => by rw [← hr.one hr']; exact hv)
          · exact racc_new f n w h hf hu hm ht hb hfull (fun qt' v' hr' => by rw [← hr.one hr']; exact hv)
end Go.Proofs.Ytfmmmiiohaaegaa
