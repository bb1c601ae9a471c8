/-
  No cell of these rows narrows 'for every input' (looked for: loops, veiled, ifaces, maps, wideKeys, modest, calm, conditions, laid).
  DERIVED. THE GIVEN ROWS OF THIS SEAT. 7 by the template 'for every input the law returns true; each argument reads behind the call as it read before'; 0 by the template 'total and deterministic' (their statements: YtkjjahkldahahaaTotals.lean).
  GIVEN WITH THE SEED: the statements are not yours to turn. If you find one false, say at which input.
  Laid BY PROGRAM, IN A SANDBOX (cutbox-rows.mjs): the forced cells as the released guide's own fill.sh prints them over the translation 3e066e06a2cbb9c8… (all of the seat's roots in one cut). By AI agents, Wed Nov 11 2026. No macro, syntax, notation, axiom, sorry.
-/
import Derived.Test.YtkjjahkldahahaaChecked
import GoSem.Claim
import GoSem.ClaimJoined
import GoSem.ClaimMapViews
import Derived.JoinedTies
import Derived.KernelRfl
namespace Go.Proofs.Ytkjjahkldahahaa
/- THE CELL 'sum', in the pinned program and in every row, IS THE sha256 OF THE DUMP (.gsa) THAT YtkjjahkldahahaaProg.lean LOADS. Nothing in Lean hashes anything: it is a label: what it is worth is what the hold of that sum in a sandbox is worth. -/
noncomputable def Try.pinned : Pinned := { name := "ytkjjahkldahahaa", sum := "3e066e06a2cbb9c84f7be9d6f55e687562adb9741d01187bd245fe3170898859", checked := Try.checked }
namespace Rows
def none {H : Type} : Left H := { results := [], args := [] }

/-- 'forerunnerlaw01.SatReckons': WHATEVER THE INPUT: true; the input reads as it did. -/
def satReckonsSpec : ChangeSpec := { name := "satReckons", fn := fun _ => fun
  | [d1, d2] => { results := [.lit (.bool true)], args := [d1, d2] }
  | _ => none }
def satReckonsRow : OpenClaim := { program := "ytkjjahkldahahaa", sum := "3e066e06a2cbb9c84f7be9d6f55e687562adb9741d01187bd245fe3170898859", func := "forerunner/forerunnerlaw01.SatReckons", spec := "satReckons", inPlace := ["math/bits.Add64"], unfollowed := true, recurses := true, named := ["math/bits.divideError", "math/bits.overflowError"], apart := false }
def SatReckonsSaid : Prop := satReckonsRow.holds Try.pinned (OpenSpec.ofChange satReckonsSpec)

/-- ITS FALSE NEIGHBOUR: 'it returns false'. Refute it at one input. -/
def satReckonsWrong : ChangeSpec := { name := "satReckons", fn := fun _ => fun
  | [d1, d2] => { results := [.lit (.bool false)], args := [d1, d2] }
  | _ => none }
def SatReckonsWrongFalsely : Prop := satReckonsRow.holds Try.pinned (OpenSpec.ofChange satReckonsWrong)

/-- 'forerunnerlaw01.SatCross': WHATEVER THE INPUT: true; the input reads as it did. -/
def satCrossSpec : ChangeSpec := { name := "satCross", fn := fun _ => fun
  | [d1, d2] => { results := [.lit (.bool true)], args := [d1, d2] }
  | _ => none }
def satCrossRow : OpenClaim := { program := "ytkjjahkldahahaa", sum := "3e066e06a2cbb9c84f7be9d6f55e687562adb9741d01187bd245fe3170898859", func := "forerunner/forerunnerlaw01.SatCross", spec := "satCross", inPlace := ["math/bits.Add64"], unfollowed := true, recurses := true, named := ["math/bits.divideError", "math/bits.overflowError"], apart := false }
def SatCrossSaid : Prop := satCrossRow.holds Try.pinned (OpenSpec.ofChange satCrossSpec)

/-- ITS FALSE NEIGHBOUR: 'it returns false'. Refute it at one input. -/
def satCrossWrong : ChangeSpec := { name := "satCross", fn := fun _ => fun
  | [d1, d2] => { results := [.lit (.bool false)], args := [d1, d2] }
  | _ => none }
def SatCrossWrongFalsely : Prop := satCrossRow.holds Try.pinned (OpenSpec.ofChange satCrossWrong)

/-- 'forerunnerlaw01.SatClamps': WHATEVER THE INPUT: true; the input reads as it did. -/
def satClampsSpec : ChangeSpec := { name := "satClamps", fn := fun _ => fun
  | [d1, d2, d3] => { results := [.lit (.bool true)], args := [d1, d2, d3] }
  | _ => none }
def satClampsRow : OpenClaim := { program := "ytkjjahkldahahaa", sum := "3e066e06a2cbb9c84f7be9d6f55e687562adb9741d01187bd245fe3170898859", func := "forerunner/forerunnerlaw01.SatClamps", spec := "satClamps", inPlace := ["math/bits.Add64"], unfollowed := true, recurses := true, named := ["math/bits.divideError", "math/bits.overflowError"], apart := false }
def SatClampsSaid : Prop := satClampsRow.holds Try.pinned (OpenSpec.ofChange satClampsSpec)

/-- ITS FALSE NEIGHBOUR: 'it returns false'. Refute it at one input. -/
def satClampsWrong : ChangeSpec := { name := "satClamps", fn := fun _ => fun
  | [d1, d2, d3] => { results := [.lit (.bool false)], args := [d1, d2, d3] }
  | _ => none }
def SatClampsWrongFalsely : Prop := satClampsRow.holds Try.pinned (OpenSpec.ofChange satClampsWrong)

/-- 'forerunnerlaw01.SatGrows': WHATEVER THE INPUT: true; the input reads as it did. -/
def satGrowsSpec : ChangeSpec := { name := "satGrows", fn := fun _ => fun
  | [d1, d2, d3] => { results := [.lit (.bool true)], args := [d1, d2, d3] }
  | _ => none }
def satGrowsRow : OpenClaim := { program := "ytkjjahkldahahaa", sum := "3e066e06a2cbb9c84f7be9d6f55e687562adb9741d01187bd245fe3170898859", func := "forerunner/forerunnerlaw01.SatGrows", spec := "satGrows", inPlace := ["math/bits.Add64"], unfollowed := true, recurses := true, named := ["math/bits.divideError", "math/bits.overflowError"], apart := false }
def SatGrowsSaid : Prop := satGrowsRow.holds Try.pinned (OpenSpec.ofChange satGrowsSpec)

/-- ITS FALSE NEIGHBOUR: 'it returns false'. Refute it at one input. -/
def satGrowsWrong : ChangeSpec := { name := "satGrows", fn := fun _ => fun
  | [d1, d2, d3] => { results := [.lit (.bool false)], args := [d1, d2, d3] }
  | _ => none }
def SatGrowsWrongFalsely : Prop := satGrowsRow.holds Try.pinned (OpenSpec.ofChange satGrowsWrong)

/-- 'forerunnerlaw01.SatBack': WHATEVER THE INPUT: true; the input reads as it did. -/
def satBackSpec : ChangeSpec := { name := "satBack", fn := fun _ => fun
  | [d1, d2] => { results := [.lit (.bool true)], args := [d1, d2] }
  | _ => none }
def satBackRow : OpenClaim := { program := "ytkjjahkldahahaa", sum := "3e066e06a2cbb9c84f7be9d6f55e687562adb9741d01187bd245fe3170898859", func := "forerunner/forerunnerlaw01.SatBack", spec := "satBack", inPlace := ["math/bits.Add64"], unfollowed := true, recurses := true, named := ["math/bits.divideError", "math/bits.overflowError"], apart := false }
def SatBackSaid : Prop := satBackRow.holds Try.pinned (OpenSpec.ofChange satBackSpec)

/-- ITS FALSE NEIGHBOUR: 'it returns false'. Refute it at one input. -/
def satBackWrong : ChangeSpec := { name := "satBack", fn := fun _ => fun
  | [d1, d2] => { results := [.lit (.bool false)], args := [d1, d2] }
  | _ => none }
def SatBackWrongFalsely : Prop := satBackRow.holds Try.pinned (OpenSpec.ofChange satBackWrong)

/-- 'forerunnerlaw01.SatScaled': WHATEVER THE INPUT: true; the input reads as it did. -/
def satScaledSpec : ChangeSpec := { name := "satScaled", fn := fun _ => fun
  | [d1, d2, d3] => { results := [.lit (.bool true)], args := [d1, d2, d3] }
  | _ => none }
def satScaledRow : OpenClaim := { program := "ytkjjahkldahahaa", sum := "3e066e06a2cbb9c84f7be9d6f55e687562adb9741d01187bd245fe3170898859", func := "forerunner/forerunnerlaw01.SatScaled", spec := "satScaled", inPlace := ["math/bits.Add64"], unfollowed := true, recurses := true, named := ["math/bits.divideError", "math/bits.overflowError"], apart := false }
def SatScaledSaid : Prop := satScaledRow.holds Try.pinned (OpenSpec.ofChange satScaledSpec)

/-- ITS FALSE NEIGHBOUR: 'it returns false'. Refute it at one input. -/
def satScaledWrong : ChangeSpec := { name := "satScaled", fn := fun _ => fun
  | [d1, d2, d3] => { results := [.lit (.bool false)], args := [d1, d2, d3] }
  | _ => none }
def SatScaledWrongFalsely : Prop := satScaledRow.holds Try.pinned (OpenSpec.ofChange satScaledWrong)

/-- 'forerunnerlaw01.SatMirror': WHATEVER THE INPUT: true; the input reads as it did. -/
def satMirrorSpec : ChangeSpec := { name := "satMirror", fn := fun _ => fun
  | [d1, d2] => { results := [.lit (.bool true)], args := [d1, d2] }
  | _ => none }
def satMirrorRow : OpenClaim := { program := "ytkjjahkldahahaa", sum := "3e066e06a2cbb9c84f7be9d6f55e687562adb9741d01187bd245fe3170898859", func := "forerunner/forerunnerlaw01.SatMirror", spec := "satMirror", inPlace := ["math/bits.Add64"], unfollowed := true, recurses := true, named := ["math/bits.divideError", "math/bits.overflowError"], apart := false }
def SatMirrorSaid : Prop := satMirrorRow.holds Try.pinned (OpenSpec.ofChange satMirrorSpec)

/-- ITS FALSE NEIGHBOUR: 'it returns false'. Refute it at one input. -/
def satMirrorWrong : ChangeSpec := { name := "satMirror", fn := fun _ => fun
  | [d1, d2] => { results := [.lit (.bool false)], args := [d1, d2] }
  | _ => none }
def SatMirrorWrongFalsely : Prop := satMirrorRow.holds Try.pinned (OpenSpec.ofChange satMirrorWrong)

/- THE SECOND FORM. 'bulk': how many values and letters a reading holds, each counted each time it is reached (what is shared counts as often as it is met; a slice's spare places count too). A statement '..UptoSaid' is the law's where the arguments, and the package variables that the reading takes, are together of bulk at most 1048576: NARROWER than '..Said'. Prove '..Said' where nothing that the law and all that it calls make is longer than what came in: it says more and counts as full. Else prove '..UptoSaid'. A law counts once. -/
mutual
def uptoBulk {H : Type} : DataW H → Nat
  | .lit (.string bytes) => bytes.length + 1
  | .lit _ => 1
  | .nil => 1
  | .ptr d => uptoBulk d + 1
  | .slice elems spare => uptoBulkAll elems + uptoBulkAll spare + 1
  | .agg parts => uptoBulkAll parts + 1
  | .iface _ d => uptoBulk d + 1
  | .map entries => uptoBulkEntries entries + 1
  | .held _ => 1
def uptoBulkAll {H : Type} : List (DataW H) → Nat
  | [] => 0
  | d :: r => uptoBulk d + uptoBulkAll r
def uptoBulkEntries {H : Type} : List (Lit × DataW H) → Nat
  | [] => 0
  | x :: r => uptoBulkEntry x + uptoBulkEntries r
def uptoBulkEntry {H : Type} : Lit × DataW H → Nat
  | (.string bytes, d) => bytes.length + uptoBulk d + 1
  | (_, d) => uptoBulk d + 1
 end
def uptoSmall : (H : Type) → List (DataW H) → Bool := fun _ ds => decide (uptoBulkAll ds ≤ 1048576)
def OpenSpec.upto (s : _root_.Go.ChangeSpec) : _root_.Go.OpenSpec := { _root_.Go.OpenSpec.ofChange s with cond := some uptoSmall }

/-- 'forerunnerlaw01.SatReckons', WHERE WHAT IT READS IS OF BULK AT MOST 1048576: true; the input reads as it did. -/
def satReckonsUptoRow : OpenClaim := { program := "ytkjjahkldahahaa", sum := "3e066e06a2cbb9c84f7be9d6f55e687562adb9741d01187bd245fe3170898859", func := "forerunner/forerunnerlaw01.SatReckons", spec := "satReckons", inPlace := ["math/bits.Add64"], unfollowed := true, recurses := true, named := ["math/bits.divideError", "math/bits.overflowError"], apart := false, narrowed := true }
def SatReckonsUptoSaid : Prop := satReckonsUptoRow.holds Try.pinned (OpenSpec.upto satReckonsSpec)

/-- 'forerunnerlaw01.SatCross', WHERE WHAT IT READS IS OF BULK AT MOST 1048576: true; the input reads as it did. -/
def satCrossUptoRow : OpenClaim := { program := "ytkjjahkldahahaa", sum := "3e066e06a2cbb9c84f7be9d6f55e687562adb9741d01187bd245fe3170898859", func := "forerunner/forerunnerlaw01.SatCross", spec := "satCross", inPlace := ["math/bits.Add64"], unfollowed := true, recurses := true, named := ["math/bits.divideError", "math/bits.overflowError"], apart := false, narrowed := true }
def SatCrossUptoSaid : Prop := satCrossUptoRow.holds Try.pinned (OpenSpec.upto satCrossSpec)

/-- 'forerunnerlaw01.SatClamps', WHERE WHAT IT READS IS OF BULK AT MOST 1048576: true; the input reads as it did. -/
def satClampsUptoRow : OpenClaim := { program := "ytkjjahkldahahaa", sum := "3e066e06a2cbb9c84f7be9d6f55e687562adb9741d01187bd245fe3170898859", func := "forerunner/forerunnerlaw01.SatClamps", spec := "satClamps", inPlace := ["math/bits.Add64"], unfollowed := true, recurses := true, named := ["math/bits.divideError", "math/bits.overflowError"], apart := false, narrowed := true }
def SatClampsUptoSaid : Prop := satClampsUptoRow.holds Try.pinned (OpenSpec.upto satClampsSpec)

/-- 'forerunnerlaw01.SatGrows', WHERE WHAT IT READS IS OF BULK AT MOST 1048576: true; the input reads as it did. -/
def satGrowsUptoRow : OpenClaim := { program := "ytkjjahkldahahaa", sum := "3e066e06a2cbb9c84f7be9d6f55e687562adb9741d01187bd245fe3170898859", func := "forerunner/forerunnerlaw01.SatGrows", spec := "satGrows", inPlace := ["math/bits.Add64"], unfollowed := true, recurses := true, named := ["math/bits.divideError", "math/bits.overflowError"], apart := false, narrowed := true }
def SatGrowsUptoSaid : Prop := satGrowsUptoRow.holds Try.pinned (OpenSpec.upto satGrowsSpec)

/-- 'forerunnerlaw01.SatBack', WHERE WHAT IT READS IS OF BULK AT MOST 1048576: true; the input reads as it did. -/
def satBackUptoRow : OpenClaim := { program := "ytkjjahkldahahaa", sum := "3e066e06a2cbb9c84f7be9d6f55e687562adb9741d01187bd245fe3170898859", func := "forerunner/forerunnerlaw01.SatBack", spec := "satBack", inPlace := ["math/bits.Add64"], unfollowed := true, recurses := true, named := ["math/bits.divideError", "math/bits.overflowError"], apart := false, narrowed := true }
def SatBackUptoSaid : Prop := satBackUptoRow.holds Try.pinned (OpenSpec.upto satBackSpec)

/-- 'forerunnerlaw01.SatScaled', WHERE WHAT IT READS IS OF BULK AT MOST 1048576: true; the input reads as it did. -/
def satScaledUptoRow : OpenClaim := { program := "ytkjjahkldahahaa", sum := "3e066e06a2cbb9c84f7be9d6f55e687562adb9741d01187bd245fe3170898859", func := "forerunner/forerunnerlaw01.SatScaled", spec := "satScaled", inPlace := ["math/bits.Add64"], unfollowed := true, recurses := true, named := ["math/bits.divideError", "math/bits.overflowError"], apart := false, narrowed := true }
def SatScaledUptoSaid : Prop := satScaledUptoRow.holds Try.pinned (OpenSpec.upto satScaledSpec)

/-- 'forerunnerlaw01.SatMirror', WHERE WHAT IT READS IS OF BULK AT MOST 1048576: true; the input reads as it did. -/
def satMirrorUptoRow : OpenClaim := { program := "ytkjjahkldahahaa", sum := "3e066e06a2cbb9c84f7be9d6f55e687562adb9741d01187bd245fe3170898859", func := "forerunner/forerunnerlaw01.SatMirror", spec := "satMirror", inPlace := ["math/bits.Add64"], unfollowed := true, recurses := true, named := ["math/bits.divideError", "math/bits.overflowError"], apart := false, narrowed := true }
def SatMirrorUptoSaid : Prop := satMirrorUptoRow.holds Try.pinned (OpenSpec.upto satMirrorSpec)

end Rows
end Go.Proofs.Ytkjjahkldahahaa
