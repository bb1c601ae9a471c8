/- which regions the lexical walk serves -/
import Derived.Test.YtofmbipedljdkaaAfter
import Derived.Test.YtofmbipedljdkaaTa18
namespace Go.Proofs.Ytofmbipedljdkaa
open Go.RowKit
theorem lexSum : Region.lexB .any (opsAt Try.f17 1).toArray = true := by kernel_rfl
theorem lexAdds : Region.lexB .any (opsAt Try.f3 5).toArray = true := by kernel_rfl
theorem lexSums : Region.lexB .any (opsAt Try.f4 5).toArray = true := by kernel_rfl
theorem lexNothing : Region.lexB .any (opsAt Try.f6 4).toArray = true := by kernel_rfl
theorem lexTwice : Region.lexB .any (opsAt Try.f7 7).toArray = true := by kernel_rfl
theorem lexGrows : Region.lexB .any (opsAt Try.f5 24).toArray = true := by kernel_rfl
end Go.Proofs.Ytofmbipedljdkaa
