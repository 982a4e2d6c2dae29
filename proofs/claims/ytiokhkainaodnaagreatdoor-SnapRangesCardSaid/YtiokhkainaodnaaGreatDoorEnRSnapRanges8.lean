/- Runs of the law SnapRanges, by the quick evaluator, by their numbers. No condition. -/
import Derived.Test.YtiokhkainaodnaaGreatDoorEnASnapRanges
set_option maxRecDepth 1000000
namespace Go.Proofs.YtiokhkainaodnaaGreatDoor.snapRanges
open Go Go.Ev
theorem run24 : rnR (runQ hs tbE Tryz.prog 3000 4) 23 552 = true := by kernel_rfl
theorem run25 : rnR (runQ hs tbE Tryz.prog 3000 4) 23 575 = true := by kernel_rfl
theorem run26 : rnR (runQ hs tbE Tryz.prog 3000 4) 23 598 = true := by kernel_rfl
end Go.Proofs.YtiokhkainaodnaaGreatDoor.snapRanges
