/- Runs of the law SnapRanges, by the quick evaluator, by their numbers. No condition. -/
import Derived.Test.YtiokhkainaodnaaGreatDoorEnASnapRanges
set_option maxRecDepth 1000000
namespace Go.Proofs.YtiokhkainaodnaaGreatDoor.snapRanges
open Go Go.Ev
theorem run3 : rnR (runQ hs tbE Tryz.prog 3000 4) 23 69 = true := by kernel_rfl
theorem run4 : rnR (runQ hs tbE Tryz.prog 3000 4) 23 92 = true := by kernel_rfl
theorem run5 : rnR (runQ hs tbE Tryz.prog 3000 4) 23 115 = true := by kernel_rfl
end Go.Proofs.YtiokhkainaodnaaGreatDoor.snapRanges
