/- Runs of the law SnapRanges, by the quick evaluator, by their numbers. No condition. -/
import Derived.Test.YtiokhkainaodnaaGreatDoorEnASnapRanges
set_option maxRecDepth 1000000
namespace Go.Proofs.YtiokhkainaodnaaGreatDoor.snapRanges
open Go Go.Ev
theorem run81 : rnR (runQ hs tbE Tryz.prog 3000 4) 23 1863 = true := by kernel_rfl
theorem run82 : rnR (runQ hs tbE Tryz.prog 3000 4) 23 1886 = true := by kernel_rfl
theorem run83 : rnR (runQ hs tbE Tryz.prog 3000 4) 23 1909 = true := by kernel_rfl
end Go.Proofs.YtiokhkainaodnaaGreatDoor.snapRanges
