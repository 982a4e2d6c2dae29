/- Runs of the law SnapRanges, by the quick evaluator, by their numbers. No condition. -/
import Derived.Test.YtiokhkainaodnaaGreatDoorEnASnapRanges
set_option maxRecDepth 1000000
namespace Go.Proofs.YtiokhkainaodnaaGreatDoor.snapRanges
open Go Go.Ev
theorem run84 : rnR (runQ hs tbE Tryz.prog 3000 4) 23 1932 = true := by kernel_rfl
theorem run85 : rnR (runQ hs tbE Tryz.prog 3000 4) 23 1955 = true := by kernel_rfl
theorem run86 : rnR (runQ hs tbE Tryz.prog 3000 4) 23 1978 = true := by kernel_rfl
end Go.Proofs.YtiokhkainaodnaaGreatDoor.snapRanges
