/- Runs of the law SnapRanges, by the quick evaluator, by their numbers. No condition. -/
import Derived.Test.YtiokhkainaodnaaGreatDoorEnASnapRanges
set_option maxRecDepth 1000000
namespace Go.Proofs.YtiokhkainaodnaaGreatDoor.snapRanges
open Go Go.Ev
theorem run96 : rnR (runQ hs tbE Tryz.prog 3000 4) 23 2208 = true := by kernel_rfl
theorem run97 : rnR (runQ hs tbE Tryz.prog 3000 4) 23 2231 = true := by kernel_rfl
theorem run98 : rnR (runQ hs tbE Tryz.prog 3000 4) 23 2254 = true := by kernel_rfl
end Go.Proofs.YtiokhkainaodnaaGreatDoor.snapRanges
