/- Runs of the law SnapRanges, by the quick evaluator, by their numbers. No condition. -/
import Derived.Test.YtiokhkainaodnaaGreatDoorEnASnapRanges
set_option maxRecDepth 1000000
namespace Go.Proofs.YtiokhkainaodnaaGreatDoor.snapRanges
open Go Go.Ev
theorem run12 : rnR (runQ hs tbE Tryz.prog 3000 4) 23 276 = true := by kernel_rfl
theorem run13 : rnR (runQ hs tbE Tryz.prog 3000 4) 23 299 = true := by kernel_rfl
theorem run14 : rnR (runQ hs tbE Tryz.prog 3000 4) 23 322 = true := by kernel_rfl
end Go.Proofs.YtiokhkainaodnaaGreatDoor.snapRanges
