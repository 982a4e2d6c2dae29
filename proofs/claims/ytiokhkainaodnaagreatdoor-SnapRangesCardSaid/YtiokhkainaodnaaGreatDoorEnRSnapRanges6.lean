/- Runs of the law SnapRanges, by the quick evaluator, by their numbers. No condition. -/
import Derived.Test.YtiokhkainaodnaaGreatDoorEnASnapRanges
set_option maxRecDepth 1000000
namespace Go.Proofs.YtiokhkainaodnaaGreatDoor.snapRanges
open Go Go.Ev
theorem run18 : rnR (runQ hs tbE Tryz.prog 3000 4) 23 414 = true := by kernel_rfl
theorem run19 : rnR (runQ hs tbE Tryz.prog 3000 4) 23 437 = true := by kernel_rfl
theorem run20 : rnR (runQ hs tbE Tryz.prog 3000 4) 23 460 = true := by kernel_rfl
end Go.Proofs.YtiokhkainaodnaaGreatDoor.snapRanges
