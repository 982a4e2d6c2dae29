/- Runs of the law SnapRanges, by the quick evaluator, by their numbers. No condition. -/
import Derived.Test.YtiokhkainaodnaaGreatDoorEnASnapRanges
set_option maxRecDepth 1000000
namespace Go.Proofs.YtiokhkainaodnaaGreatDoor.snapRanges
open Go Go.Ev
theorem run105 : rnR (runQ hs tbE Tryz.prog 3000 4) 23 2415 = true := by kernel_rfl
theorem run106 : rnR (runQ hs tbE Tryz.prog 3000 4) 23 2438 = true := by kernel_rfl
theorem run107 : rnR (runQ hs tbE Tryz.prog 3000 4) 23 2461 = true := by kernel_rfl
end Go.Proofs.YtiokhkainaodnaaGreatDoor.snapRanges
