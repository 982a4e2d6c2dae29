/- Runs of the law SnapRanges, by the quick evaluator, by their numbers. No condition. -/
import Derived.Test.YtiokhkainaodnaaGreatDoorEnASnapRanges
set_option maxRecDepth 1000000
namespace Go.Proofs.YtiokhkainaodnaaGreatDoor.snapRanges
open Go Go.Ev
theorem run51 : rnR (runQ hs tbE Tryz.prog 3000 4) 23 1173 = true := by kernel_rfl
theorem run52 : rnR (runQ hs tbE Tryz.prog 3000 4) 23 1196 = true := by kernel_rfl
theorem run53 : rnR (runQ hs tbE Tryz.prog 3000 4) 23 1219 = true := by kernel_rfl
end Go.Proofs.YtiokhkainaodnaaGreatDoor.snapRanges
