/- Runs of the law SnapRanges, by the quick evaluator, by their numbers. No condition. -/
import Derived.Test.YtiokhkainaodnaaGreatDoorEnASnapRanges
set_option maxRecDepth 1000000
namespace Go.Proofs.YtiokhkainaodnaaGreatDoor.snapRanges
open Go Go.Ev
theorem run15 : rnR (runQ hs tbE Tryz.prog 3000 4) 23 345 = true := by kernel_rfl
theorem run16 : rnR (runQ hs tbE Tryz.prog 3000 4) 23 368 = true := by kernel_rfl
theorem run17 : rnR (runQ hs tbE Tryz.prog 3000 4) 23 391 = true := by kernel_rfl
end Go.Proofs.YtiokhkainaodnaaGreatDoor.snapRanges
