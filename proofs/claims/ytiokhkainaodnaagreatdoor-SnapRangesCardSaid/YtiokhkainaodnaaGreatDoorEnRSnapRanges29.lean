/- Runs of the law SnapRanges, by the quick evaluator, by their numbers. No condition. -/
import Derived.Test.YtiokhkainaodnaaGreatDoorEnASnapRanges
set_option maxRecDepth 1000000
namespace Go.Proofs.YtiokhkainaodnaaGreatDoor.snapRanges
open Go Go.Ev
theorem run87 : rnR (runQ hs tbE Tryz.prog 3000 4) 23 2001 = true := by kernel_rfl
theorem run88 : rnR (runQ hs tbE Tryz.prog 3000 4) 23 2024 = true := by kernel_rfl
theorem run89 : rnR (runQ hs tbE Tryz.prog 3000 4) 23 2047 = true := by kernel_rfl
end Go.Proofs.YtiokhkainaodnaaGreatDoor.snapRanges
