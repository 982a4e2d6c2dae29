/- Runs of the law SnapRanges, by the quick evaluator, by their numbers. No condition. -/
import Derived.Test.YtiokhkainaodnaaGreatDoorEnASnapRanges
set_option maxRecDepth 1000000
namespace Go.Proofs.YtiokhkainaodnaaGreatDoor.snapRanges
open Go Go.Ev
theorem run60 : rnR (runQ hs tbE Tryz.prog 3000 4) 23 1380 = true := by kernel_rfl
theorem run61 : rnR (runQ hs tbE Tryz.prog 3000 4) 23 1403 = true := by kernel_rfl
theorem run62 : rnR (runQ hs tbE Tryz.prog 3000 4) 23 1426 = true := by kernel_rfl
end Go.Proofs.YtiokhkainaodnaaGreatDoor.snapRanges
