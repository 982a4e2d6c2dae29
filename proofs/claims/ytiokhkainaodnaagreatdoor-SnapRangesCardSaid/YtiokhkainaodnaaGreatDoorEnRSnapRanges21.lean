/- Runs of the law SnapRanges, by the quick evaluator, by their numbers. No condition. -/
import Derived.Test.YtiokhkainaodnaaGreatDoorEnASnapRanges
set_option maxRecDepth 1000000
namespace Go.Proofs.YtiokhkainaodnaaGreatDoor.snapRanges
open Go Go.Ev
theorem run63 : rnR (runQ hs tbE Tryz.prog 3000 4) 23 1449 = true := by kernel_rfl
theorem run64 : rnR (runQ hs tbE Tryz.prog 3000 4) 23 1472 = true := by kernel_rfl
theorem run65 : rnR (runQ hs tbE Tryz.prog 3000 4) 23 1495 = true := by kernel_rfl
end Go.Proofs.YtiokhkainaodnaaGreatDoor.snapRanges
