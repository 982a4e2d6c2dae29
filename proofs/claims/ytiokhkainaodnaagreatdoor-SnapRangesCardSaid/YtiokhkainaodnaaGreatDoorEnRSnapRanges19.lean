/- Runs of the law SnapRanges, by the quick evaluator, by their numbers. No condition. -/
import Derived.Test.YtiokhkainaodnaaGreatDoorEnASnapRanges
set_option maxRecDepth 1000000
namespace Go.Proofs.YtiokhkainaodnaaGreatDoor.snapRanges
open Go Go.Ev
theorem run57 : rnR (runQ hs tbE Tryz.prog 3000 4) 23 1311 = true := by kernel_rfl
theorem run58 : rnR (runQ hs tbE Tryz.prog 3000 4) 23 1334 = true := by kernel_rfl
theorem run59 : rnR (runQ hs tbE Tryz.prog 3000 4) 23 1357 = true := by kernel_rfl
end Go.Proofs.YtiokhkainaodnaaGreatDoor.snapRanges
