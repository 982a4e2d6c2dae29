/- Runs of the law SnapRanges, by the quick evaluator, by their numbers. No condition. -/
import Derived.Test.YtiokhkainaodnaaGreatDoorEnASnapRanges
set_option maxRecDepth 1000000
namespace Go.Proofs.YtiokhkainaodnaaGreatDoor.snapRanges
open Go Go.Ev
theorem run90 : rnR (runQ hs tbE Tryz.prog 3000 4) 23 2070 = true := by kernel_rfl
theorem run91 : rnR (runQ hs tbE Tryz.prog 3000 4) 23 2093 = true := by kernel_rfl
theorem run92 : rnR (runQ hs tbE Tryz.prog 3000 4) 23 2116 = true := by kernel_rfl
end Go.Proofs.YtiokhkainaodnaaGreatDoor.snapRanges
