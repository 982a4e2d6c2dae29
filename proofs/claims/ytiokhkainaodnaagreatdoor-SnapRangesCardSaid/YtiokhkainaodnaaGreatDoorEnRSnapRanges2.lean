/- Runs of the law SnapRanges, by the quick evaluator, by their numbers. No condition. -/
import Derived.Test.YtiokhkainaodnaaGreatDoorEnASnapRanges
set_option maxRecDepth 1000000
namespace Go.Proofs.YtiokhkainaodnaaGreatDoor.snapRanges
open Go Go.Ev
theorem run6 : rnR (runQ hs tbE Tryz.prog 3000 4) 23 138 = true := by kernel_rfl
theorem run7 : rnR (runQ hs tbE Tryz.prog 3000 4) 23 161 = true := by kernel_rfl
theorem run8 : rnR (runQ hs tbE Tryz.prog 3000 4) 23 184 = true := by kernel_rfl
end Go.Proofs.YtiokhkainaodnaaGreatDoor.snapRanges
