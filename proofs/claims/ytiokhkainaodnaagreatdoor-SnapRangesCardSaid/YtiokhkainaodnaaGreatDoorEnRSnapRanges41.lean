/- Runs of the law SnapRanges, by the quick evaluator, by their numbers. No condition. -/
import Derived.Test.YtiokhkainaodnaaGreatDoorEnASnapRanges
set_option maxRecDepth 1000000
namespace Go.Proofs.YtiokhkainaodnaaGreatDoor.snapRanges
open Go Go.Ev
theorem run123 : rnR (runQ hs tbE Tryz.prog 3000 4) 23 2829 = true := by kernel_rfl
theorem run124 : rnR (runQ hs tbE Tryz.prog 3000 4) 23 2852 = true := by kernel_rfl
theorem run125 : rnR (runQ hs tbE Tryz.prog 3000 4) 23 2875 = true := by kernel_rfl
end Go.Proofs.YtiokhkainaodnaaGreatDoor.snapRanges
