/- Runs of the law DealPhantoms, by the quick evaluator, by their numbers. No condition. -/
import Derived.Test.YtiokhkainaodnaaGreatDoorEnADealPhantoms
set_option maxRecDepth 1000000
namespace Go.Proofs.YtiokhkainaodnaaGreatDoor.dealPhantoms
open Go Go.Ev
theorem run85 : rnR RR 20 1700 = true := by kernel_rfl
theorem run86 : rnR RR 20 1720 = true := by kernel_rfl
theorem run87 : rnR RR 20 1740 = true := by kernel_rfl
theorem run88 : rnR RR 20 1760 = true := by kernel_rfl
theorem run89 : rnR RR 20 1780 = true := by kernel_rfl
end Go.Proofs.YtiokhkainaodnaaGreatDoor.dealPhantoms
