/- Runs of the law DealPhantoms, by the quick evaluator, by their numbers. No condition. -/
import Derived.Test.YtiokhkainaodnaaGreatDoorEnADealPhantoms
set_option maxRecDepth 1000000
namespace Go.Proofs.YtiokhkainaodnaaGreatDoor.dealPhantoms
open Go Go.Ev
theorem run70 : rnR RR 20 1400 = true := by kernel_rfl
theorem run71 : rnR RR 20 1420 = true := by kernel_rfl
theorem run72 : rnR RR 20 1440 = true := by kernel_rfl
theorem run73 : rnR RR 20 1460 = true := by kernel_rfl
theorem run74 : rnR RR 20 1480 = true := by kernel_rfl
end Go.Proofs.YtiokhkainaodnaaGreatDoor.dealPhantoms
