/- Runs of the law DealPhantoms, by the quick evaluator, by their numbers. No condition. -/
import Derived.Test.YtiokhkainaodnaaGreatDoorEnADealPhantoms
set_option maxRecDepth 1000000
namespace Go.Proofs.YtiokhkainaodnaaGreatDoor.dealPhantoms
open Go Go.Ev
theorem run50 : rnR RR 20 1000 = true := by kernel_rfl
theorem run51 : rnR RR 20 1020 = true := by kernel_rfl
theorem run52 : rnR RR 20 1040 = true := by kernel_rfl
theorem run53 : rnR RR 20 1060 = true := by kernel_rfl
theorem run54 : rnR RR 20 1080 = true := by kernel_rfl
end Go.Proofs.YtiokhkainaodnaaGreatDoor.dealPhantoms
