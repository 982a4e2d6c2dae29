/- Runs of the law DealPhantoms, by the quick evaluator, by their numbers. No condition. -/
import Derived.Test.YtiokhkainaodnaaGreatDoorEnADealPhantoms
set_option maxRecDepth 1000000
namespace Go.Proofs.YtiokhkainaodnaaGreatDoor.dealPhantoms
open Go Go.Ev
theorem run40 : rnR RR 20 800 = true := by kernel_rfl
theorem run41 : rnR RR 20 820 = true := by kernel_rfl
theorem run42 : rnR RR 20 840 = true := by kernel_rfl
theorem run43 : rnR RR 20 860 = true := by kernel_rfl
theorem run44 : rnR RR 20 880 = true := by kernel_rfl
end Go.Proofs.YtiokhkainaodnaaGreatDoor.dealPhantoms
