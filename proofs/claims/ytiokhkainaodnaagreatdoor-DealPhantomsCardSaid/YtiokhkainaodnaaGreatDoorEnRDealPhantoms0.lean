/- Runs of the law DealPhantoms, by the quick evaluator, by their numbers. No condition. -/
import Derived.Test.YtiokhkainaodnaaGreatDoorEnADealPhantoms
set_option maxRecDepth 1000000
namespace Go.Proofs.YtiokhkainaodnaaGreatDoor.dealPhantoms
open Go Go.Ev
theorem run0 : rnR RR 20 0 = true := by kernel_rfl
theorem run1 : rnR RR 20 20 = true := by kernel_rfl
theorem run2 : rnR RR 20 40 = true := by kernel_rfl
theorem run3 : rnR RR 20 60 = true := by kernel_rfl
theorem run4 : rnR RR 20 80 = true := by kernel_rfl
end Go.Proofs.YtiokhkainaodnaaGreatDoor.dealPhantoms
