/- Runs of the law DealPhantoms, by the quick evaluator, by their numbers. No condition. -/
import Derived.Test.YtiokhkainaodnaaGreatDoorEnADealPhantoms
set_option maxRecDepth 1000000
namespace Go.Proofs.YtiokhkainaodnaaGreatDoor.dealPhantoms
open Go Go.Ev
theorem run10 : rnR RR 20 200 = true := by kernel_rfl
theorem run11 : rnR RR 20 220 = true := by kernel_rfl
theorem run12 : rnR RR 20 240 = true := by kernel_rfl
theorem run13 : rnR RR 20 260 = true := by kernel_rfl
theorem run14 : rnR RR 20 280 = true := by kernel_rfl
end Go.Proofs.YtiokhkainaodnaaGreatDoor.dealPhantoms
