/- Runs of the law DealPhantoms, by the quick evaluator, by their numbers. No condition. -/
import Derived.Test.YtiokhkainaodnaaGreatDoorEnADealPhantoms
set_option maxRecDepth 1000000
namespace Go.Proofs.YtiokhkainaodnaaGreatDoor.dealPhantoms
open Go Go.Ev
theorem run65 : rnR RR 20 1300 = true := by kernel_rfl
theorem run66 : rnR RR 20 1320 = true := by kernel_rfl
theorem run67 : rnR RR 20 1340 = true := by kernel_rfl
theorem run68 : rnR RR 20 1360 = true := by kernel_rfl
theorem run69 : rnR RR 20 1380 = true := by kernel_rfl
end Go.Proofs.YtiokhkainaodnaaGreatDoor.dealPhantoms
