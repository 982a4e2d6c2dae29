/- Runs of the law DealPhantoms, by the quick evaluator, by their numbers. No condition. -/
import Derived.Test.YtiokhkainaodnaaGreatDoorEnADealPhantoms
set_option maxRecDepth 1000000
namespace Go.Proofs.YtiokhkainaodnaaGreatDoor.dealPhantoms
open Go Go.Ev
theorem run5 : rnR RR 20 100 = true := by kernel_rfl
theorem run6 : rnR RR 20 120 = true := by kernel_rfl
theorem run7 : rnR RR 20 140 = true := by kernel_rfl
theorem run8 : rnR RR 20 160 = true := by kernel_rfl
theorem run9 : rnR RR 20 180 = true := by kernel_rfl
end Go.Proofs.YtiokhkainaodnaaGreatDoor.dealPhantoms
