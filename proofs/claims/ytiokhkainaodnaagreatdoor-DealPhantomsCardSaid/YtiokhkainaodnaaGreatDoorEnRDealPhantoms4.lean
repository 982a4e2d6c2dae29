/- Runs of the law DealPhantoms, by the quick evaluator, by their numbers. No condition. -/
import Derived.Test.YtiokhkainaodnaaGreatDoorEnADealPhantoms
set_option maxRecDepth 1000000
namespace Go.Proofs.YtiokhkainaodnaaGreatDoor.dealPhantoms
open Go Go.Ev
theorem run20 : rnR RR 20 400 = true := by kernel_rfl
theorem run21 : rnR RR 20 420 = true := by kernel_rfl
theorem run22 : rnR RR 20 440 = true := by kernel_rfl
theorem run23 : rnR RR 20 460 = true := by kernel_rfl
theorem run24 : rnR RR 20 480 = true := by kernel_rfl
end Go.Proofs.YtiokhkainaodnaaGreatDoor.dealPhantoms
