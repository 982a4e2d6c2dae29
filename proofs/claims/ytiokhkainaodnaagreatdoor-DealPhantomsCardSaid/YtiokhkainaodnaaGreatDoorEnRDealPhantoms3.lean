/- Runs of the law DealPhantoms, by the quick evaluator, by their numbers. No condition. -/
import Derived.Test.YtiokhkainaodnaaGreatDoorEnADealPhantoms
set_option maxRecDepth 1000000
namespace Go.Proofs.YtiokhkainaodnaaGreatDoor.dealPhantoms
open Go Go.Ev
theorem run15 : rnR RR 20 300 = true := by kernel_rfl
theorem run16 : rnR RR 20 320 = true := by kernel_rfl
theorem run17 : rnR RR 20 340 = true := by kernel_rfl
theorem run18 : rnR RR 20 360 = true := by kernel_rfl
theorem run19 : rnR RR 20 380 = true := by kernel_rfl
end Go.Proofs.YtiokhkainaodnaaGreatDoor.dealPhantoms
