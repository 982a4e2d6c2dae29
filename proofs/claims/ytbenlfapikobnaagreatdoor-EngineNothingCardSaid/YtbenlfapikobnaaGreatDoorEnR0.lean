/- Runs of the law EngineNothing, by the evaluator, at the rests that are told. No condition. -/
import Derived.Test.YtbenlfapikobnaaGreatDoorPkEN5
set_option maxRecDepth 1000000
namespace Go.Proofs.YtbenlfapikobnaaGreatDoor.engineNothing
open Go Go.Ev
theorem run0f : runFn tbE Tryz.prog 3000 9 [.r .u8 20 0 255, .b false] = true := by kernel_rfl
theorem run0t : runFn tbE Tryz.prog 3000 9 [.r .u8 20 0 255, .b true] = true := by kernel_rfl
theorem run1f : runFn tbE Tryz.prog 3000 9 [.r .u8 20 1 255, .b false] = true := by kernel_rfl
theorem run1t : runFn tbE Tryz.prog 3000 9 [.r .u8 20 1 255, .b true] = true := by kernel_rfl
theorem run2f : runFn tbE Tryz.prog 3000 9 [.r .u8 20 2 255, .b false] = true := by kernel_rfl
end Go.Proofs.YtbenlfapikobnaaGreatDoor.engineNothing
