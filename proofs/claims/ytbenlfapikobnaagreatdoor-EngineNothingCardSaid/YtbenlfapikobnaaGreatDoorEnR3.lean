/- Runs of the law EngineNothing, by the evaluator, at the rests that are told. No condition. -/
import Derived.Test.YtbenlfapikobnaaGreatDoorPkEN5
set_option maxRecDepth 1000000
namespace Go.Proofs.YtbenlfapikobnaaGreatDoor.engineNothing
open Go Go.Ev
theorem run7t : runFn tbE Tryz.prog 3000 9 [.r .u8 20 7 255, .b true] = true := by kernel_rfl
theorem run8f : runFn tbE Tryz.prog 3000 9 [.r .u8 20 8 255, .b false] = true := by kernel_rfl
theorem run8t : runFn tbE Tryz.prog 3000 9 [.r .u8 20 8 255, .b true] = true := by kernel_rfl
theorem run9f : runFn tbE Tryz.prog 3000 9 [.r .u8 20 9 255, .b false] = true := by kernel_rfl
theorem run9t : runFn tbE Tryz.prog 3000 9 [.r .u8 20 9 255, .b true] = true := by kernel_rfl
end Go.Proofs.YtbenlfapikobnaaGreatDoor.engineNothing
