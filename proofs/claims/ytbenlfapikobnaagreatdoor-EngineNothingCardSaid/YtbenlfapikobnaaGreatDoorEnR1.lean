/- Runs of the law EngineNothing, by the evaluator, at the rests that are told. No condition. -/
import Derived.Test.YtbenlfapikobnaaGreatDoorPkEN5
set_option maxRecDepth 1000000
namespace Go.Proofs.YtbenlfapikobnaaGreatDoor.engineNothing
open Go Go.Ev
theorem run2t : runFn tbE Tryz.prog 3000 9 [.r .u8 20 2 255, .b true] = true := by kernel_rfl
theorem run3f : runFn tbE Tryz.prog 3000 9 [.r .u8 20 3 255, .b false] = true := by kernel_rfl
theorem run3t : runFn tbE Tryz.prog 3000 9 [.r .u8 20 3 255, .b true] = true := by kernel_rfl
theorem run4f : runFn tbE Tryz.prog 3000 9 [.r .u8 20 4 255, .b false] = true := by kernel_rfl
theorem run4t : runFn tbE Tryz.prog 3000 9 [.r .u8 20 4 255, .b true] = true := by kernel_rfl
end Go.Proofs.YtbenlfapikobnaaGreatDoor.engineNothing
