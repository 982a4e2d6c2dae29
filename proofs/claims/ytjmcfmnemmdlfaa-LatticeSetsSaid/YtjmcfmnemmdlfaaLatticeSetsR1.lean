/- Runs of the law, by the evaluator, at the rests or numbers that are told. No condition. -/
import Derived.Test.YtjmcfmnemmdlfaaRows
import Derived.Test.YtjmcfmnemmdlfaaEvL
set_option maxRecDepth 1000000
namespace Go.Proofs.Ytjmcfmnemmdlfaa.latticeSets
open Go.Ev
theorem runx1x0 : ((List.range (2)).all fun i2 => (runFn (onlyTb 9) Try.prog 1000 7 [.r .u8 (6) 1 255, .r .u8 (6) 0 255, .r .u8 (2) i2 255])) = true := by kernel_rfl
theorem runx1x1 : ((List.range (2)).all fun i2 => (runFn (onlyTb 9) Try.prog 1000 7 [.r .u8 (6) 1 255, .r .u8 (6) 1 255, .r .u8 (2) i2 255])) = true := by kernel_rfl
theorem runx1x2 : ((List.range (2)).all fun i2 => (runFn (onlyTb 9) Try.prog 1000 7 [.r .u8 (6) 1 255, .r .u8 (6) 2 255, .r .u8 (2) i2 255])) = true := by kernel_rfl
theorem runx1x3 : ((List.range (2)).all fun i2 => (runFn (onlyTb 9) Try.prog 1000 7 [.r .u8 (6) 1 255, .r .u8 (6) 3 255, .r .u8 (2) i2 255])) = true := by kernel_rfl
theorem runx1x4 : ((List.range (2)).all fun i2 => (runFn (onlyTb 9) Try.prog 1000 7 [.r .u8 (6) 1 255, .r .u8 (6) 4 255, .r .u8 (2) i2 255])) = true := by kernel_rfl
theorem runx1x5 : ((List.range (2)).all fun i2 => (runFn (onlyTb 9) Try.prog 1000 7 [.r .u8 (6) 1 255, .r .u8 (6) 5 255, .r .u8 (2) i2 255])) = true := by kernel_rfl
end Go.Proofs.Ytjmcfmnemmdlfaa.latticeSets
