/- Runs of the law, by the evaluator, at the rests or numbers that are told. No condition. -/
import Derived.Test.YtjmcfmnemmdlfaaRows
import Derived.Test.YtjmcfmnemmdlfaaEvL
set_option maxRecDepth 1000000
namespace Go.Proofs.Ytjmcfmnemmdlfaa.latticeChains
open Go.Ev
theorem runx4x1x1 : (runFn (onlyTb 9) Try.prog 1000 6 [.r .u8 (6) 4 255, .r .u8 (4+1) 1 255, .r .u8 (4+1) 1 255]) = true := by kernel_rfl
theorem runx4x1x2 : (runFn (onlyTb 9) Try.prog 1000 6 [.r .u8 (6) 4 255, .r .u8 (4+1) 1 255, .r .u8 (4+1) 2 255]) = true := by kernel_rfl
theorem runx4x1x3 : (runFn (onlyTb 9) Try.prog 1000 6 [.r .u8 (6) 4 255, .r .u8 (4+1) 1 255, .r .u8 (4+1) 3 255]) = true := by kernel_rfl
theorem runx4x1x4 : (runFn (onlyTb 9) Try.prog 1000 6 [.r .u8 (6) 4 255, .r .u8 (4+1) 1 255, .r .u8 (4+1) 4 255]) = true := by kernel_rfl
theorem runx4x2x0 : (runFn (onlyTb 9) Try.prog 1000 6 [.r .u8 (6) 4 255, .r .u8 (4+1) 2 255, .r .u8 (4+1) 0 255]) = true := by kernel_rfl
theorem runx4x2x1 : (runFn (onlyTb 9) Try.prog 1000 6 [.r .u8 (6) 4 255, .r .u8 (4+1) 2 255, .r .u8 (4+1) 1 255]) = true := by kernel_rfl
theorem runx4x2x2 : (runFn (onlyTb 9) Try.prog 1000 6 [.r .u8 (6) 4 255, .r .u8 (4+1) 2 255, .r .u8 (4+1) 2 255]) = true := by kernel_rfl
theorem runx4x2x3 : (runFn (onlyTb 9) Try.prog 1000 6 [.r .u8 (6) 4 255, .r .u8 (4+1) 2 255, .r .u8 (4+1) 3 255]) = true := by kernel_rfl
theorem runx4x2x4 : (runFn (onlyTb 9) Try.prog 1000 6 [.r .u8 (6) 4 255, .r .u8 (4+1) 2 255, .r .u8 (4+1) 4 255]) = true := by kernel_rfl
theorem runx4x3x0 : (runFn (onlyTb 9) Try.prog 1000 6 [.r .u8 (6) 4 255, .r .u8 (4+1) 3 255, .r .u8 (4+1) 0 255]) = true := by kernel_rfl
theorem runx4x3x1 : (runFn (onlyTb 9) Try.prog 1000 6 [.r .u8 (6) 4 255, .r .u8 (4+1) 3 255, .r .u8 (4+1) 1 255]) = true := by kernel_rfl
theorem runx4x3x2 : (runFn (onlyTb 9) Try.prog 1000 6 [.r .u8 (6) 4 255, .r .u8 (4+1) 3 255, .r .u8 (4+1) 2 255]) = true := by kernel_rfl
end Go.Proofs.Ytjmcfmnemmdlfaa.latticeChains
