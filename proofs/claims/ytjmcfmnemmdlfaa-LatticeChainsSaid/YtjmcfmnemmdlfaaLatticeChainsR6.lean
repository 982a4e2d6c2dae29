/- Runs of the law, by the evaluator, at the rests or numbers that are told. No condition. -/
import Derived.Test.YtjmcfmnemmdlfaaRows
import Derived.Test.YtjmcfmnemmdlfaaEvL
set_option maxRecDepth 1000000
namespace Go.Proofs.Ytjmcfmnemmdlfaa.latticeChains
open Go.Ev
theorem runx5x2x5 : (runFn (onlyTb 9) Try.prog 1000 6 [.r .u8 (6) 5 255, .r .u8 (5+1) 2 255, .r .u8 (5+1) 5 255]) = true := by kernel_rfl
theorem runx5x3x0 : (runFn (onlyTb 9) Try.prog 1000 6 [.r .u8 (6) 5 255, .r .u8 (5+1) 3 255, .r .u8 (5+1) 0 255]) = true := by kernel_rfl
theorem runx5x3x1 : (runFn (onlyTb 9) Try.prog 1000 6 [.r .u8 (6) 5 255, .r .u8 (5+1) 3 255, .r .u8 (5+1) 1 255]) = true := by kernel_rfl
theorem runx5x3x2 : (runFn (onlyTb 9) Try.prog 1000 6 [.r .u8 (6) 5 255, .r .u8 (5+1) 3 255, .r .u8 (5+1) 2 255]) = true := by kernel_rfl
theorem runx5x3x3 : (runFn (onlyTb 9) Try.prog 1000 6 [.r .u8 (6) 5 255, .r .u8 (5+1) 3 255, .r .u8 (5+1) 3 255]) = true := by kernel_rfl
theorem runx5x3x4 : (runFn (onlyTb 9) Try.prog 1000 6 [.r .u8 (6) 5 255, .r .u8 (5+1) 3 255, .r .u8 (5+1) 4 255]) = true := by kernel_rfl
theorem runx5x3x5 : (runFn (onlyTb 9) Try.prog 1000 6 [.r .u8 (6) 5 255, .r .u8 (5+1) 3 255, .r .u8 (5+1) 5 255]) = true := by kernel_rfl
theorem runx5x4x0 : (runFn (onlyTb 9) Try.prog 1000 6 [.r .u8 (6) 5 255, .r .u8 (5+1) 4 255, .r .u8 (5+1) 0 255]) = true := by kernel_rfl
theorem runx5x4x1 : (runFn (onlyTb 9) Try.prog 1000 6 [.r .u8 (6) 5 255, .r .u8 (5+1) 4 255, .r .u8 (5+1) 1 255]) = true := by kernel_rfl
theorem runx5x4x2 : (runFn (onlyTb 9) Try.prog 1000 6 [.r .u8 (6) 5 255, .r .u8 (5+1) 4 255, .r .u8 (5+1) 2 255]) = true := by kernel_rfl
theorem runx5x4x3 : (runFn (onlyTb 9) Try.prog 1000 6 [.r .u8 (6) 5 255, .r .u8 (5+1) 4 255, .r .u8 (5+1) 3 255]) = true := by kernel_rfl
theorem runx5x4x4 : (runFn (onlyTb 9) Try.prog 1000 6 [.r .u8 (6) 5 255, .r .u8 (5+1) 4 255, .r .u8 (5+1) 4 255]) = true := by kernel_rfl
end Go.Proofs.Ytjmcfmnemmdlfaa.latticeChains
