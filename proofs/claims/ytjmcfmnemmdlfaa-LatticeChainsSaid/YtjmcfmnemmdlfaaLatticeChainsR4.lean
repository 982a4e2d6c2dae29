/- Runs of the law, by the evaluator, at the rests or numbers that are told. No condition. -/
import Derived.Test.YtjmcfmnemmdlfaaRows
import Derived.Test.YtjmcfmnemmdlfaaEvL
set_option maxRecDepth 1000000
namespace Go.Proofs.Ytjmcfmnemmdlfaa.latticeChains
open Go.Ev
theorem runx4x3x3 : (runFn (onlyTb 9) Try.prog 1000 6 [.r .u8 (6) 4 255, .r .u8 (4+1) 3 255, .r .u8 (4+1) 3 255]) = true := by kernel_rfl
theorem runx4x3x4 : (runFn (onlyTb 9) Try.prog 1000 6 [.r .u8 (6) 4 255, .r .u8 (4+1) 3 255, .r .u8 (4+1) 4 255]) = true := by kernel_rfl
theorem runx4x4x0 : (runFn (onlyTb 9) Try.prog 1000 6 [.r .u8 (6) 4 255, .r .u8 (4+1) 4 255, .r .u8 (4+1) 0 255]) = true := by kernel_rfl
theorem runx4x4x1 : (runFn (onlyTb 9) Try.prog 1000 6 [.r .u8 (6) 4 255, .r .u8 (4+1) 4 255, .r .u8 (4+1) 1 255]) = true := by kernel_rfl
theorem runx4x4x2 : (runFn (onlyTb 9) Try.prog 1000 6 [.r .u8 (6) 4 255, .r .u8 (4+1) 4 255, .r .u8 (4+1) 2 255]) = true := by kernel_rfl
theorem runx4x4x3 : (runFn (onlyTb 9) Try.prog 1000 6 [.r .u8 (6) 4 255, .r .u8 (4+1) 4 255, .r .u8 (4+1) 3 255]) = true := by kernel_rfl
theorem runx4x4x4 : (runFn (onlyTb 9) Try.prog 1000 6 [.r .u8 (6) 4 255, .r .u8 (4+1) 4 255, .r .u8 (4+1) 4 255]) = true := by kernel_rfl
theorem runx5x0x0 : (runFn (onlyTb 9) Try.prog 1000 6 [.r .u8 (6) 5 255, .r .u8 (5+1) 0 255, .r .u8 (5+1) 0 255]) = true := by kernel_rfl
theorem runx5x0x1 : (runFn (onlyTb 9) Try.prog 1000 6 [.r .u8 (6) 5 255, .r .u8 (5+1) 0 255, .r .u8 (5+1) 1 255]) = true := by kernel_rfl
theorem runx5x0x2 : (runFn (onlyTb 9) Try.prog 1000 6 [.r .u8 (6) 5 255, .r .u8 (5+1) 0 255, .r .u8 (5+1) 2 255]) = true := by kernel_rfl
theorem runx5x0x3 : (runFn (onlyTb 9) Try.prog 1000 6 [.r .u8 (6) 5 255, .r .u8 (5+1) 0 255, .r .u8 (5+1) 3 255]) = true := by kernel_rfl
theorem runx5x0x4 : (runFn (onlyTb 9) Try.prog 1000 6 [.r .u8 (6) 5 255, .r .u8 (5+1) 0 255, .r .u8 (5+1) 4 255]) = true := by kernel_rfl
end Go.Proofs.Ytjmcfmnemmdlfaa.latticeChains
