/- Runs of the law, by the evaluator, at the rests or numbers that are told. No condition. -/
import Derived.Test.YtkfliakkopidmaaRows
import Derived.Test.YtkfliakkopidmaaEvL
set_option maxRecDepth 1000000
namespace Go.Proofs.Ytkfliakkopidmaa.entryLimits
open Go.Ev
theorem runx4x0 : ((List.range (3)).all fun i2 => ([false, true].all fun i3 => (runFn (onlyTb 39) Try.prog 1000 12 [.r .u8 (16) 4 255, .r .u8 (6) 0 255, .r .u8 (3) i2 255, .b i3]))) = true := by kernel_rfl
theorem runx4x1 : ((List.range (3)).all fun i2 => ([false, true].all fun i3 => (runFn (onlyTb 39) Try.prog 1000 12 [.r .u8 (16) 4 255, .r .u8 (6) 1 255, .r .u8 (3) i2 255, .b i3]))) = true := by kernel_rfl
theorem runx4x2 : ((List.range (3)).all fun i2 => ([false, true].all fun i3 => (runFn (onlyTb 39) Try.prog 1000 12 [.r .u8 (16) 4 255, .r .u8 (6) 2 255, .r .u8 (3) i2 255, .b i3]))) = true := by kernel_rfl
theorem runx4x3 : ((List.range (3)).all fun i2 => ([false, true].all fun i3 => (runFn (onlyTb 39) Try.prog 1000 12 [.r .u8 (16) 4 255, .r .u8 (6) 3 255, .r .u8 (3) i2 255, .b i3]))) = true := by kernel_rfl
theorem runx4x4 : ((List.range (3)).all fun i2 => ([false, true].all fun i3 => (runFn (onlyTb 39) Try.prog 1000 12 [.r .u8 (16) 4 255, .r .u8 (6) 4 255, .r .u8 (3) i2 255, .b i3]))) = true := by kernel_rfl
theorem runx4x5 : ((List.range (3)).all fun i2 => ([false, true].all fun i3 => (runFn (onlyTb 39) Try.prog 1000 12 [.r .u8 (16) 4 255, .r .u8 (6) 5 255, .r .u8 (3) i2 255, .b i3]))) = true := by kernel_rfl
theorem runx5x0 : ((List.range (3)).all fun i2 => ([false, true].all fun i3 => (runFn (onlyTb 39) Try.prog 1000 12 [.r .u8 (16) 5 255, .r .u8 (6) 0 255, .r .u8 (3) i2 255, .b i3]))) = true := by kernel_rfl
theorem runx5x1 : ((List.range (3)).all fun i2 => ([false, true].all fun i3 => (runFn (onlyTb 39) Try.prog 1000 12 [.r .u8 (16) 5 255, .r .u8 (6) 1 255, .r .u8 (3) i2 255, .b i3]))) = true := by kernel_rfl
theorem runx5x2 : ((List.range (3)).all fun i2 => ([false, true].all fun i3 => (runFn (onlyTb 39) Try.prog 1000 12 [.r .u8 (16) 5 255, .r .u8 (6) 2 255, .r .u8 (3) i2 255, .b i3]))) = true := by kernel_rfl
theorem runx5x3 : ((List.range (3)).all fun i2 => ([false, true].all fun i3 => (runFn (onlyTb 39) Try.prog 1000 12 [.r .u8 (16) 5 255, .r .u8 (6) 3 255, .r .u8 (3) i2 255, .b i3]))) = true := by kernel_rfl
theorem runx5x4 : ((List.range (3)).all fun i2 => ([false, true].all fun i3 => (runFn (onlyTb 39) Try.prog 1000 12 [.r .u8 (16) 5 255, .r .u8 (6) 4 255, .r .u8 (3) i2 255, .b i3]))) = true := by kernel_rfl
theorem runx5x5 : ((List.range (3)).all fun i2 => ([false, true].all fun i3 => (runFn (onlyTb 39) Try.prog 1000 12 [.r .u8 (16) 5 255, .r .u8 (6) 5 255, .r .u8 (3) i2 255, .b i3]))) = true := by kernel_rfl
theorem runx6x0 : ((List.range (3)).all fun i2 => ([false, true].all fun i3 => (runFn (onlyTb 39) Try.prog 1000 12 [.r .u8 (16) 6 255, .r .u8 (6) 0 255, .r .u8 (3) i2 255, .b i3]))) = true := by kernel_rfl
theorem runx6x1 : ((List.range (3)).all fun i2 => ([false, true].all fun i3 => (runFn (onlyTb 39) Try.prog 1000 12 [.r .u8 (16) 6 255, .r .u8 (6) 1 255, .r .u8 (3) i2 255, .b i3]))) = true := by kernel_rfl
theorem runx6x2 : ((List.range (3)).all fun i2 => ([false, true].all fun i3 => (runFn (onlyTb 39) Try.prog 1000 12 [.r .u8 (16) 6 255, .r .u8 (6) 2 255, .r .u8 (3) i2 255, .b i3]))) = true := by kernel_rfl
theorem runx6x3 : ((List.range (3)).all fun i2 => ([false, true].all fun i3 => (runFn (onlyTb 39) Try.prog 1000 12 [.r .u8 (16) 6 255, .r .u8 (6) 3 255, .r .u8 (3) i2 255, .b i3]))) = true := by kernel_rfl
theorem runx6x4 : ((List.range (3)).all fun i2 => ([false, true].all fun i3 => (runFn (onlyTb 39) Try.prog 1000 12 [.r .u8 (16) 6 255, .r .u8 (6) 4 255, .r .u8 (3) i2 255, .b i3]))) = true := by kernel_rfl
theorem runx6x5 : ((List.range (3)).all fun i2 => ([false, true].all fun i3 => (runFn (onlyTb 39) Try.prog 1000 12 [.r .u8 (16) 6 255, .r .u8 (6) 5 255, .r .u8 (3) i2 255, .b i3]))) = true := by kernel_rfl
theorem runx7x0 : ((List.range (3)).all fun i2 => ([false, true].all fun i3 => (runFn (onlyTb 39) Try.prog 1000 12 [.r .u8 (16) 7 255, .r .u8 (6) 0 255, .r .u8 (3) i2 255, .b i3]))) = true := by kernel_rfl
theorem runx7x1 : ((List.range (3)).all fun i2 => ([false, true].all fun i3 => (runFn (onlyTb 39) Try.prog 1000 12 [.r .u8 (16) 7 255, .r .u8 (6) 1 255, .r .u8 (3) i2 255, .b i3]))) = true := by kernel_rfl
theorem runx7x2 : ((List.range (3)).all fun i2 => ([false, true].all fun i3 => (runFn (onlyTb 39) Try.prog 1000 12 [.r .u8 (16) 7 255, .r .u8 (6) 2 255, .r .u8 (3) i2 255, .b i3]))) = true := by kernel_rfl
theorem runx7x3 : ((List.range (3)).all fun i2 => ([false, true].all fun i3 => (runFn (onlyTb 39) Try.prog 1000 12 [.r .u8 (16) 7 255, .r .u8 (6) 3 255, .r .u8 (3) i2 255, .b i3]))) = true := by kernel_rfl
theorem runx7x4 : ((List.range (3)).all fun i2 => ([false, true].all fun i3 => (runFn (onlyTb 39) Try.prog 1000 12 [.r .u8 (16) 7 255, .r .u8 (6) 4 255, .r .u8 (3) i2 255, .b i3]))) = true := by kernel_rfl
theorem runx7x5 : ((List.range (3)).all fun i2 => ([false, true].all fun i3 => (runFn (onlyTb 39) Try.prog 1000 12 [.r .u8 (16) 7 255, .r .u8 (6) 5 255, .r .u8 (3) i2 255, .b i3]))) = true := by kernel_rfl
end Go.Proofs.Ytkfliakkopidmaa.entryLimits
