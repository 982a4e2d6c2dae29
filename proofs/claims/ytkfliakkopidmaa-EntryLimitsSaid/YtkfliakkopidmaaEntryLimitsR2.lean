/- Runs of the law, by the evaluator, at the rests or numbers that are told. No condition. -/
import Derived.Test.YtkfliakkopidmaaRows
import Derived.Test.YtkfliakkopidmaaEvL
set_option maxRecDepth 1000000
namespace Go.Proofs.Ytkfliakkopidmaa.entryLimits
open Go.Ev
theorem runx8x0 : ((List.range (3)).all fun i2 => ([false, true].all fun i3 => (runFn (onlyTb 39) Try.prog 1000 12 [.r .u8 (16) 8 255, .r .u8 (6) 0 255, .r .u8 (3) i2 255, .b i3]))) = true := by kernel_rfl
theorem runx8x1 : ((List.range (3)).all fun i2 => ([false, true].all fun i3 => (runFn (onlyTb 39) Try.prog 1000 12 [.r .u8 (16) 8 255, .r .u8 (6) 1 255, .r .u8 (3) i2 255, .b i3]))) = true := by kernel_rfl
theorem runx8x2 : ((List.range (3)).all fun i2 => ([false, true].all fun i3 => (runFn (onlyTb 39) Try.prog 1000 12 [.r .u8 (16) 8 255, .r .u8 (6) 2 255, .r .u8 (3) i2 255, .b i3]))) = true := by kernel_rfl
theorem runx8x3 : ((List.range (3)).all fun i2 => ([false, true].all fun i3 => (runFn (onlyTb 39) Try.prog 1000 12 [.r .u8 (16) 8 255, .r .u8 (6) 3 255, .r .u8 (3) i2 255, .b i3]))) = true := by kernel_rfl
theorem runx8x4 : ((List.range (3)).all fun i2 => ([false, true].all fun i3 => (runFn (onlyTb 39) Try.prog 1000 12 [.r .u8 (16) 8 255, .r .u8 (6) 4 255, .r .u8 (3) i2 255, .b i3]))) = true := by kernel_rfl
theorem runx8x5 : ((List.range (3)).all fun i2 => ([false, true].all fun i3 => (runFn (onlyTb 39) Try.prog 1000 12 [.r .u8 (16) 8 255, .r .u8 (6) 5 255, .r .u8 (3) i2 255, .b i3]))) = true := by kernel_rfl
theorem runx9x0 : ((List.range (3)).all fun i2 => ([false, true].all fun i3 => (runFn (onlyTb 39) Try.prog 1000 12 [.r .u8 (16) 9 255, .r .u8 (6) 0 255, .r .u8 (3) i2 255, .b i3]))) = true := by kernel_rfl
theorem runx9x1 : ((List.range (3)).all fun i2 => ([false, true].all fun i3 => (runFn (onlyTb 39) Try.prog 1000 12 [.r .u8 (16) 9 255, .r .u8 (6) 1 255, .r .u8 (3) i2 255, .b i3]))) = true := by kernel_rfl
theorem runx9x2 : ((List.range (3)).all fun i2 => ([false, true].all fun i3 => (runFn (onlyTb 39) Try.prog 1000 12 [.r .u8 (16) 9 255, .r .u8 (6) 2 255, .r .u8 (3) i2 255, .b i3]))) = true := by kernel_rfl
theorem runx9x3 : ((List.range (3)).all fun i2 => ([false, true].all fun i3 => (runFn (onlyTb 39) Try.prog 1000 12 [.r .u8 (16) 9 255, .r .u8 (6) 3 255, .r .u8 (3) i2 255, .b i3]))) = true := by kernel_rfl
theorem runx9x4 : ((List.range (3)).all fun i2 => ([false, true].all fun i3 => (runFn (onlyTb 39) Try.prog 1000 12 [.r .u8 (16) 9 255, .r .u8 (6) 4 255, .r .u8 (3) i2 255, .b i3]))) = true := by kernel_rfl
theorem runx9x5 : ((List.range (3)).all fun i2 => ([false, true].all fun i3 => (runFn (onlyTb 39) Try.prog 1000 12 [.r .u8 (16) 9 255, .r .u8 (6) 5 255, .r .u8 (3) i2 255, .b i3]))) = true := by kernel_rfl
theorem runx10x0 : ((List.range (3)).all fun i2 => ([false, true].all fun i3 => (runFn (onlyTb 39) Try.prog 1000 12 [.r .u8 (16) 10 255, .r .u8 (6) 0 255, .r .u8 (3) i2 255, .b i3]))) = true := by kernel_rfl
theorem runx10x1 : ((List.range (3)).all fun i2 => ([false, true].all fun i3 => (runFn (onlyTb 39) Try.prog 1000 12 [.r .u8 (16) 10 255, .r .u8 (6) 1 255, .r .u8 (3) i2 255, .b i3]))) = true := by kernel_rfl
theorem runx10x2 : ((List.range (3)).all fun i2 => ([false, true].all fun i3 => (runFn (onlyTb 39) Try.prog 1000 12 [.r .u8 (16) 10 255, .r .u8 (6) 2 255, .r .u8 (3) i2 255, .b i3]))) = true := by kernel_rfl
theorem runx10x3 : ((List.range (3)).all fun i2 => ([false, true].all fun i3 => (runFn (onlyTb 39) Try.prog 1000 12 [.r .u8 (16) 10 255, .r .u8 (6) 3 255, .r .u8 (3) i2 255, .b i3]))) = true := by kernel_rfl
theorem runx10x4 : ((List.range (3)).all fun i2 => ([false, true].all fun i3 => (runFn (onlyTb 39) Try.prog 1000 12 [.r .u8 (16) 10 255, .r .u8 (6) 4 255, .r .u8 (3) i2 255, .b i3]))) = true := by kernel_rfl
theorem runx10x5 : ((List.range (3)).all fun i2 => ([false, true].all fun i3 => (runFn (onlyTb 39) Try.prog 1000 12 [.r .u8 (16) 10 255, .r .u8 (6) 5 255, .r .u8 (3) i2 255, .b i3]))) = true := by kernel_rfl
theorem runx11x0 : ((List.range (3)).all fun i2 => ([false, true].all fun i3 => (runFn (onlyTb 39) Try.prog 1000 12 [.r .u8 (16) 11 255, .r .u8 (6) 0 255, .r .u8 (3) i2 255, .b i3]))) = true := by kernel_rfl
theorem runx11x1 : ((List.range (3)).all fun i2 => ([false, true].all fun i3 => (runFn (onlyTb 39) Try.prog 1000 12 [.r .u8 (16) 11 255, .r .u8 (6) 1 255, .r .u8 (3) i2 255, .b i3]))) = true := by kernel_rfl
theorem runx11x2 : ((List.range (3)).all fun i2 => ([false, true].all fun i3 => (runFn (onlyTb 39) Try.prog 1000 12 [.r .u8 (16) 11 255, .r .u8 (6) 2 255, .r .u8 (3) i2 255, .b i3]))) = true := by kernel_rfl
theorem runx11x3 : ((List.range (3)).all fun i2 => ([false, true].all fun i3 => (runFn (onlyTb 39) Try.prog 1000 12 [.r .u8 (16) 11 255, .r .u8 (6) 3 255, .r .u8 (3) i2 255, .b i3]))) = true := by kernel_rfl
theorem runx11x4 : ((List.range (3)).all fun i2 => ([false, true].all fun i3 => (runFn (onlyTb 39) Try.prog 1000 12 [.r .u8 (16) 11 255, .r .u8 (6) 4 255, .r .u8 (3) i2 255, .b i3]))) = true := by kernel_rfl
theorem runx11x5 : ((List.range (3)).all fun i2 => ([false, true].all fun i3 => (runFn (onlyTb 39) Try.prog 1000 12 [.r .u8 (16) 11 255, .r .u8 (6) 5 255, .r .u8 (3) i2 255, .b i3]))) = true := by kernel_rfl
end Go.Proofs.Ytkfliakkopidmaa.entryLimits
