/- Runs of the law, by the evaluator, at the rests or numbers that are told. No condition. -/
import Derived.Test.YtpnflehemjbemaaRows
import Derived.Test.YtpnflehemjbemaaEvL
set_option maxRecDepth 1000000
namespace Go.Proofs.Ytpnflehemjbemaa.cellSizes
open Go.Ev
theorem runx0x0 : (runFn (onlyTb 43) Try.prog 1000 10 [.r .u8 (63) 0 255, .b false]) = true := by kernel_rfl
theorem runx0x1 : (runFn (onlyTb 43) Try.prog 1000 10 [.r .u8 (63) 0 255, .b true]) = true := by kernel_rfl
theorem runx1x0 : (runFn (onlyTb 43) Try.prog 1000 10 [.r .u8 (63) 1 255, .b false]) = true := by kernel_rfl
theorem runx1x1 : (runFn (onlyTb 43) Try.prog 1000 10 [.r .u8 (63) 1 255, .b true]) = true := by kernel_rfl
theorem runx2x0 : (runFn (onlyTb 43) Try.prog 1000 10 [.r .u8 (63) 2 255, .b false]) = true := by kernel_rfl
theorem runx2x1 : (runFn (onlyTb 43) Try.prog 1000 10 [.r .u8 (63) 2 255, .b true]) = true := by kernel_rfl
theorem runx3x0 : (runFn (onlyTb 43) Try.prog 1000 10 [.r .u8 (63) 3 255, .b false]) = true := by kernel_rfl
theorem runx3x1 : (runFn (onlyTb 43) Try.prog 1000 10 [.r .u8 (63) 3 255, .b true]) = true := by kernel_rfl
theorem runx4x0 : (runFn (onlyTb 43) Try.prog 1000 10 [.r .u8 (63) 4 255, .b false]) = true := by kernel_rfl
theorem runx4x1 : (runFn (onlyTb 43) Try.prog 1000 10 [.r .u8 (63) 4 255, .b true]) = true := by kernel_rfl
theorem runx5x0 : (runFn (onlyTb 43) Try.prog 1000 10 [.r .u8 (63) 5 255, .b false]) = true := by kernel_rfl
theorem runx5x1 : (runFn (onlyTb 43) Try.prog 1000 10 [.r .u8 (63) 5 255, .b true]) = true := by kernel_rfl
theorem runx6x0 : (runFn (onlyTb 43) Try.prog 1000 10 [.r .u8 (63) 6 255, .b false]) = true := by kernel_rfl
theorem runx6x1 : (runFn (onlyTb 43) Try.prog 1000 10 [.r .u8 (63) 6 255, .b true]) = true := by kernel_rfl
theorem runx7x0 : (runFn (onlyTb 43) Try.prog 1000 10 [.r .u8 (63) 7 255, .b false]) = true := by kernel_rfl
theorem runx7x1 : (runFn (onlyTb 43) Try.prog 1000 10 [.r .u8 (63) 7 255, .b true]) = true := by kernel_rfl
theorem runx8x0 : (runFn (onlyTb 43) Try.prog 1000 10 [.r .u8 (63) 8 255, .b false]) = true := by kernel_rfl
theorem runx8x1 : (runFn (onlyTb 43) Try.prog 1000 10 [.r .u8 (63) 8 255, .b true]) = true := by kernel_rfl
theorem runx9x0 : (runFn (onlyTb 43) Try.prog 1000 10 [.r .u8 (63) 9 255, .b false]) = true := by kernel_rfl
theorem runx9x1 : (runFn (onlyTb 43) Try.prog 1000 10 [.r .u8 (63) 9 255, .b true]) = true := by kernel_rfl
theorem runx10x0 : (runFn (onlyTb 43) Try.prog 1000 10 [.r .u8 (63) 10 255, .b false]) = true := by kernel_rfl
theorem runx10x1 : (runFn (onlyTb 43) Try.prog 1000 10 [.r .u8 (63) 10 255, .b true]) = true := by kernel_rfl
theorem runx11x0 : (runFn (onlyTb 43) Try.prog 1000 10 [.r .u8 (63) 11 255, .b false]) = true := by kernel_rfl
theorem runx11x1 : (runFn (onlyTb 43) Try.prog 1000 10 [.r .u8 (63) 11 255, .b true]) = true := by kernel_rfl
theorem runx12x0 : (runFn (onlyTb 43) Try.prog 1000 10 [.r .u8 (63) 12 255, .b false]) = true := by kernel_rfl
theorem runx12x1 : (runFn (onlyTb 43) Try.prog 1000 10 [.r .u8 (63) 12 255, .b true]) = true := by kernel_rfl
theorem runx13x0 : (runFn (onlyTb 43) Try.prog 1000 10 [.r .u8 (63) 13 255, .b false]) = true := by kernel_rfl
theorem runx13x1 : (runFn (onlyTb 43) Try.prog 1000 10 [.r .u8 (63) 13 255, .b true]) = true := by kernel_rfl
theorem runx14x0 : (runFn (onlyTb 43) Try.prog 1000 10 [.r .u8 (63) 14 255, .b false]) = true := by kernel_rfl
theorem runx14x1 : (runFn (onlyTb 43) Try.prog 1000 10 [.r .u8 (63) 14 255, .b true]) = true := by kernel_rfl
theorem runx15x0 : (runFn (onlyTb 43) Try.prog 1000 10 [.r .u8 (63) 15 255, .b false]) = true := by kernel_rfl
theorem runx15x1 : (runFn (onlyTb 43) Try.prog 1000 10 [.r .u8 (63) 15 255, .b true]) = true := by kernel_rfl
end Go.Proofs.Ytpnflehemjbemaa.cellSizes
