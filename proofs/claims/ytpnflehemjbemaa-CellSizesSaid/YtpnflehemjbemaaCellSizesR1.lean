/- Runs of the law, by the evaluator, at the rests or numbers that are told. No condition. -/
import Derived.Test.YtpnflehemjbemaaRows
import Derived.Test.YtpnflehemjbemaaEvL
set_option maxRecDepth 1000000
namespace Go.Proofs.Ytpnflehemjbemaa.cellSizes
open Go.Ev
theorem runx16x0 : (runFn (onlyTb 43) Try.prog 1000 10 [.r .u8 (63) 16 255, .b false]) = true := by kernel_rfl
theorem runx16x1 : (runFn (onlyTb 43) Try.prog 1000 10 [.r .u8 (63) 16 255, .b true]) = true := by kernel_rfl
theorem runx17x0 : (runFn (onlyTb 43) Try.prog 1000 10 [.r .u8 (63) 17 255, .b false]) = true := by kernel_rfl
theorem runx17x1 : (runFn (onlyTb 43) Try.prog 1000 10 [.r .u8 (63) 17 255, .b true]) = true := by kernel_rfl
theorem runx18x0 : (runFn (onlyTb 43) Try.prog 1000 10 [.r .u8 (63) 18 255, .b false]) = true := by kernel_rfl
theorem runx18x1 : (runFn (onlyTb 43) Try.prog 1000 10 [.r .u8 (63) 18 255, .b true]) = true := by kernel_rfl
theorem runx19x0 : (runFn (onlyTb 43) Try.prog 1000 10 [.r .u8 (63) 19 255, .b false]) = true := by kernel_rfl
theorem runx19x1 : (runFn (onlyTb 43) Try.prog 1000 10 [.r .u8 (63) 19 255, .b true]) = true := by kernel_rfl
theorem runx20x0 : (runFn (onlyTb 43) Try.prog 1000 10 [.r .u8 (63) 20 255, .b false]) = true := by kernel_rfl
theorem runx20x1 : (runFn (onlyTb 43) Try.prog 1000 10 [.r .u8 (63) 20 255, .b true]) = true := by kernel_rfl
theorem runx21x0 : (runFn (onlyTb 43) Try.prog 1000 10 [.r .u8 (63) 21 255, .b false]) = true := by kernel_rfl
theorem runx21x1 : (runFn (onlyTb 43) Try.prog 1000 10 [.r .u8 (63) 21 255, .b true]) = true := by kernel_rfl
theorem runx22x0 : (runFn (onlyTb 43) Try.prog 1000 10 [.r .u8 (63) 22 255, .b false]) = true := by kernel_rfl
theorem runx22x1 : (runFn (onlyTb 43) Try.prog 1000 10 [.r .u8 (63) 22 255, .b true]) = true := by kernel_rfl
theorem runx23x0 : (runFn (onlyTb 43) Try.prog 1000 10 [.r .u8 (63) 23 255, .b false]) = true := by kernel_rfl
theorem runx23x1 : (runFn (onlyTb 43) Try.prog 1000 10 [.r .u8 (63) 23 255, .b true]) = true := by kernel_rfl
theorem runx24x0 : (runFn (onlyTb 43) Try.prog 1000 10 [.r .u8 (63) 24 255, .b false]) = true := by kernel_rfl
theorem runx24x1 : (runFn (onlyTb 43) Try.prog 1000 10 [.r .u8 (63) 24 255, .b true]) = true := by kernel_rfl
theorem runx25x0 : (runFn (onlyTb 43) Try.prog 1000 10 [.r .u8 (63) 25 255, .b false]) = true := by kernel_rfl
theorem runx25x1 : (runFn (onlyTb 43) Try.prog 1000 10 [.r .u8 (63) 25 255, .b true]) = true := by kernel_rfl
theorem runx26x0 : (runFn (onlyTb 43) Try.prog 1000 10 [.r .u8 (63) 26 255, .b false]) = true := by kernel_rfl
theorem runx26x1 : (runFn (onlyTb 43) Try.prog 1000 10 [.r .u8 (63) 26 255, .b true]) = true := by kernel_rfl
theorem runx27x0 : (runFn (onlyTb 43) Try.prog 1000 10 [.r .u8 (63) 27 255, .b false]) = true := by kernel_rfl
theorem runx27x1 : (runFn (onlyTb 43) Try.prog 1000 10 [.r .u8 (63) 27 255, .b true]) = true := by kernel_rfl
theorem runx28x0 : (runFn (onlyTb 43) Try.prog 1000 10 [.r .u8 (63) 28 255, .b false]) = true := by kernel_rfl
theorem runx28x1 : (runFn (onlyTb 43) Try.prog 1000 10 [.r .u8 (63) 28 255, .b true]) = true := by kernel_rfl
theorem runx29x0 : (runFn (onlyTb 43) Try.prog 1000 10 [.r .u8 (63) 29 255, .b false]) = true := by kernel_rfl
theorem runx29x1 : (runFn (onlyTb 43) Try.prog 1000 10 [.r .u8 (63) 29 255, .b true]) = true := by kernel_rfl
theorem runx30x0 : (runFn (onlyTb 43) Try.prog 1000 10 [.r .u8 (63) 30 255, .b false]) = true := by kernel_rfl
theorem runx30x1 : (runFn (onlyTb 43) Try.prog 1000 10 [.r .u8 (63) 30 255, .b true]) = true := by kernel_rfl
theorem runx31x0 : (runFn (onlyTb 43) Try.prog 1000 10 [.r .u8 (63) 31 255, .b false]) = true := by kernel_rfl
theorem runx31x1 : (runFn (onlyTb 43) Try.prog 1000 10 [.r .u8 (63) 31 255, .b true]) = true := by kernel_rfl
end Go.Proofs.Ytpnflehemjbemaa.cellSizes
