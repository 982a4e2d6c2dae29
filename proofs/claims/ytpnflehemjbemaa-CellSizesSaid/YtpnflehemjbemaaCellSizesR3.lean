/- Runs of the law, by the evaluator, at the rests or numbers that are told. No condition. -/
import Derived.Test.YtpnflehemjbemaaRows
import Derived.Test.YtpnflehemjbemaaEvL
set_option maxRecDepth 1000000
namespace Go.Proofs.Ytpnflehemjbemaa.cellSizes
open Go.Ev
theorem runx48x0 : (runFn (onlyTb 43) Try.prog 1000 10 [.r .u8 (63) 48 255, .b false]) = true := by kernel_rfl
theorem runx48x1 : (runFn (onlyTb 43) Try.prog 1000 10 [.r .u8 (63) 48 255, .b true]) = true := by kernel_rfl
theorem runx49x0 : (runFn (onlyTb 43) Try.prog 1000 10 [.r .u8 (63) 49 255, .b false]) = true := by kernel_rfl
theorem runx49x1 : (runFn (onlyTb 43) Try.prog 1000 10 [.r .u8 (63) 49 255, .b true]) = true := by kernel_rfl
theorem runx50x0 : (runFn (onlyTb 43) Try.prog 1000 10 [.r .u8 (63) 50 255, .b false]) = true := by kernel_rfl
theorem runx50x1 : (runFn (onlyTb 43) Try.prog 1000 10 [.r .u8 (63) 50 255, .b true]) = true := by kernel_rfl
theorem runx51x0 : (runFn (onlyTb 43) Try.prog 1000 10 [.r .u8 (63) 51 255, .b false]) = true := by kernel_rfl
theorem runx51x1 : (runFn (onlyTb 43) Try.prog 1000 10 [.r .u8 (63) 51 255, .b true]) = true := by kernel_rfl
theorem runx52x0 : (runFn (onlyTb 43) Try.prog 1000 10 [.r .u8 (63) 52 255, .b false]) = true := by kernel_rfl
theorem runx52x1 : (runFn (onlyTb 43) Try.prog 1000 10 [.r .u8 (63) 52 255, .b true]) = true := by kernel_rfl
theorem runx53x0 : (runFn (onlyTb 43) Try.prog 1000 10 [.r .u8 (63) 53 255, .b false]) = true := by kernel_rfl
theorem runx53x1 : (runFn (onlyTb 43) Try.prog 1000 10 [.r .u8 (63) 53 255, .b true]) = true := by kernel_rfl
theorem runx54x0 : (runFn (onlyTb 43) Try.prog 1000 10 [.r .u8 (63) 54 255, .b false]) = true := by kernel_rfl
theorem runx54x1 : (runFn (onlyTb 43) Try.prog 1000 10 [.r .u8 (63) 54 255, .b true]) = true := by kernel_rfl
theorem runx55x0 : (runFn (onlyTb 43) Try.prog 1000 10 [.r .u8 (63) 55 255, .b false]) = true := by kernel_rfl
theorem runx55x1 : (runFn (onlyTb 43) Try.prog 1000 10 [.r .u8 (63) 55 255, .b true]) = true := by kernel_rfl
theorem runx56x0 : (runFn (onlyTb 43) Try.prog 1000 10 [.r .u8 (63) 56 255, .b false]) = true := by kernel_rfl
theorem runx56x1 : (runFn (onlyTb 43) Try.prog 1000 10 [.r .u8 (63) 56 255, .b true]) = true := by kernel_rfl
theorem runx57x0 : (runFn (onlyTb 43) Try.prog 1000 10 [.r .u8 (63) 57 255, .b false]) = true := by kernel_rfl
theorem runx57x1 : (runFn (onlyTb 43) Try.prog 1000 10 [.r .u8 (63) 57 255, .b true]) = true := by kernel_rfl
theorem runx58x0 : (runFn (onlyTb 43) Try.prog 1000 10 [.r .u8 (63) 58 255, .b false]) = true := by kernel_rfl
theorem runx58x1 : (runFn (onlyTb 43) Try.prog 1000 10 [.r .u8 (63) 58 255, .b true]) = true := by kernel_rfl
theorem runx59x0 : (runFn (onlyTb 43) Try.prog 1000 10 [.r .u8 (63) 59 255, .b false]) = true := by kernel_rfl
theorem runx59x1 : (runFn (onlyTb 43) Try.prog 1000 10 [.r .u8 (63) 59 255, .b true]) = true := by kernel_rfl
theorem runx60x0 : (runFn (onlyTb 43) Try.prog 1000 10 [.r .u8 (63) 60 255, .b false]) = true := by kernel_rfl
theorem runx60x1 : (runFn (onlyTb 43) Try.prog 1000 10 [.r .u8 (63) 60 255, .b true]) = true := by kernel_rfl
theorem runx61x0 : (runFn (onlyTb 43) Try.prog 1000 10 [.r .u8 (63) 61 255, .b false]) = true := by kernel_rfl
theorem runx61x1 : (runFn (onlyTb 43) Try.prog 1000 10 [.r .u8 (63) 61 255, .b true]) = true := by kernel_rfl
theorem runx62x0 : (runFn (onlyTb 43) Try.prog 1000 10 [.r .u8 (63) 62 255, .b false]) = true := by kernel_rfl
theorem runx62x1 : (runFn (onlyTb 43) Try.prog 1000 10 [.r .u8 (63) 62 255, .b true]) = true := by kernel_rfl
end Go.Proofs.Ytpnflehemjbemaa.cellSizes
