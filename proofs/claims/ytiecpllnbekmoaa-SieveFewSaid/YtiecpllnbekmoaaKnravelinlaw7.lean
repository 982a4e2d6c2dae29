/- The function 'known' of the statements' package returns true: it has no parameters; the evaluator runs it. No condition. -/
import Derived.Test.YtiecpllnbekmoaaRows
import Derived.Test.YtiecpllnbekmoaaEvL
set_option maxRecDepth 1000000
namespace Go.Proofs.Ytiecpllnbekmoaa.ravelinlaw7
open Go.Ev
theorem known_run : runFn noTb Try.prog 1000 37 [] = true := by kernel_rfl
theorem known_pure : PureTrue Try.prog 37 := pure_of (noTb_ok _) (Checked.mixed Try.checked) known_run
theorem known_tb : ∀ f, onlyTb 37 f = true → PureTrue Try.prog f := onlyTb_ok known_pure
end Go.Proofs.Ytiecpllnbekmoaa.ravelinlaw7
