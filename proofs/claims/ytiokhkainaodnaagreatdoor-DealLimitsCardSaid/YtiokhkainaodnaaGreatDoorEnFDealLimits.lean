/- Closed facts of the row, each by the kernel. No condition. -/
import Derived.Test.YtiokhkainaodnaaGreatDoorRows
import Derived.ProofKit
import Derived.OpenShut
import Derived.Deep.DeepHandedRow
namespace Go.Proofs.YtiokhkainaodnaaGreatDoor.dealLimits
open Go
theorem and_of {a b : Bool} (ha : a = true) (hb : b = true) : (a && b) = true := by rw [ha, hb]; rfl
set_option maxHeartbeats 0 in
theorem facts : joinedFacts Tryz.prog 7 Tryz.f7 (OpenSpec.ofChange Rows.dealLimitsSpec).bare Rows.dealLimitsRow = true := by
  unfold joinedFacts
  repeat' with_reducible refine and_of ?_ ?_
  all_goals as_aux_lemma => kernel_rfl
theorem inst : Tryz.f7.isInstance Tryz.prog Rows.dealLimitsRow.origin Rows.dealLimitsRow.targs := of_decide_eq_true (by kernel_rfl)
theorem wrap : Tryz.f7.isWrapper Tryz.prog Rows.dealLimitsRow.wrapper Rows.dealLimitsRow.mainSum := by unfold Func.isWrapper; first | (rw [if_pos (by decide +kernel)]; kernel_rfl) | (rw [if_neg (by decide +kernel)]; exact ⟨rfl, rfl⟩)
theorem fnd : Tryz.prog.funcNamed Rows.dealLimitsRow.func = some 7 := by kernel_rfl
end Go.Proofs.YtiokhkainaodnaaGreatDoor.dealLimits
