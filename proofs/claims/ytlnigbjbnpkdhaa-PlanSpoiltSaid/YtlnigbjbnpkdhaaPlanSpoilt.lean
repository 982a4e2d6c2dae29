/- The law PlanSpoilt returns true at every input, and leaves its arguments as they were: by runs of a verified evaluator in the kernel. No condition. -/
import Derived.Test.YtlnigbjbnpkdhaaRows
import Derived.WalkKit
import Derived.ProofKit
import Derived.OpenShut
import Derived.Test.YtlnigbjbnpkdhaaEvL
import Derived.Test.YtlnigbjbnpkdhaaKnravelinlaw2
import Derived.Test.YtlnigbjbnpkdhaaPlanSpoiltR0
import Derived.Test.YtlnigbjbnpkdhaaPlanSpoiltR1
import Derived.Test.YtlnigbjbnpkdhaaPlanSpoiltR2
import Derived.Test.YtlnigbjbnpkdhaaPlanSpoiltR3
import Derived.Test.YtlnigbjbnpkdhaaPlanSpoiltR4
namespace Go.Proofs.Ytlnigbjbnpkdhaa.planSpoilt
open Go.Ev Go.ChangeShapes Go.WideShapes Go.ChangeAt Go.RowKit
set_option linter.unusedVariables false      -- a walk need not use every 'w<i>' (that an integer argument fits its kind)

theorem own : ownKnob Try.prog.godebug = none := by kernel_rfl

/-! ### STEP 1: THE WALK: the Go text returns true. 'Below w.heap.size w w'': the world has at most new blocks (Derived/RowKit3.lean). Part the cases AHEAD of 'go_enter' where a test parts the walk; take each callee by a contract of your own. -/
theorem walk (a0 : Int) (a1 : Int) (w0 : (Lit.int .u8 a0).wf = true) (w1 : (Lit.int .u8 a1).wf = true) (w : World) :
    Calls Try.prog 11 #[.int .u8 a0, .int .u8 a1] w fun e w' => e = .returned (.bool true) ∧ Below w.heap.size w w' := by
  obtain ⟨i0, h0, v0⟩ := arg_r w0 (10) (by omega)
  obtain ⟨i1, h1, v1⟩ := arg_r w1 (8) (by omega)
  have hrun : runFn (onlyTb 35) Try.prog 2000 11 [.r .u8 (10) i0 255, .r .u8 (8) i1 255] = true := by
    match i0, h0 with
    | 0, _ =>
      match i1, h1 with
      | 0, _ =>
        exact runx0x0
      | 1, _ =>
        exact runx0x1
      | 2, _ =>
        exact runx0x2
      | 3, _ =>
        exact runx0x3
      | 4, _ =>
        exact runx0x4
      | 5, _ =>
        exact runx0x5
      | 6, _ =>
        exact runx0x6
      | 7, _ =>
        exact runx0x7
      | n + 8, h => exact absurd h (by omega)
    | 1, _ =>
      match i1, h1 with
      | 0, _ =>
        exact runx1x0
      | 1, _ =>
        exact runx1x1
      | 2, _ =>
        exact runx1x2
      | 3, _ =>
        exact runx1x3
      | 4, _ =>
        exact runx1x4
      | 5, _ =>
        exact runx1x5
      | 6, _ =>
        exact runx1x6
      | 7, _ =>
        exact runx1x7
      | n + 8, h => exact absurd h (by omega)
    | 2, _ =>
      match i1, h1 with
      | 0, _ =>
        exact runx2x0
      | 1, _ =>
        exact runx2x1
      | 2, _ =>
        exact runx2x2
      | 3, _ =>
        exact runx2x3
      | 4, _ =>
        exact runx2x4
      | 5, _ =>
        exact runx2x5
      | 6, _ =>
        exact runx2x6
      | 7, _ =>
        exact runx2x7
      | n + 8, h => exact absurd h (by omega)
    | 3, _ =>
      match i1, h1 with
      | 0, _ =>
        exact runx3x0
      | 1, _ =>
        exact runx3x1
      | 2, _ =>
        exact runx3x2
      | 3, _ =>
        exact runx3x3
      | 4, _ =>
        exact runx3x4
      | 5, _ =>
        exact runx3x5
      | 6, _ =>
        exact runx3x6
      | 7, _ =>
        exact runx3x7
      | n + 8, h => exact absurd h (by omega)
    | 4, _ =>
      match i1, h1 with
      | 0, _ =>
        exact runx4x0
      | 1, _ =>
        exact runx4x1
      | 2, _ =>
        exact runx4x2
      | 3, _ =>
        exact runx4x3
      | 4, _ =>
        exact runx4x4
      | 5, _ =>
        exact runx4x5
      | 6, _ =>
        exact runx4x6
      | 7, _ =>
        exact runx4x7
      | n + 8, h => exact absurd h (by omega)
    | 5, _ =>
      match i1, h1 with
      | 0, _ =>
        exact runx5x0
      | 1, _ =>
        exact runx5x1
      | 2, _ =>
        exact runx5x2
      | 3, _ =>
        exact runx5x3
      | 4, _ =>
        exact runx5x4
      | 5, _ =>
        exact runx5x5
      | 6, _ =>
        exact runx5x6
      | 7, _ =>
        exact runx5x7
      | n + 8, h => exact absurd h (by omega)
    | 6, _ =>
      match i1, h1 with
      | 0, _ =>
        exact runx6x0
      | 1, _ =>
        exact runx6x1
      | 2, _ =>
        exact runx6x2
      | 3, _ =>
        exact runx6x3
      | 4, _ =>
        exact runx6x4
      | 5, _ =>
        exact runx6x5
      | 6, _ =>
        exact runx6x6
      | 7, _ =>
        exact runx6x7
      | n + 8, h => exact absurd h (by omega)
    | 7, _ =>
      match i1, h1 with
      | 0, _ =>
        exact runx7x0
      | 1, _ =>
        exact runx7x1
      | 2, _ =>
        exact runx7x2
      | 3, _ =>
        exact runx7x3
      | 4, _ =>
        exact runx7x4
      | 5, _ =>
        exact runx7x5
      | 6, _ =>
        exact runx7x6
      | 7, _ =>
        exact runx7x7
      | n + 8, h => exact absurd h (by omega)
    | 8, _ =>
      match i1, h1 with
      | 0, _ =>
        exact runx8x0
      | 1, _ =>
        exact runx8x1
      | 2, _ =>
        exact runx8x2
      | 3, _ =>
        exact runx8x3
      | 4, _ =>
        exact runx8x4
      | 5, _ =>
        exact runx8x5
      | 6, _ =>
        exact runx8x6
      | 7, _ =>
        exact runx8x7
      | n + 8, h => exact absurd h (by omega)
    | 9, _ =>
      match i1, h1 with
      | 0, _ =>
        exact runx9x0
      | 1, _ =>
        exact runx9x1
      | 2, _ =>
        exact runx9x2
      | 3, _ =>
        exact runx9x3
      | 4, _ =>
        exact runx9x4
      | 5, _ =>
        exact runx9x5
      | 6, _ =>
        exact runx9x6
      | 7, _ =>
        exact runx9x7
      | n + 8, h => exact absurd h (by omega)
    | n + 10, h => exact absurd h (by omega)
  exact (runs ravelinlaw2.known_tb (Checked.mixed Try.checked) hrun (args := [.int .u8 a0, .int .u8 a1]) ⟨v0, v1, trivial⟩ w).2.mono fun e w' ⟨he, hs⟩ => ⟨he, hs.below⟩

/-! ### THE ROW's STEP: WRITTEN OUT: LEAVE IT -/
set_option maxRecDepth 100000 in
theorem lifted (os : Os) (started : os.Started) (H : Type) (enc : TypeId × Value → H) :
    ReturnsInHanded {} Try.checked os 11 .any (Rows.planSpoiltSpec.pre6 enc Try.prog Try.f11 Rows.planSpoiltRow.domain false) (Rows.planSpoiltSpec.post enc Try.prog Try.f11 false true false false) := by
  refine returnsInHanded_of_change (C := Try.checked) own started (by kernel_rfl) Try.func11
    (ChangeSpec.witness6 (enc := enc) (C := Try.checked) false ⟨#[], #[.int .u8 0, .int .u8 0], []⟩ 8 (by kernel_rfl) (by kernel_rfl) (by kernel_rfl) (by kernel_rfl)) ?_
  intro W base args ds gs before hval0 hW hcnd _
  have hval : ∀ (j : Nat) t v, Try.f11.params[j]? = some t → args[j]? = some v → Value.okWide Try.prog W .any base t v := hval0
  have hW' := hW
  obtain ⟨p, q, hA0, hV, rfl, hfz, hnd⟩ := hW
  have hA : DataW.TrodAll enc Try.prog W 0 (fun _ => true) true Try.f11.params.toList args.toList ds p := hA0
  rw [Try.params11] at hA hval
  obtain ⟨v0, vs0, d0, ds0, p0, q0, hargs, rfl, rfl, h0, r0⟩ := trodAll_cons hA
  obtain ⟨v1, vs1, d1, ds1, p1, q1, rfl, rfl, rfl, h1, r1⟩ := trodAll_cons r0
  obtain ⟨rfl, rfl, rfl⟩ := trodAll_nil r1
  obtain rfl : args = #[v0, v1] := by cases args; simp_all
  obtain ⟨rfl, rfl⟩ := trodVars_none hV
  obtain ⟨a0, rfl, rfl, rfl, w0⟩ := open_int Try.underlying5 (hval 0 5 v0 rfl rfl) h0
  obtain ⟨a1, rfl, rfl, rfl, w1⟩ := open_int Try.underlying5 (hval 1 5 v1 rfl rfl) h1
  clear hA0 hval0
  simp only [List.append_nil] at hW'
  refine (walk a0 a1 w0 w1 W).mono fun e W' ⟨he, hg⟩ => ?_
  subst he
  exact ⟨_, rfl, post_kept hg (pa := []) (pv := []) hW' (fun _ _ _ => (trodAll_cons_mk (shut_bool Try.underlying4 _) trodAll_mk0)) (fun sp _ => (trodAll_cons_mk (shut_int Try.underlying5 w0) (trodAll_cons_mk (shut_int Try.underlying5 w1) trodAll_mk0))) (fun _ _ => rfl) rfl
    (ok_one (by kernel_rfl) rfl (okWide_bool_mk Try.underlying4 _))⟩

theorem over : Rows.planSpoiltRow.holds Try.pinned (OpenSpec.ofChange Rows.planSpoiltSpec) :=
  OpenClaim.holds_of_wide 11 Try.f11 rfl rfl rfl rfl rfl rfl rfl ⟨rfl, rfl, rfl, rfl, rfl⟩ rfl rfl rfl rfl rfl (by kernel_rfl) Try.func11 (by kernel_rfl)
    (of_decide_eq_true (by kernel_rfl)) (by unfold Func.isWrapper; first | (rw [if_pos (by decide +kernel)]; kernel_rfl) | (rw [if_neg (by decide +kernel)]; exact ⟨rfl, rfl⟩))
    (fun os started H enc _ => lifted os started H enc)

/-- ████ THE STATEMENT ████ -/
theorem proved : Rows.PlanSpoiltSaid :=
  over
end Go.Proofs.Ytlnigbjbnpkdhaa.planSpoilt
