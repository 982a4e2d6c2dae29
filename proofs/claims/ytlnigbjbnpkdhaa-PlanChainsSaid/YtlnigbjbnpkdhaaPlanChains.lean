/- The law PlanChains returns true at every input, and leaves its arguments as they were: by runs of a verified evaluator in the kernel. No condition. -/
import Derived.Test.YtlnigbjbnpkdhaaRows
import Derived.WalkKit
import Derived.ProofKit
import Derived.OpenShut
import Derived.Test.YtlnigbjbnpkdhaaEvL
import Derived.Test.YtlnigbjbnpkdhaaKnravelinlaw2
import Derived.Test.YtlnigbjbnpkdhaaPlanChainsR0
import Derived.Test.YtlnigbjbnpkdhaaPlanChainsR1
import Derived.Test.YtlnigbjbnpkdhaaPlanChainsR2
import Derived.Test.YtlnigbjbnpkdhaaPlanChainsR3
import Derived.Test.YtlnigbjbnpkdhaaPlanChainsR4
import Derived.Test.YtlnigbjbnpkdhaaPlanChainsR5
import Derived.Test.YtlnigbjbnpkdhaaPlanChainsR6
import Derived.Test.YtlnigbjbnpkdhaaPlanChainsR7
import Derived.Test.YtlnigbjbnpkdhaaPlanChainsR8
import Derived.Test.YtlnigbjbnpkdhaaPlanChainsR9
import Derived.Test.YtlnigbjbnpkdhaaPlanChainsR10
import Derived.Test.YtlnigbjbnpkdhaaPlanChainsR11
namespace Go.Proofs.Ytlnigbjbnpkdhaa.planChains
open Go.Ev Go.ChangeShapes Go.WideShapes Go.ChangeAt Go.RowKit
set_option linter.unusedVariables false      -- a walk need not use every 'w<i>' (that an integer argument fits its kind)

theorem own : ownKnob Try.prog.godebug = none := by kernel_rfl

/-! ### STEP 1: THE WALK: the Go text returns true. 'Below w.heap.size w w'': the world has at most new blocks (Derived/RowKit3.lean). Part the cases AHEAD of 'go_enter' where a test parts the walk; take each callee by a contract of your own. -/
theorem walk (a0 : Int) (a1 : Int) (a2 : Int) (w0 : (Lit.int .u8 a0).wf = true) (w1 : (Lit.int .u8 a1).wf = true) (w2 : (Lit.int .u8 a2).wf = true) (w : World) :
    Calls Try.prog 12 #[.int .u8 a0, .int .u8 a1, .int .u8 a2] w fun e w' => e = .returned (.bool true) ∧ Below w.heap.size w w' := by
  obtain ⟨i0, h0, v0⟩ := arg_r w0 (5) (by omega)
  obtain ⟨i1, h1, v1⟩ := arg_r w1 ((i0+2)) (by omega)
  obtain ⟨i2, h2, v2⟩ := arg_r w2 ((i0+2)) (by omega)
  have hrun : runFn (onlyTb 35) Try.prog 2000 12 [.r .u8 (5) i0 255, .r .u8 ((i0+2)) i1 255, .r .u8 ((i0+2)) i2 255] = true := by
    match i0, h0 with
    | 0, _ =>
      match i1, h1 with
      | 0, _ =>
        match i2, h2 with
        | 0, _ =>
          exact runx0x0x0
        | 1, _ =>
          exact runx0x0x1
        | n + 2, h => exact absurd h (by omega)
      | 1, _ =>
        match i2, h2 with
        | 0, _ =>
          exact runx0x1x0
        | 1, _ =>
          exact runx0x1x1
        | n + 2, h => exact absurd h (by omega)
      | n + 2, h => exact absurd h (by omega)
    | 1, _ =>
      match i1, h1 with
      | 0, _ =>
        match i2, h2 with
        | 0, _ =>
          exact runx1x0x0
        | 1, _ =>
          exact runx1x0x1
        | 2, _ =>
          exact runx1x0x2
        | n + 3, h => exact absurd h (by omega)
      | 1, _ =>
        match i2, h2 with
        | 0, _ =>
          exact runx1x1x0
        | 1, _ =>
          exact runx1x1x1
        | 2, _ =>
          exact runx1x1x2
        | n + 3, h => exact absurd h (by omega)
      | 2, _ =>
        match i2, h2 with
        | 0, _ =>
          exact runx1x2x0
        | 1, _ =>
          exact runx1x2x1
        | 2, _ =>
          exact runx1x2x2
        | n + 3, h => exact absurd h (by omega)
      | n + 3, h => exact absurd h (by omega)
    | 2, _ =>
      match i1, h1 with
      | 0, _ =>
        match i2, h2 with
        | 0, _ =>
          exact runx2x0x0
        | 1, _ =>
          exact runx2x0x1
        | 2, _ =>
          exact runx2x0x2
        | 3, _ =>
          exact runx2x0x3
        | n + 4, h => exact absurd h (by omega)
      | 1, _ =>
        match i2, h2 with
        | 0, _ =>
          exact runx2x1x0
        | 1, _ =>
          exact runx2x1x1
        | 2, _ =>
          exact runx2x1x2
        | 3, _ =>
          exact runx2x1x3
        | n + 4, h => exact absurd h (by omega)
      | 2, _ =>
        match i2, h2 with
        | 0, _ =>
          exact runx2x2x0
        | 1, _ =>
          exact runx2x2x1
        | 2, _ =>
          exact runx2x2x2
        | 3, _ =>
          exact runx2x2x3
        | n + 4, h => exact absurd h (by omega)
      | 3, _ =>
        match i2, h2 with
        | 0, _ =>
          exact runx2x3x0
        | 1, _ =>
          exact runx2x3x1
        | 2, _ =>
          exact runx2x3x2
        | 3, _ =>
          exact runx2x3x3
        | n + 4, h => exact absurd h (by omega)
      | n + 4, h => exact absurd h (by omega)
    | 3, _ =>
      match i1, h1 with
      | 0, _ =>
        match i2, h2 with
        | 0, _ =>
          exact runx3x0x0
        | 1, _ =>
          exact runx3x0x1
        | 2, _ =>
          exact runx3x0x2
        | 3, _ =>
          exact runx3x0x3
        | 4, _ =>
          exact runx3x0x4
        | n + 5, h => exact absurd h (by omega)
      | 1, _ =>
        match i2, h2 with
        | 0, _ =>
          exact runx3x1x0
        | 1, _ =>
          exact runx3x1x1
        | 2, _ =>
          exact runx3x1x2
        | 3, _ =>
          exact runx3x1x3
        | 4, _ =>
          exact runx3x1x4
        | n + 5, h => exact absurd h (by omega)
      | 2, _ =>
        match i2, h2 with
        | 0, _ =>
          exact runx3x2x0
        | 1, _ =>
          exact runx3x2x1
        | 2, _ =>
          exact runx3x2x2
        | 3, _ =>
          exact runx3x2x3
        | 4, _ =>
          exact runx3x2x4
        | n + 5, h => exact absurd h (by omega)
      | 3, _ =>
        match i2, h2 with
        | 0, _ =>
          exact runx3x3x0
        | 1, _ =>
          exact runx3x3x1
        | 2, _ =>
          exact runx3x3x2
        | 3, _ =>
          exact runx3x3x3
        | 4, _ =>
          exact runx3x3x4
        | n + 5, h => exact absurd h (by omega)
      | 4, _ =>
        match i2, h2 with
        | 0, _ =>
          exact runx3x4x0
        | 1, _ =>
          exact runx3x4x1
        | 2, _ =>
          exact runx3x4x2
        | 3, _ =>
          exact runx3x4x3
        | 4, _ =>
          exact runx3x4x4
        | n + 5, h => exact absurd h (by omega)
      | n + 5, h => exact absurd h (by omega)
    | 4, _ =>
      match i1, h1 with
      | 0, _ =>
        match i2, h2 with
        | 0, _ =>
          exact runx4x0x0
        | 1, _ =>
          exact runx4x0x1
        | 2, _ =>
          exact runx4x0x2
        | 3, _ =>
          exact runx4x0x3
        | 4, _ =>
          exact runx4x0x4
        | 5, _ =>
          exact runx4x0x5
        | n + 6, h => exact absurd h (by omega)
      | 1, _ =>
        match i2, h2 with
        | 0, _ =>
          exact runx4x1x0
        | 1, _ =>
          exact runx4x1x1
        | 2, _ =>
          exact runx4x1x2
        | 3, _ =>
          exact runx4x1x3
        | 4, _ =>
          exact runx4x1x4
        | 5, _ =>
          exact runx4x1x5
        | n + 6, h => exact absurd h (by omega)
      | 2, _ =>
        match i2, h2 with
        | 0, _ =>
          exact runx4x2x0
        | 1, _ =>
          exact runx4x2x1
        | 2, _ =>
          exact runx4x2x2
        | 3, _ =>
          exact runx4x2x3
        | 4, _ =>
          exact runx4x2x4
        | 5, _ =>
          exact runx4x2x5
        | n + 6, h => exact absurd h (by omega)
      | 3, _ =>
        match i2, h2 with
        | 0, _ =>
          exact runx4x3x0
        | 1, _ =>
          exact runx4x3x1
        | 2, _ =>
          exact runx4x3x2
        | 3, _ =>
          exact runx4x3x3
        | 4, _ =>
          exact runx4x3x4
        | 5, _ =>
          exact runx4x3x5
        | n + 6, h => exact absurd h (by omega)
      | 4, _ =>
        match i2, h2 with
        | 0, _ =>
          exact runx4x4x0
        | 1, _ =>
          exact runx4x4x1
        | 2, _ =>
          exact runx4x4x2
        | 3, _ =>
          exact runx4x4x3
        | 4, _ =>
          exact runx4x4x4
        | 5, _ =>
          exact runx4x4x5
        | n + 6, h => exact absurd h (by omega)
      | 5, _ =>
        match i2, h2 with
        | 0, _ =>
          exact runx4x5x0
        | 1, _ =>
          exact runx4x5x1
        | 2, _ =>
          exact runx4x5x2
        | 3, _ =>
          exact runx4x5x3
        | 4, _ =>
          exact runx4x5x4
        | 5, _ =>
          exact runx4x5x5
        | n + 6, h => exact absurd h (by omega)
      | n + 6, h => exact absurd h (by omega)
    | n + 5, h => exact absurd h (by omega)
  exact (runs ravelinlaw2.known_tb (Checked.mixed Try.checked) hrun (args := [.int .u8 a0, .int .u8 a1, .int .u8 a2]) ⟨v0, v1, v2, trivial⟩ w).2.mono fun e w' ⟨he, hs⟩ => ⟨he, hs.below⟩

/-! ### THE ROW's STEP: WRITTEN OUT: LEAVE IT -/
set_option maxRecDepth 100000 in
theorem lifted (os : Os) (started : os.Started) (H : Type) (enc : TypeId × Value → H) :
    ReturnsInHanded {} Try.checked os 12 .any (Rows.planChainsSpec.pre6 enc Try.prog Try.f12 Rows.planChainsRow.domain false) (Rows.planChainsSpec.post enc Try.prog Try.f12 false true false false) := by
  refine returnsInHanded_of_change (C := Try.checked) own started (by kernel_rfl) Try.func12
    (ChangeSpec.witness6 (enc := enc) (C := Try.checked) false ⟨#[], #[.int .u8 0, .int .u8 0, .int .u8 0], []⟩ 8 (by kernel_rfl) (by kernel_rfl) (by kernel_rfl) (by kernel_rfl)) ?_
  intro W base args ds gs before hval0 hW hcnd _
  have hval : ∀ (j : Nat) t v, Try.f12.params[j]? = some t → args[j]? = some v → Value.okWide Try.prog W .any base t v := hval0
  have hW' := hW
  obtain ⟨p, q, hA0, hV, rfl, hfz, hnd⟩ := hW
  have hA : DataW.TrodAll enc Try.prog W 0 (fun _ => true) true Try.f12.params.toList args.toList ds p := hA0
  rw [Try.params12] at hA hval
  obtain ⟨v0, vs0, d0, ds0, p0, q0, hargs, rfl, rfl, h0, r0⟩ := trodAll_cons hA
  obtain ⟨v1, vs1, d1, ds1, p1, q1, rfl, rfl, rfl, h1, r1⟩ := trodAll_cons r0
  obtain ⟨v2, vs2, d2, ds2, p2, q2, rfl, rfl, rfl, h2, r2⟩ := trodAll_cons r1
  obtain ⟨rfl, rfl, rfl⟩ := trodAll_nil r2
  obtain rfl : args = #[v0, v1, v2] := by cases args; simp_all
  obtain ⟨rfl, rfl⟩ := trodVars_none hV
  obtain ⟨a0, rfl, rfl, rfl, w0⟩ := open_int Try.underlying5 (hval 0 5 v0 rfl rfl) h0
  obtain ⟨a1, rfl, rfl, rfl, w1⟩ := open_int Try.underlying5 (hval 1 5 v1 rfl rfl) h1
  obtain ⟨a2, rfl, rfl, rfl, w2⟩ := open_int Try.underlying5 (hval 2 5 v2 rfl rfl) h2
  clear hA0 hval0
  simp only [List.append_nil] at hW'
  refine (walk a0 a1 a2 w0 w1 w2 W).mono fun e W' ⟨he, hg⟩ => ?_
  subst he
  exact ⟨_, rfl, post_kept hg (pa := []) (pv := []) hW' (fun _ _ _ => (trodAll_cons_mk (shut_bool Try.underlying4 _) trodAll_mk0)) (fun sp _ => (trodAll_cons_mk (shut_int Try.underlying5 w0) (trodAll_cons_mk (shut_int Try.underlying5 w1) (trodAll_cons_mk (shut_int Try.underlying5 w2) trodAll_mk0)))) (fun _ _ => rfl) rfl
    (ok_one (by kernel_rfl) rfl (okWide_bool_mk Try.underlying4 _))⟩

theorem over : Rows.planChainsRow.holds Try.pinned (OpenSpec.ofChange Rows.planChainsSpec) :=
  OpenClaim.holds_of_wide 12 Try.f12 rfl rfl rfl rfl rfl rfl rfl ⟨rfl, rfl, rfl, rfl, rfl⟩ rfl rfl rfl rfl rfl (by kernel_rfl) Try.func12 (by kernel_rfl)
    (of_decide_eq_true (by kernel_rfl)) (by unfold Func.isWrapper; first | (rw [if_pos (by decide +kernel)]; kernel_rfl) | (rw [if_neg (by decide +kernel)]; exact ⟨rfl, rfl⟩))
    (fun os started H enc _ => lifted os started H enc)

/-- ████ THE STATEMENT ████ -/
theorem proved : Rows.PlanChainsSaid :=
  over
end Go.Proofs.Ytlnigbjbnpkdhaa.planChains
