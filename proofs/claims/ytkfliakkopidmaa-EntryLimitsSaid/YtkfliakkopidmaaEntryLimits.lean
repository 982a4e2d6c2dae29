/- The law EntryLimits returns true at every input, and leaves its arguments as they were: by runs of a verified evaluator in the kernel. No condition. -/
import Derived.Test.YtkfliakkopidmaaRows
import Derived.WalkKit
import Derived.ProofKit
import Derived.OpenShut
import Derived.Test.YtkfliakkopidmaaEvL
import Derived.Test.YtkfliakkopidmaaKnravelinlaw6
import Derived.Test.YtkfliakkopidmaaEntryLimitsR0
import Derived.Test.YtkfliakkopidmaaEntryLimitsR1
import Derived.Test.YtkfliakkopidmaaEntryLimitsR2
import Derived.Test.YtkfliakkopidmaaEntryLimitsR3
namespace Go.Proofs.Ytkfliakkopidmaa.entryLimits
open Go.Ev Go.ChangeShapes Go.WideShapes Go.ChangeAt Go.RowKit
set_option linter.unusedVariables false      -- a walk need not use every 'w<i>' (that an integer argument fits its kind)

theorem own : ownKnob Try.prog.godebug = none := by kernel_rfl

/-! ### STEP 1: THE WALK: the Go text returns true. 'Below w.heap.size w w'': the world has at most new blocks (Derived/RowKit3.lean). Part the cases AHEAD of 'go_enter' where a test parts the walk; take each callee by a contract of your own. -/
theorem walk (a0 : Int) (a1 : Int) (a2 : Int) (a3 : Bool) (w0 : (Lit.int .u8 a0).wf = true) (w1 : (Lit.int .u8 a1).wf = true) (w2 : (Lit.int .u8 a2).wf = true) (w : World) :
    Calls Try.prog 12 #[.int .u8 a0, .int .u8 a1, .int .u8 a2, .bool a3] w fun e w' => e = .returned (.bool true) ∧ Below w.heap.size w w' := by
  obtain ⟨i0, h0, v0⟩ := arg_r w0 (16) (by omega)
  obtain ⟨i1, h1, v1⟩ := arg_r w1 (6) (by omega)
  obtain ⟨i2, h2, v2⟩ := arg_r w2 (3) (by omega)
  have v3 := arg_b a3
  have hrun : runFn (onlyTb 39) Try.prog 1000 12 [.r .u8 (16) i0 255, .r .u8 (6) i1 255, .r .u8 (3) i2 255, .b a3] = true := by
    match i0, h0 with
    | 0, _ =>
      match i1, h1 with
      | 0, _ =>
        exact (List.all_eq_true.1 (all_lt runx0x0 h2) a3 (by cases a3 <;> simp))
      | 1, _ =>
        exact (List.all_eq_true.1 (all_lt runx0x1 h2) a3 (by cases a3 <;> simp))
      | 2, _ =>
        exact (List.all_eq_true.1 (all_lt runx0x2 h2) a3 (by cases a3 <;> simp))
      | 3, _ =>
        exact (List.all_eq_true.1 (all_lt runx0x3 h2) a3 (by cases a3 <;> simp))
      | 4, _ =>
        exact (List.all_eq_true.1 (all_lt runx0x4 h2) a3 (by cases a3 <;> simp))
      | 5, _ =>
        exact (List.all_eq_true.1 (all_lt runx0x5 h2) a3 (by cases a3 <;> simp))
      | n + 6, h => exact absurd h (by omega)
    | 1, _ =>
      match i1, h1 with
      | 0, _ =>
        exact (List.all_eq_true.1 (all_lt runx1x0 h2) a3 (by cases a3 <;> simp))
      | 1, _ =>
        exact (List.all_eq_true.1 (all_lt runx1x1 h2) a3 (by cases a3 <;> simp))
      | 2, _ =>
        exact (List.all_eq_true.1 (all_lt runx1x2 h2) a3 (by cases a3 <;> simp))
      | 3, _ =>
        exact (List.all_eq_true.1 (all_lt runx1x3 h2) a3 (by cases a3 <;> simp))
      | 4, _ =>
        exact (List.all_eq_true.1 (all_lt runx1x4 h2) a3 (by cases a3 <;> simp))
      | 5, _ =>
        exact (List.all_eq_true.1 (all_lt runx1x5 h2) a3 (by cases a3 <;> simp))
      | n + 6, h => exact absurd h (by omega)
    | 2, _ =>
      match i1, h1 with
      | 0, _ =>
        exact (List.all_eq_true.1 (all_lt runx2x0 h2) a3 (by cases a3 <;> simp))
      | 1, _ =>
        exact (List.all_eq_true.1 (all_lt runx2x1 h2) a3 (by cases a3 <;> simp))
      | 2, _ =>
        exact (List.all_eq_true.1 (all_lt runx2x2 h2) a3 (by cases a3 <;> simp))
      | 3, _ =>
        exact (List.all_eq_true.1 (all_lt runx2x3 h2) a3 (by cases a3 <;> simp))
      | 4, _ =>
        exact (List.all_eq_true.1 (all_lt runx2x4 h2) a3 (by cases a3 <;> simp))
      | 5, _ =>
        exact (List.all_eq_true.1 (all_lt runx2x5 h2) a3 (by cases a3 <;> simp))
      | n + 6, h => exact absurd h (by omega)
    | 3, _ =>
      match i1, h1 with
      | 0, _ =>
        exact (List.all_eq_true.1 (all_lt runx3x0 h2) a3 (by cases a3 <;> simp))
      | 1, _ =>
        exact (List.all_eq_true.1 (all_lt runx3x1 h2) a3 (by cases a3 <;> simp))
      | 2, _ =>
        exact (List.all_eq_true.1 (all_lt runx3x2 h2) a3 (by cases a3 <;> simp))
      | 3, _ =>
        exact (List.all_eq_true.1 (all_lt runx3x3 h2) a3 (by cases a3 <;> simp))
      | 4, _ =>
        exact (List.all_eq_true.1 (all_lt runx3x4 h2) a3 (by cases a3 <;> simp))
      | 5, _ =>
        exact (List.all_eq_true.1 (all_lt runx3x5 h2) a3 (by cases a3 <;> simp))
      | n + 6, h => exact absurd h (by omega)
    | 4, _ =>
      match i1, h1 with
      | 0, _ =>
        exact (List.all_eq_true.1 (all_lt runx4x0 h2) a3 (by cases a3 <;> simp))
      | 1, _ =>
        exact (List.all_eq_true.1 (all_lt runx4x1 h2) a3 (by cases a3 <;> simp))
      | 2, _ =>
        exact (List.all_eq_true.1 (all_lt runx4x2 h2) a3 (by cases a3 <;> simp))
      | 3, _ =>
        exact (List.all_eq_true.1 (all_lt runx4x3 h2) a3 (by cases a3 <;> simp))
      | 4, _ =>
        exact (List.all_eq_true.1 (all_lt runx4x4 h2) a3 (by cases a3 <;> simp))
      | 5, _ =>
        exact (List.all_eq_true.1 (all_lt runx4x5 h2) a3 (by cases a3 <;> simp))
      | n + 6, h => exact absurd h (by omega)
    | 5, _ =>
      match i1, h1 with
      | 0, _ =>
        exact (List.all_eq_true.1 (all_lt runx5x0 h2) a3 (by cases a3 <;> simp))
      | 1, _ =>
        exact (List.all_eq_true.1 (all_lt runx5x1 h2) a3 (by cases a3 <;> simp))
      | 2, _ =>
        exact (List.all_eq_true.1 (all_lt runx5x2 h2) a3 (by cases a3 <;> simp))
      | 3, _ =>
        exact (List.all_eq_true.1 (all_lt runx5x3 h2) a3 (by cases a3 <;> simp))
      | 4, _ =>
        exact (List.all_eq_true.1 (all_lt runx5x4 h2) a3 (by cases a3 <;> simp))
      | 5, _ =>
        exact (List.all_eq_true.1 (all_lt runx5x5 h2) a3 (by cases a3 <;> simp))
      | n + 6, h => exact absurd h (by omega)
    | 6, _ =>
      match i1, h1 with
      | 0, _ =>
        exact (List.all_eq_true.1 (all_lt runx6x0 h2) a3 (by cases a3 <;> simp))
      | 1, _ =>
        exact (List.all_eq_true.1 (all_lt runx6x1 h2) a3 (by cases a3 <;> simp))
      | 2, _ =>
        exact (List.all_eq_true.1 (all_lt runx6x2 h2) a3 (by cases a3 <;> simp))
      | 3, _ =>
        exact (List.all_eq_true.1 (all_lt runx6x3 h2) a3 (by cases a3 <;> simp))
      | 4, _ =>
        exact (List.all_eq_true.1 (all_lt runx6x4 h2) a3 (by cases a3 <;> simp))
      | 5, _ =>
        exact (List.all_eq_true.1 (all_lt runx6x5 h2) a3 (by cases a3 <;> simp))
      | n + 6, h => exact absurd h (by omega)
    | 7, _ =>
      match i1, h1 with
      | 0, _ =>
        exact (List.all_eq_true.1 (all_lt runx7x0 h2) a3 (by cases a3 <;> simp))
      | 1, _ =>
        exact (List.all_eq_true.1 (all_lt runx7x1 h2) a3 (by cases a3 <;> simp))
      | 2, _ =>
        exact (List.all_eq_true.1 (all_lt runx7x2 h2) a3 (by cases a3 <;> simp))
      | 3, _ =>
        exact (List.all_eq_true.1 (all_lt runx7x3 h2) a3 (by cases a3 <;> simp))
      | 4, _ =>
        exact (List.all_eq_true.1 (all_lt runx7x4 h2) a3 (by cases a3 <;> simp))
      | 5, _ =>
        exact (List.all_eq_true.1 (all_lt runx7x5 h2) a3 (by cases a3 <;> simp))
      | n + 6, h => exact absurd h (by omega)
    | 8, _ =>
      match i1, h1 with
      | 0, _ =>
        exact (List.all_eq_true.1 (all_lt runx8x0 h2) a3 (by cases a3 <;> simp))
      | 1, _ =>
        exact (List.all_eq_true.1 (all_lt runx8x1 h2) a3 (by cases a3 <;> simp))
      | 2, _ =>
        exact (List.all_eq_true.1 (all_lt runx8x2 h2) a3 (by cases a3 <;> simp))
      | 3, _ =>
        exact (List.all_eq_true.1 (all_lt runx8x3 h2) a3 (by cases a3 <;> simp))
      | 4, _ =>
        exact (List.all_eq_true.1 (all_lt runx8x4 h2) a3 (by cases a3 <;> simp))
      | 5, _ =>
        exact (List.all_eq_true.1 (all_lt runx8x5 h2) a3 (by cases a3 <;> simp))
      | n + 6, h => exact absurd h (by omega)
    | 9, _ =>
      match i1, h1 with
      | 0, _ =>
        exact (List.all_eq_true.1 (all_lt runx9x0 h2) a3 (by cases a3 <;> simp))
      | 1, _ =>
        exact (List.all_eq_true.1 (all_lt runx9x1 h2) a3 (by cases a3 <;> simp))
      | 2, _ =>
        exact (List.all_eq_true.1 (all_lt runx9x2 h2) a3 (by cases a3 <;> simp))
      | 3, _ =>
        exact (List.all_eq_true.1 (all_lt runx9x3 h2) a3 (by cases a3 <;> simp))
      | 4, _ =>
        exact (List.all_eq_true.1 (all_lt runx9x4 h2) a3 (by cases a3 <;> simp))
      | 5, _ =>
        exact (List.all_eq_true.1 (all_lt runx9x5 h2) a3 (by cases a3 <;> simp))
      | n + 6, h => exact absurd h (by omega)
    | 10, _ =>
      match i1, h1 with
      | 0, _ =>
        exact (List.all_eq_true.1 (all_lt runx10x0 h2) a3 (by cases a3 <;> simp))
      | 1, _ =>
        exact (List.all_eq_true.1 (all_lt runx10x1 h2) a3 (by cases a3 <;> simp))
      | 2, _ =>
        exact (List.all_eq_true.1 (all_lt runx10x2 h2) a3 (by cases a3 <;> simp))
      | 3, _ =>
        exact (List.all_eq_true.1 (all_lt runx10x3 h2) a3 (by cases a3 <;> simp))
      | 4, _ =>
        exact (List.all_eq_true.1 (all_lt runx10x4 h2) a3 (by cases a3 <;> simp))
      | 5, _ =>
        exact (List.all_eq_true.1 (all_lt runx10x5 h2) a3 (by cases a3 <;> simp))
      | n + 6, h => exact absurd h (by omega)
    | 11, _ =>
      match i1, h1 with
      | 0, _ =>
        exact (List.all_eq_true.1 (all_lt runx11x0 h2) a3 (by cases a3 <;> simp))
      | 1, _ =>
        exact (List.all_eq_true.1 (all_lt runx11x1 h2) a3 (by cases a3 <;> simp))
      | 2, _ =>
        exact (List.all_eq_true.1 (all_lt runx11x2 h2) a3 (by cases a3 <;> simp))
      | 3, _ =>
        exact (List.all_eq_true.1 (all_lt runx11x3 h2) a3 (by cases a3 <;> simp))
      | 4, _ =>
        exact (List.all_eq_true.1 (all_lt runx11x4 h2) a3 (by cases a3 <;> simp))
      | 5, _ =>
        exact (List.all_eq_true.1 (all_lt runx11x5 h2) a3 (by cases a3 <;> simp))
      | n + 6, h => exact absurd h (by omega)
    | 12, _ =>
      match i1, h1 with
      | 0, _ =>
        exact (List.all_eq_true.1 (all_lt runx12x0 h2) a3 (by cases a3 <;> simp))
      | 1, _ =>
        exact (List.all_eq_true.1 (all_lt runx12x1 h2) a3 (by cases a3 <;> simp))
      | 2, _ =>
        exact (List.all_eq_true.1 (all_lt runx12x2 h2) a3 (by cases a3 <;> simp))
      | 3, _ =>
        exact (List.all_eq_true.1 (all_lt runx12x3 h2) a3 (by cases a3 <;> simp))
      | 4, _ =>
        exact (List.all_eq_true.1 (all_lt runx12x4 h2) a3 (by cases a3 <;> simp))
      | 5, _ =>
        exact (List.all_eq_true.1 (all_lt runx12x5 h2) a3 (by cases a3 <;> simp))
      | n + 6, h => exact absurd h (by omega)
    | 13, _ =>
      match i1, h1 with
      | 0, _ =>
        exact (List.all_eq_true.1 (all_lt runx13x0 h2) a3 (by cases a3 <;> simp))
      | 1, _ =>
        exact (List.all_eq_true.1 (all_lt runx13x1 h2) a3 (by cases a3 <;> simp))
      | 2, _ =>
        exact (List.all_eq_true.1 (all_lt runx13x2 h2) a3 (by cases a3 <;> simp))
      | 3, _ =>
        exact (List.all_eq_true.1 (all_lt runx13x3 h2) a3 (by cases a3 <;> simp))
      | 4, _ =>
        exact (List.all_eq_true.1 (all_lt runx13x4 h2) a3 (by cases a3 <;> simp))
      | 5, _ =>
        exact (List.all_eq_true.1 (all_lt runx13x5 h2) a3 (by cases a3 <;> simp))
      | n + 6, h => exact absurd h (by omega)
    | 14, _ =>
      match i1, h1 with
      | 0, _ =>
        exact (List.all_eq_true.1 (all_lt runx14x0 h2) a3 (by cases a3 <;> simp))
      | 1, _ =>
        exact (List.all_eq_true.1 (all_lt runx14x1 h2) a3 (by cases a3 <;> simp))
      | 2, _ =>
        exact (List.all_eq_true.1 (all_lt runx14x2 h2) a3 (by cases a3 <;> simp))
      | 3, _ =>
        exact (List.all_eq_true.1 (all_lt runx14x3 h2) a3 (by cases a3 <;> simp))
      | 4, _ =>
        exact (List.all_eq_true.1 (all_lt runx14x4 h2) a3 (by cases a3 <;> simp))
      | 5, _ =>
        exact (List.all_eq_true.1 (all_lt runx14x5 h2) a3 (by cases a3 <;> simp))
      | n + 6, h => exact absurd h (by omega)
    | 15, _ =>
      match i1, h1 with
      | 0, _ =>
        exact (List.all_eq_true.1 (all_lt runx15x0 h2) a3 (by cases a3 <;> simp))
      | 1, _ =>
        exact (List.all_eq_true.1 (all_lt runx15x1 h2) a3 (by cases a3 <;> simp))
      | 2, _ =>
        exact (List.all_eq_true.1 (all_lt runx15x2 h2) a3 (by cases a3 <;> simp))
      | 3, _ =>
        exact (List.all_eq_true.1 (all_lt runx15x3 h2) a3 (by cases a3 <;> simp))
      | 4, _ =>
        exact (List.all_eq_true.1 (all_lt runx15x4 h2) a3 (by cases a3 <;> simp))
      | 5, _ =>
        exact (List.all_eq_true.1 (all_lt runx15x5 h2) a3 (by cases a3 <;> simp))
      | n + 6, h => exact absurd h (by omega)
    | n + 16, h => exact absurd h (by omega)
  exact (runs ravelinlaw6.known_tb (Checked.mixed Try.checked) hrun (args := [.int .u8 a0, .int .u8 a1, .int .u8 a2, .bool a3]) ⟨v0, v1, v2, v3, trivial⟩ w).2.mono fun e w' ⟨he, hs⟩ => ⟨he, hs.below⟩

/-! ### THE ROW's STEP: WRITTEN OUT: LEAVE IT -/
set_option maxRecDepth 100000 in
theorem lifted (os : Os) (started : os.Started) (H : Type) (enc : TypeId × Value → H) :
    ReturnsInHanded {} Try.checked os 12 .any (Rows.entryLimitsSpec.pre6 enc Try.prog Try.f12 Rows.entryLimitsRow.domain false) (Rows.entryLimitsSpec.post enc Try.prog Try.f12 false true false false) := by
  refine returnsInHanded_of_change (C := Try.checked) own started (by kernel_rfl) Try.func12
    (ChangeSpec.witness6 (enc := enc) (C := Try.checked) false ⟨#[], #[.int .u8 0, .int .u8 0, .int .u8 0, .bool false], []⟩ 8 (by kernel_rfl) (by kernel_rfl) (by kernel_rfl) (by kernel_rfl)) ?_
  intro W base args ds gs before hval0 hW hcnd _
  have hval : ∀ (j : Nat) t v, Try.f12.params[j]? = some t → args[j]? = some v → Value.okWide Try.prog W .any base t v := hval0
  have hW' := hW
  obtain ⟨p, q, hA0, hV, rfl, hfz, hnd⟩ := hW
  have hA : DataW.TrodAll enc Try.prog W 0 (fun _ => true) true Try.f12.params.toList args.toList ds p := hA0
  rw [Try.params12] at hA hval
  obtain ⟨v0, vs0, d0, ds0, p0, q0, hargs, rfl, rfl, h0, r0⟩ := trodAll_cons hA
  obtain ⟨v1, vs1, d1, ds1, p1, q1, rfl, rfl, rfl, h1, r1⟩ := trodAll_cons r0
  obtain ⟨v2, vs2, d2, ds2, p2, q2, rfl, rfl, rfl, h2, r2⟩ := trodAll_cons r1
  obtain ⟨v3, vs3, d3, ds3, p3, q3, rfl, rfl, rfl, h3, r3⟩ := trodAll_cons r2
  obtain ⟨rfl, rfl, rfl⟩ := trodAll_nil r3
  obtain rfl : args = #[v0, v1, v2, v3] := by cases args; simp_all
  obtain ⟨rfl, rfl⟩ := trodVars_none hV
  obtain ⟨a0, rfl, rfl, rfl, w0⟩ := open_int Try.underlying5 (hval 0 5 v0 rfl rfl) h0
  obtain ⟨a1, rfl, rfl, rfl, w1⟩ := open_int Try.underlying5 (hval 1 5 v1 rfl rfl) h1
  obtain ⟨a2, rfl, rfl, rfl, w2⟩ := open_int Try.underlying5 (hval 2 5 v2 rfl rfl) h2
  obtain ⟨a3, rfl, rfl, rfl⟩ := open_bool Try.underlying4 (hval 3 4 v3 rfl rfl) h3
  clear hA0 hval0
  simp only [List.append_nil] at hW'
  refine (walk a0 a1 a2 a3 w0 w1 w2 W).mono fun e W' ⟨he, hg⟩ => ?_
  subst he
  exact ⟨_, rfl, post_kept hg (pa := []) (pv := []) hW' (fun _ _ _ => (trodAll_cons_mk (shut_bool Try.underlying4 _) trodAll_mk0)) (fun sp _ => (trodAll_cons_mk (shut_int Try.underlying5 w0) (trodAll_cons_mk (shut_int Try.underlying5 w1) (trodAll_cons_mk (shut_int Try.underlying5 w2) (trodAll_cons_mk (shut_bool Try.underlying4 _) trodAll_mk0))))) (fun _ _ => rfl) rfl
    (ok_one (by kernel_rfl) rfl (okWide_bool_mk Try.underlying4 _))⟩

theorem over : Rows.entryLimitsRow.holds Try.pinned (OpenSpec.ofChange Rows.entryLimitsSpec) :=
  OpenClaim.holds_of_wide 12 Try.f12 rfl rfl rfl rfl rfl rfl rfl ⟨rfl, rfl, rfl, rfl, rfl⟩ rfl rfl rfl rfl rfl (by kernel_rfl) Try.func12 (by kernel_rfl)
    (of_decide_eq_true (by kernel_rfl)) (by unfold Func.isWrapper; first | (rw [if_pos (by decide +kernel)]; kernel_rfl) | (rw [if_neg (by decide +kernel)]; exact ⟨rfl, rfl⟩))
    (fun os started H enc _ => lifted os started H enc)

/-- ████ THE STATEMENT ████ -/
theorem proved : Rows.EntryLimitsSaid :=
  over
end Go.Proofs.Ytkfliakkopidmaa.entryLimits
