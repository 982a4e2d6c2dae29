/- The law CellSizes returns true at every input, and leaves its arguments as they were: by runs of a verified evaluator in the kernel. No condition. -/
import Derived.Test.YtpnflehemjbemaaRows
import Derived.WalkKit
import Derived.ProofKit
import Derived.OpenShut
import Derived.Test.YtpnflehemjbemaaEvL
import Derived.Test.YtpnflehemjbemaaKnravelinlaw3
import Derived.Test.YtpnflehemjbemaaCellSizesR0
import Derived.Test.YtpnflehemjbemaaCellSizesR1
import Derived.Test.YtpnflehemjbemaaCellSizesR2
import Derived.Test.YtpnflehemjbemaaCellSizesR3
namespace Go.Proofs.Ytpnflehemjbemaa.cellSizes
open Go.Ev Go.ChangeShapes Go.WideShapes Go.ChangeAt Go.RowKit
set_option linter.unusedVariables false      -- a walk need not use every 'w<i>' (that an integer argument fits its kind)

theorem own : ownKnob Try.prog.godebug = none := by kernel_rfl

/-! ### STEP 1: THE WALK: the Go text returns true. 'Below w.heap.size w w'': the world has at most new blocks (Derived/RowKit3.lean). Part the cases AHEAD of 'go_enter' where a test parts the walk; take each callee by a contract of your own. -/
theorem walk (a0 : Int) (a1 : Bool) (w0 : (Lit.int .u8 a0).wf = true) (w : World) :
    Calls Try.prog 10 #[.int .u8 a0, .bool a1] w fun e w' => e = .returned (.bool true) ∧ Below w.heap.size w w' := by
  obtain ⟨i0, h0, v0⟩ := arg_r w0 (63) (by omega)
  have v1 := arg_b a1
  have hrun : runFn (onlyTb 43) Try.prog 1000 10 [.r .u8 (63) i0 255, .b a1] = true := by
    match i0, h0 with
    | 0, _ =>
      cases a1
      · exact runx0x0
      · exact runx0x1
    | 1, _ =>
      cases a1
      · exact runx1x0
      · exact runx1x1
    | 2, _ =>
      cases a1
      · exact runx2x0
      · exact runx2x1
    | 3, _ =>
      cases a1
      · exact runx3x0
      · exact runx3x1
    | 4, _ =>
      cases a1
      · exact runx4x0
      · exact runx4x1
    | 5, _ =>
      cases a1
      · exact runx5x0
      · exact runx5x1
    | 6, _ =>
      cases a1
      · exact runx6x0
      · exact runx6x1
    | 7, _ =>
      cases a1
      · exact runx7x0
      · exact runx7x1
    | 8, _ =>
      cases a1
      · exact runx8x0
      · exact runx8x1
    | 9, _ =>
      cases a1
      · exact runx9x0
      · exact runx9x1
    | 10, _ =>
      cases a1
      · exact runx10x0
      · exact runx10x1
    | 11, _ =>
      cases a1
      · exact runx11x0
      · exact runx11x1
    | 12, _ =>
      cases a1
      · exact runx12x0
      · exact runx12x1
    | 13, _ =>
      cases a1
      · exact runx13x0
      · exact runx13x1
    | 14, _ =>
      cases a1
      · exact runx14x0
      · exact runx14x1
    | 15, _ =>
      cases a1
      · exact runx15x0
      · exact runx15x1
    | 16, _ =>
      cases a1
      · exact runx16x0
      · exact runx16x1
    | 17, _ =>
      cases a1
      · exact runx17x0
      · exact runx17x1
    | 18, _ =>
      cases a1
      · exact runx18x0
      · exact runx18x1
    | 19, _ =>
      cases a1
      · exact runx19x0
      · exact runx19x1
    | 20, _ =>
      cases a1
      · exact runx20x0
      · exact runx20x1
    | 21, _ =>
      cases a1
      · exact runx21x0
      · exact runx21x1
    | 22, _ =>
      cases a1
      · exact runx22x0
      · exact runx22x1
    | 23, _ =>
      cases a1
      · exact runx23x0
      · exact runx23x1
    | 24, _ =>
      cases a1
      · exact runx24x0
      · exact runx24x1
    | 25, _ =>
      cases a1
      · exact runx25x0
      · exact runx25x1
    | 26, _ =>
      cases a1
      · exact runx26x0
      · exact runx26x1
    | 27, _ =>
      cases a1
      · exact runx27x0
      · exact runx27x1
    | 28, _ =>
      cases a1
      · exact runx28x0
      · exact runx28x1
    | 29, _ =>
      cases a1
      · exact runx29x0
      · exact runx29x1
    | 30, _ =>
      cases a1
      · exact runx30x0
      · exact runx30x1
    | 31, _ =>
      cases a1
      · exact runx31x0
      · exact runx31x1
    | 32, _ =>
      cases a1
      · exact runx32x0
      · exact runx32x1
    | 33, _ =>
      cases a1
      · exact runx33x0
      · exact runx33x1
    | 34, _ =>
      cases a1
      · exact runx34x0
      · exact runx34x1
    | 35, _ =>
      cases a1
      · exact runx35x0
      · exact runx35x1
    | 36, _ =>
      cases a1
      · exact runx36x0
      · exact runx36x1
    | 37, _ =>
      cases a1
      · exact runx37x0
      · exact runx37x1
    | 38, _ =>
      cases a1
      · exact runx38x0
      · exact runx38x1
    | 39, _ =>
      cases a1
      · exact runx39x0
      · exact runx39x1
    | 40, _ =>
      cases a1
      · exact runx40x0
      · exact runx40x1
    | 41, _ =>
      cases a1
      · exact runx41x0
      · exact runx41x1
    | 42, _ =>
      cases a1
      · exact runx42x0
      · exact runx42x1
    | 43, _ =>
      cases a1
      · exact runx43x0
      · exact runx43x1
    | 44, _ =>
      cases a1
      · exact runx44x0
      · exact runx44x1
    | 45, _ =>
      cases a1
      · exact runx45x0
      · exact runx45x1
    | 46, _ =>
      cases a1
      · exact runx46x0
      · exact runx46x1
    | 47, _ =>
      cases a1
      · exact runx47x0
      · exact runx47x1
    | 48, _ =>
      cases a1
      · exact runx48x0
      · exact runx48x1
    | 49, _ =>
      cases a1
      · exact runx49x0
      · exact runx49x1
    | 50, _ =>
      cases a1
      · exact runx50x0
      · exact runx50x1
    | 51, _ =>
      cases a1
      · exact runx51x0
      · exact runx51x1
    | 52, _ =>
      cases a1
      · exact runx52x0
      · exact runx52x1
    | 53, _ =>
      cases a1
      · exact runx53x0
      · exact runx53x1
    | 54, _ =>
      cases a1
      · exact runx54x0
      · exact runx54x1
    | 55, _ =>
      cases a1
      · exact runx55x0
      · exact runx55x1
    | 56, _ =>
      cases a1
      · exact runx56x0
      · exact runx56x1
    | 57, _ =>
      cases a1
      · exact runx57x0
      · exact runx57x1
    | 58, _ =>
      cases a1
      · exact runx58x0
      · exact runx58x1
    | 59, _ =>
      cases a1
      · exact runx59x0
      · exact runx59x1
    | 60, _ =>
      cases a1
      · exact runx60x0
      · exact runx60x1
    | 61, _ =>
      cases a1
      · exact runx61x0
      · exact runx61x1
    | 62, _ =>
      cases a1
      · exact runx62x0
      · exact runx62x1
    | n + 63, h => exact absurd h (by omega)
  exact (runs ravelinlaw3.known_tb (Checked.mixed Try.checked) hrun (args := [.int .u8 a0, .bool a1]) ⟨v0, v1, trivial⟩ w).2.mono fun e w' ⟨he, hs⟩ => ⟨he, hs.below⟩

/-! ### THE ROW's STEP: WRITTEN OUT: LEAVE IT -/
set_option maxRecDepth 100000 in
theorem lifted (os : Os) (started : os.Started) (H : Type) (enc : TypeId × Value → H) :
    ReturnsInHanded {} Try.checked os 10 .any (Rows.cellSizesSpec.pre6 enc Try.prog Try.f10 Rows.cellSizesRow.domain false) (Rows.cellSizesSpec.post enc Try.prog Try.f10 false true false false) := by
  refine returnsInHanded_of_change (C := Try.checked) own started (by kernel_rfl) Try.func10
    (ChangeSpec.witness6 (enc := enc) (C := Try.checked) false ⟨#[], #[.int .u8 0, .bool false], []⟩ 8 (by kernel_rfl) (by kernel_rfl) (by kernel_rfl) (by kernel_rfl)) ?_
  intro W base args ds gs before hval0 hW hcnd _
  have hval : ∀ (j : Nat) t v, Try.f10.params[j]? = some t → args[j]? = some v → Value.okWide Try.prog W .any base t v := hval0
  have hW' := hW
  obtain ⟨p, q, hA0, hV, rfl, hfz, hnd⟩ := hW
  have hA : DataW.TrodAll enc Try.prog W 0 (fun _ => true) true Try.f10.params.toList args.toList ds p := hA0
  rw [Try.params10] at hA hval
  obtain ⟨v0, vs0, d0, ds0, p0, q0, hargs, rfl, rfl, h0, r0⟩ := trodAll_cons hA
  obtain ⟨v1, vs1, d1, ds1, p1, q1, rfl, rfl, rfl, h1, r1⟩ := trodAll_cons r0
  obtain ⟨rfl, rfl, rfl⟩ := trodAll_nil r1
  obtain rfl : args = #[v0, v1] := by cases args; simp_all
  obtain ⟨rfl, rfl⟩ := trodVars_none hV
  obtain ⟨a0, rfl, rfl, rfl, w0⟩ := open_int Try.underlying5 (hval 0 5 v0 rfl rfl) h0
  obtain ⟨a1, rfl, rfl, rfl⟩ := open_bool Try.underlying4 (hval 1 4 v1 rfl rfl) h1
  clear hA0 hval0
  simp only [List.append_nil] at hW'
  refine (walk a0 a1 w0 W).mono fun e W' ⟨he, hg⟩ => ?_
  subst he
  exact ⟨_, rfl, post_kept hg (pa := []) (pv := []) hW' (fun _ _ _ => (trodAll_cons_mk (shut_bool Try.underlying4 _) trodAll_mk0)) (fun sp _ => (trodAll_cons_mk (shut_int Try.underlying5 w0) (trodAll_cons_mk (shut_bool Try.underlying4 _) trodAll_mk0))) (fun _ _ => rfl) rfl
    (ok_one (by kernel_rfl) rfl (okWide_bool_mk Try.underlying4 _))⟩

theorem over : Rows.cellSizesRow.holds Try.pinned (OpenSpec.ofChange Rows.cellSizesSpec) :=
  OpenClaim.holds_of_wide 10 Try.f10 rfl rfl rfl rfl rfl rfl rfl ⟨rfl, rfl, rfl, rfl, rfl⟩ rfl rfl rfl rfl rfl (by kernel_rfl) Try.func10 (by kernel_rfl)
    (of_decide_eq_true (by kernel_rfl)) (by unfold Func.isWrapper; first | (rw [if_pos (by decide +kernel)]; kernel_rfl) | (rw [if_neg (by decide +kernel)]; exact ⟨rfl, rfl⟩))
    (fun os started H enc _ => lifted os started H enc)

/-- ████ THE STATEMENT ████ -/
theorem proved : Rows.CellSizesSaid :=
  over
end Go.Proofs.Ytpnflehemjbemaa.cellSizes
