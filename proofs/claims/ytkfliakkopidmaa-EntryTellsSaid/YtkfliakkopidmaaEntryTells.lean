/- The law EntryTells returns true at every input, and leaves its arguments as they were. No condition. -/
import Derived.Test.YtkfliakkopidmaaRows
import Derived.WalkKit
import Derived.ProofKit
import Derived.OpenShut
import Derived.ChangeMaps5
import Derived.Test.YtkfliakkopidmaaArgS
import Derived.Test.YtkfliakkopidmaaNEntD
import Derived.Test.YtkfliakkopidmaaArgE
namespace Go.Proofs.Ytkfliakkopidmaa.entryTells
open Go Go.Ev Go.ChangeShapes Go.WideShapes Go.ChangeAt Go.RowKit Go.ChangeMaps
set_option linter.all false

theorem own : ownKnob Try.prog.godebug = none := by kernel_rfl
theorem laid : laidOutB Try.prog = true := by kernel_rfl
theorem heap_pos {W : World} (h : W.ShapedOpen Try.prog) : 0 < W.heap.size := by
  obtain ⟨o, _, h1, _⟩ := h.2 0 (of_decide_eq_true (by kernel_rfl)) (of_decide_eq_true (by kernel_rfl))
  exact (Array.getElem?_eq_some_iff.1 h1).1

set_option maxRecDepth 100000 in
theorem isEntF : ∃ fs, EntF Try.prog 54 fs := ⟨_, (EntF.mk Try.underlying54 (by kernel_rfl) ⟨_, rfl, rfl, by kernel_rfl, Try.underlying9⟩ ⟨_, rfl, rfl, by kernel_rfl, Try.underlying3⟩ ⟨_, rfl, rfl, by kernel_rfl, Try.underlying4⟩ ⟨_, rfl, rfl, by kernel_rfl, Try.underlying9⟩)⟩
set_option maxRecDepth 100000 in
theorem isWriF : ∃ fs, WriF Try.prog 57 fs := ⟨_, (WriF.mk Try.underlying57 (by kernel_rfl) ⟨_, rfl, rfl, by kernel_rfl, Try.underlying9⟩ ⟨_, rfl, rfl, by kernel_rfl, Try.underlying4⟩ ⟨_, rfl, rfl, by kernel_rfl, Try.underlying9⟩)⟩
set_option maxRecDepth 100000 in
theorem run {H : Type} {enc : TypeId × Value → H} (W : World) (base : Nat) (args : Array Value) (ds : List (DataW H)) (p : List MemPlace) (hval : ∀ (j : Nat) t v, Try.f8.params[j]? = some t → args[j]? = some v → Value.okWide Try.prog W .any base t v) (hopen : W.ShapedOpen Try.prog)
    (hA : DataW.TrodAll enc Try.prog W 0 (fun _ => true) true Try.f8.params.toList args.toList ds p) : Calls Try.prog 8 args W fun e w' => e = .returned (.bool true) ∧ Below W.heap.size W w' := by
  rw [Try.params8] at hA hval
  obtain ⟨fsEntF, eF⟩ := isEntF
  obtain ⟨fsWriF, wF⟩ := isWriF
  obtain ⟨v0, vs0, d0, ds0, p0, q0, hargs, rfl, rfl, h0, r0⟩ := trodAll_cons hA
  obtain ⟨v1, vs1, d1, ds1, p1, q1, rfl, rfl, rfl, h1, r1⟩ := trodAll_cons r0
  obtain ⟨v2, vs2, d2, ds2, p2, q2, rfl, rfl, rfl, h2, r2⟩ := trodAll_cons r1
  obtain ⟨v3, vs3, d3, ds3, p3, q3, rfl, rfl, rfl, h3, r3⟩ := trodAll_cons r2
  obtain ⟨v4, vs4, d4, ds4, p4, q4, rfl, rfl, rfl, h4, r4⟩ := trodAll_cons r3
  obtain ⟨v5, vs5, d5, ds5, p5, q5, rfl, rfl, rfl, h5, r5⟩ := trodAll_cons r4
  obtain ⟨v6, vs6, d6, ds6, p6, q6, rfl, rfl, rfl, h6, r6⟩ := trodAll_cons r5
  obtain ⟨rfl, rfl, rfl⟩ := trodAll_nil r6
  obtain rfl : args = #[v0, v1, v2, v3, v4, v5, v6] := by cases args; simp_all
  obtain ⟨h, s1, s2⟩ := Go.Ev.start W
  have s : Go.Ev.Start W h := ⟨s1, s2⟩
  obtain ⟨k0, n0, q0, u0, rfl, a0, b0, w0⟩ := ent_of eF (hval 0 54 v0 rfl rfl) h0
  obtain ⟨k1, n1, q1, u1, rfl, a1, b1, w1⟩ := ent_of eF (hval 1 54 v1 rfl rfl) h1
  obtain ⟨x2, y2, z2, rfl⟩ := okWide_slice Try.underlying55 (hval 2 55 v2 rfl rfl)
  obtain ⟨fu2, hfu2⟩ := h2
  obtain ⟨u2, L2, e2, m2, l2, k2⟩ := es_of s (heap_pos hopen) Try.underlying55 eF hfu2
  obtain rfl := (List.cons.inj (show [Value.slice x2 y2 z2] = [u2] from e2)).1
  obtain ⟨a3, rfl, rfl, rfl, w3⟩ := open_string Try.underlying9 (hval 3 9 v3 rfl rfl) h3
  obtain ⟨a4, rfl, rfl, rfl, w4⟩ := open_int Try.underlying3 (hval 4 3 v4 rfl rfl) h4
  obtain ⟨a5, rfl, rfl, rfl, w5⟩ := open_string Try.underlying9 (hval 5 9 v5 rfl rfl) h5
  obtain ⟨k6, q6, u6, rfl, a6, b6⟩ := wri_of wF (hval 6 57 v6 rfl rfl) h6
  exact calls_true s (vs := [.a [sv k0.data.toList, .i .i64 n0, .b q0, sv u0.data.toList], .a [sv k1.data.toList, .i .i64 n1, .b q1, sv u1.data.toList], absV W (.slice x2 y2 z2), sv a3.data.toList, .i .i64 a4, sv a5.data.toList, .a [sv k6.data.toList, .b q6, sv u6.data.toList]]) ⟨ent_rel k0 n0 q0 u0, ent_rel k1 n1 q1 u1, absV_rel W _, (by rw [← absV_str W]; exact absV_rel W _), rfl, (by rw [← absV_str W]; exact absV_rel W _), wri_rel k6 q6 u6, trivial⟩ (entryTells_ok ⟨k0.data.toList, n0, q0, u0.data.toList⟩ ⟨k1.data.toList, n1, q1, u1.data.toList⟩ m2 l2 (str_len w3) (wf_i64 w4).1 (wf_i64 w4).2 (str_len w5) s1.flo)

set_option maxRecDepth 100000 in
theorem lifted (os : Os) (started : os.Started) (H : Type) (enc : TypeId × Value → H) :
    ReturnsInHanded {} Try.checked os 8 .any (Rows.entryTellsSpec.pre6 enc Try.prog Try.f8 Rows.entryTellsRow.domain false) (Rows.entryTellsSpec.post enc Try.prog Try.f8 false true false false) :=
  law_lifted (C := Try.checked) own started (by kernel_rfl) Try.func8
    (ChangeSpec.witness6 (enc := enc) (C := Try.checked) false ⟨#[], #[.agg #[.string ⟨#[]⟩, .int .i64 0, .bool false, .string ⟨#[]⟩], .agg #[.string ⟨#[]⟩, .int .i64 0, .bool false, .string ⟨#[]⟩], .slice none 0 0, .string ⟨#[]⟩, .int .i64 0, .string ⟨#[]⟩, .agg #[.string ⟨#[]⟩, .bool false, .string ⟨#[]⟩]], []⟩ 8 (by kernel_rfl) (by kernel_rfl) (by kernel_rfl) (by kernel_rfl))
    rfl (fun ds hd => by rw [Try.params8] at hd; match ds, hd with | [d1, d2, d3, d4, d5, d6, d7], _ => rfl) laid (by kernel_rfl) (by kernel_rfl) Try.underlying4 (fun W base args ds p hv ho hA => run W base args ds p hv ho hA)

theorem over : Rows.entryTellsRow.holds Try.pinned (OpenSpec.ofChange Rows.entryTellsSpec) :=
  OpenClaim.holds_of_wide 8 Try.f8 rfl rfl rfl rfl rfl rfl rfl ⟨rfl, rfl, rfl, rfl, rfl⟩ rfl rfl rfl rfl rfl (by kernel_rfl) Try.func8 (by kernel_rfl)
    (of_decide_eq_true (by kernel_rfl)) (by unfold Func.isWrapper; first | (rw [if_pos (by decide +kernel)]; kernel_rfl) | (rw [if_neg (by decide +kernel)]; exact ⟨rfl, rfl⟩))
    (fun os started H enc _ => lifted os started H enc)

/-- THE STATEMENT -/
theorem proved : Rows.EntryTellsSaid :=
  over
end Go.Proofs.Ytkfliakkopidmaa.entryTells
