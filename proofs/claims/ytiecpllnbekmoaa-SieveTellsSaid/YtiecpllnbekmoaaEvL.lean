/-
  Arguments of a law, as the evaluator takes them.
-/
import Derived.Test.YtiecpllnbekmoaaEvK
import Derived.ProofKit
set_option linter.all false
namespace Go.Ev
open Go

theorem u8_nat {a : Int} (h : (Lit.int .u8 a).wf = true) : ∃ n : Nat, n ≤ 255 ∧ a = (n : Int) := by
  have h' := h
  simp only [Lit.wf, IntKind.has, IntKind.min, IntKind.max, IntKind.signed, IntKind.bits] at h'
  simp at h'
  exact ⟨a.toNat, by omega, by omega⟩
/-- a uint8 of which only its rest by m matters -/
theorem arg_r {a : Int} (h : (Lit.int .u8 a).wf = true) (m : Nat) (hm : 0 < m) : ∃ i, i < m ∧ VRel noEmb (.r .u8 m i 255) (.int .u8 a) := by
  obtain ⟨n, hn, rfl⟩ := u8_nat h
  exact ⟨n % m, Nat.mod_lt _ hm, n, rfl, rfl, hn⟩
/-- a uint8, whichever it is -/
theorem arg_i {a : Int} (h : (Lit.int .u8 a).wf = true) : ∃ i, i < 256 ∧ VRel noEmb (.i .u8 (Int.ofNat i)) (.int .u8 a) := by
  obtain ⟨n, hn, rfl⟩ := u8_nat h
  exact ⟨n, by omega, rfl⟩
theorem arg_b (x : Bool) : VRel noEmb (.b x) (.bool x) := rfl
theorem all_lt {n : Nat} {p : Nat → Bool} (h : (List.range n).all p = true) {i : Nat} (hi : i < n) : p i = true := List.all_eq_true.1 h i (List.mem_range.2 hi)
/-- from to: all of n numbers from k on -/
theorem all_from {k n : Nat} {p : Nat → Bool} (h : ((List.range n).all fun i => p (k + i)) = true) {i : Nat} (h1 : k ≤ i) (h2 : i < k + n) : p i = true := by
  have := all_lt h (i := i - k) (by omega)
  simpa [Nat.add_sub_of_le h1] using this

section
open Go.RowKit Go.WideShapes Go.ChangeShapes
variable {H : Type} {enc : TypeId × Value → H} {P : Program}
/-- THE ROW's LAST STEP, where of what was there nothing turned (new blocks may be frozen). -/
theorem post_kept {f : Func} {s : ChangeSpec} {apart fresh handsOn again : Bool} {W W' : World} {args : Array Value} {v : Value} {ds gs : List (DataW H)} {before pa pv : List MemPlace} (hb : Below W.heap.size W W')
    (hW : DataW.Whole enc P f.params.toList s.vars apart W args.toList ds gs before)
    (hres : ∀ (b : Nat) (sp : Nat → Bool) (hd : Bool), DataW.TrodAll enc P W' b sp hd f.resultTypes.toList (v.resultList f.resultTypes.size) (s.fn H (ds ++ gs)).results [])
    (hargs : ∀ sp : Nat → Bool, (∀ p ∈ before, sp p.block = true) → DataW.TrodAll enc P W' 0 sp true f.params.toList args.toList (s.fn H (ds ++ gs)).args pa)
    (hvars : ∀ sp : Nat → Bool, (∀ p ∈ before, sp p.block = true) → DataW.TrodVars enc P W' sp s.vars (s.fn H (ds ++ gs)).vars pv)
    (hps : before = pa ++ pv)
    (hok : ∀ (j : Nat) (t : TypeId) (r : Value), f.resultTypes[j]? = some t → (v.resultList f.resultTypes.size)[j]? = some r → Value.okWide P W' .any 0 t r) :
    s.post enc P f apart fresh handsOn again W args v W' := by
  have hlt := fun p hp => hW.lt p hp
  have hin : ∀ p ∈ before, (fun b => decide (b < W.heap.size)) p.block = true := fun p hp => decide_eq_true (hlt p hp)
  have hkept := hb.frame (· ∈ before)
  refine ⟨ds, gs, before, [], pa, pv, hW, hres _ _ _, hargs _ hin, hvars _ hin, World.keptBut_mono (fun p hp => ⟨hp, ?_⟩) hkept, fun _ => ?_⟩
  · have := hps ▸ hp
    exact .inr (List.mem_append.1 this)
  · obtain ⟨_, _, _, _, _, hz, hn⟩ := hW
    refine ⟨hok, _, _, ([] ++ pa) ++ pv, ⟨[] ++ pa, pv, trodAll_append (hargs _ fun _ _ => rfl) (hres _ _ _), hvars _ fun _ _ => rfl, rfl, fun b off hp => ?_, fun ha => ?_⟩, fun p hp _ => ?_⟩
    · have hp' : MemPlace.cell b off ∈ before := by rw [hps]; simpa using hp
      rw [hb.frozen (hlt _ hp')]
      exact hz b off hp'
    · have hn' := hn ha
      rw [hps] at hn'
      simpa using hn'
    · rw [hps]; simpa using hp
end

end Go.Ev
