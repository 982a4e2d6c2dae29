/-
  Arguments of a law, as the evaluator takes them.
-/
import Derived.Test.YtjmcfmnemmdlfaaEvK
set_option linter.all false
namespace Go.Ev
open Go

theorem u8_nat {a : Int} (h : (Lit.int .u8 a).wf = true) : ∃ n : Nat, n ≤ 255 ∧ a = (n : Int) := by
  have h' := h
  simp only [Lit.wf, IntKind.has, IntKind.min, IntKind.max, IntKind.signed, IntKind.bits] at h'
  simp at h'
  exact ⟨a.toNat, by omega, by omega⟩
/-- a uint8 of which only its rest by m matters -/
theorem arg_r {a : Int} (h : (Lit.int .u8 a).wf = true) (m : Nat) (hm : 0 < m) : ∃ i, i < m ∧ VRel noEmb (.r .u8 m i 255) (.int .u8 a) := by
  obtain ⟨n, hn, rfl⟩ := u8_nat h
  exact ⟨n % m, Nat.mod_lt _ hm, n, rfl, rfl, hn⟩
/-- a uint8, whichever it is -/
theorem arg_i {a : Int} (h : (Lit.int .u8 a).wf = true) : ∃ i, i < 256 ∧ VRel noEmb (.i .u8 (Int.ofNat i)) (.int .u8 a) := by
  obtain ⟨n, hn, rfl⟩ := u8_nat h
  exact ⟨n, by omega, rfl⟩
theorem arg_b (x : Bool) : VRel noEmb (.b x) (.bool x) := rfl
theorem all_lt {n : Nat} {p : Nat → Bool} (h : (List.range n).all p = true) {i : Nat} (hi : i < n) : p i = true := List.all_eq_true.1 h i (List.mem_range.2 hi)
/-- from to: all of n numbers from k on -/
theorem all_from {k n : Nat} {p : Nat → Bool} (h : ((List.range n).all fun i => p (k + i)) = true) {i : Nat} (h1 : k ≤ i) (h2 : i < k + n) : p i = true := by
  have := all_lt h (i := i - k) (by omega)
  simpa [Nat.add_sub_of_le h1] using this

end Go.Ev
