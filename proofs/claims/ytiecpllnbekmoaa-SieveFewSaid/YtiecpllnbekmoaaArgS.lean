/- Arguments that are numbers, texts, slices of these, as the walk takes them. No condition. -/
import Derived.Test.YtiecpllnbekmoaaEvL
import Derived.Test.YtiecpllnbekmoaaEvX
import Derived.Test.YtiecpllnbekmoaaArg
import Derived.SliceStrings
set_option linter.all false
namespace Go.Ev
open Go Go.RowKit Go.WideShapes Go.ChangeShapes Go.ChangeAt Go.Deep

theorem absV_str (W : World) (s : ByteArray) : absV W (.string s) = sv s.data.toList := by
  unfold absV sv
  simp
theorem wf_i64 {n : Int} (h : (Lit.int .i64 n).wf = true) : -9223372036854775808 ≤ n ∧ n ≤ 9223372036854775807 := by
  simp only [Lit.wf, IntKind.has, IntKind.min, IntKind.max, IntKind.signed, IntKind.bits] at h
  simp at h
  omega
theorem u16_nat {a : Int} (h : (Lit.int .u16 a).wf = true) : ∃ n : Nat, n ≤ 65535 ∧ a = (n : Int) := by
  have h' := h
  simp only [Lit.wf, IntKind.has, IntKind.min, IntKind.max, IntKind.signed, IntKind.bits] at h'
  simp at h'
  exact ⟨a.toNat, by omega, by omega⟩
theorem u8_byte {a : Int} (h : (Lit.int .u8 a).wf = true) : ∃ c : UInt8, a = (c.toNat : Int) := by
  have h' := h
  simp only [Lit.wf, IntKind.has, IntKind.min, IntKind.max, IntKind.signed, IntKind.bits] at h'
  simp at h'
  refine ⟨UInt8.ofNat a.toNat, ?_⟩
  rw [UInt8.toNat_ofNat', Nat.mod_eq_of_lt (by omega)]; omega
theorem u32_nat {a : Int} (h : (Lit.int .u32 a).wf = true) : ∃ n : Nat, n ≤ 4294967295 ∧ a = (n : Int) := by
  have h' := h
  simp only [Lit.wf, IntKind.has, IntKind.min, IntKind.max, IntKind.signed, IntKind.bits] at h'
  simp at h'
  exact ⟨a.toNat, by omega, by omega⟩
theorem str_len {s : ByteArray} (h : s.size ≤ maxLen) : s.data.toList.length ≤ 9223372036854775807 := by
  have : s.data.toList.length = s.size := by simp
  unfold maxLen at h
  omega
theorem maxLen_le {n : Nat} (h : n ≤ maxLen) : n ≤ 9223372036854775807 := by unfold maxLen at h; omega

section
variable {H' : Type} {enc : TypeId × Value → H'} {P : Program}
/-- a slice of texts -/
def Sl8 (h : H) (v : V) (L : List (List UInt8)) : Prop := Lst h v (L.map sv)
theorem ls_of {W : World} {h : H} (s : Start W h) (h0 : 0 < W.heap.size) {t e : TypeId} {fuel : Nat} {cs : List Value} {x : DataW H' × List MemPlace} (ht : P.underlying t = some (.slice e)) (hc : P.cellsOf e = 1) (he : P.underlying e = some .string)
    (hd : DataW.trod enc P W 0 (fun _ => true) true fuel t cs = some x) : ∃ sv L, cs = [sv] ∧ Sl8 h (absV W sv) L ∧ L.length ≤ 9223372036854775807 ∧ ∀ l ∈ L, l.length ≤ 9223372036854775807 := by
  obtain ⟨sv, xs, rfl, l1, l2, l3⟩ := lst_of s h0 ht hc hd
  have hb : ∀ y ∈ xs, ∃ b : ByteArray, y = .string b ∧ b.size ≤ maxLen := by
    intro y hy
    obtain ⟨i, hi⟩ := List.mem_iff_getElem?.1 hy
    obtain ⟨n, d, p, hdy⟩ := l3 i y hi
    obtain ⟨b, hb, _, hs⟩ := DataW.trod_string he hdy
    exact ⟨b, by simpa using hb, hs⟩
  have hR : ∃ R : List ByteArray, xs = R.map Value.string ∧ ∀ b ∈ R, b.size ≤ maxLen := by
    clear l1 l2 l3 hd
    induction xs with
    | nil => exact ⟨[], rfl, fun b hb => by cases hb⟩
    | cons y ys ih =>
      obtain ⟨b, rfl, hs⟩ := hb y (by simp)
      obtain ⟨R, rfl, hR⟩ := ih fun z hz => hb z (by simp [hz])
      exact ⟨b :: R, rfl, fun c hc => by
        rcases List.mem_cons.1 hc with rfl | hc
        · exact hs
        · exact hR c hc⟩
  obtain ⟨R, rfl, hR⟩ := hR
  refine ⟨sv, R.map fun b => b.data.toList, rfl, ?_, by rw [List.length_map]; exact maxLen_le (by simpa using l2), fun l hl => ?_⟩
  · unfold Sl8
    have : (R.map Value.string).map (absV W) = (R.map fun b => b.data.toList).map Ev.sv := by
      rw [List.map_map, List.map_map]
      exact List.map_congr_left fun b _ => absV_str W b
    rwa [this] at l1
  · obtain ⟨b, hb, rfl⟩ := List.mem_map.1 hl
    exact str_len (hR b hb)
/-- a slice of numbers of one kind -/
def Kl (h : H) (kd : IntKind) (v : V) (L : List Int) : Prop := Lst h v (L.map (V.i kd))
theorem lk_of {W : World} {h : H} {kd : IntKind} (s : Start W h) (h0 : 0 < W.heap.size) {t e : TypeId} {fuel : Nat} {cs : List Value} {x : DataW H' × List MemPlace} (ht : P.underlying t = some (.slice e)) (hc : P.cellsOf e = 1) (he : P.underlying e = some (.int kd))
    (hd : DataW.trod enc P W 0 (fun _ => true) true fuel t cs = some x) : ∃ sv L, cs = [sv] ∧ Kl h kd (absV W sv) L ∧ L.length ≤ 9223372036854775807 ∧ ∀ n ∈ L, (Lit.int kd n).wf = true := by
  obtain ⟨sv, xs, rfl, l1, l2, l3⟩ := lst_of s h0 ht hc hd
  have hb : ∀ y ∈ xs, ∃ n : Int, y = .int kd n ∧ (Lit.int kd n).wf = true := by
    intro y hy
    obtain ⟨i, hi⟩ := List.mem_iff_getElem?.1 hy
    obtain ⟨n, d, p, hdy⟩ := l3 i y hi
    obtain ⟨b, hb, _, hs⟩ := DataW.trod_int he hdy
    exact ⟨b, by simpa using hb, hs⟩
  have hR : ∃ R : List Int, xs = R.map (Value.int kd) ∧ ∀ n ∈ R, (Lit.int kd n).wf = true := by
    clear l1 l2 l3 hd
    induction xs with
    | nil => exact ⟨[], rfl, fun b hb => by cases hb⟩
    | cons y ys ih =>
      obtain ⟨b, rfl, hs⟩ := hb y (by simp)
      obtain ⟨R, rfl, hR⟩ := ih fun z hz => hb z (by simp [hz])
      exact ⟨b :: R, rfl, fun c hc => by
        rcases List.mem_cons.1 hc with rfl | hc
        · exact hs
        · exact hR c hc⟩
  obtain ⟨R, rfl, hR⟩ := hR
  refine ⟨sv, R, rfl, ?_, maxLen_le (by simpa using l2), hR⟩
  unfold Kl
  have : (R.map (Value.int kd)).map (absV W) = R.map (V.i kd) := by simp [absV]
  rwa [this] at l1
end
end Go.Ev
