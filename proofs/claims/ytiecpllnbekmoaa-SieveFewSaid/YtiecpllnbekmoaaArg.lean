/- Arguments that are slices of slices of bools in a struct, as the walk takes them. No condition. -/
import Derived.Test.YtiecpllnbekmoaaEvP
import Derived.Deep.Slices
set_option linter.all false
namespace Go.Ev
open Go Go.RowKit Go.WideShapes Go.ChangeShapes Go.ChangeAt Go.Deep

theorem cell_add {W : World} {a : Addr} {i : Nat} {x : Value} (h : W.cell? (a.add i) = some x) : W.cell? ⟨a.block, a.off + i, none⟩ = some x := by
  have hsp := World.cell?_spot h
  have e : a.add i = ⟨a.block, a.off + i, none⟩ := by
    unfold Addr.add at hsp ⊢
    split
    · rename_i hi
      rw [if_pos hi] at hsp
      subst hi
      obtain ⟨b, o, sp⟩ := a
      have : sp = none := hsp
      rw [this]; rfl
    · rfl
  rw [← e]; exact h

section
variable {H' : Type} {enc : TypeId × Value → H'} {P : Program}
/-- a slice of one-cell elements: its elements' values -/
theorem lst_of {W : World} {h : H} (s : Start W h) (h0 : 0 < W.heap.size) {t e : TypeId} {fuel : Nat} {cs : List Value} {x : DataW H' × List MemPlace} (ht : P.underlying t = some (.slice e)) (hc : P.cellsOf e = 1)
    (hd : DataW.trod enc P W 0 (fun _ => true) true fuel t cs = some x) : ∃ (sv : Value) (xs : List Value), cs = [sv] ∧ Lst h (absV W sv) (xs.map (absV W)) ∧ xs.length ≤ maxLen ∧
      ∀ (i : Nat) (y : Value), xs[i]? = some y → ∃ n d p, DataW.trod enc P W 0 (fun _ => true) true n e [y] = some (d, p) := by
  rcases open_slice1 ht hc hd with ⟨rfl, _⟩ | ⟨a, len, cap, m, n, V, D, Pl, rfl, hb, hl, hm, hmm, _, hx⟩
  · exact ⟨_, [], rfl, .inl ⟨rfl, rfl⟩, Nat.zero_le _, fun i y hy => by simp at hy⟩
  · simp only [if_true] at hmm
    have hget : ∀ i y, ((List.range len).map V)[i]? = some y → i < len ∧ y = V i := by
      intro i y hy
      have hi : i < len := by have := (List.getElem?_eq_some_iff.1 hy).1; simpa using this
      simp [hi] at hy
      exact ⟨hi, hy.symm⟩
    refine ⟨_, (List.range len).map V, rfl, ?_, by simp; omega, fun i y hy => ?_⟩
    · refine s.lst h0 (fun hne => ?_) hl _ (by simp) fun i y hy => ?_
      · have := World.cell?_spot (hx 0 (by omega)).1
        unfold Addr.add at this
        simpa using this
      · obtain ⟨hi, rfl⟩ := hget i y hy
        exact cell_add (hx i (by omega)).1
    · obtain ⟨hi, rfl⟩ := hget i y hy
      exact ⟨_, _, _, (hx i (by omega)).2⟩

theorem bl_of {W : World} {h : H} (s : Start W h) (h0 : 0 < W.heap.size) {t e : TypeId} {fuel : Nat} {cs : List Value} {x : DataW H' × List MemPlace} (ht : P.underlying t = some (.slice e)) (hc : P.cellsOf e = 1) (he : P.underlying e = some .bool)
    (hd : DataW.trod enc P W 0 (fun _ => true) true fuel t cs = some x) : ∃ sv R, cs = [sv] ∧ Bl h (absV W sv) R ∧ R.length ≤ maxLen := by
  obtain ⟨sv, xs, rfl, l1, l2, l3⟩ := lst_of s h0 ht hc hd
  have hb : ∀ y ∈ xs, ∃ b : Bool, y = .bool b := by
    intro y hy
    obtain ⟨i, hi⟩ := List.mem_iff_getElem?.1 hy
    obtain ⟨n, d, p, hdy⟩ := l3 i y hi
    obtain ⟨b, hb, _⟩ := DataW.trod_bool he hdy
    exact ⟨b, by simpa using hb⟩
  have hR : ∃ R : List Bool, xs = R.map Value.bool := by
    clear l1 l2 l3 hd
    induction xs with
    | nil => exact ⟨[], rfl⟩
    | cons y ys ih =>
      obtain ⟨b, rfl⟩ := hb y (by simp)
      obtain ⟨R, rfl⟩ := ih fun z hz => hb z (by simp [hz])
      exact ⟨b :: R, rfl⟩
  obtain ⟨R, rfl⟩ := hR
  refine ⟨sv, R, rfl, ?_, by simpa using l2⟩
  unfold Bl
  have : (R.map Value.bool).map (absV W) = R.map V.b := by simp [absV]
  rwa [this] at l1

theorem mx_of {W : World} {h : H} (s : Start W h) (h0 : 0 < W.heap.size) {t1 t2 tb : TypeId} {fuel : Nat} {cs : List Value} {x : DataW H' × List MemPlace} (u1 : P.underlying t1 = some (.slice t2)) (c2 : P.cellsOf t2 = 1) (u2 : P.underlying t2 = some (.slice tb)) (cb : P.cellsOf tb = 1) (ub : P.underlying tb = some .bool)
    (hd : DataW.trod enc P W 0 (fun _ => true) true fuel t1 cs = some x) : ∃ sv M, cs = [sv] ∧ Mx h (absV W sv) M ∧ M.length ≤ maxLen := by
  obtain ⟨sv, xs, rfl, l1, l2, l3⟩ := lst_of s h0 u1 c2 hd
  have hr : ∀ y ∈ xs, ∃ R, Bl h (absV W y) R := by
    intro y hy
    obtain ⟨i, hi⟩ := List.mem_iff_getElem?.1 hy
    obtain ⟨n, d, p, hdy⟩ := l3 i y hi
    obtain ⟨sv, R, e, hb, _⟩ := bl_of s h0 u2 cb ub hdy
    cases e
    exact ⟨R, hb⟩
  have hM : ∃ M : List (List Bool), M.length = xs.length ∧ ∀ i y, xs[i]? = some y → Bl h (absV W y) (M.getD i []) := by
    clear l1 l2 l3 hd
    induction xs with
    | nil => exact ⟨[], rfl, fun i y hy => by simp at hy⟩
    | cons y ys ih =>
      obtain ⟨R, hR⟩ := hr y (by simp)
      obtain ⟨M, m1, m2⟩ := ih fun z hz => hr z (by simp [hz])
      refine ⟨R :: M, by simp [m1], fun i z hz => ?_⟩
      cases i with
      | zero => simp at hz; subst hz; exact hR
      | succ i => exact m2 i z (by simpa using hz)
  obtain ⟨M, m1, m2⟩ := hM
  refine ⟨sv, M, rfl, ⟨xs.map (absV W), l1, by simp [m1], fun i r hr' => ?_⟩, by omega⟩
  rw [List.getElem?_map] at hr'
  cases hy : xs[i]? with
  | none => rw [hy] at hr'; cases hr'
  | some y =>
    rw [hy] at hr'
    cases hr'
    exact m2 i y hy

/-- .. and its rows' lengths -/
theorem mx_of2 {W : World} {h : H} (s : Start W h) (h0 : 0 < W.heap.size) {t1 t2 tb : TypeId} {fuel : Nat} {cs : List Value} {x : DataW H' × List MemPlace} (u1 : P.underlying t1 = some (.slice t2)) (c2 : P.cellsOf t2 = 1) (u2 : P.underlying t2 = some (.slice tb)) (cb : P.cellsOf tb = 1) (ub : P.underlying tb = some .bool)
    (hd : DataW.trod enc P W 0 (fun _ => true) true fuel t1 cs = some x) : ∃ sv M, cs = [sv] ∧ Mx h (absV W sv) M ∧ M.length ≤ maxLen ∧ ∀ i, i < M.length → (M.getD i []).length ≤ maxLen := by
  obtain ⟨sv, xs, rfl, l1, l2, l3⟩ := lst_of s h0 u1 c2 hd
  have hr : ∀ y ∈ xs, ∃ R, Bl h (absV W y) R ∧ R.length ≤ maxLen := by
    intro y hy
    obtain ⟨i, hi⟩ := List.mem_iff_getElem?.1 hy
    obtain ⟨n, d, p, hdy⟩ := l3 i y hi
    obtain ⟨sv, R, e, hb, hl⟩ := bl_of s h0 u2 cb ub hdy
    cases e
    exact ⟨R, hb, hl⟩
  have hM : ∃ M : List (List Bool), M.length = xs.length ∧ ∀ i y, xs[i]? = some y → Bl h (absV W y) (M.getD i []) ∧ (M.getD i []).length ≤ maxLen := by
    clear l1 l2 l3 hd
    induction xs with
    | nil => exact ⟨[], rfl, fun i y hy => by simp at hy⟩
    | cons y ys ih =>
      obtain ⟨R, hR⟩ := hr y (by simp)
      obtain ⟨M, m1, m2⟩ := ih fun z hz => hr z (by simp [hz])
      refine ⟨R :: M, by simp [m1], fun i z hz => ?_⟩
      cases i with
      | zero => simp at hz; subst hz; exact hR
      | succ i => exact m2 i z (by simpa using hz)
  obtain ⟨M, m1, m2⟩ := hM
  refine ⟨sv, M, rfl, ⟨xs.map (absV W), l1, by simp [m1], fun i r hr' => ?_⟩, by omega, fun i hi => by
    have hy : xs[i]? = some xs[i] := by simp
    exact (m2 i _ hy).2⟩
  rw [List.getElem?_map] at hr'
  cases hy : xs[i]? with
  | none => rw [hy] at hr'; cases hr'
  | some y =>
    rw [hy] at hr'
    cases hr'
    exact (m2 i y hy).1

/-- a struct of one field -/
theorem struct1_of {W : World} {t tf : TypeId} {fs : Array Field} {v : Value} {d : DataW H'} {ps : List MemPlace} {base : Nat} (ut : P.underlying t = some (.struct fs)) (hfs : ∃ f, fs.toList = [f] ∧ f.type = tf ∧ f.offset = 0) (hc : P.cellsOf t = 1) (hcf : P.cellsOf tf = 1)
    (hval : Value.okWide P W .any base t v) (hd : DataW.Trod enc P W 0 (fun _ => true) true t v d ps) : ∃ sv fuel x, v = .agg #[sv] ∧ DataW.trod enc P W 0 (fun _ => true) true fuel tf [sv] = some x := by
  unfold Value.okWide at hval
  rw [ut] at hval
  obtain ⟨cs, rfl, hsz, _⟩ := hval
  obtain ⟨sv, rfl⟩ : ∃ sv, cs = #[sv] := by
    rw [hc] at hsz
    obtain ⟨l⟩ := cs
    match l, hsz with
    | [x], _ => exact ⟨x, rfl⟩
  obtain ⟨f, hf, htf, hof⟩ := hfs
  obtain ⟨fuel, hfu⟩ := hd
  cases fuel with
  | zero => simp [DataW.trod] at hfu
  | succ n =>
    have e : (Value.agg #[sv]).cells.toList = [sv] := rfl
    rw [e] at hfu
    unfold DataW.trod at hfu
    rw [ut] at hfu
    simp only [hc, List.length_singleton, if_true, hf, List.mapM_cons, List.mapM_nil, htf, hof, hcf, List.drop_zero] at hfu
    cases hx : DataW.trod enc P W 0 (fun _ => true) true n tf (List.take 1 [sv]) with
    | none => rw [hx] at hfu; simp at hfu
    | some x => exact ⟨sv, n, x, rfl, hx⟩
end
end Go.Ev
