/- Lattices as matrices: what follows from their check. No condition. -/
import Derived.Test.YtpnflehemjbemaaLat4
set_option linter.all false
namespace Go.Proofs.Ytpnflehemjbemaa
open Go Go.Ev

theorem chk_zero {M : Mt} (h : chkN M = 0) : squareB M = true ∧ orderedB M = true := by
  unfold chkN at h
  split at h
  · rename_i hq
    split at h
    · rename_i ho; exact ⟨hq, ho⟩
    · cases h
  · cases h
theorem lvls_zero {M : Mt} (h : chkN M = 0) : lvls M = M.length := by unfold lvls; rw [if_pos h]
theorem ord_refl {M : Mt} (h : chkN M = 0) {a : Nat} (ha : a < M.length) : at2 M a a = true := (of_decide_eq_true (chk_zero h).2 a ha).1
theorem ord_row {M : Mt} (h : chkN M = 0) {a b : Nat} (ha : a < M.length) (hb : b < M.length) (hab : at2 M a b = true) (hne : b ≠ a) : at2 M b a = false ∧ ∀ c, c < M.length → at2 M b c = true → at2 M a c = true := by
  have := (of_decide_eq_true (chk_zero h).2 a ha).2 b hb
  unfold rowOk at this
  rw [hab] at this
  have hne' : (b == a) = false := by simpa using hne
  rw [hne'] at this
  simp only [Bool.not_true, Bool.false_or, Bool.and_eq_true, Bool.not_eq_true'] at this
  refine ⟨this.1, fun c hc hbc => ?_⟩
  have hl := (squareB_rows (chk_zero h).1).2 b hb
  exact of_decide_eq_true this.2 c (by omega) hbc
theorem dom_iff {M : Mt} (h : chkN M = 0) (a b : Int) : domB M a b = true ↔ ∃ x y : Nat, a = x ∧ b = y ∧ x < M.length ∧ y < M.length ∧ at2 M x y = true := by
  unfold domB isLv
  rw [lvls_zero h]
  simp only [Bool.and_eq_true, decide_eq_true_eq]
  constructor
  · rintro ⟨⟨a1, a2⟩, ⟨b1, b2⟩, h3⟩
    exact ⟨a.toNat, b.toNat, by omega, by omega, by omega, by omega, h3⟩
  · rintro ⟨x, y, rfl, rfl, hx, hy, h3⟩
    exact ⟨⟨by omega, by omega⟩, ⟨by omega, by omega⟩, by simpa using h3⟩
theorem above_iff {M : Mt} (h : chkN M = 0) (a b : Int) : aboveB M a b = true ↔ ∃ x y : Nat, a = x ∧ b = y ∧ x ≠ y ∧ x < M.length ∧ y < M.length ∧ at2 M x y = true := by
  unfold aboveB
  simp only [Bool.and_eq_true, Bool.not_eq_true', decide_eq_false_iff_not]
  rw [dom_iff h]
  constructor
  · rintro ⟨hne, x, y, rfl, rfl, h3⟩
    exact ⟨x, y, rfl, rfl, fun e => hne (by rw [e]), h3⟩
  · rintro ⟨x, y, rfl, rfl, hne, h3⟩
    exact ⟨by omega, x, y, rfl, rfl, h3⟩
theorem above_asym {M : Mt} (h : chkN M = 0) {a b : Int} (hab : aboveB M a b = true) : aboveB M b a = false := by
  obtain ⟨x, y, rfl, rfl, hne, hx, hy, h3⟩ := (above_iff h _ _).1 hab
  cases hba : aboveB M (y : Int) (x : Int) with
  | false => rfl
  | true =>
    obtain ⟨p, q, e1, e2, _, _, _, h4⟩ := (above_iff h _ _).1 hba
    have : p = y := by omega
    have : q = x := by omega
    subst p; subst q
    have := (ord_row h hx hy h3 (fun e => hne e.symm)).1
    rw [h4] at this; cases this
theorem above_trans {M : Mt} (h : chkN M = 0) {a b c : Int} (hab : aboveB M a b = true) (hbc : aboveB M b c = true) : aboveB M a c = true := by
  obtain ⟨x, y, rfl, rfl, hne, hx, hy, h3⟩ := (above_iff h _ _).1 hab
  obtain ⟨p, z, e1, rfl, hne2, hp, hz, h4⟩ := (above_iff h _ _).1 hbc
  have : p = y := by omega
  subst p
  refine (above_iff h _ _).2 ⟨x, z, rfl, rfl, fun e => ?_, hx, hz, (ord_row h hx hy h3 (fun e => hne e.symm)).2 z hz h4⟩
  subst e
  have := (ord_row h hx hy h3 (fun e => hne e.symm)).1
  rw [h4] at this; cases this

/-! ### One place turned -/
def flip (M : Mt) (i j : Nat) : Mt := M.set i ((M.getD i []).set j (!at2 M i j))
theorem getD_set_eq {α : Type} (l : List α) (i k : Nat) (x d : α) (hi : i < l.length) : (l.set i x).getD k d = if k = i then x else l.getD k d := by
  by_cases e : k = i
  · subst e; simp [hi]
  · rw [if_neg e]; simp [List.getD, List.getElem?_set, Ne.symm e]
theorem flip_len (M : Mt) (i j : Nat) : (flip M i j).length = M.length := by simp [flip]
theorem flip_row {M : Mt} {i j : Nat} (hi : i < M.length) (k : Nat) : ((flip M i j).getD k []).length = (M.getD k []).length := by
  unfold flip
  rw [getD_set_eq _ _ _ _ _ hi]
  split
  · rename_i e; subst e; simp
  · rfl
theorem flip_at {M : Mt} {i j : Nat} (hi : i < M.length) (hj : j < (M.getD i []).length) (x y : Nat) : at2 (flip M i j) x y = if x = i ∧ y = j then !at2 M i j else at2 M x y := by
  show ((flip M i j).getD x []).getD y false = _
  unfold flip
  rw [getD_set_eq _ _ _ _ _ hi]
  by_cases ex : x = i
  · subst ex
    simp only [if_true, true_and]
    rw [getD_set_eq _ _ _ _ _ hj]
    rfl
  · simp [ex, at2]
theorem flip_square {M : Mt} (h : chkN M = 0) {i j : Nat} (hi : i < M.length) : squareB (flip M i j) = true := by
  have hq := of_decide_eq_true (chk_zero h).1
  refine decide_eq_true ⟨by rw [flip_len]; exact hq.1, by rw [flip_len]; exact hq.2.1, fun k hk => ?_⟩
  rw [flip_row hi, flip_len]
  rw [flip_len] at hk
  exact hq.2.2 k hk
theorem flip_chk {M : Mt} (h : chkN M = 0) {i j : Nat} (hi : i < M.length) : chkN (flip M i j) = 11 ∨ chkN (flip M i j) = 0 := by
  unfold chkN
  rw [if_pos (flip_square h hi)]
  split
  · exact .inr rfl
  · exact .inl rfl
theorem flip_bad {M : Mt} (h : chkN M = 0) {i j : Nat} (hi : i < M.length) (hj : j < M.length) (hb : i = j ∨ at2 M j i = true) : chkN (flip M i j) = 11 := by
  have hlj : j < (M.getD i []).length := by rw [(squareB_rows (chk_zero h).1).2 i hi]; exact hj
  rcases flip_chk (j := j) h hi with h1 | h1
  · exact h1
  · exfalso
    by_cases e : i = j
    · subst e
      have h2 := ord_refl h1 (a := i) (by rw [flip_len]; exact hi)
      rw [flip_at hi hlj] at h2
      simp at h2
      have := ord_refl h hi
      rw [h2] at this; cases this
    · have hji : at2 M j i = true := by rcases hb with hb | hb; exact absurd hb e; exact hb
      have hij : at2 M i j = false := (ord_row h hj hi hji e).1
      have h2 : at2 (flip M i j) i j = true := by rw [flip_at hi hlj]; simp [hij]
      have h3 : at2 (flip M i j) j i = true := by
        rw [flip_at hi hlj, if_neg (fun hh => e hh.2)]; exact hji
      have := (ord_row h1 (by rw [flip_len]; exact hi) (by rw [flip_len]; exact hj) h2 (fun hh => e hh.symm)).1
      rw [h3] at this; cases this
theorem flip_dom {M : Mt} (h : chkN M = 0) {i j : Nat} (hi : i < M.length) (hj : j < M.length) (h1 : chkN (flip M i j) = 0) : domB (flip M i j) i j = !domB M i j := by
  have hlj : j < (M.getD i []).length := by rw [(squareB_rows (chk_zero h).1).2 i hi]; exact hj
  have e1 : domB M i j = at2 M i j := by
    unfold domB isLv; rw [lvls_zero h]
    have : decide ((0 : Int) ≤ (i : Int) ∧ (i : Int) < (M.length : Nat)) = true := decide_eq_true ⟨by omega, by omega⟩
    rw [this]
    have : decide ((0 : Int) ≤ (j : Int) ∧ (j : Int) < (M.length : Nat)) = true := decide_eq_true ⟨by omega, by omega⟩
    rw [this]; simp
  have e2 : domB (flip M i j) i j = at2 (flip M i j) i j := by
    unfold domB isLv; rw [lvls_zero h1, flip_len]
    have : decide ((0 : Int) ≤ (i : Int) ∧ (i : Int) < (M.length : Nat)) = true := decide_eq_true ⟨by omega, by omega⟩
    rw [this]
    have : decide ((0 : Int) ≤ (j : Int) ∧ (j : Int) < (M.length : Nat)) = true := decide_eq_true ⟨by omega, by omega⟩
    rw [this]; simp
  rw [e1, e2, flip_at hi hlj]; simp
end Go.Proofs.Ytpnflehemjbemaa
