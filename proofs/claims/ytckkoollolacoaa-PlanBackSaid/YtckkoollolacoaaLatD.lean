/- Lattices as matrices: what their functions reckon. No condition. -/
import Derived.Test.YtckkoollolacoaaEvX
set_option linter.all false
namespace Go.Proofs.Ytckkoollolacoaa
open Go Go.Ev

/-- row has all that part has -/
def holdsB (R Q : List Bool) : Bool := decide (∀ i, i < Q.length → Q.getD i false = true → R.getD i false = true)
abbrev Mt := List (List Bool)
def at2 (M : Mt) (a b : Nat) : Bool := (M.getD a []).getD b false
def squareB (M : Mt) : Bool := decide (1 ≤ M.length ∧ M.length ≤ 6 ∧ ∀ i, i < M.length → (M.getD i []).length = M.length)
/-- what a round over b asks -/
def rowOk (M : Mt) (a b : Nat) : Bool := !at2 M a b || (b == a || (!at2 M b a && holdsB (M.getD a []) (M.getD b [])))
def orderedB (M : Mt) : Bool := decide (∀ a, a < M.length → at2 M a a = true ∧ ∀ b, b < M.length → rowOk M a b = true)
theorem squareB_rows {M : Mt} (h : squareB M = true) : M.length ≤ 6 ∧ ∀ i, i < M.length → (M.getD i []).length = M.length := (of_decide_eq_true h).2
/-- 0, 10, 11 -/
def chkN (M : Mt) : Nat := if squareB M = true then (if orderedB M = true then 0 else 11) else 10
def lvls (M : Mt) : Nat := if chkN M = 0 then M.length else 0
def isLv (M : Mt) (a : Int) : Bool := decide (0 ≤ a ∧ a < lvls M)
def domB (M : Mt) (a b : Int) : Bool := isLv M a && (isLv M b && at2 M a.toNat b.toNat)
def aboveB (M : Mt) (a b : Int) : Bool := !decide (a = b) && domB M a b
def fewB (M : Mt) : Bool := decide (M.length ≤ 10 ∧ ∀ i, i < M.length → (M.getD i []).length ≤ 10)
def below0 (M : Mt) (a n : Nat) : List Int := ((List.range n).filter fun b => at2 M a b && !(b == a)).map (fun b : Nat => (b : Int))
theorem below0_succ (M : Mt) (a n : Nat) : below0 M a (n + 1) = below0 M a n ++ (if (at2 M a n && !(n == a)) = true then [(n : Int)] else []) := by
  unfold below0
  rw [List.range_succ, List.filter_append, List.map_append]
  congr 1
  by_cases h : (at2 M a n && !(n == a)) = true
  · rw [if_pos h]; simp [List.filter_cons, h]
  · rw [if_neg h]; simp only [List.filter_cons, h]; rfl
theorem below0_len (M : Mt) (a n : Nat) : (below0 M a n).length ≤ n := by
  unfold below0; rw [List.length_map]; exact Nat.le_trans (List.length_filter_le _ _) (by simp)
def belowL (M : Mt) (a : Int) : List Int := if isLv M a = true then below0 M a.toNat M.length else []
/-- none of L but b is above b -/
def topB (M : Mt) (L : List Int) (b : Int) (n : Nat) : Bool := (L.take n).all fun c => decide (c = b) || !at2 M c.toNat b.toNat
theorem topB_succ (M : Mt) (L : List Int) (b : Int) {n : Nat} (h : n < L.length) : topB M L b (n + 1) = (topB M L b n && (decide (L.getD n 0 = b) || !at2 M (L.getD n 0).toNat b.toNat)) := by
  unfold topB
  rw [List.take_succ_eq_append_getElem h, List.all_append]
  simp [List.getD, h]
def covers0 (M : Mt) (L : List Int) (n : Nat) : List Int := (L.take n).filter fun b => topB M L b L.length
theorem covers0_succ (M : Mt) (L : List Int) {n : Nat} (h : n < L.length) : covers0 M L (n + 1) = covers0 M L n ++ (if topB M L (L.getD n 0) L.length = true then [L.getD n 0] else []) := by
  unfold covers0
  rw [List.take_succ_eq_append_getElem h, List.filter_append]
  congr 1
  have e : L.getD n 0 = L[n] := by simp [List.getD, h]
  rw [e]
  by_cases hb : topB M L L[n] L.length = true
  · rw [if_pos hb]; simp [List.filter_cons, hb]
  · rw [if_neg hb]; simp [List.filter_cons, hb]
theorem covers0_len (M : Mt) (L : List Int) (n : Nat) : (covers0 M L n).length ≤ L.length := by
  unfold covers0; exact Nat.le_trans (List.length_filter_le _ _) (by simp; omega)
def coversL (M : Mt) (a : Int) : List Int := covers0 M (belowL M a) (belowL M a).length
/-- what is below is a level -/
theorem belowL_mem {M : Mt} {a : Int} {i : Nat} (h : i < (belowL M a).length) : ∃ b : Nat, (belowL M a).getD i 0 = (b : Int) ∧ b < M.length ∧ 0 < lvls M := by
  have hm : (belowL M a).getD i 0 ∈ belowL M a := by simp [List.getD, h]
  unfold belowL at hm h ⊢
  split at hm
  · rename_i ha
    rw [if_pos ha] at h
    unfold below0 at hm
    rw [List.mem_map] at hm
    obtain ⟨b, hb, e⟩ := hm
    have := (List.mem_filter.1 hb).1
    have ha' := of_decide_eq_true ha
    rw [if_pos ha]
    exact ⟨b, e.symm, by simpa using this, by omega⟩
  · rename_i ha; rw [if_neg ha] at h; simp at h
theorem belowL_len (M : Mt) (a : Int) : (belowL M a).length ≤ M.length := by
  unfold belowL; split
  · exact below0_len _ _ _
  · simp
theorem lvls_le {M : Mt} : lvls M ≤ M.length := by unfold lvls; split <;> omega
theorem lvls_rows {M : Mt} {a : Nat} (h : a < lvls M) : M.length = lvls M ∧ chkN M = 0 ∧ M.length ≤ 6 ∧ ∀ i, i < M.length → (M.getD i []).length = M.length := by
  unfold lvls at h ⊢
  split at h
  · rename_i hc
    have hq : squareB M = true := by
      unfold chkN at hc
      split at hc
      · assumption
      · cases hc
    rw [if_pos hc]
    exact ⟨rfl, hc, squareB_rows hq⟩
  · omega
/-- what the document asks of two levels -/
def pairOk1 (M : Mt) (a b : Nat) : Prop := (a = b → at2 M a a = true) ∧ (a ≠ b → at2 M a b = true → at2 M b a = false)
def pairOk (M : Mt) (a b : Nat) : Prop := pairOk1 M a b ∧ ∀ c, c < M.length → at2 M a b = true → at2 M b c = true → at2 M a c = true
theorem ordered_pairs {M : Mt} (hq : ∀ i, i < M.length → (M.getD i []).length = M.length) : orderedB M = true ↔ ∀ a b, a < M.length → b < M.length → pairOk M a b := by
  constructor
  · intro h a b ha hb
    have h1 := of_decide_eq_true h
    have h2 := (h1 a ha).2 b hb
    unfold rowOk at h2
    refine ⟨⟨fun e => (h1 a ha).1, fun hne hab => ?_⟩, fun c hc hab hbc => ?_⟩
    · have hba : (b == a) = false := beq_eq_false_iff_ne.2 fun e => hne e.symm
      rw [hab, hba] at h2
      simp at h2
      exact h2.1
    · by_cases hne : b = a
      · subst hne; exact hbc
      · have hba : (b == a) = false := beq_eq_false_iff_ne.2 hne
        rw [hab, hba] at h2
        simp at h2
        exact of_decide_eq_true h2.2 c (by have := hq b hb; simp only [List.getD_eq_getElem?_getD] at this; rw [this]; exact hc) hbc
  · intro h
    refine decide_eq_true fun a ha => ⟨((h a a ha ha).1).1 rfl, fun b hb => ?_⟩
    unfold rowOk
    obtain ⟨⟨h1, h2⟩, h3⟩ := h a b ha hb
    cases hab : at2 M a b with
    | false => rfl
    | true =>
      by_cases hne : b = a
      · subst hne; simp
      · have hba := h2 (fun e => hne e.symm) hab
        rw [hba]
        have : holdsB (M.getD a []) (M.getD b []) = true := decide_eq_true fun c hc hbc => h3 c (by rw [hq b hb] at hc; exact hc) hab hbc
        rw [this]; simp
/-- as the document's Below grows -/
def rb (M : Mt) (a : Int) (n : Nat) : List Int := ((List.range n).filter fun b : Nat => aboveB M a (b : Int)).map (fun b : Nat => (b : Int))
theorem rb_succ (M : Mt) (a : Int) (n : Nat) : rb M a (n + 1) = rb M a n ++ (if aboveB M a (n : Int) = true then [(n : Int)] else []) := by
  unfold rb
  rw [List.range_succ, List.filter_append, List.map_append]
  congr 1
  by_cases h : aboveB M a (n : Int) = true
  · rw [if_pos h]; simp [List.filter_cons, h]
  · rw [if_neg h]; simp only [List.filter_cons, h]; rfl
theorem rb_len (M : Mt) (a : Int) (n : Nat) : (rb M a n).length ≤ n := by
  unfold rb; rw [List.length_map]; exact Nat.le_trans (List.length_filter_le _ _) (by simp)
theorem rb_all (M : Mt) (a : Int) : rb M a (lvls M) = belowL M a := by
  unfold rb belowL
  cases ha : isLv M a with
  | false =>
    rw [if_neg (by simp)]
    have : ∀ b : Nat, aboveB M a (b : Int) = false := fun b => by unfold aboveB domB; rw [ha]; simp
    simp [this]
  | true =>
    rw [if_pos rfl]
    have ha' := of_decide_eq_true ha
    obtain ⟨n, rfl⟩ := Int.eq_ofNat_of_zero_le ha'.1
    obtain ⟨q1, q2, q3, q4⟩ := lvls_rows (M := M) (a := n) (by omega)
    unfold below0
    rw [← q1, Int.toNat_natCast]
    congr 1
    apply List.filter_congr
    intro b hb
    have hb' : b < M.length := by simpa using hb
    have lb : isLv M (b : Int) = true := decide_eq_true ⟨by omega, by omega⟩
    unfold aboveB domB
    rw [ha, lb, Int.toNat_natCast, Int.toNat_natCast]
    by_cases hne : b = n
    · subst hne; simp
    · have h1 : decide ((n : Int) = (b : Int)) = false := decide_eq_false (by omega)
      have h2 : (b == n) = false := beq_eq_false_iff_ne.2 hne
      rw [h1, h2]; simp
theorem above_top {M : Mt} {b c : Nat} (hb : b < M.length) (hc : c < M.length) (h0 : 0 < lvls M) : (!aboveB M (c : Int) (b : Int)) = (decide ((c : Int) = (b : Int)) || !at2 M (c : Int).toNat (b : Int).toNat) := by
  obtain ⟨q1, q2, q3, q4⟩ := lvls_rows (M := M) (a := 0) h0
  have l1 : isLv M (c : Int) = true := decide_eq_true ⟨by omega, by omega⟩
  have l2 : isLv M (b : Int) = true := decide_eq_true ⟨by omega, by omega⟩
  unfold aboveB domB
  rw [l1, l2, Int.toNat_natCast, Int.toNat_natCast]
  cases decide ((c : Int) = (b : Int)) <;> cases at2 M c b <;> rfl
theorem getD_set_eq {α : Type} (l : List α) (i k : Nat) (x d : α) (hi : i < l.length) : (l.set i x).getD k d = if k = i then x else l.getD k d := by
  by_cases e : k = i
  · subst e; simp [hi]
  · rw [if_neg e]; simp [List.getD, List.getElem?_set, Ne.symm e]
end Go.Proofs.Ytckkoollolacoaa
