/- What a matrix of bools reaches, step by step: as both parsers reckon it, place by place. No condition. -/
import Derived.Test.YtckkoollolacoaaLatD
set_option maxHeartbeats 4000000
set_option linter.all false
namespace Go.Proofs.Ytckkoollolacoaa
open Go Go.Ev

theorem ext_getD {r q : List Bool} (hl : r.length = q.length) (h : ∀ i, i < r.length → r.getD i false = q.getD i false) : r = q := by
  apply List.ext_getElem hl
  intro i h1 h2
  have := h i h1
  rwa [List.getD_eq_getElem?_getD, List.getD_eq_getElem?_getD, List.getElem?_eq_getElem h1, List.getElem?_eq_getElem h2] at this
theorem extM {M L : Mt} (hl : M.length = L.length) (h : ∀ i, i < M.length → M.getD i [] = L.getD i []) : M = L := by
  apply List.ext_getElem hl
  intro i h1 h2
  have := h i h1
  rwa [List.getD_eq_getElem?_getD, List.getD_eq_getElem?_getD, List.getElem?_eq_getElem h1, List.getElem?_eq_getElem h2] at this

/-- r, to whose first n places those of q are added -/
def orR (r q : List Bool) (n : Nat) : List Bool := (List.range r.length).map fun b => if b < n then r.getD b false || q.getD b false else r.getD b false
theorem orR_len (r q : List Bool) (n : Nat) : (orR r q n).length = r.length := by simp [orR]
theorem orR_get (r q : List Bool) (n b : Nat) : (orR r q n).getD b false = if b < r.length then (if b < n then r.getD b false || q.getD b false else r.getD b false) else false := by
  unfold orR
  rw [List.getD_eq_getElem?_getD, List.getElem?_map]
  by_cases hb : b < r.length
  · rw [if_pos hb, List.getElem?_range hb]; rfl
  · rw [if_neg hb, List.getElem?_eq_none (by simpa using hb)]; rfl
theorem orR_zero (r q : List Bool) : orR r q 0 = r := by
  apply ext_getD (orR_len _ _ _)
  intro i hi
  rw [orR_len] at hi
  rw [orR_get, if_pos hi, if_neg (Nat.not_lt_zero _)]
theorem orR_succ (r q : List Bool) {n : Nat} (hn : n < r.length) : orR r q (n + 1) = (orR r q n).set n (r.getD n false || q.getD n false) := by
  apply ext_getD (by rw [List.length_set, orR_len, orR_len])
  intro i hi
  rw [orR_len] at hi
  rw [getD_set_eq _ _ _ _ _ (by rw [orR_len]; exact hn), orR_get, orR_get, if_pos hi, if_pos hi]
  by_cases hin : i = n
  · subst hin; rw [if_pos (Nat.lt_succ_self _), if_pos rfl]
  · rw [if_neg hin]
    by_cases hlt : i < n
    · rw [if_pos hlt, if_pos (by omega)]
    · rw [if_neg hlt, if_neg (by omega)]
theorem orR_past (r q : List Bool) {n : Nat} (hn : r.length ≤ n) : orR r q n = orR r q r.length := by
  apply ext_getD (by rw [orR_len, orR_len])
  intro i hi
  rw [orR_len] at hi
  rw [orR_get, orR_get, if_pos hi, if_pos hi, if_pos hi, if_pos (by omega)]
theorem orR_self (r : List Bool) (n : Nat) : orR r r n = r := by
  apply ext_getD (orR_len _ _ _)
  intro i hi
  rw [orR_len] at hi
  rw [orR_get, if_pos hi, Bool.or_self]
  split <;> rfl
/-- a place that is set already is set by the adding no other way: what the step asks of it stays as it is -/
theorem orR_key (r q : List Bool) (n k : Nat) (h : r.getD k false = true) : (orR r q n).getD k false = true := by
  have hk : k < r.length := by
    rcases Nat.lt_or_ge k r.length with h0 | h0
    · exact h0
    · rw [List.getD_eq_getElem?_getD, List.getElem?_eq_none h0] at h; exact Bool.noConfusion h
  rw [orR_get, if_pos hk, h]
  split <;> simp

/-- a row, behind the step of the level k whose row is q -/
def stepR (q : List Bool) (k : Nat) (r : List Bool) : List Bool := if r.getD k false = true then orR r q r.length else r
theorem stepR_len (q : List Bool) (k : Nat) (r : List Bool) : (stepR q k r).length = r.length := by
  unfold stepR; split
  · exact orR_len _ _ _
  · rfl
theorem stepR_self (q : List Bool) (k : Nat) : stepR q k q = q := by
  unfold stepR; rw [orR_self]; split <;> rfl
/-- place by place, as the document reckons it -/
theorem stepR_get (q : List Bool) (k : Nat) (r : List Bool) {b : Nat} (hb : b < r.length) : (stepR q k r).getD b false = (r.getD b false || r.getD k false && q.getD b false) := by
  unfold stepR
  cases hk : r.getD k false with
  | true => rw [if_pos rfl, orR_get, if_pos hb, if_pos hb, Bool.true_and]
  | false => rw [if_neg (by decide), Bool.false_and, Bool.or_false]
/-- of a row, behind the step's first n places -/
def stepN (q : List Bool) (k : Nat) (r : List Bool) (n : Nat) : List Bool := if r.getD k false = true then orR r q n else r
theorem stepN_zero (q : List Bool) (k : Nat) (r : List Bool) : stepN q k r 0 = r := by unfold stepN; rw [orR_zero]; split <;> rfl
theorem stepN_all (q : List Bool) (k : Nat) (r : List Bool) : stepN q k r r.length = stepR q k r := rfl
theorem stepN_len (q : List Bool) (k : Nat) (r : List Bool) (n : Nat) : (stepN q k r n).length = r.length := by
  unfold stepN; split
  · exact orR_len _ _ _
  · rfl
theorem stepN_key (q : List Bool) (k : Nat) (r : List Bool) (n : Nat) : (stepN q k r n).getD k false = r.getD k false := by
  unfold stepN
  cases hk : r.getD k false with
  | true => rw [if_pos rfl]; exact orR_key _ _ _ _ hk
  | false => rw [if_neg (by decide)]; exact hk
theorem stepN_at (q : List Bool) (k : Nat) (r : List Bool) (n : Nat) : (stepN q k r n).getD n false = r.getD n false := by
  unfold stepN
  split
  · rw [orR_get, if_neg (Nat.lt_irrefl n)]
    split
    · rfl
    · rename_i h; rw [List.getD_eq_getElem?_getD, List.getElem?_eq_none (by omega)]; rfl
  · rfl
theorem stepN_succ (q : List Bool) (k : Nat) (r : List Bool) {n : Nat} (hn : n < r.length) : stepN q k r (n + 1) = (stepN q k r n).set n (r.getD n false || r.getD k false && q.getD n false) := by
  unfold stepN
  cases hk : r.getD k false with
  | true => rw [if_pos rfl, if_pos rfl, Bool.true_and, orR_succ _ _ hn]
  | false =>
    rw [if_neg (by decide), if_neg (by decide), Bool.false_and, Bool.or_false]
    apply ext_getD (by rw [List.length_set])
    intro i hi
    rw [getD_set_eq _ _ _ _ _ hn]
    split
    · rename_i e; rw [e]
    · rfl

/-- the matrix behind the first a rows of the step k -/
def stepM (M : Mt) (k a : Nat) : Mt := (List.range M.length).map fun i => if i < a then stepR (M.getD k []) k (M.getD i []) else M.getD i []
theorem stepM_len (M : Mt) (k a : Nat) : (stepM M k a).length = M.length := by simp [stepM]
theorem stepM_get (M : Mt) (k a i : Nat) : (stepM M k a).getD i [] = if i < M.length then (if i < a then stepR (M.getD k []) k (M.getD i []) else M.getD i []) else [] := by
  unfold stepM
  rw [List.getD_eq_getElem?_getD, List.getElem?_map]
  by_cases hb : i < M.length
  · rw [if_pos hb, List.getElem?_range hb]; rfl
  · rw [if_neg hb, List.getElem?_eq_none (by simpa using hb)]; rfl
theorem stepM_zero (M : Mt) (k : Nat) : stepM M k 0 = M := by
  apply extM (stepM_len _ _ _)
  intro i hi
  rw [stepM_len] at hi
  rw [stepM_get, if_pos hi, if_neg (Nat.not_lt_zero _)]
theorem stepM_succ (M : Mt) (k : Nat) {a : Nat} (ha : a < M.length) : stepM M k (a + 1) = (stepM M k a).set a (stepR (M.getD k []) k (M.getD a [])) := by
  apply extM (by rw [List.length_set, stepM_len, stepM_len])
  intro i hi
  rw [stepM_len] at hi
  rw [getD_set_eq _ _ _ _ _ (by rw [stepM_len]; exact ha), stepM_get, stepM_get, if_pos hi, if_pos hi]
  by_cases hin : i = a
  · subst hin; rw [if_pos (Nat.lt_succ_self _), if_pos rfl]
  · rw [if_neg hin]
    by_cases hlt : i < a
    · rw [if_pos hlt, if_pos (by omega)]
    · rw [if_neg hlt, if_neg (by omega)]
/-- the row that is added stays as it is, the whole step long -/
theorem stepM_row (M : Mt) (k a : Nat) : (stepM M k a).getD k [] = M.getD k [] := by
  rw [stepM_get]
  by_cases hk : k < M.length
  · rw [if_pos hk, stepR_self]; split <;> rfl
  · rw [if_neg hk, List.getD_eq_getElem?_getD, List.getElem?_eq_none (by omega)]; rfl
/-- a row whose turn has not come is as it was -/
theorem stepM_next (M : Mt) (k : Nat) {a : Nat} (ha : a < M.length) : (stepM M k a).getD a [] = M.getD a [] := by
  rw [stepM_get, if_pos ha, if_neg (Nat.lt_irrefl _)]
theorem stepM_rowlen (M : Mt) (k a i : Nat) : ((stepM M k a).getD i []).length = (M.getD i []).length := by
  rw [stepM_get]
  by_cases hk : i < M.length
  · rw [if_pos hk]; split
    · exact stepR_len _ _ _
    · rfl
  · rw [if_neg hk, List.getD_eq_getElem?_getD, List.getElem?_eq_none (by omega)]; rfl

/-- behind the first n steps -/
def reachM (M : Mt) : Nat → Mt
  | 0 => M
  | n + 1 => stepM (reachM M n) n M.length
theorem reachM_len (M : Mt) : ∀ n, (reachM M n).length = M.length
  | 0 => rfl
  | n + 1 => by rw [reachM, stepM_len, reachM_len M n]
theorem reachM_rowlen (M : Mt) (i : Nat) : ∀ n, ((reachM M n).getD i []).length = (M.getD i []).length
  | 0 => rfl
  | n + 1 => by rw [reachM, stepM_rowlen, reachM_rowlen M i n]
end Go.Proofs.Ytckkoollolacoaa
