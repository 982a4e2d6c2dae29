/- What was sealed, one behind the other: the mathematics alone. No condition. -/
import Derived.Test.YtaloakkglgpegaaSealM
set_option linter.all false
namespace Go.Ev
open Go

theorem adl_take {l : List UInt8} {i : Nat} (h : i < l.length) : adl (l.take (i + 1)) = adlStep (adl (l.take i)) (l.getD i 0) := by
  rw [← sumB_snoc]
  congr 1
  rw [List.take_succ_eq_append_getElem h]
  simp [List.getD, h]
theorem openB_range (l : List UInt8) : openB l = ([], 0, 12) ∨ openB l = ([], 0, 13) ∨ ∃ (x : List UInt8) (n : Nat), openB l = (x, (n : Int), 0) ∧ 5 ≤ n ∧ n ≤ l.length ∧ x.length + 5 ≤ n := by
  rcases takeN_range l with (hc | hc) | ⟨n, k, hc, h1, h2, h3, h4⟩
  · right; left; unfold openB; rw [hc]; rfl
  · left; unfold openB; rw [hc]; rfl
  · rw [openB_num hc]
    by_cases c1 : ((l.length : Int) - k < 4 ∨ (l.length : Int) - k - 4 < n)
    · rw [if_pos c1]; exact .inl rfl
    · rw [if_neg c1]
      by_cases c2 : fourB (sumB ((l.drop (k + 4)).take n)) ≠ (l.drop k).take 4
      · rw [if_pos c2]; exact .inr (.inl rfl)
      · rw [if_neg c2]
        refine .inr (.inr ⟨_, k + 4 + n, rfl, by omega, by omega, ?_⟩)
        rw [List.length_take]; omega
def allB (l : List UInt8) : List (List UInt8) × Nat := if h : (openB l).2.2 = 0 then ((openB l).1 :: (allB (l.drop (openB l).2.1.toNat)).1, (openB l).2.1.toNat + (allB (l.drop (openB l).2.1.toNat)).2) else ([], 0)
termination_by l.length
decreasing_by
  all_goals
    rcases openB_range l with e | e | ⟨x, n, e, h1, h2, h3⟩
    · rw [e] at h; cases h
    · rw [e] at h; cases h
    · rw [e]; simp only [List.length_drop, Int.toNat_natCast]; omega
theorem allB_ok {l x : List UInt8} {n : Nat} (h : openB l = (x, (n : Int), 0)) : allB l = (x :: (allB (l.drop n)).1, n + (allB (l.drop n)).2) := by
  rw [allB]
  rw [dif_pos (by rw [h]), h]
  simp only [Int.toNat_natCast]
theorem allB_err {l : List UInt8} (h : (openB l).2.2 ≠ 0) : allB l = ([], 0) := by
  rw [allB, dif_neg h]
theorem allB_len (l : List UInt8) : (allB l).1.length ≤ l.length := by
  induction h : l.length using Nat.strongRecOn generalizing l with
  | _ m ih =>
    subst h
    rcases openB_range l with e | e | ⟨x, n, e, h1, h2, h3⟩
    · rw [allB_err (by rw [e]; decide)]; simp
    · rw [allB_err (by rw [e]; decide)]; simp
    · rw [allB_ok e]
      have := ih (l.drop n).length (by rw [List.length_drop]; omega) (l.drop n) rfl
      rw [List.length_drop] at this
      simp only [List.length_cons]; omega
/-- texts sealed one behind the other, and more behind that can't be opened -/
theorem allB_seals {more : List UInt8} (hm : (openB more).2.2 ≠ 0) : ∀ (ls : List (List UInt8)), (∀ x ∈ ls, x.length ≤ 9223372036854775807) → allB ((ls.map sealB).flatten ++ more) = (ls, (ls.map sealB).flatten.length)
  | [], _ => by simpa using allB_err hm
  | x :: ls, h => by
    have e : ((x :: ls).map sealB).flatten ++ more = sealB x ++ ((ls.map sealB).flatten ++ more) := by simp
    rw [e, allB_ok (openB_seal (h x (by simp))), List.drop_left, allB_seals hm ls (fun y hy => h y (by simp [hy]))]
    simp
theorem takeN_inv {l : List UInt8} {n k : Nat} (h : takeN l = ((n : Int), (k : Int), 0)) : l.take k = numB n := by
  cases l with
  | nil => rw [takeN_nil] at h; cases h
  | cons w r =>
    rcases Nat.lt_or_ge 8 w.toNat with h1 | h1
    · rw [takeN_big h1] at h; cases h
    rcases Nat.lt_or_ge r.length w.toNat with h2 | h2
    · rw [takeN_short h1 h2] at h; cases h
    by_cases hb : badD (r.take w.toNat)
    · rw [takeN_bad h1 h2 hb] at h; cases h
    · rw [takeN_ok h1 h2 hb] at h
      injection h with e1 e2
      injection e2 with e2 _
      have e1 : pk (r.take w.toNat) = n := by omega
      have e2 : w.toNat + 1 = k := by omega
      subst e1; subst e2
      unfold numB
      rw [digs_pk _ (fun hh => hb (.inl hh)), List.length_take, Nat.min_eq_left h2]
      simp
/-- what is opened was sealed -/
theorem openB_inv {l x : List UInt8} {n : Nat} (h : openB l = (x, (n : Int), 0)) : ∃ more, l = sealB x ++ more := by
  rcases takeN_range l with (hc | hc) | ⟨m, k, hc, h1, h2, h3, h4⟩
  · unfold openB at h; rw [hc] at h; cases h
  · unfold openB at h; rw [hc] at h; cases h
  · rw [openB_num hc] at h
    by_cases c1 : ((l.length : Int) - k < 4 ∨ (l.length : Int) - k - 4 < m)
    · rw [if_pos c1] at h; cases h
    · rw [if_neg c1] at h
      by_cases c2 : fourB (sumB ((l.drop (k + 4)).take m)) ≠ (l.drop k).take 4
      · rw [if_pos c2] at h; cases h
      · rw [if_neg c2] at h
        have c2 := Decidable.not_not.1 c2
        injection h with e1 e2
        refine ⟨(l.drop (k + 4)).drop m, ?_⟩
        have hx : x.length = m := by rw [← e1, List.length_take, List.length_drop]; omega
        have a1 : l = l.take k ++ ((l.drop k).take 4 ++ ((l.drop (k + 4)).take m ++ (l.drop (k + 4)).drop m)) := by
          rw [List.take_append_drop, ← List.drop_drop, List.take_append_drop, List.take_append_drop]
        rw [takeN_inv hc, ← c2, e1] at a1
        unfold sealB
        rw [hx]
        simpa using a1
/-- one byte changed: it isn't opened as what it was -/
theorem openB_change {s : List UInt8} {k : Nat} {y : UInt8} (hs : s.length ≤ 9223372036854775807) (hk : k < (sealB s).length) : ((openB ((sealB s).set k y)).2.2 = 0 ∧ (openB ((sealB s).set k y)).1 = s) ↔ y = (sealB s).getD k 0 := by
  have hg : (sealB s).getD k 0 = (sealB s)[k] := by simp [List.getD, hk]
  constructor
  · rintro ⟨h1, h2⟩
    rcases openB_range ((sealB s).set k y) with e | e | ⟨x, n, e, _, _, _⟩
    · rw [e] at h1; cases h1
    · rw [e] at h1; cases h1
    · rw [e] at h2
      have h2 : x = s := h2
      subst h2
      obtain ⟨more, hm⟩ := openB_inv e
      have hl := congrArg List.length hm
      rw [List.length_set, List.length_append] at hl
      have : more = [] := List.eq_nil_of_length_eq_zero (by omega)
      subst this
      rw [List.append_nil] at hm
      have := congrArg (fun l => l[k]?) hm
      simp [hk] at this
      rw [hg, this]
  · intro e
    have : (sealB s).set k y = sealB s := by rw [e, hg]; simp
    rw [this]
    have := openB_seal (more := []) hs
    rw [List.append_nil] at this
    rw [this]
    exact ⟨rfl, rfl⟩
theorem xor_same (a b : UInt8) : a ^^^ b = a ↔ b = 0 := by
  constructor
  · intro h
    have : a ^^^ (a ^^^ b) = a ^^^ a := by rw [h]
    rw [← UInt8.xor_assoc, UInt8.xor_self, UInt8.zero_xor] at this
    exact this
  · rintro rfl; exact UInt8.xor_zero
/-- sealed bytes, the sum's last byte another one -/
def spoilB (x : List UInt8) (y : UInt8) : List UInt8 := (sealB x).take ((sealB x).length - x.length - 1) ++ [(sealB x).getD ((sealB x).length - x.length - 1) 0 ^^^ y] ++ (sealB x).drop ((sealB x).length - x.length)
theorem spoilB_eq (x : List UInt8) (y : UInt8) : spoilB x y = numB x.length ++ ((fourB (sumB x)).take 3 ++ [(fourB (sumB x)).getD 3 0 ^^^ y]) ++ x := by
  have hl := sealB_len x
  have e1 : (sealB x).length - x.length = (numB x.length).length + 4 := by omega
  have e2 : (sealB x).length - x.length - 1 = (numB x.length).length + 3 := by omega
  have hs : sealB x = numB x.length ++ (fourB (sumB x) ++ x) := by unfold sealB; simp
  have t3 : (fourB (sumB x) ++ x).take 3 = (fourB (sumB x)).take 3 := rfl
  have g3 : (sealB x).getD ((numB x.length).length + 3) 0 = (fourB (sumB x)).getD 3 0 := by
    rw [hs]
    simp only [List.getD, List.getElem?_append_right (Nat.le_add_right _ _), Nat.add_sub_cancel_left]
    rfl
  have d4 : (sealB x).drop ((numB x.length).length + 4) = x := by
    rw [hs, ← List.drop_drop, List.drop_left]; rfl
  have t4 : (sealB x).take ((numB x.length).length + 3) = numB x.length ++ (fourB (sumB x)).take 3 := by
    rw [hs, List.take_append, List.take_of_length_le (Nat.le_add_right _ _), Nat.add_sub_cancel_left, t3]
  unfold spoilB
  rw [e2, e1, g3, d4, t4]
  simp
theorem spoilB_len (x : List UInt8) (y : UInt8) : (spoilB x y).length = (sealB x).length := by
  rw [spoilB_eq, sealB_len]
  simp [fourB]; omega
theorem openB_spoil {x more : List UInt8} {y : UInt8} (h : x.length ≤ 9223372036854775807) (hy : y ≠ 0) : openB (spoilB x y ++ more) = ([], 0, 13) := by
  have e : spoilB x y ++ more = numB x.length ++ (((fourB (sumB x)).take 3 ++ [(fourB (sumB x)).getD 3 0 ^^^ y]) ++ (x ++ more)) := by rw [spoilB_eq]; simp
  have ht : takeN (spoilB x y ++ more) = ((x.length : Int), ((numB x.length).length : Int), 0) := by rw [e]; exact takeN_numB h _
  rw [openB_num ht]
  have hlen : (spoilB x y ++ more).length = (numB x.length).length + 4 + x.length + more.length := by rw [List.length_append, spoilB_len, sealB_len]
  have d1 : (spoilB x y ++ more).drop (numB x.length).length = ((fourB (sumB x)).take 3 ++ [(fourB (sumB x)).getD 3 0 ^^^ y]) ++ (x ++ more) := by rw [e, List.drop_left]
  have d2 : (spoilB x y ++ more).drop ((numB x.length).length + 4) = x ++ more := by
    rw [← List.drop_drop, d1]; rfl
  rw [if_neg (by omega), d1, d2, List.take_left, if_pos ?_]
  intro hh
  have := congrArg (fun l => l.getD 3 0) hh
  have h2 : (fourB (sumB x)).getD 3 0 = (fourB (sumB x)).getD 3 0 ^^^ y := this
  exact hy ((xor_same _ _).1 h2.symm)
/-- the k-th one spoilt, if y isn't 0 -/
def pieceB (k : Nat) (y : UInt8) (l : List (List UInt8)) (j : Nat) : List UInt8 := if j = k ∧ y ≠ 0 then spoilB (l.getD j []) y else sealB (l.getD j [])
def rowB (k : Nat) (y : UInt8) (l : List (List UInt8)) (n : Nat) : List UInt8 := ((List.range n).map (pieceB k y l)).flatten
def firstB (l : List (List UInt8)) (n : Nat) : Nat := ((l.take n).map sealB).flatten.length
theorem rowB_succ (k : Nat) (y : UInt8) (l : List (List UInt8)) (n : Nat) : rowB k y l (n + 1) = rowB k y l n ++ pieceB k y l n := by
  unfold rowB; rw [List.range_succ]; simp
theorem rowB_seals {k : Nat} {y : UInt8} {l : List (List UInt8)} : ∀ {n : Nat}, n ≤ l.length → (n ≤ k ∨ y = 0) → rowB k y l n = ((l.take n).map sealB).flatten
  | 0, _, _ => by unfold rowB; simp
  | n + 1, hn, h => by
    rw [rowB_succ, rowB_seals (by omega) (h.imp (fun h => by omega) id), List.take_succ_eq_append_getElem (by omega)]
    have : pieceB k y l n = sealB l[n] := by
      unfold pieceB
      rw [if_neg (fun e => h.elim (fun h => by omega) (fun h => e.2 h))]
      simp [List.getD, (by omega : n < l.length)]
    rw [this, List.map_append, List.flatten_append]; simp
theorem rowB_spoilt {k : Nat} {y : UInt8} {l : List (List UInt8)} (hk : k < l.length) (hy : y ≠ 0) : ∀ {n : Nat}, k < n → n ≤ l.length → ∃ more, rowB k y l n = ((l.take k).map sealB).flatten ++ (spoilB (l.getD k []) y ++ more)
  | 0, h, _ => absurd h (Nat.not_lt_zero _)
  | n + 1, h, hn => by
    rcases Nat.lt_or_ge k n with h1 | h1
    · obtain ⟨more, e⟩ := rowB_spoilt hk hy h1 (by omega)
      exact ⟨more ++ pieceB k y l n, by rw [rowB_succ, e]; simp⟩
    · obtain rfl : k = n := by omega
      refine ⟨[], ?_⟩
      rw [rowB_succ, rowB_seals (by omega) (.inl (Nat.le_refl _))]
      unfold pieceB
      rw [if_pos ⟨rfl, hy⟩]; simp
theorem firstB_succ {l : List (List UInt8)} {n : Nat} (h : n < l.length) : firstB l (n + 1) = firstB l n + (sealB (l.getD n [])).length := by
  unfold firstB
  rw [List.take_succ_eq_append_getElem h]
  rw [List.map_append, List.flatten_append, List.length_append]
  simp [List.getD, h]
theorem allB_rows0 {k : Nat} {l : List (List UInt8)} (hl : ∀ x ∈ l, x.length ≤ 9223372036854775807) : allB (rowB k 0 l l.length) = (l, (rowB k 0 l l.length).length) := by
  rw [rowB_seals (Nat.le_refl _) (.inr rfl), List.take_length]
  have := allB_seals (more := []) (by decide) l hl
  rwa [List.append_nil] at this
theorem allB_rows {k : Nat} {y : UInt8} {l : List (List UInt8)} (hk : k < l.length) (hy : y ≠ 0) (hl : ∀ x ∈ l, x.length ≤ 9223372036854775807) : allB (rowB k y l l.length) = (l.take k, firstB l k) := by
  obtain ⟨more, e⟩ := rowB_spoilt hk hy hk (Nat.le_refl _)
  rw [e, allB_seals (by rw [openB_spoil (hl _ (by simp [List.getD, hk])) hy]; decide) _ (fun x hx => hl x (List.mem_of_mem_take hx))]
  rfl
theorem firstB_le {l : List (List UInt8)} (hl : ∀ x ∈ l, x.length ≤ 100) : ∀ (n : Nat), n ≤ l.length → firstB l n ≤ 200 * n
  | 0, _ => by unfold firstB; simp
  | n + 1, h => by
    rw [firstB_succ (by omega), sealB_len]
    have := firstB_le hl n (by omega)
    have h1 : (l.getD n []).length ≤ 100 := hl _ (by simp [List.getD, (by omega : n < l.length)])
    have h2 := numB_len (n := (l.getD n []).length) (by omega)
    omega
theorem pieceB_len (k : Nat) (y : UInt8) (l : List (List UInt8)) (j : Nat) : (pieceB k y l j).length = (sealB (l.getD j [])).length := by
  unfold pieceB; split
  · exact spoilB_len _ _
  · rfl
end Go.Ev
