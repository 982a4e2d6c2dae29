/- Numbers as bytes: the mathematics alone. No condition. -/
import Derived.Test.YtkfliakkopidmaaEvX
set_option linter.all false
namespace Go.Ev
open Go

/-- no calls -/
def Sp : Ev.Spec := fun _ _ _ _ _ => True
/-- the bytes of a number, the highest first, no 0 ahead -/
def digs (n : Nat) : List UInt8 := if h : n = 0 then [] else digs (n / 256) ++ [UInt8.ofNat (n % 256)]
decreasing_by omega
theorem digs_zero : digs 0 = [] := by rw [digs]; simp
theorem digs_pos {n : Nat} (h : n ≠ 0) : digs n = digs (n / 256) ++ [UInt8.ofNat (n % 256)] := by rw [digs]; simp [h]
theorem digs_len : ∀ (k n : Nat), n < 256 ^ k → (digs n).length ≤ k
  | 0, n, h => by
    have : n = 0 := by simp at h; exact h
    subst this; rw [digs_zero]; simp
  | k + 1, n, h => by
    by_cases hn : n = 0
    · subst hn; rw [digs_zero]; simp
    · rw [digs_pos hn, List.length_append]
      have := digs_len k (n / 256) (by rw [Nat.pow_succ] at h; omega)
      simp; exact this
theorem pk_digs (n : Nat) : pk (digs n) = n := by
  induction n using Nat.strongRecOn with
  | _ n ih =>
    by_cases hn : n = 0
    · subst hn; rw [digs_zero]; rfl
    · rw [digs_pos hn, pk_append, ih (n / 256) (by omega)]
      simp [pk]
      omega
theorem digs_head (n : Nat) : (digs n).head? ≠ some 0 := by
  induction n using Nat.strongRecOn with
  | _ n ih =>
    by_cases hn : n = 0
    · subst hn; rw [digs_zero]; simp
    · rw [digs_pos hn]
      by_cases h2 : n / 256 = 0
      · rw [h2, digs_zero]
        intro h
        have h3 : UInt8.ofNat (n % 256) = 0 := by simpa using h
        have h4 := congrArg UInt8.toNat h3
        simp at h4
        omega
      · have := ih (n / 256) (by omega)
        cases hd : digs (n / 256) with
        | nil =>
          have := pk_digs (n / 256)
          rw [hd] at this
          exact absurd this.symm h2
        | cons c l => rw [hd] at this; simpa using this
theorem pk_cons_pos {c : UInt8} {l : List UInt8} (h : c ≠ 0) : 256 ^ l.length ≤ pk (c :: l) := by
  have : 1 ≤ c.toNat := by
    rcases Nat.eq_zero_or_pos c.toNat with h1 | h1
    · exact absurd (UInt8.toNat_inj.1 h1) h
    · exact h1
  have := Nat.mul_le_mul_right (256 ^ l.length) this
  rw [pk]; omega
/-- digits without a 0 ahead are the digits of their number -/
theorem digs_pk : ∀ (l : List UInt8), l.head? ≠ some 0 → digs (pk l) = l := by
  intro l
  induction hl : l.length using Nat.strongRecOn generalizing l with
  | _ n ih =>
    intro hh
    rcases List.eq_nil_or_concat l with rfl | ⟨r, c, rfl⟩
    · exact digs_zero
    · simp only [List.concat_eq_append] at hl hh ⊢
      have hc : c.toNat < 256 := c.toNat_lt
      have e1 : pk (r ++ [c]) = pk r * 256 + c.toNat := by rw [pk_append]; simp [pk]
      have hne : pk (r ++ [c]) ≠ 0 := by
        cases r with
        | nil =>
          intro h0
          have : c = 0 := UInt8.toNat_inj.1 (by rw [e1] at h0; simp [pk] at h0; exact h0)
          subst this
          simp at hh
        | cons d r =>
          have hd : d ≠ 0 := fun h0 => hh (by rw [h0]; rfl)
          have := pk_cons_pos (l := r) hd
          have hp : 0 < 256 ^ r.length := Nat.pow_pos (by omega)
          omega
      rw [digs_pos hne, e1]
      have e2 : (pk r * 256 + c.toNat) / 256 = pk r := by omega
      have e3 : (pk r * 256 + c.toNat) % 256 = c.toNat := by omega
      rw [e2, e3]
      have hr : r.head? ≠ some 0 := by
        cases r with
        | nil => simp
        | cons d r => simpa using hh
      rw [ih r.length (by rw [← hl]; simp) r rfl hr]
      simp

/-- digits that are no number -/
def badD (l : List UInt8) : Prop := l.head? = some 0 ∨ 9223372036854775808 ≤ pk l
instance (l : List UInt8) : Decidable (badD l) := by unfold badD; exact inferInstance
/-- what reading digits makes -/
def numR (l : List UInt8) : V := if badD l then .tu [.i .i64 0, .b false] else .tu [.i .i64 (pk l : Int), .b true]
theorem numR_bad {l : List UInt8} (h : badD l) : numR l = .tu [.i .i64 0, .b false] := if_pos h
theorem numR_ok {l : List UInt8} (h : ¬ badD l) : numR l = .tu [.i .i64 (pk l : Int), .b true] := if_neg h
/-- a number's cell -/
def numB (n : Nat) : List UInt8 := UInt8.ofNat (digs n).length :: digs n
def textB (l : List UInt8) : List UInt8 := numB l.length ++ l
theorem digs_len8 {n : Nat} (h : n ≤ 9223372036854775807) : (digs n).length ≤ 8 := digs_len 8 n (by omega)
theorem numB_len {n : Nat} (h : n ≤ 9223372036854775807) : (numB n).length ≤ 9 := by
  have := digs_len8 h
  show (digs n).length + 1 ≤ 9
  omega

/-- what stands at the front -/
def takeN : List UInt8 → Int × Int × Int
  | [] => (0, 0, 12)
  | w :: r => if 8 < w.toNat then (0, 0, 10) else if r.length < w.toNat then (0, 0, 12) else
    if (r.take w.toNat).head? = some 0 ∨ 9223372036854775808 ≤ pk (r.take w.toNat) then (0, 0, 10) else (((pk (r.take w.toNat) : Nat) : Int), ((w.toNat + 1 : Nat) : Int), 0)
def takeT (l : List UInt8) : List UInt8 × Int × Int :=
  if (takeN l).2.2 = 0 then
    if ((l.drop (takeN l).2.1.toNat).length : Int) < (takeN l).1 then ([], 0, 12) else ((l.drop (takeN l).2.1.toNat).take (takeN l).1.toNat, (takeN l).2.1 + (takeN l).1, 0)
  else ([], 0, (takeN l).2.2)
theorem takeN_cons (w : UInt8) (r : List UInt8) : takeN (w :: r) = if 8 < w.toNat then (0, 0, 10) else if r.length < w.toNat then (0, 0, 12) else
    if (r.take w.toNat).head? = some 0 ∨ 9223372036854775808 ≤ pk (r.take w.toNat) then (0, 0, 10) else (((pk (r.take w.toNat) : Nat) : Int), ((w.toNat + 1 : Nat) : Int), 0) := rfl
theorem takeN_nil : takeN [] = (0, 0, 12) := rfl
theorem takeN_big {w : UInt8} {r : List UInt8} (h : 8 < w.toNat) : takeN (w :: r) = (0, 0, 10) := by rw [takeN_cons, if_pos h]
theorem takeN_short {w : UInt8} {r : List UInt8} (h : w.toNat ≤ 8) (h1 : r.length < w.toNat) : takeN (w :: r) = (0, 0, 12) := by rw [takeN_cons, if_neg (by omega), if_pos h1]
theorem takeN_bad {w : UInt8} {r : List UInt8} (h : w.toNat ≤ 8) (h1 : w.toNat ≤ r.length) (h2 : (r.take w.toNat).head? = some 0 ∨ 9223372036854775808 ≤ pk (r.take w.toNat)) : takeN (w :: r) = (0, 0, 10) := by
  rw [takeN_cons, if_neg (by omega), if_neg (by omega), if_pos h2]
theorem takeN_ok {w : UInt8} {r : List UInt8} (h : w.toNat ≤ 8) (h1 : w.toNat ≤ r.length) (h2 : ¬ ((r.take w.toNat).head? = some 0 ∨ 9223372036854775808 ≤ pk (r.take w.toNat))) : takeN (w :: r) = (((pk (r.take w.toNat) : Nat) : Int), ((w.toNat + 1 : Nat) : Int), 0) := by
  rw [takeN_cons, if_neg (by omega), if_neg (by omega), if_neg h2]
/-- what it may be -/
theorem takeN_range (l : List UInt8) : (takeN l = (0, 0, 10) ∨ takeN l = (0, 0, 12)) ∨ ∃ n k : Nat, takeN l = ((n : Int), (k : Int), 0) ∧ n ≤ 9223372036854775807 ∧ 1 ≤ k ∧ k ≤ 9 ∧ k ≤ l.length := by
  cases l with
  | nil => exact .inl (.inr rfl)
  | cons w r =>
    by_cases h : 8 < w.toNat
    · exact .inl (.inl (takeN_big h))
    · by_cases h1 : r.length < w.toNat
      · exact .inl (.inr (takeN_short (by omega) h1))
      · by_cases h2 : (r.take w.toNat).head? = some 0 ∨ 9223372036854775808 ≤ pk (r.take w.toNat)
        · exact .inl (.inl (takeN_bad (by omega) (by omega) h2))
        · refine .inr ⟨_, _, takeN_ok (by omega) (by omega) h2, by omega, by omega, by omega, by simp; omega⟩
/-- the value of digits, byte by byte -/
theorem pk_take {l : List UInt8} {i : Nat} (h : i < l.length) : pk (l.take (i + 1)) = pk (l.take i) * 256 + (l.getD i 0).toNat := by
  have e : l.getD i 0 = l[i] := by simp [List.getD, h]
  rw [List.take_succ_eq_append_getElem h, pk_append, e]
  simp [pk]
theorem takeN_numB {n : Nat} (h : n ≤ 9223372036854775807) (more : List UInt8) : takeN (numB n ++ more) = ((n : Int), ((numB n).length : Int), 0) := by
  have hl := digs_len8 h
  have e1 : (UInt8.ofNat (digs n).length).toNat = (digs n).length := by simp; omega
  have e2 : (digs n ++ more).take (digs n).length = digs n := by simp
  have : takeN (numB n ++ more) = (((pk ((digs n ++ more).take (UInt8.ofNat (digs n).length).toNat) : Nat) : Int), (((UInt8.ofNat (digs n).length).toNat + 1 : Nat) : Int), 0) := by
    refine takeN_ok (by omega) (by rw [e1]; simp) ?_
    have e3 : (digs n).append more = digs n ++ more := rfl
    rw [e1, e3, e2, pk_digs]
    rintro (h2 | h2)
    · exact digs_head n h2
    · omega
  rw [this, e1, e2, pk_digs]
  rfl
theorem takeT_textB {l more : List UInt8} (h : l.length ≤ 9223372036854775807) : takeT (textB l ++ more) = (l, ((textB l).length : Int), 0) := by
  have e : takeN (textB l ++ more) = ((l.length : Int), ((numB l.length).length : Int), 0) := by
    unfold textB; rw [List.append_assoc]; exact takeN_numB h _
  unfold takeT
  rw [e]
  simp only [if_true]
  have e2 : (textB l ++ more).drop (((numB l.length).length : Nat) : Int).toNat = l ++ more := by
    rw [Int.toNat_natCast]; unfold textB; rw [List.append_assoc]; simp
  rw [e2, if_neg (by simp; omega)]
  rw [Int.toNat_natCast]
  unfold textB
  simp
/-- cut off bytes lack -/
theorem takeN_cut {n c : Nat} (h : n ≤ 9223372036854775807) (hc : c < (numB n).length) : takeN ((numB n).take c) = (0, 0, 12) := by
  have hl := digs_len8 h
  have e1 : (UInt8.ofNat (digs n).length).toNat = (digs n).length := by simp; omega
  cases c with
  | zero => rfl
  | succ c =>
    have : (numB n).take (c + 1) = UInt8.ofNat (digs n).length :: (digs n).take c := rfl
    rw [this]
    have hc' : c < (digs n).length := by unfold numB at hc; simp at hc; omega
    exact takeN_short (by omega) (by rw [List.length_take, e1]; omega)
theorem takeT_cut {l : List UInt8} {c : Nat} (h : l.length ≤ 9223372036854775807) (hc : c < (textB l).length) : (takeT ((textB l).take c)).2.2 = 12 := by
  rcases Nat.lt_or_ge c (numB l.length).length with h1 | h1
  · have e : (textB l).take c = (numB l.length).take c := by unfold textB; rw [List.take_append_of_le_length (by omega)]
    unfold takeT
    rw [e, takeN_cut h h1]
    rfl
  · have e : (textB l).take c = numB l.length ++ l.take (c - (numB l.length).length) := by
      unfold textB
      rw [List.take_append, List.take_of_length_le (by omega)]
    unfold takeT
    rw [e, takeN_numB h]
    simp only [if_true]
    have hc' : c - (numB l.length).length < l.length := by unfold textB at hc; rw [List.length_append] at hc; omega
    rw [if_pos (by rw [Int.toNat_natCast]; simp; omega)]
theorem badD_iff {r : List UInt8} {k : Nat} (h8 : k ≤ 8) (h1 : k ≤ r.length) : badD (r.take k) ↔ (0 < k ∧ (r.getD 0 0).toNat = 0) ∨ (k = 8 ∧ 128 ≤ (r.getD 0 0).toNat) := by
  cases k with
  | zero =>
    constructor
    · rintro (h | h)
      · simp at h
      · simp [pk] at h
    · rintro (h | h) <;> omega
  | succ k =>
    cases r with
    | nil => simp at h1
    | cons c r =>
      have e : (c :: r).getD 0 0 = c := rfl
      have hl : (r.take k).length = k := by rw [List.length_take]; simp at h1; omega
      have h2 := pk_lt (r.take k)
      have ep : pk (c :: r.take k) = c.toNat * 256 ^ k + pk (r.take k) := by rw [pk, hl]
      rw [hl] at h2
      rw [e, List.take_succ_cons]
      constructor
      · rintro (h | h)
        · have : c = 0 := by simpa using h
          exact .inl ⟨by omega, by rw [this]; rfl⟩
        · rw [ep] at h
          by_cases hk : k = 7
          · subst hk; exact .inr ⟨rfl, by omega⟩
          · have h3 : 256 ^ k ≤ 256 ^ 6 := Nat.pow_le_pow_right (by omega) (by omega)
            have h4 : c.toNat * 256 ^ k ≤ 255 * 256 ^ k := Nat.mul_le_mul_right _ (by have := c.toNat_lt; omega)
            have : (256 : Nat) ^ 6 = 281474976710656 := by decide
            omega
      · rintro (h | h)
        · exact .inl (by rw [show c = 0 from UInt8.toNat_inj.1 h.2]; rfl)
        · have hk : k = 7 := by omega
          subst hk
          exact .inr (by rw [ep]; omega)
/-- three results -/
def tri (a : Int × Int × Int) : V := .tu [.i .i64 a.1, .i .i64 a.2.1, .i .i64 a.2.2]
def triT (a : List UInt8 × Int × Int) : V := .tu [sv a.1, .i .i64 a.2.1, .i .i64 a.2.2]
theorem u8_mod (n : Nat) : UInt8.ofNat (n % 256) = UInt8.ofNat n := UInt8.toNat_inj.1 (by simp)
theorem drop_set1 {α : Type} (xs : List α) (j : Nat) (y : α) (h : j < xs.length) : (xs.set j y).drop j = y :: xs.drop (j + 1) := by
  rw [List.drop_eq_getElem_cons (by rw [List.length_set]; exact h), List.drop_set_of_lt (by omega)]
  simp
end Go.Ev
