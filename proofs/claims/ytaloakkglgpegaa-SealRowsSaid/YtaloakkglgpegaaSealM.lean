/- Sums of texts, sealed texts: the mathematics alone. No condition. -/
import Derived.Test.YtaloakkglgpegaaCellM
set_option linter.all false
namespace Go.Ev
open Go

/-- the sum's two parts, one byte further -/
def adlStep (p : Nat × Nat) (c : UInt8) : Nat × Nat := ((p.1 + c.toNat) % 65521, (p.2 + (p.1 + c.toNat) % 65521) % 65521)
def adlF (p : Nat × Nat) (l : List UInt8) : Nat × Nat := l.foldl adlStep p
def adl (l : List UInt8) : Nat × Nat := adlF (1, 0) l
def sumB (l : List UInt8) : Nat := (adl l).2 * 65536 + (adl l).1
theorem adlF_append (p : Nat × Nat) (a b : List UInt8) : adlF p (a ++ b) = adlF (adlF p a) b := List.foldl_append
theorem adlF_lt {p : Nat × Nat} (h1 : p.1 < 65521) (h2 : p.2 < 65521) : ∀ l, (adlF p l).1 < 65521 ∧ (adlF p l).2 < 65521 := by
  intro l
  induction l generalizing p with
  | nil => exact ⟨h1, h2⟩
  | cons c l ih => exact ih (p := adlStep p c) (Nat.mod_lt _ (by omega)) (Nat.mod_lt _ (by omega))
theorem adl_lt (l : List UInt8) : (adl l).1 < 65521 ∧ (adl l).2 < 65521 := adlF_lt (by decide) (by decide) l
theorem sumB_lt (l : List UInt8) : sumB l < 4294967296 := by
  have := adl_lt l
  unfold sumB; omega
theorem sumB_eq (a b : List UInt8) : sumB a = sumB b ↔ adl a = adl b := by
  have h1 := adl_lt a
  have h2 := adl_lt b
  constructor
  · intro h
    unfold sumB at h
    exact Prod.ext (by omega) (by omega)
  · intro h
    unfold sumB; rw [h]
theorem sumB_snoc (l : List UInt8) (c : UInt8) : adl (l ++ [c]) = adlStep (adl l) c := by
  unfold adl; rw [adlF_append]; rfl
theorem sumB_parts (l : List UInt8) : sumB l % 65536 = (adl l).1 ∧ sumB l / 65536 = (adl l).2 := by
  have := adl_lt l
  unfold sumB; omega
/-- unlike first parts stay unlike -/
theorem adlF_a {p q : Nat × Nat} (hp : p.1 < 65521) (hq : q.1 < 65521) (h : p.1 ≠ q.1) : ∀ l, (adlF p l).1 ≠ (adlF q l).1 := by
  intro l
  induction l generalizing p q with
  | nil => exact h
  | cons c l ih =>
    refine ih (p := adlStep p c) (q := adlStep q c) (Nat.mod_lt _ (by omega)) (Nat.mod_lt _ (by omega)) ?_
    have hc := c.toNat_lt
    show (p.1 + c.toNat) % 65521 ≠ (q.1 + c.toNat) % 65521
    omega
/-- unlike second parts, with like first ones, stay unlike -/
theorem adlF_b {p q : Nat × Nat} (h1 : p.1 = q.1) (hp : p.2 < 65521) (hq : q.2 < 65521) (h : p.2 ≠ q.2) : ∀ l, (adlF p l).2 ≠ (adlF q l).2 := by
  intro l
  induction l generalizing p q with
  | nil => exact h
  | cons c l ih =>
    refine ih (p := adlStep p c) (q := adlStep q c) ?_ (Nat.mod_lt _ (by omega)) (Nat.mod_lt _ (by omega)) ?_
    · show (p.1 + c.toNat) % 65521 = (q.1 + c.toNat) % 65521
      rw [h1]
    · show (p.2 + (p.1 + c.toNat) % 65521) % 65521 ≠ (q.2 + (q.1 + c.toNat) % 65521) % 65521
      rw [h1]
      omega
/-- one byte that is another one -/
theorem sum_one (u v : List UInt8) (c d : UInt8) : (sumB (u ++ [c] ++ v) = sumB (u ++ [d] ++ v)) ↔ c = d := by
  constructor
  · intro h
    rw [sumB_eq] at h
    unfold adl at h
    rw [adlF_append, adlF_append, adlF_append (1, 0) _ v, adlF_append (1, 0) u [d]] at h
    have hl := adlF_lt (p := (1, 0)) (by decide) (by decide) u
    generalize adlF (1, 0) u = p at *
    by_cases hc : (adlStep p c).1 = (adlStep p d).1
    · have h1 : (p.1 + c.toNat) % 65521 = (p.1 + d.toNat) % 65521 := hc
      have := c.toNat_lt
      have := d.toNat_lt
      exact UInt8.toNat_inj.1 (by omega)
    · exact absurd (congrArg Prod.fst h) (adlF_a (p := adlStep p c) (q := adlStep p d) (Nat.mod_lt _ (by omega)) (Nat.mod_lt _ (by omega)) hc v)
  · intro h; rw [h]
/-- two neighbours turned about -/
theorem sum_two (u v : List UInt8) (c d : UInt8) : (sumB (u ++ [c, d] ++ v) = sumB (u ++ [d, c] ++ v)) ↔ c = d := by
  constructor
  · intro h
    rw [sumB_eq] at h
    unfold adl at h
    rw [adlF_append, adlF_append, adlF_append (1, 0) _ v, adlF_append (1, 0) u [d, c]] at h
    have hl := adlF_lt (p := (1, 0)) (by decide) (by decide) u
    generalize adlF (1, 0) u = p at *
    have hc := c.toNat_lt
    have hd := d.toNat_lt
    obtain ⟨p1, p2⟩ := p
    have e1 : adlF (p1, p2) [c, d] = ((((p1 + c.toNat) % 65521) + d.toNat) % 65521, ((p2 + (p1 + c.toNat) % 65521) % 65521 + (((p1 + c.toNat) % 65521) + d.toNat) % 65521) % 65521) := rfl
    have e2 : adlF (p1, p2) [d, c] = ((((p1 + d.toNat) % 65521) + c.toNat) % 65521, ((p2 + (p1 + d.toNat) % 65521) % 65521 + (((p1 + d.toNat) % 65521) + c.toNat) % 65521) % 65521) := rfl
    rw [e1, e2] at h
    have ha : ((p1 + c.toNat) % 65521 + d.toNat) % 65521 = ((p1 + d.toNat) % 65521 + c.toNat) % 65521 := by omega
    by_cases hb : ((p2 + (p1 + c.toNat) % 65521) % 65521 + (((p1 + c.toNat) % 65521) + d.toNat) % 65521) % 65521 = ((p2 + (p1 + d.toNat) % 65521) % 65521 + (((p1 + d.toNat) % 65521) + c.toNat) % 65521) % 65521
    · rw [ha] at hb
      have h1 : (p2 + (p1 + c.toNat) % 65521) % 65521 = (p2 + (p1 + d.toNat) % 65521) % 65521 := by omega
      have h2 : (p1 + c.toNat) % 65521 = (p1 + d.toNat) % 65521 := by omega
      exact UInt8.toNat_inj.1 (by omega)
    · exact absurd (congrArg Prod.snd h) (adlF_b ha (Nat.mod_lt _ (by omega)) (Nat.mod_lt _ (by omega)) hb v)
  · intro h; rw [h]

/-- four bytes of a number, the highest first -/
def fourB (n : Nat) : List UInt8 := [UInt8.ofNat (n / 16777216), UInt8.ofNat (n / 65536), UInt8.ofNat (n / 256), UInt8.ofNat n]
theorem fourB_len (n : Nat) : (fourB n).length = 4 := rfl
theorem pk_fourB {n : Nat} (h : n < 4294967296) : pk (fourB n) = n := by
  unfold fourB
  simp [pk]
  omega
theorem fourB_inj {a b : Nat} (ha : a < 4294967296) (hb : b < 4294967296) (h : fourB a = fourB b) : a = b := by
  have := congrArg pk h
  rwa [pk_fourB ha, pk_fourB hb] at this
def sealB (l : List UInt8) : List UInt8 := numB l.length ++ fourB (sumB l) ++ l
theorem sealB_len (l : List UInt8) : (sealB l).length = (numB l.length).length + 4 + l.length := by
  unfold sealB; rw [List.length_append, List.length_append, fourB_len]
/-- what is sealed at the front -/
def openB (l : List UInt8) : List UInt8 × Int × Int :=
  if (takeN l).2.2 = 12 then ([], 0, 12) else if (takeN l).2.2 ≠ 0 then ([], 0, 13) else
  if ((l.length : Int) - (takeN l).2.1 < 4 ∨ (l.length : Int) - (takeN l).2.1 - 4 < (takeN l).1) then ([], 0, 12) else
  if fourB (sumB ((l.drop ((takeN l).2.1.toNat + 4)).take (takeN l).1.toNat)) ≠ (l.drop (takeN l).2.1.toNat).take 4 then ([], 0, 13) else
  ((l.drop ((takeN l).2.1.toNat + 4)).take (takeN l).1.toNat, (takeN l).2.1 + 4 + (takeN l).1, 0)
/-- with a number at the front -/
theorem openB_num {l : List UInt8} {n k : Nat} (h : takeN l = ((n : Int), (k : Int), 0)) : openB l = if ((l.length : Int) - k < 4 ∨ (l.length : Int) - k - 4 < n) then ([], 0, 12) else
    if fourB (sumB ((l.drop (k + 4)).take n)) ≠ (l.drop k).take 4 then ([], 0, 13) else ((l.drop (k + 4)).take n, (k : Int) + 4 + n, 0) := by
  unfold openB
  rw [h]
  simp only [Int.toNat_natCast]
  rw [if_neg (by decide), if_neg (by simp)]
theorem openB_seal {l more : List UInt8} (h : l.length ≤ 9223372036854775807) : openB (sealB l ++ more) = (l, ((sealB l).length : Int), 0) := by
  have e : sealB l ++ more = numB l.length ++ (fourB (sumB l) ++ l ++ more) := by unfold sealB; simp
  have ht : takeN (sealB l ++ more) = ((l.length : Int), ((numB l.length).length : Int), 0) := by rw [e]; exact takeN_numB h _
  rw [openB_num ht]
  have hlen : (sealB l ++ more).length = (numB l.length).length + 4 + l.length + more.length := by rw [List.length_append, sealB_len]
  have d1 : (sealB l ++ more).drop (numB l.length).length = fourB (sumB l) ++ l ++ more := by rw [e, List.drop_left]
  have d2 : (sealB l ++ more).drop ((numB l.length).length + 4) = l ++ more := by
    rw [← List.drop_drop, d1]
    show (fourB (sumB l) ++ l ++ more).drop (fourB (sumB l)).length = _
    rw [List.append_assoc, List.drop_left]
  have d3 : (fourB (sumB l) ++ l ++ more).take 4 = fourB (sumB l) := by
    show (fourB (sumB l) ++ l ++ more).take (fourB (sumB l)).length = _
    rw [List.append_assoc, List.take_left]
  rw [if_neg (by omega), d1, d2, d3, List.take_left, if_neg (by simp), sealB_len]
  congr 1
theorem openB_cut {l : List UInt8} {c : Nat} (h : l.length ≤ 9223372036854775807) (hc : c < (sealB l).length) : openB ((sealB l).take c) = ([], 0, 12) := by
  rcases Nat.lt_or_ge c (numB l.length).length with h1 | h1
  · have e : (sealB l).take c = (numB l.length).take c := by unfold sealB; rw [List.append_assoc, List.take_append_of_le_length (by omega)]
    unfold openB
    rw [e, takeN_cut h h1]
    rfl
  · have e : (sealB l).take c = numB l.length ++ (fourB (sumB l) ++ l).take (c - (numB l.length).length) := by
      unfold sealB
      rw [List.append_assoc, List.take_append, List.take_of_length_le (by omega)]
    have ht : takeN ((sealB l).take c) = ((l.length : Int), ((numB l.length).length : Int), 0) := by rw [e]; exact takeN_numB h _
    rw [openB_num ht]
    have hl : ((sealB l).take c).length = c := by rw [List.length_take]; omega
    rw [sealB_len] at hc
    rw [hl, if_pos (by omega)]
end Go.Ev
