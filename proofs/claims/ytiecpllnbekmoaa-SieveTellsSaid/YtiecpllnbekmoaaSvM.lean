/- Sieves: the mathematics alone. No condition. -/
import Derived.Test.YtiecpllnbekmoaaEvX
set_option linter.all false
namespace Go.Ev
open Go

def hashStep (p : Nat × Nat) (c : UInt8) : Nat × Nat := ((p.1 * 33 + c.toNat) % 4294967296, (p.2 * 31 % 4294967296) ^^^ c.toNat)
def hashU (l : List UInt8) : Nat × Nat := l.foldl hashStep (5381, 52711)
def hashB (l : List UInt8) : Nat × Nat := ((hashU l).1, (hashU l).2 ||| 1)
theorem hashU_lt (l : List UInt8) : (hashU l).1 < 4294967296 ∧ (hashU l).2 < 4294967296 := by
  unfold hashU
  have key : ∀ (l : List UInt8) (p : Nat × Nat), p.1 < 4294967296 ∧ p.2 < 4294967296 → (l.foldl hashStep p).1 < 4294967296 ∧ (l.foldl hashStep p).2 < 4294967296 := by
    intro l
    induction l with
    | nil => intro p h; exact h
    | cons c l ih =>
      intro p h
      refine ih _ ⟨Nat.mod_lt _ (by omega), ?_⟩
      have hc := c.toNat_lt
      have := Nat.xor_lt_two_pow (n := 32) (show p.2 * 31 % 4294967296 < 2 ^ 32 from Nat.mod_lt _ (by omega)) (show c.toNat < 2 ^ 32 by omega)
      exact this
  exact key l _ ⟨by decide, by decide⟩
theorem hashB_lt (l : List UInt8) : (hashB l).1 < 4294967296 ∧ (hashB l).2 < 4294967296 := by
  have ⟨h1, h2⟩ := hashU_lt l
  refine ⟨h1, ?_⟩
  have := Nat.or_lt_two_pow (n := 32) h2 (show 1 < 2 ^ 32 by omega)
  exact this
theorem hashU_take {l : List UInt8} {i : Nat} (hi : i < l.length) : hashU (l.take (i + 1)) = hashStep (hashU (l.take i)) (l.getD i 0) := by
  unfold hashU
  rw [List.take_succ_eq_append_getElem hi, List.foldl_append]
  simp [List.getD, hi]
/-- the q-th bit's place in n bytes -/
def spot (key : List UInt8) (n q : Nat) : Nat := ((hashB key).1 + q * (hashB key).2) % (8 * n)
theorem spot_lt {key : List UInt8} {n q : Nat} (hn : 0 < n) : spot key n q < 8 * n := Nat.mod_lt _ (by omega)
def bitB (s : List UInt8) (k : Nat) : Bool := (s.getD (k / 8) 0).toNat.testBit (k % 8)
theorem bits_ext {s t : List UInt8} (hl : s.length = t.length) (h : ∀ k, k < 8 * s.length → bitB s k = bitB t k) : s = t := by
  refine List.ext_getElem hl fun i h1 h2 => ?_
  refine UInt8.toNat_inj.1 (Nat.eq_of_testBit_eq fun j => ?_)
  by_cases hj : j < 8
  · have := h (8 * i + j) (by omega)
    unfold bitB at this
    rw [show (8 * i + j) / 8 = i by omega, show (8 * i + j) % 8 = j by omega] at this
    simpa [List.getD, h1, h2] using this
  · have a1 := s[i].toNat_lt
    have a2 := t[i].toNat_lt
    have e : 2 ^ 8 ≤ 2 ^ j := Nat.pow_le_pow_right (by omega) (by omega)
    rw [Nat.testBit_lt_two_pow (by omega), Nat.testBit_lt_two_pow (by omega)]
/-- one bit is put -/
def putBit (s : List UInt8) (k : Nat) : List UInt8 := s.set (k / 8) (UInt8.ofNat ((s.getD (k / 8) 0).toNat ||| 2 ^ (k % 8)))
theorem putBit_len (s : List UInt8) (k : Nat) : (putBit s k).length = s.length := List.length_set
theorem byte_or {x i : Nat} (hx : x < 256) (hi : i < 8) : x ||| 2 ^ i < 256 := by
  have h1 : 2 ^ i < 2 ^ 8 := Nat.pow_lt_pow_right (by omega) hi
  exact Nat.or_lt_two_pow (n := 8) hx h1
theorem bit_put {s : List UInt8} {k j : Nat} (hk : k < 8 * s.length) : bitB (putBit s k) j = (bitB s j || decide (j = k)) := by
  unfold bitB putBit
  have hlt := (s.getD (k / 8) 0).toNat_lt
  by_cases e : j / 8 = k / 8
  · rw [e]
    have hi : k / 8 < s.length := by omega
    have e1 : (s.set (k / 8) (UInt8.ofNat ((s.getD (k / 8) 0).toNat ||| 2 ^ (k % 8)))).getD (k / 8) 0 = UInt8.ofNat ((s.getD (k / 8) 0).toNat ||| 2 ^ (k % 8)) := by simp [List.getD, hi]
    rw [e1, UInt8.toNat_ofNat', Nat.mod_eq_of_lt (byte_or (by omega) (by omega)), Nat.testBit_or, Nat.testBit_two_pow]
    congr 1
    by_cases e2 : j = k
    · subst e2; simp
    · rw [decide_eq_false e2, decide_eq_false (by omega)]
  · have e1 : (s.set (k / 8) (UInt8.ofNat ((s.getD (k / 8) 0).toNat ||| 2 ^ (k % 8)))).getD (j / 8) 0 = s.getD (j / 8) 0 := by
      simp only [List.getD_eq_getElem?_getD]
      rw [List.getElem?_set_ne (fun h => e h.symm)]
    rw [e1, decide_eq_false (by intro h; subst h; exact e rfl), Bool.or_false]
theorem bit_zero (n k : Nat) : bitB (List.replicate n 0) k = false := by
  unfold bitB
  have : (List.replicate n (0 : UInt8)).getD (k / 8) 0 = 0 := by
    simp only [List.getD_eq_getElem?_getD, List.getElem?_replicate]
    split <;> rfl
  rw [this]; simp
/-- a key is put -/
def putKey (s key : List UInt8) (q : Nat) : List UInt8 := (List.range q).foldl (fun s q => putBit s (spot key s.length q)) s
theorem putKey_len (s key : List UInt8) (q : Nat) : (putKey s key q).length = s.length := by
  unfold putKey
  induction q with
  | zero => rfl
  | succ q ih => rw [List.range_succ, List.foldl_append]; simp only [List.foldl_cons, List.foldl_nil]; rw [putBit_len, ih]
theorem putKey_succ (s key : List UInt8) (q : Nat) : putKey s key (q + 1) = putBit (putKey s key q) (spot key s.length q) := by
  have := putKey_len s key q
  unfold putKey at *
  rw [List.range_succ, List.foldl_append]; simp only [List.foldl_cons, List.foldl_nil]; rw [this]
theorem bit_putKey {s key : List UInt8} (hs : 0 < s.length) {j : Nat} : ∀ q, bitB (putKey s key q) j = true ↔ bitB s j = true ∨ ∃ p, p < q ∧ spot key s.length p = j := by
  intro q
  induction q with
  | zero => constructor
            · exact fun h => .inl h
            · rintro (h | ⟨p, hp, _⟩)
              · exact h
              · omega
  | succ q ih =>
    rw [putKey_succ, bit_put (by rw [putKey_len]; exact spot_lt hs), Bool.or_eq_true, ih, decide_eq_true_eq]
    constructor
    · rintro ((h | ⟨p, hp, e⟩) | e)
      · exact .inl h
      · exact .inr ⟨p, by omega, e⟩
      · exact .inr ⟨q, by omega, e.symm⟩
    · rintro (h | ⟨p, hp, e⟩)
      · exact .inl (.inl h)
      · by_cases hq : p = q
        · subst hq; exact .inr e.symm
        · exact .inl (.inr ⟨p, by omega, e⟩)
def putKeys (s : List UInt8) (l : List (List UInt8)) : List UInt8 := l.foldl (fun s k => putKey s k 4) s
theorem putKeys_len (l : List (List UInt8)) : ∀ s, (putKeys s l).length = s.length := by
  unfold putKeys
  induction l with
  | nil => intro s; rfl
  | cons k l ih => intro s; rw [List.foldl_cons, ih, putKey_len]
theorem putKeys_snoc (s : List UInt8) (l : List (List UInt8)) (k : List UInt8) : putKeys s (l ++ [k]) = putKey (putKeys s l) k 4 := by unfold putKeys; rw [List.foldl_append]; rfl
theorem bit_putKeys {l : List (List UInt8)} {j : Nat} : ∀ {s : List UInt8}, 0 < s.length → (bitB (putKeys s l) j = true ↔ bitB s j = true ∨ ∃ k ∈ l, ∃ p, p < 4 ∧ spot k s.length p = j) := by
  induction l with
  | nil => intro s hs; constructor
           · exact fun h => .inl h
           · rintro (h | ⟨k, hk, _⟩)
             · exact h
             · cases hk
  | cons k l ih =>
    intro s hs
    have e : putKeys s (k :: l) = putKeys (putKey s k 4) l := rfl
    have hl := putKey_len s k 4
    rw [e, ih (by omega), bit_putKey hs, hl]
    constructor
    · rintro ((h | ⟨p, hp, e2⟩) | ⟨k', hk', p, hp, e2⟩)
      · exact .inl h
      · exact .inr ⟨k, by simp, p, hp, e2⟩
      · exact .inr ⟨k', by simp [hk'], p, hp, e2⟩
    · rintro (h | ⟨k', hk', p, hp, e2⟩)
      · exact .inl (.inl h)
      · rcases List.mem_cons.1 hk' with rfl | hk'
        · exact .inl (.inr ⟨p, hp, e2⟩)
        · exact .inr ⟨k', hk', p, hp, e2⟩
/-- the sieve of keys -/
def sieveB (l : List (List UInt8)) : List UInt8 := putKeys (List.replicate (max 8 l.length) 0) l
theorem sieveB_len (l : List (List UInt8)) : (sieveB l).length = max 8 l.length := by unfold sieveB; rw [putKeys_len, List.length_replicate]
theorem bit_sieve {l : List (List UInt8)} {j : Nat} : bitB (sieveB l) j = true ↔ ∃ k ∈ l, ∃ p, p < 4 ∧ spot k (max 8 l.length) p = j := by
  unfold sieveB
  rw [bit_putKeys (by rw [List.length_replicate]; omega), bit_zero, List.length_replicate]
  simp
/-- whatever the order -/
theorem sieve_same {l r : List (List UInt8)} (hl : l.length = r.length) (h : ∀ k, k ∈ l ↔ k ∈ r) : sieveB l = sieveB r := by
  refine bits_ext (by rw [sieveB_len, sieveB_len, hl]) fun j _ => ?_
  rw [Bool.eq_iff_iff, bit_sieve, bit_sieve, hl]
  constructor
  · rintro ⟨k, hk, p⟩; exact ⟨k, (h k).1 hk, p⟩
  · rintro ⟨k, hk, p⟩; exact ⟨k, (h k).2 hk, p⟩
def mayB (s key : List UInt8) : Bool := if s.length = 0 then true else (List.range 4).all fun q => bitB s (spot key s.length q)
theorem mayB_put {l : List (List UInt8)} {k : List UInt8} (h : k ∈ l) : mayB (sieveB l) k = true := by
  unfold mayB
  split
  · rfl
  · rw [List.all_eq_true]
    intro q hq
    rw [List.mem_range] at hq
    rw [bit_sieve, sieveB_len]
    exact ⟨k, h, q, hq, rfl⟩
/-! how many bits -/
def cntB (s : List UInt8) (n : Nat) : Nat := (List.range n).countP (bitB s)
theorem cnt_zero (s : List UInt8) : cntB s 0 = 0 := rfl
theorem cnt_succ (s : List UInt8) (n : Nat) : cntB s (n + 1) = cntB s n + if bitB s n then 1 else 0 := by
  unfold cntB
  rw [List.range_succ, List.countP_append]
  simp [List.countP_cons]
theorem cnt_le (s : List UInt8) : ∀ n, cntB s n ≤ n
  | 0 => Nat.le_refl _
  | n + 1 => by rw [cnt_succ]; have := cnt_le s n; split <;> omega
theorem cnt_put {s : List UInt8} {k : Nat} (hk : k < 8 * s.length) : ∀ n, cntB (putBit s k) n ≤ cntB s n + if k < n then 1 else 0
  | 0 => by simp [cntB]
  | n + 1 => by
    have ih := cnt_put hk n
    rw [cnt_succ, cnt_succ, bit_put hk]
    by_cases e : n = k
    · subst e
      rw [if_neg (Nat.lt_irrefl _)] at ih
      rw [if_pos (Nat.lt_succ_self _)]
      cases bitB s n <;> simp <;> omega
    · rw [decide_eq_false e, Bool.or_false]
      by_cases h : k < n
      · rw [if_pos h] at ih; rw [if_pos (show k < n + 1 by omega)]; cases bitB s n <;> simp <;> omega
      · rw [if_neg h] at ih; rw [if_neg (show ¬ k < n + 1 by omega)]; cases bitB s n <;> simp <;> omega
theorem cnt_put1 {s : List UInt8} {k : Nat} (hk : k < 8 * s.length) (n : Nat) : cntB (putBit s k) n ≤ cntB s n + 1 := by
  have := cnt_put hk n
  split at this <;> omega
theorem cnt_putKey {s key : List UInt8} (hs : 0 < s.length) (n : Nat) : ∀ q, cntB (putKey s key q) n ≤ cntB s n + q
  | 0 => Nat.le_refl _
  | q + 1 => by
    rw [putKey_succ]
    have h1 := cnt_put1 (s := putKey s key q) (k := spot key s.length q) (by rw [putKey_len]; exact spot_lt hs) n
    have := cnt_putKey (key := key) hs n q
    omega
theorem cnt_putKeys (n : Nat) : ∀ (l : List (List UInt8)) (s : List UInt8), 0 < s.length → cntB (putKeys s l) n ≤ cntB s n + 4 * l.length
  | [], s, _ => Nat.le_refl _
  | k :: l, s, hs => by
    have e : putKeys s (k :: l) = putKeys (putKey s k 4) l := rfl
    have h1 := cnt_putKeys n l (putKey s k 4) (by rw [putKey_len]; exact hs)
    have h2 := cnt_putKey (key := k) hs n 4
    rw [e, List.length_cons]; omega
theorem cnt_rep (n m : Nat) : cntB (List.replicate n 0) m = 0 := by
  unfold cntB
  rw [List.countP_eq_zero]
  intro a _
  rw [bit_zero]; decide
theorem cnt_sieve (l : List (List UInt8)) (n : Nat) : cntB (sieveB l) n ≤ 4 * l.length := by
  have := cnt_putKeys n l (List.replicate (max 8 l.length) 0) (by rw [List.length_replicate]; omega)
  rw [cnt_rep] at this
  unfold sieveB; omega
theorem cnt_pos {s : List UInt8} {n k : Nat} (hk : k < n) (h : bitB s k = true) : 0 < cntB s n := by
  unfold cntB
  rw [List.countP_pos_iff]
  exact ⟨k, List.mem_range.2 hk, h⟩
theorem cnt_sieve_pos {l : List (List UInt8)} (h : 0 < l.length) : 0 < cntB (sieveB l) (8 * (sieveB l).length) := by
  match l, h with
  | k :: l, _ =>
    have hn : 0 < max 8 (k :: l).length := by omega
    refine cnt_pos (k := spot k (max 8 (k :: l).length) 0) (by rw [sieveB_len]; exact spot_lt hn) ?_
    rw [bit_sieve]
    exact ⟨k, by simp, 0, by omega, rfl⟩
/-! one bit is cleared -/
def clrBit (s : List UInt8) (k : Nat) : List UInt8 := s.set (k / 8) (UInt8.ofNat ((s.getD (k / 8) 0).toNat ^^^ ((s.getD (k / 8) 0).toNat &&& 2 ^ (k % 8))))
theorem clr_lt {x i : Nat} (hx : x < 256) : x ^^^ (x &&& 2 ^ i) < 256 := by
  have h1 : x &&& 2 ^ i < 2 ^ 8 := by
    have := Nat.and_le_left (n := x) (m := 2 ^ i)
    omega
  exact Nat.xor_lt_two_pow (n := 8) hx h1
theorem bit_clr {s : List UInt8} {k j : Nat} (hk : k < 8 * s.length) : bitB (clrBit s k) j = (bitB s j && !decide (j = k)) := by
  unfold bitB clrBit
  have hlt := (s.getD (k / 8) 0).toNat_lt
  by_cases e : j / 8 = k / 8
  · rw [e]
    have hi : k / 8 < s.length := by omega
    have e1 : ∀ y : UInt8, (s.set (k / 8) y).getD (k / 8) 0 = y := fun y => by simp [List.getD, hi]
    rw [e1, UInt8.toNat_ofNat', Nat.mod_eq_of_lt (clr_lt (by omega)), Nat.testBit_xor, Nat.testBit_and, Nat.testBit_two_pow]
    by_cases e2 : j = k
    · subst e2; simp
    · rw [decide_eq_false e2, decide_eq_false (by omega)]; simp
  · have e1 : ∀ y : UInt8, (s.set (k / 8) y).getD (j / 8) 0 = s.getD (j / 8) 0 := fun y => by
      simp only [List.getD_eq_getElem?_getD]
      rw [List.getElem?_set_ne (fun h => e h.symm)]
    rw [e1, decide_eq_false (by intro h; subst h; exact e rfl)]; simp
theorem clr_len (s : List UInt8) (k : Nat) : (clrBit s k).length = s.length := List.length_set
theorem may_clr {key : List UInt8} {k : Nat} (hk : k < 64) : mayB (clrBit (sieveB [key]) k) key = !bitB (sieveB [key]) k := by
  have hl : (sieveB [key]).length = 8 := by rw [sieveB_len]; rfl
  have hm : ∀ q, q < 4 → bitB (sieveB [key]) (spot key 8 q) = true := fun q hq => bit_sieve.2 ⟨key, by simp, q, hq, rfl⟩
  unfold mayB
  rw [clr_len, hl, if_neg (by omega)]
  cases hb : bitB (sieveB [key]) k with
  | true =>
    obtain ⟨k', hk', q, hq, e⟩ := bit_sieve.1 hb
    rw [List.mem_singleton.1 hk'] at e
    have e : spot key 8 q = k := e
    refine List.all_eq_false.2 ⟨q, by rw [List.mem_range]; omega, ?_⟩
    rw [bit_clr (by omega), e]; simp
  | false =>
    rw [List.all_eq_true.2]; · rfl
    intro q hq
    rw [List.mem_range] at hq
    rw [bit_clr (by omega), hm q hq, decide_eq_false]; · rfl
    intro e
    rw [← e, hm q hq] at hb; cases hb
theorem may_all (key : List UInt8) : mayB (List.replicate 8 255) key = true := by
  unfold mayB
  rw [List.length_replicate, if_neg (by omega), List.all_eq_true]
  intro q _
  have hlt : spot key 8 q < 64 := spot_lt (n := 8) (by omega)
  unfold bitB
  have : (List.replicate 8 (255 : UInt8)).getD (spot key 8 q / 8) 0 = 255 := by
    simp only [List.getD_eq_getElem?_getD, List.getElem?_replicate]
    rw [if_pos (by omega)]; rfl
  rw [this]
  have h8 : spot key 8 q % 8 < 8 := Nat.mod_lt _ (by omega)
  generalize spot key 8 q % 8 = i at *
  match i, h8 with
  | 0, _ => rfl
  | 1, _ => rfl
  | 2, _ => rfl
  | 3, _ => rfl
  | 4, _ => rfl
  | 5, _ => rfl
  | 6, _ => rfl
  | 7, _ => rfl
theorem may_none (key : List UInt8) : mayB (List.replicate 8 0) key = false := by
  unfold mayB
  rw [List.length_replicate, if_neg (by omega)]
  exact List.all_eq_false.2 ⟨0, by simp, by rw [bit_zero]; decide⟩
theorem bit_rd (s : List UInt8) (k : Nat) : bitB s k = decide ((((s.getD (k / 8) 0).toNat / 2 ^ (k % 8)) &&& 1 : Nat) ≠ 0) := by
  unfold bitB
  rw [Nat.testBit, Nat.shiftRight_eq_div_pow, Nat.and_comm]
  generalize (s.getD (k / 8) 0).toNat / 2 ^ (k % 8) &&& 1 = z
  by_cases h : z = 0 <;> simp [h]
theorem cnt_step {s : List UInt8} {i j : Nat} (hj : j < 8) : cntB s (8 * i + (j + 1)) = cntB s (8 * i + j) + (((s.getD i 0).toNat / 2 ^ j) &&& 1) := by
  have h := bit_rd s (8 * i + j)
  rw [show (8 * i + j) / 8 = i by omega, show (8 * i + j) % 8 = j by omega] at h
  rw [show 8 * i + (j + 1) = 8 * i + j + 1 by omega, cnt_succ, h]
  have h1 : (s.getD i 0).toNat / 2 ^ j &&& 1 = 0 ∨ (s.getD i 0).toNat / 2 ^ j &&& 1 = 1 := by rw [Nat.and_one_is_mod]; omega
  rcases h1 with e | e <;> rw [e] <;> simp
end Go.Ev
