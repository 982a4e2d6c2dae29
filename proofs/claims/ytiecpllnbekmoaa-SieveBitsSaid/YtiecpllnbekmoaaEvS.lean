/-
  Strings as numbers: the laws of the packed form.
-/
import Derived.Test.YtiecpllnbekmoaaEvE
import Derived.Laws.BytesString
set_option linter.all false
namespace Go.Ev
open Go

/-- a list of bytes as one number -/
def pk : List UInt8 → Nat
  | [] => 0
  | c :: l => c.toNat * 256 ^ l.length + pk l

theorem foldl_pk : ∀ (l : List UInt8) (a : Nat), l.foldl (fun a c => 256 * a + c.toNat) a = a * 256 ^ l.length + pk l
  | [], a => by simp [pk]
  | c :: l, a => by
    rw [List.foldl_cons, foldl_pk l, List.length_cons, pk, Nat.pow_succ]
    rw [Nat.add_mul]
    have : 256 * a * 256 ^ l.length = a * (256 ^ l.length * 256) := by
      rw [Nat.mul_comm 256 a, Nat.mul_assoc, Nat.mul_comm 256]
    omega
theorem foldl_pk0 (l : List UInt8) : l.foldl (fun a c => 256 * a + c.toNat) 0 = pk l := by rw [foldl_pk]; simp

theorem pk_lt : ∀ (l : List UInt8), pk l < 256 ^ l.length
  | [] => by simp [pk]
  | c :: l => by
    have h1 := pk_lt l
    have h2 : c.toNat ≤ 255 := by have := c.toNat_lt; omega
    have h3 : c.toNat * 256 ^ l.length ≤ 255 * 256 ^ l.length := Nat.mul_le_mul_right _ h2
    rw [List.length_cons, pk, Nat.pow_succ]
    omega
theorem pk_append : ∀ (a b : List UInt8), pk (a ++ b) = pk a * 256 ^ b.length + pk b
  | [], b => by simp [pk]
  | c :: a, b => by
    rw [List.cons_append, pk, pk, pk_append a b, List.length_append, Nat.pow_add, Nat.add_mul, Nat.mul_assoc]
    omega
theorem pk_inj : ∀ (a b : List UInt8), a.length = b.length → pk a = pk b → a = b
  | [], [], _, _ => rfl
  | c :: a, d :: b, hl, h => by
    simp only [List.length_cons, Nat.add_right_cancel_iff] at hl
    have ha := pk_lt a
    have hb := pk_lt b
    rw [pk, pk, hl] at h
    rw [hl] at ha
    have hc : c.toNat = d.toNat := by
      rcases Nat.lt_trichotomy c.toNat d.toNat with h' | h' | h'
      · have := Nat.mul_le_mul_right (256 ^ b.length) h'
        rw [Nat.succ_mul] at this; omega
      · exact h'
      · have := Nat.mul_le_mul_right (256 ^ b.length) h'
        rw [Nat.succ_mul] at this; omega
    rw [hc] at h
    rw [UInt8.toNat_inj.1 hc, pk_inj a b hl (by omega)]
  | [], _ :: _, hl, _ => by simp at hl
  | _ :: _, [], hl, _ => by simp at hl
theorem pk_eq (a b : List UInt8) : (a == b) = (Nat.beq a.length b.length && Nat.beq (pk a) (pk b)) := by
  have e : ∀ {x y : Bool}, (x = true ↔ y = true) → x = y := by intro x y h; cases x <;> cases y <;> simp_all
  apply e
  simp only [beq_iff_eq, Bool.and_eq_true, Nat.beq_eq]
  constructor
  · rintro rfl; exact ⟨rfl, rfl⟩
  · rintro ⟨h1, h2⟩; exact pk_inj a b h1 h2

theorem pk_split (a b : List UInt8) : pk (a ++ b) / 256 ^ b.length = pk a ∧ pk (a ++ b) % 256 ^ b.length = pk b := by
  have hb := pk_lt b
  have hp : 0 < 256 ^ b.length := Nat.pow_pos (by omega)
  rw [pk_append]
  constructor
  · rw [Nat.add_comm, Nat.add_mul_div_right _ _ hp, Nat.div_eq_of_lt hb, Nat.zero_add]
  · rw [Nat.add_comm, Nat.add_mul_mod_self_right, Nat.mod_eq_of_lt hb]
/-- the part from lo to hi -/
theorem pk_part (l : List UInt8) {lo hi : Nat} (h1 : lo ≤ hi) (h2 : hi ≤ l.length) : pk ((l.take hi).drop lo) = (pk l / 256 ^ (l.length - hi)) % 256 ^ (hi - lo) := by
  have e1 : l = l.take hi ++ l.drop hi := (List.take_append_drop _ _).symm
  have e2 : l.take hi = (l.take hi).take lo ++ (l.take hi).drop lo := (List.take_append_drop _ _).symm
  have s1 := (pk_split (l.take hi) (l.drop hi)).1
  rw [← e1, List.length_drop] at s1
  have s2 := (pk_split ((l.take hi).take lo) ((l.take hi).drop lo)).2
  rw [← e2, List.length_drop, List.length_take, Nat.min_eq_left h2] at s2
  rw [s1, s2]
theorem pk_get (l : List UInt8) {i : Nat} (h : i < l.length) : l[i].toNat = (pk l / 256 ^ (l.length - 1 - i)) % 256 := by
  have := pk_part l (lo := i) (hi := i + 1) (by omega) (by omega)
  rw [show l.length - (i + 1) = l.length - 1 - i by omega, show i + 1 - i = 1 by omega, Nat.pow_one] at this
  rw [← this]
  have e : (l.take (i + 1)).drop i = [l[i]] := by
    rw [List.take_succ_eq_append_getElem h, List.drop_append_of_le_length (by simp; omega)]
    simp
  rw [e]; simp [pk]

theorem bytesLess_pk : ∀ (a b : List UInt8), Op.bytesLess a b = ltS a.length (pk a) b.length (pk b)
  | a, [] => by
    have : Op.bytesLess a [] = false := by cases a <;> rfl
    rw [this]
    unfold ltS
    cases a with
    | nil => rfl
    | cons c a =>
      have : Nat.ble (c :: a).length ([] : List UInt8).length = false := by simp [Nat.ble]
      rw [this]
      simp [pk]
      rfl
  | [], d :: b => by
    have : Op.bytesLess [] (d :: b) = true := rfl
    rw [this]
    unfold ltS
    have h1 : Nat.ble ([] : List UInt8).length (d :: b).length = true := by simp [Nat.ble]
    rw [h1]
    have e0 : Nat.mul (pk []) (Nat.pow 256 (Nat.sub (d :: b).length ([] : List UInt8).length)) = 0 := by simp [pk]
    simp only [e0]
    by_cases h : pk (d :: b) = 0
    · rw [h]; rfl
    · have : Nat.ble (Nat.succ 0) (pk (d :: b)) = true := Nat.ble_eq_true_of_le (by omega)
      rw [this]; rfl
  | c :: a, d :: b => by
    have ih := bytesLess_pk a b
    have e : Op.bytesLess (c :: a) (d :: b) = (decide (c < d) || (c == d && Op.bytesLess a b)) := by
      rw [Op.bytesLess]
    have ha := pk_lt a
    have hb := pk_lt b
    have bb : ∀ {x y : Bool}, (x = true ↔ y = true) → x = y := by intro x y h; cases x <;> cases y <;> simp_all
    rw [e, ih]
    apply bb
    simp only [Bool.or_eq_true, Bool.and_eq_true, decide_eq_true_eq, beq_iff_eq]
    have hlt : c < d ↔ c.toNat < d.toNat := UInt8.lt_iff_toNat_lt
    have heq : c = d ↔ c.toNat = d.toNat := UInt8.toNat_inj.symm
    rw [hlt, heq]
    unfold ltS
    simp only [List.length_cons]
    by_cases hl : a.length ≤ b.length
    · have h1 : Nat.ble (a.length + 1) (b.length + 1) = true := Nat.ble_eq_true_of_le (by omega)
      have h1' : Nat.ble a.length b.length = true := Nat.ble_eq_true_of_le hl
      rw [h1, h1']
      simp only
      have hsub : Nat.sub (b.length + 1) (a.length + 1) = Nat.sub b.length a.length := by show b.length + 1 - (a.length + 1) = b.length - a.length; omega
      rw [hsub]
      generalize hm : Nat.mul (pk a) (Nat.pow 256 (Nat.sub b.length a.length)) = p
      have hp : p < 256 ^ b.length := by
        have h2 : pk a * 256 ^ (b.length - a.length) < 256 ^ a.length * 256 ^ (b.length - a.length) := Nat.mul_lt_mul_of_pos_right ha (Nat.pow_pos (by omega))
        rw [← Nat.pow_add, Nat.add_sub_of_le hl] at h2
        rw [← hm]; exact h2
      have hm2 : Nat.mul (pk (c :: a)) (Nat.pow 256 (Nat.sub b.length a.length)) = c.toNat * 256 ^ b.length + p := by
        show pk (c :: a) * 256 ^ (b.length - a.length) = _
        rw [pk, Nat.add_mul, Nat.mul_assoc, ← Nat.pow_add, Nat.add_sub_of_le hl]
        rw [← hm]; rfl
      rw [hm2, show pk (d :: b) = d.toNat * 256 ^ b.length + pk b from rfl]
      generalize 256 ^ b.length = Q at *
      simp only [Bool.or_eq_true, Bool.and_eq_true, Nat.ble_eq, Nat.beq_eq]
      rcases Nat.lt_trichotomy c.toNat d.toNat with h | h | h
      · have := Nat.mul_le_mul_right Q h
        rw [Nat.succ_mul] at this
        simp only [h, true_or, true_iff]
        left; show c.toNat * Q + p + 1 ≤ _; omega
      · rw [h]
        constructor
        · rintro (h' | ⟨_, h' | h'⟩)
          · omega
          · left; show d.toNat * Q + p + 1 ≤ _; have : p + 1 ≤ pk b := h'; omega
          · right; exact ⟨by rw [h'.1], by have : a.length + 1 ≤ b.length := h'.2; show a.length + 1 + 1 ≤ b.length + 1; omega⟩
        · rintro (h' | h')
          · right; exact ⟨rfl, .inl (by have : d.toNat * Q + p + 1 ≤ d.toNat * Q + pk b := h'; show p + 1 ≤ pk b; omega)⟩
          · right; exact ⟨rfl, .inr ⟨by omega, by have : a.length + 1 + 1 ≤ b.length + 1 := h'.2; show a.length + 1 ≤ b.length; omega⟩⟩
      · have := Nat.mul_le_mul_right Q h
        rw [Nat.succ_mul] at this
        constructor
        · rintro (h' | ⟨h', _⟩)
          · omega
          · omega
        · rintro (h' | h')
          · have : c.toNat * Q + p + 1 ≤ d.toNat * Q + pk b := h'; omega
          · omega
    · have h1 : Nat.ble (a.length + 1) (b.length + 1) = false := by
        cases hx : Nat.ble (a.length + 1) (b.length + 1) with
        | false => rfl
        | true => have := Nat.le_of_ble_eq_true hx; omega
      have h1' : Nat.ble a.length b.length = false := by
        cases hx : Nat.ble a.length b.length with
        | false => rfl
        | true => have := Nat.le_of_ble_eq_true hx; omega
      rw [h1, h1']
      simp only
      have hl' : b.length ≤ a.length := by omega
      have hsub : Nat.sub (a.length + 1) (b.length + 1) = Nat.sub a.length b.length := by show a.length + 1 - (b.length + 1) = a.length - b.length; omega
      rw [hsub]
      generalize hm : Nat.mul (pk b) (Nat.pow 256 (Nat.sub a.length b.length)) = p
      have hp : p < 256 ^ a.length := by
        have h2 : pk b * 256 ^ (a.length - b.length) < 256 ^ b.length * 256 ^ (a.length - b.length) := Nat.mul_lt_mul_of_pos_right hb (Nat.pow_pos (by omega))
        rw [← Nat.pow_add, Nat.add_sub_of_le hl'] at h2
        rw [← hm]; exact h2
      have hm2 : Nat.mul (pk (d :: b)) (Nat.pow 256 (Nat.sub a.length b.length)) = d.toNat * 256 ^ a.length + p := by
        show pk (d :: b) * 256 ^ (a.length - b.length) = _
        rw [pk, Nat.add_mul, Nat.mul_assoc, ← Nat.pow_add, Nat.add_sub_of_le hl']
        rw [← hm]; rfl
      rw [hm2, show pk (c :: a) = c.toNat * 256 ^ a.length + pk a from rfl]
      generalize 256 ^ a.length = Q at *
      simp only [Nat.ble_eq]
      rcases Nat.lt_trichotomy c.toNat d.toNat with h | h | h
      · have := Nat.mul_le_mul_right Q h
        rw [Nat.succ_mul] at this
        simp only [h, true_or, true_iff]
        show c.toNat * Q + pk a + 1 ≤ _; omega
      · rw [h]
        constructor
        · rintro (h' | ⟨_, h'⟩)
          · omega
          · have : pk a + 1 ≤ p := h'; show d.toNat * Q + pk a + 1 ≤ _; omega
        · intro h'
          have : d.toNat * Q + pk a + 1 ≤ d.toNat * Q + p := h'
          right; exact ⟨rfl, by show pk a + 1 ≤ p; omega⟩
      · have := Nat.mul_le_mul_right Q h
        rw [Nat.succ_mul] at this
        constructor
        · rintro (h' | ⟨h', _⟩)
          · omega
          · omega
        · intro h'
          have : c.toNat * Q + pk a + 1 ≤ d.toNat * Q + p := h'
          omega

/-- the bytes of a packed string -/
theorem unpk_ok : ∀ (l : List UInt8) (r : Nat), unpk l.length (pk l) = l.map fun c => V.i .u8 (Int.ofNat c.toNat)
  | [], _ => rfl
  | c :: l, r => by
    have h := pk_split [c] l
    have e : unpk (l.length + 1) (pk (c :: l)) = V.i .u8 (Int.ofNat (Nat.mod (Nat.div (pk (c :: l)) (Nat.pow 256 l.length)) 256)) :: unpk l.length (Nat.mod (pk (c :: l)) (Nat.pow 256 l.length)) := rfl
    rw [List.length_cons, e]
    have h1 : Nat.div (pk (c :: l)) (Nat.pow 256 l.length) = c.toNat := by
      have := h.1
      simp [pk] at this
      exact this
    have h2 : Nat.mod (pk (c :: l)) (Nat.pow 256 l.length) = pk l := h.2
    rw [h1, h2, unpk_ok l r]
    have : Nat.mod c.toNat 256 = c.toNat := Nat.mod_eq_of_lt c.toNat_lt
    rw [this]; rfl

end Go.Ev
