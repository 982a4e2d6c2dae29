/- What Order, Below and Covers give where Check is zero: mathematics alone. No condition. -/
import Derived.Test.YtpnflehemjbemaaLat11
import Derived.Test.YtpnflehemjbemaaLatM
set_option linter.all false
namespace Go.Proofs.Ytpnflehemjbemaa
open Go Go.Ev

theorem count_lt {l : List Nat} {p q : Nat → Bool} {a : Nat} (h : ∀ x ∈ l, p x = true → q x = true) (ha : a ∈ l) (hq : q a = true) (hp : p a = false) : l.countP p < l.countP q := by
  induction l with
  | nil => cases ha
  | cons x l ih =>
    rw [List.countP_cons, List.countP_cons]
    have h' : ∀ y ∈ l, p y = true → q y = true := fun y hy => h y (List.mem_cons_of_mem _ hy)
    have mono : l.countP p ≤ l.countP q := List.countP_mono_left h'
    rcases List.mem_cons.1 ha with e | ha
    · subst e
      rw [hq, hp]; simp; omega
    · have := ih h' ha
      cases hx : p x
      · simp; omega
      · rw [h x (List.mem_cons_self ..) hx]; simp; omega
/-- how much lies below a -/
def cntB (M : Mt) (a : Nat) : Nat := (List.range M.length).countP fun b => at2 M a b
theorem cnt_lt {M : Mt} (hc : chkN M = 0) {a b : Nat} (ha : a < M.length) (hb : b < M.length) (hab : at2 M a b = true) (hne : b ≠ a) : cntB M b < cntB M a := by
  obtain ⟨h1, h2⟩ := ord_row hc ha hb hab hne
  exact count_lt (a := a) (fun x hx hbx => h2 x (by simpa using hx) hbx) (by simpa using ha) (ord_refl hc ha) h1
theorem freeB_all {M : Mt} {P : List Bool} {a n : Nat} (h : freeB M P a n = true) {b : Nat} (hb : b < n) (hab : at2 M a b = true) (hne : b ≠ a) : P.getD b false = true := by
  unfold freeB at h
  rw [List.all_eq_true] at h
  have := h b (by simpa using hb)
  rw [hab] at this
  have hne' : (b == a) = false := by simpa using hne
  rw [hne'] at this
  simpa using this
theorem freeB_not {M : Mt} {P : List Bool} {a n : Nat} (h : freeB M P a n = false) : ∃ b, b < n ∧ at2 M a b = true ∧ b ≠ a ∧ P.getD b false = false := by
  unfold freeB at h
  rw [List.all_eq_false] at h
  obtain ⟨b, hb, h1⟩ := h
  refine ⟨b, by simpa using hb, ?_⟩
  simp only [Bool.not_eq_true', Bool.not_eq_false', Bool.not_eq_true, Bool.and_eq_true, Bool.not_eq_false, beq_eq_false_iff_ne, ne_eq] at h1
  exact ⟨h1.1.1, h1.1.2, h1.2⟩
theorem ready_ex {M : Mt} (hc : chkN M = 0) (P : List Bool) : ∀ (m a : Nat), cntB M a ≤ m → a < M.length → P.getD a false = false → ∃ a', a' < M.length ∧ readyB M P a' = true := by
  intro m
  induction m with
  | zero =>
    intro a h ha hp
    refine ⟨a, ha, ?_⟩
    unfold readyB
    rw [hp]
    cases hf : freeB M P a M.length with
    | true => rfl
    | false =>
      obtain ⟨b, hb, h1, h2, h3⟩ := freeB_not hf
      have := cnt_lt hc ha hb h1 h2
      omega
  | succ m ih =>
    intro a h ha hp
    cases hf : freeB M P a M.length with
    | true => exact ⟨a, ha, by unfold readyB; rw [hp, hf]; rfl⟩
    | false =>
      obtain ⟨b, hb, h1, h2, h3⟩ := freeB_not hf
      have := cnt_lt hc ha hb h1 h2
      exact ih b (by omega) hb h3
theorem firstR_ex {M : Mt} {P : List Bool} {a : Nat} (ha : a < M.length) (hr : readyB M P a = true) : ∃ a', firstR M P = some a' ∧ a' < M.length ∧ readyB M P a' = true := by
  cases h : firstR M P with
  | none =>
    unfold firstR at h
    rw [List.find?_eq_none] at h
    exact absurd hr (h a (by simpa using ha))
  | some a' =>
    unfold firstR at h
    exact ⟨a', rfl, by simpa using List.mem_of_find?_eq_some h, List.find?_some h⟩
theorem unplaced {P : List Bool} {n : Nat} (hl : P.length = n) (hc : P.countP id < n) : ∃ a, a < n ∧ P.getD a false = false := by
  rcases Classical.em (∃ a, a < n ∧ P.getD a false = false) with h | h
  · exact h
  · exfalso
    have : P.countP id = P.length := by
      rw [List.countP_eq_length]
      intro x hx
      obtain ⟨i, hi, rfl⟩ := List.getElem_of_mem hx
      cases hb : P[i] with
      | true => rfl
      | false => exact absurd ⟨i, by omega, by simp [List.getD, hi, hb]⟩ h
    omega
structure OrdSt (M : Mt) (r : Nat) (L : List Int) (P : List Bool) : Prop where
  len : L.length = r
  plen : P.length = M.length
  cnt : P.countP id = r
  mem : ∀ x : Nat, x < M.length → ((x : Int) ∈ L ↔ P.getD x false = true)
  nat : ∀ y ∈ L, ∃ x : Nat, y = (x : Int) ∧ x < M.length
  cl : ∀ x b, x < M.length → b < M.length → P.getD x false = true → at2 M x b = true → P.getD b false = true
  ord : ∀ i k, k < i → i < r → L.getD k 0 ≠ L.getD i 0 ∧ at2 M (L.getD k 0).toNat (L.getD i 0).toNat = false
theorem getD_set (P : List Bool) (a x : Nat) (ha : a < P.length) : (P.set a true).getD x false = if x = a then true else P.getD x false := by
  unfold List.getD
  rw [List.getElem?_set]
  by_cases h : a = x
  · subst h; simp [ha]
  · rw [if_neg h, if_neg (fun e => h e.symm)]
theorem ordN_st {M : Mt} (hc : chkN M = 0) : ∀ r, r ≤ M.length → OrdSt M r (ordN M r).1 (ordN M r).2 := by
  intro r
  induction r with
  | zero =>
    intro _
    have hP : (ordN M 0).2 = List.replicate M.length false := by rw [← lvls_zero hc]; rfl
    have hL : (ordN M 0).1 = [] := rfl
    have hg : ∀ x, (List.replicate M.length false).getD x false = false := by
      intro x; unfold List.getD; rw [List.getElem?_replicate]; split <;> rfl
    rw [hP, hL]
    refine ⟨rfl, List.length_replicate .., by rw [List.countP_replicate]; rfl, fun x _ => ⟨fun h => (by cases h), fun h => ?_⟩, fun y hy => (by cases hy), fun x b _ _ h _ => ?_, fun i k _ h => (by omega)⟩
    · rw [hg] at h; cases h
    · rw [hg] at h; cases h
  | succ r ih =>
    intro hr
    have st := ih (by omega)
    obtain ⟨a0, ha0, hp0⟩ := unplaced st.plen (by rw [st.cnt]; omega)
    obtain ⟨a1, ha1, hr1⟩ := ready_ex hc (ordN M r).2 _ a0 (Nat.le_refl _) ha0 hp0
    obtain ⟨a, hfa, ha, hra⟩ := firstR_ex ha1 hr1
    rw [ordN_some hfa]
    generalize hL : (ordN M r).1 = L at *
    generalize hP : (ordN M r).2 = P at *
    unfold readyB at hra
    simp only [Bool.and_eq_true, Bool.not_eq_true'] at hra
    obtain ⟨hpa, hfr⟩ := hra
    have haP : a < P.length := by rw [st.plen]; exact ha
    have hset := fun x => getD_set P a x haP
    refine ⟨by rw [List.length_append, st.len]; rfl, by rw [List.length_set, st.plen], ?_, ?_, ?_, ?_, ?_⟩
    · show (P.set a true).countP id = r + 1
      rw [List.countP_set haP]
      have : P[a] = false := by
        have := hpa
        simp [List.getD, haP] at this
        exact this
      rw [this, st.cnt]; rfl
    · intro x hx
      show _ ↔ (P.set a true).getD x false = true
      rw [hset, List.mem_append, st.mem x hx]
      by_cases e : x = a
      · subst e; simp
      · rw [if_neg e]
        constructor
        · rintro (h | h)
          · exact h
          · have := List.mem_singleton.1 h; omega
        · exact .inl
    · intro y hy
      rcases List.mem_append.1 hy with h | h
      · exact st.nat y h
      · exact ⟨a, List.mem_singleton.1 h, ha⟩
    · intro x b hx hb h1 h2
      show (P.set a true).getD b false = true
      have h1 : (P.set a true).getD x false = true := h1
      rw [hset] at h1 ⊢
      by_cases e : b = a
      · rw [if_pos e]
      · rw [if_neg e]
        by_cases e' : x = a
        · subst e'; exact freeB_all hfr hb h2 e
        · rw [if_neg e'] at h1; exact st.cl x b hx hb h1 h2
    · intro i k hk hi
      show (L ++ [(a : Int)]).getD k 0 ≠ (L ++ [(a : Int)]).getD i 0 ∧ at2 M ((L ++ [(a : Int)]).getD k 0).toNat ((L ++ [(a : Int)]).getD i 0).toNat = false
      have hkL : k < L.length := by have := st.len; omega
      have gk : (L ++ [(a : Int)]).getD k 0 = L.getD k 0 := by unfold List.getD; rw [List.getElem?_append_left hkL]
      rw [gk]
      rcases Nat.lt_or_ge i r with h7 | h7
      · have hiL : i < L.length := by have := st.len; omega
        have gi : (L ++ [(a : Int)]).getD i 0 = L.getD i 0 := by unfold List.getD; rw [List.getElem?_append_left hiL]
        rw [gi]
        exact st.ord i k hk h7
      · have : i = L.length := by have := st.len; omega
        subst this
        have gi : (L ++ [(a : Int)]).getD L.length 0 = (a : Int) := by simp [List.getD]
        rw [gi]
        have hm : L.getD k 0 ∈ L := by simp [List.getD, hkL]
        obtain ⟨x, ex, hx⟩ := st.nat _ hm
        rw [ex] at hm ⊢
        have hpx := (st.mem x hx).1 hm
        refine ⟨fun e => ?_, ?_⟩
        · have : x = a := by omega
          rw [this, hpa] at hpx; cases hpx
        · simp only [Int.toNat_natCast]
          cases h9 : at2 M x a with
          | false => rfl
          | true =>
            have := st.cl x a hx ha hpx h9
            rw [hpa] at this; cases this
theorem order_len {M : Mt} (hc : chkN M = 0) : (orderL M).length = M.length := by
  unfold orderL; rw [lvls_zero hc]; exact (ordN_st hc M.length (Nat.le_refl _)).len
theorem order_get {M : Mt} (hc : chkN M = 0) {i : Nat} (hi : i < M.length) : ∃ x : Nat, (orderL M).getD i 0 = (x : Int) ∧ x < M.length := by
  have st := ordN_st hc M.length (Nat.le_refl _)
  unfold orderL; rw [lvls_zero hc]
  have hl := st.len
  exact st.nat _ (by have : i < (ordN M M.length).1.length := by omega
                     simp [List.getD, this])
theorem order_lt {M : Mt} (hc : chkN M = 0) {i k : Nat} (hk : k < i) (hi : i < M.length) : (orderL M).getD k 0 ≠ (orderL M).getD i 0 ∧ aboveB M ((orderL M).getD k 0) ((orderL M).getD i 0) = false := by
  have st := ordN_st hc M.length (Nat.le_refl _)
  have e : orderL M = (ordN M M.length).1 := by unfold orderL; rw [lvls_zero hc]
  rw [e]
  obtain ⟨h1, h2⟩ := st.ord i k hk hi
  refine ⟨h1, ?_⟩
  cases h : aboveB M ((ordN M M.length).1.getD k 0) ((ordN M M.length).1.getD i 0) with
  | false => rfl
  | true =>
    obtain ⟨x, y, ex, ey, _, _, _, h3⟩ := (above_iff hc _ _).1 h
    rw [ex, ey] at h2
    simp only [Int.toNat_natCast] at h2
    rw [h3] at h2; cases h2
theorem below_get {M : Mt} (hc : chkN M = 0) {i k : Nat} (hi : i < M.length) (hk : k < (belowL M (i : Int)).length) : ∃ b : Nat, (belowL M (i : Int)).getD k 0 = (b : Int) ∧ b < M.length ∧ at2 M i b = true ∧ b ≠ i := by
  have hlv : isLv M (i : Int) = true := by unfold isLv; rw [lvls_zero hc]; exact decide_eq_true ⟨by omega, by omega⟩
  have e : belowL M (i : Int) = below0 M i M.length := by unfold belowL; rw [if_pos hlv]; rfl
  have hm : (belowL M (i : Int)).getD k 0 ∈ belowL M (i : Int) := by simp [List.getD, hk]
  rw [e] at hm ⊢
  unfold below0 at hm
  rw [List.mem_map] at hm
  obtain ⟨b, hb, eb⟩ := hm
  obtain ⟨h1, h2⟩ := List.mem_filter.1 hb
  simp only [Bool.and_eq_true, Bool.not_eq_true', beq_eq_false_iff_ne, ne_eq] at h2
  exact ⟨b, eb.symm, by simpa using h1, h2.1, h2.2⟩
theorem mem_get {L : List Int} {y : Int} (h : y ∈ L) : ∃ k, k < L.length ∧ L.getD k 0 = y := by
  obtain ⟨k, hk, e⟩ := List.getElem_of_mem h
  exact ⟨k, hk, by simp [List.getD, hk, e]⟩
theorem covers_mem {M : Mt} {a : Int} {y : Int} : y ∈ coversL M a ↔ y ∈ belowL M a ∧ topB M (belowL M a) y (belowL M a).length = true := by
  unfold coversL covers0
  rw [List.take_length, List.mem_filter]
theorem topB_not {M : Mt} {L : List Int} {b : Int} (h : topB M L b L.length = false) : ∃ c ∈ L, c ≠ b ∧ at2 M c.toNat b.toNat = true := by
  unfold topB at h
  rw [List.take_length, List.all_eq_false] at h
  obtain ⟨c, hc, h1⟩ := h
  simp only [Bool.or_eq_true, decide_eq_true_eq, Bool.not_eq_true', not_or, Bool.not_eq_false] at h1
  exact ⟨c, hc, h1.1, h1.2⟩
theorem top_ex {M : Mt} (hc : chkN M = 0) {i : Nat} (hi : i < M.length) : ∀ (m b : Nat), M.length - cntB M b ≤ m → b < M.length → (b : Int) ∈ belowL M (i : Int) → ∃ c : Nat, c < M.length ∧ (c : Int) ∈ coversL M (i : Int) ∧ at2 M c b = true := by
  have hcnt : ∀ b, cntB M b ≤ M.length := fun b => by
    unfold cntB
    have := List.countP_le_length (p := fun x => at2 M b x) (l := List.range M.length)
    simpa using this
  have go : ∀ b : Nat, b < M.length → (b : Int) ∈ belowL M (i : Int) → topB M (belowL M (i : Int)) (b : Int) (belowL M (i : Int)).length = false → ∃ c : Nat, c < M.length ∧ (c : Int) ∈ belowL M (i : Int) ∧ at2 M c b = true ∧ cntB M b < cntB M c := by
    intro b hb hmb ht
    obtain ⟨y, hy, hne, h1⟩ := topB_not ht
    obtain ⟨k, hk, ek⟩ := mem_get hy
    obtain ⟨c, ec, hcM, _, _⟩ := below_get hc hi hk
    rw [ek] at ec
    subst ec
    simp only [Int.toNat_natCast] at h1
    exact ⟨c, hcM, hy, h1, cnt_lt hc hcM hb h1 (by omega)⟩
  intro m
  induction m with
  | zero =>
    intro b h hb hm
    cases ht : topB M (belowL M (i : Int)) (b : Int) (belowL M (i : Int)).length with
    | true => exact ⟨b, hb, covers_mem.2 ⟨hm, ht⟩, ord_refl hc hb⟩
    | false =>
      obtain ⟨c, hcM, _, _, h4⟩ := go b hb hm ht
      have := hcnt c
      omega
  | succ m ih =>
    intro b h hb hm
    cases ht : topB M (belowL M (i : Int)) (b : Int) (belowL M (i : Int)).length with
    | true => exact ⟨b, hb, covers_mem.2 ⟨hm, ht⟩, ord_refl hc hb⟩
    | false =>
      obtain ⟨c, hcM, h2, h3, h4⟩ := go b hb hm ht
      have := hcnt c
      obtain ⟨d, hd, h5, h6⟩ := ih c (by omega) hcM h2
      refine ⟨d, hd, h5, ?_⟩
      by_cases e : c = d
      · subst e; exact h3
      · exact (ord_row hc hd hcM h6 e).2 b hb h3
theorem covers_le {M : Mt} (a : Int) : (coversL M a).length ≤ (belowL M a).length := covers0_len _ _ _
theorem covers_ex {M : Mt} (hc : chkN M = 0) {i b : Nat} (hi : i < M.length) (hb : b < M.length) (hm : (b : Int) ∈ belowL M (i : Int)) : ∃ j c : Nat, j < (coversL M (i : Int)).length ∧ (coversL M (i : Int)).getD j 0 = (c : Int) ∧ c < M.length ∧ domB M (c : Int) (b : Int) = true := by
  obtain ⟨c, h1, h2, h3⟩ := top_ex hc hi _ b (Nat.le_refl _) hb hm
  obtain ⟨j, hj, ej⟩ := mem_get h2
  exact ⟨j, c, hj, ej, h1, (dom_iff hc _ _).2 ⟨c, b, rfl, rfl, h1, hb, h3⟩⟩
theorem covers_pos {M : Mt} (hc : chkN M = 0) {i : Nat} (hi : i < M.length) : decide ((0 : Int) < ((coversL M (i : Int)).length : Int)) = decide ((0 : Int) < ((belowL M (i : Int)).length : Int)) := by
  have hle := covers_le (M := M) (i : Int)
  rcases Nat.eq_zero_or_pos (belowL M (i : Int)).length with h | h
  · have : (coversL M (i : Int)).length = 0 := by omega
    rw [h, this]
  · obtain ⟨b, eb, hb, _, _⟩ := below_get hc hi h
    have hm : (b : Int) ∈ belowL M (i : Int) := by rw [← eb]; simp [List.getD, h]
    obtain ⟨j, c, hj, _⟩ := covers_ex hc hi hb hm
    rw [decide_eq_true (by omega), decide_eq_true (by omega)]
end Go.Proofs.Ytpnflehemjbemaa
