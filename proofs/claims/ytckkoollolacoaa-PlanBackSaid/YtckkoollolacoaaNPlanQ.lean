/- What is printed is parsed: the mathematics of names, lines and what is reached. No condition. -/
import Derived.Test.YtckkoollolacoaaNPlanP
set_option maxRecDepth 100000
set_option maxHeartbeats 4000000
set_option linter.all false
namespace Go.Proofs.Ytckkoollolacoaa
open Go Go.Ev

theorem chk_zero {M : Mt} (h : chkN M = 0) : squareB M = true ∧ orderedB M = true := by
  unfold chkN at h
  split at h
  · rename_i hq
    split at h
    · rename_i ho; exact ⟨hq, ho⟩
    · cases h
  · cases h
theorem lvls_zero {M : Mt} (h : chkN M = 0) : lvls M = M.length := by unfold lvls; rw [if_pos h]
theorem ord_refl {M : Mt} (h : chkN M = 0) {a : Nat} (ha : a < M.length) : at2 M a a = true := (of_decide_eq_true (chk_zero h).2 a ha).1
theorem ord_row {M : Mt} (h : chkN M = 0) {a b : Nat} (ha : a < M.length) (hb : b < M.length) (hab : at2 M a b = true) (hne : b ≠ a) : at2 M b a = false ∧ ∀ c, c < M.length → at2 M b c = true → at2 M a c = true := by
  have := (of_decide_eq_true (chk_zero h).2 a ha).2 b hb
  unfold rowOk at this
  rw [hab] at this
  have hne' : (b == a) = false := by simpa using hne
  rw [hne'] at this
  simp only [Bool.not_true, Bool.false_or, Bool.and_eq_true, Bool.not_eq_true'] at this
  refine ⟨this.1, fun c hc hbc => ?_⟩
  have hl := (squareB_rows (chk_zero h).1).2 b hb
  exact of_decide_eq_true this.2 c (by omega) hbc
theorem dom_iff {M : Mt} (h : chkN M = 0) (a b : Int) : domB M a b = true ↔ ∃ x y : Nat, a = x ∧ b = y ∧ x < M.length ∧ y < M.length ∧ at2 M x y = true := by
  unfold domB isLv
  rw [lvls_zero h]
  simp only [Bool.and_eq_true, decide_eq_true_eq]
  constructor
  · rintro ⟨⟨a1, a2⟩, ⟨b1, b2⟩, h3⟩
    exact ⟨a.toNat, b.toNat, by omega, by omega, by omega, by omega, h3⟩
  · rintro ⟨x, y, rfl, rfl, hx, hy, h3⟩
    exact ⟨⟨by omega, by omega⟩, ⟨by omega, by omega⟩, by simpa using h3⟩
theorem above_iff {M : Mt} (h : chkN M = 0) (a b : Int) : aboveB M a b = true ↔ ∃ x y : Nat, a = x ∧ b = y ∧ x ≠ y ∧ x < M.length ∧ y < M.length ∧ at2 M x y = true := by
  unfold aboveB
  simp only [Bool.and_eq_true, Bool.not_eq_true', decide_eq_false_iff_not]
  rw [dom_iff h]
  constructor
  · rintro ⟨hne, x, y, rfl, rfl, h3⟩
    exact ⟨x, y, rfl, rfl, fun e => hne (by rw [e]), h3⟩
  · rintro ⟨x, y, rfl, rfl, hne, h3⟩
    exact ⟨by omega, x, y, rfl, rfl, h3⟩
theorem count_lt {l : List Nat} {p q : Nat → Bool} {a : Nat} (h : ∀ x ∈ l, p x = true → q x = true) (ha : a ∈ l) (hq : q a = true) (hp : p a = false) : l.countP p < l.countP q := by
  induction l with
  | nil => cases ha
  | cons x l ih =>
    rw [List.countP_cons, List.countP_cons]
    have h' : ∀ y ∈ l, p y = true → q y = true := fun y hy => h y (List.mem_cons_of_mem _ hy)
    have mono : l.countP p ≤ l.countP q := List.countP_mono_left h'
    rcases List.mem_cons.1 ha with e | ha
    · subst e
      rw [hq, hp]; simp; omega
    · have := ih h' ha
      cases hx : p x
      · simp; omega
      · rw [h x (List.mem_cons_self ..) hx]; simp; omega
def cntB (M : Mt) (a : Nat) : Nat := (List.range M.length).countP fun b => at2 M a b
theorem cnt_lt {M : Mt} (hc : chkN M = 0) {a b : Nat} (ha : a < M.length) (hb : b < M.length) (hab : at2 M a b = true) (hne : b ≠ a) : cntB M b < cntB M a := by
  obtain ⟨h1, h2⟩ := ord_row hc ha hb hab hne
  exact count_lt (a := a) (fun x hx hbx => h2 x (by simpa using hx) hbx) (by simpa using ha) (ord_refl hc ha) h1
theorem below_get {M : Mt} (hc : chkN M = 0) {i k : Nat} (hi : i < M.length) (hk : k < (belowL M (i : Int)).length) : ∃ b : Nat, (belowL M (i : Int)).getD k 0 = (b : Int) ∧ b < M.length ∧ at2 M i b = true ∧ b ≠ i := by
  have hlv : isLv M (i : Int) = true := by unfold isLv; rw [lvls_zero hc]; exact decide_eq_true ⟨by omega, by omega⟩
  have e : belowL M (i : Int) = below0 M i M.length := by unfold belowL; rw [if_pos hlv]; rfl
  have hm : (belowL M (i : Int)).getD k 0 ∈ belowL M (i : Int) := by simp [List.getD, hk]
  rw [e] at hm ⊢
  unfold below0 at hm
  rw [List.mem_map] at hm
  obtain ⟨b, hb, eb⟩ := hm
  obtain ⟨h1, h2⟩ := List.mem_filter.1 hb
  simp only [Bool.and_eq_true, Bool.not_eq_true', beq_eq_false_iff_ne, ne_eq] at h2
  exact ⟨b, eb.symm, by simpa using h1, h2.1, h2.2⟩
theorem mem_get {L : List Int} {y : Int} (h : y ∈ L) : ∃ k, k < L.length ∧ L.getD k 0 = y := by
  obtain ⟨k, hk, e⟩ := List.getElem_of_mem h
  exact ⟨k, hk, by simp [List.getD, hk, e]⟩
theorem covers_mem {M : Mt} {a : Int} {y : Int} : y ∈ coversL M a ↔ y ∈ belowL M a ∧ topB M (belowL M a) y (belowL M a).length = true := by
  unfold coversL covers0
  rw [List.take_length, List.mem_filter]
theorem topB_not {M : Mt} {L : List Int} {b : Int} (h : topB M L b L.length = false) : ∃ c ∈ L, c ≠ b ∧ at2 M c.toNat b.toNat = true := by
  unfold topB at h
  rw [List.take_length, List.all_eq_false] at h
  obtain ⟨c, hc, h1⟩ := h
  simp only [Bool.or_eq_true, decide_eq_true_eq, Bool.not_eq_true', not_or, Bool.not_eq_false] at h1
  exact ⟨c, hc, h1.1, h1.2⟩
theorem top_ex {M : Mt} (hc : chkN M = 0) {i : Nat} (hi : i < M.length) : ∀ (m b : Nat), M.length - cntB M b ≤ m → b < M.length → (b : Int) ∈ belowL M (i : Int) → ∃ c : Nat, c < M.length ∧ (c : Int) ∈ coversL M (i : Int) ∧ at2 M c b = true := by
  have hcnt : ∀ b, cntB M b ≤ M.length := fun b => by
    unfold cntB
    have := List.countP_le_length (p := fun x => at2 M b x) (l := List.range M.length)
    simpa using this
  have go : ∀ b : Nat, b < M.length → (b : Int) ∈ belowL M (i : Int) → topB M (belowL M (i : Int)) (b : Int) (belowL M (i : Int)).length = false → ∃ c : Nat, c < M.length ∧ (c : Int) ∈ belowL M (i : Int) ∧ at2 M c b = true ∧ cntB M b < cntB M c := by
    intro b hb hmb ht
    obtain ⟨y, hy, hne, h1⟩ := topB_not ht
    obtain ⟨k, hk, ek⟩ := mem_get hy
    obtain ⟨c, ec, hcM, _, _⟩ := below_get hc hi hk
    rw [ek] at ec
    subst ec
    simp only [Int.toNat_natCast] at h1
    exact ⟨c, hcM, hy, h1, cnt_lt hc hcM hb h1 (by omega)⟩
  intro m
  induction m with
  | zero =>
    intro b h hb hm
    cases ht : topB M (belowL M (i : Int)) (b : Int) (belowL M (i : Int)).length with
    | true => exact ⟨b, hb, covers_mem.2 ⟨hm, ht⟩, ord_refl hc hb⟩
    | false =>
      obtain ⟨c, hcM, _, _, h4⟩ := go b hb hm ht
      have := hcnt c
      omega
  | succ m ih =>
    intro b h hb hm
    cases ht : topB M (belowL M (i : Int)) (b : Int) (belowL M (i : Int)).length with
    | true => exact ⟨b, hb, covers_mem.2 ⟨hm, ht⟩, ord_refl hc hb⟩
    | false =>
      obtain ⟨c, hcM, h2, h3, h4⟩ := go b hb hm ht
      have := hcnt c
      obtain ⟨d, hd, h5, h6⟩ := ih c (by omega) hcM h2
      refine ⟨d, hd, h5, ?_⟩
      by_cases e : c = d
      · subst e; exact h3
      · exact (ord_row hc hd hcM h6 e).2 b hb h3

/-- what names reach, through levels below k -/
inductive Rch (D : Mt) (k : Nat) : Nat → Nat → Prop where
  | one {a b : Nat} : at2 D a b = true → Rch D k a b
  | two {a c b : Nat} : Rch D k a c → c < k → Rch D k c b → Rch D k a b
theorem Rch.split {D : Mt} {k a b : Nat} (r : Rch D (k + 1) a b) : Rch D k a b ∨ (Rch D k a k ∧ Rch D k k b) := by
  induction r with
  | one h => exact .inl (.one h)
  | @two a c b _ hc _ ih1 ih2 =>
    by_cases e : c = k
    · subst e
      refine .inr ⟨?_, ?_⟩
      · rcases ih1 with h | h
        · exact h
        · exact h.1
      · rcases ih2 with h | h
        · exact h
        · exact h.2
    · have hlt : c < k := by omega
      rcases ih1 with h1 | h1 <;> rcases ih2 with h2 | h2
      · exact .inl (.two h1 hlt h2)
      · exact .inr ⟨.two h1 hlt h2.1, h2.2⟩
      · exact .inr ⟨h1.1, .two h1.2 hlt h2⟩
      · exact .inr ⟨h1.1, h2.2⟩
theorem reach_at {D : Mt} {n : Nat} (hD : D.length = n) (hq : ∀ i, i < n → (D.getD i []).length = n) (k : Nat) {a b : Nat} (ha : a < n) (hb : b < n) : at2 (reachM D (k + 1)) a b = (at2 (reachM D k) a b || at2 (reachM D k) a k && at2 (reachM D k) k b) := by
  unfold at2
  show ((stepM (reachM D k) k D.length).getD a []).getD b false = _
  rw [stepM_get, reachM_len, hD, if_pos ha, if_pos ha, stepR_get _ _ _ (by rw [reachM_rowlen, hq a ha]; exact hb)]
theorem reach_sup {D : Mt} {n : Nat} (hD : D.length = n) (hq : ∀ i, i < n → (D.getD i []).length = n) : ∀ k, k ≤ n → ∀ {a b : Nat}, a < n → b < n → Rch D k a b → at2 (reachM D k) a b = true
  | 0, _, a, b, _, _, r => by
    cases r with
    | one h => exact h
    | two _ h _ => omega
  | k + 1, hk, a, b, ha, hb, r => by
    rw [reach_at hD hq k ha hb]
    rcases r.split with h | h
    · rw [reach_sup hD hq k (by omega) ha hb h]; rfl
    · rw [reach_sup hD hq k (by omega) ha (by omega) h.1, reach_sup hD hq k (by omega) (by omega) hb h.2]; simp
theorem ord_trans {M : Mt} (h : chkN M = 0) {a b c : Nat} (ha : a < M.length) (hb : b < M.length) (hc : c < M.length) (hab : at2 M a b = true) (hbc : at2 M b c = true) : at2 M a c = true := by
  by_cases e : b = a
  · subst e; exact hbc
  · exact (ord_row h ha hb hab e).2 c hc hbc
theorem reach_sub {M D : Mt} (h : chkN M = 0) (hD : D.length = M.length) (hq : ∀ i, i < M.length → (D.getD i []).length = M.length) (hs : ∀ a b, a < M.length → b < M.length → at2 D a b = true → at2 M a b = true) :
    ∀ k, k ≤ M.length → ∀ {a b : Nat}, a < M.length → b < M.length → at2 (reachM D k) a b = true → at2 M a b = true
  | 0, _, a, b, ha, hb, r => hs a b ha hb r
  | k + 1, hk, a, b, ha, hb, r => by
    rw [reach_at hD hq k ha hb, Bool.or_eq_true, Bool.and_eq_true] at r
    rcases r with r | ⟨r1, r2⟩
    · exact reach_sub h hD hq hs k (by omega) ha hb r
    · exact ord_trans h ha (b := k) (by omega) hb (reach_sub h hD hq hs k (by omega) ha (by omega) r1) (reach_sub h hD hq hs k (by omega) (by omega) hb r2)
theorem below_mem {M : Mt} (hc : chkN M = 0) {a b : Nat} (ha : a < M.length) (hb : b < M.length) (hab : at2 M a b = true) (hne : b ≠ a) : (b : Int) ∈ belowL M (a : Int) := by
  have hlv : isLv M (a : Int) = true := by unfold isLv; rw [lvls_zero hc]; exact decide_eq_true ⟨by omega, by omega⟩
  have e : belowL M (a : Int) = below0 M a M.length := by unfold belowL; rw [if_pos hlv]; rfl
  rw [e]
  unfold below0
  refine List.mem_map.2 ⟨b, List.mem_filter.2 ⟨by simpa using hb, ?_⟩, rfl⟩
  rw [hab]; simpa using hne
theorem below_of {M : Mt} (hc : chkN M = 0) {a b : Nat} (ha : a < M.length) (h : (b : Int) ∈ belowL M (a : Int)) : b < M.length ∧ at2 M a b = true ∧ b ≠ a := by
  obtain ⟨k, hk, e⟩ := mem_get h
  obtain ⟨c, e1, h1, h2, h3⟩ := below_get hc ha hk
  rw [e] at e1
  have : b = c := by omega
  subst this
  exact ⟨h1, h2, h3⟩
theorem rch_all {M D : Mt} (h : chkN M = 0) (hr : ∀ a, a < M.length → at2 D a a = true) (hcv : ∀ a c : Nat, a < M.length → (c : Int) ∈ coversL M (a : Int) → at2 D a c = true) :
    ∀ m a b, cntB M a ≤ m → a < M.length → b < M.length → at2 M a b = true → Rch D M.length a b := by
  intro m
  induction m with
  | zero =>
    intro a b hm ha hb hab
    by_cases e : b = a
    · subst e; exact .one (hr b ha)
    · have := cnt_lt h ha hb hab e; omega
  | succ m ih =>
    intro a b hm ha hb hab
    by_cases e : b = a
    · subst e; exact .one (hr b ha)
    · obtain ⟨c, h1, h2, h3⟩ := top_ex h ha _ b (Nat.le_refl _) hb (below_mem h ha hb hab e)
      obtain ⟨_, g2, g3⟩ := below_of h ha (covers_mem.1 h2).1
      have := cnt_lt h ha h1 g2 g3
      exact .two (.one (hcv a c ha h2)) h1 (ih c b (by omega) h1 hb h3)
theorem bool_iff {x y : Bool} (h : x = true ↔ y = true) : x = y := by cases x <;> cases y <;> simp_all
theorem reach_back {M D : Mt} (h : chkN M = 0) (hD : D.length = M.length) (hq : ∀ i, i < M.length → (D.getD i []).length = M.length) (hs : ∀ a b, a < M.length → b < M.length → at2 D a b = true → at2 M a b = true)
    (hr : ∀ a, a < M.length → at2 D a a = true) (hcv : ∀ a c : Nat, a < M.length → (c : Int) ∈ coversL M (a : Int) → at2 D a c = true) : reachM D M.length = M := by
  have sq := (squareB_rows (chk_zero h).1).2
  apply extM (by rw [reachM_len, hD])
  intro i hi
  rw [reachM_len, hD] at hi
  apply ext_getD (by rw [reachM_rowlen, hq i hi, sq i hi])
  intro j hj
  rw [reachM_rowlen, hq i hi] at hj
  exact bool_iff ⟨fun e => reach_sub h hD hq hs _ (Nat.le_refl _) hi hj e, fun e => reach_sup hD hq _ (Nat.le_refl _) hi hj (rch_all h hr hcv _ i j (Nat.le_refl _) hi hj e)⟩

/-! ### Lines of names -/
def nm (k : Nat) : UInt8 := UInt8.ofNat (97 + k)
theorem nm_nat {k : Nat} (h : k < 6) : (nm k).toNat = 97 + k := by unfold nm; simp; omega
def lineT (i : Nat) (ks : List Nat) : List UInt8 := [nm i, 62] ++ ks.map nm
def txt (N : Nat → List Nat) : Nat → List UInt8
  | 0 => []
  | i + 1 => txt N i ++ (lineT i (N i) ++ [10])
def setAll (row : List Bool) : List Nat → List Bool
  | [] => row
  | k :: ks => setAll (row.set k true) ks
theorem setAll_len : ∀ (ks : List Nat) (row : List Bool), (setAll row ks).length = row.length
  | [], row => rfl
  | k :: ks, row => by show (setAll (row.set k true) ks).length = _; rw [setAll_len ks, List.length_set]
theorem setAll_get : ∀ (ks : List Nat) (row : List Bool) (j : Nat), (∀ k ∈ ks, k < row.length) → (setAll row ks).getD j false = (decide (j ∈ ks) || row.getD j false)
  | [], row, j, _ => by simp [setAll]
  | k :: ks, row, j, h => by
    show (setAll (row.set k true) ks).getD j false = _
    rw [setAll_get ks _ j (fun x hx => by rw [List.length_set]; exact h x (List.mem_cons_of_mem _ hx)), getD_set_eq _ _ _ _ _ (h k (List.mem_cons_self ..))]
    by_cases e : j = k
    · subst e; simp
    · rw [if_neg e]
      have : (j ∈ k :: ks) = (j ∈ ks) := by simp [e]
      simp only [this]
theorem rowR_names : ∀ (ks : List Nat) (row : List Bool), row.length ≤ 6 → ks.Nodup → (∀ k ∈ ks, k < row.length ∧ row.getD k false = false) → rowR row (ks.map nm) = some (setAll row ks)
  | [], row, _, _, _ => rfl
  | k :: ks, row, hl, hn, h => by
    obtain ⟨h1, h2⟩ := h k (List.mem_cons_self ..)
    have hk : (nm k).toNat = 97 + k := nm_nat (by omega)
    have e : (nm k).toNat - 97 = k := by omega
    show rowR row (nm k :: ks.map nm) = _
    unfold rowR
    rw [if_pos ⟨by omega, by omega, by omega, by rw [e]; exact h2⟩, e]
    rw [rowR_names ks (row.set k true) (by rw [List.length_set]; exact hl) (List.nodup_cons.1 hn).2 (fun x hx => ?_)]
    · rfl
    · obtain ⟨g1, g2⟩ := h x (List.mem_cons_of_mem _ hx)
      refine ⟨by rw [List.length_set]; exact g1, ?_⟩
      rw [getD_set_eq _ _ _ _ _ h1, if_neg (fun e => (List.nodup_cons.1 hn).1 (by rw [← e]; exact hx))]
      exact g2
theorem txt_flat (N : Nat → List Nat) : ∀ n, txt N n = flat ((List.range n).map fun i => lineT i (N i))
  | 0 => rfl
  | n + 1 => by
    rw [txt, txt_flat N n, List.range_succ]
    unfold flat
    simp
theorem goR_text {n : Nat} (hn : n ≤ 6) (N : Nat → List Nat) (hN : ∀ i, i < n → (N i).Nodup ∧ ∀ k ∈ N i, k < n ∧ k ≠ i) : ∀ m a, a + m = n → goR n a ((List.range' a m).map fun i => lineT i (N i)) = some ((List.range' a m).map fun i => setAll (initN n i) (N i))
  | 0, a, _ => rfl
  | m + 1, a, ha => by
    have han : a < n := by omega
    obtain ⟨n1, n2⟩ := hN a han
    rw [List.range'_succ, List.map_cons, List.map_cons]
    have ih := goR_text hn N hN m (a + 1) (by omega)
    have hh : 2 ≤ (lineT a (N a)).length ∧ (lineT a (N a)).take 2 = nameB (a : Int) ++ [62] := by
      refine ⟨by unfold lineT; simp, ?_⟩
      rw [nameB_nat (by omega)]
      unfold lineT nm
      simp
    have hd : (lineT a (N a)).drop 2 = (N a).map nm := by unfold lineT; simp
    conv => lhs; unfold goR; rw [if_pos hh, hd]
    rw [rowR_names (N a) (initN n a) (by rw [initN_len]; exact hn) n1 (fun k hk => ?_)]
    · simp only
      rw [ih]; rfl
    · obtain ⟨h1, h2⟩ := n2 k hk
      refine ⟨by rw [initN_len]; exact h1, ?_⟩
      unfold initN
      rw [getD_set_eq _ _ _ _ _ (by simp; omega), if_neg h2]
      rw [List.getD_eq_getElem?_getD, List.getElem?_replicate]; split <;> rfl
theorem nm_not10 {k : Nat} (h : k < 6) : nm k ≠ 10 := fun e => by have := congrArg UInt8.toNat e; rw [nm_nat h] at this; simp at this; omega
theorem line_no10 {i : Nat} {ks : List Nat} (hi : i < 6) (h : ∀ k ∈ ks, k < 6) : ¬ (10 : UInt8) ∈ lineT i ks := by
  unfold lineT
  intro hm
  rcases List.mem_append.1 hm with hm | hm
  · rcases List.mem_cons.1 hm with e | hm
    · exact nm_not10 hi e.symm
    · have := List.mem_singleton.1 hm; exact absurd this (by decide)
  · obtain ⟨k, hk, e⟩ := List.mem_map.1 hm
    exact nm_not10 (h k hk) e
/-- WHAT NAMES ENOUGH IS PARSED AS WHAT IT IS -/
theorem parse_back {M : Mt} (h : chkN M = 0) (N : Nat → List Nat) (hN : ∀ i, i < M.length → (N i).Nodup ∧ ∀ k ∈ N i, k < M.length ∧ k ≠ i ∧ at2 M i k = true)
    (hcv : ∀ i c : Nat, i < M.length → (c : Int) ∈ coversL M (i : Int) → c ∈ N i) : parseP (txt N M.length) = (M, 0) := by
  obtain ⟨q1, q2, sq⟩ := of_decide_eq_true (chk_zero h).1
  have hws := goR_text q2 N (fun i hi => ⟨(hN i hi).1, fun k hk => ⟨((hN i hi).2 k hk).1, ((hN i hi).2 k hk).2.1⟩⟩) M.length 0 (by omega)
  rw [← List.range_eq_range'] at hws
  obtain ⟨ws, hw⟩ : ∃ ws, ws = (List.range M.length).map fun i => lineT i (N i) := ⟨_, rfl⟩
  obtain ⟨D, hD⟩ : ∃ D, D = (List.range M.length).map fun i => setAll (initN M.length i) (N i) := ⟨_, rfl⟩
  rw [← hw, ← hD] at hws
  have hwl : ws.length = M.length := by rw [hw]; simp
  have hno : ∀ w ∈ ws, ¬ (10 : UInt8) ∈ w := fun w hm => by
    rw [hw] at hm
    obtain ⟨i, hi, rfl⟩ := List.mem_map.1 hm
    have hi : i < M.length := by simpa using hi
    exact line_no10 (by omega) fun k hk => by have := ((hN i hi).2 k hk).1; omega
  have hPL : PL 6 0 (txt N M.length) = goR 6 0 ws := by
    have := PL_flat (tail := []) (by simp) ws 6 0 rfl hno
    rw [List.append_nil, if_pos ⟨rfl, by omega⟩] at this
    rw [txt_flat, ← hw]; exact this
  have hcut := goR_cut q2 ws 0 (by omega)
  rw [hws] at hcut
  have hprog : progM (txt N M.length) = some D := by
    unfold progM
    rw [hPL]
    cases hg : goR 6 0 ws with
    | none => rw [hg] at hcut; cases hcut
    | some R =>
      rw [hg, Option.bind_some] at hcut
      have hRl := (goR_len hg).1
      by_cases hx : ∃ r ∈ R, true ∈ r.drop M.length
      · rw [if_pos hx] at hcut; cases hcut
      · rw [if_neg hx] at hcut
        have hD2 : D = R.map (·.take M.length) := Option.some.inj hcut
        simp only
        rw [if_pos ⟨by omega, fitB_iff.2 (by rw [hRl, hwl]; exact hx)⟩, hRl, hwl, hD2]
  have hDl : D.length = M.length := by rw [hD]; simp
  have hget : ∀ i, i < M.length → D.getD i [] = setAll (initN M.length i) (N i) := fun i hi => by rw [hD]; simp [List.getD, hi]
  have hat : ∀ a b, a < M.length → b < M.length → at2 D a b = (decide (b ∈ N a) || decide (b = a)) := fun a b ha hb => by
    unfold at2
    rw [hget a ha, setAll_get _ _ _ (fun k hk => by rw [initN_len]; exact ((hN a ha).2 k hk).1)]
    congr 1
    unfold initN
    rw [getD_set_eq _ _ _ _ _ (by simp; exact ha)]
    by_cases e : b = a
    · rw [if_pos e, decide_eq_true e]
    · rw [if_neg e, decide_eq_false e, List.getD_eq_getElem?_getD, List.getElem?_replicate]; split <;> rfl
  have hre : reachM D M.length = M := by
    refine reach_back h hDl (fun i hi => by rw [hget i hi, setAll_len, initN_len]) (fun a b ha hb e => ?_) (fun a ha => by rw [hat a a ha ha]; simp) (fun a c ha hc => ?_)
    · rw [hat a b ha hb, Bool.or_eq_true, decide_eq_true_eq, decide_eq_true_eq] at e
      rcases e with e | e
      · exact ((hN a ha).2 b e).2.2
      · rw [e]; exact ord_refl h ha
    · have := hcv a c ha hc
      rw [hat a c ha ((hN a ha).2 c this).1, decide_eq_true this]; rfl
  unfold parseP
  rw [hprog]
  show (if chkN (reachM D D.length) = 0 then (reachM D D.length, 0) else ([], 11)) = _
  rw [hDl, hre, if_pos h]
end Go.Proofs.Ytckkoollolacoaa
