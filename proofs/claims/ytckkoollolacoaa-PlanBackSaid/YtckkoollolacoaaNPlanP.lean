/- Texts of plans: what both parsers make of them, and that it is the same. No condition. -/
import Derived.Test.YtckkoollolacoaaNPlan1
import Derived.Test.YtckkoollolacoaaNPlanM
set_option maxRecDepth 100000
set_option maxHeartbeats 4000000
set_option linter.all false
namespace Go.Proofs.Ytckkoollolacoaa
open Go Go.Ev

/-- a row's names, up to the newline -/
def rowB : List Bool → List UInt8 → Option (List Bool × List UInt8)
  | _, [] => none
  | row, c :: r => if c = 10 then some (row, r) else if 97 ≤ c.toNat ∧ c.toNat < 103 ∧ row.getD (c.toNat - 97) false = false then rowB (row.set (c.toNat - 97) true) r else none
/-- a row's names, all of them -/
def rowR : List Bool → List UInt8 → Option (List Bool)
  | row, [] => some row
  | row, c :: r => if 97 ≤ c.toNat ∧ c.toNat < 103 ∧ c.toNat - 97 < row.length ∧ row.getD (c.toNat - 97) false = false then rowR (row.set (c.toNat - 97) true) r else none
def initN (n a : Nat) : List Bool := (List.replicate n false).set a true
theorem initN_len (n a : Nat) : (initN n a).length = n := by simp [initN]
/-- the lines of levels a .., of which r are free -/
def PL : Nat → Nat → List UInt8 → Option Mt
  | _, _, [] => some []
  | 0, _, _ :: _ => none
  | r + 1, a, c :: s => if (c :: s).take 2 = [UInt8.ofNat (97 + a), 62] then
      (match rowB (initN 6 a) ((c :: s).drop 2) with
      | none => none
      | some (row, s') => (PL r (a + 1) s').map (row :: ·))
    else none
theorem PL_nil (r a : Nat) : PL r a [] = some [] := by cases r <;> rfl
theorem PL_zero {a : Nat} {s : List UInt8} (h : s ≠ []) : PL 0 a s = none := by cases s <;> first | exact absurd rfl h | rfl
theorem PL_succ {r a : Nat} {s : List UInt8} (h : s ≠ []) : PL (r + 1) a s = if s.take 2 = [UInt8.ofNat (97 + a), 62] then (match rowB (initN 6 a) (s.drop 2) with | none => none | some (row, s') => (PL r (a + 1) s').map (row :: ·)) else none := by cases s <;> first | exact absurd rfl h | rfl
theorem rowB_len {row row' : List Bool} {w r : List UInt8} (h : rowB row w = some (row', r)) : row'.length = row.length ∧ r.length < w.length := by
  induction w generalizing row with
  | nil => cases h
  | cons c w ih =>
    unfold rowB at h
    split at h
    · cases h; exact ⟨rfl, by simp⟩
    · split at h
      · have := ih h; rw [List.length_set] at this; exact ⟨this.1, by simp; omega⟩
      · cases h
/-- no row names a level from n on -/
def fitB (M : Mt) (n : Nat) : Bool := decide (∀ i, i < n → ¬ true ∈ (M.getD i []).drop n)
def progM (s : List UInt8) : Option Mt := match PL 6 0 s with
  | none => none
  | some R => if 0 < R.length ∧ fitB R R.length = true then some (R.map (·.take R.length)) else none
def goR (n : Nat) : Nat → List (List UInt8) → Option Mt
  | _, [] => some []
  | a, w :: ws => if 2 ≤ w.length ∧ w.take 2 = nameB (a : Int) ++ [62] then (match rowR (initN n a) (w.drop 2) with | none => none | some row => (goR n (a + 1) ws).map (row :: ·)) else none
def refM (s : List UInt8) : Option Mt := if (lnS s s.length).2 = s.length ∧ 1 ≤ (lnS s s.length).1.length ∧ (lnS s s.length).1.length ≤ 6 then goR (lnS s s.length).1.length 0 (lnS s s.length).1 else none

def flat (ws : List (List UInt8)) : List UInt8 := (ws.map (· ++ [10])).flatten
theorem lnS_spec (s : List UInt8) : ∀ i, i ≤ s.length → s.take (lnS s i).2 = flat (lnS s i).1 ∧ (∀ w ∈ (lnS s i).1, ¬ (10 : UInt8) ∈ w) ∧ ¬ (10 : UInt8) ∈ (s.take i).drop (lnS s i).2 ∧ (lnS s i).2 ≤ i
  | 0, _ => ⟨by simp [lnS, flat], by simp [lnS], by simp [lnS], Nat.le_refl _⟩
  | i + 1, hi => by
    obtain ⟨a1, a2, a3, a4⟩ := lnS_spec s i (by omega)
    have hg : s.getD i 0 = s[i] := by simp [List.getD, (by omega : i < s.length)]
    have ht : s.take (i + 1) = s.take i ++ [s[i]] := by rw [List.take_succ_eq_append_getElem (by omega)]
    unfold lnS
    split
    · rename_i h10
      have hti : s.take i = s.take (lnS s i).2 ++ (s.take i).drop (lnS s i).2 := by
        conv => lhs; rw [← List.take_append_drop (lnS s i).2 (s.take i)]
        rw [List.take_take, Nat.min_eq_left a4]
      refine ⟨?_, ?_, ?_, Nat.le_refl _⟩
      · show s.take (i + 1) = flat ((lnS s i).1 ++ [(s.take i).drop (lnS s i).2])
        rw [ht, ← hg, h10]
        unfold flat
        rw [List.map_append, List.flatten_append]
        show _ = flat (lnS s i).1 ++ _
        rw [← a1]
        simp only [List.map_cons, List.map_nil, List.flatten_cons, List.flatten_nil, List.append_nil]
        rw [← List.append_assoc, ← hti]
      · intro w hw
        rcases List.mem_append.1 hw with hw | hw
        · exact a2 w hw
        · rw [List.mem_singleton.1 hw]; exact a3
      · show ¬ (10 : UInt8) ∈ (s.take (i + 1)).drop (i + 1)
        rw [List.drop_eq_nil_of_le (by rw [List.length_take]; omega)]; simp
    · rename_i h10
      refine ⟨a1, a2, ?_, by omega⟩
      rw [ht, List.drop_append_of_le_length (by simp; omega)]
      intro hm
      rcases List.mem_append.1 hm with hm | hm
      · exact a3 hm
      · have := List.mem_singleton.1 hm
        exact h10 (by rw [hg, ← this])
theorem lnS_all (s : List UInt8) : s = flat (lnS s s.length).1 ++ s.drop (lnS s s.length).2 ∧ (∀ w ∈ (lnS s s.length).1, ¬ (10 : UInt8) ∈ w) ∧ ¬ (10 : UInt8) ∈ s.drop (lnS s s.length).2 := by
  obtain ⟨a1, a2, a3, a4⟩ := lnS_spec s s.length (Nat.le_refl _)
  rw [List.take_length] at a3
  exact ⟨by rw [← a1, List.take_append_drop], a2, a3⟩

theorem rowB_none {w : List UInt8} (h : ¬ (10 : UInt8) ∈ w) : ∀ row, rowB row w = none := by
  induction w with
  | nil => intro row; rfl
  | cons c w ih =>
    intro row
    unfold rowB
    rw [if_neg (fun e => h (by rw [e]; simp))]
    split
    · exact ih (fun hm => h (List.mem_cons_of_mem _ hm)) _
    · rfl
theorem rowB_line {w rest : List UInt8} (h : ¬ (10 : UInt8) ∈ w) : ∀ row : List Bool, row.length = 6 → rowB row (w ++ 10 :: rest) = (rowR row w).map fun r => (r, rest) := by
  induction w with
  | nil => intro row _; rfl
  | cons c w ih =>
    intro row hr
    show rowB row (c :: (w ++ 10 :: rest)) = _
    unfold rowB rowR
    rw [if_neg (fun e => h (by rw [e]; simp))]
    by_cases hc : 97 ≤ c.toNat ∧ c.toNat < 103 ∧ row.getD (c.toNat - 97) false = false
    · rw [if_pos hc, if_pos ⟨hc.1, hc.2.1, by omega, hc.2.2⟩]
      exact ih (fun hm => h (List.mem_cons_of_mem _ hm)) _ (by rw [List.length_set]; exact hr)
    · rw [if_neg hc, if_neg (fun e => hc ⟨e.1, e.2.1, e.2.2.2⟩)]; rfl
theorem nameB_nat {a : Nat} (h : a < 6) : nameB (a : Int) = [UInt8.ofNat (97 + a)] := by rw [nameB_in (by omega) (by omega)]; simp
theorem head_iff {w X : List UInt8} {a : Nat} (ha : a < 6) : (w ++ 10 :: X).take 2 = [UInt8.ofNat (97 + a), 62] ↔ 2 ≤ w.length ∧ w.take 2 = nameB (a : Int) ++ [62] := by
  rw [nameB_nat ha]
  match w with
  | [] =>
    constructor
    · intro e
      have : some (10 : UInt8) = some (UInt8.ofNat (97 + a)) := congrArg List.head? e
      have := congrArg UInt8.toNat (Option.some.inj this)
      simp at this; omega
    · intro e; simp at e
  | [c] =>
    constructor
    · intro e; simp at e
    · intro e; simp at e
  | c :: d :: w => simp
theorem PL_flat {tail : List UInt8} (ht : ¬ (10 : UInt8) ∈ tail) : ∀ (ws : List (List UInt8)) (r a : Nat), a + r = 6 → (∀ w ∈ ws, ¬ (10 : UInt8) ∈ w) → PL r a (flat ws ++ tail) = if tail = [] ∧ ws.length ≤ r then goR 6 a ws else none
  | [], r, a, ha, _ => by
    show PL r a tail = _
    cases tail with
    | nil => rw [PL_nil, if_pos ⟨rfl, Nat.zero_le _⟩]; rfl
    | cons c t =>
      rw [if_neg (fun e => by cases e.1)]
      cases r with
      | zero => rfl
      | succ r =>
        rw [PL_succ (by simp)]
        split
        · rw [rowB_none (fun hm => ht (List.mem_of_mem_drop hm))]
        · rfl
  | w :: ws, r, a, ha, hw => by
    have e : flat (w :: ws) ++ tail = w ++ 10 :: (flat ws ++ tail) := by simp [flat]
    rw [e]
    have hne : w ++ 10 :: (flat ws ++ tail) ≠ [] := by simp
    cases r with
    | zero => rw [PL_zero hne, if_neg (fun e => by simp at e)]
    | succ r =>
      rw [PL_succ hne]
      have ih := PL_flat ht ws r (a + 1) (by omega) (fun w h => hw w (List.mem_cons_of_mem _ h))
      by_cases hh : (w ++ 10 :: (flat ws ++ tail)).take 2 = [UInt8.ofNat (97 + a), 62]
      · have h2 := (head_iff (by omega)).1 hh
        rw [if_pos hh, List.drop_append_of_le_length h2.1, rowB_line (fun hm => hw w (List.mem_cons_self ..) (List.mem_of_mem_drop hm)) _ (initN_len _ _)]
        unfold goR
        rw [if_pos h2]
        cases rowR (initN 6 a) (w.drop 2) with
        | none => simp
        | some row =>
          show (PL r (a + 1) (flat ws ++ tail)).map _ = _
          rw [ih]
          by_cases hc : tail = [] ∧ ws.length ≤ r
          · rw [if_pos hc, if_pos ⟨hc.1, by simp; omega⟩]
          · rw [if_neg hc, if_neg (fun e => hc ⟨e.1, by have := e.2; simp at this; omega⟩)]; rfl
      · rw [if_neg hh]
        unfold goR
        rw [if_neg (fun e => hh ((head_iff (by omega)).2 e))]
        simp
theorem rowR_len {w : List UInt8} : ∀ {row row' : List Bool}, rowR row w = some row' → row'.length = row.length ∧ ∀ i, row.getD i false = true → row'.getD i false = true := by
  induction w with
  | nil => intro row row' h; cases h; exact ⟨rfl, fun _ h => h⟩
  | cons c w ih =>
    intro row row' h
    unfold rowR at h
    split at h
    · rename_i hc
      obtain ⟨a1, a2⟩ := ih h
      rw [List.length_set] at a1
      refine ⟨a1, fun i hi => a2 i ?_⟩
      rw [getD_set_eq _ _ _ _ _ hc.2.2.1]
      split
      · rfl
      · exact hi
    · cases h
theorem mem_drop_iff {r : List Bool} {n : Nat} : true ∈ r.drop n ↔ ∃ i, n ≤ i ∧ r.getD i false = true := by
  constructor
  · intro h
    obtain ⟨i, hi, e⟩ := List.getElem_of_mem h
    rw [List.length_drop] at hi
    refine ⟨n + i, by omega, ?_⟩
    rw [List.getElem_drop] at e
    simp [List.getD, (by omega : n + i < r.length), e]
  · rintro ⟨i, hi, e⟩
    by_cases hl : i < r.length
    · have : r[i] = true := by simpa [List.getD, hl] using e
      rw [← this]
      rw [List.mem_iff_getElem]
      exact ⟨i - n, by rw [List.length_drop]; omega, by rw [List.getElem_drop]; congr 1; omega⟩
    · simp [List.getD, hl] at e
theorem getD_take (r : List Bool) (n i : Nat) : (r.take n).getD i false = if i < n then r.getD i false else false := by
  simp only [List.getD_eq_getElem?_getD, List.getElem?_take]
  split <;> rfl
theorem rowR_cut {n : Nat} (hn : n ≤ 6) {w : List UInt8} : ∀ {row : List Bool}, row.length = 6 → ¬ true ∈ row.drop n → rowR (row.take n) w = (rowR row w).bind fun r => if true ∈ r.drop n then none else some (r.take n) := by
  induction w with
  | nil => intro row _ h; show some _ = (some row).bind _; rw [Option.bind_some, if_neg h]
  | cons c w ih =>
    intro row hr hd
    unfold rowR
    rw [List.length_take, hr, Nat.min_eq_left hn]
    by_cases hc : 97 ≤ c.toNat ∧ c.toNat < 103
    · by_cases hb : row.getD (c.toNat - 97) false = false
      · rw [if_pos (c := _ ∧ _ ∧ c.toNat - 97 < 6 ∧ _) ⟨hc.1, hc.2, by omega, hb⟩]
        by_cases hi : c.toNat - 97 < n
        · rw [if_pos ⟨hc.1, hc.2, hi, by rw [getD_take, if_pos hi]; exact hb⟩, ← List.take_set]
          refine ih (by rw [List.length_set]; exact hr) ?_
          rw [mem_drop_iff]
          rintro ⟨i, h1, h2⟩
          rw [getD_set_eq _ _ _ _ _ (by omega), if_neg (by omega)] at h2
          exact hd (mem_drop_iff.2 ⟨i, h1, h2⟩)
        · rw [if_neg (fun e => hi e.2.2.1)]
          cases h : rowR (row.set (c.toNat - 97) true) w with
          | none => rfl
          | some r =>
            have := (rowR_len h).2 (c.toNat - 97) (by rw [getD_set_eq _ _ _ _ _ (by omega), if_pos rfl])
            rw [Option.bind_some, if_pos (mem_drop_iff.2 ⟨_, by omega, this⟩)]
      · rw [if_neg (c := _ ∧ _ ∧ c.toNat - 97 < 6 ∧ _) (fun e => hb e.2.2.2)]
        rw [if_neg]
        · rfl
        · intro e
          rw [getD_take, if_pos e.2.2.1] at e
          exact hb e.2.2.2
    · rw [if_neg (fun e => hc ⟨e.1, e.2.1⟩), if_neg (fun e => hc ⟨e.1, e.2.1⟩)]; rfl
theorem initN_cut {n a : Nat} (ha : a < n) (hn : n ≤ 6) : (initN 6 a).take n = initN n a ∧ ¬ true ∈ (initN 6 a).drop n := by
  constructor
  · unfold initN
    rw [List.take_set, List.take_replicate, Nat.min_eq_left hn]
  · rw [mem_drop_iff]
    rintro ⟨i, h1, h2⟩
    unfold initN at h2
    rw [getD_set_eq _ _ _ _ _ (by simp; omega), if_neg (by omega)] at h2
    have : (List.replicate 6 false).getD i false = false := by rw [List.getD_eq_getElem?_getD, List.getElem?_replicate]; split <;> rfl
    rw [this] at h2; cases h2
theorem goR_len {n : Nat} : ∀ {ws : List (List UInt8)} {a : Nat} {R : Mt}, goR n a ws = some R → R.length = ws.length ∧ ∀ r ∈ R, r.length = n
  | [], a, R, h => by cases h; exact ⟨rfl, fun r h => by cases h⟩
  | w :: ws, a, R, h => by
    unfold goR at h
    split at h
    · split at h
      · cases h
      · rename_i row hrow
        cases hg : goR n (a + 1) ws with
        | none => rw [hg] at h; cases h
        | some R' =>
          rw [hg] at h
          cases h
          obtain ⟨b1, b2⟩ := goR_len hg
          refine ⟨by simp [b1], fun r hr => ?_⟩
          rcases List.mem_cons.1 hr with rfl | hr
          · rw [(rowR_len hrow).1, initN_len]
          · exact b2 r hr
    · cases h
theorem goR_cut {n : Nat} (hn : n ≤ 6) : ∀ (ws : List (List UInt8)) (a : Nat), a + ws.length ≤ n → goR n a ws = (goR 6 a ws).bind fun R => if ∃ r ∈ R, true ∈ r.drop n then none else some (R.map (·.take n))
  | [], a, _ => by
    show some _ = (some _).bind _
    rw [Option.bind_some, if_neg (by simp)]; rfl
  | w :: ws, a, ha => by
    have ih := goR_cut hn ws (a + 1) (by simp at ha; omega)
    have ha' : a < n := by simp at ha; omega
    obtain ⟨i1, i2⟩ := initN_cut ha' hn
    unfold goR
    by_cases hh : 2 ≤ w.length ∧ w.take 2 = nameB (a : Int) ++ [62]
    · rw [if_pos hh, if_pos hh, ← i1, rowR_cut hn (initN_len _ _) i2]
      cases hr : rowR (initN 6 a) (w.drop 2) with
      | none => rfl
      | some row =>
        simp only [Option.bind_some]
        by_cases ht : true ∈ row.drop n
        · rw [if_pos ht]
          cases hg : goR 6 (a + 1) ws with
          | none => rfl
          | some R => simp only [Option.map_some, Option.bind_some]; rw [if_pos ⟨row, by simp, ht⟩]
        · rw [if_neg ht]
          simp only
          rw [ih]
          cases hg : goR 6 (a + 1) ws with
          | none => rfl
          | some R =>
            simp only [Option.map_some, Option.bind_some]
            by_cases hx : ∃ r ∈ R, true ∈ r.drop n
            · rw [if_pos hx, if_pos (by obtain ⟨r, h1, h2⟩ := hx; exact ⟨r, List.mem_cons_of_mem _ h1, h2⟩)]; rfl
            · rw [if_neg hx, if_neg]
              · rfl
              · rintro ⟨r, h1, h2⟩
                rcases List.mem_cons.1 h1 with rfl | h1
                · exact ht h2
                · exact hx ⟨r, h1, h2⟩
    · rw [if_neg hh, if_neg hh]; rfl
theorem fitB_iff {R : Mt} : fitB R R.length = true ↔ ¬ ∃ r ∈ R, true ∈ r.drop R.length := by
  unfold fitB
  rw [decide_eq_true_eq]
  constructor
  · rintro h ⟨r, h1, h2⟩
    obtain ⟨i, hi, e⟩ := List.getElem_of_mem h1
    have := h i hi
    rw [show R.getD i [] = R[i] by simp [List.getD, hi], e] at this
    exact this h2
  · intro h i hi hm
    rw [show R.getD i [] = R[i] by simp [List.getD, hi]] at hm
    exact h ⟨_, List.getElem_mem hi, hm⟩
/-- BOTH PARSERS SEE THE SAME -/
theorem parse_same (s : List UInt8) : refM s = progM s := by
  obtain ⟨a1, a2, a3⟩ := lnS_all s
  have hle := (lnS_le s s.length).1
  generalize hw : (lnS s s.length).1 = ws at a1 a2
  have hP : PL 6 0 s = if s.drop (lnS s s.length).2 = [] ∧ ws.length ≤ 6 then goR 6 0 ws else none := by
    have := PL_flat a3 ws 6 0 rfl a2
    rwa [← a1] at this
  have hd : s.drop (lnS s s.length).2 = [] ↔ (lnS s s.length).2 = s.length := by
    rw [List.drop_eq_nil_iff]; omega
  unfold refM progM
  rw [hw, hP]
  by_cases hc : (lnS s s.length).2 = s.length ∧ ws.length ≤ 6
  · rw [if_pos (c := _ ∧ ws.length ≤ 6) ⟨hd.2 hc.1, hc.2⟩]
    by_cases h1 : 1 ≤ ws.length
    · rw [if_pos ⟨hc.1, h1, hc.2⟩, goR_cut hc.2 ws 0 (by omega)]
      cases hg : goR 6 0 ws with
      | none => rfl
      | some R =>
        have hl := (goR_len hg).1
        simp only [Option.bind_some]
        by_cases hx : ∃ r ∈ R, true ∈ r.drop ws.length
        · rw [if_pos hx, if_neg]
          rintro ⟨_, h2⟩
          rw [fitB_iff, hl] at h2
          exact h2 hx
        · rw [if_neg hx, if_pos ⟨by omega, fitB_iff.2 (by rw [hl]; exact hx)⟩, hl]
    · rw [if_neg (fun e => h1 e.2.1)]
      have : ws = [] := by cases ws <;> first | rfl | (simp at h1)
      subst this
      rfl
  · rw [if_neg (fun e => hc ⟨e.1, e.2.2⟩), if_neg (fun e => hc ⟨hd.1 e.1, e.2⟩)]
theorem progM_rows {s : List UInt8} {M : Mt} (h : progM s = some M) : 1 ≤ M.length ∧ M.length ≤ 6 ∧ ∀ i, i < M.length → (M.getD i []).length = M.length := by
  rw [← parse_same] at h
  unfold refM at h
  split at h
  · rename_i hc
    obtain ⟨b1, b2⟩ := goR_len h
    refine ⟨by omega, by omega, fun i hi => ?_⟩
    rw [show M.getD i [] = M[i] by simp [List.getD, hi], b2 _ (List.getElem_mem hi), b1]
  · cases h
/-- what parsing tells -/
def parseP (s : List UInt8) : Mt × Nat := match progM s with
  | none => ([], 10)
  | some M => if chkN (reachM M M.length) = 0 then (reachM M M.length, 0) else ([], 11)
theorem reach_chk {M : Mt} (h1 : 1 ≤ M.length) (h2 : M.length ≤ 6) (h3 : ∀ i, i < M.length → (M.getD i []).length = M.length) : chkN (reachM M M.length) = 0 ∨ chkN (reachM M M.length) = 11 := by
  have : squareB (reachM M M.length) = true := decide_eq_true ⟨by rw [reachM_len]; exact h1, by rw [reachM_len]; exact h2, fun i hi => by rw [reachM_rowlen, reachM_len]; rw [reachM_len] at hi; exact h3 i hi⟩
  unfold chkN
  rw [if_pos this]
  split
  · exact .inl rfl
  · exact .inr rfl
end Go.Proofs.Ytckkoollolacoaa
