/- parseLines of package plan, by what it computes. No condition. -/
import Derived.Test.YtckkoollolacoaaNPlan4
set_option maxRecDepth 100000
set_option maxHeartbeats 8000000
set_option linter.all false
namespace Go.Proofs.Ytckkoollolacoaa
open Go Go.Ev

theorem own_bl1 {P : Program} {N : Nx} {h : H} {id : B} {r : List Bool} {j fin : Nat} (o : Own h id (r.map V.b)) (hj : j < r.length) (hf : j < fin) : L1 P id 0 j fin h N = N.go P (.b (r.getD j false)) h := by
  rw [o.row.l1 (by rw [List.length_map]; exact hj) hf]
  congr 1
  simp [List.getD, hj]
theorem repL_rep (z : V) : ∀ n, repL [z] n = List.replicate n z
  | 0 => rfl
  | n + 1 => by
    have e : repL [z] (n + 1) = app [z] (repL [z] n) := rfl
    rw [e, app_eq, repL_rep z n]; rfl
theorem rep_b (n : Nat) : repL [V.b false] n = (List.replicate n false).map V.b := by rw [repL_rep, List.map_replicate]
theorem preB_two {s : List UInt8} {k : Nat} (hk : k < 6) : preB s (nameB (k : Int) ++ [62]) = decide (s.take 2 = [UInt8.ofNat (97 + k), 62]) := by
  rw [nameB_nat hk]
  unfold preB
  show (decide (2 ≤ s.length) && decide (s.take 2 = [UInt8.ofNat (97 + k), 62])) = _
  by_cases h2 : 2 ≤ s.length
  · rw [decide_eq_true h2, Bool.true_and]
  · rw [decide_eq_false h2, Bool.false_and, decide_eq_false]
    intro e
    have := congrArg List.length e
    rw [List.length_take] at this
    simp at this; omega
theorem one_at {s : List UInt8} {i : Nat} (hi : i < s.length) : (s.take (i + 1)).drop i = [s.getD i 0] := by
  rw [List.take_succ_eq_append_getElem hi, List.drop_append_of_le_length (by rw [List.length_take]; omega), List.drop_eq_nil_of_le (by rw [List.length_take]; omega)]
  simp [List.getD, hi]
theorem drop_at {s : List UInt8} {i : Nat} (hi : i < s.length) : s.drop i = s.getD i 0 :: s.drop (i + 1) := by
  rw [List.drop_eq_getElem_cons hi]; simp [List.getD, hi]
theorem levelP_one (c : UInt8) : levelP [c] = if 97 ≤ c.toNat ∧ c.toNat < 103 then (((c.toNat - 97 : Nat) : Int), true) else (0, false) := by
  unfold levelP
  by_cases hc : 97 ≤ c.toNat ∧ c.toNat < 103
  · rw [if_pos hc, if_pos ⟨rfl, hc.1, hc.2⟩]; rfl
  · rw [if_neg hc, if_neg (fun e => hc e.2)]
def upd (f : Nat → B) (k : Nat) (id : B) (j : Nat) : B := if j = k then id else f j
theorem upd_rows (f : Nat → B) (k m fin : Nat) (cap : Option Nat) (id : B) : (List.range (k + 1)).map (rv (upd f k id) m fin cap) = (List.range k).map (rv f m fin cap) ++ [.l id 0 0 m fin cap] := by
  rw [List.range_succ, List.map_append]
  congr 1
  · apply List.map_congr_left
    intro j hj
    have : j < k := by simpa using hj
    unfold rv upd
    rw [if_neg (by omega)]
  · show [rv (upd f k id) m fin cap k] = _
    unfold rv upd
    rw [if_pos rfl]
theorem vb_lt {h : H} {lo el : Nat} {v : V} {xs : List V} (a : Vb h lo el v xs) {j : B} (hj : isOf v j) : B.val j < B.val h.next := by
  rcases a.lst with ⟨rfl, _⟩ | ⟨id, g, off, fin, cap, rfl, h2, h3, h4⟩
  · obtain ⟨_, _, _, _, _, e⟩ := hj; cases e
  · obtain ⟨_, _, _, _, _, e⟩ := hj; cases e; exact h3
theorem own_lt {h : H} {id : B} {xs : List V} (o : Own h id xs) : B.val id < B.val h.next := by obtain ⟨_, _, _, _, _, _, h6, _⟩ := o; exact h6
/-- rows of six that were parsed: in blocks of their own, from lo on -/
structure Prs (g : H) (lo : Nat) (w : V) (f : Nat → B) (M : Mt) : Prop where
  vb : Vb g lo 38 w ((List.range M.length).map (rv f 6 6 (some 6)))
  top : Top g w
  rows : Rws g f M
  inj : ∀ i j, i < M.length → j < M.length → f i = f j → i = j
  off : ∀ i, i < M.length → ¬ isOf w (f i)
  lo : ∀ i, i < M.length → lo ≤ B.val (f i)
  six : ∀ i, i < M.length → (M.getD i []).length = 6
  few : M.length ≤ 6
theorem getD_snoc (M : Mt) (r : List Bool) (i : Nat) : (M ++ [r]).getD i [] = if i < M.length then M.getD i [] else if i = M.length then r else [] := by
  simp only [List.getD_eq_getElem?_getD]
  by_cases h : i < M.length
  · rw [if_pos h, List.getElem?_append_left h]
  · rw [if_neg h, List.getElem?_append_right (by omega)]
    by_cases e : i = M.length
    · subst e; simp
    · rw [if_neg e, List.getElem?_eq_none (by simp; omega)]; rfl
theorem pl_stop {r k : Nat} {s : List UInt8} (h : s.take 2 ≠ [UInt8.ofNat (97 + k), 62]) (hs : s ≠ []) : PL r k s = none := by
  cases r with
  | zero => exact PL_zero hs
  | succ r => rw [PL_succ hs, if_neg h]

theorem parseLines_ok {h : H} {s : List UInt8} (hs : s.length ≤ 1000000) (hf : B.val h.floor ≤ B.val h.next) :
    FnOk Try.prog 20 [sv s] h fun y h' => Stay nowhere h h' ∧ ((PL 6 0 s = none ∧ y = .tu [.l0, .b false]) ∨ ∃ R v f, PL 6 0 s = some R ∧ y = .tu [v, .b (decide (0 < R.length))] ∧ Prs h' (B.val h.next) v f R) := by
  refine fn_go c20 (by intro hb; cases hb) (by simp) (by simp) fun Q hQ => ?_
  simp only [slotsF, Nat.reduceAdd]
  repeat' (first
    | with_reducible (first | apply Ok.sq | apply Ok.block | apply Ok.rg | apply Ok.dw hmix | apply Ok.cd | apply Ok.skip | apply Ok.exit | apply Ok.ret)
    | simp (disch := first | omega | (simp only [List.length_append, List.length_cons, List.length_nil, List.length_take, List.length_drop, List.length_map, List.length_set]; omega)) only [wlk, ↓get_put', Nat.reduceEqDiff, Nat.reduceLT, ↓reduceIte, Int.reduceToNat, Nat.reducePow, Nat.min_eq_left, Nat.reduceAdd, Nat.reduceMul, Int.reduceAdd, Int.reduceSub, Int.reduceNeg, Int.reduceMul, Int.reduceEq, Int.reduceLT, Int.reduceLE, Nat.reduceSub, Int.reduceNatCast, Nat.reduceLeDiff]
    | (with_reducible (first | apply cd_split | apply gd_split)) <;> (intro hc; (try simp only [Bool.not_eq_true', Bool.not_eq_false'] at hc); (try simp only [hc]); (try simp only [hcl, Int.not_lt, Int.not_le, Nat.not_lt, Nat.not_le] at hc); try omega))
  refine Ok.lp (fun m t g => ∃ (M : Mt) (s' : List UInt8) (w : V) (f : Nat → B), s'.length ≤ s.length ∧ m = s'.length ∧ Stay nowhere h g ∧ PL 6 0 s = (PL (6 - M.length) M.length s').map (M ++ ·) ∧ Prs g (B.val h.next) w f M ∧ get 0 t = sv s' ∧ get 4 t = w) s.length ?_ ?_
  · simp (disch := first | omega | (simp only [List.length_append, List.length_cons, List.length_nil, List.length_take, List.length_drop, List.length_map, List.length_set]; omega)) only [wlk, ↓get_put', Nat.reduceEqDiff, Nat.reduceLT, ↓reduceIte, Int.reduceToNat, Nat.reducePow, Nat.min_eq_left, Nat.reduceAdd, Nat.reduceMul, Int.reduceAdd, Int.reduceSub, Int.reduceNeg, Int.reduceMul, Int.reduceEq, Int.reduceLT, Int.reduceLE, Nat.reduceSub, Int.reduceNatCast, Nat.reduceLeDiff]
    refine ⟨[], s, .l0, fun _ => .h, Nat.le_refl _, rfl, Stay.refl _ _, ?_, ⟨Vb.nil _ _ _, ?_, ⟨fun i hi => absurd hi (Nat.not_lt_zero _)⟩, fun i j hi => absurd hi (Nat.not_lt_zero _), fun i hi => absurd hi (Nat.not_lt_zero _), fun i hi => absurd hi (Nat.not_lt_zero _), fun i hi => absurd hi (Nat.not_lt_zero _), Nat.zero_le _⟩, rfl, rfl⟩
    · show _ = (PL 6 0 s).map (fun x => [] ++ x)
      cases PL 6 0 s <;> rfl
    · intro id g off n fin cap e; cases e
  rintro I hI m t g ⟨M, s', w, f, hsl, rfl, st, hP, pr, f0, f4⟩
  have hfg := st.fl hf
  have hrl : ((List.range M.length).map (rv f 6 6 (some 6))).length = M.length := by simp
  by_cases hne : s' = []
  case pos =>
    subst hne
    have hd : decide (([] : List UInt8) = []) = true := rfl
    repeat' (first
      | with_reducible (first | apply Ok.sq | apply Ok.block | apply Ok.rg | apply Ok.dw hmix | apply Ok.cd | apply Ok.skip | apply Ok.exit | apply Ok.ret)
      | simp (disch := first | omega | (simp only [List.length_append, List.length_cons, List.length_nil, List.length_take, List.length_drop, List.length_map, List.length_set]; omega)) only [wlk, ↓get_put', Nat.reduceEqDiff, Nat.reduceLT, ↓reduceIte, Int.reduceToNat, Nat.reducePow, Nat.min_eq_left, Nat.reduceAdd, Nat.reduceMul, Int.reduceAdd, Int.reduceSub, Int.reduceNeg, Int.reduceMul, Int.reduceEq, Int.reduceLT, Int.reduceLE, Nat.reduceSub, Int.reduceNatCast, Nat.reduceLeDiff, f0, f4, hd, pr.vb.lst.ln, hrl]
      | (with_reducible (first | apply cd_split | apply gd_split)) <;> (intro hc; (try simp only [Bool.not_eq_true', Bool.not_eq_false'] at hc); (try simp only [hc]); (try simp only [hcl, Int.not_lt, Int.not_le, Nat.not_lt, Nat.not_le] at hc); try omega))
    subst hQ
    refine ⟨st, .inr ⟨M, w, f, ?_, ?_, pr⟩⟩
    · rw [hP, PL_nil]; simp
    · congr 3
      congr 1
      rw [decide_eq_decide]; omega
  have hd : decide (s' = []) = false := decide_eq_false hne
  have hlen0 : 0 < s'.length := by cases s' with | nil => exact absurd rfl hne | cons _ _ => simp
  have bad : PL (6 - M.length) M.length s' = none → PL 6 0 s = none := fun e => by rw [hP, e]; rfl
  by_cases hk : M.length = 6
  case pos =>
    repeat' (first
      | with_reducible (first | apply Ok.sq | apply Ok.block | apply Ok.rg | apply Ok.dw hmix | apply Ok.cd | apply Ok.skip | apply Ok.exit | apply Ok.ret)
      | simp (disch := first | omega | (simp only [List.length_append, List.length_cons, List.length_nil, List.length_take, List.length_drop, List.length_map, List.length_set]; omega)) only [wlk, ↓get_put', Nat.reduceEqDiff, Nat.reduceLT, ↓reduceIte, Int.reduceToNat, Nat.reducePow, Nat.min_eq_left, Nat.reduceAdd, Nat.reduceMul, Int.reduceAdd, Int.reduceSub, Int.reduceNeg, Int.reduceMul, Int.reduceEq, Int.reduceLT, Int.reduceLE, Nat.reduceSub, Int.reduceNatCast, Nat.reduceLeDiff, f0, f4, hd, pr.vb.lst.ln, hrl]
      | (with_reducible (first | apply cd_split | apply gd_split)) <;> (intro hc; (try simp only [Bool.not_eq_true', Bool.not_eq_false'] at hc); (try simp only [hc]); (try simp only [hcl, Int.not_lt, Int.not_le, Nat.not_lt, Nat.not_le] at hc); try omega))
    subst hQ
    exact ⟨st, .inl ⟨bad (by rw [hk]; exact PL_zero hne), rfl⟩⟩
  have hk6 : M.length < 6 := by have := pr.few; omega
  have hpre := preB_two (s := s') hk6
  have hnl := nameB_len (M.length : Int)
  have hhl : (nameB (M.length : Int) ++ [62]).length = 2 := by rw [nameB_nat hk6]; rfl
  repeat' (first
    | with_reducible (first | apply Ok.sq | apply Ok.block | apply Ok.rg | apply Ok.dw hmix | apply Ok.cd | apply Ok.skip | apply Ok.exit | apply Ok.ret)
    | simp (disch := first | omega | (simp only [List.length_append, List.length_cons, List.length_nil, List.length_take, List.length_drop, List.length_map, List.length_set]; omega)) only [wlk, ↓get_put', Nat.reduceEqDiff, Nat.reduceLT, ↓reduceIte, Int.reduceToNat, Nat.reducePow, Nat.min_eq_left, Nat.reduceAdd, Nat.reduceMul, Int.reduceAdd, Int.reduceSub, Int.reduceNeg, Int.reduceMul, Int.reduceEq, Int.reduceLT, Int.reduceLE, Nat.reduceSub, Int.reduceNatCast, Nat.reduceLeDiff, f0, f4, hd, pr.vb.lst.ln, hrl]
    | (with_reducible (first | apply cd_split | apply gd_split)) <;> (intro hc; (try simp only [Bool.not_eq_true', Bool.not_eq_false'] at hc); (try simp only [hc]); (try simp only [hcl, Int.not_lt, Int.not_le, Nat.not_lt, Nat.not_le] at hc); try omega))
  refine CL.pure (head_ok (M.length : Int)) ?_
  repeat' (first
    | with_reducible (first | apply Ok.sq | apply Ok.block | apply Ok.rg | apply Ok.dw hmix | apply Ok.cd | apply Ok.skip | apply Ok.exit | apply Ok.ret)
    | simp (disch := first | omega | (simp only [List.length_append, List.length_cons, List.length_nil, List.length_take, List.length_drop, List.length_map, List.length_set]; omega)) only [wlk, ↓get_put', Nat.reduceEqDiff, Nat.reduceLT, ↓reduceIte, Int.reduceToNat, Nat.reducePow, Nat.min_eq_left, Nat.reduceAdd, Nat.reduceMul, Int.reduceAdd, Int.reduceSub, Int.reduceNeg, Int.reduceMul, Int.reduceEq, Int.reduceLT, Int.reduceLE, Nat.reduceSub, Int.reduceNatCast, Nat.reduceLeDiff, f0]
    | (with_reducible (first | apply cd_split | apply gd_split)) <;> (intro hc; (try simp only [Bool.not_eq_true', Bool.not_eq_false'] at hc); (try simp only [hc]); (try simp only [hcl, Int.not_lt, Int.not_le, Nat.not_lt, Nat.not_le] at hc); try omega))
  refine CL.pure (prefix_ok (by omega) (by omega)) ?_
  rw [hpre]
  by_cases htk : s'.take 2 = [UInt8.ofNat (97 + M.length), 62]
  case neg =>
    have hdt : decide (s'.take 2 = [UInt8.ofNat (97 + M.length), 62]) = false := decide_eq_false htk
    rw [hdt]
    repeat' (first
      | with_reducible (first | apply Ok.sq | apply Ok.block | apply Ok.rg | apply Ok.dw hmix | apply Ok.cd | apply Ok.skip | apply Ok.exit | apply Ok.ret)
      | simp (disch := first | omega | (simp only [List.length_append, List.length_cons, List.length_nil, List.length_take, List.length_drop, List.length_map, List.length_set]; omega)) only [wlk, ↓get_put', Nat.reduceEqDiff, Nat.reduceLT, ↓reduceIte, Int.reduceToNat, Nat.reducePow, Nat.min_eq_left, Nat.reduceAdd, Nat.reduceMul, Int.reduceAdd, Int.reduceSub, Int.reduceNeg, Int.reduceMul, Int.reduceEq, Int.reduceLT, Int.reduceLE, Nat.reduceSub, Int.reduceNatCast, Nat.reduceLeDiff]
      | (with_reducible (first | apply cd_split | apply gd_split)) <;> (intro hc; (try simp only [Bool.not_eq_true', Bool.not_eq_false'] at hc); (try simp only [hc]); (try simp only [hcl, Int.not_lt, Int.not_le, Nat.not_lt, Nat.not_le] at hc); try omega))
    subst hQ
    exact ⟨st, .inl ⟨bad (pl_stop htk hne), rfl⟩⟩
  have hdt : decide (s'.take 2 = [UInt8.ofNat (97 + M.length), 62]) = true := decide_eq_true htk
  rw [hdt]
  have hl2 : 2 ≤ s'.length := by
    have := congrArg List.length htk
    rw [List.length_take] at this
    simp at this; omega
  have hPs : PL (6 - M.length) M.length s' = (match rowB (initN 6 M.length) (s'.drop 2) with | none => none | some (row, s') => (PL (6 - (M.length + 1)) (M.length + 1) s').map (row :: ·)) := by
    rw [show 6 - M.length = (6 - (M.length + 1)) + 1 by omega, PL_succ hne, if_pos htk]
    rfl
  repeat' (first
    | with_reducible (first | apply Ok.sq | apply Ok.block | apply Ok.rg | apply Ok.dw hmix | apply Ok.cd | apply Ok.skip | apply Ok.exit | apply Ok.ret)
    | simp (disch := first | omega | (simp only [List.length_append, List.length_cons, List.length_nil, List.length_take, List.length_drop, List.length_map, List.length_set]; omega)) only [wlk, ↓get_put', Nat.reduceEqDiff, Nat.reduceLT, ↓reduceIte, Int.reduceToNat, Nat.reducePow, Nat.min_eq_left, Nat.reduceAdd, Nat.reduceMul, Int.reduceAdd, Int.reduceSub, Int.reduceNeg, Int.reduceMul, Int.reduceEq, Int.reduceLT, Int.reduceLE, Nat.reduceSub, Int.reduceNatCast, Nat.reduceLeDiff, f0, f4]
    | (with_reducible (first | apply cd_split | apply gd_split)) <;> (intro hc; (try simp only [Bool.not_eq_true', Bool.not_eq_false'] at hc); (try simp only [hc]); (try simp only [hcl, Int.not_lt, Int.not_le, Nat.not_lt, Nat.not_le] at hc); try omega))
  refine AL.own (by rw [rep_b]; simp) hfg fun g1 s1 n1 o1 => ?_
  rw [show repL [V.b false] 6 = (List.replicate 6 false).map V.b from rep_b 6] at o1
  repeat' (first
    | with_reducible (first | apply Ok.sq | apply Ok.block | apply Ok.rg | apply Ok.dw hmix | apply Ok.cd | apply Ok.skip | apply Ok.exit | apply Ok.ret)
    | simp (disch := first | omega | (simp only [List.length_append, List.length_cons, List.length_nil, List.length_take, List.length_drop, List.length_map, List.length_set]; omega)) only [wlk, ↓get_put', Nat.reduceEqDiff, Nat.reduceLT, ↓reduceIte, Int.reduceToNat, Nat.reducePow, Nat.min_eq_left, Nat.reduceAdd, Nat.reduceMul, Int.reduceAdd, Int.reduceSub, Int.reduceNeg, Int.reduceMul, Int.reduceEq, Int.reduceLT, Int.reduceLE, Nat.reduceSub, Int.reduceNatCast, Nat.reduceLeDiff, f4]
    | (with_reducible (first | apply cd_split | apply gd_split)) <;> (intro hc; (try simp only [Bool.not_eq_true', Bool.not_eq_false'] at hc); (try simp only [hc]); (try simp only [hcl, Int.not_lt, Int.not_le, Nat.not_lt, Nat.not_le] at hc); try omega))
  refine ST.own (y := .b true) o1 rfl rfl (by omega) (by omega) fun g2 o2 s2 => ?_
  rw [show ((List.replicate 6 false).map V.b).set M.length (.b true) = (initN 6 M.length).map V.b by unfold initN; rw [List.map_set]] at o2
  have hlt := fun i hi => own_lt (pr.rows.own i hi)
  have s02 : Stay nowhere g g2 := by
    exact s1.past' s2 fun i e => by rw [e]; exact Nat.le_refl _
  repeat' (first
    | with_reducible (first | apply Ok.sq | apply Ok.block | apply Ok.rg | apply Ok.dw hmix | apply Ok.cd | apply Ok.skip | apply Ok.exit | apply Ok.ret)
    | simp (disch := first | omega | (simp only [List.length_append, List.length_cons, List.length_nil, List.length_take, List.length_drop, List.length_map, List.length_set]; omega)) only [wlk, ↓get_put', Nat.reduceEqDiff, Nat.reduceLT, ↓reduceIte, Int.reduceToNat, Nat.reducePow, Nat.min_eq_left, Nat.reduceAdd, Nat.reduceMul, Int.reduceAdd, Int.reduceSub, Int.reduceNeg, Int.reduceMul, Int.reduceEq, Int.reduceLT, Int.reduceLE, Nat.reduceSub, Int.reduceNatCast, Nat.reduceLeDiff, f0]
    | (with_reducible (first | apply cd_split | apply gd_split)) <;> (intro hc; (try simp only [Bool.not_eq_true', Bool.not_eq_false'] at hc); (try simp only [hc]); (try simp only [hcl, Int.not_lt, Int.not_le, Nat.not_lt, Nat.not_le] at hc); try omega))
  refine CL.pure (head_ok (M.length : Int)) ?_
  repeat' (first
    | with_reducible (first | apply Ok.sq | apply Ok.block | apply Ok.rg | apply Ok.dw hmix | apply Ok.cd | apply Ok.skip | apply Ok.exit | apply Ok.ret)
    | simp (disch := first | omega | (simp only [List.length_append, List.length_cons, List.length_nil, List.length_take, List.length_drop, List.length_map, List.length_set]; omega)) only [wlk, ↓get_put', Nat.reduceEqDiff, Nat.reduceLT, ↓reduceIte, Int.reduceToNat, Nat.reducePow, Nat.min_eq_left, Nat.reduceAdd, Nat.reduceMul, Int.reduceAdd, Int.reduceSub, Int.reduceNeg, Int.reduceMul, Int.reduceEq, Int.reduceLT, Int.reduceLE, Nat.reduceSub, Int.reduceNatCast, Nat.reduceLeDiff, f0, hhl]
    | (with_reducible (first | apply cd_split | apply gd_split)) <;> (intro hc; (try simp only [Bool.not_eq_true', Bool.not_eq_false'] at hc); (try simp only [hc]); (try simp only [hcl, Int.not_lt, Int.not_le, Nat.not_lt, Nat.not_le] at hc); try omega))
  refine Ok.lp (fun m t g' => ∃ (i : Nat) (row : List Bool), 2 ≤ i ∧ i ≤ s'.length ∧ m = s'.length - i ∧ Stay (fun j => j = g.next) g2 g' ∧ Own g' g.next (row.map V.b) ∧ row.length = 6 ∧ rowB (initN 6 M.length) (s'.drop 2) = rowB row (s'.drop i) ∧
    get 0 t = sv s' ∧ get 4 t = w ∧ get 5 t = .i .i64 (M.length : Int) ∧ get 6 t = .l g.next 0 0 6 6 (some 6) ∧ get 7 t = .i .i64 (i : Int)) (s'.length - 2) ?_ ?_
  · simp (disch := first | omega | (simp only [List.length_append, List.length_cons, List.length_nil, List.length_take, List.length_drop, List.length_map, List.length_set]; omega)) only [wlk, ↓get_put', Nat.reduceEqDiff, Nat.reduceLT, ↓reduceIte, Int.reduceToNat, Nat.reducePow, Nat.min_eq_left, Nat.reduceAdd, Nat.reduceMul, Int.reduceAdd, Int.reduceSub, Int.reduceNeg, Int.reduceMul, Int.reduceEq, Int.reduceLT, Int.reduceLE, Nat.reduceSub, Int.reduceNatCast, Nat.reduceLeDiff, f0, f4]
    exact ⟨2, _, Nat.le_refl _, hl2, rfl, Stay.refl _ _, o2, initN_len _ _, rfl, trivial, trivial, trivial, trivial, rfl⟩
  clear f0 f4
  rintro J hJ m t g3 ⟨i, row, hi2, hil, rfl, st3, o3, hrow, hR, f0, f4, f5, f6, f7⟩
  have s03 : Stay nowhere g g3 := s02.past' st3 fun i e => by rw [e]; exact Nat.le_refl _
  have st3' := st.trans s03
  by_cases hii : i < s'.length
  case neg =>
    obtain rfl : i = s'.length := by omega
    repeat' (first
      | with_reducible (first | apply Ok.sq | apply Ok.block | apply Ok.rg | apply Ok.dw hmix | apply Ok.cd | apply Ok.skip | apply Ok.exit | apply Ok.ret)
      | simp (disch := first | omega | (simp only [List.length_append, List.length_cons, List.length_nil, List.length_take, List.length_drop, List.length_map, List.length_set]; omega)) only [wlk, ↓get_put', Nat.reduceEqDiff, Nat.reduceLT, ↓reduceIte, Int.reduceToNat, Nat.reducePow, Nat.min_eq_left, Nat.reduceAdd, Nat.reduceMul, Int.reduceAdd, Int.reduceSub, Int.reduceNeg, Int.reduceMul, Int.reduceEq, Int.reduceLT, Int.reduceLE, Nat.reduceSub, Int.reduceNatCast, Nat.reduceLeDiff, f0, f7]
      | (with_reducible (first | apply cd_split | apply gd_split)) <;> (intro hc; (try simp only [Bool.not_eq_true', Bool.not_eq_false'] at hc); (try simp only [hc]); (try simp only [hcl, Int.not_lt, Int.not_le, Nat.not_lt, Nat.not_le] at hc); try omega))
    subst hQ
    refine ⟨st3', .inl ⟨bad ?_, rfl⟩⟩
    rw [hPs, hR, List.drop_length]; rfl
  have hdr := drop_at hii
  have he1 : ((i : Int) + 1).toNat = i + 1 := by omega
  have hc256 := (s'.getD i 0).toNat_lt
  by_cases h10 : (s'.getD i 0).toNat = 10
  case pos =>
    have hc10 : s'.getD i 0 = 10 := UInt8.toNat_inj.1 (by rw [h10]; rfl)
    have hrB : rowB row (s'.drop i) = some (row, s'.drop (i + 1)) := by rw [hdr]; unfold rowB; rw [if_pos hc10]
    have hvb3 := pr.vb.grow s03
    have hlt3 : B.val g.next < B.val g3.next := own_lt o3
    repeat' (first
      | with_reducible (first | apply Ok.sq | apply Ok.block | apply Ok.rg | apply Ok.dw hmix | apply Ok.cd | apply Ok.skip | apply Ok.exit | apply Ok.ret)
      | simp (disch := first | omega | (simp only [List.length_append, List.length_cons, List.length_nil, List.length_take, List.length_drop, List.length_map, List.length_set]; omega)) only [wlk, ↓get_put', Nat.reduceEqDiff, Nat.reduceLT, ↓reduceIte, Int.reduceToNat, Nat.reducePow, Nat.min_eq_left, Nat.reduceAdd, Nat.reduceMul, Int.reduceAdd, Int.reduceSub, Int.reduceNeg, Int.reduceMul, Int.reduceEq, Int.reduceLT, Int.reduceLE, Nat.reduceSub, Int.reduceNatCast, Nat.reduceLeDiff, f0, f4, f6, f7, Int.toNat_natCast]
      | (with_reducible (first | apply cd_split | apply gd_split)) <;> (intro hc; (try simp only [Bool.not_eq_true', Bool.not_eq_false'] at hc); (try simp only [hc]); (try simp only [hcl, Int.not_lt, Int.not_le, Nat.not_lt, Nat.not_le] at hc); try omega))
    refine AL.push hvb3 (fun u => by simp (disch := first | omega | (simp only [List.length_append, List.length_cons, List.length_nil, List.length_take, List.length_drop, List.length_map, List.length_set]; omega)) only [wlk, ↓get_put', Nat.reduceEqDiff, Nat.reduceLT, ↓reduceIte, Int.reduceToNat, Nat.reducePow, Nat.min_eq_left, Nat.reduceAdd, Nat.reduceMul, Int.reduceAdd, Int.reduceSub, Int.reduceNeg, Int.reduceMul, Int.reduceEq, Int.reduceLT, Int.reduceLE, Nat.reduceSub, Int.reduceNatCast, Nat.reduceLeDiff, f4]) rfl rfl (st3'.fl hf) st3'.next (by rw [hrl]; omega) fun w' g4 u hw' s4 hi4 tp => ?_
    have off3 : ∀ i, i < M.length + 1 → ¬ isOf w (upd f M.length g.next i) := fun i hi ho => by
      unfold upd at ho
      by_cases e : i = M.length
      · rw [if_pos e] at ho
        have := vb_lt pr.vb ho
        omega
      · rw [if_neg e] at ho
        exact pr.off i (by omega) ho
    have hlt' : ∀ i, i < M.length + 1 → B.val (upd f M.length g.next i) < B.val g3.next := fun i hi => by
      unfold upd
      by_cases e : i = M.length
      · rw [if_pos e]; exact hlt3
      · rw [if_neg e]; have := hlt i (by omega); have := s03.next; omega
    have own4 : ∀ i, i < M.length + 1 → Own g4 (upd f M.length g.next i) (((M ++ [row]).getD i []).map V.b) := fun i hi => by
      have hno := off3 i hi
      rw [getD_snoc]
      unfold upd at hno ⊢
      by_cases e : i = M.length
      · rw [if_pos e] at hno ⊢
        rw [if_neg (by omega), if_pos e]
        exact o3.stay s4 hno
      · rw [if_neg e] at hno ⊢
        rw [if_pos (by omega)]
        exact ((pr.rows.own i (by omega)).stay s03 fun h => h).stay s4 hno
    have hlen1 : (M ++ [row]).length = M.length + 1 := by simp
    repeat' (first
      | with_reducible (first | apply Ok.sq | apply Ok.block | apply Ok.rg | apply Ok.dw hmix | apply Ok.cd | apply Ok.skip | apply Ok.exit | apply Ok.ret)
      | simp (disch := first | omega | (simp only [List.length_append, List.length_cons, List.length_nil, List.length_take, List.length_drop, List.length_map, List.length_set]; omega)) only [wlk, ↓get_put', Nat.reduceEqDiff, Nat.reduceLT, ↓reduceIte, Int.reduceToNat, Nat.reducePow, Nat.min_eq_left, Nat.reduceAdd, Nat.reduceMul, Int.reduceAdd, Int.reduceSub, Int.reduceNeg, Int.reduceMul, Int.reduceEq, Int.reduceLT, Int.reduceLE, Nat.reduceSub, Int.reduceNatCast, Nat.reduceLeDiff, f0, f7, Int.toNat_natCast]
      | (with_reducible (first | apply cd_split | apply gd_split)) <;> (intro hc; (try simp only [Bool.not_eq_true', Bool.not_eq_false'] at hc); (try simp only [hc]); (try simp only [hcl, Int.not_lt, Int.not_le, Nat.not_lt, Nat.not_le] at hc); try omega))
    refine lp_next hI (s'.drop (i + 1)).length (by rw [List.length_drop]; omega) ⟨M ++ [row], s'.drop (i + 1), w', upd f M.length g.next, by rw [List.length_drop]; omega, rfl, st3'.past' s4 fun i hi => hvb3.own i hi, ?_, ⟨by rw [hlen1, upd_rows]; exact hw', tp, ⟨fun i hi => own4 i (by omega)⟩, fun i j hi hj e => ?_, fun i hi ho => ?_, fun i hi => ?_, fun i hi => ?_, by omega⟩, ?_, ?_⟩
    · rw [hP, hPs, hR, hrB, hlen1]
      show Option.map _ ((PL _ _ _).map _) = _
      rw [Option.map_map]
      congr 1
      funext x
      show M ++ (row :: x) = M ++ [row] ++ x
      rw [List.append_assoc]; rfl
    · rw [hlen1] at hi hj
      unfold upd at e
      by_cases ei : i = M.length <;> by_cases ej : j = M.length
      · omega
      · rw [if_pos ei, if_neg ej] at e
        have := hlt j (by omega); rw [← e] at this; omega
      · rw [if_neg ei, if_pos ej] at e
        have := hlt i (by omega); rw [e] at this; omega
      · rw [if_neg ei, if_neg ej] at e
        exact pr.inj i j (by omega) (by omega) e
    · rw [hlen1] at hi
      rcases hi4 _ ho with h5 | h5
      · exact off3 i hi h5
      · have := hlt' i hi; omega
    · rw [hlen1] at hi
      unfold upd
      by_cases e : i = M.length
      · rw [if_pos e]; exact st.next
      · rw [if_neg e]; exact pr.lo i (by omega)
    · rw [hlen1] at hi
      rw [getD_snoc]
      by_cases e : i = M.length
      · rw [if_neg (by omega), if_pos e]; exact hrow
      · rw [if_pos (by omega)]; exact pr.six i (by omega)
    · simp (disch := first | omega | (simp only [List.length_append, List.length_cons, List.length_nil, List.length_take, List.length_drop, List.length_map, List.length_set]; omega)) only [wlk, ↓get_put', Nat.reduceEqDiff, Nat.reduceLT, ↓reduceIte, Int.reduceToNat, Nat.reducePow, Nat.min_eq_left, Nat.reduceAdd, Nat.reduceMul, Int.reduceAdd, Int.reduceSub, Int.reduceNeg, Int.reduceMul, Int.reduceEq, Int.reduceLT, Int.reduceLE, Nat.reduceSub, Int.reduceNatCast, Nat.reduceLeDiff, he1]
    · simp (disch := first | omega | (simp only [List.length_append, List.length_cons, List.length_nil, List.length_take, List.length_drop, List.length_map, List.length_set]; omega)) only [wlk, ↓get_put', Nat.reduceEqDiff, Nat.reduceLT, ↓reduceIte, Int.reduceToNat, Nat.reducePow, Nat.min_eq_left, Nat.reduceAdd, Nat.reduceMul, Int.reduceAdd, Int.reduceSub, Int.reduceNeg, Int.reduceMul, Int.reduceEq, Int.reduceLT, Int.reduceLE, Nat.reduceSub, Int.reduceNatCast, Nat.reduceLeDiff]
  have hc10 : ¬ s'.getD i 0 = 10 := fun e => h10 (by rw [e]; rfl)
  have hone := one_at hii
  have hlv := levelP_one (s'.getD i 0)
  by_cases hnm : 97 ≤ (s'.getD i 0).toNat ∧ (s'.getD i 0).toNat < 103
  case neg =>
    rw [if_neg hnm] at hlv
    have hrB : rowB row (s'.drop i) = none := by rw [hdr]; unfold rowB; rw [if_neg hc10, if_neg (fun e => hnm ⟨e.1, e.2.1⟩)]
    repeat' (first
      | with_reducible (first | apply Ok.sq | apply Ok.block | apply Ok.rg | apply Ok.dw hmix | apply Ok.cd | apply Ok.skip | apply Ok.exit | apply Ok.ret)
      | simp (disch := first | omega | (simp only [List.length_append, List.length_cons, List.length_nil, List.length_take, List.length_drop, List.length_map, List.length_set]; omega)) only [wlk, ↓get_put', Nat.reduceEqDiff, Nat.reduceLT, ↓reduceIte, Int.reduceToNat, Nat.reducePow, Nat.min_eq_left, Nat.reduceAdd, Nat.reduceMul, Int.reduceAdd, Int.reduceSub, Int.reduceNeg, Int.reduceMul, Int.reduceEq, Int.reduceLT, Int.reduceLE, Nat.reduceSub, Int.reduceNatCast, Nat.reduceLeDiff, f0, f4, f6, f7, Int.toNat_natCast, he1, hone]
      | (with_reducible (first | apply cd_split | apply gd_split)) <;> (intro hc; (try simp only [Bool.not_eq_true', Bool.not_eq_false'] at hc); (try simp only [hc]); (try simp only [hcl, Int.not_lt, Int.not_le, Nat.not_lt, Nat.not_le] at hc); try omega))
    refine CL.pure (level_ok (by show 1 ≤ _; omega)) ?_
    rw [hlv]
    repeat' (first
      | with_reducible (first | apply Ok.sq | apply Ok.block | apply Ok.rg | apply Ok.dw hmix | apply Ok.cd | apply Ok.skip | apply Ok.exit | apply Ok.ret)
      | simp (disch := first | omega | (simp only [List.length_append, List.length_cons, List.length_nil, List.length_take, List.length_drop, List.length_map, List.length_set]; omega)) only [wlk, ↓get_put', Nat.reduceEqDiff, Nat.reduceLT, ↓reduceIte, Int.reduceToNat, Nat.reducePow, Nat.min_eq_left, Nat.reduceAdd, Nat.reduceMul, Int.reduceAdd, Int.reduceSub, Int.reduceNeg, Int.reduceMul, Int.reduceEq, Int.reduceLT, Int.reduceLE, Nat.reduceSub, Int.reduceNatCast, Nat.reduceLeDiff]
      | (with_reducible (first | apply cd_split | apply gd_split)) <;> (intro hc; (try simp only [Bool.not_eq_true', Bool.not_eq_false'] at hc); (try simp only [hc]); (try simp only [hcl, Int.not_lt, Int.not_le, Nat.not_lt, Nat.not_le] at hc); try omega))
    subst hQ
    exact ⟨st3', .inl ⟨bad (by rw [hPs, hR, hrB]), rfl⟩⟩
  rw [if_pos hnm] at hlv
  cases hset : row.getD ((s'.getD i 0).toNat - 97) false with
  | true =>
    have hrB : rowB row (s'.drop i) = none := by rw [hdr]; unfold rowB; rw [if_neg hc10, if_neg (fun e => by rw [hset] at e; exact absurd e.2.2 (by decide))]
    repeat' (first
      | with_reducible (first | apply Ok.sq | apply Ok.block | apply Ok.rg | apply Ok.dw hmix | apply Ok.cd | apply Ok.skip | apply Ok.exit | apply Ok.ret)
      | simp (disch := first | omega | (simp only [List.length_append, List.length_cons, List.length_nil, List.length_take, List.length_drop, List.length_map, List.length_set]; omega)) only [wlk, ↓get_put', Nat.reduceEqDiff, Nat.reduceLT, ↓reduceIte, Int.reduceToNat, Nat.reducePow, Nat.min_eq_left, Nat.reduceAdd, Nat.reduceMul, Int.reduceAdd, Int.reduceSub, Int.reduceNeg, Int.reduceMul, Int.reduceEq, Int.reduceLT, Int.reduceLE, Nat.reduceSub, Int.reduceNatCast, Nat.reduceLeDiff, f0, f4, f6, f7, Int.toNat_natCast, he1, hone]
      | (with_reducible (first | apply cd_split | apply gd_split)) <;> (intro hc; (try simp only [Bool.not_eq_true', Bool.not_eq_false'] at hc); (try simp only [hc]); (try simp only [hcl, Int.not_lt, Int.not_le, Nat.not_lt, Nat.not_le] at hc); try omega))
    refine CL.pure (level_ok (by show 1 ≤ _; omega)) ?_
    rw [hlv]
    repeat' (first
      | with_reducible (first | apply Ok.sq | apply Ok.block | apply Ok.rg | apply Ok.dw hmix | apply Ok.cd | apply Ok.skip | apply Ok.exit | apply Ok.ret)
      | simp (disch := first | omega | (simp only [List.length_append, List.length_cons, List.length_nil, List.length_take, List.length_drop, List.length_map, List.length_set]; omega)) only [wlk, ↓get_put', Nat.reduceEqDiff, Nat.reduceLT, ↓reduceIte, Int.reduceToNat, Nat.reducePow, Nat.min_eq_left, Nat.reduceAdd, Nat.reduceMul, Int.reduceAdd, Int.reduceSub, Int.reduceNeg, Int.reduceMul, Int.reduceEq, Int.reduceLT, Int.reduceLE, Nat.reduceSub, Int.reduceNatCast, Nat.reduceLeDiff, f6, own_bl1 o3, hrow, hset, Int.toNat_natCast]
      | (with_reducible (first | apply cd_split | apply gd_split)) <;> (intro hc; (try simp only [Bool.not_eq_true', Bool.not_eq_false'] at hc); (try simp only [hc]); (try simp only [hcl, Int.not_lt, Int.not_le, Nat.not_lt, Nat.not_le] at hc); try omega))
    subst hQ
    exact ⟨st3', .inl ⟨bad (by rw [hPs, hR, hrB]), rfl⟩⟩
  | false =>
    have hrB : rowB row (s'.drop i) = rowB (row.set ((s'.getD i 0).toNat - 97) true) (s'.drop (i + 1)) := by rw [hdr]; conv => lhs; unfold rowB; rw [if_neg hc10, if_pos ⟨hnm.1, hnm.2, hset⟩]
    repeat' (first
      | with_reducible (first | apply Ok.sq | apply Ok.block | apply Ok.rg | apply Ok.dw hmix | apply Ok.cd | apply Ok.skip | apply Ok.exit | apply Ok.ret)
      | simp (disch := first | omega | (simp only [List.length_append, List.length_cons, List.length_nil, List.length_take, List.length_drop, List.length_map, List.length_set]; omega)) only [wlk, ↓get_put', Nat.reduceEqDiff, Nat.reduceLT, ↓reduceIte, Int.reduceToNat, Nat.reducePow, Nat.min_eq_left, Nat.reduceAdd, Nat.reduceMul, Int.reduceAdd, Int.reduceSub, Int.reduceNeg, Int.reduceMul, Int.reduceEq, Int.reduceLT, Int.reduceLE, Nat.reduceSub, Int.reduceNatCast, Nat.reduceLeDiff, f0, f4, f6, f7, Int.toNat_natCast, he1, hone]
      | (with_reducible (first | apply cd_split | apply gd_split)) <;> (intro hc; (try simp only [Bool.not_eq_true', Bool.not_eq_false'] at hc); (try simp only [hc]); (try simp only [hcl, Int.not_lt, Int.not_le, Nat.not_lt, Nat.not_le] at hc); try omega))
    refine CL.pure (level_ok (by show 1 ≤ _; omega)) ?_
    rw [hlv]
    repeat' (first
      | with_reducible (first | apply Ok.sq | apply Ok.block | apply Ok.rg | apply Ok.dw hmix | apply Ok.cd | apply Ok.skip | apply Ok.exit | apply Ok.ret)
      | simp (disch := first | omega | (simp only [List.length_append, List.length_cons, List.length_nil, List.length_take, List.length_drop, List.length_map, List.length_set]; omega)) only [wlk, ↓get_put', Nat.reduceEqDiff, Nat.reduceLT, ↓reduceIte, Int.reduceToNat, Nat.reducePow, Nat.min_eq_left, Nat.reduceAdd, Nat.reduceMul, Int.reduceAdd, Int.reduceSub, Int.reduceNeg, Int.reduceMul, Int.reduceEq, Int.reduceLT, Int.reduceLE, Nat.reduceSub, Int.reduceNatCast, Nat.reduceLeDiff, f6, own_bl1 o3, hrow, hset, Int.toNat_natCast]
      | (with_reducible (first | apply cd_split | apply gd_split)) <;> (intro hc; (try simp only [Bool.not_eq_true', Bool.not_eq_false'] at hc); (try simp only [hc]); (try simp only [hcl, Int.not_lt, Int.not_le, Nat.not_lt, Nat.not_le] at hc); try omega))
    refine ST.own (y := .b true) o3 rfl rfl (by omega) (by omega) fun g4 o4 s4 => ?_
    rw [← List.map_set] at o4
    repeat' (first
      | with_reducible (first | apply Ok.sq | apply Ok.block | apply Ok.rg | apply Ok.dw hmix | apply Ok.cd | apply Ok.skip | apply Ok.exit | apply Ok.ret)
      | simp (disch := first | omega | (simp only [List.length_append, List.length_cons, List.length_nil, List.length_take, List.length_drop, List.length_map, List.length_set]; omega)) only [wlk, ↓get_put', Nat.reduceEqDiff, Nat.reduceLT, ↓reduceIte, Int.reduceToNat, Nat.reducePow, Nat.min_eq_left, Nat.reduceAdd, Nat.reduceMul, Int.reduceAdd, Int.reduceSub, Int.reduceNeg, Int.reduceMul, Int.reduceEq, Int.reduceLT, Int.reduceLE, Nat.reduceSub, Int.reduceNatCast, Nat.reduceLeDiff, f7]
      | (with_reducible (first | apply cd_split | apply gd_split)) <;> (intro hc; (try simp only [Bool.not_eq_true', Bool.not_eq_false'] at hc); (try simp only [hc]); (try simp only [hcl, Int.not_lt, Int.not_le, Nat.not_lt, Nat.not_le] at hc); try omega))
    refine lp_next hJ (s'.length - (i + 1)) (by omega) ⟨i + 1, _, by omega, by omega, rfl, st3.trans s4, o4, by rw [List.length_set]; exact hrow, by rw [hR, hrB], ?_, ?_, ?_, ?_, ?_⟩
    all_goals (simp (disch := first | omega | (simp only [List.length_append, List.length_cons, List.length_nil, List.length_take, List.length_drop, List.length_map, List.length_set]; omega)) only [wlk, ↓get_put', Nat.reduceEqDiff, Nat.reduceLT, ↓reduceIte, Int.reduceToNat, Nat.reducePow, Nat.min_eq_left, Nat.reduceAdd, Nat.reduceMul, Int.reduceAdd, Int.reduceSub, Int.reduceNeg, Int.reduceMul, Int.reduceEq, Int.reduceLT, Int.reduceLE, Nat.reduceSub, Int.reduceNatCast, Nat.reduceLeDiff, f0, f4, f5, f6]; try rfl)
end Go.Proofs.Ytckkoollolacoaa
