/- The document's Parse, by what it computes. No condition. -/
import Derived.Test.YtckkoollolacoaaNPlan6
set_option maxRecDepth 100000
set_option maxHeartbeats 8000000
set_option linter.all false
namespace Go.Proofs.Ytckkoollolacoaa
open Go Go.Ev

def dV (f : Nat → B) (n a : Nat) : List V := (List.range n).map fun j => if j < a then rv f n n (some n) j else .l0
theorem dV_len (f : Nat → B) (n a : Nat) : (dV f n a).length = n := by simp [dV]
theorem dV_zero (f : Nat → B) (n : Nat) : repL [V.l0] n = dV f n 0 := by
  rw [repL_rep]
  apply List.ext_getElem (by simp [dV])
  intro j h1 h2
  simp [dV]
theorem dV_all (f : Nat → B) (n : Nat) : dV f n n = (List.range n).map (rv f n n (some n)) := by
  unfold dV; apply List.map_congr_left; intro j hj; rw [if_pos (by simpa using hj)]
theorem dV_succ (f : Nat → B) {n a : Nat} (id : B) (ha : a < n) : (dV f n a).set a (.l id 0 0 n n (some n)) = dV (upd f a id) n (a + 1) := by
  apply List.ext_getElem (by simp [dV])
  intro j h1 h2
  rw [List.getElem_set]
  simp only [dV, List.getElem_map, List.getElem_range]
  by_cases e : a = j
  · subst e; rw [if_pos rfl, if_pos (Nat.lt_succ_self _)]; unfold rv upd; rw [if_pos rfl]
  · rw [if_neg e]
    by_cases hl : j < a
    · rw [if_pos hl, if_pos (by omega)]; unfold rv upd; rw [if_neg (by omega)]
    · rw [if_neg hl, if_neg (by omega)]
theorem dV_get (f : Nat → B) {n a j : Nat} (hj : j < n) (ha : j < a) : (dV f n a).getD j .u = .l (f j) 0 0 n n (some n) := by simp [dV, List.getD, hj, ha, rv]
theorem own_l1 {P : Program} {N : Nx} {h : H} {id : B} {f : Nat → B} {n a j : Nat} (o : Own h id (dV f n a)) (hj : j < n) (ha : j < a) : L1 P id 0 j n h N = N.go P (.l (f j) 0 0 n n (some n)) h := by
  rw [o.row.l1 (by rw [dV_len]; exact hj) hj, dV_get f hj ha]
theorem goR_stop {n a : Nat} {w : List UInt8} {ws : List (List UInt8)} (h : ¬ (2 ≤ w.length ∧ w.take 2 = nameB (a : Int) ++ [62])) : goR n a (w :: ws) = none := by unfold goR; rw [if_neg h]
theorem goR_go {n a : Nat} {w : List UInt8} {ws : List (List UInt8)} (h : 2 ≤ w.length ∧ w.take 2 = nameB (a : Int) ++ [62]) : goR n a (w :: ws) = (match rowR (initN n a) (w.drop 2) with | none => none | some row => (goR n (a + 1) ws).map (row :: ·)) := by
  conv => lhs; unfold goR; rw [if_pos h]
  rfl
theorem flat_mem {ws : List (List UInt8)} {x : List UInt8} (h : x ∈ ws) : x.length ≤ (flat ws).length := by
  induction ws with
  | nil => cases h
  | cons w ws ih =>
    have e : flat (w :: ws) = w ++ [10] ++ flat ws := by simp [flat]
    rw [e, List.length_append, List.length_append]
    rcases List.mem_cons.1 h with rfl | h
    · omega
    · have := ih h; omega
theorem stay_past {p q : B → Prop} {a b c : H} (x : Stay p a b) (y : Stay q b c) (h : ∀ i, q i → p i ∨ B.val a.next ≤ B.val i) : Stay p a c :=
  ⟨y.floor.trans x.floor, Nat.le_trans x.next y.next, fun id h1 h2 => (y.get id (Nat.lt_of_lt_of_le h1 x.next) fun hq => (h id hq).elim h2 fun h3 => by omega).trans (x.get id h1 h2)⟩
theorem upd_self (f : Nat → B) (a : Nat) (id : B) : upd f a id a = id := if_pos rfl
theorem drop_atL {ws : List (List UInt8)} {i : Nat} (hi : i < ws.length) : ws.drop i = ws.getD i [] :: ws.drop (i + 1) := by
  rw [List.drop_eq_getElem_cons hi]; simp [List.getD, hi]

theorem rparse_ok {h : H} {s : List UInt8} (hs : s.length ≤ 1000000) (hf : B.val h.floor ≤ B.val h.next) :
    FnOk Try.prog 8 [sv s] h fun y h' => ∃ v, y = .tu [.a [v], .i .i64 ((parseP s).2 : Int)] ∧ Mx h' v (parseP s).1 ∧ Stay nowhere h h' := by
  refine fn_go c8 (by intro hb; cases hb) (by simp) (by simp) fun Q hQ => ?_
  simp only [slotsF, Nat.reduceAdd]
  repeat' (first
    | with_reducible (first | apply Ok.sq | apply Ok.block | apply Ok.rg | apply Ok.dw hmix | apply Ok.cd | apply Ok.skip | apply Ok.exit | apply Ok.ret)
    | simp (disch := first | omega | (simp only [List.length_append, List.length_cons, List.length_nil, List.length_take, List.length_drop, List.length_map, List.length_set]; omega)) only [wlk, ↓get_put', Nat.reduceEqDiff, Nat.reduceLT, ↓reduceIte, Int.reduceToNat, Nat.reducePow, Nat.min_eq_left, Nat.reduceAdd, Nat.reduceMul, Int.reduceAdd, Int.reduceSub, Int.reduceNeg, Int.reduceMul, Int.reduceEq, Int.reduceLT, Int.reduceLE, Nat.reduceSub, Int.reduceNatCast, Nat.reduceLeDiff]
    | (with_reducible (first | apply cd_split | apply gd_split)) <;> (intro hc; (try simp only [Bool.not_eq_true', Bool.not_eq_false'] at hc); (try simp only [hc]); (try simp only [hcl, Int.not_lt, Int.not_le, Nat.not_lt, Nat.not_le] at hc); try omega))
  refine AL.own (by simp) hf fun h1 s1 n1 o1 => ?_
  have hf1 := s1.fl hf
  have bad : ∀ g t, refM s = none → Own g h.next [.l0] → Stay nowhere h g → get 2 t = .p h.next 0 0 1 → get 3 t = .i .i64 10 → FnK [Rs.cellA (slOf 2) 1, Rs.tmp (slOf 3)] Q .ret t g := fun g t hp o st e2 e3 => by
    rw [fnk_ca e2 (fun k => own_ln1 o (Nat.le_refl _) k), e3]
    subst hQ
    have : parseP s = ([], 10) := by unfold parseP; rw [← parse_same, hp]
    rw [this]
    exact ⟨_, rfl, mx_nil _, st⟩
  have hne : B.val h.next < B.val h1.next := own_lt o1
  repeat' (first
    | with_reducible (first | apply Ok.sq | apply Ok.block | apply Ok.rg | apply Ok.dw hmix | apply Ok.cd | apply Ok.skip | apply Ok.exit | apply Ok.ret)
    | simp (disch := first | omega | (simp only [List.length_append, List.length_cons, List.length_nil, List.length_take, List.length_drop, List.length_map, List.length_set]; omega)) only [wlk, ↓get_put', Nat.reduceEqDiff, Nat.reduceLT, ↓reduceIte, Int.reduceToNat, Nat.reducePow, Nat.min_eq_left, Nat.reduceAdd, Nat.reduceMul, Int.reduceAdd, Int.reduceSub, Int.reduceNeg, Int.reduceMul, Int.reduceEq, Int.reduceLT, Int.reduceLE, Nat.reduceSub, Int.reduceNatCast, Nat.reduceLeDiff]
    | (with_reducible (first | apply cd_split | apply gd_split)) <;> (intro hc; (try simp only [Bool.not_eq_true', Bool.not_eq_false'] at hc); (try simp only [hc]); (try simp only [hcl, Int.not_lt, Int.not_le, Nat.not_lt, Nat.not_le] at hc); try omega))
  refine CL.mk (lines_ok hs hf1) ?_
  rintro _ h2 ⟨w, rfl, hw, s2⟩
  have hRef : refM s = if (lnS s s.length).2 = s.length ∧ 1 ≤ (lnS s s.length).1.length ∧ (lnS s s.length).1.length ≤ 6 then goR (lnS s s.length).1.length 0 (lnS s s.length).1 else none := rfl
  have hleft : (lnS s s.length).1.length ≤ s.length := (lnS_le s s.length).2
  have hlw : ∀ x ∈ (lnS s s.length).1, x.length ≤ 1000000 := fun x hx => by
    have e := (lnS_all s).1
    have : x.length ≤ s.length := by
      rw [e, List.length_append]
      have := flat_mem hx
      omega
    omega
  generalize (lnS s s.length).1 = ws at hw hRef hleft hlw
  have hwl : (ws.map sv).length = ws.length := by simp
  have s12 := s1.trans s2
  have o2 := o1.stay s2 fun h => h
  have hf2 := s2.fl hf1
  by_cases hok : (lnS s s.length).2 = s.length ∧ 1 ≤ ws.length ∧ ws.length ≤ 6
  case neg =>
    have hR0 : refM s = none := by rw [hRef, if_neg hok]
    by_cases h1 : (lnS s s.length).2 = s.length
    case neg =>
      rw [decide_eq_false h1]
      repeat' (first
        | with_reducible (first | apply Ok.sq | apply Ok.block | apply Ok.rg | apply Ok.dw hmix | apply Ok.cd | apply Ok.skip | apply Ok.exit | apply Ok.ret)
        | simp (disch := first | omega | (simp only [List.length_append, List.length_cons, List.length_nil, List.length_take, List.length_drop, List.length_map, List.length_set]; omega)) only [wlk, ↓get_put', Nat.reduceEqDiff, Nat.reduceLT, ↓reduceIte, Int.reduceToNat, Nat.reducePow, Nat.min_eq_left, Nat.reduceAdd, Nat.reduceMul, Int.reduceAdd, Int.reduceSub, Int.reduceNeg, Int.reduceMul, Int.reduceEq, Int.reduceLT, Int.reduceLE, Nat.reduceSub, Int.reduceNatCast, Nat.reduceLeDiff, hw.lst.ln, hwl]
        | (with_reducible (first | apply cd_split | apply gd_split)) <;> (intro hc; (try simp only [Bool.not_eq_true', Bool.not_eq_false'] at hc); (try simp only [hc]); (try simp only [hcl, Int.not_lt, Int.not_le, Nat.not_lt, Nat.not_le] at hc); try omega))
      refine ST.own (y := .l0) o2 rfl rfl (by omega) (by omega) fun h3 o3 s3 => ?_
      repeat' (first
        | with_reducible (first | apply Ok.sq | apply Ok.block | apply Ok.rg | apply Ok.dw hmix | apply Ok.cd | apply Ok.skip | apply Ok.exit | apply Ok.ret)
        | simp (disch := first | omega | (simp only [List.length_append, List.length_cons, List.length_nil, List.length_take, List.length_drop, List.length_map, List.length_set]; omega)) only [wlk, ↓get_put', Nat.reduceEqDiff, Nat.reduceLT, ↓reduceIte, Int.reduceToNat, Nat.reducePow, Nat.min_eq_left, Nat.reduceAdd, Nat.reduceMul, Int.reduceAdd, Int.reduceSub, Int.reduceNeg, Int.reduceMul, Int.reduceEq, Int.reduceLT, Int.reduceLE, Nat.reduceSub, Int.reduceNatCast, Nat.reduceLeDiff]
        | (with_reducible (first | apply cd_split | apply gd_split)) <;> (intro hc; (try simp only [Bool.not_eq_true', Bool.not_eq_false'] at hc); (try simp only [hc]); (try simp only [hcl, Int.not_lt, Int.not_le, Nat.not_lt, Nat.not_le] at hc); try omega))
      exact bad _ _ hR0 o3 (s12.past' s3 fun i e => by rw [e]; exact Nat.le_refl _) (by simp (disch := first | omega | (simp only [List.length_append, List.length_cons, List.length_nil, List.length_take, List.length_drop, List.length_map, List.length_set]; omega)) only [wlk, ↓get_put', Nat.reduceEqDiff, Nat.reduceLT, ↓reduceIte, Int.reduceToNat, Nat.reducePow, Nat.min_eq_left, Nat.reduceAdd, Nat.reduceMul, Int.reduceAdd, Int.reduceSub, Int.reduceNeg, Int.reduceMul, Int.reduceEq, Int.reduceLT, Int.reduceLE, Nat.reduceSub, Int.reduceNatCast, Nat.reduceLeDiff]) (by simp (disch := first | omega | (simp only [List.length_append, List.length_cons, List.length_nil, List.length_take, List.length_drop, List.length_map, List.length_set]; omega)) only [wlk, ↓get_put', Nat.reduceEqDiff, Nat.reduceLT, ↓reduceIte, Int.reduceToNat, Nat.reducePow, Nat.min_eq_left, Nat.reduceAdd, Nat.reduceMul, Int.reduceAdd, Int.reduceSub, Int.reduceNeg, Int.reduceMul, Int.reduceEq, Int.reduceLT, Int.reduceLE, Nat.reduceSub, Int.reduceNatCast, Nat.reduceLeDiff])
    rw [decide_eq_true h1]
    by_cases hn1 : ws.length < 1
    case pos =>
      repeat' (first
        | with_reducible (first | apply Ok.sq | apply Ok.block | apply Ok.rg | apply Ok.dw hmix | apply Ok.cd | apply Ok.skip | apply Ok.exit | apply Ok.ret)
        | simp (disch := first | omega | (simp only [List.length_append, List.length_cons, List.length_nil, List.length_take, List.length_drop, List.length_map, List.length_set]; omega)) only [wlk, ↓get_put', Nat.reduceEqDiff, Nat.reduceLT, ↓reduceIte, Int.reduceToNat, Nat.reducePow, Nat.min_eq_left, Nat.reduceAdd, Nat.reduceMul, Int.reduceAdd, Int.reduceSub, Int.reduceNeg, Int.reduceMul, Int.reduceEq, Int.reduceLT, Int.reduceLE, Nat.reduceSub, Int.reduceNatCast, Nat.reduceLeDiff, hw.lst.ln, hwl]
        | (with_reducible (first | apply cd_split | apply gd_split)) <;> (intro hc; (try simp only [Bool.not_eq_true', Bool.not_eq_false'] at hc); (try simp only [hc]); (try simp only [hcl, Int.not_lt, Int.not_le, Nat.not_lt, Nat.not_le] at hc); try omega))
      refine ST.own (y := .l0) o2 rfl rfl (by omega) (by omega) fun h3 o3 s3 => ?_
      repeat' (first
        | with_reducible (first | apply Ok.sq | apply Ok.block | apply Ok.rg | apply Ok.dw hmix | apply Ok.cd | apply Ok.skip | apply Ok.exit | apply Ok.ret)
        | simp (disch := first | omega | (simp only [List.length_append, List.length_cons, List.length_nil, List.length_take, List.length_drop, List.length_map, List.length_set]; omega)) only [wlk, ↓get_put', Nat.reduceEqDiff, Nat.reduceLT, ↓reduceIte, Int.reduceToNat, Nat.reducePow, Nat.min_eq_left, Nat.reduceAdd, Nat.reduceMul, Int.reduceAdd, Int.reduceSub, Int.reduceNeg, Int.reduceMul, Int.reduceEq, Int.reduceLT, Int.reduceLE, Nat.reduceSub, Int.reduceNatCast, Nat.reduceLeDiff]
        | (with_reducible (first | apply cd_split | apply gd_split)) <;> (intro hc; (try simp only [Bool.not_eq_true', Bool.not_eq_false'] at hc); (try simp only [hc]); (try simp only [hcl, Int.not_lt, Int.not_le, Nat.not_lt, Nat.not_le] at hc); try omega))
      exact bad _ _ hR0 o3 (s12.past' s3 fun i e => by rw [e]; exact Nat.le_refl _) (by simp (disch := first | omega | (simp only [List.length_append, List.length_cons, List.length_nil, List.length_take, List.length_drop, List.length_map, List.length_set]; omega)) only [wlk, ↓get_put', Nat.reduceEqDiff, Nat.reduceLT, ↓reduceIte, Int.reduceToNat, Nat.reducePow, Nat.min_eq_left, Nat.reduceAdd, Nat.reduceMul, Int.reduceAdd, Int.reduceSub, Int.reduceNeg, Int.reduceMul, Int.reduceEq, Int.reduceLT, Int.reduceLE, Nat.reduceSub, Int.reduceNatCast, Nat.reduceLeDiff]) (by simp (disch := first | omega | (simp only [List.length_append, List.length_cons, List.length_nil, List.length_take, List.length_drop, List.length_map, List.length_set]; omega)) only [wlk, ↓get_put', Nat.reduceEqDiff, Nat.reduceLT, ↓reduceIte, Int.reduceToNat, Nat.reducePow, Nat.min_eq_left, Nat.reduceAdd, Nat.reduceMul, Int.reduceAdd, Int.reduceSub, Int.reduceNeg, Int.reduceMul, Int.reduceEq, Int.reduceLT, Int.reduceLE, Nat.reduceSub, Int.reduceNatCast, Nat.reduceLeDiff])
    have hn6 : 6 < ws.length := by omega
    repeat' (first
      | with_reducible (first | apply Ok.sq | apply Ok.block | apply Ok.rg | apply Ok.dw hmix | apply Ok.cd | apply Ok.skip | apply Ok.exit | apply Ok.ret)
      | simp (disch := first | omega | (simp only [List.length_append, List.length_cons, List.length_nil, List.length_take, List.length_drop, List.length_map, List.length_set]; omega)) only [wlk, ↓get_put', Nat.reduceEqDiff, Nat.reduceLT, ↓reduceIte, Int.reduceToNat, Nat.reducePow, Nat.min_eq_left, Nat.reduceAdd, Nat.reduceMul, Int.reduceAdd, Int.reduceSub, Int.reduceNeg, Int.reduceMul, Int.reduceEq, Int.reduceLT, Int.reduceLE, Nat.reduceSub, Int.reduceNatCast, Nat.reduceLeDiff, hw.lst.ln, hwl]
      | (with_reducible (first | apply cd_split | apply gd_split)) <;> (intro hc; (try simp only [Bool.not_eq_true', Bool.not_eq_false'] at hc); (try simp only [hc]); (try simp only [hcl, Int.not_lt, Int.not_le, Nat.not_lt, Nat.not_le] at hc); try omega))
    refine ST.own (y := .l0) o2 rfl rfl (by omega) (by omega) fun h3 o3 s3 => ?_
    repeat' (first
      | with_reducible (first | apply Ok.sq | apply Ok.block | apply Ok.rg | apply Ok.dw hmix | apply Ok.cd | apply Ok.skip | apply Ok.exit | apply Ok.ret)
      | simp (disch := first | omega | (simp only [List.length_append, List.length_cons, List.length_nil, List.length_take, List.length_drop, List.length_map, List.length_set]; omega)) only [wlk, ↓get_put', Nat.reduceEqDiff, Nat.reduceLT, ↓reduceIte, Int.reduceToNat, Nat.reducePow, Nat.min_eq_left, Nat.reduceAdd, Nat.reduceMul, Int.reduceAdd, Int.reduceSub, Int.reduceNeg, Int.reduceMul, Int.reduceEq, Int.reduceLT, Int.reduceLE, Nat.reduceSub, Int.reduceNatCast, Nat.reduceLeDiff]
      | (with_reducible (first | apply cd_split | apply gd_split)) <;> (intro hc; (try simp only [Bool.not_eq_true', Bool.not_eq_false'] at hc); (try simp only [hc]); (try simp only [hcl, Int.not_lt, Int.not_le, Nat.not_lt, Nat.not_le] at hc); try omega))
    exact bad _ _ hR0 o3 (s12.past' s3 fun i e => by rw [e]; exact Nat.le_refl _) (by simp (disch := first | omega | (simp only [List.length_append, List.length_cons, List.length_nil, List.length_take, List.length_drop, List.length_map, List.length_set]; omega)) only [wlk, ↓get_put', Nat.reduceEqDiff, Nat.reduceLT, ↓reduceIte, Int.reduceToNat, Nat.reducePow, Nat.min_eq_left, Nat.reduceAdd, Nat.reduceMul, Int.reduceAdd, Int.reduceSub, Int.reduceNeg, Int.reduceMul, Int.reduceEq, Int.reduceLT, Int.reduceLE, Nat.reduceSub, Int.reduceNatCast, Nat.reduceLeDiff]) (by simp (disch := first | omega | (simp only [List.length_append, List.length_cons, List.length_nil, List.length_take, List.length_drop, List.length_map, List.length_set]; omega)) only [wlk, ↓get_put', Nat.reduceEqDiff, Nat.reduceLT, ↓reduceIte, Int.reduceToNat, Nat.reducePow, Nat.min_eq_left, Nat.reduceAdd, Nat.reduceMul, Int.reduceAdd, Int.reduceSub, Int.reduceNeg, Int.reduceMul, Int.reduceEq, Int.reduceLT, Int.reduceLE, Nat.reduceSub, Int.reduceNatCast, Nat.reduceLeDiff])
  obtain ⟨hok1, hok2, hok3⟩ := hok
  rw [if_pos ⟨hok1, hok2, hok3⟩] at hRef
  rw [decide_eq_true hok1]
  obtain ⟨n, hn⟩ : ∃ n, n = ws.length := ⟨_, rfl⟩
  rw [← hn] at hRef hwl hok2 hok3
  repeat' (first
    | with_reducible (first | apply Ok.sq | apply Ok.block | apply Ok.rg | apply Ok.dw hmix | apply Ok.cd | apply Ok.skip | apply Ok.exit | apply Ok.ret)
    | simp (disch := first | omega | (simp only [List.length_append, List.length_cons, List.length_nil, List.length_take, List.length_drop, List.length_map, List.length_set]; omega)) only [wlk, ↓get_put', Nat.reduceEqDiff, Nat.reduceLT, ↓reduceIte, Int.reduceToNat, Nat.reducePow, Nat.min_eq_left, Nat.reduceAdd, Nat.reduceMul, Int.reduceAdd, Int.reduceSub, Int.reduceNeg, Int.reduceMul, Int.reduceEq, Int.reduceLT, Int.reduceLE, Nat.reduceSub, Int.reduceNatCast, Nat.reduceLeDiff, hw.lst.ln, hwl]
    | (with_reducible (first | apply cd_split | apply gd_split)) <;> (intro hc; (try simp only [Bool.not_eq_true', Bool.not_eq_false'] at hc); (try simp only [hc]); (try simp only [hcl, Int.not_lt, Int.not_le, Nat.not_lt, Nat.not_le] at hc); try omega))
  refine AL.own (by rw [dV_zero (fun _ => .h), dV_len]; omega) hf2 fun h3 s3 n3 o3 => ?_
  rw [dV_zero (fun _ => .h)] at o3
  have hn1' : n * [V.l0].length = n := by simp
  have s13 := s2.trans s3
  have hh2 : B.val h1.next ≤ B.val h2.next := s2.next
  repeat' (first
    | with_reducible (first | apply Ok.sq | apply Ok.block | apply Ok.rg | apply Ok.dw hmix | apply Ok.cd | apply Ok.skip | apply Ok.exit | apply Ok.ret)
    | simp (disch := first | omega | (simp only [List.length_append, List.length_cons, List.length_nil, List.length_take, List.length_drop, List.length_map, List.length_set]; omega)) only [wlk, ↓get_put', Nat.reduceEqDiff, Nat.reduceLT, ↓reduceIte, Int.reduceToNat, Nat.reducePow, Nat.min_eq_left, Nat.reduceAdd, Nat.reduceMul, Int.reduceAdd, Int.reduceSub, Int.reduceNeg, Int.reduceMul, Int.reduceEq, Int.reduceLT, Int.reduceLE, Nat.reduceSub, Int.reduceNatCast, Nat.reduceLeDiff]
    | (with_reducible (first | apply cd_split | apply gd_split)) <;> (intro hc; (try simp only [Bool.not_eq_true', Bool.not_eq_false'] at hc); (try simp only [hc]); (try simp only [hcl, Int.not_lt, Int.not_le, Nat.not_lt, Nat.not_le] at hc); try omega))
  refine Ok.lp (fun m t g => ∃ (D : Mt) (f : Nat → B), D.length ≤ n ∧ m = n - D.length ∧ Stay (fun i => i = h2.next) h3 g ∧ refM s = (goR n D.length (ws.drop D.length)).map (D ++ ·) ∧ Own g h2.next (dV f n D.length) ∧ Rws g f D ∧ (∀ i, i < D.length → (D.getD i []).length = n) ∧ (∀ i j, i < D.length → j < D.length → f i = f j → i = j) ∧ (∀ i, i < D.length → B.val h2.next < B.val (f i)) ∧
    get 2 t = .p h.next 0 0 1 ∧ get 4 t = w ∧ get 6 t = .i .i64 (n : Int) ∧ get 7 t = .l h2.next 0 0 n n (some n) ∧ get 8 t = .i .i64 (D.length : Int)) n ?_ ?_
  · simp (disch := first | omega | (simp only [List.length_append, List.length_cons, List.length_nil, List.length_take, List.length_drop, List.length_map, List.length_set]; omega)) only [wlk, ↓get_put', Nat.reduceEqDiff, Nat.reduceLT, ↓reduceIte, Int.reduceToNat, Nat.reducePow, Nat.min_eq_left, Nat.reduceAdd, Nat.reduceMul, Int.reduceAdd, Int.reduceSub, Int.reduceNeg, Int.reduceMul, Int.reduceEq, Int.reduceLT, Int.reduceLE, Nat.reduceSub, Int.reduceNatCast, Nat.reduceLeDiff, hn1', hwl]
    refine ⟨[], fun _ => .h, Nat.zero_le _, rfl, Stay.refl _ _, ?_, o3, ⟨fun i hi => absurd hi (Nat.not_lt_zero _)⟩, fun i hi => absurd hi (Nat.not_lt_zero _), fun i j hi => absurd hi (Nat.not_lt_zero _), fun i hi => absurd hi (Nat.not_lt_zero _), trivial, trivial, trivial, trivial, rfl⟩
    rw [hRef]
    show _ = (goR n 0 ws).map (fun x => [] ++ x)
    cases goR n 0 ws <;> rfl
  rintro I hI m t g ⟨D, f, hDl, rfl, stA, hP, oD, rD, sqD, injD, loD, f2, f4, f6, f7, f8⟩
  have st := s13.past' stA fun i e => by rw [e]; exact hh2
  have hfg := st.fl hf1
  have og := o1.stay st fun h => h
  by_cases hDn : D.length < n
  case neg =>
    have hDe : D.length = n := by omega
    have hM : progM s = some D := by
      rw [← parse_same, hP, List.drop_eq_nil_of_le (by omega)]
      show some (D ++ []) = _
      rw [List.append_nil]
    obtain ⟨p1, p2, p3⟩ := progM_rows hM
    have ckn : parseP s = if chkN (reachM D n) = 0 then (reachM D n, 0) else ([], 11) := by unfold parseP; rw [hM]; show (if chkN (reachM D D.length) = 0 then (reachM D D.length, 0) else ([], 11)) = _; rw [hDe]
    have hck : chkN (reachM D n) = 0 ∨ chkN (reachM D n) = 11 := by rw [← hDe]; exact reach_chk p1 p2 p3
    clear hI hP
    rw [hDe] at oD sqD injD loD p3
    obtain ⟨p, hp⟩ : ∃ p : B → Prop, p = fun id => ∃ i, i < n ∧ id = f i := ⟨_, rfl⟩
    have hpf : ∀ a, a < n → ∀ i, i = f a → p i := fun a ha i e => by rw [hp]; exact ⟨a, ha, e⟩
    have hpd : ¬ p h2.next := fun e => by rw [hp] at e; obtain ⟨i, hi, e⟩ := e; have := loD i hi; rw [← e] at this; omega
    have hplo : ∀ i, p i → B.val h1.next ≤ B.val i := fun i hi => by rw [hp] at hi; obtain ⟨a, ha, rfl⟩ := hi; have := loD a ha; omega
    repeat' (first
      | with_reducible (first | apply Ok.sq | apply Ok.block | apply Ok.rg | apply Ok.dw hmix | apply Ok.cd | apply Ok.skip | apply Ok.exit | apply Ok.ret)
      | simp (disch := first | omega | (simp only [List.length_append, List.length_cons, List.length_nil, List.length_take, List.length_drop, List.length_map, List.length_set]; omega)) only [wlk, ↓get_put', Nat.reduceEqDiff, Nat.reduceLT, ↓reduceIte, Int.reduceToNat, Nat.reducePow, Nat.min_eq_left, Nat.reduceAdd, Nat.reduceMul, Int.reduceAdd, Int.reduceSub, Int.reduceNeg, Int.reduceMul, Int.reduceEq, Int.reduceLT, Int.reduceLE, Nat.reduceSub, Int.reduceNatCast, Nat.reduceLeDiff, f6, f8]
      | (with_reducible (first | apply cd_split | apply gd_split)) <;> (intro hc; (try simp only [Bool.not_eq_true', Bool.not_eq_false'] at hc); (try simp only [hc]); (try simp only [hcl, Int.not_lt, Int.not_le, Nat.not_lt, Nat.not_le] at hc); try omega))
    refine Ok.lp (fun m t g' => ∃ k : Nat, k ≤ n ∧ m = n - k ∧ Stay p g g' ∧ Rws g' f (reachM D k) ∧ get 2 t = .p h.next 0 0 1 ∧ get 6 t = .i .i64 (n : Int) ∧ get 7 t = .l h2.next 0 0 n n (some n) ∧ get 12 t = .i .i64 (k : Int)) n ?_ ?_
    · simp (disch := first | omega | (simp only [List.length_append, List.length_cons, List.length_nil, List.length_take, List.length_drop, List.length_map, List.length_set]; omega)) only [wlk, ↓get_put', Nat.reduceEqDiff, Nat.reduceLT, ↓reduceIte, Int.reduceToNat, Nat.reducePow, Nat.min_eq_left, Nat.reduceAdd, Nat.reduceMul, Int.reduceAdd, Int.reduceSub, Int.reduceNeg, Int.reduceMul, Int.reduceEq, Int.reduceLT, Int.reduceLE, Nat.reduceSub, Int.reduceNatCast, Nat.reduceLeDiff, f2, f6, f7]
      exact ⟨0, by omega, rfl, Stay.refl _ _, rD, trivial, trivial, trivial, rfl⟩
    clear f2 f4 f6 f7 f8
    rintro I hI m t g1 ⟨k, hk, rfl, stk, R1, f2, f6, f7, f12⟩
    have oD1 := oD.stay stk hpd
    by_cases hkn : k < n
    case neg =>
      obtain rfl : k = n := by omega
      have s1k := st.past' stk hplo
      have o4 := o1.stay s1k fun h => h
      have L4 : Lst g1 (.l h2.next 0 0 k k (some k)) ((List.range k).map (rv f k k (some k))) := by
        have := oD1.lst (some k)
        rwa [dV_len, dV_all] at this
      have hrl : ∀ i, i < k → ((reachM D k).getD i []).length = k := fun i hi => by rw [reachM_rowlen]; exact sqD i hi
      have hlr : (reachM D k).length = k := by rw [reachM_len]; exact hDe
      have mx4 : Mx g1 _ (reachM D k) := mx_rows hlr L4 R1 hrl (Nat.le_refl _)
      have hf4 := s1k.fl hf1
      repeat' (first
        | with_reducible (first | apply Ok.sq | apply Ok.block | apply Ok.rg | apply Ok.dw hmix | apply Ok.cd | apply Ok.skip | apply Ok.exit | apply Ok.ret)
        | simp (disch := first | omega | (simp only [List.length_append, List.length_cons, List.length_nil, List.length_take, List.length_drop, List.length_map, List.length_set]; omega)) only [wlk, ↓get_put', Nat.reduceEqDiff, Nat.reduceLT, ↓reduceIte, Int.reduceToNat, Nat.reducePow, Nat.min_eq_left, Nat.reduceAdd, Nat.reduceMul, Int.reduceAdd, Int.reduceSub, Int.reduceNeg, Int.reduceMul, Int.reduceEq, Int.reduceLT, Int.reduceLE, Nat.reduceSub, Int.reduceNatCast, Nat.reduceLeDiff, f6, f7, f12]
        | (with_reducible (first | apply cd_split | apply gd_split)) <;> (intro hc; (try simp only [Bool.not_eq_true', Bool.not_eq_false'] at hc); (try simp only [hc]); (try simp only [hcl, Int.not_lt, Int.not_le, Nat.not_lt, Nat.not_le] at hc); try omega))
      refine AL.own (by simp) hf4 fun g5 s5 n5 o5 => ?_
      repeat' (first
        | with_reducible (first | apply Ok.sq | apply Ok.block | apply Ok.rg | apply Ok.dw hmix | apply Ok.cd | apply Ok.skip | apply Ok.exit | apply Ok.ret)
        | simp (disch := first | omega | (simp only [List.length_append, List.length_cons, List.length_nil, List.length_take, List.length_drop, List.length_map, List.length_set]; omega)) only [wlk, ↓get_put', Nat.reduceEqDiff, Nat.reduceLT, ↓reduceIte, Int.reduceToNat, Nat.reducePow, Nat.min_eq_left, Nat.reduceAdd, Nat.reduceMul, Int.reduceAdd, Int.reduceSub, Int.reduceNeg, Int.reduceMul, Int.reduceEq, Int.reduceLT, Int.reduceLE, Nat.reduceSub, Int.reduceNatCast, Nat.reduceLeDiff]
        | (with_reducible (first | apply cd_split | apply gd_split)) <;> (intro hc; (try simp only [Bool.not_eq_true', Bool.not_eq_false'] at hc); (try simp only [hc]); (try simp only [hcl, Int.not_lt, Int.not_le, Nat.not_lt, Nat.not_le] at hc); try omega))
      refine ST.own (y := .l h2.next 0 0 k k (some k)) o5 rfl rfl (by omega) (by omega) fun g6 o6 s6 => ?_
      have s46 : Stay nowhere g1 g6 := s5.past' s6 fun i e => by rw [e]; exact Nat.le_refl _
      have mx6 := mx4.grow s46
      have hf6 := s46.fl hf4
      repeat' (first
        | with_reducible (first | apply Ok.sq | apply Ok.block | apply Ok.rg | apply Ok.dw hmix | apply Ok.cd | apply Ok.skip | apply Ok.exit | apply Ok.ret)
        | simp (disch := first | omega | (simp only [List.length_append, List.length_cons, List.length_nil, List.length_take, List.length_drop, List.length_map, List.length_set]; omega)) only [wlk, ↓get_put', Nat.reduceEqDiff, Nat.reduceLT, ↓reduceIte, Int.reduceToNat, Nat.reducePow, Nat.min_eq_left, Nat.reduceAdd, Nat.reduceMul, Int.reduceAdd, Int.reduceSub, Int.reduceNeg, Int.reduceMul, Int.reduceEq, Int.reduceLT, Int.reduceLE, Nat.reduceSub, Int.reduceNatCast, Nat.reduceLeDiff, o6.row.ln]
        | (with_reducible (first | apply cd_split | apply gd_split)) <;> (intro hc; (try simp only [Bool.not_eq_true', Bool.not_eq_false'] at hc); (try simp only [hc]); (try simp only [hcl, Int.not_lt, Int.not_le, Nat.not_lt, Nat.not_le] at hc); try omega))
      refine CL.stay (rcheck_ok mx6 (by omega) (fun i hi => by rw [hrl i (by omega)]; omega) hf6) fun g7 s7 => ?_
      have o7 := (o4.stay s46 fun h => h).stay s7 fun h => h
      have s17 := ((s1.trans s1k).trans s46).trans s7
      by_cases hc0 : chkN (reachM D k) = 0
      · rw [hc0]
        have o67 := o6.stay s7 fun h => h
        repeat' (first
          | with_reducible (first | apply Ok.sq | apply Ok.block | apply Ok.rg | apply Ok.dw hmix | apply Ok.cd | apply Ok.skip | apply Ok.exit | apply Ok.ret)
          | simp (disch := first | omega | (simp only [List.length_append, List.length_cons, List.length_nil, List.length_take, List.length_drop, List.length_map, List.length_set]; omega)) only [wlk, ↓get_put', Nat.reduceEqDiff, Nat.reduceLT, ↓reduceIte, Int.reduceToNat, Nat.reducePow, Nat.min_eq_left, Nat.reduceAdd, Nat.reduceMul, Int.reduceAdd, Int.reduceSub, Int.reduceNeg, Int.reduceMul, Int.reduceEq, Int.reduceLT, Int.reduceLE, Nat.reduceSub, Int.reduceNatCast, Nat.reduceLeDiff, f2, o67.row.ln]
          | (with_reducible (first | apply cd_split | apply gd_split)) <;> (intro hc; (try simp only [Bool.not_eq_true', Bool.not_eq_false'] at hc); (try simp only [hc]); (try simp only [hcl, Int.not_lt, Int.not_le, Nat.not_lt, Nat.not_le] at hc); try omega))
        refine ST.own (y := .l h2.next 0 0 k k (some k)) o7 rfl rfl (by omega) (by omega) fun g8 o8 s8 => ?_
        repeat' (first
          | with_reducible (first | apply Ok.sq | apply Ok.block | apply Ok.rg | apply Ok.dw hmix | apply Ok.cd | apply Ok.skip | apply Ok.exit | apply Ok.ret)
          | simp (disch := first | omega | (simp only [List.length_append, List.length_cons, List.length_nil, List.length_take, List.length_drop, List.length_map, List.length_set]; omega)) only [wlk, ↓get_put', Nat.reduceEqDiff, Nat.reduceLT, ↓reduceIte, Int.reduceToNat, Nat.reducePow, Nat.min_eq_left, Nat.reduceAdd, Nat.reduceMul, Int.reduceAdd, Int.reduceSub, Int.reduceNeg, Int.reduceMul, Int.reduceEq, Int.reduceLT, Int.reduceLE, Nat.reduceSub, Int.reduceNatCast, Nat.reduceLeDiff]
          | (with_reducible (first | apply cd_split | apply gd_split)) <;> (intro hc; (try simp only [Bool.not_eq_true', Bool.not_eq_false'] at hc); (try simp only [hc]); (try simp only [hcl, Int.not_lt, Int.not_le, Nat.not_lt, Nat.not_le] at hc); try omega))
        rw [fnk_ca (by simp (disch := first | omega | (simp only [List.length_append, List.length_cons, List.length_nil, List.length_take, List.length_drop, List.length_map, List.length_set]; omega)) only [wlk, ↓get_put', Nat.reduceEqDiff, Nat.reduceLT, ↓reduceIte, Int.reduceToNat, Nat.reducePow, Nat.min_eq_left, Nat.reduceAdd, Nat.reduceMul, Int.reduceAdd, Int.reduceSub, Int.reduceNeg, Int.reduceMul, Int.reduceEq, Int.reduceLT, Int.reduceLE, Nat.reduceSub, Int.reduceNatCast, Nat.reduceLeDiff, f2]) (fun k => own_ln1 o8 (Nat.le_refl _) k)]
        simp (disch := first | omega | (simp only [List.length_append, List.length_cons, List.length_nil, List.length_take, List.length_drop, List.length_map, List.length_set]; omega)) only [wlk, ↓get_put', Nat.reduceEqDiff, Nat.reduceLT, ↓reduceIte, Int.reduceToNat, Nat.reducePow, Nat.min_eq_left, Nat.reduceAdd, Nat.reduceMul, Int.reduceAdd, Int.reduceSub, Int.reduceNeg, Int.reduceMul, Int.reduceEq, Int.reduceLT, Int.reduceLE, Nat.reduceSub, Int.reduceNatCast, Nat.reduceLeDiff]
        subst hQ
        rw [ckn, if_pos hc0]
        have sA : Stay (fun i => i = h.next) g1 g8 := ((s46.trans s7).mono fun _ _ h => h.elim).trans s8
        have ne1 : ∀ i, B.val h1.next ≤ B.val i → ¬ i = h.next := fun i hi e => by rw [e] at hi; omega
        exact ⟨_, rfl, mx_rows hlr (L4.stay sA fun id g off n fin cap e => by cases e; exact ne1 _ hh2) (R1.stay sA fun i hi => ne1 _ (by have := loD i (by omega); omega)) hrl (Nat.le_refl _), s17.past' s8 fun i e => by rw [e]; exact Nat.le_refl _⟩
      · have hc11 : chkN (reachM D k) = 11 := by rcases hck with e | e <;> first | exact absurd e hc0 | exact e
        rw [hc11]
        repeat' (first
          | with_reducible (first | apply Ok.sq | apply Ok.block | apply Ok.rg | apply Ok.dw hmix | apply Ok.cd | apply Ok.skip | apply Ok.exit | apply Ok.ret)
          | simp (disch := first | omega | (simp only [List.length_append, List.length_cons, List.length_nil, List.length_take, List.length_drop, List.length_map, List.length_set]; omega)) only [wlk, ↓get_put', Nat.reduceEqDiff, Nat.reduceLT, ↓reduceIte, Int.reduceToNat, Nat.reducePow, Nat.min_eq_left, Nat.reduceAdd, Nat.reduceMul, Int.reduceAdd, Int.reduceSub, Int.reduceNeg, Int.reduceMul, Int.reduceEq, Int.reduceLT, Int.reduceLE, Nat.reduceSub, Int.reduceNatCast, Nat.reduceLeDiff, f2]
          | (with_reducible (first | apply cd_split | apply gd_split)) <;> (intro hc; (try simp only [Bool.not_eq_true', Bool.not_eq_false'] at hc); (try simp only [hc]); (try simp only [hcl, Int.not_lt, Int.not_le, Nat.not_lt, Nat.not_le] at hc); try omega))
        refine ST.own (y := .l0) o7 rfl rfl (by omega) (by omega) fun g8 o8 s8 => ?_
        repeat' (first
          | with_reducible (first | apply Ok.sq | apply Ok.block | apply Ok.rg | apply Ok.dw hmix | apply Ok.cd | apply Ok.skip | apply Ok.exit | apply Ok.ret)
          | simp (disch := first | omega | (simp only [List.length_append, List.length_cons, List.length_nil, List.length_take, List.length_drop, List.length_map, List.length_set]; omega)) only [wlk, ↓get_put', Nat.reduceEqDiff, Nat.reduceLT, ↓reduceIte, Int.reduceToNat, Nat.reducePow, Nat.min_eq_left, Nat.reduceAdd, Nat.reduceMul, Int.reduceAdd, Int.reduceSub, Int.reduceNeg, Int.reduceMul, Int.reduceEq, Int.reduceLT, Int.reduceLE, Nat.reduceSub, Int.reduceNatCast, Nat.reduceLeDiff]
          | (with_reducible (first | apply cd_split | apply gd_split)) <;> (intro hc; (try simp only [Bool.not_eq_true', Bool.not_eq_false'] at hc); (try simp only [hc]); (try simp only [hcl, Int.not_lt, Int.not_le, Nat.not_lt, Nat.not_le] at hc); try omega))
        rw [fnk_ca (by simp (disch := first | omega | (simp only [List.length_append, List.length_cons, List.length_nil, List.length_take, List.length_drop, List.length_map, List.length_set]; omega)) only [wlk, ↓get_put', Nat.reduceEqDiff, Nat.reduceLT, ↓reduceIte, Int.reduceToNat, Nat.reducePow, Nat.min_eq_left, Nat.reduceAdd, Nat.reduceMul, Int.reduceAdd, Int.reduceSub, Int.reduceNeg, Int.reduceMul, Int.reduceEq, Int.reduceLT, Int.reduceLE, Nat.reduceSub, Int.reduceNatCast, Nat.reduceLeDiff, f2]) (fun k => own_ln1 o8 (Nat.le_refl _) k)]
        simp (disch := first | omega | (simp only [List.length_append, List.length_cons, List.length_nil, List.length_take, List.length_drop, List.length_map, List.length_set]; omega)) only [wlk, ↓get_put', Nat.reduceEqDiff, Nat.reduceLT, ↓reduceIte, Int.reduceToNat, Nat.reducePow, Nat.min_eq_left, Nat.reduceAdd, Nat.reduceMul, Int.reduceAdd, Int.reduceSub, Int.reduceNeg, Int.reduceMul, Int.reduceEq, Int.reduceLT, Int.reduceLE, Nat.reduceSub, Int.reduceNatCast, Nat.reduceLeDiff]
        subst hQ
        rw [ckn, if_neg hc0]
        exact ⟨_, rfl, mx_nil _, s17.past' s8 fun i e => by rw [e]; exact Nat.le_refl _⟩
    have hLl := reachM_len D k
    have hLr : ∀ i, i < n → ((reachM D k).getD i []).length = n := fun i hi => by rw [reachM_rowlen]; exact sqD i hi
    generalize hLe : reachM D k = L at R1 hLl hLr
    rw [hDe] at hLl
    repeat' (first
      | with_reducible (first | apply Ok.sq | apply Ok.block | apply Ok.rg | apply Ok.dw hmix | apply Ok.cd | apply Ok.skip | apply Ok.exit | apply Ok.ret)
      | simp (disch := first | omega | (simp only [List.length_append, List.length_cons, List.length_nil, List.length_take, List.length_drop, List.length_map, List.length_set]; omega)) only [wlk, ↓get_put', Nat.reduceEqDiff, Nat.reduceLT, ↓reduceIte, Int.reduceToNat, Nat.reducePow, Nat.min_eq_left, Nat.reduceAdd, Nat.reduceMul, Int.reduceAdd, Int.reduceSub, Int.reduceNeg, Int.reduceMul, Int.reduceEq, Int.reduceLT, Int.reduceLE, Nat.reduceSub, Int.reduceNatCast, Nat.reduceLeDiff, f2, f6, f7, f12]
      | (with_reducible (first | apply cd_split | apply gd_split)) <;> (intro hc; (try simp only [Bool.not_eq_true', Bool.not_eq_false'] at hc); (try simp only [hc]); (try simp only [hcl, Int.not_lt, Int.not_le, Nat.not_lt, Nat.not_le] at hc); try omega))
    refine Ok.lp (fun m t g' => ∃ a : Nat, a ≤ n ∧ m = n - a ∧ Stay p g g' ∧ Rws g' f (stepM L k a) ∧ get 2 t = .p h.next 0 0 1 ∧ get 6 t = .i .i64 (n : Int) ∧ get 7 t = .l h2.next 0 0 n n (some n) ∧ get 12 t = .i .i64 (k : Int) ∧ get 13 t = .i .i64 (a : Int)) n ?_ ?_
    · simp (disch := first | omega | (simp only [List.length_append, List.length_cons, List.length_nil, List.length_take, List.length_drop, List.length_map, List.length_set]; omega)) only [wlk, ↓get_put', Nat.reduceEqDiff, Nat.reduceLT, ↓reduceIte, Int.reduceToNat, Nat.reducePow, Nat.min_eq_left, Nat.reduceAdd, Nat.reduceMul, Int.reduceAdd, Int.reduceSub, Int.reduceNeg, Int.reduceMul, Int.reduceEq, Int.reduceLT, Int.reduceLE, Nat.reduceSub, Int.reduceNatCast, Nat.reduceLeDiff, f2, f6, f7, f12]
      exact ⟨0, by omega, rfl, stk, by rw [stepM_zero]; exact R1, trivial, trivial, trivial, trivial, rfl⟩
    clear f2 f6 f7 f12 R1 oD1 stk
    rintro J hJ m t g2 ⟨a, ha, rfl, stk, R2, f2, f6, f7, f12, f13⟩
    have oD2 := oD.stay stk hpd
    by_cases han : a < n
    case neg =>
      obtain rfl : a = n := by omega
      repeat' (first
        | with_reducible (first | apply Ok.sq | apply Ok.block | apply Ok.rg | apply Ok.dw hmix | apply Ok.cd | apply Ok.skip | apply Ok.exit | apply Ok.ret)
        | simp (disch := first | omega | (simp only [List.length_append, List.length_cons, List.length_nil, List.length_take, List.length_drop, List.length_map, List.length_set]; omega)) only [wlk, ↓get_put', Nat.reduceEqDiff, Nat.reduceLT, ↓reduceIte, Int.reduceToNat, Nat.reducePow, Nat.min_eq_left, Nat.reduceAdd, Nat.reduceMul, Int.reduceAdd, Int.reduceSub, Int.reduceNeg, Int.reduceMul, Int.reduceEq, Int.reduceLT, Int.reduceLE, Nat.reduceSub, Int.reduceNatCast, Nat.reduceLeDiff, f6, f12, f13]
        | (with_reducible (first | apply cd_split | apply gd_split)) <;> (intro hc; (try simp only [Bool.not_eq_true', Bool.not_eq_false'] at hc); (try simp only [hc]); (try simp only [hcl, Int.not_lt, Int.not_le, Nat.not_lt, Nat.not_le] at hc); try omega))
      refine lp_next hI (a - (k + 1)) (by omega) ⟨k + 1, by omega, rfl, stk, by rw [reachM, hLe, hDe]; exact R2, ?_, ?_, ?_, ?_⟩
      all_goals (simp (disch := first | omega | (simp only [List.length_append, List.length_cons, List.length_nil, List.length_take, List.length_drop, List.length_map, List.length_set]; omega)) only [wlk, ↓get_put', Nat.reduceEqDiff, Nat.reduceLT, ↓reduceIte, Int.reduceToNat, Nat.reducePow, Nat.min_eq_left, Nat.reduceAdd, Nat.reduceMul, Int.reduceAdd, Int.reduceSub, Int.reduceNeg, Int.reduceMul, Int.reduceEq, Int.reduceLT, Int.reduceLE, Nat.reduceSub, Int.reduceNatCast, Nat.reduceLeDiff, f2, f6, f7]; try rfl)
    have hSl : (stepM L k a).length = n := by rw [stepM_len, hLl]
    have hSr : ∀ i, i < (stepM L k a).length → ((stepM L k a).getD i []).length = n := fun i hi => by rw [stepM_rowlen]; exact hLr i (by omega)
    have hra : (stepM L k a).getD a [] = L.getD a [] := stepM_next _ _ (by omega)
    have hsuc : stepM L k (a + 1) = (stepM L k a).set a (stepR (L.getD k []) k (L.getD a [])) := stepM_succ _ _ (by omega)
    have hal := hLr a han
    have hsame : (stepM L k a).set a (L.getD a []) = stepM L k a := by
      rw [← hra, List.getD_eq_getElem?_getD, List.getElem?_eq_getElem (by omega)]
      show (stepM L k a).set a (stepM L k a)[a] = _
      rw [List.set_getElem_self]
    repeat' (first
      | with_reducible (first | apply Ok.sq | apply Ok.block | apply Ok.rg | apply Ok.dw hmix | apply Ok.cd | apply Ok.skip | apply Ok.exit | apply Ok.ret)
      | simp (disch := first | omega | (simp only [List.length_append, List.length_cons, List.length_nil, List.length_take, List.length_drop, List.length_map, List.length_set]; omega)) only [wlk, ↓get_put', Nat.reduceEqDiff, Nat.reduceLT, ↓reduceIte, Int.reduceToNat, Nat.reducePow, Nat.min_eq_left, Nat.reduceAdd, Nat.reduceMul, Int.reduceAdd, Int.reduceSub, Int.reduceNeg, Int.reduceMul, Int.reduceEq, Int.reduceLT, Int.reduceLE, Nat.reduceSub, Int.reduceNatCast, Nat.reduceLeDiff, f2, f6, f7, f12, f13]
      | (with_reducible (first | apply cd_split | apply gd_split)) <;> (intro hc; (try simp only [Bool.not_eq_true', Bool.not_eq_false'] at hc); (try simp only [hc]); (try simp only [hcl, Int.not_lt, Int.not_le, Nat.not_lt, Nat.not_le] at hc); try omega))
    refine Ok.lp (fun m t g' => ∃ b : Nat, b ≤ n ∧ m = n - b ∧ Stay p g g' ∧ Rws g' f ((stepM L k a).set a (stepN (L.getD k []) k (L.getD a []) b)) ∧ get 2 t = .p h.next 0 0 1 ∧ get 6 t = .i .i64 (n : Int) ∧ get 7 t = .l h2.next 0 0 n n (some n) ∧ get 12 t = .i .i64 (k : Int) ∧ get 13 t = .i .i64 (a : Int) ∧ get 14 t = .i .i64 (b : Int)) n ?_ ?_
    · simp (disch := first | omega | (simp only [List.length_append, List.length_cons, List.length_nil, List.length_take, List.length_drop, List.length_map, List.length_set]; omega)) only [wlk, ↓get_put', Nat.reduceEqDiff, Nat.reduceLT, ↓reduceIte, Int.reduceToNat, Nat.reducePow, Nat.min_eq_left, Nat.reduceAdd, Nat.reduceMul, Int.reduceAdd, Int.reduceSub, Int.reduceNeg, Int.reduceMul, Int.reduceEq, Int.reduceLT, Int.reduceLE, Nat.reduceSub, Int.reduceNatCast, Nat.reduceLeDiff, f2, f6, f7, f12, f13]
      exact ⟨0, by omega, rfl, stk, by rw [stepN_zero, hsame]; exact R2, trivial, trivial, trivial, trivial, trivial, rfl⟩
    clear f2 f6 f7 f12 f13 R2 oD2 stk
    rintro K hK m t g3 ⟨b, hb, rfl, stk, R3, f2, f6, f7, f12, f13, f14⟩
    have oD3 := oD.stay stk hpd
    by_cases hbn : b < n
    case neg =>
      obtain rfl : b = n := by omega
      repeat' (first
        | with_reducible (first | apply Ok.sq | apply Ok.block | apply Ok.rg | apply Ok.dw hmix | apply Ok.cd | apply Ok.skip | apply Ok.exit | apply Ok.ret)
        | simp (disch := first | omega | (simp only [List.length_append, List.length_cons, List.length_nil, List.length_take, List.length_drop, List.length_map, List.length_set]; omega)) only [wlk, ↓get_put', Nat.reduceEqDiff, Nat.reduceLT, ↓reduceIte, Int.reduceToNat, Nat.reducePow, Nat.min_eq_left, Nat.reduceAdd, Nat.reduceMul, Int.reduceAdd, Int.reduceSub, Int.reduceNeg, Int.reduceMul, Int.reduceEq, Int.reduceLT, Int.reduceLE, Nat.reduceSub, Int.reduceNatCast, Nat.reduceLeDiff, f6, f13, f14]
        | (with_reducible (first | apply cd_split | apply gd_split)) <;> (intro hc; (try simp only [Bool.not_eq_true', Bool.not_eq_false'] at hc); (try simp only [hc]); (try simp only [hcl, Int.not_lt, Int.not_le, Nat.not_lt, Nat.not_le] at hc); try omega))
      refine lp_next hJ (b - (a + 1)) (by omega) ⟨a + 1, by omega, rfl, stk, ?_, ?_, ?_, ?_, ?_, ?_⟩
      · rw [hsuc, ← stepN_all, hal]
        exact R3
      all_goals (simp (disch := first | omega | (simp only [List.length_append, List.length_cons, List.length_nil, List.length_take, List.length_drop, List.length_map, List.length_set]; omega)) only [wlk, ↓get_put', Nat.reduceEqDiff, Nat.reduceLT, ↓reduceIte, Int.reduceToNat, Nat.reducePow, Nat.min_eq_left, Nat.reduceAdd, Nat.reduceMul, Int.reduceAdd, Int.reduceSub, Int.reduceNeg, Int.reduceMul, Int.reduceEq, Int.reduceLT, Int.reduceLE, Nat.reduceSub, Int.reduceNatCast, Nat.reduceLeDiff, f2, f6, f7, f12]; try rfl)
    have hNl := stepN_len (L.getD k []) k (L.getD a []) b
    have hXl : ((stepM L k a).set a (stepN (L.getD k []) k (L.getD a []) b)).length = n := by rw [List.length_set]; exact hSl
    have hXa : ((stepM L k a).set a (stepN (L.getD k []) k (L.getD a []) b)).getD a [] = stepN (L.getD k []) k (L.getD a []) b := by rw [getD_set_eq _ _ _ _ _ (by omega), if_pos rfl]
    have hXk : (((stepM L k a).set a (stepN (L.getD k []) k (L.getD a []) b)).getD k []).getD b false = (L.getD k []).getD b false := by
      rw [getD_set_eq _ _ _ _ _ (by omega)]
      split
      · rename_i e; rw [stepN_at, ← e]
      · rw [stepM_row]
    have hXr : ∀ i, i < ((stepM L k a).set a (stepN (L.getD k []) k (L.getD a []) b)).length → (((stepM L k a).set a (stepN (L.getD k []) k (L.getD a []) b)).getD i []).length = n := fun i hi => by
      rw [getD_set_eq _ _ _ _ _ (by omega)]
      split
      · rw [stepN_len]; exact hal
      · exact hSr i (by omega)
    have hnb := stepN_at (L.getD k []) k (L.getD a []) b
    have hnk := stepN_key (L.getD k []) k (L.getD a []) b
    have hos := stepN_succ (L.getD k []) k (L.getD a []) (n := b) (by omega)
    have oa := R3.own a (by omega)
    have fin' : ∀ x : Bool, x = ((L.getD a []).getD b false || (L.getD a []).getD k false && (L.getD k []).getD b false) → ∀ g4, Own g4 (f a) (((((stepM L k a).set a (stepN (L.getD k []) k (L.getD a []) b)).getD a []).map V.b).set b (.b x)) → Stay (fun i => i = f a) g3 g4 → Rws g4 f ((stepM L k a).set a (stepN (L.getD k []) k (L.getD a []) (b + 1))) := fun x hx g4 o4 s4 => by
      have R4 := R3.set (fun i j hi hj => injD i j (by omega) (by omega)) (by omega) o4 s4
      rw [hXa, List.set_set] at R4
      rw [hos, ← hx]
      exact R4
    cases d1 : (L.getD a []).getD b false with
    | true =>
      repeat' (first
        | with_reducible (first | apply Ok.sq | apply Ok.block | apply Ok.rg | apply Ok.dw hmix | apply Ok.cd | apply Ok.skip | apply Ok.exit | apply Ok.ret)
        | simp (disch := first | omega | (simp only [List.length_append, List.length_cons, List.length_nil, List.length_take, List.length_drop, List.length_map, List.length_set]; omega)) only [wlk, ↓get_put', Nat.reduceEqDiff, Nat.reduceLT, ↓reduceIte, Int.reduceToNat, Nat.reducePow, Nat.min_eq_left, Nat.reduceAdd, Nat.reduceMul, Int.reduceAdd, Int.reduceSub, Int.reduceNeg, Int.reduceMul, Int.reduceEq, Int.reduceLT, Int.reduceLE, Nat.reduceSub, Int.reduceNatCast, Nat.reduceLeDiff, f2, f6, f7, f12, f13, f14, own_l1 oD3, R3.l1 hXr, hXa, hnb, d1, Int.toNat_natCast]
        | (with_reducible (first | apply cd_split | apply gd_split)) <;> (intro hc; (try simp only [Bool.not_eq_true', Bool.not_eq_false'] at hc); (try simp only [hc]); (try simp only [hcl, Int.not_lt, Int.not_le, Nat.not_lt, Nat.not_le] at hc); try omega))
      refine ST.own (y := .b true) oa rfl rfl (by omega) (by omega) fun g4 o4 s4 => ?_
      repeat' (first
        | with_reducible (first | apply Ok.sq | apply Ok.block | apply Ok.rg | apply Ok.dw hmix | apply Ok.cd | apply Ok.skip | apply Ok.exit | apply Ok.ret)
        | simp (disch := first | omega | (simp only [List.length_append, List.length_cons, List.length_nil, List.length_take, List.length_drop, List.length_map, List.length_set]; omega)) only [wlk, ↓get_put', Nat.reduceEqDiff, Nat.reduceLT, ↓reduceIte, Int.reduceToNat, Nat.reducePow, Nat.min_eq_left, Nat.reduceAdd, Nat.reduceMul, Int.reduceAdd, Int.reduceSub, Int.reduceNeg, Int.reduceMul, Int.reduceEq, Int.reduceLT, Int.reduceLE, Nat.reduceSub, Int.reduceNatCast, Nat.reduceLeDiff, f14]
        | (with_reducible (first | apply cd_split | apply gd_split)) <;> (intro hc; (try simp only [Bool.not_eq_true', Bool.not_eq_false'] at hc); (try simp only [hc]); (try simp only [hcl, Int.not_lt, Int.not_le, Nat.not_lt, Nat.not_le] at hc); try omega))
      refine lp_next hK (n - (b + 1)) (by omega) ⟨b + 1, by omega, rfl, stk.trans (s4.mono fun i _ e => hpf a han i e), fin' _ (by rw [d1]; rfl) g4 o4 s4, ?_, ?_, ?_, ?_, ?_, ?_⟩
      all_goals (simp (disch := first | omega | (simp only [List.length_append, List.length_cons, List.length_nil, List.length_take, List.length_drop, List.length_map, List.length_set]; omega)) only [wlk, ↓get_put', Nat.reduceEqDiff, Nat.reduceLT, ↓reduceIte, Int.reduceToNat, Nat.reducePow, Nat.min_eq_left, Nat.reduceAdd, Nat.reduceMul, Int.reduceAdd, Int.reduceSub, Int.reduceNeg, Int.reduceMul, Int.reduceEq, Int.reduceLT, Int.reduceLE, Nat.reduceSub, Int.reduceNatCast, Nat.reduceLeDiff, f2, f6, f7, f12, f13]; try rfl)
    | false =>
    cases d2 : (L.getD a []).getD k false with
    | false =>
      repeat' (first
        | with_reducible (first | apply Ok.sq | apply Ok.block | apply Ok.rg | apply Ok.dw hmix | apply Ok.cd | apply Ok.skip | apply Ok.exit | apply Ok.ret)
        | simp (disch := first | omega | (simp only [List.length_append, List.length_cons, List.length_nil, List.length_take, List.length_drop, List.length_map, List.length_set]; omega)) only [wlk, ↓get_put', Nat.reduceEqDiff, Nat.reduceLT, ↓reduceIte, Int.reduceToNat, Nat.reducePow, Nat.min_eq_left, Nat.reduceAdd, Nat.reduceMul, Int.reduceAdd, Int.reduceSub, Int.reduceNeg, Int.reduceMul, Int.reduceEq, Int.reduceLT, Int.reduceLE, Nat.reduceSub, Int.reduceNatCast, Nat.reduceLeDiff, f2, f6, f7, f12, f13, f14, own_l1 oD3, R3.l1 hXr, hXa, hnb, hnk, d1, d2, Int.toNat_natCast]
        | (with_reducible (first | apply cd_split | apply gd_split)) <;> (intro hc; (try simp only [Bool.not_eq_true', Bool.not_eq_false'] at hc); (try simp only [hc]); (try simp only [hcl, Int.not_lt, Int.not_le, Nat.not_lt, Nat.not_le] at hc); try omega))
      refine ST.own (y := .b false) oa rfl rfl (by omega) (by omega) fun g4 o4 s4 => ?_
      repeat' (first
        | with_reducible (first | apply Ok.sq | apply Ok.block | apply Ok.rg | apply Ok.dw hmix | apply Ok.cd | apply Ok.skip | apply Ok.exit | apply Ok.ret)
        | simp (disch := first | omega | (simp only [List.length_append, List.length_cons, List.length_nil, List.length_take, List.length_drop, List.length_map, List.length_set]; omega)) only [wlk, ↓get_put', Nat.reduceEqDiff, Nat.reduceLT, ↓reduceIte, Int.reduceToNat, Nat.reducePow, Nat.min_eq_left, Nat.reduceAdd, Nat.reduceMul, Int.reduceAdd, Int.reduceSub, Int.reduceNeg, Int.reduceMul, Int.reduceEq, Int.reduceLT, Int.reduceLE, Nat.reduceSub, Int.reduceNatCast, Nat.reduceLeDiff, f14]
        | (with_reducible (first | apply cd_split | apply gd_split)) <;> (intro hc; (try simp only [Bool.not_eq_true', Bool.not_eq_false'] at hc); (try simp only [hc]); (try simp only [hcl, Int.not_lt, Int.not_le, Nat.not_lt, Nat.not_le] at hc); try omega))
      refine lp_next hK (n - (b + 1)) (by omega) ⟨b + 1, by omega, rfl, stk.trans (s4.mono fun i _ e => hpf a han i e), fin' _ (by rw [d1, d2]; rfl) g4 o4 s4, ?_, ?_, ?_, ?_, ?_, ?_⟩
      all_goals (simp (disch := first | omega | (simp only [List.length_append, List.length_cons, List.length_nil, List.length_take, List.length_drop, List.length_map, List.length_set]; omega)) only [wlk, ↓get_put', Nat.reduceEqDiff, Nat.reduceLT, ↓reduceIte, Int.reduceToNat, Nat.reducePow, Nat.min_eq_left, Nat.reduceAdd, Nat.reduceMul, Int.reduceAdd, Int.reduceSub, Int.reduceNeg, Int.reduceMul, Int.reduceEq, Int.reduceLT, Int.reduceLE, Nat.reduceSub, Int.reduceNatCast, Nat.reduceLeDiff, f2, f6, f7, f12, f13]; try rfl)
    | true =>
      repeat' (first
        | with_reducible (first | apply Ok.sq | apply Ok.block | apply Ok.rg | apply Ok.dw hmix | apply Ok.cd | apply Ok.skip | apply Ok.exit | apply Ok.ret)
        | simp (disch := first | omega | (simp only [List.length_append, List.length_cons, List.length_nil, List.length_take, List.length_drop, List.length_map, List.length_set]; omega)) only [wlk, ↓get_put', Nat.reduceEqDiff, Nat.reduceLT, ↓reduceIte, Int.reduceToNat, Nat.reducePow, Nat.min_eq_left, Nat.reduceAdd, Nat.reduceMul, Int.reduceAdd, Int.reduceSub, Int.reduceNeg, Int.reduceMul, Int.reduceEq, Int.reduceLT, Int.reduceLE, Nat.reduceSub, Int.reduceNatCast, Nat.reduceLeDiff, f2, f6, f7, f12, f13, f14, own_l1 oD3, R3.l1 hXr, hXa, hXk, hnb, hnk, d1, d2, Int.toNat_natCast]
        | (with_reducible (first | apply cd_split | apply gd_split)) <;> (intro hc; (try simp only [Bool.not_eq_true', Bool.not_eq_false'] at hc); (try simp only [hc]); (try simp only [hcl, Int.not_lt, Int.not_le, Nat.not_lt, Nat.not_le] at hc); try omega))
      refine ST.own (y := .b ((L.getD k []).getD b false)) oa rfl rfl (by omega) (by omega) fun g4 o4 s4 => ?_
      repeat' (first
        | with_reducible (first | apply Ok.sq | apply Ok.block | apply Ok.rg | apply Ok.dw hmix | apply Ok.cd | apply Ok.skip | apply Ok.exit | apply Ok.ret)
        | simp (disch := first | omega | (simp only [List.length_append, List.length_cons, List.length_nil, List.length_take, List.length_drop, List.length_map, List.length_set]; omega)) only [wlk, ↓get_put', Nat.reduceEqDiff, Nat.reduceLT, ↓reduceIte, Int.reduceToNat, Nat.reducePow, Nat.min_eq_left, Nat.reduceAdd, Nat.reduceMul, Int.reduceAdd, Int.reduceSub, Int.reduceNeg, Int.reduceMul, Int.reduceEq, Int.reduceLT, Int.reduceLE, Nat.reduceSub, Int.reduceNatCast, Nat.reduceLeDiff, f14]
        | (with_reducible (first | apply cd_split | apply gd_split)) <;> (intro hc; (try simp only [Bool.not_eq_true', Bool.not_eq_false'] at hc); (try simp only [hc]); (try simp only [hcl, Int.not_lt, Int.not_le, Nat.not_lt, Nat.not_le] at hc); try omega))
      refine lp_next hK (n - (b + 1)) (by omega) ⟨b + 1, by omega, rfl, stk.trans (s4.mono fun i _ e => hpf a han i e), fin' _ (by rw [d1, d2]; rfl) g4 o4 s4, ?_, ?_, ?_, ?_, ?_, ?_⟩
      all_goals (simp (disch := first | omega | (simp only [List.length_append, List.length_cons, List.length_nil, List.length_take, List.length_drop, List.length_map, List.length_set]; omega)) only [wlk, ↓get_put', Nat.reduceEqDiff, Nat.reduceLT, ↓reduceIte, Int.reduceToNat, Nat.reducePow, Nat.min_eq_left, Nat.reduceAdd, Nat.reduceMul, Int.reduceAdd, Int.reduceSub, Int.reduceNeg, Int.reduceMul, Int.reduceEq, Int.reduceLT, Int.reduceLE, Nat.reduceSub, Int.reduceNatCast, Nat.reduceLeDiff, f2, f6, f7, f12, f13]; try rfl)
  have hwlt : ∀ i, isOf w i → ¬ i = h2.next := fun i hi e => by have := vb_lt hw hi; rw [e] at this; omega
  have hwg := (hw.grow s3).stay stA hwlt
  have hlt2 : B.val h2.next < B.val g.next := own_lt oD
  repeat' (first
    | with_reducible (first | apply Ok.sq | apply Ok.block | apply Ok.rg | apply Ok.dw hmix | apply Ok.cd | apply Ok.skip | apply Ok.exit | apply Ok.ret)
    | simp (disch := first | omega | (simp only [List.length_append, List.length_cons, List.length_nil, List.length_take, List.length_drop, List.length_map, List.length_set]; omega)) only [wlk, ↓get_put', Nat.reduceEqDiff, Nat.reduceLT, ↓reduceIte, Int.reduceToNat, Nat.reducePow, Nat.min_eq_left, Nat.reduceAdd, Nat.reduceMul, Int.reduceAdd, Int.reduceSub, Int.reduceNeg, Int.reduceMul, Int.reduceEq, Int.reduceLT, Int.reduceLE, Nat.reduceSub, Int.reduceNatCast, Nat.reduceLeDiff, f2, f4, f6, f7, f8, hn1']
    | (with_reducible (first | apply cd_split | apply gd_split)) <;> (intro hc; (try simp only [Bool.not_eq_true', Bool.not_eq_false'] at hc); (try simp only [hc]); (try simp only [hcl, Int.not_lt, Int.not_le, Nat.not_lt, Nat.not_le] at hc); try omega))
  refine AL.own (by rw [rep_b]; simp; omega) hfg fun g1 t1 m1 oR => ?_
  rw [rep_b] at oR
  have oD1 := oD.stay t1 fun h => h
  have rD1 := rD.stay t1 fun i hi h => h
  repeat' (first
    | with_reducible (first | apply Ok.sq | apply Ok.block | apply Ok.rg | apply Ok.dw hmix | apply Ok.cd | apply Ok.skip | apply Ok.exit | apply Ok.ret)
    | simp (disch := first | omega | (simp only [List.length_append, List.length_cons, List.length_nil, List.length_take, List.length_drop, List.length_map, List.length_set]; omega)) only [wlk, ↓get_put', Nat.reduceEqDiff, Nat.reduceLT, ↓reduceIte, Int.reduceToNat, Nat.reducePow, Nat.min_eq_left, Nat.reduceAdd, Nat.reduceMul, Int.reduceAdd, Int.reduceSub, Int.reduceNeg, Int.reduceMul, Int.reduceEq, Int.reduceLT, Int.reduceLE, Nat.reduceSub, Int.reduceNatCast, Nat.reduceLeDiff, f7, f8, hn1', len_cV, len_nV, Nat.mul_one, Nat.zero_add]
    | (with_reducible (first | apply cd_split | apply gd_split)) <;> (intro hc; (try simp only [Bool.not_eq_true', Bool.not_eq_false'] at hc); (try simp only [hc]); (try simp only [hcl, Int.not_lt, Int.not_le, Nat.not_lt, Nat.not_le] at hc); try omega))
  refine ST.own (y := .l g.next 0 0 n n (some n)) oD1 rfl rfl (by omega) (by omega) fun g2 oD2 t2 => ?_
  rw [dV_succ f g.next hDn] at oD2
  have oR2 := oR.stay t2 fun e => by rw [e] at hlt2; omega
  have rD2 := rD1.stay t2 fun i hi e => by have := loD i hi; rw [e] at this; omega
  have hup := upd_self f D.length g.next
  repeat' (first
    | with_reducible (first | apply Ok.sq | apply Ok.block | apply Ok.rg | apply Ok.dw hmix | apply Ok.cd | apply Ok.skip | apply Ok.exit | apply Ok.ret)
    | simp (disch := first | omega | (simp only [List.length_append, List.length_cons, List.length_nil, List.length_take, List.length_drop, List.length_map, List.length_set]; omega)) only [wlk, ↓get_put', Nat.reduceEqDiff, Nat.reduceLT, ↓reduceIte, Int.reduceToNat, Nat.reducePow, Nat.min_eq_left, Nat.reduceAdd, Nat.reduceMul, Int.reduceAdd, Int.reduceSub, Int.reduceNeg, Int.reduceMul, Int.reduceEq, Int.reduceLT, Int.reduceLE, Nat.reduceSub, Int.reduceNatCast, Nat.reduceLeDiff, f7, f8, own_l1 oD2, hup, Int.toNat_natCast]
    | (with_reducible (first | apply cd_split | apply gd_split)) <;> (intro hc; (try simp only [Bool.not_eq_true', Bool.not_eq_false'] at hc); (try simp only [hc]); (try simp only [hcl, Int.not_lt, Int.not_le, Nat.not_lt, Nat.not_le] at hc); try omega))
  refine ST.own (y := .b true) oR2 rfl rfl (by omega) (by omega) fun g3 oR3 t3 => ?_
  rw [show ((List.replicate n false).map V.b).set D.length (.b true) = (initN n D.length).map V.b by unfold initN; rw [List.map_set]] at oR3
  have oD3 := oD2.stay t3 fun e => by rw [e] at hlt2; omega
  have rD3 := rD2.stay t3 fun i hi e => by have := own_lt (rD.own i hi); rw [e] at this; omega
  have st23 : Stay (fun i => i = h2.next) h3 g3 := stay_past (stay_past (stA.trans (t1.mono fun _ _ h => h.elim)) t2 fun i e => .inl e) t3 fun i e => .inr (by rw [e]; exact stA.next)
  have st3 := s13.past' st23 fun i e => by rw [e]; exact hh2
  have hwg3 := (hw.grow s3).stay st23 hwlt
  have hwa : (ws.map sv).getD D.length .u = sv (ws.getD D.length []) := by simp [List.getD, (by omega : D.length < ws.length)]
  have hwal : (ws.getD D.length []).length ≤ 1000000 := hlw _ (by rw [show ws.getD D.length [] = ws[D.length]'(by omega) by simp [List.getD, (by omega : D.length < ws.length)]]; exact List.getElem_mem _)
  have hda := drop_atL (ws := ws) (i := D.length) (by omega)
  generalize ws.getD D.length [] = wl at hwa hwal hda
  have hnmB := nameB_len (D.length : Int)
  have hf3 := st3.fl hf1
  have o3' := o1.stay st3 fun h => h
  have stop : ¬ (2 ≤ wl.length ∧ wl.take 2 = nameB (D.length : Int) ++ [62]) → refM s = none := fun e => by rw [hP, hda, goR_stop e]; rfl
  by_cases hl2 : 2 ≤ wl.length
  case neg =>
    repeat' (first
      | with_reducible (first | apply Ok.sq | apply Ok.block | apply Ok.rg | apply Ok.dw hmix | apply Ok.cd | apply Ok.skip | apply Ok.exit | apply Ok.ret)
      | simp (disch := first | omega | (simp only [List.length_append, List.length_cons, List.length_nil, List.length_take, List.length_drop, List.length_map, List.length_set]; omega)) only [wlk, ↓get_put', Nat.reduceEqDiff, Nat.reduceLT, ↓reduceIte, Int.reduceToNat, Nat.reducePow, Nat.min_eq_left, Nat.reduceAdd, Nat.reduceMul, Int.reduceAdd, Int.reduceSub, Int.reduceNeg, Int.reduceMul, Int.reduceEq, Int.reduceLT, Int.reduceLE, Nat.reduceSub, Int.reduceNatCast, Nat.reduceLeDiff, f2, f4, f6, f7, f8, hwg3.lst.ix, hwg3.lst.ld, hwl, hwa, Int.toNat_natCast]
      | (with_reducible (first | apply cd_split | apply gd_split)) <;> (intro hc; (try simp only [Bool.not_eq_true', Bool.not_eq_false'] at hc); (try simp only [hc]); (try simp only [hcl, Int.not_lt, Int.not_le, Nat.not_lt, Nat.not_le] at hc); try omega))
    refine ST.own (y := .l0) o3' rfl rfl (by omega) (by omega) fun g4 o4 t4 => ?_
    repeat' (first
      | with_reducible (first | apply Ok.sq | apply Ok.block | apply Ok.rg | apply Ok.dw hmix | apply Ok.cd | apply Ok.skip | apply Ok.exit | apply Ok.ret)
      | simp (disch := first | omega | (simp only [List.length_append, List.length_cons, List.length_nil, List.length_take, List.length_drop, List.length_map, List.length_set]; omega)) only [wlk, ↓get_put', Nat.reduceEqDiff, Nat.reduceLT, ↓reduceIte, Int.reduceToNat, Nat.reducePow, Nat.min_eq_left, Nat.reduceAdd, Nat.reduceMul, Int.reduceAdd, Int.reduceSub, Int.reduceNeg, Int.reduceMul, Int.reduceEq, Int.reduceLT, Int.reduceLE, Nat.reduceSub, Int.reduceNatCast, Nat.reduceLeDiff]
      | (with_reducible (first | apply cd_split | apply gd_split)) <;> (intro hc; (try simp only [Bool.not_eq_true', Bool.not_eq_false'] at hc); (try simp only [hc]); (try simp only [hcl, Int.not_lt, Int.not_le, Nat.not_lt, Nat.not_le] at hc); try omega))
    exact bad _ _ (stop fun e => hl2 e.1) o4 ((s1.trans st3).past' t4 fun i e => by rw [e]; exact Nat.le_refl _) (by simp (disch := first | omega | (simp only [List.length_append, List.length_cons, List.length_nil, List.length_take, List.length_drop, List.length_map, List.length_set]; omega)) only [wlk, ↓get_put', Nat.reduceEqDiff, Nat.reduceLT, ↓reduceIte, Int.reduceToNat, Nat.reducePow, Nat.min_eq_left, Nat.reduceAdd, Nat.reduceMul, Int.reduceAdd, Int.reduceSub, Int.reduceNeg, Int.reduceMul, Int.reduceEq, Int.reduceLT, Int.reduceLE, Nat.reduceSub, Int.reduceNatCast, Nat.reduceLeDiff, f2]) (by simp (disch := first | omega | (simp only [List.length_append, List.length_cons, List.length_nil, List.length_take, List.length_drop, List.length_map, List.length_set]; omega)) only [wlk, ↓get_put', Nat.reduceEqDiff, Nat.reduceLT, ↓reduceIte, Int.reduceToNat, Nat.reducePow, Nat.min_eq_left, Nat.reduceAdd, Nat.reduceMul, Int.reduceAdd, Int.reduceSub, Int.reduceNeg, Int.reduceMul, Int.reduceEq, Int.reduceLT, Int.reduceLE, Nat.reduceSub, Int.reduceNatCast, Nat.reduceLeDiff])
  repeat' (first
    | with_reducible (first | apply Ok.sq | apply Ok.block | apply Ok.rg | apply Ok.dw hmix | apply Ok.cd | apply Ok.skip | apply Ok.exit | apply Ok.ret)
    | simp (disch := first | omega | (simp only [List.length_append, List.length_cons, List.length_nil, List.length_take, List.length_drop, List.length_map, List.length_set]; omega)) only [wlk, ↓get_put', Nat.reduceEqDiff, Nat.reduceLT, ↓reduceIte, Int.reduceToNat, Nat.reducePow, Nat.min_eq_left, Nat.reduceAdd, Nat.reduceMul, Int.reduceAdd, Int.reduceSub, Int.reduceNeg, Int.reduceMul, Int.reduceEq, Int.reduceLT, Int.reduceLE, Nat.reduceSub, Int.reduceNatCast, Nat.reduceLeDiff, f4, f6, f7, f8, hwg3.lst.ix, hwg3.lst.ld, hwl, hwa, Int.toNat_natCast]
    | (with_reducible (first | apply cd_split | apply gd_split)) <;> (intro hc; (try simp only [Bool.not_eq_true', Bool.not_eq_false'] at hc); (try simp only [hc]); (try simp only [hcl, Int.not_lt, Int.not_le, Nat.not_lt, Nat.not_le] at hc); try omega))
  refine CL.mk (rname_ok (h := reFloor g3) (D.length : Int) (by cases g3; exact Nat.le_refl _)) ?_
  rintro _ g4 ⟨rfl, t4⟩
  have t4 := t4.unfloor
  have o4' := o3'.stay t4 fun h => h
  by_cases htk : wl.take 2 = nameB (D.length : Int) ++ [62]
  case neg =>
    have hd : decide (wl.take 2 = nameB (D.length : Int) ++ [UInt8.ofNat 62]) = false := decide_eq_false htk
    repeat' (first
      | with_reducible (first | apply Ok.sq | apply Ok.block | apply Ok.rg | apply Ok.dw hmix | apply Ok.cd | apply Ok.skip | apply Ok.exit | apply Ok.ret)
      | simp (disch := first | omega | (simp only [List.length_append, List.length_cons, List.length_nil, List.length_take, List.length_drop, List.length_map, List.length_set]; omega)) only [wlk, ↓get_put', Nat.reduceEqDiff, Nat.reduceLT, ↓reduceIte, Int.reduceToNat, Nat.reducePow, Nat.min_eq_left, Nat.reduceAdd, Nat.reduceMul, Int.reduceAdd, Int.reduceSub, Int.reduceNeg, Int.reduceMul, Int.reduceEq, Int.reduceLT, Int.reduceLE, Nat.reduceSub, Int.reduceNatCast, Nat.reduceLeDiff, hd, f2]
      | (with_reducible (first | apply cd_split | apply gd_split)) <;> (intro hc; (try simp only [Bool.not_eq_true', Bool.not_eq_false'] at hc); (try simp only [hc]); (try simp only [hcl, Int.not_lt, Int.not_le, Nat.not_lt, Nat.not_le] at hc); try omega))
    refine ST.own (y := .l0) o4' rfl rfl (by omega) (by omega) fun g5 o5 t5 => ?_
    repeat' (first
      | with_reducible (first | apply Ok.sq | apply Ok.block | apply Ok.rg | apply Ok.dw hmix | apply Ok.cd | apply Ok.skip | apply Ok.exit | apply Ok.ret)
      | simp (disch := first | omega | (simp only [List.length_append, List.length_cons, List.length_nil, List.length_take, List.length_drop, List.length_map, List.length_set]; omega)) only [wlk, ↓get_put', Nat.reduceEqDiff, Nat.reduceLT, ↓reduceIte, Int.reduceToNat, Nat.reducePow, Nat.min_eq_left, Nat.reduceAdd, Nat.reduceMul, Int.reduceAdd, Int.reduceSub, Int.reduceNeg, Int.reduceMul, Int.reduceEq, Int.reduceLT, Int.reduceLE, Nat.reduceSub, Int.reduceNatCast, Nat.reduceLeDiff]
      | (with_reducible (first | apply cd_split | apply gd_split)) <;> (intro hc; (try simp only [Bool.not_eq_true', Bool.not_eq_false'] at hc); (try simp only [hc]); (try simp only [hcl, Int.not_lt, Int.not_le, Nat.not_lt, Nat.not_le] at hc); try omega))
    exact bad _ _ (stop fun e => htk e.2) o5 (((s1.trans st3).trans t4).past' t5 fun i e => by rw [e]; exact Nat.le_refl _) (by simp (disch := first | omega | (simp only [List.length_append, List.length_cons, List.length_nil, List.length_take, List.length_drop, List.length_map, List.length_set]; omega)) only [wlk, ↓get_put', Nat.reduceEqDiff, Nat.reduceLT, ↓reduceIte, Int.reduceToNat, Nat.reducePow, Nat.min_eq_left, Nat.reduceAdd, Nat.reduceMul, Int.reduceAdd, Int.reduceSub, Int.reduceNeg, Int.reduceMul, Int.reduceEq, Int.reduceLT, Int.reduceLE, Nat.reduceSub, Int.reduceNatCast, Nat.reduceLeDiff, f2]) (by simp (disch := first | omega | (simp only [List.length_append, List.length_cons, List.length_nil, List.length_take, List.length_drop, List.length_map, List.length_set]; omega)) only [wlk, ↓get_put', Nat.reduceEqDiff, Nat.reduceLT, ↓reduceIte, Int.reduceToNat, Nat.reducePow, Nat.min_eq_left, Nat.reduceAdd, Nat.reduceMul, Int.reduceAdd, Int.reduceSub, Int.reduceNeg, Int.reduceMul, Int.reduceEq, Int.reduceLT, Int.reduceLE, Nat.reduceSub, Int.reduceNatCast, Nat.reduceLeDiff])
  have hd : decide (wl.take 2 = nameB (D.length : Int) ++ [UInt8.ofNat 62]) = true := decide_eq_true htk
  have hgo : goR n D.length (ws.drop D.length) = (match rowR (initN n D.length) (wl.drop 2) with | none => none | some row => (goR n (D.length + 1) (ws.drop (D.length + 1))).map (row :: ·)) := by
    rw [hda, goR_go ⟨hl2, htk⟩]
  have st24 : Stay (fun i => i = h2.next) h3 (unFloor g3 g4) := stay_past st23 t4 fun _ h => h.elim
  have oR4 := oR3.stay t4 fun h => h
  have oD4 := oD3.stay t4 fun h => h
  have rD4 := rD3.stay t4 fun i hi h => h
  have hif : ∀ i, i < D.length → ¬ f i = g.next := fun i hi e => by have := own_lt (rD.own i hi); rw [e] at this; omega
  repeat' (first
    | with_reducible (first | apply Ok.sq | apply Ok.block | apply Ok.rg | apply Ok.dw hmix | apply Ok.cd | apply Ok.skip | apply Ok.exit | apply Ok.ret)
    | simp (disch := first | omega | (simp only [List.length_append, List.length_cons, List.length_nil, List.length_take, List.length_drop, List.length_map, List.length_set]; omega)) only [wlk, ↓get_put', Nat.reduceEqDiff, Nat.reduceLT, ↓reduceIte, Int.reduceToNat, Nat.reducePow, Nat.min_eq_left, Nat.reduceAdd, Nat.reduceMul, Int.reduceAdd, Int.reduceSub, Int.reduceNeg, Int.reduceMul, Int.reduceEq, Int.reduceLT, Int.reduceLE, Nat.reduceSub, Int.reduceNatCast, Nat.reduceLeDiff, hd]
    | (with_reducible (first | apply cd_split | apply gd_split)) <;> (intro hc; (try simp only [Bool.not_eq_true', Bool.not_eq_false'] at hc); (try simp only [hc]); (try simp only [hcl, Int.not_lt, Int.not_le, Nat.not_lt, Nat.not_le] at hc); try omega))
  refine Ok.lp (fun m t g' => ∃ (i : Nat) (row : List Bool), 2 ≤ i ∧ i ≤ wl.length ∧ m = wl.length - i ∧ Stay (fun j => j = g.next) (unFloor g3 g4) g' ∧ Own g' g.next (row.map V.b) ∧ row.length = n ∧ row.getD D.length false = true ∧ rowR (initN n D.length) (wl.drop 2) = rowR row (wl.drop i) ∧
    get 2 t = .p h.next 0 0 1 ∧ get 4 t = w ∧ get 6 t = .i .i64 (n : Int) ∧ get 7 t = .l h2.next 0 0 n n (some n) ∧ get 8 t = .i .i64 (D.length : Int) ∧ get 9 t = .i .i64 (i : Int)) (wl.length - 2) ?_ ?_
  · simp (disch := first | omega | (simp only [List.length_append, List.length_cons, List.length_nil, List.length_take, List.length_drop, List.length_map, List.length_set]; omega)) only [wlk, ↓get_put', Nat.reduceEqDiff, Nat.reduceLT, ↓reduceIte, Int.reduceToNat, Nat.reducePow, Nat.min_eq_left, Nat.reduceAdd, Nat.reduceMul, Int.reduceAdd, Int.reduceSub, Int.reduceNeg, Int.reduceMul, Int.reduceEq, Int.reduceLT, Int.reduceLE, Nat.reduceSub, Int.reduceNatCast, Nat.reduceLeDiff, f2, f4, f6, f7, f8]
    refine ⟨2, _, Nat.le_refl _, hl2, rfl, Stay.refl _ _, oR4, initN_len _ _, ?_, rfl, by trivial, trivial, trivial, trivial, trivial, rfl⟩
    unfold initN
    rw [getD_set_eq _ _ _ _ _ (by simp; omega), if_pos rfl]
  clear f2 f4 f6 f7 f8
  rintro J hJ m t g6 ⟨i, row, hi2, hil, rfl, t6, oR6, hrow, hrd, hR, f2, f4, f6, f7, f8, f9⟩
  have st26 : Stay (fun i => i = h2.next) h3 g6 := stay_past st24 t6 fun i e => .inr (by rw [e]; exact stA.next)
  have st6 := s13.past' st26 fun i e => by rw [e]; exact hh2
  have hwg6 := (hw.grow s3).stay st26 hwlt
  have o6' := o1.stay st6 fun h => h
  have oD6 := oD4.stay t6 fun e => by rw [e] at hlt2; omega
  have rD6 := rD4.stay t6 fun i hi => hif i hi
  by_cases hii : i < wl.length
  case neg => 
    obtain rfl : i = wl.length := by omega
    have hrF : rowR (initN n D.length) (wl.drop 2) = some row := by rw [hR, List.drop_length]; rfl
    have hlen1 : (D ++ [row]).length = D.length + 1 := by simp
    repeat' (first
      | with_reducible (first | apply Ok.sq | apply Ok.block | apply Ok.rg | apply Ok.dw hmix | apply Ok.cd | apply Ok.skip | apply Ok.exit | apply Ok.ret)
      | simp (disch := first | omega | (simp only [List.length_append, List.length_cons, List.length_nil, List.length_take, List.length_drop, List.length_map, List.length_set]; omega)) only [wlk, ↓get_put', Nat.reduceEqDiff, Nat.reduceLT, ↓reduceIte, Int.reduceToNat, Nat.reducePow, Nat.min_eq_left, Nat.reduceAdd, Nat.reduceMul, Int.reduceAdd, Int.reduceSub, Int.reduceNeg, Int.reduceMul, Int.reduceEq, Int.reduceLT, Int.reduceLE, Nat.reduceSub, Int.reduceNatCast, Nat.reduceLeDiff, f4, f8, f9, hwg6.lst.ix, hwg6.lst.ld, hwl, hwa, Int.toNat_natCast]
      | (with_reducible (first | apply cd_split | apply gd_split)) <;> (intro hc; (try simp only [Bool.not_eq_true', Bool.not_eq_false'] at hc); (try simp only [hc]); (try simp only [hcl, Int.not_lt, Int.not_le, Nat.not_lt, Nat.not_le] at hc); try omega))
    refine lp_next hI (n - (D.length + 1)) (by omega) ⟨D ++ [row], upd f D.length g.next, by omega, by rw [hlen1], st26, ?_, by rw [hlen1]; exact oD6, ⟨fun i hi => ?_⟩, fun i hi => ?_, fun i j hi hj e => ?_, fun i hi => ?_, ?_, ?_, ?_, ?_, ?_⟩
    · rw [hP, hgo, hrF, hlen1]
      show Option.map _ ((goR _ _ _).map _) = _
      rw [Option.map_map]
      congr 1
      funext x
      show D ++ (row :: x) = D ++ [row] ++ x
      rw [List.append_assoc]; rfl
    · rw [hlen1] at hi
      rw [getD_snoc]
      unfold upd
      by_cases e : i = D.length
      · rw [if_pos e, if_neg (by omega), if_pos e]; exact oR6
      · rw [if_neg e, if_pos (by omega)]; exact rD6.own i (by omega)
    · rw [hlen1] at hi
      rw [getD_snoc]
      by_cases e : i = D.length
      · rw [if_neg (by omega), if_pos e]; exact hrow
      · rw [if_pos (by omega)]; exact sqD i (by omega)
    · rw [hlen1] at hi hj
      unfold upd at e
      by_cases ei : i = D.length <;> by_cases ej : j = D.length
      · omega
      · rw [if_pos ei, if_neg ej] at e
        exact absurd e.symm (hif j (by omega))
      · rw [if_neg ei, if_pos ej] at e
        exact absurd e (hif i (by omega))
      · rw [if_neg ei, if_neg ej] at e
        exact injD i j (by omega) (by omega) e
    · rw [hlen1] at hi
      unfold upd
      by_cases e : i = D.length
      · rw [if_pos e]; exact hlt2
      · rw [if_neg e]; exact loD i (by omega)
    all_goals (simp (disch := first | omega | (simp only [List.length_append, List.length_cons, List.length_nil, List.length_take, List.length_drop, List.length_map, List.length_set]; omega)) only [wlk, ↓get_put', Nat.reduceEqDiff, Nat.reduceLT, ↓reduceIte, Int.reduceToNat, Nat.reducePow, Nat.min_eq_left, Nat.reduceAdd, Nat.reduceMul, Int.reduceAdd, Int.reduceSub, Int.reduceNeg, Int.reduceMul, Int.reduceEq, Int.reduceLT, Int.reduceLE, Nat.reduceSub, Int.reduceNatCast, Nat.reduceLeDiff, f2, f4, f6, f7, hlen1]; try rfl)
  have hdr := drop_at hii
  have he1 : ((i : Int) + 1).toNat = i + 1 := by omega
  have hc256 := (wl.getD i 0).toNat_lt
  have hone := one_at hii
  have hlv := levelP_one (wl.getD i 0)
  have bad6 : rowR row (wl.drop i) = none → refM s = none := fun e => by rw [hP, hgo, hR, e]; rfl
  by_cases hnm : 97 ≤ (wl.getD i 0).toNat ∧ (wl.getD i 0).toNat < 103
  case neg =>
    rw [if_neg hnm] at hlv
    have hrB : rowR row (wl.drop i) = none := by rw [hdr]; unfold rowR; rw [if_neg (fun e => hnm ⟨e.1, e.2.1⟩)]
    repeat' (first
      | with_reducible (first | apply Ok.sq | apply Ok.block | apply Ok.rg | apply Ok.dw hmix | apply Ok.cd | apply Ok.skip | apply Ok.exit | apply Ok.ret)
      | simp (disch := first | omega | (simp only [List.length_append, List.length_cons, List.length_nil, List.length_take, List.length_drop, List.length_map, List.length_set]; omega)) only [wlk, ↓get_put', Nat.reduceEqDiff, Nat.reduceLT, ↓reduceIte, Int.reduceToNat, Nat.reducePow, Nat.min_eq_left, Nat.reduceAdd, Nat.reduceMul, Int.reduceAdd, Int.reduceSub, Int.reduceNeg, Int.reduceMul, Int.reduceEq, Int.reduceLT, Int.reduceLE, Nat.reduceSub, Int.reduceNatCast, Nat.reduceLeDiff, f4, f6, f7, f8, f9, hwg6.lst.ix, hwg6.lst.ld, hwl, hwa, Int.toNat_natCast, he1, hone]
      | (with_reducible (first | apply cd_split | apply gd_split)) <;> (intro hc; (try simp only [Bool.not_eq_true', Bool.not_eq_false'] at hc); (try simp only [hc]); (try simp only [hcl, Int.not_lt, Int.not_le, Nat.not_lt, Nat.not_le] at hc); try omega))
    refine CL.pure (rlevel_ok (by show 1 ≤ 9223372036854775807; omega)) ?_
    rw [hlv]
    repeat' (first
      | with_reducible (first | apply Ok.sq | apply Ok.block | apply Ok.rg | apply Ok.dw hmix | apply Ok.cd | apply Ok.skip | apply Ok.exit | apply Ok.ret)
      | simp (disch := first | omega | (simp only [List.length_append, List.length_cons, List.length_nil, List.length_take, List.length_drop, List.length_map, List.length_set]; omega)) only [wlk, ↓get_put', Nat.reduceEqDiff, Nat.reduceLT, ↓reduceIte, Int.reduceToNat, Nat.reducePow, Nat.min_eq_left, Nat.reduceAdd, Nat.reduceMul, Int.reduceAdd, Int.reduceSub, Int.reduceNeg, Int.reduceMul, Int.reduceEq, Int.reduceLT, Int.reduceLE, Nat.reduceSub, Int.reduceNatCast, Nat.reduceLeDiff, f2]
      | (with_reducible (first | apply cd_split | apply gd_split)) <;> (intro hc; (try simp only [Bool.not_eq_true', Bool.not_eq_false'] at hc); (try simp only [hc]); (try simp only [hcl, Int.not_lt, Int.not_le, Nat.not_lt, Nat.not_le] at hc); try omega))
    refine ST.own (y := .l0) o6' rfl rfl (by omega) (by omega) fun g7 o7 t7 => ?_
    repeat' (first
      | with_reducible (first | apply Ok.sq | apply Ok.block | apply Ok.rg | apply Ok.dw hmix | apply Ok.cd | apply Ok.skip | apply Ok.exit | apply Ok.ret)
      | simp (disch := first | omega | (simp only [List.length_append, List.length_cons, List.length_nil, List.length_take, List.length_drop, List.length_map, List.length_set]; omega)) only [wlk, ↓get_put', Nat.reduceEqDiff, Nat.reduceLT, ↓reduceIte, Int.reduceToNat, Nat.reducePow, Nat.min_eq_left, Nat.reduceAdd, Nat.reduceMul, Int.reduceAdd, Int.reduceSub, Int.reduceNeg, Int.reduceMul, Int.reduceEq, Int.reduceLT, Int.reduceLE, Nat.reduceSub, Int.reduceNatCast, Nat.reduceLeDiff]
      | (with_reducible (first | apply cd_split | apply gd_split)) <;> (intro hc; (try simp only [Bool.not_eq_true', Bool.not_eq_false'] at hc); (try simp only [hc]); (try simp only [hcl, Int.not_lt, Int.not_le, Nat.not_lt, Nat.not_le] at hc); try omega))
    exact bad _ _ (bad6 hrB) o7 ((s1.trans st6).past' t7 fun i e => by rw [e]; exact Nat.le_refl _) (by simp (disch := first | omega | (simp only [List.length_append, List.length_cons, List.length_nil, List.length_take, List.length_drop, List.length_map, List.length_set]; omega)) only [wlk, ↓get_put', Nat.reduceEqDiff, Nat.reduceLT, ↓reduceIte, Int.reduceToNat, Nat.reducePow, Nat.min_eq_left, Nat.reduceAdd, Nat.reduceMul, Int.reduceAdd, Int.reduceSub, Int.reduceNeg, Int.reduceMul, Int.reduceEq, Int.reduceLT, Int.reduceLE, Nat.reduceSub, Int.reduceNatCast, Nat.reduceLeDiff, f2]) (by simp (disch := first | omega | (simp only [List.length_append, List.length_cons, List.length_nil, List.length_take, List.length_drop, List.length_map, List.length_set]; omega)) only [wlk, ↓get_put', Nat.reduceEqDiff, Nat.reduceLT, ↓reduceIte, Int.reduceToNat, Nat.reducePow, Nat.min_eq_left, Nat.reduceAdd, Nat.reduceMul, Int.reduceAdd, Int.reduceSub, Int.reduceNeg, Int.reduceMul, Int.reduceEq, Int.reduceLT, Int.reduceLE, Nat.reduceSub, Int.reduceNatCast, Nat.reduceLeDiff])
  rw [if_pos hnm] at hlv
  by_cases hbn : (wl.getD i 0).toNat - 97 < n
  case neg =>
    have hrB : rowR row (wl.drop i) = none := by rw [hdr]; unfold rowR; rw [if_neg (fun e => hbn (by rw [← hrow]; exact e.2.2.1))]
    repeat' (first
      | with_reducible (first | apply Ok.sq | apply Ok.block | apply Ok.rg | apply Ok.dw hmix | apply Ok.cd | apply Ok.skip | apply Ok.exit | apply Ok.ret)
      | simp (disch := first | omega | (simp only [List.length_append, List.length_cons, List.length_nil, List.length_take, List.length_drop, List.length_map, List.length_set]; omega)) only [wlk, ↓get_put', Nat.reduceEqDiff, Nat.reduceLT, ↓reduceIte, Int.reduceToNat, Nat.reducePow, Nat.min_eq_left, Nat.reduceAdd, Nat.reduceMul, Int.reduceAdd, Int.reduceSub, Int.reduceNeg, Int.reduceMul, Int.reduceEq, Int.reduceLT, Int.reduceLE, Nat.reduceSub, Int.reduceNatCast, Nat.reduceLeDiff, f4, f6, f7, f8, f9, hwg6.lst.ix, hwg6.lst.ld, hwl, hwa, Int.toNat_natCast, he1, hone]
      | (with_reducible (first | apply cd_split | apply gd_split)) <;> (intro hc; (try simp only [Bool.not_eq_true', Bool.not_eq_false'] at hc); (try simp only [hc]); (try simp only [hcl, Int.not_lt, Int.not_le, Nat.not_lt, Nat.not_le] at hc); try omega))
    refine CL.pure (rlevel_ok (by show 1 ≤ 9223372036854775807; omega)) ?_
    rw [hlv]
    repeat' (first
      | with_reducible (first | apply Ok.sq | apply Ok.block | apply Ok.rg | apply Ok.dw hmix | apply Ok.cd | apply Ok.skip | apply Ok.exit | apply Ok.ret)
      | simp (disch := first | omega | (simp only [List.length_append, List.length_cons, List.length_nil, List.length_take, List.length_drop, List.length_map, List.length_set]; omega)) only [wlk, ↓get_put', Nat.reduceEqDiff, Nat.reduceLT, ↓reduceIte, Int.reduceToNat, Nat.reducePow, Nat.min_eq_left, Nat.reduceAdd, Nat.reduceMul, Int.reduceAdd, Int.reduceSub, Int.reduceNeg, Int.reduceMul, Int.reduceEq, Int.reduceLT, Int.reduceLE, Nat.reduceSub, Int.reduceNatCast, Nat.reduceLeDiff, f2, f6]
      | (with_reducible (first | apply cd_split | apply gd_split)) <;> (intro hc; (try simp only [Bool.not_eq_true', Bool.not_eq_false'] at hc); (try simp only [hc]); (try simp only [hcl, Int.not_lt, Int.not_le, Nat.not_lt, Nat.not_le] at hc); try omega))
    refine ST.own (y := .l0) o6' rfl rfl (by omega) (by omega) fun g7 o7 t7 => ?_
    repeat' (first
      | with_reducible (first | apply Ok.sq | apply Ok.block | apply Ok.rg | apply Ok.dw hmix | apply Ok.cd | apply Ok.skip | apply Ok.exit | apply Ok.ret)
      | simp (disch := first | omega | (simp only [List.length_append, List.length_cons, List.length_nil, List.length_take, List.length_drop, List.length_map, List.length_set]; omega)) only [wlk, ↓get_put', Nat.reduceEqDiff, Nat.reduceLT, ↓reduceIte, Int.reduceToNat, Nat.reducePow, Nat.min_eq_left, Nat.reduceAdd, Nat.reduceMul, Int.reduceAdd, Int.reduceSub, Int.reduceNeg, Int.reduceMul, Int.reduceEq, Int.reduceLT, Int.reduceLE, Nat.reduceSub, Int.reduceNatCast, Nat.reduceLeDiff]
      | (with_reducible (first | apply cd_split | apply gd_split)) <;> (intro hc; (try simp only [Bool.not_eq_true', Bool.not_eq_false'] at hc); (try simp only [hc]); (try simp only [hcl, Int.not_lt, Int.not_le, Nat.not_lt, Nat.not_le] at hc); try omega))
    exact bad _ _ (bad6 hrB) o7 ((s1.trans st6).past' t7 fun i e => by rw [e]; exact Nat.le_refl _) (by simp (disch := first | omega | (simp only [List.length_append, List.length_cons, List.length_nil, List.length_take, List.length_drop, List.length_map, List.length_set]; omega)) only [wlk, ↓get_put', Nat.reduceEqDiff, Nat.reduceLT, ↓reduceIte, Int.reduceToNat, Nat.reducePow, Nat.min_eq_left, Nat.reduceAdd, Nat.reduceMul, Int.reduceAdd, Int.reduceSub, Int.reduceNeg, Int.reduceMul, Int.reduceEq, Int.reduceLT, Int.reduceLE, Nat.reduceSub, Int.reduceNatCast, Nat.reduceLeDiff, f2]) (by simp (disch := first | omega | (simp only [List.length_append, List.length_cons, List.length_nil, List.length_take, List.length_drop, List.length_map, List.length_set]; omega)) only [wlk, ↓get_put', Nat.reduceEqDiff, Nat.reduceLT, ↓reduceIte, Int.reduceToNat, Nat.reducePow, Nat.min_eq_left, Nat.reduceAdd, Nat.reduceMul, Int.reduceAdd, Int.reduceSub, Int.reduceNeg, Int.reduceMul, Int.reduceEq, Int.reduceLT, Int.reduceLE, Nat.reduceSub, Int.reduceNatCast, Nat.reduceLeDiff])
  cases hset : row.getD ((wl.getD i 0).toNat - 97) false with
  | true =>
    have hrB : rowR row (wl.drop i) = none := by rw [hdr]; unfold rowR; rw [if_neg (fun e => by rw [hset] at e; exact absurd e.2.2.2 (by decide))]
    by_cases hba : (wl.getD i 0).toNat - 97 = D.length
    case pos =>
      repeat' (first
        | with_reducible (first | apply Ok.sq | apply Ok.block | apply Ok.rg | apply Ok.dw hmix | apply Ok.cd | apply Ok.skip | apply Ok.exit | apply Ok.ret)
        | simp (disch := first | omega | (simp only [List.length_append, List.length_cons, List.length_nil, List.length_take, List.length_drop, List.length_map, List.length_set]; omega)) only [wlk, ↓get_put', Nat.reduceEqDiff, Nat.reduceLT, ↓reduceIte, Int.reduceToNat, Nat.reducePow, Nat.min_eq_left, Nat.reduceAdd, Nat.reduceMul, Int.reduceAdd, Int.reduceSub, Int.reduceNeg, Int.reduceMul, Int.reduceEq, Int.reduceLT, Int.reduceLE, Nat.reduceSub, Int.reduceNatCast, Nat.reduceLeDiff, f4, f6, f7, f8, f9, hwg6.lst.ix, hwg6.lst.ld, hwl, hwa, Int.toNat_natCast, he1, hone]
        | (with_reducible (first | apply cd_split | apply gd_split)) <;> (intro hc; (try simp only [Bool.not_eq_true', Bool.not_eq_false'] at hc); (try simp only [hc]); (try simp only [hcl, Int.not_lt, Int.not_le, Nat.not_lt, Nat.not_le] at hc); try omega))
      refine CL.pure (rlevel_ok (by show 1 ≤ 9223372036854775807; omega)) ?_
      rw [hlv]
      repeat' (first
        | with_reducible (first | apply Ok.sq | apply Ok.block | apply Ok.rg | apply Ok.dw hmix | apply Ok.cd | apply Ok.skip | apply Ok.exit | apply Ok.ret)
        | simp (disch := first | omega | (simp only [List.length_append, List.length_cons, List.length_nil, List.length_take, List.length_drop, List.length_map, List.length_set]; omega)) only [wlk, ↓get_put', Nat.reduceEqDiff, Nat.reduceLT, ↓reduceIte, Int.reduceToNat, Nat.reducePow, Nat.min_eq_left, Nat.reduceAdd, Nat.reduceMul, Int.reduceAdd, Int.reduceSub, Int.reduceNeg, Int.reduceMul, Int.reduceEq, Int.reduceLT, Int.reduceLE, Nat.reduceSub, Int.reduceNatCast, Nat.reduceLeDiff, f2, f6, f8]
        | (with_reducible (first | apply cd_split | apply gd_split)) <;> (intro hc; (try simp only [Bool.not_eq_true', Bool.not_eq_false'] at hc); (try simp only [hc]); (try simp only [hcl, Int.not_lt, Int.not_le, Nat.not_lt, Nat.not_le] at hc); try omega))
      refine ST.own (y := .l0) o6' rfl rfl (by omega) (by omega) fun g7 o7 t7 => ?_
      repeat' (first
        | with_reducible (first | apply Ok.sq | apply Ok.block | apply Ok.rg | apply Ok.dw hmix | apply Ok.cd | apply Ok.skip | apply Ok.exit | apply Ok.ret)
        | simp (disch := first | omega | (simp only [List.length_append, List.length_cons, List.length_nil, List.length_take, List.length_drop, List.length_map, List.length_set]; omega)) only [wlk, ↓get_put', Nat.reduceEqDiff, Nat.reduceLT, ↓reduceIte, Int.reduceToNat, Nat.reducePow, Nat.min_eq_left, Nat.reduceAdd, Nat.reduceMul, Int.reduceAdd, Int.reduceSub, Int.reduceNeg, Int.reduceMul, Int.reduceEq, Int.reduceLT, Int.reduceLE, Nat.reduceSub, Int.reduceNatCast, Nat.reduceLeDiff]
        | (with_reducible (first | apply cd_split | apply gd_split)) <;> (intro hc; (try simp only [Bool.not_eq_true', Bool.not_eq_false'] at hc); (try simp only [hc]); (try simp only [hcl, Int.not_lt, Int.not_le, Nat.not_lt, Nat.not_le] at hc); try omega))
      exact bad _ _ (bad6 hrB) o7 ((s1.trans st6).past' t7 fun i e => by rw [e]; exact Nat.le_refl _) (by simp (disch := first | omega | (simp only [List.length_append, List.length_cons, List.length_nil, List.length_take, List.length_drop, List.length_map, List.length_set]; omega)) only [wlk, ↓get_put', Nat.reduceEqDiff, Nat.reduceLT, ↓reduceIte, Int.reduceToNat, Nat.reducePow, Nat.min_eq_left, Nat.reduceAdd, Nat.reduceMul, Int.reduceAdd, Int.reduceSub, Int.reduceNeg, Int.reduceMul, Int.reduceEq, Int.reduceLT, Int.reduceLE, Nat.reduceSub, Int.reduceNatCast, Nat.reduceLeDiff, f2]) (by simp (disch := first | omega | (simp only [List.length_append, List.length_cons, List.length_nil, List.length_take, List.length_drop, List.length_map, List.length_set]; omega)) only [wlk, ↓get_put', Nat.reduceEqDiff, Nat.reduceLT, ↓reduceIte, Int.reduceToNat, Nat.reducePow, Nat.min_eq_left, Nat.reduceAdd, Nat.reduceMul, Int.reduceAdd, Int.reduceSub, Int.reduceNeg, Int.reduceMul, Int.reduceEq, Int.reduceLT, Int.reduceLE, Nat.reduceSub, Int.reduceNatCast, Nat.reduceLeDiff])
    repeat' (first
      | with_reducible (first | apply Ok.sq | apply Ok.block | apply Ok.rg | apply Ok.dw hmix | apply Ok.cd | apply Ok.skip | apply Ok.exit | apply Ok.ret)
      | simp (disch := first | omega | (simp only [List.length_append, List.length_cons, List.length_nil, List.length_take, List.length_drop, List.length_map, List.length_set]; omega)) only [wlk, ↓get_put', Nat.reduceEqDiff, Nat.reduceLT, ↓reduceIte, Int.reduceToNat, Nat.reducePow, Nat.min_eq_left, Nat.reduceAdd, Nat.reduceMul, Int.reduceAdd, Int.reduceSub, Int.reduceNeg, Int.reduceMul, Int.reduceEq, Int.reduceLT, Int.reduceLE, Nat.reduceSub, Int.reduceNatCast, Nat.reduceLeDiff, f4, f6, f7, f8, f9, hwg6.lst.ix, hwg6.lst.ld, hwl, hwa, Int.toNat_natCast, he1, hone]
      | (with_reducible (first | apply cd_split | apply gd_split)) <;> (intro hc; (try simp only [Bool.not_eq_true', Bool.not_eq_false'] at hc); (try simp only [hc]); (try simp only [hcl, Int.not_lt, Int.not_le, Nat.not_lt, Nat.not_le] at hc); try omega))
    refine CL.pure (rlevel_ok (by show 1 ≤ 9223372036854775807; omega)) ?_
    rw [hlv]
    repeat' (first
      | with_reducible (first | apply Ok.sq | apply Ok.block | apply Ok.rg | apply Ok.dw hmix | apply Ok.cd | apply Ok.skip | apply Ok.exit | apply Ok.ret)
      | simp (disch := first | omega | (simp only [List.length_append, List.length_cons, List.length_nil, List.length_take, List.length_drop, List.length_map, List.length_set]; omega)) only [wlk, ↓get_put', Nat.reduceEqDiff, Nat.reduceLT, ↓reduceIte, Int.reduceToNat, Nat.reducePow, Nat.min_eq_left, Nat.reduceAdd, Nat.reduceMul, Int.reduceAdd, Int.reduceSub, Int.reduceNeg, Int.reduceMul, Int.reduceEq, Int.reduceLT, Int.reduceLE, Nat.reduceSub, Int.reduceNatCast, Nat.reduceLeDiff, f2, f6, f7, f8, own_l1 oD6, hup, own_bl1 oR6, hrow, hset, Int.toNat_natCast]
      | (with_reducible (first | apply cd_split | apply gd_split)) <;> (intro hc; (try simp only [Bool.not_eq_true', Bool.not_eq_false'] at hc); (try simp only [hc]); (try simp only [hcl, Int.not_lt, Int.not_le, Nat.not_lt, Nat.not_le] at hc); try omega))
    refine ST.own (y := .l0) o6' rfl rfl (by omega) (by omega) fun g7 o7 t7 => ?_
    repeat' (first
      | with_reducible (first | apply Ok.sq | apply Ok.block | apply Ok.rg | apply Ok.dw hmix | apply Ok.cd | apply Ok.skip | apply Ok.exit | apply Ok.ret)
      | simp (disch := first | omega | (simp only [List.length_append, List.length_cons, List.length_nil, List.length_take, List.length_drop, List.length_map, List.length_set]; omega)) only [wlk, ↓get_put', Nat.reduceEqDiff, Nat.reduceLT, ↓reduceIte, Int.reduceToNat, Nat.reducePow, Nat.min_eq_left, Nat.reduceAdd, Nat.reduceMul, Int.reduceAdd, Int.reduceSub, Int.reduceNeg, Int.reduceMul, Int.reduceEq, Int.reduceLT, Int.reduceLE, Nat.reduceSub, Int.reduceNatCast, Nat.reduceLeDiff]
      | (with_reducible (first | apply cd_split | apply gd_split)) <;> (intro hc; (try simp only [Bool.not_eq_true', Bool.not_eq_false'] at hc); (try simp only [hc]); (try simp only [hcl, Int.not_lt, Int.not_le, Nat.not_lt, Nat.not_le] at hc); try omega))
    exact bad _ _ (bad6 hrB) o7 ((s1.trans st6).past' t7 fun i e => by rw [e]; exact Nat.le_refl _) (by simp (disch := first | omega | (simp only [List.length_append, List.length_cons, List.length_nil, List.length_take, List.length_drop, List.length_map, List.length_set]; omega)) only [wlk, ↓get_put', Nat.reduceEqDiff, Nat.reduceLT, ↓reduceIte, Int.reduceToNat, Nat.reducePow, Nat.min_eq_left, Nat.reduceAdd, Nat.reduceMul, Int.reduceAdd, Int.reduceSub, Int.reduceNeg, Int.reduceMul, Int.reduceEq, Int.reduceLT, Int.reduceLE, Nat.reduceSub, Int.reduceNatCast, Nat.reduceLeDiff, f2]) (by simp (disch := first | omega | (simp only [List.length_append, List.length_cons, List.length_nil, List.length_take, List.length_drop, List.length_map, List.length_set]; omega)) only [wlk, ↓get_put', Nat.reduceEqDiff, Nat.reduceLT, ↓reduceIte, Int.reduceToNat, Nat.reducePow, Nat.min_eq_left, Nat.reduceAdd, Nat.reduceMul, Int.reduceAdd, Int.reduceSub, Int.reduceNeg, Int.reduceMul, Int.reduceEq, Int.reduceLT, Int.reduceLE, Nat.reduceSub, Int.reduceNatCast, Nat.reduceLeDiff])
  | false =>
    have hba : ¬ (wl.getD i 0).toNat - 97 = D.length := fun e => by rw [e, hrd] at hset; cases hset
    have hrB : rowR row (wl.drop i) = rowR (row.set ((wl.getD i 0).toNat - 97) true) (wl.drop (i + 1)) := by rw [hdr]; conv => lhs; unfold rowR; rw [if_pos ⟨hnm.1, hnm.2, by rw [hrow]; exact hbn, hset⟩]
    repeat' (first
      | with_reducible (first | apply Ok.sq | apply Ok.block | apply Ok.rg | apply Ok.dw hmix | apply Ok.cd | apply Ok.skip | apply Ok.exit | apply Ok.ret)
      | simp (disch := first | omega | (simp only [List.length_append, List.length_cons, List.length_nil, List.length_take, List.length_drop, List.length_map, List.length_set]; omega)) only [wlk, ↓get_put', Nat.reduceEqDiff, Nat.reduceLT, ↓reduceIte, Int.reduceToNat, Nat.reducePow, Nat.min_eq_left, Nat.reduceAdd, Nat.reduceMul, Int.reduceAdd, Int.reduceSub, Int.reduceNeg, Int.reduceMul, Int.reduceEq, Int.reduceLT, Int.reduceLE, Nat.reduceSub, Int.reduceNatCast, Nat.reduceLeDiff, f4, f6, f7, f8, f9, hwg6.lst.ix, hwg6.lst.ld, hwl, hwa, Int.toNat_natCast, he1, hone]
      | (with_reducible (first | apply cd_split | apply gd_split)) <;> (intro hc; (try simp only [Bool.not_eq_true', Bool.not_eq_false'] at hc); (try simp only [hc]); (try simp only [hcl, Int.not_lt, Int.not_le, Nat.not_lt, Nat.not_le] at hc); try omega))
    refine CL.pure (rlevel_ok (by show 1 ≤ 9223372036854775807; omega)) ?_
    rw [hlv]
    repeat' (first
      | with_reducible (first | apply Ok.sq | apply Ok.block | apply Ok.rg | apply Ok.dw hmix | apply Ok.cd | apply Ok.skip | apply Ok.exit | apply Ok.ret)
      | simp (disch := first | omega | (simp only [List.length_append, List.length_cons, List.length_nil, List.length_take, List.length_drop, List.length_map, List.length_set]; omega)) only [wlk, ↓get_put', Nat.reduceEqDiff, Nat.reduceLT, ↓reduceIte, Int.reduceToNat, Nat.reducePow, Nat.min_eq_left, Nat.reduceAdd, Nat.reduceMul, Int.reduceAdd, Int.reduceSub, Int.reduceNeg, Int.reduceMul, Int.reduceEq, Int.reduceLT, Int.reduceLE, Nat.reduceSub, Int.reduceNatCast, Nat.reduceLeDiff, f2, f6, f7, f8, own_l1 oD6, hup, own_bl1 oR6, hrow, hset, Int.toNat_natCast]
      | (with_reducible (first | apply cd_split | apply gd_split)) <;> (intro hc; (try simp only [Bool.not_eq_true', Bool.not_eq_false'] at hc); (try simp only [hc]); (try simp only [hcl, Int.not_lt, Int.not_le, Nat.not_lt, Nat.not_le] at hc); try omega))
    refine ST.own (y := .b true) oR6 rfl rfl (by omega) (by omega) fun g7 oR7 t7 => ?_
    rw [← List.map_set] at oR7
    repeat' (first
      | with_reducible (first | apply Ok.sq | apply Ok.block | apply Ok.rg | apply Ok.dw hmix | apply Ok.cd | apply Ok.skip | apply Ok.exit | apply Ok.ret)
      | simp (disch := first | omega | (simp only [List.length_append, List.length_cons, List.length_nil, List.length_take, List.length_drop, List.length_map, List.length_set]; omega)) only [wlk, ↓get_put', Nat.reduceEqDiff, Nat.reduceLT, ↓reduceIte, Int.reduceToNat, Nat.reducePow, Nat.min_eq_left, Nat.reduceAdd, Nat.reduceMul, Int.reduceAdd, Int.reduceSub, Int.reduceNeg, Int.reduceMul, Int.reduceEq, Int.reduceLT, Int.reduceLE, Nat.reduceSub, Int.reduceNatCast, Nat.reduceLeDiff, f9]
      | (with_reducible (first | apply cd_split | apply gd_split)) <;> (intro hc; (try simp only [Bool.not_eq_true', Bool.not_eq_false'] at hc); (try simp only [hc]); (try simp only [hcl, Int.not_lt, Int.not_le, Nat.not_lt, Nat.not_le] at hc); try omega))
    refine lp_next hJ (wl.length - (i + 1)) (by omega) ⟨i + 1, _, by omega, by omega, rfl, t6.trans t7, oR7, by rw [List.length_set]; exact hrow, by rw [getD_set_eq _ _ _ _ _ (by omega), if_neg (fun e => hba e.symm)]; exact hrd, by rw [hR, hrB], ?_, ?_, ?_, ?_, ?_, ?_⟩
    all_goals (simp (disch := first | omega | (simp only [List.length_append, List.length_cons, List.length_nil, List.length_take, List.length_drop, List.length_map, List.length_set]; omega)) only [wlk, ↓get_put', Nat.reduceEqDiff, Nat.reduceLT, ↓reduceIte, Int.reduceToNat, Nat.reducePow, Nat.min_eq_left, Nat.reduceAdd, Nat.reduceMul, Int.reduceAdd, Int.reduceSub, Int.reduceNeg, Int.reduceMul, Int.reduceEq, Int.reduceLT, Int.reduceLE, Nat.reduceSub, Int.reduceNatCast, Nat.reduceLeDiff, f2, f4, f6, f7, f8]; try rfl)
end Go.Proofs.Ytckkoollolacoaa
