/- Parse of package plan, by what it computes. No condition. -/
import Derived.Test.YtckkoollolacoaaNPlan5
set_option maxRecDepth 100000
set_option maxHeartbeats 8000000
set_option linter.all false
namespace Go.Proofs.Ytckkoollolacoaa
open Go Go.Ev

theorem fnk_ca {Q : V → H → Prop} {t : F} {h : H} {n m size : Nat} {id : B} {g off fin : Nat} {vs : List V} (e : get n t = .p id g off fin) (hl : ∀ k, loadN h id g off fin size k = k vs) : FnK [Rs.cellA (slOf n) size, Rs.tmp (slOf m)] Q .ret t h = Q (.tu [.a vs, get m t]) h :=
  fnk_of (us := [.a vs, get m t]) fun k => by
    show vP (get n t) (fun id g off fin => loadN h id g off fin size fun vs => forceV (get m t) fun v => k [.a vs, v]) = _
    rw [e]
    show loadN h id g off fin size (fun vs => forceV (get m t) fun v => k [.a vs, v]) = _
    rw [hl, forceV_eq]
theorem own_ln1 {h : H} {id : B} {v : V} {fin : Nat} (o : Own h id [v]) (hf : 1 ≤ fin) (k : List V → Bool) : loadN h id 0 0 fin 1 k = k [v] := loadN_row o.row rfl (by simp) (by simpa using hf) k
theorem own_takeB {h : H} {id : B} {r : List Bool} (o : Own h id (r.map V.b)) (n : Nat) : Own h id ((r.take n).map V.b) := by
  obtain ⟨blk, h1, h2, h3, h4, h5, h6, h7⟩ := o
  refine ⟨blk, h1, h2, h3, h4, h5, h6, fun i y hy => h7 i y ?_⟩
  rw [List.map_take, List.getElem?_take] at hy
  split at hy
  · exact hy
  · cases hy
theorem mx_nil (h : H) : Mx h .l0 [] := ⟨[], .inl ⟨rfl, rfl⟩, rfl, fun i r hr => by simp at hr⟩
theorem mx_rows {h : H} {v : V} {f : Nat → B} {M : Mt} {n fin : Nat} {cap : Option Nat} (hM : M.length = n) (hL : Lst h v ((List.range n).map (rv f n fin cap))) (hR : Rws h f M) (hq : ∀ i, i < n → (M.getD i []).length = n) (hfin : n ≤ fin) : Mx h v M :=
  ⟨_, hL, by simp [hM], fun i r hr => by
    have hi : i < n := by have := (List.getElem?_eq_some_iff.1 hr).1; simpa using this
    have e : r = rv f n fin cap i := by
      have : ((List.range n).map (rv f n fin cap))[i]? = some (rv f n fin cap i) := by simp [hi]
      rw [hr] at this; exact Option.some.inj this
    rw [e]
    exact hR.bl (by omega) (hq i hi) hfin⟩
theorem map_take_get (R : Mt) (n i : Nat) : (R.map (·.take n)).getD i [] = (R.getD i []).take n := by
  simp only [List.getD_eq_getElem?_getD, List.getElem?_map]
  cases R[i]? <;> simp
theorem parse_ok {h : H} {s : List UInt8} (hs : s.length ≤ 1000000) (hf : B.val h.floor ≤ B.val h.next) :
    FnOk Try.prog 7 [sv s] h fun y h' => ∃ v, y = .tu [.a [v], .i .i64 ((parseP s).2 : Int)] ∧ Mx h' v (parseP s).1 ∧ Stay nowhere h h' := by
  refine fn_go c7 (by intro hb; cases hb) (by simp) (by simp) fun Q hQ => ?_
  simp only [slotsF, Nat.reduceAdd]
  repeat' (first
    | with_reducible (first | apply Ok.sq | apply Ok.block | apply Ok.rg | apply Ok.dw hmix | apply Ok.cd | apply Ok.skip | apply Ok.exit | apply Ok.ret)
    | simp (disch := first | omega | (simp only [List.length_append, List.length_cons, List.length_nil, List.length_take, List.length_drop, List.length_map, List.length_set]; omega)) only [wlk, ↓get_put', Nat.reduceEqDiff, Nat.reduceLT, ↓reduceIte, Int.reduceToNat, Nat.reducePow, Nat.min_eq_left, Nat.reduceAdd, Nat.reduceMul, Int.reduceAdd, Int.reduceSub, Int.reduceNeg, Int.reduceMul, Int.reduceEq, Int.reduceLT, Int.reduceLE, Nat.reduceSub, Int.reduceNatCast, Nat.reduceLeDiff]
    | (with_reducible (first | apply cd_split | apply gd_split)) <;> (intro hc; (try simp only [Bool.not_eq_true', Bool.not_eq_false'] at hc); (try simp only [hc]); (try simp only [hcl, Int.not_lt, Int.not_le, Nat.not_lt, Nat.not_le] at hc); try omega))
  refine AL.own (by simp) hf fun h1 s1 n1 o1 => ?_
  have hf1 := s1.fl hf
  have bad : ∀ g t, progM s = none → Own g h.next [.l0] → Stay nowhere h g → get 2 t = .p h.next 0 0 1 → get 3 t = .i .i64 10 → FnK [Rs.cellA (slOf 2) 1, Rs.tmp (slOf 3)] Q .ret t g := fun g t hp o st e2 e3 => by
    rw [fnk_ca e2 (fun k => own_ln1 o (Nat.le_refl _) k), e3]
    subst hQ
    have : parseP s = ([], 10) := by unfold parseP; rw [hp]
    rw [this]
    exact ⟨_, rfl, mx_nil _, st⟩
  repeat' (first
    | with_reducible (first | apply Ok.sq | apply Ok.block | apply Ok.rg | apply Ok.dw hmix | apply Ok.cd | apply Ok.skip | apply Ok.exit | apply Ok.ret)
    | simp (disch := first | omega | (simp only [List.length_append, List.length_cons, List.length_nil, List.length_take, List.length_drop, List.length_map, List.length_set]; omega)) only [wlk, ↓get_put', Nat.reduceEqDiff, Nat.reduceLT, ↓reduceIte, Int.reduceToNat, Nat.reducePow, Nat.min_eq_left, Nat.reduceAdd, Nat.reduceMul, Int.reduceAdd, Int.reduceSub, Int.reduceNeg, Int.reduceMul, Int.reduceEq, Int.reduceLT, Int.reduceLE, Nat.reduceSub, Int.reduceNatCast, Nat.reduceLeDiff]
    | (with_reducible (first | apply cd_split | apply gd_split)) <;> (intro hc; (try simp only [Bool.not_eq_true', Bool.not_eq_false'] at hc); (try simp only [hc]); (try simp only [hcl, Int.not_lt, Int.not_le, Nat.not_lt, Nat.not_le] at hc); try omega))
  refine CL.mk (parseLines_ok hs hf1) ?_
  rintro _ h2 ⟨s2, hres⟩
  have s12 := s1.trans s2
  have o2 := o1.stay s2 fun h => h
  rcases hres with ⟨hP, rfl⟩ | ⟨R, v, f, hP, rfl, pr⟩
  · have hp : progM s = none := by unfold progM; rw [hP]
    repeat' (first
      | with_reducible (first | apply Ok.sq | apply Ok.block | apply Ok.rg | apply Ok.dw hmix | apply Ok.cd | apply Ok.skip | apply Ok.exit | apply Ok.ret)
      | simp (disch := first | omega | (simp only [List.length_append, List.length_cons, List.length_nil, List.length_take, List.length_drop, List.length_map, List.length_set]; omega)) only [wlk, ↓get_put', Nat.reduceEqDiff, Nat.reduceLT, ↓reduceIte, Int.reduceToNat, Nat.reducePow, Nat.min_eq_left, Nat.reduceAdd, Nat.reduceMul, Int.reduceAdd, Int.reduceSub, Int.reduceNeg, Int.reduceMul, Int.reduceEq, Int.reduceLT, Int.reduceLE, Nat.reduceSub, Int.reduceNatCast, Nat.reduceLeDiff]
      | (with_reducible (first | apply cd_split | apply gd_split)) <;> (intro hc; (try simp only [Bool.not_eq_true', Bool.not_eq_false'] at hc); (try simp only [hc]); (try simp only [hcl, Int.not_lt, Int.not_le, Nat.not_lt, Nat.not_le] at hc); try omega))
    refine ST.own (y := .l0) o2 rfl rfl (by omega) (by omega) fun h3 o3 s3 => ?_
    repeat' (first
      | with_reducible (first | apply Ok.sq | apply Ok.block | apply Ok.rg | apply Ok.dw hmix | apply Ok.cd | apply Ok.skip | apply Ok.exit | apply Ok.ret)
      | simp (disch := first | omega | (simp only [List.length_append, List.length_cons, List.length_nil, List.length_take, List.length_drop, List.length_map, List.length_set]; omega)) only [wlk, ↓get_put', Nat.reduceEqDiff, Nat.reduceLT, ↓reduceIte, Int.reduceToNat, Nat.reducePow, Nat.min_eq_left, Nat.reduceAdd, Nat.reduceMul, Int.reduceAdd, Int.reduceSub, Int.reduceNeg, Int.reduceMul, Int.reduceEq, Int.reduceLT, Int.reduceLE, Nat.reduceSub, Int.reduceNatCast, Nat.reduceLeDiff]
      | (with_reducible (first | apply cd_split | apply gd_split)) <;> (intro hc; (try simp only [Bool.not_eq_true', Bool.not_eq_false'] at hc); (try simp only [hc]); (try simp only [hcl, Int.not_lt, Int.not_le, Nat.not_lt, Nat.not_le] at hc); try omega))
    exact bad _ _ hp o3 (s12.past' s3 fun i e => by rw [e]; exact Nat.le_refl _) (by simp (disch := first | omega | (simp only [List.length_append, List.length_cons, List.length_nil, List.length_take, List.length_drop, List.length_map, List.length_set]; omega)) only [wlk, ↓get_put', Nat.reduceEqDiff, Nat.reduceLT, ↓reduceIte, Int.reduceToNat, Nat.reducePow, Nat.min_eq_left, Nat.reduceAdd, Nat.reduceMul, Int.reduceAdd, Int.reduceSub, Int.reduceNeg, Int.reduceMul, Int.reduceEq, Int.reduceLT, Int.reduceLE, Nat.reduceSub, Int.reduceNatCast, Nat.reduceLeDiff]) (by simp (disch := first | omega | (simp only [List.length_append, List.length_cons, List.length_nil, List.length_take, List.length_drop, List.length_map, List.length_set]; omega)) only [wlk, ↓get_put', Nat.reduceEqDiff, Nat.reduceLT, ↓reduceIte, Int.reduceToNat, Nat.reducePow, Nat.min_eq_left, Nat.reduceAdd, Nat.reduceMul, Int.reduceAdd, Int.reduceSub, Int.reduceNeg, Int.reduceMul, Int.reduceEq, Int.reduceLT, Int.reduceLE, Nat.reduceSub, Int.reduceNatCast, Nat.reduceLeDiff])
  by_cases hR0 : 0 < R.length
  case neg =>
    have hp : progM s = none := by unfold progM; rw [hP]; simp only; rw [if_neg (fun e => hR0 e.1)]
    have hd : decide (0 < R.length) = false := decide_eq_false hR0
    repeat' (first
      | with_reducible (first | apply Ok.sq | apply Ok.block | apply Ok.rg | apply Ok.dw hmix | apply Ok.cd | apply Ok.skip | apply Ok.exit | apply Ok.ret)
      | simp (disch := first | omega | (simp only [List.length_append, List.length_cons, List.length_nil, List.length_take, List.length_drop, List.length_map, List.length_set]; omega)) only [wlk, ↓get_put', Nat.reduceEqDiff, Nat.reduceLT, ↓reduceIte, Int.reduceToNat, Nat.reducePow, Nat.min_eq_left, Nat.reduceAdd, Nat.reduceMul, Int.reduceAdd, Int.reduceSub, Int.reduceNeg, Int.reduceMul, Int.reduceEq, Int.reduceLT, Int.reduceLE, Nat.reduceSub, Int.reduceNatCast, Nat.reduceLeDiff, hd]
      | (with_reducible (first | apply cd_split | apply gd_split)) <;> (intro hc; (try simp only [Bool.not_eq_true', Bool.not_eq_false'] at hc); (try simp only [hc]); (try simp only [hcl, Int.not_lt, Int.not_le, Nat.not_lt, Nat.not_le] at hc); try omega))
    refine ST.own (y := .l0) o2 rfl rfl (by omega) (by omega) fun h3 o3 s3 => ?_
    repeat' (first
      | with_reducible (first | apply Ok.sq | apply Ok.block | apply Ok.rg | apply Ok.dw hmix | apply Ok.cd | apply Ok.skip | apply Ok.exit | apply Ok.ret)
      | simp (disch := first | omega | (simp only [List.length_append, List.length_cons, List.length_nil, List.length_take, List.length_drop, List.length_map, List.length_set]; omega)) only [wlk, ↓get_put', Nat.reduceEqDiff, Nat.reduceLT, ↓reduceIte, Int.reduceToNat, Nat.reducePow, Nat.min_eq_left, Nat.reduceAdd, Nat.reduceMul, Int.reduceAdd, Int.reduceSub, Int.reduceNeg, Int.reduceMul, Int.reduceEq, Int.reduceLT, Int.reduceLE, Nat.reduceSub, Int.reduceNatCast, Nat.reduceLeDiff]
      | (with_reducible (first | apply cd_split | apply gd_split)) <;> (intro hc; (try simp only [Bool.not_eq_true', Bool.not_eq_false'] at hc); (try simp only [hc]); (try simp only [hcl, Int.not_lt, Int.not_le, Nat.not_lt, Nat.not_le] at hc); try omega))
    exact bad _ _ hp o3 (s12.past' s3 fun i e => by rw [e]; exact Nat.le_refl _) (by simp (disch := first | omega | (simp only [List.length_append, List.length_cons, List.length_nil, List.length_take, List.length_drop, List.length_map, List.length_set]; omega)) only [wlk, ↓get_put', Nat.reduceEqDiff, Nat.reduceLT, ↓reduceIte, Int.reduceToNat, Nat.reducePow, Nat.min_eq_left, Nat.reduceAdd, Nat.reduceMul, Int.reduceAdd, Int.reduceSub, Int.reduceNeg, Int.reduceMul, Int.reduceEq, Int.reduceLT, Int.reduceLE, Nat.reduceSub, Int.reduceNatCast, Nat.reduceLeDiff]) (by simp (disch := first | omega | (simp only [List.length_append, List.length_cons, List.length_nil, List.length_take, List.length_drop, List.length_map, List.length_set]; omega)) only [wlk, ↓get_put', Nat.reduceEqDiff, Nat.reduceLT, ↓reduceIte, Int.reduceToNat, Nat.reducePow, Nat.min_eq_left, Nat.reduceAdd, Nat.reduceMul, Int.reduceAdd, Int.reduceSub, Int.reduceNeg, Int.reduceMul, Int.reduceEq, Int.reduceLT, Int.reduceLE, Nat.reduceSub, Int.reduceNatCast, Nat.reduceLeDiff])
  have hd : decide (0 < R.length) = true := decide_eq_true hR0
  have hne : B.val h.next < B.val h1.next := own_lt o1
  have lo2 : ∀ i, isOf v i → B.val h1.next ≤ B.val i := pr.vb.own
  repeat' (first
    | with_reducible (first | apply Ok.sq | apply Ok.block | apply Ok.rg | apply Ok.dw hmix | apply Ok.cd | apply Ok.skip | apply Ok.exit | apply Ok.ret)
    | simp (disch := first | omega | (simp only [List.length_append, List.length_cons, List.length_nil, List.length_take, List.length_drop, List.length_map, List.length_set]; omega)) only [wlk, ↓get_put', Nat.reduceEqDiff, Nat.reduceLT, ↓reduceIte, Int.reduceToNat, Nat.reducePow, Nat.min_eq_left, Nat.reduceAdd, Nat.reduceMul, Int.reduceAdd, Int.reduceSub, Int.reduceNeg, Int.reduceMul, Int.reduceEq, Int.reduceLT, Int.reduceLE, Nat.reduceSub, Int.reduceNatCast, Nat.reduceLeDiff, hd]
    | (with_reducible (first | apply cd_split | apply gd_split)) <;> (intro hc; (try simp only [Bool.not_eq_true', Bool.not_eq_false'] at hc); (try simp only [hc]); (try simp only [hcl, Int.not_lt, Int.not_le, Nat.not_lt, Nat.not_le] at hc); try omega))
  refine CL.mk (cutRows_ok rfl pr.few pr.six pr.vb.buf pr.top pr.rows pr.off) ?_
  rintro _ h3 ⟨rfl, s3, hcut⟩
  have s13 : Stay nowhere h1 h3 := s2.past' s3 lo2
  have o3 := o1.stay s13 fun h => h
  cases hfit : fitB R R.length with
  | false =>
    have hp : progM s = none := by unfold progM; rw [hP]; simp only; rw [if_neg (fun e => by rw [hfit] at e; exact absurd e.2 (by decide))]
    repeat' (first
      | with_reducible (first | apply Ok.sq | apply Ok.block | apply Ok.rg | apply Ok.dw hmix | apply Ok.cd | apply Ok.skip | apply Ok.exit | apply Ok.ret)
      | simp (disch := first | omega | (simp only [List.length_append, List.length_cons, List.length_nil, List.length_take, List.length_drop, List.length_map, List.length_set]; omega)) only [wlk, ↓get_put', Nat.reduceEqDiff, Nat.reduceLT, ↓reduceIte, Int.reduceToNat, Nat.reducePow, Nat.min_eq_left, Nat.reduceAdd, Nat.reduceMul, Int.reduceAdd, Int.reduceSub, Int.reduceNeg, Int.reduceMul, Int.reduceEq, Int.reduceLT, Int.reduceLE, Nat.reduceSub, Int.reduceNatCast, Nat.reduceLeDiff, hfit]
      | (with_reducible (first | apply cd_split | apply gd_split)) <;> (intro hc; (try simp only [Bool.not_eq_true', Bool.not_eq_false'] at hc); (try simp only [hc]); (try simp only [hcl, Int.not_lt, Int.not_le, Nat.not_lt, Nat.not_le] at hc); try omega))
    refine ST.own (y := .l0) o3 rfl rfl (by omega) (by omega) fun h4 o4 s4 => ?_
    repeat' (first
      | with_reducible (first | apply Ok.sq | apply Ok.block | apply Ok.rg | apply Ok.dw hmix | apply Ok.cd | apply Ok.skip | apply Ok.exit | apply Ok.ret)
      | simp (disch := first | omega | (simp only [List.length_append, List.length_cons, List.length_nil, List.length_take, List.length_drop, List.length_map, List.length_set]; omega)) only [wlk, ↓get_put', Nat.reduceEqDiff, Nat.reduceLT, ↓reduceIte, Int.reduceToNat, Nat.reducePow, Nat.min_eq_left, Nat.reduceAdd, Nat.reduceMul, Int.reduceAdd, Int.reduceSub, Int.reduceNeg, Int.reduceMul, Int.reduceEq, Int.reduceLT, Int.reduceLE, Nat.reduceSub, Int.reduceNatCast, Nat.reduceLeDiff]
      | (with_reducible (first | apply cd_split | apply gd_split)) <;> (intro hc; (try simp only [Bool.not_eq_true', Bool.not_eq_false'] at hc); (try simp only [hc]); (try simp only [hcl, Int.not_lt, Int.not_le, Nat.not_lt, Nat.not_le] at hc); try omega))
    exact bad _ _ hp o4 ((s1.trans s13).past' s4 fun i e => by rw [e]; exact Nat.le_refl _) (by simp (disch := first | omega | (simp only [List.length_append, List.length_cons, List.length_nil, List.length_take, List.length_drop, List.length_map, List.length_set]; omega)) only [wlk, ↓get_put', Nat.reduceEqDiff, Nat.reduceLT, ↓reduceIte, Int.reduceToNat, Nat.reducePow, Nat.min_eq_left, Nat.reduceAdd, Nat.reduceMul, Int.reduceAdd, Int.reduceSub, Int.reduceNeg, Int.reduceMul, Int.reduceEq, Int.reduceLT, Int.reduceLE, Nat.reduceSub, Int.reduceNatCast, Nat.reduceLeDiff]) (by simp (disch := first | omega | (simp only [List.length_append, List.length_cons, List.length_nil, List.length_take, List.length_drop, List.length_map, List.length_set]; omega)) only [wlk, ↓get_put', Nat.reduceEqDiff, Nat.reduceLT, ↓reduceIte, Int.reduceToNat, Nat.reducePow, Nat.min_eq_left, Nat.reduceAdd, Nat.reduceMul, Int.reduceAdd, Int.reduceSub, Int.reduceNeg, Int.reduceMul, Int.reduceEq, Int.reduceLT, Int.reduceLE, Nat.reduceSub, Int.reduceNatCast, Nat.reduceLeDiff])
  | true =>
  have hp : progM s = some (R.map (·.take R.length)) := by unfold progM; rw [hP]; simp only; rw [if_pos ⟨hR0, hfit⟩]
  obtain ⟨b3, t3⟩ := hcut hfit
  obtain ⟨p1, p2, p3⟩ := progM_rows hp
  have hml : (R.map (·.take R.length)).length = R.length := by simp
  obtain ⟨M, hM⟩ : ∃ M, M = R.map (·.take R.length) := ⟨_, rfl⟩
  rw [← hM] at hp p1 p2 p3 hml
  have rows3 : Rws h3 f M := ⟨fun i hi => by
    rw [hM, map_take_get]
    exact own_takeB ((pr.rows.own i (by omega)).stay s3 (pr.off i (by omega))) _⟩
  repeat' (first
    | with_reducible (first | apply Ok.sq | apply Ok.block | apply Ok.rg | apply Ok.dw hmix | apply Ok.cd | apply Ok.skip | apply Ok.exit | apply Ok.ret)
    | simp (disch := first | omega | (simp only [List.length_append, List.length_cons, List.length_nil, List.length_take, List.length_drop, List.length_map, List.length_set]; omega)) only [wlk, ↓get_put', Nat.reduceEqDiff, Nat.reduceLT, ↓reduceIte, Int.reduceToNat, Nat.reducePow, Nat.min_eq_left, Nat.reduceAdd, Nat.reduceMul, Int.reduceAdd, Int.reduceSub, Int.reduceNeg, Int.reduceMul, Int.reduceEq, Int.reduceLT, Int.reduceLE, Nat.reduceSub, Int.reduceNatCast, Nat.reduceLeDiff, hfit]
    | (with_reducible (first | apply cd_split | apply gd_split)) <;> (intro hc; (try simp only [Bool.not_eq_true', Bool.not_eq_false'] at hc); (try simp only [hc]); (try simp only [hcl, Int.not_lt, Int.not_le, Nat.not_lt, Nat.not_le] at hc); try omega))
  refine CL.mk (reach_ok (v := v) (cap := some 6) hml pr.few (fun i hi => by rw [p3 i (by omega), hml]) pr.few b3.lst rows3 pr.inj pr.off) ?_
  rintro _ h4 ⟨rows4, s4⟩
  have s14 : Stay nowhere h1 h4 := s13.past' s4 fun i hi => by obtain ⟨j, hj, rfl⟩ := hi; exact pr.lo j hj
  have o4 := o1.stay s14 fun h => h
  have L4 : Lst h4 v ((List.range R.length).map (rv f R.length 6 (some 6))) := b3.lst.stay s4 fun id g off n fin cap e hi => by
    obtain ⟨j, hj, rfl⟩ := hi
    exact pr.off j hj ⟨_, _, _, _, _, e⟩
  have hrl : ∀ i, i < R.length → ((reachM M R.length).getD i []).length = R.length := fun i hi => by rw [reachM_rowlen, p3 i (by omega), hml]
  have mx4 : Mx h4 v (reachM M R.length) := mx_rows (by rw [reachM_len]; exact hml) L4 rows4 hrl pr.few
  have hf4 := s14.fl hf1
  have ckn : parseP s = if chkN (reachM M R.length) = 0 then (reachM M R.length, 0) else ([], 11) := by unfold parseP; rw [hp]; show (if chkN (reachM M M.length) = 0 then (reachM M M.length, 0) else ([], 11)) = _; rw [hml]
  have hck : chkN (reachM M R.length) = 0 ∨ chkN (reachM M R.length) = 11 := by rw [← hml]; exact reach_chk p1 p2 p3
  have hvl : cells v = [v] ∧ oneV v = true ∧ knownV v = true := buf_cells b3
  repeat' (first
    | with_reducible (first | apply Ok.sq | apply Ok.block | apply Ok.rg | apply Ok.dw hmix | apply Ok.cd | apply Ok.skip | apply Ok.exit | apply Ok.ret)
    | simp (disch := first | omega | (simp only [List.length_append, List.length_cons, List.length_nil, List.length_take, List.length_drop, List.length_map, List.length_set]; omega)) only [wlk, ↓get_put', Nat.reduceEqDiff, Nat.reduceLT, ↓reduceIte, Int.reduceToNat, Nat.reducePow, Nat.min_eq_left, Nat.reduceAdd, Nat.reduceMul, Int.reduceAdd, Int.reduceSub, Int.reduceNeg, Int.reduceMul, Int.reduceEq, Int.reduceLT, Int.reduceLE, Nat.reduceSub, Int.reduceNatCast, Nat.reduceLeDiff, fp_at (v := v) (size := 1) hvl.2.2 hvl.1 rfl]
    | (with_reducible (first | apply cd_split | apply gd_split)) <;> (intro hc; (try simp only [Bool.not_eq_true', Bool.not_eq_false'] at hc); (try simp only [hc]); (try simp only [hcl, Int.not_lt, Int.not_le, Nat.not_lt, Nat.not_le] at hc); try omega))
  refine AL.own (by simp) hf4 fun h5 s5 n5 o5 => ?_
  repeat' (first
    | with_reducible (first | apply Ok.sq | apply Ok.block | apply Ok.rg | apply Ok.dw hmix | apply Ok.cd | apply Ok.skip | apply Ok.exit | apply Ok.ret)
    | simp (disch := first | omega | (simp only [List.length_append, List.length_cons, List.length_nil, List.length_take, List.length_drop, List.length_map, List.length_set]; omega)) only [wlk, ↓get_put', Nat.reduceEqDiff, Nat.reduceLT, ↓reduceIte, Int.reduceToNat, Nat.reducePow, Nat.min_eq_left, Nat.reduceAdd, Nat.reduceMul, Int.reduceAdd, Int.reduceSub, Int.reduceNeg, Int.reduceMul, Int.reduceEq, Int.reduceLT, Int.reduceLE, Nat.reduceSub, Int.reduceNatCast, Nat.reduceLeDiff]
    | (with_reducible (first | apply cd_split | apply gd_split)) <;> (intro hc; (try simp only [Bool.not_eq_true', Bool.not_eq_false'] at hc); (try simp only [hc]); (try simp only [hcl, Int.not_lt, Int.not_le, Nat.not_lt, Nat.not_le] at hc); try omega))
  refine ST.own (y := v) o5 rfl hvl.2.1 (by omega) (by omega) fun h6 o6 s6 => ?_
  have s46 : Stay nowhere h4 h6 := s5.past' s6 fun i e => by rw [e]; exact Nat.le_refl _
  have mx6 := mx4.grow s46
  have hf6 := s46.fl hf4
  have hlr : (reachM M R.length).length = R.length := by rw [reachM_len]; exact hml
  repeat' (first
    | with_reducible (first | apply Ok.sq | apply Ok.block | apply Ok.rg | apply Ok.dw hmix | apply Ok.cd | apply Ok.skip | apply Ok.exit | apply Ok.ret)
    | simp (disch := first | omega | (simp only [List.length_append, List.length_cons, List.length_nil, List.length_take, List.length_drop, List.length_map, List.length_set]; omega)) only [wlk, ↓get_put', Nat.reduceEqDiff, Nat.reduceLT, ↓reduceIte, Int.reduceToNat, Nat.reducePow, Nat.min_eq_left, Nat.reduceAdd, Nat.reduceMul, Int.reduceAdd, Int.reduceSub, Int.reduceNeg, Int.reduceMul, Int.reduceEq, Int.reduceLT, Int.reduceLE, Nat.reduceSub, Int.reduceNatCast, Nat.reduceLeDiff, o6.row.ln]
    | (with_reducible (first | apply cd_split | apply gd_split)) <;> (intro hc; (try simp only [Bool.not_eq_true', Bool.not_eq_false'] at hc); (try simp only [hc]); (try simp only [hcl, Int.not_lt, Int.not_le, Nat.not_lt, Nat.not_le] at hc); try omega))
  refine CL.stay (check_ok mx6 (by have := pr.few; omega) (fun i hi => by rw [hrl i (by omega)]; have := pr.few; omega) hf6) fun h7 s7 => ?_
  have o7 := (o4.stay s46 fun h => h).stay s7 fun h => h
  have s17 := ((s1.trans s14).trans s46).trans s7
  by_cases hc0 : chkN (reachM M R.length) = 0
  · rw [hc0]
    have o67 := o6.stay s7 fun h => h
    repeat' (first
      | with_reducible (first | apply Ok.sq | apply Ok.block | apply Ok.rg | apply Ok.dw hmix | apply Ok.cd | apply Ok.skip | apply Ok.exit | apply Ok.ret)
      | simp (disch := first | omega | (simp only [List.length_append, List.length_cons, List.length_nil, List.length_take, List.length_drop, List.length_map, List.length_set]; omega)) only [wlk, ↓get_put', Nat.reduceEqDiff, Nat.reduceLT, ↓reduceIte, Int.reduceToNat, Nat.reducePow, Nat.min_eq_left, Nat.reduceAdd, Nat.reduceMul, Int.reduceAdd, Int.reduceSub, Int.reduceNeg, Int.reduceMul, Int.reduceEq, Int.reduceLT, Int.reduceLE, Nat.reduceSub, Int.reduceNatCast, Nat.reduceLeDiff, o67.row.ln]
      | (with_reducible (first | apply cd_split | apply gd_split)) <;> (intro hc; (try simp only [Bool.not_eq_true', Bool.not_eq_false'] at hc); (try simp only [hc]); (try simp only [hcl, Int.not_lt, Int.not_le, Nat.not_lt, Nat.not_le] at hc); try omega))
    refine ST.own (y := v) o7 rfl hvl.2.1 (by omega) (by omega) fun h8 o8 s8 => ?_
    repeat' (first
      | with_reducible (first | apply Ok.sq | apply Ok.block | apply Ok.rg | apply Ok.dw hmix | apply Ok.cd | apply Ok.skip | apply Ok.exit | apply Ok.ret)
      | simp (disch := first | omega | (simp only [List.length_append, List.length_cons, List.length_nil, List.length_take, List.length_drop, List.length_map, List.length_set]; omega)) only [wlk, ↓get_put', Nat.reduceEqDiff, Nat.reduceLT, ↓reduceIte, Int.reduceToNat, Nat.reducePow, Nat.min_eq_left, Nat.reduceAdd, Nat.reduceMul, Int.reduceAdd, Int.reduceSub, Int.reduceNeg, Int.reduceMul, Int.reduceEq, Int.reduceLT, Int.reduceLE, Nat.reduceSub, Int.reduceNatCast, Nat.reduceLeDiff]
      | (with_reducible (first | apply cd_split | apply gd_split)) <;> (intro hc; (try simp only [Bool.not_eq_true', Bool.not_eq_false'] at hc); (try simp only [hc]); (try simp only [hcl, Int.not_lt, Int.not_le, Nat.not_lt, Nat.not_le] at hc); try omega))
    rw [fnk_ca (by simp (disch := first | omega | (simp only [List.length_append, List.length_cons, List.length_nil, List.length_take, List.length_drop, List.length_map, List.length_set]; omega)) only [wlk, ↓get_put', Nat.reduceEqDiff, Nat.reduceLT, ↓reduceIte, Int.reduceToNat, Nat.reducePow, Nat.min_eq_left, Nat.reduceAdd, Nat.reduceMul, Int.reduceAdd, Int.reduceSub, Int.reduceNeg, Int.reduceMul, Int.reduceEq, Int.reduceLT, Int.reduceLE, Nat.reduceSub, Int.reduceNatCast, Nat.reduceLeDiff]) (fun k => own_ln1 o8 (Nat.le_refl _) k)]
    simp (disch := first | omega | (simp only [List.length_append, List.length_cons, List.length_nil, List.length_take, List.length_drop, List.length_map, List.length_set]; omega)) only [wlk, ↓get_put', Nat.reduceEqDiff, Nat.reduceLT, ↓reduceIte, Int.reduceToNat, Nat.reducePow, Nat.min_eq_left, Nat.reduceAdd, Nat.reduceMul, Int.reduceAdd, Int.reduceSub, Int.reduceNeg, Int.reduceMul, Int.reduceEq, Int.reduceLT, Int.reduceLE, Nat.reduceSub, Int.reduceNatCast, Nat.reduceLeDiff]
    subst hQ
    rw [ckn, if_pos hc0]
    have sA : Stay (fun i => i = h.next) h4 h8 := ((s46.trans s7).mono fun _ _ h => h.elim).trans s8
    have ne1 : ∀ i, B.val h1.next ≤ B.val i → ¬ i = h.next := fun i hi e => by rw [e] at hi; omega
    exact ⟨v, rfl, mx_rows (by rw [reachM_len]; exact hml) (L4.stay sA fun id g off n fin cap e => ne1 _ (lo2 _ ⟨_, _, _, _, _, e⟩)) (rows4.stay sA fun i hi => ne1 _ (pr.lo i (by omega))) hrl pr.few, s17.past' s8 fun i e => by rw [e]; exact Nat.le_refl _⟩
  · have hc11 : chkN (reachM M R.length) = 11 := by rcases hck with e | e <;> first | exact absurd e hc0 | exact e
    rw [hc11]
    repeat' (first
      | with_reducible (first | apply Ok.sq | apply Ok.block | apply Ok.rg | apply Ok.dw hmix | apply Ok.cd | apply Ok.skip | apply Ok.exit | apply Ok.ret)
      | simp (disch := first | omega | (simp only [List.length_append, List.length_cons, List.length_nil, List.length_take, List.length_drop, List.length_map, List.length_set]; omega)) only [wlk, ↓get_put', Nat.reduceEqDiff, Nat.reduceLT, ↓reduceIte, Int.reduceToNat, Nat.reducePow, Nat.min_eq_left, Nat.reduceAdd, Nat.reduceMul, Int.reduceAdd, Int.reduceSub, Int.reduceNeg, Int.reduceMul, Int.reduceEq, Int.reduceLT, Int.reduceLE, Nat.reduceSub, Int.reduceNatCast, Nat.reduceLeDiff]
      | (with_reducible (first | apply cd_split | apply gd_split)) <;> (intro hc; (try simp only [Bool.not_eq_true', Bool.not_eq_false'] at hc); (try simp only [hc]); (try simp only [hcl, Int.not_lt, Int.not_le, Nat.not_lt, Nat.not_le] at hc); try omega))
    refine ST.own (y := .l0) o7 rfl rfl (by omega) (by omega) fun h8 o8 s8 => ?_
    repeat' (first
      | with_reducible (first | apply Ok.sq | apply Ok.block | apply Ok.rg | apply Ok.dw hmix | apply Ok.cd | apply Ok.skip | apply Ok.exit | apply Ok.ret)
      | simp (disch := first | omega | (simp only [List.length_append, List.length_cons, List.length_nil, List.length_take, List.length_drop, List.length_map, List.length_set]; omega)) only [wlk, ↓get_put', Nat.reduceEqDiff, Nat.reduceLT, ↓reduceIte, Int.reduceToNat, Nat.reducePow, Nat.min_eq_left, Nat.reduceAdd, Nat.reduceMul, Int.reduceAdd, Int.reduceSub, Int.reduceNeg, Int.reduceMul, Int.reduceEq, Int.reduceLT, Int.reduceLE, Nat.reduceSub, Int.reduceNatCast, Nat.reduceLeDiff]
      | (with_reducible (first | apply cd_split | apply gd_split)) <;> (intro hc; (try simp only [Bool.not_eq_true', Bool.not_eq_false'] at hc); (try simp only [hc]); (try simp only [hcl, Int.not_lt, Int.not_le, Nat.not_lt, Nat.not_le] at hc); try omega))
    rw [fnk_ca (by simp (disch := first | omega | (simp only [List.length_append, List.length_cons, List.length_nil, List.length_take, List.length_drop, List.length_map, List.length_set]; omega)) only [wlk, ↓get_put', Nat.reduceEqDiff, Nat.reduceLT, ↓reduceIte, Int.reduceToNat, Nat.reducePow, Nat.min_eq_left, Nat.reduceAdd, Nat.reduceMul, Int.reduceAdd, Int.reduceSub, Int.reduceNeg, Int.reduceMul, Int.reduceEq, Int.reduceLT, Int.reduceLE, Nat.reduceSub, Int.reduceNatCast, Nat.reduceLeDiff]) (fun k => own_ln1 o8 (Nat.le_refl _) k)]
    simp (disch := first | omega | (simp only [List.length_append, List.length_cons, List.length_nil, List.length_take, List.length_drop, List.length_map, List.length_set]; omega)) only [wlk, ↓get_put', Nat.reduceEqDiff, Nat.reduceLT, ↓reduceIte, Int.reduceToNat, Nat.reducePow, Nat.min_eq_left, Nat.reduceAdd, Nat.reduceMul, Int.reduceAdd, Int.reduceSub, Int.reduceNeg, Int.reduceMul, Int.reduceEq, Int.reduceLT, Int.reduceLE, Nat.reduceSub, Int.reduceNatCast, Nat.reduceLeDiff]
    subst hQ
    rw [ckn, if_neg hc0]
    exact ⟨_, rfl, mx_nil _, s17.past' s8 fun i e => by rw [e]; exact Nat.le_refl _⟩
end Go.Proofs.Ytckkoollolacoaa
