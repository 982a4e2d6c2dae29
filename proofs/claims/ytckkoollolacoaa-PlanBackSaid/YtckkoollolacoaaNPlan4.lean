/- cutRows, parseLines and Parse of package plan, by what they compute. No condition. -/
import Derived.Test.YtckkoollolacoaaJrPar
import Derived.Test.YtckkoollolacoaaNPlan3
import Derived.Test.YtckkoollolacoaaNPlanP
set_option maxRecDepth 100000
set_option maxHeartbeats 8000000
set_option linter.all false
namespace Go.Proofs.Ytckkoollolacoaa
open Go Go.Ev

/-- the rows' values, when the first i are cut -/
def cutV (f : Nat → B) (n i : Nat) : List V := (List.range n).map fun j => if j < i then rv f n 6 (some 6) j else rv f 6 6 (some 6) j
theorem cutV_len (f : Nat → B) (n i : Nat) : (cutV f n i).length = n := by simp [cutV]
theorem cutV_get (f : Nat → B) {n i : Nat} (hi : i < n) : (cutV f n i).getD i .u = .l (f i) 0 0 6 6 (some 6) := by simp [cutV, List.getD, hi, rv]
theorem cutV_zero (f : Nat → B) (n : Nat) : cutV f n 0 = (List.range n).map (rv f 6 6 (some 6)) := by
  unfold cutV; apply List.map_congr_left; intro j _; rw [if_neg (Nat.not_lt_zero _)]
theorem cutV_all (f : Nat → B) (n : Nat) : cutV f n n = (List.range n).map (rv f n 6 (some 6)) := by
  unfold cutV; apply List.map_congr_left; intro j hj; rw [if_pos (by simpa using hj)]
theorem cutV_succ (f : Nat → B) {n i : Nat} (hi : i < n) : cutV f n (i + 1) = (cutV f n i).set i (.l (f i) 0 0 n 6 (some 6)) := by
  apply List.ext_getElem (by simp [cutV])
  intro j h1 h2
  rw [List.getElem_set]
  simp only [cutV, List.getElem_map, List.getElem_range]
  by_cases e : i = j
  · subst e; rw [if_pos (Nat.lt_succ_self _), if_pos rfl]; rfl
  · rw [if_neg e]
    by_cases hl : j < i
    · rw [if_pos hl, if_pos (by omega)]
    · rw [if_neg hl, if_neg (by omega)]
theorem cutRows_ok {h : H} {v : V} {f : Nat → B} {M : Mt} {n el : Nat} (hMl : M.length = n) (hn : n ≤ 6) (hq : ∀ i, i < n → (M.getD i []).length = 6)
    (hB : Buf h el 1 v ((List.range n).map (rv f 6 6 (some 6)))) (hT : Top h v) (hR : Rws h f M) (hv : ∀ i, i < n → ¬ isOf v (f i)) :
    FnOk Try.prog 21 [v] h fun y h' => y = .b (fitB M n) ∧ Stay (isOf v) h h' ∧ (fitB M n = true → Buf h' el 1 v ((List.range n).map (rv f n 6 (some 6))) ∧ Top h' v) := by
  refine fn_go c21 (by intro hb; cases hb) (by simp) (by simp) fun Q hQ => ?_
  simp only [slotsF, Nat.reduceAdd]
  have hL := hB.lst
  have hll : ((List.range n).map (rv f 6 6 (some 6))).length = n := by simp
  repeat' (first
    | with_reducible (first | apply Ok.sq | apply Ok.block | apply Ok.rg | apply Ok.dw hmix | apply Ok.cd | apply Ok.skip | apply Ok.exit | apply Ok.ret)
    | simp (disch := first | omega | (simp only [List.length_append, List.length_cons, List.length_nil, List.length_take, List.length_drop, List.length_map, List.length_set]; omega)) only [wlk, ↓get_put', Nat.reduceEqDiff, Nat.reduceLT, ↓reduceIte, Int.reduceToNat, Nat.reducePow, Nat.min_eq_left, Nat.reduceAdd, Nat.reduceMul, Int.reduceAdd, Int.reduceSub, Int.reduceNeg, Int.reduceMul, Int.reduceEq, Int.reduceLT, Int.reduceLE, Nat.reduceSub, Int.reduceNatCast, Nat.reduceLeDiff, hL.ln, hll]
    | (with_reducible (first | apply cd_split | apply gd_split)) <;> (intro hc; (try simp only [Bool.not_eq_true', Bool.not_eq_false'] at hc); (try simp only [hc]); (try simp only [hcl, Int.not_lt, Int.not_le, Nat.not_lt, Nat.not_le] at hc); try omega))
  refine Ok.lp (fun m t g => ∃ i : Nat, i ≤ n ∧ m = n - i ∧ Stay (isOf v) h g ∧ Buf g el 1 v (cutV f n i) ∧ Top g v ∧ get 0 t = v ∧ get 3 t = .i .i64 (n : Int) ∧ get 8 t = v ∧ get 9 t = .i .i64 (n : Int) ∧ get 10 t = .i .i64 (i : Int) ∧ ∀ j, j < i → ¬ true ∈ (M.getD j []).drop n) n ?_ ?_
  · simp (disch := first | omega | (simp only [List.length_append, List.length_cons, List.length_nil, List.length_take, List.length_drop, List.length_map, List.length_set]; omega)) only [wlk, ↓get_put', Nat.reduceEqDiff, Nat.reduceLT, ↓reduceIte, Int.reduceToNat, Nat.reducePow, Nat.min_eq_left, Nat.reduceAdd, Nat.reduceMul, Int.reduceAdd, Int.reduceSub, Int.reduceNeg, Int.reduceMul, Int.reduceEq, Int.reduceLT, Int.reduceLE, Nat.reduceSub, Int.reduceNatCast, Nat.reduceLeDiff]
    exact ⟨0, Nat.zero_le _, rfl, Stay.refl _ _, by rw [cutV_zero]; exact hB, hT, trivial, trivial, trivial, trivial, rfl, fun j hj => absurd hj (Nat.not_lt_zero _)⟩
  rintro I hI m t g ⟨i, hi, rfl, st, B1, T1, f0, f3, f8, f9, f10, hall⟩
  by_cases hin : i < n
  case neg =>
    obtain rfl : i = n := by omega
    repeat' (first
      | with_reducible (first | apply Ok.sq | apply Ok.block | apply Ok.rg | apply Ok.dw hmix | apply Ok.cd | apply Ok.skip | apply Ok.exit | apply Ok.ret)
      | simp (disch := first | omega | (simp only [List.length_append, List.length_cons, List.length_nil, List.length_take, List.length_drop, List.length_map, List.length_set]; omega)) only [wlk, ↓get_put', Nat.reduceEqDiff, Nat.reduceLT, ↓reduceIte, Int.reduceToNat, Nat.reducePow, Nat.min_eq_left, Nat.reduceAdd, Nat.reduceMul, Int.reduceAdd, Int.reduceSub, Int.reduceNeg, Int.reduceMul, Int.reduceEq, Int.reduceLT, Int.reduceLE, Nat.reduceSub, Int.reduceNatCast, Nat.reduceLeDiff, f0, f3, f8, f9, f10]
      | (with_reducible (first | apply cd_split | apply gd_split)) <;> (intro hc; (try simp only [Bool.not_eq_true', Bool.not_eq_false'] at hc); (try simp only [hc]); (try simp only [hcl, Int.not_lt, Int.not_le, Nat.not_lt, Nat.not_le] at hc); try omega))
    subst hQ
    have hfit : fitB M i = true := decide_eq_true hall
    exact ⟨by rw [hfit], st, fun _ => ⟨by rw [← cutV_all]; exact B1, T1⟩⟩
  have hLg := B1.lst
  have hlc := cutV_len f n i
  have hcg := cutV_get f hin
  have R1 := hR.stay st fun i hi => hv i (by omega)
  have hri := hq i hin
  have Bt : Bl g (tailV (f i) 6 n) ((M.getD i []).drop n) := by
    have := tail_lst (n := n) (R1.own i (by omega)) (by rw [List.length_map]; exact hri) hn
    rw [← List.map_drop] at this
    exact this
  repeat' (first
    | with_reducible (first | apply Ok.sq | apply Ok.block | apply Ok.rg | apply Ok.dw hmix | apply Ok.cd | apply Ok.skip | apply Ok.exit | apply Ok.ret)
    | simp (disch := first | omega | (simp only [List.length_append, List.length_cons, List.length_nil, List.length_take, List.length_drop, List.length_map, List.length_set]; omega)) only [wlk, ↓get_put', Nat.reduceEqDiff, Nat.reduceLT, ↓reduceIte, Int.reduceToNat, Nat.reducePow, Nat.min_eq_left, Nat.reduceAdd, Nat.reduceMul, Int.reduceAdd, Int.reduceSub, Int.reduceNeg, Int.reduceMul, Int.reduceEq, Int.reduceLT, Int.reduceLE, Nat.reduceSub, Int.reduceNatCast, Nat.reduceLeDiff, f0, f3, f8, f9, f10, hLg.ix, hLg.ld, hlc, hcg, Int.toNat_natCast]
    | (with_reducible (first | apply cd_split | apply gd_split)) <;> (intro hc; (try simp only [Bool.not_eq_true', Bool.not_eq_false'] at hc); (try simp only [hc]); (try simp only [hcl, Int.not_lt, Int.not_le, Nat.not_lt, Nat.not_le] at hc); try omega))
  refine CL.pure (contains_ok Bt (by rw [List.length_drop]; omega)) ?_
  cases d : decide (true ∈ (M.getD i []).drop n) with
  | true =>
    have e := of_decide_eq_true d
    repeat' (first
      | with_reducible (first | apply Ok.sq | apply Ok.block | apply Ok.rg | apply Ok.dw hmix | apply Ok.cd | apply Ok.skip | apply Ok.exit | apply Ok.ret)
      | simp (disch := first | omega | (simp only [List.length_append, List.length_cons, List.length_nil, List.length_take, List.length_drop, List.length_map, List.length_set]; omega)) only [wlk, ↓get_put', Nat.reduceEqDiff, Nat.reduceLT, ↓reduceIte, Int.reduceToNat, Nat.reducePow, Nat.min_eq_left, Nat.reduceAdd, Nat.reduceMul, Int.reduceAdd, Int.reduceSub, Int.reduceNeg, Int.reduceMul, Int.reduceEq, Int.reduceLT, Int.reduceLE, Nat.reduceSub, Int.reduceNatCast, Nat.reduceLeDiff, f0, f3]
      | (with_reducible (first | apply cd_split | apply gd_split)) <;> (intro hc; (try simp only [Bool.not_eq_true', Bool.not_eq_false'] at hc); (try simp only [hc]); (try simp only [hcl, Int.not_lt, Int.not_le, Nat.not_lt, Nat.not_le] at hc); try omega))
    subst hQ
    have hfit : fitB M n = false := decide_eq_false fun hh => hh i hin e
    exact ⟨by rw [hfit], st, fun hh => by rw [hfit] at hh; cases hh⟩
  | false =>
    have e := of_decide_eq_false d
    repeat' (first
      | with_reducible (first | apply Ok.sq | apply Ok.block | apply Ok.rg | apply Ok.dw hmix | apply Ok.cd | apply Ok.skip | apply Ok.exit | apply Ok.ret)
      | simp (disch := first | omega | (simp only [List.length_append, List.length_cons, List.length_nil, List.length_take, List.length_drop, List.length_map, List.length_set]; omega)) only [wlk, ↓get_put', Nat.reduceEqDiff, Nat.reduceLT, ↓reduceIte, Int.reduceToNat, Nat.reducePow, Nat.min_eq_left, Nat.reduceAdd, Nat.reduceMul, Int.reduceAdd, Int.reduceSub, Int.reduceNeg, Int.reduceMul, Int.reduceEq, Int.reduceLT, Int.reduceLE, Nat.reduceSub, Int.reduceNatCast, Nat.reduceLeDiff, f0, f3, f8, f9, f10, hLg.ix, hlc, Int.toNat_natCast]
      | (with_reducible (first | apply cd_split | apply gd_split)) <;> (intro hc; (try simp only [Bool.not_eq_true', Bool.not_eq_false'] at hc); (try simp only [hc]); (try simp only [hcl, Int.not_lt, Int.not_le, Nat.not_lt, Nat.not_le] at hc); try omega))
    refine ST.buf (y := .l (f i) 0 0 n 6 (some 6)) B1 T1 rfl rfl (by omega) (by omega) fun g3 b3 t3 s3 => ?_
    rw [← cutV_succ f hin] at b3
    repeat' (first
      | with_reducible (first | apply Ok.sq | apply Ok.block | apply Ok.rg | apply Ok.dw hmix | apply Ok.cd | apply Ok.skip | apply Ok.exit | apply Ok.ret)
      | simp (disch := first | omega | (simp only [List.length_append, List.length_cons, List.length_nil, List.length_take, List.length_drop, List.length_map, List.length_set]; omega)) only [wlk, ↓get_put', Nat.reduceEqDiff, Nat.reduceLT, ↓reduceIte, Int.reduceToNat, Nat.reducePow, Nat.min_eq_left, Nat.reduceAdd, Nat.reduceMul, Int.reduceAdd, Int.reduceSub, Int.reduceNeg, Int.reduceMul, Int.reduceEq, Int.reduceLT, Int.reduceLE, Nat.reduceSub, Int.reduceNatCast, Nat.reduceLeDiff, f10]
      | (with_reducible (first | apply cd_split | apply gd_split)) <;> (intro hc; (try simp only [Bool.not_eq_true', Bool.not_eq_false'] at hc); (try simp only [hc]); (try simp only [hcl, Int.not_lt, Int.not_le, Nat.not_lt, Nat.not_le] at hc); try omega))
    refine lp_next hI (n - (i + 1)) (by omega) ⟨i + 1, by omega, rfl, st.trans s3, b3, t3, ?_, ?_, ?_, ?_, ?_, fun j hj => ?_⟩
    iterate 5 (· simp (disch := first | omega | (simp only [List.length_append, List.length_cons, List.length_nil, List.length_take, List.length_drop, List.length_map, List.length_set]; omega)) only [wlk, ↓get_put', Nat.reduceEqDiff, Nat.reduceLT, ↓reduceIte, Int.reduceToNat, Nat.reducePow, Nat.min_eq_left, Nat.reduceAdd, Nat.reduceMul, Int.reduceAdd, Int.reduceSub, Int.reduceNeg, Int.reduceMul, Int.reduceEq, Int.reduceLT, Int.reduceLE, Nat.reduceSub, Int.reduceNatCast, Nat.reduceLeDiff, f0, f3, f8, f9]; try rfl)
    rcases Nat.lt_succ_iff_lt_or_eq.1 hj with hj | rfl
    · exact hall j hj
    · exact e
end Go.Proofs.Ytckkoollolacoaa
