/- slices.Contains, reach, cutRows, by what they do. No condition. -/
import Derived.Test.YtckkoollolacoaaJrPlan
import Derived.Test.YtckkoollolacoaaNPlanM
import Derived.Test.YtckkoollolacoaaBase
set_option maxRecDepth 100000
set_option maxHeartbeats 8000000
set_option linter.all false
namespace Go.Proofs.Ytckkoollolacoaa
open Go Go.Ev

theorem index_ok {h : H} {v : V} {R : List Bool} (hR : Bl h v R) (hs : R.length ≤ 1000000) : FnOk Try.prog 41 [v, .b true] h fun y h' => (∃ n : Int, y = .i .i64 n ∧ decide (0 ≤ n) = decide (true ∈ R)) ∧ h' = h := by
  refine fn_go c41 (by intro hb; cases hb) (by simp) (by simp) fun Q hQ => ?_
  simp only [slotsF, Nat.reduceAdd]
  repeat' (first
    | with_reducible (first | apply Ok.sq | apply Ok.block | apply Ok.rg | apply Ok.dw hmix | apply Ok.cd | apply Ok.skip | apply Ok.exit | apply Ok.ret)
    | simp (disch := first | omega | (simp only [List.length_append, List.length_cons, List.length_nil, List.length_take, List.length_drop, List.length_map, List.length_set]; omega)) only [wlk, ↓get_put', Nat.reduceEqDiff, Nat.reduceLT, ↓reduceIte, Int.reduceToNat, Nat.reducePow, Nat.min_eq_left, Nat.reduceAdd, Nat.reduceMul, Int.reduceAdd, Int.reduceSub, Int.reduceNeg, Int.reduceMul, Int.reduceEq, Int.reduceLT, Int.reduceLE, Nat.reduceSub, Int.reduceNatCast, Nat.reduceLeDiff, hR.ln]
    | (with_reducible (first | apply cd_split | apply gd_split)) <;> (intro hc; (try simp only [Bool.not_eq_true', Bool.not_eq_false'] at hc); (try simp only [hc]); (try simp only [hcl, Int.not_lt, Int.not_le, Nat.not_lt, Nat.not_le] at hc); try omega))
  refine Ok.lp (fun m t g => ∃ i : Nat, i ≤ R.length ∧ m = R.length - i ∧ h = g ∧ get 0 t = v ∧ get 1 t = .b true ∧ get 7 t = .i .i64 (R.length : Int) ∧ get 8 t = .i .i64 (i : Int) ∧ ∀ j, j < i → R.getD j false = false) R.length ?_ ?_
  · simp (disch := first | omega | (simp only [List.length_append, List.length_cons, List.length_nil, List.length_take, List.length_drop, List.length_map, List.length_set]; omega)) only [wlk, ↓get_put', Nat.reduceEqDiff, Nat.reduceLT, ↓reduceIte, Int.reduceToNat, Nat.reducePow, Nat.min_eq_left, Nat.reduceAdd, Nat.reduceMul, Int.reduceAdd, Int.reduceSub, Int.reduceNeg, Int.reduceMul, Int.reduceEq, Int.reduceLT, Int.reduceLE, Nat.reduceSub, Int.reduceNatCast, Nat.reduceLeDiff]
    exact ⟨0, by omega, rfl, by trivial, trivial, trivial, trivial, rfl, fun j h => absurd h (by omega)⟩
  rintro I hI m t _ ⟨i, hi, rfl, rfl, f0, f1, f7, f8, hA⟩
  repeat' (first
    | with_reducible (first | apply Ok.sq | apply Ok.block | apply Ok.rg | apply Ok.dw hmix | apply Ok.cd | apply Ok.skip | apply Ok.exit | apply Ok.ret)
    | simp (disch := first | omega | (simp only [List.length_append, List.length_cons, List.length_nil, List.length_take, List.length_drop, List.length_map, List.length_set]; omega)) only [wlk, ↓get_put', Nat.reduceEqDiff, Nat.reduceLT, ↓reduceIte, Int.reduceToNat, Nat.reducePow, Nat.min_eq_left, Nat.reduceAdd, Nat.reduceMul, Int.reduceAdd, Int.reduceSub, Int.reduceNeg, Int.reduceMul, Int.reduceEq, Int.reduceLT, Int.reduceLE, Nat.reduceSub, Int.reduceNatCast, Nat.reduceLeDiff, f0, f1, f7, f8, hR.ix, hR.ld, Int.toNat_natCast, Bool.true_beq]
    | (with_reducible (first | apply cd_split | apply gd_split)) <;> (intro hc; (try simp only [Bool.not_eq_true', Bool.not_eq_false'] at hc); (try simp only [hc]); (try simp only [hcl, Int.not_lt, Int.not_le, Nat.not_lt, Nat.not_le] at hc); try omega))
  · subst hQ
    have : true ∈ R := by
      have hlt : i < R.length := by omega
      rw [List.getD_eq_getElem?_getD, List.getElem?_eq_getElem hlt] at hc
      have d' : R[i] = true := hc
      rw [← d']; exact List.getElem_mem hlt
    exact ⟨⟨i, rfl, by rw [decide_eq_true this, decide_eq_true (by omega)]⟩, rfl⟩
  · refine lp_next hI (R.length - (i + 1)) (by omega) ⟨i + 1, by omega, rfl, rfl, ?_, ?_, ?_, ?_, fun j hj => ?_⟩
    · simp (disch := first | omega | (simp only [List.length_append, List.length_cons, List.length_nil, List.length_take, List.length_drop, List.length_map, List.length_set]; omega)) only [wlk, ↓get_put', Nat.reduceEqDiff, Nat.reduceLT, ↓reduceIte, Int.reduceToNat, Nat.reducePow, Nat.min_eq_left, Nat.reduceAdd, Nat.reduceMul, Int.reduceAdd, Int.reduceSub, Int.reduceNeg, Int.reduceMul, Int.reduceEq, Int.reduceLT, Int.reduceLE, Nat.reduceSub, Int.reduceNatCast, Nat.reduceLeDiff, f0]
    · simp (disch := first | omega | (simp only [List.length_append, List.length_cons, List.length_nil, List.length_take, List.length_drop, List.length_map, List.length_set]; omega)) only [wlk, ↓get_put', Nat.reduceEqDiff, Nat.reduceLT, ↓reduceIte, Int.reduceToNat, Nat.reducePow, Nat.min_eq_left, Nat.reduceAdd, Nat.reduceMul, Int.reduceAdd, Int.reduceSub, Int.reduceNeg, Int.reduceMul, Int.reduceEq, Int.reduceLT, Int.reduceLE, Nat.reduceSub, Int.reduceNatCast, Nat.reduceLeDiff, f1]
    · simp (disch := first | omega | (simp only [List.length_append, List.length_cons, List.length_nil, List.length_take, List.length_drop, List.length_map, List.length_set]; omega)) only [wlk, ↓get_put', Nat.reduceEqDiff, Nat.reduceLT, ↓reduceIte, Int.reduceToNat, Nat.reducePow, Nat.min_eq_left, Nat.reduceAdd, Nat.reduceMul, Int.reduceAdd, Int.reduceSub, Int.reduceNeg, Int.reduceMul, Int.reduceEq, Int.reduceLT, Int.reduceLE, Nat.reduceSub, Int.reduceNatCast, Nat.reduceLeDiff, f7]
    · simp (disch := first | omega | (simp only [List.length_append, List.length_cons, List.length_nil, List.length_take, List.length_drop, List.length_map, List.length_set]; omega)) only [wlk, ↓get_put', Nat.reduceEqDiff, Nat.reduceLT, ↓reduceIte, Int.reduceToNat, Nat.reducePow, Nat.min_eq_left, Nat.reduceAdd, Nat.reduceMul, Int.reduceAdd, Int.reduceSub, Int.reduceNeg, Int.reduceMul, Int.reduceEq, Int.reduceLT, Int.reduceLE, Nat.reduceSub, Int.reduceNatCast, Nat.reduceLeDiff]; rfl
    · by_cases e : j = i
      · subst e; exact hc
      · exact hA j (by omega)
  · subst hQ
    have : ¬ true ∈ R := fun hm => by
      obtain ⟨j, hj, e⟩ := List.getElem_of_mem hm
      have := hA j (by omega)
      rw [List.getD_eq_getElem?_getD, List.getElem?_eq_getElem hj, e] at this
      exact Bool.noConfusion this
    exact ⟨⟨-1, rfl, by rw [decide_eq_false this]; rfl⟩, rfl⟩
theorem contains_ok {h : H} {v : V} {R : List Bool} (hR : Bl h v R) (hs : R.length ≤ 1000000) : FnOk Try.prog 35 [v, .b true] h fun y h' => y = .b (decide (true ∈ R)) ∧ h' = h := by
  refine fn_go c35 (by intro hb; cases hb) (by simp) (by simp) fun Q hQ => ?_
  simp only [slotsF, Nat.reduceAdd]
  repeat' (first
    | with_reducible (first | apply Ok.sq | apply Ok.block | apply Ok.rg | apply Ok.dw hmix | apply Ok.cd | apply Ok.skip | apply Ok.exit | apply Ok.ret)
    | simp (disch := first | omega | (simp only [List.length_append, List.length_cons, List.length_nil, List.length_take, List.length_drop, List.length_map, List.length_set]; omega)) only [wlk, ↓get_put', Nat.reduceEqDiff, Nat.reduceLT, ↓reduceIte, Int.reduceToNat, Nat.reducePow, Nat.min_eq_left, Nat.reduceAdd, Nat.reduceMul, Int.reduceAdd, Int.reduceSub, Int.reduceNeg, Int.reduceMul, Int.reduceEq, Int.reduceLT, Int.reduceLE, Nat.reduceSub, Int.reduceNatCast, Nat.reduceLeDiff]
    | (with_reducible (first | apply cd_split | apply gd_split)) <;> (intro hc; (try simp only [Bool.not_eq_true', Bool.not_eq_false'] at hc); (try simp only [hc]); (try simp only [hcl, Int.not_lt, Int.not_le, Nat.not_lt, Nat.not_le] at hc); try omega))
  refine CL.mk (index_ok hR hs) ?_
  rintro _ _ ⟨⟨n, rfl, e⟩, rfl⟩
  repeat' (first
    | with_reducible (first | apply Ok.sq | apply Ok.block | apply Ok.rg | apply Ok.dw hmix | apply Ok.cd | apply Ok.skip | apply Ok.exit | apply Ok.ret)
    | simp (disch := first | omega | (simp only [List.length_append, List.length_cons, List.length_nil, List.length_take, List.length_drop, List.length_map, List.length_set]; omega)) only [wlk, ↓get_put', Nat.reduceEqDiff, Nat.reduceLT, ↓reduceIte, Int.reduceToNat, Nat.reducePow, Nat.min_eq_left, Nat.reduceAdd, Nat.reduceMul, Int.reduceAdd, Int.reduceSub, Int.reduceNeg, Int.reduceMul, Int.reduceEq, Int.reduceLT, Int.reduceLE, Nat.reduceSub, Int.reduceNatCast, Nat.reduceLeDiff]
    | (with_reducible (first | apply cd_split | apply gd_split)) <;> (intro hc; (try simp only [Bool.not_eq_true', Bool.not_eq_false'] at hc); (try simp only [hc]); (try simp only [hcl, Int.not_lt, Int.not_le, Nat.not_lt, Nat.not_le] at hc); try omega))
  subst hQ
  exact ⟨by rw [e], rfl⟩

/-- the rows of M lie in blocks of the call's own -/
structure Rws (h : H) (f : Nat → B) (M : Mt) : Prop where
  own : ∀ i, i < M.length → Own h (f i) ((M.getD i []).map V.b)
theorem Rws.stay {h h' : H} {f : Nat → B} {M : Mt} {p : B → Prop} (r : Rws h f M) (s : Stay p h h') (hp : ∀ i, i < M.length → ¬ p (f i)) : Rws h' f M := ⟨fun i hi => (r.own i hi).stay s (hp i hi)⟩
theorem Rws.bl {h : H} {f : Nat → B} {M : Mt} (r : Rws h f M) {i n fin : Nat} {cap : Option Nat} (hi : i < M.length) (hn : (M.getD i []).length = n) (hf : n ≤ fin) : Bl h (.l (f i) 0 0 n fin cap) (M.getD i []) := by
  have o := r.own i hi
  have r := o.row
  obtain ⟨blk, h1, h2, h3, h4, h5, h6, h7⟩ := o
  exact .inr ⟨f i, 0, 0, fin, cap, by rw [List.length_map, hn], by rw [List.length_map, hn]; omega, h6, r⟩
theorem Rws.set {h h' : H} {f : Nat → B} {M : Mt} (r : Rws h f M) (hinj : ∀ i j, i < M.length → j < M.length → f i = f j → i = j) {a j : Nat} {x : Bool} (ha : a < M.length)
    (o : Own h' (f a) (((M.getD a []).map V.b).set j (.b x))) (s : Stay (fun i => i = f a) h h') : Rws h' f (M.set a ((M.getD a []).set j x)) := by
  refine ⟨fun i hi => ?_⟩
  rw [List.length_set] at hi
  rw [getD_set_eq _ _ _ _ _ ha]
  by_cases e : i = a
  · subst e; rw [if_pos rfl, List.map_set]; exact o
  · rw [if_neg e]; exact (r.own i hi).stay s fun e' => e (hinj _ _ hi ha e')
theorem Rws.l1 {P : Program} {N : Nx} {h : H} {f : Nat → B} {M : Mt} {n i j fin : Nat} (r : Rws h f M) (hq : ∀ i, i < M.length → (M.getD i []).length = n) (hi : i < M.length) (hj : j < n) (hf : j < fin) : L1 P (f i) 0 j fin h N = N.go P (.b ((M.getD i []).getD j false)) h := by
  have hl := hq i hi
  rw [(r.own i hi).row.l1 (by rw [List.length_map]; omega) hf]
  generalize M.getD i [] = w at hl
  congr 1
  simp [List.getD, (by omega : j < w.length)]
def rv (f : Nat → B) (n fin : Nat) (cap : Option Nat) (i : Nat) : V := .l (f i) 0 0 n fin cap
theorem rv_get (f : Nat → B) (n m fin : Nat) (cap : Option Nat) {i : Nat} (hi : i < n) : ((List.range n).map (rv f m fin cap)).getD i .u = .l (f i) 0 0 m fin cap := by simp [List.getD, hi, rv]

theorem reach_ok {h : H} {v : V} {f : Nat → B} {fin : Nat} {cap : Option Nat} {M : Mt} {n : Nat} (hMl : M.length = n) (hn : n ≤ 6) (hq : ∀ i, i < n → (M.getD i []).length = n) (hfin : n ≤ fin)
    (hL : Lst h v ((List.range n).map (rv f n fin cap))) (hR : Rws h f M) (hinj : ∀ i j, i < n → j < n → f i = f j → i = j) (hv : ∀ i, i < n → ¬ isOf v (f i)) :
    FnOk Try.prog 22 [v] h fun y h' => Rws h' f (reachM M n) ∧ Stay (fun id => ∃ i, i < n ∧ id = f i) h h' := by
  refine fn_go c22 (by intro hb; cases hb) (by simp) (by simp) fun Q hQ => ?_
  simp only [slotsF, Nat.reduceAdd]
  have hll : ((List.range n).map (rv f n fin cap)).length = n := by simp
  obtain ⟨p, hp⟩ : ∃ p : B → Prop, p = fun id => ∃ i, i < n ∧ id = f i := ⟨_, rfl⟩
  rw [← hp] at hQ
  have hvp : ∀ id g off m fin cap, v = .l id g off m fin cap → ¬ p id := fun id g off m fin' cap' e hpi => by
    rw [hp] at hpi
    obtain ⟨i, hi, e'⟩ := hpi
    exact hv i hi ⟨g, off, m, fin', cap', by rw [← e']; exact e⟩
  have hpf : ∀ a, a < n → ∀ i, i = f a → p i := fun a ha i e => by rw [hp]; exact ⟨a, ha, e⟩
  repeat' (first
    | with_reducible (first | apply Ok.sq | apply Ok.block | apply Ok.rg | apply Ok.dw hmix | apply Ok.cd | apply Ok.skip | apply Ok.exit | apply Ok.ret)
    | simp (disch := first | omega | (simp only [List.length_append, List.length_cons, List.length_nil, List.length_take, List.length_drop, List.length_map, List.length_set]; omega)) only [wlk, ↓get_put', Nat.reduceEqDiff, Nat.reduceLT, ↓reduceIte, Int.reduceToNat, Nat.reducePow, Nat.min_eq_left, Nat.reduceAdd, Nat.reduceMul, Int.reduceAdd, Int.reduceSub, Int.reduceNeg, Int.reduceMul, Int.reduceEq, Int.reduceLT, Int.reduceLE, Nat.reduceSub, Int.reduceNatCast, Nat.reduceLeDiff, hL.ln, hll]
    | (with_reducible (first | apply cd_split | apply gd_split)) <;> (intro hc; (try simp only [Bool.not_eq_true', Bool.not_eq_false'] at hc); (try simp only [hc]); (try simp only [hcl, Int.not_lt, Int.not_le, Nat.not_lt, Nat.not_le] at hc); try omega))
  refine Ok.lp (fun m t g => ∃ s : Nat, s ≤ n ∧ m = n - s ∧ Stay p h g ∧ Rws g f (reachM M s) ∧ get 0 t = v ∧ get 8 t = v ∧ get 9 t = .i .i64 (n : Int) ∧ get 10 t = .i .i64 (s : Int)) n ?_ ?_
  · simp (disch := first | omega | (simp only [List.length_append, List.length_cons, List.length_nil, List.length_take, List.length_drop, List.length_map, List.length_set]; omega)) only [wlk, ↓get_put', Nat.reduceEqDiff, Nat.reduceLT, ↓reduceIte, Int.reduceToNat, Nat.reducePow, Nat.min_eq_left, Nat.reduceAdd, Nat.reduceMul, Int.reduceAdd, Int.reduceSub, Int.reduceNeg, Int.reduceMul, Int.reduceEq, Int.reduceLT, Int.reduceLE, Nat.reduceSub, Int.reduceNatCast, Nat.reduceLeDiff]
    exact ⟨0, by omega, rfl, Stay.refl _ _, hR, trivial, trivial, trivial, rfl⟩
  rintro I hI m t g ⟨s, hs, rfl, st, R1, f0, f8, f9, f10⟩
  have hLg := hL.stay st hvp
  by_cases hsn : s < n
  case neg =>
    obtain rfl : s = n := by omega
    repeat' (first
      | with_reducible (first | apply Ok.sq | apply Ok.block | apply Ok.rg | apply Ok.dw hmix | apply Ok.cd | apply Ok.skip | apply Ok.exit | apply Ok.ret)
      | simp (disch := first | omega | (simp only [List.length_append, List.length_cons, List.length_nil, List.length_take, List.length_drop, List.length_map, List.length_set]; omega)) only [wlk, ↓get_put', Nat.reduceEqDiff, Nat.reduceLT, ↓reduceIte, Int.reduceToNat, Nat.reducePow, Nat.min_eq_left, Nat.reduceAdd, Nat.reduceMul, Int.reduceAdd, Int.reduceSub, Int.reduceNeg, Int.reduceMul, Int.reduceEq, Int.reduceLT, Int.reduceLE, Nat.reduceSub, Int.reduceNatCast, Nat.reduceLeDiff, f9, f10]
      | (with_reducible (first | apply cd_split | apply gd_split)) <;> (intro hc; (try simp only [Bool.not_eq_true', Bool.not_eq_false'] at hc); (try simp only [hc]); (try simp only [hcl, Int.not_lt, Int.not_le, Nat.not_lt, Nat.not_le] at hc); try omega))
    subst hQ
    exact ⟨R1, st⟩
  have hLl := reachM_len M s
  have hLr : ∀ i, i < n → ((reachM M s).getD i []).length = n := fun i hi => by rw [reachM_rowlen]; exact hq i hi
  generalize hLe : reachM M s = L at R1 hLl hLr
  have rs := rv_get f n n fin cap hsn
  repeat' (first
    | with_reducible (first | apply Ok.sq | apply Ok.block | apply Ok.rg | apply Ok.dw hmix | apply Ok.cd | apply Ok.skip | apply Ok.exit | apply Ok.ret)
    | simp (disch := first | omega | (simp only [List.length_append, List.length_cons, List.length_nil, List.length_take, List.length_drop, List.length_map, List.length_set]; omega)) only [wlk, ↓get_put', Nat.reduceEqDiff, Nat.reduceLT, ↓reduceIte, Int.reduceToNat, Nat.reducePow, Nat.min_eq_left, Nat.reduceAdd, Nat.reduceMul, Int.reduceAdd, Int.reduceSub, Int.reduceNeg, Int.reduceMul, Int.reduceEq, Int.reduceLT, Int.reduceLE, Nat.reduceSub, Int.reduceNatCast, Nat.reduceLeDiff, f0, f8, f9, f10, hLg.ix, hLg.ld, hLg.ln, hll, rs, Int.toNat_natCast]
    | (with_reducible (first | apply cd_split | apply gd_split)) <;> (intro hc; (try simp only [Bool.not_eq_true', Bool.not_eq_false'] at hc); (try simp only [hc]); (try simp only [hcl, Int.not_lt, Int.not_le, Nat.not_lt, Nat.not_le] at hc); try omega))
  refine Ok.lp (fun m t g' => ∃ a : Nat, a ≤ n ∧ m = n - a ∧ Stay p h g' ∧ Rws g' f (stepM L s a) ∧ get 0 t = v ∧ get 2 t = .i .i64 (s : Int) ∧ get 3 t = .l (f s) 0 0 n fin cap ∧ get 8 t = v ∧ get 9 t = .i .i64 (n : Int) ∧ get 10 t = .i .i64 (s : Int) ∧
    get 15 t = v ∧ get 16 t = .i .i64 (n : Int) ∧ get 17 t = .i .i64 (a : Int)) n ?_ ?_
  · simp (disch := first | omega | (simp only [List.length_append, List.length_cons, List.length_nil, List.length_take, List.length_drop, List.length_map, List.length_set]; omega)) only [wlk, ↓get_put', Nat.reduceEqDiff, Nat.reduceLT, ↓reduceIte, Int.reduceToNat, Nat.reducePow, Nat.min_eq_left, Nat.reduceAdd, Nat.reduceMul, Int.reduceAdd, Int.reduceSub, Int.reduceNeg, Int.reduceMul, Int.reduceEq, Int.reduceLT, Int.reduceLE, Nat.reduceSub, Int.reduceNatCast, Nat.reduceLeDiff, f0, f8, f9, f10]
    exact ⟨0, by omega, rfl, st, by rw [stepM_zero]; exact R1, trivial, trivial, by trivial, trivial, trivial, trivial, trivial, trivial, rfl⟩
  clear f0 f8 f9 f10 R1 hLg st
  rintro J hJ m t g1 ⟨a, ha, rfl, st, R2, f0, f2, f3, f8, f9, f10, f15, f16, f17⟩
  have hLg := hL.stay st hvp
  by_cases han : a < n
  case neg =>
    obtain rfl : a = n := by omega
    repeat' (first
      | with_reducible (first | apply Ok.sq | apply Ok.block | apply Ok.rg | apply Ok.dw hmix | apply Ok.cd | apply Ok.skip | apply Ok.exit | apply Ok.ret)
      | simp (disch := first | omega | (simp only [List.length_append, List.length_cons, List.length_nil, List.length_take, List.length_drop, List.length_map, List.length_set]; omega)) only [wlk, ↓get_put', Nat.reduceEqDiff, Nat.reduceLT, ↓reduceIte, Int.reduceToNat, Nat.reducePow, Nat.min_eq_left, Nat.reduceAdd, Nat.reduceMul, Int.reduceAdd, Int.reduceSub, Int.reduceNeg, Int.reduceMul, Int.reduceEq, Int.reduceLT, Int.reduceLE, Nat.reduceSub, Int.reduceNatCast, Nat.reduceLeDiff, f10, f16, f17]
      | (with_reducible (first | apply cd_split | apply gd_split)) <;> (intro hc; (try simp only [Bool.not_eq_true', Bool.not_eq_false'] at hc); (try simp only [hc]); (try simp only [hcl, Int.not_lt, Int.not_le, Nat.not_lt, Nat.not_le] at hc); try omega))
    refine lp_next hI (a - (s + 1)) (by omega) ⟨s + 1, by omega, rfl, st, by rw [reachM, hLe, hMl]; exact R2, ?_, ?_, ?_, ?_⟩
    all_goals (simp (disch := first | omega | (simp only [List.length_append, List.length_cons, List.length_nil, List.length_take, List.length_drop, List.length_map, List.length_set]; omega)) only [wlk, ↓get_put', Nat.reduceEqDiff, Nat.reduceLT, ↓reduceIte, Int.reduceToNat, Nat.reducePow, Nat.min_eq_left, Nat.reduceAdd, Nat.reduceMul, Int.reduceAdd, Int.reduceSub, Int.reduceNeg, Int.reduceMul, Int.reduceEq, Int.reduceLT, Int.reduceLE, Nat.reduceSub, Int.reduceNatCast, Nat.reduceLeDiff, f0, f8, f9]; try rfl)
  have hSl : (stepM L s a).length = n := by rw [stepM_len, hLl, hMl]
  have hSr : ∀ i, i < (stepM L s a).length → ((stepM L s a).getD i []).length = n := fun i hi => by rw [stepM_rowlen]; exact hLr i (by omega)
  have hra : (stepM L s a).getD a [] = L.getD a [] := stepM_next _ _ (by omega)
  have hsuc : stepM L s (a + 1) = (stepM L s a).set a (stepR (L.getD s []) s (L.getD a [])) := stepM_succ _ _ (by omega)
  have hal := hLr a han
  have hsl := hLr s hsn
  have ra := rv_get f n n fin cap han
  have hsame : (stepM L s a).set a (L.getD a []) = stepM L s a := by
    rw [← hra, List.getD_eq_getElem?_getD, List.getElem?_eq_getElem (by omega)]
    show (stepM L s a).set a (stepM L s a)[a] = _
    rw [List.set_getElem_self]
  cases d : (L.getD a []).getD s false with
  | false =>
    repeat' (first
      | with_reducible (first | apply Ok.sq | apply Ok.block | apply Ok.rg | apply Ok.dw hmix | apply Ok.cd | apply Ok.skip | apply Ok.exit | apply Ok.ret)
      | simp (disch := first | omega | (simp only [List.length_append, List.length_cons, List.length_nil, List.length_take, List.length_drop, List.length_map, List.length_set]; omega)) only [wlk, ↓get_put', Nat.reduceEqDiff, Nat.reduceLT, ↓reduceIte, Int.reduceToNat, Nat.reducePow, Nat.min_eq_left, Nat.reduceAdd, Nat.reduceMul, Int.reduceAdd, Int.reduceSub, Int.reduceNeg, Int.reduceMul, Int.reduceEq, Int.reduceLT, Int.reduceLE, Nat.reduceSub, Int.reduceNatCast, Nat.reduceLeDiff, f0, f2, f3, f8, f9, f10, f15, f16, f17, hLg.ix, hLg.ld, hLg.ln, hll, ra, R2.l1 hSr, hra, d, Int.toNat_natCast]
      | (with_reducible (first | apply cd_split | apply gd_split)) <;> (intro hc; (try simp only [Bool.not_eq_true', Bool.not_eq_false'] at hc); (try simp only [hc]); (try simp only [hcl, Int.not_lt, Int.not_le, Nat.not_lt, Nat.not_le] at hc); try omega))
    refine lp_next hJ (n - (a + 1)) (by omega) ⟨a + 1, by omega, rfl, st, ?_, ?_, ?_, ?_, ?_, ?_, ?_, ?_, ?_, ?_⟩
    · rw [hsuc]
      unfold stepR
      rw [d, if_neg (by decide), hsame]
      exact R2
    all_goals (simp (disch := first | omega | (simp only [List.length_append, List.length_cons, List.length_nil, List.length_take, List.length_drop, List.length_map, List.length_set]; omega)) only [wlk, ↓get_put', Nat.reduceEqDiff, Nat.reduceLT, ↓reduceIte, Int.reduceToNat, Nat.reducePow, Nat.min_eq_left, Nat.reduceAdd, Nat.reduceMul, Int.reduceAdd, Int.reduceSub, Int.reduceNeg, Int.reduceMul, Int.reduceEq, Int.reduceLT, Int.reduceLE, Nat.reduceSub, Int.reduceNatCast, Nat.reduceLeDiff, f0, f2, f3, f8, f9, f10, f15, f16]; try rfl)
  | true =>
  repeat' (first
    | with_reducible (first | apply Ok.sq | apply Ok.block | apply Ok.rg | apply Ok.dw hmix | apply Ok.cd | apply Ok.skip | apply Ok.exit | apply Ok.ret)
    | simp (disch := first | omega | (simp only [List.length_append, List.length_cons, List.length_nil, List.length_take, List.length_drop, List.length_map, List.length_set]; omega)) only [wlk, ↓get_put', Nat.reduceEqDiff, Nat.reduceLT, ↓reduceIte, Int.reduceToNat, Nat.reducePow, Nat.min_eq_left, Nat.reduceAdd, Nat.reduceMul, Int.reduceAdd, Int.reduceSub, Int.reduceNeg, Int.reduceMul, Int.reduceEq, Int.reduceLT, Int.reduceLE, Nat.reduceSub, Int.reduceNatCast, Nat.reduceLeDiff, f0, f2, f3, f8, f9, f10, f15, f16, f17, hLg.ix, hLg.ld, hLg.ln, hll, ra, R2.l1 hSr, hra, d, Int.toNat_natCast]
    | (with_reducible (first | apply cd_split | apply gd_split)) <;> (intro hc; (try simp only [Bool.not_eq_true', Bool.not_eq_false'] at hc); (try simp only [hc]); (try simp only [hcl, Int.not_lt, Int.not_le, Nat.not_lt, Nat.not_le] at hc); try omega))
  refine Ok.lp (fun m t g' => ∃ b : Nat, b ≤ n ∧ m = n - b ∧ Stay p h g' ∧ Rws g' f ((stepM L s a).set a (orR (L.getD a []) (L.getD s []) b)) ∧ get 0 t = v ∧ get 2 t = .i .i64 (s : Int) ∧ get 3 t = .l (f s) 0 0 n fin cap ∧ get 5 t = .l (f a) 0 0 n fin cap ∧ get 8 t = v ∧ get 9 t = .i .i64 (n : Int) ∧ get 10 t = .i .i64 (s : Int) ∧
    get 15 t = v ∧ get 16 t = .i .i64 (n : Int) ∧ get 17 t = .i .i64 (a : Int) ∧ get 26 t = .l (f s) 0 0 n fin cap ∧ get 27 t = .i .i64 (n : Int) ∧ get 28 t = .i .i64 (b : Int)) n ?_ ?_
  · simp (disch := first | omega | (simp only [List.length_append, List.length_cons, List.length_nil, List.length_take, List.length_drop, List.length_map, List.length_set]; omega)) only [wlk, ↓get_put', Nat.reduceEqDiff, Nat.reduceLT, ↓reduceIte, Int.reduceToNat, Nat.reducePow, Nat.min_eq_left, Nat.reduceAdd, Nat.reduceMul, Int.reduceAdd, Int.reduceSub, Int.reduceNeg, Int.reduceMul, Int.reduceEq, Int.reduceLT, Int.reduceLE, Nat.reduceSub, Int.reduceNatCast, Nat.reduceLeDiff, f0, f2, f3, f8, f9, f10, f15, f16, f17]
    exact ⟨0, by omega, rfl, st, by rw [orR_zero, hsame]; exact R2, trivial, trivial, by trivial, by trivial, trivial, trivial, trivial, trivial, trivial, trivial, by trivial, trivial, rfl⟩
  clear f0 f2 f3 f8 f9 f10 f15 f16 f17 R2 hLg st
  rintro K hK m t g2 ⟨b, hb, rfl, st, R3, f0, f2, f3, f5, f8, f9, f10, f15, f16, f17, f26, f27, f28⟩
  by_cases hbn : b < n
  case neg =>
    obtain rfl : b = n := by omega
    repeat' (first
      | with_reducible (first | apply Ok.sq | apply Ok.block | apply Ok.rg | apply Ok.dw hmix | apply Ok.cd | apply Ok.skip | apply Ok.exit | apply Ok.ret)
      | simp (disch := first | omega | (simp only [List.length_append, List.length_cons, List.length_nil, List.length_take, List.length_drop, List.length_map, List.length_set]; omega)) only [wlk, ↓get_put', Nat.reduceEqDiff, Nat.reduceLT, ↓reduceIte, Int.reduceToNat, Nat.reducePow, Nat.min_eq_left, Nat.reduceAdd, Nat.reduceMul, Int.reduceAdd, Int.reduceSub, Int.reduceNeg, Int.reduceMul, Int.reduceEq, Int.reduceLT, Int.reduceLE, Nat.reduceSub, Int.reduceNatCast, Nat.reduceLeDiff, f17, f27, f28]
      | (with_reducible (first | apply cd_split | apply gd_split)) <;> (intro hc; (try simp only [Bool.not_eq_true', Bool.not_eq_false'] at hc); (try simp only [hc]); (try simp only [hcl, Int.not_lt, Int.not_le, Nat.not_lt, Nat.not_le] at hc); try omega))
    refine lp_next hJ (b - (a + 1)) (by omega) ⟨a + 1, by omega, rfl, st, ?_, ?_, ?_, ?_, ?_, ?_, ?_, ?_, ?_, ?_⟩
    · rw [hsuc]
      unfold stepR
      rw [d, if_pos rfl, hal]
      exact R3
    all_goals (simp (disch := first | omega | (simp only [List.length_append, List.length_cons, List.length_nil, List.length_take, List.length_drop, List.length_map, List.length_set]; omega)) only [wlk, ↓get_put', Nat.reduceEqDiff, Nat.reduceLT, ↓reduceIte, Int.reduceToNat, Nat.reducePow, Nat.min_eq_left, Nat.reduceAdd, Nat.reduceMul, Int.reduceAdd, Int.reduceSub, Int.reduceNeg, Int.reduceMul, Int.reduceEq, Int.reduceLT, Int.reduceLE, Nat.reduceSub, Int.reduceNatCast, Nat.reduceLeDiff, f0, f2, f3, f8, f9, f10, f15, f16]; try rfl)
  have hXl : ((stepM L s a).set a (orR (L.getD a []) (L.getD s []) b)).length = n := by rw [List.length_set]; exact hSl
  have hXa : ((stepM L s a).set a (orR (L.getD a []) (L.getD s []) b)).getD a [] = orR (L.getD a []) (L.getD s []) b := by rw [getD_set_eq _ _ _ _ _ (by omega), if_pos rfl]
  have hXs : ((stepM L s a).set a (orR (L.getD a []) (L.getD s []) b)).getD s [] = L.getD s [] := by
    rw [getD_set_eq _ _ _ _ _ (by omega)]
    split
    · rename_i e; rw [← e, orR_self]
    · exact stepM_row L s a
  have hXr : ∀ i, i < ((stepM L s a).set a (orR (L.getD a []) (L.getD s []) b)).length → (((stepM L s a).set a (orR (L.getD a []) (L.getD s []) b)).getD i []).length = n := fun i hi => by
    rw [getD_set_eq _ _ _ _ _ (by omega)]
    split
    · rw [orR_len]; exact hal
    · exact hSr i (by omega)
  have hob : (orR (L.getD a []) (L.getD s []) b).getD b false = (L.getD a []).getD b false := by rw [orR_get, if_pos (by omega), if_neg (Nat.lt_irrefl _)]
  have hos : orR (L.getD a []) (L.getD s []) (b + 1) = (orR (L.getD a []) (L.getD s []) b).set b ((L.getD a []).getD b false || (L.getD s []).getD b false) := orR_succ _ _ (by omega)
  have oa := R3.own a (by omega)
  have fin' : ∀ x : Bool, x = ((L.getD a []).getD b false || (L.getD s []).getD b false) → ∀ g3, Own g3 (f a) (((((stepM L s a).set a (orR (L.getD a []) (L.getD s []) b)).getD a []).map V.b).set b (.b x)) → Stay (fun i => i = f a) g2 g3 → Rws g3 f ((stepM L s a).set a (orR (L.getD a []) (L.getD s []) (b + 1))) := fun x hx g3 o3 s3 => by
    have R4 := R3.set (fun i j hi hj => hinj i j (by omega) (by omega)) (by omega) o3 s3
    rw [hXa, List.set_set] at R4
    rw [hos, ← hx]
    exact R4
  cases d3 : (L.getD a []).getD b false with
  | false =>
    repeat' (first
      | with_reducible (first | apply Ok.sq | apply Ok.block | apply Ok.rg | apply Ok.dw hmix | apply Ok.cd | apply Ok.skip | apply Ok.exit | apply Ok.ret)
      | simp (disch := first | omega | (simp only [List.length_append, List.length_cons, List.length_nil, List.length_take, List.length_drop, List.length_map, List.length_set]; omega)) only [wlk, ↓get_put', Nat.reduceEqDiff, Nat.reduceLT, ↓reduceIte, Int.reduceToNat, Nat.reducePow, Nat.min_eq_left, Nat.reduceAdd, Nat.reduceMul, Int.reduceAdd, Int.reduceSub, Int.reduceNeg, Int.reduceMul, Int.reduceEq, Int.reduceLT, Int.reduceLE, Nat.reduceSub, Int.reduceNatCast, Nat.reduceLeDiff, f0, f2, f3, f5, f8, f9, f10, f15, f16, f17, f26, f27, f28, R3.l1 hXr, hXa, hXs, hob, d3, Int.toNat_natCast]
      | (with_reducible (first | apply cd_split | apply gd_split)) <;> (intro hc; (try simp only [Bool.not_eq_true', Bool.not_eq_false'] at hc); (try simp only [hc]); (try simp only [hcl, Int.not_lt, Int.not_le, Nat.not_lt, Nat.not_le] at hc); try omega))
    refine ST.own (y := .b ((L.getD s []).getD b false)) oa rfl rfl (by omega) (by omega) fun g3 o3 s3 => ?_
    repeat' (first
      | with_reducible (first | apply Ok.sq | apply Ok.block | apply Ok.rg | apply Ok.dw hmix | apply Ok.cd | apply Ok.skip | apply Ok.exit | apply Ok.ret)
      | simp (disch := first | omega | (simp only [List.length_append, List.length_cons, List.length_nil, List.length_take, List.length_drop, List.length_map, List.length_set]; omega)) only [wlk, ↓get_put', Nat.reduceEqDiff, Nat.reduceLT, ↓reduceIte, Int.reduceToNat, Nat.reducePow, Nat.min_eq_left, Nat.reduceAdd, Nat.reduceMul, Int.reduceAdd, Int.reduceSub, Int.reduceNeg, Int.reduceMul, Int.reduceEq, Int.reduceLT, Int.reduceLE, Nat.reduceSub, Int.reduceNatCast, Nat.reduceLeDiff, f28]
      | (with_reducible (first | apply cd_split | apply gd_split)) <;> (intro hc; (try simp only [Bool.not_eq_true', Bool.not_eq_false'] at hc); (try simp only [hc]); (try simp only [hcl, Int.not_lt, Int.not_le, Nat.not_lt, Nat.not_le] at hc); try omega))
    refine lp_next hK (n - (b + 1)) (by omega) ⟨b + 1, by omega, rfl, st.trans (s3.mono fun i _ e => hpf a han i e), fin' _ (by rw [d3]; rfl) g3 o3 s3, ?_, ?_, ?_, ?_, ?_, ?_, ?_, ?_, ?_, ?_, ?_, ?_, ?_⟩
    all_goals (simp (disch := first | omega | (simp only [List.length_append, List.length_cons, List.length_nil, List.length_take, List.length_drop, List.length_map, List.length_set]; omega)) only [wlk, ↓get_put', Nat.reduceEqDiff, Nat.reduceLT, ↓reduceIte, Int.reduceToNat, Nat.reducePow, Nat.min_eq_left, Nat.reduceAdd, Nat.reduceMul, Int.reduceAdd, Int.reduceSub, Int.reduceNeg, Int.reduceMul, Int.reduceEq, Int.reduceLT, Int.reduceLE, Nat.reduceSub, Int.reduceNatCast, Nat.reduceLeDiff, f0, f2, f3, f5, f8, f9, f10, f15, f16, f17, f26, f27]; try rfl)
  | true =>
    repeat' (first
      | with_reducible (first | apply Ok.sq | apply Ok.block | apply Ok.rg | apply Ok.dw hmix | apply Ok.cd | apply Ok.skip | apply Ok.exit | apply Ok.ret)
      | simp (disch := first | omega | (simp only [List.length_append, List.length_cons, List.length_nil, List.length_take, List.length_drop, List.length_map, List.length_set]; omega)) only [wlk, ↓get_put', Nat.reduceEqDiff, Nat.reduceLT, ↓reduceIte, Int.reduceToNat, Nat.reducePow, Nat.min_eq_left, Nat.reduceAdd, Nat.reduceMul, Int.reduceAdd, Int.reduceSub, Int.reduceNeg, Int.reduceMul, Int.reduceEq, Int.reduceLT, Int.reduceLE, Nat.reduceSub, Int.reduceNatCast, Nat.reduceLeDiff, f0, f2, f3, f5, f8, f9, f10, f15, f16, f17, f26, f27, f28, R3.l1 hXr, hXa, hXs, hob, d3, Int.toNat_natCast]
      | (with_reducible (first | apply cd_split | apply gd_split)) <;> (intro hc; (try simp only [Bool.not_eq_true', Bool.not_eq_false'] at hc); (try simp only [hc]); (try simp only [hcl, Int.not_lt, Int.not_le, Nat.not_lt, Nat.not_le] at hc); try omega))
    refine ST.own (y := .b true) oa rfl rfl (by omega) (by omega) fun g3 o3 s3 => ?_
    repeat' (first
      | with_reducible (first | apply Ok.sq | apply Ok.block | apply Ok.rg | apply Ok.dw hmix | apply Ok.cd | apply Ok.skip | apply Ok.exit | apply Ok.ret)
      | simp (disch := first | omega | (simp only [List.length_append, List.length_cons, List.length_nil, List.length_take, List.length_drop, List.length_map, List.length_set]; omega)) only [wlk, ↓get_put', Nat.reduceEqDiff, Nat.reduceLT, ↓reduceIte, Int.reduceToNat, Nat.reducePow, Nat.min_eq_left, Nat.reduceAdd, Nat.reduceMul, Int.reduceAdd, Int.reduceSub, Int.reduceNeg, Int.reduceMul, Int.reduceEq, Int.reduceLT, Int.reduceLE, Nat.reduceSub, Int.reduceNatCast, Nat.reduceLeDiff, f28]
      | (with_reducible (first | apply cd_split | apply gd_split)) <;> (intro hc; (try simp only [Bool.not_eq_true', Bool.not_eq_false'] at hc); (try simp only [hc]); (try simp only [hcl, Int.not_lt, Int.not_le, Nat.not_lt, Nat.not_le] at hc); try omega))
    refine lp_next hK (n - (b + 1)) (by omega) ⟨b + 1, by omega, rfl, st.trans (s3.mono fun i _ e => hpf a han i e), fin' _ (by rw [d3]; rfl) g3 o3 s3, ?_, ?_, ?_, ?_, ?_, ?_, ?_, ?_, ?_, ?_, ?_, ?_, ?_⟩
    all_goals (simp (disch := first | omega | (simp only [List.length_append, List.length_cons, List.length_nil, List.length_take, List.length_drop, List.length_map, List.length_set]; omega)) only [wlk, ↓get_put', Nat.reduceEqDiff, Nat.reduceLT, ↓reduceIte, Int.reduceToNat, Nat.reducePow, Nat.min_eq_left, Nat.reduceAdd, Nat.reduceMul, Int.reduceAdd, Int.reduceSub, Int.reduceNeg, Int.reduceMul, Int.reduceEq, Int.reduceLT, Int.reduceLE, Nat.reduceSub, Int.reduceNatCast, Nat.reduceLeDiff, f0, f2, f3, f5, f8, f9, f10, f15, f16, f17, f26, f27]; try rfl)
end Go.Proofs.Ytckkoollolacoaa
