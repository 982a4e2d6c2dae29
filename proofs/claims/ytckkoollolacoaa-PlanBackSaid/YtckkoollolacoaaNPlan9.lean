/- The body of the law PlanBack returns true. No condition. -/
import Derived.Test.YtckkoollolacoaaNPlan8
import Derived.Test.YtckkoollolacoaaNPlanQ
set_option maxRecDepth 100000
set_option maxHeartbeats 8000000
set_option linter.all false
namespace Go.Proofs.Ytckkoollolacoaa
open Go Go.Ev

/-- the covers' numbers -/
def covN (M : Mt) (i : Nat) : List Nat := ((List.range M.length).filter fun b => at2 M i b && !(b == i)).filter fun b => topB M (belowL M (i : Int)) (b : Int) (belowL M (i : Int)).length
theorem covers_cast {M : Mt} (h : chkN M = 0) {i : Nat} (hi : i < M.length) : coversL M (i : Int) = (covN M i).map fun b : Nat => (b : Int) := by
  have hlv : isLv M (i : Int) = true := by unfold isLv; rw [lvls_zero h]; exact decide_eq_true ⟨by omega, by omega⟩
  have e : belowL M (i : Int) = ((List.range M.length).filter fun b => at2 M i b && !(b == i)).map (fun b : Nat => (b : Int)) := by unfold belowL; rw [if_pos hlv]; rfl
  unfold coversL covers0 covN
  rw [List.take_length]
  conv => lhs; arg 2; rw [e]
  rw [List.filter_map]
  rfl
theorem covN_nodup (M : Mt) (i : Nat) : (covN M i).Nodup := List.Pairwise.filter _ (List.Pairwise.filter _ List.nodup_range)
theorem covN_mem {M : Mt} {i k : Nat} (h : k ∈ covN M i) : k < M.length ∧ k ≠ i ∧ at2 M i k = true := by
  unfold covN at h
  obtain ⟨h1, _⟩ := List.mem_filter.1 h
  obtain ⟨h2, h3⟩ := List.mem_filter.1 h1
  simp only [Bool.and_eq_true, Bool.not_eq_true', beq_eq_false_iff_ne, ne_eq] at h3
  exact ⟨by simpa using h2, h3.2, h3.1⟩
theorem covN_of {M : Mt} (h : chkN M = 0) {i c : Nat} (hi : i < M.length) (hc : (c : Int) ∈ coversL M (i : Int)) : c ∈ covN M i := by
  rw [covers_cast h hi] at hc
  obtain ⟨b, hb, e⟩ := List.mem_map.1 hc
  have : b = c := by omega
  rw [← this]; exact hb
theorem nameB_nm {k : Nat} (h : k < 6) : nameB (k : Int) = [nm k] := nameB_nat h
theorem names_flat {ks : List Nat} (h : ∀ k ∈ ks, k < 6) : ((ks.map fun b : Nat => (b : Int)).map nameB).flatten = ks.map nm := by
  induction ks with
  | nil => rfl
  | cons k ks ih =>
    simp only [List.map_cons, List.flatten_cons]
    rw [nameB_nm (h k (List.mem_cons_self ..)), ih (fun x hx => h x (List.mem_cons_of_mem _ hx))]; rfl
theorem prS_txt {M : Mt} (h : chkN M = 0) : ∀ r, r ≤ M.length → prS M r = txt (covN M) r
  | 0, _ => rfl
  | r + 1, hr => by
    have q2 := (of_decide_eq_true (chk_zero h).1).2.1
    show prS M r ++ (nameB (r : Int) ++ [62]) ++ covS (coversL M (r : Int)) (coversL M (r : Int)).length ++ [10] = txt (covN M) r ++ (lineT r (covN M r) ++ [10])
    rw [prS_txt h r (by omega)]
    unfold covS lineT
    rw [List.take_length, covers_cast h (by omega), names_flat (fun k hk => by have := (covN_mem hk).1; omega), nameB_nm (by omega)]
    simp
theorem txt_len {N : Nat → List Nat} : ∀ n, (∀ i, i < n → (N i).length ≤ 6) → (txt N n).length ≤ 9 * n
  | 0, _ => Nat.zero_le _
  | n + 1, h => by
    have h1 := txt_len n (fun i hi => h i (by omega))
    have h2 := h n (Nat.lt_succ_self _)
    have : (lineT n (N n)).length = 2 + (N n).length := by unfold lineT; simp; omega
    rw [txt, List.length_append, List.length_append, this]
    simp; omega
/-- which names stand there -/
def sel (M : Mt) (R : List Bool) (i k : Nat) : Bool := aboveB M (i : Int) (k : Int) && (decide ((k : Int) ∈ coversL M (i : Int)) || R.getD (i * M.length + (M.length - 1 - k)) false)
def namU (M : Mt) (R : List Bool) (i q : Nat) : List Nat := ((List.range M.length).reverse.take q).filter (sel M R i)
theorem namU_succ {M : Mt} {R : List Bool} {i q : Nat} (hq : q < M.length) : namU M R i (q + 1) = namU M R i q ++ (if sel M R i (M.length - 1 - q) = true then [M.length - 1 - q] else []) := by
  unfold namU
  rw [List.take_succ_eq_append_getElem (by simpa using hq), List.filter_append]
  congr 1
  have : (List.range M.length).reverse[q]'(by simpa using hq) = M.length - 1 - q := by rw [List.getElem_reverse]; simp
  rw [this]
  cases hs : sel M R i (M.length - 1 - q) <;> simp [hs]
theorem namU_len (M : Mt) (R : List Bool) (i q : Nat) : (namU M R i q).length ≤ M.length := by
  unfold namU
  have h1 := List.length_filter_le (sel M R i) ((List.range M.length).reverse.take q)
  have h2 : ((List.range M.length).reverse.take q).length ≤ M.length := by rw [List.length_take]; simp; omega
  omega
theorem namU_ok {M : Mt} (h : chkN M = 0) (R : List Bool) {i : Nat} (hi : i < M.length) : (namU M R i M.length).Nodup ∧ ∀ k ∈ namU M R i M.length, k < M.length ∧ k ≠ i ∧ at2 M i k = true := by
  have e : (List.range M.length).reverse.take M.length = (List.range M.length).reverse := List.take_of_length_le (by simp)
  unfold namU
  rw [e]
  refine ⟨List.Pairwise.filter _ (List.pairwise_reverse.2 (List.Pairwise.imp (fun h e => h e.symm) List.nodup_range)), fun k hk => ?_⟩
  obtain ⟨h1, h2⟩ := List.mem_filter.1 hk
  have hk' : k < M.length := by simpa using h1
  unfold sel at h2
  rw [Bool.and_eq_true] at h2
  obtain ⟨x, y, e1, e2, hne, _, _, h5⟩ := (above_iff h _ _).1 h2.1
  have : x = i := by omega
  have : y = k := by omega
  subst x; subst y
  exact ⟨hk', fun e => hne e.symm, h5⟩
theorem namU_cov {M : Mt} (h : chkN M = 0) (R : List Bool) {i c : Nat} (hi : i < M.length) (hc : (c : Int) ∈ coversL M (i : Int)) : c ∈ namU M R i M.length := by
  have e : (List.range M.length).reverse.take M.length = (List.range M.length).reverse := List.take_of_length_le (by simp)
  obtain ⟨h1, h2, h3⟩ := covN_mem (covN_of h hi hc)
  unfold namU
  rw [e]
  refine List.mem_filter.2 ⟨by simpa using h1, ?_⟩
  unfold sel
  rw [Bool.and_eq_true]
  exact ⟨(above_iff h _ _).2 ⟨i, c, rfl, rfl, fun e => h2 e.symm, hi, h1, h3⟩, by rw [decide_eq_true hc]; rfl⟩

theorem back_ok {h : H} {v u : V} {M : Mt} {R : List Bool} (hM : Mx h v M) (hs0 : M.length ≤ 9223372036854775807) (hq0 : ∀ i, i < M.length → (M.getD i []).length ≤ 9223372036854775807) (hR : Bl h u R) (hRl : R.length ≤ 9223372036854775807) (hf : B.val h.floor ≤ B.val h.next) :
    FnOk Try.prog 4 [.a [v], u] h fun y h' => y = .b true := by
  refine fn_go c4 (by intro hb; cases hb) (by simp) (by simp) fun Q hQ => ?_
  simp only [slotsF, Nat.reduceAdd]
  repeat' (first
    | with_reducible (first | apply Ok.sq | apply Ok.block | apply Ok.rg | apply Ok.dw hmix | apply Ok.cd | apply Ok.skip | apply Ok.exit | apply Ok.ret)
    | simp (disch := first | omega | (simp only [List.length_append, List.length_cons, List.length_nil, List.length_take, List.length_drop, List.length_map, List.length_set]; omega)) only [wlk, ↓get_put', Nat.reduceEqDiff, Nat.reduceLT, ↓reduceIte, Int.reduceToNat, Nat.reducePow, Nat.min_eq_left, Nat.reduceAdd, Nat.reduceMul, Int.reduceAdd, Int.reduceSub, Int.reduceNeg, Int.reduceMul, Int.reduceEq, Int.reduceLT, Int.reduceLE, Nat.reduceSub, Int.reduceNatCast, Nat.reduceLeDiff]
    | (with_reducible (first | apply cd_split | apply gd_split)) <;> (intro hc; (try simp only [Bool.not_eq_true', Bool.not_eq_false'] at hc); (try simp only [hc]); (try simp only [hcl, Int.not_lt, Int.not_le, Nat.not_lt, Nat.not_le] at hc); try omega))
  refine AL.own (by simp) hf fun h1 s1 n1 o1 => ?_
  have hf1 := s1.fl hf
  have hM1 := hM.grow s1
  have hR1 := hR.grow s1
  repeat' (first
    | with_reducible (first | apply Ok.sq | apply Ok.block | apply Ok.rg | apply Ok.dw hmix | apply Ok.cd | apply Ok.skip | apply Ok.exit | apply Ok.ret)
    | simp (disch := first | omega | (simp only [List.length_append, List.length_cons, List.length_nil, List.length_take, List.length_drop, List.length_map, List.length_set]; omega)) only [wlk, ↓get_put', Nat.reduceEqDiff, Nat.reduceLT, ↓reduceIte, Int.reduceToNat, Nat.reducePow, Nat.min_eq_left, Nat.reduceAdd, Nat.reduceMul, Int.reduceAdd, Int.reduceSub, Int.reduceNeg, Int.reduceMul, Int.reduceEq, Int.reduceLT, Int.reduceLE, Nat.reduceSub, Int.reduceNatCast, Nat.reduceLeDiff]
    | (with_reducible (first | apply cd_split | apply gd_split)) <;> (intro hc; (try simp only [Bool.not_eq_true', Bool.not_eq_false'] at hc); (try simp only [hc]); (try simp only [hcl, Int.not_lt, Int.not_le, Nat.not_lt, Nat.not_le] at hc); try omega))
  refine CL.pure known2 ?_
  repeat' (first
    | with_reducible (first | apply Ok.sq | apply Ok.block | apply Ok.rg | apply Ok.dw hmix | apply Ok.cd | apply Ok.skip | apply Ok.exit | apply Ok.ret)
    | simp (disch := first | omega | (simp only [List.length_append, List.length_cons, List.length_nil, List.length_take, List.length_drop, List.length_map, List.length_set]; omega)) only [wlk, ↓get_put', Nat.reduceEqDiff, Nat.reduceLT, ↓reduceIte, Int.reduceToNat, Nat.reducePow, Nat.min_eq_left, Nat.reduceAdd, Nat.reduceMul, Int.reduceAdd, Int.reduceSub, Int.reduceNeg, Int.reduceMul, Int.reduceEq, Int.reduceLT, Int.reduceLE, Nat.reduceSub, Int.reduceNatCast, Nat.reduceLeDiff, o1.row.ln]
    | (with_reducible (first | apply cd_split | apply gd_split)) <;> (intro hc; (try simp only [Bool.not_eq_true', Bool.not_eq_false'] at hc); (try simp only [hc]); (try simp only [hcl, Int.not_lt, Int.not_le, Nat.not_lt, Nat.not_le] at hc); try omega))
  refine CL.stay (few_ok hM1 hs0 hq0 hf1) fun h2 s2 => ?_
  have hf2 := s2.fl hf1
  have o2 := o1.stay s2 fun h => h
  cases hfew : fewB M with
  | false =>
    repeat' (first
      | with_reducible (first | apply Ok.sq | apply Ok.block | apply Ok.rg | apply Ok.dw hmix | apply Ok.cd | apply Ok.skip | apply Ok.exit | apply Ok.ret)
      | simp (disch := first | omega | (simp only [List.length_append, List.length_cons, List.length_nil, List.length_take, List.length_drop, List.length_map, List.length_set]; omega)) only [wlk, ↓get_put', Nat.reduceEqDiff, Nat.reduceLT, ↓reduceIte, Int.reduceToNat, Nat.reducePow, Nat.min_eq_left, Nat.reduceAdd, Nat.reduceMul, Int.reduceAdd, Int.reduceSub, Int.reduceNeg, Int.reduceMul, Int.reduceEq, Int.reduceLT, Int.reduceLE, Nat.reduceSub, Int.reduceNatCast, Nat.reduceLeDiff]
      | (with_reducible (first | apply cd_split | apply gd_split)) <;> (intro hc; (try simp only [Bool.not_eq_true', Bool.not_eq_false'] at hc); (try simp only [hc]); (try simp only [hcl, Int.not_lt, Int.not_le, Nat.not_lt, Nat.not_le] at hc); try omega))
    subst hQ; rfl
  | true =>
  have hfw := of_decide_eq_true hfew
  have hs : M.length ≤ 1000000 := by omega
  repeat' (first
    | with_reducible (first | apply Ok.sq | apply Ok.block | apply Ok.rg | apply Ok.dw hmix | apply Ok.cd | apply Ok.skip | apply Ok.exit | apply Ok.ret)
    | simp (disch := first | omega | (simp only [List.length_append, List.length_cons, List.length_nil, List.length_take, List.length_drop, List.length_map, List.length_set]; omega)) only [wlk, ↓get_put', Nat.reduceEqDiff, Nat.reduceLT, ↓reduceIte, Int.reduceToNat, Nat.reducePow, Nat.min_eq_left, Nat.reduceAdd, Nat.reduceMul, Int.reduceAdd, Int.reduceSub, Int.reduceNeg, Int.reduceMul, Int.reduceEq, Int.reduceLT, Int.reduceLE, Nat.reduceSub, Int.reduceNatCast, Nat.reduceLeDiff, o2.row.ln]
    | (with_reducible (first | apply cd_split | apply gd_split)) <;> (intro hc; (try simp only [Bool.not_eq_true', Bool.not_eq_false'] at hc); (try simp only [hc]); (try simp only [hcl, Int.not_lt, Int.not_le, Nat.not_lt, Nat.not_le] at hc); try omega))
  refine CL.stay (rcheck_ok (hM1.grow s2) hs hq0 hf2) fun h3 s3 => ?_
  have hf3 := s3.fl hf2
  have o3 := o2.stay s3 fun h => h
  by_cases hck : chkN M = 0
  case neg =>
    repeat' (first
      | with_reducible (first | apply Ok.sq | apply Ok.block | apply Ok.rg | apply Ok.dw hmix | apply Ok.cd | apply Ok.skip | apply Ok.exit | apply Ok.ret)
      | simp (disch := first | omega | (simp only [List.length_append, List.length_cons, List.length_nil, List.length_take, List.length_drop, List.length_map, List.length_set]; omega)) only [wlk, ↓get_put', Nat.reduceEqDiff, Nat.reduceLT, ↓reduceIte, Int.reduceToNat, Nat.reducePow, Nat.min_eq_left, Nat.reduceAdd, Nat.reduceMul, Int.reduceAdd, Int.reduceSub, Int.reduceNeg, Int.reduceMul, Int.reduceEq, Int.reduceLT, Int.reduceLE, Nat.reduceSub, Int.reduceNatCast, Nat.reduceLeDiff]
      | (with_reducible (first | apply cd_split | apply gd_split)) <;> (intro hc; (try simp only [Bool.not_eq_true', Bool.not_eq_false'] at hc); (try simp only [hc]); (try simp only [hcl, Int.not_lt, Int.not_le, Nat.not_lt, Nat.not_le] at hc); try omega))
    subst hQ; rfl
  have hR3 := (hR1.grow s2).grow s3
  have hM3 := (hM1.grow s2).grow s3
  rw [hck]
  repeat' (first
    | with_reducible (first | apply Ok.sq | apply Ok.block | apply Ok.rg | apply Ok.dw hmix | apply Ok.cd | apply Ok.skip | apply Ok.exit | apply Ok.ret)
    | simp (disch := first | omega | (simp only [List.length_append, List.length_cons, List.length_nil, List.length_take, List.length_drop, List.length_map, List.length_set]; omega)) only [wlk, ↓get_put', Nat.reduceEqDiff, Nat.reduceLT, ↓reduceIte, Int.reduceToNat, Nat.reducePow, Nat.min_eq_left, Nat.reduceAdd, Nat.reduceMul, Int.reduceAdd, Int.reduceSub, Int.reduceNeg, Int.reduceMul, Int.reduceEq, Int.reduceLT, Int.reduceLE, Nat.reduceSub, Int.reduceNatCast, Nat.reduceLeDiff, hR3.ln]
    | (with_reducible (first | apply cd_split | apply gd_split)) <;> (intro hc; (try simp only [Bool.not_eq_true', Bool.not_eq_false'] at hc); (try simp only [hc]); (try simp only [hcl, Int.not_lt, Int.not_le, Nat.not_lt, Nat.not_le] at hc); try omega))
  · subst hQ; rfl
  obtain ⟨q1, q2, sq⟩ := of_decide_eq_true (chk_zero hck).1
  have hlv := lvls_zero hck
  have hp1 : prS M (lvls M) = txt (covN M) M.length := by rw [hlv]; exact prS_txt hck _ (Nat.le_refl _)
  have hpl1 : (prS M (lvls M)).length ≤ 1000000 := by have := prS_len (M := M) q2 (lvls M); omega
  have hpp1 : parseP (prS M (lvls M)) = (M, 0) := by rw [hp1]; exact parse_back hck (covN M) (fun i hi => ⟨covN_nodup M i, fun k hk => covN_mem hk⟩) fun i c hi hc => covN_of hck hi hc
  repeat' (first
    | with_reducible (first | apply Ok.sq | apply Ok.block | apply Ok.rg | apply Ok.dw hmix | apply Ok.cd | apply Ok.skip | apply Ok.exit | apply Ok.ret)
    | simp (disch := first | omega | (simp only [List.length_append, List.length_cons, List.length_nil, List.length_take, List.length_drop, List.length_map, List.length_set]; omega)) only [wlk, ↓get_put', Nat.reduceEqDiff, Nat.reduceLT, ↓reduceIte, Int.reduceToNat, Nat.reducePow, Nat.min_eq_left, Nat.reduceAdd, Nat.reduceMul, Int.reduceAdd, Int.reduceSub, Int.reduceNeg, Int.reduceMul, Int.reduceEq, Int.reduceLT, Int.reduceLE, Nat.reduceSub, Int.reduceNatCast, Nat.reduceLeDiff, o3.row.ln]
    | (with_reducible (first | apply cd_split | apply gd_split)) <;> (intro hc; (try simp only [Bool.not_eq_true', Bool.not_eq_false'] at hc); (try simp only [hc]); (try simp only [hcl, Int.not_lt, Int.not_le, Nat.not_lt, Nat.not_le] at hc); try omega))
  refine CL.mk (print_ok hM3 hs hq0 hf3) ?_
  rintro _ h4 ⟨rfl, s4⟩
  have hf4 := s4.fl hf3
  repeat' (first
    | with_reducible (first | apply Ok.sq | apply Ok.block | apply Ok.rg | apply Ok.dw hmix | apply Ok.cd | apply Ok.skip | apply Ok.exit | apply Ok.ret)
    | simp (disch := first | omega | (simp only [List.length_append, List.length_cons, List.length_nil, List.length_take, List.length_drop, List.length_map, List.length_set]; omega)) only [wlk, ↓get_put', Nat.reduceEqDiff, Nat.reduceLT, ↓reduceIte, Int.reduceToNat, Nat.reducePow, Nat.min_eq_left, Nat.reduceAdd, Nat.reduceMul, Int.reduceAdd, Int.reduceSub, Int.reduceNeg, Int.reduceMul, Int.reduceEq, Int.reduceLT, Int.reduceLE, Nat.reduceSub, Int.reduceNatCast, Nat.reduceLeDiff]
    | (with_reducible (first | apply cd_split | apply gd_split)) <;> (intro hc; (try simp only [Bool.not_eq_true', Bool.not_eq_false'] at hc); (try simp only [hc]); (try simp only [hcl, Int.not_lt, Int.not_le, Nat.not_lt, Nat.not_le] at hc); try omega))
  refine CL.mk (parse_ok hpl1 hf4) ?_
  rintro _ h5 ⟨va, rfl, ma, s5⟩
  rw [hpp1] at ma
  rw [hpp1]
  have hf5 := s5.fl hf4
  repeat' (first
    | with_reducible (first | apply Ok.sq | apply Ok.block | apply Ok.rg | apply Ok.dw hmix | apply Ok.cd | apply Ok.skip | apply Ok.exit | apply Ok.ret)
    | simp (disch := first | omega | (simp only [List.length_append, List.length_cons, List.length_nil, List.length_take, List.length_drop, List.length_map, List.length_set]; omega)) only [wlk, ↓get_put', Nat.reduceEqDiff, Nat.reduceLT, ↓reduceIte, Int.reduceToNat, Nat.reducePow, Nat.min_eq_left, Nat.reduceAdd, Nat.reduceMul, Int.reduceAdd, Int.reduceSub, Int.reduceNeg, Int.reduceMul, Int.reduceEq, Int.reduceLT, Int.reduceLE, Nat.reduceSub, Int.reduceNatCast, Nat.reduceLeDiff]
    | (with_reducible (first | apply cd_split | apply gd_split)) <;> (intro hc; (try simp only [Bool.not_eq_true', Bool.not_eq_false'] at hc); (try simp only [hc]); (try simp only [hcl, Int.not_lt, Int.not_le, Nat.not_lt, Nat.not_le] at hc); try omega))
  refine AL.own (by simp) hf5 fun h6 s6 n6 o6 => ?_
  repeat' (first
    | with_reducible (first | apply Ok.sq | apply Ok.block | apply Ok.rg | apply Ok.dw hmix | apply Ok.cd | apply Ok.skip | apply Ok.exit | apply Ok.ret)
    | simp (disch := first | omega | (simp only [List.length_append, List.length_cons, List.length_nil, List.length_take, List.length_drop, List.length_map, List.length_set]; omega)) only [wlk, ↓get_put', Nat.reduceEqDiff, Nat.reduceLT, ↓reduceIte, Int.reduceToNat, Nat.reducePow, Nat.min_eq_left, Nat.reduceAdd, Nat.reduceMul, Int.reduceAdd, Int.reduceSub, Int.reduceNeg, Int.reduceMul, Int.reduceEq, Int.reduceLT, Int.reduceLE, Nat.reduceSub, Int.reduceNatCast, Nat.reduceLeDiff]
    | (with_reducible (first | apply cd_split | apply gd_split)) <;> (intro hc; (try simp only [Bool.not_eq_true', Bool.not_eq_false'] at hc); (try simp only [hc]); (try simp only [hcl, Int.not_lt, Int.not_le, Nat.not_lt, Nat.not_le] at hc); try omega))
  refine ST.own (y := va) o6 rfl (mx_one ma).2 (by omega) (by omega) fun h7 o7 s7 => ?_
  have s57 : Stay nowhere h5 h7 := s6.past' s7 fun i e => by rw [e]; exact Nat.le_refl _
  have s37 := (s4.trans s5).trans s57
  have hf7 := s57.fl hf5
  have ma7 := ma.grow s57
  have hM7 := hM3.grow s37
  have hR7 := hR3.grow s37
  have o37 := o3.stay s37 fun h => h
  have o77 := o7
  have hML := hM7
  repeat' (first
    | with_reducible (first | apply Ok.sq | apply Ok.block | apply Ok.rg | apply Ok.dw hmix | apply Ok.cd | apply Ok.skip | apply Ok.exit | apply Ok.ret)
    | simp (disch := first | omega | (simp only [List.length_append, List.length_cons, List.length_nil, List.length_take, List.length_drop, List.length_map, List.length_set]; omega)) only [wlk, ↓get_put', Nat.reduceEqDiff, Nat.reduceLT, ↓reduceIte, Int.reduceToNat, Nat.reducePow, Nat.min_eq_left, Nat.reduceAdd, Nat.reduceMul, Int.reduceAdd, Int.reduceSub, Int.reduceNeg, Int.reduceMul, Int.reduceEq, Int.reduceLT, Int.reduceLE, Nat.reduceSub, Int.reduceNatCast, Nat.reduceLeDiff]
    | (with_reducible (first | apply cd_split | apply gd_split)) <;> (intro hc; (try simp only [Bool.not_eq_true', Bool.not_eq_false'] at hc); (try simp only [hc]); (try simp only [hcl, Int.not_lt, Int.not_le, Nat.not_lt, Nat.not_le] at hc); try omega))
  refine Ok.lp (fun m t g => ∃ i : Nat, i ≤ M.length ∧ m = M.length - i ∧ Stay nowhere h7 g ∧ get 1 t = u ∧ get 2 t = .p h.next 0 0 1 ∧ get 5 t = .p h5.next 0 0 1 ∧ get 6 t = .i .i64 0 ∧ get 7 t = sv (txt (fun i => namU M R i M.length) i) ∧ get 8 t = .i .i64 ((i * M.length : Nat) : Int) ∧ get 9 t = .i .i64 (i : Int)) M.length ?_ ?_
  · simp (disch := first | omega | (simp only [List.length_append, List.length_cons, List.length_nil, List.length_take, List.length_drop, List.length_map, List.length_set]; omega)) only [wlk, ↓get_put', Nat.reduceEqDiff, Nat.reduceLT, ↓reduceIte, Int.reduceToNat, Nat.reducePow, Nat.min_eq_left, Nat.reduceAdd, Nat.reduceMul, Int.reduceAdd, Int.reduceSub, Int.reduceNeg, Int.reduceMul, Int.reduceEq, Int.reduceLT, Int.reduceLE, Nat.reduceSub, Int.reduceNatCast, Nat.reduceLeDiff]
    exact ⟨0, by omega, rfl, Stay.refl _ _, by trivial, by trivial, by trivial, by trivial, rfl, by simp, rfl⟩
  rintro I hI m t g ⟨i, hi, rfl, st, f1, f2, f5, f6, f7, f8, f9⟩
  have hMg : MA h7 v M g := ⟨hM7, st⟩
  have og := o37.stay st fun h => h
  have hfg := st.fl hf7
  have htl := txt_len (N := fun i => namU M R i M.length) i (fun j hj => by have := namU_len M R j M.length; omega)
  by_cases hin : i < M.length
  case neg =>
    obtain rfl : i = M.length := by omega
    have hpp2 : parseP (txt (fun i => namU M R i M.length) M.length) = (M, 0) := parse_back hck _ (fun i hi => namU_ok hck R hi) fun i c hi hc => namU_cov hck R hi hc
    have ogA := o77.stay st fun h => h
    repeat' (first
      | with_reducible (first | apply Ok.sq | apply Ok.block | apply Ok.rg | apply Ok.dw hmix | apply Ok.cd | apply Ok.skip | apply Ok.exit | apply Ok.ret)
      | simp (disch := first | omega | (simp only [List.length_append, List.length_cons, List.length_nil, List.length_take, List.length_drop, List.length_map, List.length_set]; omega)) only [wlk, ↓get_put', Nat.reduceEqDiff, Nat.reduceLT, ↓reduceIte, Int.reduceToNat, Nat.reducePow, Nat.min_eq_left, Nat.reduceAdd, Nat.reduceMul, Int.reduceAdd, Int.reduceSub, Int.reduceNeg, Int.reduceMul, Int.reduceEq, Int.reduceLT, Int.reduceLE, Nat.reduceSub, Int.reduceNatCast, Nat.reduceLeDiff, f1, f2, f5, f6, f7, f8, f9, og.row.l1, hMg.ln]
      | (with_reducible (first | apply cd_split | apply gd_split)) <;> (intro hc; (try simp only [Bool.not_eq_true', Bool.not_eq_false'] at hc); (try simp only [hc]); (try simp only [hcl, Int.not_lt, Int.not_le, Nat.not_lt, Nat.not_le] at hc); try omega))
    refine CL.mk (parse_ok (by omega) hfg) ?_
    rintro _ g1 ⟨vb, rfl, mb, t1⟩
    rw [hpp2] at mb
    rw [hpp2]
    have hg1 := t1.fl hfg
    repeat' (first
      | with_reducible (first | apply Ok.sq | apply Ok.block | apply Ok.rg | apply Ok.dw hmix | apply Ok.cd | apply Ok.skip | apply Ok.exit | apply Ok.ret)
      | simp (disch := first | omega | (simp only [List.length_append, List.length_cons, List.length_nil, List.length_take, List.length_drop, List.length_map, List.length_set]; omega)) only [wlk, ↓get_put', Nat.reduceEqDiff, Nat.reduceLT, ↓reduceIte, Int.reduceToNat, Nat.reducePow, Nat.min_eq_left, Nat.reduceAdd, Nat.reduceMul, Int.reduceAdd, Int.reduceSub, Int.reduceNeg, Int.reduceMul, Int.reduceEq, Int.reduceLT, Int.reduceLE, Nat.reduceSub, Int.reduceNatCast, Nat.reduceLeDiff]
      | (with_reducible (first | apply cd_split | apply gd_split)) <;> (intro hc; (try simp only [Bool.not_eq_true', Bool.not_eq_false'] at hc); (try simp only [hc]); (try simp only [hcl, Int.not_lt, Int.not_le, Nat.not_lt, Nat.not_le] at hc); try omega))
    refine AL.own (by simp) hg1 fun g2 t2 m2 p2 => ?_
    repeat' (first
      | with_reducible (first | apply Ok.sq | apply Ok.block | apply Ok.rg | apply Ok.dw hmix | apply Ok.cd | apply Ok.skip | apply Ok.exit | apply Ok.ret)
      | simp (disch := first | omega | (simp only [List.length_append, List.length_cons, List.length_nil, List.length_take, List.length_drop, List.length_map, List.length_set]; omega)) only [wlk, ↓get_put', Nat.reduceEqDiff, Nat.reduceLT, ↓reduceIte, Int.reduceToNat, Nat.reducePow, Nat.min_eq_left, Nat.reduceAdd, Nat.reduceMul, Int.reduceAdd, Int.reduceSub, Int.reduceNeg, Int.reduceMul, Int.reduceEq, Int.reduceLT, Int.reduceLE, Nat.reduceSub, Int.reduceNatCast, Nat.reduceLeDiff]
      | (with_reducible (first | apply cd_split | apply gd_split)) <;> (intro hc; (try simp only [Bool.not_eq_true', Bool.not_eq_false'] at hc); (try simp only [hc]); (try simp only [hcl, Int.not_lt, Int.not_le, Nat.not_lt, Nat.not_le] at hc); try omega))
    refine ST.own (y := vb) p2 rfl (mx_one mb).2 (by omega) (by omega) fun g3 p3 t3 => ?_
    have t13 : Stay nowhere g1 g3 := t2.past' t3 fun i e => by rw [e]; exact Nat.le_refl _
    have tg3 := t1.trans t13
    have hg3 := t13.fl hg1
    have og3 := og.stay tg3 fun h => h
    have ogA3 := ogA.stay tg3 fun h => h
    have ma3 := (ma7.grow st).grow tg3
    have hM3' := hMg.mg.grow tg3
    have hdM : decide (M = M) = true := decide_eq_true rfl
    repeat' (first
      | with_reducible (first | apply Ok.sq | apply Ok.block | apply Ok.rg | apply Ok.dw hmix | apply Ok.cd | apply Ok.skip | apply Ok.exit | apply Ok.ret)
      | simp (disch := first | omega | (simp only [List.length_append, List.length_cons, List.length_nil, List.length_take, List.length_drop, List.length_map, List.length_set]; omega)) only [wlk, ↓get_put', Nat.reduceEqDiff, Nat.reduceLT, ↓reduceIte, Int.reduceToNat, Nat.reducePow, Nat.min_eq_left, Nat.reduceAdd, Nat.reduceMul, Int.reduceAdd, Int.reduceSub, Int.reduceNeg, Int.reduceMul, Int.reduceEq, Int.reduceLT, Int.reduceLE, Nat.reduceSub, Int.reduceNatCast, Nat.reduceLeDiff, f1, f2, f5, f6, f7, f8, f9, og3.row.ln, ogA3.row.ln]
      | (with_reducible (first | apply cd_split | apply gd_split)) <;> (intro hc; (try simp only [Bool.not_eq_true', Bool.not_eq_false'] at hc); (try simp only [hc]); (try simp only [hcl, Int.not_lt, Int.not_le, Nat.not_lt, Nat.not_le] at hc); try omega))
    refine CL.stay (rsame_ok ma3 hM3' hs hs hq0 hq0 hg3) fun g4 t4 => ?_
    rw [hdM]
    have hg4 := t4.fl hg3
    have og4 := og3.stay t4 fun h => h
    have p4 := p3.stay t4 fun h => h
    repeat' (first
      | with_reducible (first | apply Ok.sq | apply Ok.block | apply Ok.rg | apply Ok.dw hmix | apply Ok.cd | apply Ok.skip | apply Ok.exit | apply Ok.ret)
      | simp (disch := first | omega | (simp only [List.length_append, List.length_cons, List.length_nil, List.length_take, List.length_drop, List.length_map, List.length_set]; omega)) only [wlk, ↓get_put', Nat.reduceEqDiff, Nat.reduceLT, ↓reduceIte, Int.reduceToNat, Nat.reducePow, Nat.min_eq_left, Nat.reduceAdd, Nat.reduceMul, Int.reduceAdd, Int.reduceSub, Int.reduceNeg, Int.reduceMul, Int.reduceEq, Int.reduceLT, Int.reduceLE, Nat.reduceSub, Int.reduceNatCast, Nat.reduceLeDiff, f1, f2, f5, f6, f7, f8, f9, og4.row.ln, p4.row.ln]
      | (with_reducible (first | apply cd_split | apply gd_split)) <;> (intro hc; (try simp only [Bool.not_eq_true', Bool.not_eq_false'] at hc); (try simp only [hc]); (try simp only [hcl, Int.not_lt, Int.not_le, Nat.not_lt, Nat.not_le] at hc); try omega))
    refine CL.stay (rsame_ok ((mb.grow t13).grow t4) (hM3'.grow t4) hs hs hq0 hq0 hg4) fun g5 t5 => ?_
    rw [hdM]
    repeat' (first
      | with_reducible (first | apply Ok.sq | apply Ok.block | apply Ok.rg | apply Ok.dw hmix | apply Ok.cd | apply Ok.skip | apply Ok.exit | apply Ok.ret)
      | simp (disch := first | omega | (simp only [List.length_append, List.length_cons, List.length_nil, List.length_take, List.length_drop, List.length_map, List.length_set]; omega)) only [wlk, ↓get_put', Nat.reduceEqDiff, Nat.reduceLT, ↓reduceIte, Int.reduceToNat, Nat.reducePow, Nat.min_eq_left, Nat.reduceAdd, Nat.reduceMul, Int.reduceAdd, Int.reduceSub, Int.reduceNeg, Int.reduceMul, Int.reduceEq, Int.reduceLT, Int.reduceLE, Nat.reduceSub, Int.reduceNatCast, Nat.reduceLeDiff]
      | (with_reducible (first | apply cd_split | apply gd_split)) <;> (intro hc; (try simp only [Bool.not_eq_true', Bool.not_eq_false'] at hc); (try simp only [hc]); (try simp only [hcl, Int.not_lt, Int.not_le, Nat.not_lt, Nat.not_le] at hc); try omega))
    subst hQ
    rfl
  repeat' (first
    | with_reducible (first | apply Ok.sq | apply Ok.block | apply Ok.rg | apply Ok.dw hmix | apply Ok.cd | apply Ok.skip | apply Ok.exit | apply Ok.ret)
    | simp (disch := first | omega | (simp only [List.length_append, List.length_cons, List.length_nil, List.length_take, List.length_drop, List.length_map, List.length_set]; omega)) only [wlk, ↓get_put', Nat.reduceEqDiff, Nat.reduceLT, ↓reduceIte, Int.reduceToNat, Nat.reducePow, Nat.min_eq_left, Nat.reduceAdd, Nat.reduceMul, Int.reduceAdd, Int.reduceSub, Int.reduceNeg, Int.reduceMul, Int.reduceEq, Int.reduceLT, Int.reduceLE, Nat.reduceSub, Int.reduceNatCast, Nat.reduceLeDiff, f1, f2, f5, f6, f7, f8, f9, og.row.l1, og.row.ln, hMg.ln]
    | (with_reducible (first | apply cd_split | apply gd_split)) <;> (intro hc; (try simp only [Bool.not_eq_true', Bool.not_eq_false'] at hc); (try simp only [hc]); (try simp only [hcl, Int.not_lt, Int.not_le, Nat.not_lt, Nat.not_le] at hc); try omega))
  refine CL.mk (rcovers_ok hMg.mg hs hq0 hfg (i : Int)) ?_
  rintro c g1 ⟨hc1, t1⟩
  have hg1 := t1.fl hfg
  have og1 := og.stay t1 fun h => h
  have hC : Il g1 c (coversL M (i : Int)) := hc1.lst
  repeat' (first
    | with_reducible (first | apply Ok.sq | apply Ok.block | apply Ok.rg | apply Ok.dw hmix | apply Ok.cd | apply Ok.skip | apply Ok.exit | apply Ok.ret)
    | simp (disch := first | omega | (simp only [List.length_append, List.length_cons, List.length_nil, List.length_take, List.length_drop, List.length_map, List.length_set]; omega)) only [wlk, ↓get_put', Nat.reduceEqDiff, Nat.reduceLT, ↓reduceIte, Int.reduceToNat, Nat.reducePow, Nat.min_eq_left, Nat.reduceAdd, Nat.reduceMul, Int.reduceAdd, Int.reduceSub, Int.reduceNeg, Int.reduceMul, Int.reduceEq, Int.reduceLT, Int.reduceLE, Nat.reduceSub, Int.reduceNatCast, Nat.reduceLeDiff, f7, f9]
    | (with_reducible (first | apply cd_split | apply gd_split)) <;> (intro hc; (try simp only [Bool.not_eq_true', Bool.not_eq_false'] at hc); (try simp only [hc]); (try simp only [hcl, Int.not_lt, Int.not_le, Nat.not_lt, Nat.not_le] at hc); try omega))
  refine CL.pure (name_ok (i : Int)) ?_
  have hnl := nameB_len (i : Int)
  repeat' (first
    | with_reducible (first | apply Ok.sq | apply Ok.block | apply Ok.rg | apply Ok.dw hmix | apply Ok.cd | apply Ok.skip | apply Ok.exit | apply Ok.ret)
    | simp (disch := first | omega | (simp only [List.length_append, List.length_cons, List.length_nil, List.length_take, List.length_drop, List.length_map, List.length_set]; omega)) only [wlk, ↓get_put', Nat.reduceEqDiff, Nat.reduceLT, ↓reduceIte, Int.reduceToNat, Nat.reducePow, Nat.min_eq_left, Nat.reduceAdd, Nat.reduceMul, Int.reduceAdd, Int.reduceSub, Int.reduceNeg, Int.reduceMul, Int.reduceEq, Int.reduceLT, Int.reduceLE, Nat.reduceSub, Int.reduceNatCast, Nat.reduceLeDiff, f1, f2, f5, f6, f7, f8, f9, og1.row.l1, (hMg.grow t1).ln]
    | (with_reducible (first | apply cd_split | apply gd_split)) <;> (intro hc; (try simp only [Bool.not_eq_true', Bool.not_eq_false'] at hc); (try simp only [hc]); (try simp only [hcl, Int.not_lt, Int.not_le, Nat.not_lt, Nat.not_le] at hc); try omega))
  have hnm := nameB_nm (k := i) (by omega)
  have hl0 : ∀ q, (lineT i (namU M R i q)).length ≤ 8 := fun q => by
    have h1 : (lineT i (namU M R i q)).length = 2 + (namU M R i q).length := by unfold lineT; simp; omega
    have := namU_len M R i q; omega
  have him : i * M.length + M.length = (i + 1) * M.length := (Nat.succ_mul i M.length).symm
  have him2 : i * M.length ≤ 36 := by have := Nat.mul_le_mul (show i ≤ 6 by omega) q2; omega
  refine Ok.lp (fun m t g' => ∃ q : Nat, q ≤ M.length ∧ m = M.length - q ∧ Stay nowhere g1 g' ∧ get 1 t = u ∧ get 2 t = .p h.next 0 0 1 ∧ get 5 t = .p h5.next 0 0 1 ∧ get 6 t = .i .i64 0 ∧ get 7 t = sv (txt (fun i => namU M R i M.length) i ++ lineT i (namU M R i q)) ∧ get 8 t = .i .i64 ((i * M.length + q : Nat) : Int) ∧ get 9 t = .i .i64 (i : Int) ∧ get 10 t = c ∧ get 11 t = .i .i64 ((M.length : Int) - 1 - (q : Int))) M.length ?_ ?_
  · simp (disch := first | omega | (simp only [List.length_append, List.length_cons, List.length_nil, List.length_take, List.length_drop, List.length_map, List.length_set]; omega)) only [wlk, ↓get_put', Nat.reduceEqDiff, Nat.reduceLT, ↓reduceIte, Int.reduceToNat, Nat.reducePow, Nat.min_eq_left, Nat.reduceAdd, Nat.reduceMul, Int.reduceAdd, Int.reduceSub, Int.reduceNeg, Int.reduceMul, Int.reduceEq, Int.reduceLT, Int.reduceLE, Nat.reduceSub, Int.reduceNatCast, Nat.reduceLeDiff, f1, f2, f5, f6, f8, f9]
    refine ⟨0, by omega, rfl, Stay.refl _ _, by trivial, by trivial, by trivial, by trivial, ?_, by simp, by trivial, by trivial, by simp⟩
    rw [hnm, List.append_assoc]
    rfl
  clear f1 f2 f5 f6 f7 f8 f9
  rintro J hJ m t g2 ⟨q, hq, rfl, st2, f1, f2, f5, f6, f7, f8, f9, f10, f11⟩
  have hMg2 := (hMg.grow t1).grow st2
  have og2 := og1.stay st2 fun h => h
  have hg2 := st2.fl hg1
  have hlq := hl0 q
  by_cases hqn : q < M.length
  case neg =>
    obtain rfl : q = M.length := by omega
    repeat' (first
      | with_reducible (first | apply Ok.sq | apply Ok.block | apply Ok.rg | apply Ok.dw hmix | apply Ok.cd | apply Ok.skip | apply Ok.exit | apply Ok.ret)
      | simp (disch := first | omega | (simp only [List.length_append, List.length_cons, List.length_nil, List.length_take, List.length_drop, List.length_map, List.length_set]; omega)) only [wlk, ↓get_put', Nat.reduceEqDiff, Nat.reduceLT, ↓reduceIte, Int.reduceToNat, Nat.reducePow, Nat.min_eq_left, Nat.reduceAdd, Nat.reduceMul, Int.reduceAdd, Int.reduceSub, Int.reduceNeg, Int.reduceMul, Int.reduceEq, Int.reduceLT, Int.reduceLE, Nat.reduceSub, Int.reduceNatCast, Nat.reduceLeDiff, f7, f9, f11]
      | (with_reducible (first | apply cd_split | apply gd_split)) <;> (intro hc; (try simp only [Bool.not_eq_true', Bool.not_eq_false'] at hc); (try simp only [hc]); (try simp only [hcl, Int.not_lt, Int.not_le, Nat.not_lt, Nat.not_le] at hc); try omega))
    refine lp_next hI (M.length - (i + 1)) (by omega) ⟨i + 1, by omega, rfl, (st.trans t1).trans st2, ?_, ?_, ?_, ?_, ?_, ?_, ?_⟩
    · simp (disch := first | omega | (simp only [List.length_append, List.length_cons, List.length_nil, List.length_take, List.length_drop, List.length_map, List.length_set]; omega)) only [wlk, ↓get_put', Nat.reduceEqDiff, Nat.reduceLT, ↓reduceIte, Int.reduceToNat, Nat.reducePow, Nat.min_eq_left, Nat.reduceAdd, Nat.reduceMul, Int.reduceAdd, Int.reduceSub, Int.reduceNeg, Int.reduceMul, Int.reduceEq, Int.reduceLT, Int.reduceLE, Nat.reduceSub, Int.reduceNatCast, Nat.reduceLeDiff, f1]
    · simp (disch := first | omega | (simp only [List.length_append, List.length_cons, List.length_nil, List.length_take, List.length_drop, List.length_map, List.length_set]; omega)) only [wlk, ↓get_put', Nat.reduceEqDiff, Nat.reduceLT, ↓reduceIte, Int.reduceToNat, Nat.reducePow, Nat.min_eq_left, Nat.reduceAdd, Nat.reduceMul, Int.reduceAdd, Int.reduceSub, Int.reduceNeg, Int.reduceMul, Int.reduceEq, Int.reduceLT, Int.reduceLE, Nat.reduceSub, Int.reduceNatCast, Nat.reduceLeDiff, f2]
    · simp (disch := first | omega | (simp only [List.length_append, List.length_cons, List.length_nil, List.length_take, List.length_drop, List.length_map, List.length_set]; omega)) only [wlk, ↓get_put', Nat.reduceEqDiff, Nat.reduceLT, ↓reduceIte, Int.reduceToNat, Nat.reducePow, Nat.min_eq_left, Nat.reduceAdd, Nat.reduceMul, Int.reduceAdd, Int.reduceSub, Int.reduceNeg, Int.reduceMul, Int.reduceEq, Int.reduceLT, Int.reduceLE, Nat.reduceSub, Int.reduceNatCast, Nat.reduceLeDiff, f5]
    · simp (disch := first | omega | (simp only [List.length_append, List.length_cons, List.length_nil, List.length_take, List.length_drop, List.length_map, List.length_set]; omega)) only [wlk, ↓get_put', Nat.reduceEqDiff, Nat.reduceLT, ↓reduceIte, Int.reduceToNat, Nat.reducePow, Nat.min_eq_left, Nat.reduceAdd, Nat.reduceMul, Int.reduceAdd, Int.reduceSub, Int.reduceNeg, Int.reduceMul, Int.reduceEq, Int.reduceLT, Int.reduceLE, Nat.reduceSub, Int.reduceNatCast, Nat.reduceLeDiff, f6]
    · simp (disch := first | omega | (simp only [List.length_append, List.length_cons, List.length_nil, List.length_take, List.length_drop, List.length_map, List.length_set]; omega)) only [wlk, ↓get_put', Nat.reduceEqDiff, Nat.reduceLT, ↓reduceIte, Int.reduceToNat, Nat.reducePow, Nat.min_eq_left, Nat.reduceAdd, Nat.reduceMul, Int.reduceAdd, Int.reduceSub, Int.reduceNeg, Int.reduceMul, Int.reduceEq, Int.reduceLT, Int.reduceLE, Nat.reduceSub, Int.reduceNatCast, Nat.reduceLeDiff]
      rw [txt, List.append_assoc]; rfl
    · simp (disch := first | omega | (simp only [List.length_append, List.length_cons, List.length_nil, List.length_take, List.length_drop, List.length_map, List.length_set]; omega)) only [wlk, ↓get_put', Nat.reduceEqDiff, Nat.reduceLT, ↓reduceIte, Int.reduceToNat, Nat.reducePow, Nat.min_eq_left, Nat.reduceAdd, Nat.reduceMul, Int.reduceAdd, Int.reduceSub, Int.reduceNeg, Int.reduceMul, Int.reduceEq, Int.reduceLT, Int.reduceLE, Nat.reduceSub, Int.reduceNatCast, Nat.reduceLeDiff, f8, him]
    · simp (disch := first | omega | (simp only [List.length_append, List.length_cons, List.length_nil, List.length_take, List.length_drop, List.length_map, List.length_set]; omega)) only [wlk, ↓get_put', Nat.reduceEqDiff, Nat.reduceLT, ↓reduceIte, Int.reduceToNat, Nat.reducePow, Nat.min_eq_left, Nat.reduceAdd, Nat.reduceMul, Int.reduceAdd, Int.reduceSub, Int.reduceNeg, Int.reduceMul, Int.reduceEq, Int.reduceLT, Int.reduceLE, Nat.reduceSub, Int.reduceNatCast, Nat.reduceLeDiff]; rfl
  obtain ⟨kk, hkk⟩ : ∃ kk : Nat, kk = M.length - 1 - q := ⟨_, rfl⟩
  have hki : (M.length : Int) - 1 - (q : Int) = (kk : Int) := by omega
  rw [hki] at f11
  have hkn : kk < M.length := by omega
  have hCl := covers_lenM M (i : Int)
  have hCg := hC.grow st2
  repeat' (first
    | with_reducible (first | apply Ok.sq | apply Ok.block | apply Ok.rg | apply Ok.dw hmix | apply Ok.cd | apply Ok.skip | apply Ok.exit | apply Ok.ret)
    | simp (disch := first | omega | (simp only [List.length_append, List.length_cons, List.length_nil, List.length_take, List.length_drop, List.length_map, List.length_set]; omega)) only [wlk, ↓get_put', Nat.reduceEqDiff, Nat.reduceLT, ↓reduceIte, Int.reduceToNat, Nat.reducePow, Nat.min_eq_left, Nat.reduceAdd, Nat.reduceMul, Int.reduceAdd, Int.reduceSub, Int.reduceNeg, Int.reduceMul, Int.reduceEq, Int.reduceLT, Int.reduceLE, Nat.reduceSub, Int.reduceNatCast, Nat.reduceLeDiff, f11]
    | (with_reducible (first | apply cd_split | apply gd_split)) <;> (intro hc; (try simp only [Bool.not_eq_true', Bool.not_eq_false'] at hc); (try simp only [hc]); (try simp only [hcl, Int.not_lt, Int.not_le, Nat.not_lt, Nat.not_le] at hc); try omega))
  refine Ok.lp (fun m t g' => ∃ j : Nat, j ≤ (coversL M (i : Int)).length ∧ m = (coversL M (i : Int)).length - j ∧ g2 = g' ∧ get 1 t = u ∧ get 2 t = .p h.next 0 0 1 ∧ get 5 t = .p h5.next 0 0 1 ∧ get 6 t = .i .i64 0 ∧ get 7 t = sv (txt (fun i => namU M R i M.length) i ++ lineT i (namU M R i q)) ∧ get 8 t = .i .i64 ((i * M.length + q : Nat) : Int) ∧ get 9 t = .i .i64 (i : Int) ∧ get 10 t = c ∧ get 11 t = .i .i64 (kk : Int) ∧ get 12 t = .b (decide ((kk : Int) ∈ (coversL M (i : Int)).take j)) ∧ get 13 t = .i .i64 (j : Int)) (coversL M (i : Int)).length ?_ ?_
  · simp (disch := first | omega | (simp only [List.length_append, List.length_cons, List.length_nil, List.length_take, List.length_drop, List.length_map, List.length_set]; omega)) only [wlk, ↓get_put', Nat.reduceEqDiff, Nat.reduceLT, ↓reduceIte, Int.reduceToNat, Nat.reducePow, Nat.min_eq_left, Nat.reduceAdd, Nat.reduceMul, Int.reduceAdd, Int.reduceSub, Int.reduceNeg, Int.reduceMul, Int.reduceEq, Int.reduceLT, Int.reduceLE, Nat.reduceSub, Int.reduceNatCast, Nat.reduceLeDiff, f1, f2, f5, f6, f7, f8, f9, f10, f11]
    exact ⟨0, by omega, rfl, by trivial, by trivial, by trivial, by trivial, by trivial, by trivial, by trivial, by trivial, by trivial, by trivial, by simp, rfl⟩
  clear f1 f2 f5 f6 f7 f8 f9 f10 f11
  rintro K hK m t _ ⟨j, hj, rfl, rfl, f1, f2, f5, f6, f7, f8, f9, f10, f11, f12, f13⟩
  by_cases hjn : j < (coversL M (i : Int)).length
  case pos =>
    have htk : (coversL M (i : Int)).take (j + 1) = (coversL M (i : Int)).take j ++ [(coversL M (i : Int)).getD j 0] := by
      rw [List.take_succ_eq_append_getElem hjn]; simp [List.getD, hjn]
    have hdec : decide ((kk : Int) ∈ (coversL M (i : Int)).take (j + 1)) = (decide ((kk : Int) ∈ (coversL M (i : Int)).take j) || decide ((coversL M (i : Int)).getD j 0 = (kk : Int))) := by
      rw [htk]
      by_cases e1 : (kk : Int) ∈ (coversL M (i : Int)).take j
      · rw [decide_eq_true e1, decide_eq_true (List.mem_append.2 (.inl e1))]; rfl
      · rw [decide_eq_false e1, Bool.false_or, decide_eq_decide, List.mem_append, List.mem_singleton]
        constructor
        · rintro (e | e)
          · exact absurd e e1
          · exact e.symm
        · intro e; exact .inr e.symm
    cases d : decide ((kk : Int) ∈ (coversL M (i : Int)).take j) with
    | true =>
      rw [d] at f12 hdec
      repeat' (first
        | with_reducible (first | apply Ok.sq | apply Ok.block | apply Ok.rg | apply Ok.dw hmix | apply Ok.cd | apply Ok.skip | apply Ok.exit | apply Ok.ret)
        | simp (disch := first | omega | (simp only [List.length_append, List.length_cons, List.length_nil, List.length_take, List.length_drop, List.length_map, List.length_set]; omega)) only [wlk, ↓get_put', Nat.reduceEqDiff, Nat.reduceLT, ↓reduceIte, Int.reduceToNat, Nat.reducePow, Nat.min_eq_left, Nat.reduceAdd, Nat.reduceMul, Int.reduceAdd, Int.reduceSub, Int.reduceNeg, Int.reduceMul, Int.reduceEq, Int.reduceLT, Int.reduceLE, Nat.reduceSub, Int.reduceNatCast, Nat.reduceLeDiff, f10, f11, f12, f13, hCg.ln, hCg.ix, hCg.ld, Int.toNat_natCast]
        | (with_reducible (first | apply cd_split | apply gd_split)) <;> (intro hc; (try simp only [Bool.not_eq_true', Bool.not_eq_false'] at hc); (try simp only [hc]); (try simp only [hcl, Int.not_lt, Int.not_le, Nat.not_lt, Nat.not_le] at hc); try omega))
      refine lp_next hK ((coversL M (i : Int)).length - (j + 1)) (by omega) ⟨j + 1, by omega, rfl, rfl, ?_, ?_, ?_, ?_, ?_, ?_, ?_, ?_, ?_, ?_, ?_⟩
      all_goals (simp (disch := first | omega | (simp only [List.length_append, List.length_cons, List.length_nil, List.length_take, List.length_drop, List.length_map, List.length_set]; omega)) only [wlk, ↓get_put', Nat.reduceEqDiff, Nat.reduceLT, ↓reduceIte, Int.reduceToNat, Nat.reducePow, Nat.min_eq_left, Nat.reduceAdd, Nat.reduceMul, Int.reduceAdd, Int.reduceSub, Int.reduceNeg, Int.reduceMul, Int.reduceEq, Int.reduceLT, Int.reduceLE, Nat.reduceSub, Int.reduceNatCast, Nat.reduceLeDiff, f1, f2, f5, f6, f7, f8, f9, f10, f11, hdec]; try rfl)
    | false =>
      rw [d] at f12 hdec
      repeat' (first
        | with_reducible (first | apply Ok.sq | apply Ok.block | apply Ok.rg | apply Ok.dw hmix | apply Ok.cd | apply Ok.skip | apply Ok.exit | apply Ok.ret)
        | simp (disch := first | omega | (simp only [List.length_append, List.length_cons, List.length_nil, List.length_take, List.length_drop, List.length_map, List.length_set]; omega)) only [wlk, ↓get_put', Nat.reduceEqDiff, Nat.reduceLT, ↓reduceIte, Int.reduceToNat, Nat.reducePow, Nat.min_eq_left, Nat.reduceAdd, Nat.reduceMul, Int.reduceAdd, Int.reduceSub, Int.reduceNeg, Int.reduceMul, Int.reduceEq, Int.reduceLT, Int.reduceLE, Nat.reduceSub, Int.reduceNatCast, Nat.reduceLeDiff, f10, f11, f12, f13, hCg.ln, hCg.ix, hCg.ld, Int.toNat_natCast]
        | (with_reducible (first | apply cd_split | apply gd_split)) <;> (intro hc; (try simp only [Bool.not_eq_true', Bool.not_eq_false'] at hc); (try simp only [hc]); (try simp only [hcl, Int.not_lt, Int.not_le, Nat.not_lt, Nat.not_le] at hc); try omega))
      refine lp_next hK ((coversL M (i : Int)).length - (j + 1)) (by omega) ⟨j + 1, by omega, rfl, rfl, ?_, ?_, ?_, ?_, ?_, ?_, ?_, ?_, ?_, ?_, ?_⟩
      all_goals (simp (disch := first | omega | (simp only [List.length_append, List.length_cons, List.length_nil, List.length_take, List.length_drop, List.length_map, List.length_set]; omega)) only [wlk, ↓get_put', Nat.reduceEqDiff, Nat.reduceLT, ↓reduceIte, Int.reduceToNat, Nat.reducePow, Nat.min_eq_left, Nat.reduceAdd, Nat.reduceMul, Int.reduceAdd, Int.reduceSub, Int.reduceNeg, Int.reduceMul, Int.reduceEq, Int.reduceLT, Int.reduceLE, Nat.reduceSub, Int.reduceNatCast, Nat.reduceLeDiff, f1, f2, f5, f6, f7, f8, f9, f10, f11, hdec, Bool.false_or]; try rfl)
  obtain rfl : j = (coversL M (i : Int)).length := by omega
  rw [List.take_length] at f12
  repeat' (first
    | with_reducible (first | apply Ok.sq | apply Ok.block | apply Ok.rg | apply Ok.dw hmix | apply Ok.cd | apply Ok.skip | apply Ok.exit | apply Ok.ret)
    | simp (disch := first | omega | (simp only [List.length_append, List.length_cons, List.length_nil, List.length_take, List.length_drop, List.length_map, List.length_set]; omega)) only [wlk, ↓get_put', Nat.reduceEqDiff, Nat.reduceLT, ↓reduceIte, Int.reduceToNat, Nat.reducePow, Nat.min_eq_left, Nat.reduceAdd, Nat.reduceMul, Int.reduceAdd, Int.reduceSub, Int.reduceNeg, Int.reduceMul, Int.reduceEq, Int.reduceLT, Int.reduceLE, Nat.reduceSub, Int.reduceNatCast, Nat.reduceLeDiff, f10, f13, f2, f9, f11, hCg.ln, og2.row.ln]
    | (with_reducible (first | apply cd_split | apply gd_split)) <;> (intro hc; (try simp only [Bool.not_eq_true', Bool.not_eq_false'] at hc); (try simp only [hc]); (try simp only [hcl, Int.not_lt, Int.not_le, Nat.not_lt, Nat.not_le] at hc); try omega))
  refine CL.stay (rabove_ok hMg2.mg hs hq0 hg2 (i : Int) (kk : Int)) fun g3 t3 => ?_
  have hRg3 := ((hR7.grow st).grow ((t1.trans st2).trans t3))
  have hsu := namU_succ (M := M) (R := R) (i := i) hqn
  rw [← hkk] at hsu
  have hsel : sel M R i kk = (aboveB M (i : Int) (kk : Int) && (decide ((kk : Int) ∈ coversL M (i : Int)) || R.getD (i * M.length + q) false)) := by
    unfold sel
    rw [show M.length - 1 - kk = q by omega]
  have nxt : ∀ t, get 1 t = u → get 2 t = .p h.next 0 0 1 → get 5 t = .p h5.next 0 0 1 → get 6 t = .i .i64 0 → get 7 t = sv (txt (fun i => namU M R i M.length) i ++ lineT i (namU M R i (q + 1))) → get 8 t = .i .i64 ((i * M.length + (q + 1) : Nat) : Int) → get 9 t = .i .i64 (i : Int) → get 10 t = c → get 11 t = .i .i64 ((kk : Int) - 1) → LpG J (M.length - q) t g3 := fun t e1 e2 e5 e6 e7 e8 e9 e10 e11 =>
    lp_next hJ (M.length - (q + 1)) (by omega) ⟨q + 1, by omega, rfl, st2.trans t3, e1, e2, e5, e6, e7, e8, e9, e10, by rw [e11]; congr 1; omega⟩
  have plain : sel M R i kk = false → lineT i (namU M R i (q + 1)) = lineT i (namU M R i q) := fun e => by rw [hsu, e]; simp
  have more : sel M R i kk = true → lineT i (namU M R i (q + 1)) = lineT i (namU M R i q) ++ nameB (kk : Int) := fun e => by rw [hsu, e, nameB_nm (by omega)]; unfold lineT; simp
  cases dA : aboveB M (i : Int) (kk : Int) with
  | false =>
    have hs0 := hsel
    rw [dA, Bool.false_and] at hs0
    have hp := plain hs0
    repeat' (first
      | with_reducible (first | apply Ok.sq | apply Ok.block | apply Ok.rg | apply Ok.dw hmix | apply Ok.cd | apply Ok.skip | apply Ok.exit | apply Ok.ret)
      | simp (disch := first | omega | (simp only [List.length_append, List.length_cons, List.length_nil, List.length_take, List.length_drop, List.length_map, List.length_set]; omega)) only [wlk, ↓get_put', Nat.reduceEqDiff, Nat.reduceLT, ↓reduceIte, Int.reduceToNat, Nat.reducePow, Nat.min_eq_left, Nat.reduceAdd, Nat.reduceMul, Int.reduceAdd, Int.reduceSub, Int.reduceNeg, Int.reduceMul, Int.reduceEq, Int.reduceLT, Int.reduceLE, Nat.reduceSub, Int.reduceNatCast, Nat.reduceLeDiff, f1, f7, f8, f11, f12]
      | (with_reducible (first | apply cd_split | apply gd_split)) <;> (intro hc; (try simp only [Bool.not_eq_true', Bool.not_eq_false'] at hc); (try simp only [hc]); (try simp only [hcl, Int.not_lt, Int.not_le, Nat.not_lt, Nat.not_le] at hc); try omega))
    refine nxt _ ?_ ?_ ?_ ?_ ?_ ?_ ?_ ?_ ?_
    all_goals (simp (disch := first | omega | (simp only [List.length_append, List.length_cons, List.length_nil, List.length_take, List.length_drop, List.length_map, List.length_set]; omega)) only [wlk, ↓get_put', Nat.reduceEqDiff, Nat.reduceLT, ↓reduceIte, Int.reduceToNat, Nat.reducePow, Nat.min_eq_left, Nat.reduceAdd, Nat.reduceMul, Int.reduceAdd, Int.reduceSub, Int.reduceNeg, Int.reduceMul, Int.reduceEq, Int.reduceLT, Int.reduceLE, Nat.reduceSub, Int.reduceNatCast, Nat.reduceLeDiff, f1, f2, f5, f6, f7, f8, f9, f10, hp]; try rfl)
  | true =>
  rw [dA, Bool.true_and] at hsel
  cases dC : decide ((kk : Int) ∈ coversL M (i : Int)) with
  | true =>
    rw [dC] at f12 hsel
    have hp := more hsel
    have hnk := nameB_len (kk : Int)
    repeat' (first
      | with_reducible (first | apply Ok.sq | apply Ok.block | apply Ok.rg | apply Ok.dw hmix | apply Ok.cd | apply Ok.skip | apply Ok.exit | apply Ok.ret)
      | simp (disch := first | omega | (simp only [List.length_append, List.length_cons, List.length_nil, List.length_take, List.length_drop, List.length_map, List.length_set]; omega)) only [wlk, ↓get_put', Nat.reduceEqDiff, Nat.reduceLT, ↓reduceIte, Int.reduceToNat, Nat.reducePow, Nat.min_eq_left, Nat.reduceAdd, Nat.reduceMul, Int.reduceAdd, Int.reduceSub, Int.reduceNeg, Int.reduceMul, Int.reduceEq, Int.reduceLT, Int.reduceLE, Nat.reduceSub, Int.reduceNatCast, Nat.reduceLeDiff, f1, f7, f8, f11, f12]
      | (with_reducible (first | apply cd_split | apply gd_split)) <;> (intro hc; (try simp only [Bool.not_eq_true', Bool.not_eq_false'] at hc); (try simp only [hc]); (try simp only [hcl, Int.not_lt, Int.not_le, Nat.not_lt, Nat.not_le] at hc); try omega))
    refine CL.pure (name_ok (kk : Int)) ?_
    repeat' (first
      | with_reducible (first | apply Ok.sq | apply Ok.block | apply Ok.rg | apply Ok.dw hmix | apply Ok.cd | apply Ok.skip | apply Ok.exit | apply Ok.ret)
      | simp (disch := first | omega | (simp only [List.length_append, List.length_cons, List.length_nil, List.length_take, List.length_drop, List.length_map, List.length_set]; omega)) only [wlk, ↓get_put', Nat.reduceEqDiff, Nat.reduceLT, ↓reduceIte, Int.reduceToNat, Nat.reducePow, Nat.min_eq_left, Nat.reduceAdd, Nat.reduceMul, Int.reduceAdd, Int.reduceSub, Int.reduceNeg, Int.reduceMul, Int.reduceEq, Int.reduceLT, Int.reduceLE, Nat.reduceSub, Int.reduceNatCast, Nat.reduceLeDiff, f1, f7, f8, f11, f12]
      | (with_reducible (first | apply cd_split | apply gd_split)) <;> (intro hc; (try simp only [Bool.not_eq_true', Bool.not_eq_false'] at hc); (try simp only [hc]); (try simp only [hcl, Int.not_lt, Int.not_le, Nat.not_lt, Nat.not_le] at hc); try omega))
    refine nxt _ ?_ ?_ ?_ ?_ ?_ ?_ ?_ ?_ ?_
    all_goals (simp (disch := first | omega | (simp only [List.length_append, List.length_cons, List.length_nil, List.length_take, List.length_drop, List.length_map, List.length_set]; omega)) only [wlk, ↓get_put', Nat.reduceEqDiff, Nat.reduceLT, ↓reduceIte, Int.reduceToNat, Nat.reducePow, Nat.min_eq_left, Nat.reduceAdd, Nat.reduceMul, Int.reduceAdd, Int.reduceSub, Int.reduceNeg, Int.reduceMul, Int.reduceEq, Int.reduceLT, Int.reduceLE, Nat.reduceSub, Int.reduceNatCast, Nat.reduceLeDiff, f1, f2, f5, f6, f7, f8, f9, f10, hp, List.append_assoc]; try rfl)
  | false =>
  rw [dC, Bool.false_or] at hsel
  rw [dC] at f12
  by_cases hat : i * M.length + q < R.length
  case neg =>
    have hR0 : R.getD (i * M.length + q) false = false := by simp [List.getD, List.getElem?_eq_none (by omega : R.length ≤ i * M.length + q)]
    rw [hR0] at hsel
    have hp := plain hsel
    repeat' (first
      | with_reducible (first | apply Ok.sq | apply Ok.block | apply Ok.rg | apply Ok.dw hmix | apply Ok.cd | apply Ok.skip | apply Ok.exit | apply Ok.ret)
      | simp (disch := first | omega | (simp only [List.length_append, List.length_cons, List.length_nil, List.length_take, List.length_drop, List.length_map, List.length_set]; omega)) only [wlk, ↓get_put', Nat.reduceEqDiff, Nat.reduceLT, ↓reduceIte, Int.reduceToNat, Nat.reducePow, Nat.min_eq_left, Nat.reduceAdd, Nat.reduceMul, Int.reduceAdd, Int.reduceSub, Int.reduceNeg, Int.reduceMul, Int.reduceEq, Int.reduceLT, Int.reduceLE, Nat.reduceSub, Int.reduceNatCast, Nat.reduceLeDiff, f1, f7, f8, f11, f12, hRg3.ln]
      | (with_reducible (first | apply cd_split | apply gd_split)) <;> (intro hc; (try simp only [Bool.not_eq_true', Bool.not_eq_false'] at hc); (try simp only [hc]); (try simp only [hcl, Int.not_lt, Int.not_le, Nat.not_lt, Nat.not_le] at hc); try omega))
    refine nxt _ ?_ ?_ ?_ ?_ ?_ ?_ ?_ ?_ ?_
    all_goals (simp (disch := first | omega | (simp only [List.length_append, List.length_cons, List.length_nil, List.length_take, List.length_drop, List.length_map, List.length_set]; omega)) only [wlk, ↓get_put', Nat.reduceEqDiff, Nat.reduceLT, ↓reduceIte, Int.reduceToNat, Nat.reducePow, Nat.min_eq_left, Nat.reduceAdd, Nat.reduceMul, Int.reduceAdd, Int.reduceSub, Int.reduceNeg, Int.reduceMul, Int.reduceEq, Int.reduceLT, Int.reduceLE, Nat.reduceSub, Int.reduceNatCast, Nat.reduceLeDiff, f1, f2, f5, f6, f7, f8, f9, f10, hp]; try rfl)
  cases dR : R.getD (i * M.length + q) false with
  | false =>
    rw [dR] at hsel
    have hp := plain hsel
    repeat' (first
      | with_reducible (first | apply Ok.sq | apply Ok.block | apply Ok.rg | apply Ok.dw hmix | apply Ok.cd | apply Ok.skip | apply Ok.exit | apply Ok.ret)
      | simp (disch := first | omega | (simp only [List.length_append, List.length_cons, List.length_nil, List.length_take, List.length_drop, List.length_map, List.length_set]; omega)) only [wlk, ↓get_put', Nat.reduceEqDiff, Nat.reduceLT, ↓reduceIte, Int.reduceToNat, Nat.reducePow, Nat.min_eq_left, Nat.reduceAdd, Nat.reduceMul, Int.reduceAdd, Int.reduceSub, Int.reduceNeg, Int.reduceMul, Int.reduceEq, Int.reduceLT, Int.reduceLE, Nat.reduceSub, Int.reduceNatCast, Nat.reduceLeDiff, f1, f7, f8, f11, f12, hRg3.ln, hRg3.ix, hRg3.ld, dR, Int.toNat_natCast]
      | (with_reducible (first | apply cd_split | apply gd_split)) <;> (intro hc; (try simp only [Bool.not_eq_true', Bool.not_eq_false'] at hc); (try simp only [hc]); (try simp only [hcl, Int.not_lt, Int.not_le, Nat.not_lt, Nat.not_le] at hc); try omega))
    refine nxt _ ?_ ?_ ?_ ?_ ?_ ?_ ?_ ?_ ?_
    all_goals (simp (disch := first | omega | (simp only [List.length_append, List.length_cons, List.length_nil, List.length_take, List.length_drop, List.length_map, List.length_set]; omega)) only [wlk, ↓get_put', Nat.reduceEqDiff, Nat.reduceLT, ↓reduceIte, Int.reduceToNat, Nat.reducePow, Nat.min_eq_left, Nat.reduceAdd, Nat.reduceMul, Int.reduceAdd, Int.reduceSub, Int.reduceNeg, Int.reduceMul, Int.reduceEq, Int.reduceLT, Int.reduceLE, Nat.reduceSub, Int.reduceNatCast, Nat.reduceLeDiff, f1, f2, f5, f6, f7, f8, f9, f10, hp]; try rfl)
  | true =>
    rw [dR] at hsel
    have hp := more hsel
    have hnk := nameB_len (kk : Int)
    repeat' (first
      | with_reducible (first | apply Ok.sq | apply Ok.block | apply Ok.rg | apply Ok.dw hmix | apply Ok.cd | apply Ok.skip | apply Ok.exit | apply Ok.ret)
      | simp (disch := first | omega | (simp only [List.length_append, List.length_cons, List.length_nil, List.length_take, List.length_drop, List.length_map, List.length_set]; omega)) only [wlk, ↓get_put', Nat.reduceEqDiff, Nat.reduceLT, ↓reduceIte, Int.reduceToNat, Nat.reducePow, Nat.min_eq_left, Nat.reduceAdd, Nat.reduceMul, Int.reduceAdd, Int.reduceSub, Int.reduceNeg, Int.reduceMul, Int.reduceEq, Int.reduceLT, Int.reduceLE, Nat.reduceSub, Int.reduceNatCast, Nat.reduceLeDiff, f1, f7, f8, f11, f12, hRg3.ln, hRg3.ix, hRg3.ld, dR, Int.toNat_natCast]
      | (with_reducible (first | apply cd_split | apply gd_split)) <;> (intro hc; (try simp only [Bool.not_eq_true', Bool.not_eq_false'] at hc); (try simp only [hc]); (try simp only [hcl, Int.not_lt, Int.not_le, Nat.not_lt, Nat.not_le] at hc); try omega))
    refine CL.pure (name_ok (kk : Int)) ?_
    repeat' (first
      | with_reducible (first | apply Ok.sq | apply Ok.block | apply Ok.rg | apply Ok.dw hmix | apply Ok.cd | apply Ok.skip | apply Ok.exit | apply Ok.ret)
      | simp (disch := first | omega | (simp only [List.length_append, List.length_cons, List.length_nil, List.length_take, List.length_drop, List.length_map, List.length_set]; omega)) only [wlk, ↓get_put', Nat.reduceEqDiff, Nat.reduceLT, ↓reduceIte, Int.reduceToNat, Nat.reducePow, Nat.min_eq_left, Nat.reduceAdd, Nat.reduceMul, Int.reduceAdd, Int.reduceSub, Int.reduceNeg, Int.reduceMul, Int.reduceEq, Int.reduceLT, Int.reduceLE, Nat.reduceSub, Int.reduceNatCast, Nat.reduceLeDiff, f1, f7, f8, f11, f12]
      | (with_reducible (first | apply cd_split | apply gd_split)) <;> (intro hc; (try simp only [Bool.not_eq_true', Bool.not_eq_false'] at hc); (try simp only [hc]); (try simp only [hcl, Int.not_lt, Int.not_le, Nat.not_lt, Nat.not_le] at hc); try omega))
    refine nxt _ ?_ ?_ ?_ ?_ ?_ ?_ ?_ ?_ ?_
    all_goals (simp (disch := first | omega | (simp only [List.length_append, List.length_cons, List.length_nil, List.length_take, List.length_drop, List.length_map, List.length_set]; omega)) only [wlk, ↓get_put', Nat.reduceEqDiff, Nat.reduceLT, ↓reduceIte, Int.reduceToNat, Nat.reducePow, Nat.min_eq_left, Nat.reduceAdd, Nat.reduceMul, Int.reduceAdd, Int.reduceSub, Int.reduceNeg, Int.reduceMul, Int.reduceEq, Int.reduceLT, Int.reduceLE, Nat.reduceSub, Int.reduceNatCast, Nat.reduceLeDiff, f1, f2, f5, f6, f7, f8, f9, f10, hp, List.append_assoc]; try rfl)
end Go.Proofs.Ytckkoollolacoaa
