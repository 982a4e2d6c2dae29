/- The body of the law EntryRows returns true. No condition. -/
import Derived.Test.YtkfliakkopidmaaNEntC
set_option maxRecDepth 100000
set_option maxHeartbeats 8000000
set_option linter.all false
namespace Go.Proofs.Ytkfliakkopidmaa
open Go Go.Ev

def rowsB (M : List Ent) : List UInt8 := M.flatMap bytesE
theorem rowsB_len (M : List Ent) : (rowsB M).length ≤ M.length * 200 := by
  induction M with
  | nil => simp [rowsB]
  | cons a M ih =>
    have := bytesE_len (e := a)
    have e : rowsB (a :: M) = bytesE a ++ rowsB M := rfl
    rw [e, List.length_append, List.length_cons]; omega
theorem take_one {L : List Ent} {i : Nat} (hi : i < L.length) : L.take (i + 1) = L.take i ++ [L.getD i default] := by
  rw [List.take_succ_eq_append_getElem hi]; simp [List.getD, hi]
theorem drop_one {L : List Ent} {i : Nat} (hi : i < L.length) : L.drop i = L.getD i default :: L.drop (i + 1) := by
  rw [List.drop_eq_getElem_cons hi]; simp [List.getD, hi]
theorem rowsB_append (A C : List Ent) : rowsB (A ++ C) = rowsB A ++ rowsB C := by unfold rowsB; rw [List.flatMap_append]
theorem rowsB_drop (M : List Ent) (j : Nat) : (rowsB M).drop (rowsB (M.take j)).length = rowsB (M.drop j) := by
  conv => lhs; rw [← List.take_append_drop j M, rowsB_append]
  rw [List.take_append_drop]
  rw [List.drop_left]
theorem rowsB_le (M : List Ent) (j : Nat) : (rowsB (M.take j)).length ≤ (rowsB M).length := by
  conv => rhs; rw [← List.take_append_drop j M, rowsB_append, List.length_append]
  omega
theorem read_nil : (readE []).2.2 = 12 := by decide
theorem entryRows_ok {h : H} {v : V} {L : List Ent} (hL : Es h v L) (hl : L.length ≤ 9223372036854775807) (hf : B.val h.floor ≤ B.val h.next) : FnOk Try.prog 13 [v] h fun y h' => y = .b true := by
  refine fn_go c13 (by intro hb; cases hb) (by simp) (by simp) fun Q hQ => ?_
  simp only [slotsF, Nat.reduceAdd]
  repeat' (first
    | with_reducible (first | apply Ok.sq | apply Ok.block | apply Ok.rg | apply Ok.dw hmix | apply Ok.cd | apply Ok.skip | apply Ok.exit | apply Ok.ret)
    | simp (disch := first | omega | (simp only [List.length_append, List.length_cons, List.length_nil, List.length_take, List.length_drop, List.length_map, List.length_set]; omega)) only [wlk, ↓get_put', Nat.reduceEqDiff, Nat.reduceLT, ↓reduceIte, Int.reduceToNat, Nat.reducePow, Nat.min_eq_left, Nat.reduceAdd, Nat.reduceMul, Int.reduceAdd, Int.reduceSub, Int.reduceNeg, Int.reduceMul, Int.reduceEq, Int.reduceLT, Int.reduceLE, Nat.reduceSub, Int.reduceNatCast, Nat.reduceLeDiff]
    | (with_reducible (first | apply cd_split | apply gd_split)) <;> (intro hc; (try simp only [Bool.not_eq_true', Bool.not_eq_false'] at hc); (try simp only [hc]); (try simp only [hcl, Int.not_lt, Int.not_le, Nat.not_lt, Nat.not_le] at hc); try omega))
  refine CL.pure known6 ?_
  repeat' (first
    | with_reducible (first | apply Ok.sq | apply Ok.block | apply Ok.rg | apply Ok.dw hmix | apply Ok.cd | apply Ok.skip | apply Ok.exit | apply Ok.ret)
    | simp (disch := first | omega | (simp only [List.length_append, List.length_cons, List.length_nil, List.length_take, List.length_drop, List.length_map, List.length_set]; omega)) only [wlk, ↓get_put', Nat.reduceEqDiff, Nat.reduceLT, ↓reduceIte, Int.reduceToNat, Nat.reducePow, Nat.min_eq_left, Nat.reduceAdd, Nat.reduceMul, Int.reduceAdd, Int.reduceSub, Int.reduceNeg, Int.reduceMul, Int.reduceEq, Int.reduceLT, Int.reduceLE, Nat.reduceSub, Int.reduceNatCast, Nat.reduceLeDiff]
    | (with_reducible (first | apply cd_split | apply gd_split)) <;> (intro hc; (try simp only [Bool.not_eq_true', Bool.not_eq_false'] at hc); (try simp only [hc]); (try simp only [hcl, Int.not_lt, Int.not_le, Nat.not_lt, Nat.not_le] at hc); try omega))
  refine CL.pure (few_ok hL hl) ?_
  cases hfl : fewE L with
  | false =>
    repeat' (first
      | with_reducible (first | apply Ok.sq | apply Ok.block | apply Ok.rg | apply Ok.dw hmix | apply Ok.cd | apply Ok.skip | apply Ok.exit | apply Ok.ret)
      | simp (disch := first | omega | (simp only [List.length_append, List.length_cons, List.length_nil, List.length_take, List.length_drop, List.length_map, List.length_set]; omega)) only [wlk, ↓get_put', Nat.reduceEqDiff, Nat.reduceLT, ↓reduceIte, Int.reduceToNat, Nat.reducePow, Nat.min_eq_left, Nat.reduceAdd, Nat.reduceMul, Int.reduceAdd, Int.reduceSub, Int.reduceNeg, Int.reduceMul, Int.reduceEq, Int.reduceLT, Int.reduceLE, Nat.reduceSub, Int.reduceNatCast, Nat.reduceLeDiff]
      | (with_reducible (first | apply cd_split | apply gd_split)) <;> (intro hc; (try simp only [Bool.not_eq_true', Bool.not_eq_false'] at hc); (try simp only [hc]); (try simp only [hcl, Int.not_lt, Int.not_le, Nat.not_lt, Nat.not_le] at hc); try omega))
    subst hQ; rfl
  | true =>
  obtain ⟨hl60, _⟩ := few_len hfl
  have hvb : ∀ id, isOf v id → B.val id < B.val h.next := by
    rintro id ⟨g, off, n, fin, cap, e⟩
    rcases hL with ⟨e2, _⟩ | ⟨id2, g2, off2, fin2, cap2, e2, _, hlt, _⟩
    · rw [e] at e2; cases e2
    · rw [e] at e2; cases e2; exact hlt
  let M (i : Nat) : List Ent := (L.take i).filter isE
  have hMl : ∀ i, (M i).length ≤ 60 := fun i => by
    have := List.length_filter_le isE (L.take i)
    have e := List.length_take_le i L
    have h2 := List.length_take_le' i L
    show ((L.take i).filter isE).length ≤ 60
    omega
  have hMs : ∀ i, i < L.length → M (i + 1) = if isE (L.getD i default) then M i ++ [L.getD i default] else M i := fun i hi => by
    show (L.take (i + 1)).filter isE = _
    rw [take_one hi, List.filter_append]
    show M i ++ [L.getD i default].filter isE = _
    generalize L.getD i default = x
    cases hx : isE x with
    | true => rw [List.filter_cons_of_pos hx]; rfl
    | false => rw [List.filter_cons_of_neg (by rw [hx]; decide)]; simp
  repeat' (first
    | with_reducible (first | apply Ok.sq | apply Ok.block | apply Ok.rg | apply Ok.dw hmix | apply Ok.cd | apply Ok.skip | apply Ok.exit | apply Ok.ret)
    | simp (disch := first | omega | (simp only [List.length_append, List.length_cons, List.length_nil, List.length_take, List.length_drop, List.length_map, List.length_set]; omega)) only [wlk, ↓get_put', Nat.reduceEqDiff, Nat.reduceLT, ↓reduceIte, Int.reduceToNat, Nat.reducePow, Nat.min_eq_left, Nat.reduceAdd, Nat.reduceMul, Int.reduceAdd, Int.reduceSub, Int.reduceNeg, Int.reduceMul, Int.reduceEq, Int.reduceLT, Int.reduceLE, Nat.reduceSub, Int.reduceNatCast, Nat.reduceLeDiff]
    | (with_reducible (first | apply cd_split | apply gd_split)) <;> (intro hc; (try simp only [Bool.not_eq_true', Bool.not_eq_false'] at hc); (try simp only [hc]); (try simp only [hcl, Int.not_lt, Int.not_le, Nat.not_lt, Nat.not_le] at hc); try omega))
  refine Ok.lp (fun m t g => ∃ (i : Nat) (u : V), m = L.length - i ∧ i ≤ L.length ∧ get 0 t = v ∧ get 3 t = sv (rowsB (M i)) ∧ get 4 t = u ∧ get 5 t = .i .i64 (i : Int) ∧ Stay nowhere h g ∧ Buf g 54 4 u ((M i).flatMap entC) ∧ (∀ id, isOf u id → B.val h.next ≤ B.val id)) L.length ?_ ?_
  · simp (disch := first | omega | (simp only [List.length_append, List.length_cons, List.length_nil, List.length_take, List.length_drop, List.length_map, List.length_set]; omega)) only [wlk, ↓get_put', Nat.reduceEqDiff, Nat.reduceLT, ↓reduceIte, Int.reduceToNat, Nat.reducePow, Nat.min_eq_left, Nat.reduceAdd, Nat.reduceMul, Int.reduceAdd, Int.reduceSub, Int.reduceNeg, Int.reduceMul, Int.reduceEq, Int.reduceLT, Int.reduceLE, Nat.reduceSub, Int.reduceNatCast, Nat.reduceLeDiff]
    refine ⟨0, .l0, by omega, by omega, trivial, rfl, rfl, rfl, Stay.refl _ _, Buf.nil _ _ _, ?_⟩
    rintro id ⟨_, _, _, _, _, e⟩; cases e
  rintro I hI m t g ⟨i, u, rfl, hi, f0, f3, f4, f5, st, bf, own⟩
  have hfg := st.fl hf
  have hLg := hL.grow st
  have hrl := rowsB_len (M i)
  have hml := hMl i
  repeat' (first
    | with_reducible (first | apply Ok.sq | apply Ok.block | apply Ok.rg | apply Ok.dw hmix | apply Ok.cd | apply Ok.skip | apply Ok.exit | apply Ok.ret)
    | simp (disch := first | omega | (simp only [List.length_append, List.length_cons, List.length_nil, List.length_take, List.length_drop, List.length_map, List.length_set]; omega)) only [wlk, ↓get_put', Nat.reduceEqDiff, Nat.reduceLT, ↓reduceIte, Int.reduceToNat, Nat.reducePow, Nat.min_eq_left, Nat.reduceAdd, Nat.reduceMul, Int.reduceAdd, Int.reduceSub, Int.reduceNeg, Int.reduceMul, Int.reduceEq, Int.reduceLT, Int.reduceLE, Nat.reduceSub, Int.reduceNatCast, Nat.reduceLeDiff, f0, f3, f4, f5, hL.ln, hL.ix, hLg.la, Int.toNat_natCast]
    | (with_reducible (first | apply cd_split | apply gd_split)) <;> (intro hc; (try simp only [Bool.not_eq_true', Bool.not_eq_false'] at hc); (try simp only [hc]); (try simp only [hcl, Int.not_lt, Int.not_le, Nat.not_lt, Nat.not_le] at hc); try omega))
  · refine CL.stay (is_ok hfg) fun g1 t1 => ?_
    have hfg1 := t1.fl hfg
    have hLg1 := hLg.grow t1
    have bf1 := bf.grow t1
    cases hx : isE (L.getD i default) with
    | false =>
      repeat' (first
        | with_reducible (first | apply Ok.sq | apply Ok.block | apply Ok.rg | apply Ok.dw hmix | apply Ok.cd | apply Ok.skip | apply Ok.exit | apply Ok.ret)
        | simp (disch := first | omega | (simp only [List.length_append, List.length_cons, List.length_nil, List.length_take, List.length_drop, List.length_map, List.length_set]; omega)) only [wlk, ↓get_put', Nat.reduceEqDiff, Nat.reduceLT, ↓reduceIte, Int.reduceToNat, Nat.reducePow, Nat.min_eq_left, Nat.reduceAdd, Nat.reduceMul, Int.reduceAdd, Int.reduceSub, Int.reduceNeg, Int.reduceMul, Int.reduceEq, Int.reduceLT, Int.reduceLE, Nat.reduceSub, Int.reduceNatCast, Nat.reduceLeDiff, f0, f3, f4, f5]
        | (with_reducible (first | apply cd_split | apply gd_split)) <;> (intro hc; (try simp only [Bool.not_eq_true', Bool.not_eq_false'] at hc); (try simp only [hc]); (try simp only [hcl, Int.not_lt, Int.not_le, Nat.not_lt, Nat.not_le] at hc); try omega))
      have hm := hMs i (by omega)
      rw [hx] at hm
      have hm : M (i + 1) = M i := hm
      refine lp_next hI (L.length - (i + 1)) (by omega) ⟨i + 1, u, rfl, by omega, ?_, ?_, ?_, ?_, st.trans t1, by rw [hm]; exact bf1, own⟩
      · simp (disch := first | omega | (simp only [List.length_append, List.length_cons, List.length_nil, List.length_take, List.length_drop, List.length_map, List.length_set]; omega)) only [wlk, ↓get_put', Nat.reduceEqDiff, Nat.reduceLT, ↓reduceIte, Int.reduceToNat, Nat.reducePow, Nat.min_eq_left, Nat.reduceAdd, Nat.reduceMul, Int.reduceAdd, Int.reduceSub, Int.reduceNeg, Int.reduceMul, Int.reduceEq, Int.reduceLT, Int.reduceLE, Nat.reduceSub, Int.reduceNatCast, Nat.reduceLeDiff, f0]
      · rw [hm]; simp (disch := first | omega | (simp only [List.length_append, List.length_cons, List.length_nil, List.length_take, List.length_drop, List.length_map, List.length_set]; omega)) only [wlk, ↓get_put', Nat.reduceEqDiff, Nat.reduceLT, ↓reduceIte, Int.reduceToNat, Nat.reducePow, Nat.min_eq_left, Nat.reduceAdd, Nat.reduceMul, Int.reduceAdd, Int.reduceSub, Int.reduceNeg, Int.reduceMul, Int.reduceEq, Int.reduceLT, Int.reduceLE, Nat.reduceSub, Int.reduceNatCast, Nat.reduceLeDiff, f3]
      · simp (disch := first | omega | (simp only [List.length_append, List.length_cons, List.length_nil, List.length_take, List.length_drop, List.length_map, List.length_set]; omega)) only [wlk, ↓get_put', Nat.reduceEqDiff, Nat.reduceLT, ↓reduceIte, Int.reduceToNat, Nat.reducePow, Nat.min_eq_left, Nat.reduceAdd, Nat.reduceMul, Int.reduceAdd, Int.reduceSub, Int.reduceNeg, Int.reduceMul, Int.reduceEq, Int.reduceLT, Int.reduceLE, Nat.reduceSub, Int.reduceNatCast, Nat.reduceLeDiff, f4]
      · simp (disch := first | omega | (simp only [List.length_append, List.length_cons, List.length_nil, List.length_take, List.length_drop, List.length_map, List.length_set]; omega)) only [wlk, ↓get_put', Nat.reduceEqDiff, Nat.reduceLT, ↓reduceIte, Int.reduceToNat, Nat.reducePow, Nat.min_eq_left, Nat.reduceAdd, Nat.reduceMul, Int.reduceAdd, Int.reduceSub, Int.reduceNeg, Int.reduceMul, Int.reduceEq, Int.reduceLT, Int.reduceLE, Nat.reduceSub, Int.reduceNatCast, Nat.reduceLeDiff]; rfl
    | true =>
      repeat' (first
        | with_reducible (first | apply Ok.sq | apply Ok.block | apply Ok.rg | apply Ok.dw hmix | apply Ok.cd | apply Ok.skip | apply Ok.exit | apply Ok.ret)
        | simp (disch := first | omega | (simp only [List.length_append, List.length_cons, List.length_nil, List.length_take, List.length_drop, List.length_map, List.length_set]; omega)) only [wlk, ↓get_put', Nat.reduceEqDiff, Nat.reduceLT, ↓reduceIte, Int.reduceToNat, Nat.reducePow, Nat.min_eq_left, Nat.reduceAdd, Nat.reduceMul, Int.reduceAdd, Int.reduceSub, Int.reduceNeg, Int.reduceMul, Int.reduceEq, Int.reduceLT, Int.reduceLE, Nat.reduceSub, Int.reduceNatCast, Nat.reduceLeDiff, f0, f3, f4, f5, hL.ix, hLg1.la, Int.toNat_natCast]
        | (with_reducible (first | apply cd_split | apply gd_split)) <;> (intro hc; (try simp only [Bool.not_eq_true', Bool.not_eq_false'] at hc); (try simp only [hc]); (try simp only [hcl, Int.not_lt, Int.not_le, Nat.not_lt, Nat.not_le] at hc); try omega))
      refine CL.stay (bytes_ok hfg1) fun g2 t2 => ?_
      have hfg2 := t2.fl hfg1
      have hLg2 := hLg1.grow t2
      have bf2 := bf1.grow t2
      have hbl := bytesE_len (e := L.getD i default)
      repeat' (first
        | with_reducible (first | apply Ok.sq | apply Ok.block | apply Ok.rg | apply Ok.dw hmix | apply Ok.cd | apply Ok.skip | apply Ok.exit | apply Ok.ret)
        | simp (disch := first | omega | (simp only [List.length_append, List.length_cons, List.length_nil, List.length_take, List.length_drop, List.length_map, List.length_set]; omega)) only [wlk, ↓get_put', Nat.reduceEqDiff, Nat.reduceLT, ↓reduceIte, Int.reduceToNat, Nat.reducePow, Nat.min_eq_left, Nat.reduceAdd, Nat.reduceMul, Int.reduceAdd, Int.reduceSub, Int.reduceNeg, Int.reduceMul, Int.reduceEq, Int.reduceLT, Int.reduceLE, Nat.reduceSub, Int.reduceNatCast, Nat.reduceLeDiff, f0, f3, f4, f5, hL.ix, hLg2.la, Int.toNat_natCast]
        | (with_reducible (first | apply cd_split | apply gd_split)) <;> (intro hc; (try simp only [Bool.not_eq_true', Bool.not_eq_false'] at hc); (try simp only [hc]); (try simp only [hcl, Int.not_lt, Int.not_le, Nat.not_lt, Nat.not_le] at hc); try omega))
      refine AL.own (by simp) hfg2 fun g3 t3 n3 o3 => ?_
      have hfg3 := t3.fl hfg2
      have bf3 := bf2.grow t3
      have hfm := fm_len entC_len (M i)
      repeat' (first
        | with_reducible (first | apply Ok.sq | apply Ok.block | apply Ok.rg | apply Ok.dw hmix | apply Ok.cd | apply Ok.skip | apply Ok.exit | apply Ok.ret)
        | simp (disch := first | omega | (simp only [List.length_append, List.length_cons, List.length_nil, List.length_take, List.length_drop, List.length_map, List.length_set]; omega)) only [wlk, ↓get_put', Nat.reduceEqDiff, Nat.reduceLT, ↓reduceIte, Int.reduceToNat, Nat.reducePow, Nat.min_eq_left, Nat.reduceAdd, Nat.reduceMul, Int.reduceAdd, Int.reduceSub, Int.reduceNeg, Int.reduceMul, Int.reduceEq, Int.reduceLT, Int.reduceLE, Nat.reduceSub, Int.reduceNatCast, Nat.reduceLeDiff, f0, f3, f4, f5]
        | (with_reducible (first | apply cd_split | apply gd_split)) <;> (intro hc; (try simp only [Bool.not_eq_true', Bool.not_eq_false'] at hc); (try simp only [hc]); (try simp only [hcl, Int.not_lt, Int.not_le, Nat.not_lt, Nat.not_le] at hc); try omega))
      refine AP.buf (vs := entC (L.getD i default)) (cnt := 1) bf3 (new_row o3.row rfl (Nat.le_refl _) (by omega) (by show 4 ≤ 4; omega)) hfg3 (by omega) rfl rfl (by rw [hfm, entC_len]; omega) fun u' g4 b4 t4 ho tp => ?_
      repeat' (first
        | with_reducible (first | apply Ok.sq | apply Ok.block | apply Ok.rg | apply Ok.dw hmix | apply Ok.cd | apply Ok.skip | apply Ok.exit | apply Ok.ret)
        | simp (disch := first | omega | (simp only [List.length_append, List.length_cons, List.length_nil, List.length_take, List.length_drop, List.length_map, List.length_set]; omega)) only [wlk, ↓get_put', Nat.reduceEqDiff, Nat.reduceLT, ↓reduceIte, Int.reduceToNat, Nat.reducePow, Nat.min_eq_left, Nat.reduceAdd, Nat.reduceMul, Int.reduceAdd, Int.reduceSub, Int.reduceNeg, Int.reduceMul, Int.reduceEq, Int.reduceLT, Int.reduceLE, Nat.reduceSub, Int.reduceNatCast, Nat.reduceLeDiff, f0, f3, f4, f5]
        | (with_reducible (first | apply cd_split | apply gd_split)) <;> (intro hc; (try simp only [Bool.not_eq_true', Bool.not_eq_false'] at hc); (try simp only [hc]); (try simp only [hcl, Int.not_lt, Int.not_le, Nat.not_lt, Nat.not_le] at hc); try omega))
      have hm := hMs i (by omega)
      rw [hx] at hm
      have hm : M (i + 1) = M i ++ [L.getD i default] := hm
      have s3 : Stay nowhere h g3 := ((st.trans t1).trans t2).trans t3
      have s4 : Stay nowhere h g4 := s3.past' t4 fun id hid => own id hid
      refine lp_next hI (L.length - (i + 1)) (by omega) ⟨i + 1, u', rfl, by omega, ?_, ?_, ?_, ?_, s4, ?_, fun id hid => ?_⟩
      · simp (disch := first | omega | (simp only [List.length_append, List.length_cons, List.length_nil, List.length_take, List.length_drop, List.length_map, List.length_set]; omega)) only [wlk, ↓get_put', Nat.reduceEqDiff, Nat.reduceLT, ↓reduceIte, Int.reduceToNat, Nat.reducePow, Nat.min_eq_left, Nat.reduceAdd, Nat.reduceMul, Int.reduceAdd, Int.reduceSub, Int.reduceNeg, Int.reduceMul, Int.reduceEq, Int.reduceLT, Int.reduceLE, Nat.reduceSub, Int.reduceNatCast, Nat.reduceLeDiff, f0]
      · rw [hm, rowsB_append]; simp (disch := first | omega | (simp only [List.length_append, List.length_cons, List.length_nil, List.length_take, List.length_drop, List.length_map, List.length_set]; omega)) only [wlk, ↓get_put', Nat.reduceEqDiff, Nat.reduceLT, ↓reduceIte, Int.reduceToNat, Nat.reducePow, Nat.min_eq_left, Nat.reduceAdd, Nat.reduceMul, Int.reduceAdd, Int.reduceSub, Int.reduceNeg, Int.reduceMul, Int.reduceEq, Int.reduceLT, Int.reduceLE, Nat.reduceSub, Int.reduceNatCast, Nat.reduceLeDiff]; congr 1; simp [rowsB]
      · simp (disch := first | omega | (simp only [List.length_append, List.length_cons, List.length_nil, List.length_take, List.length_drop, List.length_map, List.length_set]; omega)) only [wlk, ↓get_put', Nat.reduceEqDiff, Nat.reduceLT, ↓reduceIte, Int.reduceToNat, Nat.reducePow, Nat.min_eq_left, Nat.reduceAdd, Nat.reduceMul, Int.reduceAdd, Int.reduceSub, Int.reduceNeg, Int.reduceMul, Int.reduceEq, Int.reduceLT, Int.reduceLE, Nat.reduceSub, Int.reduceNatCast, Nat.reduceLeDiff]
      · simp (disch := first | omega | (simp only [List.length_append, List.length_cons, List.length_nil, List.length_take, List.length_drop, List.length_map, List.length_set]; omega)) only [wlk, ↓get_put', Nat.reduceEqDiff, Nat.reduceLT, ↓reduceIte, Int.reduceToNat, Nat.reducePow, Nat.min_eq_left, Nat.reduceAdd, Nat.reduceMul, Int.reduceAdd, Int.reduceSub, Int.reduceNeg, Int.reduceMul, Int.reduceEq, Int.reduceLT, Int.reduceLE, Nat.reduceSub, Int.reduceNatCast, Nat.reduceLeDiff, f5]; rfl
      · rw [hm, List.flatMap_append]; simpa using b4
      · rcases ho id hid with h1 | h1
        · exact own id h1
        · have := s3.next; omega
  · obtain rfl : i = L.length := by omega
    have hMe : M L.length = L.filter isE := by show (L.take L.length).filter isE = _; rw [List.take_length]
    generalize hN : M L.length = N at *
    have hall : ∀ e ∈ N, isE e = true := fun e he => by rw [hMe] at he; exact (List.mem_filter.1 he).2
    have hes : Es g u N := Ss.buf bf rfl entC_len (by omega)
    repeat' (first
      | with_reducible (first | apply Ok.sq | apply Ok.block | apply Ok.rg | apply Ok.dw hmix | apply Ok.cd | apply Ok.skip | apply Ok.exit | apply Ok.ret)
      | simp (disch := first | omega | (simp only [List.length_append, List.length_cons, List.length_nil, List.length_take, List.length_drop, List.length_map, List.length_set]; omega)) only [wlk, ↓get_put', Nat.reduceEqDiff, Nat.reduceLT, ↓reduceIte, Int.reduceToNat, Nat.reducePow, Nat.min_eq_left, Nat.reduceAdd, Nat.reduceMul, Int.reduceAdd, Int.reduceSub, Int.reduceNeg, Int.reduceMul, Int.reduceEq, Int.reduceLT, Int.reduceLE, Nat.reduceSub, Int.reduceNatCast, Nat.reduceLeDiff, f0, f3, f4, f5]
      | (with_reducible (first | apply cd_split | apply gd_split)) <;> (intro hc; (try simp only [Bool.not_eq_true', Bool.not_eq_false'] at hc); (try simp only [hc]); (try simp only [hcl, Int.not_lt, Int.not_le, Nat.not_lt, Nat.not_le] at hc); try omega))
    refine Ok.lp (fun m t g' => ∃ j : Nat, m = N.length - j ∧ j ≤ N.length ∧ get 3 t = sv (rowsB N) ∧ get 4 t = u ∧ get 6 t = .i .i64 ((rowsB (N.take j)).length : Int) ∧ get 7 t = .i .i64 (j : Int) ∧ Stay nowhere g g') N.length ?_ ?_
    · simp (disch := first | omega | (simp only [List.length_append, List.length_cons, List.length_nil, List.length_take, List.length_drop, List.length_map, List.length_set]; omega)) only [wlk, ↓get_put', Nat.reduceEqDiff, Nat.reduceLT, ↓reduceIte, Int.reduceToNat, Nat.reducePow, Nat.min_eq_left, Nat.reduceAdd, Nat.reduceMul, Int.reduceAdd, Int.reduceSub, Int.reduceNeg, Int.reduceMul, Int.reduceEq, Int.reduceLT, Int.reduceLE, Nat.reduceSub, Int.reduceNatCast, Nat.reduceLeDiff, f3, f4]
      exact ⟨0, by omega, by omega, trivial, trivial, rfl, rfl, Stay.refl _ _⟩
    rintro I2 hI2 m t2 g' ⟨j, rfl, hj, q3, q4, q6, q7, sg⟩
    have hfg' := sg.fl hfg
    have hes' := hes.grow sg
    have hle := rowsB_le N j
    have hdr := rowsB_drop N j
    repeat' (first
      | with_reducible (first | apply Ok.sq | apply Ok.block | apply Ok.rg | apply Ok.dw hmix | apply Ok.cd | apply Ok.skip | apply Ok.exit | apply Ok.ret)
      | simp (disch := first | omega | (simp only [List.length_append, List.length_cons, List.length_nil, List.length_take, List.length_drop, List.length_map, List.length_set]; omega)) only [wlk, ↓get_put', Nat.reduceEqDiff, Nat.reduceLT, ↓reduceIte, Int.reduceToNat, Nat.reducePow, Nat.min_eq_left, Nat.reduceAdd, Nat.reduceMul, Int.reduceAdd, Int.reduceSub, Int.reduceNeg, Int.reduceMul, Int.reduceEq, Int.reduceLT, Int.reduceLE, Nat.reduceSub, Int.reduceNatCast, Nat.reduceLeDiff, q3, q4, q6, q7, hes.ln, Int.toNat_natCast, hdr]
      | (with_reducible (first | apply cd_split | apply gd_split)) <;> (intro hc; (try simp only [Bool.not_eq_true', Bool.not_eq_false'] at hc); (try simp only [hc]); (try simp only [hcl, Int.not_lt, Int.not_le, Nat.not_lt, Nat.not_le] at hc); try omega))
    · have hjN : j < N.length := by omega
      have hd1 : rowsB (N.drop j) = bytesE (N.getD j default) ++ rowsB (N.drop (j + 1)) := by rw [drop_one hjN]; rfl
      have hij : isE (N.getD j default) = true := hall _ (by rw [show N.getD j default = N[j] by simp [List.getD, hjN]]; simp)
      have htj : rowsB (N.take (j + 1)) = rowsB (N.take j) ++ bytesE (N.getD j default) := by rw [take_one hjN, rowsB_append]; simp [rowsB]
      have hdl : (rowsB (N.drop j)).length ≤ 1000000 := by rw [← hdr, List.length_drop]; omega
      have hbp := bytes_pos hij
      have hbl := bytesE_len (e := N.getD j default)
      refine CL.stay (read_ok hdl hfg') fun g1 t1 => ?_
      have hfg1 := t1.fl hfg'
      have hes1 := hes'.grow t1
      rw [hd1, read_back hij]
      unfold triE entC
      repeat' (first
        | with_reducible (first | apply Ok.sq | apply Ok.block | apply Ok.rg | apply Ok.dw hmix | apply Ok.cd | apply Ok.skip | apply Ok.exit | apply Ok.ret)
        | simp (disch := first | omega | (simp only [List.length_append, List.length_cons, List.length_nil, List.length_take, List.length_drop, List.length_map, List.length_set]; omega)) only [wlk, ↓get_put', Nat.reduceEqDiff, Nat.reduceLT, ↓reduceIte, Int.reduceToNat, Nat.reducePow, Nat.min_eq_left, Nat.reduceAdd, Nat.reduceMul, Int.reduceAdd, Int.reduceSub, Int.reduceNeg, Int.reduceMul, Int.reduceEq, Int.reduceLT, Int.reduceLE, Nat.reduceSub, Int.reduceNatCast, Nat.reduceLeDiff]
        | (with_reducible (first | apply cd_split | apply gd_split)) <;> (intro hc; (try simp only [Bool.not_eq_true', Bool.not_eq_false'] at hc); (try simp only [hc]); (try simp only [hcl, Int.not_lt, Int.not_le, Nat.not_lt, Nat.not_le] at hc); try omega))
      refine AL.own (by simp) hfg1 fun g2 u2 n2 o2 => ?_
      repeat' (first
        | with_reducible (first | apply Ok.sq | apply Ok.block | apply Ok.rg | apply Ok.dw hmix | apply Ok.cd | apply Ok.skip | apply Ok.exit | apply Ok.ret)
        | simp (disch := first | omega | (simp only [List.length_append, List.length_cons, List.length_nil, List.length_take, List.length_drop, List.length_map, List.length_set]; omega)) only [wlk, ↓get_put', Nat.reduceEqDiff, Nat.reduceLT, ↓reduceIte, Int.reduceToNat, Nat.reducePow, Nat.min_eq_left, Nat.reduceAdd, Nat.reduceMul, Int.reduceAdd, Int.reduceSub, Int.reduceNeg, Int.reduceMul, Int.reduceEq, Int.reduceLT, Int.reduceLE, Nat.reduceSub, Int.reduceNatCast, Nat.reduceLeDiff]
        | (with_reducible (first | apply cd_split | apply gd_split)) <;> (intro hc; (try simp only [Bool.not_eq_true', Bool.not_eq_false'] at hc); (try simp only [hc]); (try simp only [hcl, Int.not_lt, Int.not_le, Nat.not_lt, Nat.not_le] at hc); try omega))
      refine ST.all o2 rfl rfl (by simp) (by simp) fun g3 o3 u3 => ?_
      have s13 : Stay nowhere g1 g3 := u2.past' u3 fun i hi => by rw [hi]; exact Nat.le_refl _
      have hes3 := hes1.grow s13
      repeat' (first
        | with_reducible (first | apply Ok.sq | apply Ok.block | apply Ok.rg | apply Ok.dw hmix | apply Ok.cd | apply Ok.skip | apply Ok.exit | apply Ok.ret)
        | simp (disch := first | omega | (simp only [List.length_append, List.length_cons, List.length_nil, List.length_take, List.length_drop, List.length_map, List.length_set]; omega)) only [wlk, ↓get_put', Nat.reduceEqDiff, Nat.reduceLT, ↓reduceIte, Int.reduceToNat, Nat.reducePow, Nat.min_eq_left, Nat.reduceAdd, Nat.reduceMul, Int.reduceAdd, Int.reduceSub, Int.reduceNeg, Int.reduceMul, Int.reduceEq, Int.reduceLT, Int.reduceLE, Nat.reduceSub, Int.reduceNatCast, Nat.reduceLeDiff, q3, q4, q6, q7, o3.row.ln, hes.ix, hes3.la, Int.toNat_natCast]
        | (with_reducible (first | apply cd_split | apply gd_split)) <;> (intro hc; (try simp only [Bool.not_eq_true', Bool.not_eq_false'] at hc); (try simp only [hc]); (try simp only [hcl, Int.not_lt, Int.not_le, Nat.not_lt, Nat.not_le] at hc); try omega))
      refine lp_next hI2 (N.length - (j + 1)) (by omega) ⟨j + 1, rfl, by omega, ?_, ?_, ?_, ?_, (sg.trans t1).trans s13⟩
      · simp (disch := first | omega | (simp only [List.length_append, List.length_cons, List.length_nil, List.length_take, List.length_drop, List.length_map, List.length_set]; omega)) only [wlk, ↓get_put', Nat.reduceEqDiff, Nat.reduceLT, ↓reduceIte, Int.reduceToNat, Nat.reducePow, Nat.min_eq_left, Nat.reduceAdd, Nat.reduceMul, Int.reduceAdd, Int.reduceSub, Int.reduceNeg, Int.reduceMul, Int.reduceEq, Int.reduceLT, Int.reduceLE, Nat.reduceSub, Int.reduceNatCast, Nat.reduceLeDiff, q3]
      · simp (disch := first | omega | (simp only [List.length_append, List.length_cons, List.length_nil, List.length_take, List.length_drop, List.length_map, List.length_set]; omega)) only [wlk, ↓get_put', Nat.reduceEqDiff, Nat.reduceLT, ↓reduceIte, Int.reduceToNat, Nat.reducePow, Nat.min_eq_left, Nat.reduceAdd, Nat.reduceMul, Int.reduceAdd, Int.reduceSub, Int.reduceNeg, Int.reduceMul, Int.reduceEq, Int.reduceLT, Int.reduceLE, Nat.reduceSub, Int.reduceNatCast, Nat.reduceLeDiff, q4]
      · rw [htj, List.length_append]; simp (disch := first | omega | (simp only [List.length_append, List.length_cons, List.length_nil, List.length_take, List.length_drop, List.length_map, List.length_set]; omega)) only [wlk, ↓get_put', Nat.reduceEqDiff, Nat.reduceLT, ↓reduceIte, Int.reduceToNat, Nat.reducePow, Nat.min_eq_left, Nat.reduceAdd, Nat.reduceMul, Int.reduceAdd, Int.reduceSub, Int.reduceNeg, Int.reduceMul, Int.reduceEq, Int.reduceLT, Int.reduceLE, Nat.reduceSub, Int.reduceNatCast, Nat.reduceLeDiff]; congr 1
      · simp (disch := first | omega | (simp only [List.length_append, List.length_cons, List.length_nil, List.length_take, List.length_drop, List.length_map, List.length_set]; omega)) only [wlk, ↓get_put', Nat.reduceEqDiff, Nat.reduceLT, ↓reduceIte, Int.reduceToNat, Nat.reducePow, Nat.min_eq_left, Nat.reduceAdd, Nat.reduceMul, Int.reduceAdd, Int.reduceSub, Int.reduceNeg, Int.reduceMul, Int.reduceEq, Int.reduceLT, Int.reduceLE, Nat.reduceSub, Int.reduceNatCast, Nat.reduceLeDiff]; rfl
    · obtain rfl : j = N.length := by omega
      have hd0 : rowsB (N.drop N.length) = [] := by rw [List.drop_length]; rfl
      rw [hd0]
      have htl : rowsB (N.take N.length) = rowsB N := by rw [List.take_length]
      refine CL.stay (read_ok (by simp) hfg') fun g1 t1 => ?_
      have hfg1 := t1.fl hfg'
      have hrn := read_nil
      generalize readE [] = r at *
      obtain ⟨⟨k, q, d, w⟩, z, f⟩ := r
      have hrn : f = 12 := hrn
      subst hrn
      unfold triE entC
      repeat' (first
        | with_reducible (first | apply Ok.sq | apply Ok.block | apply Ok.rg | apply Ok.dw hmix | apply Ok.cd | apply Ok.skip | apply Ok.exit | apply Ok.ret)
        | simp (disch := first | omega | (simp only [List.length_append, List.length_cons, List.length_nil, List.length_take, List.length_drop, List.length_map, List.length_set]; omega)) only [wlk, ↓get_put', Nat.reduceEqDiff, Nat.reduceLT, ↓reduceIte, Int.reduceToNat, Nat.reducePow, Nat.min_eq_left, Nat.reduceAdd, Nat.reduceMul, Int.reduceAdd, Int.reduceSub, Int.reduceNeg, Int.reduceMul, Int.reduceEq, Int.reduceLT, Int.reduceLE, Nat.reduceSub, Int.reduceNatCast, Nat.reduceLeDiff]
        | (with_reducible (first | apply cd_split | apply gd_split)) <;> (intro hc; (try simp only [Bool.not_eq_true', Bool.not_eq_false'] at hc); (try simp only [hc]); (try simp only [hcl, Int.not_lt, Int.not_le, Nat.not_lt, Nat.not_le] at hc); try omega))
      refine AL.own (by simp) hfg1 fun g2 u2 n2 o2 => ?_
      repeat' (first
        | with_reducible (first | apply Ok.sq | apply Ok.block | apply Ok.rg | apply Ok.dw hmix | apply Ok.cd | apply Ok.skip | apply Ok.exit | apply Ok.ret)
        | simp (disch := first | omega | (simp only [List.length_append, List.length_cons, List.length_nil, List.length_take, List.length_drop, List.length_map, List.length_set]; omega)) only [wlk, ↓get_put', Nat.reduceEqDiff, Nat.reduceLT, ↓reduceIte, Int.reduceToNat, Nat.reducePow, Nat.min_eq_left, Nat.reduceAdd, Nat.reduceMul, Int.reduceAdd, Int.reduceSub, Int.reduceNeg, Int.reduceMul, Int.reduceEq, Int.reduceLT, Int.reduceLE, Nat.reduceSub, Int.reduceNatCast, Nat.reduceLeDiff]
        | (with_reducible (first | apply cd_split | apply gd_split)) <;> (intro hc; (try simp only [Bool.not_eq_true', Bool.not_eq_false'] at hc); (try simp only [hc]); (try simp only [hcl, Int.not_lt, Int.not_le, Nat.not_lt, Nat.not_le] at hc); try omega))
      refine ST.all o2 rfl rfl (by simp) (by simp) fun g3 o3 u3 => ?_
      repeat' (first
        | with_reducible (first | apply Ok.sq | apply Ok.block | apply Ok.rg | apply Ok.dw hmix | apply Ok.cd | apply Ok.skip | apply Ok.exit | apply Ok.ret)
        | simp (disch := first | omega | (simp only [List.length_append, List.length_cons, List.length_nil, List.length_take, List.length_drop, List.length_map, List.length_set]; omega)) only [wlk, ↓get_put', Nat.reduceEqDiff, Nat.reduceLT, ↓reduceIte, Int.reduceToNat, Nat.reducePow, Nat.min_eq_left, Nat.reduceAdd, Nat.reduceMul, Int.reduceAdd, Int.reduceSub, Int.reduceNeg, Int.reduceMul, Int.reduceEq, Int.reduceLT, Int.reduceLE, Nat.reduceSub, Int.reduceNatCast, Nat.reduceLeDiff, q3, q6, htl]
        | (with_reducible (first | apply cd_split | apply gd_split)) <;> (intro hc; (try simp only [Bool.not_eq_true', Bool.not_eq_false'] at hc); (try simp only [hc]); (try simp only [hcl, Int.not_lt, Int.not_le, Nat.not_lt, Nat.not_le] at hc); try omega))
      subst hQ; rfl
end Go.Proofs.Ytkfliakkopidmaa
