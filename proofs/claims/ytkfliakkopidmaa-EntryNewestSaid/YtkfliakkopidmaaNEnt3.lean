/- Package entry, and the document's entries: Read, by what it computes. No condition. -/
import Derived.Test.YtkfliakkopidmaaNEnt2
set_option maxRecDepth 100000
set_option maxHeartbeats 8000000
set_option linter.all false
namespace Go.Proofs.Ytkfliakkopidmaa
open Go Go.Ev

theorem take_ok {h : H} {s : List UInt8} (hs : s.length ≤ 1000000) (hf : B.val h.floor ≤ B.val h.next) : FnOk Try.prog 70 [sv s] h fun y h' => y = triE (takeE s) ∧ Stay nowhere h h' := by
  refine fn_go c70 (by intro hb; cases hb) (by simp) (by simp) fun Q hQ => ?_
  simp only [slotsF, Nat.reduceAdd]
  repeat' (first
    | with_reducible (first | apply Ok.sq | apply Ok.block | apply Ok.rg | apply Ok.dw hmix | apply Ok.cd | apply Ok.skip | apply Ok.exit | apply Ok.ret)
    | simp (disch := first | omega | (simp only [List.length_append, List.length_cons, List.length_nil, List.length_take, List.length_drop, List.length_map, List.length_set]; omega)) only [wlk, ↓get_put', Nat.reduceEqDiff, Nat.reduceLT, ↓reduceIte, Int.reduceToNat, Nat.reducePow, Nat.min_eq_left, Nat.reduceAdd, Nat.reduceMul, Int.reduceAdd, Int.reduceSub, Int.reduceNeg, Int.reduceMul, Int.reduceEq, Int.reduceLT, Int.reduceLE, Nat.reduceSub, Int.reduceNatCast, Nat.reduceLeDiff]
    | (with_reducible (first | apply cd_split | apply gd_split)) <;> (intro hc; (try simp only [Bool.not_eq_true', Bool.not_eq_false'] at hc); (try simp only [hc]); (try simp only [hcl, Int.not_lt, Int.not_le, Nat.not_lt, Nat.not_le] at hc); try omega))
  refine AL.own (by simp) hf fun h1 s1 n1 o1 => ?_
  repeat' (first
    | with_reducible (first | apply Ok.sq | apply Ok.block | apply Ok.rg | apply Ok.dw hmix | apply Ok.cd | apply Ok.skip | apply Ok.exit | apply Ok.ret)
    | simp (disch := first | omega | (simp only [List.length_append, List.length_cons, List.length_nil, List.length_take, List.length_drop, List.length_map, List.length_set]; omega)) only [wlk, ↓get_put', Nat.reduceEqDiff, Nat.reduceLT, ↓reduceIte, Int.reduceToNat, Nat.reducePow, Nat.min_eq_left, Nat.reduceAdd, Nat.reduceMul, Int.reduceAdd, Int.reduceSub, Int.reduceNeg, Int.reduceMul, Int.reduceEq, Int.reduceLT, Int.reduceLE, Nat.reduceSub, Int.reduceNatCast, Nat.reduceLeDiff]
    | (with_reducible (first | apply cd_split | apply gd_split)) <;> (intro hc; (try simp only [Bool.not_eq_true', Bool.not_eq_false'] at hc); (try simp only [hc]); (try simp only [hcl, Int.not_lt, Int.not_le, Nat.not_lt, Nat.not_le] at hc); try omega))
  refine CL.pure (takeText_ok hs) ?_
  rcases takeT_range s with (hc | hc) | ⟨k, n, hc, k1, k2, k3⟩
  · rw [hc]; unfold triT
    repeat' (first
      | with_reducible (first | apply Ok.sq | apply Ok.block | apply Ok.rg | apply Ok.dw hmix | apply Ok.cd | apply Ok.skip | apply Ok.exit | apply Ok.ret)
      | simp (disch := first | omega | (simp only [List.length_append, List.length_cons, List.length_nil, List.length_take, List.length_drop, List.length_map, List.length_set]; omega)) only [wlk, ↓get_put', Nat.reduceEqDiff, Nat.reduceLT, ↓reduceIte, Int.reduceToNat, Nat.reducePow, Nat.min_eq_left, Nat.reduceAdd, Nat.reduceMul, Int.reduceAdd, Int.reduceSub, Int.reduceNeg, Int.reduceMul, Int.reduceEq, Int.reduceLT, Int.reduceLE, Nat.reduceSub, Int.reduceNatCast, Nat.reduceLeDiff]
      | (with_reducible (first | apply cd_split | apply gd_split)) <;> (intro hc; (try simp only [Bool.not_eq_true', Bool.not_eq_false'] at hc); (try simp only [hc]); (try simp only [hcl, Int.not_lt, Int.not_le, Nat.not_lt, Nat.not_le] at hc); try omega))
    refine ST.all o1 rfl rfl (by simp) (by simp) fun hz oz sz => ?_
    repeat' (first
      | with_reducible (first | apply Ok.sq | apply Ok.block | apply Ok.rg | apply Ok.dw hmix | apply Ok.cd | apply Ok.skip | apply Ok.exit | apply Ok.ret)
      | simp (disch := first | omega | (simp only [List.length_append, List.length_cons, List.length_nil, List.length_take, List.length_drop, List.length_map, List.length_set]; omega)) only [wlk, ↓get_put', Nat.reduceEqDiff, Nat.reduceLT, ↓reduceIte, Int.reduceToNat, Nat.reducePow, Nat.min_eq_left, Nat.reduceAdd, Nat.reduceMul, Int.reduceAdd, Int.reduceSub, Int.reduceNeg, Int.reduceMul, Int.reduceEq, Int.reduceLT, Int.reduceLE, Nat.reduceSub, Int.reduceNatCast, Nat.reduceLeDiff, oz.ra4]
      | (with_reducible (first | apply cd_split | apply gd_split)) <;> (intro hc; (try simp only [Bool.not_eq_true', Bool.not_eq_false'] at hc); (try simp only [hc]); (try simp only [hcl, Int.not_lt, Int.not_le, Nat.not_lt, Nat.not_le] at hc); try omega))
    subst hQ
    exact ⟨by rw [takeE_1 hc (by omega)]; rfl, (s1).past' sz fun i hi => by rw [hi]; exact Nat.le_refl _⟩
  · rw [hc]; unfold triT
    repeat' (first
      | with_reducible (first | apply Ok.sq | apply Ok.block | apply Ok.rg | apply Ok.dw hmix | apply Ok.cd | apply Ok.skip | apply Ok.exit | apply Ok.ret)
      | simp (disch := first | omega | (simp only [List.length_append, List.length_cons, List.length_nil, List.length_take, List.length_drop, List.length_map, List.length_set]; omega)) only [wlk, ↓get_put', Nat.reduceEqDiff, Nat.reduceLT, ↓reduceIte, Int.reduceToNat, Nat.reducePow, Nat.min_eq_left, Nat.reduceAdd, Nat.reduceMul, Int.reduceAdd, Int.reduceSub, Int.reduceNeg, Int.reduceMul, Int.reduceEq, Int.reduceLT, Int.reduceLE, Nat.reduceSub, Int.reduceNatCast, Nat.reduceLeDiff]
      | (with_reducible (first | apply cd_split | apply gd_split)) <;> (intro hc; (try simp only [Bool.not_eq_true', Bool.not_eq_false'] at hc); (try simp only [hc]); (try simp only [hcl, Int.not_lt, Int.not_le, Nat.not_lt, Nat.not_le] at hc); try omega))
    refine ST.all o1 rfl rfl (by simp) (by simp) fun hz oz sz => ?_
    repeat' (first
      | with_reducible (first | apply Ok.sq | apply Ok.block | apply Ok.rg | apply Ok.dw hmix | apply Ok.cd | apply Ok.skip | apply Ok.exit | apply Ok.ret)
      | simp (disch := first | omega | (simp only [List.length_append, List.length_cons, List.length_nil, List.length_take, List.length_drop, List.length_map, List.length_set]; omega)) only [wlk, ↓get_put', Nat.reduceEqDiff, Nat.reduceLT, ↓reduceIte, Int.reduceToNat, Nat.reducePow, Nat.min_eq_left, Nat.reduceAdd, Nat.reduceMul, Int.reduceAdd, Int.reduceSub, Int.reduceNeg, Int.reduceMul, Int.reduceEq, Int.reduceLT, Int.reduceLE, Nat.reduceSub, Int.reduceNatCast, Nat.reduceLeDiff, oz.ra4]
      | (with_reducible (first | apply cd_split | apply gd_split)) <;> (intro hc; (try simp only [Bool.not_eq_true', Bool.not_eq_false'] at hc); (try simp only [hc]); (try simp only [hcl, Int.not_lt, Int.not_le, Nat.not_lt, Nat.not_le] at hc); try omega))
    subst hQ
    exact ⟨by rw [takeE_1 hc (by omega)]; rfl, (s1).past' sz fun i hi => by rw [hi]; exact Nat.le_refl _⟩
  rw [hc]; unfold triT
  repeat' (first
    | with_reducible (first | apply Ok.sq | apply Ok.block | apply Ok.rg | apply Ok.dw hmix | apply Ok.cd | apply Ok.skip | apply Ok.exit | apply Ok.ret)
    | simp (disch := first | omega | (simp only [List.length_append, List.length_cons, List.length_nil, List.length_take, List.length_drop, List.length_map, List.length_set]; omega)) only [wlk, ↓get_put', Nat.reduceEqDiff, Nat.reduceLT, ↓reduceIte, Int.reduceToNat, Nat.reducePow, Nat.min_eq_left, Nat.reduceAdd, Nat.reduceMul, Int.reduceAdd, Int.reduceSub, Int.reduceNeg, Int.reduceMul, Int.reduceEq, Int.reduceLT, Int.reduceLE, Nat.reduceSub, Int.reduceNatCast, Nat.reduceLeDiff, Int.toNat_natCast]
    | (with_reducible (first | apply cd_split | apply gd_split)) <;> (intro hc; (try simp only [Bool.not_eq_true', Bool.not_eq_false'] at hc); (try simp only [hc]); (try simp only [hcl, Int.not_lt, Int.not_le, Nat.not_lt, Nat.not_le] at hc); try omega))
  have hd : (s.drop n).length = s.length - n := List.length_drop
  refine CL.pure (takeNum_ok (by omega)) ?_
  rcases takeN_range (s.drop n) with (hn | hn) | ⟨q, m, hn, m1, m2, m3, m4⟩
  · rw [hn]; unfold tri
    repeat' (first
      | with_reducible (first | apply Ok.sq | apply Ok.block | apply Ok.rg | apply Ok.dw hmix | apply Ok.cd | apply Ok.skip | apply Ok.exit | apply Ok.ret)
      | simp (disch := first | omega | (simp only [List.length_append, List.length_cons, List.length_nil, List.length_take, List.length_drop, List.length_map, List.length_set]; omega)) only [wlk, ↓get_put', Nat.reduceEqDiff, Nat.reduceLT, ↓reduceIte, Int.reduceToNat, Nat.reducePow, Nat.min_eq_left, Nat.reduceAdd, Nat.reduceMul, Int.reduceAdd, Int.reduceSub, Int.reduceNeg, Int.reduceMul, Int.reduceEq, Int.reduceLT, Int.reduceLE, Nat.reduceSub, Int.reduceNatCast, Nat.reduceLeDiff]
      | (with_reducible (first | apply cd_split | apply gd_split)) <;> (intro hc; (try simp only [Bool.not_eq_true', Bool.not_eq_false'] at hc); (try simp only [hc]); (try simp only [hcl, Int.not_lt, Int.not_le, Nat.not_lt, Nat.not_le] at hc); try omega))
    refine ST.all o1 rfl rfl (by simp) (by simp) fun hz oz sz => ?_
    repeat' (first
      | with_reducible (first | apply Ok.sq | apply Ok.block | apply Ok.rg | apply Ok.dw hmix | apply Ok.cd | apply Ok.skip | apply Ok.exit | apply Ok.ret)
      | simp (disch := first | omega | (simp only [List.length_append, List.length_cons, List.length_nil, List.length_take, List.length_drop, List.length_map, List.length_set]; omega)) only [wlk, ↓get_put', Nat.reduceEqDiff, Nat.reduceLT, ↓reduceIte, Int.reduceToNat, Nat.reducePow, Nat.min_eq_left, Nat.reduceAdd, Nat.reduceMul, Int.reduceAdd, Int.reduceSub, Int.reduceNeg, Int.reduceMul, Int.reduceEq, Int.reduceLT, Int.reduceLE, Nat.reduceSub, Int.reduceNatCast, Nat.reduceLeDiff, oz.ra4]
      | (with_reducible (first | apply cd_split | apply gd_split)) <;> (intro hc; (try simp only [Bool.not_eq_true', Bool.not_eq_false'] at hc); (try simp only [hc]); (try simp only [hcl, Int.not_lt, Int.not_le, Nat.not_lt, Nat.not_le] at hc); try omega))
    subst hQ
    exact ⟨by rw [takeE_3 hc (tailU_1 hn (by omega)) (by omega)]; rfl, (s1).past' sz fun i hi => by rw [hi]; exact Nat.le_refl _⟩
  · rw [hn]; unfold tri
    repeat' (first
      | with_reducible (first | apply Ok.sq | apply Ok.block | apply Ok.rg | apply Ok.dw hmix | apply Ok.cd | apply Ok.skip | apply Ok.exit | apply Ok.ret)
      | simp (disch := first | omega | (simp only [List.length_append, List.length_cons, List.length_nil, List.length_take, List.length_drop, List.length_map, List.length_set]; omega)) only [wlk, ↓get_put', Nat.reduceEqDiff, Nat.reduceLT, ↓reduceIte, Int.reduceToNat, Nat.reducePow, Nat.min_eq_left, Nat.reduceAdd, Nat.reduceMul, Int.reduceAdd, Int.reduceSub, Int.reduceNeg, Int.reduceMul, Int.reduceEq, Int.reduceLT, Int.reduceLE, Nat.reduceSub, Int.reduceNatCast, Nat.reduceLeDiff]
      | (with_reducible (first | apply cd_split | apply gd_split)) <;> (intro hc; (try simp only [Bool.not_eq_true', Bool.not_eq_false'] at hc); (try simp only [hc]); (try simp only [hcl, Int.not_lt, Int.not_le, Nat.not_lt, Nat.not_le] at hc); try omega))
    refine ST.all o1 rfl rfl (by simp) (by simp) fun hz oz sz => ?_
    repeat' (first
      | with_reducible (first | apply Ok.sq | apply Ok.block | apply Ok.rg | apply Ok.dw hmix | apply Ok.cd | apply Ok.skip | apply Ok.exit | apply Ok.ret)
      | simp (disch := first | omega | (simp only [List.length_append, List.length_cons, List.length_nil, List.length_take, List.length_drop, List.length_map, List.length_set]; omega)) only [wlk, ↓get_put', Nat.reduceEqDiff, Nat.reduceLT, ↓reduceIte, Int.reduceToNat, Nat.reducePow, Nat.min_eq_left, Nat.reduceAdd, Nat.reduceMul, Int.reduceAdd, Int.reduceSub, Int.reduceNeg, Int.reduceMul, Int.reduceEq, Int.reduceLT, Int.reduceLE, Nat.reduceSub, Int.reduceNatCast, Nat.reduceLeDiff, oz.ra4]
      | (with_reducible (first | apply cd_split | apply gd_split)) <;> (intro hc; (try simp only [Bool.not_eq_true', Bool.not_eq_false'] at hc); (try simp only [hc]); (try simp only [hcl, Int.not_lt, Int.not_le, Nat.not_lt, Nat.not_le] at hc); try omega))
    subst hQ
    exact ⟨by rw [takeE_3 hc (tailU_1 hn (by omega)) (by omega)]; rfl, (s1).past' sz fun i hi => by rw [hi]; exact Nat.le_refl _⟩
  rw [hn]; unfold tri
  have hg := getD_drop (s := s) n m
  have hb := (s.getD (n + m) 0).toNat_lt
  have ek : ((n : Int) + (m : Int)).toNat = n + m := by omega
  have ej : ((n : Int) + (m : Int) + 1).toNat = n + m + 1 := by omega
  have hdd : (s.drop n).drop (m + 1) = s.drop (n + m + 1) := by rw [List.drop_drop]; congr 1
  have hdl : (s.drop (n + m + 1)).length = s.length - (n + m + 1) := List.length_drop
  by_cases hm : m = (s.drop n).length
  · have hq : ((n : Int) + (m : Int) = (s.length : Int)) = True := eq_true (by omega)
    repeat' (first
      | with_reducible (first | apply Ok.sq | apply Ok.block | apply Ok.rg | apply Ok.dw hmix | apply Ok.cd | apply Ok.skip | apply Ok.exit | apply Ok.ret)
      | simp (disch := first | omega | (simp only [List.length_append, List.length_cons, List.length_nil, List.length_take, List.length_drop, List.length_map, List.length_set]; omega)) only [wlk, ↓get_put', Nat.reduceEqDiff, Nat.reduceLT, ↓reduceIte, Int.reduceToNat, Nat.reducePow, Nat.min_eq_left, Nat.reduceAdd, Nat.reduceMul, Int.reduceAdd, Int.reduceSub, Int.reduceNeg, Int.reduceMul, Int.reduceEq, Int.reduceLT, Int.reduceLE, Nat.reduceSub, Int.reduceNatCast, Nat.reduceLeDiff, ek, ej, hq]
      | (with_reducible (first | apply cd_split | apply gd_split)) <;> (intro hc; (try simp only [Bool.not_eq_true', Bool.not_eq_false'] at hc); (try simp only [hc]); (try simp only [hcl, Int.not_lt, Int.not_le, Nat.not_lt, Nat.not_le] at hc); try omega))
    refine ST.all o1 rfl rfl (by simp) (by simp) fun hz oz sz => ?_
    repeat' (first
      | with_reducible (first | apply Ok.sq | apply Ok.block | apply Ok.rg | apply Ok.dw hmix | apply Ok.cd | apply Ok.skip | apply Ok.exit | apply Ok.ret)
      | simp (disch := first | omega | (simp only [List.length_append, List.length_cons, List.length_nil, List.length_take, List.length_drop, List.length_map, List.length_set]; omega)) only [wlk, ↓get_put', Nat.reduceEqDiff, Nat.reduceLT, ↓reduceIte, Int.reduceToNat, Nat.reducePow, Nat.min_eq_left, Nat.reduceAdd, Nat.reduceMul, Int.reduceAdd, Int.reduceSub, Int.reduceNeg, Int.reduceMul, Int.reduceEq, Int.reduceLT, Int.reduceLE, Nat.reduceSub, Int.reduceNatCast, Nat.reduceLeDiff, oz.ra4]
      | (with_reducible (first | apply cd_split | apply gd_split)) <;> (intro hc; (try simp only [Bool.not_eq_true', Bool.not_eq_false'] at hc); (try simp only [hc]); (try simp only [hcl, Int.not_lt, Int.not_le, Nat.not_lt, Nat.not_le] at hc); try omega))
    subst hQ
    exact ⟨by rw [takeE_3 hc (tailU_2 hn hm) (by omega)]; rfl, (s1).past' sz fun i hi => by rw [hi]; exact Nat.le_refl _⟩
  have hq : ((n : Int) + (m : Int) = (s.length : Int)) = False := eq_false (by omega)
  by_cases c0 : (s.getD (n + m) 0).toNat = 0
  · repeat' (first
      | with_reducible (first | apply Ok.sq | apply Ok.block | apply Ok.rg | apply Ok.dw hmix | apply Ok.cd | apply Ok.skip | apply Ok.exit | apply Ok.ret)
      | simp (disch := first | omega | (simp only [List.length_append, List.length_cons, List.length_nil, List.length_take, List.length_drop, List.length_map, List.length_set]; omega)) only [wlk, ↓get_put', Nat.reduceEqDiff, Nat.reduceLT, ↓reduceIte, Int.reduceToNat, Nat.reducePow, Nat.min_eq_left, Nat.reduceAdd, Nat.reduceMul, Int.reduceAdd, Int.reduceSub, Int.reduceNeg, Int.reduceMul, Int.reduceEq, Int.reduceLT, Int.reduceLE, Nat.reduceSub, Int.reduceNatCast, Nat.reduceLeDiff, ek, ej, hq, c0]
      | (with_reducible (first | apply cd_split | apply gd_split)) <;> (intro hc; (try simp only [Bool.not_eq_true', Bool.not_eq_false'] at hc); (try simp only [hc]); (try simp only [hcl, Int.not_lt, Int.not_le, Nat.not_lt, Nat.not_le] at hc); try omega))
    refine CL.pure (takeText_ok (by omega)) ?_
    rcases takeT_range (s.drop (n + m + 1)) with (hv | hv) | ⟨v, j, hv, j1, j2, j3⟩
    · rw [hv]; unfold triT
      repeat' (first
        | with_reducible (first | apply Ok.sq | apply Ok.block | apply Ok.rg | apply Ok.dw hmix | apply Ok.cd | apply Ok.skip | apply Ok.exit | apply Ok.ret)
        | simp (disch := first | omega | (simp only [List.length_append, List.length_cons, List.length_nil, List.length_take, List.length_drop, List.length_map, List.length_set]; omega)) only [wlk, ↓get_put', Nat.reduceEqDiff, Nat.reduceLT, ↓reduceIte, Int.reduceToNat, Nat.reducePow, Nat.min_eq_left, Nat.reduceAdd, Nat.reduceMul, Int.reduceAdd, Int.reduceSub, Int.reduceNeg, Int.reduceMul, Int.reduceEq, Int.reduceLT, Int.reduceLE, Nat.reduceSub, Int.reduceNatCast, Nat.reduceLeDiff]
        | (with_reducible (first | apply cd_split | apply gd_split)) <;> (intro hc; (try simp only [Bool.not_eq_true', Bool.not_eq_false'] at hc); (try simp only [hc]); (try simp only [hcl, Int.not_lt, Int.not_le, Nat.not_lt, Nat.not_le] at hc); try omega))
      refine ST.all o1 rfl rfl (by simp) (by simp) fun hz oz sz => ?_
      repeat' (first
        | with_reducible (first | apply Ok.sq | apply Ok.block | apply Ok.rg | apply Ok.dw hmix | apply Ok.cd | apply Ok.skip | apply Ok.exit | apply Ok.ret)
        | simp (disch := first | omega | (simp only [List.length_append, List.length_cons, List.length_nil, List.length_take, List.length_drop, List.length_map, List.length_set]; omega)) only [wlk, ↓get_put', Nat.reduceEqDiff, Nat.reduceLT, ↓reduceIte, Int.reduceToNat, Nat.reducePow, Nat.min_eq_left, Nat.reduceAdd, Nat.reduceMul, Int.reduceAdd, Int.reduceSub, Int.reduceNeg, Int.reduceMul, Int.reduceEq, Int.reduceLT, Int.reduceLE, Nat.reduceSub, Int.reduceNatCast, Nat.reduceLeDiff, oz.ra4]
        | (with_reducible (first | apply cd_split | apply gd_split)) <;> (intro hc; (try simp only [Bool.not_eq_true', Bool.not_eq_false'] at hc); (try simp only [hc]); (try simp only [hcl, Int.not_lt, Int.not_le, Nat.not_lt, Nat.not_le] at hc); try omega))
      subst hQ
      exact ⟨by rw [takeE_3 hc (tailU_3 hn hm (by rw [hg]; exact c0) (by rw [hdd]; exact hv) (by omega)) (by omega)]; rfl, (s1).past' sz fun i hi => by rw [hi]; exact Nat.le_refl _⟩
    · rw [hv]; unfold triT
      repeat' (first
        | with_reducible (first | apply Ok.sq | apply Ok.block | apply Ok.rg | apply Ok.dw hmix | apply Ok.cd | apply Ok.skip | apply Ok.exit | apply Ok.ret)
        | simp (disch := first | omega | (simp only [List.length_append, List.length_cons, List.length_nil, List.length_take, List.length_drop, List.length_map, List.length_set]; omega)) only [wlk, ↓get_put', Nat.reduceEqDiff, Nat.reduceLT, ↓reduceIte, Int.reduceToNat, Nat.reducePow, Nat.min_eq_left, Nat.reduceAdd, Nat.reduceMul, Int.reduceAdd, Int.reduceSub, Int.reduceNeg, Int.reduceMul, Int.reduceEq, Int.reduceLT, Int.reduceLE, Nat.reduceSub, Int.reduceNatCast, Nat.reduceLeDiff]
        | (with_reducible (first | apply cd_split | apply gd_split)) <;> (intro hc; (try simp only [Bool.not_eq_true', Bool.not_eq_false'] at hc); (try simp only [hc]); (try simp only [hcl, Int.not_lt, Int.not_le, Nat.not_lt, Nat.not_le] at hc); try omega))
      refine ST.all o1 rfl rfl (by simp) (by simp) fun hz oz sz => ?_
      repeat' (first
        | with_reducible (first | apply Ok.sq | apply Ok.block | apply Ok.rg | apply Ok.dw hmix | apply Ok.cd | apply Ok.skip | apply Ok.exit | apply Ok.ret)
        | simp (disch := first | omega | (simp only [List.length_append, List.length_cons, List.length_nil, List.length_take, List.length_drop, List.length_map, List.length_set]; omega)) only [wlk, ↓get_put', Nat.reduceEqDiff, Nat.reduceLT, ↓reduceIte, Int.reduceToNat, Nat.reducePow, Nat.min_eq_left, Nat.reduceAdd, Nat.reduceMul, Int.reduceAdd, Int.reduceSub, Int.reduceNeg, Int.reduceMul, Int.reduceEq, Int.reduceLT, Int.reduceLE, Nat.reduceSub, Int.reduceNatCast, Nat.reduceLeDiff, oz.ra4]
        | (with_reducible (first | apply cd_split | apply gd_split)) <;> (intro hc; (try simp only [Bool.not_eq_true', Bool.not_eq_false'] at hc); (try simp only [hc]); (try simp only [hcl, Int.not_lt, Int.not_le, Nat.not_lt, Nat.not_le] at hc); try omega))
      subst hQ
      exact ⟨by rw [takeE_3 hc (tailU_3 hn hm (by rw [hg]; exact c0) (by rw [hdd]; exact hv) (by omega)) (by omega)]; rfl, (s1).past' sz fun i hi => by rw [hi]; exact Nat.le_refl _⟩
    rw [hv]; unfold triT
    repeat' (first
      | with_reducible (first | apply Ok.sq | apply Ok.block | apply Ok.rg | apply Ok.dw hmix | apply Ok.cd | apply Ok.skip | apply Ok.exit | apply Ok.ret)
      | simp (disch := first | omega | (simp only [List.length_append, List.length_cons, List.length_nil, List.length_take, List.length_drop, List.length_map, List.length_set]; omega)) only [wlk, ↓get_put', Nat.reduceEqDiff, Nat.reduceLT, ↓reduceIte, Int.reduceToNat, Nat.reducePow, Nat.min_eq_left, Nat.reduceAdd, Nat.reduceMul, Int.reduceAdd, Int.reduceSub, Int.reduceNeg, Int.reduceMul, Int.reduceEq, Int.reduceLT, Int.reduceLE, Nat.reduceSub, Int.reduceNatCast, Nat.reduceLeDiff]
      | (with_reducible (first | apply cd_split | apply gd_split)) <;> (intro hc; (try simp only [Bool.not_eq_true', Bool.not_eq_false'] at hc); (try simp only [hc]); (try simp only [hcl, Int.not_lt, Int.not_le, Nat.not_lt, Nat.not_le] at hc); try omega))
    have ez : (n : Int) + ((m : Int) + 1 + (j : Int)) = (n : Int) + (m : Int) + 1 + (j : Int) := by omega
    refine ST.all o1 rfl rfl (by simp) (by simp) fun hz oz sz => ?_
    repeat' (first
      | with_reducible (first | apply Ok.sq | apply Ok.block | apply Ok.rg | apply Ok.dw hmix | apply Ok.cd | apply Ok.skip | apply Ok.exit | apply Ok.ret)
      | simp (disch := first | omega | (simp only [List.length_append, List.length_cons, List.length_nil, List.length_take, List.length_drop, List.length_map, List.length_set]; omega)) only [wlk, ↓get_put', Nat.reduceEqDiff, Nat.reduceLT, ↓reduceIte, Int.reduceToNat, Nat.reducePow, Nat.min_eq_left, Nat.reduceAdd, Nat.reduceMul, Int.reduceAdd, Int.reduceSub, Int.reduceNeg, Int.reduceMul, Int.reduceEq, Int.reduceLT, Int.reduceLE, Nat.reduceSub, Int.reduceNatCast, Nat.reduceLeDiff, oz.ra4]
      | (with_reducible (first | apply cd_split | apply gd_split)) <;> (intro hc; (try simp only [Bool.not_eq_true', Bool.not_eq_false'] at hc); (try simp only [hc]); (try simp only [hcl, Int.not_lt, Int.not_le, Nat.not_lt, Nat.not_le] at hc); try omega))
    subst hQ
    exact ⟨by rw [takeE_4 hc (tailU_4 hn hm (by rw [hg]; exact c0) (by rw [hdd]; exact hv)), ez]; rfl, (s1).past' sz fun i hi => by rw [hi]; exact Nat.le_refl _⟩
  have q0 : (((s.getD (n + m) 0).toNat : Int) = 0) = False := eq_false (by omega)
  by_cases c1 : (s.getD (n + m) 0).toNat = 1
  · repeat' (first
      | with_reducible (first | apply Ok.sq | apply Ok.block | apply Ok.rg | apply Ok.dw hmix | apply Ok.cd | apply Ok.skip | apply Ok.exit | apply Ok.ret)
      | simp (disch := first | omega | (simp only [List.length_append, List.length_cons, List.length_nil, List.length_take, List.length_drop, List.length_map, List.length_set]; omega)) only [wlk, ↓get_put', Nat.reduceEqDiff, Nat.reduceLT, ↓reduceIte, Int.reduceToNat, Nat.reducePow, Nat.min_eq_left, Nat.reduceAdd, Nat.reduceMul, Int.reduceAdd, Int.reduceSub, Int.reduceNeg, Int.reduceMul, Int.reduceEq, Int.reduceLT, Int.reduceLE, Nat.reduceSub, Int.reduceNatCast, Nat.reduceLeDiff, ek, ej, hq, q0, c1]
      | (with_reducible (first | apply cd_split | apply gd_split)) <;> (intro hc; (try simp only [Bool.not_eq_true', Bool.not_eq_false'] at hc); (try simp only [hc]); (try simp only [hcl, Int.not_lt, Int.not_le, Nat.not_lt, Nat.not_le] at hc); try omega))
    have ez : (n : Int) + ((m : Int) + 1) = (n : Int) + (m : Int) + 1 := by omega
    refine ST.all o1 rfl rfl (by simp) (by simp) fun hz oz sz => ?_
    repeat' (first
      | with_reducible (first | apply Ok.sq | apply Ok.block | apply Ok.rg | apply Ok.dw hmix | apply Ok.cd | apply Ok.skip | apply Ok.exit | apply Ok.ret)
      | simp (disch := first | omega | (simp only [List.length_append, List.length_cons, List.length_nil, List.length_take, List.length_drop, List.length_map, List.length_set]; omega)) only [wlk, ↓get_put', Nat.reduceEqDiff, Nat.reduceLT, ↓reduceIte, Int.reduceToNat, Nat.reducePow, Nat.min_eq_left, Nat.reduceAdd, Nat.reduceMul, Int.reduceAdd, Int.reduceSub, Int.reduceNeg, Int.reduceMul, Int.reduceEq, Int.reduceLT, Int.reduceLE, Nat.reduceSub, Int.reduceNatCast, Nat.reduceLeDiff, oz.ra4]
      | (with_reducible (first | apply cd_split | apply gd_split)) <;> (intro hc; (try simp only [Bool.not_eq_true', Bool.not_eq_false'] at hc); (try simp only [hc]); (try simp only [hcl, Int.not_lt, Int.not_le, Nat.not_lt, Nat.not_le] at hc); try omega))
    subst hQ
    exact ⟨by rw [takeE_4 hc (tailU_5 hn hm (by rw [hg]; exact c1)), ez]; rfl, (s1).past' sz fun i hi => by rw [hi]; exact Nat.le_refl _⟩
  have q1 : (((s.getD (n + m) 0).toNat : Int) = 1) = False := eq_false (by omega)
  repeat' (first
    | with_reducible (first | apply Ok.sq | apply Ok.block | apply Ok.rg | apply Ok.dw hmix | apply Ok.cd | apply Ok.skip | apply Ok.exit | apply Ok.ret)
    | simp (disch := first | omega | (simp only [List.length_append, List.length_cons, List.length_nil, List.length_take, List.length_drop, List.length_map, List.length_set]; omega)) only [wlk, ↓get_put', Nat.reduceEqDiff, Nat.reduceLT, ↓reduceIte, Int.reduceToNat, Nat.reducePow, Nat.min_eq_left, Nat.reduceAdd, Nat.reduceMul, Int.reduceAdd, Int.reduceSub, Int.reduceNeg, Int.reduceMul, Int.reduceEq, Int.reduceLT, Int.reduceLE, Nat.reduceSub, Int.reduceNatCast, Nat.reduceLeDiff, ek, ej, hq, q0, q1]
    | (with_reducible (first | apply cd_split | apply gd_split)) <;> (intro hc; (try simp only [Bool.not_eq_true', Bool.not_eq_false'] at hc); (try simp only [hc]); (try simp only [hcl, Int.not_lt, Int.not_le, Nat.not_lt, Nat.not_le] at hc); try omega))
  refine ST.all o1 rfl rfl (by simp) (by simp) fun hz oz sz => ?_
  repeat' (first
    | with_reducible (first | apply Ok.sq | apply Ok.block | apply Ok.rg | apply Ok.dw hmix | apply Ok.cd | apply Ok.skip | apply Ok.exit | apply Ok.ret)
    | simp (disch := first | omega | (simp only [List.length_append, List.length_cons, List.length_nil, List.length_take, List.length_drop, List.length_map, List.length_set]; omega)) only [wlk, ↓get_put', Nat.reduceEqDiff, Nat.reduceLT, ↓reduceIte, Int.reduceToNat, Nat.reducePow, Nat.min_eq_left, Nat.reduceAdd, Nat.reduceMul, Int.reduceAdd, Int.reduceSub, Int.reduceNeg, Int.reduceMul, Int.reduceEq, Int.reduceLT, Int.reduceLE, Nat.reduceSub, Int.reduceNatCast, Nat.reduceLeDiff, oz.ra4]
    | (with_reducible (first | apply cd_split | apply gd_split)) <;> (intro hc; (try simp only [Bool.not_eq_true', Bool.not_eq_false'] at hc); (try simp only [hc]); (try simp only [hcl, Int.not_lt, Int.not_le, Nat.not_lt, Nat.not_le] at hc); try omega))
  subst hQ
  exact ⟨by rw [takeE_3 hc (tailU_6 hn hm (by rw [hg]; exact c0) (by rw [hg]; exact c1)) (by omega)]; rfl, (s1).past' sz fun i hi => by rw [hi]; exact Nat.le_refl _⟩
end Go.Proofs.Ytkfliakkopidmaa
