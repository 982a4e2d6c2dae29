/- Package entry, and the document's entries: Bytes, Tail, by what they compute. No condition. -/
import Derived.Test.YtkfliakkopidmaaNEnt1
set_option maxRecDepth 100000
set_option maxHeartbeats 8000000
set_option linter.all false
namespace Go.Proofs.Ytkfliakkopidmaa
open Go Go.Ev

theorem isE_len {e : Ent} (h : isE e = true) : e.key.length ≤ 13 ∧ e.val.length ≤ 24 ∧ 1 ≤ e.seq ∧ e.seq ≤ 1000000 := by
  obtain ⟨⟨h1, h2⟩, h3, h4, h5, _⟩ := isE_iff.1 h; exact ⟨h4, h5, h1, h2⟩
theorem textB_len (l : List UInt8) (h : l.length ≤ 9223372036854775807) : (textB l).length ≤ l.length + 9 := by
  unfold textB; rw [List.length_append]; have := numB_len h; omega
theorem bytes_ok {h : H} {e : Ent} (hf : B.val h.floor ≤ B.val h.next) : FnOk Try.prog 49 [.a [sv e.key, .i .i64 e.seq, .b e.del, sv e.val]] h fun y h' => y = sv (bytesE e) ∧ Stay nowhere h h' := by
  refine fn_go c49 (by intro hb; cases hb) (by simp) (by simp) fun Q hQ => ?_
  simp only [slotsF, Nat.reduceAdd]
  repeat' (first
    | with_reducible (first | apply Ok.sq | apply Ok.block | apply Ok.rg | apply Ok.dw hmix | apply Ok.cd | apply Ok.skip | apply Ok.exit | apply Ok.ret)
    | simp (disch := first | omega | (simp only [List.length_append, List.length_cons, List.length_nil, List.length_take, List.length_drop, List.length_map, List.length_set]; omega)) only [wlk, ↓get_put', Nat.reduceEqDiff, Nat.reduceLT, ↓reduceIte, Int.reduceToNat, Nat.reducePow, Nat.min_eq_left, Nat.reduceAdd, Nat.reduceMul, Int.reduceAdd, Int.reduceSub, Int.reduceNeg, Int.reduceMul, Int.reduceEq, Int.reduceLT, Int.reduceLE, Nat.reduceSub, Int.reduceNatCast, Nat.reduceLeDiff]
    | (with_reducible (first | apply cd_split | apply gd_split)) <;> (intro hc; (try simp only [Bool.not_eq_true', Bool.not_eq_false'] at hc); (try simp only [hc]); (try simp only [hcl, Int.not_lt, Int.not_le, Nat.not_lt, Nat.not_le] at hc); try omega))
  refine AL.own (by simp) hf fun h1 s1 n1 o1 => ?_
  have hf1 := s1.fl hf
  repeat' (first
    | with_reducible (first | apply Ok.sq | apply Ok.block | apply Ok.rg | apply Ok.dw hmix | apply Ok.cd | apply Ok.skip | apply Ok.exit | apply Ok.ret)
    | simp (disch := first | omega | (simp only [List.length_append, List.length_cons, List.length_nil, List.length_take, List.length_drop, List.length_map, List.length_set]; omega)) only [wlk, ↓get_put', Nat.reduceEqDiff, Nat.reduceLT, ↓reduceIte, Int.reduceToNat, Nat.reducePow, Nat.min_eq_left, Nat.reduceAdd, Nat.reduceMul, Int.reduceAdd, Int.reduceSub, Int.reduceNeg, Int.reduceMul, Int.reduceEq, Int.reduceLT, Int.reduceLE, Nat.reduceSub, Int.reduceNatCast, Nat.reduceLeDiff, o1.row.l1, o1.row.ln]
    | (with_reducible (first | apply cd_split | apply gd_split)) <;> (intro hc; (try simp only [Bool.not_eq_true', Bool.not_eq_false'] at hc); (try simp only [hc]); (try simp only [hcl, Int.not_lt, Int.not_le, Nat.not_lt, Nat.not_le] at hc); try omega))
  refine CL.stay (is_ok hf1) fun h2 s2 => ?_
  have hf2 := s2.fl hf1
  have o2 := o1.stay s2 fun h => h
  cases hi : isE e with
  | false =>
    repeat' (first
      | with_reducible (first | apply Ok.sq | apply Ok.block | apply Ok.rg | apply Ok.dw hmix | apply Ok.cd | apply Ok.skip | apply Ok.exit | apply Ok.ret)
      | simp (disch := first | omega | (simp only [List.length_append, List.length_cons, List.length_nil, List.length_take, List.length_drop, List.length_map, List.length_set]; omega)) only [wlk, ↓get_put', Nat.reduceEqDiff, Nat.reduceLT, ↓reduceIte, Int.reduceToNat, Nat.reducePow, Nat.min_eq_left, Nat.reduceAdd, Nat.reduceMul, Int.reduceAdd, Int.reduceSub, Int.reduceNeg, Int.reduceMul, Int.reduceEq, Int.reduceLT, Int.reduceLE, Nat.reduceSub, Int.reduceNatCast, Nat.reduceLeDiff, o2.row.l1]
      | (with_reducible (first | apply cd_split | apply gd_split)) <;> (intro hc; (try simp only [Bool.not_eq_true', Bool.not_eq_false'] at hc); (try simp only [hc]); (try simp only [hcl, Int.not_lt, Int.not_le, Nat.not_lt, Nat.not_le] at hc); try omega))
    subst hQ
    exact ⟨by unfold bytesE; rw [hi]; rfl, s1.trans s2⟩
  | true =>
  obtain ⟨k1, k2, k3, k4⟩ := isE_len hi
  have hb : bytesE e = textB e.key ++ tailB e := by unfold bytesE; rw [hi]; rfl
  have l1 := textB_len e.key (by omega)
  have l2 := textB_len e.val (by omega)
  have l3 := numB_len (n := e.seq.toNat) (by omega)
  repeat' (first
    | with_reducible (first | apply Ok.sq | apply Ok.block | apply Ok.rg | apply Ok.dw hmix | apply Ok.cd | apply Ok.skip | apply Ok.exit | apply Ok.ret)
    | simp (disch := first | omega | (simp only [List.length_append, List.length_cons, List.length_nil, List.length_take, List.length_drop, List.length_map, List.length_set]; omega)) only [wlk, ↓get_put', Nat.reduceEqDiff, Nat.reduceLT, ↓reduceIte, Int.reduceToNat, Nat.reducePow, Nat.min_eq_left, Nat.reduceAdd, Nat.reduceMul, Int.reduceAdd, Int.reduceSub, Int.reduceNeg, Int.reduceMul, Int.reduceEq, Int.reduceLT, Int.reduceLE, Nat.reduceSub, Int.reduceNatCast, Nat.reduceLeDiff, o2.row.l1]
    | (with_reducible (first | apply cd_split | apply gd_split)) <;> (intro hc; (try simp only [Bool.not_eq_true', Bool.not_eq_false'] at hc); (try simp only [hc]); (try simp only [hcl, Int.not_lt, Int.not_le, Nat.not_lt, Nat.not_le] at hc); try omega))
  refine CL.stayU (text_ok (by omega) (re_fl _)) fun h3 s3 => ?_
  have o3 := o2.stay s3 fun h => h
  have hf3 := s3.fl hf2
  repeat' (first
    | with_reducible (first | apply Ok.sq | apply Ok.block | apply Ok.rg | apply Ok.dw hmix | apply Ok.cd | apply Ok.skip | apply Ok.exit | apply Ok.ret)
    | simp (disch := first | omega | (simp only [List.length_append, List.length_cons, List.length_nil, List.length_take, List.length_drop, List.length_map, List.length_set]; omega)) only [wlk, ↓get_put', Nat.reduceEqDiff, Nat.reduceLT, ↓reduceIte, Int.reduceToNat, Nat.reducePow, Nat.min_eq_left, Nat.reduceAdd, Nat.reduceMul, Int.reduceAdd, Int.reduceSub, Int.reduceNeg, Int.reduceMul, Int.reduceEq, Int.reduceLT, Int.reduceLE, Nat.reduceSub, Int.reduceNatCast, Nat.reduceLeDiff, o3.row.l1]
    | (with_reducible (first | apply cd_split | apply gd_split)) <;> (intro hc; (try simp only [Bool.not_eq_true', Bool.not_eq_false'] at hc); (try simp only [hc]); (try simp only [hcl, Int.not_lt, Int.not_le, Nat.not_lt, Nat.not_le] at hc); try omega))
  refine CL.stay (num_ok (by omega) hf3) fun h4 s4 => ?_
  have o4 := o3.stay s4 fun h => h
  have hf4 := s4.fl hf3
  have s14 := ((s1.trans s2).trans s3).trans s4
  cases hd : e.del with
  | true =>
    repeat' (first
      | with_reducible (first | apply Ok.sq | apply Ok.block | apply Ok.rg | apply Ok.dw hmix | apply Ok.cd | apply Ok.skip | apply Ok.exit | apply Ok.ret)
      | simp (disch := first | omega | (simp only [List.length_append, List.length_cons, List.length_nil, List.length_take, List.length_drop, List.length_map, List.length_set]; omega)) only [wlk, ↓get_put', Nat.reduceEqDiff, Nat.reduceLT, ↓reduceIte, Int.reduceToNat, Nat.reducePow, Nat.min_eq_left, Nat.reduceAdd, Nat.reduceMul, Int.reduceAdd, Int.reduceSub, Int.reduceNeg, Int.reduceMul, Int.reduceEq, Int.reduceLT, Int.reduceLE, Nat.reduceSub, Int.reduceNatCast, Nat.reduceLeDiff, o4.row.l1, hd]
      | (with_reducible (first | apply cd_split | apply gd_split)) <;> (intro hc; (try simp only [Bool.not_eq_true', Bool.not_eq_false'] at hc); (try simp only [hc]); (try simp only [hcl, Int.not_lt, Int.not_le, Nat.not_lt, Nat.not_le] at hc); try omega))
    refine AL.str (bs := [1]) rfl (by simp) rfl rfl (by simp) hf4 fun h5 u5 s5 => ?_
    repeat' (first
      | with_reducible (first | apply Ok.sq | apply Ok.block | apply Ok.rg | apply Ok.dw hmix | apply Ok.cd | apply Ok.skip | apply Ok.exit | apply Ok.ret)
      | simp (disch := first | omega | (simp only [List.length_append, List.length_cons, List.length_nil, List.length_take, List.length_drop, List.length_map, List.length_set]; omega)) only [wlk, ↓get_put', Nat.reduceEqDiff, Nat.reduceLT, ↓reduceIte, Int.reduceToNat, Nat.reducePow, Nat.min_eq_left, Nat.reduceAdd, Nat.reduceMul, Int.reduceAdd, Int.reduceSub, Int.reduceNeg, Int.reduceMul, Int.reduceEq, Int.reduceLT, Int.reduceLE, Nat.reduceSub, Int.reduceNatCast, Nat.reduceLeDiff]
      | (with_reducible (first | apply cd_split | apply gd_split)) <;> (intro hc; (try simp only [Bool.not_eq_true', Bool.not_eq_false'] at hc); (try simp only [hc]); (try simp only [hcl, Int.not_lt, Int.not_le, Nat.not_lt, Nat.not_le] at hc); try omega))
    subst hQ
    exact ⟨by rw [hb]; unfold tailB; rw [hd]; simp, s14.trans s5⟩
  | false =>
    repeat' (first
      | with_reducible (first | apply Ok.sq | apply Ok.block | apply Ok.rg | apply Ok.dw hmix | apply Ok.cd | apply Ok.skip | apply Ok.exit | apply Ok.ret)
      | simp (disch := first | omega | (simp only [List.length_append, List.length_cons, List.length_nil, List.length_take, List.length_drop, List.length_map, List.length_set]; omega)) only [wlk, ↓get_put', Nat.reduceEqDiff, Nat.reduceLT, ↓reduceIte, Int.reduceToNat, Nat.reducePow, Nat.min_eq_left, Nat.reduceAdd, Nat.reduceMul, Int.reduceAdd, Int.reduceSub, Int.reduceNeg, Int.reduceMul, Int.reduceEq, Int.reduceLT, Int.reduceLE, Nat.reduceSub, Int.reduceNatCast, Nat.reduceLeDiff, o4.row.l1, hd]
      | (with_reducible (first | apply cd_split | apply gd_split)) <;> (intro hc; (try simp only [Bool.not_eq_true', Bool.not_eq_false'] at hc); (try simp only [hc]); (try simp only [hcl, Int.not_lt, Int.not_le, Nat.not_lt, Nat.not_le] at hc); try omega))
    refine AL.strU (bs := [0]) rfl (by simp) rfl rfl (by simp) hf4 fun h5 u5 s5 => ?_
    have o5 := o4.stay s5 fun h => h
    have hf5 := s5.fl hf4
    repeat' (first
      | with_reducible (first | apply Ok.sq | apply Ok.block | apply Ok.rg | apply Ok.dw hmix | apply Ok.cd | apply Ok.skip | apply Ok.exit | apply Ok.ret)
      | simp (disch := first | omega | (simp only [List.length_append, List.length_cons, List.length_nil, List.length_take, List.length_drop, List.length_map, List.length_set]; omega)) only [wlk, ↓get_put', Nat.reduceEqDiff, Nat.reduceLT, ↓reduceIte, Int.reduceToNat, Nat.reducePow, Nat.min_eq_left, Nat.reduceAdd, Nat.reduceMul, Int.reduceAdd, Int.reduceSub, Int.reduceNeg, Int.reduceMul, Int.reduceEq, Int.reduceLT, Int.reduceLE, Nat.reduceSub, Int.reduceNatCast, Nat.reduceLeDiff, o5.row.l1]
      | (with_reducible (first | apply cd_split | apply gd_split)) <;> (intro hc; (try simp only [Bool.not_eq_true', Bool.not_eq_false'] at hc); (try simp only [hc]); (try simp only [hcl, Int.not_lt, Int.not_le, Nat.not_lt, Nat.not_le] at hc); try omega))
    refine CL.stayU (text_ok (by omega) (re_fl _)) fun h6 s6 => ?_
    repeat' (first
      | with_reducible (first | apply Ok.sq | apply Ok.block | apply Ok.rg | apply Ok.dw hmix | apply Ok.cd | apply Ok.skip | apply Ok.exit | apply Ok.ret)
      | simp (disch := first | omega | (simp only [List.length_append, List.length_cons, List.length_nil, List.length_take, List.length_drop, List.length_map, List.length_set]; omega)) only [wlk, ↓get_put', Nat.reduceEqDiff, Nat.reduceLT, ↓reduceIte, Int.reduceToNat, Nat.reducePow, Nat.min_eq_left, Nat.reduceAdd, Nat.reduceMul, Int.reduceAdd, Int.reduceSub, Int.reduceNeg, Int.reduceMul, Int.reduceEq, Int.reduceLT, Int.reduceLE, Nat.reduceSub, Int.reduceNatCast, Nat.reduceLeDiff]
      | (with_reducible (first | apply cd_split | apply gd_split)) <;> (intro hc; (try simp only [Bool.not_eq_true', Bool.not_eq_false'] at hc); (try simp only [hc]); (try simp only [hcl, Int.not_lt, Int.not_le, Nat.not_lt, Nat.not_le] at hc); try omega))
    subst hQ
    exact ⟨by rw [hb]; unfold tailB; rw [hd]; simp, (s14.trans s5).trans s6⟩
theorem rtail_ok {h : H} {e : Ent} (hi : isE e = true) (hf : B.val h.floor ≤ B.val h.next) : FnOk Try.prog 76 [.a [sv e.key, .i .i64 e.seq, .b e.del, sv e.val]] h fun y h' => y = sv (tailB e) ∧ Stay nowhere h h' := by
  refine fn_go c76 (by intro hb; cases hb) (by simp) (by simp) fun Q hQ => ?_
  simp only [slotsF, Nat.reduceAdd]
  repeat' (first
    | with_reducible (first | apply Ok.sq | apply Ok.block | apply Ok.rg | apply Ok.dw hmix | apply Ok.cd | apply Ok.skip | apply Ok.exit | apply Ok.ret)
    | simp (disch := first | omega | (simp only [List.length_append, List.length_cons, List.length_nil, List.length_take, List.length_drop, List.length_map, List.length_set]; omega)) only [wlk, ↓get_put', Nat.reduceEqDiff, Nat.reduceLT, ↓reduceIte, Int.reduceToNat, Nat.reducePow, Nat.min_eq_left, Nat.reduceAdd, Nat.reduceMul, Int.reduceAdd, Int.reduceSub, Int.reduceNeg, Int.reduceMul, Int.reduceEq, Int.reduceLT, Int.reduceLE, Nat.reduceSub, Int.reduceNatCast, Nat.reduceLeDiff]
    | (with_reducible (first | apply cd_split | apply gd_split)) <;> (intro hc; (try simp only [Bool.not_eq_true', Bool.not_eq_false'] at hc); (try simp only [hc]); (try simp only [hcl, Int.not_lt, Int.not_le, Nat.not_lt, Nat.not_le] at hc); try omega))
  refine AL.own (by simp) hf fun h1 s1 n1 o1 => ?_
  have hf1 := s1.fl hf
  obtain ⟨k1, k2, k3, k4⟩ := isE_len hi
  have l2 := textB_len e.val (by omega)
  have l3 := numB_len (n := e.seq.toNat) (by omega)
  cases hd : e.del with
  | true =>
    repeat' (first
      | with_reducible (first | apply Ok.sq | apply Ok.block | apply Ok.rg | apply Ok.dw hmix | apply Ok.cd | apply Ok.skip | apply Ok.exit | apply Ok.ret)
      | simp (disch := first | omega | (simp only [List.length_append, List.length_cons, List.length_nil, List.length_take, List.length_drop, List.length_map, List.length_set]; omega)) only [wlk, ↓get_put', Nat.reduceEqDiff, Nat.reduceLT, ↓reduceIte, Int.reduceToNat, Nat.reducePow, Nat.min_eq_left, Nat.reduceAdd, Nat.reduceMul, Int.reduceAdd, Int.reduceSub, Int.reduceNeg, Int.reduceMul, Int.reduceEq, Int.reduceLT, Int.reduceLE, Nat.reduceSub, Int.reduceNatCast, Nat.reduceLeDiff, o1.row.l1, hd]
      | (with_reducible (first | apply cd_split | apply gd_split)) <;> (intro hc; (try simp only [Bool.not_eq_true', Bool.not_eq_false'] at hc); (try simp only [hc]); (try simp only [hcl, Int.not_lt, Int.not_le, Nat.not_lt, Nat.not_le] at hc); try omega))
    refine CL.stay (rnum_ok (by omega) hf1) fun h2 s2 => ?_
    repeat' (first
      | with_reducible (first | apply Ok.sq | apply Ok.block | apply Ok.rg | apply Ok.dw hmix | apply Ok.cd | apply Ok.skip | apply Ok.exit | apply Ok.ret)
      | simp (disch := first | omega | (simp only [List.length_append, List.length_cons, List.length_nil, List.length_take, List.length_drop, List.length_map, List.length_set]; omega)) only [wlk, ↓get_put', Nat.reduceEqDiff, Nat.reduceLT, ↓reduceIte, Int.reduceToNat, Nat.reducePow, Nat.min_eq_left, Nat.reduceAdd, Nat.reduceMul, Int.reduceAdd, Int.reduceSub, Int.reduceNeg, Int.reduceMul, Int.reduceEq, Int.reduceLT, Int.reduceLE, Nat.reduceSub, Int.reduceNatCast, Nat.reduceLeDiff]
      | (with_reducible (first | apply cd_split | apply gd_split)) <;> (intro hc; (try simp only [Bool.not_eq_true', Bool.not_eq_false'] at hc); (try simp only [hc]); (try simp only [hcl, Int.not_lt, Int.not_le, Nat.not_lt, Nat.not_le] at hc); try omega))
    subst hQ
    exact ⟨by unfold tailB; rw [hd]; simp, s1.trans s2⟩
  | false =>
    repeat' (first
      | with_reducible (first | apply Ok.sq | apply Ok.block | apply Ok.rg | apply Ok.dw hmix | apply Ok.cd | apply Ok.skip | apply Ok.exit | apply Ok.ret)
      | simp (disch := first | omega | (simp only [List.length_append, List.length_cons, List.length_nil, List.length_take, List.length_drop, List.length_map, List.length_set]; omega)) only [wlk, ↓get_put', Nat.reduceEqDiff, Nat.reduceLT, ↓reduceIte, Int.reduceToNat, Nat.reducePow, Nat.min_eq_left, Nat.reduceAdd, Nat.reduceMul, Int.reduceAdd, Int.reduceSub, Int.reduceNeg, Int.reduceMul, Int.reduceEq, Int.reduceLT, Int.reduceLE, Nat.reduceSub, Int.reduceNatCast, Nat.reduceLeDiff, o1.row.l1, hd]
      | (with_reducible (first | apply cd_split | apply gd_split)) <;> (intro hc; (try simp only [Bool.not_eq_true', Bool.not_eq_false'] at hc); (try simp only [hc]); (try simp only [hcl, Int.not_lt, Int.not_le, Nat.not_lt, Nat.not_le] at hc); try omega))
    refine CL.stayU (rnum_ok (by omega) (re_fl _)) fun h2 s2 => ?_
    have hf2 := s2.fl hf1
    have o2 := o1.stay s2 fun h => h
    repeat' (first
      | with_reducible (first | apply Ok.sq | apply Ok.block | apply Ok.rg | apply Ok.dw hmix | apply Ok.cd | apply Ok.skip | apply Ok.exit | apply Ok.ret)
      | simp (disch := first | omega | (simp only [List.length_append, List.length_cons, List.length_nil, List.length_take, List.length_drop, List.length_map, List.length_set]; omega)) only [wlk, ↓get_put', Nat.reduceEqDiff, Nat.reduceLT, ↓reduceIte, Int.reduceToNat, Nat.reducePow, Nat.min_eq_left, Nat.reduceAdd, Nat.reduceMul, Int.reduceAdd, Int.reduceSub, Int.reduceNeg, Int.reduceMul, Int.reduceEq, Int.reduceLT, Int.reduceLE, Nat.reduceSub, Int.reduceNatCast, Nat.reduceLeDiff, o2.row.l1]
      | (with_reducible (first | apply cd_split | apply gd_split)) <;> (intro hc; (try simp only [Bool.not_eq_true', Bool.not_eq_false'] at hc); (try simp only [hc]); (try simp only [hcl, Int.not_lt, Int.not_le, Nat.not_lt, Nat.not_le] at hc); try omega))
    refine CL.stay (rtext_ok (by omega) hf2) fun h3 s3 => ?_
    repeat' (first
      | with_reducible (first | apply Ok.sq | apply Ok.block | apply Ok.rg | apply Ok.dw hmix | apply Ok.cd | apply Ok.skip | apply Ok.exit | apply Ok.ret)
      | simp (disch := first | omega | (simp only [List.length_append, List.length_cons, List.length_nil, List.length_take, List.length_drop, List.length_map, List.length_set]; omega)) only [wlk, ↓get_put', Nat.reduceEqDiff, Nat.reduceLT, ↓reduceIte, Int.reduceToNat, Nat.reducePow, Nat.min_eq_left, Nat.reduceAdd, Nat.reduceMul, Int.reduceAdd, Int.reduceSub, Int.reduceNeg, Int.reduceMul, Int.reduceEq, Int.reduceLT, Int.reduceLE, Nat.reduceSub, Int.reduceNatCast, Nat.reduceLeDiff]
      | (with_reducible (first | apply cd_split | apply gd_split)) <;> (intro hc; (try simp only [Bool.not_eq_true', Bool.not_eq_false'] at hc); (try simp only [hc]); (try simp only [hcl, Int.not_lt, Int.not_le, Nat.not_lt, Nat.not_le] at hc); try omega))
    subst hQ
    exact ⟨by unfold tailB; rw [hd]; simp, (s1.trans s2).trans s3⟩
theorem rbytes_ok {h : H} {e : Ent} (hf : B.val h.floor ≤ B.val h.next) : FnOk Try.prog 50 [.a [sv e.key, .i .i64 e.seq, .b e.del, sv e.val]] h fun y h' => y = sv (bytesE e) ∧ Stay nowhere h h' := by
  refine fn_go c50 (by intro hb; cases hb) (by simp) (by simp) fun Q hQ => ?_
  simp only [slotsF, Nat.reduceAdd]
  repeat' (first
    | with_reducible (first | apply Ok.sq | apply Ok.block | apply Ok.rg | apply Ok.dw hmix | apply Ok.cd | apply Ok.skip | apply Ok.exit | apply Ok.ret)
    | simp (disch := first | omega | (simp only [List.length_append, List.length_cons, List.length_nil, List.length_take, List.length_drop, List.length_map, List.length_set]; omega)) only [wlk, ↓get_put', Nat.reduceEqDiff, Nat.reduceLT, ↓reduceIte, Int.reduceToNat, Nat.reducePow, Nat.min_eq_left, Nat.reduceAdd, Nat.reduceMul, Int.reduceAdd, Int.reduceSub, Int.reduceNeg, Int.reduceMul, Int.reduceEq, Int.reduceLT, Int.reduceLE, Nat.reduceSub, Int.reduceNatCast, Nat.reduceLeDiff]
    | (with_reducible (first | apply cd_split | apply gd_split)) <;> (intro hc; (try simp only [Bool.not_eq_true', Bool.not_eq_false'] at hc); (try simp only [hc]); (try simp only [hcl, Int.not_lt, Int.not_le, Nat.not_lt, Nat.not_le] at hc); try omega))
  refine AL.own (by simp) hf fun h1 s1 n1 o1 => ?_
  have hf1 := s1.fl hf
  repeat' (first
    | with_reducible (first | apply Ok.sq | apply Ok.block | apply Ok.rg | apply Ok.dw hmix | apply Ok.cd | apply Ok.skip | apply Ok.exit | apply Ok.ret)
    | simp (disch := first | omega | (simp only [List.length_append, List.length_cons, List.length_nil, List.length_take, List.length_drop, List.length_map, List.length_set]; omega)) only [wlk, ↓get_put', Nat.reduceEqDiff, Nat.reduceLT, ↓reduceIte, Int.reduceToNat, Nat.reducePow, Nat.min_eq_left, Nat.reduceAdd, Nat.reduceMul, Int.reduceAdd, Int.reduceSub, Int.reduceNeg, Int.reduceMul, Int.reduceEq, Int.reduceLT, Int.reduceLE, Nat.reduceSub, Int.reduceNatCast, Nat.reduceLeDiff, o1.row.l1, o1.row.ln]
    | (with_reducible (first | apply cd_split | apply gd_split)) <;> (intro hc; (try simp only [Bool.not_eq_true', Bool.not_eq_false'] at hc); (try simp only [hc]); (try simp only [hcl, Int.not_lt, Int.not_le, Nat.not_lt, Nat.not_le] at hc); try omega))
  refine CL.stay (ris_ok hf1) fun h2 s2 => ?_
  have hf2 := s2.fl hf1
  have o2 := o1.stay s2 fun h => h
  cases hi : isE e with
  | false =>
    repeat' (first
      | with_reducible (first | apply Ok.sq | apply Ok.block | apply Ok.rg | apply Ok.dw hmix | apply Ok.cd | apply Ok.skip | apply Ok.exit | apply Ok.ret)
      | simp (disch := first | omega | (simp only [List.length_append, List.length_cons, List.length_nil, List.length_take, List.length_drop, List.length_map, List.length_set]; omega)) only [wlk, ↓get_put', Nat.reduceEqDiff, Nat.reduceLT, ↓reduceIte, Int.reduceToNat, Nat.reducePow, Nat.min_eq_left, Nat.reduceAdd, Nat.reduceMul, Int.reduceAdd, Int.reduceSub, Int.reduceNeg, Int.reduceMul, Int.reduceEq, Int.reduceLT, Int.reduceLE, Nat.reduceSub, Int.reduceNatCast, Nat.reduceLeDiff, o2.row.l1]
      | (with_reducible (first | apply cd_split | apply gd_split)) <;> (intro hc; (try simp only [Bool.not_eq_true', Bool.not_eq_false'] at hc); (try simp only [hc]); (try simp only [hcl, Int.not_lt, Int.not_le, Nat.not_lt, Nat.not_le] at hc); try omega))
    subst hQ
    exact ⟨by unfold bytesE; rw [hi]; rfl, s1.trans s2⟩
  | true =>
  obtain ⟨k1, k2, k3, k4⟩ := isE_len hi
  have hb : bytesE e = textB e.key ++ tailB e := by unfold bytesE; rw [hi]; rfl
  have l1 := textB_len e.key (by omega)
  have l2 := textB_len e.val (by omega)
  have l3 := numB_len (n := e.seq.toNat) (by omega)
  repeat' (first
    | with_reducible (first | apply Ok.sq | apply Ok.block | apply Ok.rg | apply Ok.dw hmix | apply Ok.cd | apply Ok.skip | apply Ok.exit | apply Ok.ret)
    | simp (disch := first | omega | (simp only [List.length_append, List.length_cons, List.length_nil, List.length_take, List.length_drop, List.length_map, List.length_set]; omega)) only [wlk, ↓get_put', Nat.reduceEqDiff, Nat.reduceLT, ↓reduceIte, Int.reduceToNat, Nat.reducePow, Nat.min_eq_left, Nat.reduceAdd, Nat.reduceMul, Int.reduceAdd, Int.reduceSub, Int.reduceNeg, Int.reduceMul, Int.reduceEq, Int.reduceLT, Int.reduceLE, Nat.reduceSub, Int.reduceNatCast, Nat.reduceLeDiff, o2.row.l1]
    | (with_reducible (first | apply cd_split | apply gd_split)) <;> (intro hc; (try simp only [Bool.not_eq_true', Bool.not_eq_false'] at hc); (try simp only [hc]); (try simp only [hcl, Int.not_lt, Int.not_le, Nat.not_lt, Nat.not_le] at hc); try omega))
  refine CL.stayU (rtext_ok (by omega) (re_fl _)) fun h3 s3 => ?_
  have o3 := o2.stay s3 fun h => h
  have hf3 := s3.fl hf2
  repeat' (first
    | with_reducible (first | apply Ok.sq | apply Ok.block | apply Ok.rg | apply Ok.dw hmix | apply Ok.cd | apply Ok.skip | apply Ok.exit | apply Ok.ret)
    | simp (disch := first | omega | (simp only [List.length_append, List.length_cons, List.length_nil, List.length_take, List.length_drop, List.length_map, List.length_set]; omega)) only [wlk, ↓get_put', Nat.reduceEqDiff, Nat.reduceLT, ↓reduceIte, Int.reduceToNat, Nat.reducePow, Nat.min_eq_left, Nat.reduceAdd, Nat.reduceMul, Int.reduceAdd, Int.reduceSub, Int.reduceNeg, Int.reduceMul, Int.reduceEq, Int.reduceLT, Int.reduceLE, Nat.reduceSub, Int.reduceNatCast, Nat.reduceLeDiff, o3.row.l1, o3.row.ln]
    | (with_reducible (first | apply cd_split | apply gd_split)) <;> (intro hc; (try simp only [Bool.not_eq_true', Bool.not_eq_false'] at hc); (try simp only [hc]); (try simp only [hcl, Int.not_lt, Int.not_le, Nat.not_lt, Nat.not_le] at hc); try omega))
  refine CL.stay (rtail_ok hi hf3) fun h4 s4 => ?_
  have l4 : (tailB e).length ≤ 100 := by unfold tailB; rw [List.length_append]; split <;> simp <;> omega
  repeat' (first
    | with_reducible (first | apply Ok.sq | apply Ok.block | apply Ok.rg | apply Ok.dw hmix | apply Ok.cd | apply Ok.skip | apply Ok.exit | apply Ok.ret)
    | simp (disch := first | omega | (simp only [List.length_append, List.length_cons, List.length_nil, List.length_take, List.length_drop, List.length_map, List.length_set]; omega)) only [wlk, ↓get_put', Nat.reduceEqDiff, Nat.reduceLT, ↓reduceIte, Int.reduceToNat, Nat.reducePow, Nat.min_eq_left, Nat.reduceAdd, Nat.reduceMul, Int.reduceAdd, Int.reduceSub, Int.reduceNeg, Int.reduceMul, Int.reduceEq, Int.reduceLT, Int.reduceLE, Nat.reduceSub, Int.reduceNatCast, Nat.reduceLeDiff]
    | (with_reducible (first | apply cd_split | apply gd_split)) <;> (intro hc; (try simp only [Bool.not_eq_true', Bool.not_eq_false'] at hc); (try simp only [hc]); (try simp only [hcl, Int.not_lt, Int.not_le, Nat.not_lt, Nat.not_le] at hc); try omega))
  subst hQ
  exact ⟨by rw [hb], ((s1.trans s2).trans s3).trans s4⟩
end Go.Proofs.Ytkfliakkopidmaa
