/- The body of the law EntryNewest returns true. No condition. -/
import Derived.Test.YtkfliakkopidmaaNEntC
import Derived.Test.YtkfliakkopidmaaArgS
set_option maxRecDepth 100000
set_option maxHeartbeats 8000000
set_option linter.all false
namespace Go.Proofs.Ytkfliakkopidmaa
open Go Go.Ev
section
variable {P : Program} {h : H} {N : Nx} {kd : IntKind} {v : V} {xs : List Int} {i : Nat}
theorem kl_ln {h0 : H} (a : Kl h0 kd v xs) : H1 P gLen v h N = N.go P (.i .i64 (xs.length : Int)) h := by rw [Lst.ln a, List.length_map]
theorem kl_ix {h0 : H} (a : Kl h0 kd v xs) (hi : i < xs.length) : IX P 1 v i h N = N.go P (.p (lid v) (lg v) (loff v + i) (lfin v)) h := Lst.ix a (by simpa using hi)
theorem kl_ld (a : Kl h kd v xs) (hi : i < xs.length) : L1 P (lid v) (lg v) (loff v + i) (lfin v) h N = N.go P (.i kd (xs.getD i 0)) h := hv_of fun k => load_lst a (by simp [hi]) k
theorem kl_grow {h' : H} (a : Kl h kd v xs) (s : Stay nowhere h h') : Kl h' kd v xs := Lst.grow a s
end
theorem sorted_pw {F : List Ent} (h : F.Pairwise fun a b => lessE a b = true) : sortedE F = true := by
  refine sorted_of fun j hj => ?_
  have e : ∀ i (hi : i < F.length), F.getD i default = F[i] := fun i hi => by simp [List.getD, hi]
  rw [e j (by omega), e (j + 1) hj]
  exact (List.pairwise_iff_getElem.1 h) j (j + 1) (by omega) hj (by omega)
def kK : List UInt8 := [UInt8.ofNat 107]
def eJ : Ent := ⟨[UInt8.ofNat 106], 5, false, []⟩
def eL : Ent := ⟨[UInt8.ofNat 108], 1, false, []⟩
/-- what is built -/
structure Kd (K : List Ent) (last : Int) : Prop where
  key : ∀ e ∈ K, e.key = kK ∧ e.seq ≤ last
  pw : K.Pairwise fun a b => lessE a b = true
theorem Kd.nil : Kd [] 0 := ⟨fun e he => by simp at he, List.Pairwise.nil⟩
theorem Kd.cons {K : List Ent} {last n : Int} (a : Kd K last) (hn : last < n) (d : Bool) : Kd (⟨kK, n, d, []⟩ :: K) n := by
  refine ⟨fun e he => ?_, List.Pairwise.cons (fun e he => ?_) a.pw⟩
  · rcases List.mem_cons.1 he with rfl | he
    · exact ⟨rfl, Int.le_refl _⟩
    · have := a.key e he; exact ⟨this.1, by omega⟩
  · have := a.key e he
    rw [lessE_eq this.1.symm]
    exact decide_eq_true (by show e.seq < n; omega)
theorem Kd.all {K : List Ent} {last : Int} (a : Kd K last) : sortedE (eJ :: (K ++ [eL])) = true := by
  refine sorted_pw (List.Pairwise.cons (fun e he => ?_) ?_)
  · rcases List.mem_append.1 he with he | he
    · have := (a.key e he).1
      refine lessE_lt ?_
      rw [this]; decide
    · rw [List.mem_singleton.1 he]; decide
  · rw [List.pairwise_append]
    refine ⟨a.pw, by simp, fun x hx y hy => ?_⟩
    rw [List.mem_singleton.1 hy]
    have := (a.key x hx).1
    refine lessE_lt ?_
    rw [this]; decide
/-- what is wanted behind a place -/
def wantE (F : List Ent) (ask : Int) (p : Nat) : Ent × Bool := match (F.drop p).find? (hitE kK ask) with
  | some e => (e, true)
  | none => (entZ, false)
theorem want_end (F : List Ent) (ask : Int) : wantE F ask F.length = (entZ, false) := by unfold wantE; rw [List.drop_length]; rfl
theorem want_hit {F : List Ent} {ask : Int} {p : Nat} (hp : p < F.length) (h : hitE kK ask (F.getD p default) = true) : wantE F ask p = (F.getD p default, true) := by
  have e : F.drop p = F.getD p default :: F.drop (p + 1) := by rw [List.drop_eq_getElem_cons hp]; simp [List.getD, hp]
  unfold wantE; rw [e, List.find?_cons_of_pos h]
theorem want_no {F : List Ent} {ask : Int} {p : Nat} (hp : p < F.length) (h : hitE kK ask (F.getD p default) = false) : wantE F ask p = wantE F ask (p + 1) := by
  have e : F.drop p = F.getD p default :: F.drop (p + 1) := by rw [List.drop_eq_getElem_cons hp]; simp [List.getD, hp]
  unfold wantE; rw [e, List.find?_cons_of_neg (by rw [h]; decide)]
theorem want_all {F : List Ent} {ask : Int} (hs : sortedE F = true) : newestE F kK ask = wantE F ask 0 := by
  unfold newestE newestO wantE; rw [if_pos hs]; rfl
theorem entryNewest_ok {h : H} {v : V} {S : List Int} {ask : Int} (hS : Kl h .u8 v S) (hl : S.length ≤ 9223372036854775807) (hw : ∀ n ∈ S, (Lit.int .u8 n).wf = true) (_ : -9223372036854775808 ≤ ask) (_ : ask ≤ 9223372036854775807) (hf : B.val h.floor ≤ B.val h.next) : FnOk Try.prog 11 [v, .i .i64 ask] h fun y h' => y = .b true := by
  refine fn_go c11 (by intro hb; cases hb) (by simp) (by simp) fun Q hQ => ?_
  simp only [slotsF, Nat.reduceAdd]
  repeat' (first
    | with_reducible (first | apply Ok.sq | apply Ok.block | apply Ok.rg | apply Ok.dw hmix | apply Ok.cd | apply Ok.skip | apply Ok.exit | apply Ok.ret)
    | simp (disch := first | omega | (simp only [List.length_append, List.length_cons, List.length_nil, List.length_take, List.length_drop, List.length_map, List.length_set]; omega)) only [wlk, ↓get_put', Nat.reduceEqDiff, Nat.reduceLT, ↓reduceIte, Int.reduceToNat, Nat.reducePow, Nat.min_eq_left, Nat.reduceAdd, Nat.reduceMul, Int.reduceAdd, Int.reduceSub, Int.reduceNeg, Int.reduceMul, Int.reduceEq, Int.reduceLT, Int.reduceLE, Nat.reduceSub, Int.reduceNatCast, Nat.reduceLeDiff]
    | (with_reducible (first | apply cd_split | apply gd_split)) <;> (intro hc; (try simp only [Bool.not_eq_true', Bool.not_eq_false'] at hc); (try simp only [hc]); (try simp only [hcl, Int.not_lt, Int.not_le, Nat.not_lt, Nat.not_le] at hc); try omega))
  refine CL.pure known6 ?_
  repeat' (first
    | with_reducible (first | apply Ok.sq | apply Ok.block | apply Ok.rg | apply Ok.dw hmix | apply Ok.cd | apply Ok.skip | apply Ok.exit | apply Ok.ret)
    | simp (disch := first | omega | (simp only [List.length_append, List.length_cons, List.length_nil, List.length_take, List.length_drop, List.length_map, List.length_set]; omega)) only [wlk, ↓get_put', Nat.reduceEqDiff, Nat.reduceLT, ↓reduceIte, Int.reduceToNat, Nat.reducePow, Nat.min_eq_left, Nat.reduceAdd, Nat.reduceMul, Int.reduceAdd, Int.reduceSub, Int.reduceNeg, Int.reduceMul, Int.reduceEq, Int.reduceLT, Int.reduceLE, Nat.reduceSub, Int.reduceNatCast, Nat.reduceLeDiff]
    | (with_reducible (first | apply cd_split | apply gd_split)) <;> (intro hc; (try simp only [Bool.not_eq_true', Bool.not_eq_false'] at hc); (try simp only [hc]); (try simp only [hcl, Int.not_lt, Int.not_le, Nat.not_lt, Nat.not_le] at hc); try omega))
  have hb : ∀ i, i < S.length → 0 ≤ S.getD i 0 ∧ S.getD i 0 ≤ 255 := fun i hi => by
    have := hw (S.getD i 0) (by rw [show S.getD i 0 = S[i] by simp [List.getD, hi]]; simp)
    obtain ⟨c, hc⟩ := u8_byte this
    have := c.toNat_lt
    omega
  refine Ok.lp (fun m t g => ∃ (i : Nat) (u : V) (K : List Ent) (last : Int), m = S.length - i ∧ i ≤ 20 ∧ K.length = i ∧ 0 ≤ last ∧ last ≤ i * 9 ∧ Kd K last ∧ get 0 t = v ∧ get 1 t = .i .i64 ask ∧ get 5 t = u ∧ get 6 t = .i .i64 last ∧ get 7 t = .i .i64 (i : Int) ∧ Stay nowhere h g ∧ Es g u K) S.length ?_ ?_
  · simp (disch := first | omega | (simp only [List.length_append, List.length_cons, List.length_nil, List.length_take, List.length_drop, List.length_map, List.length_set]; omega)) only [wlk, ↓get_put', Nat.reduceEqDiff, Nat.reduceLT, ↓reduceIte, Int.reduceToNat, Nat.reducePow, Nat.min_eq_left, Nat.reduceAdd, Nat.reduceMul, Int.reduceAdd, Int.reduceSub, Int.reduceNeg, Int.reduceMul, Int.reduceEq, Int.reduceLT, Int.reduceLE, Nat.reduceSub, Int.reduceNatCast, Nat.reduceLeDiff]
    exact ⟨0, .l0, [], 0, by omega, by omega, rfl, by omega, by omega, Kd.nil, trivial, trivial, rfl, rfl, rfl, Stay.refl _ _, Ss.nil⟩
  rintro I hI m t g ⟨i, u, K, last, rfl, hi, hK, hl0, hl9, kd, f0, f1, f5, f6, f7, st, es⟩
  have hfg := st.fl hf
  have hSg := kl_grow hS st
  have hbi := hb i
  have fin : ∀ t', get 1 t' = .i .i64 ask → get 5 t' = u → Ok Try.prog 99 s11_29 t' g (FnK [Rs.tmp (slOf 4)] Q) := by
    intro t' e1 e5
    have hF : (eJ :: (K ++ [eL])).length = K.length + 2 := by simp
    have hsort := kd.all
    have fin2 : ∀ (t2 : F) (g2 : H) (w : V), Stay nowhere g g2 → Es g2 w (eJ :: (K ++ [eL])) → get 1 t2 = .i .i64 ask → get 5 t2 = w → Ok Try.prog 99 s11_28 t2 g2 (FnK [Rs.tmp (slOf 4)] Q) := by
      generalize eJ :: (K ++ [eL]) = FF at *
      intro t2 g2 w sg hw2 q1 q5
      have hf2 := sg.fl hfg
      repeat' (first
        | with_reducible (first | apply Ok.sq | apply Ok.block | apply Ok.rg | apply Ok.dw hmix | apply Ok.cd | apply Ok.skip | apply Ok.exit | apply Ok.ret)
        | simp (disch := first | omega | (simp only [List.length_append, List.length_cons, List.length_nil, List.length_take, List.length_drop, List.length_map, List.length_set]; omega)) only [wlk, ↓get_put', Nat.reduceEqDiff, Nat.reduceLT, ↓reduceIte, Int.reduceToNat, Nat.reducePow, Nat.min_eq_left, Nat.reduceAdd, Nat.reduceMul, Int.reduceAdd, Int.reduceSub, Int.reduceNeg, Int.reduceMul, Int.reduceEq, Int.reduceLT, Int.reduceLE, Nat.reduceSub, Int.reduceNatCast, Nat.reduceLeDiff, q1, q5]
        | (with_reducible (first | apply cd_split | apply gd_split)) <;> (intro hc; (try simp only [Bool.not_eq_true', Bool.not_eq_false'] at hc); (try simp only [hc]); (try simp only [hcl, Int.not_lt, Int.not_le, Nat.not_lt, Nat.not_le] at hc); try omega))
      refine CL.stay (newest_ok (key := kK) hw2 (by omega) hf2) fun g3 s3 => ?_
      have hf3 := s3.fl hf2
      have hw3 := hw2.grow s3
      rw [want_all hsort]
      generalize hr : wantE FF ask 0 = r
      unfold twoE entC
      repeat' (first
        | with_reducible (first | apply Ok.sq | apply Ok.block | apply Ok.rg | apply Ok.dw hmix | apply Ok.cd | apply Ok.skip | apply Ok.exit | apply Ok.ret)
        | simp (disch := first | omega | (simp only [List.length_append, List.length_cons, List.length_nil, List.length_take, List.length_drop, List.length_map, List.length_set]; omega)) only [wlk, ↓get_put', Nat.reduceEqDiff, Nat.reduceLT, ↓reduceIte, Int.reduceToNat, Nat.reducePow, Nat.min_eq_left, Nat.reduceAdd, Nat.reduceMul, Int.reduceAdd, Int.reduceSub, Int.reduceNeg, Int.reduceMul, Int.reduceEq, Int.reduceLT, Int.reduceLE, Nat.reduceSub, Int.reduceNatCast, Nat.reduceLeDiff, q1, q5]
        | (with_reducible (first | apply cd_split | apply gd_split)) <;> (intro hc; (try simp only [Bool.not_eq_true', Bool.not_eq_false'] at hc); (try simp only [hc]); (try simp only [hcl, Int.not_lt, Int.not_le, Nat.not_lt, Nat.not_le] at hc); try omega))
      refine AL.own (by simp) hf3 fun g4 s4 n4 o4 => ?_
      have hf4 := s4.fl hf3
      repeat' (first
        | with_reducible (first | apply Ok.sq | apply Ok.block | apply Ok.rg | apply Ok.dw hmix | apply Ok.cd | apply Ok.skip | apply Ok.exit | apply Ok.ret)
        | simp (disch := first | omega | (simp only [List.length_append, List.length_cons, List.length_nil, List.length_take, List.length_drop, List.length_map, List.length_set]; omega)) only [wlk, ↓get_put', Nat.reduceEqDiff, Nat.reduceLT, ↓reduceIte, Int.reduceToNat, Nat.reducePow, Nat.min_eq_left, Nat.reduceAdd, Nat.reduceMul, Int.reduceAdd, Int.reduceSub, Int.reduceNeg, Int.reduceMul, Int.reduceEq, Int.reduceLT, Int.reduceLE, Nat.reduceSub, Int.reduceNatCast, Nat.reduceLeDiff, q1, q5]
        | (with_reducible (first | apply cd_split | apply gd_split)) <;> (intro hc; (try simp only [Bool.not_eq_true', Bool.not_eq_false'] at hc); (try simp only [hc]); (try simp only [hcl, Int.not_lt, Int.not_le, Nat.not_lt, Nat.not_le] at hc); try omega))
      refine ST.all o4 rfl rfl (by simp) (by simp) fun g5 o5 s5 => ?_
      have s35 : Stay nowhere g3 g5 := s4.past' s5 fun i hi => by rw [hi]; exact Nat.le_refl _
      have hf5 := s35.fl hf3
      have hw5 := hw3.grow s35
      repeat' (first
        | with_reducible (first | apply Ok.sq | apply Ok.block | apply Ok.rg | apply Ok.dw hmix | apply Ok.cd | apply Ok.skip | apply Ok.exit | apply Ok.ret)
        | simp (disch := first | omega | (simp only [List.length_append, List.length_cons, List.length_nil, List.length_take, List.length_drop, List.length_map, List.length_set]; omega)) only [wlk, ↓get_put', Nat.reduceEqDiff, Nat.reduceLT, ↓reduceIte, Int.reduceToNat, Nat.reducePow, Nat.min_eq_left, Nat.reduceAdd, Nat.reduceMul, Int.reduceAdd, Int.reduceSub, Int.reduceNeg, Int.reduceMul, Int.reduceEq, Int.reduceLT, Int.reduceLE, Nat.reduceSub, Int.reduceNatCast, Nat.reduceLeDiff, q1, q5]
        | (with_reducible (first | apply cd_split | apply gd_split)) <;> (intro hc; (try simp only [Bool.not_eq_true', Bool.not_eq_false'] at hc); (try simp only [hc]); (try simp only [hcl, Int.not_lt, Int.not_le, Nat.not_lt, Nat.not_le] at hc); try omega))
      refine AL.own (by simp) hf5 fun g6 s6 n6 o6 => ?_
      have lt1 : B.val g3.next < B.val g5.next := own_lt' o5
      have o56 := o5.stay s6 fun h => h
      repeat' (first
        | with_reducible (first | apply Ok.sq | apply Ok.block | apply Ok.rg | apply Ok.dw hmix | apply Ok.cd | apply Ok.skip | apply Ok.exit | apply Ok.ret)
        | simp (disch := first | omega | (simp only [List.length_append, List.length_cons, List.length_nil, List.length_take, List.length_drop, List.length_map, List.length_set]; omega)) only [wlk, ↓get_put', Nat.reduceEqDiff, Nat.reduceLT, ↓reduceIte, Int.reduceToNat, Nat.reducePow, Nat.min_eq_left, Nat.reduceAdd, Nat.reduceMul, Int.reduceAdd, Int.reduceSub, Int.reduceNeg, Int.reduceMul, Int.reduceEq, Int.reduceLT, Int.reduceLE, Nat.reduceSub, Int.reduceNatCast, Nat.reduceLeDiff, q1, q5]
        | (with_reducible (first | apply cd_split | apply gd_split)) <;> (intro hc; (try simp only [Bool.not_eq_true', Bool.not_eq_false'] at hc); (try simp only [hc]); (try simp only [hcl, Int.not_lt, Int.not_le, Nat.not_lt, Nat.not_le] at hc); try omega))
      refine ST.all o6 rfl rfl (by simp) (by simp) fun g7 o7 s7 => ?_
      have s57 : Stay nowhere g5 g7 := s6.past' s7 fun i hi => by rw [hi]; exact Nat.le_refl _
      have o57 := o56.stay s7 (b_ne lt1)
      have hf7 := s57.fl hf5
      have hw7 := hw5.grow s57
      repeat' (first
        | with_reducible (first | apply Ok.sq | apply Ok.block | apply Ok.rg | apply Ok.dw hmix | apply Ok.cd | apply Ok.skip | apply Ok.exit | apply Ok.ret)
        | simp (disch := first | omega | (simp only [List.length_append, List.length_cons, List.length_nil, List.length_take, List.length_drop, List.length_map, List.length_set]; omega)) only [wlk, ↓get_put', Nat.reduceEqDiff, Nat.reduceLT, ↓reduceIte, Int.reduceToNat, Nat.reducePow, Nat.min_eq_left, Nat.reduceAdd, Nat.reduceMul, Int.reduceAdd, Int.reduceSub, Int.reduceNeg, Int.reduceMul, Int.reduceEq, Int.reduceLT, Int.reduceLE, Nat.reduceSub, Int.reduceNatCast, Nat.reduceLeDiff, q1, q5, hw7.ln]
        | (with_reducible (first | apply cd_split | apply gd_split)) <;> (intro hc; (try simp only [Bool.not_eq_true', Bool.not_eq_false'] at hc); (try simp only [hc]); (try simp only [hcl, Int.not_lt, Int.not_le, Nat.not_lt, Nat.not_le] at hc); try omega))
      refine Ok.lp (fun m t g => ∃ p : Nat, m = p ∧ p ≤ FF.length ∧ get 1 t = .i .i64 ask ∧ get 5 t = w ∧ get 9 t = .p g3.next 0 0 4 ∧ get 10 t = .b r.2 ∧ get 11 t = .p g5.next 0 0 4 ∧ get 12 t = .b (wantE FF ask p).2 ∧ get 13 t = .i .i64 ((p : Int) - 1) ∧ Own g g3.next (entC r.1) ∧ Own g g5.next (entC (wantE FF ask p).1) ∧ Stay nowhere g5 g) FF.length ?_ ?_
      · simp (disch := first | omega | (simp only [List.length_append, List.length_cons, List.length_nil, List.length_take, List.length_drop, List.length_map, List.length_set]; omega)) only [wlk, ↓get_put', Nat.reduceEqDiff, Nat.reduceLT, ↓reduceIte, Int.reduceToNat, Nat.reducePow, Nat.min_eq_left, Nat.reduceAdd, Nat.reduceMul, Int.reduceAdd, Int.reduceSub, Int.reduceNeg, Int.reduceMul, Int.reduceEq, Int.reduceLT, Int.reduceLE, Nat.reduceSub, Int.reduceNatCast, Nat.reduceLeDiff, q1, q5]
        refine ⟨FF.length, rfl, Nat.le_refl _, ?_, ?_, ?_, ?_, ?_, ?_, ?_, o57, ?_, s57⟩
        all_goals first | trivial | rfl | (rw [want_end]; done) | (rw [want_end]; rfl) | (rw [want_end]; exact o7)
      rintro I2 hI2 m t3 g8 ⟨p, rfl, hp, z1, z5, z9, z10, z11, z12, z13, oA, oB, sz⟩
      have hw8 := hw5.grow sz
      have hf8 := sz.fl hf5
      cases m with
      | zero =>
        rw [hr] at z12 oB
        unfold entC at oA oB
        repeat' (first
          | with_reducible (first | apply Ok.sq | apply Ok.block | apply Ok.rg | apply Ok.dw hmix | apply Ok.cd | apply Ok.skip | apply Ok.exit | apply Ok.ret)
          | simp (disch := first | omega | (simp only [List.length_append, List.length_cons, List.length_nil, List.length_take, List.length_drop, List.length_map, List.length_set]; omega)) only [wlk, ↓get_put', Nat.reduceEqDiff, Nat.reduceLT, ↓reduceIte, Int.reduceToNat, Nat.reducePow, Nat.min_eq_left, Nat.reduceAdd, Nat.reduceMul, Int.reduceAdd, Int.reduceSub, Int.reduceNeg, Int.reduceMul, Int.reduceEq, Int.reduceLT, Int.reduceLE, Nat.reduceSub, Int.reduceNatCast, Nat.reduceLeDiff, z1, z5, z9, z10, z11, z12, z13]
          | (with_reducible (first | apply cd_split | apply gd_split)) <;> (intro hc; (try simp only [Bool.not_eq_true', Bool.not_eq_false'] at hc); (try simp only [hc]); (try simp only [hcl, Int.not_lt, Int.not_le, Nat.not_lt, Nat.not_le] at hc); try omega))
        refine CL.stay (sorted_ok hw8 (by omega) hf8) fun g9 s9 => ?_
        have oA := oA.stay s9 fun h => h
        have oB := oB.stay s9 fun h => h
        rw [hsort]
        repeat' (first
          | with_reducible (first | apply Ok.sq | apply Ok.block | apply Ok.rg | apply Ok.dw hmix | apply Ok.cd | apply Ok.skip | apply Ok.exit | apply Ok.ret)
          | simp (disch := first | omega | (simp only [List.length_append, List.length_cons, List.length_nil, List.length_take, List.length_drop, List.length_map, List.length_set]; omega)) only [wlk, ↓get_put', Nat.reduceEqDiff, Nat.reduceLT, ↓reduceIte, Int.reduceToNat, Nat.reducePow, Nat.min_eq_left, Nat.reduceAdd, Nat.reduceMul, Int.reduceAdd, Int.reduceSub, Int.reduceNeg, Int.reduceMul, Int.reduceEq, Int.reduceLT, Int.reduceLE, Nat.reduceSub, Int.reduceNatCast, Nat.reduceLeDiff, z1, z5, z9, z10, z11, z12, z13, oA.row.ln, oB.row.ln]
          | (with_reducible (first | apply cd_split | apply gd_split)) <;> (intro hc; (try simp only [Bool.not_eq_true', Bool.not_eq_false'] at hc); (try simp only [hc]); (try simp only [hcl, Int.not_lt, Int.not_le, Nat.not_lt, Nat.not_le] at hc); try omega))
        subst hQ; rfl
      | succ p =>
        have ez : (((p + 1 : Nat) : Int) - 1) = (p : Int) := by omega
        rw [ez] at z13
        have hpl : p < FF.length := by omega
        have nxt : ∀ (t4 : F) (g9 : H) (m : Nat), m = p + 1 → get 1 t4 = .i .i64 ask → get 5 t4 = w → get 9 t4 = .p g3.next 0 0 4 → get 10 t4 = .b r.2 → get 11 t4 = .p g5.next 0 0 4 → get 12 t4 = .b (wantE FF ask p).2 → get 13 t4 = .i .i64 ((p : Int) - 1) → Own g9 g3.next (entC r.1) → Own g9 g5.next (entC (wantE FF ask p).1) → Stay nowhere g5 g9 → LpG I2 m t4 g9 := by
          intro t4 g9 m hm a1 a2 a3 a4 a5 a6 a7 a8 a9 a10
          exact lp_next hI2 p (by omega) ⟨p, rfl, by omega, a1, a2, a3, a4, a5, a6, a7, a8, a9, a10⟩
        by_cases hk : (FF.getD p default).key = kK
        · have hk' : (FF.getD p default).key = [UInt8.ofNat 107] := hk
          repeat' (first
            | with_reducible (first | apply Ok.sq | apply Ok.block | apply Ok.rg | apply Ok.dw hmix | apply Ok.cd | apply Ok.skip | apply Ok.exit | apply Ok.ret)
            | simp (disch := first | omega | (simp only [List.length_append, List.length_cons, List.length_nil, List.length_take, List.length_drop, List.length_map, List.length_set]; omega)) only [wlk, ↓get_put', Nat.reduceEqDiff, Nat.reduceLT, ↓reduceIte, Int.reduceToNat, Nat.reducePow, Nat.min_eq_left, Nat.reduceAdd, Nat.reduceMul, Int.reduceAdd, Int.reduceSub, Int.reduceNeg, Int.reduceMul, Int.reduceEq, Int.reduceLT, Int.reduceLE, Nat.reduceSub, Int.reduceNatCast, Nat.reduceLeDiff, z1, z5, z9, z10, z11, z12, z13, hw8.ix, hw8.l0, hw8.l1, hw8.la, hk', Int.toNat_natCast]
            | (with_reducible (first | apply cd_split | apply gd_split)) <;> (intro hc; (try simp only [Bool.not_eq_true', Bool.not_eq_false'] at hc); (try simp only [hc]); (try simp only [hcl, Int.not_lt, Int.not_le, Nat.not_lt, Nat.not_le] at hc); try omega))
          · have hh : hitE kK ask (FF.getD p default) = true := by unfold hitE; rw [decide_eq_true hk, decide_eq_true (by omega)]; rfl
            have hwt := want_hit hpl hh
            refine ST.all oB rfl rfl (by simp) (by simp) fun g9 oC s9 => ?_
            have oA := oA.stay s9 (b_ne lt1)
            repeat' (first
              | with_reducible (first | apply Ok.sq | apply Ok.block | apply Ok.rg | apply Ok.dw hmix | apply Ok.cd | apply Ok.skip | apply Ok.exit | apply Ok.ret)
              | simp (disch := first | omega | (simp only [List.length_append, List.length_cons, List.length_nil, List.length_take, List.length_drop, List.length_map, List.length_set]; omega)) only [wlk, ↓get_put', Nat.reduceEqDiff, Nat.reduceLT, ↓reduceIte, Int.reduceToNat, Nat.reducePow, Nat.min_eq_left, Nat.reduceAdd, Nat.reduceMul, Int.reduceAdd, Int.reduceSub, Int.reduceNeg, Int.reduceMul, Int.reduceEq, Int.reduceLT, Int.reduceLE, Nat.reduceSub, Int.reduceNatCast, Nat.reduceLeDiff, z1, z5, z9, z10, z11, z12, z13]
              | (with_reducible (first | apply cd_split | apply gd_split)) <;> (intro hc; (try simp only [Bool.not_eq_true', Bool.not_eq_false'] at hc); (try simp only [hc]); (try simp only [hcl, Int.not_lt, Int.not_le, Nat.not_lt, Nat.not_le] at hc); try omega))
            refine nxt _ _ _ rfl ?_ ?_ ?_ ?_ ?_ ?_ ?_ oA ?_ (sz.past' s9 fun i hi => by rw [hi]; exact Nat.le_refl _)
            all_goals first | (simp (disch := first | omega | (simp only [List.length_append, List.length_cons, List.length_nil, List.length_take, List.length_drop, List.length_map, List.length_set]; omega)) only [wlk, ↓get_put', Nat.reduceEqDiff, Nat.reduceLT, ↓reduceIte, Int.reduceToNat, Nat.reducePow, Nat.min_eq_left, Nat.reduceAdd, Nat.reduceMul, Int.reduceAdd, Int.reduceSub, Int.reduceNeg, Int.reduceMul, Int.reduceEq, Int.reduceLT, Int.reduceLE, Nat.reduceSub, Int.reduceNatCast, Nat.reduceLeDiff, z1, z5, z9, z10, z11, z12, z13, hwt]; done) | (rw [hwt]; unfold entC; rw [hk']; exact oC)
          · have hh : hitE kK ask (FF.getD p default) = false := by unfold hitE; rw [decide_eq_false (p := (FF.getD p default).seq ≤ ask) (by omega), Bool.and_false]
            have hwt := want_no hpl hh
            rw [← hwt] at z12 oB
            refine nxt _ _ _ rfl ?_ ?_ ?_ ?_ ?_ ?_ ?_ oA oB sz
            all_goals (simp (disch := first | omega | (simp only [List.length_append, List.length_cons, List.length_nil, List.length_take, List.length_drop, List.length_map, List.length_set]; omega)) only [wlk, ↓get_put', Nat.reduceEqDiff, Nat.reduceLT, ↓reduceIte, Int.reduceToNat, Nat.reducePow, Nat.min_eq_left, Nat.reduceAdd, Nat.reduceMul, Int.reduceAdd, Int.reduceSub, Int.reduceNeg, Int.reduceMul, Int.reduceEq, Int.reduceLT, Int.reduceLE, Nat.reduceSub, Int.reduceNatCast, Nat.reduceLeDiff, z1, z5, z9, z10, z11, z12, z13]; done)
        · have hk' : ¬ (FF.getD p default).key = [UInt8.ofNat 107] := hk
          repeat' (first
            | with_reducible (first | apply Ok.sq | apply Ok.block | apply Ok.rg | apply Ok.dw hmix | apply Ok.cd | apply Ok.skip | apply Ok.exit | apply Ok.ret)
            | simp (disch := first | omega | (simp only [List.length_append, List.length_cons, List.length_nil, List.length_take, List.length_drop, List.length_map, List.length_set]; omega)) only [wlk, ↓get_put', Nat.reduceEqDiff, Nat.reduceLT, ↓reduceIte, Int.reduceToNat, Nat.reducePow, Nat.min_eq_left, Nat.reduceAdd, Nat.reduceMul, Int.reduceAdd, Int.reduceSub, Int.reduceNeg, Int.reduceMul, Int.reduceEq, Int.reduceLT, Int.reduceLE, Nat.reduceSub, Int.reduceNatCast, Nat.reduceLeDiff, z1, z5, z9, z10, z11, z12, z13, hw8.ix, hw8.l0, hw8.l1, hw8.la, hk', Int.toNat_natCast]
            | (with_reducible (first | apply cd_split | apply gd_split)) <;> (intro hc; (try simp only [Bool.not_eq_true', Bool.not_eq_false'] at hc); (try simp only [hc]); (try simp only [hcl, Int.not_lt, Int.not_le, Nat.not_lt, Nat.not_le] at hc); try omega))
          have hh : hitE kK ask (FF.getD p default) = false := by unfold hitE; rw [decide_eq_false hk, Bool.false_and]
          have hwt := want_no hpl hh
          rw [← hwt] at z12 oB
          refine nxt _ _ _ rfl ?_ ?_ ?_ ?_ ?_ ?_ ?_ oA oB sz
          all_goals (simp (disch := first | omega | (simp only [List.length_append, List.length_cons, List.length_nil, List.length_take, List.length_drop, List.length_map, List.length_set]; omega)) only [wlk, ↓get_put', Nat.reduceEqDiff, Nat.reduceLT, ↓reduceIte, Int.reduceToNat, Nat.reducePow, Nat.min_eq_left, Nat.reduceAdd, Nat.reduceMul, Int.reduceAdd, Int.reduceSub, Int.reduceNeg, Int.reduceMul, Int.reduceEq, Int.reduceLT, Int.reduceLE, Nat.reduceSub, Int.reduceNatCast, Nat.reduceLeDiff, z1, z5, z9, z10, z11, z12, z13]; done)
    repeat' (first
      | with_reducible (first | apply Ok.sq | apply Ok.block | apply Ok.rg | apply Ok.dw hmix | apply Ok.cd | apply Ok.skip | apply Ok.exit | apply Ok.ret)
      | simp (disch := first | omega | (simp only [List.length_append, List.length_cons, List.length_nil, List.length_take, List.length_drop, List.length_map, List.length_set]; omega)) only [wlk, ↓get_put', Nat.reduceEqDiff, Nat.reduceLT, ↓reduceIte, Int.reduceToNat, Nat.reducePow, Nat.min_eq_left, Nat.reduceAdd, Nat.reduceMul, Int.reduceAdd, Int.reduceSub, Int.reduceNeg, Int.reduceMul, Int.reduceEq, Int.reduceLT, Int.reduceLE, Nat.reduceSub, Int.reduceNatCast, Nat.reduceLeDiff, e1, e5]
      | (with_reducible (first | apply cd_split | apply gd_split)) <;> (intro hc; (try simp only [Bool.not_eq_true', Bool.not_eq_false'] at hc); (try simp only [hc]); (try simp only [hcl, Int.not_lt, Int.not_le, Nat.not_lt, Nat.not_le] at hc); try omega))
    refine AL.own (by simp) hfg fun g1 s1 n1 o1 => ?_
    have hf1 := s1.fl hfg
    have es1 := Es.grow es s1
    repeat' (first
      | with_reducible (first | apply Ok.sq | apply Ok.block | apply Ok.rg | apply Ok.dw hmix | apply Ok.cd | apply Ok.skip | apply Ok.exit | apply Ok.ret)
      | simp (disch := first | omega | (simp only [List.length_append, List.length_cons, List.length_nil, List.length_take, List.length_drop, List.length_map, List.length_set]; omega)) only [wlk, ↓get_put', Nat.reduceEqDiff, Nat.reduceLT, ↓reduceIte, Int.reduceToNat, Nat.reducePow, Nat.min_eq_left, Nat.reduceAdd, Nat.reduceMul, Int.reduceAdd, Int.reduceSub, Int.reduceNeg, Int.reduceMul, Int.reduceEq, Int.reduceLT, Int.reduceLE, Nat.reduceSub, Int.reduceNatCast, Nat.reduceLeDiff, e1, e5]
      | (with_reducible (first | apply cd_split | apply gd_split)) <;> (intro hc; (try simp only [Bool.not_eq_true', Bool.not_eq_false'] at hc); (try simp only [hc]); (try simp only [hcl, Int.not_lt, Int.not_le, Nat.not_lt, Nat.not_le] at hc); try omega))
    refine AP.lit (c := entC) o1 rfl (by omega) entC_len es1 hf1 (by omega) (fun hK0 => ?_) (fun w g2 hne b2 tp s2 own2 => ?_)
    · repeat' (first
        | with_reducible (first | apply Ok.sq | apply Ok.block | apply Ok.rg | apply Ok.dw hmix | apply Ok.cd | apply Ok.skip | apply Ok.exit | apply Ok.ret)
        | simp (disch := first | omega | (simp only [List.length_append, List.length_cons, List.length_nil, List.length_take, List.length_drop, List.length_map, List.length_set]; omega)) only [wlk, ↓get_put', Nat.reduceEqDiff, Nat.reduceLT, ↓reduceIte, Int.reduceToNat, Nat.reducePow, Nat.min_eq_left, Nat.reduceAdd, Nat.reduceMul, Int.reduceAdd, Int.reduceSub, Int.reduceNeg, Int.reduceMul, Int.reduceEq, Int.reduceLT, Int.reduceLE, Nat.reduceSub, Int.reduceNatCast, Nat.reduceLeDiff, e1, e5]
        | (with_reducible (first | apply cd_split | apply gd_split)) <;> (intro hc; (try simp only [Bool.not_eq_true', Bool.not_eq_false'] at hc); (try simp only [hc]); (try simp only [hcl, Int.not_lt, Int.not_le, Nat.not_lt, Nat.not_le] at hc); try omega))
      refine AL.own (by simp) hf1 fun g2 s2 n2 o2 => ?_
      have hf2 := s2.fl hf1
      have o12 := o1.stay s2 fun h => h
      repeat' (first
        | with_reducible (first | apply Ok.sq | apply Ok.block | apply Ok.rg | apply Ok.dw hmix | apply Ok.cd | apply Ok.skip | apply Ok.exit | apply Ok.ret)
        | simp (disch := first | omega | (simp only [List.length_append, List.length_cons, List.length_nil, List.length_take, List.length_drop, List.length_map, List.length_set]; omega)) only [wlk, ↓get_put', Nat.reduceEqDiff, Nat.reduceLT, ↓reduceIte, Int.reduceToNat, Nat.reducePow, Nat.min_eq_left, Nat.reduceAdd, Nat.reduceMul, Int.reduceAdd, Int.reduceSub, Int.reduceNeg, Int.reduceMul, Int.reduceEq, Int.reduceLT, Int.reduceLE, Nat.reduceSub, Int.reduceNatCast, Nat.reduceLeDiff, e1, e5]
        | (with_reducible (first | apply cd_split | apply gd_split)) <;> (intro hc; (try simp only [Bool.not_eq_true', Bool.not_eq_false'] at hc); (try simp only [hc]); (try simp only [hcl, Int.not_lt, Int.not_le, Nat.not_lt, Nat.not_le] at hc); try omega))
      refine AP.lit (c := entC) (L := [eL]) o12 rfl (by omega) entC_len (Ss.lit (L := [eL]) o2 rfl entC_len rfl (Nat.le_refl _)) hf2 (by simp) (fun h0 => by cases h0) (fun w g3 hne b3 tp s3 own3 => ?_)
      simp (disch := first | omega | (simp only [List.length_append, List.length_cons, List.length_nil, List.length_take, List.length_drop, List.length_map, List.length_set]; omega)) only [wlk, ↓get_put', Nat.reduceEqDiff, Nat.reduceLT, ↓reduceIte, Int.reduceToNat, Nat.reducePow, Nat.min_eq_left, Nat.reduceAdd, Nat.reduceMul, Int.reduceAdd, Int.reduceSub, Int.reduceNeg, Int.reduceMul, Int.reduceEq, Int.reduceLT, Int.reduceLE, Nat.reduceSub, Int.reduceNatCast, Nat.reduceLeDiff, e1, e5]
      refine fin2 _ _ w ((s1.trans s2).trans s3) ?_ (by simp (disch := first | omega | (simp only [List.length_append, List.length_cons, List.length_nil, List.length_take, List.length_drop, List.length_map, List.length_set]; omega)) only [wlk, ↓get_put', Nat.reduceEqDiff, Nat.reduceLT, ↓reduceIte, Int.reduceToNat, Nat.reducePow, Nat.min_eq_left, Nat.reduceAdd, Nat.reduceMul, Int.reduceAdd, Int.reduceSub, Int.reduceNeg, Int.reduceMul, Int.reduceEq, Int.reduceLT, Int.reduceLE, Nat.reduceSub, Int.reduceNatCast, Nat.reduceLeDiff, e1]) (by simp (disch := first | omega | (simp only [List.length_append, List.length_cons, List.length_nil, List.length_take, List.length_drop, List.length_map, List.length_set]; omega)) only [wlk, ↓get_put', Nat.reduceEqDiff, Nat.reduceLT, ↓reduceIte, Int.reduceToNat, Nat.reducePow, Nat.min_eq_left, Nat.reduceAdd, Nat.reduceMul, Int.reduceAdd, Int.reduceSub, Int.reduceNeg, Int.reduceMul, Int.reduceEq, Int.reduceLT, Int.reduceLE, Nat.reduceSub, Int.reduceNatCast, Nat.reduceLeDiff])
      subst hK0
      exact Ss.buf (L := [eJ, eL]) b3 rfl entC_len (by omega)
    · have hf2 := s2.fl hf1
      repeat' (first
        | with_reducible (first | apply Ok.sq | apply Ok.block | apply Ok.rg | apply Ok.dw hmix | apply Ok.cd | apply Ok.skip | apply Ok.exit | apply Ok.ret)
        | simp (disch := first | omega | (simp only [List.length_append, List.length_cons, List.length_nil, List.length_take, List.length_drop, List.length_map, List.length_set]; omega)) only [wlk, ↓get_put', Nat.reduceEqDiff, Nat.reduceLT, ↓reduceIte, Int.reduceToNat, Nat.reducePow, Nat.min_eq_left, Nat.reduceAdd, Nat.reduceMul, Int.reduceAdd, Int.reduceSub, Int.reduceNeg, Int.reduceMul, Int.reduceEq, Int.reduceLT, Int.reduceLE, Nat.reduceSub, Int.reduceNatCast, Nat.reduceLeDiff, e1, e5]
        | (with_reducible (first | apply cd_split | apply gd_split)) <;> (intro hc; (try simp only [Bool.not_eq_true', Bool.not_eq_false'] at hc); (try simp only [hc]); (try simp only [hcl, Int.not_lt, Int.not_le, Nat.not_lt, Nat.not_le] at hc); try omega))
      refine AL.own (by simp) hf2 fun g3 s3 n3 o3 => ?_
      have hf3 := s3.fl hf2
      have b23 := b2.grow s3
      repeat' (first
        | with_reducible (first | apply Ok.sq | apply Ok.block | apply Ok.rg | apply Ok.dw hmix | apply Ok.cd | apply Ok.skip | apply Ok.exit | apply Ok.ret)
        | simp (disch := first | omega | (simp only [List.length_append, List.length_cons, List.length_nil, List.length_take, List.length_drop, List.length_map, List.length_set]; omega)) only [wlk, ↓get_put', Nat.reduceEqDiff, Nat.reduceLT, ↓reduceIte, Int.reduceToNat, Nat.reducePow, Nat.min_eq_left, Nat.reduceAdd, Nat.reduceMul, Int.reduceAdd, Int.reduceSub, Int.reduceNeg, Int.reduceMul, Int.reduceEq, Int.reduceLT, Int.reduceLE, Nat.reduceSub, Int.reduceNatCast, Nat.reduceLeDiff, e1, e5]
        | (with_reducible (first | apply cd_split | apply gd_split)) <;> (intro hc; (try simp only [Bool.not_eq_true', Bool.not_eq_false'] at hc); (try simp only [hc]); (try simp only [hcl, Int.not_lt, Int.not_le, Nat.not_lt, Nat.not_le] at hc); try omega))
      have hfm := fm_len entC_len K
      refine AP.buf (vs := entC eL) (cnt := 1) b23 (new_row o3.row rfl (Nat.le_refl _) (by omega) (by show 4 ≤ 4; omega)) hf3 (by omega) rfl rfl (by rw [List.length_append, hfm, entC_len]; simp; omega) fun w' g4 b4 s4 ho tp' => ?_
      have s04 : Stay nowhere g g4 := ((s1.trans s2).trans s3).past' s4 fun id hid => Nat.le_trans s1.next (own2 id hid)
      simp (disch := first | omega | (simp only [List.length_append, List.length_cons, List.length_nil, List.length_take, List.length_drop, List.length_map, List.length_set]; omega)) only [wlk, ↓get_put', Nat.reduceEqDiff, Nat.reduceLT, ↓reduceIte, Int.reduceToNat, Nat.reducePow, Nat.min_eq_left, Nat.reduceAdd, Nat.reduceMul, Int.reduceAdd, Int.reduceSub, Int.reduceNeg, Int.reduceMul, Int.reduceEq, Int.reduceLT, Int.reduceLE, Nat.reduceSub, Int.reduceNatCast, Nat.reduceLeDiff, e1, e5]
      refine fin2 _ _ w' s04 ?_ (by simp (disch := first | omega | (simp only [List.length_append, List.length_cons, List.length_nil, List.length_take, List.length_drop, List.length_map, List.length_set]; omega)) only [wlk, ↓get_put', Nat.reduceEqDiff, Nat.reduceLT, ↓reduceIte, Int.reduceToNat, Nat.reducePow, Nat.min_eq_left, Nat.reduceAdd, Nat.reduceMul, Int.reduceAdd, Int.reduceSub, Int.reduceNeg, Int.reduceMul, Int.reduceEq, Int.reduceLT, Int.reduceLE, Nat.reduceSub, Int.reduceNatCast, Nat.reduceLeDiff, e1]) (by simp (disch := first | omega | (simp only [List.length_append, List.length_cons, List.length_nil, List.length_take, List.length_drop, List.length_map, List.length_set]; omega)) only [wlk, ↓get_put', Nat.reduceEqDiff, Nat.reduceLT, ↓reduceIte, Int.reduceToNat, Nat.reducePow, Nat.min_eq_left, Nat.reduceAdd, Nat.reduceMul, Int.reduceAdd, Int.reduceSub, Int.reduceNeg, Int.reduceMul, Int.reduceEq, Int.reduceLT, Int.reduceLE, Nat.reduceSub, Int.reduceNatCast, Nat.reduceLeDiff])
      refine Ss.buf b4 ?_ entC_len (by omega)
      rw [List.flatMap_cons, List.flatMap_append]
      show _ = entC eJ ++ (K.flatMap entC ++ (entC eL ++ []))
      rw [List.append_nil, ← List.append_assoc]; rfl
  repeat' (first
    | refine fin _ ?_ ?_
    | with_reducible (first | apply Ok.sq | apply Ok.block | apply Ok.rg | apply Ok.dw hmix | apply Ok.cd | apply Ok.skip | apply Ok.exit | apply Ok.ret)
    | simp (disch := first | omega | (simp only [List.length_append, List.length_cons, List.length_nil, List.length_take, List.length_drop, List.length_map, List.length_set]; omega)) only [wlk, ↓get_put', Nat.reduceEqDiff, Nat.reduceLT, ↓reduceIte, Int.reduceToNat, Nat.reducePow, Nat.min_eq_left, Nat.reduceAdd, Nat.reduceMul, Int.reduceAdd, Int.reduceSub, Int.reduceNeg, Int.reduceMul, Int.reduceEq, Int.reduceLT, Int.reduceLE, Nat.reduceSub, Int.reduceNatCast, Nat.reduceLeDiff, f0, f1, f5, f6, f7, kl_ln hS, kl_ix hS, kl_ld hSg, Int.toNat_natCast]
    | (with_reducible (first | apply cd_split | apply gd_split)) <;> (intro hc; (try simp only [Bool.not_eq_true', Bool.not_eq_false'] at hc); (try simp only [hc]); (try simp only [hcl, Int.not_lt, Int.not_le, Nat.not_lt, Nat.not_le] at hc); try omega))
  have hbi := hbi (by omega)
  have hm9 : 0 ≤ S.getD i 0 % 9 ∧ S.getD i 0 % 9 ≤ 8 := by omega
  refine AL.own (by simp) hfg fun g1 s1 n1 o1 => ?_
  have hf1 := s1.fl hfg
  repeat' (first
    | with_reducible (first | apply Ok.sq | apply Ok.block | apply Ok.rg | apply Ok.dw hmix | apply Ok.cd | apply Ok.skip | apply Ok.exit | apply Ok.ret)
    | simp (disch := first | omega | (simp only [List.length_append, List.length_cons, List.length_nil, List.length_take, List.length_drop, List.length_map, List.length_set]; omega)) only [wlk, ↓get_put', Nat.reduceEqDiff, Nat.reduceLT, ↓reduceIte, Int.reduceToNat, Nat.reducePow, Nat.min_eq_left, Nat.reduceAdd, Nat.reduceMul, Int.reduceAdd, Int.reduceSub, Int.reduceNeg, Int.reduceMul, Int.reduceEq, Int.reduceLT, Int.reduceLE, Nat.reduceSub, Int.reduceNatCast, Nat.reduceLeDiff, f0, f1, f5, f6, f7]
    | (with_reducible (first | apply cd_split | apply gd_split)) <;> (intro hc; (try simp only [Bool.not_eq_true', Bool.not_eq_false'] at hc); (try simp only [hc]); (try simp only [hcl, Int.not_lt, Int.not_le, Nat.not_lt, Nat.not_le] at hc); try omega))
  refine ST.all o1 rfl rfl (by simp) (by simp) fun g2 o2 s2 => ?_
  have s02 : Stay nowhere g g2 := s1.past' s2 fun i hi => by rw [hi]; exact Nat.le_refl _
  have hf2 := s02.fl hfg
  repeat' (first
    | with_reducible (first | apply Ok.sq | apply Ok.block | apply Ok.rg | apply Ok.dw hmix | apply Ok.cd | apply Ok.skip | apply Ok.exit | apply Ok.ret)
    | simp (disch := first | omega | (simp only [List.length_append, List.length_cons, List.length_nil, List.length_take, List.length_drop, List.length_map, List.length_set]; omega)) only [wlk, ↓get_put', Nat.reduceEqDiff, Nat.reduceLT, ↓reduceIte, Int.reduceToNat, Nat.reducePow, Nat.min_eq_left, Nat.reduceAdd, Nat.reduceMul, Int.reduceAdd, Int.reduceSub, Int.reduceNeg, Int.reduceMul, Int.reduceEq, Int.reduceLT, Int.reduceLE, Nat.reduceSub, Int.reduceNatCast, Nat.reduceLeDiff, f0, f1, f5, f6, f7, o2.row.ln]
    | (with_reducible (first | apply cd_split | apply gd_split)) <;> (intro hc; (try simp only [Bool.not_eq_true', Bool.not_eq_false'] at hc); (try simp only [hc]); (try simp only [hcl, Int.not_lt, Int.not_le, Nat.not_lt, Nat.not_le] at hc); try omega))
  refine AL.own (by simp) hf2 fun g3 s3 n3 o3 => ?_
  have hf3 := s3.fl hf2
  have es3 := Es.grow es (s02.trans s3)
  repeat' (first
    | with_reducible (first | apply Ok.sq | apply Ok.block | apply Ok.rg | apply Ok.dw hmix | apply Ok.cd | apply Ok.skip | apply Ok.exit | apply Ok.ret)
    | simp (disch := first | omega | (simp only [List.length_append, List.length_cons, List.length_nil, List.length_take, List.length_drop, List.length_map, List.length_set]; omega)) only [wlk, ↓get_put', Nat.reduceEqDiff, Nat.reduceLT, ↓reduceIte, Int.reduceToNat, Nat.reducePow, Nat.min_eq_left, Nat.reduceAdd, Nat.reduceMul, Int.reduceAdd, Int.reduceSub, Int.reduceNeg, Int.reduceMul, Int.reduceEq, Int.reduceLT, Int.reduceLE, Nat.reduceSub, Int.reduceNatCast, Nat.reduceLeDiff, f0, f1, f5, f6, f7]
    | (with_reducible (first | apply cd_split | apply gd_split)) <;> (intro hc; (try simp only [Bool.not_eq_true', Bool.not_eq_false'] at hc); (try simp only [hc]); (try simp only [hcl, Int.not_lt, Int.not_le, Nat.not_lt, Nat.not_le] at hc); try omega))
  have kd' : Kd (⟨kK, last + S.getD i 0 % 9 + 1, decide (S.getD i 0 % 4 = 0), []⟩ :: K) (last + S.getD i 0 % 9 + 1) := kd.cons (by omega) _
  have nx : ∀ (t4 : F) (g4 : H) (w : V), Stay nowhere g g4 → Es g4 w (⟨kK, last + S.getD i 0 % 9 + 1, decide (S.getD i 0 % 4 = 0), []⟩ :: K) → get 0 t4 = v → get 1 t4 = .i .i64 ask → get 5 t4 = w → get 6 t4 = .i .i64 (last + S.getD i 0 % 9 + 1) → get 7 t4 = .i .i64 ((i : Int) + 1) → LpG I (S.length - i) t4 g4 := by
    intro t4 g4 w sg ew a0 a1 a5 a6 a7
    exact lp_next hI (S.length - (i + 1)) (by omega) ⟨i + 1, w, _, _, rfl, by omega, by simp [hK], by omega, by omega, kd', a0, a1, a5, a6, by rw [a7]; rfl, st.trans sg, ew⟩
  refine AP.lit (c := entC) o3 rfl (by omega) entC_len es3 hf3 (by omega) (fun hK0 => ?_) (fun w g4 hne b4 tp s4 own4 => ?_)
  · repeat' (first
      | with_reducible (first | apply Ok.sq | apply Ok.block | apply Ok.rg | apply Ok.dw hmix | apply Ok.cd | apply Ok.skip | apply Ok.exit | apply Ok.ret)
      | simp (disch := first | omega | (simp only [List.length_append, List.length_cons, List.length_nil, List.length_take, List.length_drop, List.length_map, List.length_set]; omega)) only [wlk, ↓get_put', Nat.reduceEqDiff, Nat.reduceLT, ↓reduceIte, Int.reduceToNat, Nat.reducePow, Nat.min_eq_left, Nat.reduceAdd, Nat.reduceMul, Int.reduceAdd, Int.reduceSub, Int.reduceNeg, Int.reduceMul, Int.reduceEq, Int.reduceLT, Int.reduceLE, Nat.reduceSub, Int.reduceNatCast, Nat.reduceLeDiff, f0, f1, f5, f6, f7]
      | (with_reducible (first | apply cd_split | apply gd_split)) <;> (intro hc; (try simp only [Bool.not_eq_true', Bool.not_eq_false'] at hc); (try simp only [hc]); (try simp only [hcl, Int.not_lt, Int.not_le, Nat.not_lt, Nat.not_le] at hc); try omega))
    refine nx _ _ (.l g2.next 0 0 1 4 (some 1)) (s02.trans s3) ?_ ?_ ?_ ?_ ?_ ?_
    · subst hK0
      exact Ss.lit (L := [_]) o3 rfl entC_len rfl (Nat.le_refl _)
    all_goals (simp (disch := first | omega | (simp only [List.length_append, List.length_cons, List.length_nil, List.length_take, List.length_drop, List.length_map, List.length_set]; omega)) only [wlk, ↓get_put', Nat.reduceEqDiff, Nat.reduceLT, ↓reduceIte, Int.reduceToNat, Nat.reducePow, Nat.min_eq_left, Nat.reduceAdd, Nat.reduceMul, Int.reduceAdd, Int.reduceSub, Int.reduceNeg, Int.reduceMul, Int.reduceEq, Int.reduceLT, Int.reduceLE, Nat.reduceSub, Int.reduceNatCast, Nat.reduceLeDiff, f0, f1, f5, f6, f7]; done)
  · repeat' (first
      | with_reducible (first | apply Ok.sq | apply Ok.block | apply Ok.rg | apply Ok.dw hmix | apply Ok.cd | apply Ok.skip | apply Ok.exit | apply Ok.ret)
      | simp (disch := first | omega | (simp only [List.length_append, List.length_cons, List.length_nil, List.length_take, List.length_drop, List.length_map, List.length_set]; omega)) only [wlk, ↓get_put', Nat.reduceEqDiff, Nat.reduceLT, ↓reduceIte, Int.reduceToNat, Nat.reducePow, Nat.min_eq_left, Nat.reduceAdd, Nat.reduceMul, Int.reduceAdd, Int.reduceSub, Int.reduceNeg, Int.reduceMul, Int.reduceEq, Int.reduceLT, Int.reduceLE, Nat.reduceSub, Int.reduceNatCast, Nat.reduceLeDiff, f0, f1, f5, f6, f7]
      | (with_reducible (first | apply cd_split | apply gd_split)) <;> (intro hc; (try simp only [Bool.not_eq_true', Bool.not_eq_false'] at hc); (try simp only [hc]); (try simp only [hcl, Int.not_lt, Int.not_le, Nat.not_lt, Nat.not_le] at hc); try omega))
    refine nx _ _ w ((s02.trans s3).trans s4) ?_ ?_ ?_ ?_ ?_ ?_
    · exact Ss.buf b4 rfl entC_len (by omega)
    all_goals (simp (disch := first | omega | (simp only [List.length_append, List.length_cons, List.length_nil, List.length_take, List.length_drop, List.length_map, List.length_set]; omega)) only [wlk, ↓get_put', Nat.reduceEqDiff, Nat.reduceLT, ↓reduceIte, Int.reduceToNat, Nat.reducePow, Nat.min_eq_left, Nat.reduceAdd, Nat.reduceMul, Int.reduceAdd, Int.reduceSub, Int.reduceNeg, Int.reduceMul, Int.reduceEq, Int.reduceLT, Int.reduceLE, Nat.reduceSub, Int.reduceNatCast, Nat.reduceLeDiff, f0, f1, f5, f6, f7]; done)
end Go.Proofs.Ytkfliakkopidmaa
