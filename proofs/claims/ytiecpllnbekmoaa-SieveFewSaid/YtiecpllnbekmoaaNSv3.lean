/- The bodies of laws of sieves return true: SieveHas, SieveFew. No condition. -/
import Derived.Test.YtiecpllnbekmoaaNSv2
import Derived.Test.YtiecpllnbekmoaaWg
set_option maxRecDepth 100000
set_option maxHeartbeats 8000000
set_option linter.all false
namespace Go.Proofs.Ytiecpllnbekmoaa
open Go Go.Ev

def oneT (s : List UInt8) : List V := [sv s]
theorem oneT_len (s : List UInt8) : (oneT s).length = 1 := rfl
theorem map_one (L : List (List UInt8)) : L.flatMap oneT = L.map sv := by
  induction L with
  | nil => rfl
  | cons a L ih => rw [List.flatMap_cons, ih]; rfl
theorem allOne_sv : ∀ l : List (List UInt8), allOne (l.map sv) = true
  | [] => rfl
  | c :: l => by
    show Bool.rec false (allOne (l.map sv)) (oneV (sv c)) = true
    exact allOne_sv l
theorem tl_ss {h : H} {v : V} {L : List (List UInt8)} (a : Tl h v L) : Ss 1 oneT h v L := by
  rcases a with ⟨rfl, e⟩ | ⟨id, g, off, fin, cap, rfl, h2, h3, h4⟩
  · exact .inl ⟨rfl, by simpa using e⟩
  · exact .inr ⟨id, g, off, fin, cap, by rw [List.length_map], by rw [List.length_map] at h2; omega, h3, by rw [map_one]; exact h4⟩
theorem ss_tl {h : H} {v : V} {L : List (List UInt8)} (a : Ss 1 oneT h v L) : Tl h v L := by
  rcases a with ⟨rfl, rfl⟩ | ⟨id, g, off, fin, cap, rfl, h2, h3, h4⟩
  · exact .inl ⟨rfl, rfl⟩
  · exact .inr ⟨id, g, off, fin, cap, by rw [List.length_map], by rw [List.length_map]; omega, h3, by rw [← map_one]; exact h4⟩
theorem sw_one {v : V} (w : Sw v) : SwN 1 v := by
  rcases w with e | ⟨id, g, off, n, fin, cap, e, hw⟩
  · exact .inl e
  · refine .inr ⟨id, g, off, n, fin, cap, e, ?_⟩
    cases cap with
    | none => have hw : fin = off + n := hw; show fin = off + n * 1; omega
    | some c => exact hw
theorem sieveHas_ok {h : H} {v : V} {L : List (List UInt8)} {turn : UInt8} (sw : Sw v) (hL : Sl8 h v L) (hl : L.length ≤ 9223372036854775807) (hs : ∀ k ∈ L, k.length ≤ 9223372036854775807) (hf : B.val h.floor ≤ B.val h.next) :
    FnOk Try.prog 9 [v, .i .u8 (turn.toNat : Int)] h fun y h' => y = .b true := by
  have hL : Tl h v L := hL
  have hc0 := turn.toNat_lt
  refine fn_go c9 (by intro hb; cases hb) (by simp) (by simp) fun Q hQ => ?_
  simp only [slotsF, Nat.reduceAdd]
  repeat' (first
    | refine St.h ?_
    | simp (disch := first | omega | (simp only [lnv]; omega)) only [wlk, ↓get_put', Nat.reduceEqDiff, Nat.reduceLT, ↓reduceIte, Int.reduceToNat, Nat.reducePow, Nat.min_eq_left, Nat.reduceAdd, Nat.reduceMul, Int.reduceAdd, Int.reduceSub, Int.reduceNeg, Int.reduceMul, Int.reduceEq, Int.reduceLT, Int.reduceLE, Nat.reduceSub, Int.reduceNatCast, Nat.reduceLeDiff]
    | (with_reducible (first | apply cd_split | apply gd_split)) <;> (intro hc; (try simp only [hcn] at hc); (try simp only [hc]); (try simp only [hcl] at hc); try omega))
  refine CL.pure known7 ?_
  repeat' (first
    | refine St.h ?_
    | simp (disch := first | omega | (simp only [lnv]; omega)) only [wlk, ↓get_put', Nat.reduceEqDiff, Nat.reduceLT, ↓reduceIte, Int.reduceToNat, Nat.reducePow, Nat.min_eq_left, Nat.reduceAdd, Nat.reduceMul, Int.reduceAdd, Int.reduceSub, Int.reduceNeg, Int.reduceMul, Int.reduceEq, Int.reduceLT, Int.reduceLE, Nat.reduceSub, Int.reduceNatCast, Nat.reduceLeDiff]
    | (with_reducible (first | apply cd_split | apply gd_split)) <;> (intro hc; (try simp only [hcn] at hc); (try simp only [hc]); (try simp only [hcl] at hc); try omega))
  refine CL.pure (few7_ok hL hl hs) ?_
  cases hfw : (L.all (fun k => decide (k.length ≤ 40)) && decide (L.length ≤ 60)) with
  | false =>
    repeat' (first
      | refine St.h ?_
      | simp (disch := first | omega | (simp only [lnv]; omega)) only [wlk, ↓get_put', Nat.reduceEqDiff, Nat.reduceLT, ↓reduceIte, Int.reduceToNat, Nat.reducePow, Nat.min_eq_left, Nat.reduceAdd, Nat.reduceMul, Int.reduceAdd, Int.reduceSub, Int.reduceNeg, Int.reduceMul, Int.reduceEq, Int.reduceLT, Int.reduceLE, Nat.reduceSub, Int.reduceNatCast, Nat.reduceLeDiff]
      | (with_reducible (first | apply cd_split | apply gd_split)) <;> (intro hc; (try simp only [hcn] at hc); (try simp only [hc]); (try simp only [hcl] at hc); try omega))
    subst hQ; rfl
  | true =>
  rw [Bool.and_eq_true] at hfw
  have hl60 : L.length ≤ 60 := of_decide_eq_true hfw.2
  have hk40 : ∀ k ∈ L, k.length ≤ 1000000 := fun k hk => by
    have := of_decide_eq_true ((List.all_eq_true.1 hfw.1) k hk); omega
  by_cases hl0 : L.length = 0
  · have hd : ((L.length : Int) = 0) = True := eq_true (by omega)
    repeat' (first
      | refine St.h ?_
      | simp (disch := first | omega | (simp only [lnv]; omega)) only [wlk, ↓get_put', Nat.reduceEqDiff, Nat.reduceLT, ↓reduceIte, Int.reduceToNat, Nat.reducePow, Nat.min_eq_left, Nat.reduceAdd, Nat.reduceMul, Int.reduceAdd, Int.reduceSub, Int.reduceNeg, Int.reduceMul, Int.reduceEq, Int.reduceLT, Int.reduceLE, Nat.reduceSub, Int.reduceNatCast, Nat.reduceLeDiff, hL.ln, hd]
      | (with_reducible (first | apply cd_split | apply gd_split)) <;> (intro hc; (try simp only [hcn] at hc); (try simp only [hc]); (try simp only [hcl] at hc); try omega))
    subst hQ; rfl
  have hd : ((L.length : Int) = 0) = False := eq_false (by omega)
  repeat' (first
    | refine St.h ?_
    | simp (disch := first | omega | (simp only [lnv]; omega)) only [wlk, ↓get_put', Nat.reduceEqDiff, Nat.reduceLT, ↓reduceIte, Int.reduceToNat, Nat.reducePow, Nat.min_eq_left, Nat.reduceAdd, Nat.reduceMul, Int.reduceAdd, Int.reduceSub, Int.reduceNeg, Int.reduceMul, Int.reduceEq, Int.reduceLT, Int.reduceLE, Nat.reduceSub, Int.reduceNatCast, Nat.reduceLeDiff, hL.ln, hd]
    | (with_reducible (first | apply cd_split | apply gd_split)) <;> (intro hc; (try simp only [hcn] at hc); (try simp only [hc]); (try simp only [hcl] at hc); try omega))
  refine CL.stay (make_ok hL (by omega) hk40 hf) fun h1 s1 => ?_
  have hf1 := s1.fl hf
  have hL1 := hL.grow s1
  have hml := sieveB_len L
  have hmk : (turn.toNat : Int) % (L.length : Int) = ((turn.toNat % L.length : Nat) : Int) := by omega
  have hkl : turn.toNat % L.length < L.length := Nat.mod_lt _ (by omega)
  generalize turn.toNat % L.length = k at *
  obtain ⟨u, u1, u2, u3⟩ := Ss.lo (P := Try.prog) (kd := .i64) (tl_ss hL1) oneT_len (sw_one sw) (Nat.le_of_lt hkl)
  obtain ⟨x, x1, x2, x3⟩ := Ss.hi (P := Try.prog) (kd := .i64) (tl_ss hL1) oneT_len (sw_one sw) (Nat.le_of_lt hkl)
  have hdl : (L.drop k).length = L.length - k := List.length_drop
  have htl : (L.take k).length = k := by rw [List.length_take]; omega
  repeat' (first
    | refine St.h ?_
    | simp (disch := first | omega | (simp only [lnv]; omega)) only [wlk, ↓get_put', Nat.reduceEqDiff, Nat.reduceLT, ↓reduceIte, Int.reduceToNat, Nat.reducePow, Nat.min_eq_left, Nat.reduceAdd, Nat.reduceMul, Int.reduceAdd, Int.reduceSub, Int.reduceNeg, Int.reduceMul, Int.reduceEq, Int.reduceLT, Int.reduceLE, Nat.reduceSub, Int.reduceNatCast, Nat.reduceLeDiff, hL.ln, hmk, u3, x3]
    | (with_reducible (first | apply cd_split | apply gd_split)) <;> (intro hc; (try simp only [hcn] at hc); (try simp only [hc]); (try simp only [hcl] at hc); try omega))
  refine AP.buf (vs := (L.drop k).flatMap oneT) (cnt := (L.drop k).length) (Buf.nil _ _ _) (new_ss u1 oneT_len (by omega)) hf1 (by omega) (by rw [fm_len oneT_len]) (by rw [map_one]; exact allOne_sv _) (by rw [fm_len oneT_len, hdl]; simp; omega) fun v1 h2 b2 s2 ho2 tp2 => ?_
  have s2' : Stay nowhere h1 h2 := s2.mono fun id _ ⟨_, _, _, _, _, e⟩ => by cases e
  have hf2 := s2'.fl hf1
  repeat' (first
    | refine St.h ?_
    | simp (disch := first | omega | (simp only [lnv]; omega)) only [wlk, ↓get_put', Nat.reduceEqDiff, Nat.reduceLT, ↓reduceIte, Int.reduceToNat, Nat.reducePow, Nat.min_eq_left, Nat.reduceAdd, Nat.reduceMul, Int.reduceAdd, Int.reduceSub, Int.reduceNeg, Int.reduceMul, Int.reduceEq, Int.reduceLT, Int.reduceLE, Nat.reduceSub, Int.reduceNatCast, Nat.reduceLeDiff, hL.ln, hmk, u3, x3]
    | (with_reducible (first | apply cd_split | apply gd_split)) <;> (intro hc; (try simp only [hcn] at hc); (try simp only [hc]); (try simp only [hcl] at hc); try omega))
  refine AP.buf (vs := (L.take k).flatMap oneT) (cnt := (L.take k).length) b2 (new_ss (x1.grow s2') oneT_len (by omega)) hf2 (by omega) (by rw [fm_len oneT_len]) (by rw [map_one]; exact allOne_sv _) (by rw [List.length_append, fm_len oneT_len, fm_len oneT_len, hdl, htl]; simp; omega) fun v2 h3 b3 s3 ho3 tp3 => ?_
  have s3' : Stay nowhere h1 h3 := s2'.past' s3 fun id hid => (ho2 id hid).elim (fun ⟨_, _, _, _, _, e⟩ => by cases e) fun h => h
  have hf3 := s3'.fl hf1
  have hL3 := hL1.grow s3'
  have hR : Tl h3 v2 (L.drop k ++ L.take k) := ss_tl (Ss.buf b3 (by simp) oneT_len (by omega))
  have hsame : sieveB (L.drop k ++ L.take k) = sieveB L := sieve_same (by rw [List.length_append, hdl, htl]; omega) fun q => by
    rw [List.mem_append, Or.comm, ← List.mem_append, List.take_append_drop]
  have hct := cnt_sieve L (8 * (sieveB L).length)
  have hcp := cnt_sieve_pos (l := L) (by omega)
  have hmp : ∀ j, j < L.length → mayB (sieveB L) (L.getD j []) = true := fun j hj => mayB_put (by rw [show L.getD j [] = L[j] by simp [List.getD, hj]]; simp)
  have hkj : ∀ j, j < L.length → (L.getD j []).length ≤ 1000000 := fun j hj => hk40 _ (by rw [show L.getD j [] = L[j] by simp [List.getD, hj]]; simp)
  generalize hM : sieveB L = M at *
  repeat' (first
    | refine St.h ?_
    | simp (disch := first | omega | (simp only [lnv]; omega)) only [wlk, ↓get_put', Nat.reduceEqDiff, Nat.reduceLT, ↓reduceIte, Int.reduceToNat, Nat.reducePow, Nat.min_eq_left, Nat.reduceAdd, Nat.reduceMul, Int.reduceAdd, Int.reduceSub, Int.reduceNeg, Int.reduceMul, Int.reduceEq, Int.reduceLT, Int.reduceLE, Nat.reduceSub, Int.reduceNatCast, Nat.reduceLeDiff, hL.ln]
    | (with_reducible (first | apply cd_split | apply gd_split)) <;> (intro hc; (try simp only [hcn] at hc); (try simp only [hc]); (try simp only [hcl] at hc); try omega))
  refine Ok.lp (fun mm t g => ∃ j : Nat, mm = L.length - j ∧ j ≤ L.length ∧ get 0 t = v ∧ get 5 t = sv M ∧ get 7 t = v2 ∧ get 8 t = .i .i64 (j : Int) ∧ Stay nowhere h3 g) L.length ?_ ?_
  · simp (disch := first | omega | (simp only [lnv]; omega)) only [wlk, ↓get_put', Nat.reduceEqDiff, Nat.reduceLT, ↓reduceIte, Int.reduceToNat, Nat.reducePow, Nat.min_eq_left, Nat.reduceAdd, Nat.reduceMul, Int.reduceAdd, Int.reduceSub, Int.reduceNeg, Int.reduceMul, Int.reduceEq, Int.reduceLT, Int.reduceLE, Nat.reduceSub, Int.reduceNatCast, Nat.reduceLeDiff]
    refine ⟨0, by omega, by omega, ?_, ?_, ?_, ?_, Stay.refl _ _⟩
    all_goals first | trivial | rfl
  rintro I hI mm t g0 ⟨j, rfl, hj, f0, f5, f7, f8, st⟩
  have hfg := st.fl hf3
  have hL3 := hL3.grow st
  have hR := hR.grow st
  have hmj := hmp j
  have hkj := hkj j
  repeat' (first
    | refine St.h ?_
    | simp (disch := first | omega | (simp only [lnv]; omega)) only [wlk, ↓get_put', Nat.reduceEqDiff, Nat.reduceLT, ↓reduceIte, Int.reduceToNat, Nat.reducePow, Nat.min_eq_left, Nat.reduceAdd, Nat.reduceMul, Int.reduceAdd, Int.reduceSub, Int.reduceNeg, Int.reduceMul, Int.reduceEq, Int.reduceLT, Int.reduceLE, Nat.reduceSub, Int.reduceNatCast, Nat.reduceLeDiff, f0, f5, f7, f8, hL.ln, hL.ix, hL3.ld, Int.toNat_natCast]
    | (with_reducible (first | apply cd_split | apply gd_split)) <;> (intro hc; (try simp only [hcn] at hc); (try simp only [hc]); (try simp only [hcl] at hc); try omega))
  · refine CL.stay (may_ok (by omega) (hkj (by omega)) hfg) fun g1 r1 => ?_
    rw [hmj (by omega)]
    repeat' (first
      | refine St.h ?_
      | simp (disch := first | omega | (simp only [lnv]; omega)) only [wlk, ↓get_put', Nat.reduceEqDiff, Nat.reduceLT, ↓reduceIte, Int.reduceToNat, Nat.reducePow, Nat.min_eq_left, Nat.reduceAdd, Nat.reduceMul, Int.reduceAdd, Int.reduceSub, Int.reduceNeg, Int.reduceMul, Int.reduceEq, Int.reduceLT, Int.reduceLE, Nat.reduceSub, Int.reduceNatCast, Nat.reduceLeDiff, f0, f5, f7, f8]
      | (with_reducible (first | apply cd_split | apply gd_split)) <;> (intro hc; (try simp only [hcn] at hc); (try simp only [hc]); (try simp only [hcl] at hc); try omega))
    refine lp_next hI (L.length - (j + 1)) (by omega) ⟨j + 1, rfl, by omega, ?_, ?_, ?_, ?_, st.trans r1⟩
    all_goals first | (simp (disch := first | omega | (simp only [lnv]; omega)) only [wlk, ↓get_put', Nat.reduceEqDiff, Nat.reduceLT, ↓reduceIte, Int.reduceToNat, Nat.reducePow, Nat.min_eq_left, Nat.reduceAdd, Nat.reduceMul, Int.reduceAdd, Int.reduceSub, Int.reduceNeg, Int.reduceMul, Int.reduceEq, Int.reduceLT, Int.reduceLE, Nat.reduceSub, Int.reduceNatCast, Nat.reduceLeDiff, f0, f5, f7, f8]; done) | (simp (disch := first | omega | (simp only [lnv]; omega)) only [wlk, ↓get_put', Nat.reduceEqDiff, Nat.reduceLT, ↓reduceIte, Int.reduceToNat, Nat.reducePow, Nat.min_eq_left, Nat.reduceAdd, Nat.reduceMul, Int.reduceAdd, Int.reduceSub, Int.reduceNeg, Int.reduceMul, Int.reduceEq, Int.reduceLT, Int.reduceLE, Nat.reduceSub, Int.reduceNatCast, Nat.reduceLeDiff, f8]; rfl)
  · repeat' (first
      | refine St.h ?_
      | simp (disch := first | omega | (simp only [lnv]; omega)) only [wlk, ↓get_put', Nat.reduceEqDiff, Nat.reduceLT, ↓reduceIte, Int.reduceToNat, Nat.reducePow, Nat.min_eq_left, Nat.reduceAdd, Nat.reduceMul, Int.reduceAdd, Int.reduceSub, Int.reduceNeg, Int.reduceMul, Int.reduceEq, Int.reduceLT, Int.reduceLE, Nat.reduceSub, Int.reduceNatCast, Nat.reduceLeDiff, f0, f5, f7, f8]
      | (with_reducible (first | apply cd_split | apply gd_split)) <;> (intro hc; (try simp only [hcn] at hc); (try simp only [hc]); (try simp only [hcl] at hc); try omega))
    refine Ok.lp (fun mm t g => ∃ i : Nat, i ≤ M.length ∧ mm = M.length - i ∧ get 9 t = .i .i64 (cntB M (8 * i) : Int) ∧ get 10 t = .i .i64 (i : Int) ∧ get 5 t = sv M ∧ get 0 t = v ∧ get 7 t = v2 ∧ g0 = g) M.length ?_ ?_
    · simp (disch := first | omega | (simp only [lnv]; omega)) only [wlk, ↓get_put', Nat.reduceEqDiff, Nat.reduceLT, ↓reduceIte, Int.reduceToNat, Nat.reducePow, Nat.min_eq_left, Nat.reduceAdd, Nat.reduceMul, Int.reduceAdd, Int.reduceSub, Int.reduceNeg, Int.reduceMul, Int.reduceEq, Int.reduceLT, Int.reduceLE, Nat.reduceSub, Int.reduceNatCast, Nat.reduceLeDiff]
      refine ⟨0, by omega, by omega, ?_⟩
      repeat' (first | trivial | rfl | refine And.intro ?_ ?_)
    rintro I1 hI1 mm t1 g1 ⟨i, hi, rfl, c0, c1, cm, q0, q7, rfl⟩
    have hcl1 := cnt_le M (8 * i)
    repeat' (first
      | refine St.h ?_
      | simp (disch := first | omega | (simp only [lnv]; omega)) only [wlk, ↓get_put', Nat.reduceEqDiff, Nat.reduceLT, ↓reduceIte, Int.reduceToNat, Nat.reducePow, Nat.min_eq_left, Nat.reduceAdd, Nat.reduceMul, Int.reduceAdd, Int.reduceSub, Int.reduceNeg, Int.reduceMul, Int.reduceEq, Int.reduceLT, Int.reduceLE, Nat.reduceSub, Int.reduceNatCast, Nat.reduceLeDiff, c0, c1, cm, q0, q7, Int.toNat_natCast]
      | (with_reducible (first | apply cd_split | apply gd_split)) <;> (intro hc; (try simp only [hcn] at hc); (try simp only [hc]); (try simp only [hcl] at hc); try omega))
    · refine Ok.lp (fun mm t g => ∃ j : Nat, j ≤ 8 ∧ mm = 8 - j ∧ get 9 t = .i .i64 (cntB M (8 * i + j) : Int) ∧ get 10 t = .i .i64 (i : Int) ∧ get 11 t = .i .i64 (j : Int) ∧ get 5 t = sv M ∧ get 0 t = v ∧ get 7 t = v2 ∧ g0 = g) 8 ?_ ?_
      · simp (disch := first | omega | (simp only [lnv]; omega)) only [wlk, ↓get_put', Nat.reduceEqDiff, Nat.reduceLT, ↓reduceIte, Int.reduceToNat, Nat.reducePow, Nat.min_eq_left, Nat.reduceAdd, Nat.reduceMul, Int.reduceAdd, Int.reduceSub, Int.reduceNeg, Int.reduceMul, Int.reduceEq, Int.reduceLT, Int.reduceLE, Nat.reduceSub, Int.reduceNatCast, Nat.reduceLeDiff, c0, c1, cm, q0, q7]
        refine ⟨0, by omega, by omega, ?_⟩
        repeat' (first | trivial | rfl | refine And.intro ?_ ?_)
      rintro J1 hJ1 mm t2 g2 ⟨j, hj, rfl, d0, d1, d2, dm, q0, q7, rfl⟩
      have hcl2 := cnt_le M (8 * i + j)
      have hxb := (M.getD i 0).toNat_lt
      have hst : j < 8 → _ := fun h => cnt_step (s := M) (i := i) h
      have hdv : ((M.getD i 0).toNat : Int) / ((2 ^ j : Nat) : Int) = (((M.getD i 0).toNat / 2 ^ j : Nat) : Int) := by simp
      have hdl : (M.getD i 0).toNat / 2 ^ j ≤ 255 := Nat.le_trans (Nat.div_le_self _ _) (by omega)
      generalize (M.getD i 0).toNat / 2 ^ j = w at *
      have hw1 : w &&& 1 ≤ 1 := by rw [Nat.and_one_is_mod]; omega
      repeat' (first
        | refine St.h ?_
        | simp (disch := first | omega | (simp only [lnv]; omega)) only [wlk, ↓get_put', Nat.reduceEqDiff, Nat.reduceLT, ↓reduceIte, Int.reduceToNat, Nat.reducePow, Nat.min_eq_left, Nat.reduceAdd, Nat.reduceMul, Int.reduceAdd, Int.reduceSub, Int.reduceNeg, Int.reduceMul, Int.reduceEq, Int.reduceLT, Int.reduceLE, Nat.reduceSub, Int.reduceNatCast, Nat.reduceLeDiff, d0, d1, d2, dm, q0, q7, hdv, wrap_u64s, Int.toNat_natCast]
        | (with_reducible (first | apply cd_split | apply gd_split)) <;> (intro hc; (try simp only [hcn] at hc); (try simp only [hc]); (try simp only [hcl] at hc); try omega))
      · have hst := hst (by omega)
        refine lp_next hJ1 (8 - (j + 1)) (by omega) ⟨j + 1, by omega, rfl, ?_, ?_, ?_, ?_, ?_, ?_, rfl⟩
        · rw [hst]; simp (disch := first | omega | (simp only [lnv]; omega)) only [wlk, ↓get_put', Nat.reduceEqDiff, Nat.reduceLT, ↓reduceIte, Int.reduceToNat, Nat.reducePow, Nat.min_eq_left, Nat.reduceAdd, Nat.reduceMul, Int.reduceAdd, Int.reduceSub, Int.reduceNeg, Int.reduceMul, Int.reduceEq, Int.reduceLT, Int.reduceLE, Nat.reduceSub, Int.reduceNatCast, Nat.reduceLeDiff, d0]; congr 1
        all_goals first | (simp (disch := first | omega | (simp only [lnv]; omega)) only [wlk, ↓get_put', Nat.reduceEqDiff, Nat.reduceLT, ↓reduceIte, Int.reduceToNat, Nat.reducePow, Nat.min_eq_left, Nat.reduceAdd, Nat.reduceMul, Int.reduceAdd, Int.reduceSub, Int.reduceNeg, Int.reduceMul, Int.reduceEq, Int.reduceLT, Int.reduceLE, Nat.reduceSub, Int.reduceNatCast, Nat.reduceLeDiff, d0, d1, d2, dm, q0, q7]; done) | (simp (disch := first | omega | (simp only [lnv]; omega)) only [wlk, ↓get_put', Nat.reduceEqDiff, Nat.reduceLT, ↓reduceIte, Int.reduceToNat, Nat.reducePow, Nat.min_eq_left, Nat.reduceAdd, Nat.reduceMul, Int.reduceAdd, Int.reduceSub, Int.reduceNeg, Int.reduceMul, Int.reduceEq, Int.reduceLT, Int.reduceLE, Nat.reduceSub, Int.reduceNatCast, Nat.reduceLeDiff, d2]; rfl)
      · obtain rfl : j = 8 := by omega
        repeat' (first
          | refine St.h ?_
          | simp (disch := first | omega | (simp only [lnv]; omega)) only [wlk, ↓get_put', Nat.reduceEqDiff, Nat.reduceLT, ↓reduceIte, Int.reduceToNat, Nat.reducePow, Nat.min_eq_left, Nat.reduceAdd, Nat.reduceMul, Int.reduceAdd, Int.reduceSub, Int.reduceNeg, Int.reduceMul, Int.reduceEq, Int.reduceLT, Int.reduceLE, Nat.reduceSub, Int.reduceNatCast, Nat.reduceLeDiff, d0, d1, dm, q0, q7]
          | (with_reducible (first | apply cd_split | apply gd_split)) <;> (intro hc; (try simp only [hcn] at hc); (try simp only [hc]); (try simp only [hcl] at hc); try omega))
        refine lp_next hI1 (M.length - (i + 1)) (by omega) ⟨i + 1, by omega, rfl, ?_, ?_, ?_, ?_, ?_, rfl⟩
        all_goals first | (simp (disch := first | omega | (simp only [lnv]; omega)) only [wlk, ↓get_put', Nat.reduceEqDiff, Nat.reduceLT, ↓reduceIte, Int.reduceToNat, Nat.reducePow, Nat.min_eq_left, Nat.reduceAdd, Nat.reduceMul, Int.reduceAdd, Int.reduceSub, Int.reduceNeg, Int.reduceMul, Int.reduceEq, Int.reduceLT, Int.reduceLE, Nat.reduceSub, Int.reduceNatCast, Nat.reduceLeDiff, d0, d1, dm, q0, q7]; done) | (simp (disch := first | omega | (simp only [lnv]; omega)) only [wlk, ↓get_put', Nat.reduceEqDiff, Nat.reduceLT, ↓reduceIte, Int.reduceToNat, Nat.reducePow, Nat.min_eq_left, Nat.reduceAdd, Nat.reduceMul, Int.reduceAdd, Int.reduceSub, Int.reduceNeg, Int.reduceMul, Int.reduceEq, Int.reduceLT, Int.reduceLE, Nat.reduceSub, Int.reduceNatCast, Nat.reduceLeDiff, d1]; rfl) | (simp (disch := first | omega | (simp only [lnv]; omega)) only [wlk, ↓get_put', Nat.reduceEqDiff, Nat.reduceLT, ↓reduceIte, Int.reduceToNat, Nat.reducePow, Nat.min_eq_left, Nat.reduceAdd, Nat.reduceMul, Int.reduceAdd, Int.reduceSub, Int.reduceNeg, Int.reduceMul, Int.reduceEq, Int.reduceLT, Int.reduceLE, Nat.reduceSub, Int.reduceNatCast, Nat.reduceLeDiff, d0]; rfl)
    · obtain rfl : i = M.length := by omega
      have hRl : ∀ q ∈ L.drop k ++ L.take k, q.length ≤ 1000000 := fun q hq => hk40 q (by
        rcases List.mem_append.1 hq with h | h
        · exact List.mem_of_mem_drop h
        · exact List.mem_of_mem_take h)
      repeat' (first
        | refine St.h ?_
        | simp (disch := first | omega | (simp only [lnv]; omega)) only [wlk, ↓get_put', Nat.reduceEqDiff, Nat.reduceLT, ↓reduceIte, Int.reduceToNat, Nat.reducePow, Nat.min_eq_left, Nat.reduceAdd, Nat.reduceMul, Int.reduceAdd, Int.reduceSub, Int.reduceNeg, Int.reduceMul, Int.reduceEq, Int.reduceLT, Int.reduceLE, Nat.reduceSub, Int.reduceNatCast, Nat.reduceLeDiff, c0, cm, q0, q7]
        | (with_reducible (first | apply cd_split | apply gd_split)) <;> (intro hc; (try simp only [hcn] at hc); (try simp only [hc]); (try simp only [hcl] at hc); try omega))
      refine CL.stay (make_ok hR (by rw [List.length_append, hdl, htl]; omega) hRl hfg) fun h4 s4 => ?_
      rw [hsame]
      repeat' (first
        | refine St.h ?_
        | simp (disch := first | omega | (simp only [lnv]; omega)) only [wlk, ↓get_put', Nat.reduceEqDiff, Nat.reduceLT, ↓reduceIte, Int.reduceToNat, Nat.reducePow, Nat.min_eq_left, Nat.reduceAdd, Nat.reduceMul, Int.reduceAdd, Int.reduceSub, Int.reduceNeg, Int.reduceMul, Int.reduceEq, Int.reduceLT, Int.reduceLE, Nat.reduceSub, Int.reduceNatCast, Nat.reduceLeDiff, c0, cm, q0, q7, hL.ln]
        | (with_reducible (first | apply cd_split | apply gd_split)) <;> (intro hc; (try simp only [hcn] at hc); (try simp only [hc]); (try simp only [hcl] at hc); try omega))
      have d1 := decide_eq_true (p := (0 : Int) < (cntB M (8 * M.length) : Int)) (by omega)
      subst hQ
      rw [d1]
end Go.Proofs.Ytiecpllnbekmoaa
