/- The document's sieve: Hash, by what it computes. No condition. -/
import Derived.Test.YtiecpllnbekmoaaJrSv
import Derived.Test.YtiecpllnbekmoaaSvM
import Derived.Test.YtiecpllnbekmoaaBase
set_option maxRecDepth 100000
set_option maxHeartbeats 8000000
set_option linter.all false
namespace Go.Proofs.Ytiecpllnbekmoaa
open Go Go.Ev

theorem wrap_u32m {n : Int} (h : 0 ≤ n) : IntKind.u32.wrap n = n % 4294967296 := by
  simp only [IntKind.wrap, IntKind.bits, IntKind.signed]; simp
theorem rhash_ok {h : H} {l : List UInt8} (hl : l.length ≤ 1000000) : FnOk Try.prog 40 [sv l] h fun y h' => y = .tu [.i .u32 ((hashB l).1 : Int), .i .u32 ((hashB l).2 : Int)] ∧ h' = h := by
  refine fn_go c40 (by intro hb; cases hb) (by simp) (by simp) fun Q hQ => ?_
  simp only [slotsF, Nat.reduceAdd]
  repeat' (first
    | refine St.h ?_
    | simp (disch := first | omega | (simp only [lnv]; omega)) only [wlk, ↓get_put', Nat.reduceEqDiff, Nat.reduceLT, ↓reduceIte, Int.reduceToNat, Nat.reducePow, Nat.min_eq_left, Nat.reduceAdd, Nat.reduceMul, Int.reduceAdd, Int.reduceSub, Int.reduceNeg, Int.reduceMul, Int.reduceEq, Int.reduceLT, Int.reduceLE, Nat.reduceSub, Int.reduceNatCast, Nat.reduceLeDiff]
    | (with_reducible (first | apply cd_split | apply gd_split)) <;> (intro hc; (try simp only [hcn] at hc); (try simp only [hc]); (try simp only [hcl] at hc); try omega))
  refine Ok.lp (fun m t g => ∃ i : Nat, i ≤ l.length ∧ m = l.length - i ∧ h = g ∧ get 0 t = sv l ∧ get 4 t = .i .u32 ((hashU (l.take i)).1 : Int) ∧ get 5 t = .i .u32 ((hashU (l.take i)).2 : Int) ∧ get 6 t = .i .i64 (i : Int)) l.length ?_ ?_
  · simp (disch := first | omega | (simp only [lnv]; omega)) only [wlk, ↓get_put', Nat.reduceEqDiff, Nat.reduceLT, ↓reduceIte, Int.reduceToNat, Nat.reducePow, Nat.min_eq_left, Nat.reduceAdd, Nat.reduceMul, Int.reduceAdd, Int.reduceSub, Int.reduceNeg, Int.reduceMul, Int.reduceEq, Int.reduceLT, Int.reduceLE, Nat.reduceSub, Int.reduceNatCast, Nat.reduceLeDiff]
    exact ⟨0, by omega, by omega, trivial, trivial, rfl, rfl, rfl⟩
  rintro I hI m t g ⟨i, hi, rfl, rfl, f0, f4, f5, f6⟩
  have hci := (l.getD i 0).toNat_lt
  have ⟨b1, b2⟩ := hashU_lt (l.take i)
  repeat' (first
    | refine St.h ?_
    | simp (disch := first | omega | (simp only [lnv]; omega)) only [wlk, ↓get_put', Nat.reduceEqDiff, Nat.reduceLT, ↓reduceIte, Int.reduceToNat, Nat.reducePow, Nat.min_eq_left, Nat.reduceAdd, Nat.reduceMul, Int.reduceAdd, Int.reduceSub, Int.reduceNeg, Int.reduceMul, Int.reduceEq, Int.reduceLT, Int.reduceLE, Nat.reduceSub, Int.reduceNatCast, Nat.reduceLeDiff, f0, f4, f5, f6, wrap_u32m, Int.toNat_natCast]
    | (with_reducible (first | apply cd_split | apply gd_split)) <;> (intro hc; (try simp only [hcn] at hc); (try simp only [hc]); (try simp only [hcl] at hc); try omega))
  · have e := hashU_take (l := l) (i := i) (by omega)
    refine lp_next hI (l.length - (i + 1)) (by omega) ⟨i + 1, by omega, rfl, rfl, ?_, ?_, ?_, ?_⟩
    · simp (disch := first | omega | (simp only [lnv]; omega)) only [wlk, ↓get_put', Nat.reduceEqDiff, Nat.reduceLT, ↓reduceIte, Int.reduceToNat, Nat.reducePow, Nat.min_eq_left, Nat.reduceAdd, Nat.reduceMul, Int.reduceAdd, Int.reduceSub, Int.reduceNeg, Int.reduceMul, Int.reduceEq, Int.reduceLT, Int.reduceLE, Nat.reduceSub, Int.reduceNatCast, Nat.reduceLeDiff, f0]
    · simp (disch := first | omega | (simp only [lnv]; omega)) only [wlk, ↓get_put', Nat.reduceEqDiff, Nat.reduceLT, ↓reduceIte, Int.reduceToNat, Nat.reducePow, Nat.min_eq_left, Nat.reduceAdd, Nat.reduceMul, Int.reduceAdd, Int.reduceSub, Int.reduceNeg, Int.reduceMul, Int.reduceEq, Int.reduceLT, Int.reduceLE, Nat.reduceSub, Int.reduceNatCast, Nat.reduceLeDiff, e, hashStep]
      congr 1; omega
    · simp (disch := first | omega | (simp only [lnv]; omega)) only [wlk, ↓get_put', Nat.reduceEqDiff, Nat.reduceLT, ↓reduceIte, Int.reduceToNat, Nat.reducePow, Nat.min_eq_left, Nat.reduceAdd, Nat.reduceMul, Int.reduceAdd, Int.reduceSub, Int.reduceNeg, Int.reduceMul, Int.reduceEq, Int.reduceLT, Int.reduceLE, Nat.reduceSub, Int.reduceNatCast, Nat.reduceLeDiff, e, hashStep]
      congr 2
    · simp (disch := first | omega | (simp only [lnv]; omega)) only [wlk, ↓get_put', Nat.reduceEqDiff, Nat.reduceLT, ↓reduceIte, Int.reduceToNat, Nat.reducePow, Nat.min_eq_left, Nat.reduceAdd, Nat.reduceMul, Int.reduceAdd, Int.reduceSub, Int.reduceNeg, Int.reduceMul, Int.reduceEq, Int.reduceLT, Int.reduceLE, Nat.reduceSub, Int.reduceNatCast, Nat.reduceLeDiff]; rfl
  · obtain rfl : i = l.length := by omega
    rw [List.take_length] at *
    subst hQ
    exact ⟨rfl, rfl⟩
theorem repL_bv (n : Nat) : repL [V.i .u8 0] n = (List.replicate n (0 : UInt8)).map bv := by
  induction n with
  | zero => rfl
  | succ n ih =>
    have e : repL [V.i .u8 0] (n + 1) = V.i .u8 0 :: repL [V.i .u8 0] n := rfl
    rw [e, ih, List.replicate_succ, List.map_cons]; rfl
theorem bv_at {s : List UInt8} {j : Nat} (hj : j < s.length) : (s.map bv).getD j .u = .i .u8 ((s.getD j 0).toNat : Int) := by
  simp [List.getD, hj]; rfl
theorem wrap_u64s {n : Int} (h : 0 ≤ n) (h2 : n ≤ 1152921504606846976) : IntKind.u64.wrap n = n := wrap_u64 h (by omega)
theorem pow_byte {k : Nat} : IntKind.u8.wrap (1 * ((2 ^ ((k : Int) % 8).toNat : Nat) : Int)) = ((2 ^ (k % 8) : Nat) : Int) := by
  have e : ((k : Int) % 8).toNat = k % 8 := by omega
  rw [e]
  have h1 : 2 ^ (k % 8) < 2 ^ 8 := Nat.pow_lt_pow_right (by omega) (by omega)
  generalize 2 ^ (k % 8) = z at *
  rw [Int.one_mul, wrap_u8 (by omega) (by omega)]
theorem rsieve_ok {h : H} {v : V} {L : List (List UInt8)} (hL : Tl h v L) (hl : L.length ≤ 1000) (hs : ∀ k ∈ L, k.length ≤ 1000000) (hf : B.val h.floor ≤ B.val h.next) : FnOk Try.prog 42 [v] h fun y h' => y = sv (sieveB L) ∧ Stay nowhere h h' := by
  refine fn_go c42 (by intro hb; cases hb) (by simp) (by simp) fun Q hQ => ?_
  simp only [slotsF, Nat.reduceAdd]
  have hn : (max 8 (L.length : Int)).toNat = max 8 L.length := by omega
  have hsl : (sieveB L).length = max 8 L.length := sieveB_len L
  generalize hnn : max 8 L.length = n at *
  have hn8 : 8 ≤ n := by omega
  have hn1 : n ≤ 1000 := by omega
  repeat' (first
    | refine St.h ?_
    | simp (disch := first | omega | (simp only [lnv]; omega)) only [wlk, ↓get_put', Nat.reduceEqDiff, Nat.reduceLT, ↓reduceIte, Int.reduceToNat, Nat.reducePow, Nat.min_eq_left, Nat.reduceAdd, Nat.reduceMul, Int.reduceAdd, Int.reduceSub, Int.reduceNeg, Int.reduceMul, Int.reduceEq, Int.reduceLT, Int.reduceLE, Nat.reduceSub, Int.reduceNatCast, Nat.reduceLeDiff, hL.ln, hn]
    | (with_reducible (first | apply cd_split | apply gd_split)) <;> (intro hc; (try simp only [hcn] at hc); (try simp only [hc]); (try simp only [hcl] at hc); try omega))
  refine AL.own (by rw [repL_bv]; simp; omega) hf fun h1 s1 n1 o1 => ?_
  rw [repL_bv] at o1
  have hf1 := s1.fl hf
  have hz : (List.replicate n (0 : UInt8)).length = n := by simp
  have hsv : putKeys (List.replicate n 0) L = sieveB L := by unfold sieveB; rw [hnn]
  generalize List.replicate n (0 : UInt8) = Z at *
  repeat' (first
    | refine St.h ?_
    | simp (disch := first | omega | (simp only [lnv]; omega)) only [wlk, ↓get_put', Nat.reduceEqDiff, Nat.reduceLT, ↓reduceIte, Int.reduceToNat, Nat.reducePow, Nat.min_eq_left, Nat.reduceAdd, Nat.reduceMul, Int.reduceAdd, Int.reduceSub, Int.reduceNeg, Int.reduceMul, Int.reduceEq, Int.reduceLT, Int.reduceLE, Nat.reduceSub, Int.reduceNatCast, Nat.reduceLeDiff, hL.ln, hn]
    | (with_reducible (first | apply cd_split | apply gd_split)) <;> (intro hc; (try simp only [hcn] at hc); (try simp only [hc]); (try simp only [hcl] at hc); try omega))
  refine Ok.lp (fun m t g => ∃ i : Nat, i ≤ L.length ∧ m = L.length - i ∧ get 0 t = v ∧ get 3 t = .l h.next 0 0 n n (some n) ∧ get 4 t = .i .i64 (i : Int) ∧ Own g h.next ((putKeys Z (L.take i)).map bv) ∧ Stay nowhere h g) L.length ?_ ?_
  · simp (disch := first | omega | (simp only [lnv]; omega)) only [wlk, ↓get_put', Nat.reduceEqDiff, Nat.reduceLT, ↓reduceIte, Int.reduceToNat, Nat.reducePow, Nat.min_eq_left, Nat.reduceAdd, Nat.reduceMul, Int.reduceAdd, Int.reduceSub, Int.reduceNeg, Int.reduceMul, Int.reduceEq, Int.reduceLT, Int.reduceLE, Nat.reduceSub, Int.reduceNatCast, Nat.reduceLeDiff, hn]
    exact ⟨0, by omega, by omega, trivial, trivial, rfl, o1, s1⟩
  rintro I hI m t g ⟨i, hi, rfl, f0, f3, f4, og, st⟩
  have hfg := st.fl hf
  have hLg := hL.grow st
  generalize hS : putKeys Z (L.take i) = S at *
  have hSl : S.length = n := by rw [← hS, putKeys_len, hz]
  repeat' (first
    | refine St.h ?_
    | simp (disch := first | omega | (simp only [lnv]; omega)) only [wlk, ↓get_put', Nat.reduceEqDiff, Nat.reduceLT, ↓reduceIte, Int.reduceToNat, Nat.reducePow, Nat.min_eq_left, Nat.reduceAdd, Nat.reduceMul, Int.reduceAdd, Int.reduceSub, Int.reduceNeg, Int.reduceMul, Int.reduceEq, Int.reduceLT, Int.reduceLE, Nat.reduceSub, Int.reduceNatCast, Nat.reduceLeDiff, f0, f3, f4, hL.ln, hL.ix, hLg.ld, Int.toNat_natCast]
    | (with_reducible (first | apply cd_split | apply gd_split)) <;> (intro hc; (try simp only [hcn] at hc); (try simp only [hc]); (try simp only [hcl] at hc); try omega))
  · have hki : (L.getD i []).length ≤ 1000000 := hs _ (by rw [show L.getD i [] = L[i] by simp [List.getD, show i < L.length by omega]]; simp)
    generalize hkk : L.getD i [] = key at *
    refine CL.pure (rhash_ok hki) ?_
    have ⟨a1, a2⟩ := hashB_lt key
    have hsp : ∀ q : Nat, spot key S.length q = ((hashB key).1 + q * (hashB key).2) % (8 * n) := fun q => by rw [hSl]; rfl
    generalize hab : hashB key = ab at *
    obtain ⟨a, b⟩ := ab
    repeat' (first
      | refine St.h ?_
      | simp (disch := first | omega | (simp only [lnv]; omega)) only [wlk, ↓get_put', Nat.reduceEqDiff, Nat.reduceLT, ↓reduceIte, Int.reduceToNat, Nat.reducePow, Nat.min_eq_left, Nat.reduceAdd, Nat.reduceMul, Int.reduceAdd, Int.reduceSub, Int.reduceNeg, Int.reduceMul, Int.reduceEq, Int.reduceLT, Int.reduceLE, Nat.reduceSub, Int.reduceNatCast, Nat.reduceLeDiff]
      | (with_reducible (first | apply cd_split | apply gd_split)) <;> (intro hc; (try simp only [hcn] at hc); (try simp only [hc]); (try simp only [hcl] at hc); try omega))
    refine Ok.lp (fun m t g => ∃ q : Nat, q ≤ 4 ∧ m = 4 - q ∧ get 0 t = v ∧ get 3 t = .l h.next 0 0 n n (some n) ∧ get 4 t = .i .i64 (i : Int) ∧ get 5 t = .i .u32 (a : Int) ∧ get 6 t = .i .u32 (b : Int) ∧ get 7 t = .i .u64 (q : Int) ∧ Own g h.next ((putKey S key q).map bv) ∧ Stay nowhere h g) 4 ?_ ?_
    · simp (disch := first | omega | (simp only [lnv]; omega)) only [wlk, ↓get_put', Nat.reduceEqDiff, Nat.reduceLT, ↓reduceIte, Int.reduceToNat, Nat.reducePow, Nat.min_eq_left, Nat.reduceAdd, Nat.reduceMul, Int.reduceAdd, Int.reduceSub, Int.reduceNeg, Int.reduceMul, Int.reduceEq, Int.reduceLT, Int.reduceLE, Nat.reduceSub, Int.reduceNatCast, Nat.reduceLeDiff, f0, f3, f4]
      refine ⟨0, by omega, by omega, ?_, ?_, ?_, ?_, ?_, ?_, og, st⟩ <;> first | trivial | rfl
    rintro J hJ m t2 g2 ⟨q, hq, rfl, e0, e3, e4, e5, e6, e7, o2, st2⟩
    have hqb : (q : Int) * (b : Int) = ((q * b : Nat) : Int) := by simp
    have hqb2 : q * b ≤ 4 * 4294967296 := Nat.mul_le_mul hq (by omega)
    have hK : (putKey S key q).length = n := by rw [putKey_len, hSl]
    have hk : ((a : Int) + ((q * b : Nat) : Int)) % (8 * (n : Int)) = ((spot key S.length q : Nat) : Int) := by rw [hsp]; simp
    have hkl : spot key S.length q < 8 * n := by rw [hsp]; exact Nat.mod_lt _ (by omega)
    have hpk := putKey_succ S key q
    generalize spot key S.length q = k at *
    have hk8 : ((k : Int) / 8).toNat = k / 8 := by omega
    generalize hT : putKey S key q = T at *
    have hba := bv_at (s := T) (j := k / 8) (by omega)
    have hbt := (T.getD (k / 8) 0).toNat_lt
    have h2k : 2 ^ (k % 8) < 256 := Nat.pow_lt_pow_right (a := 2) (n := 8) (by omega) (by omega)
    have hpb := pow_byte (k := k)
    have hor := byte_or (x := (T.getD (k / 8) 0).toNat) (i := k % 8) (by omega) (by omega)
    have hpt : putBit T k = T.set (k / 8) (UInt8.ofNat ((T.getD (k / 8) 0).toNat ||| 2 ^ (k % 8))) := rfl
    generalize 2 ^ (k % 8) = w at *
    repeat' (first
      | refine St.h ?_
      | simp (disch := first | omega | (simp only [lnv]; omega)) only [wlk, ↓get_put', Nat.reduceEqDiff, Nat.reduceLT, ↓reduceIte, Int.reduceToNat, Nat.reducePow, Nat.min_eq_left, Nat.reduceAdd, Nat.reduceMul, Int.reduceAdd, Int.reduceSub, Int.reduceNeg, Int.reduceMul, Int.reduceEq, Int.reduceLT, Int.reduceLE, Nat.reduceSub, Int.reduceNatCast, Nat.reduceLeDiff, e0, e3, e4, e5, e6, e7, wrap_u64s, hqb, hk, hk8, o2.row.l1, hba, hpb, Int.toNat_natCast, List.length_map]
      | (with_reducible (first | apply cd_split | apply gd_split)) <;> (intro hc; (try simp only [hcn] at hc); (try simp only [hc]); (try simp only [hcl] at hc); try omega))
    · refine ST.own (y := bv (UInt8.ofNat ((T.getD (k / 8) 0).toNat ||| w))) o2 ?_ rfl (by omega) (by omega) fun g3 o3 s3 => ?_
      · rw [← bv_ofNat, Nat.mod_eq_of_lt hor]; rfl
      repeat' (first
        | refine St.h ?_
        | simp (disch := first | omega | (simp only [lnv]; omega)) only [wlk, ↓get_put', Nat.reduceEqDiff, Nat.reduceLT, ↓reduceIte, Int.reduceToNat, Nat.reducePow, Nat.min_eq_left, Nat.reduceAdd, Nat.reduceMul, Int.reduceAdd, Int.reduceSub, Int.reduceNeg, Int.reduceMul, Int.reduceEq, Int.reduceLT, Int.reduceLE, Nat.reduceSub, Int.reduceNatCast, Nat.reduceLeDiff, e0, e3, e4, e5, e6, e7]
        | (with_reducible (first | apply cd_split | apply gd_split)) <;> (intro hc; (try simp only [hcn] at hc); (try simp only [hc]); (try simp only [hcl] at hc); try omega))
      refine lp_next hJ (4 - (q + 1)) (by omega) ⟨q + 1, by omega, rfl, ?_, ?_, ?_, ?_, ?_, ?_, ?_, st2.past' s3 fun i hi => by rw [hi]; exact Nat.le_refl _⟩
      all_goals first | (simp (disch := first | omega | (simp only [lnv]; omega)) only [wlk, ↓get_put', Nat.reduceEqDiff, Nat.reduceLT, ↓reduceIte, Int.reduceToNat, Nat.reducePow, Nat.min_eq_left, Nat.reduceAdd, Nat.reduceMul, Int.reduceAdd, Int.reduceSub, Int.reduceNeg, Int.reduceMul, Int.reduceEq, Int.reduceLT, Int.reduceLE, Nat.reduceSub, Int.reduceNatCast, Nat.reduceLeDiff, e0, e3, e4, e5, e6, e7]; done) | (simp (disch := first | omega | (simp only [lnv]; omega)) only [wlk, ↓get_put', Nat.reduceEqDiff, Nat.reduceLT, ↓reduceIte, Int.reduceToNat, Nat.reducePow, Nat.min_eq_left, Nat.reduceAdd, Nat.reduceMul, Int.reduceAdd, Int.reduceSub, Int.reduceNeg, Int.reduceMul, Int.reduceEq, Int.reduceLT, Int.reduceLE, Nat.reduceSub, Int.reduceNatCast, Nat.reduceLeDiff]; rfl) | skip
      rw [hpk, hpt, List.map_set]; exact o3
    · obtain rfl : q = 4 := by omega
      have hnx : putKeys Z (L.take (i + 1)) = T := by
        have : L.take (i + 1) = L.take i ++ [key] := by rw [List.take_succ_eq_append_getElem (by omega), ← hkk]; simp [List.getD, show i < L.length by omega]
        rw [this, putKeys_snoc, hS, hT]
      repeat' (first
        | refine St.h ?_
        | simp (disch := first | omega | (simp only [lnv]; omega)) only [wlk, ↓get_put', Nat.reduceEqDiff, Nat.reduceLT, ↓reduceIte, Int.reduceToNat, Nat.reducePow, Nat.min_eq_left, Nat.reduceAdd, Nat.reduceMul, Int.reduceAdd, Int.reduceSub, Int.reduceNeg, Int.reduceMul, Int.reduceEq, Int.reduceLT, Int.reduceLE, Nat.reduceSub, Int.reduceNatCast, Nat.reduceLeDiff, e0, e3, e4]
        | (with_reducible (first | apply cd_split | apply gd_split)) <;> (intro hc; (try simp only [hcn] at hc); (try simp only [hc]); (try simp only [hcl] at hc); try omega))
      refine lp_next hI (L.length - (i + 1)) (by omega) ⟨i + 1, by omega, rfl, ?_, ?_, ?_, by rw [hnx]; exact o2, st2⟩
      · simp (disch := first | omega | (simp only [lnv]; omega)) only [wlk, ↓get_put', Nat.reduceEqDiff, Nat.reduceLT, ↓reduceIte, Int.reduceToNat, Nat.reducePow, Nat.min_eq_left, Nat.reduceAdd, Nat.reduceMul, Int.reduceAdd, Int.reduceSub, Int.reduceNeg, Int.reduceMul, Int.reduceEq, Int.reduceLT, Int.reduceLE, Nat.reduceSub, Int.reduceNatCast, Nat.reduceLeDiff, e0]
      · simp (disch := first | omega | (simp only [lnv]; omega)) only [wlk, ↓get_put', Nat.reduceEqDiff, Nat.reduceLT, ↓reduceIte, Int.reduceToNat, Nat.reducePow, Nat.min_eq_left, Nat.reduceAdd, Nat.reduceMul, Int.reduceAdd, Int.reduceSub, Int.reduceNeg, Int.reduceMul, Int.reduceEq, Int.reduceLT, Int.reduceLE, Nat.reduceSub, Int.reduceNatCast, Nat.reduceLeDiff, e3]
      · simp (disch := first | omega | (simp only [lnv]; omega)) only [wlk, ↓get_put', Nat.reduceEqDiff, Nat.reduceLT, ↓reduceIte, Int.reduceToNat, Nat.reducePow, Nat.min_eq_left, Nat.reduceAdd, Nat.reduceMul, Int.reduceAdd, Int.reduceSub, Int.reduceNeg, Int.reduceMul, Int.reduceEq, Int.reduceLT, Int.reduceLE, Nat.reduceSub, Int.reduceNatCast, Nat.reduceLeDiff]; rfl
  · obtain rfl : i = L.length := by omega
    rw [List.take_length, hsv] at hS
    have hL2 := og.lst (some n)
    rw [List.length_map, hSl] at hL2
    repeat' (first
      | refine St.h ?_
      | simp (disch := first | omega | (simp only [lnv]; omega)) only [wlk, ↓get_put', Nat.reduceEqDiff, Nat.reduceLT, ↓reduceIte, Int.reduceToNat, Nat.reducePow, Nat.min_eq_left, Nat.reduceAdd, Nat.reduceMul, Int.reduceAdd, Int.reduceSub, Int.reduceNeg, Int.reduceMul, Int.reduceEq, Int.reduceLT, Int.reduceLE, Nat.reduceSub, Int.reduceNatCast, Nat.reduceLeDiff, f0, f3, f4, hL2.bs (by intro e; rw [e] at hSl; simp at hSl; omega)]
      | (with_reducible (first | apply cd_split | apply gd_split)) <;> (intro hc; (try simp only [hcn] at hc); (try simp only [hc]); (try simp only [hcl] at hc); try omega))
    subst hQ
    exact ⟨by rw [hS], st⟩
theorem rmay_ok {h : H} {s key : List UInt8} (hs : s.length ≤ 1000000) (hk : key.length ≤ 1000000) : FnOk Try.prog 44 [sv s, sv key] h fun y h' => y = .b (mayB s key) ∧ h' = h := by
  refine fn_go c44 (by intro hb; cases hb) (by simp) (by simp) fun Q hQ => ?_
  simp only [slotsF, Nat.reduceAdd]
  repeat' (first
    | refine St.h ?_
    | simp (disch := first | omega | (simp only [lnv]; omega)) only [wlk, ↓get_put', Nat.reduceEqDiff, Nat.reduceLT, ↓reduceIte, Int.reduceToNat, Nat.reducePow, Nat.min_eq_left, Nat.reduceAdd, Nat.reduceMul, Int.reduceAdd, Int.reduceSub, Int.reduceNeg, Int.reduceMul, Int.reduceEq, Int.reduceLT, Int.reduceLE, Nat.reduceSub, Int.reduceNatCast, Nat.reduceLeDiff]
    | (with_reducible (first | apply cd_split | apply gd_split)) <;> (intro hc; (try simp only [hcn] at hc); (try simp only [hc]); (try simp only [hcl] at hc); try omega))
  refine CL.pure (rhash_ok hk) ?_
  have ⟨a1, a2⟩ := hashB_lt key
  have hsp : ∀ q : Nat, spot key s.length q = ((hashB key).1 + q * (hashB key).2) % (8 * s.length) := fun q => rfl
  generalize hab : hashB key = ab at *
  obtain ⟨a, b⟩ := ab
  repeat' (first
    | refine St.h ?_
    | simp (disch := first | omega | (simp only [lnv]; omega)) only [wlk, ↓get_put', Nat.reduceEqDiff, Nat.reduceLT, ↓reduceIte, Int.reduceToNat, Nat.reducePow, Nat.min_eq_left, Nat.reduceAdd, Nat.reduceMul, Int.reduceAdd, Int.reduceSub, Int.reduceNeg, Int.reduceMul, Int.reduceEq, Int.reduceLT, Int.reduceLE, Nat.reduceSub, Int.reduceNatCast, Nat.reduceLeDiff]
    | (with_reducible (first | apply cd_split | apply gd_split)) <;> (intro hc; (try simp only [hcn] at hc); (try simp only [hc]); (try simp only [hcl] at hc); try omega))
  refine Ok.lp (fun m t g => ∃ q : Nat, q ≤ 4 ∧ m = 4 - q ∧ h = g ∧ (0 < q → 0 < s.length ∧ ∀ p, p < q → bitB s (spot key s.length p) = true) ∧ get 0 t = sv s ∧ get 5 t = .i .u32 (a : Int) ∧ get 6 t = .i .u32 (b : Int) ∧ get 7 t = .i .u64 (q : Int)) 4 ?_ ?_
  · simp (disch := first | omega | (simp only [lnv]; omega)) only [wlk, ↓get_put', Nat.reduceEqDiff, Nat.reduceLT, ↓reduceIte, Int.reduceToNat, Nat.reducePow, Nat.min_eq_left, Nat.reduceAdd, Nat.reduceMul, Int.reduceAdd, Int.reduceSub, Int.reduceNeg, Int.reduceMul, Int.reduceEq, Int.reduceLT, Int.reduceLE, Nat.reduceSub, Int.reduceNatCast, Nat.reduceLeDiff]
    refine ⟨0, by omega, by omega, ?_, ?_, ?_, ?_, ?_, ?_⟩ <;> first | trivial | rfl | (intro h; omega)
  rintro J hJ m t2 g2 ⟨q, hq, rfl, rfl, hb, e0, e5, e6, e7⟩
  have hqb : (q : Int) * (b : Int) = ((q * b : Nat) : Int) := by simp
  have hqb2 : q * b ≤ 4 * 4294967296 := Nat.mul_le_mul hq (by omega)
  have hmay0 : s.length = 0 → mayB s key = true := fun e => by unfold mayB; rw [if_pos e]
  by_cases hs0 : s.length = 0
  · have hd : ¬ (0 : Int) < (s.length : Int) := by omega
    repeat' (first
      | refine St.h ?_
      | simp (disch := first | omega | (simp only [lnv]; omega)) only [wlk, ↓get_put', Nat.reduceEqDiff, Nat.reduceLT, ↓reduceIte, Int.reduceToNat, Nat.reducePow, Nat.min_eq_left, Nat.reduceAdd, Nat.reduceMul, Int.reduceAdd, Int.reduceSub, Int.reduceNeg, Int.reduceMul, Int.reduceEq, Int.reduceLT, Int.reduceLE, Nat.reduceSub, Int.reduceNatCast, Nat.reduceLeDiff, e0, e5, e6, e7, wrap_u64s, hqb]
      | (with_reducible (first | apply cd_split | apply gd_split)) <;> (intro hc; (try simp only [hcn] at hc); (try simp only [hc]); (try simp only [hcl] at hc); try omega))
    all_goals (subst hQ; exact ⟨by rw [hmay0 hs0], rfl⟩)
  have hmay1 : mayB s key = (List.range 4).all fun q => bitB s (spot key s.length q) := by unfold mayB; rw [if_neg hs0]
  have hk : ((a : Int) + ((q * b : Nat) : Int)) % (8 * (s.length : Int)) = ((spot key s.length q : Nat) : Int) := by rw [hsp]; simp
  have hkl : spot key s.length q < 8 * s.length := by rw [hsp]; exact Nat.mod_lt _ (by omega)
  generalize hkk : spot key s.length q = k at *
  have hk8 : ((k : Int) / 8).toNat = k / 8 := by omega
  have hbt := (s.getD (k / 8) 0).toNat_lt
  have hrd := bit_rd s k
  have hw2 : ((2 ^ ((k : Int) % 8).toNat : Nat) : Int) = ((2 ^ (k % 8) : Nat) : Int) := by rw [show ((k : Int) % 8).toNat = k % 8 by omega]
  have hdv : ((s.getD (k / 8) 0).toNat : Int) / ((2 ^ (k % 8) : Nat) : Int) = (((s.getD (k / 8) 0).toNat / 2 ^ (k % 8) : Nat) : Int) := by simp
  have hdl : (s.getD (k / 8) 0).toNat / 2 ^ (k % 8) ≤ 255 := Nat.le_trans (Nat.div_le_self _ _) (by omega)
  generalize (s.getD (k / 8) 0).toNat / 2 ^ (k % 8) = w at *
  repeat' (first
    | refine St.h ?_
    | simp (disch := first | omega | (simp only [lnv]; omega)) only [wlk, ↓get_put', Nat.reduceEqDiff, Nat.reduceLT, ↓reduceIte, Int.reduceToNat, Nat.reducePow, Nat.min_eq_left, Nat.reduceAdd, Nat.reduceMul, Int.reduceAdd, Int.reduceSub, Int.reduceNeg, Int.reduceMul, Int.reduceEq, Int.reduceLT, Int.reduceLE, Nat.reduceSub, Int.reduceNatCast, Nat.reduceLeDiff, e0, e5, e6, e7, wrap_u64s, hqb, hk, hk8, hw2, hdv, Int.toNat_natCast]
    | (with_reducible (first | apply cd_split | apply gd_split)) <;> (intro hc; (try simp only [hcn] at hc); (try simp only [hc]); (try simp only [hcl] at hc); try omega))
  · have hw : bitB s k = false := by rw [hrd]; exact decide_eq_false (by omega)
    subst hQ
    refine ⟨?_, rfl⟩
    rw [hmay1, List.all_eq_false.2 ⟨q, by rw [List.mem_range]; omega, by rw [hkk, hw]; decide⟩]
  · have hw : bitB s k = true := by rw [hrd]; exact decide_eq_true (by omega)
    refine lp_next hJ (4 - (q + 1)) (by omega) ⟨q + 1, by omega, rfl, rfl, fun _ => ⟨by omega, fun p hp => ?_⟩, ?_, ?_, ?_, ?_⟩
    · by_cases e : p = q
      · subst e; rw [hkk]; exact hw
      · exact (hb (by omega)).2 p (by omega)
    all_goals first | (simp (disch := first | omega | (simp only [lnv]; omega)) only [wlk, ↓get_put', Nat.reduceEqDiff, Nat.reduceLT, ↓reduceIte, Int.reduceToNat, Nat.reducePow, Nat.min_eq_left, Nat.reduceAdd, Nat.reduceMul, Int.reduceAdd, Int.reduceSub, Int.reduceNeg, Int.reduceMul, Int.reduceEq, Int.reduceLT, Int.reduceLE, Nat.reduceSub, Int.reduceNatCast, Nat.reduceLeDiff, e0, e5, e6, e7]; done) | (simp (disch := first | omega | (simp only [lnv]; omega)) only [wlk, ↓get_put', Nat.reduceEqDiff, Nat.reduceLT, ↓reduceIte, Int.reduceToNat, Nat.reducePow, Nat.min_eq_left, Nat.reduceAdd, Nat.reduceMul, Int.reduceAdd, Int.reduceSub, Int.reduceNeg, Int.reduceMul, Int.reduceEq, Int.reduceLT, Int.reduceLE, Nat.reduceSub, Int.reduceNatCast, Nat.reduceLeDiff]; rfl)
  · obtain rfl : q = 4 := by omega
    subst hQ
    refine ⟨?_, rfl⟩
    rw [hmay1, List.all_eq_true.2]
    intro p hp
    rw [List.mem_range] at hp
    exact (hb (by omega)).2 p hp
theorem few7_ok {h : H} {v : V} {L : List (List UInt8)} (hL : Tl h v L) (hl : L.length ≤ 9223372036854775807) (hs : ∀ k ∈ L, k.length ≤ 9223372036854775807) : FnOk Try.prog 38 [v] h fun y h' => y = .b (L.all (fun k => decide (k.length ≤ 40)) && decide (L.length ≤ 60)) ∧ h' = h := by
  refine fn_go c38 (by intro hb; cases hb) (by simp) (by simp) fun Q hQ => ?_
  simp only [slotsF, Nat.reduceAdd]
  have hg : ∀ j, j < L.length → L.getD j [] ∈ L := fun j hj => by rw [show L.getD j [] = L[j] by simp [List.getD, hj]]; simp
  repeat' (first
    | refine St.h ?_
    | simp (disch := first | omega | (simp only [lnv]; omega)) only [wlk, ↓get_put', Nat.reduceEqDiff, Nat.reduceLT, ↓reduceIte, Int.reduceToNat, Nat.reducePow, Nat.min_eq_left, Nat.reduceAdd, Nat.reduceMul, Int.reduceAdd, Int.reduceSub, Int.reduceNeg, Int.reduceMul, Int.reduceEq, Int.reduceLT, Int.reduceLE, Nat.reduceSub, Int.reduceNatCast, Nat.reduceLeDiff]
    | (with_reducible (first | apply cd_split | apply gd_split)) <;> (intro hc; (try simp only [hcn] at hc); (try simp only [hc]); (try simp only [hcl] at hc); try omega))
  refine Ok.lp (fun m t g => ∃ j : Nat, m = L.length - j ∧ h = g ∧ (∀ i, i < j → (L.getD i []).length ≤ 40) ∧ j ≤ L.length ∧ get 0 t = v ∧ get 3 t = .i .i64 (j : Int)) L.length ?_ ?_
  · simp (disch := first | omega | (simp only [lnv]; omega)) only [wlk, ↓get_put', Nat.reduceEqDiff, Nat.reduceLT, ↓reduceIte, Int.reduceToNat, Nat.reducePow, Nat.min_eq_left, Nat.reduceAdd, Nat.reduceMul, Int.reduceAdd, Int.reduceSub, Int.reduceNeg, Int.reduceMul, Int.reduceEq, Int.reduceLT, Int.reduceLE, Nat.reduceSub, Int.reduceNatCast, Nat.reduceLeDiff]
    exact ⟨0, by omega, trivial, fun i hi => by omega, by omega, trivial, rfl⟩
  rintro I hI m t g ⟨j, rfl, rfl, hb, hj, f0, f3⟩
  have hsj : j < L.length → (L.getD j []).length ≤ 9223372036854775807 := fun hj => hs _ (hg j hj)
  repeat' (first
    | refine St.h ?_
    | simp (disch := first | omega | (simp only [lnv]; omega)) only [wlk, ↓get_put', Nat.reduceEqDiff, Nat.reduceLT, ↓reduceIte, Int.reduceToNat, Nat.reducePow, Nat.min_eq_left, Nat.reduceAdd, Nat.reduceMul, Int.reduceAdd, Int.reduceSub, Int.reduceNeg, Int.reduceMul, Int.reduceEq, Int.reduceLT, Int.reduceLE, Nat.reduceSub, Int.reduceNatCast, Nat.reduceLeDiff, f0, f3, hL.ln, hL.ix, hL.ld, Int.toNat_natCast]
    | (with_reducible (first | apply cd_split | apply gd_split)) <;> (intro hc; (try simp only [hcn] at hc); (try simp only [hc]); (try simp only [hcl] at hc); try omega))
  · subst hQ
    refine ⟨?_, rfl⟩
    rw [List.all_eq_false.2 ⟨_, hg j (by omega), by rw [decide_eq_false (by omega)]; decide⟩]; rfl
  · refine lp_next hI (L.length - (j + 1)) (by omega) ⟨j + 1, rfl, rfl, fun i hi => ?_, by omega, ?_, ?_⟩
    · by_cases e : i = j
      · subst e; omega
      · exact hb i (by omega)
    · simp (disch := first | omega | (simp only [lnv]; omega)) only [wlk, ↓get_put', Nat.reduceEqDiff, Nat.reduceLT, ↓reduceIte, Int.reduceToNat, Nat.reducePow, Nat.min_eq_left, Nat.reduceAdd, Nat.reduceMul, Int.reduceAdd, Int.reduceSub, Int.reduceNeg, Int.reduceMul, Int.reduceEq, Int.reduceLT, Int.reduceLE, Nat.reduceSub, Int.reduceNatCast, Nat.reduceLeDiff, f0]
    · simp (disch := first | omega | (simp only [lnv]; omega)) only [wlk, ↓get_put', Nat.reduceEqDiff, Nat.reduceLT, ↓reduceIte, Int.reduceToNat, Nat.reducePow, Nat.min_eq_left, Nat.reduceAdd, Nat.reduceMul, Int.reduceAdd, Int.reduceSub, Int.reduceNeg, Int.reduceMul, Int.reduceEq, Int.reduceLT, Int.reduceLE, Nat.reduceSub, Int.reduceNatCast, Nat.reduceLeDiff]; rfl
  · obtain rfl : j = L.length := by omega
    subst hQ
    refine ⟨?_, rfl⟩
    rw [List.all_eq_true.2, Bool.true_and]
    · congr 2
      exact propext ⟨fun h => by omega, fun h => by omega⟩
    · intro k hk
      obtain ⟨i, hi, rfl⟩ := List.getElem_of_mem hk
      have := hb i hi
      rw [show L.getD i [] = L[i] by simp [List.getD, hi]] at this
      exact decide_eq_true this
end Go.Proofs.Ytiecpllnbekmoaa
