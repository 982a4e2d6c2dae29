/- The program's sieve: Hash, bitsOf, Make, May, by what they compute. No condition. -/
import Derived.Test.YtiecpllnbekmoaaNSv1
import Derived.Test.YtiecpllnbekmoaaArgS
import Derived.Test.YtiecpllnbekmoaaWg
set_option maxRecDepth 100000
set_option maxHeartbeats 8000000
set_option linter.all false
namespace Go.Proofs.Ytiecpllnbekmoaa
open Go Go.Ev

theorem hash_ok {h : H} {l : List UInt8} (hl : l.length ≤ 1000000) : FnOk Try.prog 39 [sv l] h fun y h' => y = .tu [.i .u32 ((hashB l).1 : Int), .i .u32 ((hashB l).2 : Int)] ∧ h' = h := by
  refine fn_go c39 (by intro hb; cases hb) (by simp) (by simp) fun Q hQ => ?_
  simp only [slotsF, Nat.reduceAdd]
  repeat' (first
    | refine St.h ?_
    | simp (disch := first | omega | (simp only [lnv]; omega)) only [wlk, ↓get_put', Nat.reduceEqDiff, Nat.reduceLT, ↓reduceIte, Int.reduceToNat, Nat.reducePow, Nat.min_eq_left, Nat.reduceAdd, Nat.reduceMul, Int.reduceAdd, Int.reduceSub, Int.reduceNeg, Int.reduceMul, Int.reduceEq, Int.reduceLT, Int.reduceLE, Nat.reduceSub, Int.reduceNatCast, Nat.reduceLeDiff]
    | (with_reducible (first | apply cd_split | apply gd_split)) <;> (intro hc; (try simp only [hcn] at hc); (try simp only [hc]); (try simp only [hcl] at hc); try omega))
  refine Ok.lp (fun m t g => ∃ i : Nat, i ≤ l.length ∧ m = l.length - i ∧ h = g ∧ get 0 t = sv l ∧ get 4 t = .i .u32 ((hashU (l.take i)).1 : Int) ∧ get 5 t = .i .u32 ((hashU (l.take i)).2 : Int) ∧ get 8 t = .i .i64 (l.length : Int) ∧ get 9 t = .i .i64 (i : Int)) l.length ?_ ?_
  · simp (disch := first | omega | (simp only [lnv]; omega)) only [wlk, ↓get_put', Nat.reduceEqDiff, Nat.reduceLT, ↓reduceIte, Int.reduceToNat, Nat.reducePow, Nat.min_eq_left, Nat.reduceAdd, Nat.reduceMul, Int.reduceAdd, Int.reduceSub, Int.reduceNeg, Int.reduceMul, Int.reduceEq, Int.reduceLT, Int.reduceLE, Nat.reduceSub, Int.reduceNatCast, Nat.reduceLeDiff]
    exact ⟨0, by omega, by omega, trivial, trivial, rfl, rfl, trivial, rfl⟩
  rintro I hI m t g ⟨i, hi, rfl, rfl, f0, f4, f5, f8, f9⟩
  have hci := (l.getD i 0).toNat_lt
  have ⟨b1, b2⟩ := hashU_lt (l.take i)
  repeat' (first
    | refine St.h ?_
    | simp (disch := first | omega | (simp only [lnv]; omega)) only [wlk, ↓get_put', Nat.reduceEqDiff, Nat.reduceLT, ↓reduceIte, Int.reduceToNat, Nat.reducePow, Nat.min_eq_left, Nat.reduceAdd, Nat.reduceMul, Int.reduceAdd, Int.reduceSub, Int.reduceNeg, Int.reduceMul, Int.reduceEq, Int.reduceLT, Int.reduceLE, Nat.reduceSub, Int.reduceNatCast, Nat.reduceLeDiff, f0, f4, f5, f8, f9, wrap_u32m, Int.toNat_natCast]
    | (with_reducible (first | apply cd_split | apply gd_split)) <;> (intro hc; (try simp only [hcn] at hc); (try simp only [hc]); (try simp only [hcl] at hc); try omega))
  · have e := hashU_take (l := l) (i := i) (by omega)
    refine lp_next hI (l.length - (i + 1)) (by omega) ⟨i + 1, by omega, rfl, rfl, ?_, ?_, ?_, ?_, ?_⟩
    · simp (disch := first | omega | (simp only [lnv]; omega)) only [wlk, ↓get_put', Nat.reduceEqDiff, Nat.reduceLT, ↓reduceIte, Int.reduceToNat, Nat.reducePow, Nat.min_eq_left, Nat.reduceAdd, Nat.reduceMul, Int.reduceAdd, Int.reduceSub, Int.reduceNeg, Int.reduceMul, Int.reduceEq, Int.reduceLT, Int.reduceLE, Nat.reduceSub, Int.reduceNatCast, Nat.reduceLeDiff, f0]
    · simp (disch := first | omega | (simp only [lnv]; omega)) only [wlk, ↓get_put', Nat.reduceEqDiff, Nat.reduceLT, ↓reduceIte, Int.reduceToNat, Nat.reducePow, Nat.min_eq_left, Nat.reduceAdd, Nat.reduceMul, Int.reduceAdd, Int.reduceSub, Int.reduceNeg, Int.reduceMul, Int.reduceEq, Int.reduceLT, Int.reduceLE, Nat.reduceSub, Int.reduceNatCast, Nat.reduceLeDiff, e, hashStep]
      congr 1; omega
    · simp (disch := first | omega | (simp only [lnv]; omega)) only [wlk, ↓get_put', Nat.reduceEqDiff, Nat.reduceLT, ↓reduceIte, Int.reduceToNat, Nat.reducePow, Nat.min_eq_left, Nat.reduceAdd, Nat.reduceMul, Int.reduceAdd, Int.reduceSub, Int.reduceNeg, Int.reduceMul, Int.reduceEq, Int.reduceLT, Int.reduceLE, Nat.reduceSub, Int.reduceNatCast, Nat.reduceLeDiff, e, hashStep]
      congr 2
    · simp (disch := first | omega | (simp only [lnv]; omega)) only [wlk, ↓get_put', Nat.reduceEqDiff, Nat.reduceLT, ↓reduceIte, Int.reduceToNat, Nat.reducePow, Nat.min_eq_left, Nat.reduceAdd, Nat.reduceMul, Int.reduceAdd, Int.reduceSub, Int.reduceNeg, Int.reduceMul, Int.reduceEq, Int.reduceLT, Int.reduceLE, Nat.reduceSub, Int.reduceNatCast, Nat.reduceLeDiff, f8]
    · simp (disch := first | omega | (simp only [lnv]; omega)) only [wlk, ↓get_put', Nat.reduceEqDiff, Nat.reduceLT, ↓reduceIte, Int.reduceToNat, Nat.reducePow, Nat.min_eq_left, Nat.reduceAdd, Nat.reduceMul, Int.reduceAdd, Int.reduceSub, Int.reduceNeg, Int.reduceMul, Int.reduceEq, Int.reduceLT, Int.reduceLE, Nat.reduceSub, Int.reduceNatCast, Nat.reduceLeDiff]; rfl
  · obtain rfl : i = l.length := by omega
    rw [List.take_length] at *
    subst hQ
    exact ⟨rfl, rfl⟩
theorem sv_lt {h : H} {id : B} {xs : List V} (o : Own h id xs) : B.val id < B.val h.next := by obtain ⟨_, _, _, _, _, _, h6, _⟩ := o; exact h6
theorem sv_ne {a b : B} (h : B.val a < B.val b) : a ≠ b := fun e => by rw [e] at h; exact absurd h (Nat.lt_irrefl _)
/-- the four bits' places, as many as are told -/
def fillV (key : List UInt8) (n q : Nat) : List V := [.i .u64 ((if 0 < q then spot key n 0 else 0 : Nat) : Int), .i .u64 ((if 1 < q then spot key n 1 else 0 : Nat) : Int), .i .u64 ((if 2 < q then spot key n 2 else 0 : Nat) : Int), .i .u64 ((if 3 < q then spot key n 3 else 0 : Nat) : Int)]
theorem fillV_set {key : List UInt8} {n q : Nat} (hq : q < 4) : (fillV key n q).set q (.i .u64 (spot key n q : Int)) = fillV key n (q + 1) := by
  match q, hq with
  | 0, _ => rfl
  | 1, _ => rfl
  | 2, _ => rfl
  | 3, _ => rfl
def spotsV (key : List UInt8) (n : Nat) : List V := [.i .u64 (spot key n 0 : Int), .i .u64 (spot key n 1 : Int), .i .u64 (spot key n 2 : Int), .i .u64 (spot key n 3 : Int)]
theorem spotsV_len {key : List UInt8} {n : Nat} : (spotsV key n).length = 4 := rfl
theorem spotsV_at {key : List UInt8} {n q : Nat} (hq : q < 4) : (spotsV key n).getD q .u = .i .u64 (spot key n q : Int) := by
  match q, hq with
  | 0, _ => rfl
  | 1, _ => rfl
  | 2, _ => rfl
  | 3, _ => rfl
theorem bitsOf_ok {h : H} {key : List UInt8} {n : Nat} (hk : key.length ≤ 1000000) (hn : 1 ≤ n) (hn2 : n ≤ 1000000) (hf : B.val h.floor ≤ B.val h.next) : FnOk Try.prog 60 [sv key, .i .i64 (n : Int)] h fun y h' => y = .a (spotsV key n) ∧ Stay nowhere h h' := by
  refine fn_go c60 (by intro hb; cases hb) (by simp) (by simp) fun Q hQ => ?_
  simp only [slotsF, Nat.reduceAdd]
  repeat' (first
    | refine St.h ?_
    | simp (disch := first | omega | (simp only [lnv]; omega)) only [wlk, ↓get_put', Nat.reduceEqDiff, Nat.reduceLT, ↓reduceIte, Int.reduceToNat, Nat.reducePow, Nat.min_eq_left, Nat.reduceAdd, Nat.reduceMul, Int.reduceAdd, Int.reduceSub, Int.reduceNeg, Int.reduceMul, Int.reduceEq, Int.reduceLT, Int.reduceLE, Nat.reduceSub, Int.reduceNatCast, Nat.reduceLeDiff]
    | (with_reducible (first | apply cd_split | apply gd_split)) <;> (intro hc; (try simp only [hcn] at hc); (try simp only [hc]); (try simp only [hcl] at hc); try omega))
  refine AL.own (by simp) hf fun h1 s1 n1 o1 => ?_
  have hf1 := s1.fl hf
  repeat' (first
    | refine St.h ?_
    | simp (disch := first | omega | (simp only [lnv]; omega)) only [wlk, ↓get_put', Nat.reduceEqDiff, Nat.reduceLT, ↓reduceIte, Int.reduceToNat, Nat.reducePow, Nat.min_eq_left, Nat.reduceAdd, Nat.reduceMul, Int.reduceAdd, Int.reduceSub, Int.reduceNeg, Int.reduceMul, Int.reduceEq, Int.reduceLT, Int.reduceLE, Nat.reduceSub, Int.reduceNatCast, Nat.reduceLeDiff]
    | (with_reducible (first | apply cd_split | apply gd_split)) <;> (intro hc; (try simp only [hcn] at hc); (try simp only [hc]); (try simp only [hcl] at hc); try omega))
  refine CL.pure (hash_ok hk) ?_
  have ⟨a1, a2⟩ := hashB_lt key
  have hsp : ∀ q : Nat, spot key n q = ((hashB key).1 + q * (hashB key).2) % (8 * n) := fun q => rfl
  generalize hab : hashB key = ab at *
  obtain ⟨a, b⟩ := ab
  repeat' (first
    | refine St.h ?_
    | simp (disch := first | omega | (simp only [lnv]; omega)) only [wlk, ↓get_put', Nat.reduceEqDiff, Nat.reduceLT, ↓reduceIte, Int.reduceToNat, Nat.reducePow, Nat.min_eq_left, Nat.reduceAdd, Nat.reduceMul, Int.reduceAdd, Int.reduceSub, Int.reduceNeg, Int.reduceMul, Int.reduceEq, Int.reduceLT, Int.reduceLE, Nat.reduceSub, Int.reduceNatCast, Nat.reduceLeDiff]
    | (with_reducible (first | apply cd_split | apply gd_split)) <;> (intro hc; (try simp only [hcn] at hc); (try simp only [hc]); (try simp only [hcl] at hc); try omega))
  refine AL.own (by simp) hf1 fun h2 s2 n2 o2 => ?_
  have hf2 := s2.fl hf1
  have hb := sv_lt o1
  have o1 := o1.stay s2 fun h => h
  repeat' (first
    | refine St.h ?_
    | simp (disch := first | omega | (simp only [lnv]; omega)) only [wlk, ↓get_put', Nat.reduceEqDiff, Nat.reduceLT, ↓reduceIte, Int.reduceToNat, Nat.reducePow, Nat.min_eq_left, Nat.reduceAdd, Nat.reduceMul, Int.reduceAdd, Int.reduceSub, Int.reduceNeg, Int.reduceMul, Int.reduceEq, Int.reduceLT, Int.reduceLE, Nat.reduceSub, Int.reduceNatCast, Nat.reduceLeDiff]
    | (with_reducible (first | apply cd_split | apply gd_split)) <;> (intro hc; (try simp only [hcn] at hc); (try simp only [hc]); (try simp only [hcl] at hc); try omega))
  refine Ok.lp (fun m t g => ∃ q : Nat, q ≤ 4 ∧ m = 4 - q ∧ get 1 t = .i .i64 (n : Int) ∧ get 4 t = .p h.next 0 0 4 ∧ get 5 t = .i .u32 (a : Int) ∧ get 6 t = .i .u32 (b : Int) ∧ get 7 t = .p h1.next 0 0 4 ∧ get 15 t = .i .i64 (q : Int) ∧ Own g h1.next (fillV key n q) ∧ Own g h.next [.i .u64 0, .i .u64 0, .i .u64 0, .i .u64 0] ∧ Stay nowhere h g) 4 ?_ ?_
  · simp (disch := first | omega | (simp only [lnv]; omega)) only [wlk, ↓get_put', Nat.reduceEqDiff, Nat.reduceLT, ↓reduceIte, Int.reduceToNat, Nat.reducePow, Nat.min_eq_left, Nat.reduceAdd, Nat.reduceMul, Int.reduceAdd, Int.reduceSub, Int.reduceNeg, Int.reduceMul, Int.reduceEq, Int.reduceLT, Int.reduceLE, Nat.reduceSub, Int.reduceNatCast, Nat.reduceLeDiff]
    refine ⟨0, by omega, by omega, ?_, ?_, ?_, ?_, ?_, ?_, o2, o1, s1.trans s2⟩ <;> first | trivial | rfl
  rintro J hJ m t g ⟨q, hq, rfl, e1, e4, e5, e6, e7, e15, og, og1, st⟩
  have hqb : (q : Int) * (b : Int) = ((q * b : Nat) : Int) := by simp
  have hqb2 : q * b ≤ 4 * 4294967296 := Nat.mul_le_mul hq (by omega)
  have hk : ((a : Int) + ((q * b : Nat) : Int)) % ((n : Int) * 8) = ((spot key n q : Nat) : Int) := by rw [hsp, Int.mul_comm]; simp
  have hkl : spot key n q < 8 * n := by rw [hsp]; exact Nat.mod_lt _ (by omega)
  repeat' (first
    | refine St.h ?_
    | simp (disch := first | omega | (simp only [lnv]; omega)) only [wlk, ↓get_put', Nat.reduceEqDiff, Nat.reduceLT, ↓reduceIte, Int.reduceToNat, Nat.reducePow, Nat.min_eq_left, Nat.reduceAdd, Nat.reduceMul, Int.reduceAdd, Int.reduceSub, Int.reduceNeg, Int.reduceMul, Int.reduceEq, Int.reduceLT, Int.reduceLE, Nat.reduceSub, Int.reduceNatCast, Nat.reduceLeDiff, e1, e4, e5, e6, e7, e15, wrap_u64s, hqb, hk, Int.toNat_natCast]
    | (with_reducible (first | apply cd_split | apply gd_split)) <;> (intro hc; (try simp only [hcn] at hc); (try simp only [hc]); (try simp only [hcl] at hc); try omega))
  · refine ST.own (y := .i .u64 (spot key n q : Int)) og rfl rfl (by omega) (by omega) fun g3 o3 s3 => ?_
    rw [fillV_set (by omega)] at o3
    have og1 := og1.stay s3 (sv_ne hb)
    repeat' (first
      | refine St.h ?_
      | simp (disch := first | omega | (simp only [lnv]; omega)) only [wlk, ↓get_put', Nat.reduceEqDiff, Nat.reduceLT, ↓reduceIte, Int.reduceToNat, Nat.reducePow, Nat.min_eq_left, Nat.reduceAdd, Nat.reduceMul, Int.reduceAdd, Int.reduceSub, Int.reduceNeg, Int.reduceMul, Int.reduceEq, Int.reduceLT, Int.reduceLE, Nat.reduceSub, Int.reduceNatCast, Nat.reduceLeDiff, e1, e4, e5, e6, e7, e15]
      | (with_reducible (first | apply cd_split | apply gd_split)) <;> (intro hc; (try simp only [hcn] at hc); (try simp only [hc]); (try simp only [hcl] at hc); try omega))
    refine lp_next hJ (4 - (q + 1)) (by omega) ⟨q + 1, by omega, rfl, ?_, ?_, ?_, ?_, ?_, ?_, o3, og1, st.past' s3 fun i hi => by rw [hi]; have := s1.next; omega⟩
    all_goals first | (simp (disch := first | omega | (simp only [lnv]; omega)) only [wlk, ↓get_put', Nat.reduceEqDiff, Nat.reduceLT, ↓reduceIte, Int.reduceToNat, Nat.reducePow, Nat.min_eq_left, Nat.reduceAdd, Nat.reduceMul, Int.reduceAdd, Int.reduceSub, Int.reduceNeg, Int.reduceMul, Int.reduceEq, Int.reduceLT, Int.reduceLE, Nat.reduceSub, Int.reduceNatCast, Nat.reduceLeDiff, e1, e4, e5, e6, e7]; done) | (simp (disch := first | omega | (simp only [lnv]; omega)) only [wlk, ↓get_put', Nat.reduceEqDiff, Nat.reduceLT, ↓reduceIte, Int.reduceToNat, Nat.reducePow, Nat.min_eq_left, Nat.reduceAdd, Nat.reduceMul, Int.reduceAdd, Int.reduceSub, Int.reduceNeg, Int.reduceMul, Int.reduceEq, Int.reduceLT, Int.reduceLE, Nat.reduceSub, Int.reduceNatCast, Nat.reduceLeDiff]; rfl)
  · obtain rfl : q = 4 := by omega
    have e44 : ((fillV key n 4).drop 0).take 4 = fillV key n 4 := rfl
    have hfl : (fillV key n 4).length = 4 := rfl
    repeat' (first
      | refine St.h ?_
      | simp (disch := first | omega | (simp only [lnv]; omega)) only [wlk, ↓get_put', Nat.reduceEqDiff, Nat.reduceLT, ↓reduceIte, Int.reduceToNat, Nat.reducePow, Nat.min_eq_left, Nat.reduceAdd, Nat.reduceMul, Int.reduceAdd, Int.reduceSub, Int.reduceNeg, Int.reduceMul, Int.reduceEq, Int.reduceLT, Int.reduceLE, Nat.reduceSub, Int.reduceNatCast, Nat.reduceLeDiff, e4, e7, og.row.ln, e44]
      | (with_reducible (first | apply cd_split | apply gd_split)) <;> (intro hc; (try simp only [hcn] at hc); (try simp only [hc]); (try simp only [hcl] at hc); try omega))
    refine ST.all (vs := fillV key n 4) (fin := 4) og1 rfl rfl (by simp [fillV]) (by simp [fillV]) fun hz oz sz => ?_
    repeat' (first
      | refine St.h ?_
      | simp (disch := first | omega | (simp only [lnv]; omega)) only [wlk, ↓get_put', Nat.reduceEqDiff, Nat.reduceLT, ↓reduceIte, Int.reduceToNat, Nat.reducePow, Nat.min_eq_left, Nat.reduceAdd, Nat.reduceMul, Int.reduceAdd, Int.reduceSub, Int.reduceNeg, Int.reduceMul, Int.reduceEq, Int.reduceLT, Int.reduceLE, Nat.reduceSub, Int.reduceNatCast, Nat.reduceLeDiff, oz.ra4, e4]
      | (with_reducible (first | apply cd_split | apply gd_split)) <;> (intro hc; (try simp only [hcn] at hc); (try simp only [hc]); (try simp only [hcl] at hc); try omega))
    subst hQ
    exact ⟨rfl, st.past' sz fun i hi => by rw [hi]; exact Nat.le_refl _⟩
theorem make_ok {h : H} {v : V} {L : List (List UInt8)} (hL : Tl h v L) (hl : L.length ≤ 1000) (hs : ∀ k ∈ L, k.length ≤ 1000000) (hf : B.val h.floor ≤ B.val h.next) : FnOk Try.prog 41 [v] h fun y h' => y = sv (sieveB L) ∧ Stay nowhere h h' := by
  refine fn_go c41 (by intro hb; cases hb) (by simp) (by simp) fun Q hQ => ?_
  simp only [slotsF, Nat.reduceAdd]
  have hn : (max (L.length : Int) 8).toNat = max 8 L.length := by omega
  have hsl : (sieveB L).length = max 8 L.length := sieveB_len L
  generalize hnn : max 8 L.length = n at *
  have hn8 : 8 ≤ n := by omega
  have hn1 : n ≤ 1000 := by omega
  repeat' (first
    | refine St.h ?_
    | simp (disch := first | omega | (simp only [lnv]; omega)) only [wlk, ↓get_put', Nat.reduceEqDiff, Nat.reduceLT, ↓reduceIte, Int.reduceToNat, Nat.reducePow, Nat.min_eq_left, Nat.reduceAdd, Nat.reduceMul, Int.reduceAdd, Int.reduceSub, Int.reduceNeg, Int.reduceMul, Int.reduceEq, Int.reduceLT, Int.reduceLE, Nat.reduceSub, Int.reduceNatCast, Nat.reduceLeDiff, hL.ln, hn]
    | (with_reducible (first | apply cd_split | apply gd_split)) <;> (intro hc; (try simp only [hcn] at hc); (try simp only [hc]); (try simp only [hcl] at hc); try omega))
  refine AL.own (by rw [repL_bv]; simp; omega) hf fun h1 s1 n1 o1 => ?_
  rw [repL_bv] at o1
  have hf1 := s1.fl hf
  have hz : (List.replicate n (0 : UInt8)).length = n := by simp
  have hsv : putKeys (List.replicate n 0) L = sieveB L := by unfold sieveB; rw [hnn]
  generalize List.replicate n (0 : UInt8) = Z at *
  repeat' (first
    | refine St.h ?_
    | simp (disch := first | omega | (simp only [lnv]; omega)) only [wlk, ↓get_put', Nat.reduceEqDiff, Nat.reduceLT, ↓reduceIte, Int.reduceToNat, Nat.reducePow, Nat.min_eq_left, Nat.reduceAdd, Nat.reduceMul, Int.reduceAdd, Int.reduceSub, Int.reduceNeg, Int.reduceMul, Int.reduceEq, Int.reduceLT, Int.reduceLE, Nat.reduceSub, Int.reduceNatCast, Nat.reduceLeDiff, hL.ln, hn]
    | (with_reducible (first | apply cd_split | apply gd_split)) <;> (intro hc; (try simp only [hcn] at hc); (try simp only [hc]); (try simp only [hcl] at hc); try omega))
  refine Ok.lp (fun m t g => ∃ i : Nat, i ≤ L.length ∧ m = L.length - i ∧ get 12 t = v ∧ get 13 t = .i .i64 (L.length : Int) ∧ get 3 t = .l h.next 0 0 n n (some n) ∧ get 14 t = .i .i64 (i : Int) ∧ Own g h.next ((putKeys Z (L.take i)).map bv) ∧ Stay nowhere h g) L.length ?_ ?_
  · simp (disch := first | omega | (simp only [lnv]; omega)) only [wlk, ↓get_put', Nat.reduceEqDiff, Nat.reduceLT, ↓reduceIte, Int.reduceToNat, Nat.reducePow, Nat.min_eq_left, Nat.reduceAdd, Nat.reduceMul, Int.reduceAdd, Int.reduceSub, Int.reduceNeg, Int.reduceMul, Int.reduceEq, Int.reduceLT, Int.reduceLE, Nat.reduceSub, Int.reduceNatCast, Nat.reduceLeDiff, hn]
    refine ⟨0, by omega, by omega, ?_, ?_, ?_, ?_, o1, s1⟩ <;> first | trivial | rfl
  rintro I hI m t g ⟨i, hi, rfl, f0, f1, f3, f4, og, st⟩
  have hfg := st.fl hf
  have hLg := hL.grow st
  generalize hS : putKeys Z (L.take i) = S at *
  have hSl : S.length = n := by rw [← hS, putKeys_len, hz]
  repeat' (first
    | refine St.h ?_
    | simp (disch := first | omega | (simp only [lnv]; omega)) only [wlk, ↓get_put', Nat.reduceEqDiff, Nat.reduceLT, ↓reduceIte, Int.reduceToNat, Nat.reducePow, Nat.min_eq_left, Nat.reduceAdd, Nat.reduceMul, Int.reduceAdd, Int.reduceSub, Int.reduceNeg, Int.reduceMul, Int.reduceEq, Int.reduceLT, Int.reduceLE, Nat.reduceSub, Int.reduceNatCast, Nat.reduceLeDiff, f0, f1, f3, f4, hL.ln, hL.ix, hLg.ld, Int.toNat_natCast]
    | (with_reducible (first | apply cd_split | apply gd_split)) <;> (intro hc; (try simp only [hcn] at hc); (try simp only [hc]); (try simp only [hcl] at hc); try omega))
  · have hki : (L.getD i []).length ≤ 1000000 := hs _ (by rw [show L.getD i [] = L[i] by simp [List.getD, show i < L.length by omega]]; simp)
    generalize hkk : L.getD i [] = key at *
    refine CL.stay (bitsOf_ok hki (by omega) (by omega) hfg) fun g1 t1 => ?_
    have og := og.stay t1 fun h => h
    have st := st.trans t1
    repeat' (first
      | refine St.h ?_
      | simp (disch := first | omega | (simp only [lnv]; omega)) only [wlk, ↓get_put', Nat.reduceEqDiff, Nat.reduceLT, ↓reduceIte, Int.reduceToNat, Nat.reducePow, Nat.min_eq_left, Nat.reduceAdd, Nat.reduceMul, Int.reduceAdd, Int.reduceSub, Int.reduceNeg, Int.reduceMul, Int.reduceEq, Int.reduceLT, Int.reduceLE, Nat.reduceSub, Int.reduceNatCast, Nat.reduceLeDiff]
      | (with_reducible (first | apply cd_split | apply gd_split)) <;> (intro hc; (try simp only [hcn] at hc); (try simp only [hc]); (try simp only [hcl] at hc); try omega))
    refine Ok.lp (fun m t g => ∃ q : Nat, q ≤ 4 ∧ m = 4 - q ∧ get 12 t = v ∧ get 13 t = .i .i64 (L.length : Int) ∧ get 3 t = .l h.next 0 0 n n (some n) ∧ get 14 t = .i .i64 (i : Int) ∧ get 21 t = .a (spotsV key n) ∧ get 22 t = .i .i64 (q : Int) ∧ Own g h.next ((putKey S key q).map bv) ∧ Stay nowhere h g) 4 ?_ ?_
    · simp (disch := first | omega | (simp only [lnv]; omega)) only [wlk, ↓get_put', Nat.reduceEqDiff, Nat.reduceLT, ↓reduceIte, Int.reduceToNat, Nat.reducePow, Nat.min_eq_left, Nat.reduceAdd, Nat.reduceMul, Int.reduceAdd, Int.reduceSub, Int.reduceNeg, Int.reduceMul, Int.reduceEq, Int.reduceLT, Int.reduceLE, Nat.reduceSub, Int.reduceNatCast, Nat.reduceLeDiff, f0, f1, f3, f4]
      refine ⟨0, by omega, by omega, ?_, ?_, ?_, ?_, ?_, ?_, og, st⟩ <;> first | trivial | rfl
    rintro J hJ m t2 g2 ⟨q, hq, rfl, e0, e1, e3, e4, e5, e7, o2, st2⟩
    have hsa := fun hq => spotsV_at (key := key) (n := n) (q := q) hq
    have hsn : (spotsV key n).length = 4 := rfl
    have hK : (putKey S key q).length = n := by rw [putKey_len, hSl]
    have hkl : spot key n q < 8 * n := Nat.mod_lt _ (by omega)
    have hpk := putKey_succ S key q
    rw [hSl] at hpk
    generalize spot key n q = k at *
    have hk8 : ((k : Int) / 8).toNat = k / 8 := by omega
    generalize hT : putKey S key q = T at *
    have hba := bv_at (s := T) (j := k / 8) (by omega)
    have hbt := (T.getD (k / 8) 0).toNat_lt
    have h2k : 2 ^ (k % 8) < 256 := Nat.pow_lt_pow_right (a := 2) (n := 8) (by omega) (by omega)
    have hpb := pow_byte (k := k)
    have hor := byte_or (x := (T.getD (k / 8) 0).toNat) (i := k % 8) (by omega) (by omega)
    have hpt : putBit T k = T.set (k / 8) (UInt8.ofNat ((T.getD (k / 8) 0).toNat ||| 2 ^ (k % 8))) := rfl
    generalize 2 ^ (k % 8) = w at *
    repeat' (first
      | refine St.h ?_
      | simp (disch := first | omega | (simp only [lnv]; omega)) only [wlk, ↓get_put', Nat.reduceEqDiff, Nat.reduceLT, ↓reduceIte, Int.reduceToNat, Nat.reducePow, Nat.min_eq_left, Nat.reduceAdd, Nat.reduceMul, Int.reduceAdd, Int.reduceSub, Int.reduceNeg, Int.reduceMul, Int.reduceEq, Int.reduceLT, Int.reduceLE, Nat.reduceSub, Int.reduceNatCast, Nat.reduceLeDiff, e0, e1, e3, e4, e5, e7, hsa, spotsV_len, hk8, o2.row.l1, hba, hpb, Int.toNat_natCast, List.length_map]
      | (with_reducible (first | apply cd_split | apply gd_split)) <;> (intro hc; (try simp only [hcn] at hc); (try simp only [hc]); (try simp only [hcl] at hc); try omega))
    · refine ST.own (y := bv (UInt8.ofNat ((T.getD (k / 8) 0).toNat ||| w))) o2 ?_ rfl (by omega) (by omega) fun g3 o3 s3 => ?_
      · rw [← bv_ofNat, Nat.mod_eq_of_lt hor]; rfl
      repeat' (first
        | refine St.h ?_
        | simp (disch := first | omega | (simp only [lnv]; omega)) only [wlk, ↓get_put', Nat.reduceEqDiff, Nat.reduceLT, ↓reduceIte, Int.reduceToNat, Nat.reducePow, Nat.min_eq_left, Nat.reduceAdd, Nat.reduceMul, Int.reduceAdd, Int.reduceSub, Int.reduceNeg, Int.reduceMul, Int.reduceEq, Int.reduceLT, Int.reduceLE, Nat.reduceSub, Int.reduceNatCast, Nat.reduceLeDiff, e0, e1, e3, e4, e5, e7]
        | (with_reducible (first | apply cd_split | apply gd_split)) <;> (intro hc; (try simp only [hcn] at hc); (try simp only [hc]); (try simp only [hcl] at hc); try omega))
      refine lp_next hJ (4 - (q + 1)) (by omega) ⟨q + 1, by omega, rfl, ?_, ?_, ?_, ?_, ?_, ?_, ?_, st2.past' s3 fun i hi => by rw [hi]; exact Nat.le_refl _⟩
      all_goals first | (simp (disch := first | omega | (simp only [lnv]; omega)) only [wlk, ↓get_put', Nat.reduceEqDiff, Nat.reduceLT, ↓reduceIte, Int.reduceToNat, Nat.reducePow, Nat.min_eq_left, Nat.reduceAdd, Nat.reduceMul, Int.reduceAdd, Int.reduceSub, Int.reduceNeg, Int.reduceMul, Int.reduceEq, Int.reduceLT, Int.reduceLE, Nat.reduceSub, Int.reduceNatCast, Nat.reduceLeDiff, e0, e1, e3, e4, e5, e7]; done) | (simp (disch := first | omega | (simp only [lnv]; omega)) only [wlk, ↓get_put', Nat.reduceEqDiff, Nat.reduceLT, ↓reduceIte, Int.reduceToNat, Nat.reducePow, Nat.min_eq_left, Nat.reduceAdd, Nat.reduceMul, Int.reduceAdd, Int.reduceSub, Int.reduceNeg, Int.reduceMul, Int.reduceEq, Int.reduceLT, Int.reduceLE, Nat.reduceSub, Int.reduceNatCast, Nat.reduceLeDiff]; rfl) | skip
      rw [hpk, hpt, List.map_set]; exact o3
    · obtain rfl : q = 4 := by omega
      have hnx : putKeys Z (L.take (i + 1)) = T := by
        have : L.take (i + 1) = L.take i ++ [key] := by rw [List.take_succ_eq_append_getElem (by omega), ← hkk]; simp [List.getD, show i < L.length by omega]
        rw [this, putKeys_snoc, hS, hT]
      repeat' (first
        | refine St.h ?_
        | simp (disch := first | omega | (simp only [lnv]; omega)) only [wlk, ↓get_put', Nat.reduceEqDiff, Nat.reduceLT, ↓reduceIte, Int.reduceToNat, Nat.reducePow, Nat.min_eq_left, Nat.reduceAdd, Nat.reduceMul, Int.reduceAdd, Int.reduceSub, Int.reduceNeg, Int.reduceMul, Int.reduceEq, Int.reduceLT, Int.reduceLE, Nat.reduceSub, Int.reduceNatCast, Nat.reduceLeDiff, e0, e1, e3, e4]
        | (with_reducible (first | apply cd_split | apply gd_split)) <;> (intro hc; (try simp only [hcn] at hc); (try simp only [hc]); (try simp only [hcl] at hc); try omega))
      refine lp_next hI (L.length - (i + 1)) (by omega) ⟨i + 1, by omega, rfl, ?_, ?_, ?_, ?_, by rw [hnx]; exact o2, st2⟩
      · simp (disch := first | omega | (simp only [lnv]; omega)) only [wlk, ↓get_put', Nat.reduceEqDiff, Nat.reduceLT, ↓reduceIte, Int.reduceToNat, Nat.reducePow, Nat.min_eq_left, Nat.reduceAdd, Nat.reduceMul, Int.reduceAdd, Int.reduceSub, Int.reduceNeg, Int.reduceMul, Int.reduceEq, Int.reduceLT, Int.reduceLE, Nat.reduceSub, Int.reduceNatCast, Nat.reduceLeDiff, e0]
      · simp (disch := first | omega | (simp only [lnv]; omega)) only [wlk, ↓get_put', Nat.reduceEqDiff, Nat.reduceLT, ↓reduceIte, Int.reduceToNat, Nat.reducePow, Nat.min_eq_left, Nat.reduceAdd, Nat.reduceMul, Int.reduceAdd, Int.reduceSub, Int.reduceNeg, Int.reduceMul, Int.reduceEq, Int.reduceLT, Int.reduceLE, Nat.reduceSub, Int.reduceNatCast, Nat.reduceLeDiff, e1]
      · simp (disch := first | omega | (simp only [lnv]; omega)) only [wlk, ↓get_put', Nat.reduceEqDiff, Nat.reduceLT, ↓reduceIte, Int.reduceToNat, Nat.reducePow, Nat.min_eq_left, Nat.reduceAdd, Nat.reduceMul, Int.reduceAdd, Int.reduceSub, Int.reduceNeg, Int.reduceMul, Int.reduceEq, Int.reduceLT, Int.reduceLE, Nat.reduceSub, Int.reduceNatCast, Nat.reduceLeDiff, e3]
      · simp (disch := first | omega | (simp only [lnv]; omega)) only [wlk, ↓get_put', Nat.reduceEqDiff, Nat.reduceLT, ↓reduceIte, Int.reduceToNat, Nat.reducePow, Nat.min_eq_left, Nat.reduceAdd, Nat.reduceMul, Int.reduceAdd, Int.reduceSub, Int.reduceNeg, Int.reduceMul, Int.reduceEq, Int.reduceLT, Int.reduceLE, Nat.reduceSub, Int.reduceNatCast, Nat.reduceLeDiff]; rfl
  · obtain rfl : i = L.length := by omega
    rw [List.take_length, hsv] at hS
    have hL2 := og.lst (some n)
    rw [List.length_map, hSl] at hL2
    repeat' (first
      | refine St.h ?_
      | simp (disch := first | omega | (simp only [lnv]; omega)) only [wlk, ↓get_put', Nat.reduceEqDiff, Nat.reduceLT, ↓reduceIte, Int.reduceToNat, Nat.reducePow, Nat.min_eq_left, Nat.reduceAdd, Nat.reduceMul, Int.reduceAdd, Int.reduceSub, Int.reduceNeg, Int.reduceMul, Int.reduceEq, Int.reduceLT, Int.reduceLE, Nat.reduceSub, Int.reduceNatCast, Nat.reduceLeDiff, f0, f1, f3, f4, hL2.bs (by intro e; rw [e] at hSl; simp at hSl; omega)]
      | (with_reducible (first | apply cd_split | apply gd_split)) <;> (intro hc; (try simp only [hcn] at hc); (try simp only [hc]); (try simp only [hcl] at hc); try omega))
    subst hQ
    exact ⟨by rw [hS], st⟩
theorem may_ok {h : H} {s key : List UInt8} (hs : s.length ≤ 1000000) (hk : key.length ≤ 1000000) (hf : B.val h.floor ≤ B.val h.next) : FnOk Try.prog 43 [sv s, sv key] h fun y h' => y = .b (mayB s key) ∧ Stay nowhere h h' := by
  refine fn_go c43 (by intro hb; cases hb) (by simp) (by simp) fun Q hQ => ?_
  simp only [slotsF, Nat.reduceAdd]
  have hmay0 : s.length = 0 → mayB s key = true := fun e => by unfold mayB; rw [if_pos e]
  by_cases hs0 : s = []
  · subst hs0
    repeat' (first
      | refine St.h ?_
      | simp (disch := first | omega | (simp only [lnv]; omega)) only [wlk, ↓get_put', Nat.reduceEqDiff, Nat.reduceLT, ↓reduceIte, Int.reduceToNat, Nat.reducePow, Nat.min_eq_left, Nat.reduceAdd, Nat.reduceMul, Int.reduceAdd, Int.reduceSub, Int.reduceNeg, Int.reduceMul, Int.reduceEq, Int.reduceLT, Int.reduceLE, Nat.reduceSub, Int.reduceNatCast, Nat.reduceLeDiff]
      | (with_reducible (first | apply cd_split | apply gd_split)) <;> (intro hc; (try simp only [hcn] at hc); (try simp only [hc]); (try simp only [hcl] at hc); try omega))
    subst hQ; exact ⟨by rw [hmay0 rfl], Stay.refl _ _⟩
  have hsl : 0 < s.length := by cases s with | nil => exact absurd rfl hs0 | cons c r => simp
  repeat' (first
    | refine St.h ?_
    | simp (disch := first | omega | (simp only [lnv]; omega)) only [wlk, ↓get_put', Nat.reduceEqDiff, Nat.reduceLT, ↓reduceIte, Int.reduceToNat, Nat.reducePow, Nat.min_eq_left, Nat.reduceAdd, Nat.reduceMul, Int.reduceAdd, Int.reduceSub, Int.reduceNeg, Int.reduceMul, Int.reduceEq, Int.reduceLT, Int.reduceLE, Nat.reduceSub, Int.reduceNatCast, Nat.reduceLeDiff, hs0]
    | (with_reducible (first | apply cd_split | apply gd_split)) <;> (intro hc; (try simp only [hcn] at hc); (try simp only [hc]); (try simp only [hcl] at hc); try omega))
  refine CL.stay (bitsOf_ok hk (by omega) (by omega) hf) fun g1 t1 => ?_
  have hmay1 : mayB s key = (List.range 4).all fun q => bitB s (spot key s.length q) := by unfold mayB; rw [if_neg (by omega)]
  repeat' (first
    | refine St.h ?_
    | simp (disch := first | omega | (simp only [lnv]; omega)) only [wlk, ↓get_put', Nat.reduceEqDiff, Nat.reduceLT, ↓reduceIte, Int.reduceToNat, Nat.reducePow, Nat.min_eq_left, Nat.reduceAdd, Nat.reduceMul, Int.reduceAdd, Int.reduceSub, Int.reduceNeg, Int.reduceMul, Int.reduceEq, Int.reduceLT, Int.reduceLE, Nat.reduceSub, Int.reduceNatCast, Nat.reduceLeDiff]
    | (with_reducible (first | apply cd_split | apply gd_split)) <;> (intro hc; (try simp only [hcn] at hc); (try simp only [hc]); (try simp only [hcl] at hc); try omega))
  refine Ok.lp (fun m t g => ∃ q : Nat, q ≤ 4 ∧ m = 4 - q ∧ g1 = g ∧ (∀ p, p < q → bitB s (spot key s.length p) = true) ∧ get 0 t = sv s ∧ get 5 t = .i .i64 (q : Int) ∧ get 13 t = .a (spotsV key s.length) ∧ get 14 t = .i .i64 (q : Int)) 4 ?_ ?_
  · simp (disch := first | omega | (simp only [lnv]; omega)) only [wlk, ↓get_put', Nat.reduceEqDiff, Nat.reduceLT, ↓reduceIte, Int.reduceToNat, Nat.reducePow, Nat.min_eq_left, Nat.reduceAdd, Nat.reduceMul, Int.reduceAdd, Int.reduceSub, Int.reduceNeg, Int.reduceMul, Int.reduceEq, Int.reduceLT, Int.reduceLE, Nat.reduceSub, Int.reduceNatCast, Nat.reduceLeDiff]
    refine ⟨0, by omega, by omega, ?_, ?_, ?_, ?_, ?_, ?_⟩ <;> first | trivial | rfl | (intro p h; omega)
  rintro J hJ m t2 g2 ⟨q, hq, rfl, rfl, hb, e0, e5, e6, e7⟩
  have hsa := fun hq => spotsV_at (key := key) (n := s.length) (q := q) hq
  have hsn : (spotsV key s.length).length = 4 := rfl
  have hkl : spot key s.length q < 8 * s.length := Nat.mod_lt _ (by omega)
  generalize hkk : spot key s.length q = k at *
  have hk8 : ((k : Int) / 8).toNat = k / 8 := by omega
  have hbt := (s.getD (k / 8) 0).toNat_lt
  have hrd := bit_rd s k
  have hw2 : ((2 ^ ((k : Int) % 8).toNat : Nat) : Int) = ((2 ^ (k % 8) : Nat) : Int) := by rw [show ((k : Int) % 8).toNat = k % 8 by omega]
  have hdv : ((s.getD (k / 8) 0).toNat : Int) / ((2 ^ (k % 8) : Nat) : Int) = (((s.getD (k / 8) 0).toNat / 2 ^ (k % 8) : Nat) : Int) := by simp
  have hdl : (s.getD (k / 8) 0).toNat / 2 ^ (k % 8) ≤ 255 := Nat.le_trans (Nat.div_le_self _ _) (by omega)
  generalize (s.getD (k / 8) 0).toNat / 2 ^ (k % 8) = w at *
  have hw1 : w &&& 1 = 0 ∨ w &&& 1 = 1 := by rw [Nat.and_one_is_mod]; omega
  repeat' (first
    | refine St.h ?_
    | simp (disch := first | omega | (simp only [lnv]; omega)) only [wlk, ↓get_put', Nat.reduceEqDiff, Nat.reduceLT, ↓reduceIte, Int.reduceToNat, Nat.reducePow, Nat.min_eq_left, Nat.reduceAdd, Nat.reduceMul, Int.reduceAdd, Int.reduceSub, Int.reduceNeg, Int.reduceMul, Int.reduceEq, Int.reduceLT, Int.reduceLE, Nat.reduceSub, Int.reduceNatCast, Nat.reduceLeDiff, e0, e5, e6, e7, hsa, spotsV_len, hk8, hw2, hdv, Int.toNat_natCast]
    | (with_reducible (first | apply cd_split | apply gd_split)) <;> (intro hc; (try simp only [hcn] at hc); (try simp only [hc]); (try simp only [hcl] at hc); try omega))
  · have hw : bitB s k = true := by rw [hrd]; exact decide_eq_true (by omega)
    refine lp_next hJ (4 - (q + 1)) (by omega) ⟨q + 1, by omega, rfl, rfl, fun p hp => ?_, ?_, ?_, ?_, ?_⟩
    · by_cases e : p = q
      · subst e; rw [hkk]; exact hw
      · exact hb p (by omega)
    all_goals first | (simp (disch := first | omega | (simp only [lnv]; omega)) only [wlk, ↓get_put', Nat.reduceEqDiff, Nat.reduceLT, ↓reduceIte, Int.reduceToNat, Nat.reducePow, Nat.min_eq_left, Nat.reduceAdd, Nat.reduceMul, Int.reduceAdd, Int.reduceSub, Int.reduceNeg, Int.reduceMul, Int.reduceEq, Int.reduceLT, Int.reduceLE, Nat.reduceSub, Int.reduceNatCast, Nat.reduceLeDiff, e0, e5, e6, e7]; done) | (simp (disch := first | omega | (simp only [lnv]; omega)) only [wlk, ↓get_put', Nat.reduceEqDiff, Nat.reduceLT, ↓reduceIte, Int.reduceToNat, Nat.reducePow, Nat.min_eq_left, Nat.reduceAdd, Nat.reduceMul, Int.reduceAdd, Int.reduceSub, Int.reduceNeg, Int.reduceMul, Int.reduceEq, Int.reduceLT, Int.reduceLE, Nat.reduceSub, Int.reduceNatCast, Nat.reduceLeDiff]; rfl)
  · have hw : bitB s k = false := by rw [hrd]; exact decide_eq_false (by omega)
    rw [decide_eq_false (by omega)] at *
    subst hQ
    refine ⟨?_, t1⟩
    rw [hmay1, List.all_eq_false.2 ⟨q, by rw [List.mem_range]; omega, by rw [hkk, hw]; decide⟩]
  · obtain rfl : q = 4 := by omega
    subst hQ
    refine ⟨?_, t1⟩
    rw [hmay1, List.all_eq_true.2]
    · rfl
    intro p hp
    rw [List.mem_range] at hp
    exact hb p hp
end Go.Proofs.Ytiecpllnbekmoaa
