/- Package cell: number, TakeNum, Num; the document's Num, TakeNum: by what they compute. No condition. -/
import Derived.Test.YtkfliakkopidmaaJrCell
import Derived.Test.YtkfliakkopidmaaCellM
import Derived.Test.YtkfliakkopidmaaBase
set_option maxRecDepth 100000
set_option maxHeartbeats 8000000
set_option linter.all false
namespace Go.Proofs.Ytkfliakkopidmaa
open Go Go.Ev

theorem or_add {n d : Nat} (h : d < 256) : n * 2 ^ 8 ||| d = n * 256 + d := by
  have := Nat.two_pow_add_eq_or_of_lt (i := 8) (b := d) (by omega) n
  rw [Nat.mul_comm n, ← this]
theorem pk_ge (l : List UInt8) (i : Nat) (h : i ≤ l.length) : pk (l.take i) * 256 ^ (l.length - i) ≤ pk l := by
  have e := pk_append (l.take i) (l.drop i)
  rw [List.take_append_drop, List.length_drop] at e
  omega
theorem pk_bad {l : List UInt8} {i : Nat} (h8 : l.length ≤ 8) (hi : i < l.length) (h : 36028797018963967 < pk (l.take i)) : 9223372036854775808 ≤ pk l := by
  have h1 := pk_ge l i (by omega)
  have h2 : 256 ≤ 256 ^ (l.length - i) := by
    have := Nat.pow_le_pow_right (n := 256) (by omega) (show 1 ≤ l.length - i by omega)
    simpa using this
  have h3 := Nat.mul_le_mul (show 36028797018963968 ≤ pk (l.take i) by omega) h2
  omega
theorem head_zero {l : List UInt8} (h : (l.getD 0 0).toNat = 0) (h0 : 0 < l.length) : l.head? = some 0 := by
  cases l with
  | nil => simp at h0
  | cons c r => have : c = 0 := UInt8.toNat_inj.1 h
                rw [this]; rfl
theorem head_pos {l : List UInt8} (h : ¬ (l.getD 0 0).toNat = 0) : l.head? ≠ some 0 := by
  cases l with
  | nil => simp
  | cons c r => intro h0; have : c = 0 := by simpa using h0
                subst this; exact h rfl
theorem number_ok {h : H} {l : List UInt8} (h8 : l.length ≤ 8) : FnOk Try.prog 91 [sv l] h fun y h' => y = numR l ∧ h' = h := by
  refine fn_go c91 (by intro hb; cases hb) (by simp) (by simp) fun Q hQ => ?_
  simp only [slotsF, Nat.reduceAdd]
  repeat' (first
    | with_reducible (first | apply Ok.sq | apply Ok.block | apply Ok.rg | apply Ok.dw hmix | apply Ok.cd | apply Ok.skip | apply Ok.exit | apply Ok.ret)
    | simp (disch := first | omega | (simp only [List.length_append, List.length_cons, List.length_nil, List.length_take, List.length_drop, List.length_map, List.length_set]; omega)) only [wlk, ↓get_put', Nat.reduceEqDiff, Nat.reduceLT, ↓reduceIte, Int.reduceToNat, Nat.reducePow, Nat.min_eq_left, Nat.reduceAdd, Nat.reduceMul, Int.reduceAdd, Int.reduceSub, Int.reduceNeg, Int.reduceMul, Int.reduceEq, Int.reduceLT, Int.reduceLE, Nat.reduceSub, Int.reduceNatCast, Nat.reduceLeDiff]
    | (with_reducible (first | apply cd_split | apply gd_split)) <;> (intro hc; (try simp only [Bool.not_eq_true', Bool.not_eq_false'] at hc); (try simp only [hc]); (try simp only [hcl, Int.not_lt, Int.not_le, Nat.not_lt, Nat.not_le] at hc); try omega))
  refine Ok.lp (fun m t g => ∃ i : Nat, i ≤ l.length ∧ m = l.length - i ∧ g = h ∧ get 0 t = sv l ∧ get 4 t = .i .i64 ((pk (l.take i) : Nat) : Int) ∧ get 5 t = .i .i64 (i : Int) ∧ (0 < i → l.head? ≠ some 0) ∧ pk (l.take i) ≤ 9223372036854775807) l.length ?_ ?_
  · simp (disch := first | omega | (simp only [List.length_append, List.length_cons, List.length_nil, List.length_take, List.length_drop, List.length_map, List.length_set]; omega)) only [wlk, ↓get_put', Nat.reduceEqDiff, Nat.reduceLT, ↓reduceIte, Int.reduceToNat, Nat.reducePow, Nat.min_eq_left, Nat.reduceAdd, Nat.reduceMul, Int.reduceAdd, Int.reduceSub, Int.reduceNeg, Int.reduceMul, Int.reduceEq, Int.reduceLT, Int.reduceLE, Nat.reduceSub, Int.reduceNatCast, Nat.reduceLeDiff]
    exact ⟨0, by omega, rfl, trivial, trivial, rfl, rfl, fun h => absurd h (by omega), by simp [pk]⟩
  · rintro I hI m t g ⟨i, hi', rfl, rfl, f0, f4, f5, hF, hV⟩
    have hgd := (l.getD i 0).toNat_lt
    repeat' (first
      | with_reducible (first | apply Ok.sq | apply Ok.block | apply Ok.rg | apply Ok.dw hmix | apply Ok.cd | apply Ok.skip | apply Ok.exit | apply Ok.ret)
      | simp (disch := first | omega | (simp only [List.length_append, List.length_cons, List.length_nil, List.length_take, List.length_drop, List.length_map, List.length_set]; omega)) only [wlk, ↓get_put', Nat.reduceEqDiff, Nat.reduceLT, ↓reduceIte, Int.reduceToNat, Nat.reducePow, Nat.min_eq_left, Nat.reduceAdd, Nat.reduceMul, Int.reduceAdd, Int.reduceSub, Int.reduceNeg, Int.reduceMul, Int.reduceEq, Int.reduceLT, Int.reduceLE, Nat.reduceSub, Int.reduceNatCast, Nat.reduceLeDiff, *]
      | (with_reducible (first | apply cd_split | apply gd_split)) <;> (intro hc; (try simp only [Bool.not_eq_true', Bool.not_eq_false'] at hc); (try simp only [hc]); (try simp only [hcl, Int.not_lt, Int.not_le, Nat.not_lt, Nat.not_le] at hc); try omega))
    · obtain rfl : i = 0 := by omega
      exact ⟨(numR_bad (.inl (head_zero (by omega) (by omega)))).symm, trivial⟩
    · exact ⟨(numR_bad (.inr (pk_bad h8 (by omega) (by omega : 36028797018963967 < pk (l.take i))))).symm, trivial⟩
    · obtain rfl : i = 0 := by omega
      have n1 : ((pk (l.take 0) : Int) * 256).toNat ||| (l.getD 0 0).toNat = pk (l.take 1) := by
        rw [show ((pk (l.take 0) : Int) * 256).toNat = pk (l.take 0) * 2 ^ 8 by omega, or_add (by omega), pk_take (by omega)]
      have n2 : pk (l.take 1) ≤ 9223372036854775807 := by rw [pk_take (by omega)]; omega
      refine lp_next hI (l.length - (0 + 1)) (by omega) ⟨0 + 1, by omega, rfl, rfl, ?_, ?_, ?_, fun _ => head_pos (by omega), n2⟩
      · simp (disch := first | omega | (simp only [List.length_append, List.length_cons, List.length_nil, List.length_take, List.length_drop, List.length_map, List.length_set]; omega)) only [wlk, ↓get_put', Nat.reduceEqDiff, Nat.reduceLT, ↓reduceIte, Int.reduceToNat, Nat.reducePow, Nat.min_eq_left, Nat.reduceAdd, Nat.reduceMul, Int.reduceAdd, Int.reduceSub, Int.reduceNeg, Int.reduceMul, Int.reduceEq, Int.reduceLT, Int.reduceLE, Nat.reduceSub, Int.reduceNatCast, Nat.reduceLeDiff, *]
      · simp (disch := first | omega | (simp only [List.length_append, List.length_cons, List.length_nil, List.length_take, List.length_drop, List.length_map, List.length_set]; omega)) only [wlk, ↓get_put', Nat.reduceEqDiff, Nat.reduceLT, ↓reduceIte, Int.reduceToNat, Nat.reducePow, Nat.min_eq_left, Nat.reduceAdd, Nat.reduceMul, Int.reduceAdd, Int.reduceSub, Int.reduceNeg, Int.reduceMul, Int.reduceEq, Int.reduceLT, Int.reduceLE, Nat.reduceSub, Int.reduceNatCast, Nat.reduceLeDiff, *]
      · simp (disch := first | omega | (simp only [List.length_append, List.length_cons, List.length_nil, List.length_take, List.length_drop, List.length_map, List.length_set]; omega)) only [wlk, ↓get_put', Nat.reduceEqDiff, Nat.reduceLT, ↓reduceIte, Int.reduceToNat, Nat.reducePow, Nat.min_eq_left, Nat.reduceAdd, Nat.reduceMul, Int.reduceAdd, Int.reduceSub, Int.reduceNeg, Int.reduceMul, Int.reduceEq, Int.reduceLT, Int.reduceLE, Nat.reduceSub, Int.reduceNatCast, Nat.reduceLeDiff, *]
    · exact ⟨(numR_bad (.inr (pk_bad h8 (by omega) (by omega : 36028797018963967 < pk (l.take i))))).symm, trivial⟩
    · have n1 : ((pk (l.take i) : Int) * 256).toNat ||| (l.getD i 0).toNat = pk (l.take (i + 1)) := by
        rw [show ((pk (l.take i) : Int) * 256).toNat = pk (l.take i) * 2 ^ 8 by omega, or_add (by omega), pk_take (by omega)]
      have n2 : pk (l.take (i + 1)) ≤ 9223372036854775807 := by rw [pk_take (by omega)]; omega
      refine lp_next hI (l.length - (i + 1)) (by omega) ⟨i + 1, by omega, rfl, rfl, ?_, ?_, ?_, fun _ => hF (by omega), n2⟩
      · simp (disch := first | omega | (simp only [List.length_append, List.length_cons, List.length_nil, List.length_take, List.length_drop, List.length_map, List.length_set]; omega)) only [wlk, ↓get_put', Nat.reduceEqDiff, Nat.reduceLT, ↓reduceIte, Int.reduceToNat, Nat.reducePow, Nat.min_eq_left, Nat.reduceAdd, Nat.reduceMul, Int.reduceAdd, Int.reduceSub, Int.reduceNeg, Int.reduceMul, Int.reduceEq, Int.reduceLT, Int.reduceLE, Nat.reduceSub, Int.reduceNatCast, Nat.reduceLeDiff, *]
      · simp (disch := first | omega | (simp only [List.length_append, List.length_cons, List.length_nil, List.length_take, List.length_drop, List.length_map, List.length_set]; omega)) only [wlk, ↓get_put', Nat.reduceEqDiff, Nat.reduceLT, ↓reduceIte, Int.reduceToNat, Nat.reducePow, Nat.min_eq_left, Nat.reduceAdd, Nat.reduceMul, Int.reduceAdd, Int.reduceSub, Int.reduceNeg, Int.reduceMul, Int.reduceEq, Int.reduceLT, Int.reduceLE, Nat.reduceSub, Int.reduceNatCast, Nat.reduceLeDiff, *]
      · simp (disch := first | omega | (simp only [List.length_append, List.length_cons, List.length_nil, List.length_take, List.length_drop, List.length_map, List.length_set]; omega)) only [wlk, ↓get_put', Nat.reduceEqDiff, Nat.reduceLT, ↓reduceIte, Int.reduceToNat, Nat.reducePow, Nat.min_eq_left, Nat.reduceAdd, Nat.reduceMul, Int.reduceAdd, Int.reduceSub, Int.reduceNeg, Int.reduceMul, Int.reduceEq, Int.reduceLT, Int.reduceLE, Nat.reduceSub, Int.reduceNatCast, Nat.reduceLeDiff, *]; rfl
    · have : i = l.length := by omega
      subst this
      rw [List.take_length] at *
      refine ⟨(numR_ok ?_).symm, trivial⟩
      rintro (h1 | h1)
      · cases l with
        | nil => cases h1
        | cons c r => exact hF (by simp) h1
      · omega

theorem takeNum_ok {h : H} {l : List UInt8} (hl : l.length ≤ 1000000) : FnOk Try.prog 85 [sv l] h fun y h' => y = tri (takeN l) ∧ h' = h := by
  refine fn_go c85 (by intro hb; cases hb) (by simp) (by simp) fun Q hQ => ?_
  simp only [slotsF, Nat.reduceAdd]
  cases l with
  | nil =>
    repeat' (first
      | with_reducible (first | apply Ok.sq | apply Ok.block | apply Ok.rg | apply Ok.dw hmix | apply Ok.cd | apply Ok.skip | apply Ok.exit | apply Ok.ret)
      | simp (disch := first | omega | (simp only [List.length_append, List.length_cons, List.length_nil, List.length_take, List.length_drop, List.length_map, List.length_set]; omega)) only [wlk, ↓get_put', Nat.reduceEqDiff, Nat.reduceLT, ↓reduceIte, Int.reduceToNat, Nat.reducePow, Nat.min_eq_left, Nat.reduceAdd, Nat.reduceMul, Int.reduceAdd, Int.reduceSub, Int.reduceNeg, Int.reduceMul, Int.reduceEq, Int.reduceLT, Int.reduceLE, Nat.reduceSub, Int.reduceNatCast, Nat.reduceLeDiff, *]
      | (with_reducible (first | apply cd_split | apply gd_split)) <;> (intro hc; (try simp only [Bool.not_eq_true', Bool.not_eq_false'] at hc); (try simp only [hc]); (try simp only [hcl, Int.not_lt, Int.not_le, Nat.not_lt, Nat.not_le] at hc); try omega))
    exact ⟨rfl, trivial⟩
  | cons w r =>
  have hlen : (w :: r).length = r.length + 1 := rfl
  have hw := w.toNat_lt
  have hgd : (w :: r).getD 0 0 = w := rfl
  have d0 : (w :: r = []) = False := by simp
  repeat' (first
    | with_reducible (first | apply Ok.sq | apply Ok.block | apply Ok.rg | apply Ok.dw hmix | apply Ok.cd | apply Ok.skip | apply Ok.exit | apply Ok.ret)
    | simp (disch := first | omega | (simp only [List.length_append, List.length_cons, List.length_nil, List.length_take, List.length_drop, List.length_map, List.length_set]; omega)) only [wlk, ↓get_put', Nat.reduceEqDiff, Nat.reduceLT, ↓reduceIte, Int.reduceToNat, Nat.reducePow, Nat.min_eq_left, Nat.reduceAdd, Nat.reduceMul, Int.reduceAdd, Int.reduceSub, Int.reduceNeg, Int.reduceMul, Int.reduceEq, Int.reduceLT, Int.reduceLE, Nat.reduceSub, Int.reduceNatCast, Nat.reduceLeDiff, *]
    | (with_reducible (first | apply cd_split | apply gd_split)) <;> (intro hc; (try simp only [Bool.not_eq_true', Bool.not_eq_false'] at hc); (try simp only [hc]); (try simp only [hcl, Int.not_lt, Int.not_le, Nat.not_lt, Nat.not_le] at hc); try omega))
  · exact ⟨by rw [takeN_big (by omega)]; rfl, trivial⟩
  · exact ⟨by rw [takeN_short (by omega) (by omega)]; rfl, trivial⟩
  have hsl : ((w :: r).take (1 + (w.toNat : Int)).toNat).drop 1 = r.take w.toNat := by
    rw [show (1 + (w.toNat : Int)).toNat = w.toNat + 1 by omega]; simp
  rw [hsl]
  refine CL.mk (number_ok (by rw [List.length_take]; omega)) ?_
  rintro _ _ ⟨rfl, rfl⟩
  by_cases hb : badD (r.take w.toNat)
  · rw [numR_bad hb]
    repeat' (first
      | with_reducible (first | apply Ok.sq | apply Ok.block | apply Ok.rg | apply Ok.dw hmix | apply Ok.cd | apply Ok.skip | apply Ok.exit | apply Ok.ret)
      | simp (disch := first | omega | (simp only [List.length_append, List.length_cons, List.length_nil, List.length_take, List.length_drop, List.length_map, List.length_set]; omega)) only [wlk, ↓get_put', Nat.reduceEqDiff, Nat.reduceLT, ↓reduceIte, Int.reduceToNat, Nat.reducePow, Nat.min_eq_left, Nat.reduceAdd, Nat.reduceMul, Int.reduceAdd, Int.reduceSub, Int.reduceNeg, Int.reduceMul, Int.reduceEq, Int.reduceLT, Int.reduceLE, Nat.reduceSub, Int.reduceNatCast, Nat.reduceLeDiff, *]
      | (with_reducible (first | apply cd_split | apply gd_split)) <;> (intro hc; (try simp only [Bool.not_eq_true', Bool.not_eq_false'] at hc); (try simp only [hc]); (try simp only [hcl, Int.not_lt, Int.not_le, Nat.not_lt, Nat.not_le] at hc); try omega))
    exact ⟨by rw [takeN_bad (by omega) (by omega) hb]; rfl, trivial⟩
  · rw [numR_ok hb]
    repeat' (first
      | with_reducible (first | apply Ok.sq | apply Ok.block | apply Ok.rg | apply Ok.dw hmix | apply Ok.cd | apply Ok.skip | apply Ok.exit | apply Ok.ret)
      | simp (disch := first | omega | (simp only [List.length_append, List.length_cons, List.length_nil, List.length_take, List.length_drop, List.length_map, List.length_set]; omega)) only [wlk, ↓get_put', Nat.reduceEqDiff, Nat.reduceLT, ↓reduceIte, Int.reduceToNat, Nat.reducePow, Nat.min_eq_left, Nat.reduceAdd, Nat.reduceMul, Int.reduceAdd, Int.reduceSub, Int.reduceNeg, Int.reduceMul, Int.reduceEq, Int.reduceLT, Int.reduceLE, Nat.reduceSub, Int.reduceNatCast, Nat.reduceLeDiff, *]
      | (with_reducible (first | apply cd_split | apply gd_split)) <;> (intro hc; (try simp only [Bool.not_eq_true', Bool.not_eq_false'] at hc); (try simp only [hc]); (try simp only [hcl, Int.not_lt, Int.not_le, Nat.not_lt, Nat.not_le] at hc); try omega))
    refine ⟨?_, trivial⟩
    rw [takeN_ok (by omega) (by omega) hb, show (1 : Int) + (w.toNat : Int) = ((w.toNat + 1 : Nat) : Int) by omega]; rfl

theorem num_ok {h : H} {n : Int} (hn : n ≤ 9223372036854775807) (hf : B.val h.floor ≤ B.val h.next) : FnOk Try.prog 74 [.i .i64 n] h fun y h' => y = sv (numB n.toNat) ∧ Stay nowhere h h' := by
  refine fn_go c74 (by intro hb; cases hb) (by simp) (by simp) fun Q hQ => ?_
  simp only [slotsF, Nat.reduceAdd]
  have hN : n.toNat ≤ 9223372036854775807 := by omega
  have h8 := digs_len8 hN
  repeat' (first
    | with_reducible (first | apply Ok.sq | apply Ok.block | apply Ok.rg | apply Ok.dw hmix | apply Ok.cd | apply Ok.skip | apply Ok.exit | apply Ok.ret)
    | simp (disch := first | omega | (simp only [List.length_append, List.length_cons, List.length_nil, List.length_take, List.length_drop, List.length_map, List.length_set]; omega)) only [wlk, ↓get_put', Nat.reduceEqDiff, Nat.reduceLT, ↓reduceIte, Int.reduceToNat, Nat.reducePow, Nat.min_eq_left, Nat.reduceAdd, Nat.reduceMul, Int.reduceAdd, Int.reduceSub, Int.reduceNeg, Int.reduceMul, Int.reduceEq, Int.reduceLT, Int.reduceLE, Nat.reduceSub, Int.reduceNatCast, Nat.reduceLeDiff]
    | (with_reducible (first | apply cd_split | apply gd_split)) <;> (intro hc; (try simp only [Bool.not_eq_true', Bool.not_eq_false'] at hc); (try simp only [hc]); (try simp only [hcl, Int.not_lt, Int.not_le, Nat.not_lt, Nat.not_le] at hc); try omega))
  refine AL.own (by simp) hf fun h1 s1 n1 o1 => ?_
  repeat' (first
    | with_reducible (first | apply Ok.sq | apply Ok.block | apply Ok.rg | apply Ok.dw hmix | apply Ok.cd | apply Ok.skip | apply Ok.exit | apply Ok.ret)
    | simp (disch := first | omega | (simp only [List.length_append, List.length_cons, List.length_nil, List.length_take, List.length_drop, List.length_map, List.length_set]; omega)) only [wlk, ↓get_put', Nat.reduceEqDiff, Nat.reduceLT, ↓reduceIte, Int.reduceToNat, Nat.reducePow, Nat.min_eq_left, Nat.reduceAdd, Nat.reduceMul, Int.reduceAdd, Int.reduceSub, Int.reduceNeg, Int.reduceMul, Int.reduceEq, Int.reduceLT, Int.reduceLE, Nat.reduceSub, Int.reduceNatCast, Nat.reduceLeDiff, List.length_cons, List.length_nil]
    | (with_reducible (first | apply cd_split | apply gd_split)) <;> (intro hc; (try simp only [Bool.not_eq_true', Bool.not_eq_false'] at hc); (try simp only [hc]); (try simp only [hcl, Int.not_lt, Int.not_le, Nat.not_lt, Nat.not_le] at hc); try omega))
  refine Ok.lp (fun m t g => ∃ (z : Int) (d : List UInt8) (xs : List V), m = z.toNat ∧ z.toNat ≤ 9223372036854775807 ∧ digs z.toNat ++ d = digs n.toNat ∧ get 0 t = .i .i64 z ∧ get 3 t = .p h.next 0 0 9 ∧ get 4 t = .i .i64 ((9 - d.length : Nat) : Int) ∧ Own g h.next xs ∧ xs.length = 9 ∧ xs.drop (9 - d.length) = d.map bv ∧ Stay nowhere h g) n.toNat ?_ ?_
  · simp (disch := first | omega | (simp only [List.length_append, List.length_cons, List.length_nil, List.length_take, List.length_drop, List.length_map, List.length_set]; omega)) only [wlk, ↓get_put', Nat.reduceEqDiff, Nat.reduceLT, ↓reduceIte, Int.reduceToNat, Nat.reducePow, Nat.min_eq_left, Nat.reduceAdd, Nat.reduceMul, Int.reduceAdd, Int.reduceSub, Int.reduceNeg, Int.reduceMul, Int.reduceEq, Int.reduceLT, Int.reduceLE, Nat.reduceSub, Int.reduceNatCast, Nat.reduceLeDiff]
    refine ⟨n, [], _, rfl, hN, by simp, rfl, trivial, rfl, o1, rfl, rfl, s1⟩
  rintro I hI m t g ⟨z, d, xs, rfl, hz, hD, f0, f3, f4, o, hx, hxd, st⟩
  have hdl : (digs z.toNat).length + d.length ≤ 8 := by rw [← List.length_append, hD]; exact h8
  have ea2 : (((9 - d.length : Nat) : Int) - 1) = ((8 - d.length : Nat) : Int) := by omega
  have ew : (9 : Int) - ((9 - d.length : Nat) : Int) = (d.length : Int) := by omega
  repeat' (first
    | with_reducible (first | apply Ok.sq | apply Ok.block | apply Ok.rg | apply Ok.dw hmix | apply Ok.cd | apply Ok.skip | apply Ok.exit | apply Ok.ret)
    | simp (disch := first | omega | (simp only [List.length_append, List.length_cons, List.length_nil, List.length_take, List.length_drop, List.length_map, List.length_set]; omega)) only [wlk, ↓get_put', Nat.reduceEqDiff, Nat.reduceLT, ↓reduceIte, Int.reduceToNat, Nat.reducePow, Nat.min_eq_left, Nat.reduceAdd, Nat.reduceMul, Int.reduceAdd, Int.reduceSub, Int.reduceNeg, Int.reduceMul, Int.reduceEq, Int.reduceLT, Int.reduceLE, Nat.reduceSub, Int.reduceNatCast, Nat.reduceLeDiff, f0, f3, f4, hQ, ea2, ew, wrap_u8m]
    | (with_reducible (first | apply cd_split | apply gd_split)) <;> (intro hc; (try simp only [Bool.not_eq_true', Bool.not_eq_false'] at hc); (try simp only [hc]); (try simp only [hcl, Int.not_lt, Int.not_le, Nat.not_lt, Nat.not_le] at hc); try omega))
  · obtain ⟨c, rfl⟩ := Int.eq_ofNat_of_zero_le (by omega : 0 ≤ z)
    rw [Int.toNat_natCast] at hD hdl hz
    have hc0 : c ≠ 0 := by omega
    have hdp := digs_pos hc0
    have hd1 : (digs c).length = (digs (c / 256)).length + 1 := by rw [hdp]; simp
    refine ST.own (y := bv (UInt8.ofNat (c % 256))) o (by rw [← bv_ofNat]; simp; rfl) rfl (by omega) (by omega) fun g' o' s' => ?_
    repeat' (first
      | with_reducible (first | apply Ok.sq | apply Ok.block | apply Ok.rg | apply Ok.dw hmix | apply Ok.cd | apply Ok.skip | apply Ok.exit | apply Ok.ret)
      | simp (disch := first | omega | (simp only [List.length_append, List.length_cons, List.length_nil, List.length_take, List.length_drop, List.length_map, List.length_set]; omega)) only [wlk, ↓get_put', Nat.reduceEqDiff, Nat.reduceLT, ↓reduceIte, Int.reduceToNat, Nat.reducePow, Nat.min_eq_left, Nat.reduceAdd, Nat.reduceMul, Int.reduceAdd, Int.reduceSub, Int.reduceNeg, Int.reduceMul, Int.reduceEq, Int.reduceLT, Int.reduceLE, Nat.reduceSub, Int.reduceNatCast, Nat.reduceLeDiff, f0, f3, f4, ea2]
      | (with_reducible (first | apply cd_split | apply gd_split)) <;> (intro hc; (try simp only [Bool.not_eq_true', Bool.not_eq_false'] at hc); (try simp only [hc]); (try simp only [hcl, Int.not_lt, Int.not_le, Nat.not_lt, Nat.not_le] at hc); try omega))
    have hdrop : (xs.set (8 - d.length) (bv (UInt8.ofNat (c % 256)))).drop (9 - (UInt8.ofNat (c % 256) :: d).length) = (UInt8.ofNat (c % 256) :: d).map bv := by
      rw [show 9 - (UInt8.ofNat (c % 256) :: d).length = 8 - d.length by simp only [List.length_cons]; omega, drop_set1 _ _ _ (by omega), show 8 - d.length + 1 = 9 - d.length by omega, hxd]; rfl
    refine lp_next hI (c / 256) (by omega) ⟨((c / 256 : Nat) : Int), UInt8.ofNat (c % 256) :: d, _, by rw [Int.toNat_natCast], by rw [Int.toNat_natCast]; omega, ?_, ?_, ?_, ?_, o', by rw [List.length_set]; exact hx, hdrop, st.past' s' fun i hi => by rw [hi]; exact Nat.le_refl _⟩
    · rw [Int.toNat_natCast, ← hD, hdp]; simp
    · simp (disch := first | omega | (simp only [List.length_append, List.length_cons, List.length_nil, List.length_take, List.length_drop, List.length_map, List.length_set]; omega)) only [wlk, ↓get_put', Nat.reduceEqDiff, Nat.reduceLT, ↓reduceIte, Int.reduceToNat, Nat.reducePow, Nat.min_eq_left, Nat.reduceAdd, Nat.reduceMul, Int.reduceAdd, Int.reduceSub, Int.reduceNeg, Int.reduceMul, Int.reduceEq, Int.reduceLT, Int.reduceLE, Nat.reduceSub, Int.reduceNatCast, Nat.reduceLeDiff]; rfl
    · simp (disch := first | omega | (simp only [List.length_append, List.length_cons, List.length_nil, List.length_take, List.length_drop, List.length_map, List.length_set]; omega)) only [wlk, ↓get_put', Nat.reduceEqDiff, Nat.reduceLT, ↓reduceIte, Int.reduceToNat, Nat.reducePow, Nat.min_eq_left, Nat.reduceAdd, Nat.reduceMul, Int.reduceAdd, Int.reduceSub, Int.reduceNeg, Int.reduceMul, Int.reduceEq, Int.reduceLT, Int.reduceLE, Nat.reduceSub, Int.reduceNatCast, Nat.reduceLeDiff, f3]
    · simp (disch := first | omega | (simp only [List.length_append, List.length_cons, List.length_nil, List.length_take, List.length_drop, List.length_map, List.length_set]; omega)) only [wlk, ↓get_put', Nat.reduceEqDiff, Nat.reduceLT, ↓reduceIte, Int.reduceToNat, Nat.reducePow, Nat.min_eq_left, Nat.reduceAdd, Nat.reduceMul, Int.reduceAdd, Int.reduceSub, Int.reduceNeg, Int.reduceMul, Int.reduceEq, Int.reduceLT, Int.reduceLE, Nat.reduceSub, Int.reduceNatCast, Nat.reduceLeDiff]
      congr 1; simp only [List.length_cons]; omega
  · have hz0 : z.toNat = 0 := by omega
    rw [hz0, digs_zero, List.nil_append] at hD
    refine ST.own (y := bv (UInt8.ofNat d.length)) o (by rw [← bv_ofNat, Nat.mod_eq_of_lt (by omega)]; rfl) rfl (by omega) (by omega) fun g' o' s' => ?_
    have hlen : (xs.set (8 - d.length) (bv (UInt8.ofNat d.length))).length = 9 := by rw [List.length_set]; exact hx
    have hdrop : (xs.set (8 - d.length) (bv (UInt8.ofNat d.length))).drop (8 - d.length) = (UInt8.ofNat d.length :: d).map bv := by
      rw [drop_set1 _ _ _ (by omega), show 8 - d.length + 1 = 9 - d.length by omega, hxd]; rfl
    have hL := o'.back (a := 8 - d.length) (fin := 9) (by omega) (by omega) (some (9 - (8 - d.length)))
    rw [hdrop, hlen] at hL
    repeat' (first
      | with_reducible (first | apply Ok.sq | apply Ok.block | apply Ok.rg | apply Ok.dw hmix | apply Ok.cd | apply Ok.skip | apply Ok.exit | apply Ok.ret)
      | simp (disch := first | omega | (simp only [List.length_append, List.length_cons, List.length_nil, List.length_take, List.length_drop, List.length_map, List.length_set]; omega)) only [wlk, ↓get_put', Nat.reduceEqDiff, Nat.reduceLT, ↓reduceIte, Int.reduceToNat, Nat.reducePow, Nat.min_eq_left, Nat.reduceAdd, Nat.reduceMul, Int.reduceAdd, Int.reduceSub, Int.reduceNeg, Int.reduceMul, Int.reduceEq, Int.reduceLT, Int.reduceLE, Nat.reduceSub, Int.reduceNatCast, Nat.reduceLeDiff, f0, f3, f4, hL.bs (by simp)]
      | (with_reducible (first | apply cd_split | apply gd_split)) <;> (intro hc; (try simp only [Bool.not_eq_true', Bool.not_eq_false'] at hc); (try simp only [hc]); (try simp only [hcl, Int.not_lt, Int.not_le, Nat.not_lt, Nat.not_le] at hc); try omega))
    subst hQ
    exact ⟨by unfold numB; rw [← hD], st.past' s' fun i hi => by rw [hi]; exact Nat.le_refl _⟩
  

theorem rnum_ok {h : H} {n : Int} (hn : n ≤ 9223372036854775807) (hf : B.val h.floor ≤ B.val h.next) : FnOk Try.prog 87 [.i .i64 n] h fun y h' => y = sv (numB n.toNat) ∧ Stay nowhere h h' := by
  refine fn_go c87 (by intro hb; cases hb) (by simp) (by simp) fun Q hQ => ?_
  simp only [slotsF, Nat.reduceAdd]
  have hN : n.toNat ≤ 9223372036854775807 := by omega
  have h8 := digs_len8 hN
  repeat' (first
    | with_reducible (first | apply Ok.sq | apply Ok.block | apply Ok.rg | apply Ok.dw hmix | apply Ok.cd | apply Ok.skip | apply Ok.exit | apply Ok.ret)
    | simp (disch := first | omega | (simp only [List.length_append, List.length_cons, List.length_nil, List.length_take, List.length_drop, List.length_map, List.length_set]; omega)) only [wlk, ↓get_put', Nat.reduceEqDiff, Nat.reduceLT, ↓reduceIte, Int.reduceToNat, Nat.reducePow, Nat.min_eq_left, Nat.reduceAdd, Nat.reduceMul, Int.reduceAdd, Int.reduceSub, Int.reduceNeg, Int.reduceMul, Int.reduceEq, Int.reduceLT, Int.reduceLE, Nat.reduceSub, Int.reduceNatCast, Nat.reduceLeDiff]
    | (with_reducible (first | apply cd_split | apply gd_split)) <;> (intro hc; (try simp only [Bool.not_eq_true', Bool.not_eq_false'] at hc); (try simp only [hc]); (try simp only [hcl, Int.not_lt, Int.not_le, Nat.not_lt, Nat.not_le] at hc); try omega))
  refine Ok.lp (fun m t g => ∃ (c : Nat) (d : List UInt8), m = c ∧ c ≤ 9223372036854775807 ∧ digs c ++ d = digs n.toNat ∧ get 3 t = sv d ∧ get 4 t = .i .i64 (c : Int) ∧ Stay nowhere h g) n.toNat ?_ ?_
  · simp (disch := first | omega | (simp only [List.length_append, List.length_cons, List.length_nil, List.length_take, List.length_drop, List.length_map, List.length_set]; omega)) only [wlk, ↓get_put', Nat.reduceEqDiff, Nat.reduceLT, ↓reduceIte, Int.reduceToNat, Nat.reducePow, Nat.min_eq_left, Nat.reduceAdd, Nat.reduceMul, Int.reduceAdd, Int.reduceSub, Int.reduceNeg, Int.reduceMul, Int.reduceEq, Int.reduceLT, Int.reduceLE, Nat.reduceSub, Int.reduceNatCast, Nat.reduceLeDiff]
    exact ⟨n.toNat, [], rfl, hN, by simp, rfl, by congr 1; omega, Stay.refl _ _⟩
  rintro I hI m t g ⟨c, d, rfl, hc1, hD, f3, f4, st⟩
  have hdl : (digs m).length + d.length ≤ 8 := by rw [← List.length_append, hD]; exact h8
  have hfg := st.fl hf
  repeat' (first
    | with_reducible (first | apply Ok.sq | apply Ok.block | apply Ok.rg | apply Ok.dw hmix | apply Ok.cd | apply Ok.skip | apply Ok.exit | apply Ok.ret)
    | simp (disch := first | omega | (simp only [List.length_append, List.length_cons, List.length_nil, List.length_take, List.length_drop, List.length_map, List.length_set]; omega)) only [wlk, ↓get_put', Nat.reduceEqDiff, Nat.reduceLT, ↓reduceIte, Int.reduceToNat, Nat.reducePow, Nat.min_eq_left, Nat.reduceAdd, Nat.reduceMul, Int.reduceAdd, Int.reduceSub, Int.reduceNeg, Int.reduceMul, Int.reduceEq, Int.reduceLT, Int.reduceLE, Nat.reduceSub, Int.reduceNatCast, Nat.reduceLeDiff, f3, f4, wrap_u8m]
    | (with_reducible (first | apply cd_split | apply gd_split)) <;> (intro hc; (try simp only [Bool.not_eq_true', Bool.not_eq_false'] at hc); (try simp only [hc]); (try simp only [hcl, Int.not_lt, Int.not_le, Nat.not_lt, Nat.not_le] at hc); try omega))
  · refine AL.str (bs := [UInt8.ofNat (m % 256)]) (by rw [bv_i (by omega) (by omega)]; rfl) (by simp) rfl rfl (by simp) hfg fun h' u s1 => ?_
    repeat' (first
      | with_reducible (first | apply Ok.sq | apply Ok.block | apply Ok.rg | apply Ok.dw hmix | apply Ok.cd | apply Ok.skip | apply Ok.exit | apply Ok.ret)
      | simp (disch := first | omega | (simp only [List.length_append, List.length_cons, List.length_nil, List.length_take, List.length_drop, List.length_map, List.length_set]; omega)) only [wlk, ↓get_put', Nat.reduceEqDiff, Nat.reduceLT, ↓reduceIte, Int.reduceToNat, Nat.reducePow, Nat.min_eq_left, Nat.reduceAdd, Nat.reduceMul, Int.reduceAdd, Int.reduceSub, Int.reduceNeg, Int.reduceMul, Int.reduceEq, Int.reduceLT, Int.reduceLE, Nat.reduceSub, Int.reduceNatCast, Nat.reduceLeDiff, f3, f4]
      | (with_reducible (first | apply cd_split | apply gd_split)) <;> (intro hc; (try simp only [Bool.not_eq_true', Bool.not_eq_false'] at hc); (try simp only [hc]); (try simp only [hcl, Int.not_lt, Int.not_le, Nat.not_lt, Nat.not_le] at hc); try omega))
    have hp := digs_pos (n := m) (by omega)
    refine lp_next hI (m / 256) (by omega) ⟨m / 256, [UInt8.ofNat (m % 256)] ++ d, rfl, by omega, by rw [← hD, hp]; simp, ?_, ?_, st.trans s1⟩
    · simp (disch := first | omega | (simp only [List.length_append, List.length_cons, List.length_nil, List.length_take, List.length_drop, List.length_map, List.length_set]; omega)) only [wlk, ↓get_put', Nat.reduceEqDiff, Nat.reduceLT, ↓reduceIte, Int.reduceToNat, Nat.reducePow, Nat.min_eq_left, Nat.reduceAdd, Nat.reduceMul, Int.reduceAdd, Int.reduceSub, Int.reduceNeg, Int.reduceMul, Int.reduceEq, Int.reduceLT, Int.reduceLE, Nat.reduceSub, Int.reduceNatCast, Nat.reduceLeDiff]
    · simp (disch := first | omega | (simp only [List.length_append, List.length_cons, List.length_nil, List.length_take, List.length_drop, List.length_map, List.length_set]; omega)) only [wlk, ↓get_put', Nat.reduceEqDiff, Nat.reduceLT, ↓reduceIte, Int.reduceToNat, Nat.reducePow, Nat.min_eq_left, Nat.reduceAdd, Nat.reduceMul, Int.reduceAdd, Int.reduceSub, Int.reduceNeg, Int.reduceMul, Int.reduceEq, Int.reduceLT, Int.reduceLE, Nat.reduceSub, Int.reduceNatCast, Nat.reduceLeDiff]; rfl
  · have hm : m = 0 := by omega
    subst hm
    rw [digs_zero, List.nil_append] at hD
    refine AL.str (bs := [UInt8.ofNat d.length]) (by rw [bv_i (by omega) (by omega)]; rfl) (by simp) rfl rfl (by simp) hfg fun h' u s1 => ?_
    repeat' (first
      | with_reducible (first | apply Ok.sq | apply Ok.block | apply Ok.rg | apply Ok.dw hmix | apply Ok.cd | apply Ok.skip | apply Ok.exit | apply Ok.ret)
      | simp (disch := first | omega | (simp only [List.length_append, List.length_cons, List.length_nil, List.length_take, List.length_drop, List.length_map, List.length_set]; omega)) only [wlk, ↓get_put', Nat.reduceEqDiff, Nat.reduceLT, ↓reduceIte, Int.reduceToNat, Nat.reducePow, Nat.min_eq_left, Nat.reduceAdd, Nat.reduceMul, Int.reduceAdd, Int.reduceSub, Int.reduceNeg, Int.reduceMul, Int.reduceEq, Int.reduceLT, Int.reduceLE, Nat.reduceSub, Int.reduceNatCast, Nat.reduceLeDiff, f3, f4]
      | (with_reducible (first | apply cd_split | apply gd_split)) <;> (intro hc; (try simp only [Bool.not_eq_true', Bool.not_eq_false'] at hc); (try simp only [hc]); (try simp only [hcl, Int.not_lt, Int.not_le, Nat.not_lt, Nat.not_le] at hc); try omega))
    subst hQ
    exact ⟨by unfold numB; rw [← hD]; rfl, st.trans s1⟩

theorem rtakeNum_ok {h : H} {l : List UInt8} (hl : l.length ≤ 1000000) : FnOk Try.prog 86 [sv l] h fun y h' => y = tri (takeN l) ∧ h' = h := by
  refine fn_go c86 (by intro hb; cases hb) (by simp) (by simp) fun Q hQ => ?_
  simp only [slotsF, Nat.reduceAdd]
  cases l with
  | nil =>
    repeat' (first
      | with_reducible (first | apply Ok.sq | apply Ok.block | apply Ok.rg | apply Ok.dw hmix | apply Ok.cd | apply Ok.skip | apply Ok.exit | apply Ok.ret)
      | simp (disch := first | omega | (simp only [List.length_append, List.length_cons, List.length_nil, List.length_take, List.length_drop, List.length_map, List.length_set]; omega)) only [wlk, ↓get_put', Nat.reduceEqDiff, Nat.reduceLT, ↓reduceIte, Int.reduceToNat, Nat.reducePow, Nat.min_eq_left, Nat.reduceAdd, Nat.reduceMul, Int.reduceAdd, Int.reduceSub, Int.reduceNeg, Int.reduceMul, Int.reduceEq, Int.reduceLT, Int.reduceLE, Nat.reduceSub, Int.reduceNatCast, Nat.reduceLeDiff, hQ, List.length_nil]
      | (with_reducible (first | apply cd_split | apply gd_split)) <;> (intro hc; (try simp only [Bool.not_eq_true', Bool.not_eq_false'] at hc); (try simp only [hc]); (try simp only [hcl, Int.not_lt, Int.not_le, Nat.not_lt, Nat.not_le] at hc); try omega))
    exact ⟨rfl, trivial⟩
  | cons w r =>
  have hlen : (w :: r).length = r.length + 1 := rfl
  have hw := w.toNat_lt
  have hgd : (w :: r).getD 0 0 = w := rfl
  have hgd1 : (w :: r).getD 1 0 = r.getD 0 0 := rfl
  have hc1 := (r.getD 0 0).toNat_lt
  have key : w.toNat ≤ 8 → w.toNat ≤ r.length → ¬ badD (r.take w.toNat) → ∀ t, get 0 t = sv (w :: r) → get 5 t = .i .i64 (w.toNat : Int) → get 6 t = .i .i64 0 → get 7 t = .i .i64 1 → Ok Try.prog 52 (.loop l86_0) t h fun x t' h' => x = .exit 0 ∧ h' = h ∧ get 5 t' = .i .i64 (w.toNat : Int) ∧ get 6 t' = .i .i64 ((pk (r.take w.toNat) : Nat) : Int) := by
    intro hw8 hwr hb t g0 g5 g6 g7
    have hv : pk (r.take w.toNat) ≤ 9223372036854775807 := by
      rcases Nat.lt_or_ge (pk (r.take w.toNat)) 9223372036854775808 with h1 | h1
      · omega
      · exact absurd (.inr h1) hb
    have mono : ∀ i, i ≤ w.toNat → pk (r.take i) ≤ pk (r.take w.toNat) := fun i hi => by
      have e : r.take w.toNat = r.take i ++ (r.take w.toNat).drop i := by
        conv => lhs; rw [← List.take_append_drop i (r.take w.toNat)]
        rw [List.take_take, Nat.min_eq_left hi]
      rw [e, pk_append]
      have : 1 ≤ 256 ^ ((r.take w.toNat).drop i).length := Nat.pow_pos (by omega)
      have := Nat.mul_le_mul_left (pk (r.take i)) this
      omega
    refine Ok.lp (fun m t g => ∃ i : Nat, i ≤ w.toNat ∧ m = w.toNat - i ∧ g = h ∧ get 0 t = sv (w :: r) ∧ get 5 t = .i .i64 (w.toNat : Int) ∧ get 6 t = .i .i64 ((pk (r.take i) : Nat) : Int) ∧ get 7 t = .i .i64 ((i : Int) + 1)) w.toNat ?_ ?_
    · exact ⟨0, by omega, rfl, rfl, g0, g5, g6, g7⟩
    rintro I hI m t g ⟨i, hi, rfl, rfl, f0, f5, f6, f7⟩
    have hii : (w :: r).getD ((i : Int) + 1).toNat 0 = r.getD i 0 := by rw [show ((i : Int) + 1).toNat = i + 1 by omega]; rfl
    have hci := (r.getD i 0).toNat_lt
    have ep : i < w.toNat → ((pk (r.take i) : Nat) : Int) * 256 + ((r.getD i 0).toNat : Int) = ((pk (r.take (i + 1)) : Nat) : Int) := fun h => by rw [pk_take (by omega)]; omega
    have hp : i < w.toNat → pk (r.take i) * 256 + (r.getD i 0).toNat ≤ 9223372036854775807 := fun h => by
      have := mono (i + 1) (by omega)
      rw [pk_take (by omega)] at this; omega
    by_cases hiw : i < w.toNat
    · have hp := hp hiw
      have ep := ep hiw
      clear hv mono
      repeat' (first
        | with_reducible (first | apply Ok.sq | apply Ok.block | apply Ok.rg | apply Ok.dw hmix | apply Ok.cd | apply Ok.skip | apply Ok.exit | apply Ok.ret)
        | simp (disch := first | omega | (simp only [List.length_append, List.length_cons, List.length_nil, List.length_take, List.length_drop, List.length_map, List.length_set]; omega)) only [wlk, ↓get_put', Nat.reduceEqDiff, Nat.reduceLT, ↓reduceIte, Int.reduceToNat, Nat.reducePow, Nat.min_eq_left, Nat.reduceAdd, Nat.reduceMul, Int.reduceAdd, Int.reduceSub, Int.reduceNeg, Int.reduceMul, Int.reduceEq, Int.reduceLT, Int.reduceLE, Nat.reduceSub, Int.reduceNatCast, Nat.reduceLeDiff, f0, f5, f6, f7, hii]
        | (with_reducible (first | apply cd_split | apply gd_split)) <;> (intro hc; (try simp only [Bool.not_eq_true', Bool.not_eq_false'] at hc); (try simp only [hc]); (try simp only [hcl, Int.not_lt, Int.not_le, Nat.not_lt, Nat.not_le] at hc); try omega))
      refine lp_next hI (w.toNat - (i + 1)) (by omega) ⟨i + 1, by omega, rfl, rfl, ?_, ?_, ?_, ?_⟩
      · simp (disch := first | omega | (simp only [List.length_append, List.length_cons, List.length_nil, List.length_take, List.length_drop, List.length_map, List.length_set]; omega)) only [wlk, ↓get_put', Nat.reduceEqDiff, Nat.reduceLT, ↓reduceIte, Int.reduceToNat, Nat.reducePow, Nat.min_eq_left, Nat.reduceAdd, Nat.reduceMul, Int.reduceAdd, Int.reduceSub, Int.reduceNeg, Int.reduceMul, Int.reduceEq, Int.reduceLT, Int.reduceLE, Nat.reduceSub, Int.reduceNatCast, Nat.reduceLeDiff, f0]
      · simp (disch := first | omega | (simp only [List.length_append, List.length_cons, List.length_nil, List.length_take, List.length_drop, List.length_map, List.length_set]; omega)) only [wlk, ↓get_put', Nat.reduceEqDiff, Nat.reduceLT, ↓reduceIte, Int.reduceToNat, Nat.reducePow, Nat.min_eq_left, Nat.reduceAdd, Nat.reduceMul, Int.reduceAdd, Int.reduceSub, Int.reduceNeg, Int.reduceMul, Int.reduceEq, Int.reduceLT, Int.reduceLE, Nat.reduceSub, Int.reduceNatCast, Nat.reduceLeDiff, f5]
      · simp (disch := first | omega | (simp only [List.length_append, List.length_cons, List.length_nil, List.length_take, List.length_drop, List.length_map, List.length_set]; omega)) only [wlk, ↓get_put', Nat.reduceEqDiff, Nat.reduceLT, ↓reduceIte, Int.reduceToNat, Nat.reducePow, Nat.min_eq_left, Nat.reduceAdd, Nat.reduceMul, Int.reduceAdd, Int.reduceSub, Int.reduceNeg, Int.reduceMul, Int.reduceEq, Int.reduceLT, Int.reduceLE, Nat.reduceSub, Int.reduceNatCast, Nat.reduceLeDiff, ep]
      · simp (disch := first | omega | (simp only [List.length_append, List.length_cons, List.length_nil, List.length_take, List.length_drop, List.length_map, List.length_set]; omega)) only [wlk, ↓get_put', Nat.reduceEqDiff, Nat.reduceLT, ↓reduceIte, Int.reduceToNat, Nat.reducePow, Nat.min_eq_left, Nat.reduceAdd, Nat.reduceMul, Int.reduceAdd, Int.reduceSub, Int.reduceNeg, Int.reduceMul, Int.reduceEq, Int.reduceLT, Int.reduceLE, Nat.reduceSub, Int.reduceNatCast, Nat.reduceLeDiff]; try rfl
    · obtain rfl : i = w.toNat := by omega
      repeat' (first
        | with_reducible (first | apply Ok.sq | apply Ok.block | apply Ok.rg | apply Ok.dw hmix | apply Ok.cd | apply Ok.skip | apply Ok.exit | apply Ok.ret)
        | simp (disch := first | omega | (simp only [List.length_append, List.length_cons, List.length_nil, List.length_take, List.length_drop, List.length_map, List.length_set]; omega)) only [wlk, ↓get_put', Nat.reduceEqDiff, Nat.reduceLT, ↓reduceIte, Int.reduceToNat, Nat.reducePow, Nat.min_eq_left, Nat.reduceAdd, Nat.reduceMul, Int.reduceAdd, Int.reduceSub, Int.reduceNeg, Int.reduceMul, Int.reduceEq, Int.reduceLT, Int.reduceLE, Nat.reduceSub, Int.reduceNatCast, Nat.reduceLeDiff, f0, f5, f6, f7]
        | (with_reducible (first | apply cd_split | apply gd_split)) <;> (intro hc; (try simp only [Bool.not_eq_true', Bool.not_eq_false'] at hc); (try simp only [hc]); (try simp only [hcl, Int.not_lt, Int.not_le, Nat.not_lt, Nat.not_le] at hc); try omega))
  have wrong : w.toNat ≤ 8 → w.toNat ≤ r.length → badD (r.take w.toNat) → tri (0, 0, 10) = tri (takeN (w :: r)) := fun h1 h2 hb => by rw [takeN_bad (by omega) (by omega) hb]
  have right : w.toNat ≤ 8 → w.toNat ≤ r.length → ¬ badD (r.take w.toNat) → .tu [.i .i64 ((pk (r.take w.toNat) : Nat) : Int), .i .i64 ((w.toNat : Int) + 1), .i .i64 0] = tri (takeN (w :: r)) := fun h1 h2 hb => by rw [takeN_ok (by omega) (by omega) hb]; rfl
  have hbad := fun h1 h2 => badD_iff (r := r) (k := w.toNat) h1 h2
  repeat' (first
    | with_reducible (first | apply Ok.sq | apply Ok.block | apply Ok.rg | apply Ok.dw hmix | apply Ok.cd | apply Ok.skip | apply Ok.exit | apply Ok.ret)
    | simp (disch := first | omega | (simp only [List.length_append, List.length_cons, List.length_nil, List.length_take, List.length_drop, List.length_map, List.length_set]; omega)) only [wlk, ↓get_put', Nat.reduceEqDiff, Nat.reduceLT, ↓reduceIte, Int.reduceToNat, Nat.reducePow, Nat.min_eq_left, Nat.reduceAdd, Nat.reduceMul, Int.reduceAdd, Int.reduceSub, Int.reduceNeg, Int.reduceMul, Int.reduceEq, Int.reduceLT, Int.reduceLE, Nat.reduceSub, Int.reduceNatCast, Nat.reduceLeDiff, hgd, hgd1]
    | (with_reducible (first | apply cd_split | apply gd_split)) <;> (intro hc; (try simp only [Bool.not_eq_true', Bool.not_eq_false'] at hc); (try simp only [hc]); (try simp only [hcl, Int.not_lt, Int.not_le, Nat.not_lt, Nat.not_le] at hc); try omega))
  all_goals subst hQ
  · exact ⟨by rw [takeN_big (by omega)]; rfl, rfl⟩
  · exact ⟨by rw [takeN_short (by omega) (by omega)]; rfl, rfl⟩
  · exact ⟨wrong (by omega) (by omega) ((hbad (by omega) (by omega)).2 (.inl ⟨by omega, by omega⟩)), rfl⟩
  · exact ⟨wrong (by omega) (by omega) ((hbad (by omega) (by omega)).2 (.inr ⟨by omega, by omega⟩)), rfl⟩
  all_goals
    have nb : ¬ badD (r.take w.toNat) := fun hb => by
      have := (hbad (by omega) (by omega)).1 hb
      omega
    refine (key (by omega) (by omega) nb _ (by simp (disch := first | omega | (simp only [List.length_append, List.length_cons, List.length_nil, List.length_take, List.length_drop, List.length_map, List.length_set]; omega)) only [wlk, ↓get_put', Nat.reduceEqDiff, Nat.reduceLT, ↓reduceIte, Int.reduceToNat, Nat.reducePow, Nat.min_eq_left, Nat.reduceAdd, Nat.reduceMul, Int.reduceAdd, Int.reduceSub, Int.reduceNeg, Int.reduceMul, Int.reduceEq, Int.reduceLT, Int.reduceLE, Nat.reduceSub, Int.reduceNatCast, Nat.reduceLeDiff]) (by simp (disch := first | omega | (simp only [List.length_append, List.length_cons, List.length_nil, List.length_take, List.length_drop, List.length_map, List.length_set]; omega)) only [wlk, ↓get_put', Nat.reduceEqDiff, Nat.reduceLT, ↓reduceIte, Int.reduceToNat, Nat.reducePow, Nat.min_eq_left, Nat.reduceAdd, Nat.reduceMul, Int.reduceAdd, Int.reduceSub, Int.reduceNeg, Int.reduceMul, Int.reduceEq, Int.reduceLT, Int.reduceLE, Nat.reduceSub, Int.reduceNatCast, Nat.reduceLeDiff]) (by simp (disch := first | omega | (simp only [List.length_append, List.length_cons, List.length_nil, List.length_take, List.length_drop, List.length_map, List.length_set]; omega)) only [wlk, ↓get_put', Nat.reduceEqDiff, Nat.reduceLT, ↓reduceIte, Int.reduceToNat, Nat.reducePow, Nat.min_eq_left, Nat.reduceAdd, Nat.reduceMul, Int.reduceAdd, Int.reduceSub, Int.reduceNeg, Int.reduceMul, Int.reduceEq, Int.reduceLT, Int.reduceLE, Nat.reduceSub, Int.reduceNatCast, Nat.reduceLeDiff]) (by simp (disch := first | omega | (simp only [List.length_append, List.length_cons, List.length_nil, List.length_take, List.length_drop, List.length_map, List.length_set]; omega)) only [wlk, ↓get_put', Nat.reduceEqDiff, Nat.reduceLT, ↓reduceIte, Int.reduceToNat, Nat.reducePow, Nat.min_eq_left, Nat.reduceAdd, Nat.reduceMul, Int.reduceAdd, Int.reduceSub, Int.reduceNeg, Int.reduceMul, Int.reduceEq, Int.reduceLT, Int.reduceLE, Nat.reduceSub, Int.reduceNatCast, Nat.reduceLeDiff])).mono ?_
    rintro x t' h' ⟨rfl, rfl, g5, g6⟩
    repeat' (first
      | with_reducible (first | apply Ok.sq | apply Ok.block | apply Ok.rg | apply Ok.dw hmix | apply Ok.cd | apply Ok.skip | apply Ok.exit | apply Ok.ret)
      | simp (disch := first | omega | (simp only [List.length_append, List.length_cons, List.length_nil, List.length_take, List.length_drop, List.length_map, List.length_set]; omega)) only [wlk, ↓get_put', Nat.reduceEqDiff, Nat.reduceLT, ↓reduceIte, Int.reduceToNat, Nat.reducePow, Nat.min_eq_left, Nat.reduceAdd, Nat.reduceMul, Int.reduceAdd, Int.reduceSub, Int.reduceNeg, Int.reduceMul, Int.reduceEq, Int.reduceLT, Int.reduceLE, Nat.reduceSub, Int.reduceNatCast, Nat.reduceLeDiff, g5, g6]
      | (with_reducible (first | apply cd_split | apply gd_split)) <;> (intro hc; (try simp only [Bool.not_eq_true', Bool.not_eq_false'] at hc); (try simp only [hc]); (try simp only [hcl, Int.not_lt, Int.not_le, Nat.not_lt, Nat.not_le] at hc); try omega))
    exact ⟨right (by omega) (by omega) nb, by trivial⟩
end Go.Proofs.Ytkfliakkopidmaa
