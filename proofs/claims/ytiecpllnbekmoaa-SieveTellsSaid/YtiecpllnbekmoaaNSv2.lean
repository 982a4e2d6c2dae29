/- The bodies of laws of sieves return true: SieveTells, SieveBits. No condition. -/
import Derived.Test.YtiecpllnbekmoaaNSvP
import Derived.Test.YtiecpllnbekmoaaJrSv2
import Derived.Test.YtiecpllnbekmoaaKnravelinlaw7
import Derived.Test.YtiecpllnbekmoaaEvP
import Derived.Test.YtiecpllnbekmoaaWe
set_option maxRecDepth 100000
set_option maxHeartbeats 8000000
set_option linter.all false
namespace Go.Proofs.Ytiecpllnbekmoaa
open Go Go.Ev

theorem known7 {h : H} : FnOk Try.prog 37 [] h fun y h' => y = .b true ∧ h' = h := FnOk.of_pure ravelinlaw7.known_pure h
theorem sieveTells_ok {h : H} {v : V} {L : List (List UInt8)} {s key : List UInt8} (hL : Sl8 h v L) (hl : L.length ≤ 9223372036854775807) (hs : ∀ k ∈ L, k.length ≤ 9223372036854775807) (hs1 : s.length ≤ 9223372036854775807) (hk1 : key.length ≤ 9223372036854775807) (hf : B.val h.floor ≤ B.val h.next) :
    FnOk Try.prog 8 [v, sv s, sv key] h fun y h' => y = .b true := by
  have hL : Tl h v L := hL
  refine fn_go c8 (by intro hb; cases hb) (by simp) (by simp) fun Q hQ => ?_
  simp only [slotsF, Nat.reduceAdd]
  repeat' (first
    | refine St.h ?_
    | simp (disch := first | omega | (simp only [lnv]; omega)) only [wlk, ↓get_put', Nat.reduceEqDiff, Nat.reduceLT, ↓reduceIte, Int.reduceToNat, Nat.reducePow, Nat.min_eq_left, Nat.reduceAdd, Nat.reduceMul, Int.reduceAdd, Int.reduceSub, Int.reduceNeg, Int.reduceMul, Int.reduceEq, Int.reduceLT, Int.reduceLE, Nat.reduceSub, Int.reduceNatCast, Nat.reduceLeDiff]
    | (with_reducible (first | apply cd_split | apply gd_split)) <;> (intro hc; (try simp only [hcn] at hc); (try simp only [hc]); (try simp only [hcl] at hc); try omega))
  refine CL.pure known7 ?_
  repeat' (first
    | refine St.h ?_
    | simp (disch := first | omega | (simp only [lnv]; omega)) only [wlk, ↓get_put', Nat.reduceEqDiff, Nat.reduceLT, ↓reduceIte, Int.reduceToNat, Nat.reducePow, Nat.min_eq_left, Nat.reduceAdd, Nat.reduceMul, Int.reduceAdd, Int.reduceSub, Int.reduceNeg, Int.reduceMul, Int.reduceEq, Int.reduceLT, Int.reduceLE, Nat.reduceSub, Int.reduceNatCast, Nat.reduceLeDiff]
    | (with_reducible (first | apply cd_split | apply gd_split)) <;> (intro hc; (try simp only [hcn] at hc); (try simp only [hc]); (try simp only [hcl] at hc); try omega))
  refine CL.pure (few7_ok hL hl hs) ?_
  cases hfw : (L.all (fun k => decide (k.length ≤ 40)) && decide (L.length ≤ 60)) with
  | false =>
    repeat' (first
      | refine St.h ?_
      | simp (disch := first | omega | (simp only [lnv]; omega)) only [wlk, ↓get_put', Nat.reduceEqDiff, Nat.reduceLT, ↓reduceIte, Int.reduceToNat, Nat.reducePow, Nat.min_eq_left, Nat.reduceAdd, Nat.reduceMul, Int.reduceAdd, Int.reduceSub, Int.reduceNeg, Int.reduceMul, Int.reduceEq, Int.reduceLT, Int.reduceLE, Nat.reduceSub, Int.reduceNatCast, Nat.reduceLeDiff]
      | (with_reducible (first | apply cd_split | apply gd_split)) <;> (intro hc; (try simp only [hcn] at hc); (try simp only [hc]); (try simp only [hcl] at hc); try omega))
    subst hQ; rfl
  | true =>
  rw [Bool.and_eq_true] at hfw
  have hl60 : L.length ≤ 60 := of_decide_eq_true hfw.2
  have hk40 : ∀ k ∈ L, k.length ≤ 1000000 := fun k hk => by
    have := of_decide_eq_true ((List.all_eq_true.1 hfw.1) k hk); omega
  repeat' (first
    | refine St.h ?_
    | simp (disch := first | omega | (simp only [lnv]; omega)) only [wlk, ↓get_put', Nat.reduceEqDiff, Nat.reduceLT, ↓reduceIte, Int.reduceToNat, Nat.reducePow, Nat.min_eq_left, Nat.reduceAdd, Nat.reduceMul, Int.reduceAdd, Int.reduceSub, Int.reduceNeg, Int.reduceMul, Int.reduceEq, Int.reduceLT, Int.reduceLE, Nat.reduceSub, Int.reduceNatCast, Nat.reduceLeDiff]
    | (with_reducible (first | apply cd_split | apply gd_split)) <;> (intro hc; (try simp only [hcn] at hc); (try simp only [hc]); (try simp only [hcl] at hc); try omega))
  · subst hQ; rfl
  · subst hQ; rfl
  refine CL.pure (hash_ok (by omega)) ?_
  repeat' (first
    | refine St.h ?_
    | simp (disch := first | omega | (simp only [lnv]; omega)) only [wlk, ↓get_put', Nat.reduceEqDiff, Nat.reduceLT, ↓reduceIte, Int.reduceToNat, Nat.reducePow, Nat.min_eq_left, Nat.reduceAdd, Nat.reduceMul, Int.reduceAdd, Int.reduceSub, Int.reduceNeg, Int.reduceMul, Int.reduceEq, Int.reduceLT, Int.reduceLE, Nat.reduceSub, Int.reduceNatCast, Nat.reduceLeDiff]
    | (with_reducible (first | apply cd_split | apply gd_split)) <;> (intro hc; (try simp only [hcn] at hc); (try simp only [hc]); (try simp only [hcl] at hc); try omega))
  refine CL.pure (rhash_ok (by omega)) ?_
  repeat' (first
    | refine St.h ?_
    | simp (disch := first | omega | (simp only [lnv]; omega)) only [wlk, ↓get_put', Nat.reduceEqDiff, Nat.reduceLT, ↓reduceIte, Int.reduceToNat, Nat.reducePow, Nat.min_eq_left, Nat.reduceAdd, Nat.reduceMul, Int.reduceAdd, Int.reduceSub, Int.reduceNeg, Int.reduceMul, Int.reduceEq, Int.reduceLT, Int.reduceLE, Nat.reduceSub, Int.reduceNatCast, Nat.reduceLeDiff]
    | (with_reducible (first | apply cd_split | apply gd_split)) <;> (intro hc; (try simp only [hcn] at hc); (try simp only [hc]); (try simp only [hcl] at hc); try omega))
  refine CL.stay (make_ok hL (by omega) hk40 hf) fun h1 s1 => ?_
  have hf1 := s1.fl hf
  have hL1 := hL.grow s1
  have hml := sieveB_len L
  repeat' (first
    | refine St.h ?_
    | simp (disch := first | omega | (simp only [lnv]; omega)) only [wlk, ↓get_put', Nat.reduceEqDiff, Nat.reduceLT, ↓reduceIte, Int.reduceToNat, Nat.reducePow, Nat.min_eq_left, Nat.reduceAdd, Nat.reduceMul, Int.reduceAdd, Int.reduceSub, Int.reduceNeg, Int.reduceMul, Int.reduceEq, Int.reduceLT, Int.reduceLE, Nat.reduceSub, Int.reduceNatCast, Nat.reduceLeDiff]
    | (with_reducible (first | apply cd_split | apply gd_split)) <;> (intro hc; (try simp only [hcn] at hc); (try simp only [hc]); (try simp only [hcl] at hc); try omega))
  refine CL.stay (rsieve_ok hL1 (by omega) hk40 hf1) fun h2 s2 => ?_
  have hf2 := s2.fl hf1
  repeat' (first
    | refine St.h ?_
    | simp (disch := first | omega | (simp only [lnv]; omega)) only [wlk, ↓get_put', Nat.reduceEqDiff, Nat.reduceLT, ↓reduceIte, Int.reduceToNat, Nat.reducePow, Nat.min_eq_left, Nat.reduceAdd, Nat.reduceMul, Int.reduceAdd, Int.reduceSub, Int.reduceNeg, Int.reduceMul, Int.reduceEq, Int.reduceLT, Int.reduceLE, Nat.reduceSub, Int.reduceNatCast, Nat.reduceLeDiff]
    | (with_reducible (first | apply cd_split | apply gd_split)) <;> (intro hc; (try simp only [hcn] at hc); (try simp only [hc]); (try simp only [hcl] at hc); try omega))
  refine CL.stay (may_ok (by omega) (by omega) hf2) fun h3 s3 => ?_
  have hf3 := s3.fl hf2
  repeat' (first
    | refine St.h ?_
    | simp (disch := first | omega | (simp only [lnv]; omega)) only [wlk, ↓get_put', Nat.reduceEqDiff, Nat.reduceLT, ↓reduceIte, Int.reduceToNat, Nat.reducePow, Nat.min_eq_left, Nat.reduceAdd, Nat.reduceMul, Int.reduceAdd, Int.reduceSub, Int.reduceNeg, Int.reduceMul, Int.reduceEq, Int.reduceLT, Int.reduceLE, Nat.reduceSub, Int.reduceNatCast, Nat.reduceLeDiff]
    | (with_reducible (first | apply cd_split | apply gd_split)) <;> (intro hc; (try simp only [hcn] at hc); (try simp only [hc]); (try simp only [hcl] at hc); try omega))
  refine CL.pure (rmay_ok (by omega) (by omega)) ?_
  repeat' (first
    | refine St.h ?_
    | simp (disch := first | omega | (simp only [lnv]; omega)) only [wlk, ↓get_put', Nat.reduceEqDiff, Nat.reduceLT, ↓reduceIte, Int.reduceToNat, Nat.reducePow, Nat.min_eq_left, Nat.reduceAdd, Nat.reduceMul, Int.reduceAdd, Int.reduceSub, Int.reduceNeg, Int.reduceMul, Int.reduceEq, Int.reduceLT, Int.reduceLE, Nat.reduceSub, Int.reduceNatCast, Nat.reduceLeDiff]
    | (with_reducible (first | apply cd_split | apply gd_split)) <;> (intro hc; (try simp only [hcn] at hc); (try simp only [hc]); (try simp only [hcl] at hc); try omega))
  refine CL.stay (may_ok (by omega) (by omega) hf3) fun h4 s4 => ?_
  repeat' (first
    | refine St.h ?_
    | simp (disch := first | omega | (simp only [lnv]; omega)) only [wlk, ↓get_put', Nat.reduceEqDiff, Nat.reduceLT, ↓reduceIte, Int.reduceToNat, Nat.reducePow, Nat.min_eq_left, Nat.reduceAdd, Nat.reduceMul, Int.reduceAdd, Int.reduceSub, Int.reduceNeg, Int.reduceMul, Int.reduceEq, Int.reduceLT, Int.reduceLE, Nat.reduceSub, Int.reduceNatCast, Nat.reduceLeDiff]
    | (with_reducible (first | apply cd_split | apply gd_split)) <;> (intro hc; (try simp only [hcn] at hc); (try simp only [hc]); (try simp only [hcl] at hc); try omega))
  refine CL.pure (rmay_ok (by omega) (by omega)) ?_
  repeat' (first
    | refine St.h ?_
    | simp (disch := first | omega | (simp only [lnv]; omega)) only [wlk, ↓get_put', Nat.reduceEqDiff, Nat.reduceLT, ↓reduceIte, Int.reduceToNat, Nat.reducePow, Nat.min_eq_left, Nat.reduceAdd, Nat.reduceMul, Int.reduceAdd, Int.reduceSub, Int.reduceNeg, Int.reduceMul, Int.reduceEq, Int.reduceLT, Int.reduceLE, Nat.reduceSub, Int.reduceNatCast, Nat.reduceLeDiff]
    | (with_reducible (first | apply cd_split | apply gd_split)) <;> (intro hc; (try simp only [hcn] at hc); (try simp only [hc]); (try simp only [hcl] at hc); try omega))
  subst hQ; rfl
theorem own1_stay {p : B → Prop} {h h' : H} {id : B} {xs : List V} (o : Own1 h id xs) (s : Stay p h h') (hp : ¬ p id) : Own1 h' id xs := by
  obtain ⟨blk, h1, h2, h3, h4, h5, h6, h7⟩ := o
  exact ⟨blk, (s.get id h6 hp).trans h1, h2, h3, h4, by rw [s.floor]; exact h5, Nat.lt_of_lt_of_le h6 s.next, h7⟩
theorem sieveBits_ok {h : H} {key : List UInt8} {at0 : UInt8} (hk1 : key.length ≤ 9223372036854775807) (hf : B.val h.floor ≤ B.val h.next) :
    FnOk Try.prog 11 [sv key, .i .u8 (at0.toNat : Int)] h fun y h' => y = .b true := by
  refine fn_go c11 (by intro hb; cases hb) (by simp) (by simp) fun Q hQ => ?_
  simp only [slotsF, Nat.reduceAdd]
  have hat := at0.toNat_lt
  repeat' (first
    | refine St.h ?_
    | simp (disch := first | omega | (simp only [lnv]; omega)) only [wlk, ↓get_put', Nat.reduceEqDiff, Nat.reduceLT, ↓reduceIte, Int.reduceToNat, Nat.reducePow, Nat.min_eq_left, Nat.reduceAdd, Nat.reduceMul, Int.reduceAdd, Int.reduceSub, Int.reduceNeg, Int.reduceMul, Int.reduceEq, Int.reduceLT, Int.reduceLE, Nat.reduceSub, Int.reduceNatCast, Nat.reduceLeDiff]
    | (with_reducible (first | apply cd_split | apply gd_split)) <;> (intro hc; (try simp only [hcn] at hc); (try simp only [hc]); (try simp only [hcl] at hc); try omega))
  refine CL.pure known7 ?_
  repeat' (first
    | refine St.h ?_
    | simp (disch := first | omega | (simp only [lnv]; omega)) only [wlk, ↓get_put', Nat.reduceEqDiff, Nat.reduceLT, ↓reduceIte, Int.reduceToNat, Nat.reducePow, Nat.min_eq_left, Nat.reduceAdd, Nat.reduceMul, Int.reduceAdd, Int.reduceSub, Int.reduceNeg, Int.reduceMul, Int.reduceEq, Int.reduceLT, Int.reduceLE, Nat.reduceSub, Int.reduceNatCast, Nat.reduceLeDiff]
    | (with_reducible (first | apply cd_split | apply gd_split)) <;> (intro hc; (try simp only [hcn] at hc); (try simp only [hc]); (try simp only [hcl] at hc); try omega))
  · subst hQ; rfl
  refine AL.own (by simp) hf fun h1 s1 n1 o1 => ?_
  have hf1 := s1.fl hf
  have hL1 : Tl h1 (.l h.next 0 0 1 1 (some 1)) [key] := o1.lst (some 1)
  repeat' (first
    | refine St.h ?_
    | simp (disch := first | omega | (simp only [lnv]; omega)) only [wlk, ↓get_put', Nat.reduceEqDiff, Nat.reduceLT, ↓reduceIte, Int.reduceToNat, Nat.reducePow, Nat.min_eq_left, Nat.reduceAdd, Nat.reduceMul, Int.reduceAdd, Int.reduceSub, Int.reduceNeg, Int.reduceMul, Int.reduceEq, Int.reduceLT, Int.reduceLE, Nat.reduceSub, Int.reduceNatCast, Nat.reduceLeDiff]
    | (with_reducible (first | apply cd_split | apply gd_split)) <;> (intro hc; (try simp only [hcn] at hc); (try simp only [hc]); (try simp only [hcl] at hc); try omega))
  refine CL.stay (make_ok hL1 (by simp) (by intro k hk; rw [List.mem_singleton.1 hk]; omega) hf1) fun h2 s2 => ?_
  have hf2 := s2.fl hf1
  have hml : (sieveB [key]).length = 8 := by rw [sieveB_len]; rfl
  have hmc := fun k hk => may_clr (key := key) (k := k) hk
  have hclr : ∀ k, clrBit (sieveB [key]) k = (sieveB [key]).set (k / 8) (UInt8.ofNat (((sieveB [key]).getD (k / 8) 0).toNat ^^^ (((sieveB [key]).getD (k / 8) 0).toNat &&& 2 ^ (k % 8)))) := fun k => rfl
  generalize sieveB [key] = m at *
  repeat' (first
    | refine St.h ?_
    | simp (disch := first | omega | (simp only [lnv]; omega)) only [wlk, ↓get_put', Nat.reduceEqDiff, Nat.reduceLT, ↓reduceIte, Int.reduceToNat, Nat.reducePow, Nat.min_eq_left, Nat.reduceAdd, Nat.reduceMul, Int.reduceAdd, Int.reduceSub, Int.reduceNeg, Int.reduceMul, Int.reduceEq, Int.reduceLT, Int.reduceLE, Nat.reduceSub, Int.reduceNatCast, Nat.reduceLeDiff]
    | (with_reducible (first | apply cd_split | apply gd_split)) <;> (intro hc; (try simp only [hcn] at hc); (try simp only [hc]); (try simp only [hcl] at hc); try omega))
  refine SB.own hf2 (by omega) fun h3 s3 n3 o3 => ?_
  have hf3 := s3.fl hf2
  rw [hml]
  have hk : (at0.toNat : Int) % 64 = ((at0.toNat % 64 : Nat) : Int) := by omega
  have hkl : at0.toNat % 64 < 64 := by omega
  have hrd := bit_rd m (at0.toNat % 64)
  generalize at0.toNat % 64 = k at *
  have hmc := hmc k hkl
  have hclr := hclr k
  have hk8 : ((k : Int) / 8).toNat = k / 8 := by omega
  have hba := bv_at (s := m) (j := k / 8) (by omega)
  have hbt := (m.getD (k / 8) 0).toNat_lt
  have hpb := pow_byte (k := k)
  have h2k : 2 ^ (k % 8) < 256 := Nat.pow_lt_pow_right (a := 2) (n := 8) (by omega) (by omega)
  have hclt := clr_lt (x := (m.getD (k / 8) 0).toNat) (i := k % 8) (by omega)
  have hw2 : ((2 ^ ((k : Int) % 8).toNat : Nat) : Int) = ((2 ^ (k % 8) : Nat) : Int) := by rw [show ((k : Int) % 8).toNat = k % 8 by omega]
  have hdv : ((m.getD (k / 8) 0).toNat : Int) / ((2 ^ (k % 8) : Nat) : Int) = (((m.getD (k / 8) 0).toNat / 2 ^ (k % 8) : Nat) : Int) := by simp
  have hdl : (m.getD (k / 8) 0).toNat / 2 ^ (k % 8) ≤ 255 := Nat.le_trans (Nat.div_le_self _ _) (by omega)
  generalize (m.getD (k / 8) 0).toNat / 2 ^ (k % 8) = w at *
  rw [hw2] at hpb
  generalize 2 ^ (k % 8) = z at *
  repeat' (first
    | refine St.h ?_
    | simp (disch := first | omega | (simp only [lnv]; omega)) only [wlk, ↓get_put', Nat.reduceEqDiff, Nat.reduceLT, ↓reduceIte, Int.reduceToNat, Nat.reducePow, Nat.min_eq_left, Nat.reduceAdd, Nat.reduceMul, Int.reduceAdd, Int.reduceSub, Int.reduceNeg, Int.reduceMul, Int.reduceEq, Int.reduceLT, Int.reduceLE, Nat.reduceSub, Int.reduceNatCast, Nat.reduceLeDiff, hk, hk8, o3.row.l1, hba, hpb, hw2, hdv, wrap_u64s, List.length_map, Int.toNat_natCast]
    | (with_reducible (first | apply cd_split | apply gd_split)) <;> (intro hc; (try simp only [hcn] at hc); (try simp only [hc]); (try simp only [hcl] at hc); try omega))
  refine ST.own1 (y := bv (UInt8.ofNat ((m.getD (k / 8) 0).toNat ^^^ ((m.getD (k / 8) 0).toNat &&& z)))) o3 ?_ rfl (by omega) (by omega) fun h4 o4 s4 => ?_
  · rw [← bv_ofNat, Nat.mod_eq_of_lt hclt]; rfl
  have s24 : Stay nowhere h2 h4 := s3.past' s4 fun i hi => by rw [hi]; exact Nat.le_refl _
  have hf4 := s24.fl hf2
  rw [← List.map_set, ← hclr] at o4
  repeat' (first
    | refine St.h ?_
    | simp (disch := first | omega | (simp only [lnv]; omega)) only [wlk, ↓get_put', Nat.reduceEqDiff, Nat.reduceLT, ↓reduceIte, Int.reduceToNat, Nat.reducePow, Nat.min_eq_left, Nat.reduceAdd, Nat.reduceMul, Int.reduceAdd, Int.reduceSub, Int.reduceNeg, Int.reduceMul, Int.reduceEq, Int.reduceLT, Int.reduceLE, Nat.reduceSub, Int.reduceNatCast, Nat.reduceLeDiff, hk, hk8]
    | (with_reducible (first | apply cd_split | apply gd_split)) <;> (intro hc; (try simp only [hcn] at hc); (try simp only [hc]); (try simp only [hcl] at hc); try omega))
  refine AL.own (by rw [repL_bv]; simp) hf4 fun h5 s5 n5 o5 => ?_
  rw [repL_bv] at o5
  have hf5 := s5.fl hf4
  have lt4 : B.val h2.next < B.val h4.next := by obtain ⟨_, _, _, _, _, _, h6, _⟩ := o4; exact h6
  have o45 : Own1 h5 h2.next ((clrBit m k).map bv) := own1_stay o4 s5 (fun h => h)
  repeat' (first
    | refine St.h ?_
    | simp (disch := first | omega | (simp only [lnv]; omega)) only [wlk, ↓get_put', Nat.reduceEqDiff, Nat.reduceLT, ↓reduceIte, Int.reduceToNat, Nat.reducePow, Nat.min_eq_left, Nat.reduceAdd, Nat.reduceMul, Int.reduceAdd, Int.reduceSub, Int.reduceNeg, Int.reduceMul, Int.reduceEq, Int.reduceLT, Int.reduceLE, Nat.reduceSub, Int.reduceNatCast, Nat.reduceLeDiff, hk, hk8]
    | (with_reducible (first | apply cd_split | apply gd_split)) <;> (intro hc; (try simp only [hcn] at hc); (try simp only [hc]); (try simp only [hcl] at hc); try omega))
  refine Ok.lp (fun mm t g => ∃ i : Nat, i ≤ 8 ∧ mm = 8 - i ∧ get 0 t = sv key ∧ get 5 t = .l h2.next 0 0 8 8 none ∧ get 7 t = .b (decide (((w &&& 1 : Nat) : Int) = 1)) ∧ get 8 t = .l h4.next 0 0 8 8 (some 8) ∧ get 9 t = .i .i64 (i : Int) ∧ Own g h4.next ((List.replicate i (255 : UInt8) ++ List.replicate (8 - i) 0).map bv) ∧ Stay nowhere h4 g) 8 ?_ ?_
  · simp (disch := first | omega | (simp only [lnv]; omega)) only [wlk, ↓get_put', Nat.reduceEqDiff, Nat.reduceLT, ↓reduceIte, Int.reduceToNat, Nat.reducePow, Nat.min_eq_left, Nat.reduceAdd, Nat.reduceMul, Int.reduceAdd, Int.reduceSub, Int.reduceNeg, Int.reduceMul, Int.reduceEq, Int.reduceLT, Int.reduceLE, Nat.reduceSub, Int.reduceNatCast, Nat.reduceLeDiff]
    exact ⟨0, by omega, by omega, trivial, trivial, trivial, trivial, rfl, o5, s5⟩
  rintro I hI mm t g ⟨i, hi, rfl, f0, f5, f7, f8, f9, og, st⟩
  have hli : (List.replicate i (255 : UInt8) ++ List.replicate (8 - i) 0).length = 8 := by simp; omega
  have hfg := st.fl hf4
  repeat' (first
    | refine St.h ?_
    | simp (disch := first | omega | (simp only [lnv]; omega)) only [wlk, ↓get_put', Nat.reduceEqDiff, Nat.reduceLT, ↓reduceIte, Int.reduceToNat, Nat.reducePow, Nat.min_eq_left, Nat.reduceAdd, Nat.reduceMul, Int.reduceAdd, Int.reduceSub, Int.reduceNeg, Int.reduceMul, Int.reduceEq, Int.reduceLT, Int.reduceLE, Nat.reduceSub, Int.reduceNatCast, Nat.reduceLeDiff, f0, f5, f7, f8, f9, Int.toNat_natCast]
    | (with_reducible (first | apply cd_split | apply gd_split)) <;> (intro hc; (try simp only [hcn] at hc); (try simp only [hc]); (try simp only [hcl] at hc); try omega))
  · refine ST.own (y := bv 255) og rfl rfl (by omega) (by omega) fun g1 og s6 => ?_
    have e : (List.replicate i (255 : UInt8) ++ List.replicate (8 - i) 0).set i 255 = List.replicate (i + 1) 255 ++ List.replicate (8 - (i + 1)) 0 := by
      rw [show 8 - i = 8 - (i + 1) + 1 by omega, List.replicate_succ, List.replicate_succ', List.append_assoc]
      rw [List.set_append_right _ _ (by simp)]; simp
    rw [← List.map_set, e] at og
    repeat' (first
      | refine St.h ?_
      | simp (disch := first | omega | (simp only [lnv]; omega)) only [wlk, ↓get_put', Nat.reduceEqDiff, Nat.reduceLT, ↓reduceIte, Int.reduceToNat, Nat.reducePow, Nat.min_eq_left, Nat.reduceAdd, Nat.reduceMul, Int.reduceAdd, Int.reduceSub, Int.reduceNeg, Int.reduceMul, Int.reduceEq, Int.reduceLT, Int.reduceLE, Nat.reduceSub, Int.reduceNatCast, Nat.reduceLeDiff, f0, f5, f7, f8, f9]
      | (with_reducible (first | apply cd_split | apply gd_split)) <;> (intro hc; (try simp only [hcn] at hc); (try simp only [hc]); (try simp only [hcl] at hc); try omega))
    refine lp_next hI (8 - (i + 1)) (by omega) ⟨i + 1, by omega, rfl, ?_, ?_, ?_, ?_, ?_, og, st.past' s6 fun i hi => by rw [hi]; exact Nat.le_refl _⟩
    all_goals first | (simp (disch := first | omega | (simp only [lnv]; omega)) only [wlk, ↓get_put', Nat.reduceEqDiff, Nat.reduceLT, ↓reduceIte, Int.reduceToNat, Nat.reducePow, Nat.min_eq_left, Nat.reduceAdd, Nat.reduceMul, Int.reduceAdd, Int.reduceSub, Int.reduceNeg, Int.reduceMul, Int.reduceEq, Int.reduceLT, Int.reduceLE, Nat.reduceSub, Int.reduceNatCast, Nat.reduceLeDiff, f0, f5, f7, f8, f9]; done) | (simp (disch := first | omega | (simp only [lnv]; omega)) only [wlk, ↓get_put', Nat.reduceEqDiff, Nat.reduceLT, ↓reduceIte, Int.reduceToNat, Nat.reducePow, Nat.min_eq_left, Nat.reduceAdd, Nat.reduceMul, Int.reduceAdd, Int.reduceSub, Int.reduceNeg, Int.reduceMul, Int.reduceEq, Int.reduceLT, Int.reduceLE, Nat.reduceSub, Int.reduceNatCast, Nat.reduceLeDiff, f9]; rfl)
  · obtain rfl : i = 8 := by omega
    have o6 := own1_stay o4 st (fun h => h)
    have hL6 := o6.lst none
    rw [List.length_map, clr_len, hml] at hL6
    have hne : clrBit m k ≠ [] := by intro e; have := clr_len m k; rw [e, hml] at this; simp at this
    have og' : Own g h4.next ((List.replicate 8 (255 : UInt8)).map bv) := by simpa using og
    have hL7 := og'.lst (some 8)
    rw [List.length_map, List.length_replicate] at hL7
    have hm8 : (clrBit m k).length = 8 := by rw [clr_len, hml]
    repeat' (first
      | refine St.h ?_
      | simp (disch := first | omega | (simp only [lnv]; omega)) only [wlk, ↓get_put', Nat.reduceEqDiff, Nat.reduceLT, ↓reduceIte, Int.reduceToNat, Nat.reducePow, Nat.min_eq_left, Nat.reduceAdd, Nat.reduceMul, Int.reduceAdd, Int.reduceSub, Int.reduceNeg, Int.reduceMul, Int.reduceEq, Int.reduceLT, Int.reduceLE, Nat.reduceSub, Int.reduceNatCast, Nat.reduceLeDiff, f0, f5, f7, f8, f9, hL6.bs hne, hL7.bs (by simp)]
      | (with_reducible (first | apply cd_split | apply gd_split)) <;> (intro hc; (try simp only [hcn] at hc); (try simp only [hc]); (try simp only [hcl] at hc); try omega))
    refine CL.stay (may_ok (by omega) (by omega) hfg) fun e1 r1 => ?_
    have hL7 := hL7.grow r1
    have hfe := r1.fl hfg
    rw [hmc, hrd]
    have hw1 : w &&& 1 = 0 ∨ w &&& 1 = 1 := by rw [Nat.and_one_is_mod]; omega
    have hbb : ((!decide (w &&& 1 ≠ 0)) == (!decide (((w &&& 1 : Nat) : Int) = 1))) = true := by
      rcases hw1 with e | e <;> rw [e] <;> rfl
    repeat' (first
      | refine St.h ?_
      | simp (disch := first | omega | (simp only [lnv]; omega)) only [wlk, ↓get_put', Nat.reduceEqDiff, Nat.reduceLT, ↓reduceIte, Int.reduceToNat, Nat.reducePow, Nat.min_eq_left, Nat.reduceAdd, Nat.reduceMul, Int.reduceAdd, Int.reduceSub, Int.reduceNeg, Int.reduceMul, Int.reduceEq, Int.reduceLT, Int.reduceLE, Nat.reduceSub, Int.reduceNatCast, Nat.reduceLeDiff, f0, f5, f7, f8, f9, hbb, hL7.bs (by simp)]
      | (with_reducible (first | apply cd_split | apply gd_split)) <;> (intro hc; (try simp only [hcn] at hc); (try simp only [hc]); (try simp only [hcl] at hc); try omega))
    refine CL.stay (may_ok (by simp) (by omega) hfe) fun e2 r2 => ?_
    have hfe2 := r2.fl hfe
    rw [may_all]
    repeat' (first
      | refine St.h ?_
      | simp (disch := first | omega | (simp only [lnv]; omega)) only [wlk, ↓get_put', Nat.reduceEqDiff, Nat.reduceLT, ↓reduceIte, Int.reduceToNat, Nat.reducePow, Nat.min_eq_left, Nat.reduceAdd, Nat.reduceMul, Int.reduceAdd, Int.reduceSub, Int.reduceNeg, Int.reduceMul, Int.reduceEq, Int.reduceLT, Int.reduceLE, Nat.reduceSub, Int.reduceNatCast, Nat.reduceLeDiff, f0, f5, f7, f8, f9, hbb]
      | (with_reducible (first | apply cd_split | apply gd_split)) <;> (intro hc; (try simp only [hcn] at hc); (try simp only [hc]); (try simp only [hcl] at hc); try omega))
    refine AL.own (by rw [repL_bv]; simp) hfe2 fun g2 u2 _ p2 => ?_
    rw [repL_bv] at p2
    have hL8 := p2.lst (some 8)
    rw [List.length_map, List.length_replicate] at hL8
    repeat' (first
      | refine St.h ?_
      | simp (disch := first | omega | (simp only [lnv]; omega)) only [wlk, ↓get_put', Nat.reduceEqDiff, Nat.reduceLT, ↓reduceIte, Int.reduceToNat, Nat.reducePow, Nat.min_eq_left, Nat.reduceAdd, Nat.reduceMul, Int.reduceAdd, Int.reduceSub, Int.reduceNeg, Int.reduceMul, Int.reduceEq, Int.reduceLT, Int.reduceLE, Nat.reduceSub, Int.reduceNatCast, Nat.reduceLeDiff, f0, hL8.bs (by simp)]
      | (with_reducible (first | apply cd_split | apply gd_split)) <;> (intro hc; (try simp only [hcn] at hc); (try simp only [hc]); (try simp only [hcl] at hc); try omega))
    refine CL.stay (may_ok (by simp) (by omega) (u2.fl hfe2)) fun e3 r3 => ?_
    rw [may_none]
    repeat' (first
      | refine St.h ?_
      | simp (disch := first | omega | (simp only [lnv]; omega)) only [wlk, ↓get_put', Nat.reduceEqDiff, Nat.reduceLT, ↓reduceIte, Int.reduceToNat, Nat.reducePow, Nat.min_eq_left, Nat.reduceAdd, Nat.reduceMul, Int.reduceAdd, Int.reduceSub, Int.reduceNeg, Int.reduceMul, Int.reduceEq, Int.reduceLT, Int.reduceLE, Nat.reduceSub, Int.reduceNatCast, Nat.reduceLeDiff]
      | (with_reducible (first | apply cd_split | apply gd_split)) <;> (intro hc; (try simp only [hcn] at hc); (try simp only [hc]); (try simp only [hcl] at hc); try omega))
    subst hQ; rfl
end Go.Proofs.Ytiecpllnbekmoaa
