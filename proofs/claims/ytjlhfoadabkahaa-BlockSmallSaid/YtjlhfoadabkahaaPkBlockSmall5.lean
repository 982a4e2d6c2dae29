/- Texts of ours, without what this claim does not use: BkS NBk5 BlockSmall. No condition. -/
import Derived.Test.YtjlhfoadabkahaaPkBlockSmall4
import Derived.Test.YtjlhfoadabkahaaRows
import Derived.WalkKit
import Derived.ProofKit
import Derived.OpenShut
import Derived.ChangeMaps5
set_option linter.all false
namespace Go.Proofs.Ytjlhfoadabkahaa
open Go Go.Ev
def hB (h : Nat) : List UInt8 := List.replicate h 104
def ltr (i : Nat) : UInt8 := UInt8.ofNat (97 + i)
def kA (h i : Nat) : Ent := ⟨hB h ++ [ltr i], 1, false, [118]⟩
def kB (h i : Nat) : Ent := ⟨ltr i :: hB h, 1, false, [118]⟩
/-- from i on, n of them -/
def lA (h : Nat) : Nat → Nat → List Ent
  | _, 0 => []
  | i, n + 1 => kA h i :: lA h (i + 1) n
def lB (h : Nat) : Nat → Nat → List Ent
  | _, 0 => []
  | i, n + 1 => kB h i :: lB h (i + 1) n
theorem lA_len (h : Nat) : ∀ (n i : Nat), (lA h i n).length = n
  | 0, _ => rfl
  | n + 1, i => by rw [lA, List.length_cons, lA_len h n]
theorem lB_len (h : Nat) : ∀ (n i : Nat), (lB h i n).length = n
  | 0, _ => rfl
  | n + 1, i => by rw [lB, List.length_cons, lB_len h n]
theorem lA_snoc (h : Nat) : ∀ (n i : Nat), lA h i (n + 1) = lA h i n ++ [kA h (i + n)]
  | 0, i => rfl
  | n + 1, i => by
    have e : lA h i (n + 1 + 1) = kA h i :: lA h (i + 1) (n + 1) := rfl
    rw [e, lA_snoc h n, show i + 1 + n = i + (n + 1) by omega]; rfl
theorem lB_snoc (h : Nat) : ∀ (n i : Nat), lB h i (n + 1) = lB h i n ++ [kB h (i + n)]
  | 0, i => rfl
  | n + 1, i => by
    have e : lB h i (n + 1 + 1) = kB h i :: lB h (i + 1) (n + 1) := rfl
    rw [e, lB_snoc h n, show i + 1 + n = i + (n + 1) by omega]; rfl
theorem kA_is {h i : Nat} (hh : h ≤ 9) : isE (kA h i) = true := isE_iff.2 ⟨⟨by show (1 : Int) ≤ 1; omega, by show (1 : Int) ≤ 1000000; omega⟩, by simp [kA, hB], by simp [kA, hB]; omega, by simp [kA], by simp [kA]⟩
theorem kB_is {h i : Nat} (hh : h ≤ 9) : isE (kB h i) = true := isE_iff.2 ⟨⟨by show (1 : Int) ≤ 1; omega, by show (1 : Int) ≤ 1000000; omega⟩, by simp [kB, hB], by simp [kB, hB]; omega, by simp [kB], by simp [kB]⟩
theorem lA_all {h : Nat} (hh : h ≤ 9) : ∀ (n i : Nat), (lA h i n).all isE = true
  | 0, _ => rfl
  | n + 1, i => by rw [lA, List.all_cons, kA_is hh, lA_all hh n]; rfl
theorem lB_all {h : Nat} (hh : h ≤ 9) : ∀ (n i : Nat), (lB h i n).all isE = true
  | 0, _ => rfl
  | n + 1, i => by rw [lB, List.all_cons, kB_is hh, lB_all hh n]; rfl
theorem ltr_toNat {i : Nat} (hi : i ≤ 100) : (ltr i).toNat = 97 + i := by unfold ltr; rw [UInt8.toNat_ofNat', Nat.mod_eq_of_lt (by omega)]
theorem ltr_ne {i j : Nat} (hi : i ≤ 100) (hj : j ≤ 100) (h : i ≠ j) : ltr i ≠ ltr j := fun e => by
  have := congrArg UInt8.toNat e
  rw [ltr_toNat hi, ltr_toNat hj] at this; omega
theorem sh_h : ∀ (h : Nat) {a b : UInt8}, a ≠ b → sharedB (hB h ++ [a]) (hB h ++ [b]) = h
  | 0, a, b, e => by
    show sharedB [a] [b] = 0
    unfold sharedB; rw [if_neg e]
  | h + 1, a, b, e => by
    show sharedB (104 :: (hB h ++ [a])) (104 :: (hB h ++ [b])) = h + 1
    unfold sharedB; rw [if_pos rfl, sh_h h e]
theorem bl_h : ∀ (h : Nat) {a b : UInt8}, a.toNat < b.toNat → Op.bytesLess (hB h ++ [a]) (hB h ++ [b]) = true
  | 0, a, b, e => bl_cons.2 (.inl e)
  | h + 1, a, b, e => bl_cons.2 (.inr ⟨rfl, bl_h h e⟩)
theorem lA_sorted {h : Nat} : ∀ (n i : Nat), i + n ≤ 100 → sortedE (lA h i n) = true := by
  intro n i hin
  refine sorted_of fun j hj => ?_
  rw [lA_len] at hj
  have get : ∀ (n i j : Nat), j < n → (lA h i n).getD j default = kA h (i + j) := by
    intro n
    induction n with
    | zero => intro i j hj; omega
    | succ n ih =>
      intro i j hj
      cases j with
      | zero => rfl
      | succ j => show (lA h (i + 1) n).getD j default = _; rw [ih (i + 1) j (by omega)]; congr 1; omega
  rw [get n i j (by omega), get n i (j + 1) (by omega)]
  refine lessE_lt (bl_h h ?_)
  rw [ltr_toNat (by omega), ltr_toNat (by omega)]; omega
theorem lB_sorted {h : Nat} : ∀ (n i : Nat), i + n ≤ 100 → sortedE (lB h i n) = true := by
  intro n i hin
  refine sorted_of fun j hj => ?_
  rw [lB_len] at hj
  have get : ∀ (n i j : Nat), j < n → (lB h i n).getD j default = kB h (i + j) := by
    intro n
    induction n with
    | zero => intro i j hj; omega
    | succ n ih =>
      intro i j hj
      cases j with
      | zero => rfl
      | succ j => show (lB h (i + 1) n).getD j default = _; rw [ih (i + 1) j (by omega)]; congr 1; omega
  rw [get n i j (by omega), get n i (j + 1) (by omega)]
  refine lessE_lt (bl_cons.2 (.inl ?_))
  rw [ltr_toNat (by omega), ltr_toNat (by omega)]; omega
theorem numB_small {n : Nat} (h0 : 0 < n) (h : n < 256) : (numB n).length = 2 := by
  show (digs n).length + 1 = 2
  rw [digs_pos (by omega), show n / 256 = 0 by omega, digs_zero]; rfl
theorem numB_zero : (numB 0).length = 1 := by show (digs 0).length + 1 = 1; rw [digs_zero]; rfl
def tlen : Nat := (tailB (kA 0 0)).length
theorem bodyA_len {h : Nat} (h0 : 0 < h) (hh : h ≤ 9) : ∀ (n i : Nat), i + 1 + n ≤ 100 → (bodyB (kA h i).key (lA h (i + 1) n)).length = n * (5 + tlen)
  | 0, _, _ => by simp [lA, bodyB]
  | n + 1, i, hi => by
    have e : bodyB (kA h i).key (lA h (i + 1) (n + 1)) = oneB (kA h i).key (kA h (i + 1)) ++ bodyB (kA h (i + 1)).key (lA h (i + 1 + 1) n) := rfl
    have hsh : sharedB (kA h (i + 1)).key (kA h i).key = h := sh_h h (ltr_ne (by omega) (by omega) (by omega))
    have ho : (oneB (kA h i).key (kA h (i + 1))).length = 5 + tlen := by
      unfold oneB
      rw [hsh]
      have hd : (kA h (i + 1)).key.drop h = [ltr (i + 1)] := by
        show (hB h ++ [ltr (i + 1)]).drop h = _
        have : (hB h).length = h := by simp [hB]
        conv => lhs; rw [← this]
        rw [List.drop_left' (by simp [hB])]
      rw [hd]
      have ht : (tailB (kA h (i + 1))).length = tlen := rfl
      rw [List.length_append, List.length_append, ht, numB_small h0 (by omega)]
      unfold textB
      rw [List.length_append, numB_small (by simp) (by simp)]
      simp
    rw [e, List.length_append, ho, bodyA_len h0 hh n (i + 1) (by omega), Nat.add_mul]; omega
theorem bodyB_len' {h : Nat} (hh : h ≤ 9) : ∀ (n i : Nat) (p : List UInt8), i + n ≤ 100 → (∀ c r, p = c :: r → i = 0 ∨ c ≠ ltr i) → (i = 0 → p = []) → (bodyB p (lB h i n)).length = n * (h + 4 + tlen)
  | 0, _, _, _, _, _ => by simp [lB, bodyB]
  | n + 1, i, p, hi, hp, hp0 => by
    have e : bodyB p (lB h i (n + 1)) = oneB p (kB h i) ++ bodyB (kB h i).key (lB h (i + 1) n) := rfl
    have hsh : sharedB (kB h i).key p = 0 := by
      cases p with
      | nil => rfl
      | cons c r =>
        have : c ≠ ltr i := by
          rcases hp c r rfl with h1 | h1
          · exact absurd (hp0 h1) (by simp)
          · exact h1
        show sharedB (ltr i :: hB h) (c :: r) = 0
        unfold sharedB; rw [if_neg (fun e => this e.symm)]
    have ho : (oneB p (kB h i)).length = h + 4 + tlen := by
      unfold oneB
      rw [hsh]
      have ht : (tailB (kB h i)).length = tlen := rfl
      rw [List.length_append, List.length_append, ht, numB_zero, List.drop_zero]
      unfold textB
      have hkl : (kB h i).key.length = h + 1 := by simp [kB, hB]
      rw [List.length_append, numB_small (by omega) (by omega), hkl]
      omega
    have ih := bodyB_len' hh n (i + 1) (kB h i).key (by omega) (fun c r e => .inr (by
      have : ltr i = c := (List.cons.inj e).1
      rw [← this]; exact ltr_ne (by omega) (by omega) (by omega))) (fun h => by omega)
    rw [e, List.length_append, ho, ih, Nat.add_mul]; omega
/-- how much less -/
theorem small_ok {k h : Nat} (hk : 2 ≤ k) (hk2 : k ≤ 21) (h0 : 0 < h) (hh : h ≤ 9) : (sealB (bodyB [] (lA h 0 k))).length + (k - 1) * (h - 1) ≤ (sealB (bodyB [] (lB h 0 k))).length := by
  obtain ⟨n, rfl⟩ : ∃ n, k = n + 1 := ⟨k - 1, by omega⟩
  have eA : bodyB [] (lA h 0 (n + 1)) = oneB [] (kA h 0) ++ bodyB (kA h 0).key (lA h 1 n) := rfl
  have oA : (oneB [] (kA h 0)).length = h + 4 + tlen := by
    unfold oneB
    have hsh : sharedB (kA h 0).key [] = 0 := by
      cases hx : (kA h 0).key <;> rfl
    rw [hsh]
    have ht : (tailB (kA h 0)).length = tlen := rfl
    rw [List.length_append, List.length_append, ht, numB_zero, List.drop_zero]
    unfold textB
    have hkl : (kA h 0).key.length = h + 1 := by simp [kA, hB]
    rw [List.length_append, numB_small (by omega) (by omega), hkl]
    omega
  have lAe : (bodyB [] (lA h 0 (n + 1))).length = h + 4 + tlen + n * (5 + tlen) := by
    rw [eA, List.length_append, oA, bodyA_len h0 hh n 0 (by omega)]
  have lBe : (bodyB [] (lB h 0 (n + 1))).length = (n + 1) * (h + 4 + tlen) := bodyB_len' hh (n + 1) 0 [] (by omega) (fun c r e => by cases e) (fun _ => rfl)
  have hd : (bodyB [] (lA h 0 (n + 1))).length + n * (h - 1) = (bodyB [] (lB h 0 (n + 1))).length := by
    rw [lAe, lBe]
    obtain ⟨g, rfl⟩ : ∃ g, h = g + 1 := ⟨h - 1, by omega⟩
    simp only [Nat.add_mul, Nat.mul_add, Nat.add_sub_cancel]
    omega
  have hm := numB_mono (show (bodyB [] (lA h 0 (n + 1))).length ≤ (bodyB [] (lB h 0 (n + 1))).length by omega)
  rw [sealB_len, sealB_len]
  show _ + (n + 1 - 1) * (h - 1) ≤ _
  rw [Nat.add_sub_cancel]
  omega
end Go.Proofs.Ytjlhfoadabkahaa

set_option maxRecDepth 100000
set_option maxHeartbeats 8000000
set_option linter.all false
namespace Go.Proofs.Ytjlhfoadabkahaa
open Go Go.Ev
theorem hB_succ (j : Nat) : hB (j + 1) = hB j ++ [UInt8.ofNat 104] := by unfold hB; rw [List.replicate_succ']; rfl
theorem blockSmall_ok {h : H} {n hd : UInt8} (hf : B.val h.floor ≤ B.val h.next) :
    FnOk Try.prog 11 [.i .u8 (n.toNat : Int), .i .u8 (hd.toNat : Int)] h fun r h' => r = .b true := by
  have hn0 := n.toNat_lt
  have hd0 := hd.toNat_lt
  refine fn_go c11 (by intro hb; cases hb) (by simp) (by simp) fun Q hQ => ?_
  simp only [slotsF, Nat.reduceAdd]
  repeat' (first
    | refine St.h ?_
    | simp (disch := first | omega | (simp only [lnv]; omega)) only [wlk, ↓get_put', Nat.reduceEqDiff, Nat.reduceLT, ↓reduceIte, Int.reduceToNat, Nat.reducePow, Nat.min_eq_left, Nat.reduceAdd, Nat.reduceMul, Int.reduceAdd, Int.reduceSub, Int.reduceNeg, Int.reduceMul, Int.reduceEq, Int.reduceLT, Int.reduceLE, Nat.reduceSub, Int.reduceNatCast, Nat.reduceLeDiff]
    | (with_reducible (first | apply cd_split | apply gd_split)) <;> (intro hc; (try simp only [hcn] at hc); (try simp only [hc]); (try simp only [hcl] at hc); try omega))
  refine CL.pure known8 ?_
  repeat' (first
    | refine St.h ?_
    | simp (disch := first | omega | (simp only [lnv]; omega)) only [wlk, ↓get_put', Nat.reduceEqDiff, Nat.reduceLT, ↓reduceIte, Int.reduceToNat, Nat.reducePow, Nat.min_eq_left, Nat.reduceAdd, Nat.reduceMul, Int.reduceAdd, Int.reduceSub, Int.reduceNeg, Int.reduceMul, Int.reduceEq, Int.reduceLT, Int.reduceLE, Nat.reduceSub, Int.reduceNatCast, Nat.reduceLeDiff]
    | (with_reducible (first | apply cd_split | apply gd_split)) <;> (intro hc; (try simp only [hcn] at hc); (try simp only [hc]); (try simp only [hcl] at hc); try omega))
  have hK : (n.toNat : Int) % 20 + 2 = ((n.toNat % 20 + 2 : Nat) : Int) := by omega
  have hG : (hd.toNat : Int) % 9 + 1 = ((hd.toNat % 9 + 1 : Nat) : Int) := by omega
  have hK2 : n.toNat % 20 + 2 ≤ 21 ∧ 2 ≤ n.toNat % 20 + 2 := by omega
  have hG2 : hd.toNat % 9 + 1 ≤ 9 ∧ 1 ≤ hd.toNat % 9 + 1 := by omega
  generalize n.toNat % 20 + 2 = K at *
  generalize hd.toNat % 9 + 1 = G at *
  refine Ok.lp (fun mm t g => ∃ (i : Nat) (u w : V), mm = K - i ∧ i ≤ K ∧ get 5 t = .i .i64 (K : Int) ∧ get 6 t = .i .i64 (G : Int) ∧ get 7 t = u ∧ get 8 t = w ∧ get 9 t = .i .i64 (i : Int) ∧ Stay nowhere h g ∧ Buf g 70 4 u ((lA G 0 i).flatMap entC) ∧ Buf g 70 4 w ((lB G 0 i).flatMap entC) ∧ (∀ id, isOf u id → B.val h.next ≤ B.val id ∧ ¬ isOf w id) ∧ (∀ id, isOf w id → B.val h.next ≤ B.val id)) K ?_ ?_
  · simp (disch := first | omega | (simp only [lnv]; omega)) only [wlk, ↓get_put', Nat.reduceEqDiff, Nat.reduceLT, ↓reduceIte, Int.reduceToNat, Nat.reducePow, Nat.min_eq_left, Nat.reduceAdd, Nat.reduceMul, Int.reduceAdd, Int.reduceSub, Int.reduceNeg, Int.reduceMul, Int.reduceEq, Int.reduceLT, Int.reduceLE, Nat.reduceSub, Int.reduceNatCast, Nat.reduceLeDiff, hK, hG]
    refine ⟨0, .l0, .l0, by omega, by omega, ?_⟩
    refine ⟨?_, ?_, ?_, ?_, ?_, Stay.refl _ _, Buf.nil _ _ _, Buf.nil _ _ _, ?_, ?_⟩
    · first | trivial | rfl
    · first | trivial | rfl
    · first | trivial | rfl
    · first | trivial | rfl
    · first | trivial | rfl
    · rintro id ⟨_, _, _, _, _, e⟩; cases e
    · rintro id ⟨_, _, _, _, _, e⟩; cases e
  rintro I hI mm t g ⟨i, u, w, rfl, hi, f5, f6, f7, f8, f9, st, bu, bw, ou, ow⟩
  have hfg := st.fl hf
  repeat' (first
    | refine St.h ?_
    | simp (disch := first | omega | (simp only [lnv]; omega)) only [wlk, ↓get_put', Nat.reduceEqDiff, Nat.reduceLT, ↓reduceIte, Int.reduceToNat, Nat.reducePow, Nat.min_eq_left, Nat.reduceAdd, Nat.reduceMul, Int.reduceAdd, Int.reduceSub, Int.reduceNeg, Int.reduceMul, Int.reduceEq, Int.reduceLT, Int.reduceLE, Nat.reduceSub, Int.reduceNatCast, Nat.reduceLeDiff, f5, f6, f7, f8, f9]
    | (with_reducible (first | apply cd_split | apply gd_split)) <;> (intro hc; (try simp only [hcn] at hc); (try simp only [hc]); (try simp only [hcl] at hc); try omega))
  · have hcs : [V.i .u8 (97 + (i : Int))] = [ltr i].map bv := by
      rw [List.map_cons, List.map_nil]
      show [V.i .u8 (97 + (i : Int))] = [V.i .u8 ((ltr i).toNat : Int)]
      rw [ltr_toNat (by omega)]; congr 2
    refine AL.str (bs := [ltr i]) hcs (by simp) rfl rfl (by simp) hfg fun g1 u1 s1 => ?_
    have hf1 := s1.fl hfg
    have bu := bu.grow s1
    have bw := bw.grow s1
    repeat' (first
      | refine St.h ?_
      | simp (disch := first | omega | (simp only [lnv]; omega)) only [wlk, ↓get_put', Nat.reduceEqDiff, Nat.reduceLT, ↓reduceIte, Int.reduceToNat, Nat.reducePow, Nat.min_eq_left, Nat.reduceAdd, Nat.reduceMul, Int.reduceAdd, Int.reduceSub, Int.reduceNeg, Int.reduceMul, Int.reduceEq, Int.reduceLT, Int.reduceLE, Nat.reduceSub, Int.reduceNatCast, Nat.reduceLeDiff, f5, f6, f7, f8, f9]
      | (with_reducible (first | apply cd_split | apply gd_split)) <;> (intro hc; (try simp only [hcn] at hc); (try simp only [hc]); (try simp only [hcl] at hc); try omega))
    refine Ok.lp (fun mm t g => ∃ j : Nat, mm = G - j ∧ j ≤ G ∧ g1 = g ∧ get 5 t = .i .i64 (K : Int) ∧ get 6 t = .i .i64 (G : Int) ∧ get 7 t = u ∧ get 8 t = w ∧ get 9 t = .i .i64 (i : Int) ∧ get 10 t = sv [ltr i] ∧ get 11 t = sv (hB j) ∧ get 12 t = sv (ltr i :: hB j) ∧ get 13 t = .i .i64 (j : Int)) G ?_ ?_
    · simp (disch := first | omega | (simp only [lnv]; omega)) only [wlk, ↓get_put', Nat.reduceEqDiff, Nat.reduceLT, ↓reduceIte, Int.reduceToNat, Nat.reducePow, Nat.min_eq_left, Nat.reduceAdd, Nat.reduceMul, Int.reduceAdd, Int.reduceSub, Int.reduceNeg, Int.reduceMul, Int.reduceEq, Int.reduceLT, Int.reduceLE, Nat.reduceSub, Int.reduceNatCast, Nat.reduceLeDiff, f5, f6, f7, f8, f9]
      refine ⟨0, by omega, by omega, ?_⟩
      repeat' (first | trivial | rfl | refine And.intro ?_ ?_)
    rintro J hJ mm t2 g2 ⟨j, rfl, hj, rfl, e5, e6, e7, e8, e9, e10, e11, e12, e13⟩
    have hbj : (hB j).length = j := by simp [hB]
    repeat' (first
      | refine St.h ?_
      | simp (disch := first | omega | (simp only [lnv]; omega)) only [wlk, ↓get_put', Nat.reduceEqDiff, Nat.reduceLT, ↓reduceIte, Int.reduceToNat, Nat.reducePow, Nat.min_eq_left, Nat.reduceAdd, Nat.reduceMul, Int.reduceAdd, Int.reduceSub, Int.reduceNeg, Int.reduceMul, Int.reduceEq, Int.reduceLT, Int.reduceLE, Nat.reduceSub, Int.reduceNatCast, Nat.reduceLeDiff, e5, e6, e7, e8, e9, e10, e11, e12, e13, List.length_cons, List.length_nil]
      | (with_reducible (first | apply cd_split | apply gd_split)) <;> (intro hc; (try simp only [hcn] at hc); (try simp only [hc]); (try simp only [hcl] at hc); try omega))
    · refine lp_next hJ (G - (j + 1)) (by omega) ⟨j + 1, rfl, by omega, rfl, ?_, ?_, ?_, ?_, ?_, ?_, ?_, ?_, ?_⟩
      all_goals first | (simp (disch := first | omega | (simp only [lnv]; omega)) only [wlk, ↓get_put', Nat.reduceEqDiff, Nat.reduceLT, ↓reduceIte, Int.reduceToNat, Nat.reducePow, Nat.min_eq_left, Nat.reduceAdd, Nat.reduceMul, Int.reduceAdd, Int.reduceSub, Int.reduceNeg, Int.reduceMul, Int.reduceEq, Int.reduceLT, Int.reduceLE, Nat.reduceSub, Int.reduceNatCast, Nat.reduceLeDiff, e5, e6, e7, e8, e9, e10, e11, e12, e13]; done) | (simp (disch := first | omega | (simp only [lnv]; omega)) only [wlk, ↓get_put', Nat.reduceEqDiff, Nat.reduceLT, ↓reduceIte, Int.reduceToNat, Nat.reducePow, Nat.min_eq_left, Nat.reduceAdd, Nat.reduceMul, Int.reduceAdd, Int.reduceSub, Int.reduceNeg, Int.reduceMul, Int.reduceEq, Int.reduceLT, Int.reduceLE, Nat.reduceSub, Int.reduceNatCast, Nat.reduceLeDiff, e13]; rfl) | (rw [hB_succ]; simp (disch := first | omega | (simp only [lnv]; omega)) only [wlk, ↓get_put', Nat.reduceEqDiff, Nat.reduceLT, ↓reduceIte, Int.reduceToNat, Nat.reducePow, Nat.min_eq_left, Nat.reduceAdd, Nat.reduceMul, Int.reduceAdd, Int.reduceSub, Int.reduceNeg, Int.reduceMul, Int.reduceEq, Int.reduceLT, Int.reduceLE, Nat.reduceSub, Int.reduceNatCast, Nat.reduceLeDiff]; done) | (rw [hB_succ]; simp (disch := first | omega | (simp only [lnv]; omega)) only [wlk, ↓get_put', Nat.reduceEqDiff, Nat.reduceLT, ↓reduceIte, Int.reduceToNat, Nat.reducePow, Nat.min_eq_left, Nat.reduceAdd, Nat.reduceMul, Int.reduceAdd, Int.reduceSub, Int.reduceNeg, Int.reduceMul, Int.reduceEq, Int.reduceLT, Int.reduceLE, Nat.reduceSub, Int.reduceNatCast, Nat.reduceLeDiff]; rfl)
    · obtain rfl : G = j := by omega
      have hfa := fm_len entC_len (lA G 0 i)
      have hfb := fm_len entC_len (lB G 0 i)
      rw [lA_len] at hfa
      rw [lB_len] at hfb
      repeat' (first
        | refine St.h ?_
        | simp (disch := first | omega | (simp only [lnv]; omega)) only [wlk, ↓get_put', Nat.reduceEqDiff, Nat.reduceLT, ↓reduceIte, Int.reduceToNat, Nat.reducePow, Nat.min_eq_left, Nat.reduceAdd, Nat.reduceMul, Int.reduceAdd, Int.reduceSub, Int.reduceNeg, Int.reduceMul, Int.reduceEq, Int.reduceLT, Int.reduceLE, Nat.reduceSub, Int.reduceNatCast, Nat.reduceLeDiff, e5, e6, e7, e8, e9, e10, e11, e12, e13, List.length_cons, List.length_nil]
        | (with_reducible (first | apply cd_split | apply gd_split)) <;> (intro hc; (try simp only [hcn] at hc); (try simp only [hc]); (try simp only [hcl] at hc); try omega))
      refine AL.own (by simp) hf1 fun g2 s2 n2 o2 => ?_
      have hf2 := s2.fl hf1
      have bu2 := bu.grow s2
      have bw2 := bw.grow s2
      repeat' (first
        | refine St.h ?_
        | simp (disch := first | omega | (simp only [lnv]; omega)) only [wlk, ↓get_put', Nat.reduceEqDiff, Nat.reduceLT, ↓reduceIte, Int.reduceToNat, Nat.reducePow, Nat.min_eq_left, Nat.reduceAdd, Nat.reduceMul, Int.reduceAdd, Int.reduceSub, Int.reduceNeg, Int.reduceMul, Int.reduceEq, Int.reduceLT, Int.reduceLE, Nat.reduceSub, Int.reduceNatCast, Nat.reduceLeDiff, e5, e6, e7, e8, e9, e10, e11, e12, e13]
        | (with_reducible (first | apply cd_split | apply gd_split)) <;> (intro hc; (try simp only [hcn] at hc); (try simp only [hc]); (try simp only [hcl] at hc); try omega))
      refine AP.buf (vs := entC (kA G i)) (cnt := 1) bu2 (new_row o2.row rfl (Nat.le_refl _) (by omega) (by show 4 ≤ 4; omega)) hf2 (by omega) rfl rfl (by rw [hfa, entC_len]; omega) fun u' g3 b3 s3 ho3 tp3 => ?_
      have bw3 := bw2.stay s3 (fun id hid hu => (ou id hu).2 hid)
      have s13 : Stay nowhere h g3 := ((st.trans s1).trans s2).past' s3 fun id hid => (ou id hid).1
      have hf3 := s13.fl hf
      have hwu : ∀ id, isOf w id → ¬ isOf u' id := fun id hw hu => by
        rcases ho3 id hu with h1 | h1
        · exact (ou id h1).2 hw
        · have := (bw2.own hw).2; omega
      repeat' (first
        | refine St.h ?_
        | simp (disch := first | omega | (simp only [lnv]; omega)) only [wlk, ↓get_put', Nat.reduceEqDiff, Nat.reduceLT, ↓reduceIte, Int.reduceToNat, Nat.reducePow, Nat.min_eq_left, Nat.reduceAdd, Nat.reduceMul, Int.reduceAdd, Int.reduceSub, Int.reduceNeg, Int.reduceMul, Int.reduceEq, Int.reduceLT, Int.reduceLE, Nat.reduceSub, Int.reduceNatCast, Nat.reduceLeDiff, e5, e6, e7, e8, e9, e10, e11, e12, e13]
        | (with_reducible (first | apply cd_split | apply gd_split)) <;> (intro hc; (try simp only [hcn] at hc); (try simp only [hc]); (try simp only [hcl] at hc); try omega))
      refine AL.own (by simp) hf3 fun g4 s4 n4 o4 => ?_
      have hf4 := s4.fl hf3
      have b34 := b3.grow s4
      have bw4 := bw3.grow s4
      repeat' (first
        | refine St.h ?_
        | simp (disch := first | omega | (simp only [lnv]; omega)) only [wlk, ↓get_put', Nat.reduceEqDiff, Nat.reduceLT, ↓reduceIte, Int.reduceToNat, Nat.reducePow, Nat.min_eq_left, Nat.reduceAdd, Nat.reduceMul, Int.reduceAdd, Int.reduceSub, Int.reduceNeg, Int.reduceMul, Int.reduceEq, Int.reduceLT, Int.reduceLE, Nat.reduceSub, Int.reduceNatCast, Nat.reduceLeDiff, e5, e6, e7, e8, e9, e10, e11, e12, e13]
        | (with_reducible (first | apply cd_split | apply gd_split)) <;> (intro hc; (try simp only [hcn] at hc); (try simp only [hc]); (try simp only [hcl] at hc); try omega))
      refine AP.buf (vs := entC (kB G i)) (cnt := 1) bw4 (new_row o4.row rfl (Nat.le_refl _) (by omega) (by show 4 ≤ 4; omega)) hf4 (by omega) rfl rfl (by rw [hfb, entC_len]; omega) fun w' g5 b5 s5 ho5 tp5 => ?_
      have b35 := b34.stay s5 (fun id hid hw => hwu id hw hid)
      have s15 : Stay nowhere h g5 := (s13.trans s4).past' s5 fun id hid => ow id hid
      repeat' (first
        | refine St.h ?_
        | simp (disch := first | omega | (simp only [lnv]; omega)) only [wlk, ↓get_put', Nat.reduceEqDiff, Nat.reduceLT, ↓reduceIte, Int.reduceToNat, Nat.reducePow, Nat.min_eq_left, Nat.reduceAdd, Nat.reduceMul, Int.reduceAdd, Int.reduceSub, Int.reduceNeg, Int.reduceMul, Int.reduceEq, Int.reduceLT, Int.reduceLE, Nat.reduceSub, Int.reduceNatCast, Nat.reduceLeDiff, e5, e6, e7, e8, e9, e10, e11, e12, e13]
        | (with_reducible (first | apply cd_split | apply gd_split)) <;> (intro hc; (try simp only [hcn] at hc); (try simp only [hc]); (try simp only [hcl] at hc); try omega))
      refine lp_next hI (K - (i + 1)) (by omega) ⟨i + 1, u', w', rfl, by omega, ?_, ?_, ?_, ?_, ?_, s15, ?_, ?_, fun id hid => ⟨?_, fun hw => ?_⟩, fun id hid => ?_⟩
      · simp (disch := first | omega | (simp only [lnv]; omega)) only [wlk, ↓get_put', Nat.reduceEqDiff, Nat.reduceLT, ↓reduceIte, Int.reduceToNat, Nat.reducePow, Nat.min_eq_left, Nat.reduceAdd, Nat.reduceMul, Int.reduceAdd, Int.reduceSub, Int.reduceNeg, Int.reduceMul, Int.reduceEq, Int.reduceLT, Int.reduceLE, Nat.reduceSub, Int.reduceNatCast, Nat.reduceLeDiff, e5]
      · simp (disch := first | omega | (simp only [lnv]; omega)) only [wlk, ↓get_put', Nat.reduceEqDiff, Nat.reduceLT, ↓reduceIte, Int.reduceToNat, Nat.reducePow, Nat.min_eq_left, Nat.reduceAdd, Nat.reduceMul, Int.reduceAdd, Int.reduceSub, Int.reduceNeg, Int.reduceMul, Int.reduceEq, Int.reduceLT, Int.reduceLE, Nat.reduceSub, Int.reduceNatCast, Nat.reduceLeDiff, e6]
      · simp (disch := first | omega | (simp only [lnv]; omega)) only [wlk, ↓get_put', Nat.reduceEqDiff, Nat.reduceLT, ↓reduceIte, Int.reduceToNat, Nat.reducePow, Nat.min_eq_left, Nat.reduceAdd, Nat.reduceMul, Int.reduceAdd, Int.reduceSub, Int.reduceNeg, Int.reduceMul, Int.reduceEq, Int.reduceLT, Int.reduceLE, Nat.reduceSub, Int.reduceNatCast, Nat.reduceLeDiff]
      · simp (disch := first | omega | (simp only [lnv]; omega)) only [wlk, ↓get_put', Nat.reduceEqDiff, Nat.reduceLT, ↓reduceIte, Int.reduceToNat, Nat.reducePow, Nat.min_eq_left, Nat.reduceAdd, Nat.reduceMul, Int.reduceAdd, Int.reduceSub, Int.reduceNeg, Int.reduceMul, Int.reduceEq, Int.reduceLT, Int.reduceLE, Nat.reduceSub, Int.reduceNatCast, Nat.reduceLeDiff]
      · simp (disch := first | omega | (simp only [lnv]; omega)) only [wlk, ↓get_put', Nat.reduceEqDiff, Nat.reduceLT, ↓reduceIte, Int.reduceToNat, Nat.reducePow, Nat.min_eq_left, Nat.reduceAdd, Nat.reduceMul, Int.reduceAdd, Int.reduceSub, Int.reduceNeg, Int.reduceMul, Int.reduceEq, Int.reduceLT, Int.reduceLE, Nat.reduceSub, Int.reduceNatCast, Nat.reduceLeDiff, e9]; rfl
      · rw [lA_snoc, List.flatMap_append, Nat.zero_add]; simpa using b35
      · rw [lB_snoc, List.flatMap_append, Nat.zero_add]; simpa using b5
      · rcases ho3 id hid with h1 | h1
        · exact (ou id h1).1
        · have := st.next; have := s1.next; have := s2.next; omega
      · rcases ho5 id hw with h1 | h1
        · exact hwu id h1 hid
        · have := (b34.own hid).2; omega
      · rcases ho5 id hid with h1 | h1
        · exact ow id h1
        · have := s13.next; have := s4.next; omega
  · obtain rfl : K = i := by omega
    have hA : Es g u (lA G 0 K) := Ss.buf bu rfl entC_len (by omega)
    have hB' : Es g w (lB G 0 K) := Ss.buf bw rfl entC_len (by omega)
    have nA : lA G 0 K ≠ [] := by intro e; have := lA_len G K 0; rw [e] at this; simp at this; omega
    have nB : lB G 0 K ≠ [] := by intro e; have := lB_len G K 0; rw [e] at this; simp at this; omega
    have aA := lA_all (h := G) (by omega) K 0
    have aB := lB_all (h := G) (by omega) K 0
    have sA := lA_sorted (h := G) K 0 (by omega)
    have sB := lB_sorted (h := G) K 0 (by omega)
    have lAK := lA_len G K 0
    have lBK := lB_len G K 0
    have hsm := small_ok (k := K) (h := G) hK2.2 hK2.1 hG2.2 hG2.1
    have hbk := readB_back aA nA sA (by omega)
    have blA := bodyB_len (p := []) aA
    have blB := bodyB_len (p := []) aB
    have eA := blkE_ok aA nA sA
    have eB := blkE_ok aB nB sB
    have slA := sealB_len (bodyB [] (lA G 0 K))
    have slB := sealB_len (bodyB [] (lB G 0 K))
    have nlA := numB_len (n := (bodyB [] (lA G 0 K)).length) (by omega)
    have nlB := numB_len (n := (bodyB [] (lB G 0 K)).length) (by omega)
    generalize lA G 0 K = A at *
    generalize lB G 0 K = C at *
    generalize sealB (bodyB [] A) = SA at *
    generalize sealB (bodyB [] C) = SC at *
    refine CL.stay (bmake_ok hA (by omega) hfg) fun g1 s1 => ?_
    have hf1 := s1.fl hfg
    rw [eA]
    repeat' (first
      | refine St.h ?_
      | simp (disch := first | omega | (simp only [lnv]; omega)) only [wlk, ↓get_put', Nat.reduceEqDiff, Nat.reduceLT, ↓reduceIte, Int.reduceToNat, Nat.reducePow, Nat.min_eq_left, Nat.reduceAdd, Nat.reduceMul, Int.reduceAdd, Int.reduceSub, Int.reduceNeg, Int.reduceMul, Int.reduceEq, Int.reduceLT, Int.reduceLE, Nat.reduceSub, Int.reduceNatCast, Nat.reduceLeDiff, f5, f6, f7, f8, f9]
      | (with_reducible (first | apply cd_split | apply gd_split)) <;> (intro hc; (try simp only [hcn] at hc); (try simp only [hc]); (try simp only [hcl] at hc); try omega))
    refine CL.stay (bmake_ok (hB'.grow s1) (by omega) hf1) fun g2 s2 => ?_
    have hf2 := s2.fl hf1
    rw [eB]
    repeat' (first
      | refine St.h ?_
      | simp (disch := first | omega | (simp only [lnv]; omega)) only [wlk, ↓get_put', Nat.reduceEqDiff, Nat.reduceLT, ↓reduceIte, Int.reduceToNat, Nat.reducePow, Nat.min_eq_left, Nat.reduceAdd, Nat.reduceMul, Int.reduceAdd, Int.reduceSub, Int.reduceNeg, Int.reduceMul, Int.reduceEq, Int.reduceLT, Int.reduceLE, Nat.reduceSub, Int.reduceNatCast, Nat.reduceLeDiff, f5, f6, f7, f8, f9]
      | (with_reducible (first | apply cd_split | apply gd_split)) <;> (intro hc; (try simp only [hcn] at hc); (try simp only [hc]); (try simp only [hcl] at hc); try omega))
    refine CL.mk (bread_ok (s := SA) (by omega) hf2) ?_
    rintro _ g3 ⟨z, rfl, ez, s3⟩
    rw [hbk] at ez ⊢
    have hA3 := ((hA.grow s1).grow s2).grow s3
    have dA : decide (A = A) = true := decide_eq_true rfl
    repeat' (first
      | refine St.h ?_
      | simp (disch := first | omega | (simp only [lnv]; omega)) only [wlk, ↓get_put', Nat.reduceEqDiff, Nat.reduceLT, ↓reduceIte, Int.reduceToNat, Nat.reducePow, Nat.min_eq_left, Nat.reduceAdd, Nat.reduceMul, Int.reduceAdd, Int.reduceSub, Int.reduceNeg, Int.reduceMul, Int.reduceEq, Int.reduceLT, Int.reduceLE, Nat.reduceSub, Int.reduceNatCast, Nat.reduceLeDiff, f5, f6, f7, f8, f9]
      | (with_reducible (first | apply cd_split | apply gd_split)) <;> (intro hc; (try simp only [hcn] at hc); (try simp only [hc]); (try simp only [hcl] at hc); try omega))
    refine CL.pure (rsame_ok ez hA3 (by first | omega | (have := lAK; simp_all; omega))) ?_
    have hKG : ((K : Int) - 1) * ((G : Int) - 1) = (((K - 1) * (G - 1) : Nat) : Int) := by
      rw [Int.natCast_mul, Int.ofNat_sub (by omega), Int.ofNat_sub (by omega)]; rfl
    have hbd : (K - 1) * (G - 1) ≤ 20 * 8 := Nat.mul_le_mul (by omega) (by omega)
    generalize (K - 1) * (G - 1) = q at *
    have df : decide ((q : Int) ≤ (SC.length : Int) - (SA.length : Int)) = true := decide_eq_true (by omega)
    repeat' (first
      | refine St.h ?_
      | simp (disch := first | omega | (simp only [lnv]; omega)) only [wlk, ↓get_put', Nat.reduceEqDiff, Nat.reduceLT, ↓reduceIte, Int.reduceToNat, Nat.reducePow, Nat.min_eq_left, Nat.reduceAdd, Nat.reduceMul, Int.reduceAdd, Int.reduceSub, Int.reduceNeg, Int.reduceMul, Int.reduceEq, Int.reduceLT, Int.reduceLE, Nat.reduceSub, Int.reduceNatCast, Nat.reduceLeDiff, f5, f6, f7, f8, f9, dA, hKG, df]
      | (with_reducible (first | apply cd_split | apply gd_split)) <;> (intro hc; (try simp only [hcn] at hc); (try simp only [hc]); (try simp only [hcl] at hc); try omega))
    subst hQ; rfl
end Go.Proofs.Ytjlhfoadabkahaa

namespace Go.Proofs.Ytjlhfoadabkahaa.blockSmall
open Go Go.Ev Go.ChangeShapes Go.WideShapes Go.ChangeAt Go.RowKit Go.ChangeMaps
set_option linter.all false
theorem own : ownKnob Try.prog.godebug = none := by kernel_rfl
theorem laid : laidOutB Try.prog = true := by kernel_rfl
theorem heap_pos {W : World} (h : W.ShapedOpen Try.prog) : 0 < W.heap.size := by
  obtain ⟨o, _, h1, _⟩ := h.2 0 (of_decide_eq_true (by kernel_rfl)) (of_decide_eq_true (by kernel_rfl))
  exact (Array.getElem?_eq_some_iff.1 h1).1
set_option maxRecDepth 100000 in
theorem run {H : Type} {enc : TypeId × Value → H} (W : World) (base : Nat) (args : Array Value) (ds : List (DataW H)) (p : List MemPlace) (hval : ∀ (j : Nat) t v, Try.f11.params[j]? = some t → args[j]? = some v → Value.okWide Try.prog W .any base t v) (hopen : W.ShapedOpen Try.prog)
    (hA : DataW.TrodAll enc Try.prog W 0 (fun _ => true) true Try.f11.params.toList args.toList ds p) : Calls Try.prog 11 args W fun e w' => e = .returned (.bool true) ∧ Below W.heap.size W w' := by
  rw [Try.params11] at hA hval
  obtain ⟨v0, vs0, d0, ds0, p0, q0, hargs, rfl, rfl, h0, r0⟩ := trodAll_cons hA
  obtain ⟨v1, vs1, d1, ds1, p1, q1, rfl, rfl, rfl, h1, r1⟩ := trodAll_cons r0
  obtain ⟨rfl, rfl, rfl⟩ := trodAll_nil r1
  obtain rfl : args = #[v0, v1] := by cases args; simp_all
  obtain ⟨h, s1, s2⟩ := Go.Ev.start W
  have s : Go.Ev.Start W h := ⟨s1, s2⟩
  obtain ⟨a0, rfl, rfl, rfl, w0⟩ := open_int Try.underlying5 (hval 0 5 v0 rfl rfl) h0
  obtain ⟨n0, rfl⟩ := u8_byte w0
  obtain ⟨a1, rfl, rfl, rfl, w1⟩ := open_int Try.underlying5 (hval 1 5 v1 rfl rfl) h1
  obtain ⟨n1, rfl⟩ := u8_byte w1
  exact calls_true s (vs := [.i .u8 (n0.toNat : Int), .i .u8 (n1.toNat : Int)]) ⟨rfl, rfl, trivial⟩ (blockSmall_ok  s1.flo)
set_option maxRecDepth 100000 in
theorem lifted (os : Os) (started : os.Started) (H : Type) (enc : TypeId × Value → H) :
    ReturnsInHanded {} Try.checked os 11 .any (Rows.blockSmallSpec.pre6 enc Try.prog Try.f11 Rows.blockSmallRow.domain false) (Rows.blockSmallSpec.post enc Try.prog Try.f11 false true false false) :=
  law_lifted (C := Try.checked) own started (by kernel_rfl) Try.func11
    (ChangeSpec.witness6 (enc := enc) (C := Try.checked) false ⟨#[], #[.int .u8 0, .int .u8 0], []⟩ 8 (by kernel_rfl) (by kernel_rfl) (by kernel_rfl) (by kernel_rfl))
    rfl (fun ds hd => by rw [Try.params11] at hd; match ds, hd with | [d1, d2], _ => rfl) laid (by kernel_rfl) (by kernel_rfl) Try.underlying4 (fun W base args ds p hv ho hA => run W base args ds p hv ho hA)
theorem over : Rows.blockSmallRow.holds Try.pinned (OpenSpec.ofChange Rows.blockSmallSpec) :=
  OpenClaim.holds_of_wide 11 Try.f11 rfl rfl rfl rfl rfl rfl rfl ⟨rfl, rfl, rfl, rfl, rfl⟩ rfl rfl rfl rfl rfl (by kernel_rfl) Try.func11 (by kernel_rfl)
    (of_decide_eq_true (by kernel_rfl)) (by unfold Func.isWrapper; first | (rw [if_pos (by decide +kernel)]; kernel_rfl) | (rw [if_neg (by decide +kernel)]; exact ⟨rfl, rfl⟩))
    (fun os started H enc _ => lifted os started H enc)
/-- THE STATEMENT -/
theorem proved : Rows.BlockSmallSaid :=
  over
end Go.Proofs.Ytjlhfoadabkahaa.blockSmall
