/- Texts of ours, without what this claim does not use: JrCell CellM NCell NText Wg EntM NEnt1 NEnt2 NEnt3 NEnt4 NEnt5 JrSeal SealM SealN NSeal BkM NBk1 NBk2 NEntB BkN NBkP JrBk2 Knravelinlaw8 NBk3. No condition. -/
import Derived.Test.YtjlhfoadabkahaaPkBlockSmall3
import Derived.Test.YtjlhfoadabkahaaProg
import Derived.KernelRfl
import Derived.Test.YtjlhfoadabkahaaRows
set_option maxRecDepth 1000000
set_option linter.all false
namespace Go.Proofs.Ytjlhfoadabkahaa
open Go Go.Ev
noncomputable abbrev s88_0 : CC := (CC.cond (tm 7) CC.skip (CC.exit 0))
noncomputable abbrev s88_1 : CC := (CC.seq (CC.region [(wB 6 (doMove (tm 0))), (wB 7 (bin2 fGtr (tm 6) (oN 0)))]) s88_0)
noncomputable abbrev s88_2 : CC := (CC.region [(wB 12 (doMove (tm 4))), (wB 13 (doMove (tm 0))), (wB 14 (doConv IntKind.u8 (tm 13))), (wB 15 (doIndexAddrArr 9 1 (tm 3) (tm 12))), (CO.mk G.none D.none Bool.true (CR.mk (doStore 1 (tm 15) (tm 14))))])
noncomputable abbrev s88_3 : CC := (CC.seq (CC.region [(wB 10 (doMove (tm 4))), (wB 11 (bin2 fSub (tm 10) (oN 1))), (wB 4 (doMove (tm 11)))]) s88_2)
noncomputable abbrev s88_4 : CC := (CC.block 1 s88_3)
noncomputable abbrev s88_5 : CC := (CC.region [(wB 8 (doMove (tm 0))), (wB 9 (doShift shrF (tm 8) (O.c (V.i IntKind.u64 (Int.ofNat 8))))), (wB 0 (doMove (tm 9)))])
noncomputable abbrev s88_6 : CC := (CC.seq s88_4 s88_5)
noncomputable abbrev l88_0 : CC := (CC.seq s88_1 s88_6)
noncomputable abbrev s88_7 : CC := (CC.loop l88_0)
noncomputable abbrev s88_8 : CC := (CC.block 0 s88_7)
noncomputable abbrev s88_9 : CC := (CC.seq (CC.region [(wB 24 (doMove (tm 4))), (wB 25 (doSliceArr 9 1 (tm 3) (some (tm 24)) none)), (wB 26 (doB2S (tm 25))), (wB 2 (doMove (tm 26)))]) CC.ret)
noncomputable abbrev s88_10 : CC := (CC.seq (CC.region [(wB 20 (doMove (tm 4))), (wB 21 (doMove (tm 5))), (wB 22 (doConv IntKind.u8 (tm 21))), (wB 23 (doIndexAddrArr 9 1 (tm 3) (tm 20))), (CO.mk G.none D.none Bool.true (CR.mk (doStore 1 (tm 23) (tm 22))))]) s88_9)
noncomputable abbrev s88_11 : CC := (CC.seq (CC.region [(wB 18 (doMove (tm 4))), (wB 19 (bin2 fSub (tm 18) (oN 1))), (wB 4 (doMove (tm 19)))]) s88_10)
noncomputable abbrev s88_12 : CC := (CC.seq (CC.region [(wB 16 (doMove (tm 4))), (wB 17 (bin2 fSub (oN 9) (tm 16))), (wB 5 (doMove (tm 17)))]) s88_11)
noncomputable abbrev s88_13 : CC := (CC.seq s88_8 s88_12)
noncomputable abbrev s88_14 : CC := (CC.seq (CC.region [(wB 4 (doMove (oN 9)))]) s88_13)
noncomputable abbrev s88_15 : CC := (CC.seq (CC.region [(wB 3 (doAlloc 141 [(V.i IntKind.u8 (Int.ofNat 0)), (V.i IntKind.u8 (Int.ofNat 0)), (V.i IntKind.u8 (Int.ofNat 0)), (V.i IntKind.u8 (Int.ofNat 0)), (V.i IntKind.u8 (Int.ofNat 0)), (V.i IntKind.u8 (Int.ofNat 0)), (V.i IntKind.u8 (Int.ofNat 0)), (V.i IntKind.u8 (Int.ofNat 0)), (V.i IntKind.u8 (Int.ofNat 0))]))]) s88_14)
noncomputable abbrev b88 : CC := (CC.seq (CC.region [(wB 2 (doMove (O.c (V.s 0 0))))]) s88_15)
theorem c88 : compFn Try.prog 88 = ⟨27, b88, [(Rs.tmp (slOf 2))]⟩ := by kernel_rfl
noncomputable abbrev s96_0 : CC := (CC.seq (CC.region [(wB 2 (doMove (oN 0))), (wB 3 (doMove (oN 0))), (wB 4 (doMove (oN 12)))]) CC.ret)
noncomputable abbrev s96_1 : CC := (CC.cond (tm 10) s96_0 CC.skip)
noncomputable abbrev s96_2 : CC := (CC.seq (CC.region [(wB 9 (doMove (tm 0))), (wB 10 (doSCmp eqS (tm 9) (O.c (V.s 0 0))))]) s96_1)
noncomputable abbrev s96_3 : CC := (CC.seq (CC.region [(wB 2 (doMove (oN 0))), (wB 3 (doMove (oN 0))), (wB 4 (doMove (oN 10)))]) CC.ret)
noncomputable abbrev s96_4 : CC := (CC.cond (tm 15) s96_3 CC.skip)
noncomputable abbrev s96_5 : CC := (CC.seq (CC.region [(wB 14 (doMove (tm 5))), (wB 15 (bin2 fGtr (tm 14) (oN 8)))]) s96_4)
noncomputable abbrev s96_6 : CC := (CC.seq (CC.region [(wB 2 (doMove (oN 0))), (wB 3 (doMove (oN 0))), (wB 4 (doMove (oN 12)))]) CC.ret)
noncomputable abbrev s96_7 : CC := (CC.cond (tm 21) s96_6 CC.skip)
noncomputable abbrev s96_8 : CC := (CC.seq (CC.region [(wB 18 (doMove (tm 6))), (wB 19 (doMove (tm 0))), (wB 20 (doLenS (tm 19))), (wB 21 (bin2 fGtr (tm 18) (tm 20)))]) s96_7)
noncomputable abbrev s96_9 : CC := (CC.seq (CC.region [(wB 2 (doMove (oN 0))), (wB 3 (doMove (oN 0))), (wB 4 (doMove (oN 10)))]) CC.ret)
noncomputable abbrev s96_10 : CC := (CC.cond (tm 30) s96_9 CC.skip)
noncomputable abbrev s96_11 : CC := (CC.seq (CC.region [(wB 29 (doMove (tm 8))), (wB 30 (doNot (tm 29)))]) s96_10)
noncomputable abbrev s96_12 : CC := (CC.seq (CC.region [(wB 31 (doMove (tm 7))), (wB 32 (doMove (tm 6))), (wB 2 (doMove (tm 31))), (wB 3 (doMove (tm 32))), (wB 4 (doMove (oN 0)))]) CC.ret)
noncomputable abbrev s96_13 : CC := (CC.seq s96_11 s96_12)
noncomputable abbrev s96_14 : CC := (CC.seq (CC.region [(wB 23 (doMove (tm 0))), (wB 24 (doMove (tm 6))), (wB 25 (doSSlice (tm 23) (some (oN 1)) (some (tm 24)))), (wB 26 (doCall 103 [(tm 25)])), (wB 22 (doMove (tm 26))), (wB 27 (doExtract 0 (tm 22))), (wB 28 (doExtract 1 (tm 22))), (wB 7 (doMove (tm 27))), (wB 8 (doMove (tm 28)))]) s96_13)
noncomputable abbrev s96_15 : CC := (CC.seq s96_8 s96_14)
noncomputable abbrev s96_16 : CC := (CC.seq (CC.region [(wB 16 (doMove (tm 5))), (wB 17 (bin2 fAdd (oN 1) (tm 16))), (wB 6 (doMove (tm 17)))]) s96_15)
noncomputable abbrev s96_17 : CC := (CC.seq s96_5 s96_16)
noncomputable abbrev s96_18 : CC := (CC.seq (CC.region [(wB 11 (doMove (tm 0))), (wB 12 (doSIndex (tm 11) (oN 0))), (wB 13 (doConv IntKind.i64 (tm 12))), (wB 5 (doMove (tm 13)))]) s96_17)
noncomputable abbrev s96_19 : CC := (CC.seq s96_2 s96_18)
noncomputable abbrev b96 : CC := (CC.seq (CC.region [(wB 2 (doMove (oN 0))), (wB 3 (doMove (oN 0))), (wB 4 (doMove (oN 0)))]) s96_19)
theorem c96 : compFn Try.prog 96 = ⟨33, b96, [(Rs.tmp (slOf 2)), (Rs.tmp (slOf 3)), (Rs.tmp (slOf 4))]⟩ := by kernel_rfl
noncomputable abbrev s103_0 : CC := (CC.cond (tm 10) CC.skip (CC.exit 0))
noncomputable abbrev s103_1 : CC := (CC.seq (CC.region [(wB 7 (doMove (tm 5))), (wB 8 (doMove (tm 0))), (wB 9 (doLenS (tm 8))), (wB 10 (bin2 fLss (tm 7) (tm 9)))]) s103_0)
noncomputable abbrev s103_2 : CC := (CC.cond (tm 22) (CC.exit 0) CC.skip)
noncomputable abbrev s103_3 : CC := (CC.seq (CC.region [(wB 23 (doMove (tm 4))), (wB 24 (bin2 fGtr (tm 23) (oN 36028797018963967))), (wB 22 (doMove (tm 24)))]) s103_2)
noncomputable abbrev s103_4 : CC := (CC.cond (tm 15) (CC.exit 0) s103_3)
noncomputable abbrev s103_5 : CC := (CC.seq (CC.region [(wB 16 (doMove (tm 5))), (wB 17 (bin2 fEql (tm 16) (oN 0))), (wB 18 (doMove (tm 17))), (wG 18 true 19 (doMove (tm 6))), (wG 18 true 20 (bin2 fEql (tm 19) (oN 0))), (wB 21 (doPick (tm 18) (tm 20) (O.c (V.b Bool.false)))), (wB 15 (doMove (tm 21)))]) s103_4)
noncomputable abbrev s103_6 : CC := (CC.block 2 s103_5)
noncomputable abbrev s103_7 : CC := (CC.region [(wB 29 (doMove (tm 5))), (wB 30 (bin2 fAdd (tm 29) (oN 1))), (wB 5 (doMove (tm 30)))])
noncomputable abbrev s103_8 : CC := (CC.seq (CC.region [(wB 25 (doMove (tm 4))), (wB 26 (doShift shlF (tm 25) (O.c (V.i IntKind.u64 (Int.ofNat 8))))), (wB 27 (doMove (tm 6))), (wB 28 (bin2 fOr (tm 26) (tm 27))), (wB 4 (doMove (tm 28)))]) s103_7)
noncomputable abbrev s103_9 : CC := (CC.seq s103_6 s103_8)
noncomputable abbrev s103_10 : CC := (CC.seq (CC.region [(wB 11 (doMove (tm 0))), (wB 12 (doMove (tm 5))), (wB 13 (doSIndex (tm 11) (tm 12))), (wB 14 (doConv IntKind.i64 (tm 13))), (wB 6 (doMove (tm 14)))]) s103_9)
noncomputable abbrev s103_11 : CC := (CC.block 1 s103_10)
noncomputable abbrev l103_0 : CC := (CC.seq s103_1 s103_11)
noncomputable abbrev s103_12 : CC := (CC.loop l103_0)
noncomputable abbrev s103_13 : CC := (CC.block 0 s103_12)
noncomputable abbrev s103_14 : CC := (CC.seq (CC.region [(wB 2 (doMove (oN 0))), (wB 3 (doMove (O.c (V.b Bool.false))))]) CC.ret)
noncomputable abbrev s103_15 : CC := (CC.cond (tm 34) s103_14 CC.skip)
noncomputable abbrev s103_16 : CC := (CC.seq (CC.region [(wB 31 (doMove (tm 5))), (wB 32 (doMove (tm 0))), (wB 33 (doLenS (tm 32))), (wB 34 (bin2 fLss (tm 31) (tm 33)))]) s103_15)
noncomputable abbrev s103_17 : CC := (CC.seq (CC.region [(wB 35 (doMove (tm 4))), (wB 2 (doMove (tm 35))), (wB 3 (doMove (O.c (V.b Bool.true))))]) CC.ret)
noncomputable abbrev s103_18 : CC := (CC.seq s103_16 s103_17)
noncomputable abbrev s103_19 : CC := (CC.seq s103_13 s103_18)
noncomputable abbrev s103_20 : CC := (CC.seq CC.skip s103_19)
noncomputable abbrev s103_21 : CC := (CC.seq (CC.region [(wB 4 (doMove (oN 0))), (wB 5 (doMove (oN 0)))]) s103_20)
noncomputable abbrev b103 : CC := (CC.seq (CC.region [(wB 2 (doMove (oN 0))), (wB 3 (doMove (O.c (V.b Bool.false))))]) s103_21)
theorem c103 : compFn Try.prog 103 = ⟨36, b103, [(Rs.tmp (slOf 2)), (Rs.tmp (slOf 3))]⟩ := by kernel_rfl
noncomputable abbrev s91_0 : CC := (CC.seq (CC.region [(wB 3 (doMove (tm 0))), (wB 4 (doLenS (tm 3))), (wB 5 (doCall 88 [(tm 4)])), (wB 6 (doMove (tm 0))), (wB 7 (doConcat (tm 5) (tm 6))), (wB 2 (doMove (tm 7)))]) CC.ret)
noncomputable abbrev b91 : CC := (CC.seq (CC.region [(wB 2 (doMove (O.c (V.s 0 0))))]) s91_0)
theorem c91 : compFn Try.prog 91 = ⟨8, b91, [(Rs.tmp (slOf 2))]⟩ := by kernel_rfl
noncomputable abbrev s104_0 : CC := (CC.seq (CC.region [(wB 17 (doMove (tm 7))), (wB 2 (doMove (O.c (V.s 0 0)))), (wB 3 (doMove (oN 0))), (wB 4 (doMove (tm 17)))]) CC.ret)
noncomputable abbrev s104_1 : CC := (CC.cond (tm 16) s104_0 CC.skip)
noncomputable abbrev s104_2 : CC := (CC.seq (CC.region [(wB 15 (doMove (tm 7))), (wB 16 (bin2 fNeq (tm 15) (oN 0)))]) s104_1)
noncomputable abbrev s104_3 : CC := (CC.seq (CC.region [(wB 2 (doMove (O.c (V.s 0 0)))), (wB 3 (doMove (oN 0))), (wB 4 (doMove (oN 12)))]) CC.ret)
noncomputable abbrev s104_4 : CC := (CC.cond (tm 24) s104_3 CC.skip)
noncomputable abbrev s104_5 : CC := (CC.seq (CC.region [(wB 21 (doMove (tm 5))), (wB 22 (doMove (tm 8))), (wB 23 (doLenS (tm 22))), (wB 24 (bin2 fGtr (tm 21) (tm 23)))]) s104_4)
noncomputable abbrev s104_6 : CC := (CC.seq (CC.region [(wB 25 (doMove (tm 8))), (wB 26 (doMove (tm 5))), (wB 27 (doSSlice (tm 25) none (some (tm 26)))), (wB 28 (doMove (tm 6))), (wB 29 (doMove (tm 5))), (wB 30 (bin2 fAdd (tm 28) (tm 29))), (wB 2 (doMove (tm 27))), (wB 3 (doMove (tm 30))), (wB 4 (doMove (oN 0)))]) CC.ret)
noncomputable abbrev s104_7 : CC := (CC.seq s104_5 s104_6)
noncomputable abbrev s104_8 : CC := (CC.seq (CC.region [(wB 18 (doMove (tm 0))), (wB 19 (doMove (tm 6))), (wB 20 (doSSlice (tm 18) (some (tm 19)) none)), (wB 8 (doMove (tm 20)))]) s104_7)
noncomputable abbrev s104_9 : CC := (CC.seq s104_2 s104_8)
noncomputable abbrev s104_10 : CC := (CC.seq (CC.region [(wB 10 (doMove (tm 0))), (wB 11 (doCall 96 [(tm 10)])), (wB 9 (doMove (tm 11))), (wB 12 (doExtract 0 (tm 9))), (wB 13 (doExtract 1 (tm 9))), (wB 14 (doExtract 2 (tm 9))), (wB 5 (doMove (tm 12))), (wB 6 (doMove (tm 13))), (wB 7 (doMove (tm 14)))]) s104_9)
noncomputable abbrev b104 : CC := (CC.seq (CC.region [(wB 2 (doMove (O.c (V.s 0 0)))), (wB 3 (doMove (oN 0))), (wB 4 (doMove (oN 0)))]) s104_10)
theorem c104 : compFn Try.prog 104 = ⟨31, b104, [(Rs.tmp (slOf 2)), (Rs.tmp (slOf 3)), (Rs.tmp (slOf 4))]⟩ := by kernel_rfl
end Go.Proofs.Ytjlhfoadabkahaa

set_option linter.all false
namespace Go.Ev
open Go
/-- the bytes of a number, the highest first, no 0 ahead -/
def digs (n : Nat) : List UInt8 := if h : n = 0 then [] else digs (n / 256) ++ [UInt8.ofNat (n % 256)]
decreasing_by omega
theorem digs_zero : digs 0 = [] := by rw [digs]; simp
theorem digs_pos {n : Nat} (h : n ≠ 0) : digs n = digs (n / 256) ++ [UInt8.ofNat (n % 256)] := by rw [digs]; simp [h]
theorem digs_len : ∀ (k n : Nat), n < 256 ^ k → (digs n).length ≤ k
  | 0, n, h => by
    have : n = 0 := by simp at h; exact h
    subst this; rw [digs_zero]; simp
  | k + 1, n, h => by
    by_cases hn : n = 0
    · subst hn; rw [digs_zero]; simp
    · rw [digs_pos hn, List.length_append]
      have := digs_len k (n / 256) (by rw [Nat.pow_succ] at h; omega)
      simp; exact this
theorem pk_digs (n : Nat) : pk (digs n) = n := by
  induction n using Nat.strongRecOn with
  | _ n ih =>
    by_cases hn : n = 0
    · subst hn; rw [digs_zero]; rfl
    · rw [digs_pos hn, pk_append, ih (n / 256) (by omega)]
      simp [pk]
      omega
theorem digs_head (n : Nat) : (digs n).head? ≠ some 0 := by
  induction n using Nat.strongRecOn with
  | _ n ih =>
    by_cases hn : n = 0
    · subst hn; rw [digs_zero]; simp
    · rw [digs_pos hn]
      by_cases h2 : n / 256 = 0
      · rw [h2, digs_zero]
        intro h
        have h3 : UInt8.ofNat (n % 256) = 0 := by simpa using h
        have h4 := congrArg UInt8.toNat h3
        simp at h4
        omega
      · have := ih (n / 256) (by omega)
        cases hd : digs (n / 256) with
        | nil =>
          have := pk_digs (n / 256)
          rw [hd] at this
          exact absurd this.symm h2
        | cons c l => rw [hd] at this; simpa using this
/-- digits that are no number -/
def badD (l : List UInt8) : Prop := l.head? = some 0 ∨ 9223372036854775808 ≤ pk l
instance (l : List UInt8) : Decidable (badD l) := by unfold badD; exact inferInstance
/-- what reading digits makes -/
def numR (l : List UInt8) : V := if badD l then .tu [.i .i64 0, .b false] else .tu [.i .i64 (pk l : Int), .b true]
theorem numR_bad {l : List UInt8} (h : badD l) : numR l = .tu [.i .i64 0, .b false] := if_pos h
theorem numR_ok {l : List UInt8} (h : ¬ badD l) : numR l = .tu [.i .i64 (pk l : Int), .b true] := if_neg h
/-- a number's cell -/
def numB (n : Nat) : List UInt8 := UInt8.ofNat (digs n).length :: digs n
def textB (l : List UInt8) : List UInt8 := numB l.length ++ l
theorem digs_len8 {n : Nat} (h : n ≤ 9223372036854775807) : (digs n).length ≤ 8 := digs_len 8 n (by omega)
theorem numB_len {n : Nat} (h : n ≤ 9223372036854775807) : (numB n).length ≤ 9 := by
  have := digs_len8 h
  show (digs n).length + 1 ≤ 9
  omega
/-- what stands at the front -/
def takeN : List UInt8 → Int × Int × Int
  | [] => (0, 0, 12)
  | w :: r => if 8 < w.toNat then (0, 0, 10) else if r.length < w.toNat then (0, 0, 12) else
    if (r.take w.toNat).head? = some 0 ∨ 9223372036854775808 ≤ pk (r.take w.toNat) then (0, 0, 10) else (((pk (r.take w.toNat) : Nat) : Int), ((w.toNat + 1 : Nat) : Int), 0)
def takeT (l : List UInt8) : List UInt8 × Int × Int :=
  if (takeN l).2.2 = 0 then
    if ((l.drop (takeN l).2.1.toNat).length : Int) < (takeN l).1 then ([], 0, 12) else ((l.drop (takeN l).2.1.toNat).take (takeN l).1.toNat, (takeN l).2.1 + (takeN l).1, 0)
  else ([], 0, (takeN l).2.2)
theorem takeN_cons (w : UInt8) (r : List UInt8) : takeN (w :: r) = if 8 < w.toNat then (0, 0, 10) else if r.length < w.toNat then (0, 0, 12) else
    if (r.take w.toNat).head? = some 0 ∨ 9223372036854775808 ≤ pk (r.take w.toNat) then (0, 0, 10) else (((pk (r.take w.toNat) : Nat) : Int), ((w.toNat + 1 : Nat) : Int), 0) := rfl
theorem takeN_big {w : UInt8} {r : List UInt8} (h : 8 < w.toNat) : takeN (w :: r) = (0, 0, 10) := by rw [takeN_cons, if_pos h]
theorem takeN_short {w : UInt8} {r : List UInt8} (h : w.toNat ≤ 8) (h1 : r.length < w.toNat) : takeN (w :: r) = (0, 0, 12) := by rw [takeN_cons, if_neg (by omega), if_pos h1]
theorem takeN_bad {w : UInt8} {r : List UInt8} (h : w.toNat ≤ 8) (h1 : w.toNat ≤ r.length) (h2 : (r.take w.toNat).head? = some 0 ∨ 9223372036854775808 ≤ pk (r.take w.toNat)) : takeN (w :: r) = (0, 0, 10) := by
  rw [takeN_cons, if_neg (by omega), if_neg (by omega), if_pos h2]
theorem takeN_ok {w : UInt8} {r : List UInt8} (h : w.toNat ≤ 8) (h1 : w.toNat ≤ r.length) (h2 : ¬ ((r.take w.toNat).head? = some 0 ∨ 9223372036854775808 ≤ pk (r.take w.toNat))) : takeN (w :: r) = (((pk (r.take w.toNat) : Nat) : Int), ((w.toNat + 1 : Nat) : Int), 0) := by
  rw [takeN_cons, if_neg (by omega), if_neg (by omega), if_neg h2]
/-- what it may be -/
theorem takeN_range (l : List UInt8) : (takeN l = (0, 0, 10) ∨ takeN l = (0, 0, 12)) ∨ ∃ n k : Nat, takeN l = ((n : Int), (k : Int), 0) ∧ n ≤ 9223372036854775807 ∧ 1 ≤ k ∧ k ≤ 9 ∧ k ≤ l.length := by
  cases l with
  | nil => exact .inl (.inr rfl)
  | cons w r =>
    by_cases h : 8 < w.toNat
    · exact .inl (.inl (takeN_big h))
    · by_cases h1 : r.length < w.toNat
      · exact .inl (.inr (takeN_short (by omega) h1))
      · by_cases h2 : (r.take w.toNat).head? = some 0 ∨ 9223372036854775808 ≤ pk (r.take w.toNat)
        · exact .inl (.inl (takeN_bad (by omega) (by omega) h2))
        · refine .inr ⟨_, _, takeN_ok (by omega) (by omega) h2, by omega, by omega, by omega, by simp; omega⟩
/-- the value of digits, byte by byte -/
theorem pk_take {l : List UInt8} {i : Nat} (h : i < l.length) : pk (l.take (i + 1)) = pk (l.take i) * 256 + (l.getD i 0).toNat := by
  have e : l.getD i 0 = l[i] := by simp [List.getD, h]
  rw [List.take_succ_eq_append_getElem h, pk_append, e]
  simp [pk]
theorem takeN_numB {n : Nat} (h : n ≤ 9223372036854775807) (more : List UInt8) : takeN (numB n ++ more) = ((n : Int), ((numB n).length : Int), 0) := by
  have hl := digs_len8 h
  have e1 : (UInt8.ofNat (digs n).length).toNat = (digs n).length := by simp; omega
  have e2 : (digs n ++ more).take (digs n).length = digs n := by simp
  have : takeN (numB n ++ more) = (((pk ((digs n ++ more).take (UInt8.ofNat (digs n).length).toNat) : Nat) : Int), (((UInt8.ofNat (digs n).length).toNat + 1 : Nat) : Int), 0) := by
    refine takeN_ok (by omega) (by rw [e1]; simp) ?_
    have e3 : (digs n).append more = digs n ++ more := rfl
    rw [e1, e3, e2, pk_digs]
    rintro (h2 | h2)
    · exact digs_head n h2
    · omega
  rw [this, e1, e2, pk_digs]
  rfl
theorem takeT_textB {l more : List UInt8} (h : l.length ≤ 9223372036854775807) : takeT (textB l ++ more) = (l, ((textB l).length : Int), 0) := by
  have e : takeN (textB l ++ more) = ((l.length : Int), ((numB l.length).length : Int), 0) := by
    unfold textB; rw [List.append_assoc]; exact takeN_numB h _
  unfold takeT
  rw [e]
  simp only [if_true]
  have e2 : (textB l ++ more).drop (((numB l.length).length : Nat) : Int).toNat = l ++ more := by
    rw [Int.toNat_natCast]; unfold textB; rw [List.append_assoc]; simp
  rw [e2, if_neg (by simp; omega)]
  rw [Int.toNat_natCast]
  unfold textB
  simp
/-- three results -/
def tri (a : Int × Int × Int) : V := .tu [.i .i64 a.1, .i .i64 a.2.1, .i .i64 a.2.2]
def triT (a : List UInt8 × Int × Int) : V := .tu [sv a.1, .i .i64 a.2.1, .i .i64 a.2.2]
theorem u8_mod (n : Nat) : UInt8.ofNat (n % 256) = UInt8.ofNat n := UInt8.toNat_inj.1 (by simp)
theorem drop_set1 {α : Type} (xs : List α) (j : Nat) (y : α) (h : j < xs.length) : (xs.set j y).drop j = y :: xs.drop (j + 1) := by
  rw [List.drop_eq_getElem_cons (by rw [List.length_set]; exact h), List.drop_set_of_lt (by omega)]
  simp
end Go.Ev

set_option maxRecDepth 100000
set_option maxHeartbeats 8000000
set_option linter.all false
namespace Go.Proofs.Ytjlhfoadabkahaa
open Go Go.Ev
theorem or_add {n d : Nat} (h : d < 256) : n * 2 ^ 8 ||| d = n * 256 + d := by
  have := Nat.two_pow_add_eq_or_of_lt (i := 8) (b := d) (by omega) n
  rw [Nat.mul_comm n, ← this]
theorem pk_ge (l : List UInt8) (i : Nat) (h : i ≤ l.length) : pk (l.take i) * 256 ^ (l.length - i) ≤ pk l := by
  have e := pk_append (l.take i) (l.drop i)
  rw [List.take_append_drop, List.length_drop] at e
  omega
theorem pk_bad {l : List UInt8} {i : Nat} (h8 : l.length ≤ 8) (hi : i < l.length) (h : 36028797018963967 < pk (l.take i)) : 9223372036854775808 ≤ pk l := by
  have h1 := pk_ge l i (by omega)
  have h2 : 256 ≤ 256 ^ (l.length - i) := by
    have := Nat.pow_le_pow_right (n := 256) (by omega) (show 1 ≤ l.length - i by omega)
    simpa using this
  have h3 := Nat.mul_le_mul (show 36028797018963968 ≤ pk (l.take i) by omega) h2
  omega
theorem head_zero {l : List UInt8} (h : (l.getD 0 0).toNat = 0) (h0 : 0 < l.length) : l.head? = some 0 := by
  cases l with
  | nil => simp at h0
  | cons c r => have : c = 0 := UInt8.toNat_inj.1 h
                rw [this]; rfl
theorem head_pos {l : List UInt8} (h : ¬ (l.getD 0 0).toNat = 0) : l.head? ≠ some 0 := by
  cases l with
  | nil => simp
  | cons c r => intro h0; have : c = 0 := by simpa using h0
                subst this; exact h rfl
theorem number_ok {h : H} {l : List UInt8} (h8 : l.length ≤ 8) : FnOk Try.prog 103 [sv l] h fun y h' => y = numR l ∧ h' = h := by
  refine fn_go c103 (by intro hb; cases hb) (by simp) (by simp) fun Q hQ => ?_
  simp only [slotsF, Nat.reduceAdd]
  repeat' (first
    | refine St.h ?_
    | simp (disch := first | omega | (simp only [lnv]; omega)) only [wlk, ↓get_put', Nat.reduceEqDiff, Nat.reduceLT, ↓reduceIte, Int.reduceToNat, Nat.reducePow, Nat.min_eq_left, Nat.reduceAdd, Nat.reduceMul, Int.reduceAdd, Int.reduceSub, Int.reduceNeg, Int.reduceMul, Int.reduceEq, Int.reduceLT, Int.reduceLE, Nat.reduceSub, Int.reduceNatCast, Nat.reduceLeDiff]
    | (with_reducible (first | apply cd_split | apply gd_split)) <;> (intro hc; (try simp only [hcn] at hc); (try simp only [hc]); (try simp only [hcl] at hc); try omega))
  refine Ok.lp (fun m t g => ∃ i : Nat, i ≤ l.length ∧ m = l.length - i ∧ g = h ∧ get 0 t = sv l ∧ get 4 t = .i .i64 ((pk (l.take i) : Nat) : Int) ∧ get 5 t = .i .i64 (i : Int) ∧ (0 < i → l.head? ≠ some 0) ∧ pk (l.take i) ≤ 9223372036854775807) l.length ?_ ?_
  · simp (disch := first | omega | (simp only [lnv]; omega)) only [wlk, ↓get_put', Nat.reduceEqDiff, Nat.reduceLT, ↓reduceIte, Int.reduceToNat, Nat.reducePow, Nat.min_eq_left, Nat.reduceAdd, Nat.reduceMul, Int.reduceAdd, Int.reduceSub, Int.reduceNeg, Int.reduceMul, Int.reduceEq, Int.reduceLT, Int.reduceLE, Nat.reduceSub, Int.reduceNatCast, Nat.reduceLeDiff]
    exact ⟨0, by omega, rfl, trivial, trivial, rfl, rfl, fun h => absurd h (by omega), by simp [pk]⟩
  · rintro I hI m t g ⟨i, hi', rfl, rfl, f0, f4, f5, hF, hV⟩
    have hgd := (l.getD i 0).toNat_lt
    repeat' (first
      | refine St.h ?_
      | simp (disch := first | omega | (simp only [lnv]; omega)) only [wlk, ↓get_put', Nat.reduceEqDiff, Nat.reduceLT, ↓reduceIte, Int.reduceToNat, Nat.reducePow, Nat.min_eq_left, Nat.reduceAdd, Nat.reduceMul, Int.reduceAdd, Int.reduceSub, Int.reduceNeg, Int.reduceMul, Int.reduceEq, Int.reduceLT, Int.reduceLE, Nat.reduceSub, Int.reduceNatCast, Nat.reduceLeDiff, *]
      | (with_reducible (first | apply cd_split | apply gd_split)) <;> (intro hc; (try simp only [hcn] at hc); (try simp only [hc]); (try simp only [hcl] at hc); try omega))
    · obtain rfl : i = 0 := by omega
      exact ⟨(numR_bad (.inl (head_zero (by omega) (by omega)))).symm, trivial⟩
    · exact ⟨(numR_bad (.inr (pk_bad h8 (by omega) (by omega : 36028797018963967 < pk (l.take i))))).symm, trivial⟩
    · obtain rfl : i = 0 := by omega
      have n1 : ((pk (l.take 0) : Int) * 256).toNat ||| (l.getD 0 0).toNat = pk (l.take 1) := by
        rw [show ((pk (l.take 0) : Int) * 256).toNat = pk (l.take 0) * 2 ^ 8 by omega, or_add (by omega), pk_take (by omega)]
      have n2 : pk (l.take 1) ≤ 9223372036854775807 := by rw [pk_take (by omega)]; omega
      refine lp_next hI (l.length - (0 + 1)) (by omega) ⟨0 + 1, by omega, rfl, rfl, ?_, ?_, ?_, fun _ => head_pos (by omega), n2⟩
      · simp (disch := first | omega | (simp only [lnv]; omega)) only [wlk, ↓get_put', Nat.reduceEqDiff, Nat.reduceLT, ↓reduceIte, Int.reduceToNat, Nat.reducePow, Nat.min_eq_left, Nat.reduceAdd, Nat.reduceMul, Int.reduceAdd, Int.reduceSub, Int.reduceNeg, Int.reduceMul, Int.reduceEq, Int.reduceLT, Int.reduceLE, Nat.reduceSub, Int.reduceNatCast, Nat.reduceLeDiff, *]
      · simp (disch := first | omega | (simp only [lnv]; omega)) only [wlk, ↓get_put', Nat.reduceEqDiff, Nat.reduceLT, ↓reduceIte, Int.reduceToNat, Nat.reducePow, Nat.min_eq_left, Nat.reduceAdd, Nat.reduceMul, Int.reduceAdd, Int.reduceSub, Int.reduceNeg, Int.reduceMul, Int.reduceEq, Int.reduceLT, Int.reduceLE, Nat.reduceSub, Int.reduceNatCast, Nat.reduceLeDiff, *]
      · simp (disch := first | omega | (simp only [lnv]; omega)) only [wlk, ↓get_put', Nat.reduceEqDiff, Nat.reduceLT, ↓reduceIte, Int.reduceToNat, Nat.reducePow, Nat.min_eq_left, Nat.reduceAdd, Nat.reduceMul, Int.reduceAdd, Int.reduceSub, Int.reduceNeg, Int.reduceMul, Int.reduceEq, Int.reduceLT, Int.reduceLE, Nat.reduceSub, Int.reduceNatCast, Nat.reduceLeDiff, *]
    · exact ⟨(numR_bad (.inr (pk_bad h8 (by omega) (by omega : 36028797018963967 < pk (l.take i))))).symm, trivial⟩
    · have n1 : ((pk (l.take i) : Int) * 256).toNat ||| (l.getD i 0).toNat = pk (l.take (i + 1)) := by
        rw [show ((pk (l.take i) : Int) * 256).toNat = pk (l.take i) * 2 ^ 8 by omega, or_add (by omega), pk_take (by omega)]
      have n2 : pk (l.take (i + 1)) ≤ 9223372036854775807 := by rw [pk_take (by omega)]; omega
      refine lp_next hI (l.length - (i + 1)) (by omega) ⟨i + 1, by omega, rfl, rfl, ?_, ?_, ?_, fun _ => hF (by omega), n2⟩
      · simp (disch := first | omega | (simp only [lnv]; omega)) only [wlk, ↓get_put', Nat.reduceEqDiff, Nat.reduceLT, ↓reduceIte, Int.reduceToNat, Nat.reducePow, Nat.min_eq_left, Nat.reduceAdd, Nat.reduceMul, Int.reduceAdd, Int.reduceSub, Int.reduceNeg, Int.reduceMul, Int.reduceEq, Int.reduceLT, Int.reduceLE, Nat.reduceSub, Int.reduceNatCast, Nat.reduceLeDiff, *]
      · simp (disch := first | omega | (simp only [lnv]; omega)) only [wlk, ↓get_put', Nat.reduceEqDiff, Nat.reduceLT, ↓reduceIte, Int.reduceToNat, Nat.reducePow, Nat.min_eq_left, Nat.reduceAdd, Nat.reduceMul, Int.reduceAdd, Int.reduceSub, Int.reduceNeg, Int.reduceMul, Int.reduceEq, Int.reduceLT, Int.reduceLE, Nat.reduceSub, Int.reduceNatCast, Nat.reduceLeDiff, *]
      · simp (disch := first | omega | (simp only [lnv]; omega)) only [wlk, ↓get_put', Nat.reduceEqDiff, Nat.reduceLT, ↓reduceIte, Int.reduceToNat, Nat.reducePow, Nat.min_eq_left, Nat.reduceAdd, Nat.reduceMul, Int.reduceAdd, Int.reduceSub, Int.reduceNeg, Int.reduceMul, Int.reduceEq, Int.reduceLT, Int.reduceLE, Nat.reduceSub, Int.reduceNatCast, Nat.reduceLeDiff, *]; rfl
    · have : i = l.length := by omega
      subst this
      rw [List.take_length] at *
      refine ⟨(numR_ok ?_).symm, trivial⟩
      rintro (h1 | h1)
      · cases l with
        | nil => cases h1
        | cons c r => exact hF (by simp) h1
      · omega
theorem takeNum_ok {h : H} {l : List UInt8} (hl : l.length ≤ 1000000) : FnOk Try.prog 96 [sv l] h fun y h' => y = tri (takeN l) ∧ h' = h := by
  refine fn_go c96 (by intro hb; cases hb) (by simp) (by simp) fun Q hQ => ?_
  simp only [slotsF, Nat.reduceAdd]
  cases l with
  | nil =>
    repeat' (first
      | refine St.h ?_
      | simp (disch := first | omega | (simp only [lnv]; omega)) only [wlk, ↓get_put', Nat.reduceEqDiff, Nat.reduceLT, ↓reduceIte, Int.reduceToNat, Nat.reducePow, Nat.min_eq_left, Nat.reduceAdd, Nat.reduceMul, Int.reduceAdd, Int.reduceSub, Int.reduceNeg, Int.reduceMul, Int.reduceEq, Int.reduceLT, Int.reduceLE, Nat.reduceSub, Int.reduceNatCast, Nat.reduceLeDiff, *]
      | (with_reducible (first | apply cd_split | apply gd_split)) <;> (intro hc; (try simp only [hcn] at hc); (try simp only [hc]); (try simp only [hcl] at hc); try omega))
    exact ⟨rfl, trivial⟩
  | cons w r =>
  have hlen : (w :: r).length = r.length + 1 := rfl
  have hw := w.toNat_lt
  have hgd : (w :: r).getD 0 0 = w := rfl
  have d0 : (w :: r = []) = False := by simp
  repeat' (first
    | refine St.h ?_
    | simp (disch := first | omega | (simp only [lnv]; omega)) only [wlk, ↓get_put', Nat.reduceEqDiff, Nat.reduceLT, ↓reduceIte, Int.reduceToNat, Nat.reducePow, Nat.min_eq_left, Nat.reduceAdd, Nat.reduceMul, Int.reduceAdd, Int.reduceSub, Int.reduceNeg, Int.reduceMul, Int.reduceEq, Int.reduceLT, Int.reduceLE, Nat.reduceSub, Int.reduceNatCast, Nat.reduceLeDiff, *]
    | (with_reducible (first | apply cd_split | apply gd_split)) <;> (intro hc; (try simp only [hcn] at hc); (try simp only [hc]); (try simp only [hcl] at hc); try omega))
  · exact ⟨by rw [takeN_big (by omega)]; rfl, trivial⟩
  · exact ⟨by rw [takeN_short (by omega) (by omega)]; rfl, trivial⟩
  have hsl : ((w :: r).take (1 + (w.toNat : Int)).toNat).drop 1 = r.take w.toNat := by
    rw [show (1 + (w.toNat : Int)).toNat = w.toNat + 1 by omega]; simp
  rw [hsl]
  refine CL.mk (number_ok (by rw [List.length_take]; omega)) ?_
  rintro _ _ ⟨rfl, rfl⟩
  by_cases hb : badD (r.take w.toNat)
  · rw [numR_bad hb]
    repeat' (first
      | refine St.h ?_
      | simp (disch := first | omega | (simp only [lnv]; omega)) only [wlk, ↓get_put', Nat.reduceEqDiff, Nat.reduceLT, ↓reduceIte, Int.reduceToNat, Nat.reducePow, Nat.min_eq_left, Nat.reduceAdd, Nat.reduceMul, Int.reduceAdd, Int.reduceSub, Int.reduceNeg, Int.reduceMul, Int.reduceEq, Int.reduceLT, Int.reduceLE, Nat.reduceSub, Int.reduceNatCast, Nat.reduceLeDiff, *]
      | (with_reducible (first | apply cd_split | apply gd_split)) <;> (intro hc; (try simp only [hcn] at hc); (try simp only [hc]); (try simp only [hcl] at hc); try omega))
    exact ⟨by rw [takeN_bad (by omega) (by omega) hb]; rfl, trivial⟩
  · rw [numR_ok hb]
    repeat' (first
      | refine St.h ?_
      | simp (disch := first | omega | (simp only [lnv]; omega)) only [wlk, ↓get_put', Nat.reduceEqDiff, Nat.reduceLT, ↓reduceIte, Int.reduceToNat, Nat.reducePow, Nat.min_eq_left, Nat.reduceAdd, Nat.reduceMul, Int.reduceAdd, Int.reduceSub, Int.reduceNeg, Int.reduceMul, Int.reduceEq, Int.reduceLT, Int.reduceLE, Nat.reduceSub, Int.reduceNatCast, Nat.reduceLeDiff, *]
      | (with_reducible (first | apply cd_split | apply gd_split)) <;> (intro hc; (try simp only [hcn] at hc); (try simp only [hc]); (try simp only [hcl] at hc); try omega))
    refine ⟨?_, trivial⟩
    rw [takeN_ok (by omega) (by omega) hb, show (1 : Int) + (w.toNat : Int) = ((w.toNat + 1 : Nat) : Int) by omega]; rfl
theorem num_ok {h : H} {n : Int} (hn : n ≤ 9223372036854775807) (hf : B.val h.floor ≤ B.val h.next) : FnOk Try.prog 88 [.i .i64 n] h fun y h' => y = sv (numB n.toNat) ∧ Stay nowhere h h' := by
  refine fn_go c88 (by intro hb; cases hb) (by simp) (by simp) fun Q hQ => ?_
  simp only [slotsF, Nat.reduceAdd]
  have hN : n.toNat ≤ 9223372036854775807 := by omega
  have h8 := digs_len8 hN
  repeat' (first
    | refine St.h ?_
    | simp (disch := first | omega | (simp only [lnv]; omega)) only [wlk, ↓get_put', Nat.reduceEqDiff, Nat.reduceLT, ↓reduceIte, Int.reduceToNat, Nat.reducePow, Nat.min_eq_left, Nat.reduceAdd, Nat.reduceMul, Int.reduceAdd, Int.reduceSub, Int.reduceNeg, Int.reduceMul, Int.reduceEq, Int.reduceLT, Int.reduceLE, Nat.reduceSub, Int.reduceNatCast, Nat.reduceLeDiff]
    | (with_reducible (first | apply cd_split | apply gd_split)) <;> (intro hc; (try simp only [hcn] at hc); (try simp only [hc]); (try simp only [hcl] at hc); try omega))
  refine AL.own (by simp) hf fun h1 s1 n1 o1 => ?_
  repeat' (first
    | refine St.h ?_
    | simp (disch := first | omega | (simp only [lnv]; omega)) only [wlk, ↓get_put', Nat.reduceEqDiff, Nat.reduceLT, ↓reduceIte, Int.reduceToNat, Nat.reducePow, Nat.min_eq_left, Nat.reduceAdd, Nat.reduceMul, Int.reduceAdd, Int.reduceSub, Int.reduceNeg, Int.reduceMul, Int.reduceEq, Int.reduceLT, Int.reduceLE, Nat.reduceSub, Int.reduceNatCast, Nat.reduceLeDiff, List.length_cons, List.length_nil]
    | (with_reducible (first | apply cd_split | apply gd_split)) <;> (intro hc; (try simp only [hcn] at hc); (try simp only [hc]); (try simp only [hcl] at hc); try omega))
  refine Ok.lp (fun m t g => ∃ (z : Int) (d : List UInt8) (xs : List V), m = z.toNat ∧ z.toNat ≤ 9223372036854775807 ∧ digs z.toNat ++ d = digs n.toNat ∧ get 0 t = .i .i64 z ∧ get 3 t = .p h.next 0 0 9 ∧ get 4 t = .i .i64 ((9 - d.length : Nat) : Int) ∧ Own g h.next xs ∧ xs.length = 9 ∧ xs.drop (9 - d.length) = d.map bv ∧ Stay nowhere h g) n.toNat ?_ ?_
  · simp (disch := first | omega | (simp only [lnv]; omega)) only [wlk, ↓get_put', Nat.reduceEqDiff, Nat.reduceLT, ↓reduceIte, Int.reduceToNat, Nat.reducePow, Nat.min_eq_left, Nat.reduceAdd, Nat.reduceMul, Int.reduceAdd, Int.reduceSub, Int.reduceNeg, Int.reduceMul, Int.reduceEq, Int.reduceLT, Int.reduceLE, Nat.reduceSub, Int.reduceNatCast, Nat.reduceLeDiff]
    refine ⟨n, [], _, rfl, hN, by simp, rfl, trivial, rfl, o1, rfl, rfl, s1⟩
  rintro I hI m t g ⟨z, d, xs, rfl, hz, hD, f0, f3, f4, o, hx, hxd, st⟩
  have hdl : (digs z.toNat).length + d.length ≤ 8 := by rw [← List.length_append, hD]; exact h8
  have ea2 : (((9 - d.length : Nat) : Int) - 1) = ((8 - d.length : Nat) : Int) := by omega
  have ew : (9 : Int) - ((9 - d.length : Nat) : Int) = (d.length : Int) := by omega
  repeat' (first
    | refine St.h ?_
    | simp (disch := first | omega | (simp only [lnv]; omega)) only [wlk, ↓get_put', Nat.reduceEqDiff, Nat.reduceLT, ↓reduceIte, Int.reduceToNat, Nat.reducePow, Nat.min_eq_left, Nat.reduceAdd, Nat.reduceMul, Int.reduceAdd, Int.reduceSub, Int.reduceNeg, Int.reduceMul, Int.reduceEq, Int.reduceLT, Int.reduceLE, Nat.reduceSub, Int.reduceNatCast, Nat.reduceLeDiff, f0, f3, f4, hQ, ea2, ew, wrap_u8m]
    | (with_reducible (first | apply cd_split | apply gd_split)) <;> (intro hc; (try simp only [hcn] at hc); (try simp only [hc]); (try simp only [hcl] at hc); try omega))
  · obtain ⟨c, rfl⟩ := Int.eq_ofNat_of_zero_le (by omega : 0 ≤ z)
    rw [Int.toNat_natCast] at hD hdl hz
    have hc0 : c ≠ 0 := by omega
    have hdp := digs_pos hc0
    have hd1 : (digs c).length = (digs (c / 256)).length + 1 := by rw [hdp]; simp
    refine ST.own (y := bv (UInt8.ofNat (c % 256))) o (by rw [← bv_ofNat]; simp; rfl) rfl (by omega) (by omega) fun g' o' s' => ?_
    repeat' (first
      | refine St.h ?_
      | simp (disch := first | omega | (simp only [lnv]; omega)) only [wlk, ↓get_put', Nat.reduceEqDiff, Nat.reduceLT, ↓reduceIte, Int.reduceToNat, Nat.reducePow, Nat.min_eq_left, Nat.reduceAdd, Nat.reduceMul, Int.reduceAdd, Int.reduceSub, Int.reduceNeg, Int.reduceMul, Int.reduceEq, Int.reduceLT, Int.reduceLE, Nat.reduceSub, Int.reduceNatCast, Nat.reduceLeDiff, f0, f3, f4, ea2]
      | (with_reducible (first | apply cd_split | apply gd_split)) <;> (intro hc; (try simp only [hcn] at hc); (try simp only [hc]); (try simp only [hcl] at hc); try omega))
    have hdrop : (xs.set (8 - d.length) (bv (UInt8.ofNat (c % 256)))).drop (9 - (UInt8.ofNat (c % 256) :: d).length) = (UInt8.ofNat (c % 256) :: d).map bv := by
      rw [show 9 - (UInt8.ofNat (c % 256) :: d).length = 8 - d.length by simp only [List.length_cons]; omega, drop_set1 _ _ _ (by omega), show 8 - d.length + 1 = 9 - d.length by omega, hxd]; rfl
    refine lp_next hI (c / 256) (by omega) ⟨((c / 256 : Nat) : Int), UInt8.ofNat (c % 256) :: d, _, by rw [Int.toNat_natCast], by rw [Int.toNat_natCast]; omega, ?_, ?_, ?_, ?_, o', by rw [List.length_set]; exact hx, hdrop, st.past' s' fun i hi => by rw [hi]; exact Nat.le_refl _⟩
    · rw [Int.toNat_natCast, ← hD, hdp]; simp
    · simp (disch := first | omega | (simp only [lnv]; omega)) only [wlk, ↓get_put', Nat.reduceEqDiff, Nat.reduceLT, ↓reduceIte, Int.reduceToNat, Nat.reducePow, Nat.min_eq_left, Nat.reduceAdd, Nat.reduceMul, Int.reduceAdd, Int.reduceSub, Int.reduceNeg, Int.reduceMul, Int.reduceEq, Int.reduceLT, Int.reduceLE, Nat.reduceSub, Int.reduceNatCast, Nat.reduceLeDiff]; rfl
    · simp (disch := first | omega | (simp only [lnv]; omega)) only [wlk, ↓get_put', Nat.reduceEqDiff, Nat.reduceLT, ↓reduceIte, Int.reduceToNat, Nat.reducePow, Nat.min_eq_left, Nat.reduceAdd, Nat.reduceMul, Int.reduceAdd, Int.reduceSub, Int.reduceNeg, Int.reduceMul, Int.reduceEq, Int.reduceLT, Int.reduceLE, Nat.reduceSub, Int.reduceNatCast, Nat.reduceLeDiff, f3]
    · simp (disch := first | omega | (simp only [lnv]; omega)) only [wlk, ↓get_put', Nat.reduceEqDiff, Nat.reduceLT, ↓reduceIte, Int.reduceToNat, Nat.reducePow, Nat.min_eq_left, Nat.reduceAdd, Nat.reduceMul, Int.reduceAdd, Int.reduceSub, Int.reduceNeg, Int.reduceMul, Int.reduceEq, Int.reduceLT, Int.reduceLE, Nat.reduceSub, Int.reduceNatCast, Nat.reduceLeDiff]
      congr 1; simp only [List.length_cons]; omega
  · have hz0 : z.toNat = 0 := by omega
    rw [hz0, digs_zero, List.nil_append] at hD
    refine ST.own (y := bv (UInt8.ofNat d.length)) o (by rw [← bv_ofNat, Nat.mod_eq_of_lt (by omega)]; rfl) rfl (by omega) (by omega) fun g' o' s' => ?_
    have hlen : (xs.set (8 - d.length) (bv (UInt8.ofNat d.length))).length = 9 := by rw [List.length_set]; exact hx
    have hdrop : (xs.set (8 - d.length) (bv (UInt8.ofNat d.length))).drop (8 - d.length) = (UInt8.ofNat d.length :: d).map bv := by
      rw [drop_set1 _ _ _ (by omega), show 8 - d.length + 1 = 9 - d.length by omega, hxd]; rfl
    have hL := o'.back (a := 8 - d.length) (fin := 9) (by omega) (by omega) (some (9 - (8 - d.length)))
    rw [hdrop, hlen] at hL
    repeat' (first
      | refine St.h ?_
      | simp (disch := first | omega | (simp only [lnv]; omega)) only [wlk, ↓get_put', Nat.reduceEqDiff, Nat.reduceLT, ↓reduceIte, Int.reduceToNat, Nat.reducePow, Nat.min_eq_left, Nat.reduceAdd, Nat.reduceMul, Int.reduceAdd, Int.reduceSub, Int.reduceNeg, Int.reduceMul, Int.reduceEq, Int.reduceLT, Int.reduceLE, Nat.reduceSub, Int.reduceNatCast, Nat.reduceLeDiff, f0, f3, f4, hL.bs (by simp)]
      | (with_reducible (first | apply cd_split | apply gd_split)) <;> (intro hc; (try simp only [hcn] at hc); (try simp only [hc]); (try simp only [hcl] at hc); try omega))
    subst hQ
    exact ⟨by unfold numB; rw [← hD], st.past' s' fun i hi => by rw [hi]; exact Nat.le_refl _⟩
end Go.Proofs.Ytjlhfoadabkahaa

set_option maxRecDepth 100000
set_option maxHeartbeats 8000000
set_option linter.all false
namespace Go.Proofs.Ytjlhfoadabkahaa
open Go Go.Ev
theorem text_ok {h : H} {l : List UInt8} (hl : l.length ≤ 1000000) (hf : B.val h.floor ≤ B.val h.next) : FnOk Try.prog 91 [sv l] h fun y h' => y = sv (textB l) ∧ Stay nowhere h h' := by
  refine fn_go c91 (by intro hb; cases hb) (by simp) (by simp) fun Q hQ => ?_
  simp only [slotsF, Nat.reduceAdd]
  have h9 := numB_len (n := l.length) (by omega)
  repeat' (first
    | refine St.h ?_
    | simp (disch := first | omega | (simp only [lnv]; omega)) only [wlk, ↓get_put', Nat.reduceEqDiff, Nat.reduceLT, ↓reduceIte, Int.reduceToNat, Nat.reducePow, Nat.min_eq_left, Nat.reduceAdd, Nat.reduceMul, Int.reduceAdd, Int.reduceSub, Int.reduceNeg, Int.reduceMul, Int.reduceEq, Int.reduceLT, Int.reduceLE, Nat.reduceSub, Int.reduceNatCast, Nat.reduceLeDiff]
    | (with_reducible (first | apply cd_split | apply gd_split)) <;> (intro hc; (try simp only [hcn] at hc); (try simp only [hc]); (try simp only [hcl] at hc); try omega))
  refine CL.stay (num_ok (by omega) hf) fun h1 s1 => ?_
  repeat' (first
    | refine St.h ?_
    | simp (disch := first | omega | (simp only [lnv]; omega)) only [wlk, ↓get_put', Nat.reduceEqDiff, Nat.reduceLT, ↓reduceIte, Int.reduceToNat, Nat.reducePow, Nat.min_eq_left, Nat.reduceAdd, Nat.reduceMul, Int.reduceAdd, Int.reduceSub, Int.reduceNeg, Int.reduceMul, Int.reduceEq, Int.reduceLT, Int.reduceLE, Nat.reduceSub, Int.reduceNatCast, Nat.reduceLeDiff]
    | (with_reducible (first | apply cd_split | apply gd_split)) <;> (intro hc; (try simp only [hcn] at hc); (try simp only [hc]); (try simp only [hcl] at hc); try omega))
  subst hQ
  exact ⟨rfl, s1⟩
theorem takeText_ok {h : H} {l : List UInt8} (hl : l.length ≤ 1000000) : FnOk Try.prog 104 [sv l] h fun y h' => y = triT (takeT l) ∧ h' = h := by
  refine fn_go c104 (by intro hb; cases hb) (by simp) (by simp) fun Q hQ => ?_
  simp only [slotsF, Nat.reduceAdd]
  repeat' (first
    | refine St.h ?_
    | simp (disch := first | omega | (simp only [lnv]; omega)) only [wlk, ↓get_put', Nat.reduceEqDiff, Nat.reduceLT, ↓reduceIte, Int.reduceToNat, Nat.reducePow, Nat.min_eq_left, Nat.reduceAdd, Nat.reduceMul, Int.reduceAdd, Int.reduceSub, Int.reduceNeg, Int.reduceMul, Int.reduceEq, Int.reduceLT, Int.reduceLE, Nat.reduceSub, Int.reduceNatCast, Nat.reduceLeDiff]
    | (with_reducible (first | apply cd_split | apply gd_split)) <;> (intro hc; (try simp only [hcn] at hc); (try simp only [hc]); (try simp only [hcl] at hc); try omega))
  refine CL.pure (takeNum_ok hl) ?_
  rcases takeN_range l with (hc | hc) | ⟨n, k, hc, h1, h2, h3, h4⟩
  · have e : takeT l = ([], 0, 10) := by unfold takeT; rw [hc]; rfl
    rw [hc]; unfold tri
    repeat' (first
      | refine St.h ?_
      | simp (disch := first | omega | (simp only [lnv]; omega)) only [wlk, ↓get_put', Nat.reduceEqDiff, Nat.reduceLT, ↓reduceIte, Int.reduceToNat, Nat.reducePow, Nat.min_eq_left, Nat.reduceAdd, Nat.reduceMul, Int.reduceAdd, Int.reduceSub, Int.reduceNeg, Int.reduceMul, Int.reduceEq, Int.reduceLT, Int.reduceLE, Nat.reduceSub, Int.reduceNatCast, Nat.reduceLeDiff]
      | (with_reducible (first | apply cd_split | apply gd_split)) <;> (intro hc; (try simp only [hcn] at hc); (try simp only [hc]); (try simp only [hcl] at hc); try omega))
    subst hQ
    exact ⟨by rw [e]; rfl, rfl⟩
  · have e : takeT l = ([], 0, 12) := by unfold takeT; rw [hc]; rfl
    rw [hc]; unfold tri
    repeat' (first
      | refine St.h ?_
      | simp (disch := first | omega | (simp only [lnv]; omega)) only [wlk, ↓get_put', Nat.reduceEqDiff, Nat.reduceLT, ↓reduceIte, Int.reduceToNat, Nat.reducePow, Nat.min_eq_left, Nat.reduceAdd, Nat.reduceMul, Int.reduceAdd, Int.reduceSub, Int.reduceNeg, Int.reduceMul, Int.reduceEq, Int.reduceLT, Int.reduceLE, Nat.reduceSub, Int.reduceNatCast, Nat.reduceLeDiff]
      | (with_reducible (first | apply cd_split | apply gd_split)) <;> (intro hc; (try simp only [hcn] at hc); (try simp only [hc]); (try simp only [hcl] at hc); try omega))
    subst hQ
    exact ⟨by rw [e]; rfl, rfl⟩
  have e : takeT l = if ((l.drop k).length : Int) < (n : Int) then ([], 0, 12) else ((l.drop k).take n, (k : Int) + n, 0) := by
    unfold takeT; rw [hc]; simp only [if_true, Int.toNat_natCast]
  rw [hc]; unfold tri
  have hd : (l.drop k).length = l.length - k := List.length_drop
  repeat' (first
    | refine St.h ?_
    | simp (disch := first | omega | (simp only [lnv]; omega)) only [wlk, ↓get_put', Nat.reduceEqDiff, Nat.reduceLT, ↓reduceIte, Int.reduceToNat, Nat.reducePow, Nat.min_eq_left, Nat.reduceAdd, Nat.reduceMul, Int.reduceAdd, Int.reduceSub, Int.reduceNeg, Int.reduceMul, Int.reduceEq, Int.reduceLT, Int.reduceLE, Nat.reduceSub, Int.reduceNatCast, Nat.reduceLeDiff, Int.toNat_natCast]
    | (with_reducible (first | apply cd_split | apply gd_split)) <;> (intro hc; (try simp only [hcn] at hc); (try simp only [hc]); (try simp only [hcl] at hc); try omega))
  · rw [if_pos (by omega)] at e
    subst hQ
    exact ⟨by rw [e]; rfl, rfl⟩
  · rw [if_neg (by omega)] at e
    subst hQ
    exact ⟨by rw [e]; rfl, rfl⟩
theorem takeT_range (l : List UInt8) : (takeT l = ([], 0, 10) ∨ takeT l = ([], 0, 12)) ∨ ∃ (v : List UInt8) (k : Nat), takeT l = (v, (k : Int), 0) ∧ 1 ≤ k ∧ k ≤ l.length ∧ v.length ≤ k := by
  rcases takeN_range l with (hc | hc) | ⟨n, k, hc, h1, h2, h3, h4⟩
  · exact .inl (.inl (by unfold takeT; rw [hc]; rfl))
  · exact .inl (.inr (by unfold takeT; rw [hc]; rfl))
  have e : takeT l = if ((l.drop k).length : Int) < (n : Int) then ([], 0, 12) else ((l.drop k).take n, (k : Int) + n, 0) := by
    unfold takeT; rw [hc]; simp only [if_true, Int.toNat_natCast]
  have hd : (l.drop k).length = l.length - k := List.length_drop
  by_cases hn : ((l.drop k).length : Int) < (n : Int)
  · rw [if_pos hn] at e; exact .inl (.inr e)
  · rw [if_neg hn] at e
    exact .inr ⟨_, k + n, by rw [e]; rfl, by omega, by omega, by rw [List.length_take]; omega⟩
end Go.Proofs.Ytjlhfoadabkahaa

set_option linter.all false
namespace Go.Ev
open Go
section
variable {h : H}
/-- all cells of a block at once -/
theorem ST.ownAll {P : Program} {N : Nx} {id : B} {xs vs : List V} {x : V} {size fin : Nat} (o : Own h id xs) (hc : cells x = vs) (hs : vs.length = size) (h1 : allOne vs = true) (hj : vs.length ≤ fin) (hfit : vs.length < 2 ^ 37)
    (k : ∀ h', Own h' id vs → Stay (fun i => i = id) h h' → N.go P (.tu []) h') : ST P size (.p id 0 0 fin) x h N := by
  obtain ⟨blk, a1, a2, a3, a4, a5, a6, a7⟩ := o
  obtain ⟨next, floor, heap⟩ := h
  obtain ⟨cur, min, sz, cs, bel, fr⟩ := blk
  simp only at a2 a3 a4 a7
  subst a2; subst a3; subst a4
  obtain ⟨tr, t1, t2, t3⟩ := setList_fine vs 0 cs (by omega)
  obtain ⟨hp, s1, s2, s3⟩ := setK_ok id (⟨0, 0, sz, tr, bel, 0⟩ : Blk) heap
  have e1 : B.geB floor id = true := by cases floor <;> first | rfl | (show Nat.ble _ _ = true; rw [Nat.ble_eq]; exact a5)
  have e2 : Nat.ble (Nat.add 0 vs.length) fin = true := by rw [Nat.ble_eq]; show 0 + vs.length ≤ fin; omega
  have e4 : frOk 0 0 = true := rfl
  have e5 : Nat.beq 0 0 = true := rfl
  have e6 : Nat.ble 0 0 = true := rfl
  have e7 : Nat.beq vs.length size = true := by rw [hs]; simp
  have a1' : heap.get id = some ⟨0, 0, sz, cs, bel, 0⟩ := a1
  refine hm_of (v := .tu []) (h' := ⟨next, floor, hp⟩) (fun q => ?_) (k _ ⟨_, s2, rfl, rfl, rfl, a5, a6, fun i z hz => by have := t2 i z hz; rwa [Nat.zero_add] at this⟩ ⟨rfl, Nat.le_refl _, fun i _ hi => s3 i hi⟩)
  show ifK (Nat.beq (cells x).length size) (fun _ => store ⟨next, floor, heap⟩ id 0 0 fin (cells x) fun h => q (.tu []) h) = _
  rw [hc, e7, ifK_true]
  simp only [store, hK_mk, a1', optK_some, blkK_mk, e5, e6, e1, e2, h1, e4, ifK_true]
  rw [t1, s1]
end
theorem ST.all {P : Program} {h : H} {N : Nx} {id : B} {xs vs : List V} {size fin : Nat} (o : Own h id xs) (hs : vs.length = size) (h1 : allOne vs = true) (hj : vs.length ≤ fin) (hfit : vs.length < 2 ^ 37)
    (k : ∀ h', Own h' id vs → Stay (fun i => i = id) h h' → N.go P (.tu []) h') : ST P size (.p id 0 0 fin) (.a vs) h N := ST.ownAll o rfl hs h1 hj hfit k
theorem Own.ra4 {h : H} {Q : V → H → Prop} {id : B} {a b c d : V} {us : List V} (o : Own h id [a, b, c, d]) : RA Q 4 (.p id 0 0 4) us h = Q (one (.a [a, b, c, d] :: us)) h := o.ra rfl (by omega) (by omega)
theorem re_fl (h : H) : B.val (reFloor h).floor ≤ B.val (reFloor h).next := by cases h; exact Nat.le_refl _
/-- a call in a region that draws -/
theorem CL.stayU {P : Program} {f : FuncId} {vs : List V} {h : H} {e : V} {m : Nat} {l : List CO} {t : F} {K : F → H → Prop} (a : FnOk P f vs (reFloor h) fun y h' => y = e ∧ Stay nowhere (reFloor h) h')
    (k : ∀ h', Stay nowhere h h' → DO P l (put m e t) h' K) : CL P f vs (reFloor h) (.u m l t h K) := ⟨_, a, fun v h' hq => by rw [hq.1, go_u]; exact k _ hq.2.unfloor⟩
/-- a row of structs of n cells each -/
def Ss {α : Type} (n : Nat) (c : α → List V) (h : H) (v : V) (L : List α) : Prop :=
  (v = .l0 ∧ L = []) ∨ ∃ id g off fin cap, v = .l id g off L.length fin cap ∧ off + L.length * n ≤ fin ∧ B.val id < B.val h.next ∧ Row h id g off (L.flatMap c)
section
variable {α : Type} [Inhabited α] {n : Nat} {c : α → List V}
theorem fm_len (hc : ∀ e, (c e).length = n) : ∀ (L : List α), (L.flatMap c).length = L.length * n
  | [] => by simp
  | a :: L => by rw [List.flatMap_cons, List.length_append, hc, fm_len hc L, List.length_cons, Nat.add_mul]; omega
theorem fm_at (hc : ∀ e, (c e).length = n) : ∀ {L : List α} {i : Nat}, i < L.length → ((L.flatMap c).drop (i * n)).take n = c (L.getD i default)
  | [], i, h => by simp at h
  | a :: L, 0, h => by
    rw [List.flatMap_cons, Nat.zero_mul, List.drop_zero, List.take_append_of_le_length (by rw [hc]; exact Nat.le_refl _), List.take_of_length_le (by rw [hc]; exact Nat.le_refl _)]; rfl
  | a :: L, i + 1, h => by
    have e : (i + 1) * n = (c a).length + i * n := by rw [hc, Nat.add_mul]; omega
    rw [List.flatMap_cons, e, ← List.drop_drop, List.drop_left, fm_at hc (by simpa using h)]
    simp [List.getD]
theorem fm_get (hc : ∀ e, (c e).length = n) {L : List α} {i d : Nat} (hi : i < L.length) (hd : d < n) : (L.flatMap c)[i * n + d]? = some ((c (L.getD i default)).getD d .u) := by
  have e : (((L.flatMap c).drop (i * n)).take n)[d]? = (c (L.getD i default))[d]? := by rw [fm_at hc hi]
  rw [List.getElem?_take, if_pos hd, List.getElem?_drop] at e
  rw [e]
  have : d < (c (L.getD i default)).length := by rw [hc]; exact hd
  have e3 : ∀ (x : List V), d < x.length → x[d]? = some (x.getD d .u) := fun x hx => by simp [List.getD, hx]
  exact e3 _ this
theorem fm_take (hc : ∀ e, (c e).length = n) : ∀ (L : List α) (k : Nat), (L.take k).flatMap c = (L.flatMap c).take (k * n)
  | [], k => by simp
  | a :: L, 0 => by simp
  | a :: L, k + 1 => by
    have e : (k + 1) * n = (c a).length + k * n := by rw [hc, Nat.add_mul]; omega
    have e2 : ((c a) ++ L.flatMap c).take ((c a).length + k * n) = c a ++ (L.flatMap c).take (k * n) := by
      rw [List.take_append, Nat.add_sub_cancel_left, List.take_of_length_le (Nat.le_add_right _ _)]
    rw [List.take_succ_cons, List.flatMap_cons, List.flatMap_cons, fm_take hc L k, e, e2]
theorem fm_drop (hc : ∀ e, (c e).length = n) : ∀ (L : List α) (k : Nat), (L.drop k).flatMap c = (L.flatMap c).drop (k * n)
  | [], k => by simp
  | a :: L, 0 => by simp
  | a :: L, k + 1 => by
    rw [List.drop_succ_cons, List.flatMap_cons, fm_drop hc L k, show (k + 1) * n = (c a).length + k * n by rw [hc, Nat.add_mul]; omega, ← List.drop_drop, List.drop_left]
variable {P : Program} {h h' g' : H} {N : Nx} {v : V} {L : List α} {i d : Nat}
theorem Ss.ln (a : Ss n c h v L) : H1 P gLen v g' N = N.go P (.i .i64 (L.length : Int)) g' := by
  rcases a with ⟨rfl, rfl⟩ | ⟨id, g, off, fin, cap, rfl, _⟩
  · exact gLen_l0
  · exact gLen_l
theorem Ss.ix (a : Ss n c h v L) (hi : i < L.length) : IX P n v i g' N = N.go P (.p (lid v) (lg v) (loff v + i * n) (lfin v)) g' := by
  rcases a with ⟨rfl, rfl⟩ | ⟨id, g, off, fin, cap, rfl, _⟩
  · simp at hi
  · exact ix_l hi
theorem Ss.ld (a : Ss n c h v L) (hc : ∀ e, (c e).length = n) (hi : i < L.length) (hd : d < n) : L1 P (lid v) (lg v) (loff v + i * n + d) (lfin v) h N = N.go P ((c (L.getD i default)).getD d .u) h := by
  rcases a with ⟨rfl, rfl⟩ | ⟨id, g, off, fin, cap, rfl, hf, hl, r⟩
  · simp at hi
  · refine hv_of fun k => ?_
    have := r.2 (i * n + d) _ (fm_get hc hi hd)
    rw [← Nat.add_assoc] at this
    have h1 : (i + 1) * n ≤ L.length * n := Nat.mul_le_mul_right n hi
    rw [Nat.add_mul] at h1
    exact load1_cell this (by show off + i * n + d < fin; omega) k
theorem Ss.ldA (a : Ss n c h v L) (hc : ∀ e, (c e).length = n) (hn : 1 ≤ n) (hi : i < L.length) : LN P (lid v) (lg v) (loff v + i * n) (lfin v) n h N = N.go P (.a (c (L.getD i default))) h := by
  rcases a with ⟨rfl, rfl⟩ | ⟨id, g, off, fin, cap, rfl, hf, hl, r⟩
  · simp at hi
  · refine hv_of fun k => ?_
    have h1 : (i + 1) * n ≤ L.length * n := Nat.mul_le_mul_right n hi
    rw [Nat.add_mul] at h1
    have hlen := hc (L.getD i default)
    refine loadN_row (vs := c (L.getD i default)) ⟨fun _ => r.1 ?_, fun j y hy => ?_⟩ hlen (by intro e; rw [e] at hlen; simp at hlen; omega) (by show off + i * n + n ≤ fin; omega) fun vs => k (.a vs)
    · intro e
      have h2 := fm_len hc L
      rw [e] at h2
      have h3 : L.length * n = 0 := h2.symm
      omega
    · have hj : j < n := by rw [← hlen]; exact (List.getElem?_eq_some_iff.1 hy).1
      have e := fm_get hc hi hj
      rw [List.getD, hy] at e
      have := r.2 (i * n + j) _ e
      rw [← Nat.add_assoc] at this
      exact this
theorem Ss.grow (a : Ss n c h v L) (s : Stay nowhere h h') : Ss n c h' v L := by
  rcases a with ⟨rfl, rfl⟩ | ⟨id, g, off, fin, cap, rfl, hf, hl, r⟩
  · exact .inl ⟨rfl, rfl⟩
  · exact .inr ⟨id, g, off, fin, cap, rfl, hf, Nat.lt_of_lt_of_le hl s.next, r.grow s hl⟩
theorem Ss.stay {p : B → Prop} (a : Ss n c h v L) (s : Stay p h h') (hp : ∀ id, isOf v id → ¬ p id) : Ss n c h' v L := by
  rcases a with ⟨rfl, rfl⟩ | ⟨id, g, off, fin, cap, rfl, hf, hl, r⟩
  · exact .inl ⟨rfl, rfl⟩
  · exact .inr ⟨id, g, off, fin, cap, rfl, hf, Nat.lt_of_lt_of_le hl s.next, r.stay s hl (hp id ⟨_, _, _, _, _, rfl⟩)⟩
theorem Ss.nil : Ss n c h .l0 ([] : List α) := .inl ⟨rfl, rfl⟩
/-- of a literal -/
theorem Ss.lit {id : B} {xs : List V} {cap : Option Nat} {len fin : Nat} (o : Own h id xs) (e : xs = L.flatMap c) (hc : ∀ e, (c e).length = n) (hl : len = L.length) (hf : L.length * n ≤ fin) : Ss n c h (.l id 0 0 len fin cap) L := by
  subst hl; subst e
  have r := o.row
  obtain ⟨blk, h1, h2, h3, h4, h5, h6, h7⟩ := o
  exact .inr ⟨id, 0, 0, fin, cap, rfl, by omega, h6, r⟩
/-- of a row that grew -/
theorem Ss.buf {el : Nat} {xs : List V} (b : Buf h el n v xs) (e : xs = L.flatMap c) (hc : ∀ e, (c e).length = n) (hn : 1 ≤ n) : Ss n c h v L := by
  subst e
  rcases b with ⟨rfl, he⟩ | ⟨id, g, m, blk, rfl, h1, h2, h3, h4, h5, h6, h7, h8, h9, h10⟩
  · refine .inl ⟨rfl, ?_⟩
    cases L with
    | nil => rfl
    | cons a L =>
      have := fm_len hc (a :: L)
      rw [he] at this
      have h3 : (L.length + 1) * n = 0 := this.symm
      rw [Nat.add_mul] at h3; omega
  · have hm : m = L.length := by
      rw [fm_len hc] at h2
      exact (Nat.eq_of_mul_eq_mul_right (by omega) h2).symm
    subst hm
    refine .inr ⟨id, g, 0, (L.flatMap c).length, none, rfl, by rw [fm_len hc]; omega, h4, fun _ => ⟨blk, h5, h6.1⟩, fun i y hy => ?_⟩
    unfold Ev.cell cellB
    rw [h5]
    show (if blk.min ≤ g then blk.cells.getN (0 + i) else none) = _
    rw [if_pos h6.1, Nat.zero_add]
    exact h10 i y hy
/-- a slice whose end is where it should be -/
def SwN (n : Nat) (v : V) : Prop := v = .l0 ∨ ∃ id g off m fin cap, v = .l id g off m fin cap ∧ match cap with
  | some c => m ≤ c ∧ (18446744073709551616 ≤ c → m = 0)
  | none => fin = off + m * n
theorem swn_capS {n off k L : Nat} : match capS k L with
  | some c => k ≤ c ∧ (18446744073709551616 ≤ c → k = 0)
  | none => off + k * n = off + k * n := by
  cases k with
  | zero => (cases L with | zero => exact rfl | succ L => exact ⟨Nat.zero_le _, fun _ => rfl⟩)
  | succ k => exact rfl
theorem row_hi {id : B} {g off k : Nat} (hc : ∀ e, (c e).length = n) (r : Row h id g off (L.flatMap c)) : Row h id g off ((L.take k).flatMap c) := by
  rw [fm_take hc]
  refine ⟨fun hne => r.1 fun e => hne (by rw [e]; simp), fun i y hy => r.2 i y ?_⟩
  rw [List.getElem?_take] at hy
  split at hy
  · exact hy
  · cases hy
theorem row_lo {id : B} {g off k : Nat} (hc : ∀ e, (c e).length = n) (r : Row h id g off (L.flatMap c)) : Row h id g (off + k * n) ((L.drop k).flatMap c) := by
  rw [fm_drop hc]
  refine ⟨fun hne => r.1 fun e => hne (by rw [e]; simp), fun i y hy => ?_⟩
  rw [List.getElem?_drop] at hy
  have := r.2 _ y hy
  rwa [← Nat.add_assoc] at this
theorem Ss.hi {kd : IntKind} {k : Nat} (a : Ss n c h v L) (hc : ∀ e, (c e).length = n) (w : SwN n v) (hk : k ≤ L.length) : ∃ u, Ss n c h u (L.take k) ∧ SwN n u ∧ ∀ (g : H) (N : Nx), H2 P (slHiV n) v (.i kd (k : Int)) g N = N.go P u g := by
  have e0 : Nat.ble 0 k = true := by rw [Nat.ble_eq]; omega
  have hkn : k * n ≤ L.length * n := Nat.mul_le_mul_right n hk
  have htk : (L.take k).length = k := by rw [List.length_take]; omega
  rcases a with ⟨rfl, rfl⟩ | ⟨id, g, off, fin, cap, rfl, h2, h3, r⟩
  · have : k = 0 := by simpa using hk
    subst this
    exact ⟨.l0, .inl ⟨rfl, by simp⟩, .inl rfl, fun g N => hv_of fun k => rfl⟩
  rcases w with e | ⟨id', g', off', n', fin', cap', e, hw⟩
  · cases e
  cases e
  cases cap with
  | none =>
    have hw : fin = off + L.length * n := hw
    refine ⟨.l id g off k (off + k * n) (capS k L.length), .inr ⟨id, g, off, off + k * n, capS k L.length, by rw [htk], by rw [htk]; exact Nat.le_refl _, h3, row_hi hc r⟩, .inr ⟨_, _, _, _, _, _, rfl, swn_capS⟩, fun g0 N => hv_of fun q => ?_⟩
    have e1 : Nat.ble k L.length = true := by rw [Nat.ble_eq]; exact hk
    have e2 : Nat.beq fin (Nat.add off (Nat.mul L.length n)) = true := by rw [hw]; exact Nat.beq_refl _
    unfold slHiV
    simp only [vL_l, vI_i, natK_cast, e0, ifK_true]
    show sliceN n id g off L.length fin 0 k q = _
    unfold sliceN
    rw [e1, ifK_true, e2, ifK_true, fN_eq, fN_eq, fN_eq]
    show q (.l id g (off + 0 * n) (k - 0) (off + k * n) (capS k L.length)) = _
    simp
  | some cc =>
    have hw2 : 18446744073709551616 ≤ cc → L.length = 0 := hw.2
    have hw : L.length ≤ cc := hw.1
    have e1 : Nat.ble k cc = true := by rw [Nat.ble_eq]; omega
    cases hfc : flagB cc with
    | true =>
      have hcc := flagB_t hfc
      have hx := hw2 hcc
      have hk0 : k = 0 := by omega
      subst hk0
      refine ⟨.l id g off 0 off (some cc), .inr ⟨id, g, off, off, some cc, by simp, by simp, h3, row_hi hc r⟩, .inr ⟨_, _, _, _, _, _, rfl, Nat.zero_le _, fun _ => rfl⟩, fun g0 N => hv_of fun q => ?_⟩
      unfold slHiV
      simp only [vL_l, vI_i, natK_cast, e0, ifK_true]
      show boolK (flagB cc) (fun _ => ifK (Nat.beq 0 0) fun _ => q (.l id g off 0 off (some cc))) _ = _
      rw [hfc]; rfl
    | false =>
    have hcM := flagB_f hfc
    cases cc with
    | zero =>
      have hx : L.length = 0 := by omega
      have hk0 : k = 0 := by omega
      subst hk0
      refine ⟨.l id g off 0 fin (some 0), .inr ⟨id, g, off, fin, some 0, by simp, by simp; omega, h3, row_hi hc r⟩, .inr ⟨_, _, _, _, _, _, rfl, Nat.le_refl _, fun _ => rfl⟩, fun g0 N => hv_of fun q => ?_⟩
      unfold slHiV
      simp only [vL_l, vI_i, natK_cast, e0, ifK_true]
      rfl
    | succ cc =>
      refine ⟨.l id g off k fin (some (cc + 1)), .inr ⟨id, g, off, fin, some (cc + 1), by rw [htk], by rw [htk]; omega, h3, row_hi hc r⟩, .inr ⟨_, _, _, _, _, _, rfl, by show k ≤ cc + 1; omega, fun h => absurd hcM (Nat.not_lt.2 h)⟩, fun g0 N => hv_of fun q => ?_⟩
      unfold slHiV
      simp only [vL_l, vI_i, natK_cast, e0, ifK_true]
      show boolK (flagB (cc + 1)) _ (fun _ => sliceC n id g off L.length fin (cc + 1) 0 k fun v => q v) = _
      rw [hfc, boolK_false, sliceC_mid hcM (by omega) (by omega)]
      simp
theorem Ss.lo {kd : IntKind} {k : Nat} (a : Ss n c h v L) (hc : ∀ e, (c e).length = n) (w : SwN n v) (hk : k ≤ L.length) : ∃ u, Ss n c h u (L.drop k) ∧ SwN n u ∧ ∀ (g : H) (N : Nx), H2 P (slLoV n) v (.i kd (k : Int)) g N = N.go P u g := by
  have e0 : Nat.ble k L.length = true := by rw [Nat.ble_eq]; omega
  have hkn : k * n + (L.length - k) * n = L.length * n := by rw [← Nat.add_mul]; congr 1; omega
  have htk : (L.drop k).length = L.length - k := List.length_drop
  rcases a with ⟨rfl, rfl⟩ | ⟨id, g, off, fin, cap, rfl, h2, h3, r⟩
  · have : k = 0 := by simpa using hk
    subst this
    exact ⟨.l0, .inl ⟨rfl, by simp⟩, .inl rfl, fun g N => hv_of fun k => rfl⟩
  rcases w with e | ⟨id', g', off', n', fin', cap', e, hw⟩
  · cases e
  cases e
  cases cap with
  | none =>
    have hw : fin = off + L.length * n := hw
    refine ⟨.l id g (off + k * n) (L.length - k) (off + L.length * n) none, .inr ⟨id, g, off + k * n, off + L.length * n, none, by rw [htk], by rw [htk]; omega, h3, row_lo hc r⟩, .inr ⟨_, _, _, _, _, _, rfl, by show off + L.length * n = off + k * n + (L.length - k) * n; omega⟩, fun g0 N => hv_of fun q => ?_⟩
    have e1 : Nat.ble L.length L.length = true := by rw [Nat.ble_eq]; exact Nat.le_refl _
    have e2 : Nat.beq fin (Nat.add off (Nat.mul L.length n)) = true := by rw [hw]; exact Nat.beq_refl _
    unfold slLoV
    simp only [vL_l, vI_i, natK_cast, e0, ifK_true]
    show sliceN n id g off L.length fin k L.length q = _
    unfold sliceN
    rw [e1, ifK_true, e2, ifK_true, fN_eq, fN_eq, fN_eq, capS_self]
    rfl
  | some cc =>
    have hw2 : 18446744073709551616 ≤ cc → L.length = 0 := hw.2
    have hw : L.length ≤ cc := hw.1
    have e1 : Nat.ble L.length cc = true := by rw [Nat.ble_eq]; omega
    cases hfc : flagB cc with
    | true =>
      have hcc := flagB_t hfc
      have hx := hw2 hcc
      have hk0 : k = 0 := by omega
      subst hk0
      refine ⟨.l id g off 0 off (some cc), .inr ⟨id, g, off, off, some cc, by rw [htk, hx], by rw [htk, hx]; simp, h3, ?_⟩, .inr ⟨_, _, _, _, _, _, rfl, Nat.zero_le _, fun _ => rfl⟩, fun g0 N => hv_of fun q => ?_⟩
      · rw [List.drop_eq_nil_of_le (by omega)]
        exact ⟨fun hne => absurd rfl hne, fun i v hv => by simp at hv⟩
      · unfold slLoV
        simp only [vL_l, vI_i, natK_cast, e0, ifK_true]
        show boolK (flagB cc) (fun _ => ifK (Nat.beq L.length 0) fun _ => q (.l id g off 0 off (some cc))) _ = _
        rw [hfc, hx]; rfl
    | false =>
    have hcM := flagB_f hfc
    have eM : Nat.ble (Nat.succ cc) 18446744073709551616 = true := by rw [Nat.ble_eq]; exact hcM
    by_cases hkc : k = cc
    · have hx : L.length = k := by omega
      refine ⟨.l id g off 0 fin (some 0), .inr ⟨id, g, off, fin, some 0, by rw [htk, hx]; simp, by rw [htk, hx]; simp; omega, h3, ?_⟩, .inr ⟨_, _, _, _, _, _, rfl, Nat.le_refl _, fun _ => rfl⟩, fun g0 N => hv_of fun q => ?_⟩
      · rw [List.drop_eq_nil_of_le (by omega)]
        exact ⟨fun hne => absurd rfl hne, fun i v hv => by simp at hv⟩
      · unfold slLoV
        simp only [vL_l, vI_i, natK_cast, e0, ifK_true]
        show boolK (flagB cc) _ (fun _ => sliceC n id g off L.length fin cc k L.length fun v => q v) = _
        rw [hfc, boolK_false]
        unfold sliceC
        rw [eM, ifK_true]
        have e2 : Nat.beq k cc = true := by rw [hkc]; exact Nat.beq_refl _
        rw [e1, ifK_true, e2]; rfl
    · refine ⟨.l id g (off + k * n) (L.length - k) fin (some (cc - k)), .inr ⟨id, g, off + k * n, fin, some (cc - k), by rw [htk], by rw [htk]; omega, h3, row_lo hc r⟩, .inr ⟨_, _, _, _, _, _, rfl, by show L.length - k ≤ cc - k; omega, fun h => absurd hcM (by omega)⟩, fun g0 N => hv_of fun q => ?_⟩
      unfold slLoV
      simp only [vL_l, vI_i, natK_cast, e0, ifK_true]
      show boolK (flagB cc) _ (fun _ => sliceC n id g off L.length fin cc k L.length fun v => q v) = _
      rw [hfc, boolK_false, sliceC_mid hcM (by omega) (by omega)]
/-- the cells that are appended -/
theorem new_ss (a : Ss n c h v L) (hc : ∀ e, (c e).length = n) (hn : 1 ≤ n) (k : Nat → List V → Bool) : newCells n v h k = k L.length (L.flatMap c) := by
  rcases a with ⟨rfl, rfl⟩ | ⟨id, g, off, fin, cap, rfl, hf, hl, r⟩
  · rfl
  · have hlen := fm_len hc L
    cases hm : L.length with
    | zero =>
      have : L = [] := List.eq_nil_of_length_eq_zero hm
      subst this; rfl
    | succ m =>
      rw [hm] at hlen hf
      show loadN h id g off fin (Nat.mul (m + 1) n) (fun vs => k (m + 1) vs) = _
      have hne : L.flatMap c ≠ [] := by
        intro e; rw [e] at hlen
        have h3 : (m + 1) * n = 0 := hlen.symm
        rw [Nat.add_mul] at h3; omega
      rw [show Nat.mul (m + 1) n = (L.flatMap c).length by rw [hlen]; rfl, loadN_row r rfl hne (by rw [hlen]; omega)]
/-- append([]T{e}, l...) -/
theorem AP.lit {id : B} {cs : List V} {el : Nat} (o : Own h id cs) (hcs : cs.length = n) (hn : 1 ≤ n) (hc : ∀ e, (c e).length = n) (a : Ss n c h v L) (hf : B.val h.floor ≤ B.val h.next) (hb : (1 + L.length) * n ≤ 1048576)
    (k0 : L = [] → N.go P (.l id 0 0 1 n (some 1)) h)
    (k1 : ∀ v' h', L ≠ [] → Buf h' el n v' (cs ++ L.flatMap c) → Top h' v' → Stay nowhere h h' → (∀ i, isOf v' i → B.val h.next ≤ B.val i) → N.go P v' h') : AP P el n (.l id 0 0 1 n (some 1)) v h N := by
  have hlen := fm_len hc L
  cases hm : L.length with
  | zero =>
    have : L = [] := List.eq_nil_of_length_eq_zero hm
    subst this
    refine hm_of (v := .l id 0 0 1 n (some 1)) (h' := h) (fun k => ?_) (k0 rfl)
    rw [new_ss a hc hn]; rfl
  | succ m =>
    have hne : L ≠ [] := by intro e; rw [e] at hm; simp at hm
    have hb1 : 1 + L.length ≤ 1048576 := by
      have := Nat.mul_le_mul_left (1 + L.length) hn
      omega
    have hcn : (1 + L.length) * n = n + L.length * n := by rw [Nat.add_mul]; omega
    obtain ⟨h', a1, a2, a3, blk, b1, b2, b3, b4, b5, b6, b7⟩ := alloc_new el (cs ++ L.flatMap c) h (by rw [List.length_append]; omega)
    refine hm_of (v := .l h.next 0 0 (1 + L.length) ((1 + L.length) * n) none) (h' := h') (fun k => ?_) (k1 _ h' hne ?_ ?_ a2 ?_)
    · rw [new_ss a hc hn]
      show boolK (Nat.ble (Nat.add 1 L.length) 1) (fun _ => appIn id 0 0 1 n 1 n L.length (L.flatMap c) h k) (fun _ => appOut el id 0 0 1 n n L.length (L.flatMap c) h k) = _
      have e1 : Nat.ble (Nat.add 1 L.length) 1 = false := by
        cases hx : Nat.ble (Nat.add 1 L.length) 1 with
        | false => rfl
        | true => have := Nat.le_of_ble_eq_true hx; have h2 : 1 + L.length ≤ 1 := this; omega
      rw [e1]
      show appOut el id 0 0 1 n n L.length (L.flatMap c) h k = _
      unfold appOut
      have e2 : Nat.ble (Nat.add 1 L.length) 1048576 = true := by rw [Nat.ble_eq]; exact hb1
      rw [e2, ifK_true, show Nat.mul 1 n = cs.length by rw [hcs]; show 1 * n = n; omega, loadZ_pos (by omega), loadN_row o.row rfl (by intro e; rw [e] at hcs; simp at hcs; omega) (by omega), app_eq, a1, fN_eq, fN_eq]
      rfl
    · refine .inr ⟨h.next, 0, 1 + L.length, blk, by rw [List.length_append, hlen, hcs, ← hcn], by omega, by rw [List.length_append, hlen, hcs, ← hcn], by rw [a2.floor]; exact hf, by omega, b1, ⟨by omega, by omega⟩, b4, b5, b6, b7⟩
    · intro id' g off m' fin cap e
      cases e
      exact ⟨blk, b1, b3⟩
    · rintro i ⟨g, off, m', fin, cap, e⟩
      cases e; exact Nat.le_refl _
end
end Go.Ev

set_option linter.all false
namespace Go.Ev
open Go
structure Ent where
  key : List UInt8
  seq : Int
  del : Bool
  val : List UInt8
deriving DecidableEq
def entZ : Ent := ⟨[], 0, false, []⟩
instance : Inhabited Ent := ⟨entZ⟩
def entC (e : Ent) : List V := [sv e.key, .i .i64 e.seq, .b e.del, sv e.val]
theorem entC_len (e : Ent) : (entC e).length = 4 := rfl
def Es (h : H) (v : V) (L : List Ent) : Prop := Ss 4 entC h v L
section
variable {P : Program} {h h' g' : H} {N : Nx} {v : V} {L : List Ent} {i d : Nat}
theorem Es.ln (a : Es h v L) : H1 P gLen v g' N = N.go P (.i .i64 (L.length : Int)) g' := Ss.ln a
theorem Es.ix (a : Es h v L) (hi : i < L.length) : IX P 4 v i g' N = N.go P (.p (lid v) (lg v) (loff v + i * 4) (lfin v)) g' := Ss.ix a hi
theorem Es.l0 (a : Es h v L) (hi : i < L.length) : L1 P (lid v) (lg v) (loff v + i * 4) (lfin v) h N = N.go P (sv (L.getD i default).key) h := Ss.ld (d := 0) a entC_len hi (by omega)
theorem Es.l2 (a : Es h v L) (hi : i < L.length) : L1 P (lid v) (lg v) (loff v + i * 4 + 2) (lfin v) h N = N.go P (.b (L.getD i default).del) h := Ss.ld (d := 2) a entC_len hi (by omega)
theorem Es.l3 (a : Es h v L) (hi : i < L.length) : L1 P (lid v) (lg v) (loff v + i * 4 + 3) (lfin v) h N = N.go P (sv (L.getD i default).val) h := Ss.ld (d := 3) a entC_len hi (by omega)
theorem Es.la (a : Es h v L) (hi : i < L.length) : LN P (lid v) (lg v) (loff v + i * 4) (lfin v) 4 h N = N.go P (.a [sv (L.getD i default).key, .i .i64 (L.getD i default).seq, .b (L.getD i default).del, sv (L.getD i default).val]) h := Ss.ldA a entC_len (by omega) hi
theorem Es.grow (a : Es h v L) (s : Stay nowhere h h') : Es h' v L := Ss.grow a s
end
/-- of a write -/
def isW (key : List UInt8) (del : Bool) (val : List UInt8) : Bool := decide (1 ≤ key.length ∧ key.length ≤ 13 ∧ val.length ≤ 24 ∧ (del = true → val = []))
def isE (e : Ent) : Bool := decide (1 ≤ e.seq ∧ e.seq ≤ 1000000) && isW e.key e.del e.val
theorem isE_iff {e : Ent} : isE e = true ↔ (1 ≤ e.seq ∧ e.seq ≤ 1000000) ∧ 1 ≤ e.key.length ∧ e.key.length ≤ 13 ∧ e.val.length ≤ 24 ∧ (e.del = true → e.val = []) := by
  unfold isE isW; rw [Bool.and_eq_true, decide_eq_true_eq, decide_eq_true_eq]
theorem isE_in {e : Ent} (h1 : 1 ≤ e.seq) (h2 : e.seq ≤ 1000000) : isE e = isW e.key e.del e.val := by unfold isE; rw [decide_eq_true ⟨h1, h2⟩, Bool.true_and]
theorem isE_lo {e : Ent} (h1 : e.seq < 1) : isE e = false := by unfold isE; rw [decide_eq_false (by omega), Bool.false_and]
theorem isE_hi {e : Ent} (h1 : 1000000 < e.seq) : isE e = false := by unfold isE; rw [decide_eq_false (by omega), Bool.false_and]
section
variable {k v : List UInt8} {d : Bool}
theorem isW_lo (h : (k.length : Int) < 1) : isW k d v = false := by unfold isW; rw [decide_eq_false_iff_not]; rintro ⟨a, _⟩; omega
theorem isW_hi (h : 13 < (k.length : Int)) : isW k d v = false := by unfold isW; rw [decide_eq_false_iff_not]; rintro ⟨_, a, _⟩; omega
theorem isW_t (h1 : 1 ≤ (k.length : Int)) (h2 : (k.length : Int) ≤ 13) (hd : d = true) : isW k d v = decide (v = []) := by
  subst hd; unfold isW; congr 1
  refine propext ⟨fun h => h.2.2.2 rfl, fun e => ?_⟩
  subst e; exact ⟨by omega, by omega, by simp, fun _ => rfl⟩
theorem isW_f (h1 : 1 ≤ (k.length : Int)) (h2 : (k.length : Int) ≤ 13) (hd : d = false) : isW k d v = decide ((v.length : Int) ≤ 24) := by
  subst hd; unfold isW; congr 1
  exact propext ⟨fun h => by omega, fun e => ⟨by omega, by omega, by omega, fun h => by cases h⟩⟩
end
def lessE (a b : Ent) : Bool := if a.key = b.key then decide (b.seq < a.seq) else Op.bytesLess a.key b.key
/-- the first k places are in order -/
def srtU (L : List Ent) (k : Nat) : Bool := (List.range k).all fun j => lessE (L.getD j default) (L.getD (j + 1) default)
def sortedE (L : List Ent) : Bool := srtU L (L.length - 1)
theorem srtU_succ (L : List Ent) (k : Nat) : srtU L (k + 1) = (srtU L k && lessE (L.getD k default) (L.getD (k + 1) default)) := by
  unfold srtU; rw [List.range_succ, List.all_append]; simp
theorem srtU_at {L : List Ent} {j k : Nat} (h : srtU L k = true) (hj : j < k) : lessE (L.getD j default) (L.getD (j + 1) default) = true := by
  unfold srtU at h
  rw [List.all_eq_true] at h
  exact h j (by rw [List.mem_range]; exact hj)
theorem sorted_no {L : List Ent} {j : Nat} (hj : j + 1 < L.length) (h : lessE (L.getD j default) (L.getD (j + 1) default) = false) : sortedE L = false := by
  cases hs : sortedE L with
  | false => rfl
  | true => have := srtU_at (j := j) hs (by omega); rw [h] at this; cases this
theorem bl_cons {x y : UInt8} {a b : List UInt8} : Op.bytesLess (x :: a) (y :: b) = true ↔ x.toNat < y.toNat ∨ (x = y ∧ Op.bytesLess a b = true) := by
  simp only [Op.bytesLess, Bool.or_eq_true, Bool.and_eq_true, decide_eq_true_eq, beq_iff_eq, UInt8.lt_iff_toNat_lt]
theorem bl_irr : ∀ l : List UInt8, Op.bytesLess l l = false
  | [] => rfl
  | c :: l => by
    cases h : Op.bytesLess (c :: l) (c :: l) with
    | false => rfl
    | true =>
      rcases bl_cons.1 h with h | ⟨_, h⟩
      · omega
      · rw [bl_irr l] at h; cases h
theorem lessE_ne {a b : Ent} (h : ¬ a.key = b.key) : lessE a b = Op.bytesLess a.key b.key := if_neg h
theorem lessE_eq {a b : Ent} (h : a.key = b.key) : lessE a b = decide (b.seq < a.seq) := if_pos h
theorem lessE_lt {a b : Ent} (h : Op.bytesLess a.key b.key = true) : lessE a b = true := by
  rw [lessE_ne]
  · exact h
  · intro e; rw [e, bl_irr] at h; cases h
def tailB (e : Ent) : List UInt8 := numB e.seq.toNat ++ (if e.del then [1] else 0 :: textB e.val)
def bytesE (e : Ent) : List UInt8 := if isE e then textB e.key ++ tailB e else []
/-- what is told of an entry that was read, of n bytes -/
def chkE (x : Ent) (n : Int) : Ent × Int × Int := if isE x then (x, n, 0) else (entZ, 0, 10)
/-- what stands behind a key -/
def tailU (key s : List UInt8) : Ent × Int × Int :=
  if (takeN s).2.2 ≠ 0 then (entZ, 0, (takeN s).2.2) else
  if (takeN s).2.1.toNat = s.length then (entZ, 0, 12) else
  if s.getD (takeN s).2.1.toNat 0 = 0 then
    if (takeT (s.drop ((takeN s).2.1.toNat + 1))).2.2 ≠ 0 then (entZ, 0, (takeT (s.drop ((takeN s).2.1.toNat + 1))).2.2)
    else (⟨key, (takeN s).1, false, (takeT (s.drop ((takeN s).2.1.toNat + 1))).1⟩, (takeN s).2.1 + 1 + (takeT (s.drop ((takeN s).2.1.toNat + 1))).2.1, 0)
  else if s.getD (takeN s).2.1.toNat 0 = 1 then (⟨key, (takeN s).1, true, []⟩, (takeN s).2.1 + 1, 0) else (entZ, 0, 10)
def takeE (s : List UInt8) : Ent × Int × Int :=
  if (takeT s).2.2 ≠ 0 then (entZ, 0, (takeT s).2.2) else
  if (tailU (takeT s).1 (s.drop (takeT s).2.1.toNat)).2.2 ≠ 0 then (entZ, 0, (tailU (takeT s).1 (s.drop (takeT s).2.1.toNat)).2.2)
  else ((tailU (takeT s).1 (s.drop (takeT s).2.1.toNat)).1, (takeT s).2.1 + (tailU (takeT s).1 (s.drop (takeT s).2.1.toNat)).2.1, 0)
section
variable {s k v : List UInt8} {n m j : Nat} {q e : Int}
theorem takeE_1 (h : takeT s = ([], 0, e)) (he : e ≠ 0) : takeE s = (entZ, 0, e) := by unfold takeE; rw [h]; exact if_pos he
theorem takeE_2 (h : takeT s = (k, (n : Int), 0)) : takeE s = if (tailU k (s.drop n)).2.2 ≠ 0 then (entZ, 0, (tailU k (s.drop n)).2.2) else ((tailU k (s.drop n)).1, (n : Int) + (tailU k (s.drop n)).2.1, 0) := by
  unfold takeE; rw [h]; rfl
theorem takeE_3 (h : takeT s = (k, (n : Int), 0)) (h2 : tailU k (s.drop n) = (entZ, 0, e)) (he : e ≠ 0) : takeE s = (entZ, 0, e) := by rw [takeE_2 h, h2]; exact if_pos he
theorem takeE_4 {x : Ent} {z : Int} (h : takeT s = (k, (n : Int), 0)) (h2 : tailU k (s.drop n) = (x, z, 0)) : takeE s = (x, (n : Int) + z, 0) := by rw [takeE_2 h, h2]; rfl
theorem tailU_1 (h : takeN s = (0, 0, e)) (he : e ≠ 0) : tailU k s = (entZ, 0, e) := by unfold tailU; rw [h]; exact if_pos he
theorem tailU_2 (h : takeN s = (q, (m : Int), 0)) (hm : m = s.length) : tailU k s = (entZ, 0, 12) := by
  unfold tailU; rw [h]; simp only [Int.toNat_natCast, ne_eq, not_true_eq_false, if_false, hm, if_true]
theorem tailU_3 (h : takeN s = (q, (m : Int), 0)) (hm : m ≠ s.length) (hc : (s.getD m 0).toNat = 0) (ht : takeT (s.drop (m + 1)) = ([], 0, e)) (he : e ≠ 0) : tailU k s = (entZ, 0, e) := by
  have hc : s.getD m 0 = 0 := UInt8.toNat_inj.1 hc
  unfold tailU; rw [h]; simp only [Int.toNat_natCast, ne_eq, not_true_eq_false, if_false, hm, hc, if_true, ht, he, not_false_eq_true]
theorem tailU_4 (h : takeN s = (q, (m : Int), 0)) (hm : m ≠ s.length) (hc : (s.getD m 0).toNat = 0) (ht : takeT (s.drop (m + 1)) = (v, (j : Int), 0)) : tailU k s = (⟨k, q, false, v⟩, (m : Int) + 1 + (j : Int), 0) := by
  have hc : s.getD m 0 = 0 := UInt8.toNat_inj.1 hc
  unfold tailU; rw [h]; simp only [Int.toNat_natCast, ne_eq, not_true_eq_false, if_false, hm, hc, if_true, ht]
theorem tailU_5 (h : takeN s = (q, (m : Int), 0)) (hm : m ≠ s.length) (hc : (s.getD m 0).toNat = 1) : tailU k s = (⟨k, q, true, []⟩, (m : Int) + 1, 0) := by
  have hc : s.getD m 0 = 1 := UInt8.toNat_inj.1 hc
  unfold tailU; rw [h]; simp only [Int.toNat_natCast, ne_eq, not_true_eq_false, if_false, hm, hc, if_true]; rfl
theorem tailU_6 (h : takeN s = (q, (m : Int), 0)) (hm : m ≠ s.length) (hc : (s.getD m 0).toNat ≠ 0) (hc1 : (s.getD m 0).toNat ≠ 1) : tailU k s = (entZ, 0, 10) := by
  have hc : ¬ s.getD m 0 = 0 := fun e => hc (by rw [e]; rfl)
  have hc1 : ¬ s.getD m 0 = 1 := fun e => hc1 (by rw [e]; rfl)
  unfold tailU; rw [h]; simp only [Int.toNat_natCast, ne_eq, not_true_eq_false, if_false, hm, hc, hc1]
theorem getD_drop (n m : Nat) : (s.drop n).getD m 0 = s.getD (n + m) 0 := by simp [List.getD]
end
def chkd (r : Ent × Int × Int) : Ent × Int × Int := if r.2.2 ≠ 0 then (entZ, 0, r.2.2) else chkE r.1 r.2.1
def readE (s : List UInt8) : Ent × Int × Int := chkd (takeE s)
theorem readE_1 {s : List UInt8} (h : (takeE s).2.2 ≠ 0) : readE s = (entZ, 0, (takeE s).2.2) := if_pos h
theorem readE_2 {s : List UInt8} (h : (takeE s).2.2 = 0) (hi : isE (takeE s).1 = false) : readE s = (entZ, 0, 10) := by unfold readE chkd chkE; rw [h, hi]; rfl
theorem readE_3 {s : List UInt8} (h : (takeE s).2.2 = 0) (hi : isE (takeE s).1 = true) : readE s = ((takeE s).1, (takeE s).2.1, 0) := by unfold readE chkd chkE; rw [h, hi]; rfl
theorem readE_ref {s k : List UInt8} {n : Nat} (h : takeT s = (k, (n : Int), 0)) : readE s = if (chkd (tailU k (s.drop n))).2.2 ≠ 0 then (entZ, 0, (chkd (tailU k (s.drop n))).2.2) else ((chkd (tailU k (s.drop n))).1, (n : Int) + (chkd (tailU k (s.drop n))).2.1, 0) := by
  have e := takeE_2 h
  generalize hr : tailU k (s.drop n) = r at *
  obtain ⟨x, z, f⟩ := r
  by_cases hf : f = 0
  · subst hf
    have e : takeE s = (x, (n : Int) + z, 0) := e
    cases hi : isE x with
    | true => rw [readE_3 (by rw [e]) (by rw [e]; exact hi), e]; unfold chkd chkE; simp [hi]
    | false => rw [readE_2 (by rw [e]) (by rw [e]; exact hi)]; unfold chkd chkE; simp [hi]
  · have e : takeE s = (entZ, 0, f) := by rw [e]; exact if_pos hf
    rw [readE_1 (by rw [e]; exact hf), e]
    unfold chkd; simp [hf]
theorem chkd_ok {x : Ent} {z : Int} (hi : isE x = true) : chkd (x, z, 0) = (x, z, 0) := by unfold chkd chkE; rw [hi]; rfl
/-- what it is, as a value -/
def triE (r : Ent × Int × Int) : V := .tu [.a (entC r.1), .i .i64 r.2.1, .i .i64 r.2.2]
theorem sorted_of {L : List Ent} (h : ∀ j, j + 1 < L.length → lessE (L.getD j default) (L.getD (j + 1) default) = true) : sortedE L = true := by
  unfold sortedE srtU
  rw [List.all_eq_true]
  intro j hj
  rw [List.mem_range] at hj
  exact h j (by omega)
theorem all_at {p : Ent → Bool} {L : List Ent} {i : Nat} (hi : i < L.length) (h : p (L.getD i default) = false) : L.all p = false := by
  rw [List.all_eq_false]
  refine ⟨L[i], by simp, ?_⟩
  rw [show L.getD i default = L[i] by simp [List.getD, hi]] at h
  rw [h]; decide
theorem all_ok {p : Ent → Bool} {L : List Ent} (h : ∀ j, j < L.length → p (L.getD j default) = true) : L.all p = true := by
  rw [List.all_eq_true]
  intro y hy
  obtain ⟨j, hj, rfl⟩ := List.getElem_of_mem hy
  have := h j hj
  rwa [show L.getD j default = L[j] by simp [List.getD, hj]] at this
end Go.Ev

set_option maxRecDepth 100000
set_option maxHeartbeats 8000000
set_option linter.all false
namespace Go.Proofs.Ytjlhfoadabkahaa
open Go Go.Ev
theorem isWrite_ok {h : H} {k v : List UInt8} {d : Bool} (hf : B.val h.floor ≤ B.val h.next) : FnOk Try.prog 86 [.a [sv k, .b d, sv v]] h fun y h' => y = .b (isW k d v) ∧ Stay nowhere h h' := by
  refine fn_go c86 (by intro hb; cases hb) (by simp) (by simp) fun Q hQ => ?_
  simp only [slotsF, Nat.reduceAdd]
  repeat' (first
    | refine St.h ?_
    | simp (disch := first | omega | (simp only [lnv]; omega)) only [wlk, ↓get_put', Nat.reduceEqDiff, Nat.reduceLT, ↓reduceIte, Int.reduceToNat, Nat.reducePow, Nat.min_eq_left, Nat.reduceAdd, Nat.reduceMul, Int.reduceAdd, Int.reduceSub, Int.reduceNeg, Int.reduceMul, Int.reduceEq, Int.reduceLT, Int.reduceLE, Nat.reduceSub, Int.reduceNatCast, Nat.reduceLeDiff]
    | (with_reducible (first | apply cd_split | apply gd_split)) <;> (intro hc; (try simp only [hcn] at hc); (try simp only [hc]); (try simp only [hcl] at hc); try omega))
  refine AL.own (by simp) hf fun h1 s1 n1 o1 => ?_
  repeat' (first
    | refine St.h ?_
    | simp (disch := first | omega | (simp only [lnv]; omega)) only [wlk, ↓get_put', Nat.reduceEqDiff, Nat.reduceLT, ↓reduceIte, Int.reduceToNat, Nat.reducePow, Nat.min_eq_left, Nat.reduceAdd, Nat.reduceMul, Int.reduceAdd, Int.reduceSub, Int.reduceNeg, Int.reduceMul, Int.reduceEq, Int.reduceLT, Int.reduceLE, Nat.reduceSub, Int.reduceNatCast, Nat.reduceLeDiff, o1.row.l1]
    | (with_reducible (first | apply cd_split | apply gd_split)) <;> (intro hc; (try simp only [hcn] at hc); (try simp only [hc]); (try simp only [hcl] at hc); try omega))
  all_goals (subst hQ; refine ⟨?_, s1⟩; congr 1; symm; first | exact isW_lo (by assumption) | exact isW_hi (by assumption) | exact isW_t (by assumption) (by assumption) (by assumption) | exact isW_f (by assumption) (by assumption) (by assumption))
theorem is_ok {h : H} {e : Ent} (hf : B.val h.floor ≤ B.val h.next) : FnOk Try.prog 63 [.a [sv e.key, .i .i64 e.seq, .b e.del, sv e.val]] h fun y h' => y = .b (isE e) ∧ Stay nowhere h h' := by
  refine fn_go c63 (by intro hb; cases hb) (by simp) (by simp) fun Q hQ => ?_
  simp only [slotsF, Nat.reduceAdd]
  repeat' (first
    | refine St.h ?_
    | simp (disch := first | omega | (simp only [lnv]; omega)) only [wlk, ↓get_put', Nat.reduceEqDiff, Nat.reduceLT, ↓reduceIte, Int.reduceToNat, Nat.reducePow, Nat.min_eq_left, Nat.reduceAdd, Nat.reduceMul, Int.reduceAdd, Int.reduceSub, Int.reduceNeg, Int.reduceMul, Int.reduceEq, Int.reduceLT, Int.reduceLE, Nat.reduceSub, Int.reduceNatCast, Nat.reduceLeDiff]
    | (with_reducible (first | apply cd_split | apply gd_split)) <;> (intro hc; (try simp only [hcn] at hc); (try simp only [hc]); (try simp only [hcl] at hc); try omega))
  refine AL.own (by simp) hf fun h1 s1 n1 o1 => ?_
  repeat' (first
    | refine St.h ?_
    | simp (disch := first | omega | (simp only [lnv]; omega)) only [wlk, ↓get_put', Nat.reduceEqDiff, Nat.reduceLT, ↓reduceIte, Int.reduceToNat, Nat.reducePow, Nat.min_eq_left, Nat.reduceAdd, Nat.reduceMul, Int.reduceAdd, Int.reduceSub, Int.reduceNeg, Int.reduceMul, Int.reduceEq, Int.reduceLT, Int.reduceLE, Nat.reduceSub, Int.reduceNatCast, Nat.reduceLeDiff, o1.row.l1]
    | (with_reducible (first | apply cd_split | apply gd_split)) <;> (intro hc; (try simp only [hcn] at hc); (try simp only [hc]); (try simp only [hcl] at hc); try omega))
  · refine CL.stay (isWrite_ok (s1.fl hf)) fun h2 s2 => ?_
    repeat' (first
      | refine St.h ?_
      | simp (disch := first | omega | (simp only [lnv]; omega)) only [wlk, ↓get_put', Nat.reduceEqDiff, Nat.reduceLT, ↓reduceIte, Int.reduceToNat, Nat.reducePow, Nat.min_eq_left, Nat.reduceAdd, Nat.reduceMul, Int.reduceAdd, Int.reduceSub, Int.reduceNeg, Int.reduceMul, Int.reduceEq, Int.reduceLT, Int.reduceLE, Nat.reduceSub, Int.reduceNatCast, Nat.reduceLeDiff, o1.row.l1]
      | (with_reducible (first | apply cd_split | apply gd_split)) <;> (intro hc; (try simp only [hcn] at hc); (try simp only [hc]); (try simp only [hcl] at hc); try omega))
    subst hQ
    exact ⟨by rw [isE_in (by assumption) (by assumption)], s1.trans s2⟩
  · subst hQ
    exact ⟨by rw [isE_hi (by assumption)], s1⟩
  · subst hQ
    exact ⟨by rw [isE_lo (by assumption)], s1⟩
theorem less_ok {h : H} {a b : Ent} (hf : B.val h.floor ≤ B.val h.next) : FnOk Try.prog 87 [.a [sv a.key, .i .i64 a.seq, .b a.del, sv a.val], .a [sv b.key, .i .i64 b.seq, .b b.del, sv b.val]] h fun y h' => y = .b (lessE a b) ∧ Stay nowhere h h' := by
  refine fn_go c87 (by intro hb; cases hb) (by simp) (by simp) fun Q hQ => ?_
  simp only [slotsF, Nat.reduceAdd]
  repeat' (first
    | refine St.h ?_
    | simp (disch := first | omega | (simp only [lnv]; omega)) only [wlk, ↓get_put', Nat.reduceEqDiff, Nat.reduceLT, ↓reduceIte, Int.reduceToNat, Nat.reducePow, Nat.min_eq_left, Nat.reduceAdd, Nat.reduceMul, Int.reduceAdd, Int.reduceSub, Int.reduceNeg, Int.reduceMul, Int.reduceEq, Int.reduceLT, Int.reduceLE, Nat.reduceSub, Int.reduceNatCast, Nat.reduceLeDiff]
    | (with_reducible (first | apply cd_split | apply gd_split)) <;> (intro hc; (try simp only [hcn] at hc); (try simp only [hc]); (try simp only [hcl] at hc); try omega))
  refine AL.own (by simp) hf fun h1 s1 n1 o1 => ?_
  repeat' (first
    | refine St.h ?_
    | simp (disch := first | omega | (simp only [lnv]; omega)) only [wlk, ↓get_put', Nat.reduceEqDiff, Nat.reduceLT, ↓reduceIte, Int.reduceToNat, Nat.reducePow, Nat.min_eq_left, Nat.reduceAdd, Nat.reduceMul, Int.reduceAdd, Int.reduceSub, Int.reduceNeg, Int.reduceMul, Int.reduceEq, Int.reduceLT, Int.reduceLE, Nat.reduceSub, Int.reduceNatCast, Nat.reduceLeDiff]
    | (with_reducible (first | apply cd_split | apply gd_split)) <;> (intro hc; (try simp only [hcn] at hc); (try simp only [hc]); (try simp only [hcl] at hc); try omega))
  refine AL.own (by simp) (s1.fl hf) fun h2 s2 n2 o2 => ?_
  have o1' := o1.stay s2 fun h => h
  by_cases hk : a.key = b.key
  · repeat' (first
      | refine St.h ?_
      | simp (disch := first | omega | (simp only [lnv]; omega)) only [wlk, ↓get_put', Nat.reduceEqDiff, Nat.reduceLT, ↓reduceIte, Int.reduceToNat, Nat.reducePow, Nat.min_eq_left, Nat.reduceAdd, Nat.reduceMul, Int.reduceAdd, Int.reduceSub, Int.reduceNeg, Int.reduceMul, Int.reduceEq, Int.reduceLT, Int.reduceLE, Nat.reduceSub, Int.reduceNatCast, Nat.reduceLeDiff, o1'.row.l1, o2.row.l1, hk]
      | (with_reducible (first | apply cd_split | apply gd_split)) <;> (intro hc; (try simp only [hcn] at hc); (try simp only [hc]); (try simp only [hcl] at hc); try omega))
    subst hQ
    exact ⟨by rw [lessE_eq hk], s1.trans s2⟩
  · repeat' (first
      | refine St.h ?_
      | simp (disch := first | omega | (simp only [lnv]; omega)) only [wlk, ↓get_put', Nat.reduceEqDiff, Nat.reduceLT, ↓reduceIte, Int.reduceToNat, Nat.reducePow, Nat.min_eq_left, Nat.reduceAdd, Nat.reduceMul, Int.reduceAdd, Int.reduceSub, Int.reduceNeg, Int.reduceMul, Int.reduceEq, Int.reduceLT, Int.reduceLE, Nat.reduceSub, Int.reduceNatCast, Nat.reduceLeDiff, o1'.row.l1, o2.row.l1, hk]
      | (with_reducible (first | apply cd_split | apply gd_split)) <;> (intro hc; (try simp only [hcn] at hc); (try simp only [hc]); (try simp only [hcl] at hc); try omega))
    subst hQ
    exact ⟨by rw [lessE_ne hk], s1.trans s2⟩
theorem sorted_ok {h : H} {v : V} {L : List Ent} (hL : Es h v L) (hl : L.length ≤ 9223372036854775807) (hf : B.val h.floor ≤ B.val h.next) : FnOk Try.prog 64 [v] h fun y h' => y = .b (sortedE L) ∧ Stay nowhere h h' := by
  refine fn_go c64 (by intro hb; cases hb) (by simp) (by simp) fun Q hQ => ?_
  simp only [slotsF, Nat.reduceAdd]
  repeat' (first
    | refine St.h ?_
    | simp (disch := first | omega | (simp only [lnv]; omega)) only [wlk, ↓get_put', Nat.reduceEqDiff, Nat.reduceLT, ↓reduceIte, Int.reduceToNat, Nat.reducePow, Nat.min_eq_left, Nat.reduceAdd, Nat.reduceMul, Int.reduceAdd, Int.reduceSub, Int.reduceNeg, Int.reduceMul, Int.reduceEq, Int.reduceLT, Int.reduceLE, Nat.reduceSub, Int.reduceNatCast, Nat.reduceLeDiff]
    | (with_reducible (first | apply cd_split | apply gd_split)) <;> (intro hc; (try simp only [hcn] at hc); (try simp only [hc]); (try simp only [hcl] at hc); try omega))
  refine Ok.lp (fun m t g => ∃ j : Nat, m = L.length - j ∧ Stay nowhere h g ∧ srtU L j = true ∧ j ≤ L.length - 1 ∧ get 0 t = v ∧ get 3 t = .i .i64 ((j : Int) + 1)) L.length ?_ ?_
  · simp (disch := first | omega | (simp only [lnv]; omega)) only [wlk, ↓get_put', Nat.reduceEqDiff, Nat.reduceLT, ↓reduceIte, Int.reduceToNat, Nat.reducePow, Nat.min_eq_left, Nat.reduceAdd, Nat.reduceMul, Int.reduceAdd, Int.reduceSub, Int.reduceNeg, Int.reduceMul, Int.reduceEq, Int.reduceLT, Int.reduceLE, Nat.reduceSub, Int.reduceNatCast, Nat.reduceLeDiff]
    exact ⟨0, by omega, Stay.refl _ _, rfl, by omega, trivial, rfl⟩
  rintro I hI m t g ⟨j, rfl, st, hs, hj, f0, f3⟩
  have hL' := hL.grow st
  have ej : (j : Int) + 1 - 1 = (j : Int) := by omega
  have ek : ((j : Int) + 1).toNat = j + 1 := by omega
  repeat' (first
    | refine St.h ?_
    | simp (disch := first | omega | (simp only [lnv]; omega)) only [wlk, ↓get_put', Nat.reduceEqDiff, Nat.reduceLT, ↓reduceIte, Int.reduceToNat, Nat.reducePow, Nat.min_eq_left, Nat.reduceAdd, Nat.reduceMul, Int.reduceAdd, Int.reduceSub, Int.reduceNeg, Int.reduceMul, Int.reduceEq, Int.reduceLT, Int.reduceLE, Nat.reduceSub, Int.reduceNatCast, Nat.reduceLeDiff, f0, f3, hL.ln, hL.ix, hL'.la, ej, ek, Int.toNat_natCast]
    | (with_reducible (first | apply cd_split | apply gd_split)) <;> (intro hc; (try simp only [hcn] at hc); (try simp only [hc]); (try simp only [hcl] at hc); try omega))
  · refine CL.stay (less_ok (st.fl hf)) fun h1 s1 => ?_
    cases hb : lessE (L.getD j default) (L.getD (j + 1) default) with
    | false =>
      repeat' (first
        | refine St.h ?_
        | simp (disch := first | omega | (simp only [lnv]; omega)) only [wlk, ↓get_put', Nat.reduceEqDiff, Nat.reduceLT, ↓reduceIte, Int.reduceToNat, Nat.reducePow, Nat.min_eq_left, Nat.reduceAdd, Nat.reduceMul, Int.reduceAdd, Int.reduceSub, Int.reduceNeg, Int.reduceMul, Int.reduceEq, Int.reduceLT, Int.reduceLE, Nat.reduceSub, Int.reduceNatCast, Nat.reduceLeDiff, f0, f3]
        | (with_reducible (first | apply cd_split | apply gd_split)) <;> (intro hc; (try simp only [hcn] at hc); (try simp only [hc]); (try simp only [hcl] at hc); try omega))
      subst hQ
      exact ⟨by rw [sorted_no (by omega) hb], st.trans s1⟩
    | true =>
      repeat' (first
        | refine St.h ?_
        | simp (disch := first | omega | (simp only [lnv]; omega)) only [wlk, ↓get_put', Nat.reduceEqDiff, Nat.reduceLT, ↓reduceIte, Int.reduceToNat, Nat.reducePow, Nat.min_eq_left, Nat.reduceAdd, Nat.reduceMul, Int.reduceAdd, Int.reduceSub, Int.reduceNeg, Int.reduceMul, Int.reduceEq, Int.reduceLT, Int.reduceLE, Nat.reduceSub, Int.reduceNatCast, Nat.reduceLeDiff, f0, f3]
        | (with_reducible (first | apply cd_split | apply gd_split)) <;> (intro hc; (try simp only [hcn] at hc); (try simp only [hc]); (try simp only [hcl] at hc); try omega))
      refine lp_next hI (L.length - (j + 1)) (by omega) ⟨j + 1, rfl, st.trans s1, by rw [srtU_succ, hs, hb]; rfl, by omega, ?_, ?_⟩
      · simp (disch := first | omega | (simp only [lnv]; omega)) only [wlk, ↓get_put', Nat.reduceEqDiff, Nat.reduceLT, ↓reduceIte, Int.reduceToNat, Nat.reducePow, Nat.min_eq_left, Nat.reduceAdd, Nat.reduceMul, Int.reduceAdd, Int.reduceSub, Int.reduceNeg, Int.reduceMul, Int.reduceEq, Int.reduceLT, Int.reduceLE, Nat.reduceSub, Int.reduceNatCast, Nat.reduceLeDiff, f0]
      · simp (disch := first | omega | (simp only [lnv]; omega)) only [wlk, ↓get_put', Nat.reduceEqDiff, Nat.reduceLT, ↓reduceIte, Int.reduceToNat, Nat.reducePow, Nat.min_eq_left, Nat.reduceAdd, Nat.reduceMul, Int.reduceAdd, Int.reduceSub, Int.reduceNeg, Int.reduceMul, Int.reduceEq, Int.reduceLT, Int.reduceLE, Nat.reduceSub, Int.reduceNatCast, Nat.reduceLeDiff]; rfl
  · subst hQ
    obtain rfl : j = L.length - 1 := by omega
    exact ⟨by rw [show sortedE L = true from hs], st⟩
end Go.Proofs.Ytjlhfoadabkahaa

set_option maxRecDepth 100000
set_option maxHeartbeats 8000000
set_option linter.all false
namespace Go.Proofs.Ytjlhfoadabkahaa
open Go Go.Ev
theorem isE_len {e : Ent} (h : isE e = true) : e.key.length ≤ 13 ∧ e.val.length ≤ 24 ∧ 1 ≤ e.seq ∧ e.seq ≤ 1000000 := by
  obtain ⟨⟨h1, h2⟩, h3, h4, h5, _⟩ := isE_iff.1 h; exact ⟨h4, h5, h1, h2⟩
theorem textB_len (l : List UInt8) (h : l.length ≤ 9223372036854775807) : (textB l).length ≤ l.length + 9 := by
  unfold textB; rw [List.length_append]; have := numB_len h; omega
theorem bytes_ok {h : H} {e : Ent} (hf : B.val h.floor ≤ B.val h.next) : FnOk Try.prog 92 [.a [sv e.key, .i .i64 e.seq, .b e.del, sv e.val]] h fun y h' => y = sv (bytesE e) ∧ Stay nowhere h h' := by
  refine fn_go c92 (by intro hb; cases hb) (by simp) (by simp) fun Q hQ => ?_
  simp only [slotsF, Nat.reduceAdd]
  repeat' (first
    | refine St.h ?_
    | simp (disch := first | omega | (simp only [lnv]; omega)) only [wlk, ↓get_put', Nat.reduceEqDiff, Nat.reduceLT, ↓reduceIte, Int.reduceToNat, Nat.reducePow, Nat.min_eq_left, Nat.reduceAdd, Nat.reduceMul, Int.reduceAdd, Int.reduceSub, Int.reduceNeg, Int.reduceMul, Int.reduceEq, Int.reduceLT, Int.reduceLE, Nat.reduceSub, Int.reduceNatCast, Nat.reduceLeDiff]
    | (with_reducible (first | apply cd_split | apply gd_split)) <;> (intro hc; (try simp only [hcn] at hc); (try simp only [hc]); (try simp only [hcl] at hc); try omega))
  refine AL.own (by simp) hf fun h1 s1 n1 o1 => ?_
  have hf1 := s1.fl hf
  repeat' (first
    | refine St.h ?_
    | simp (disch := first | omega | (simp only [lnv]; omega)) only [wlk, ↓get_put', Nat.reduceEqDiff, Nat.reduceLT, ↓reduceIte, Int.reduceToNat, Nat.reducePow, Nat.min_eq_left, Nat.reduceAdd, Nat.reduceMul, Int.reduceAdd, Int.reduceSub, Int.reduceNeg, Int.reduceMul, Int.reduceEq, Int.reduceLT, Int.reduceLE, Nat.reduceSub, Int.reduceNatCast, Nat.reduceLeDiff, o1.row.l1, o1.row.ln]
    | (with_reducible (first | apply cd_split | apply gd_split)) <;> (intro hc; (try simp only [hcn] at hc); (try simp only [hc]); (try simp only [hcl] at hc); try omega))
  refine CL.stay (is_ok hf1) fun h2 s2 => ?_
  have hf2 := s2.fl hf1
  have o2 := o1.stay s2 fun h => h
  cases hi : isE e with
  | false =>
    repeat' (first
      | refine St.h ?_
      | simp (disch := first | omega | (simp only [lnv]; omega)) only [wlk, ↓get_put', Nat.reduceEqDiff, Nat.reduceLT, ↓reduceIte, Int.reduceToNat, Nat.reducePow, Nat.min_eq_left, Nat.reduceAdd, Nat.reduceMul, Int.reduceAdd, Int.reduceSub, Int.reduceNeg, Int.reduceMul, Int.reduceEq, Int.reduceLT, Int.reduceLE, Nat.reduceSub, Int.reduceNatCast, Nat.reduceLeDiff, o2.row.l1]
      | (with_reducible (first | apply cd_split | apply gd_split)) <;> (intro hc; (try simp only [hcn] at hc); (try simp only [hc]); (try simp only [hcl] at hc); try omega))
    subst hQ
    exact ⟨by unfold bytesE; rw [hi]; rfl, s1.trans s2⟩
  | true =>
  obtain ⟨k1, k2, k3, k4⟩ := isE_len hi
  have hb : bytesE e = textB e.key ++ tailB e := by unfold bytesE; rw [hi]; rfl
  have l1 := textB_len e.key (by omega)
  have l2 := textB_len e.val (by omega)
  have l3 := numB_len (n := e.seq.toNat) (by omega)
  repeat' (first
    | refine St.h ?_
    | simp (disch := first | omega | (simp only [lnv]; omega)) only [wlk, ↓get_put', Nat.reduceEqDiff, Nat.reduceLT, ↓reduceIte, Int.reduceToNat, Nat.reducePow, Nat.min_eq_left, Nat.reduceAdd, Nat.reduceMul, Int.reduceAdd, Int.reduceSub, Int.reduceNeg, Int.reduceMul, Int.reduceEq, Int.reduceLT, Int.reduceLE, Nat.reduceSub, Int.reduceNatCast, Nat.reduceLeDiff, o2.row.l1]
    | (with_reducible (first | apply cd_split | apply gd_split)) <;> (intro hc; (try simp only [hcn] at hc); (try simp only [hc]); (try simp only [hcl] at hc); try omega))
  refine CL.stayU (text_ok (by omega) (re_fl _)) fun h3 s3 => ?_
  have o3 := o2.stay s3 fun h => h
  have hf3 := s3.fl hf2
  repeat' (first
    | refine St.h ?_
    | simp (disch := first | omega | (simp only [lnv]; omega)) only [wlk, ↓get_put', Nat.reduceEqDiff, Nat.reduceLT, ↓reduceIte, Int.reduceToNat, Nat.reducePow, Nat.min_eq_left, Nat.reduceAdd, Nat.reduceMul, Int.reduceAdd, Int.reduceSub, Int.reduceNeg, Int.reduceMul, Int.reduceEq, Int.reduceLT, Int.reduceLE, Nat.reduceSub, Int.reduceNatCast, Nat.reduceLeDiff, o3.row.l1]
    | (with_reducible (first | apply cd_split | apply gd_split)) <;> (intro hc; (try simp only [hcn] at hc); (try simp only [hc]); (try simp only [hcl] at hc); try omega))
  refine CL.stay (num_ok (by omega) hf3) fun h4 s4 => ?_
  have o4 := o3.stay s4 fun h => h
  have hf4 := s4.fl hf3
  have s14 := ((s1.trans s2).trans s3).trans s4
  cases hd : e.del with
  | true =>
    repeat' (first
      | refine St.h ?_
      | simp (disch := first | omega | (simp only [lnv]; omega)) only [wlk, ↓get_put', Nat.reduceEqDiff, Nat.reduceLT, ↓reduceIte, Int.reduceToNat, Nat.reducePow, Nat.min_eq_left, Nat.reduceAdd, Nat.reduceMul, Int.reduceAdd, Int.reduceSub, Int.reduceNeg, Int.reduceMul, Int.reduceEq, Int.reduceLT, Int.reduceLE, Nat.reduceSub, Int.reduceNatCast, Nat.reduceLeDiff, o4.row.l1, hd]
      | (with_reducible (first | apply cd_split | apply gd_split)) <;> (intro hc; (try simp only [hcn] at hc); (try simp only [hc]); (try simp only [hcl] at hc); try omega))
    refine AL.str (bs := [1]) rfl (by simp) rfl rfl (by simp) hf4 fun h5 u5 s5 => ?_
    repeat' (first
      | refine St.h ?_
      | simp (disch := first | omega | (simp only [lnv]; omega)) only [wlk, ↓get_put', Nat.reduceEqDiff, Nat.reduceLT, ↓reduceIte, Int.reduceToNat, Nat.reducePow, Nat.min_eq_left, Nat.reduceAdd, Nat.reduceMul, Int.reduceAdd, Int.reduceSub, Int.reduceNeg, Int.reduceMul, Int.reduceEq, Int.reduceLT, Int.reduceLE, Nat.reduceSub, Int.reduceNatCast, Nat.reduceLeDiff]
      | (with_reducible (first | apply cd_split | apply gd_split)) <;> (intro hc; (try simp only [hcn] at hc); (try simp only [hc]); (try simp only [hcl] at hc); try omega))
    subst hQ
    exact ⟨by rw [hb]; unfold tailB; rw [hd]; simp, s14.trans s5⟩
  | false =>
    repeat' (first
      | refine St.h ?_
      | simp (disch := first | omega | (simp only [lnv]; omega)) only [wlk, ↓get_put', Nat.reduceEqDiff, Nat.reduceLT, ↓reduceIte, Int.reduceToNat, Nat.reducePow, Nat.min_eq_left, Nat.reduceAdd, Nat.reduceMul, Int.reduceAdd, Int.reduceSub, Int.reduceNeg, Int.reduceMul, Int.reduceEq, Int.reduceLT, Int.reduceLE, Nat.reduceSub, Int.reduceNatCast, Nat.reduceLeDiff, o4.row.l1, hd]
      | (with_reducible (first | apply cd_split | apply gd_split)) <;> (intro hc; (try simp only [hcn] at hc); (try simp only [hc]); (try simp only [hcl] at hc); try omega))
    refine AL.strU (bs := [0]) rfl (by simp) rfl rfl (by simp) hf4 fun h5 u5 s5 => ?_
    have o5 := o4.stay s5 fun h => h
    have hf5 := s5.fl hf4
    repeat' (first
      | refine St.h ?_
      | simp (disch := first | omega | (simp only [lnv]; omega)) only [wlk, ↓get_put', Nat.reduceEqDiff, Nat.reduceLT, ↓reduceIte, Int.reduceToNat, Nat.reducePow, Nat.min_eq_left, Nat.reduceAdd, Nat.reduceMul, Int.reduceAdd, Int.reduceSub, Int.reduceNeg, Int.reduceMul, Int.reduceEq, Int.reduceLT, Int.reduceLE, Nat.reduceSub, Int.reduceNatCast, Nat.reduceLeDiff, o5.row.l1]
      | (with_reducible (first | apply cd_split | apply gd_split)) <;> (intro hc; (try simp only [hcn] at hc); (try simp only [hc]); (try simp only [hcl] at hc); try omega))
    refine CL.stayU (text_ok (by omega) (re_fl _)) fun h6 s6 => ?_
    repeat' (first
      | refine St.h ?_
      | simp (disch := first | omega | (simp only [lnv]; omega)) only [wlk, ↓get_put', Nat.reduceEqDiff, Nat.reduceLT, ↓reduceIte, Int.reduceToNat, Nat.reducePow, Nat.min_eq_left, Nat.reduceAdd, Nat.reduceMul, Int.reduceAdd, Int.reduceSub, Int.reduceNeg, Int.reduceMul, Int.reduceEq, Int.reduceLT, Int.reduceLE, Nat.reduceSub, Int.reduceNatCast, Nat.reduceLeDiff]
      | (with_reducible (first | apply cd_split | apply gd_split)) <;> (intro hc; (try simp only [hcn] at hc); (try simp only [hc]); (try simp only [hcl] at hc); try omega))
    subst hQ
    exact ⟨by rw [hb]; unfold tailB; rw [hd]; simp, (s14.trans s5).trans s6⟩
end Go.Proofs.Ytjlhfoadabkahaa

set_option maxRecDepth 100000
set_option maxHeartbeats 8000000
set_option linter.all false
namespace Go.Proofs.Ytjlhfoadabkahaa
open Go Go.Ev
theorem take_ok {h : H} {s : List UInt8} (hs : s.length ≤ 1000000) (hf : B.val h.floor ≤ B.val h.next) : FnOk Try.prog 118 [sv s] h fun y h' => y = triE (takeE s) ∧ Stay nowhere h h' := by
  refine fn_go c118 (by intro hb; cases hb) (by simp) (by simp) fun Q hQ => ?_
  simp only [slotsF, Nat.reduceAdd]
  repeat' (first
    | refine St.h ?_
    | simp (disch := first | omega | (simp only [lnv]; omega)) only [wlk, ↓get_put', Nat.reduceEqDiff, Nat.reduceLT, ↓reduceIte, Int.reduceToNat, Nat.reducePow, Nat.min_eq_left, Nat.reduceAdd, Nat.reduceMul, Int.reduceAdd, Int.reduceSub, Int.reduceNeg, Int.reduceMul, Int.reduceEq, Int.reduceLT, Int.reduceLE, Nat.reduceSub, Int.reduceNatCast, Nat.reduceLeDiff]
    | (with_reducible (first | apply cd_split | apply gd_split)) <;> (intro hc; (try simp only [hcn] at hc); (try simp only [hc]); (try simp only [hcl] at hc); try omega))
  refine AL.own (by simp) hf fun h1 s1 n1 o1 => ?_
  repeat' (first
    | refine St.h ?_
    | simp (disch := first | omega | (simp only [lnv]; omega)) only [wlk, ↓get_put', Nat.reduceEqDiff, Nat.reduceLT, ↓reduceIte, Int.reduceToNat, Nat.reducePow, Nat.min_eq_left, Nat.reduceAdd, Nat.reduceMul, Int.reduceAdd, Int.reduceSub, Int.reduceNeg, Int.reduceMul, Int.reduceEq, Int.reduceLT, Int.reduceLE, Nat.reduceSub, Int.reduceNatCast, Nat.reduceLeDiff]
    | (with_reducible (first | apply cd_split | apply gd_split)) <;> (intro hc; (try simp only [hcn] at hc); (try simp only [hc]); (try simp only [hcl] at hc); try omega))
  refine CL.pure (takeText_ok hs) ?_
  rcases takeT_range s with (hc | hc) | ⟨k, n, hc, k1, k2, k3⟩
  · rw [hc]; unfold triT
    repeat' (first
      | refine St.h ?_
      | simp (disch := first | omega | (simp only [lnv]; omega)) only [wlk, ↓get_put', Nat.reduceEqDiff, Nat.reduceLT, ↓reduceIte, Int.reduceToNat, Nat.reducePow, Nat.min_eq_left, Nat.reduceAdd, Nat.reduceMul, Int.reduceAdd, Int.reduceSub, Int.reduceNeg, Int.reduceMul, Int.reduceEq, Int.reduceLT, Int.reduceLE, Nat.reduceSub, Int.reduceNatCast, Nat.reduceLeDiff]
      | (with_reducible (first | apply cd_split | apply gd_split)) <;> (intro hc; (try simp only [hcn] at hc); (try simp only [hc]); (try simp only [hcl] at hc); try omega))
    refine ST.all o1 rfl rfl (by simp) (by simp) fun hz oz sz => ?_
    repeat' (first
      | refine St.h ?_
      | simp (disch := first | omega | (simp only [lnv]; omega)) only [wlk, ↓get_put', Nat.reduceEqDiff, Nat.reduceLT, ↓reduceIte, Int.reduceToNat, Nat.reducePow, Nat.min_eq_left, Nat.reduceAdd, Nat.reduceMul, Int.reduceAdd, Int.reduceSub, Int.reduceNeg, Int.reduceMul, Int.reduceEq, Int.reduceLT, Int.reduceLE, Nat.reduceSub, Int.reduceNatCast, Nat.reduceLeDiff, oz.ra4]
      | (with_reducible (first | apply cd_split | apply gd_split)) <;> (intro hc; (try simp only [hcn] at hc); (try simp only [hc]); (try simp only [hcl] at hc); try omega))
    subst hQ
    exact ⟨by rw [takeE_1 hc (by omega)]; rfl, (s1).past' sz fun i hi => by rw [hi]; exact Nat.le_refl _⟩
  · rw [hc]; unfold triT
    repeat' (first
      | refine St.h ?_
      | simp (disch := first | omega | (simp only [lnv]; omega)) only [wlk, ↓get_put', Nat.reduceEqDiff, Nat.reduceLT, ↓reduceIte, Int.reduceToNat, Nat.reducePow, Nat.min_eq_left, Nat.reduceAdd, Nat.reduceMul, Int.reduceAdd, Int.reduceSub, Int.reduceNeg, Int.reduceMul, Int.reduceEq, Int.reduceLT, Int.reduceLE, Nat.reduceSub, Int.reduceNatCast, Nat.reduceLeDiff]
      | (with_reducible (first | apply cd_split | apply gd_split)) <;> (intro hc; (try simp only [hcn] at hc); (try simp only [hc]); (try simp only [hcl] at hc); try omega))
    refine ST.all o1 rfl rfl (by simp) (by simp) fun hz oz sz => ?_
    repeat' (first
      | refine St.h ?_
      | simp (disch := first | omega | (simp only [lnv]; omega)) only [wlk, ↓get_put', Nat.reduceEqDiff, Nat.reduceLT, ↓reduceIte, Int.reduceToNat, Nat.reducePow, Nat.min_eq_left, Nat.reduceAdd, Nat.reduceMul, Int.reduceAdd, Int.reduceSub, Int.reduceNeg, Int.reduceMul, Int.reduceEq, Int.reduceLT, Int.reduceLE, Nat.reduceSub, Int.reduceNatCast, Nat.reduceLeDiff, oz.ra4]
      | (with_reducible (first | apply cd_split | apply gd_split)) <;> (intro hc; (try simp only [hcn] at hc); (try simp only [hc]); (try simp only [hcl] at hc); try omega))
    subst hQ
    exact ⟨by rw [takeE_1 hc (by omega)]; rfl, (s1).past' sz fun i hi => by rw [hi]; exact Nat.le_refl _⟩
  rw [hc]; unfold triT
  repeat' (first
    | refine St.h ?_
    | simp (disch := first | omega | (simp only [lnv]; omega)) only [wlk, ↓get_put', Nat.reduceEqDiff, Nat.reduceLT, ↓reduceIte, Int.reduceToNat, Nat.reducePow, Nat.min_eq_left, Nat.reduceAdd, Nat.reduceMul, Int.reduceAdd, Int.reduceSub, Int.reduceNeg, Int.reduceMul, Int.reduceEq, Int.reduceLT, Int.reduceLE, Nat.reduceSub, Int.reduceNatCast, Nat.reduceLeDiff, Int.toNat_natCast]
    | (with_reducible (first | apply cd_split | apply gd_split)) <;> (intro hc; (try simp only [hcn] at hc); (try simp only [hc]); (try simp only [hcl] at hc); try omega))
  have hd : (s.drop n).length = s.length - n := List.length_drop
  refine CL.pure (takeNum_ok (by omega)) ?_
  rcases takeN_range (s.drop n) with (hn | hn) | ⟨q, m, hn, m1, m2, m3, m4⟩
  · rw [hn]; unfold tri
    repeat' (first
      | refine St.h ?_
      | simp (disch := first | omega | (simp only [lnv]; omega)) only [wlk, ↓get_put', Nat.reduceEqDiff, Nat.reduceLT, ↓reduceIte, Int.reduceToNat, Nat.reducePow, Nat.min_eq_left, Nat.reduceAdd, Nat.reduceMul, Int.reduceAdd, Int.reduceSub, Int.reduceNeg, Int.reduceMul, Int.reduceEq, Int.reduceLT, Int.reduceLE, Nat.reduceSub, Int.reduceNatCast, Nat.reduceLeDiff]
      | (with_reducible (first | apply cd_split | apply gd_split)) <;> (intro hc; (try simp only [hcn] at hc); (try simp only [hc]); (try simp only [hcl] at hc); try omega))
    refine ST.all o1 rfl rfl (by simp) (by simp) fun hz oz sz => ?_
    repeat' (first
      | refine St.h ?_
      | simp (disch := first | omega | (simp only [lnv]; omega)) only [wlk, ↓get_put', Nat.reduceEqDiff, Nat.reduceLT, ↓reduceIte, Int.reduceToNat, Nat.reducePow, Nat.min_eq_left, Nat.reduceAdd, Nat.reduceMul, Int.reduceAdd, Int.reduceSub, Int.reduceNeg, Int.reduceMul, Int.reduceEq, Int.reduceLT, Int.reduceLE, Nat.reduceSub, Int.reduceNatCast, Nat.reduceLeDiff, oz.ra4]
      | (with_reducible (first | apply cd_split | apply gd_split)) <;> (intro hc; (try simp only [hcn] at hc); (try simp only [hc]); (try simp only [hcl] at hc); try omega))
    subst hQ
    exact ⟨by rw [takeE_3 hc (tailU_1 hn (by omega)) (by omega)]; rfl, (s1).past' sz fun i hi => by rw [hi]; exact Nat.le_refl _⟩
  · rw [hn]; unfold tri
    repeat' (first
      | refine St.h ?_
      | simp (disch := first | omega | (simp only [lnv]; omega)) only [wlk, ↓get_put', Nat.reduceEqDiff, Nat.reduceLT, ↓reduceIte, Int.reduceToNat, Nat.reducePow, Nat.min_eq_left, Nat.reduceAdd, Nat.reduceMul, Int.reduceAdd, Int.reduceSub, Int.reduceNeg, Int.reduceMul, Int.reduceEq, Int.reduceLT, Int.reduceLE, Nat.reduceSub, Int.reduceNatCast, Nat.reduceLeDiff]
      | (with_reducible (first | apply cd_split | apply gd_split)) <;> (intro hc; (try simp only [hcn] at hc); (try simp only [hc]); (try simp only [hcl] at hc); try omega))
    refine ST.all o1 rfl rfl (by simp) (by simp) fun hz oz sz => ?_
    repeat' (first
      | refine St.h ?_
      | simp (disch := first | omega | (simp only [lnv]; omega)) only [wlk, ↓get_put', Nat.reduceEqDiff, Nat.reduceLT, ↓reduceIte, Int.reduceToNat, Nat.reducePow, Nat.min_eq_left, Nat.reduceAdd, Nat.reduceMul, Int.reduceAdd, Int.reduceSub, Int.reduceNeg, Int.reduceMul, Int.reduceEq, Int.reduceLT, Int.reduceLE, Nat.reduceSub, Int.reduceNatCast, Nat.reduceLeDiff, oz.ra4]
      | (with_reducible (first | apply cd_split | apply gd_split)) <;> (intro hc; (try simp only [hcn] at hc); (try simp only [hc]); (try simp only [hcl] at hc); try omega))
    subst hQ
    exact ⟨by rw [takeE_3 hc (tailU_1 hn (by omega)) (by omega)]; rfl, (s1).past' sz fun i hi => by rw [hi]; exact Nat.le_refl _⟩
  rw [hn]; unfold tri
  have hg := getD_drop (s := s) n m
  have hb := (s.getD (n + m) 0).toNat_lt
  have ek : ((n : Int) + (m : Int)).toNat = n + m := by omega
  have ej : ((n : Int) + (m : Int) + 1).toNat = n + m + 1 := by omega
  have hdd : (s.drop n).drop (m + 1) = s.drop (n + m + 1) := by rw [List.drop_drop]; congr 1
  have hdl : (s.drop (n + m + 1)).length = s.length - (n + m + 1) := List.length_drop
  by_cases hm : m = (s.drop n).length
  · have hq : ((n : Int) + (m : Int) = (s.length : Int)) = True := eq_true (by omega)
    repeat' (first
      | refine St.h ?_
      | simp (disch := first | omega | (simp only [lnv]; omega)) only [wlk, ↓get_put', Nat.reduceEqDiff, Nat.reduceLT, ↓reduceIte, Int.reduceToNat, Nat.reducePow, Nat.min_eq_left, Nat.reduceAdd, Nat.reduceMul, Int.reduceAdd, Int.reduceSub, Int.reduceNeg, Int.reduceMul, Int.reduceEq, Int.reduceLT, Int.reduceLE, Nat.reduceSub, Int.reduceNatCast, Nat.reduceLeDiff, ek, ej, hq]
      | (with_reducible (first | apply cd_split | apply gd_split)) <;> (intro hc; (try simp only [hcn] at hc); (try simp only [hc]); (try simp only [hcl] at hc); try omega))
    refine ST.all o1 rfl rfl (by simp) (by simp) fun hz oz sz => ?_
    repeat' (first
      | refine St.h ?_
      | simp (disch := first | omega | (simp only [lnv]; omega)) only [wlk, ↓get_put', Nat.reduceEqDiff, Nat.reduceLT, ↓reduceIte, Int.reduceToNat, Nat.reducePow, Nat.min_eq_left, Nat.reduceAdd, Nat.reduceMul, Int.reduceAdd, Int.reduceSub, Int.reduceNeg, Int.reduceMul, Int.reduceEq, Int.reduceLT, Int.reduceLE, Nat.reduceSub, Int.reduceNatCast, Nat.reduceLeDiff, oz.ra4]
      | (with_reducible (first | apply cd_split | apply gd_split)) <;> (intro hc; (try simp only [hcn] at hc); (try simp only [hc]); (try simp only [hcl] at hc); try omega))
    subst hQ
    exact ⟨by rw [takeE_3 hc (tailU_2 hn hm) (by omega)]; rfl, (s1).past' sz fun i hi => by rw [hi]; exact Nat.le_refl _⟩
  have hq : ((n : Int) + (m : Int) = (s.length : Int)) = False := eq_false (by omega)
  by_cases c0 : (s.getD (n + m) 0).toNat = 0
  · repeat' (first
      | refine St.h ?_
      | simp (disch := first | omega | (simp only [lnv]; omega)) only [wlk, ↓get_put', Nat.reduceEqDiff, Nat.reduceLT, ↓reduceIte, Int.reduceToNat, Nat.reducePow, Nat.min_eq_left, Nat.reduceAdd, Nat.reduceMul, Int.reduceAdd, Int.reduceSub, Int.reduceNeg, Int.reduceMul, Int.reduceEq, Int.reduceLT, Int.reduceLE, Nat.reduceSub, Int.reduceNatCast, Nat.reduceLeDiff, ek, ej, hq, c0]
      | (with_reducible (first | apply cd_split | apply gd_split)) <;> (intro hc; (try simp only [hcn] at hc); (try simp only [hc]); (try simp only [hcl] at hc); try omega))
    refine CL.pure (takeText_ok (by omega)) ?_
    rcases takeT_range (s.drop (n + m + 1)) with (hv | hv) | ⟨v, j, hv, j1, j2, j3⟩
    · rw [hv]; unfold triT
      repeat' (first
        | refine St.h ?_
        | simp (disch := first | omega | (simp only [lnv]; omega)) only [wlk, ↓get_put', Nat.reduceEqDiff, Nat.reduceLT, ↓reduceIte, Int.reduceToNat, Nat.reducePow, Nat.min_eq_left, Nat.reduceAdd, Nat.reduceMul, Int.reduceAdd, Int.reduceSub, Int.reduceNeg, Int.reduceMul, Int.reduceEq, Int.reduceLT, Int.reduceLE, Nat.reduceSub, Int.reduceNatCast, Nat.reduceLeDiff]
        | (with_reducible (first | apply cd_split | apply gd_split)) <;> (intro hc; (try simp only [hcn] at hc); (try simp only [hc]); (try simp only [hcl] at hc); try omega))
      refine ST.all o1 rfl rfl (by simp) (by simp) fun hz oz sz => ?_
      repeat' (first
        | refine St.h ?_
        | simp (disch := first | omega | (simp only [lnv]; omega)) only [wlk, ↓get_put', Nat.reduceEqDiff, Nat.reduceLT, ↓reduceIte, Int.reduceToNat, Nat.reducePow, Nat.min_eq_left, Nat.reduceAdd, Nat.reduceMul, Int.reduceAdd, Int.reduceSub, Int.reduceNeg, Int.reduceMul, Int.reduceEq, Int.reduceLT, Int.reduceLE, Nat.reduceSub, Int.reduceNatCast, Nat.reduceLeDiff, oz.ra4]
        | (with_reducible (first | apply cd_split | apply gd_split)) <;> (intro hc; (try simp only [hcn] at hc); (try simp only [hc]); (try simp only [hcl] at hc); try omega))
      subst hQ
      exact ⟨by rw [takeE_3 hc (tailU_3 hn hm (by rw [hg]; exact c0) (by rw [hdd]; exact hv) (by omega)) (by omega)]; rfl, (s1).past' sz fun i hi => by rw [hi]; exact Nat.le_refl _⟩
    · rw [hv]; unfold triT
      repeat' (first
        | refine St.h ?_
        | simp (disch := first | omega | (simp only [lnv]; omega)) only [wlk, ↓get_put', Nat.reduceEqDiff, Nat.reduceLT, ↓reduceIte, Int.reduceToNat, Nat.reducePow, Nat.min_eq_left, Nat.reduceAdd, Nat.reduceMul, Int.reduceAdd, Int.reduceSub, Int.reduceNeg, Int.reduceMul, Int.reduceEq, Int.reduceLT, Int.reduceLE, Nat.reduceSub, Int.reduceNatCast, Nat.reduceLeDiff]
        | (with_reducible (first | apply cd_split | apply gd_split)) <;> (intro hc; (try simp only [hcn] at hc); (try simp only [hc]); (try simp only [hcl] at hc); try omega))
      refine ST.all o1 rfl rfl (by simp) (by simp) fun hz oz sz => ?_
      repeat' (first
        | refine St.h ?_
        | simp (disch := first | omega | (simp only [lnv]; omega)) only [wlk, ↓get_put', Nat.reduceEqDiff, Nat.reduceLT, ↓reduceIte, Int.reduceToNat, Nat.reducePow, Nat.min_eq_left, Nat.reduceAdd, Nat.reduceMul, Int.reduceAdd, Int.reduceSub, Int.reduceNeg, Int.reduceMul, Int.reduceEq, Int.reduceLT, Int.reduceLE, Nat.reduceSub, Int.reduceNatCast, Nat.reduceLeDiff, oz.ra4]
        | (with_reducible (first | apply cd_split | apply gd_split)) <;> (intro hc; (try simp only [hcn] at hc); (try simp only [hc]); (try simp only [hcl] at hc); try omega))
      subst hQ
      exact ⟨by rw [takeE_3 hc (tailU_3 hn hm (by rw [hg]; exact c0) (by rw [hdd]; exact hv) (by omega)) (by omega)]; rfl, (s1).past' sz fun i hi => by rw [hi]; exact Nat.le_refl _⟩
    rw [hv]; unfold triT
    repeat' (first
      | refine St.h ?_
      | simp (disch := first | omega | (simp only [lnv]; omega)) only [wlk, ↓get_put', Nat.reduceEqDiff, Nat.reduceLT, ↓reduceIte, Int.reduceToNat, Nat.reducePow, Nat.min_eq_left, Nat.reduceAdd, Nat.reduceMul, Int.reduceAdd, Int.reduceSub, Int.reduceNeg, Int.reduceMul, Int.reduceEq, Int.reduceLT, Int.reduceLE, Nat.reduceSub, Int.reduceNatCast, Nat.reduceLeDiff]
      | (with_reducible (first | apply cd_split | apply gd_split)) <;> (intro hc; (try simp only [hcn] at hc); (try simp only [hc]); (try simp only [hcl] at hc); try omega))
    have ez : (n : Int) + ((m : Int) + 1 + (j : Int)) = (n : Int) + (m : Int) + 1 + (j : Int) := by omega
    refine ST.all o1 rfl rfl (by simp) (by simp) fun hz oz sz => ?_
    repeat' (first
      | refine St.h ?_
      | simp (disch := first | omega | (simp only [lnv]; omega)) only [wlk, ↓get_put', Nat.reduceEqDiff, Nat.reduceLT, ↓reduceIte, Int.reduceToNat, Nat.reducePow, Nat.min_eq_left, Nat.reduceAdd, Nat.reduceMul, Int.reduceAdd, Int.reduceSub, Int.reduceNeg, Int.reduceMul, Int.reduceEq, Int.reduceLT, Int.reduceLE, Nat.reduceSub, Int.reduceNatCast, Nat.reduceLeDiff, oz.ra4]
      | (with_reducible (first | apply cd_split | apply gd_split)) <;> (intro hc; (try simp only [hcn] at hc); (try simp only [hc]); (try simp only [hcl] at hc); try omega))
    subst hQ
    exact ⟨by rw [takeE_4 hc (tailU_4 hn hm (by rw [hg]; exact c0) (by rw [hdd]; exact hv)), ez]; rfl, (s1).past' sz fun i hi => by rw [hi]; exact Nat.le_refl _⟩
  have q0 : (((s.getD (n + m) 0).toNat : Int) = 0) = False := eq_false (by omega)
  by_cases c1 : (s.getD (n + m) 0).toNat = 1
  · repeat' (first
      | refine St.h ?_
      | simp (disch := first | omega | (simp only [lnv]; omega)) only [wlk, ↓get_put', Nat.reduceEqDiff, Nat.reduceLT, ↓reduceIte, Int.reduceToNat, Nat.reducePow, Nat.min_eq_left, Nat.reduceAdd, Nat.reduceMul, Int.reduceAdd, Int.reduceSub, Int.reduceNeg, Int.reduceMul, Int.reduceEq, Int.reduceLT, Int.reduceLE, Nat.reduceSub, Int.reduceNatCast, Nat.reduceLeDiff, ek, ej, hq, q0, c1]
      | (with_reducible (first | apply cd_split | apply gd_split)) <;> (intro hc; (try simp only [hcn] at hc); (try simp only [hc]); (try simp only [hcl] at hc); try omega))
    have ez : (n : Int) + ((m : Int) + 1) = (n : Int) + (m : Int) + 1 := by omega
    refine ST.all o1 rfl rfl (by simp) (by simp) fun hz oz sz => ?_
    repeat' (first
      | refine St.h ?_
      | simp (disch := first | omega | (simp only [lnv]; omega)) only [wlk, ↓get_put', Nat.reduceEqDiff, Nat.reduceLT, ↓reduceIte, Int.reduceToNat, Nat.reducePow, Nat.min_eq_left, Nat.reduceAdd, Nat.reduceMul, Int.reduceAdd, Int.reduceSub, Int.reduceNeg, Int.reduceMul, Int.reduceEq, Int.reduceLT, Int.reduceLE, Nat.reduceSub, Int.reduceNatCast, Nat.reduceLeDiff, oz.ra4]
      | (with_reducible (first | apply cd_split | apply gd_split)) <;> (intro hc; (try simp only [hcn] at hc); (try simp only [hc]); (try simp only [hcl] at hc); try omega))
    subst hQ
    exact ⟨by rw [takeE_4 hc (tailU_5 hn hm (by rw [hg]; exact c1)), ez]; rfl, (s1).past' sz fun i hi => by rw [hi]; exact Nat.le_refl _⟩
  have q1 : (((s.getD (n + m) 0).toNat : Int) = 1) = False := eq_false (by omega)
  repeat' (first
    | refine St.h ?_
    | simp (disch := first | omega | (simp only [lnv]; omega)) only [wlk, ↓get_put', Nat.reduceEqDiff, Nat.reduceLT, ↓reduceIte, Int.reduceToNat, Nat.reducePow, Nat.min_eq_left, Nat.reduceAdd, Nat.reduceMul, Int.reduceAdd, Int.reduceSub, Int.reduceNeg, Int.reduceMul, Int.reduceEq, Int.reduceLT, Int.reduceLE, Nat.reduceSub, Int.reduceNatCast, Nat.reduceLeDiff, ek, ej, hq, q0, q1]
    | (with_reducible (first | apply cd_split | apply gd_split)) <;> (intro hc; (try simp only [hcn] at hc); (try simp only [hc]); (try simp only [hcl] at hc); try omega))
  refine ST.all o1 rfl rfl (by simp) (by simp) fun hz oz sz => ?_
  repeat' (first
    | refine St.h ?_
    | simp (disch := first | omega | (simp only [lnv]; omega)) only [wlk, ↓get_put', Nat.reduceEqDiff, Nat.reduceLT, ↓reduceIte, Int.reduceToNat, Nat.reducePow, Nat.min_eq_left, Nat.reduceAdd, Nat.reduceMul, Int.reduceAdd, Int.reduceSub, Int.reduceNeg, Int.reduceMul, Int.reduceEq, Int.reduceLT, Int.reduceLE, Nat.reduceSub, Int.reduceNatCast, Nat.reduceLeDiff, oz.ra4]
    | (with_reducible (first | apply cd_split | apply gd_split)) <;> (intro hc; (try simp only [hcn] at hc); (try simp only [hc]); (try simp only [hcl] at hc); try omega))
  subst hQ
  exact ⟨by rw [takeE_3 hc (tailU_6 hn hm (by rw [hg]; exact c0) (by rw [hg]; exact c1)) (by omega)]; rfl, (s1).past' sz fun i hi => by rw [hi]; exact Nat.le_refl _⟩
end Go.Proofs.Ytjlhfoadabkahaa

set_option maxRecDepth 100000
set_option maxHeartbeats 8000000
set_option linter.all false
namespace Go.Proofs.Ytjlhfoadabkahaa
open Go Go.Ev
theorem own_lt' {h : H} {id : B} {xs : List V} (o : Own h id xs) : B.val id < B.val h.next := by obtain ⟨_, _, _, _, _, _, h6, _⟩ := o; exact h6
theorem b_ne {a b : B} (h : B.val a < B.val b) : a ≠ b := fun e => by rw [e] at h; exact absurd h (Nat.lt_irrefl _)
theorem read_ok {h : H} {s : List UInt8} (hs : s.length ≤ 1000000) (hf : B.val h.floor ≤ B.val h.next) : FnOk Try.prog 105 [sv s] h fun y h' => y = triE (readE s) ∧ Stay nowhere h h' := by
  refine fn_go c105 (by intro hb; cases hb) (by simp) (by simp) fun Q hQ => ?_
  simp only [slotsF, Nat.reduceAdd]
  repeat' (first
    | refine St.h ?_
    | simp (disch := first | omega | (simp only [lnv]; omega)) only [wlk, ↓get_put', Nat.reduceEqDiff, Nat.reduceLT, ↓reduceIte, Int.reduceToNat, Nat.reducePow, Nat.min_eq_left, Nat.reduceAdd, Nat.reduceMul, Int.reduceAdd, Int.reduceSub, Int.reduceNeg, Int.reduceMul, Int.reduceEq, Int.reduceLT, Int.reduceLE, Nat.reduceSub, Int.reduceNatCast, Nat.reduceLeDiff]
    | (with_reducible (first | apply cd_split | apply gd_split)) <;> (intro hc; (try simp only [hcn] at hc); (try simp only [hc]); (try simp only [hcl] at hc); try omega))
  refine AL.own (by simp) hf fun h1 s1 n1 o1 => ?_
  have hf1 := s1.fl hf
  repeat' (first
    | refine St.h ?_
    | simp (disch := first | omega | (simp only [lnv]; omega)) only [wlk, ↓get_put', Nat.reduceEqDiff, Nat.reduceLT, ↓reduceIte, Int.reduceToNat, Nat.reducePow, Nat.min_eq_left, Nat.reduceAdd, Nat.reduceMul, Int.reduceAdd, Int.reduceSub, Int.reduceNeg, Int.reduceMul, Int.reduceEq, Int.reduceLT, Int.reduceLE, Nat.reduceSub, Int.reduceNatCast, Nat.reduceLeDiff]
    | (with_reducible (first | apply cd_split | apply gd_split)) <;> (intro hc; (try simp only [hcn] at hc); (try simp only [hc]); (try simp only [hcl] at hc); try omega))
  refine CL.stay (take_ok hs hf1) fun h2 s2 => ?_
  have hf2 := s2.fl hf1
  have o2 := o1.stay s2 fun h => h
  generalize hr : takeE s = r
  obtain ⟨x, z, f⟩ := r
  obtain ⟨k, q, d, v⟩ := x
  unfold triE entC
  repeat' (first
    | refine St.h ?_
    | simp (disch := first | omega | (simp only [lnv]; omega)) only [wlk, ↓get_put', Nat.reduceEqDiff, Nat.reduceLT, ↓reduceIte, Int.reduceToNat, Nat.reducePow, Nat.min_eq_left, Nat.reduceAdd, Nat.reduceMul, Int.reduceAdd, Int.reduceSub, Int.reduceNeg, Int.reduceMul, Int.reduceEq, Int.reduceLT, Int.reduceLE, Nat.reduceSub, Int.reduceNatCast, Nat.reduceLeDiff]
    | (with_reducible (first | apply cd_split | apply gd_split)) <;> (intro hc; (try simp only [hcn] at hc); (try simp only [hc]); (try simp only [hcl] at hc); try omega))
  refine AL.own (by simp) hf2 fun h3 s3 n3 o3 => ?_
  have hf3 := s3.fl hf2
  have o23 := o2.stay s3 fun h => h
  repeat' (first
    | refine St.h ?_
    | simp (disch := first | omega | (simp only [lnv]; omega)) only [wlk, ↓get_put', Nat.reduceEqDiff, Nat.reduceLT, ↓reduceIte, Int.reduceToNat, Nat.reducePow, Nat.min_eq_left, Nat.reduceAdd, Nat.reduceMul, Int.reduceAdd, Int.reduceSub, Int.reduceNeg, Int.reduceMul, Int.reduceEq, Int.reduceLT, Int.reduceLE, Nat.reduceSub, Int.reduceNatCast, Nat.reduceLeDiff]
    | (with_reducible (first | apply cd_split | apply gd_split)) <;> (intro hc; (try simp only [hcn] at hc); (try simp only [hc]); (try simp only [hcl] at hc); try omega))
  refine ST.all o3 rfl rfl (by simp) (by simp) fun h4 o4 s4 => ?_
  have hlt : B.val h.next < B.val h2.next := own_lt' o2
  have o24 := o23.stay s4 (b_ne hlt)
  have s34 : Stay nowhere h2 h4 := s3.past' s4 fun i hi => by rw [hi]; exact Nat.le_refl _
  have s14 := (s1.trans s2).trans s34
  have hf4 := s34.fl hf2
  by_cases fz : f = 0
  case neg =>
    have hz' : (f = 0) = False := eq_false fz
    repeat' (first
      | refine St.h ?_
      | simp (disch := first | omega | (simp only [lnv]; omega)) only [wlk, ↓get_put', Nat.reduceEqDiff, Nat.reduceLT, ↓reduceIte, Int.reduceToNat, Nat.reducePow, Nat.min_eq_left, Nat.reduceAdd, Nat.reduceMul, Int.reduceAdd, Int.reduceSub, Int.reduceNeg, Int.reduceMul, Int.reduceEq, Int.reduceLT, Int.reduceLE, Nat.reduceSub, Int.reduceNatCast, Nat.reduceLeDiff, hz']
      | (with_reducible (first | apply cd_split | apply gd_split)) <;> (intro hc; (try simp only [hcn] at hc); (try simp only [hc]); (try simp only [hcl] at hc); try omega))
    refine ST.all o24 rfl rfl (by simp) (by simp) fun hz oz sz => ?_
    repeat' (first
      | refine St.h ?_
      | simp (disch := first | omega | (simp only [lnv]; omega)) only [wlk, ↓get_put', Nat.reduceEqDiff, Nat.reduceLT, ↓reduceIte, Int.reduceToNat, Nat.reducePow, Nat.min_eq_left, Nat.reduceAdd, Nat.reduceMul, Int.reduceAdd, Int.reduceSub, Int.reduceNeg, Int.reduceMul, Int.reduceEq, Int.reduceLT, Int.reduceLE, Nat.reduceSub, Int.reduceNatCast, Nat.reduceLeDiff, oz.ra4]
      | (with_reducible (first | apply cd_split | apply gd_split)) <;> (intro hc; (try simp only [hcn] at hc); (try simp only [hc]); (try simp only [hcl] at hc); try omega))
    subst hQ
    exact ⟨by rw [readE_1 (by rw [hr]; exact fz), hr]; rfl, (s14).past' sz fun i hi => by rw [hi]; exact Nat.le_refl _⟩

  subst fz
  repeat' (first
    | refine St.h ?_
    | simp (disch := first | omega | (simp only [lnv]; omega)) only [wlk, ↓get_put', Nat.reduceEqDiff, Nat.reduceLT, ↓reduceIte, Int.reduceToNat, Nat.reducePow, Nat.min_eq_left, Nat.reduceAdd, Nat.reduceMul, Int.reduceAdd, Int.reduceSub, Int.reduceNeg, Int.reduceMul, Int.reduceEq, Int.reduceLT, Int.reduceLE, Nat.reduceSub, Int.reduceNatCast, Nat.reduceLeDiff, o4.row.ln]
    | (with_reducible (first | apply cd_split | apply gd_split)) <;> (intro hc; (try simp only [hcn] at hc); (try simp only [hc]); (try simp only [hcl] at hc); try omega))
  refine CL.stay (is_ok (e := ⟨k, q, d, v⟩) hf4) fun h5 s5 => ?_
  have o5 := o24.stay s5 fun h => h
  have o45 := o4.stay s5 fun h => h
  cases hi : isE ⟨k, q, d, v⟩ with
  | false =>
    repeat' (first
      | refine St.h ?_
      | simp (disch := first | omega | (simp only [lnv]; omega)) only [wlk, ↓get_put', Nat.reduceEqDiff, Nat.reduceLT, ↓reduceIte, Int.reduceToNat, Nat.reducePow, Nat.min_eq_left, Nat.reduceAdd, Nat.reduceMul, Int.reduceAdd, Int.reduceSub, Int.reduceNeg, Int.reduceMul, Int.reduceEq, Int.reduceLT, Int.reduceLE, Nat.reduceSub, Int.reduceNatCast, Nat.reduceLeDiff]
      | (with_reducible (first | apply cd_split | apply gd_split)) <;> (intro hc; (try simp only [hcn] at hc); (try simp only [hc]); (try simp only [hcl] at hc); try omega))
    refine ST.all o5 rfl rfl (by simp) (by simp) fun hz oz sz => ?_
    repeat' (first
      | refine St.h ?_
      | simp (disch := first | omega | (simp only [lnv]; omega)) only [wlk, ↓get_put', Nat.reduceEqDiff, Nat.reduceLT, ↓reduceIte, Int.reduceToNat, Nat.reducePow, Nat.min_eq_left, Nat.reduceAdd, Nat.reduceMul, Int.reduceAdd, Int.reduceSub, Int.reduceNeg, Int.reduceMul, Int.reduceEq, Int.reduceLT, Int.reduceLE, Nat.reduceSub, Int.reduceNatCast, Nat.reduceLeDiff, oz.ra4]
      | (with_reducible (first | apply cd_split | apply gd_split)) <;> (intro hc; (try simp only [hcn] at hc); (try simp only [hc]); (try simp only [hcl] at hc); try omega))
    subst hQ
    exact ⟨by rw [readE_2 (by rw [hr]) (by rw [hr]; exact hi)]; rfl, (s14.trans s5).past' sz fun i hi => by rw [hi]; exact Nat.le_refl _⟩

  | true =>
    repeat' (first
      | refine St.h ?_
      | simp (disch := first | omega | (simp only [lnv]; omega)) only [wlk, ↓get_put', Nat.reduceEqDiff, Nat.reduceLT, ↓reduceIte, Int.reduceToNat, Nat.reducePow, Nat.min_eq_left, Nat.reduceAdd, Nat.reduceMul, Int.reduceAdd, Int.reduceSub, Int.reduceNeg, Int.reduceMul, Int.reduceEq, Int.reduceLT, Int.reduceLE, Nat.reduceSub, Int.reduceNatCast, Nat.reduceLeDiff, o45.row.ln]
      | (with_reducible (first | apply cd_split | apply gd_split)) <;> (intro hc; (try simp only [hcn] at hc); (try simp only [hc]); (try simp only [hcl] at hc); try omega))
    refine ST.all o5 rfl rfl (by simp) (by simp) fun hz oz sz => ?_
    repeat' (first
      | refine St.h ?_
      | simp (disch := first | omega | (simp only [lnv]; omega)) only [wlk, ↓get_put', Nat.reduceEqDiff, Nat.reduceLT, ↓reduceIte, Int.reduceToNat, Nat.reducePow, Nat.min_eq_left, Nat.reduceAdd, Nat.reduceMul, Int.reduceAdd, Int.reduceSub, Int.reduceNeg, Int.reduceMul, Int.reduceEq, Int.reduceLT, Int.reduceLE, Nat.reduceSub, Int.reduceNatCast, Nat.reduceLeDiff, oz.ra4]
      | (with_reducible (first | apply cd_split | apply gd_split)) <;> (intro hc; (try simp only [hcn] at hc); (try simp only [hc]); (try simp only [hcl] at hc); try omega))
    subst hQ
    exact ⟨by rw [readE_3 (by rw [hr]) (by rw [hr]; exact hi), hr]; rfl, (s14.trans s5).past' sz fun i hi => by rw [hi]; exact Nat.le_refl _⟩
end Go.Proofs.Ytjlhfoadabkahaa

set_option maxRecDepth 100000
set_option maxHeartbeats 8000000
set_option linter.all false
namespace Go.Proofs.Ytjlhfoadabkahaa
open Go Go.Ev
theorem tailU_range (key s : List UInt8) (h0 : (tailU key s).2.2 = 0) : ∃ z : Nat, (tailU key s).2.1 = (z : Int) ∧ 1 ≤ z ∧ z ≤ s.length := by
  rcases takeN_range s with (hn | hn) | ⟨q, m, hn, m1, m2, m3, m4⟩
  · rw [tailU_1 hn (by omega)] at h0; cases h0
  · rw [tailU_1 hn (by omega)] at h0; cases h0
  by_cases hm : m = s.length
  · rw [tailU_2 hn hm] at h0; cases h0
  have hdl : (s.drop (m + 1)).length = s.length - (m + 1) := List.length_drop
  by_cases c0 : (s.getD m 0).toNat = 0
  · rcases takeT_range (s.drop (m + 1)) with (hv | hv) | ⟨v, j, hv, j1, j2, j3⟩
    · rw [tailU_3 hn hm c0 hv (by omega)] at h0; cases h0
    · rw [tailU_3 hn hm c0 hv (by omega)] at h0; cases h0
    · rw [tailU_4 hn hm c0 hv]; exact ⟨m + 1 + j, by simp, by omega, by omega⟩
  by_cases c1 : (s.getD m 0).toNat = 1
  · rw [tailU_5 hn hm c1]; exact ⟨m + 1, by simp, by omega, by omega⟩
  · rw [tailU_6 hn hm c0 c1] at h0; cases h0
theorem chkd_range (key s : List UInt8) (h0 : (chkd (tailU key s)).2.2 = 0) : ∃ z : Nat, (chkd (tailU key s)).2.1 = (z : Int) ∧ 1 ≤ z ∧ z ≤ s.length := by
  by_cases h1 : (tailU key s).2.2 = 0
  · cases hi : isE (tailU key s).1 with
    | true =>
      have e : chkd (tailU key s) = ((tailU key s).1, (tailU key s).2.1, 0) := by unfold chkd chkE; rw [h1, hi]; rfl
      rw [e]; exact tailU_range key s h1
    | false =>
      have e : chkd (tailU key s) = (entZ, 0, 10) := by unfold chkd chkE; rw [h1, hi]; rfl
      rw [e] at h0; cases h0
  · have e : chkd (tailU key s) = (entZ, 0, (tailU key s).2.2) := if_pos h1
    rw [e] at h0; exact absurd h0 h1
end Go.Proofs.Ytjlhfoadabkahaa

set_option maxRecDepth 1000000
set_option linter.all false
namespace Go.Proofs.Ytjlhfoadabkahaa
open Go Go.Ev
noncomputable abbrev s101_0 : CC := (CC.cond (tm 9) CC.skip (CC.exit 0))
noncomputable abbrev s101_1 : CC := (CC.region [(wB 18 (doMove (tm 4))), (wB 19 (doMove (tm 3))), (wB 20 (bin2 fAdd (tm 18) (tm 19))), (wB 21 (doRem (tm 20) (O.c (V.i IntKind.u32 (Int.ofNat 65521))))), (wB 4 (doMove (tm 21)))])
noncomputable abbrev s101_2 : CC := (CC.seq (CC.region [(wB 11 (doMove (tm 3))), (wB 12 (doMove (tm 0))), (wB 13 (doMove (tm 5))), (wB 14 (doSIndex (tm 12) (tm 13))), (wB 15 (doConv IntKind.u32 (tm 14))), (wB 16 (bin2 fAdd (tm 11) (tm 15))), (wB 17 (doRem (tm 16) (O.c (V.i IntKind.u32 (Int.ofNat 65521))))), (wB 3 (doMove (tm 17)))]) s101_1)
noncomputable abbrev s101_3 : CC := (CC.seq (CC.region [(wB 10 (doMove (tm 8))), (wB 5 (doMove (tm 10)))]) s101_2)
noncomputable abbrev s101_4 : CC := (CC.block 1 s101_3)
noncomputable abbrev s101_5 : CC := (CC.region [(wB 22 (bin2 fAdd (tm 8) (oN 1))), (wB 8 (doMove (tm 22)))])
noncomputable abbrev s101_6 : CC := (CC.seq s101_4 s101_5)
noncomputable abbrev s101_7 : CC := (CC.seq s101_0 s101_6)
noncomputable abbrev l101_0 : CC := (CC.seq (CC.region [(wB 9 (bin2 fLss (tm 8) (tm 7)))]) s101_7)
noncomputable abbrev s101_8 : CC := (CC.loop l101_0)
noncomputable abbrev s101_9 : CC := (CC.block 0 s101_8)
noncomputable abbrev s101_10 : CC := (CC.seq (CC.region [(wB 6 (doMove (tm 0))), (wB 7 (doLenS (tm 6))), (wB 8 (doMove (oN 0)))]) s101_9)
noncomputable abbrev s101_11 : CC := (CC.seq (CC.region [(wB 23 (doMove (tm 4))), (wB 24 (doShift shlF (tm 23) (O.c (V.i IntKind.u64 (Int.ofNat 16))))), (wB 25 (doMove (tm 3))), (wB 26 (bin2 fOr (tm 24) (tm 25))), (wB 2 (doMove (tm 26)))]) CC.ret)
noncomputable abbrev s101_12 : CC := (CC.seq s101_10 s101_11)
noncomputable abbrev s101_13 : CC := (CC.seq (CC.region [(wB 3 (doMove (O.c (V.i IntKind.u32 (Int.ofNat 1))))), (wB 4 (doMove (O.c (V.i IntKind.u32 (Int.ofNat 0)))))]) s101_12)
noncomputable abbrev b101 : CC := (CC.seq (CC.region [(wB 2 (doMove (O.c (V.i IntKind.u32 (Int.ofNat 0)))))]) s101_13)
theorem c101 : compFn Try.prog 101 = ⟨27, b101, [(Rs.tmp (slOf 2))]⟩ := by kernel_rfl
noncomputable abbrev s89_0 : CC := (CC.seq (CC.region [(wB 6 (doMove (tm 3))), (wB 7 (doShift shrF (tm 6) (O.c (V.i IntKind.u64 (Int.ofNat 24))))), (wB 8 (doConv IntKind.u8 (tm 7))), (wB 9 (doMove (tm 3))), (wB 10 (doShift shrF (tm 9) (O.c (V.i IntKind.u64 (Int.ofNat 16))))), (wB 11 (doConv IntKind.u8 (tm 10))), (wB 12 (doMove (tm 3))), (wB 13 (doShift shrF (tm 12) (O.c (V.i IntKind.u64 (Int.ofNat 8))))), (wB 14 (doConv IntKind.u8 (tm 13))), (wB 15 (doMove (tm 3))), (wB 16 (doConv IntKind.u8 (tm 15))), (wB 17 (doBuildSlice 5 4 [(V.i IntKind.u8 (Int.ofNat 0)), (V.i IntKind.u8 (Int.ofNat 0)), (V.i IntKind.u8 (Int.ofNat 0)), (V.i IntKind.u8 (Int.ofNat 0))] [(Pt.mk 0 1 (tm 8)), (Pt.mk 1 1 (tm 11)), (Pt.mk 2 1 (tm 14)), (Pt.mk 3 1 (tm 16))])), (wB 18 (doB2S (tm 17))), (wB 2 (doMove (tm 18)))]) CC.ret)
noncomputable abbrev s89_1 : CC := (CC.seq (CC.region [(wB 4 (doMove (tm 0))), (wB 5 (doCall 101 [(tm 4)])), (wB 3 (doMove (tm 5)))]) s89_0)
noncomputable abbrev b89 : CC := (CC.seq (CC.region [(wB 2 (doMove (O.c (V.s 0 0))))]) s89_1)
theorem c89 : compFn Try.prog 89 = ⟨19, b89, [(Rs.tmp (slOf 2))]⟩ := by kernel_rfl
noncomputable abbrev s65_0 : CC := (CC.seq (CC.region [(wB 3 (doMove (tm 0))), (wB 4 (doLenS (tm 3))), (wB 5 (doCall 88 [(tm 4)])), (wB 6 (doMove (tm 0))), (wB 7 (doCall 89 [(tm 6)])), (wB 8 (doConcat (tm 5) (tm 7))), (wB 9 (doMove (tm 0))), (wB 10 (doConcat (tm 8) (tm 9))), (wB 2 (doMove (tm 10)))]) CC.ret)
noncomputable abbrev b65 : CC := (CC.seq (CC.region [(wB 2 (doMove (O.c (V.s 0 0))))]) s65_0)
theorem c65 : compFn Try.prog 65 = ⟨11, b65, [(Rs.tmp (slOf 2))]⟩ := by kernel_rfl
noncomputable abbrev s72_0 : CC := (CC.seq (CC.region [(wB 2 (doMove (O.c (V.s 0 0)))), (wB 3 (doMove (oN 0))), (wB 4 (doMove (oN 12)))]) CC.ret)
noncomputable abbrev s72_1 : CC := (CC.seq (CC.region [(wB 2 (doMove (O.c (V.s 0 0)))), (wB 3 (doMove (oN 0))), (wB 4 (doMove (oN 13)))]) CC.ret)
noncomputable abbrev s72_2 : CC := (CC.cond (tm 20) s72_0 s72_1)
noncomputable abbrev s72_3 : CC := (CC.seq (CC.region [(wB 21 (bin2 fEql (tm 17) (oN 12))), (wB 20 (doMove (tm 21)))]) s72_2)
noncomputable abbrev s72_4 : CC := (CC.cond (tm 18) CC.skip s72_3)
noncomputable abbrev s72_5 : CC := (CC.seq (CC.region [(wB 19 (bin2 fEql (tm 17) (oN 0))), (wB 18 (doMove (tm 19)))]) s72_4)
noncomputable abbrev s72_6 : CC := (CC.block 0 s72_5)
noncomputable abbrev s72_7 : CC := (CC.seq (CC.region [(wB 17 (doMove (tm 7)))]) s72_6)
noncomputable abbrev s72_8 : CC := (CC.seq (CC.region [(wB 2 (doMove (O.c (V.s 0 0)))), (wB 3 (doMove (oN 0))), (wB 4 (doMove (oN 12)))]) CC.ret)
noncomputable abbrev s72_9 : CC := (CC.cond (tm 29) s72_8 CC.skip)
noncomputable abbrev s72_10 : CC := (CC.seq (CC.region [(wB 25 (doMove (tm 5))), (wB 26 (doMove (tm 8))), (wB 27 (doLenS (tm 26))), (wB 28 (bin2 fSub (tm 27) (oN 4))), (wB 29 (bin2 fGtr (tm 25) (tm 28)))]) s72_9)
noncomputable abbrev s72_11 : CC := (CC.seq (CC.region [(wB 2 (doMove (O.c (V.s 0 0)))), (wB 3 (doMove (oN 0))), (wB 4 (doMove (oN 13)))]) CC.ret)
noncomputable abbrev s72_12 : CC := (CC.cond (tm 39) s72_11 CC.skip)
noncomputable abbrev s72_13 : CC := (CC.seq (CC.region [(wB 36 (doMove (tm 9))), (wB 37 (doMove (tm 10))), (wB 38 (doCall 89 [(tm 37)])), (wB 39 (doSCmp (fun a b c d => !eqS a b c d) (tm 36) (tm 38)))]) s72_12)
noncomputable abbrev s72_14 : CC := (CC.seq (CC.region [(wB 40 (doMove (tm 10))), (wB 41 (doMove (tm 6))), (wB 42 (bin2 fAdd (tm 41) (oN 4))), (wB 43 (doMove (tm 5))), (wB 44 (bin2 fAdd (tm 42) (tm 43))), (wB 2 (doMove (tm 40))), (wB 3 (doMove (tm 44))), (wB 4 (doMove (oN 0)))]) CC.ret)
noncomputable abbrev s72_15 : CC := (CC.seq s72_13 s72_14)
noncomputable abbrev s72_16 : CC := (CC.seq (CC.draws [(uB 30 (doMove (tm 8))), (uB 31 (doSSlice (tm 30) none (some (oN 4)))), (uB 32 (doMove (tm 8))), (uB 33 (doMove (tm 5))), (uB 34 (bin2 fAdd (oN 4) (tm 33))), (uB 35 (doSSlice (tm 32) (some (oN 4)) (some (tm 34)))), (uB 9 (doMove (tm 31))), (uB 10 (doMove (tm 35)))]) s72_15)
noncomputable abbrev s72_17 : CC := (CC.seq s72_10 s72_16)
noncomputable abbrev s72_18 : CC := (CC.seq (CC.region [(wB 22 (doMove (tm 0))), (wB 23 (doMove (tm 6))), (wB 24 (doSSlice (tm 22) (some (tm 23)) none)), (wB 8 (doMove (tm 24)))]) s72_17)
noncomputable abbrev s72_19 : CC := (CC.seq s72_7 s72_18)
noncomputable abbrev s72_20 : CC := (CC.seq (CC.region [(wB 12 (doMove (tm 0))), (wB 13 (doCall 96 [(tm 12)])), (wB 11 (doMove (tm 13))), (wB 14 (doExtract 0 (tm 11))), (wB 15 (doExtract 1 (tm 11))), (wB 16 (doExtract 2 (tm 11))), (wB 5 (doMove (tm 14))), (wB 6 (doMove (tm 15))), (wB 7 (doMove (tm 16)))]) s72_19)
noncomputable abbrev b72 : CC := (CC.seq (CC.region [(wB 2 (doMove (O.c (V.s 0 0)))), (wB 3 (doMove (oN 0))), (wB 4 (doMove (oN 0)))]) s72_20)
theorem c72 : compFn Try.prog 72 = ⟨45, b72, [(Rs.tmp (slOf 2)), (Rs.tmp (slOf 3)), (Rs.tmp (slOf 4))]⟩ := by kernel_rfl
noncomputable abbrev s77_0 : CC := (CC.seq (CC.region [(wB 3 (doMove (tm 0))), (wB 4 (doShift shrF (tm 3) (O.c (V.i IntKind.u64 (Int.ofNat 24))))), (wB 5 (doConv IntKind.u8 (tm 4))), (wB 6 (doMove (tm 0))), (wB 7 (doShift shrF (tm 6) (O.c (V.i IntKind.u64 (Int.ofNat 16))))), (wB 8 (doConv IntKind.u8 (tm 7))), (wB 9 (doMove (tm 0))), (wB 10 (doShift shrF (tm 9) (O.c (V.i IntKind.u64 (Int.ofNat 8))))), (wB 11 (doConv IntKind.u8 (tm 10))), (wB 12 (doMove (tm 0))), (wB 13 (doConv IntKind.u8 (tm 12))), (wB 14 (doBuildSlice 5 4 [(V.i IntKind.u8 (Int.ofNat 0)), (V.i IntKind.u8 (Int.ofNat 0)), (V.i IntKind.u8 (Int.ofNat 0)), (V.i IntKind.u8 (Int.ofNat 0))] [(Pt.mk 0 1 (tm 5)), (Pt.mk 1 1 (tm 8)), (Pt.mk 2 1 (tm 11)), (Pt.mk 3 1 (tm 13))])), (wB 15 (doB2S (tm 14))), (wB 2 (doMove (tm 15)))]) CC.ret)
noncomputable abbrev b77 : CC := (CC.seq (CC.region [(wB 2 (doMove (O.c (V.s 0 0))))]) s77_0)
theorem c77 : compFn Try.prog 77 = ⟨16, b77, [(Rs.tmp (slOf 2))]⟩ := by kernel_rfl
end Go.Proofs.Ytjlhfoadabkahaa

set_option linter.all false
namespace Go.Ev
open Go
/-- the sum's two parts, one byte further -/
def adlStep (p : Nat × Nat) (c : UInt8) : Nat × Nat := ((p.1 + c.toNat) % 65521, (p.2 + (p.1 + c.toNat) % 65521) % 65521)
def adlF (p : Nat × Nat) (l : List UInt8) : Nat × Nat := l.foldl adlStep p
def adl (l : List UInt8) : Nat × Nat := adlF (1, 0) l
def sumB (l : List UInt8) : Nat := (adl l).2 * 65536 + (adl l).1
theorem adlF_append (p : Nat × Nat) (a b : List UInt8) : adlF p (a ++ b) = adlF (adlF p a) b := List.foldl_append
theorem adlF_lt {p : Nat × Nat} (h1 : p.1 < 65521) (h2 : p.2 < 65521) : ∀ l, (adlF p l).1 < 65521 ∧ (adlF p l).2 < 65521 := by
  intro l
  induction l generalizing p with
  | nil => exact ⟨h1, h2⟩
  | cons c l ih => exact ih (p := adlStep p c) (Nat.mod_lt _ (by omega)) (Nat.mod_lt _ (by omega))
theorem adl_lt (l : List UInt8) : (adl l).1 < 65521 ∧ (adl l).2 < 65521 := adlF_lt (by decide) (by decide) l
theorem sumB_lt (l : List UInt8) : sumB l < 4294967296 := by
  have := adl_lt l
  unfold sumB; omega
theorem sumB_snoc (l : List UInt8) (c : UInt8) : adl (l ++ [c]) = adlStep (adl l) c := by
  unfold adl; rw [adlF_append]; rfl
/-- four bytes of a number, the highest first -/
def fourB (n : Nat) : List UInt8 := [UInt8.ofNat (n / 16777216), UInt8.ofNat (n / 65536), UInt8.ofNat (n / 256), UInt8.ofNat n]
theorem fourB_len (n : Nat) : (fourB n).length = 4 := rfl
def sealB (l : List UInt8) : List UInt8 := numB l.length ++ fourB (sumB l) ++ l
theorem sealB_len (l : List UInt8) : (sealB l).length = (numB l.length).length + 4 + l.length := by
  unfold sealB; rw [List.length_append, List.length_append, fourB_len]
/-- what is sealed at the front -/
def openB (l : List UInt8) : List UInt8 × Int × Int :=
  if (takeN l).2.2 = 12 then ([], 0, 12) else if (takeN l).2.2 ≠ 0 then ([], 0, 13) else
  if ((l.length : Int) - (takeN l).2.1 < 4 ∨ (l.length : Int) - (takeN l).2.1 - 4 < (takeN l).1) then ([], 0, 12) else
  if fourB (sumB ((l.drop ((takeN l).2.1.toNat + 4)).take (takeN l).1.toNat)) ≠ (l.drop (takeN l).2.1.toNat).take 4 then ([], 0, 13) else
  ((l.drop ((takeN l).2.1.toNat + 4)).take (takeN l).1.toNat, (takeN l).2.1 + 4 + (takeN l).1, 0)
/-- with a number at the front -/
theorem openB_num {l : List UInt8} {n k : Nat} (h : takeN l = ((n : Int), (k : Int), 0)) : openB l = if ((l.length : Int) - k < 4 ∨ (l.length : Int) - k - 4 < n) then ([], 0, 12) else
    if fourB (sumB ((l.drop (k + 4)).take n)) ≠ (l.drop k).take 4 then ([], 0, 13) else ((l.drop (k + 4)).take n, (k : Int) + 4 + n, 0) := by
  unfold openB
  rw [h]
  simp only [Int.toNat_natCast]
  rw [if_neg (by decide), if_neg (by simp)]
theorem openB_seal {l more : List UInt8} (h : l.length ≤ 9223372036854775807) : openB (sealB l ++ more) = (l, ((sealB l).length : Int), 0) := by
  have e : sealB l ++ more = numB l.length ++ (fourB (sumB l) ++ l ++ more) := by unfold sealB; simp
  have ht : takeN (sealB l ++ more) = ((l.length : Int), ((numB l.length).length : Int), 0) := by rw [e]; exact takeN_numB h _
  rw [openB_num ht]
  have hlen : (sealB l ++ more).length = (numB l.length).length + 4 + l.length + more.length := by rw [List.length_append, sealB_len]
  have d1 : (sealB l ++ more).drop (numB l.length).length = fourB (sumB l) ++ l ++ more := by rw [e, List.drop_left]
  have d2 : (sealB l ++ more).drop ((numB l.length).length + 4) = l ++ more := by
    rw [← List.drop_drop, d1]
    show (fourB (sumB l) ++ l ++ more).drop (fourB (sumB l)).length = _
    rw [List.append_assoc, List.drop_left]
  have d3 : (fourB (sumB l) ++ l ++ more).take 4 = fourB (sumB l) := by
    show (fourB (sumB l) ++ l ++ more).take (fourB (sumB l)).length = _
    rw [List.append_assoc, List.take_left]
  rw [if_neg (by omega), d1, d2, d3, List.take_left, if_neg (by simp), sealB_len]
  congr 1
end Go.Ev

set_option linter.all false
namespace Go.Ev
open Go
theorem adl_take {l : List UInt8} {i : Nat} (h : i < l.length) : adl (l.take (i + 1)) = adlStep (adl (l.take i)) (l.getD i 0) := by
  rw [← sumB_snoc]
  congr 1
  rw [List.take_succ_eq_append_getElem h]
  simp [List.getD, h]
theorem openB_range (l : List UInt8) : openB l = ([], 0, 12) ∨ openB l = ([], 0, 13) ∨ ∃ (x : List UInt8) (n : Nat), openB l = (x, (n : Int), 0) ∧ 5 ≤ n ∧ n ≤ l.length ∧ x.length + 5 ≤ n := by
  rcases takeN_range l with (hc | hc) | ⟨n, k, hc, h1, h2, h3, h4⟩
  · right; left; unfold openB; rw [hc]; rfl
  · left; unfold openB; rw [hc]; rfl
  · rw [openB_num hc]
    by_cases c1 : ((l.length : Int) - k < 4 ∨ (l.length : Int) - k - 4 < n)
    · rw [if_pos c1]; exact .inl rfl
    · rw [if_neg c1]
      by_cases c2 : fourB (sumB ((l.drop (k + 4)).take n)) ≠ (l.drop k).take 4
      · rw [if_pos c2]; exact .inr (.inl rfl)
      · rw [if_neg c2]
        refine .inr (.inr ⟨_, k + 4 + n, rfl, by omega, by omega, ?_⟩)
        rw [List.length_take]; omega
end Go.Ev

set_option maxRecDepth 100000
set_option maxHeartbeats 8000000
set_option linter.all false
namespace Go.Proofs.Ytjlhfoadabkahaa
open Go Go.Ev
theorem sum_ok {h : H} {l : List UInt8} (hl : l.length ≤ 1000000) : FnOk Try.prog 101 [sv l] h fun y h' => y = .i .u32 (sumB l : Int) ∧ h' = h := by
  refine fn_go c101 (by intro hb; cases hb) (by simp) (by simp) fun Q hQ => ?_
  simp only [slotsF, Nat.reduceAdd]
  repeat' (first
    | refine St.h ?_
    | simp (disch := first | omega | (simp only [lnv]; omega)) only [wlk, ↓get_put', Nat.reduceEqDiff, Nat.reduceLT, ↓reduceIte, Int.reduceToNat, Nat.reducePow, Nat.min_eq_left, Nat.reduceAdd, Nat.reduceMul, Int.reduceAdd, Int.reduceSub, Int.reduceNeg, Int.reduceMul, Int.reduceEq, Int.reduceLT, Int.reduceLE, Nat.reduceSub, Int.reduceNatCast, Nat.reduceLeDiff]
    | (with_reducible (first | apply cd_split | apply gd_split)) <;> (intro hc; (try simp only [hcn] at hc); (try simp only [hc]); (try simp only [hcl] at hc); try omega))
  refine Ok.lp (fun m t g => ∃ i : Nat, i ≤ l.length ∧ m = l.length - i ∧ g = h ∧ get 0 t = sv l ∧ get 3 t = .i .u32 ((adl (l.take i)).1 : Int) ∧ get 4 t = .i .u32 ((adl (l.take i)).2 : Int) ∧ get 7 t = .i .i64 (l.length : Int) ∧ get 8 t = .i .i64 (i : Int)) l.length ?_ ?_
  · simp (disch := first | omega | (simp only [lnv]; omega)) only [wlk, ↓get_put', Nat.reduceEqDiff, Nat.reduceLT, ↓reduceIte, Int.reduceToNat, Nat.reducePow, Nat.min_eq_left, Nat.reduceAdd, Nat.reduceMul, Int.reduceAdd, Int.reduceSub, Int.reduceNeg, Int.reduceMul, Int.reduceEq, Int.reduceLT, Int.reduceLE, Nat.reduceSub, Int.reduceNatCast, Nat.reduceLeDiff]
    exact ⟨0, by omega, rfl, trivial, trivial, rfl, rfl, trivial, rfl⟩
  rintro I hI m t g ⟨i, hi, rfl, rfl, f0, f3, f4, f7, f8⟩
  have hci := (l.getD i 0).toNat_lt
  have ⟨b1, b2⟩ := adl_lt (l.take i)
  repeat' (first
    | refine St.h ?_
    | simp (disch := first | omega | (simp only [lnv]; omega)) only [wlk, ↓get_put', Nat.reduceEqDiff, Nat.reduceLT, ↓reduceIte, Int.reduceToNat, Nat.reducePow, Nat.min_eq_left, Nat.reduceAdd, Nat.reduceMul, Int.reduceAdd, Int.reduceSub, Int.reduceNeg, Int.reduceMul, Int.reduceEq, Int.reduceLT, Int.reduceLE, Nat.reduceSub, Int.reduceNatCast, Nat.reduceLeDiff, f0, f3, f4, f7, f8]
    | (with_reducible (first | apply cd_split | apply gd_split)) <;> (intro hc; (try simp only [hcn] at hc); (try simp only [hc]); (try simp only [hcl] at hc); try omega))
  · have e := adl_take (l := l) (i := i) (by omega)
    refine lp_next hI (l.length - (i + 1)) (by omega) ⟨i + 1, by omega, rfl, rfl, ?_, ?_, ?_, ?_, ?_⟩
    · simp (disch := first | omega | (simp only [lnv]; omega)) only [wlk, ↓get_put', Nat.reduceEqDiff, Nat.reduceLT, ↓reduceIte, Int.reduceToNat, Nat.reducePow, Nat.min_eq_left, Nat.reduceAdd, Nat.reduceMul, Int.reduceAdd, Int.reduceSub, Int.reduceNeg, Int.reduceMul, Int.reduceEq, Int.reduceLT, Int.reduceLE, Nat.reduceSub, Int.reduceNatCast, Nat.reduceLeDiff, f0]
    · simp (disch := first | omega | (simp only [lnv]; omega)) only [wlk, ↓get_put', Nat.reduceEqDiff, Nat.reduceLT, ↓reduceIte, Int.reduceToNat, Nat.reducePow, Nat.min_eq_left, Nat.reduceAdd, Nat.reduceMul, Int.reduceAdd, Int.reduceSub, Int.reduceNeg, Int.reduceMul, Int.reduceEq, Int.reduceLT, Int.reduceLE, Nat.reduceSub, Int.reduceNatCast, Nat.reduceLeDiff, e, adlStep]; rfl
    · simp (disch := first | omega | (simp only [lnv]; omega)) only [wlk, ↓get_put', Nat.reduceEqDiff, Nat.reduceLT, ↓reduceIte, Int.reduceToNat, Nat.reducePow, Nat.min_eq_left, Nat.reduceAdd, Nat.reduceMul, Int.reduceAdd, Int.reduceSub, Int.reduceNeg, Int.reduceMul, Int.reduceEq, Int.reduceLT, Int.reduceLE, Nat.reduceSub, Int.reduceNatCast, Nat.reduceLeDiff, e, adlStep]; rfl
    · simp (disch := first | omega | (simp only [lnv]; omega)) only [wlk, ↓get_put', Nat.reduceEqDiff, Nat.reduceLT, ↓reduceIte, Int.reduceToNat, Nat.reducePow, Nat.min_eq_left, Nat.reduceAdd, Nat.reduceMul, Int.reduceAdd, Int.reduceSub, Int.reduceNeg, Int.reduceMul, Int.reduceEq, Int.reduceLT, Int.reduceLE, Nat.reduceSub, Int.reduceNatCast, Nat.reduceLeDiff, f7]
    · simp (disch := first | omega | (simp only [lnv]; omega)) only [wlk, ↓get_put', Nat.reduceEqDiff, Nat.reduceLT, ↓reduceIte, Int.reduceToNat, Nat.reducePow, Nat.min_eq_left, Nat.reduceAdd, Nat.reduceMul, Int.reduceAdd, Int.reduceSub, Int.reduceNeg, Int.reduceMul, Int.reduceEq, Int.reduceLT, Int.reduceLE, Nat.reduceSub, Int.reduceNatCast, Nat.reduceLeDiff]; rfl
  · obtain rfl : i = l.length := by omega
    rw [List.take_length] at *
    have e : (((adl l).2 : Int) * 65536).toNat ||| (adl l).1 = sumB l := by
      rw [show (((adl l).2 : Int) * 65536).toNat = 2 ^ 16 * (adl l).2 by omega, ← Nat.two_pow_add_eq_or_of_lt (by omega)]
      unfold sumB; omega
    subst hQ
    simp (disch := first | omega | (simp only [lnv]; omega)) only [wlk, ↓get_put', Nat.reduceEqDiff, Nat.reduceLT, ↓reduceIte, Int.reduceToNat, Nat.reducePow, Nat.min_eq_left, Nat.reduceAdd, Nat.reduceMul, Int.reduceAdd, Int.reduceSub, Int.reduceNeg, Int.reduceMul, Int.reduceEq, Int.reduceLT, Int.reduceLE, Nat.reduceSub, Int.reduceNatCast, Nat.reduceLeDiff, e]
theorem fourB_cells {n : Nat} (h : n < 4294967296) : ([V.i .u8 ((n / 16777216 : Nat) : Int), V.i .u8 ((n / 65536 % 256 : Nat) : Int), V.i .u8 ((n / 256 % 256 : Nat) : Int), V.i .u8 ((n % 256 : Nat) : Int)] : List V) = (fourB n).map bv := by
  have e1 : n / 16777216 = n / 16777216 % 256 := by omega
  rw [e1]
  simp only [bv_ofNat]
  unfold fourB
  simp [u8_mod]
theorem four_ok {h : H} {n : Nat} (hn : n < 4294967296) (hf : B.val h.floor ≤ B.val h.next) : FnOk Try.prog 77 [.i .u32 (n : Int)] h fun y h' => y = sv (fourB n) ∧ Stay nowhere h h' := by
  refine fn_go c77 (by intro hb; cases hb) (by simp) (by simp) fun Q hQ => ?_
  simp only [slotsF, Nat.reduceAdd]
  repeat' (first
    | refine St.h ?_
    | simp (disch := first | omega | (simp only [lnv]; omega)) only [wlk, ↓get_put', Nat.reduceEqDiff, Nat.reduceLT, ↓reduceIte, Int.reduceToNat, Nat.reducePow, Nat.min_eq_left, Nat.reduceAdd, Nat.reduceMul, Int.reduceAdd, Int.reduceSub, Int.reduceNeg, Int.reduceMul, Int.reduceEq, Int.reduceLT, Int.reduceLE, Nat.reduceSub, Int.reduceNatCast, Nat.reduceLeDiff, wrap_u8m]
    | (with_reducible (first | apply cd_split | apply gd_split)) <;> (intro hc; (try simp only [hcn] at hc); (try simp only [hc]); (try simp only [hcl] at hc); try omega))
  refine AL.str (bs := fourB n) (fourB_cells hn) (by simp [fourB]) rfl rfl (by simp [fourB]) hf fun h' u s1 => ?_
  repeat' (first
    | refine St.h ?_
    | simp (disch := first | omega | (simp only [lnv]; omega)) only [wlk, ↓get_put', Nat.reduceEqDiff, Nat.reduceLT, ↓reduceIte, Int.reduceToNat, Nat.reducePow, Nat.min_eq_left, Nat.reduceAdd, Nat.reduceMul, Int.reduceAdd, Int.reduceSub, Int.reduceNeg, Int.reduceMul, Int.reduceEq, Int.reduceLT, Int.reduceLE, Nat.reduceSub, Int.reduceNatCast, Nat.reduceLeDiff]
    | (with_reducible (first | apply cd_split | apply gd_split)) <;> (intro hc; (try simp only [hcn] at hc); (try simp only [hc]); (try simp only [hcl] at hc); try omega))
  subst hQ
  exact ⟨rfl, s1⟩
theorem sumBytes_ok {h : H} {l : List UInt8} (hl : l.length ≤ 1000000) (hf : B.val h.floor ≤ B.val h.next) : FnOk Try.prog 89 [sv l] h fun y h' => y = sv (fourB (sumB l)) ∧ Stay nowhere h h' := by
  refine fn_go c89 (by intro hb; cases hb) (by simp) (by simp) fun Q hQ => ?_
  simp only [slotsF, Nat.reduceAdd]
  have hn := sumB_lt l
  repeat' (first
    | refine St.h ?_
    | simp (disch := first | omega | (simp only [lnv]; omega)) only [wlk, ↓get_put', Nat.reduceEqDiff, Nat.reduceLT, ↓reduceIte, Int.reduceToNat, Nat.reducePow, Nat.min_eq_left, Nat.reduceAdd, Nat.reduceMul, Int.reduceAdd, Int.reduceSub, Int.reduceNeg, Int.reduceMul, Int.reduceEq, Int.reduceLT, Int.reduceLE, Nat.reduceSub, Int.reduceNatCast, Nat.reduceLeDiff]
    | (with_reducible (first | apply cd_split | apply gd_split)) <;> (intro hc; (try simp only [hcn] at hc); (try simp only [hc]); (try simp only [hcl] at hc); try omega))
  refine CL.pure (sum_ok hl) ?_
  repeat' (first
    | refine St.h ?_
    | simp (disch := first | omega | (simp only [lnv]; omega)) only [wlk, ↓get_put', Nat.reduceEqDiff, Nat.reduceLT, ↓reduceIte, Int.reduceToNat, Nat.reducePow, Nat.min_eq_left, Nat.reduceAdd, Nat.reduceMul, Int.reduceAdd, Int.reduceSub, Int.reduceNeg, Int.reduceMul, Int.reduceEq, Int.reduceLT, Int.reduceLE, Nat.reduceSub, Int.reduceNatCast, Nat.reduceLeDiff, wrap_u8m]
    | (with_reducible (first | apply cd_split | apply gd_split)) <;> (intro hc; (try simp only [hcn] at hc); (try simp only [hc]); (try simp only [hcl] at hc); try omega))
  refine AL.str (bs := fourB (sumB l)) (fourB_cells hn) (by simp [fourB]) rfl rfl (by simp [fourB]) hf fun h' u s1 => ?_
  repeat' (first
    | refine St.h ?_
    | simp (disch := first | omega | (simp only [lnv]; omega)) only [wlk, ↓get_put', Nat.reduceEqDiff, Nat.reduceLT, ↓reduceIte, Int.reduceToNat, Nat.reducePow, Nat.min_eq_left, Nat.reduceAdd, Nat.reduceMul, Int.reduceAdd, Int.reduceSub, Int.reduceNeg, Int.reduceMul, Int.reduceEq, Int.reduceLT, Int.reduceLE, Nat.reduceSub, Int.reduceNatCast, Nat.reduceLeDiff]
    | (with_reducible (first | apply cd_split | apply gd_split)) <;> (intro hc; (try simp only [hcn] at hc); (try simp only [hc]); (try simp only [hcl] at hc); try omega))
  subst hQ
  exact ⟨rfl, s1⟩
theorem seal_ok {h : H} {l : List UInt8} (hl : l.length ≤ 1000000) (hf : B.val h.floor ≤ B.val h.next) : FnOk Try.prog 65 [sv l] h fun y h' => y = sv (sealB l) ∧ Stay nowhere h h' := by
  refine fn_go c65 (by intro hb; cases hb) (by simp) (by simp) fun Q hQ => ?_
  simp only [slotsF, Nat.reduceAdd]
  have h9 := numB_len (n := l.length) (by omega)
  have h4 := fourB_len (sumB l)
  repeat' (first
    | refine St.h ?_
    | simp (disch := first | omega | (simp only [lnv]; omega)) only [wlk, ↓get_put', Nat.reduceEqDiff, Nat.reduceLT, ↓reduceIte, Int.reduceToNat, Nat.reducePow, Nat.min_eq_left, Nat.reduceAdd, Nat.reduceMul, Int.reduceAdd, Int.reduceSub, Int.reduceNeg, Int.reduceMul, Int.reduceEq, Int.reduceLT, Int.reduceLE, Nat.reduceSub, Int.reduceNatCast, Nat.reduceLeDiff]
    | (with_reducible (first | apply cd_split | apply gd_split)) <;> (intro hc; (try simp only [hcn] at hc); (try simp only [hc]); (try simp only [hcl] at hc); try omega))
  refine CL.stay (num_ok (by omega) hf) fun h1 s1 => ?_
  repeat' (first
    | refine St.h ?_
    | simp (disch := first | omega | (simp only [lnv]; omega)) only [wlk, ↓get_put', Nat.reduceEqDiff, Nat.reduceLT, ↓reduceIte, Int.reduceToNat, Nat.reducePow, Nat.min_eq_left, Nat.reduceAdd, Nat.reduceMul, Int.reduceAdd, Int.reduceSub, Int.reduceNeg, Int.reduceMul, Int.reduceEq, Int.reduceLT, Int.reduceLE, Nat.reduceSub, Int.reduceNatCast, Nat.reduceLeDiff]
    | (with_reducible (first | apply cd_split | apply gd_split)) <;> (intro hc; (try simp only [hcn] at hc); (try simp only [hc]); (try simp only [hcl] at hc); try omega))
  refine CL.stay (sumBytes_ok hl (s1.fl hf)) fun h2 s2 => ?_
  repeat' (first
    | refine St.h ?_
    | simp (disch := first | omega | (simp only [lnv]; omega)) only [wlk, ↓get_put', Nat.reduceEqDiff, Nat.reduceLT, ↓reduceIte, Int.reduceToNat, Nat.reducePow, Nat.min_eq_left, Nat.reduceAdd, Nat.reduceMul, Int.reduceAdd, Int.reduceSub, Int.reduceNeg, Int.reduceMul, Int.reduceEq, Int.reduceLT, Int.reduceLE, Nat.reduceSub, Int.reduceNatCast, Nat.reduceLeDiff]
    | (with_reducible (first | apply cd_split | apply gd_split)) <;> (intro hc; (try simp only [hcn] at hc); (try simp only [hc]); (try simp only [hcl] at hc); try omega))
  subst hQ
  exact ⟨rfl, s1.trans s2⟩
/-- what Open tells, as a value -/
def opn (l : List UInt8) : V := .tu [sv (openB l).1, .i .i64 (openB l).2.1, .i .i64 (openB l).2.2]
theorem open_ok {h : H} {l : List UInt8} (hl : l.length ≤ 1000000) (hf : B.val h.floor ≤ B.val h.next) : FnOk Try.prog 72 [sv l] h fun y h' => y = opn l ∧ Stay nowhere h h' := by
  refine fn_go c72 (by intro hb; cases hb) (by simp) (by simp) fun Q hQ => ?_
  simp only [slotsF, Nat.reduceAdd]
  repeat' (first
    | refine St.h ?_
    | simp (disch := first | omega | (simp only [lnv]; omega)) only [wlk, ↓get_put', Nat.reduceEqDiff, Nat.reduceLT, ↓reduceIte, Int.reduceToNat, Nat.reducePow, Nat.min_eq_left, Nat.reduceAdd, Nat.reduceMul, Int.reduceAdd, Int.reduceSub, Int.reduceNeg, Int.reduceMul, Int.reduceEq, Int.reduceLT, Int.reduceLE, Nat.reduceSub, Int.reduceNatCast, Nat.reduceLeDiff]
    | (with_reducible (first | apply cd_split | apply gd_split)) <;> (intro hc; (try simp only [hcn] at hc); (try simp only [hc]); (try simp only [hcl] at hc); try omega))
  refine CL.pure (takeNum_ok hl) ?_
  rcases takeN_range l with (hc | hc) | ⟨n, k, hc, h1, h2, h3, h4⟩
  · have e : openB l = ([], 0, 13) := by unfold openB; rw [hc]; rfl
    rw [hc]; unfold tri
    repeat' (first
      | refine St.h ?_
      | simp (disch := first | omega | (simp only [lnv]; omega)) only [wlk, ↓get_put', Nat.reduceEqDiff, Nat.reduceLT, ↓reduceIte, Int.reduceToNat, Nat.reducePow, Nat.min_eq_left, Nat.reduceAdd, Nat.reduceMul, Int.reduceAdd, Int.reduceSub, Int.reduceNeg, Int.reduceMul, Int.reduceEq, Int.reduceLT, Int.reduceLE, Nat.reduceSub, Int.reduceNatCast, Nat.reduceLeDiff]
      | (with_reducible (first | apply cd_split | apply gd_split)) <;> (intro hc; (try simp only [hcn] at hc); (try simp only [hc]); (try simp only [hcl] at hc); try omega))
    subst hQ
    exact ⟨by unfold opn; rw [e], Stay.refl _ _⟩
  · have e : openB l = ([], 0, 12) := by unfold openB; rw [hc]; rfl
    rw [hc]; unfold tri
    repeat' (first
      | refine St.h ?_
      | simp (disch := first | omega | (simp only [lnv]; omega)) only [wlk, ↓get_put', Nat.reduceEqDiff, Nat.reduceLT, ↓reduceIte, Int.reduceToNat, Nat.reducePow, Nat.min_eq_left, Nat.reduceAdd, Nat.reduceMul, Int.reduceAdd, Int.reduceSub, Int.reduceNeg, Int.reduceMul, Int.reduceEq, Int.reduceLT, Int.reduceLE, Nat.reduceSub, Int.reduceNatCast, Nat.reduceLeDiff]
      | (with_reducible (first | apply cd_split | apply gd_split)) <;> (intro hc; (try simp only [hcn] at hc); (try simp only [hc]); (try simp only [hcl] at hc); try omega))
    subst hQ
    exact ⟨by unfold opn; rw [e], Stay.refl _ _⟩
  have e := openB_num hc
  rw [hc]; unfold tri
  have hd : (l.drop k).length = l.length - k := List.length_drop
  repeat' (first
    | refine St.h ?_
    | simp (disch := first | omega | (simp only [lnv]; omega)) only [wlk, ↓get_put', Nat.reduceEqDiff, Nat.reduceLT, ↓reduceIte, Int.reduceToNat, Nat.reducePow, Nat.min_eq_left, Nat.reduceAdd, Nat.reduceMul, Int.reduceAdd, Int.reduceSub, Int.reduceNeg, Int.reduceMul, Int.reduceEq, Int.reduceLT, Int.reduceLE, Nat.reduceSub, Int.reduceNatCast, Nat.reduceLeDiff, Int.toNat_natCast]
    | (with_reducible (first | apply cd_split | apply gd_split)) <;> (intro hc; (try simp only [hcn] at hc); (try simp only [hc]); (try simp only [hcl] at hc); try omega))
  · rw [if_pos (by omega)] at e
    subst hQ
    exact ⟨by unfold opn; rw [e], Stay.refl _ _⟩
  rw [if_neg (by omega)] at e
  have ht : ((l.drop k).take (4 + (n : Int)).toNat).drop 4 = (l.drop (k + 4)).take n := by
    rw [show (4 + (n : Int)).toNat = 4 + n by omega, List.drop_take, List.drop_drop]
    congr 1; omega
  rw [ht]
  have htl : ((l.drop (k + 4)).take n).length ≤ 1000000 := by rw [List.length_take, List.length_drop]; omega
  refine CL.stay (sumBytes_ok htl hf) fun h1' s1 => ?_
  repeat' (first
    | refine St.h ?_
    | simp (disch := first | omega | (simp only [lnv]; omega)) only [wlk, ↓get_put', Nat.reduceEqDiff, Nat.reduceLT, ↓reduceIte, Int.reduceToNat, Nat.reducePow, Nat.min_eq_left, Nat.reduceAdd, Nat.reduceMul, Int.reduceAdd, Int.reduceSub, Int.reduceNeg, Int.reduceMul, Int.reduceEq, Int.reduceLT, Int.reduceLE, Nat.reduceSub, Int.reduceNatCast, Nat.reduceLeDiff]
    | (with_reducible (first | apply cd_split | apply gd_split)) <;> (intro hc; (try simp only [hcn] at hc); (try simp only [hc]); (try simp only [hcl] at hc); try omega))
  all_goals subst hQ
  · rw [if_pos (fun e' => hc e'.symm)] at e
    exact ⟨by unfold opn; rw [e], s1⟩
  · rw [if_neg (by intro e'; exact e' hc.symm)] at e
    exact ⟨by unfold opn; rw [e], s1⟩
end Go.Proofs.Ytjlhfoadabkahaa

set_option linter.all false
namespace Go.Ev
open Go
/-- how far two keys are alike -/
def sharedB : List UInt8 → List UInt8 → Nat
  | x :: a, y :: b => if x = y then sharedB a b + 1 else 0
  | _, _ => 0
theorem sharedB_le : ∀ (a b : List UInt8), sharedB a b ≤ a.length ∧ sharedB a b ≤ b.length
  | x :: a, y :: b => by
    have ih := sharedB_le a b
    unfold sharedB
    split <;> simp <;> omega
  | [], _ => by simp [sharedB]
  | _ :: _, [] => by simp [sharedB]
theorem sharedB_at : ∀ {a b : List UInt8} {n : Nat}, n ≤ a.length → n ≤ b.length → (∀ i, i < n → a.getD i 0 = b.getD i 0) → (n = a.length ∨ n = b.length ∨ a.getD n 0 ≠ b.getD n 0) → sharedB a b = n
  | [], b, n, h1, _, _, _ => by simp at h1; subst h1; rfl
  | x :: a, [], n, _, h2, _, _ => by simp at h2; subst h2; rfl
  | x :: a, y :: b, 0, _, _, _, h => by
    have : x ≠ y := by
      rcases h with h | h | h
      · simp at h
      · simp at h
      · exact h
    unfold sharedB; rw [if_neg this]
  | x :: a, y :: b, n + 1, h1, h2, he, h => by
    have e0 : x = y := he 0 (by omega)
    have ih := sharedB_at (a := a) (b := b) (n := n) (by simpa using h1) (by simpa using h2) (fun i hi => he (i + 1) (by omega)) (by
      rcases h with h | h | h
      · exact .inl (by simpa using h)
      · exact .inr (.inl (by simpa using h))
      · exact .inr (.inr h))
    unfold sharedB; rw [if_pos e0, ih]
theorem sharedB_comm : ∀ a b : List UInt8, sharedB a b = sharedB b a
  | [], [] => rfl
  | [], _ :: _ => rfl
  | _ :: _, [] => rfl
  | x :: a, y :: b => by
    unfold sharedB
    by_cases e : x = y
    · rw [if_pos e, if_pos e.symm, sharedB_comm a b]
    · rw [if_neg e, if_neg (fun h => e h.symm)]
theorem sharedB_take : ∀ a b : List UInt8, a.take (sharedB a b) = b.take (sharedB a b)
  | [], [] => rfl
  | [], _ :: _ => rfl
  | _ :: _, [] => rfl
  | x :: a, y :: b => by
    unfold sharedB
    by_cases e : x = y
    · rw [if_pos e, List.take_succ_cons, List.take_succ_cons, sharedB_take a b, e]
    · rw [if_neg e]; rfl
/-- an entry behind a key -/
def oneB (p : List UInt8) (e : Ent) : List UInt8 := numB (sharedB e.key p) ++ textB (e.key.drop (sharedB e.key p)) ++ tailB e
def bodyB : List UInt8 → List Ent → List UInt8
  | _, [] => []
  | p, e :: L => oneB p e ++ bodyB e.key L
def blkE (L : List Ent) : List UInt8 × Int := if L.all isE = false ∨ L = [] then ([], 10) else if sortedE L = false then ([], 16) else (sealB (bodyB [] L), 0)
theorem blkE_bad {L : List Ent} (h : L.all isE = false) : blkE L = ([], 10) := if_pos (.inl h)
theorem blkE_nil : blkE [] = ([], 10) := if_pos (.inr rfl)
theorem blkE_un {L : List Ent} (h : L.all isE = true) (hn : L ≠ []) (hs : sortedE L = false) : blkE L = ([], 16) := by
  unfold blkE; rw [if_neg (fun e => e.elim (fun e => by rw [h] at e; cases e) hn), if_pos hs]
theorem blkE_ok {L : List Ent} (h : L.all isE = true) (hn : L ≠ []) (hs : sortedE L = true) : blkE L = (sealB (bodyB [] L), 0) := by
  unfold blkE; rw [if_neg (fun e => e.elim (fun e => by rw [h] at e; cases e) hn), if_neg (by rw [hs]; decide)]
theorem tailB_len {e : Ent} (h : isE e = true) : (tailB e).length ≤ 43 := by
  obtain ⟨⟨s1, s2⟩, k1, k2, k3, k4⟩ := isE_iff.1 h
  have l3 := numB_len (n := e.seq.toNat) (by omega)
  have l4 := numB_len (n := e.val.length) (by omega)
  unfold tailB textB
  rw [List.length_append]
  split <;> simp <;> omega
theorem oneB_len {p : List UInt8} {e : Ent} (h : isE e = true) : (oneB p e).length ≤ 80 := by
  have h1 := tailB_len h
  obtain ⟨_, k1, k2, _⟩ := isE_iff.1 h
  have hs := sharedB_le e.key p
  have l3 := numB_len (n := sharedB e.key p) (by omega)
  have l4 := numB_len (n := (e.key.drop (sharedB e.key p)).length) (by rw [List.length_drop]; omega)
  unfold oneB textB
  simp only [List.length_append, List.length_drop] at *
  omega
theorem bodyB_len : ∀ {L : List Ent} {p : List UInt8}, L.all isE = true → (bodyB p L).length ≤ 80 * L.length
  | [], _, _ => by simp [bodyB]
  | e :: L, p, h => by
    rw [List.all_cons, Bool.and_eq_true] at h
    have h1 := oneB_len (p := p) h.1
    have h2 := bodyB_len (p := e.key) h.2
    have e1 : bodyB p (e :: L) = oneB p e ++ bodyB e.key L := rfl
    rw [e1, List.length_append, List.length_cons]; omega
/-- one step of reading: the entry, how many bytes -/
def stepE (p r : List UInt8) : Option (Ent × Nat) :=
  if (takeN r).2.2 ≠ 0 ∨ (p.length : Int) < (takeN r).1 then none else
  if (takeT (r.drop (takeN r).2.1.toNat)).2.2 ≠ 0 then none else
  if (chkd (tailU (p.take (takeN r).1.toNat ++ (takeT (r.drop (takeN r).2.1.toNat)).1) (r.drop ((takeN r).2.1.toNat + (takeT (r.drop (takeN r).2.1.toNat)).2.1.toNat)))).2.2 ≠ 0 then none else
  some ((chkd (tailU (p.take (takeN r).1.toNat ++ (takeT (r.drop (takeN r).2.1.toNat)).1) (r.drop ((takeN r).2.1.toNat + (takeT (r.drop (takeN r).2.1.toNat)).2.1.toNat)))).1,
    (takeN r).2.1.toNat + (takeT (r.drop (takeN r).2.1.toNat)).2.1.toNat + (chkd (tailU (p.take (takeN r).1.toNat ++ (takeT (r.drop (takeN r).2.1.toNat)).1) (r.drop ((takeN r).2.1.toNat + (takeT (r.drop (takeN r).2.1.toNat)).2.1.toNat)))).2.1.toNat)
section
variable {p r t : List UInt8} {k i j m : Nat} {e : Int} {x : Ent}
theorem stepE_3 (h : takeN r = ((k : Int), (i : Int), 0)) (hk : k ≤ p.length) (h2 : takeT (r.drop i) = ([], 0, e)) (he : e ≠ 0) : stepE p r = none := by
  unfold stepE; rw [h]; simp only [Int.toNat_natCast]
  rw [if_neg (by rintro (h | h) <;> omega), h2]; exact if_pos he
theorem stepE_5 (h : takeN r = ((k : Int), (i : Int), 0)) (hk : k ≤ p.length) (h2 : takeT (r.drop i) = (t, (j : Int), 0)) (h3 : chkd (tailU (p.take k ++ t) (r.drop (i + j))) = (x, (m : Int), 0)) : stepE p r = some (x, i + j + m) := by
  unfold stepE; rw [h]; simp only [Int.toNat_natCast]
  rw [if_neg (by rintro (h | h) <;> omega), h2]; simp only [Int.toNat_natCast]
  rw [if_neg (by simp), h3]; simp only [Int.toNat_natCast]
  rw [if_neg (by simp)]
end
/-- the entries of bytes, behind a key; the first number is how many steps at most -/
def prsE : Nat → List UInt8 → List UInt8 → Option (List Ent)
  | 0, _, r => if r = [] then some [] else none
  | f + 1, p, r => if r = [] then some [] else match stepE p r with
    | none => none
    | some (x, n) => (prsE f x.key (r.drop n)).map (x :: ·)
theorem prsE_nil (f : Nat) (p : List UInt8) : prsE f p [] = some [] := by cases f <;> rfl
theorem prsE_some {f : Nat} {p r : List UInt8} {x : Ent} {n : Nat} (hr : r ≠ []) (h : stepE p r = some (x, n)) : prsE (f + 1) p r = (prsE f x.key (r.drop n)).map (x :: ·) := by
  rw [prsE, if_neg hr, h]
def readB (s : List UInt8) : List Ent × Int :=
  if (openB s).2.2 ≠ 0 then ([], (openB s).2.2) else if (openB s).2.1 ≠ (s.length : Int) then ([], 13) else
  match prsE (openB s).1.length [] (openB s).1 with
  | none => ([], 10)
  | some L => if (blkE L).2 = 0 ∧ (blkE L).1 = s then (L, 0) else ([], 10)
section
variable {s b : List UInt8} {n : Nat} {e : Int} {L : List Ent}
theorem readB_1 (h : openB s = ([], 0, e)) (he : e ≠ 0) : readB s = ([], e) := by unfold readB; rw [h]; exact if_pos he
theorem readB_2 (h : openB s = (b, (n : Int), 0)) (hn : n ≠ s.length) : readB s = ([], 13) := by
  unfold readB; rw [h]; simp only; rw [if_neg (by simp), if_pos (by omega)]
theorem readB_3 (h : openB s = (b, (n : Int), 0)) (hn : n = s.length) (h2 : prsE b.length [] b = none) : readB s = ([], 10) := by
  unfold readB; rw [h]; simp only; rw [if_neg (by simp), if_neg (by simp; omega), h2]
theorem readB_4 (h : openB s = (b, (n : Int), 0)) (hn : n = s.length) (h2 : prsE b.length [] b = some L) : readB s = if (blkE L).2 = 0 ∧ (blkE L).1 = s then (L, 0) else ([], 10) := by
  unfold readB; rw [h]; simp only; rw [if_neg (by simp), if_neg (by simp; omega), h2]
end
theorem prsE_len : ∀ {f : Nat} {p r : List UInt8} {L : List Ent}, prsE f p r = some L → L.length ≤ f
  | 0, p, r, L, h => by
    unfold prsE at h
    split at h
    · cases h; exact Nat.le_refl _
    · cases h
  | f + 1, p, r, L, h => by
    unfold prsE at h
    split at h
    · cases h; simp
    · split at h
      · cases h
      · rename_i x n _
        cases hp : prsE f x.key (r.drop n) with
        | none => rw [hp] at h; cases h
        | some M => rw [hp] at h; cases h; have := prsE_len hp; simp; omega
theorem openB_le (s : List UInt8) : (openB s).1.length ≤ s.length := by
  rcases openB_range s with h | h | ⟨x, n, h, _, h2, h3⟩ <;> rw [h] <;> simp <;> omega
theorem readB_len (s : List UInt8) : (readB s).1.length ≤ s.length := by
  have h0 := openB_le s
  unfold readB
  split
  · simp
  · split
    · simp
    · split
      · simp
      · rename_i L hp
        have := prsE_len hp
        split
        · exact Nat.le_trans this h0
        · simp
end Go.Ev

set_option maxRecDepth 100000
set_option maxHeartbeats 8000000
set_option linter.all false
namespace Go.Proofs.Ytjlhfoadabkahaa
open Go Go.Ev
theorem rshared_ok {h : H} {a b : List UInt8} (ha : a.length ≤ 1000000) (hb : b.length ≤ 1000000) : FnOk Try.prog 45 [sv a, sv b] h fun y h' => y = .i .i64 (sharedB a b : Int) ∧ h' = h := by
  refine fn_go c45 (by intro hb; cases hb) (by simp) (by simp) fun Q hQ => ?_
  simp only [slotsF, Nat.reduceAdd]
  repeat' (first
    | refine St.h ?_
    | simp (disch := first | omega | (simp only [lnv]; omega)) only [wlk, ↓get_put', Nat.reduceEqDiff, Nat.reduceLT, ↓reduceIte, Int.reduceToNat, Nat.reducePow, Nat.min_eq_left, Nat.reduceAdd, Nat.reduceMul, Int.reduceAdd, Int.reduceSub, Int.reduceNeg, Int.reduceMul, Int.reduceEq, Int.reduceLT, Int.reduceLE, Nat.reduceSub, Int.reduceNatCast, Nat.reduceLeDiff]
    | (with_reducible (first | apply cd_split | apply gd_split)) <;> (intro hc; (try simp only [hcn] at hc); (try simp only [hc]); (try simp only [hcl] at hc); try omega))
  refine Ok.lp (fun m t g => ∃ n : Nat, m = a.length - n ∧ h = g ∧ n ≤ a.length ∧ n ≤ b.length ∧ (∀ i, i < n → a.getD i 0 = b.getD i 0) ∧ get 0 t = sv a ∧ get 1 t = sv b ∧ get 5 t = .i .i64 (n : Int)) a.length ?_ ?_
  · simp (disch := first | omega | (simp only [lnv]; omega)) only [wlk, ↓get_put', Nat.reduceEqDiff, Nat.reduceLT, ↓reduceIte, Int.reduceToNat, Nat.reducePow, Nat.min_eq_left, Nat.reduceAdd, Nat.reduceMul, Int.reduceAdd, Int.reduceSub, Int.reduceNeg, Int.reduceMul, Int.reduceEq, Int.reduceLT, Int.reduceLE, Nat.reduceSub, Int.reduceNatCast, Nat.reduceLeDiff]
    refine ⟨0, by omega, trivial, by omega, by omega, fun i hi => by omega, ?_⟩
    repeat' (first | trivial | rfl | refine And.intro ?_ ?_)
  rintro I hI m t g ⟨n, rfl, rfl, h1, h2, he, f0, f1, f5⟩
  have da : n < a.length → (a.getD n 0).toNat < 256 := fun _ => (a.getD n 0).toNat_lt
  have fin : (n = a.length ∨ n = b.length ∨ a.getD n 0 ≠ b.getD n 0) → sharedB a b = n := sharedB_at h1 h2 he
  repeat' (first
    | refine St.h ?_
    | simp (disch := first | omega | (simp only [lnv]; omega)) only [wlk, ↓get_put', Nat.reduceEqDiff, Nat.reduceLT, ↓reduceIte, Int.reduceToNat, Nat.reducePow, Nat.min_eq_left, Nat.reduceAdd, Nat.reduceMul, Int.reduceAdd, Int.reduceSub, Int.reduceNeg, Int.reduceMul, Int.reduceEq, Int.reduceLT, Int.reduceLE, Nat.reduceSub, Int.reduceNatCast, Nat.reduceLeDiff, f0, f1, f5, Int.toNat_natCast]
    | (with_reducible (first | apply cd_split | apply gd_split)) <;> (intro hc; (try simp only [hcn] at hc); (try simp only [hc]); (try simp only [hcl] at hc); try omega))
  · refine lp_next hI (a.length - (n + 1)) (by omega) ⟨n + 1, rfl, rfl, by omega, by omega, fun i hi => ?_, ?_, ?_, ?_⟩
    · by_cases e : i = n
      · subst e; exact UInt8.toNat_inj.1 (by omega)
      · exact he i (by omega)
    · simp (disch := first | omega | (simp only [lnv]; omega)) only [wlk, ↓get_put', Nat.reduceEqDiff, Nat.reduceLT, ↓reduceIte, Int.reduceToNat, Nat.reducePow, Nat.min_eq_left, Nat.reduceAdd, Nat.reduceMul, Int.reduceAdd, Int.reduceSub, Int.reduceNeg, Int.reduceMul, Int.reduceEq, Int.reduceLT, Int.reduceLE, Nat.reduceSub, Int.reduceNatCast, Nat.reduceLeDiff, f0]
    · simp (disch := first | omega | (simp only [lnv]; omega)) only [wlk, ↓get_put', Nat.reduceEqDiff, Nat.reduceLT, ↓reduceIte, Int.reduceToNat, Nat.reducePow, Nat.min_eq_left, Nat.reduceAdd, Nat.reduceMul, Int.reduceAdd, Int.reduceSub, Int.reduceNeg, Int.reduceMul, Int.reduceEq, Int.reduceLT, Int.reduceLE, Nat.reduceSub, Int.reduceNatCast, Nat.reduceLeDiff, f1]
    · simp (disch := first | omega | (simp only [lnv]; omega)) only [wlk, ↓get_put', Nat.reduceEqDiff, Nat.reduceLT, ↓reduceIte, Int.reduceToNat, Nat.reducePow, Nat.min_eq_left, Nat.reduceAdd, Nat.reduceMul, Int.reduceAdd, Int.reduceSub, Int.reduceNeg, Int.reduceMul, Int.reduceEq, Int.reduceLT, Int.reduceLE, Nat.reduceSub, Int.reduceNatCast, Nat.reduceLeDiff]; rfl
  · subst hQ
    exact ⟨by rw [fin (.inr (.inr fun e => by have := congrArg UInt8.toNat e; omega))], rfl⟩
  · subst hQ
    exact ⟨by rw [fin (.inr (.inl (by omega)))], rfl⟩
  · subst hQ
    exact ⟨by rw [fin (.inl (by omega))], rfl⟩
theorem ent_ext {a b : Ent} (h : a.key = b.key ∧ a.seq = b.seq ∧ a.del = b.del ∧ a.val = b.val) : a = b := by
  obtain ⟨k1, q1, d1, v1⟩ := a
  obtain ⟨k2, q2, d2, v2⟩ := b
  obtain ⟨rfl, rfl, rfl, rfl⟩ := h
  rfl
theorem rsame_ok {h : H} {v w : V} {L M : List Ent} (hL : Es h v L) (hM : Es h w M) (hl : L.length ≤ 9223372036854775807) : FnOk Try.prog 43 [v, w] h fun y h' => y = .b (decide (L = M)) ∧ h' = h := by
  refine fn_go c43 (by intro hb; cases hb) (by simp) (by simp) fun Q hQ => ?_
  simp only [slotsF, Nat.reduceAdd]
  by_cases hlen : L.length = M.length
  case neg =>
    have hd : ((L.length : Int) = (M.length : Int)) = False := eq_false (by omega)
    repeat' (first
      | refine St.h ?_
      | simp (disch := first | omega | (simp only [lnv]; omega)) only [wlk, ↓get_put', Nat.reduceEqDiff, Nat.reduceLT, ↓reduceIte, Int.reduceToNat, Nat.reducePow, Nat.min_eq_left, Nat.reduceAdd, Nat.reduceMul, Int.reduceAdd, Int.reduceSub, Int.reduceNeg, Int.reduceMul, Int.reduceEq, Int.reduceLT, Int.reduceLE, Nat.reduceSub, Int.reduceNatCast, Nat.reduceLeDiff, hL.ln, hM.ln, hd]
      | (with_reducible (first | apply cd_split | apply gd_split)) <;> (intro hc; (try simp only [hcn] at hc); (try simp only [hc]); (try simp only [hcl] at hc); try omega))
    subst hQ
    exact ⟨by rw [decide_eq_false (fun e => hlen (by rw [e]))], rfl⟩
  have hd : ((L.length : Int) = (M.length : Int)) = True := eq_true (by omega)
  repeat' (first
    | refine St.h ?_
    | simp (disch := first | omega | (simp only [lnv]; omega)) only [wlk, ↓get_put', Nat.reduceEqDiff, Nat.reduceLT, ↓reduceIte, Int.reduceToNat, Nat.reducePow, Nat.min_eq_left, Nat.reduceAdd, Nat.reduceMul, Int.reduceAdd, Int.reduceSub, Int.reduceNeg, Int.reduceMul, Int.reduceEq, Int.reduceLT, Int.reduceLE, Nat.reduceSub, Int.reduceNatCast, Nat.reduceLeDiff, hL.ln, hM.ln, hd]
    | (with_reducible (first | apply cd_split | apply gd_split)) <;> (intro hc; (try simp only [hcn] at hc); (try simp only [hc]); (try simp only [hcl] at hc); try omega))
  refine Ok.lp (fun m t g => ∃ j : Nat, m = L.length - j ∧ h = g ∧ (∀ i, i < j → L.getD i default = M.getD i default) ∧ j ≤ L.length ∧ get 0 t = v ∧ get 1 t = w ∧ get 5 t = .i .i64 (j : Int)) L.length ?_ ?_
  · simp (disch := first | omega | (simp only [lnv]; omega)) only [wlk, ↓get_put', Nat.reduceEqDiff, Nat.reduceLT, ↓reduceIte, Int.reduceToNat, Nat.reducePow, Nat.min_eq_left, Nat.reduceAdd, Nat.reduceMul, Int.reduceAdd, Int.reduceSub, Int.reduceNeg, Int.reduceMul, Int.reduceEq, Int.reduceLT, Int.reduceLE, Nat.reduceSub, Int.reduceNatCast, Nat.reduceLeDiff]
    refine ⟨0, by omega, trivial, fun i hi => by omega, by omega, ?_⟩
    repeat' (first | trivial | rfl | refine And.intro ?_ ?_)
  rintro I hI m t g ⟨j, rfl, rfl, he, hj, f0, f1, f5⟩
  by_cases hje : L.getD j default = M.getD j default
  · have hd2 : (M.getD j default).key = (M.getD j default).key ∧ (M.getD j default).seq = (M.getD j default).seq ∧ (M.getD j default).del = (M.getD j default).del ∧ (M.getD j default).val = (M.getD j default).val := ⟨rfl, rfl, rfl, rfl⟩
    repeat' (first
      | refine St.h ?_
      | simp (disch := first | omega | (simp only [lnv]; omega)) only [wlk, ↓get_put', Nat.reduceEqDiff, Nat.reduceLT, ↓reduceIte, Int.reduceToNat, Nat.reducePow, Nat.min_eq_left, Nat.reduceAdd, Nat.reduceMul, Int.reduceAdd, Int.reduceSub, Int.reduceNeg, Int.reduceMul, Int.reduceEq, Int.reduceLT, Int.reduceLE, Nat.reduceSub, Int.reduceNatCast, Nat.reduceLeDiff, f0, f1, f5, hL.ln, hL.ix, hM.ix, hL.la, hM.la, hje, Int.toNat_natCast]
      | (with_reducible (first | apply cd_split | apply gd_split)) <;> (intro hc; (try simp only [hcn] at hc); (try simp only [hc]); (try simp only [hcl] at hc); try omega))
    · refine lp_next hI (L.length - (j + 1)) (by omega) ⟨j + 1, rfl, rfl, fun i hi => ?_, by omega, ?_, ?_, ?_⟩
      · by_cases e : i = j
        · subst e; exact hje
        · exact he i (by omega)
      · simp (disch := first | omega | (simp only [lnv]; omega)) only [wlk, ↓get_put', Nat.reduceEqDiff, Nat.reduceLT, ↓reduceIte, Int.reduceToNat, Nat.reducePow, Nat.min_eq_left, Nat.reduceAdd, Nat.reduceMul, Int.reduceAdd, Int.reduceSub, Int.reduceNeg, Int.reduceMul, Int.reduceEq, Int.reduceLT, Int.reduceLE, Nat.reduceSub, Int.reduceNatCast, Nat.reduceLeDiff, f0]
      · simp (disch := first | omega | (simp only [lnv]; omega)) only [wlk, ↓get_put', Nat.reduceEqDiff, Nat.reduceLT, ↓reduceIte, Int.reduceToNat, Nat.reducePow, Nat.min_eq_left, Nat.reduceAdd, Nat.reduceMul, Int.reduceAdd, Int.reduceSub, Int.reduceNeg, Int.reduceMul, Int.reduceEq, Int.reduceLT, Int.reduceLE, Nat.reduceSub, Int.reduceNatCast, Nat.reduceLeDiff, f1]
      · simp (disch := first | omega | (simp only [lnv]; omega)) only [wlk, ↓get_put', Nat.reduceEqDiff, Nat.reduceLT, ↓reduceIte, Int.reduceToNat, Nat.reducePow, Nat.min_eq_left, Nat.reduceAdd, Nat.reduceMul, Int.reduceAdd, Int.reduceSub, Int.reduceNeg, Int.reduceMul, Int.reduceEq, Int.reduceLT, Int.reduceLE, Nat.reduceSub, Int.reduceNatCast, Nat.reduceLeDiff]; rfl
    · obtain rfl : j = L.length := by omega
      subst hQ
      refine ⟨?_, rfl⟩
      rw [decide_eq_true]
      refine List.ext_getElem hlen fun i h1 h2 => ?_
      have := he i h1
      simpa [List.getD, h1, h2] using this
  · have hd2 : decide ((L.getD j default).key = (M.getD j default).key ∧ (L.getD j default).seq = (M.getD j default).seq ∧ (L.getD j default).del = (M.getD j default).del ∧ (L.getD j default).val = (M.getD j default).val) = false := decide_eq_false fun e => hje (ent_ext e)
    repeat' (first
      | refine St.h ?_
      | simp (disch := first | omega | (simp only [lnv]; omega)) only [wlk, ↓get_put', Nat.reduceEqDiff, Nat.reduceLT, ↓reduceIte, Int.reduceToNat, Nat.reducePow, Nat.min_eq_left, Nat.reduceAdd, Nat.reduceMul, Int.reduceAdd, Int.reduceSub, Int.reduceNeg, Int.reduceMul, Int.reduceEq, Int.reduceLT, Int.reduceLE, Nat.reduceSub, Int.reduceNatCast, Nat.reduceLeDiff, f0, f1, f5, hL.ln, hL.ix, hM.ix, hL.la, hM.la, hd2, Int.toNat_natCast]
      | (with_reducible (first | apply cd_split | apply gd_split)) <;> (intro hc; (try simp only [hcn] at hc); (try simp only [hc]); (try simp only [hcl] at hc); try omega))
    · subst hQ
      exact ⟨by rw [decide_eq_false (fun e => hje (by rw [e]))], rfl⟩
    · obtain rfl : j = L.length := by omega
      exact absurd (by simp [List.getD, ← hlen]) hje
theorem getD_all {p : Ent → Bool} {L : List Ent} (h : L.all p = true) {i : Nat} (hi : i < L.length) : p (L.getD i default) = true := by
  rw [show L.getD i default = L[i] by simp [List.getD, hi]]
  exact (List.all_eq_true.1 h) _ (by simp)
theorem drop_ent {L : List Ent} {i : Nat} (hi : i < L.length) : L.drop i = L.getD i default :: L.drop (i + 1) := by
  rw [List.drop_eq_getElem_cons hi]; simp [List.getD, hi]
end Go.Proofs.Ytjlhfoadabkahaa

set_option maxRecDepth 100000
set_option maxHeartbeats 8000000
set_option linter.all false
namespace Go.Proofs.Ytjlhfoadabkahaa
open Go Go.Ev
theorem chkd_isE {r : Ent × Int × Int} {x : Ent} {z : Int} (h : chkd r = (x, z, 0)) : isE x = true := by
  unfold chkd at h
  split at h
  · rename_i hr
    exact absurd (Prod.mk.inj (Prod.mk.inj h).2).2 hr
  · unfold chkE at h
    split at h
    · rename_i hi; rw [← (Prod.mk.inj h).1]; exact hi
    · have := (Prod.mk.inj (Prod.mk.inj h).2).2; cases this
end Go.Proofs.Ytjlhfoadabkahaa

set_option maxRecDepth 100000
set_option maxHeartbeats 8000000
set_option linter.all false
namespace Go.Proofs.Ytjlhfoadabkahaa
open Go Go.Ev
theorem bytesE_len {e : Ent} : (bytesE e).length ≤ 200 := by
  unfold bytesE
  split
  · rename_i hi
    obtain ⟨k1, k2, k3, k4⟩ := isE_len hi
    have l1 := textB_len e.key (by omega)
    have l2 := textB_len e.val (by omega)
    have l3 := numB_len (n := e.seq.toNat) (by omega)
    rw [List.length_append]
    unfold tailB; rw [List.length_append]; split <;> simp <;> omega
  · simp
theorem tail_back {e : Ent} (hi : isE e = true) (more : List UInt8) : tailU e.key (tailB e ++ more) = (e, ((tailB e).length : Int), 0) := by
  obtain ⟨⟨s1, s2⟩, k1, k2, k3, k4⟩ := isE_iff.1 hi
  obtain ⟨key, seq, del, val⟩ := e
  simp only at s1 s2 k1 k2 k3 k4 ⊢
  have hq : ((seq.toNat : Nat) : Int) = seq := by omega
  cases del with
  | true =>
    obtain rfl := k4 rfl
    have e1 : tailB ⟨key, seq, true, []⟩ ++ more = numB seq.toNat ++ (1 :: more) := by unfold tailB; simp
    have e2 : ((tailB ⟨key, seq, true, []⟩).length : Int) = ((numB seq.toNat).length : Int) + 1 := by unfold tailB; simp
    have hn : takeN (numB seq.toNat ++ (1 :: more)) = ((seq.toNat : Int), ((numB seq.toNat).length : Int), 0) := takeN_numB (by omega) _
    rw [e1, tailU_5 hn (by simp) (by simp [List.getD]), hq, e2]
  | false =>
    have e1 : tailB ⟨key, seq, false, val⟩ ++ more = numB seq.toNat ++ (0 :: (textB val ++ more)) := by unfold tailB; simp
    have e2 : ((tailB ⟨key, seq, false, val⟩).length : Int) = ((numB seq.toNat).length : Int) + 1 + ((textB val).length : Int) := by unfold tailB; simp; omega
    have hn : takeN (numB seq.toNat ++ (0 :: (textB val ++ more))) = ((seq.toNat : Int), ((numB seq.toNat).length : Int), 0) := takeN_numB (by omega) _
    have hd : (numB seq.toNat ++ (0 :: (textB val ++ more))).drop ((numB seq.toNat).length + 1) = textB val ++ more := by
      rw [← List.drop_drop, List.drop_left]; rfl
    rw [e1, tailU_4 hn (by simp) (by simp [List.getD]) (by rw [hd]; exact takeT_textB (by omega)), hq, e2]
theorem take_back {e : Ent} (hi : isE e = true) (more : List UInt8) : takeE (bytesE e ++ more) = (e, ((bytesE e).length : Int), 0) := by
  obtain ⟨k1, k2, k3, k4⟩ := isE_len hi
  have hb : bytesE e = textB e.key ++ tailB e := by unfold bytesE; rw [hi]; rfl
  have hc : takeT (textB e.key ++ (tailB e ++ more)) = (e.key, ((textB e.key).length : Int), 0) := takeT_textB (by omega)
  have hd : (textB e.key ++ (tailB e ++ more)).drop (textB e.key).length = tailB e ++ more := List.drop_left
  rw [hb, List.append_assoc, takeE_4 hc (by rw [hd]; exact tail_back hi more), List.length_append]
  simp
theorem read_back {e : Ent} (hi : isE e = true) (more : List UInt8) : readE (bytesE e ++ more) = (e, ((bytesE e).length : Int), 0) := by
  have h := take_back hi more
  rw [readE_3 (by rw [h]) (by rw [h]; exact hi), h]
end Go.Proofs.Ytjlhfoadabkahaa

set_option linter.all false
namespace Go.Proofs.Ytjlhfoadabkahaa
open Go Go.Ev
theorem step_back {p : List UInt8} {e : Ent} (hi : isE e = true) (more : List UInt8) : stepE p (oneB p e ++ more) = some (e, (oneB p e).length) := by
  obtain ⟨k1, k2, k3, k4⟩ := isE_len hi
  have hs := sharedB_le e.key p
  have htk := sharedB_take e.key p
  have hone : oneB p e = numB (sharedB e.key p) ++ textB (e.key.drop (sharedB e.key p)) ++ tailB e := rfl
  generalize sharedB e.key p = n at *
  have e1 : oneB p e ++ more = numB n ++ (textB (e.key.drop n) ++ (tailB e ++ more)) := by rw [hone]; simp [List.append_assoc]
  have hN : takeN (oneB p e ++ more) = ((n : Int), ((numB n).length : Int), 0) := by rw [e1]; exact takeN_numB (by omega) _
  have hd1 : (oneB p e ++ more).drop (numB n).length = textB (e.key.drop n) ++ (tailB e ++ more) := by rw [e1, List.drop_left]
  have hT : takeT ((oneB p e ++ more).drop (numB n).length) = (e.key.drop n, ((textB (e.key.drop n)).length : Int), 0) := by
    rw [hd1]; exact takeT_textB (by rw [List.length_drop]; omega)
  have hd2 : (oneB p e ++ more).drop ((numB n).length + (textB (e.key.drop n)).length) = tailB e ++ more := by rw [← List.drop_drop, hd1, List.drop_left]
  have hk : p.take n ++ e.key.drop n = e.key := by rw [← htk, List.take_append_drop]
  have hc : chkd (tailU (p.take n ++ e.key.drop n) ((oneB p e ++ more).drop ((numB n).length + (textB (e.key.drop n)).length))) = (e, ((tailB e).length : Int), 0) := by
    rw [hk, hd2, tail_back hi more]; exact chkd_ok hi
  rw [stepE_5 hN hs.2 hT hc, hone, List.length_append, List.length_append]
theorem one_ne (p : List UInt8) (e : Ent) : oneB p e ≠ [] := by unfold oneB numB; simp
theorem one_pos (p : List UInt8) (e : Ent) : 1 ≤ (oneB p e).length := by
  have h := one_ne p e
  cases hx : oneB p e with
  | nil => exact absurd hx h
  | cons c l => simp
theorem prs_back : ∀ {L : List Ent} {p : List UInt8} {f : Nat}, L.all isE = true → (bodyB p L).length ≤ f → prsE f p (bodyB p L) = some L
  | [], p, f, _, _ => prsE_nil f p
  | e :: L, p, f, h, hf => by
    rw [List.all_cons, Bool.and_eq_true] at h
    have e1 : bodyB p (e :: L) = oneB p e ++ bodyB e.key L := rfl
    have h1 := one_pos p e
    rw [e1, List.length_append] at hf
    obtain ⟨f, rfl⟩ : ∃ g, f = g + 1 := ⟨f - 1, by omega⟩
    rw [e1, prsE_some (by intro h; exact one_ne p e (List.append_eq_nil_iff.1 h).1) (step_back h.1 _), List.drop_left, prs_back h.2 (by omega)]
    rfl
theorem readB_back {L : List Ent} (h : L.all isE = true) (hn : L ≠ []) (hs : sortedE L = true) (hl : L.length ≤ 10000) : readB (sealB (bodyB [] L)) = (L, 0) := by
  have hb := bodyB_len (p := []) h
  have hO : openB (sealB (bodyB [] L)) = (bodyB [] L, ((sealB (bodyB [] L)).length : Int), 0) := by
    have := openB_seal (l := bodyB [] L) (more := []) (by omega)
    rwa [List.append_nil] at this
  rw [readB_4 hO rfl (prs_back h (Nat.le_refl _)), blkE_ok h hn hs]
  simp
/-- what is read is what is made of it -/
theorem readB_made {s : List UInt8} (h : (readB s).2 = 0) : blkE (readB s).1 = (s, 0) := by
  unfold readB at h ⊢
  split at h
  · rename_i h1; exact absurd h h1
  · rename_i h1
    rw [if_neg h1] at *
    split at h
    · cases h
    · rename_i h2
      rw [if_neg h2]
      split at h
      · cases h
      · rename_i L hp
        split at h
        · rename_i h3; rw [if_pos h3]; exact Prod.ext h3.2 h3.1
        · cases h
theorem readB_none {s : List UInt8} (h : (readB s).2 ≠ 0) : (readB s).1 = [] := by
  unfold readB at h ⊢
  split
  · rfl
  · split
    · rfl
    · split
      · rfl
      · split
        · rename_i h1 h2 _ L hp h3
          rw [if_neg h1, if_neg h2, hp] at h
          simp only [h3, and_self, if_true] at h
          exact absurd rfl h
        · rfl
theorem digs_mono : ∀ {a b : Nat}, a ≤ b → (digs a).length ≤ (digs b).length := by
  intro a
  induction a using Nat.strongRecOn with
  | _ a ih =>
    intro b hab
    by_cases ha : a = 0
    · subst ha; rw [digs_zero]; simp
    · rw [digs_pos ha, digs_pos (show b ≠ 0 by omega), List.length_append, List.length_append]
      have := ih (a / 256) (by omega) (b := b / 256) (Nat.div_le_div_right hab)
      simpa using this
theorem numB_mono {a b : Nat} (h : a ≤ b) : (numB a).length ≤ (numB b).length := by
  have := digs_mono h
  show (digs a).length + 1 ≤ (digs b).length + 1
  omega
end Go.Proofs.Ytjlhfoadabkahaa

set_option maxRecDepth 100000
set_option maxHeartbeats 8000000
set_option linter.all false
namespace Go.Proofs.Ytjlhfoadabkahaa
open Go Go.Ev
theorem bshared_ok {h : H} {a b : List UInt8} (ha : a.length ≤ 1000000) (hb : b.length ≤ 1000000) : FnOk Try.prog 44 [sv a, sv b] h fun y h' => y = .i .i64 (sharedB a b : Int) ∧ h' = h := by
  refine fn_go c44 (by intro hb; cases hb) (by simp) (by simp) fun Q hQ => ?_
  simp only [slotsF, Nat.reduceAdd]
  repeat' (first
    | refine St.h ?_
    | simp (disch := first | omega | (simp only [lnv]; omega)) only [wlk, ↓get_put', Nat.reduceEqDiff, Nat.reduceLT, ↓reduceIte, Int.reduceToNat, Nat.reducePow, Nat.min_eq_left, Nat.reduceAdd, Nat.reduceMul, Int.reduceAdd, Int.reduceSub, Int.reduceNeg, Int.reduceMul, Int.reduceEq, Int.reduceLT, Int.reduceLE, Nat.reduceSub, Int.reduceNatCast, Nat.reduceLeDiff]
    | (with_reducible (first | apply cd_split | apply gd_split)) <;> (intro hc; (try simp only [hcn] at hc); (try simp only [hc]); (try simp only [hcl] at hc); try omega))
  have hmn : (min (a.length : Int) (b.length : Int)) = ((min a.length b.length : Nat) : Int) := by omega
  refine Ok.lp (fun m t g => ∃ n : Nat, m = a.length - n ∧ h = g ∧ n ≤ a.length ∧ n ≤ b.length ∧ (∀ i, i < n → a.getD i 0 = b.getD i 0) ∧ get 0 t = sv a ∧ get 1 t = sv b ∧ get 5 t = .i .i64 ((min a.length b.length : Nat) : Int) ∧ get 6 t = .i .i64 (n : Int)) a.length ?_ ?_
  · simp (disch := first | omega | (simp only [lnv]; omega)) only [wlk, ↓get_put', Nat.reduceEqDiff, Nat.reduceLT, ↓reduceIte, Int.reduceToNat, Nat.reducePow, Nat.min_eq_left, Nat.reduceAdd, Nat.reduceMul, Int.reduceAdd, Int.reduceSub, Int.reduceNeg, Int.reduceMul, Int.reduceEq, Int.reduceLT, Int.reduceLE, Nat.reduceSub, Int.reduceNatCast, Nat.reduceLeDiff, hmn]
    refine ⟨0, by omega, trivial, by omega, by omega, fun i hi => by omega, ?_⟩
    repeat' (first | trivial | rfl | refine And.intro ?_ ?_)
  rintro I hI m t g ⟨n, rfl, rfl, h1, h2, he, f0, f1, f5, f6⟩
  have da : n < a.length → (a.getD n 0).toNat < 256 := fun _ => (a.getD n 0).toNat_lt
  have fin : (n = a.length ∨ n = b.length ∨ a.getD n 0 ≠ b.getD n 0) → sharedB a b = n := sharedB_at h1 h2 he
  repeat' (first
    | refine St.h ?_
    | simp (disch := first | omega | (simp only [lnv]; omega)) only [wlk, ↓get_put', Nat.reduceEqDiff, Nat.reduceLT, ↓reduceIte, Int.reduceToNat, Nat.reducePow, Nat.min_eq_left, Nat.reduceAdd, Nat.reduceMul, Int.reduceAdd, Int.reduceSub, Int.reduceNeg, Int.reduceMul, Int.reduceEq, Int.reduceLT, Int.reduceLE, Nat.reduceSub, Int.reduceNatCast, Nat.reduceLeDiff, f0, f1, f5, f6, Int.toNat_natCast]
    | (with_reducible (first | apply cd_split | apply gd_split)) <;> (intro hc; (try simp only [hcn] at hc); (try simp only [hc]); (try simp only [hcl] at hc); try omega))
  · refine lp_next hI (a.length - (n + 1)) (by omega) ⟨n + 1, rfl, rfl, by omega, by omega, fun i hi => ?_, ?_, ?_, ?_, ?_⟩
    · by_cases e : i = n
      · subst e; exact UInt8.toNat_inj.1 (by omega)
      · exact he i (by omega)
    · simp (disch := first | omega | (simp only [lnv]; omega)) only [wlk, ↓get_put', Nat.reduceEqDiff, Nat.reduceLT, ↓reduceIte, Int.reduceToNat, Nat.reducePow, Nat.min_eq_left, Nat.reduceAdd, Nat.reduceMul, Int.reduceAdd, Int.reduceSub, Int.reduceNeg, Int.reduceMul, Int.reduceEq, Int.reduceLT, Int.reduceLE, Nat.reduceSub, Int.reduceNatCast, Nat.reduceLeDiff, f0]
    · simp (disch := first | omega | (simp only [lnv]; omega)) only [wlk, ↓get_put', Nat.reduceEqDiff, Nat.reduceLT, ↓reduceIte, Int.reduceToNat, Nat.reducePow, Nat.min_eq_left, Nat.reduceAdd, Nat.reduceMul, Int.reduceAdd, Int.reduceSub, Int.reduceNeg, Int.reduceMul, Int.reduceEq, Int.reduceLT, Int.reduceLE, Nat.reduceSub, Int.reduceNatCast, Nat.reduceLeDiff, f1]
    · simp (disch := first | omega | (simp only [lnv]; omega)) only [wlk, ↓get_put', Nat.reduceEqDiff, Nat.reduceLT, ↓reduceIte, Int.reduceToNat, Nat.reducePow, Nat.min_eq_left, Nat.reduceAdd, Nat.reduceMul, Int.reduceAdd, Int.reduceSub, Int.reduceNeg, Int.reduceMul, Int.reduceEq, Int.reduceLT, Int.reduceLE, Nat.reduceSub, Int.reduceNatCast, Nat.reduceLeDiff, f5]
    · simp (disch := first | omega | (simp only [lnv]; omega)) only [wlk, ↓get_put', Nat.reduceEqDiff, Nat.reduceLT, ↓reduceIte, Int.reduceToNat, Nat.reducePow, Nat.min_eq_left, Nat.reduceAdd, Nat.reduceMul, Int.reduceAdd, Int.reduceSub, Int.reduceNeg, Int.reduceMul, Int.reduceEq, Int.reduceLT, Int.reduceLE, Nat.reduceSub, Int.reduceNatCast, Nat.reduceLeDiff]; rfl
  · subst hQ
    exact ⟨by rw [fin (.inr (.inr fun e => by have := congrArg UInt8.toNat e; omega))], rfl⟩
  · subst hQ
    exact ⟨by rw [fin (by omega)], rfl⟩
theorem drop_bytes {e : Ent} (hi : isE e = true) : (bytesE e).drop (textB e.key).length = tailB e := by
  unfold bytesE; rw [hi]; simp
theorem bytesE_full {e : Ent} (hi : isE e = true) : bytesE e = textB e.key ++ tailB e := by unfold bytesE; rw [hi]; rfl
theorem lay_ok {h : H} {v : V} {L : List Ent} (hL : Es h v L) (hl : L.length ≤ 10000) (ha : L.all isE = true) (hf : B.val h.floor ≤ B.val h.next) : FnOk Try.prog 66 [v] h fun y h' => y = sv (bodyB [] L) ∧ Stay nowhere h h' := by
  refine fn_go c66 (by intro hb; cases hb) (by simp) (by simp) fun Q hQ => ?_
  simp only [slotsF, Nat.reduceAdd]
  repeat' (first
    | refine St.h ?_
    | simp (disch := first | omega | (simp only [lnv]; omega)) only [wlk, ↓get_put', Nat.reduceEqDiff, Nat.reduceLT, ↓reduceIte, Int.reduceToNat, Nat.reducePow, Nat.min_eq_left, Nat.reduceAdd, Nat.reduceMul, Int.reduceAdd, Int.reduceSub, Int.reduceNeg, Int.reduceMul, Int.reduceEq, Int.reduceLT, Int.reduceLE, Nat.reduceSub, Int.reduceNatCast, Nat.reduceLeDiff]
    | (with_reducible (first | apply cd_split | apply gd_split)) <;> (intro hc; (try simp only [hcn] at hc); (try simp only [hc]); (try simp only [hcl] at hc); try omega))
  refine AL.ownE (by simp) hf fun h1 s1 n1 o1 => ?_
  have hf1 := s1.fl hf
  have hL1 := hL.grow s1
  have sb : Sb h1 (B.val h.next) 127 5 h.next (fun i => i = h.next) [] :=
    ⟨⟨.p0, .l0, o1, .inl rfl, Buf.nil _ _ _, fun i hi => absurd hi (by rintro ⟨_, _, _, _, _, e⟩; cases e), by rintro ⟨_, _, _, _, _, e⟩; cases e⟩, rfl, fun i hi => by rw [hi]; exact ⟨Nat.le_refl _, by omega⟩⟩
  have hbl := bodyB_len (p := []) ha
  repeat' (first
    | refine St.h ?_
    | simp (disch := first | omega | (simp only [lnv]; omega)) only [wlk, ↓get_put', Nat.reduceEqDiff, Nat.reduceLT, ↓reduceIte, Int.reduceToNat, Nat.reducePow, Nat.min_eq_left, Nat.reduceAdd, Nat.reduceMul, Int.reduceAdd, Int.reduceSub, Int.reduceNeg, Int.reduceMul, Int.reduceEq, Int.reduceLT, Int.reduceLE, Nat.reduceSub, Int.reduceNatCast, Nat.reduceLeDiff, hL.ln]
    | (with_reducible (first | apply cd_split | apply gd_split)) <;> (intro hc; (try simp only [hcn] at hc); (try simp only [hc]); (try simp only [hcl] at hc); try omega))
  refine Ok.lp (fun m t g => ∃ (j : Nat) (p out : List UInt8) (U : B → Prop), m = L.length - j ∧ j ≤ L.length ∧ p.length ≤ 13 ∧ bodyB [] L = out ++ bodyB p (L.drop j) ∧ Stay nowhere h g ∧ Sb g (B.val h.next) 127 5 h.next U out ∧ get 0 t = v ∧ get 3 t = .p h.next 0 0 2 ∧ get 4 t = sv p ∧ get 8 t = v ∧ get 9 t = .i .i64 (L.length : Int) ∧ get 10 t = .i .i64 (j : Int)) L.length ?_ ?_
  · simp (disch := first | omega | (simp only [lnv]; omega)) only [wlk, ↓get_put', Nat.reduceEqDiff, Nat.reduceLT, ↓reduceIte, Int.reduceToNat, Nat.reducePow, Nat.min_eq_left, Nat.reduceAdd, Nat.reduceMul, Int.reduceAdd, Int.reduceSub, Int.reduceNeg, Int.reduceMul, Int.reduceEq, Int.reduceLT, Int.reduceLE, Nat.reduceSub, Int.reduceNatCast, Nat.reduceLeDiff]
    refine ⟨0, [], [], _, by omega, by omega, by simp, rfl, s1, sb, ?_⟩
    repeat' (first | trivial | rfl | refine And.intro ?_ ?_)
  rintro I hI m t g ⟨j, p, out, U, rfl, hj, hp, hb, st, sbg, f0, f3, f4, f8, f9, f10⟩
  have hfg := st.fl hf
  have hLg := hL.grow st
  by_cases hjl : j < L.length
  case neg =>
    obtain rfl : j = L.length := by omega
    have hb : bodyB [] L = out := by rw [hb, List.drop_length]; simp [bodyB]
    repeat' (first
      | refine St.h ?_
      | simp (disch := first | omega | (simp only [lnv]; omega)) only [wlk, ↓get_put', Nat.reduceEqDiff, Nat.reduceLT, ↓reduceIte, Int.reduceToNat, Nat.reducePow, Nat.min_eq_left, Nat.reduceAdd, Nat.reduceMul, Int.reduceAdd, Int.reduceSub, Int.reduceNeg, Int.reduceMul, Int.reduceEq, Int.reduceLT, Int.reduceLE, Nat.reduceSub, Int.reduceNatCast, Nat.reduceLeDiff, f3, f9, f10]
      | (with_reducible (first | apply cd_split | apply gd_split)) <;> (intro hc; (try simp only [hcn] at hc); (try simp only [hc]); (try simp only [hcl] at hc); try omega))
    refine CL.mk (string_ok sbg (by rw [← hb]; omega)) ?_
    rintro _ g2 ⟨rfl, s2⟩
    repeat' (first
      | refine St.h ?_
      | simp (disch := first | omega | (simp only [lnv]; omega)) only [wlk, ↓get_put', Nat.reduceEqDiff, Nat.reduceLT, ↓reduceIte, Int.reduceToNat, Nat.reducePow, Nat.min_eq_left, Nat.reduceAdd, Nat.reduceMul, Int.reduceAdd, Int.reduceSub, Int.reduceNeg, Int.reduceMul, Int.reduceEq, Int.reduceLT, Int.reduceLE, Nat.reduceSub, Int.reduceNatCast, Nat.reduceLeDiff]
      | (with_reducible (first | apply cd_split | apply gd_split)) <;> (intro hc; (try simp only [hcn] at hc); (try simp only [hc]); (try simp only [hcl] at hc); try omega))
    subst hQ
    exact ⟨by rw [hb], st.past' s2 fun i hi => (sbg.lo i hi).1⟩
  have hi := getD_all ha hjl
  rw [drop_ent hjl] at hb
  generalize he : L.getD j default = e at hi hb
  obtain ⟨k1, k2, k3, k4⟩ := isE_len hi
  have hsl := sharedB_le e.key p
  have hsc := sharedB_comm p e.key
  have hlen : (bodyB [] L).length ≤ 800000 := by omega
  have hb2 : bodyB p (e :: L.drop (j + 1)) = oneB p e ++ bodyB e.key (L.drop (j + 1)) := rfl
  rw [hb2] at hb
  have hol : out.length + (oneB p e).length ≤ 800000 := by
    rw [hb] at hlen; simp only [List.length_append] at hlen; omega
  have hone : (oneB p e).length = (numB (sharedB e.key p)).length + (textB (e.key.drop (sharedB e.key p))).length + (tailB e).length := by unfold oneB; simp only [List.length_append]
  have l1 := textB_len e.key (by omega)
  have l2 := tailB_len hi
  have hbl2 : (bytesE e).length = (textB e.key).length + (tailB e).length := by rw [bytesE_full hi, List.length_append]
  repeat' (first
    | refine St.h ?_
    | simp (disch := first | omega | (simp only [lnv]; omega)) only [wlk, ↓get_put', Nat.reduceEqDiff, Nat.reduceLT, ↓reduceIte, Int.reduceToNat, Nat.reducePow, Nat.min_eq_left, Nat.reduceAdd, Nat.reduceMul, Int.reduceAdd, Int.reduceSub, Int.reduceNeg, Int.reduceMul, Int.reduceEq, Int.reduceLT, Int.reduceLE, Nat.reduceSub, Int.reduceNatCast, Nat.reduceLeDiff, f0, f3, f4, f8, f9, f10, hL.ix, hLg.la, he, Int.toNat_natCast]
    | (with_reducible (first | apply cd_split | apply gd_split)) <;> (intro hc; (try simp only [hcn] at hc); (try simp only [hc]); (try simp only [hcl] at hc); try omega))
  refine AL.own (by simp) hfg fun g1 t1 m1 o1 => ?_
  have hfg1 := t1.fl hfg
  repeat' (first
    | refine St.h ?_
    | simp (disch := first | omega | (simp only [lnv]; omega)) only [wlk, ↓get_put', Nat.reduceEqDiff, Nat.reduceLT, ↓reduceIte, Int.reduceToNat, Nat.reducePow, Nat.min_eq_left, Nat.reduceAdd, Nat.reduceMul, Int.reduceAdd, Int.reduceSub, Int.reduceNeg, Int.reduceMul, Int.reduceEq, Int.reduceLT, Int.reduceLE, Nat.reduceSub, Int.reduceNatCast, Nat.reduceLeDiff, f0, f3, f4, f8, f9, f10]
    | (with_reducible (first | apply cd_split | apply gd_split)) <;> (intro hc; (try simp only [hcn] at hc); (try simp only [hc]); (try simp only [hcl] at hc); try omega))
  refine ST.all o1 rfl rfl (by simp) (by simp) fun g2 o2 t2 => ?_
  have t12 : Stay nowhere g g2 := t1.past' t2 fun q hq => by rw [hq]; exact Nat.le_refl _
  have hfg2 := t12.fl hfg
  have sb2 := sbg.stay t12 fun _ _ h => h
  have hnU : ¬ U g.next := fun hu => absurd (sbg.lo _ hu).2 (Nat.lt_irrefl _)
  repeat' (first
    | refine St.h ?_
    | simp (disch := first | omega | (simp only [lnv]; omega)) only [wlk, ↓get_put', Nat.reduceEqDiff, Nat.reduceLT, ↓reduceIte, Int.reduceToNat, Nat.reducePow, Nat.min_eq_left, Nat.reduceAdd, Nat.reduceMul, Int.reduceAdd, Int.reduceSub, Int.reduceNeg, Int.reduceMul, Int.reduceEq, Int.reduceLT, Int.reduceLE, Nat.reduceSub, Int.reduceNatCast, Nat.reduceLeDiff, f0, f3, f4, f8, f9, f10, o2.row.l1]
    | (with_reducible (first | apply cd_split | apply gd_split)) <;> (intro hc; (try simp only [hcn] at hc); (try simp only [hc]); (try simp only [hcl] at hc); try omega))
  refine CL.pure (bshared_ok (by omega) (by omega)) ?_
  rw [hsc]
  repeat' (first
    | refine St.h ?_
    | simp (disch := first | omega | (simp only [lnv]; omega)) only [wlk, ↓get_put', Nat.reduceEqDiff, Nat.reduceLT, ↓reduceIte, Int.reduceToNat, Nat.reducePow, Nat.min_eq_left, Nat.reduceAdd, Nat.reduceMul, Int.reduceAdd, Int.reduceSub, Int.reduceNeg, Int.reduceMul, Int.reduceEq, Int.reduceLT, Int.reduceLE, Nat.reduceSub, Int.reduceNatCast, Nat.reduceLeDiff, f0, f3, f4, f8, f9, f10]
    | (with_reducible (first | apply cd_split | apply gd_split)) <;> (intro hc; (try simp only [hcn] at hc); (try simp only [hc]); (try simp only [hcl] at hc); try omega))
  refine CL.stay (num_ok (by omega) hfg2) fun g3 t3 => ?_
  have hfg3 := t3.fl hfg2
  have sb3 := sb2.stay t3 fun _ _ h => h
  have o3 := o2.stay t3 fun h => h
  repeat' (first
    | refine St.h ?_
    | simp (disch := first | omega | (simp only [lnv]; omega)) only [wlk, ↓get_put', Nat.reduceEqDiff, Nat.reduceLT, ↓reduceIte, Int.reduceToNat, Nat.reducePow, Nat.min_eq_left, Nat.reduceAdd, Nat.reduceMul, Int.reduceAdd, Int.reduceSub, Int.reduceNeg, Int.reduceMul, Int.reduceEq, Int.reduceLT, Int.reduceLE, Nat.reduceSub, Int.reduceNatCast, Nat.reduceLeDiff, f0, f3, f4, f8, f9, f10, Int.toNat_natCast]
    | (with_reducible (first | apply cd_split | apply gd_split)) <;> (intro hc; (try simp only [hcn] at hc); (try simp only [hc]); (try simp only [hcl] at hc); try omega))
  refine CL.mk (writeString_ok sb3 (by omega) hfg3) ?_
  rintro _ g4 ⟨U4, sb4, t4, hU4⟩
  have hfg4 := t4.fl hfg3
  have o4 := o3.stay t4 hnU
  have hn3 : B.val g.next < B.val g3.next := own_lt' o3
  have hnU4 : ¬ U4 g.next := fun hu => by
    rcases hU4 _ hu with h7 | h7
    · exact hnU h7
    · omega
  repeat' (first
    | refine St.h ?_
    | simp (disch := first | omega | (simp only [lnv]; omega)) only [wlk, ↓get_put', Nat.reduceEqDiff, Nat.reduceLT, ↓reduceIte, Int.reduceToNat, Nat.reducePow, Nat.min_eq_left, Nat.reduceAdd, Nat.reduceMul, Int.reduceAdd, Int.reduceSub, Int.reduceNeg, Int.reduceMul, Int.reduceEq, Int.reduceLT, Int.reduceLE, Nat.reduceSub, Int.reduceNatCast, Nat.reduceLeDiff, f0, f3, f4, f8, f9, f10, o4.row.l1, Int.toNat_natCast]
    | (with_reducible (first | apply cd_split | apply gd_split)) <;> (intro hc; (try simp only [hcn] at hc); (try simp only [hc]); (try simp only [hcl] at hc); try omega))
  refine CL.stay (text_ok (by rw [List.length_drop]; omega) hfg4) fun g5 t5 => ?_
  have hfg5 := t5.fl hfg4
  have sb5 := sb4.stay t5 fun _ _ h => h
  have o5 := o4.stay t5 fun h => h
  have hn5 : B.val g.next < B.val g5.next := own_lt' o5
  repeat' (first
    | refine St.h ?_
    | simp (disch := first | omega | (simp only [lnv]; omega)) only [wlk, ↓get_put', Nat.reduceEqDiff, Nat.reduceLT, ↓reduceIte, Int.reduceToNat, Nat.reducePow, Nat.min_eq_left, Nat.reduceAdd, Nat.reduceMul, Int.reduceAdd, Int.reduceSub, Int.reduceNeg, Int.reduceMul, Int.reduceEq, Int.reduceLT, Int.reduceLE, Nat.reduceSub, Int.reduceNatCast, Nat.reduceLeDiff, f0, f3, f4, f8, f9, f10]
    | (with_reducible (first | apply cd_split | apply gd_split)) <;> (intro hc; (try simp only [hcn] at hc); (try simp only [hc]); (try simp only [hcl] at hc); try omega))
  refine CL.mk (writeString_ok sb5 (by simp only [List.length_append]; omega) hfg5) ?_
  rintro _ g6 ⟨U6, sb6, t6, hU6⟩
  have hfg6 := t6.fl hfg5
  have o6 := o5.stay t6 hnU4
  have hnU6 : ¬ U6 g.next := fun hu => by
    rcases hU6 _ hu with h7 | h7
    · exact hnU4 h7
    · omega
  repeat' (first
    | refine St.h ?_
    | simp (disch := first | omega | (simp only [lnv]; omega)) only [wlk, ↓get_put', Nat.reduceEqDiff, Nat.reduceLT, ↓reduceIte, Int.reduceToNat, Nat.reducePow, Nat.min_eq_left, Nat.reduceAdd, Nat.reduceMul, Int.reduceAdd, Int.reduceSub, Int.reduceNeg, Int.reduceMul, Int.reduceEq, Int.reduceLT, Int.reduceLE, Nat.reduceSub, Int.reduceNatCast, Nat.reduceLeDiff, f0, f3, f4, f8, f9, f10, o6.row.ln]
    | (with_reducible (first | apply cd_split | apply gd_split)) <;> (intro hc; (try simp only [hcn] at hc); (try simp only [hc]); (try simp only [hcl] at hc); try omega))
  refine CL.stayU (bytes_ok (re_fl _)) fun g7 t7 => ?_
  have hfg7 := t7.fl hfg6
  have sb7 := sb6.stay t7 fun _ _ h => h
  have o7 := o6.stay t7 fun h => h
  repeat' (first
    | refine St.h ?_
    | simp (disch := first | omega | (simp only [lnv]; omega)) only [wlk, ↓get_put', Nat.reduceEqDiff, Nat.reduceLT, ↓reduceIte, Int.reduceToNat, Nat.reducePow, Nat.min_eq_left, Nat.reduceAdd, Nat.reduceMul, Int.reduceAdd, Int.reduceSub, Int.reduceNeg, Int.reduceMul, Int.reduceEq, Int.reduceLT, Int.reduceLE, Nat.reduceSub, Int.reduceNatCast, Nat.reduceLeDiff, f0, f3, f4, f8, f9, f10, o7.row.l1]
    | (with_reducible (first | apply cd_split | apply gd_split)) <;> (intro hc; (try simp only [hcn] at hc); (try simp only [hc]); (try simp only [hcl] at hc); try omega))
  refine CL.stay (text_ok (by omega) hfg7) fun g8 t8 => ?_
  have hfg8 := t8.fl hfg7
  have sb8 := sb7.stay t8 fun _ _ h => h
  have o8 := o7.stay t8 fun h => h
  have hn8 : B.val g.next < B.val g8.next := own_lt' o8
  have hdb := drop_bytes hi
  repeat' (first
    | refine St.h ?_
    | simp (disch := first | omega | (simp only [lnv]; omega)) only [wlk, ↓get_put', Nat.reduceEqDiff, Nat.reduceLT, ↓reduceIte, Int.reduceToNat, Nat.reducePow, Nat.min_eq_left, Nat.reduceAdd, Nat.reduceMul, Int.reduceAdd, Int.reduceSub, Int.reduceNeg, Int.reduceMul, Int.reduceEq, Int.reduceLT, Int.reduceLE, Nat.reduceSub, Int.reduceNatCast, Nat.reduceLeDiff, f0, f3, f4, f8, f9, f10, Int.toNat_natCast, hdb]
    | (with_reducible (first | apply cd_split | apply gd_split)) <;> (intro hc; (try simp only [hcn] at hc); (try simp only [hc]); (try simp only [hcl] at hc); try omega))
  refine CL.mk (writeString_ok sb8 (by simp only [List.length_append]; omega) hfg8) ?_
  rintro _ g9 ⟨U9, sb9, t9, hU9⟩
  have o9 := o8.stay t9 hnU6
  have a4 := ((st.trans t12).trans t3).past' t4 fun q hq => (sb3.lo q hq).1
  have a6 := (a4.trans t5).past' t6 fun q hq => (sb5.lo q hq).1
  have a9 := ((a6.trans t7).trans t8).past' t9 fun q hq => (sb8.lo q hq).1
  repeat' (first
    | refine St.h ?_
    | simp (disch := first | omega | (simp only [lnv]; omega)) only [wlk, ↓get_put', Nat.reduceEqDiff, Nat.reduceLT, ↓reduceIte, Int.reduceToNat, Nat.reducePow, Nat.min_eq_left, Nat.reduceAdd, Nat.reduceMul, Int.reduceAdd, Int.reduceSub, Int.reduceNeg, Int.reduceMul, Int.reduceEq, Int.reduceLT, Int.reduceLE, Nat.reduceSub, Int.reduceNatCast, Nat.reduceLeDiff, f0, f3, f4, f8, f9, f10, o9.row.l1]
    | (with_reducible (first | apply cd_split | apply gd_split)) <;> (intro hc; (try simp only [hcn] at hc); (try simp only [hc]); (try simp only [hcl] at hc); try omega))
  refine lp_next hI (L.length - (j + 1)) (by omega) ⟨j + 1, e.key, out ++ oneB p e, U9, rfl, by omega, k1, by rw [hb]; simp, a9, by unfold oneB; simpa using sb9, ?_, ?_, ?_, ?_, ?_, ?_⟩
  all_goals (simp (disch := first | omega | (simp only [lnv]; omega)) only [wlk, ↓get_put', Nat.reduceEqDiff, Nat.reduceLT, ↓reduceIte, Int.reduceToNat, Nat.reducePow, Nat.min_eq_left, Nat.reduceAdd, Nat.reduceMul, Int.reduceAdd, Int.reduceSub, Int.reduceNeg, Int.reduceMul, Int.reduceEq, Int.reduceLT, Int.reduceLE, Nat.reduceSub, Int.reduceNatCast, Nat.reduceLeDiff, f0, f3, f8, f9]; try rfl)
theorem bmake_ok {h : H} {v : V} {L : List Ent} (hL : Es h v L) (hl : L.length ≤ 10000) (hf : B.val h.floor ≤ B.val h.next) : FnOk Try.prog 39 [v] h fun y h' => y = .tu [sv (blkE L).1, .i .i64 (blkE L).2] ∧ Stay nowhere h h' := by
  refine fn_go c39 (by intro hb; cases hb) (by simp) (by simp) fun Q hQ => ?_
  simp only [slotsF, Nat.reduceAdd]
  by_cases h0 : L.length = 0
  · have : L = [] := List.eq_nil_of_length_eq_zero h0
    subst this
    repeat' (first
      | refine St.h ?_
      | simp (disch := first | omega | (simp only [lnv]; omega)) only [wlk, ↓get_put', Nat.reduceEqDiff, Nat.reduceLT, ↓reduceIte, Int.reduceToNat, Nat.reducePow, Nat.min_eq_left, Nat.reduceAdd, Nat.reduceMul, Int.reduceAdd, Int.reduceSub, Int.reduceNeg, Int.reduceMul, Int.reduceEq, Int.reduceLT, Int.reduceLE, Nat.reduceSub, Int.reduceNatCast, Nat.reduceLeDiff, hL.ln]
      | (with_reducible (first | apply cd_split | apply gd_split)) <;> (intro hc; (try simp only [hcn] at hc); (try simp only [hc]); (try simp only [hcl] at hc); try omega))
    subst hQ
    exact ⟨by rw [blkE_nil], Stay.refl _ _⟩
  have hd : ((L.length : Int) = 0) = False := eq_false (by omega)
  repeat' (first
    | refine St.h ?_
    | simp (disch := first | omega | (simp only [lnv]; omega)) only [wlk, ↓get_put', Nat.reduceEqDiff, Nat.reduceLT, ↓reduceIte, Int.reduceToNat, Nat.reducePow, Nat.min_eq_left, Nat.reduceAdd, Nat.reduceMul, Int.reduceAdd, Int.reduceSub, Int.reduceNeg, Int.reduceMul, Int.reduceEq, Int.reduceLT, Int.reduceLE, Nat.reduceSub, Int.reduceNatCast, Nat.reduceLeDiff, hL.ln, hd]
    | (with_reducible (first | apply cd_split | apply gd_split)) <;> (intro hc; (try simp only [hcn] at hc); (try simp only [hc]); (try simp only [hcl] at hc); try omega))
  refine Ok.lp (fun m t g => ∃ j : Nat, m = L.length - j ∧ j ≤ L.length ∧ (∀ i, i < j → isE (L.getD i default) = true) ∧ get 0 t = v ∧ get 9 t = v ∧ get 10 t = .i .i64 (L.length : Int) ∧ get 11 t = .i .i64 (j : Int) ∧ Stay nowhere h g) L.length ?_ ?_
  · simp (disch := first | omega | (simp only [lnv]; omega)) only [wlk, ↓get_put', Nat.reduceEqDiff, Nat.reduceLT, ↓reduceIte, Int.reduceToNat, Nat.reducePow, Nat.min_eq_left, Nat.reduceAdd, Nat.reduceMul, Int.reduceAdd, Int.reduceSub, Int.reduceNeg, Int.reduceMul, Int.reduceEq, Int.reduceLT, Int.reduceLE, Nat.reduceSub, Int.reduceNatCast, Nat.reduceLeDiff]
    exact ⟨0, by omega, by omega, fun i hi => by omega, trivial, trivial, trivial, rfl, Stay.refl _ _⟩
  rintro I hI m t g ⟨j, rfl, hj, he, f0, f9, f10, f11, st⟩
  have hfg := st.fl hf
  have hLg := hL.grow st
  by_cases hjl : j < L.length
  case neg =>
    obtain rfl : j = L.length := by omega
    have hall : L.all isE = true := all_ok he
    have hne : L ≠ [] := by intro e; subst e; simp at h0
    repeat' (first
      | refine St.h ?_
      | simp (disch := first | omega | (simp only [lnv]; omega)) only [wlk, ↓get_put', Nat.reduceEqDiff, Nat.reduceLT, ↓reduceIte, Int.reduceToNat, Nat.reducePow, Nat.min_eq_left, Nat.reduceAdd, Nat.reduceMul, Int.reduceAdd, Int.reduceSub, Int.reduceNeg, Int.reduceMul, Int.reduceEq, Int.reduceLT, Int.reduceLE, Nat.reduceSub, Int.reduceNatCast, Nat.reduceLeDiff, f0, f9, f10, f11]
      | (with_reducible (first | apply cd_split | apply gd_split)) <;> (intro hc; (try simp only [hcn] at hc); (try simp only [hc]); (try simp only [hcl] at hc); try omega))
    refine CL.stay (sorted_ok hLg (by omega) hfg) fun g1 t1 => ?_
    have hfg1 := t1.fl hfg
    have hL1 := hLg.grow t1
    cases hs : sortedE L with
    | false =>
      repeat' (first
        | refine St.h ?_
        | simp (disch := first | omega | (simp only [lnv]; omega)) only [wlk, ↓get_put', Nat.reduceEqDiff, Nat.reduceLT, ↓reduceIte, Int.reduceToNat, Nat.reducePow, Nat.min_eq_left, Nat.reduceAdd, Nat.reduceMul, Int.reduceAdd, Int.reduceSub, Int.reduceNeg, Int.reduceMul, Int.reduceEq, Int.reduceLT, Int.reduceLE, Nat.reduceSub, Int.reduceNatCast, Nat.reduceLeDiff]
        | (with_reducible (first | apply cd_split | apply gd_split)) <;> (intro hc; (try simp only [hcn] at hc); (try simp only [hc]); (try simp only [hcl] at hc); try omega))
      subst hQ
      exact ⟨by rw [blkE_un hall hne hs], st.trans t1⟩
    | true =>
      repeat' (first
        | refine St.h ?_
        | simp (disch := first | omega | (simp only [lnv]; omega)) only [wlk, ↓get_put', Nat.reduceEqDiff, Nat.reduceLT, ↓reduceIte, Int.reduceToNat, Nat.reducePow, Nat.min_eq_left, Nat.reduceAdd, Nat.reduceMul, Int.reduceAdd, Int.reduceSub, Int.reduceNeg, Int.reduceMul, Int.reduceEq, Int.reduceLT, Int.reduceLE, Nat.reduceSub, Int.reduceNatCast, Nat.reduceLeDiff, f0]
        | (with_reducible (first | apply cd_split | apply gd_split)) <;> (intro hc; (try simp only [hcn] at hc); (try simp only [hc]); (try simp only [hcl] at hc); try omega))
      refine CL.stay (lay_ok hL1 hl hall hfg1) fun g2 t2 => ?_
      have hfg2 := t2.fl hfg1
      have hbl := bodyB_len (p := []) hall
      repeat' (first
        | refine St.h ?_
        | simp (disch := first | omega | (simp only [lnv]; omega)) only [wlk, ↓get_put', Nat.reduceEqDiff, Nat.reduceLT, ↓reduceIte, Int.reduceToNat, Nat.reducePow, Nat.min_eq_left, Nat.reduceAdd, Nat.reduceMul, Int.reduceAdd, Int.reduceSub, Int.reduceNeg, Int.reduceMul, Int.reduceEq, Int.reduceLT, Int.reduceLE, Nat.reduceSub, Int.reduceNatCast, Nat.reduceLeDiff]
        | (with_reducible (first | apply cd_split | apply gd_split)) <;> (intro hc; (try simp only [hcn] at hc); (try simp only [hc]); (try simp only [hcl] at hc); try omega))
      refine CL.stay (seal_ok (by omega) hfg2) fun g3 t3 => ?_
      repeat' (first
        | refine St.h ?_
        | simp (disch := first | omega | (simp only [lnv]; omega)) only [wlk, ↓get_put', Nat.reduceEqDiff, Nat.reduceLT, ↓reduceIte, Int.reduceToNat, Nat.reducePow, Nat.min_eq_left, Nat.reduceAdd, Nat.reduceMul, Int.reduceAdd, Int.reduceSub, Int.reduceNeg, Int.reduceMul, Int.reduceEq, Int.reduceLT, Int.reduceLE, Nat.reduceSub, Int.reduceNatCast, Nat.reduceLeDiff]
        | (with_reducible (first | apply cd_split | apply gd_split)) <;> (intro hc; (try simp only [hcn] at hc); (try simp only [hc]); (try simp only [hcl] at hc); try omega))
      subst hQ
      exact ⟨by rw [blkE_ok hall hne hs], ((st.trans t1).trans t2).trans t3⟩
  repeat' (first
    | refine St.h ?_
    | simp (disch := first | omega | (simp only [lnv]; omega)) only [wlk, ↓get_put', Nat.reduceEqDiff, Nat.reduceLT, ↓reduceIte, Int.reduceToNat, Nat.reducePow, Nat.min_eq_left, Nat.reduceAdd, Nat.reduceMul, Int.reduceAdd, Int.reduceSub, Int.reduceNeg, Int.reduceMul, Int.reduceEq, Int.reduceLT, Int.reduceLE, Nat.reduceSub, Int.reduceNatCast, Nat.reduceLeDiff, f0, f9, f10, f11, hLg.ix, hLg.la, Int.toNat_natCast]
    | (with_reducible (first | apply cd_split | apply gd_split)) <;> (intro hc; (try simp only [hcn] at hc); (try simp only [hc]); (try simp only [hcl] at hc); try omega))
  refine AL.own (by simp) hfg fun g1 t1 m1 o1 => ?_
  have hfg1 := t1.fl hfg
  repeat' (first
    | refine St.h ?_
    | simp (disch := first | omega | (simp only [lnv]; omega)) only [wlk, ↓get_put', Nat.reduceEqDiff, Nat.reduceLT, ↓reduceIte, Int.reduceToNat, Nat.reducePow, Nat.min_eq_left, Nat.reduceAdd, Nat.reduceMul, Int.reduceAdd, Int.reduceSub, Int.reduceNeg, Int.reduceMul, Int.reduceEq, Int.reduceLT, Int.reduceLE, Nat.reduceSub, Int.reduceNatCast, Nat.reduceLeDiff, f0, f9, f10, f11]
    | (with_reducible (first | apply cd_split | apply gd_split)) <;> (intro hc; (try simp only [hcn] at hc); (try simp only [hc]); (try simp only [hcl] at hc); try omega))
  refine ST.all o1 rfl rfl (by simp) (by simp) fun g2 o2 t2 => ?_
  have t12 : Stay nowhere g g2 := t1.past' t2 fun q hq => by rw [hq]; exact Nat.le_refl _
  have hfg2 := t12.fl hfg
  repeat' (first
    | refine St.h ?_
    | simp (disch := first | omega | (simp only [lnv]; omega)) only [wlk, ↓get_put', Nat.reduceEqDiff, Nat.reduceLT, ↓reduceIte, Int.reduceToNat, Nat.reducePow, Nat.min_eq_left, Nat.reduceAdd, Nat.reduceMul, Int.reduceAdd, Int.reduceSub, Int.reduceNeg, Int.reduceMul, Int.reduceEq, Int.reduceLT, Int.reduceLE, Nat.reduceSub, Int.reduceNatCast, Nat.reduceLeDiff, f0, f9, f10, f11, o2.row.ln]
    | (with_reducible (first | apply cd_split | apply gd_split)) <;> (intro hc; (try simp only [hcn] at hc); (try simp only [hc]); (try simp only [hcl] at hc); try omega))
  refine CL.stay (is_ok hfg2) fun g3 t3 => ?_
  have s3 := (st.trans t12).trans t3
  cases hi : isE (L.getD j default) with
  | false =>
    repeat' (first
      | refine St.h ?_
      | simp (disch := first | omega | (simp only [lnv]; omega)) only [wlk, ↓get_put', Nat.reduceEqDiff, Nat.reduceLT, ↓reduceIte, Int.reduceToNat, Nat.reducePow, Nat.min_eq_left, Nat.reduceAdd, Nat.reduceMul, Int.reduceAdd, Int.reduceSub, Int.reduceNeg, Int.reduceMul, Int.reduceEq, Int.reduceLT, Int.reduceLE, Nat.reduceSub, Int.reduceNatCast, Nat.reduceLeDiff]
      | (with_reducible (first | apply cd_split | apply gd_split)) <;> (intro hc; (try simp only [hcn] at hc); (try simp only [hc]); (try simp only [hcl] at hc); try omega))
    subst hQ
    exact ⟨by rw [blkE_bad (all_at (by omega) hi)], s3⟩
  | true =>
    repeat' (first
      | refine St.h ?_
      | simp (disch := first | omega | (simp only [lnv]; omega)) only [wlk, ↓get_put', Nat.reduceEqDiff, Nat.reduceLT, ↓reduceIte, Int.reduceToNat, Nat.reducePow, Nat.min_eq_left, Nat.reduceAdd, Nat.reduceMul, Int.reduceAdd, Int.reduceSub, Int.reduceNeg, Int.reduceMul, Int.reduceEq, Int.reduceLT, Int.reduceLE, Nat.reduceSub, Int.reduceNatCast, Nat.reduceLeDiff, f0, f9, f10, f11]
      | (with_reducible (first | apply cd_split | apply gd_split)) <;> (intro hc; (try simp only [hcn] at hc); (try simp only [hc]); (try simp only [hcl] at hc); try omega))
    refine lp_next hI (L.length - (j + 1)) (by omega) ⟨j + 1, rfl, by omega, fun i h2 => ?_, ?_, ?_, ?_, ?_, s3⟩
    · by_cases e : i = j
      · subst e; exact hi
      · exact he i (by omega)
    all_goals (simp (disch := first | omega | (simp only [lnv]; omega)) only [wlk, ↓get_put', Nat.reduceEqDiff, Nat.reduceLT, ↓reduceIte, Int.reduceToNat, Nat.reducePow, Nat.min_eq_left, Nat.reduceAdd, Nat.reduceMul, Int.reduceAdd, Int.reduceSub, Int.reduceNeg, Int.reduceMul, Int.reduceEq, Int.reduceLT, Int.reduceLE, Nat.reduceSub, Int.reduceNatCast, Nat.reduceLeDiff, f0, f9, f10]; try rfl)
/-- what take makes of bytes behind a key: one entry that fits, or an error; and the entry that was laid -/
structure TakeR (p s : List UInt8) (r : Ent × Int × Int) : Prop where
  fit : r.2.2 = 0 → ∃ z : Nat, r.2.1 = (z : Int) ∧ 1 ≤ z ∧ z ≤ s.length ∧ isE r.1 = true
  laid : ∀ (e : Ent) (more : List UInt8), isE e = true → s = oneB p e ++ more → r = (e, ((oneB p e).length : Int), 0)
theorem TakeR.bad {p s : List UInt8} {r : Ent × Int × Int} (h : r.2.2 ≠ 0) (hs : ∀ (e : Ent) (more : List UInt8), isE e = true → s = oneB p e ++ more → False) : TakeR p s r :=
  ⟨fun e => absurd e h, fun e more hi hs' => (hs e more hi hs').elim⟩
section
variable {p : List UInt8} {e : Ent} (more : List UInt8)
theorem one_takeN (hi : isE e = true) : takeN (oneB p e ++ more) = ((sharedB e.key p : Int), ((numB (sharedB e.key p)).length : Int), 0) := by
  obtain ⟨k1, _⟩ := isE_len hi
  have hs := sharedB_le e.key p
  unfold oneB
  rw [List.append_assoc, List.append_assoc]
  exact takeN_numB (by omega) _
theorem one_takeT (hi : isE e = true) : takeT ((oneB p e ++ more).drop (numB (sharedB e.key p)).length) = (e.key.drop (sharedB e.key p), ((textB (e.key.drop (sharedB e.key p))).length : Int), 0) := by
  obtain ⟨k1, _⟩ := isE_len hi
  unfold oneB
  rw [List.append_assoc, List.append_assoc, List.drop_left]
  exact takeT_textB (by rw [List.length_drop]; omega)
theorem one_tail (hi : isE e = true) : (oneB p e ++ more).drop ((numB (sharedB e.key p)).length + (textB (e.key.drop (sharedB e.key p))).length) = tailB e ++ more := by
  unfold oneB
  rw [← List.length_append, List.append_assoc, List.drop_left]
theorem one_key : p.take (sharedB e.key p) ++ e.key.drop (sharedB e.key p) = e.key := by
  rw [← sharedB_take, List.take_append_drop]
theorem one_len (hi : isE e = true) : (oneB p e).length = (numB (sharedB e.key p)).length + (textB (e.key.drop (sharedB e.key p))).length + (tailB e).length := by
  unfold oneB; rw [List.length_append, List.length_append]
theorem one_read (hi : isE e = true) : readE (textB e.key ++ (tailB e ++ more).take 43) = (e, ((textB e.key).length : Int) + ((tailB e).length : Int), 0) := by
  have h := tailB_len hi
  have e1 : (tailB e ++ more).take 43 = tailB e ++ more.take (43 - (tailB e).length) := by
    rw [List.take_append, List.take_of_length_le h]
  rw [e1, ← List.append_assoc, ← bytesE_full hi, read_back hi, bytesE_full hi, List.length_append]
  push_cast; rfl
end
theorem btake_ok {h : H} {p s : List UInt8} (hs : s.length ≤ 10000) (hp : p.length ≤ 13) (hf : B.val h.floor ≤ B.val h.next) : FnOk Try.prog 97 [sv s, sv p] h fun y h' => (∃ r, y = triE r ∧ TakeR p s r) ∧ Stay nowhere h h' := by
  refine fn_go c97 (by intro hb; cases hb) (by simp) (by simp) fun Q hQ => ?_
  simp only [slotsF, Nat.reduceAdd]
  repeat' (first
    | refine St.h ?_
    | simp (disch := first | omega | (simp only [lnv]; omega)) only [wlk, ↓get_put', Nat.reduceEqDiff, Nat.reduceLT, ↓reduceIte, Int.reduceToNat, Nat.reducePow, Nat.min_eq_left, Nat.reduceAdd, Nat.reduceMul, Int.reduceAdd, Int.reduceSub, Int.reduceNeg, Int.reduceMul, Int.reduceEq, Int.reduceLT, Int.reduceLE, Nat.reduceSub, Int.reduceNatCast, Nat.reduceLeDiff]
    | (with_reducible (first | apply cd_split | apply gd_split)) <;> (intro hc; (try simp only [hcn] at hc); (try simp only [hc]); (try simp only [hcl] at hc); try omega))
  refine AL.own (by simp) hf fun h1 s1 n1 o1 => ?_
  have hf1 := s1.fl hf
  repeat' (first
    | refine St.h ?_
    | simp (disch := first | omega | (simp only [lnv]; omega)) only [wlk, ↓get_put', Nat.reduceEqDiff, Nat.reduceLT, ↓reduceIte, Int.reduceToNat, Nat.reducePow, Nat.min_eq_left, Nat.reduceAdd, Nat.reduceMul, Int.reduceAdd, Int.reduceSub, Int.reduceNeg, Int.reduceMul, Int.reduceEq, Int.reduceLT, Int.reduceLE, Nat.reduceSub, Int.reduceNatCast, Nat.reduceLeDiff]
    | (with_reducible (first | apply cd_split | apply gd_split)) <;> (intro hc; (try simp only [hcn] at hc); (try simp only [hc]); (try simp only [hcl] at hc); try omega))
  refine CL.pure (takeNum_ok (by omega)) ?_
  have hz : ∀ f : Int, triE (entZ, 0, f) = .tu [.a [sv [], .i .i64 0, .b false, sv []], .i .i64 0, .i .i64 f] := fun f => rfl
  rcases takeN_range s with hN' | ⟨k, i, hN, i1, i2, i3, i4⟩
  · obtain ⟨f, hN, hfn⟩ : ∃ f, takeN s = (0, 0, f) ∧ f ≠ 0 := by
      rcases hN' with h | h
      · exact ⟨_, h, by omega⟩
      · exact ⟨_, h, by omega⟩
    rw [hN]; unfold tri
    have hz' : (f = 0) = False := eq_false hfn
    repeat' (first
      | refine St.h ?_
      | simp (disch := first | omega | (simp only [lnv]; omega)) only [wlk, ↓get_put', Nat.reduceEqDiff, Nat.reduceLT, ↓reduceIte, Int.reduceToNat, Nat.reducePow, Nat.min_eq_left, Nat.reduceAdd, Nat.reduceMul, Int.reduceAdd, Int.reduceSub, Int.reduceNeg, Int.reduceMul, Int.reduceEq, Int.reduceLT, Int.reduceLE, Nat.reduceSub, Int.reduceNatCast, Nat.reduceLeDiff, hz']
      | (with_reducible (first | apply cd_split | apply gd_split)) <;> (intro hc; (try simp only [hcn] at hc); (try simp only [hc]); (try simp only [hcl] at hc); try omega))
    refine ST.all o1 rfl rfl (by simp) (by simp) fun g og sg => ?_
    repeat' (first
      | refine St.h ?_
      | simp (disch := first | omega | (simp only [lnv]; omega)) only [wlk, ↓get_put', Nat.reduceEqDiff, Nat.reduceLT, ↓reduceIte, Int.reduceToNat, Nat.reducePow, Nat.min_eq_left, Nat.reduceAdd, Nat.reduceMul, Int.reduceAdd, Int.reduceSub, Int.reduceNeg, Int.reduceMul, Int.reduceEq, Int.reduceLT, Int.reduceLE, Nat.reduceSub, Int.reduceNatCast, Nat.reduceLeDiff, og.ra4]
      | (with_reducible (first | apply cd_split | apply gd_split)) <;> (intro hc; (try simp only [hcn] at hc); (try simp only [hc]); (try simp only [hcl] at hc); try omega))
    subst hQ
    refine ⟨⟨(entZ, 0, f), rfl, TakeR.bad hfn fun e more hi hse => ?_⟩, s1.past' sg fun q hq => by rw [hq]; exact Nat.le_refl _⟩
    rw [hse, one_takeN more hi] at hN
    exact hfn (Prod.mk.inj (Prod.mk.inj hN).2).2.symm
  rw [hN]; unfold tri
  by_cases hk : k ≤ p.length
  case neg =>
    repeat' (first
      | refine St.h ?_
      | simp (disch := first | omega | (simp only [lnv]; omega)) only [wlk, ↓get_put', Nat.reduceEqDiff, Nat.reduceLT, ↓reduceIte, Int.reduceToNat, Nat.reducePow, Nat.min_eq_left, Nat.reduceAdd, Nat.reduceMul, Int.reduceAdd, Int.reduceSub, Int.reduceNeg, Int.reduceMul, Int.reduceEq, Int.reduceLT, Int.reduceLE, Nat.reduceSub, Int.reduceNatCast, Nat.reduceLeDiff]
      | (with_reducible (first | apply cd_split | apply gd_split)) <;> (intro hc; (try simp only [hcn] at hc); (try simp only [hc]); (try simp only [hcl] at hc); try omega))
    refine ST.all o1 rfl rfl (by simp) (by simp) fun g og sg => ?_
    repeat' (first
      | refine St.h ?_
      | simp (disch := first | omega | (simp only [lnv]; omega)) only [wlk, ↓get_put', Nat.reduceEqDiff, Nat.reduceLT, ↓reduceIte, Int.reduceToNat, Nat.reducePow, Nat.min_eq_left, Nat.reduceAdd, Nat.reduceMul, Int.reduceAdd, Int.reduceSub, Int.reduceNeg, Int.reduceMul, Int.reduceEq, Int.reduceLT, Int.reduceLE, Nat.reduceSub, Int.reduceNatCast, Nat.reduceLeDiff, og.ra4]
      | (with_reducible (first | apply cd_split | apply gd_split)) <;> (intro hc; (try simp only [hcn] at hc); (try simp only [hc]); (try simp only [hcl] at hc); try omega))
    subst hQ
    refine ⟨⟨(entZ, 0, 10), rfl, TakeR.bad (by simp) fun e more hi hse => ?_⟩, s1.past' sg fun q hq => by rw [hq]; exact Nat.le_refl _⟩
    rw [hse, one_takeN more hi] at hN
    have := (Prod.mk.inj hN).1
    have := sharedB_le e.key p
    omega
  have hdl : (s.drop i).length = s.length - i := List.length_drop
  repeat' (first
    | refine St.h ?_
    | simp (disch := first | omega | (simp only [lnv]; omega)) only [wlk, ↓get_put', Nat.reduceEqDiff, Nat.reduceLT, ↓reduceIte, Int.reduceToNat, Nat.reducePow, Nat.min_eq_left, Nat.reduceAdd, Nat.reduceMul, Int.reduceAdd, Int.reduceSub, Int.reduceNeg, Int.reduceMul, Int.reduceEq, Int.reduceLT, Int.reduceLE, Nat.reduceSub, Int.reduceNatCast, Nat.reduceLeDiff, Int.toNat_natCast]
    | (with_reducible (first | apply cd_split | apply gd_split)) <;> (intro hc; (try simp only [hcn] at hc); (try simp only [hc]); (try simp only [hcl] at hc); try omega))
  refine CL.pure (takeText_ok (by omega)) ?_
  rcases takeT_range (s.drop i) with hT' | ⟨tx, j, hT, j1, j2, j3⟩
  · obtain ⟨f, hT, hfn⟩ : ∃ f, takeT (s.drop i) = ([], 0, f) ∧ f ≠ 0 := by
      rcases hT' with h | h
      · exact ⟨_, h, by omega⟩
      · exact ⟨_, h, by omega⟩
    rw [hT]; unfold triT
    have hz' : (f = 0) = False := eq_false hfn
    repeat' (first
      | refine St.h ?_
      | simp (disch := first | omega | (simp only [lnv]; omega)) only [wlk, ↓get_put', Nat.reduceEqDiff, Nat.reduceLT, ↓reduceIte, Int.reduceToNat, Nat.reducePow, Nat.min_eq_left, Nat.reduceAdd, Nat.reduceMul, Int.reduceAdd, Int.reduceSub, Int.reduceNeg, Int.reduceMul, Int.reduceEq, Int.reduceLT, Int.reduceLE, Nat.reduceSub, Int.reduceNatCast, Nat.reduceLeDiff, hz']
      | (with_reducible (first | apply cd_split | apply gd_split)) <;> (intro hc; (try simp only [hcn] at hc); (try simp only [hc]); (try simp only [hcl] at hc); try omega))
    refine ST.all o1 rfl rfl (by simp) (by simp) fun g og sg => ?_
    repeat' (first
      | refine St.h ?_
      | simp (disch := first | omega | (simp only [lnv]; omega)) only [wlk, ↓get_put', Nat.reduceEqDiff, Nat.reduceLT, ↓reduceIte, Int.reduceToNat, Nat.reducePow, Nat.min_eq_left, Nat.reduceAdd, Nat.reduceMul, Int.reduceAdd, Int.reduceSub, Int.reduceNeg, Int.reduceMul, Int.reduceEq, Int.reduceLT, Int.reduceLE, Nat.reduceSub, Int.reduceNatCast, Nat.reduceLeDiff, og.ra4]
      | (with_reducible (first | apply cd_split | apply gd_split)) <;> (intro hc; (try simp only [hcn] at hc); (try simp only [hc]); (try simp only [hcl] at hc); try omega))
    subst hQ
    refine ⟨⟨(entZ, 0, f), rfl, TakeR.bad hfn fun e more hi hse => ?_⟩, s1.past' sg fun q hq => by rw [hq]; exact Nat.le_refl _⟩
    have hN2 := hN
    rw [hse, one_takeN more hi] at hN2
    have hiN := Int.ofNat.inj (Prod.mk.inj (Prod.mk.inj hN2).2).1
    rw [hse, ← hiN, one_takeT more hi] at hT
    exact hfn (Prod.mk.inj (Prod.mk.inj hT).2).2.symm
  rw [hT]; unfold triT
  have hptk : (p.take k).length = k := by rw [List.length_take]; omega
  have hij : ((i : Int) + (j : Int)) = ((i + j : Nat) : Int) := by omega
  have hmn : min (((i + j : Nat) : Int) + 43) (s.length : Int) = ((min (i + j + 43) s.length : Nat) : Int) := by omega
  repeat' (first
    | refine St.h ?_
    | simp (disch := first | omega | (simp only [lnv]; omega)) only [wlk, ↓get_put', Nat.reduceEqDiff, Nat.reduceLT, ↓reduceIte, Int.reduceToNat, Nat.reducePow, Nat.min_eq_left, Nat.reduceAdd, Nat.reduceMul, Int.reduceAdd, Int.reduceSub, Int.reduceNeg, Int.reduceMul, Int.reduceEq, Int.reduceLT, Int.reduceLE, Nat.reduceSub, Int.reduceNatCast, Nat.reduceLeDiff, Int.toNat_natCast]
    | (with_reducible (first | apply cd_split | apply gd_split)) <;> (intro hc; (try simp only [hcn] at hc); (try simp only [hc]); (try simp only [hcl] at hc); try omega))
  refine CL.stay (text_ok (by rw [List.length_append]; omega) hf1) fun h2 s2 => ?_
  have hf2 := s2.fl hf1
  have o2 := o1.stay s2 fun h => h
  have htl : (s.take (min (i + j + 43) s.length)).drop (i + j) = (s.drop (i + j)).take 43 := by
    rw [List.drop_take]
    have hdl2 : (s.drop (i + j)).length = s.length - (i + j) := List.length_drop
    by_cases hc : i + j + 43 ≤ s.length
    · rw [Nat.min_eq_left hc, Nat.add_sub_cancel_left]
    · rw [Nat.min_eq_right (by omega), List.take_of_length_le (by omega), List.take_of_length_le (by omega)]
  have hkl : (p.take k ++ tx).length ≤ 20000 := by rw [List.length_append]; omega
  have hxl := textB_len (p.take k ++ tx) (by omega)
  have hul : ((s.drop (i + j)).take 43).length ≤ 43 := by rw [List.length_take]; omega
  repeat' (first
    | refine St.h ?_
    | simp (disch := first | omega | (simp only [lnv]; omega)) only [wlk, ↓get_put', Nat.reduceEqDiff, Nat.reduceLT, ↓reduceIte, Int.reduceToNat, Nat.reducePow, Nat.min_eq_left, Nat.reduceAdd, Nat.reduceMul, Int.reduceAdd, Int.reduceSub, Int.reduceNeg, Int.reduceMul, Int.reduceEq, Int.reduceLT, Int.reduceLE, Nat.reduceSub, Int.reduceNatCast, Nat.reduceLeDiff, Int.toNat_natCast, hij, hmn, htl]
    | (with_reducible (first | apply cd_split | apply gd_split)) <;> (intro hc; (try simp only [hcn] at hc); (try simp only [hc]); (try simp only [hcl] at hc); try omega))
  refine CL.stay (read_ok (by rw [List.length_append]; omega) hf2) fun h3 s3 => ?_
  have hf3 := s3.fl hf2
  have o3 := o2.stay s3 fun h => h
  have hrd : TakeR p s (if (readE (textB (p.take k ++ tx) ++ (s.drop (i + j)).take 43)).2.2 ≠ 0 then (entZ, 0, (readE (textB (p.take k ++ tx) ++ (s.drop (i + j)).take 43)).2.2) else
      ((readE (textB (p.take k ++ tx) ++ (s.drop (i + j)).take 43)).1, ((i + j : Nat) : Int) + (readE (textB (p.take k ++ tx) ++ (s.drop (i + j)).take 43)).2.1 - ((textB (p.take k ++ tx)).length : Int), 0)) := by
    have hkt := takeT_textB (l := p.take k ++ tx) (more := (s.drop (i + j)).take 43) (by omega)
    have href := readE_ref hkt
    rw [List.drop_left] at href
    refine ⟨fun h0 => ?_, fun e more hi hse => ?_⟩
    · by_cases hb : (chkd (tailU (p.take k ++ tx) ((s.drop (i + j)).take 43))).2.2 = 0
      · obtain ⟨z, hz, z1, z2⟩ := chkd_range _ _ hb
        have hrr : readE (textB (p.take k ++ tx) ++ (s.drop (i + j)).take 43) = ((chkd (tailU (p.take k ++ tx) ((s.drop (i + j)).take 43))).1, ((textB (p.take k ++ tx)).length : Int) + (z : Int), 0) := by
          rw [href, hb, hz]; rfl
        have hdl2 : ((s.drop (i + j)).take 43).length ≤ s.length - (i + j) := by rw [List.length_take, List.length_drop]; omega
        rw [hrr]
        refine ⟨i + j + z, ?_, by omega, by omega, ?_⟩
        · show ((i + j : Nat) : Int) + (((textB (p.take k ++ tx)).length : Int) + (z : Int)) - _ = _
          omega
        · show isE (chkd (tailU (p.take k ++ tx) ((s.drop (i + j)).take 43))).1 = true
          exact chkd_isE (z := (chkd (tailU (p.take k ++ tx) ((s.drop (i + j)).take 43))).2.1) (by rw [← hb])
      · exfalso
        have h1 : (readE (textB (p.take k ++ tx) ++ (s.drop (i + j)).take 43)).2.2 ≠ 0 := by rw [href, if_pos hb]; exact hb
        rw [if_pos h1] at h0
        exact h1 h0
    · have hN2 := hN
      rw [hse, one_takeN more hi] at hN2
      have hk2 : sharedB e.key p = k := Int.ofNat.inj (Prod.mk.inj hN2).1
      have hi2 : (numB (sharedB e.key p)).length = i := Int.ofNat.inj (Prod.mk.inj (Prod.mk.inj hN2).2).1
      have hT2 := hT
      rw [hse, ← hi2, one_takeT more hi] at hT2
      have ht2 : e.key.drop (sharedB e.key p) = tx := (Prod.mk.inj hT2).1
      have hj2 : (textB (e.key.drop (sharedB e.key p))).length = j := Int.ofNat.inj (Prod.mk.inj (Prod.mk.inj hT2).2).1
      have hs2 : s.drop (i + j) = tailB e ++ more := by rw [hse, ← hi2, ← hj2]; exact one_tail more hi
      have hk3 : p.take k ++ tx = e.key := by rw [← hk2, ← ht2]; exact one_key
      rw [hs2, hk3, one_read more hi, one_len hi, hi2, hj2]
      rw [if_neg (by simp)]
      simp only [Prod.mk.injEq, true_and, and_true]
      push_cast; omega
  generalize hr : readE (textB (p.take k ++ tx) ++ (s.drop (i + j)).take 43) = r at hrd ⊢
  obtain ⟨x, z, f⟩ := r
  have hxx : ([sv x.key, .i .i64 x.seq, .b x.del, sv x.val] : List V) = entC x := rfl
  unfold triE
  rw [← hxx]
  repeat' (first
    | refine St.h ?_
    | simp (disch := first | omega | (simp only [lnv]; omega)) only [wlk, ↓get_put', Nat.reduceEqDiff, Nat.reduceLT, ↓reduceIte, Int.reduceToNat, Nat.reducePow, Nat.min_eq_left, Nat.reduceAdd, Nat.reduceMul, Int.reduceAdd, Int.reduceSub, Int.reduceNeg, Int.reduceMul, Int.reduceEq, Int.reduceLT, Int.reduceLE, Nat.reduceSub, Int.reduceNatCast, Nat.reduceLeDiff]
    | (with_reducible (first | apply cd_split | apply gd_split)) <;> (intro hc; (try simp only [hcn] at hc); (try simp only [hc]); (try simp only [hcl] at hc); try omega))
  refine AL.own (by simp) hf3 fun h4 s4 n4 o4 => ?_
  have hf4 := s4.fl hf3
  have o34 := o3.stay s4 fun h => h
  repeat' (first
    | refine St.h ?_
    | simp (disch := first | omega | (simp only [lnv]; omega)) only [wlk, ↓get_put', Nat.reduceEqDiff, Nat.reduceLT, ↓reduceIte, Int.reduceToNat, Nat.reducePow, Nat.min_eq_left, Nat.reduceAdd, Nat.reduceMul, Int.reduceAdd, Int.reduceSub, Int.reduceNeg, Int.reduceMul, Int.reduceEq, Int.reduceLT, Int.reduceLE, Nat.reduceSub, Int.reduceNatCast, Nat.reduceLeDiff]
    | (with_reducible (first | apply cd_split | apply gd_split)) <;> (intro hc; (try simp only [hcn] at hc); (try simp only [hc]); (try simp only [hcl] at hc); try omega))
  refine ST.all o4 rfl rfl (by simp) (by simp) fun h5 o5 s5 => ?_
  have hlt : B.val h.next < B.val h3.next := own_lt' o3
  have o35 := o34.stay s5 (b_ne hlt)
  have s35 : Stay nowhere h3 h5 := s4.past' s5 fun q hq => by rw [hq]; exact Nat.le_refl _
  have s15 := ((s1.trans s2).trans s3).trans s35
  have hf5 := s35.fl hf3
  by_cases fz : f = 0
  case neg =>
    have hz' : (f = 0) = False := eq_false fz
    repeat' (first
      | refine St.h ?_
      | simp (disch := first | omega | (simp only [lnv]; omega)) only [wlk, ↓get_put', Nat.reduceEqDiff, Nat.reduceLT, ↓reduceIte, Int.reduceToNat, Nat.reducePow, Nat.min_eq_left, Nat.reduceAdd, Nat.reduceMul, Int.reduceAdd, Int.reduceSub, Int.reduceNeg, Int.reduceMul, Int.reduceEq, Int.reduceLT, Int.reduceLE, Nat.reduceSub, Int.reduceNatCast, Nat.reduceLeDiff, hz']
      | (with_reducible (first | apply cd_split | apply gd_split)) <;> (intro hc; (try simp only [hcn] at hc); (try simp only [hc]); (try simp only [hcl] at hc); try omega))
    refine ST.all o35 rfl rfl (by simp) (by simp) fun g og sg => ?_
    repeat' (first
      | refine St.h ?_
      | simp (disch := first | omega | (simp only [lnv]; omega)) only [wlk, ↓get_put', Nat.reduceEqDiff, Nat.reduceLT, ↓reduceIte, Int.reduceToNat, Nat.reducePow, Nat.min_eq_left, Nat.reduceAdd, Nat.reduceMul, Int.reduceAdd, Int.reduceSub, Int.reduceNeg, Int.reduceMul, Int.reduceEq, Int.reduceLT, Int.reduceLE, Nat.reduceSub, Int.reduceNatCast, Nat.reduceLeDiff, og.ra4]
      | (with_reducible (first | apply cd_split | apply gd_split)) <;> (intro hc; (try simp only [hcn] at hc); (try simp only [hc]); (try simp only [hcl] at hc); try omega))
    subst hQ
    rw [if_pos fz] at hrd
    exact ⟨⟨_, rfl, hrd⟩, s15.past' sg fun q hq => by rw [hq]; exact Nat.le_refl _⟩
  subst fz
  rw [if_neg (by simp)] at hrd
  obtain ⟨zz, hz1, hz2, hz3, hz4⟩ := hrd.fit rfl
  simp only at hz1
  repeat' (first
    | refine St.h ?_
    | simp (disch := first | omega | (simp only [lnv]; omega)) only [wlk, ↓get_put', Nat.reduceEqDiff, Nat.reduceLT, ↓reduceIte, Int.reduceToNat, Nat.reducePow, Nat.min_eq_left, Nat.reduceAdd, Nat.reduceMul, Int.reduceAdd, Int.reduceSub, Int.reduceNeg, Int.reduceMul, Int.reduceEq, Int.reduceLT, Int.reduceLE, Nat.reduceSub, Int.reduceNatCast, Nat.reduceLeDiff, o5.row.ln, Int.toNat_natCast, hij, hz1]
    | (with_reducible (first | apply cd_split | apply gd_split)) <;> (intro hc; (try simp only [hcn] at hc); (try simp only [hc]); (try simp only [hcl] at hc); try omega))
  refine ST.all o35 rfl rfl (by simp) (by simp) fun g og sg => ?_
  repeat' (first
    | refine St.h ?_
    | simp (disch := first | omega | (simp only [lnv]; omega)) only [wlk, ↓get_put', Nat.reduceEqDiff, Nat.reduceLT, ↓reduceIte, Int.reduceToNat, Nat.reducePow, Nat.min_eq_left, Nat.reduceAdd, Nat.reduceMul, Int.reduceAdd, Int.reduceSub, Int.reduceNeg, Int.reduceMul, Int.reduceEq, Int.reduceLT, Int.reduceLE, Nat.reduceSub, Int.reduceNatCast, Nat.reduceLeDiff, og.ra4]
    | (with_reducible (first | apply cd_split | apply gd_split)) <;> (intro hc; (try simp only [hcn] at hc); (try simp only [hc]); (try simp only [hcl] at hc); try omega))
  subst hQ
  exact ⟨⟨_, by show _ = triE (x, ((i + j : Nat) : Int) + z - ((textB (p.take k ++ tx)).length : Int), 0); rw [hz1]; rfl, hrd⟩, s15.past' sg fun q hq => by rw [hq]; exact Nat.le_refl _⟩
theorem takeAll_ok {h : H} {s : List UInt8} (hs : s.length ≤ 10000) (hf : B.val h.floor ≤ B.val h.next) : FnOk Try.prog 73 [sv s] h fun y h' => ∃ L : List Ent, Es h' y L ∧ L.length ≤ s.length ∧ L.all isE = true ∧ (∀ M : List Ent, M.all isE = true → s = bodyB [] M → L = M) ∧ Stay nowhere h h' := by
  refine fn_go c73 (by intro hb; cases hb) (by simp) (by simp) fun Q hQ => ?_
  simp only [slotsF, Nat.reduceAdd]
  repeat' (first
    | refine St.h ?_
    | simp (disch := first | omega | (simp only [lnv]; omega)) only [wlk, ↓get_put', Nat.reduceEqDiff, Nat.reduceLT, ↓reduceIte, Int.reduceToNat, Nat.reducePow, Nat.min_eq_left, Nat.reduceAdd, Nat.reduceMul, Int.reduceAdd, Int.reduceSub, Int.reduceNeg, Int.reduceMul, Int.reduceEq, Int.reduceLT, Int.reduceLE, Nat.reduceSub, Int.reduceNatCast, Nat.reduceLeDiff]
    | (with_reducible (first | apply cd_split | apply gd_split)) <;> (intro hc; (try simp only [hcn] at hc); (try simp only [hc]); (try simp only [hcl] at hc); try omega))
  refine Ok.lp (fun m t g => ∃ (at0 : Nat) (p : List UInt8) (out : List Ent) (u : V), m = s.length - at0 ∧ at0 ≤ s.length ∧ out.length ≤ at0 ∧ p.length ≤ 13 ∧ out.all isE = true ∧ (∀ M : List Ent, M.all isE = true → s = bodyB [] M → ∃ M2, M = out ++ M2 ∧ M2.all isE = true ∧ s.drop at0 = bodyB p M2) ∧ get 0 t = sv s ∧ get 3 t = u ∧ get 4 t = sv p ∧ get 5 t = .i .i64 (at0 : Int) ∧ Stay nowhere h g ∧ Buf g 70 4 u (out.flatMap entC) ∧ (∀ i, isOf u i → B.val h.next ≤ B.val i)) s.length ?_ ?_
  · simp (disch := first | omega | (simp only [lnv]; omega)) only [wlk, ↓get_put', Nat.reduceEqDiff, Nat.reduceLT, ↓reduceIte, Int.reduceToNat, Nat.reducePow, Nat.min_eq_left, Nat.reduceAdd, Nat.reduceMul, Int.reduceAdd, Int.reduceSub, Int.reduceNeg, Int.reduceMul, Int.reduceEq, Int.reduceLT, Int.reduceLE, Nat.reduceSub, Int.reduceNatCast, Nat.reduceLeDiff]
    refine ⟨0, [], [], .l0, by omega, by omega, by simp, by simp, rfl, fun M hM hs => ⟨M, rfl, hM, by rw [hs]; rfl⟩, ?_⟩
    refine ⟨?_, ?_, ?_, ?_, Stay.refl _ _, Buf.nil _ _ _, ?_⟩
    rotate_right
    · rintro i ⟨_, _, _, _, _, e⟩; cases e
    all_goals first | trivial | rfl
  rintro I hI m t g ⟨at0, p, out, u, rfl, ha, hol, hp, hall, hM, f0, f3, f4, f5, st, bf, own⟩
  have hfg := st.fl hf
  have hes : Es g u out := Ss.buf bf rfl entC_len (by omega)
  have fin : ∀ g', Stay nowhere h g' → Es g' u out → (∀ (e : Ent) (more : List UInt8), isE e = true → s.drop at0 = oneB p e ++ more → False) → ∃ L : List Ent, Es g' u L ∧ L.length ≤ s.length ∧ L.all isE = true ∧ (∀ M : List Ent, M.all isE = true → s = bodyB [] M → L = M) ∧ Stay nowhere h g' := fun g' s' es hno => by
    refine ⟨out, es, by omega, hall, fun M hMa hsM => ?_, s'⟩
    obtain ⟨M2, e1, e2, e3⟩ := hM M hMa hsM
    cases M2 with
    | nil => rw [e1]; simp
    | cons e M2 =>
      rw [List.all_cons, Bool.and_eq_true] at e2
      exact (hno e _ e2.1 e3).elim
  by_cases hat : at0 < s.length
  case neg =>
    obtain rfl : at0 = s.length := by omega
    repeat' (first
      | refine St.h ?_
      | simp (disch := first | omega | (simp only [lnv]; omega)) only [wlk, ↓get_put', Nat.reduceEqDiff, Nat.reduceLT, ↓reduceIte, Int.reduceToNat, Nat.reducePow, Nat.min_eq_left, Nat.reduceAdd, Nat.reduceMul, Int.reduceAdd, Int.reduceSub, Int.reduceNeg, Int.reduceMul, Int.reduceEq, Int.reduceLT, Int.reduceLE, Nat.reduceSub, Int.reduceNatCast, Nat.reduceLeDiff, f0, f3, f4, f5]
      | (with_reducible (first | apply cd_split | apply gd_split)) <;> (intro hc; (try simp only [hcn] at hc); (try simp only [hc]); (try simp only [hcl] at hc); try omega))
    subst hQ
    exact fin g st hes fun e more _ h3 => by
      rw [List.drop_length] at h3
      have := one_ne p e
      cases ho : oneB p e with
      | nil => exact this ho
      | cons a b => rw [ho] at h3; cases h3
  have hdl : (s.drop at0).length = s.length - at0 := List.length_drop
  repeat' (first
    | refine St.h ?_
    | simp (disch := first | omega | (simp only [lnv]; omega)) only [wlk, ↓get_put', Nat.reduceEqDiff, Nat.reduceLT, ↓reduceIte, Int.reduceToNat, Nat.reducePow, Nat.min_eq_left, Nat.reduceAdd, Nat.reduceMul, Int.reduceAdd, Int.reduceSub, Int.reduceNeg, Int.reduceMul, Int.reduceEq, Int.reduceLT, Int.reduceLE, Nat.reduceSub, Int.reduceNatCast, Nat.reduceLeDiff, f0, f3, f4, f5, Int.toNat_natCast]
    | (with_reducible (first | apply cd_split | apply gd_split)) <;> (intro hc; (try simp only [hcn] at hc); (try simp only [hc]); (try simp only [hcl] at hc); try omega))
  refine CL.mk (btake_ok (by omega) hp hfg) ?_
  rintro _ g1 ⟨⟨r, rfl, hr⟩, t1⟩
  have hfg1 := t1.fl hfg
  have hes1 := hes.grow t1
  have bf1 := bf.grow t1
  obtain ⟨x, z, f⟩ := r
  have hxx : ([sv x.key, .i .i64 x.seq, .b x.del, sv x.val] : List V) = entC x := rfl
  unfold triE
  rw [← hxx]
  repeat' (first
    | refine St.h ?_
    | simp (disch := first | omega | (simp only [lnv]; omega)) only [wlk, ↓get_put', Nat.reduceEqDiff, Nat.reduceLT, ↓reduceIte, Int.reduceToNat, Nat.reducePow, Nat.min_eq_left, Nat.reduceAdd, Nat.reduceMul, Int.reduceAdd, Int.reduceSub, Int.reduceNeg, Int.reduceMul, Int.reduceEq, Int.reduceLT, Int.reduceLE, Nat.reduceSub, Int.reduceNatCast, Nat.reduceLeDiff, f0, f3, f4, f5]
    | (with_reducible (first | apply cd_split | apply gd_split)) <;> (intro hc; (try simp only [hcn] at hc); (try simp only [hc]); (try simp only [hcl] at hc); try omega))
  refine AL.own (by simp) hfg1 fun g2 t2 n2 o2 => ?_
  have hfg2 := t2.fl hfg1
  have bf2 := bf1.grow t2
  repeat' (first
    | refine St.h ?_
    | simp (disch := first | omega | (simp only [lnv]; omega)) only [wlk, ↓get_put', Nat.reduceEqDiff, Nat.reduceLT, ↓reduceIte, Int.reduceToNat, Nat.reducePow, Nat.min_eq_left, Nat.reduceAdd, Nat.reduceMul, Int.reduceAdd, Int.reduceSub, Int.reduceNeg, Int.reduceMul, Int.reduceEq, Int.reduceLT, Int.reduceLE, Nat.reduceSub, Int.reduceNatCast, Nat.reduceLeDiff, f0, f3, f4, f5]
    | (with_reducible (first | apply cd_split | apply gd_split)) <;> (intro hc; (try simp only [hcn] at hc); (try simp only [hc]); (try simp only [hcl] at hc); try omega))
  refine ST.all o2 rfl rfl (by simp) (by simp) fun g3 o3 t3 => ?_
  have hu3 : ∀ q, isOf u q → q ≠ g1.next := fun q hq e => absurd (bf1.own hq).2 (by rw [e]; exact Nat.lt_irrefl _)
  have bf3 := bf2.stay t3 (fun q hq => hu3 q hq)
  have t13 : Stay nowhere g1 g3 := t2.past' t3 fun q hq => by rw [hq]; exact Nat.le_refl _
  have st3 := (st.trans t1).trans t13
  have hfg3 := st3.fl hf
  have hes3 : Es g3 u out := Ss.buf bf3 rfl entC_len (by omega)
  by_cases e0 : f = 0
  case neg =>
    have hd2 : (f = 0) = False := eq_false e0
    repeat' (first
      | refine St.h ?_
      | simp (disch := first | omega | (simp only [lnv]; omega)) only [wlk, ↓get_put', Nat.reduceEqDiff, Nat.reduceLT, ↓reduceIte, Int.reduceToNat, Nat.reducePow, Nat.min_eq_left, Nat.reduceAdd, Nat.reduceMul, Int.reduceAdd, Int.reduceSub, Int.reduceNeg, Int.reduceMul, Int.reduceEq, Int.reduceLT, Int.reduceLE, Nat.reduceSub, Int.reduceNatCast, Nat.reduceLeDiff, f0, f3, f4, f5, hd2]
      | (with_reducible (first | apply cd_split | apply gd_split)) <;> (intro hc; (try simp only [hcn] at hc); (try simp only [hc]); (try simp only [hcl] at hc); try omega))
    subst hQ
    exact fin g3 st3 hes3 fun e more hi hse => e0 (Prod.mk.inj (Prod.mk.inj (hr.laid e more hi hse)).2).2
  subst e0
  obtain ⟨z, rfl, z1, z2, hix⟩ := hr.fit rfl
  simp only at hix
  obtain ⟨x1, x2, x3, x4⟩ := isE_len hix
  repeat' (first
    | refine St.h ?_
    | simp (disch := first | omega | (simp only [lnv]; omega)) only [wlk, ↓get_put', Nat.reduceEqDiff, Nat.reduceLT, ↓reduceIte, Int.reduceToNat, Nat.reducePow, Nat.min_eq_left, Nat.reduceAdd, Nat.reduceMul, Int.reduceAdd, Int.reduceSub, Int.reduceNeg, Int.reduceMul, Int.reduceEq, Int.reduceLT, Int.reduceLE, Nat.reduceSub, Int.reduceNatCast, Nat.reduceLeDiff, f0, f3, f4, f5, o3.row.ln]
    | (with_reducible (first | apply cd_split | apply gd_split)) <;> (intro hc; (try simp only [hcn] at hc); (try simp only [hc]); (try simp only [hcl] at hc); try omega))
  refine AL.own (by simp) hfg3 fun g4 t4 _ o4 => ?_
  have hfg4 := t4.fl hfg3
  have bf4 := bf3.grow t4
  have o34 := o3.stay t4 fun h => h
  have hfm := fm_len entC_len out
  repeat' (first
    | refine St.h ?_
    | simp (disch := first | omega | (simp only [lnv]; omega)) only [wlk, ↓get_put', Nat.reduceEqDiff, Nat.reduceLT, ↓reduceIte, Int.reduceToNat, Nat.reducePow, Nat.min_eq_left, Nat.reduceAdd, Nat.reduceMul, Int.reduceAdd, Int.reduceSub, Int.reduceNeg, Int.reduceMul, Int.reduceEq, Int.reduceLT, Int.reduceLE, Nat.reduceSub, Int.reduceNatCast, Nat.reduceLeDiff, f0, f3, f4, f5]
    | (with_reducible (first | apply cd_split | apply gd_split)) <;> (intro hc; (try simp only [hcn] at hc); (try simp only [hc]); (try simp only [hcl] at hc); try omega))
  refine AP.buf (vs := entC x) (cnt := 1) bf4 (new_row o4.row rfl (Nat.le_refl _) (by omega) (by show 4 ≤ 4; omega)) hfg4 (by omega) rfl rfl (by rw [hfm, entC_len]; omega) fun u' g5 b5 t5 ho tp => ?_
  have hug : ¬ isOf u g1.next := fun hq => hu3 _ hq rfl
  have o35 := o34.stay t5 hug
  repeat' (first
    | refine St.h ?_
    | simp (disch := first | omega | (simp only [lnv]; omega)) only [wlk, ↓get_put', Nat.reduceEqDiff, Nat.reduceLT, ↓reduceIte, Int.reduceToNat, Nat.reducePow, Nat.min_eq_left, Nat.reduceAdd, Nat.reduceMul, Int.reduceAdd, Int.reduceSub, Int.reduceNeg, Int.reduceMul, Int.reduceEq, Int.reduceLT, Int.reduceLE, Nat.reduceSub, Int.reduceNatCast, Nat.reduceLeDiff, f0, f3, f4, f5, o35.row.l1]
    | (with_reducible (first | apply cd_split | apply gd_split)) <;> (intro hc; (try simp only [hcn] at hc); (try simp only [hc]); (try simp only [hcl] at hc); try omega))
  have s5 : Stay nowhere h g5 := (st3.trans t4).past' t5 fun q hq => own q hq
  refine lp_next hI (s.length - (at0 + z)) (by omega) ⟨at0 + z, x.key, out ++ [x], u', rfl, by omega, by rw [List.length_append]; simp; omega, x1, by rw [List.all_append, hall]; simp [hix], ?_, ?_, ?_, ?_, ?_, s5, ?_, fun q hq => ?_⟩
  · intro M hMa hsM
    obtain ⟨M2, e1, e2, e3⟩ := hM M hMa hsM
    cases M2 with
    | nil =>
      rw [e3] at hdl; simp [bodyB] at hdl; omega
    | cons e M2 =>
      rw [List.all_cons, Bool.and_eq_true] at e2
      have h7 := hr.laid e _ e2.1 e3
      have hx : x = e := (Prod.mk.inj h7).1
      have hz : z = (oneB p e).length := Int.ofNat.inj (Prod.mk.inj (Prod.mk.inj h7).2).1
      refine ⟨M2, by rw [e1, hx]; simp, e2.2, ?_⟩
      rw [← List.drop_drop, e3, hz, hx]
      show (oneB p e ++ bodyB e.key M2).drop _ = _
      rw [List.drop_left]
  · simp (disch := first | omega | (simp only [lnv]; omega)) only [wlk, ↓get_put', Nat.reduceEqDiff, Nat.reduceLT, ↓reduceIte, Int.reduceToNat, Nat.reducePow, Nat.min_eq_left, Nat.reduceAdd, Nat.reduceMul, Int.reduceAdd, Int.reduceSub, Int.reduceNeg, Int.reduceMul, Int.reduceEq, Int.reduceLT, Int.reduceLE, Nat.reduceSub, Int.reduceNatCast, Nat.reduceLeDiff, f0]
  · simp (disch := first | omega | (simp only [lnv]; omega)) only [wlk, ↓get_put', Nat.reduceEqDiff, Nat.reduceLT, ↓reduceIte, Int.reduceToNat, Nat.reducePow, Nat.min_eq_left, Nat.reduceAdd, Nat.reduceMul, Int.reduceAdd, Int.reduceSub, Int.reduceNeg, Int.reduceMul, Int.reduceEq, Int.reduceLT, Int.reduceLE, Nat.reduceSub, Int.reduceNatCast, Nat.reduceLeDiff]
  · simp (disch := first | omega | (simp only [lnv]; omega)) only [wlk, ↓get_put', Nat.reduceEqDiff, Nat.reduceLT, ↓reduceIte, Int.reduceToNat, Nat.reducePow, Nat.min_eq_left, Nat.reduceAdd, Nat.reduceMul, Int.reduceAdd, Int.reduceSub, Int.reduceNeg, Int.reduceMul, Int.reduceEq, Int.reduceLT, Int.reduceLE, Nat.reduceSub, Int.reduceNatCast, Nat.reduceLeDiff]
  · simp (disch := first | omega | (simp only [lnv]; omega)) only [wlk, ↓get_put', Nat.reduceEqDiff, Nat.reduceLT, ↓reduceIte, Int.reduceToNat, Nat.reducePow, Nat.min_eq_left, Nat.reduceAdd, Nat.reduceMul, Int.reduceAdd, Int.reduceSub, Int.reduceNeg, Int.reduceMul, Int.reduceEq, Int.reduceLT, Int.reduceLE, Nat.reduceSub, Int.reduceNatCast, Nat.reduceLeDiff]; all_goals (congr 1; try omega)
  · rw [List.flatMap_append]; simpa using b5
  · rcases ho q hq with h1 | h1
    · exact own q h1
    · have := st3.next; have := t4.next; omega
theorem bread_ok {h : H} {s : List UInt8} (hs : s.length ≤ 10000) (hf : B.val h.floor ≤ B.val h.next) : FnOk Try.prog 41 [sv s] h fun y h' => ∃ v, y = .tu [v, .i .i64 (readB s).2] ∧ Es h' v (readB s).1 ∧ Stay nowhere h h' := by
  refine fn_go c41 (by intro hb; cases hb) (by simp) (by simp) fun Q hQ => ?_
  simp only [slotsF, Nat.reduceAdd]
  repeat' (first
    | refine St.h ?_
    | simp (disch := first | omega | (simp only [lnv]; omega)) only [wlk, ↓get_put', Nat.reduceEqDiff, Nat.reduceLT, ↓reduceIte, Int.reduceToNat, Nat.reducePow, Nat.min_eq_left, Nat.reduceAdd, Nat.reduceMul, Int.reduceAdd, Int.reduceSub, Int.reduceNeg, Int.reduceMul, Int.reduceEq, Int.reduceLT, Int.reduceLE, Nat.reduceSub, Int.reduceNatCast, Nat.reduceLeDiff]
    | (with_reducible (first | apply cd_split | apply gd_split)) <;> (intro hc; (try simp only [hcn] at hc); (try simp only [hc]); (try simp only [hcl] at hc); try omega))
  refine CL.stay (open_ok (by omega) hf) fun h1 s1 => ?_
  have hf1 := s1.fl hf
  rcases openB_range s with hO | hO | ⟨b, n, hO, n1, n2, n3⟩
  · unfold opn; rw [hO]
    repeat' (first
      | refine St.h ?_
      | simp (disch := first | omega | (simp only [lnv]; omega)) only [wlk, ↓get_put', Nat.reduceEqDiff, Nat.reduceLT, ↓reduceIte, Int.reduceToNat, Nat.reducePow, Nat.min_eq_left, Nat.reduceAdd, Nat.reduceMul, Int.reduceAdd, Int.reduceSub, Int.reduceNeg, Int.reduceMul, Int.reduceEq, Int.reduceLT, Int.reduceLE, Nat.reduceSub, Int.reduceNatCast, Nat.reduceLeDiff]
      | (with_reducible (first | apply cd_split | apply gd_split)) <;> (intro hc; (try simp only [hcn] at hc); (try simp only [hc]); (try simp only [hcl] at hc); try omega))
    subst hQ
    exact ⟨_, by rw [readB_1 hO (by omega)], by rw [readB_1 hO (by omega)]; exact Ss.nil, s1⟩
  · unfold opn; rw [hO]
    repeat' (first
      | refine St.h ?_
      | simp (disch := first | omega | (simp only [lnv]; omega)) only [wlk, ↓get_put', Nat.reduceEqDiff, Nat.reduceLT, ↓reduceIte, Int.reduceToNat, Nat.reducePow, Nat.min_eq_left, Nat.reduceAdd, Nat.reduceMul, Int.reduceAdd, Int.reduceSub, Int.reduceNeg, Int.reduceMul, Int.reduceEq, Int.reduceLT, Int.reduceLE, Nat.reduceSub, Int.reduceNatCast, Nat.reduceLeDiff]
      | (with_reducible (first | apply cd_split | apply gd_split)) <;> (intro hc; (try simp only [hcn] at hc); (try simp only [hc]); (try simp only [hcl] at hc); try omega))
    subst hQ
    exact ⟨_, by rw [readB_1 hO (by omega)], by rw [readB_1 hO (by omega)]; exact Ss.nil, s1⟩
  unfold opn; rw [hO]
  by_cases hn : n = s.length
  case neg =>
    have hd : ((n : Int) < (s.length : Int)) = True := eq_true (by omega)
    repeat' (first
      | refine St.h ?_
      | simp (disch := first | omega | (simp only [lnv]; omega)) only [wlk, ↓get_put', Nat.reduceEqDiff, Nat.reduceLT, ↓reduceIte, Int.reduceToNat, Nat.reducePow, Nat.min_eq_left, Nat.reduceAdd, Nat.reduceMul, Int.reduceAdd, Int.reduceSub, Int.reduceNeg, Int.reduceMul, Int.reduceEq, Int.reduceLT, Int.reduceLE, Nat.reduceSub, Int.reduceNatCast, Nat.reduceLeDiff, hd]
      | (with_reducible (first | apply cd_split | apply gd_split)) <;> (intro hc; (try simp only [hcn] at hc); (try simp only [hc]); (try simp only [hcl] at hc); try omega))
    subst hQ
    exact ⟨_, by rw [readB_2 hO hn], by rw [readB_2 hO hn]; exact Ss.nil, s1⟩
  have hd : ((n : Int) < (s.length : Int)) = False := eq_false (by omega)
  repeat' (first
    | refine St.h ?_
    | simp (disch := first | omega | (simp only [lnv]; omega)) only [wlk, ↓get_put', Nat.reduceEqDiff, Nat.reduceLT, ↓reduceIte, Int.reduceToNat, Nat.reducePow, Nat.min_eq_left, Nat.reduceAdd, Nat.reduceMul, Int.reduceAdd, Int.reduceSub, Int.reduceNeg, Int.reduceMul, Int.reduceEq, Int.reduceLT, Int.reduceLE, Nat.reduceSub, Int.reduceNatCast, Nat.reduceLeDiff, hd]
    | (with_reducible (first | apply cd_split | apply gd_split)) <;> (intro hc; (try simp only [hcn] at hc); (try simp only [hc]); (try simp only [hcl] at hc); try omega))
  refine CL.mk (takeAll_ok (by omega) hf1) ?_
  rintro v h2 ⟨L, hL, hl, hall, hM, s2⟩
  have hf2 := s2.fl hf1
  repeat' (first
    | refine St.h ?_
    | simp (disch := first | omega | (simp only [lnv]; omega)) only [wlk, ↓get_put', Nat.reduceEqDiff, Nat.reduceLT, ↓reduceIte, Int.reduceToNat, Nat.reducePow, Nat.min_eq_left, Nat.reduceAdd, Nat.reduceMul, Int.reduceAdd, Int.reduceSub, Int.reduceNeg, Int.reduceMul, Int.reduceEq, Int.reduceLT, Int.reduceLE, Nat.reduceSub, Int.reduceNatCast, Nat.reduceLeDiff]
    | (with_reducible (first | apply cd_split | apply gd_split)) <;> (intro hc; (try simp only [hcn] at hc); (try simp only [hc]); (try simp only [hcl] at hc); try omega))
  refine CL.stay (bmake_ok hL (by omega) hf2) fun h3 s3 => ?_
  have s13 := (s1.trans s2).trans s3
  by_cases e1 : (blkE L).1 = s
  · have hne : L ≠ [] := by intro e; rw [e, blkE_nil] at e1; rw [← e1] at hn; simp at hn; omega
    have hso : sortedE L = true := by
      cases hs : sortedE L with
      | true => rfl
      | false => rw [blkE_un hall hne hs] at e1; rw [← e1] at hn; simp at hn; omega
    have hr : readB s = (L, 0) := by
      rw [blkE_ok hall hne hso] at e1
      rw [← e1]; exact readB_back hall hne hso (by omega)
    repeat' (first
      | refine St.h ?_
      | simp (disch := first | omega | (simp only [lnv]; omega)) only [wlk, ↓get_put', Nat.reduceEqDiff, Nat.reduceLT, ↓reduceIte, Int.reduceToNat, Nat.reducePow, Nat.min_eq_left, Nat.reduceAdd, Nat.reduceMul, Int.reduceAdd, Int.reduceSub, Int.reduceNeg, Int.reduceMul, Int.reduceEq, Int.reduceLT, Int.reduceLE, Nat.reduceSub, Int.reduceNatCast, Nat.reduceLeDiff, e1]
      | (with_reducible (first | apply cd_split | apply gd_split)) <;> (intro hc; (try simp only [hcn] at hc); (try simp only [hc]); (try simp only [hcl] at hc); try omega))
    subst hQ
    exact ⟨_, by rw [hr], by rw [hr]; exact hL.grow s3, s13⟩
  · have hr : readB s = ([], 10) := by
      by_cases h0 : (readB s).2 = 0
      · exfalso
        have hm := readB_made h0
        have h8 : ∀ M : List Ent, blkE M = (s, 0) → M.all isE = true ∧ M ≠ [] ∧ sortedE M = true := fun M hm => by
          cases ha : M.all isE with
          | false => rw [blkE_bad ha] at hm; cases hm
          | true =>
            refine ⟨rfl, fun e => ?_, ?_⟩
            · rw [e, blkE_nil] at hm; cases hm
            · cases hs : sortedE M with
              | true => rfl
              | false =>
                by_cases hne : M = []
                · rw [hne, blkE_nil] at hm; cases hm
                · rw [blkE_un ha hne hs] at hm; cases hm
        obtain ⟨q1, q2, q3⟩ := h8 _ hm
        have hm2 := hm
        rw [blkE_ok q1 q2 q3] at hm2
        have hbl := bodyB_len (p := []) q1
        have hos := openB_seal (l := bodyB [] (readB s).1) (more := []) (by have := readB_len s; omega)
        rw [List.append_nil, (Prod.mk.inj hm2).1, hO] at hos
        have := hM _ q1 (Prod.mk.inj hos).1
        rw [this] at e1
        exact e1 (by rw [hm])
      · have h1 := readB_none h0
        have h2 : (readB s).2 = 10 := by
          unfold readB at h0 ⊢
          rw [hO] at h0 ⊢
          simp only at h0 ⊢
          rw [if_neg (by simp), if_neg (by simp; omega)] at h0 ⊢
          split at h0
          · rfl
          · split at h0
            · exact absurd rfl h0
            · rw [if_neg (by assumption)]
        rw [← h1, ← h2]
    repeat' (first
      | refine St.h ?_
      | simp (disch := first | omega | (simp only [lnv]; omega)) only [wlk, ↓get_put', Nat.reduceEqDiff, Nat.reduceLT, ↓reduceIte, Int.reduceToNat, Nat.reducePow, Nat.min_eq_left, Nat.reduceAdd, Nat.reduceMul, Int.reduceAdd, Int.reduceSub, Int.reduceNeg, Int.reduceMul, Int.reduceEq, Int.reduceLT, Int.reduceLE, Nat.reduceSub, Int.reduceNatCast, Nat.reduceLeDiff, e1]
      | (with_reducible (first | apply cd_split | apply gd_split)) <;> (intro hc; (try simp only [hcn] at hc); (try simp only [hc]); (try simp only [hcl] at hc); try omega))
    subst hQ
    exact ⟨_, by rw [hr], by rw [hr]; exact Ss.nil, s13⟩
end Go.Proofs.Ytjlhfoadabkahaa

set_option maxRecDepth 1000000
set_option linter.all false
namespace Go.Proofs.Ytjlhfoadabkahaa
open Go Go.Ev
noncomputable abbrev s8_0 : CC := (CC.seq (CC.region [(wB 8 (doMove (O.c (V.b Bool.false))))]) CC.ret)
noncomputable abbrev s8_1 : CC := (CC.cond (tm 18) s8_0 CC.skip)
noncomputable abbrev s8_2 : CC := (CC.seq (CC.region [(wB 17 (doCall 37 [])), (wB 18 (doNot (tm 17)))]) s8_1)
noncomputable abbrev s8_3 : CC := (CC.seq (CC.region [(wB 8 (doMove (O.c (V.b Bool.true))))]) CC.ret)
noncomputable abbrev s8_4 : CC := (CC.cond (tm 36) s8_3 CC.skip)
noncomputable abbrev s8_5 : CC := (CC.seq (CC.region [(wB 19 (doMove (tm 0))), (wB 20 (doCall 38 [(tm 19)])), (wB 21 (doNot (tm 20))), (wB 22 (doMove (tm 21))), (wG 22 false 23 (doMove (tm 1))), (wG 22 false 24 (doLenS (tm 23))), (wG 22 false 25 (bin2 fGtr (tm 24) (oN 1000))), (wB 26 (doPick (tm 22) (O.c (V.b Bool.true)) (tm 25))), (wB 27 (doMove (tm 26))), (wG 27 false 28 (doMove (tm 2))), (wG 27 false 29 (doLenS (tm 28))), (wG 27 false 30 (bin2 fGtr (tm 29) (oN 40))), (wB 31 (doPick (tm 27) (O.c (V.b Bool.true)) (tm 30))), (wB 32 (doMove (tm 31))), (wG 32 false 33 (doMove (tm 3))), (wG 32 false 34 (doLenS (tm 33))), (wG 32 false 35 (bin2 fGtr (tm 34) (oN 40))), (wB 36 (doPick (tm 32) (O.c (V.b Bool.true)) (tm 35)))]) s8_4)
noncomputable abbrev s8_6 : CC := (CC.seq (CC.region [(wB 57 (doMove (tm 9))), (wB 58 (doMove (tm 11))), (wB 59 (doSCmp eqS (tm 57) (tm 58))), (wB 60 (doMove (tm 59))), (wG 60 true 61 (doMove (tm 10))), (wG 60 true 62 (doMove (tm 12))), (wG 60 true 63 (bin2 fEql (tm 61) (tm 62))), (wB 64 (doPick (tm 60) (tm 63) (O.c (V.b Bool.false)))), (wB 65 (doMove (tm 64))), (wG 65 true 66 (doMove (tm 13))), (wG 65 true 67 (doMove (tm 15))), (wG 65 true 68 (doCall 43 [(tm 66), (tm 67)])), (wB 69 (doPick (tm 65) (tm 68) (O.c (V.b Bool.false)))), (wB 70 (doMove (tm 69))), (wG 70 true 71 (doMove (tm 14))), (wG 70 true 72 (doMove (tm 16))), (wG 70 true 73 (bin2 fEql (tm 71) (tm 72))), (wB 74 (doPick (tm 70) (tm 73) (O.c (V.b Bool.false)))), (wB 75 (doMove (tm 74))), (wG 75 true 76 (doMove (tm 2))), (wG 75 true 77 (doMove (tm 3))), (wG 75 true 78 (doCall 44 [(tm 76), (tm 77)])), (wG 75 true 79 (doMove (tm 2))), (wG 75 true 80 (doMove (tm 3))), (wG 75 true 81 (doCall 45 [(tm 79), (tm 80)])), (wG 75 true 82 (bin2 fEql (tm 78) (tm 81))), (wB 83 (doPick (tm 75) (tm 82) (O.c (V.b Bool.false)))), (wB 8 (doMove (tm 83)))]) CC.ret)
noncomputable abbrev s8_7 : CC := (CC.seq (CC.region [(wB 53 (doMove (tm 1))), (wB 54 (doCall 42 [(tm 53)])), (wB 52 (doMove (tm 54))), (wB 55 (doExtract 0 (tm 52))), (wB 56 (doExtract 1 (tm 52))), (wB 15 (doMove (tm 55))), (wB 16 (doMove (tm 56)))]) s8_6)
noncomputable abbrev s8_8 : CC := (CC.seq (CC.region [(wB 48 (doMove (tm 1))), (wB 49 (doCall 41 [(tm 48)])), (wB 47 (doMove (tm 49))), (wB 50 (doExtract 0 (tm 47))), (wB 51 (doExtract 1 (tm 47))), (wB 13 (doMove (tm 50))), (wB 14 (doMove (tm 51)))]) s8_7)
noncomputable abbrev s8_9 : CC := (CC.seq (CC.region [(wB 43 (doMove (tm 0))), (wB 44 (doCall 40 [(tm 43)])), (wB 42 (doMove (tm 44))), (wB 45 (doExtract 0 (tm 42))), (wB 46 (doExtract 1 (tm 42))), (wB 11 (doMove (tm 45))), (wB 12 (doMove (tm 46)))]) s8_8)
noncomputable abbrev s8_10 : CC := (CC.seq (CC.region [(wB 38 (doMove (tm 0))), (wB 39 (doCall 39 [(tm 38)])), (wB 37 (doMove (tm 39))), (wB 40 (doExtract 0 (tm 37))), (wB 41 (doExtract 1 (tm 37))), (wB 9 (doMove (tm 40))), (wB 10 (doMove (tm 41)))]) s8_9)
noncomputable abbrev s8_11 : CC := (CC.seq s8_5 s8_10)
noncomputable abbrev s8_12 : CC := (CC.seq s8_2 s8_11)
noncomputable abbrev b8 : CC := (CC.seq (CC.region [(wB 8 (doMove (O.c (V.b Bool.false))))]) s8_12)
noncomputable abbrev s9_0 : CC := (CC.seq (CC.region [(wB 6 (doMove (O.c (V.b Bool.false))))]) CC.ret)
noncomputable abbrev s9_1 : CC := (CC.cond (tm 28) s9_0 CC.skip)
noncomputable abbrev s9_2 : CC := (CC.seq (CC.region [(wB 27 (doCall 37 [])), (wB 28 (doNot (tm 27)))]) s9_1)
noncomputable abbrev s9_3 : CC := (CC.seq (CC.region [(wB 6 (doMove (O.c (V.b Bool.true))))]) CC.ret)
noncomputable abbrev s9_4 : CC := (CC.cond (tm 31) s9_3 CC.skip)
noncomputable abbrev s9_5 : CC := (CC.seq (CC.region [(wB 29 (doMove (tm 0))), (wB 30 (doCall 38 [(tm 29)])), (wB 31 (doNot (tm 30)))]) s9_4)
noncomputable abbrev s9_6 : CC := (CC.seq (CC.region [(wB 39 (doMove (tm 7))), (wB 40 (doSCmp eqS (tm 39) (O.c (V.s 0 0)))), (wB 6 (doMove (tm 40)))]) CC.ret)
noncomputable abbrev s9_7 : CC := (CC.cond (tm 38) s9_6 CC.skip)
noncomputable abbrev s9_8 : CC := (CC.seq (CC.region [(wB 37 (doMove (tm 8))), (wB 38 (bin2 fNeq (tm 37) (oN 0)))]) s9_7)
noncomputable abbrev s9_9 : CC := (CC.seq (CC.region [(wB 6 (doMove (O.c (V.b Bool.false))))]) CC.ret)
noncomputable abbrev s9_10 : CC := (CC.cond (tm 58) s9_9 CC.skip)
noncomputable abbrev s9_11 : CC := (CC.seq (CC.region [(wB 46 (doMove (tm 10))), (wB 47 (bin2 fNeq (tm 46) (oN 0))), (wB 48 (doMove (tm 47))), (wG 48 false 49 (doMove (tm 9))), (wG 48 false 50 (doMove (tm 0))), (wG 48 false 51 (doCall 43 [(tm 49), (tm 50)])), (wG 48 false 52 (doNot (tm 51))), (wB 53 (doPick (tm 48) (O.c (V.b Bool.true)) (tm 52))), (wB 54 (doMove (tm 53))), (wG 54 false 55 (doMove (tm 7))), (wG 54 false 56 (doLenS (tm 55))), (wG 54 false 57 (bin2 fLss (tm 56) (oN 6))), (wB 58 (doPick (tm 54) (O.c (V.b Bool.true)) (tm 57)))]) s9_10)
noncomputable abbrev s9_12 : CC := (CC.seq (CC.region [(wB 123 (doMove (tm 14))), (wB 124 (bin2 fEql (tm 123) (oN 0))), (wB 125 (doMove (tm 2))), (wB 126 (bin2 fEql (tm 125) (O.c (V.i IntKind.u8 (Int.ofNat 0))))), (wB 127 (doBool Bool.false (tm 124) (tm 126))), (wB 128 (doMove (tm 127))), (wG 128 true 129 (doMove (tm 14))), (wG 128 true 130 (bin2 fEql (tm 129) (oN 0))), (wG 128 true 131 (doMove (tm 130))), (wG 131 false 132 (doMove (tm 13))), (wG 131 false 133 (doLen (tm 132))), (wG 131 false 134 (bin2 fEql (tm 133) (oN 0))), (wG 128 true 135 (doPick (tm 131) (O.c (V.b Bool.true)) (tm 134))), (wB 136 (doPick (tm 128) (tm 135) (O.c (V.b Bool.false)))), (wB 137 (doMove (tm 136))), (wG 137 true 138 (doMove (tm 16))), (wG 137 true 139 (bin2 fEql (tm 138) (oN 12))), (wB 140 (doPick (tm 137) (tm 139) (O.c (V.b Bool.false)))), (wB 141 (doMove (tm 140))), (wG 141 true 142 (doMove (tm 15))), (wG 141 true 143 (doLen (tm 142))), (wG 141 true 144 (bin2 fEql (tm 143) (oN 0))), (wB 145 (doPick (tm 141) (tm 144) (O.c (V.b Bool.false)))), (wB 146 (doMove (tm 145))), (wG 146 true 147 (doMove (tm 24))), (wG 146 true 148 (bin2 fNeq (tm 147) (oN 0))), (wG 146 true 149 (doMove (tm 148))), (wG 149 true 150 (doMove (tm 23))), (wG 149 true 151 (doLen (tm 150))), (wG 149 true 152 (bin2 fEql (tm 151) (oN 0))), (wG 146 true 153 (doPick (tm 149) (tm 152) (O.c (V.b Bool.false)))), (wG 146 true 154 (doMove (tm 153))), (wG 154 false 155 (doMove (tm 24))), (wG 154 false 156 (bin2 fEql (tm 155) (oN 0))), (wG 154 false 157 (doMove (tm 156))), (wG 157 true 158 (doMove (tm 26))), (wG 157 true 159 (bin2 fEql (tm 158) (oN 0))), (wG 154 false 160 (doPick (tm 157) (tm 159) (O.c (V.b Bool.false)))), (wG 154 false 161 (doMove (tm 160))), (wG 161 true 162 (doMove (tm 25))), (wG 161 true 163 (doMove (tm 22))), (wG 161 true 164 (doSCmp eqS (tm 162) (tm 163))), (wG 154 false 165 (doPick (tm 161) (tm 164) (O.c (V.b Bool.false)))), (wG 146 true 166 (doPick (tm 154) (O.c (V.b Bool.true)) (tm 165))), (wB 167 (doPick (tm 146) (tm 166) (O.c (V.b Bool.false)))), (wB 6 (doMove (tm 167)))]) CC.ret)
noncomputable abbrev s9_13 : CC := (CC.seq (CC.region [(wB 119 (doMove (tm 23))), (wB 120 (doCall 39 [(tm 119)])), (wB 118 (doMove (tm 120))), (wB 121 (doExtract 0 (tm 118))), (wB 122 (doExtract 1 (tm 118))), (wB 25 (doMove (tm 121))), (wB 26 (doMove (tm 122)))]) s9_12)
noncomputable abbrev s9_14 : CC := (CC.seq (CC.region [(wB 114 (doMove (tm 22))), (wB 115 (doCall 41 [(tm 114)])), (wB 113 (doMove (tm 115))), (wB 116 (doExtract 0 (tm 113))), (wB 117 (doExtract 1 (tm 113))), (wB 23 (doMove (tm 116))), (wB 24 (doMove (tm 117)))]) s9_13)
noncomputable abbrev s9_15 : CC := (CC.seq (CC.region [(wB 110 (doMove (tm 20))), (wB 111 (doB2S (tm 110))), (wB 112 (doCall 47 [(tm 111)])), (wB 22 (doMove (tm 112)))]) s9_14)
noncomputable abbrev s9_16 : CC := (CC.seq (CC.region [(wB 101 (doMove (tm 20))), (wB 102 (doMove (tm 21))), (wB 103 (doMove (tm 20))), (wB 104 (doMove (tm 21))), (wB 105 (doIndexAddr 1 (tm 103) (tm 104))), (wB 106 (doLoad (tm 105))), (wB 107 (doMove (tm 2))), (wB 108 (bin2 fXor (tm 106) (tm 107))), (wB 109 (doIndexAddr 1 (tm 101) (tm 102))), (CO.mk G.none D.none Bool.true (CR.mk (doStore 1 (tm 109) (tm 108))))]) s9_15)
noncomputable abbrev s9_17 : CC := (CC.seq (CC.region [(wB 96 (doMove (tm 1))), (wB 97 (doConv IntKind.i64 (tm 96))), (wB 98 (doMove (tm 20))), (wB 99 (doLen (tm 98))), (wB 100 (doRem (tm 97) (tm 99))), (wB 21 (doMove (tm 100)))]) s9_16)
noncomputable abbrev s9_18 : CC := (CC.seq (CC.region [(wB 94 (doMove (tm 17))), (wB 95 (doS2B 5 (tm 94))), (wB 20 (doMove (tm 95)))]) s9_17)
noncomputable abbrev s9_19 : CC := (CC.seq (CC.region [(wB 89 (doMove (tm 7))), (wB 90 (doCall 46 [(tm 89)])), (wB 88 (doMove (tm 90))), (wB 91 (doExtract 0 (tm 88))), (wB 92 (doExtract 1 (tm 88))), (wB 93 (doExtract 2 (tm 88))), (wB 17 (doMove (tm 91))), (wB 18 (doMove (tm 92))), (wB 19 (doMove (tm 93)))]) s9_18)
noncomputable abbrev s9_20 : CC := (CC.seq (CC.region [(wB 82 (doMove (tm 7))), (wB 83 (doMove (tm 12))), (wB 84 (doSSlice (tm 82) none (some (tm 83)))), (wB 85 (doCall 41 [(tm 84)])), (wB 81 (doMove (tm 85))), (wB 86 (doExtract 0 (tm 81))), (wB 87 (doExtract 1 (tm 81))), (wB 15 (doMove (tm 86))), (wB 16 (doMove (tm 87)))]) s9_19)
noncomputable abbrev s9_21 : CC := (CC.seq (CC.region [(wB 76 (doMove (tm 11))), (wB 77 (doB2S (tm 76))), (wB 78 (doCall 41 [(tm 77)])), (wB 75 (doMove (tm 78))), (wB 79 (doExtract 0 (tm 75))), (wB 80 (doExtract 1 (tm 75))), (wB 13 (doMove (tm 79))), (wB 14 (doMove (tm 80)))]) s9_20)
noncomputable abbrev s9_22 : CC := (CC.seq (CC.region [(wB 66 (doMove (tm 11))), (wB 67 (doMove (tm 12))), (wB 68 (doMove (tm 11))), (wB 69 (doMove (tm 12))), (wB 70 (doIndexAddr 1 (tm 68) (tm 69))), (wB 71 (doLoad (tm 70))), (wB 72 (doMove (tm 2))), (wB 73 (bin2 fXor (tm 71) (tm 72))), (wB 74 (doIndexAddr 1 (tm 66) (tm 67))), (CO.mk G.none D.none Bool.true (CR.mk (doStore 1 (tm 74) (tm 73))))]) s9_21)
noncomputable abbrev s9_23 : CC := (CC.seq (CC.region [(wB 61 (doMove (tm 1))), (wB 62 (doConv IntKind.i64 (tm 61))), (wB 63 (doMove (tm 11))), (wB 64 (doLen (tm 63))), (wB 65 (doRem (tm 62) (tm 64))), (wB 12 (doMove (tm 65)))]) s9_22)
noncomputable abbrev s9_24 : CC := (CC.seq (CC.region [(wB 59 (doMove (tm 7))), (wB 60 (doS2B 5 (tm 59))), (wB 11 (doMove (tm 60)))]) s9_23)
noncomputable abbrev s9_25 : CC := (CC.seq s9_11 s9_24)
noncomputable abbrev s9_26 : CC := (CC.seq (CC.region [(wB 42 (doMove (tm 7))), (wB 43 (doCall 41 [(tm 42)])), (wB 41 (doMove (tm 43))), (wB 44 (doExtract 0 (tm 41))), (wB 45 (doExtract 1 (tm 41))), (wB 9 (doMove (tm 44))), (wB 10 (doMove (tm 45)))]) s9_25)
noncomputable abbrev s9_27 : CC := (CC.seq s9_8 s9_26)
noncomputable abbrev s9_28 : CC := (CC.seq (CC.region [(wB 33 (doMove (tm 0))), (wB 34 (doCall 39 [(tm 33)])), (wB 32 (doMove (tm 34))), (wB 35 (doExtract 0 (tm 32))), (wB 36 (doExtract 1 (tm 32))), (wB 7 (doMove (tm 35))), (wB 8 (doMove (tm 36)))]) s9_27)
noncomputable abbrev s9_29 : CC := (CC.seq s9_5 s9_28)
noncomputable abbrev s9_30 : CC := (CC.seq s9_2 s9_29)
noncomputable abbrev b9 : CC := (CC.seq (CC.region [(wB 6 (doMove (O.c (V.b Bool.false))))]) s9_30)
noncomputable abbrev s10_0 : CC := (CC.seq (CC.region [(wB 4 (doMove (O.c (V.b Bool.false))))]) CC.ret)
noncomputable abbrev s10_1 : CC := (CC.cond (tm 7) s10_0 CC.skip)
noncomputable abbrev s10_2 : CC := (CC.seq (CC.region [(wB 6 (doCall 37 [])), (wB 7 (doNot (tm 6)))]) s10_1)
noncomputable abbrev s10_3 : CC := (CC.seq (CC.region [(wB 4 (doMove (O.c (V.b Bool.true))))]) CC.ret)
noncomputable abbrev s10_4 : CC := (CC.cond (tm 15) s10_3 CC.skip)
noncomputable abbrev s10_5 : CC := (CC.seq (CC.region [(wB 8 (doMove (tm 0))), (wB 9 (doLenS (tm 8))), (wB 10 (bin2 fGtr (tm 9) (oN 60))), (wB 11 (doMove (tm 10))), (wG 11 false 12 (doMove (tm 1))), (wG 11 false 13 (doLenS (tm 12))), (wG 11 false 14 (bin2 fGtr (tm 13) (oN 60))), (wB 15 (doPick (tm 11) (O.c (V.b Bool.true)) (tm 14)))]) s10_4)
noncomputable abbrev s10_6 : CC := (CC.seq (CC.draws [(uB 19 (doMove (tm 5))), (uB 20 (doMove (tm 1))), (uB 21 (doMove (tm 0))), (wB 22 (doCall 44 [(tm 20), (tm 21)])), (uB 23 (bin2 fEql (tm 19) (tm 22))), (uB 24 (doMove (tm 23))), (uG 24 true 25 (doMove (tm 5))), (uG 24 true 26 (bin2 fGeq (tm 25) (oN 0))), (uB 27 (doPick (tm 24) (tm 26) (O.c (V.b Bool.false)))), (uB 28 (doMove (tm 27))), (uG 28 true 29 (doMove (tm 5))), (uG 28 true 30 (doMove (tm 0))), (uG 28 true 31 (doLenS (tm 30))), (uG 28 true 32 (bin2 fLeq (tm 29) (tm 31))), (uB 33 (doPick (tm 28) (tm 32) (O.c (V.b Bool.false)))), (uB 34 (doMove (tm 33))), (uG 34 true 35 (doMove (tm 5))), (uG 34 true 36 (doMove (tm 1))), (uG 34 true 37 (doLenS (tm 36))), (uG 34 true 38 (bin2 fLeq (tm 35) (tm 37))), (uB 39 (doPick (tm 34) (tm 38) (O.c (V.b Bool.false)))), (uB 40 (doMove (tm 39))), (uG 40 true 41 (doMove (tm 0))), (uG 40 true 42 (doMove (tm 5))), (uG 40 true 43 (doSSlice (tm 41) none (some (tm 42)))), (uG 40 true 44 (doMove (tm 1))), (uG 40 true 45 (doMove (tm 5))), (uG 40 true 46 (doSSlice (tm 44) none (some (tm 45)))), (uG 40 true 47 (doSCmp eqS (tm 43) (tm 46))), (uB 48 (doPick (tm 40) (tm 47) (O.c (V.b Bool.false)))), (uB 49 (doMove (tm 48))), (uG 49 true 50 (doMove (tm 5))), (uG 49 true 51 (doMove (tm 0))), (uG 49 true 52 (doLenS (tm 51))), (uG 49 true 53 (bin2 fEql (tm 50) (tm 52))), (uG 49 true 54 (doMove (tm 53))), (uG 54 false 55 (doMove (tm 5))), (uG 54 false 56 (doMove (tm 1))), (uG 54 false 57 (doLenS (tm 56))), (uG 54 false 58 (bin2 fEql (tm 55) (tm 57))), (uG 49 true 59 (doPick (tm 54) (O.c (V.b Bool.true)) (tm 58))), (uG 49 true 60 (doMove (tm 59))), (uG 60 false 61 (doMove (tm 0))), (uG 60 false 62 (doMove (tm 5))), (uG 60 false 63 (doSIndex (tm 61) (tm 62))), (uG 60 false 64 (doMove (tm 1))), (uG 60 false 65 (doMove (tm 5))), (uG 60 false 66 (doSIndex (tm 64) (tm 65))), (uG 60 false 67 (bin2 fNeq (tm 63) (tm 66))), (uG 49 true 68 (doPick (tm 60) (O.c (V.b Bool.true)) (tm 67))), (uB 69 (doPick (tm 49) (tm 68) (O.c (V.b Bool.false)))), (uB 70 (doMove (tm 69))), (uG 70 true 71 (doMove (tm 0))), (uG 70 true 72 (doMove (tm 0))), (wG 70 true 73 (doCall 44 [(tm 71), (tm 72)])), (uG 70 true 74 (doMove (tm 0))), (uG 70 true 75 (doLenS (tm 74))), (uG 70 true 76 (bin2 fEql (tm 73) (tm 75))), (uB 77 (doPick (tm 70) (tm 76) (O.c (V.b Bool.false)))), (uB 4 (doMove (tm 77)))]) CC.ret)
noncomputable abbrev s10_7 : CC := (CC.seq (CC.region [(wB 16 (doMove (tm 0))), (wB 17 (doMove (tm 1))), (wB 18 (doCall 44 [(tm 16), (tm 17)])), (wB 5 (doMove (tm 18)))]) s10_6)
noncomputable abbrev s10_8 : CC := (CC.seq s10_5 s10_7)
noncomputable abbrev s10_9 : CC := (CC.seq s10_2 s10_8)
noncomputable abbrev b10 : CC := (CC.seq (CC.region [(wB 4 (doMove (O.c (V.b Bool.false))))]) s10_9)
noncomputable abbrev s11_0 : CC := (CC.seq (CC.region [(wB 4 (doMove (O.c (V.b Bool.false))))]) CC.ret)
noncomputable abbrev s11_1 : CC := (CC.cond (tm 21) s11_0 CC.skip)
noncomputable abbrev s11_2 : CC := (CC.seq (CC.region [(wB 20 (doCall 37 [])), (wB 21 (doNot (tm 20)))]) s11_1)
noncomputable abbrev s11_3 : CC := (CC.cond (tm 32) CC.skip (CC.exit 0))
noncomputable abbrev s11_4 : CC := (CC.seq (CC.region [(wB 30 (doMove (tm 9))), (wB 31 (doMove (tm 5))), (wB 32 (bin2 fLss (tm 30) (tm 31)))]) s11_3)
noncomputable abbrev s11_5 : CC := (CC.cond (tm 43) CC.skip (CC.exit 2))
noncomputable abbrev s11_6 : CC := (CC.seq (CC.region [(wB 41 (doMove (tm 13))), (wB 42 (doMove (tm 6))), (wB 43 (bin2 fLss (tm 41) (tm 42)))]) s11_5)
noncomputable abbrev s11_7 : CC := (CC.region [(wB 46 (doMove (tm 11))), (wB 47 (doConcat (tm 46) (O.c (V.s 1 104)))), (wB 48 (doMove (tm 12))), (wB 49 (doConcat (tm 48) (O.c (V.s 1 104)))), (wB 11 (doMove (tm 47))), (wB 12 (doMove (tm 49)))])
noncomputable abbrev s11_8 : CC := (CC.block 3 s11_7)
noncomputable abbrev s11_9 : CC := (CC.region [(wB 44 (doMove (tm 13))), (wB 45 (bin2 fAdd (tm 44) (oN 1))), (wB 13 (doMove (tm 45)))])
noncomputable abbrev s11_10 : CC := (CC.seq s11_8 s11_9)
noncomputable abbrev l11_0 : CC := (CC.seq s11_6 s11_10)
noncomputable abbrev s11_11 : CC := (CC.loop l11_0)
noncomputable abbrev s11_12 : CC := (CC.block 2 s11_11)
noncomputable abbrev s11_13 : CC := (CC.seq (CC.region [(wB 13 (doMove (oN 0)))]) s11_12)
noncomputable abbrev s11_14 : CC := (CC.region [(wB 57 (doMove (tm 8))), (wB 58 (doMove (tm 12))), (wB 59 (doBuild [(V.s 0 0), (V.i IntKind.i64 (Int.ofNat 0)), (V.b Bool.false), (V.s 0 0)] [(Pt.mk 0 1 (tm 58)), (Pt.mk 1 1 (oN 1)), (Pt.mk 3 1 (O.c (V.s 1 118)))])), (wB 60 (doBuildSlice 70 1 [(V.s 0 0), (V.i IntKind.i64 (Int.ofNat 0)), (V.b Bool.false), (V.s 0 0)] [(Pt.mk 0 4 (tm 59))])), (wB 61 (doAppend 70 4 (tm 57) (tm 60))), (wB 8 (doMove (tm 61)))])
noncomputable abbrev s11_15 : CC := (CC.seq (CC.region [(wB 50 (doMove (tm 7))), (wB 51 (doMove (tm 11))), (wB 52 (doMove (tm 10))), (wB 53 (doConcat (tm 51) (tm 52))), (wB 54 (doBuild [(V.s 0 0), (V.i IntKind.i64 (Int.ofNat 0)), (V.b Bool.false), (V.s 0 0)] [(Pt.mk 0 1 (tm 53)), (Pt.mk 1 1 (oN 1)), (Pt.mk 3 1 (O.c (V.s 1 118)))])), (wB 55 (doBuildSlice 70 1 [(V.s 0 0), (V.i IntKind.i64 (Int.ofNat 0)), (V.b Bool.false), (V.s 0 0)] [(Pt.mk 0 4 (tm 54))])), (wB 56 (doAppend 70 4 (tm 50) (tm 55))), (wB 7 (doMove (tm 56)))]) s11_14)
noncomputable abbrev s11_16 : CC := (CC.seq s11_13 s11_15)
noncomputable abbrev s11_17 : CC := (CC.seq (CC.region [(wB 40 (doMove (tm 10))), (wB 11 (doMove (O.c (V.s 0 0)))), (wB 12 (doMove (tm 40)))]) s11_16)
noncomputable abbrev s11_18 : CC := (CC.seq (CC.region [(wB 35 (doMove (tm 9))), (wB 36 (bin2 fAdd (oN 97) (tm 35))), (wB 37 (doConv IntKind.u8 (tm 36))), (wB 38 (doBuildSlice 5 1 [(V.i IntKind.u8 (Int.ofNat 0))] [(Pt.mk 0 1 (tm 37))])), (wB 39 (doB2S (tm 38))), (wB 10 (doMove (tm 39)))]) s11_17)
noncomputable abbrev s11_19 : CC := (CC.block 1 s11_18)
noncomputable abbrev s11_20 : CC := (CC.region [(wB 33 (doMove (tm 9))), (wB 34 (bin2 fAdd (tm 33) (oN 1))), (wB 9 (doMove (tm 34)))])
noncomputable abbrev s11_21 : CC := (CC.seq s11_19 s11_20)
noncomputable abbrev l11_1 : CC := (CC.seq s11_4 s11_21)
noncomputable abbrev s11_22 : CC := (CC.loop l11_1)
noncomputable abbrev s11_23 : CC := (CC.block 0 s11_22)
noncomputable abbrev s11_24 : CC := (CC.seq (CC.region [(wB 9 (doMove (oN 0)))]) s11_23)
noncomputable abbrev s11_25 : CC := (CC.seq (CC.region [(wB 77 (doMove (tm 15))), (wB 78 (bin2 fEql (tm 77) (oN 0))), (wB 79 (doMove (tm 78))), (wG 79 true 80 (doMove (tm 17))), (wG 79 true 81 (bin2 fEql (tm 80) (oN 0))), (wB 82 (doPick (tm 79) (tm 81) (O.c (V.b Bool.false)))), (wB 83 (doMove (tm 82))), (wG 83 true 84 (doMove (tm 19))), (wG 83 true 85 (bin2 fEql (tm 84) (oN 0))), (wB 86 (doPick (tm 83) (tm 85) (O.c (V.b Bool.false)))), (wB 87 (doMove (tm 86))), (wG 87 true 88 (doMove (tm 18))), (wG 87 true 89 (doMove (tm 7))), (wG 87 true 90 (doCall 43 [(tm 88), (tm 89)])), (wB 91 (doPick (tm 87) (tm 90) (O.c (V.b Bool.false)))), (wB 92 (doMove (tm 91))), (wG 92 true 93 (doMove (tm 16))), (wG 92 true 94 (doLenS (tm 93))), (wG 92 true 95 (doMove (tm 14))), (wG 92 true 96 (doLenS (tm 95))), (wG 92 true 97 (bin2 fSub (tm 94) (tm 96))), (wG 92 true 98 (doMove (tm 5))), (wG 92 true 99 (bin2 fSub (tm 98) (oN 1))), (wG 92 true 100 (doMove (tm 6))), (wG 92 true 101 (bin2 fSub (tm 100) (oN 1))), (wG 92 true 102 (bin2 fMul (tm 99) (tm 101))), (wG 92 true 103 (bin2 fGeq (tm 97) (tm 102))), (wB 104 (doPick (tm 92) (tm 103) (O.c (V.b Bool.false)))), (wB 4 (doMove (tm 104)))]) CC.ret)
noncomputable abbrev s11_26 : CC := (CC.seq (CC.region [(wB 73 (doMove (tm 14))), (wB 74 (doCall 41 [(tm 73)])), (wB 72 (doMove (tm 74))), (wB 75 (doExtract 0 (tm 72))), (wB 76 (doExtract 1 (tm 72))), (wB 18 (doMove (tm 75))), (wB 19 (doMove (tm 76)))]) s11_25)
noncomputable abbrev s11_27 : CC := (CC.seq (CC.region [(wB 68 (doMove (tm 8))), (wB 69 (doCall 39 [(tm 68)])), (wB 67 (doMove (tm 69))), (wB 70 (doExtract 0 (tm 67))), (wB 71 (doExtract 1 (tm 67))), (wB 16 (doMove (tm 70))), (wB 17 (doMove (tm 71)))]) s11_26)
noncomputable abbrev s11_28 : CC := (CC.seq (CC.region [(wB 63 (doMove (tm 7))), (wB 64 (doCall 39 [(tm 63)])), (wB 62 (doMove (tm 64))), (wB 65 (doExtract 0 (tm 62))), (wB 66 (doExtract 1 (tm 62))), (wB 14 (doMove (tm 65))), (wB 15 (doMove (tm 66)))]) s11_27)
noncomputable abbrev s11_29 : CC := (CC.seq s11_24 s11_28)
noncomputable abbrev s11_30 : CC := (CC.seq (CC.region [(wB 7 (doMove (O.c V.l0))), (wB 8 (doMove (O.c V.l0)))]) s11_29)
noncomputable abbrev s11_31 : CC := (CC.seq (CC.region [(wB 22 (doMove (tm 0))), (wB 23 (doRem (tm 22) (O.c (V.i IntKind.u8 (Int.ofNat 20))))), (wB 24 (doConv IntKind.i64 (tm 23))), (wB 25 (bin2 fAdd (tm 24) (oN 2))), (wB 26 (doMove (tm 1))), (wB 27 (doRem (tm 26) (O.c (V.i IntKind.u8 (Int.ofNat 9))))), (wB 28 (doConv IntKind.i64 (tm 27))), (wB 29 (bin2 fAdd (tm 28) (oN 1))), (wB 5 (doMove (tm 25))), (wB 6 (doMove (tm 29)))]) s11_30)
noncomputable abbrev s11_32 : CC := (CC.seq s11_2 s11_31)
noncomputable abbrev b11 : CC := (CC.seq (CC.region [(wB 4 (doMove (O.c (V.b Bool.false))))]) s11_32)
theorem c11 : compFn Try.prog 11 = ⟨105, b11, [(Rs.tmp (slOf 4))]⟩ := by kernel_rfl
end Go.Proofs.Ytjlhfoadabkahaa

set_option maxRecDepth 1000000
namespace Go.Proofs.Ytjlhfoadabkahaa.ravelinlaw8
open Go.Ev
theorem known_run : runFn noTb Try.prog 1000 37 [] = true := by kernel_rfl
theorem known_pure : PureTrue Try.prog 37 := pure_of (noTb_ok _) (Checked.mixed Try.checked) known_run
end Go.Proofs.Ytjlhfoadabkahaa.ravelinlaw8

set_option maxRecDepth 100000
set_option maxHeartbeats 8000000
set_option linter.all false
namespace Go.Proofs.Ytjlhfoadabkahaa
open Go Go.Ev
theorem known8 {h : H} : FnOk Try.prog 37 [] h fun y h' => y = .b true ∧ h' = h := FnOk.of_pure ravelinlaw8.known_pure h
end Go.Proofs.Ytjlhfoadabkahaa
