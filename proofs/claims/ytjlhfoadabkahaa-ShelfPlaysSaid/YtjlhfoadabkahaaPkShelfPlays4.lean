/- Texts of ours, without what this claim does not use: RfM JrShA NShA Wq NShF NShB NShC NShD NShE NShG ShM NShM NShN NShO NShP NShQ JrRf NRf1. No condition. -/
import Derived.Test.YtjlhfoadabkahaaPkShelfPlays3
import Derived.Test.YtjlhfoadabkahaaProg
import Derived.KernelRfl
set_option linter.all false
namespace Go.Ev
open Go
abbrev Fi := List UInt8 × List UInt8
instance : Inhabited Fi := ⟨([], [])⟩
def fC (a : Fi) : List V := [sv a.1, sv a.2]
theorem fC_len (a : Fi) : (fC a).length = 2 := rfl
def lookR (L : List Fi) (k : List UInt8) : Option (List UInt8) := match L with
 | [] => none
 | a :: r => if a.1 = k then some a.2 else lookR r k
def findR (L : List Fi) (k : List UInt8) : Int := match L with
 | [] => -1
 | a :: r => if a.1 = k then 0 else match lookR r k with
   | none => -1
   | some _ => findR r k + 1
theorem lookR_c (a : Fi) (r : List Fi) (k : List UInt8) : lookR (a :: r) k = if a.1 = k then some a.2 else lookR r k := rfl
theorem findR_c (a : Fi) (r : List Fi) (k : List UInt8) : findR (a :: r) k = if a.1 = k then 0 else match lookR r k with
   | none => -1
   | some _ => findR r k + 1 := rfl
theorem find_look {L : List Fi} {k : List UInt8} : (findR L k = -1 ∧ lookR L k = none) ∨ ∃ i : Nat, findR L k = i ∧ i < L.length ∧ (L.getD i default).1 = k ∧ lookR L k = some (L.getD i default).2 := by
 induction L with
 | nil => exact .inl ⟨rfl, rfl⟩
 | cons a r ih =>
   rw [findR_c, lookR_c]
   by_cases e : a.1 = k
   · rw [if_pos e, if_pos e]
     exact .inr ⟨0, rfl, by simp, e, rfl⟩
   · rw [if_neg e, if_neg e]
     rcases ih with ⟨h1, h2⟩ | ⟨i, h1, h2, h3, h4⟩
     · exact .inl ⟨by rw [h2], h2⟩
     · exact .inr ⟨i + 1, by rw [h4, h1]; rfl, by simp; omega, by simpa using h3, by rw [h4]; simp⟩
theorem find_at {L : List Fi} {k : List UInt8} {i : Nat} (hi : i < L.length) (hn : ∀ j, j < i → (L.getD j default).1 ≠ k) (he : (L.getD i default).1 = k) : findR L k = i := by
 induction L generalizing i with
 | nil => simp at hi
 | cons a r ih =>
   rw [findR_c]
   cases i with
   | zero => rw [if_pos (by simpa using he)]; rfl
   | succ i =>
     have h0 := hn 0 (by omega)
     rw [if_neg (by simpa using h0)]
     have := ih (i := i) (by simpa using hi) (fun j hj => by have := hn (j + 1) (by omega); simpa using this) (by simpa using he)
     rcases find_look (L := r) (k := k) with ⟨h1, h2⟩ | ⟨j, h1, h2, h3, h4⟩
     · rw [h1] at this; omega
     · rw [h4, this]; rfl
theorem find_none {L : List Fi} {k : List UInt8} (hn : ∀ j, j < L.length → (L.getD j default).1 ≠ k) : findR L k = -1 := by
 rcases find_look (L := L) (k := k) with ⟨h1, h2⟩ | ⟨j, h1, h2, h3, h4⟩
 · exact h1
 · exact absurd h3 (hn j h2)
def wioR (L : List Fi) (k : List UInt8) : List Fi := L.filter fun a => !decide (a.1 = k)
theorem wio_snoc {L : List Fi} {k : List UInt8} {i : Nat} (hi : i < L.length) : wioR (L.take (i + 1)) k = wioR (L.take i) k ++ if (L.getD i default).1 = k then [] else [L.getD i default] := by
 unfold wioR
 rw [List.take_succ_eq_append_getElem hi, List.filter_append]
 congr 1
 have : L.getD i default = L[i] := by simp [List.getD, hi]
 rw [this]
 by_cases e : L[i].1 = k <;> simp [List.filter, e]
def insR (L : List Fi) (f : Fi) : List Fi := match L with
 | [] => [f]
 | a :: r => if Op.bytesLess f.1 a.1 = true then f :: a :: r else a :: insR r f
theorem insR_c (a : Fi) (r : List Fi) (f : Fi) : insR (a :: r) f = if Op.bytesLess f.1 a.1 = true then f :: a :: r else a :: insR r f := rfl
def withR (L : List Fi) (f : Fi) : List Fi := insR (wioR L f.1) f
def insG (L : List Fi) (f : Fi) (i : Nat) : Bool := (L.take i).any fun a => Op.bytesLess f.1 a.1
def insP (L : List Fi) (f : Fi) (i : Nat) : List Fi := if insG L f i then insR (L.take i) f else L.take i
theorem ins_app {A B : List Fi} {f : Fi} (h : (A.any fun a => Op.bytesLess f.1 a.1) = true) : insR (A ++ B) f = insR A f ++ B := by
 induction A with
 | nil => cases h
 | cons a r ih =>
   show insR (a :: (r ++ B)) f = _
   rw [insR_c, insR_c]
   by_cases e : Op.bytesLess f.1 a.1 = true
   · rw [if_pos e, if_pos e]; rfl
   · rw [if_neg e, if_neg e, ih (by rw [List.any_cons, Bool.eq_false_iff.2 e, Bool.false_or] at h; exact h)]; rfl
theorem ins_end {A : List Fi} {f : Fi} (h : (A.any fun a => Op.bytesLess f.1 a.1) = false) : ∀ B, insR (A ++ B) f = A ++ insR B f := by
 induction A with
 | nil => intro B; rfl
 | cons a r ih =>
   intro B
   rw [List.any_cons, Bool.or_eq_false_iff] at h
   show insR (a :: (r ++ B)) f = _
   have e : ¬ Op.bytesLess f.1 a.1 = true := by rw [h.1]; decide
   rw [insR_c, if_neg e, ih h.2]; rfl
theorem insG_succ {L : List Fi} {f : Fi} {i : Nat} (hi : i < L.length) : insG L f (i + 1) = (insG L f i || Op.bytesLess f.1 (L.getD i default).1) := by
 unfold insG
 rw [List.take_succ_eq_append_getElem hi, List.any_append]
 simp [List.getD, hi]
theorem insP_succ {L : List Fi} {f : Fi} {i : Nat} (hi : i < L.length) : insP L f (i + 1) = (if insG L f i = false ∧ Op.bytesLess f.1 (L.getD i default).1 = true then insP L f i ++ [f] else insP L f i) ++ [L.getD i default] := by
 have hg : L.getD i default = L[i] := by simp [List.getD, hi]
 have ht : L.take (i + 1) = L.take i ++ [L[i]] := List.take_succ_eq_append_getElem hi
 unfold insP
 rw [insG_succ hi, ht, hg]
 cases h : insG L f i with
 | true =>
   rw [Bool.true_or, if_pos rfl, if_pos rfl, if_neg (by simp)]
   exact ins_app h
 | false =>
   rw [Bool.false_or]
   by_cases e : Op.bytesLess f.1 L[i].1 = true
   · rw [if_pos e, if_pos ⟨rfl, e⟩, if_neg (by simp), ins_end h, insR_c, if_pos e]
     simp
   · rw [if_neg e, if_neg (fun h => e h.2), if_neg (by simp)]
theorem insP_end {L : List Fi} {f : Fi} : insR L f = if insG L f L.length then insP L f L.length else insP L f L.length ++ [f] := by
 have hg : insG L f L.length = L.any fun a => Op.bytesLess f.1 a.1 := by unfold insG; rw [List.take_length]
 unfold insP
 rw [List.take_length]
 cases h : insG L f L.length with
 | true => simp
 | false =>
   rw [hg] at h
   have := ins_end h []
   rw [List.append_nil] at this
   simp [this, insR]
def usedR (L : List Fi) : Nat := (L.map fun a => a.2.length).sum
theorem usedR_take {L : List Fi} {i : Nat} (hi : i < L.length) : usedR (L.take (i + 1)) = usedR (L.take i) + (L.getD i default).2.length := by
 unfold usedR
 rw [List.take_succ_eq_append_getElem hi, List.map_append, List.sum_append_nat]
 have : L.getD i default = L[i] := by simp [List.getD, hi]
 rw [this]
 simp
theorem usedR_le (L : List Fi) (i : Nat) : usedR (L.take i) ≤ usedR L := by
 have e : usedR L = usedR (L.take i) + usedR (L.drop i) := by
   unfold usedR
   rw [← List.sum_append_nat, ← List.map_append, List.take_append_drop]
 omega
structure DA where
 kind : Int
 name : List UInt8
 b : List UInt8
instance : Inhabited DA := ⟨⟨0, [], []⟩⟩
def dC (a : DA) : List V := [.i .i64 a.kind, sv a.name, sv a.b]
theorem dC_len (a : DA) : (dC a).length = 3 := rfl
def doneR (L : List Fi) (a : DA) : List Fi :=
 if a.kind = 1 then withR L (a.name, a.b)
 else if a.kind = 2 then withR L (a.name, (lookR L a.name).getD [] ++ a.b)
 else if a.kind = 3 then (if a.name = a.b then L else withR (wioR L a.name) (a.b, (lookR L a.name).getD []))
 else wioR L a.name
def mayR (L : List Fi) (a : DA) : Prop := (a.kind = 2 ∨ (a.kind = 3 ∧ a.name ≠ a.b)) → ∃ b0, lookR L a.name = some b0 ∧ (a.kind = 2 → b0.length + a.b.length ≤ 1048576)
end Go.Ev

set_option maxRecDepth 1000000
set_option linter.all false
namespace Go.Proofs.Ytjlhfoadabkahaa
open Go Go.Ev
noncomputable abbrev s14_0 : CC := (CC.seq (CC.region [(wB 3 (doMove (tm 0))), (wB 4 (doCall 49 [(tm 3), (oN 1000000)])), (wB 5 (doBuild [(V.i IntKind.i64 (Int.ofNat 0)), V.m0, V.l0] [(Pt.mk 0 1 (tm 4))])), (wB 6 (doBox 76 (tm 5))), (wB 2 (doMove (tm 6)))]) CC.ret)
noncomputable abbrev b14 : CC := (CC.seq (CC.region [(wB 2 (doMove (O.c V.p0)))]) s14_0)
theorem c14 : compFn Try.prog 14 = ⟨7, b14, [(Rs.tmp (slOf 2))]⟩ := by kernel_rfl
noncomputable abbrev s49_0 : CC := (CC.seq (CC.region [(wB 5 (doMove (tm 0))), (wB 6 (doMove (tm 1))), (wB 7 (doMin (tm 5) (tm 6))), (wB 8 (doMax (oN 0) (tm 7))), (wB 4 (doMove (tm 8)))]) CC.ret)
noncomputable abbrev b49 : CC := (CC.seq (CC.region [(wB 4 (doMove (oN 0)))]) s49_0)
theorem c49 : compFn Try.prog 49 = ⟨9, b49, [(Rs.tmp (slOf 4))]⟩ := by kernel_rfl
noncomputable abbrev s50_0 : CC := (CC.seq (CC.region [(wB 2 (doMove (O.c (V.b Bool.false))))]) CC.ret)
noncomputable abbrev s50_1 : CC := (CC.cond (tm 12) s50_0 CC.skip)
noncomputable abbrev s50_2 : CC := (CC.seq (CC.region [(wB 5 (doMove (tm 0))), (wB 6 (doLenS (tm 5))), (wB 7 (bin2 fLss (tm 6) (oN 1))), (wB 8 (doMove (tm 7))), (wG 8 false 9 (doMove (tm 0))), (wG 8 false 10 (doLenS (tm 9))), (wG 8 false 11 (bin2 fGtr (tm 10) (oN 16))), (wB 12 (doPick (tm 8) (O.c (V.b Bool.true)) (tm 11)))]) s50_1)
noncomputable abbrev s50_3 : CC := (CC.cond (tm 16) CC.skip (CC.exit 0))
noncomputable abbrev s50_4 : CC := (CC.region [(wB 34 (doMove (tm 4))), (wB 35 (bin2 fEql (tm 34) (O.c (V.i IntKind.u8 (Int.ofNat 45))))), (wB 21 (doMove (tm 35)))])
noncomputable abbrev s50_5 : CC := (CC.cond (tm 21) CC.skip s50_4)
noncomputable abbrev s50_6 : CC := (CC.seq (CC.region [(wB 28 (doMove (tm 4))), (wB 29 (bin2 fLeq (O.c (V.i IntKind.u8 (Int.ofNat 48))) (tm 28))), (wB 30 (doMove (tm 29))), (wG 30 true 31 (doMove (tm 4))), (wG 30 true 32 (bin2 fLeq (tm 31) (O.c (V.i IntKind.u8 (Int.ofNat 57))))), (wB 33 (doPick (tm 30) (tm 32) (O.c (V.b Bool.false)))), (wB 21 (doMove (tm 33)))]) s50_5)
noncomputable abbrev s50_7 : CC := (CC.cond (tm 21) CC.skip s50_6)
noncomputable abbrev s50_8 : CC := (CC.seq (CC.region [(wB 22 (doMove (tm 4))), (wB 23 (bin2 fLeq (O.c (V.i IntKind.u8 (Int.ofNat 97))) (tm 22))), (wB 24 (doMove (tm 23))), (wG 24 true 25 (doMove (tm 4))), (wG 24 true 26 (bin2 fLeq (tm 25) (O.c (V.i IntKind.u8 (Int.ofNat 122))))), (wB 27 (doPick (tm 24) (tm 26) (O.c (V.b Bool.false)))), (wB 21 (doMove (tm 27)))]) s50_7)
noncomputable abbrev s50_9 : CC := (CC.seq (CC.region [(wB 2 (doMove (O.c (V.b Bool.false))))]) CC.ret)
noncomputable abbrev s50_10 : CC := (CC.cond (tm 21) CC.skip s50_9)
noncomputable abbrev s50_11 : CC := (CC.seq s50_8 s50_10)
noncomputable abbrev s50_12 : CC := (CC.block 2 s50_11)
noncomputable abbrev s50_13 : CC := (CC.seq (CC.region [(wB 18 (doMove (tm 0))), (wB 19 (doMove (tm 3))), (wB 20 (doSIndex (tm 18) (tm 19))), (wB 4 (doMove (tm 20)))]) s50_12)
noncomputable abbrev s50_14 : CC := (CC.seq (CC.region [(wB 17 (doMove (tm 15))), (wB 3 (doMove (tm 17)))]) s50_13)
noncomputable abbrev s50_15 : CC := (CC.block 1 s50_14)
noncomputable abbrev s50_16 : CC := (CC.region [(wB 36 (bin2 fAdd (tm 15) (oN 1))), (wB 15 (doMove (tm 36)))])
noncomputable abbrev s50_17 : CC := (CC.seq s50_15 s50_16)
noncomputable abbrev s50_18 : CC := (CC.seq s50_3 s50_17)
noncomputable abbrev l50_0 : CC := (CC.seq (CC.region [(wB 16 (bin2 fLss (tm 15) (tm 14)))]) s50_18)
noncomputable abbrev s50_19 : CC := (CC.loop l50_0)
noncomputable abbrev s50_20 : CC := (CC.block 0 s50_19)
noncomputable abbrev s50_21 : CC := (CC.seq (CC.region [(wB 13 (doMove (tm 0))), (wB 14 (doLenS (tm 13))), (wB 15 (doMove (oN 0)))]) s50_20)
noncomputable abbrev s50_22 : CC := (CC.seq (CC.region [(wB 2 (doMove (O.c (V.b Bool.true))))]) CC.ret)
noncomputable abbrev s50_23 : CC := (CC.seq s50_21 s50_22)
noncomputable abbrev s50_24 : CC := (CC.seq s50_2 s50_23)
noncomputable abbrev b50 : CC := (CC.seq (CC.region [(wB 2 (doMove (O.c (V.b Bool.false))))]) s50_24)
theorem c50 : compFn Try.prog 50 = ⟨37, b50, [(Rs.tmp (slOf 2))]⟩ := by kernel_rfl
noncomputable abbrev s16_0 : CC := (CC.seq (CC.region [(wB 6 (doMove (oN 10)))]) CC.ret)
noncomputable abbrev s16_1 : CC := (CC.cond (tm 11) s16_0 CC.skip)
noncomputable abbrev s16_2 : CC := (CC.seq (CC.region [(wB 9 (doMove (tm 1))), (wB 10 (doCall 50 [(tm 9)])), (wB 11 (doNot (tm 10)))]) s16_1)
noncomputable abbrev s16_3 : CC := (CC.seq (CC.region [(wB 6 (doMove (oN 14)))]) CC.ret)
noncomputable abbrev s16_4 : CC := (CC.cond (tm 21) s16_3 CC.skip)
noncomputable abbrev s16_5 : CC := (CC.seq (CC.region [(wB 21 (doMove (tm 8)))]) s16_4)
noncomputable abbrev s16_6 : CC := (CC.seq (CC.region [(wB 13 (doMove (tm 0))), (wB 14 (doNilCheck (tm 13))), (wB 15 (doFieldAddr 1 (tm 14))), (wB 16 (doLoad (tm 15))), (wB 17 (doMove (tm 1))), (wB 18 (doLookup none V.l0 Bool.true (tm 16) (tm 17))), (wB 12 (doMove (tm 18))), (wB 19 (doExtract 0 (tm 12))), (wB 20 (doExtract 1 (tm 12))), (wB 7 (doMove (tm 19))), (wB 8 (doMove (tm 20)))]) s16_5)
noncomputable abbrev s16_7 : CC := (CC.seq (CC.region [(wB 6 (doMove (oN 15)))]) CC.ret)
noncomputable abbrev s16_8 : CC := (CC.cond (tm 34) s16_7 CC.skip)
noncomputable abbrev s16_9 : CC := (CC.seq (CC.region [(wB 22 (doMove (tm 0))), (wB 23 (doNilCheck (tm 22))), (wB 24 (doFieldAddr 1 (tm 23))), (wB 25 (doLoad (tm 24))), (wB 26 (doMapLen (tm 25))), (wB 27 (bin2 fGeq (tm 26) (oN 60))), (wB 28 (doMove (tm 27))), (wG 28 false 29 (doMove (tm 2))), (wG 28 false 30 (doLenS (tm 29))), (wG 28 false 31 (doMove (tm 0))), (wG 28 false 32 (doCall 48 [(tm 31)])), (wG 28 false 33 (bin2 fGtr (tm 30) (tm 32))), (wB 34 (doPick (tm 28) (O.c (V.b Bool.true)) (tm 33)))]) s16_8)
noncomputable abbrev s16_10 : CC := (CC.region [(wB 40 (doMove (tm 0))), (wB 41 (doMakeMap none)), (wB 42 (doNilCheck (tm 40))), (wB 43 (doFieldAddr 1 (tm 42))), (CO.mk G.none D.none Bool.true (CR.mk (doStore 1 (tm 43) (tm 41))))])
noncomputable abbrev s16_11 : CC := (CC.cond (tm 39) s16_10 CC.skip)
noncomputable abbrev s16_12 : CC := (CC.seq (CC.region [(wB 35 (doMove (tm 0))), (wB 36 (doNilCheck (tm 35))), (wB 37 (doFieldAddr 1 (tm 36))), (wB 38 (doLoad (tm 37))), (wB 39 (doNil vMN Bool.false (tm 38) (O.c V.m0)))]) s16_11)
noncomputable abbrev s16_13 : CC := (CC.seq (CC.region [(wB 6 (doMove (oN 0)))]) CC.ret)
noncomputable abbrev s16_14 : CC := (CC.seq (CC.region [(wB 51 (doMove (tm 0))), (wB 52 (doMove (tm 0))), (wB 53 (doNilCheck (tm 52))), (wB 54 (doFieldAddr 2 (tm 53))), (wB 55 (doLoad (tm 54))), (wB 56 (doMove (tm 1))), (wB 57 (doBuild [(V.i IntKind.i64 (Int.ofNat 0)), (V.s 0 0), (V.s 0 0), (V.i IntKind.i64 (Int.ofNat 0)), V.l0, (V.b Bool.false)] [(Pt.mk 0 1 (oN 1)), (Pt.mk 1 1 (tm 56))])), (wB 58 (doBuildSlice 84 1 [(V.i IntKind.i64 (Int.ofNat 0)), (V.s 0 0), (V.s 0 0), (V.i IntKind.i64 (Int.ofNat 0)), V.l0, (V.b Bool.false)] [(Pt.mk 0 6 (tm 57))])), (wB 59 (doAppend 84 6 (tm 55) (tm 58))), (wB 60 (doNilCheck (tm 51))), (wB 61 (doFieldAddr 2 (tm 60))), (CO.mk G.none D.none Bool.true (CR.mk (doStore 1 (tm 61) (tm 59))))]) s16_13)
noncomputable abbrev s16_15 : CC := (CC.seq (CC.region [(wB 44 (doMove (tm 0))), (wB 45 (doNilCheck (tm 44))), (wB 46 (doFieldAddr 1 (tm 45))), (wB 47 (doLoad (tm 46))), (wB 48 (doMove (tm 1))), (wB 49 (doMove (tm 2))), (wB 50 (doS2B 5 (tm 49))), (CO.mk G.none D.none Bool.true (CR.mk (doMapSet none (tm 47) (tm 48) (tm 50))))]) s16_14)
noncomputable abbrev s16_16 : CC := (CC.seq s16_12 s16_15)
noncomputable abbrev s16_17 : CC := (CC.seq s16_9 s16_16)
noncomputable abbrev s16_18 : CC := (CC.seq s16_6 s16_17)
noncomputable abbrev s16_19 : CC := (CC.seq s16_2 s16_18)
noncomputable abbrev b16 : CC := (CC.seq (CC.region [(wB 6 (doMove (oN 0)))]) s16_19)
theorem c16 : compFn Try.prog 16 = ⟨62, b16, [(Rs.tmp (slOf 6))]⟩ := by kernel_rfl
noncomputable abbrev s18_0 : CC := (CC.seq (CC.region [(wB 6 (doMove (oN 14)))]) CC.ret)
noncomputable abbrev s18_1 : CC := (CC.cond (tm 19) s18_0 CC.skip)
noncomputable abbrev s18_2 : CC := (CC.seq (CC.region [(wB 18 (doMove (tm 8))), (wB 19 (doNot (tm 18)))]) s18_1)
noncomputable abbrev s18_3 : CC := (CC.seq (CC.region [(wB 6 (doMove (oN 15)))]) CC.ret)
noncomputable abbrev s18_4 : CC := (CC.cond (tm 24) s18_3 CC.skip)
noncomputable abbrev s18_5 : CC := (CC.seq (CC.region [(wB 20 (doMove (tm 2))), (wB 21 (doLenS (tm 20))), (wB 22 (doMove (tm 0))), (wB 23 (doCall 48 [(tm 22)])), (wB 24 (bin2 fGtr (tm 21) (tm 23)))]) s18_4)
noncomputable abbrev s18_6 : CC := (CC.seq (CC.region [(wB 6 (doMove (oN 0)))]) CC.ret)
noncomputable abbrev s18_7 : CC := (CC.seq (CC.region [(wB 33 (doMove (tm 0))), (wB 34 (doMove (tm 0))), (wB 35 (doNilCheck (tm 34))), (wB 36 (doFieldAddr 2 (tm 35))), (wB 37 (doLoad (tm 36))), (wB 38 (doMove (tm 1))), (wB 39 (doMove (tm 7))), (wB 40 (doLen (tm 39))), (wB 41 (doBuild [(V.i IntKind.i64 (Int.ofNat 0)), (V.s 0 0), (V.s 0 0), (V.i IntKind.i64 (Int.ofNat 0)), V.l0, (V.b Bool.false)] [(Pt.mk 0 1 (oN 2)), (Pt.mk 1 1 (tm 38)), (Pt.mk 3 1 (tm 40))])), (wB 42 (doBuildSlice 84 1 [(V.i IntKind.i64 (Int.ofNat 0)), (V.s 0 0), (V.s 0 0), (V.i IntKind.i64 (Int.ofNat 0)), V.l0, (V.b Bool.false)] [(Pt.mk 0 6 (tm 41))])), (wB 43 (doAppend 84 6 (tm 37) (tm 42))), (wB 44 (doNilCheck (tm 33))), (wB 45 (doFieldAddr 2 (tm 44))), (CO.mk G.none D.none Bool.true (CR.mk (doStore 1 (tm 45) (tm 43))))]) s18_6)
noncomputable abbrev s18_8 : CC := (CC.seq (CC.draws [(uB 25 (doMove (tm 0))), (uB 26 (doNilCheck (tm 25))), (uB 27 (doFieldAddr 1 (tm 26))), (uB 28 (doLoad (tm 27))), (uB 29 (doMove (tm 1))), (uB 30 (doMove (tm 7))), (uB 31 (doMove (tm 2))), (uB 32 (doAppendS 5 (tm 30) (tm 31))), (CO.mk G.none D.none Bool.true (CR.mk (doMapSet none (tm 28) (tm 29) (tm 32))))]) s18_7)
noncomputable abbrev s18_9 : CC := (CC.seq s18_5 s18_8)
noncomputable abbrev s18_10 : CC := (CC.seq s18_2 s18_9)
noncomputable abbrev s18_11 : CC := (CC.seq (CC.region [(wB 10 (doMove (tm 0))), (wB 11 (doNilCheck (tm 10))), (wB 12 (doFieldAddr 1 (tm 11))), (wB 13 (doLoad (tm 12))), (wB 14 (doMove (tm 1))), (wB 15 (doLookup none V.l0 Bool.true (tm 13) (tm 14))), (wB 9 (doMove (tm 15))), (wB 16 (doExtract 0 (tm 9))), (wB 17 (doExtract 1 (tm 9))), (wB 7 (doMove (tm 16))), (wB 8 (doMove (tm 17)))]) s18_10)
noncomputable abbrev b18 : CC := (CC.seq (CC.region [(wB 6 (doMove (oN 0)))]) s18_11)
theorem c18 : compFn Try.prog 18 = ⟨46, b18, [(Rs.tmp (slOf 6))]⟩ := by kernel_rfl
noncomputable abbrev s20_0 : CC := (CC.seq (CC.region [(wB 6 (doMove (oN 10)))]) CC.ret)
noncomputable abbrev s20_1 : CC := (CC.cond (tm 12) s20_0 CC.skip)
noncomputable abbrev s20_2 : CC := (CC.seq (CC.region [(wB 10 (doMove (tm 2))), (wB 11 (doCall 50 [(tm 10)])), (wB 12 (doNot (tm 11)))]) s20_1)
noncomputable abbrev s20_3 : CC := (CC.seq (CC.region [(wB 6 (doMove (oN 14)))]) CC.ret)
noncomputable abbrev s20_4 : CC := (CC.cond (tm 23) s20_3 CC.skip)
noncomputable abbrev s20_5 : CC := (CC.seq (CC.region [(wB 22 (doMove (tm 8))), (wB 23 (doNot (tm 22)))]) s20_4)
noncomputable abbrev s20_6 : CC := (CC.region [(wB 46 (doMove (tm 0))), (wB 47 (doNilCheck (tm 46))), (wB 48 (doFieldAddr 1 (tm 47))), (wB 49 (doLoad (tm 48))), (wB 50 (doMove (tm 2))), (wB 51 (doMove (tm 7))), (CO.mk G.none D.none Bool.true (CR.mk (doMapSet none (tm 49) (tm 50) (tm 51))))])
noncomputable abbrev s20_7 : CC := (CC.seq (CC.region [(wB 41 (doMove (tm 0))), (wB 42 (doNilCheck (tm 41))), (wB 43 (doFieldAddr 1 (tm 42))), (wB 44 (doLoad (tm 43))), (wB 45 (doMove (tm 1))), (CO.mk G.none D.none Bool.true (CR.mk (doMapDel none (tm 44) (tm 45))))]) s20_6)
noncomputable abbrev s20_8 : CC := (CC.seq (CC.region [(wB 31 (doMove (tm 0))), (wB 32 (doNilCheck (tm 31))), (wB 33 (doFieldAddr 1 (tm 32))), (wB 34 (doLoad (tm 33))), (wB 35 (doMove (tm 2))), (wB 36 (doLookup none V.l0 Bool.true (tm 34) (tm 35))), (wB 30 (doMove (tm 36))), (wB 37 (doExtract 0 (tm 30))), (wB 38 (doExtract 1 (tm 30))), (wB 39 (doFieldAddr 4 (tm 9))), (CO.mk G.none D.none Bool.true (CR.mk (doStore 1 (tm 39) (tm 37)))), (wB 40 (doFieldAddr 5 (tm 9))), (CO.mk G.none D.none Bool.true (CR.mk (doStore 1 (tm 40) (tm 38))))]) s20_7)
noncomputable abbrev s20_9 : CC := (CC.cond (tm 29) s20_8 CC.skip)
noncomputable abbrev s20_10 : CC := (CC.seq (CC.region [(wB 27 (doMove (tm 1))), (wB 28 (doMove (tm 2))), (wB 29 (doSCmp (fun a b c d => !eqS a b c d) (tm 27) (tm 28)))]) s20_9)
noncomputable abbrev s20_11 : CC := (CC.seq (CC.region [(wB 6 (doMove (oN 0)))]) CC.ret)
noncomputable abbrev s20_12 : CC := (CC.seq (CC.draws [(uB 52 (doMove (tm 0))), (uB 53 (doMove (tm 0))), (uB 54 (doNilCheck (tm 53))), (uB 55 (doFieldAddr 2 (tm 54))), (uB 56 (doLoad (tm 55))), (uB 57 (doLoadA 6 (tm 9))), (uB 58 (doBuildSlice 84 1 [(V.i IntKind.i64 (Int.ofNat 0)), (V.s 0 0), (V.s 0 0), (V.i IntKind.i64 (Int.ofNat 0)), V.l0, (V.b Bool.false)] [(Pt.mk 0 6 (tm 57))])), (wB 59 (doAppend 84 6 (tm 56) (tm 58))), (wB 60 (doNilCheck (tm 52))), (uB 61 (doFieldAddr 2 (tm 60))), (CO.mk G.none D.none Bool.true (CR.mk (doStore 1 (tm 61) (tm 59))))]) s20_11)
noncomputable abbrev s20_13 : CC := (CC.seq s20_10 s20_12)
noncomputable abbrev s20_14 : CC := (CC.seq (CC.region [(wB 24 (doMove (tm 2))), (wB 25 (doMove (tm 1))), (wB 26 (doBuild [(V.i IntKind.i64 (Int.ofNat 0)), (V.s 0 0), (V.s 0 0), (V.i IntKind.i64 (Int.ofNat 0)), V.l0, (V.b Bool.false)] [(Pt.mk 0 1 (oN 3)), (Pt.mk 1 1 (tm 24)), (Pt.mk 2 1 (tm 25))])), (wB 9 (doAlloc 84 [(V.i IntKind.i64 (Int.ofNat 0)), (V.s 0 0), (V.s 0 0), (V.i IntKind.i64 (Int.ofNat 0)), V.l0, (V.b Bool.false)])), (CO.mk G.none D.none Bool.true (CR.mk (doStore 6 (tm 9) (tm 26))))]) s20_13)
noncomputable abbrev s20_15 : CC := (CC.seq s20_5 s20_14)
noncomputable abbrev s20_16 : CC := (CC.seq (CC.region [(wB 14 (doMove (tm 0))), (wB 15 (doNilCheck (tm 14))), (wB 16 (doFieldAddr 1 (tm 15))), (wB 17 (doLoad (tm 16))), (wB 18 (doMove (tm 1))), (wB 19 (doLookup none V.l0 Bool.true (tm 17) (tm 18))), (wB 13 (doMove (tm 19))), (wB 20 (doExtract 0 (tm 13))), (wB 21 (doExtract 1 (tm 13))), (wB 7 (doMove (tm 20))), (wB 8 (doMove (tm 21)))]) s20_15)
noncomputable abbrev s20_17 : CC := (CC.seq s20_2 s20_16)
noncomputable abbrev b20 : CC := (CC.seq (CC.region [(wB 6 (doMove (oN 0)))]) s20_17)
theorem c20 : compFn Try.prog 20 = ⟨62, b20, [(Rs.tmp (slOf 6))]⟩ := by kernel_rfl
noncomputable abbrev s22_0 : CC := (CC.seq (CC.region [(wB 4 (doMove (oN 14)))]) CC.ret)
noncomputable abbrev s22_1 : CC := (CC.cond (tm 17) s22_0 CC.skip)
noncomputable abbrev s22_2 : CC := (CC.seq (CC.region [(wB 16 (doMove (tm 6))), (wB 17 (doNot (tm 16)))]) s22_1)
noncomputable abbrev s22_3 : CC := (CC.seq (CC.region [(wB 4 (doMove (oN 0)))]) CC.ret)
noncomputable abbrev s22_4 : CC := (CC.seq (CC.region [(wB 23 (doMove (tm 0))), (wB 24 (doMove (tm 0))), (wB 25 (doNilCheck (tm 24))), (wB 26 (doFieldAddr 2 (tm 25))), (wB 27 (doLoad (tm 26))), (wB 28 (doMove (tm 1))), (wB 29 (doMove (tm 5))), (wB 30 (doBuild [(V.i IntKind.i64 (Int.ofNat 0)), (V.s 0 0), (V.s 0 0), (V.i IntKind.i64 (Int.ofNat 0)), V.l0, (V.b Bool.false)] [(Pt.mk 0 1 (oN 4)), (Pt.mk 1 1 (tm 28)), (Pt.mk 4 1 (tm 29)), (Pt.mk 5 1 (O.c (V.b Bool.true)))])), (wB 31 (doBuildSlice 84 1 [(V.i IntKind.i64 (Int.ofNat 0)), (V.s 0 0), (V.s 0 0), (V.i IntKind.i64 (Int.ofNat 0)), V.l0, (V.b Bool.false)] [(Pt.mk 0 6 (tm 30))])), (wB 32 (doAppend 84 6 (tm 27) (tm 31))), (wB 33 (doNilCheck (tm 23))), (wB 34 (doFieldAddr 2 (tm 33))), (CO.mk G.none D.none Bool.true (CR.mk (doStore 1 (tm 34) (tm 32))))]) s22_3)
noncomputable abbrev s22_5 : CC := (CC.seq (CC.region [(wB 18 (doMove (tm 0))), (wB 19 (doNilCheck (tm 18))), (wB 20 (doFieldAddr 1 (tm 19))), (wB 21 (doLoad (tm 20))), (wB 22 (doMove (tm 1))), (CO.mk G.none D.none Bool.true (CR.mk (doMapDel none (tm 21) (tm 22))))]) s22_4)
noncomputable abbrev s22_6 : CC := (CC.seq s22_2 s22_5)
noncomputable abbrev s22_7 : CC := (CC.seq (CC.region [(wB 8 (doMove (tm 0))), (wB 9 (doNilCheck (tm 8))), (wB 10 (doFieldAddr 1 (tm 9))), (wB 11 (doLoad (tm 10))), (wB 12 (doMove (tm 1))), (wB 13 (doLookup none V.l0 Bool.true (tm 11) (tm 12))), (wB 7 (doMove (tm 13))), (wB 14 (doExtract 0 (tm 7))), (wB 15 (doExtract 1 (tm 7))), (wB 5 (doMove (tm 14))), (wB 6 (doMove (tm 15)))]) s22_6)
noncomputable abbrev b22 : CC := (CC.seq (CC.region [(wB 4 (doMove (oN 0)))]) s22_7)
theorem c22 : compFn Try.prog 22 = ⟨35, b22, [(Rs.tmp (slOf 4))]⟩ := by kernel_rfl
noncomputable abbrev b24 : CC := (CC.region [(wB 2 (doMove (tm 0))), (wB 3 (doNilCheck (tm 2))), (wB 4 (doFieldAddr 2 (tm 3))), (CO.mk G.none D.none Bool.true (CR.mk (doStore 1 (tm 4) (O.c V.l0))))])
theorem c24 : compFn Try.prog 24 = ⟨5, b24, []⟩ := by kernel_rfl
noncomputable abbrev s31_0 : CC := (CC.seq (CC.region [(wB 4 (doMove (O.c (V.s 0 0)))), (wB 5 (doMove (oN 14)))]) CC.ret)
noncomputable abbrev s31_1 : CC := (CC.cond (tm 18) s31_0 CC.skip)
noncomputable abbrev s31_2 : CC := (CC.seq (CC.region [(wB 17 (doMove (tm 7))), (wB 18 (doNot (tm 17)))]) s31_1)
noncomputable abbrev s31_3 : CC := (CC.seq (CC.region [(wB 19 (doMove (tm 6))), (wB 20 (doB2S (tm 19))), (wB 4 (doMove (tm 20))), (wB 5 (doMove (oN 0)))]) CC.ret)
noncomputable abbrev s31_4 : CC := (CC.seq s31_2 s31_3)
noncomputable abbrev s31_5 : CC := (CC.seq (CC.region [(wB 9 (doMove (tm 0))), (wB 10 (doNilCheck (tm 9))), (wB 11 (doFieldAddr 1 (tm 10))), (wB 12 (doLoad (tm 11))), (wB 13 (doMove (tm 1))), (wB 14 (doLookup none V.l0 Bool.true (tm 12) (tm 13))), (wB 8 (doMove (tm 14))), (wB 15 (doExtract 0 (tm 8))), (wB 16 (doExtract 1 (tm 8))), (wB 6 (doMove (tm 15))), (wB 7 (doMove (tm 16)))]) s31_4)
noncomputable abbrev b31 : CC := (CC.seq (CC.region [(wB 4 (doMove (O.c (V.s 0 0)))), (wB 5 (doMove (oN 0)))]) s31_5)
theorem c31 : compFn Try.prog 31 = ⟨21, b31, [(Rs.tmp (slOf 4)), (Rs.tmp (slOf 5))]⟩ := by kernel_rfl
noncomputable abbrev s34_0 : CC := (CC.seq (CC.region [(wB 3 (doMove (tm 0))), (wB 4 (doNilCheck (tm 3))), (wB 5 (doFieldAddr 2 (tm 4))), (wB 6 (doLoad (tm 5))), (wB 7 (doLen (tm 6))), (wB 2 (doMove (tm 7)))]) CC.ret)
noncomputable abbrev b34 : CC := (CC.seq (CC.region [(wB 2 (doMove (oN 0)))]) s34_0)
theorem c34 : compFn Try.prog 34 = ⟨8, b34, [(Rs.tmp (slOf 2))]⟩ := by kernel_rfl
noncomputable abbrev s48_0 : CC := (CC.seq (CC.draws [(uB 3 (doMove (tm 0))), (uB 4 (doNilCheck (tm 3))), (uB 5 (doFieldAddr 0 (tm 4))), (uB 6 (doLoad (tm 5))), (uB 7 (doMove (tm 0))), (uB 8 (doCall 36 [(tm 7)])), (uB 9 (bin2 fSub (tm 6) (tm 8))), (uB 10 (doMax (tm 9) (oN 0))), (uB 2 (doMove (tm 10)))]) CC.ret)
noncomputable abbrev b48 : CC := (CC.seq (CC.region [(wB 2 (doMove (oN 0)))]) s48_0)
theorem c48 : compFn Try.prog 48 = ⟨11, b48, [(Rs.tmp (slOf 2))]⟩ := by kernel_rfl
noncomputable abbrev b26 : CC := (CC.region [(wB 4 (doMove (tm 0))), (wB 5 (doMove (tm 1))), (wB 6 (doCall 49 [(tm 5), (oN 1000000)])), (wB 7 (doNilCheck (tm 4))), (wB 8 (doFieldAddr 0 (tm 7))), (CO.mk G.none D.none Bool.true (CR.mk (doStore 1 (tm 8) (tm 6))))])
theorem c26 : compFn Try.prog 26 = ⟨9, b26, []⟩ := by kernel_rfl
noncomputable abbrev s56_0 : CC := (CC.draws [(uB 23 (doMove (tm 0))), (uB 24 (doFieldAddr 1 (tm 4))), (wB 25 (doLoad (tm 24))), (uB 26 (doMove (tm 6))), (uB 27 (doMove (tm 7))), (uB 28 (doSlice 1 (tm 26) none (some (tm 27)))), (uB 29 (doMove (tm 7))), (uB 30 (bin2 fGtr (tm 29) (oN 0))), (wB 31 (doCall 80 [(tm 23), (tm 25), (tm 28), (tm 30)]))])
noncomputable abbrev s56_1 : CC := (CC.seq (CC.region [(wB 19 (doMove (tm 2))), (wB 20 (doMove (tm 6))), (wB 21 (doLen (tm 20))), (wB 22 (doCall 49 [(tm 19), (tm 21)])), (wB 7 (doMove (tm 22)))]) s56_0)
noncomputable abbrev s56_2 : CC := (CC.draws [(uB 34 (doMove (tm 0))), (uB 35 (doNilCheck (tm 34))), (uB 36 (doFieldAddr 1 (tm 35))), (uB 37 (doLoad (tm 36))), (uB 38 (doFieldAddr 1 (tm 4))), (uB 39 (doLoad (tm 38))), (uB 40 (doMove (tm 6))), (uB 41 (doFieldAddr 3 (tm 4))), (uB 42 (doLoad (tm 41))), (uB 43 (doMove (tm 2))), (uB 44 (doMove (tm 6))), (uB 45 (doLen (tm 44))), (uB 46 (doFieldAddr 3 (tm 4))), (uB 47 (doLoad (tm 46))), (uB 48 (bin2 fSub (tm 45) (tm 47))), (uB 49 (doCall 49 [(tm 43), (tm 48)])), (uB 50 (bin2 fAdd (tm 42) (tm 49))), (uB 51 (doSlice 1 (tm 40) none (some (tm 50)))), (CO.mk G.none D.none Bool.true (CR.mk (doMapSet none (tm 37) (tm 39) (tm 51))))])
noncomputable abbrev s56_3 : CC := (CC.region [(wB 66 (doMove (tm 0))), (wB 67 (doFieldAddr 1 (tm 4))), (wB 68 (doLoad (tm 67))), (wB 69 (doFieldAddr 4 (tm 4))), (wB 70 (doLoad (tm 69))), (wB 71 (doFieldAddr 5 (tm 4))), (wB 72 (doLoad (tm 71))), (wB 73 (doCall 80 [(tm 66), (tm 68), (tm 70), (tm 72)]))])
noncomputable abbrev s56_4 : CC := (CC.seq (CC.draws [(uB 59 (doMove (tm 0))), (uB 60 (doNilCheck (tm 59))), (uB 61 (doFieldAddr 1 (tm 60))), (uB 62 (doLoad (tm 61))), (uB 63 (doFieldAddr 2 (tm 4))), (uB 64 (doLoad (tm 63))), (uB 65 (doMove (tm 6))), (CO.mk G.none D.none Bool.true (CR.mk (doMapSet none (tm 62) (tm 64) (tm 65))))]) s56_3)
noncomputable abbrev s56_5 : CC := (CC.cond (tm 58) s56_4 CC.skip)
noncomputable abbrev s56_6 : CC := (CC.seq (CC.region [(wB 54 (doFieldAddr 2 (tm 4))), (wB 55 (doLoad (tm 54))), (wB 56 (doFieldAddr 1 (tm 4))), (wB 57 (doLoad (tm 56))), (wB 58 (doSCmp (fun a b c d => !eqS a b c d) (tm 55) (tm 57)))]) s56_5)
noncomputable abbrev s56_7 : CC := (CC.draws [(uB 76 (doMove (tm 0))), (uB 77 (doNilCheck (tm 76))), (uB 78 (doFieldAddr 1 (tm 77))), (uB 79 (doLoad (tm 78))), (uB 80 (doFieldAddr 1 (tm 4))), (uB 81 (doLoad (tm 80))), (uB 82 (doFieldAddr 4 (tm 4))), (uB 83 (doLoad (tm 82))), (CO.mk G.none D.none Bool.true (CR.mk (doMapSet none (tm 79) (tm 81) (tm 83))))])
noncomputable abbrev s56_8 : CC := (CC.cond (tm 74) s56_7 CC.skip)
noncomputable abbrev s56_9 : CC := (CC.seq (CC.region [(wB 75 (bin2 fEql (tm 16) (oN 4))), (wB 74 (doMove (tm 75)))]) s56_8)
noncomputable abbrev s56_10 : CC := (CC.cond (tm 52) s56_6 s56_9)
noncomputable abbrev s56_11 : CC := (CC.seq (CC.region [(wB 53 (bin2 fEql (tm 16) (oN 3))), (wB 52 (doMove (tm 53)))]) s56_10)
noncomputable abbrev s56_12 : CC := (CC.cond (tm 32) s56_2 s56_11)
noncomputable abbrev s56_13 : CC := (CC.seq (CC.region [(wB 33 (bin2 fEql (tm 16) (oN 2))), (wB 32 (doMove (tm 33)))]) s56_12)
noncomputable abbrev s56_14 : CC := (CC.cond (tm 17) s56_1 s56_13)
noncomputable abbrev s56_15 : CC := (CC.seq (CC.region [(wB 18 (bin2 fEql (tm 16) (oN 1))), (wB 17 (doMove (tm 18)))]) s56_14)
noncomputable abbrev s56_16 : CC := (CC.block 0 s56_15)
noncomputable abbrev s56_17 : CC := (CC.seq (CC.region [(wB 15 (doFieldAddr 0 (tm 4))), (wB 16 (doLoad (tm 15)))]) s56_16)
noncomputable abbrev s56_18 : CC := (CC.seq (CC.draws [(uB 8 (doMove (tm 0))), (uB 9 (doNilCheck (tm 8))), (uB 10 (doFieldAddr 1 (tm 9))), (uB 11 (doLoad (tm 10))), (uB 12 (doFieldAddr 1 (tm 4))), (uB 13 (doLoad (tm 12))), (wB 14 (doLookup none V.l0 Bool.false (tm 11) (tm 13))), (uB 6 (doMove (tm 14)))]) s56_17)
noncomputable abbrev b56 : CC := (CC.seq (CC.region [(wB 4 (doBox 84 (tm 1)))]) s56_18)
theorem c56 : compFn Try.prog 56 = ⟨84, b56, []⟩ := by kernel_rfl
noncomputable abbrev s80_0 : CC := (CC.region [(wB 9 (doMove (tm 0))), (wB 10 (doNilCheck (tm 9))), (wB 11 (doFieldAddr 1 (tm 10))), (wB 12 (doLoad (tm 11))), (wB 13 (doMove (tm 1))), (wB 14 (doMove (tm 2))), (CO.mk G.none D.none Bool.true (CR.mk (doMapSet none (tm 12) (tm 13) (tm 14))))])
noncomputable abbrev s80_1 : CC := (CC.region [(wB 15 (doMove (tm 0))), (wB 16 (doNilCheck (tm 15))), (wB 17 (doFieldAddr 1 (tm 16))), (wB 18 (doLoad (tm 17))), (wB 19 (doMove (tm 1))), (CO.mk G.none D.none Bool.true (CR.mk (doMapDel none (tm 18) (tm 19))))])
noncomputable abbrev s80_2 : CC := (CC.cond (tm 8) s80_0 s80_1)
noncomputable abbrev b80 : CC := (CC.seq (CC.region [(wB 8 (doMove (tm 3)))]) s80_2)
theorem c80 : compFn Try.prog 80 = ⟨20, b80, []⟩ := by kernel_rfl
end Go.Proofs.Ytjlhfoadabkahaa

set_option maxRecDepth 100000
set_option maxHeartbeats 8000000
set_option linter.all false
namespace Go.Proofs.Ytjlhfoadabkahaa
open Go Go.Ev
section
variable {h : H}
def heldZ (n m : Int) : Int := max 0 (min n m)
theorem held_ok (n m : Int) : FnOk Try.prog 49 [.i .i64 n, .i .i64 m] h fun y h' => y = .i .i64 (heldZ n m) ∧ h' = h := by
 refine fn_go c49 (by intro hb; cases hb) (by simp) (by simp) fun Q hQ => ?_
 simp only [slotsF, Nat.reduceAdd]
 repeat' (first
   | refine St.h ?_
   | simp (disch := first | omega | (simp only [lnv]; omega)) only [wlk, mwk, ↓get_put', ↓reduceIte, seval]
   | (with_reducible (first | apply cd_split | apply gd_split)) <;> (intro hc; (try simp only [hcn] at hc); (try simp only [hc]); (try simp only [hcl] at hc); try omega))
 subst hQ
 exact ⟨rfl, rfl⟩
def nameC (c : UInt8) : Bool := decide (97 ≤ c.toNat ∧ c.toNat ≤ 122 ∨ 48 ≤ c.toNat ∧ c.toNat ≤ 57 ∨ c.toNat = 45)
def nameP (l : List UInt8) : Bool := decide (1 ≤ l.length) && decide (l.length ≤ 16) && l.all nameC
theorem all_take {l : List UInt8} {i : Nat} (hi : i < l.length) : (l.take (i + 1)).all nameC = ((l.take i).all nameC && nameC (l.getD i 0)) := by
 rw [List.take_add_one, List.all_append, List.getElem?_eq_getElem hi]
 simp [List.getD_eq_getElem?_getD, hi]
theorem nameP_bad {l : List UInt8} {i : Nat} (hi : i < l.length) (hb : nameC (l.getD i 0) = false) : nameP l = false := by
 have : l.all nameC = false := by
   rw [List.all_eq_false]
   refine ⟨l[i], List.getElem_mem hi, ?_⟩
   rw [List.getD_eq_getElem?_getD, List.getElem?_eq_getElem hi] at hb
   have hb : nameC l[i] = false := hb
   rw [hb]; simp
 unfold nameP; rw [this, Bool.and_false]
theorem isName_ok {l : List UInt8} (hl : l.length ≤ 9223372036854775807) : FnOk Try.prog 50 [sv l] h fun y h' => y = .b (nameP l) ∧ h' = h := by
 refine fn_go c50 (by intro hb; cases hb) (by simp) (by simp) fun Q hQ => ?_
 simp only [slotsF, Nat.reduceAdd]
 repeat' (first
   | refine St.h ?_
   | simp (disch := first | omega | (simp only [lnv]; omega)) only [wlk, mwk, ↓get_put', ↓reduceIte, seval]
   | (with_reducible (first | apply cd_split | apply gd_split)) <;> (intro hc; (try simp only [hcn] at hc); (try simp only [hc]); (try simp only [hcl] at hc); try omega))
 · subst hQ
   exact ⟨by unfold nameP; rw [decide_eq_false (p := 1 ≤ l.length) (by omega)]; rfl, rfl⟩
 · subst hQ
   exact ⟨by unfold nameP; rw [decide_eq_false (p := l.length ≤ 16) (by omega)]; simp, rfl⟩
 refine Ok.lp (fun m t g => ∃ i : Nat, m = l.length - i ∧ i ≤ l.length ∧ h = g ∧ get 0 t = sv l ∧ get 14 t = .i .i64 (l.length : Int) ∧ get 15 t = .i .i64 (i : Int) ∧ (l.take i).all nameC = true) (l.length - 0) ?_ ?_
 · simp (disch := first | omega | (simp only [lnv]; omega)) only [wlk, mwk, ↓get_put', ↓reduceIte, seval]
   refine ⟨0, rfl, by omega, ?_⟩
   simp
 rintro I hI m t g ⟨i, rfl, hi, rfl, e0, e14, e15, ea⟩
 repeat' (first
   | refine St.h ?_
   | simp (disch := first | omega | (simp only [lnv]; omega)) only [wlk, mwk, ↓get_put', ↓reduceIte, seval, e0, e14, e15, Int.toNat_natCast]
   | (with_reducible (first | apply cd_split | apply gd_split)) <;> (intro hc; (try simp only [hcn] at hc); (try simp only [hc]); (try simp only [hcl] at hc); try omega))
 all_goals first
   | (refine lp_next hI (l.length - (i + 1)) (by omega) ⟨i + 1, rfl, by omega, rfl, by simp (disch := first | omega | (simp only [lnv]; omega)) only [wlk, mwk, ↓get_put', ↓reduceIte, seval, e0], by simp (disch := first | omega | (simp only [lnv]; omega)) only [wlk, mwk, ↓get_put', ↓reduceIte, seval, e14], by simp (disch := first | omega | (simp only [lnv]; omega)) only [wlk, mwk, ↓get_put', ↓reduceIte, seval]; rfl, ?_⟩
      rw [all_take (by omega), ea, Bool.true_and]
      exact decide_eq_true (by omega))
   | (subst hQ
      exact ⟨by rw [nameP_bad (i := i) (by omega) (decide_eq_false (by omega))], rfl⟩)
   | (subst hQ
      refine ⟨?_, rfl⟩
      rw [List.take_of_length_le (by omega)] at ea
      unfold nameP
      rw [ea, decide_eq_true (p := 1 ≤ l.length) (by omega), decide_eq_true (p := l.length ≤ 16) (by omega)]; rfl)
theorem left_ok {s : B} {f : Nat} {rm : Int} {fl lo : V} {E : En} (r : Row h s 0 0 [.i .i64 rm, fl, lo]) (hf : 3 ≤ f) (m : MpB h fl E) (hE : ∀ p ∈ E, IsSl p.2) (hl : usedE E ≤ 9223372036854775807) (h0 : 0 ≤ rm) (h1 : rm ≤ 1000000) :
   FnOk Try.prog 48 [.p s 0 0 f] h fun y h' => y = .i .i64 (max (rm - (usedE E : Int)) 0) ∧ h' = h := by
 refine fn_go c48 (by intro hb; cases hb) (by simp) (by simp) fun Q hQ => ?_
 simp only [slotsF, Nat.reduceAdd]
 repeat' (first
   | refine St.h ?_
   | simp (disch := first | omega | (simp only [lnv]; omega)) only [wlk, mwk, ↓get_put', ↓reduceIte, seval, r.l1]
   | (with_reducible (first | apply cd_split | apply gd_split)) <;> (intro hc; (try simp only [hcn] at hc); (try simp only [hc]); (try simp only [hcl] at hc); try omega))
 refine CL.pure (used_any (row_re r) hf m.re hE hl) ?_
 repeat' (first
   | refine St.h ?_
   | simp (disch := first | omega | (simp only [lnv]; omega)) only [wlk, mwk, ↓get_put', ↓reduceIte, seval, r.l1]
   | (with_reducible (first | apply cd_split | apply gd_split)) <;> (intro hc; (try simp only [hcn] at hc); (try simp only [hc]); (try simp only [hcl] at hc); try omega))
 subst hQ
 exact ⟨rfl, rfl⟩
theorem new_ok (n : Int) (hf : B.val h.floor ≤ B.val h.next) : FnOk Try.prog 14 [.i .i64 n] h fun y h' => y = .p h.next 0 0 3 ∧ Ev.Own h' h.next [.i .i64 (heldZ n 1000000), .m0, .l0] ∧ Stay nowhere h h' := by
 refine fn_go c14 (by intro hb; cases hb) (by simp) (by simp) fun Q hQ => ?_
 simp only [slotsF, Nat.reduceAdd]
 repeat' (first
   | refine St.h ?_
   | simp (disch := first | omega | (simp only [lnv]; omega)) only [wlk, mwk, ↓get_put', ↓reduceIte, seval]
   | (with_reducible (first | apply cd_split | apply gd_split)) <;> (intro hc; (try simp only [hcn] at hc); (try simp only [hc]); (try simp only [hcl] at hc); try omega))
 refine CL.pure (held_ok n 1000000) ?_
 repeat' (first
   | refine St.h ?_
   | simp (disch := first | omega | (simp only [lnv]; omega)) only [wlk, mwk, ↓get_put', ↓reduceIte, seval]
   | (with_reducible (first | apply cd_split | apply gd_split)) <;> (intro hc; (try simp only [hcn] at hc); (try simp only [hc]); (try simp only [hcl] at hc); try omega))
 refine AL.own (by simp) hf fun h1 s1 n1 o1 => ?_
 repeat' (first
   | refine St.h ?_
   | simp (disch := first | omega | (simp only [lnv]; omega)) only [wlk, mwk, ↓get_put', ↓reduceIte, seval]
   | (with_reducible (first | apply cd_split | apply gd_split)) <;> (intro hc; (try simp only [hcn] at hc); (try simp only [hc]); (try simp only [hcl] at hc); try omega))
 subst hQ
 exact ⟨rfl, o1, s1⟩
theorem room_ok {s : B} {rm : Int} {fl lo : V} {n : Int} (o : Ev.Own h s [.i .i64 rm, fl, lo]) : FnOk Try.prog 26 [.p s 0 0 3, .i .i64 n] h fun y h' => y = .tu [] ∧ Ev.Own h' s [.i .i64 (heldZ n 1000000), fl, lo] ∧ Stay (fun i => i = s) h h' := by
 refine fn_go c26 (by intro hb; cases hb) (by simp) (by simp) fun Q hQ => ?_
 simp only [slotsF, Nat.reduceAdd]
 repeat' (first
   | refine St.h ?_
   | simp (disch := first | omega | (simp only [lnv]; omega)) only [wlk, mwk, ↓get_put', ↓reduceIte, seval, o.row.l1]
   | (with_reducible (first | apply cd_split | apply gd_split)) <;> (intro hc; (try simp only [hcn] at hc); (try simp only [hc]); (try simp only [hcl] at hc); try omega))
 refine CL.pure (held_ok n 1000000) ?_
 repeat' (first
   | refine St.h ?_
   | simp (disch := first | omega | (simp only [lnv]; omega)) only [wlk, mwk, ↓get_put', ↓reduceIte, seval, o.row.l1]
   | (with_reducible (first | apply cd_split | apply gd_split)) <;> (intro hc; (try simp only [hcn] at hc); (try simp only [hc]); (try simp only [hcl] at hc); try omega))
 refine ST.own o rfl rfl (by omega) (by omega) fun h1 o1 s1 => ?_
 repeat' (first
   | refine St.h ?_
   | simp (disch := first | omega | (simp only [lnv]; omega)) only [wlk, mwk, ↓get_put', ↓reduceIte, seval]
   | (with_reducible (first | apply cd_split | apply gd_split)) <;> (intro hc; (try simp only [hcn] at hc); (try simp only [hc]); (try simp only [hcl] at hc); try omega))
 subst hQ
 exact ⟨rfl, o1, s1⟩
theorem keep_ok {s : B} {rm : Int} {fl lo : V} (o : Ev.Own h s [.i .i64 rm, fl, lo]) : FnOk Try.prog 24 [.p s 0 0 3] h fun y h' => y = .tu [] ∧ Ev.Own h' s [.i .i64 rm, fl, .l0] ∧ Stay (fun i => i = s) h h' := by
 refine fn_go c24 (by intro hb; cases hb) (by simp) (by simp) fun Q hQ => ?_
 simp only [slotsF, Nat.reduceAdd]
 repeat' (first
   | refine St.h ?_
   | simp (disch := first | omega | (simp only [lnv]; omega)) only [wlk, mwk, ↓get_put', ↓reduceIte, seval, o.row.l1]
   | (with_reducible (first | apply cd_split | apply gd_split)) <;> (intro hc; (try simp only [hcn] at hc); (try simp only [hc]); (try simp only [hcl] at hc); try omega))
 refine ST.own o rfl rfl (by omega) (by omega) fun h1 o1 s1 => ?_
 repeat' (first
   | refine St.h ?_
   | simp (disch := first | omega | (simp only [lnv]; omega)) only [wlk, mwk, ↓get_put', ↓reduceIte, seval]
   | (with_reducible (first | apply cd_split | apply gd_split)) <;> (intro hc; (try simp only [hcn] at hc); (try simp only [hc]); (try simp only [hcl] at hc); try omega))
 subst hQ
 exact ⟨rfl, o1, s1⟩
def RdB (h : H) (v : V) (bs : List UInt8) : Prop := ∀ N, BS Try.prog v h N = N.go Try.prog (sv bs) h
theorem get_ok {s : B} {f : Nat} {rm fl lo : V} {E : En} {k : List UInt8} {C : V → List UInt8} (r : Row h s 0 0 [rm, fl, lo]) (hf : 3 ≤ f) (m : MpB h fl E) (hC : ∀ p ∈ E, RdB h p.2 (C p.2)) :
   FnOk Try.prog 31 [.p s 0 0 f, sv k] h fun y h' => y = (match getE E k with | some v => .tu [sv (C v), .i .i64 0] | none => .tu [sv [], .i .i64 14]) ∧ h' = h := by
 refine fn_go c31 (by intro hb; cases hb) (by simp) (by simp) fun Q hQ => ?_
 simp only [slotsF, Nat.reduceAdd]
 cases hg : getE E k with
 | none =>
   repeat' (first
     | refine St.h ?_
     | simp (disch := first | omega | (simp only [lnv]; omega)) only [wlk, mwk, ↓get_put', ↓reduceIte, seval, r.l1, m.lk, hg]
     | (with_reducible (first | apply cd_split | apply gd_split)) <;> (intro hc; (try simp only [hcn] at hc); (try simp only [hc]); (try simp only [hcl] at hc); try omega))
   subst hQ
   exact ⟨by rw [hg], rfl⟩
 | some v =>
   have hb := hC _ (getE_in hg)
   repeat' (first
     | refine St.h ?_
     | simp (disch := first | omega | (simp only [lnv]; omega)) only [wlk, mwk, ↓get_put', ↓reduceIte, seval, r.l1, m.lk, hg]
     | (with_reducible (first | apply cd_split | apply gd_split)) <;> (intro hc; (try simp only [hcn] at hc); (try simp only [hc]); (try simp only [hcl] at hc); try omega))
   rw [hb]
   repeat' (first
     | refine St.h ?_
     | simp (disch := first | omega | (simp only [lnv]; omega)) only [wlk, mwk, ↓get_put', ↓reduceIte, seval]
     | (with_reducible (first | apply cd_split | apply gd_split)) <;> (intro hc; (try simp only [hcn] at hc); (try simp only [hc]); (try simp only [hcl] at hc); try omega))
   subst hQ
   exact ⟨by rw [hg], rfl⟩
theorem loose_ok {s : B} {f : Nat} {rm fl lo : V} {n : Nat} (r : Row h s 0 0 [rm, fl, lo]) (hf : 3 ≤ f) (hx : ∀ N, H1 Try.prog gLen lo h N = N.go Try.prog (.i .i64 (n : Int)) h) :
   FnOk Try.prog 34 [.p s 0 0 f] h fun y h' => y = .i .i64 (n : Int) ∧ h' = h := by
 refine fn_go c34 (by intro hb; cases hb) (by simp) (by simp) fun Q hQ => ?_
 simp only [slotsF, Nat.reduceAdd]
 repeat' (first
   | refine St.h ?_
   | simp (disch := first | omega | (simp only [lnv]; omega)) only [wlk, mwk, ↓get_put', ↓reduceIte, seval, r.l1, hx]
   | (with_reducible (first | apply cd_split | apply gd_split)) <;> (intro hc; (try simp only [hcn] at hc); (try simp only [hc]); (try simp only [hcl] at hc); try omega))
 subst hQ
 exact ⟨rfl, rfl⟩
theorem setBack_ok {s id : B} {f : Nat} {rm lo v : V} {E : En} {k : List UInt8} {b : Bool} (r : Row h s 0 0 [rm, .m id, lo]) (hf : 3 ≤ f) (m : MapC h id E) (hl : E.length ≤ 1048576) :
   FnOk Try.prog 80 [.p s 0 0 f, sv k, v, .b b] h fun y h' => y = .tu [] ∧ MapC h' id (if b then setE E k v else delE E k) ∧ Stay (fun i => i = id) h h' := by
 refine fn_go c80 (by intro hb; cases hb) (by simp) (by simp) fun Q hQ => ?_
 simp only [slotsF, Nat.reduceAdd]
 cases b with
 | true =>
   repeat' (first
     | refine St.h ?_
     | simp (disch := first | omega | (simp only [lnv]; omega)) only [wlk, mwk, ↓get_put', ↓reduceIte, seval, r.l1]
     | (with_reducible (first | apply cd_split | apply gd_split)) <;> (intro hc; (try simp only [hcn] at hc); (try simp only [hc]); (try simp only [hcl] at hc); try omega))
   refine MU.mk m hl fun h1 m1 s1 => ?_
   repeat' (first
     | refine St.h ?_
     | simp (disch := first | omega | (simp only [lnv]; omega)) only [wlk, mwk, ↓get_put', ↓reduceIte, seval]
     | (with_reducible (first | apply cd_split | apply gd_split)) <;> (intro hc; (try simp only [hcn] at hc); (try simp only [hc]); (try simp only [hcl] at hc); try omega))
   subst hQ
   exact ⟨rfl, m1, s1⟩
 | false =>
   repeat' (first
     | refine St.h ?_
     | simp (disch := first | omega | (simp only [lnv]; omega)) only [wlk, mwk, ↓get_put', ↓reduceIte, seval, r.l1]
     | (with_reducible (first | apply cd_split | apply gd_split)) <;> (intro hc; (try simp only [hcn] at hc); (try simp only [hc]); (try simp only [hcl] at hc); try omega))
   refine MD.mk m hl fun h1 m1 s1 => ?_
   repeat' (first
     | refine St.h ?_
     | simp (disch := first | omega | (simp only [lnv]; omega)) only [wlk, mwk, ↓get_put', ↓reduceIte, seval]
     | (with_reducible (first | apply cd_split | apply gd_split)) <;> (intro hc; (try simp only [hcn] at hc); (try simp only [hc]); (try simp only [hcl] at hc); try omega))
   subst hQ
   exact ⟨rfl, m1, s1⟩
def actV (kind : Int) (name old : List UInt8) (front : Int) (gone : V) (had : Bool) : List V := [.i .i64 kind, sv name, sv old, .i .i64 front, gone, .b had]
theorem IsSl.one {v : V} (a : IsSl v) : oneV v = true := by
 rcases a with rfl | ⟨id, g, off, len, fin, cap, rfl⟩ <;> rfl
theorem IsSl.fp {P : Program} {h : H} {N : Nx} {off : Nat} {v : V} {ps : List Pt} {t : F} {z : List V} {e : Option (Nat × Nat)} (a : IsSl v) (hz : off + 1 ≤ z.length) : FP P off 1 v ps t z e h N = FL P ps t (z.take off ++ (v :: z.drop (off + 1))) e h N := by
 rcases a with rfl | ⟨id, g, o, len, fin, cap, rfl⟩
 · rw [fp_l0, if_pos hz]
 · rw [fp_l, if_pos hz]
theorem act_one {kind front : Int} {name old : List UInt8} {gone : V} {had : Bool} (a : IsSl gone) : allOne (actV kind name old front gone had) = true := by
 rcases a with rfl | ⟨id, g, off, len, fin, cap, rfl⟩ <;> rfl
theorem buf_cells {h : H} {el size : Nat} {v : V} {xs : List V} (b : Buf h el size v xs) : cells v = [v] ∧ oneV v = true := by
 rcases b with ⟨rfl, _⟩ | ⟨id, g, m, blk, rfl, _⟩ <;> exact ⟨rfl, rfl⟩
theorem drop_none {s : B} {f : Nat} {rm fl lo : V} {E : En} {k : List UInt8} (r : Row h s 0 0 [rm, fl, lo]) (hf : 3 ≤ f) (m : MpB h fl E) (hg : getE E k = none) :
   FnOk Try.prog 22 [.p s 0 0 f, sv k] h fun y h' => y = .i .i64 14 ∧ h' = h := by
 refine fn_go c22 (by intro hb; cases hb) (by simp) (by simp) fun Q hQ => ?_
 simp only [slotsF, Nat.reduceAdd]
 repeat' (first
   | refine St.h ?_
   | simp (disch := first | omega | (simp only [lnv]; omega)) only [wlk, mwk, ↓get_put', ↓reduceIte, seval, r.l1, m.lk, hg]
   | (with_reducible (first | apply cd_split | apply gd_split)) <;> (intro hc; (try simp only [hcn] at hc); (try simp only [hc]); (try simp only [hcl] at hc); try omega))
 subst hQ
 exact ⟨rfl, rfl⟩
theorem drop_ok {s id : B} {rm lo v : V} {E : En} {k : List UInt8} {acts : List V} (o : Ev.Own h s [rm, .m id, lo]) (m : MapC h id E) (b : Buf h 84 6 lo acts) (hsi : s ≠ id) (hls : ¬ isOf lo s) (hli : ¬ isOf lo id) (hf : B.val h.floor ≤ B.val h.next)
   (hlE : E.length ≤ 1048576) (hla : acts.length + 6 ≤ 1048576) (hg : getE E k = some v) (hv : IsSl v) :
   FnOk Try.prog 22 [.p s 0 0 3, sv k] h fun y h' => y = .i .i64 0 ∧ ∃ lo', Ev.Own h' s [rm, .m id, lo'] ∧ MapC h' id (delE E k) ∧ Buf h' 84 6 lo' (acts ++ actV 4 k [] 0 v true) ∧ Stay (fun i => i = s ∨ i = id ∨ isOf lo i) h h' ∧ ∀ i, isOf lo' i → isOf lo i ∨ B.val h.next ≤ B.val i := by
 have hv1 := hv.one
 refine fn_go c22 (by intro hb; cases hb) (by simp) (by simp) fun Q hQ => ?_
 simp only [slotsF, Nat.reduceAdd]
 repeat' (first
   | refine St.h ?_
   | simp (disch := first | omega | (simp only [lnv]; omega)) only [wlk, mwk, ↓get_put', ↓reduceIte, seval, o.row.l1, m.lk, hg]
   | (with_reducible (first | apply cd_split | apply gd_split)) <;> (intro hc; (try simp only [hcn] at hc); (try simp only [hc]); (try simp only [hcl] at hc); try omega))
 refine MD.mk m hlE fun h1 m1 s1 => ?_
 have o1 : Ev.Own h1 s [rm, .m id, lo] := o.stay s1 hsi
 repeat' (first
   | refine St.h ?_
   | simp (disch := first | omega | (simp only [lnv]; omega)) only [wlk, mwk, ↓get_put', ↓reduceIte, seval, o1.row.l1]
   | (with_reducible (first | apply cd_split | apply gd_split)) <;> (intro hc; (try simp only [hcn] at hc); (try simp only [hc]); (try simp only [hcl] at hc); try omega))
 rw [hv.fp (by simp)]
 repeat' (first
   | refine St.h ?_
   | simp (disch := first | omega | (simp only [lnv]; omega)) only [wlk, mwk, ↓get_put', ↓reduceIte, seval, o1.row.l1]
   | (with_reducible (first | apply cd_split | apply gd_split)) <;> (intro hc; (try simp only [hcn] at hc); (try simp only [hc]); (try simp only [hcl] at hc); try omega))
 refine AL.own (by simp) (s1.fl hf) fun h2 s2 n2 o2 => ?_
 repeat' (first
   | refine St.h ?_
   | simp (disch := first | omega | (simp only [lnv]; omega)) only [wlk, mwk, ↓get_put', ↓reduceIte, seval, o1.row.l1]
   | (with_reducible (first | apply cd_split | apply gd_split)) <;> (intro hc; (try simp only [hcn] at hc); (try simp only [hc]); (try simp only [hcl] at hc); try omega))
 have bb : Buf h2 84 6 lo acts := (b.stay s1 (fun i hi e => hli (by rw [← e]; exact hi))).grow s2
 refine AP.buf (vs := actV 4 k [] 0 v true) (cnt := 1) bb (new_row o2.row rfl (Nat.le_refl _) (by omega) (by show 6 ≤ 6; omega)) (s2.fl (s1.fl hf)) (by omega) rfl (act_one hv) (by simp [actV]; omega) fun lo' h3 b3 s3 hv3 tp => ?_
 have o2s : Ev.Own h2 s [rm, .m id, lo] := o1.stay s2 (fun h => h)
 have o3 : Ev.Own h3 s [rm, .m id, lo] := o2s.stay s3 hls
 repeat' (first
   | refine St.h ?_
   | simp (disch := first | omega | (simp only [lnv]; omega)) only [wlk, mwk, ↓get_put', ↓reduceIte, seval, o3.row.l1]
   | (with_reducible (first | apply cd_split | apply gd_split)) <;> (intro hc; (try simp only [hcn] at hc); (try simp only [hc]); (try simp only [hcl] at hc); try omega))
 refine ST.own o3 (buf_cells b3).1 (buf_cells b3).2 (by omega) (by omega) fun h4 o4 s4 => ?_
 repeat' (first
   | refine St.h ?_
   | simp (disch := first | omega | (simp only [lnv]; omega)) only [wlk, mwk, ↓get_put', ↓reduceIte, seval]
   | (with_reducible (first | apply cd_split | apply gd_split)) <;> (intro hc; (try simp only [hcn] at hc); (try simp only [hc]); (try simp only [hcl] at hc); try omega))
 subst hQ
 have hslt : B.val s < B.val h2.next := by obtain ⟨_, _, _, _, _, _, h6, _⟩ := o2s; exact h6
 have hl4 : ¬ isOf lo' s := fun e => (hv3 _ e).elim hls fun e => by omega
 refine ⟨rfl, lo', o4, ((m1.stay s2 (fun h => h)).stay s3 hli).stay s4 (fun e => hsi e.symm), b3.stay s4 (fun i hi e => hl4 (by rw [← e]; exact hi)), ?_, fun i hi => (hv3 i hi).imp (fun h => h) fun e => by have := s1.next; omega⟩
 exact ((((s1.mono fun _ _ e => .inr (.inl e)).trans (s2.mono fun _ _ e => e.elim)).trans (s3.mono fun _ _ e => .inr (.inr e))).trans (s4.mono fun _ _ e => .inl e))
end
end Go.Proofs.Ytjlhfoadabkahaa

set_option linter.all false
namespace Go.Ev
open Go
section
variable {P : Program} {nt : Nat} {ops : Array Oper} {Ts : Nat → F}
theorem ahead1 (hd : drawsOk ops.toList = true) {listed : Array Bool} (hc : Closed ops.toList listed) {i : Nat} {oi : Oper} (hi : ops[i]? = some oi) (hni : ¬ InL listed i) (hr : ∀ e ∈ oi.after.toList, Region.binds .any e = true → InL listed e.on)
   {q : Nat} (hq : q ∈ looks ops.toList oi ∨ oi.dst = some q) {j : Nat} {oj : Oper} (hj : ops[j]? = some oj) (hdj : oj.dst = some q) (hji : j ≠ i) : j < i ↔ InL listed j := by
 have hi' : ops.toList[i]? = some oi := by simpa using hi
 have hj' : ops.toList[j]? = some oj := by simpa using hj
 have hqj : q ∈ dstL oj := by simp [dstL, hdj]
 constructor
 · intro hlt
   rcases pair_ok hd hj' hi' hlt with h | h
   · exact h.inL hc fun o ho e he hb => by rw [hi'] at ho; cases ho; exact hr e he hb
   · simp only [slotsOk, Bool.and_eq_true] at h
     rcases hq with hq | hq
     · exact (apartL_ok h.2.1 hqj hq).elim
     · exact (apartL_ok h.1 hqj (by simp [dstL, hq])).elim
 · intro hin
   refine Decidable.byContradiction fun hlt => ?_
   have hlt' : i < j := by omega
   rcases pair_ok hd hi' hj' hlt' with h | h
   · exact hni (h.inL hc fun o ho e he hb => hc j o ho hin e he hb)
   · simp only [slotsOk, Bool.and_eq_true] at h
     rcases hq with hq | hq
     · exact (apartL_ok h.2.2 hqj hq).elim
     · exact (apartL_ok h.1 (by simp [dstL, hq]) hqj).elim
def Frm (nt : Nat) (ops : Array Oper) (Ts : Nat → F) : Prop := ∀ (i : Nat) o, ops[i]? = some o → (∀ q, o.dst = some q → q < nt ∧ q < 512) ∧ ∀ q, q < 512 → o.dst ≠ some q → sGet (slOf q) (Ts (i + 1)) = sGet (slOf q) (Ts i)
theorem slot_same1 (hs : Frm nt ops Ts) : ∀ {m n q : Nat}, q < 512 → m ≤ n → n ≤ ops.size → (∀ (j : Nat) o, ops[j]? = some o → o.dst = some q → m ≤ j → j < n → False) → sGet (slOf q) (Ts n) = sGet (slOf q) (Ts m) := by
 intro m n q hq hmn
 induction hmn with
 | refl => intro _ _; rfl
 | @step k hk ih =>
   intro hN hno
   have ho : ops[k]? = some (ops[k]'(by omega)) := Array.getElem?_eq_getElem _
   rw [(hs k _ ho).2 q hq fun e => hno k _ ho e hk (Nat.lt_succ_self _)]
   exact ih (by omega) fun j o hj hd h1 h2 => hno j o hj hd h1 (by omega)
def Slots1 (ops : Array Oper) (Ts : Nat → F) (listed : Array Bool) (a : Act) (ρ : Emb) : Prop := ∀ q, q < 512 → ∃ m, m ≤ ops.size ∧ (m = 0 ∨ ∃ j o, m = j + 1 ∧ ops[j]? = some o ∧ o.dst = some q) ∧ (∀ (j : Nat) o, ops[j]? = some o → o.dst = some q → (j < m ↔ InL listed j)) ∧ VRel ρ (sGet (slOf q) (Ts m)) (a.tmps.getD q undef)
theorem look1 (hd : drawsOk ops.toList = true) (hs : Frm nt ops Ts) {listed : Array Bool} (hc : Closed ops.toList listed) {a : Act} {ρ : Emb} (hsz : a.tmps.size = nt) (I : Slots1 ops Ts listed a ρ)
   {i : Nat} {oi : Oper} (hi : ops[i]? = some oi) (hni : ¬ InL listed i) (hr : ∀ e ∈ oi.after.toList, Region.binds .any e = true → InL listed e.on) : Looks nt ops.toList oi ρ (Ts i) a := by
 refine ⟨hsz, fun q hq h5 => ?_⟩
 obtain ⟨m, hm, hm0, hw, hv⟩ := I q h5
 have hiN : i < ops.size := (Array.getElem?_eq_some_iff.1 hi).1
 have key : ∀ (j : Nat) o, ops[j]? = some o → o.dst = some q → j ≠ i → (j < m ↔ j < i) := fun j o hj hdj hji => (hw j o hj hdj).trans (ahead1 hd hc hi hni hr (.inl hq) hj hdj hji).symm
 have self : oi.dst = some q → ¬ i < m := fun hdi h => hni ((hw i oi hi hdi).1 h)
 have hmi : m ≤ i := by
   rcases hm0 with h0 | ⟨j, o, rfl, hj, hdj⟩
   · omega
   · by_cases hji : j = i
     · subst hji
       rw [hi] at hj; cases hj
       exact absurd (Nat.lt_succ_self j) (self hdj)
     · have := (key j o hj hdj hji).1 (Nat.lt_succ_self j)
       omega
 have : sGet (slOf q) (Ts i) = sGet (slOf q) (Ts m) := by
   refine slot_same1 hs h5 hmi (by omega) fun j o hj hdj h1 h2 => ?_
   have := (key j o hj hdj (by omega)).2 h2
   omega
 rw [this]; exact hv
theorem put1 (hd : drawsOk ops.toList = true) (hs : Frm nt ops Ts) {listed : Array Bool} (hc : Closed ops.toList listed) {a : Act} {ρ : Emb} (hsz : a.tmps.size = nt) (I : Slots1 ops Ts listed a ρ)
   {i : Nat} {oi : Oper} (hi : ops[i]? = some oi) (hni : ¬ InL listed i) (hr : ∀ e ∈ oi.after.toList, Region.binds .any e = true → InL listed e.on) {listed' : Array Bool} (hl : ∀ j, InL listed' j ↔ (InL listed j ∨ j = i))
   {ρ' : Emb} (hle : ρ.le ρ') {x : Value} (hx : ∀ q, oi.dst = some q → VRel ρ' (sGet (slOf q) (Ts (i + 1))) x) : Slots1 ops Ts listed' (a.put oi.dst x) ρ' := by
 intro q h5
 have hiN : i < ops.size := (Array.getElem?_eq_some_iff.1 hi).1
 by_cases hdq : oi.dst = some q
 · refine ⟨i + 1, by omega, .inr ⟨i, oi, rfl, hi, hdq⟩, fun j o hj hdj => ?_, ?_⟩
   · rw [hl]
     by_cases hji : j = i
     · subst hji; constructor
       · intro _; exact .inr rfl
       · intro _; omega
     · have := ahead1 hd hc hi hni hr (.inr hdq) hj hdj hji
       constructor
       · intro h; exact .inl (this.1 (by omega))
       · rintro (h | h)
         · have := this.2 h; omega
         · exact absurd h hji
   · have hqn := ((hs i oi hi).1 q hdq).1
     have : ((a.put oi.dst x).tmps.getD q undef) = x := by rw [hdq]; simp [Act.put, hsz, hqn]
     rw [this]; exact hx q hdq
 · obtain ⟨m, hm, hm0, hw, hv⟩ := I q h5
   refine ⟨m, hm, hm0, fun j o hj hdj => ?_, ?_⟩
   · rw [hl, hw j o hj hdj]
     constructor
     · intro h; exact .inl h
     · rintro (h | h)
       · exact h
       · subst h; rw [hi] at hj; cases hj; exact absurd hdj hdq
   · have : ((a.put oi.dst x).tmps.getD q undef) = a.tmps.getD q undef := by
       cases hdst : oi.dst with
       | none => rfl
       | some d =>
         simp only [Act.put, Array.getD_eq_getD_getElem?, Array.getElem?_setIfInBounds]
         rw [if_neg (fun e => hdq (by rw [hdst, e]))]
     rw [this]; exact VRel.up hle _ _ hv
def At1 (h h2 h3 : H) (n p : Nat) (listed : Array Bool) (ρ : Emb) (w w0 : World) : Prop :=
 (¬ InL listed n → ¬ InL listed p → HRel ρ h w w0) ∧ (InL listed n → ¬ InL listed p → HRel ρ h2 w w0) ∧ (InL listed p → (InL listed n ∨ h2 = h) ∧ HRel ρ h3 w w0)
theorem any1 (hd : drawsOk ops.toList = true) {n p : Nat} (hnp : n < p) (hn : p < ops.size) {h h2 h3 : H} (hs : Frm nt ops Ts)
   (hq : ∀ (i : Nat) o, i < p → i ≠ n → ops[i]? = some o → StepOk P nt ops i o true (Ts i) (Ts (i + 1)) h h ∧ StepOk P nt ops i o true (Ts i) (Ts (i + 1)) h2 h2 ∧ (still P o.op = true ∨ Reach ops.toList p i))
   (hR : ∀ (i : Nat) o, p < i → ops[i]? = some o → StepOk P nt ops i o true (Ts i) (Ts (i + 1)) h3 h3 ∧ (still P o.op = true ∨ Reach ops.toList i p))
   (hA : ∀ o, ops[n]? = some o → StepOk P nt ops n o true (Ts n) (Ts (n + 1)) h h2) (hB : ∀ o, ops[p]? = some o → StepOk P nt ops p o true (Ts p) (Ts (p + 1)) h2 h3) (hAB : ∀ o, ops[n]? = some o → Reach ops.toList p n ∨ (still P o.op = true ∧ h2 = h))
   {ρ0 : Emb} {w0 : World} {Q : Exit → Act → World → Prop} (hQ : ∀ ρ a w, Ext h.floor ρ0 ρ → ARel ρ nt (Ts ops.size) a → HRel ρ h3 w w0 → Q .normal a w) :
   ∀ (fuel : Nat) (listed : Array Bool) (a : Act) (w : World) (ρ : Emb), listed.size = ops.size → left ops.size listed ≤ fuel → Closed ops.toList listed → a.tmps.size = nt → a.defers = [] → Ext h.floor ρ0 ρ → Slots1 ops Ts listed a ρ → At1 h h2 h3 n p listed ρ w w0 →
     wpAny P .any ops Q fuel listed a w := by
 have hup : edgesUp 0 ops.toList = true := by simp only [drawsOk, Bool.and_eq_true] at hd; exact hd.1
 have fl2 : ∀ o, ops[n]? = some o → h2.floor = h.floor := fun o ho => by
   obtain ⟨v, g, _, e2, _, e4, _⟩ := (hA o ho).ex
   simp only [if_true] at e2 e4
   rw [e4]; exact e2.1
 have done : ∀ {listed : Array Bool} {a : Act} {w : World} {ρ : Emb}, (∀ i, i < ops.size → InL listed i) → a.tmps.size = nt → a.defers = [] → Ext h.floor ρ0 ρ → Slots1 ops Ts listed a ρ → At1 h h2 h3 n p listed ρ w w0 → Q .normal a w := fun {listed a w ρ} hall hsz hdf hE I hp => by
   refine hQ ρ a w hE ⟨hdf, hsz, fun q h5 => ?_⟩ (hp.2.2 (hall _ hn)).2
   obtain ⟨m, hm, hm0, hw, hv⟩ := I q h5
   rw [slot_same1 hs h5 hm (Nat.le_refl _) fun j o hj hdj h1 h2 => by
     have := (hw j o hj hdj).2 (hall j h2)
     omega]
   exact hv
 intro fuel
 induction fuel with
 | zero =>
   intro listed a w ρ hsz hlf hc ha hdf hE I hp
   have hall : ∀ i, i < ops.size → InL listed i := by
     intro i hi
     have h0 : (List.range ops.size).filter (fun i => !listed.getD i false) = [] := List.eq_nil_of_length_eq_zero (by unfold left at hlf; omega)
     have := List.filter_eq_nil_iff.1 h0 i (List.mem_range.2 hi)
     unfold InL
     simpa using this
   refine ⟨?_, done hall ha hdf hE I hp⟩
   rw [List.eq_nil_iff_forall_not_mem]
   intro j hj
   obtain ⟨hj1, o, hj2, _⟩ := mem_ready.1 hj
   have hjN : j < ops.size := (Array.getElem?_eq_some_iff.1 hj2).1
   have := hall j hjN
   unfold InL at this
   have hjl : j < listed.size := by omega
   simp [hjl] at this hj1
   rw [this] at hj1; cases hj1
 | succ fuel ih =>
   intro listed a w ρ hsz hlf hc ha hdf hE I hp
   constructor
   · intro hready
     by_cases hall : ∀ i, i < ops.size → InL listed i
     · exact done hall ha hdf hE I hp
     · exfalso
       have hex : ∃ i, i < ops.size ∧ ¬ InL listed i := by
         refine Classical.byContradiction fun h => hall fun i hi => Classical.byContradiction fun h' => h ⟨i, hi, h'⟩
       have hleast : ∃ i, (i < ops.size ∧ ¬ InL listed i) ∧ ∀ j, j < i → ¬ (j < ops.size ∧ ¬ InL listed j) := by
         obtain ⟨i, hi⟩ := hex
         induction i using Nat.strongRecOn with
         | _ i ihh =>
           by_cases h : ∃ j, j < i ∧ (j < ops.size ∧ ¬ InL listed j)
           · obtain ⟨j, hj, hj'⟩ := h
             exact ihh j hj hj'
           · exact ⟨i, hi, fun j hj h' => h ⟨j, hj, h'⟩⟩
       obtain ⟨i, ⟨hi1, hi2⟩, hi3⟩ := hleast
       have hio : ops[i]? = some (ops[i]'hi1) := Array.getElem?_eq_getElem _
       have : i ∈ Region.ready .any ops listed := by
         rw [mem_ready]
         refine ⟨?_, _, hio, fun e he hb => ?_⟩
         · have hil : i < listed.size := by omega
           unfold InL at hi2
           simp [hil] at hi2 ⊢
           exact hi2
         · have hlt := edgesUp_ok ops.toList 0 hup i _ ((Array.getElem?_toList (xs := ops) (i := i)).trans hio) e (by simpa using he) hb
           have := Classical.byContradiction fun h => hi3 e.on (by omega) ⟨by omega, h⟩
           exact this
       rw [hready] at this; cases this
   · intro i hi
     obtain ⟨hi1, o, hi2, hi3⟩ := mem_ready.1 hi
     have hiN : i < ops.size := (Array.getElem?_eq_some_iff.1 hi2).1
     have hil : i < listed.size := by omega
     have hni : ¬ InL listed i := by
       unfold InL
       simp [hil] at hi1 ⊢
       exact hi1
     have hi2' : ops.toList[i]? = some o := (Array.getElem?_toList (xs := ops) (i := i)).trans hi2
     have hr : ∀ e ∈ o.after.toList, Region.binds .any e = true → InL listed e.on := fun e he hb => hi3 e (by simpa using he) hb
     have hl : ∀ j, InL (listed.setIfInBounds i true) j ↔ (InL listed j ∨ j = i) := by
       intro j
       unfold InL
       rw [Array.getD_eq_getD_getElem?, Array.getD_eq_getD_getElem?, Array.getElem?_setIfInBounds]
       by_cases hji : i = j
       · subst hji; simp [hil]
       · rw [if_neg hji]
         constructor
         · intro h; exact .inl h
         · rintro (h | h)
           · exact h
           · exact absurd h.symm hji
     have hdfx : ∀ x, (a.put o.dst x).defers = [] := fun x => by cases o.dst <;> exact hdf
     have hszx : ∀ x, (a.put o.dst x).tmps.size = nt := fun x => by cases o.dst <;> simp [Act.put, ha]
     have hlook := look1 hd hs hc ha I hi2 hni hr
     have hlf' : left ops.size (listed.setIfInBounds i true) ≤ fuel := by
       have : left ops.size (listed.setIfInBounds i true) < left ops.size listed := by
         unfold left
         refine filter_less _ _ _ (fun x _ hx => ?_) ⟨i, List.mem_range.2 hiN, ?_, ?_⟩
         · have := hl x
           unfold InL at this
           cases hx1 : listed.getD x false with
           | false => rfl
           | true => rw [this.2 (.inl hx1)] at hx; exact hx
         · unfold InL at hni
           simpa using hni
         · have := (hl i).2 (.inr rfl)
           unfold InL at this
           rw [this]; rfl
       omega
     have hc' : Closed ops.toList (listed.setIfInBounds i true) := by
       intro j oj hj hjin e he hb
       rw [hl] at hjin ⊢
       left
       rcases hjin with h | h
       · exact hc j oj hj h e he hb
       · subst h
         rw [hj] at hi2'; cases hi2'
         exact hr e he hb
     have reach : ∀ j, Reach ops.toList i j → InL listed j := fun j hR => hR.inL hc fun o' ho e he hb => by rw [hi2'] at ho; cases ho; exact hr e he hb
     -- the step, whichever it is
     have step : ∀ (g g' : H), StepOk P nt ops i o true (Ts i) (Ts (i + 1)) g g' → g.floor = h.floor → HRel ρ g w w0 → (∀ ρ' w', HRel ρ' g' w' w0 → At1 h h2 h3 n p (listed.setIfInBounds i true) ρ' w' w0) → wpOp P ops Q i (wpAny P .any ops Q fuel (listed.setIfInBounds i true)) a w := fun g g' S hfl R hAt => by
       obtain ⟨v, g2, e1, e2, e3, e4, e5, e6⟩ := S.ex
       simp only [if_true] at e2 e4 e5
       refine e5 ρ a w w0 _ Q hlook R fun ρ' x w' l1 l2 l3 => ?_
       rw [← e4] at l3
       refine ih _ _ w' ρ' (by simpa using hsz) hlf' hc' (hszx x) (hdfx x) (hE.trans (by rw [← hfl]; exact l1)) (put1 hd hs hc ha I hi2 hni hr hl l1.1 fun q hq => by rw [e1 q hq]; exact l2) (hAt ρ' w' l3)
     have hno : ops[n]? = some (ops[n]'(by omega)) := Array.getElem?_eq_getElem _
     by_cases hin : i = n
     · subst hin
       by_cases hBl : InL listed p
       · rcases hAB o hi2 with hR | ⟨S3, he⟩
         · exact absurd (hR.inL hc fun o' ho e he hb => hc p o' ho hBl e he hb) hni
         · obtain ⟨v, g2, e1, e2, e3, e4, e5, e6⟩ := (hA o hi2).ex
           refine e6 S3 ρ a w _ Q hlook fun x hx => ih _ _ w ρ (by simpa using hsz) hlf' hc' (hszx x) (hdfx x) hE (put1 hd hs hc ha I hi2 hni hr hl (Emb.le_refl ρ) fun q hq => by rw [e1 q hq]; exact hx) ?_
           exact ⟨fun _ h1 => absurd ((hl p).2 (.inl hBl)) h1, fun _ h1 => absurd ((hl p).2 (.inl hBl)) h1, fun _ => ⟨.inr he, (hp.2.2 hBl).2⟩⟩
       have hB' : ¬ InL (listed.setIfInBounds i true) p := fun h => by rcases (hl _).1 h with h | h; exact hBl h; omega
       exact step h h2 (hA o hi2) rfl (hp.1 hni hBl) fun ρ' w' R => ⟨fun h1 => absurd ((hl i).2 (.inr rfl)) h1, fun _ _ => R, fun h1 => absurd h1 hB'⟩
     by_cases hip : i < p
     · obtain ⟨S1, S2, S3⟩ := hq i o hip hin hi2
       by_cases hBl : InL listed p
       · -- a still one, behind all
         rcases S3 with S3 | S3
         · obtain ⟨v, g2, e1, e2, e3, e4, e5, e6⟩ := S1.ex
           refine e6 S3 ρ a w _ Q hlook fun x hx => ih _ _ w ρ (by simpa using hsz) hlf' hc' (hszx x) (hdfx x) hE (put1 hd hs hc ha I hi2 hni hr hl (Emb.le_refl ρ) fun q hq => by rw [e1 q hq]; exact hx) ?_
           obtain ⟨p1, p2⟩ := hp.2.2 hBl
           exact ⟨fun _ h1 => absurd ((hl p).2 (.inl hBl)) h1, fun _ h1 => absurd ((hl p).2 (.inl hBl)) h1, fun _ => ⟨p1.imp (fun p1 => (hl n).2 (.inl p1)) fun h => h, p2⟩⟩
         · exact absurd (S3.inL hc fun o' ho e he hb => hc p o' ho hBl e he hb) hni
       · have hB' : ¬ InL (listed.setIfInBounds i true) p := fun h => by rcases (hl _).1 h with h | h; exact hBl h; omega
         by_cases hAl : InL listed n
         · exact step h2 h2 S2 (fl2 _ hno) (hp.2.1 hAl hBl) fun ρ' w' R => ⟨fun h1 => absurd ((hl n).2 (.inl hAl)) h1, fun _ _ => R, fun h1 => absurd h1 hB'⟩
         · have hA' : ¬ InL (listed.setIfInBounds i true) n := fun h => by rcases (hl _).1 h with h | h; exact hAl h; omega
           exact step h h S1 rfl (hp.1 hAl hBl) fun ρ' w' R => ⟨fun _ _ => R, fun h1 => absurd h1 hA', fun h1 => absurd h1 hB'⟩
     by_cases hip2 : i = p
     · subst hip2
       have hAl : InL listed n ∨ h2 = h := (hAB _ hno).imp (fun h => reach n h) fun h => h.2
       have hR2 : HRel ρ h2 w w0 := by
         by_cases hl1 : InL listed n
         · exact hp.2.1 hl1 hni
         · have := hp.1 hl1 hni
           rcases hAl with h | h
           · exact absurd h hl1
           · rw [h]; exact this
       exact step h2 h3 (hB o hi2) (fl2 _ hno) hR2 fun ρ' w' R => ⟨fun _ h1 => absurd ((hl i).2 (.inr rfl)) h1, fun _ h1 => absurd ((hl i).2 (.inr rfl)) h1, fun _ => ⟨hAl.imp (fun h => (hl n).2 (.inl h)) fun h => h, R⟩⟩
     · obtain ⟨S1, S3⟩ := hR i o (by omega) hi2
       have nol : ∀ j, j ≠ i → InL (listed.setIfInBounds i true) j → InL listed j := fun j hj h1 => ((hl j).1 h1).resolve_right hj
       have up : ∀ ρ' w', (InL listed p → HRel ρ' h3 w' w0) → (¬ InL listed p → ρ' = ρ ∧ w' = w) → At1 h h2 h3 n p (listed.setIfInBounds i true) ρ' w' w0 := fun ρ' w' k1 k2 => ⟨fun h1 h2' => by
           have n1 : ¬ InL listed n := fun e => h1 ((hl n).2 (.inl e))
           have n2 : ¬ InL listed p := fun e => h2' ((hl p).2 (.inl e))
           obtain ⟨rfl, rfl⟩ := k2 n2; exact hp.1 n1 n2, fun h1 h2' => by
           have n2 : ¬ InL listed p := fun e => h2' ((hl p).2 (.inl e))
           obtain ⟨rfl, rfl⟩ := k2 n2; exact hp.2.1 (nol n (by omega) h1) n2, fun h1 => by
           have n2 := nol p (by omega) h1
           exact ⟨(hp.2.2 n2).1.imp (fun e => (hl n).2 (.inl e)) fun e => e, k1 n2⟩⟩
       by_cases hBl : InL listed p
       · obtain ⟨p1, p2⟩ := hp.2.2 hBl
         have f3 : h3.floor = h.floor := by
           have hpo : ops[p]? = some (ops[p]'hn) := Array.getElem?_eq_getElem _
           obtain ⟨v, g, _, e2, _, e4, _⟩ := (hB _ hpo).ex
           simp only [if_true] at e2 e4
           rw [e4, e2.1]; exact fl2 _ hno
         exact step h3 h3 S1 f3 p2 fun ρ' w' R => up ρ' w' (fun _ => R) fun e => absurd hBl e
       · rcases S3 with S3 | S3
         · obtain ⟨v, g2, e1, e2, e3, e4, e5, e6⟩ := S1.ex
           exact e6 S3 ρ a w _ Q hlook fun x hx => ih _ _ w ρ (by simpa using hsz) hlf' hc' (hszx x) (hdfx x) hE (put1 hd hs hc ha I hi2 hni hr hl (Emb.le_refl ρ) fun q hq => by rw [e1 q hq]; exact hx) (up ρ w (fun e => absurd e hBl) fun _ => ⟨rfl, rfl⟩)
         · exact absurd (reach p S3) hBl
def Ops2 (P : Program) : List CO → F → H → H → F → Prop
 | [], t, _, _, t' => t' = t
 | o :: l, t, h, h2, t' => ∃ t1, OpRel P o t h t1 h ∧ OpRel P o t h2 t1 h2 ∧ Ops2 P l t1 h h2 t'
theorem stepOf {nt : Nat} {ops : Array Oper} {i : Nat} {o : Oper} (hi : ops[i]? = some o) {b : Bool} {t t1 : F} {h h1 : H} (a : OpRel P ⟨compG nt ops.toList o.guard, dOf nt o.dst, b, compOp P o.op⟩ t h t1 h1) : StepOk P nt ops i o true t t1 h h1 := by
 have a' : DrRel P ⟨compG nt ops.toList o.guard, dOf nt o.dst, true, compOp P o.op⟩ t h t1 h1 := a
 obtain ⟨cf, hcf, e⟩ := drRel_run a'
 obtain ⟨t1', h1', a1, a2⟩ := dr_step hcf hi (ih := fun t h k => k t h) (k := fun _ _ => true) (e _ _)
 obtain ⟨rfl, rfl⟩ := same_of (fun k => (e (fun t h k => k t h) k).symm.trans (a1 k))
 exact a2
theorem ops2_trace {nt : Nat} {ops : Array Oper} (bars : Nat → Bool) {h h2 : H} : ∀ (l : List Oper) (n : Nat) (rest : List Oper), ops.toList.drop n = l ++ rest → ∀ (t t' : F),
   Ops2 P (compOpsWith bars P nt ops.toList (compOp P) n l) t h h2 t' →
   ∃ Ts : Nat → F, Ts n = t ∧ Ts (n + l.length) = t' ∧ ∀ (i : Nat) o, n ≤ i → i < n + l.length → ops[i]? = some o → StepOk P nt ops i o true (Ts i) (Ts (i + 1)) h h ∧ StepOk P nt ops i o true (Ts i) (Ts (i + 1)) h2 h2 := by
 intro l
 induction l with
 | nil =>
   intro n rest hl t t' hk
   obtain rfl : t' = t := hk
   exact ⟨fun _ => t', rfl, rfl, fun i o h1 h2 => by simp at h2; omega⟩
 | cons o l ih =>
   intro n rest hl t t' hk
   have hn : ops[n]? = some o := by
     have : ops.toList[n]? = some o := by
       have := congrArg (fun l => l[0]?) hl
       simpa using this
     simpa using this
   obtain ⟨t1, k1, k2, k3⟩ := hk
   have hl' : ops.toList.drop (n + 1) = l ++ rest := by rw [← List.drop_drop, hl]; rfl
   obtain ⟨Ts, b1, b2, b3⟩ := ih (n + 1) rest hl' _ _ k3
   refine ⟨fun i => if i = n then t else Ts i, by simp, ?_, fun i oi h1 h2 hi => ?_⟩
   · have e1 : n + (o :: l).length = n + 1 + l.length := by simp; omega
     rw [e1]
     simp only [show ¬ n + 1 + l.length = n by omega, if_false]
     exact b2
   · by_cases hin : i = n
     · subst hin
       rw [hn] at hi
       cases hi
       simp only [if_true, show ¬ i + 1 = i by omega, if_false, b1]
       exact ⟨stepOf hn k1, stepOf hn k2⟩
     · simp only [hin, if_false, show ¬ i + 1 = n by omega]
       exact b3 i oi (by omega) (by simp at h2; omega) hi
theorem cow_app {bars : Nat → Bool} {nt : Nat} {all : List Oper} {cop : Op → CR} : ∀ {X : List CO} {l : List Oper} {n : Nat} {Y : List CO}, compOpsWith bars P nt all cop n l = X ++ Y →
   ∃ lx ly, l = lx ++ ly ∧ compOpsWith bars P nt all cop n lx = X ∧ compOpsWith bars P nt all cop (n + lx.length) ly = Y := by
 intro X
 induction X with
 | nil => intro l n Y h; exact ⟨[], l, rfl, rfl, h⟩
 | cons p X ih =>
   intro l n Y h
   match l, h with
   | [], h => cases h
   | o :: l, h =>
     have h1 := (List.cons.inj h).1
     obtain ⟨lx, ly, e1, e2, e3⟩ := ih (List.cons.inj h).2
     refine ⟨o :: lx, ly, by rw [e1]; rfl, by show _ :: compOpsWith bars P nt all cop (n + 1) lx = _; rw [e2, h1], ?_⟩
     rw [← e3, show n + (o :: lx).length = n + 1 + lx.length by simp; omega]
theorem cow_cons {bars : Nat → Bool} {nt : Nat} {all : List Oper} {cop : Op → CR} {l : List Oper} {n : Nat} {A : CO} {Y : List CO} (h : compOpsWith bars P nt all cop n l = A :: Y) :
   ∃ o l', l = o :: l' ∧ A = ⟨compG nt all o.guard, dOf nt o.dst, bars n, cop o.op⟩ ∧ compOpsWith bars P nt all cop (n + 1) l' = Y := by
 match l, h with
 | [], h => cases h
 | o :: l, h => exact ⟨o, l, rfl, (List.cons.inj h).1.symm, (List.cons.inj h).2⟩
theorem Ok.dw1 (hm : P.follows .mixedOrders = true) {nt : Nat} {t t1 t2 t3 t4 t5 : F} {h h2 h3 : H} {K : X → F → H → Prop} {pre mid rest : List CO} {A : CO} {g : G} {d : D} {r : CR}
   (p1 : Ops2 P pre t h h2 t1) (p2 : OpRel P A t1 h t2 h2) (p3 : Ops2 P mid t2 h h2 t3) (p4 : OpRel P (.mk g d true r) t3 h2 t4 h3) (p5 : Ops2 P rest t4 h3 h3 t5) (k : K .normal t5 h3) : Ok P nt (.draws (pre ++ A :: (mid ++ .mk g d true r :: rest))) t h K := by
 refine ⟨.normal, t5, h3, by_scopes _ fun c e' hs => ?_, k⟩
 cases c with
 | region id ops draw =>
   have e1 : compRegion P nt ops.toList draw = .draws (pre ++ A :: (mid ++ .mk g d true r :: rest)) := e'
   unfold compRegion at e1
   split at e1
   · cases e1
   · split at e1
     · rename_i hd
       obtain ⟨lp, l1, q1, q2, q3⟩ := cow_app (CC.draws.inj e1)
       obtain ⟨oa, l2, rfl, q4, q5⟩ := cow_cons q3
       obtain ⟨lm, l3, rfl, q6, q7⟩ := cow_app q5
       obtain ⟨ob, lr, rfl, q8, q9⟩ := cow_cons q7
       rw [Nat.zero_add] at q4 q6 q8 q9
       have hop : ∀ (i : Nat) o, ops.toList[i]? = some o → ops[i]? = some o := fun i o e => by simpa using e
       generalize hb0 : lp.length + 1 + lm.length = b at *
       have hn : ops.size = b + 1 + lr.length := by have := congrArg List.length q1; simp at this; omega
       have ha : ops[lp.length]? = some oa := hop _ _ (by rw [q1]; simp)
       have hb : ops[b]? = some ob := hop _ _ (by rw [q1, ← hb0, List.getElem?_append_right (by omega), show lp.length + 1 + lm.length - lp.length = lm.length + 1 by omega, List.getElem?_cons_succ]; simp)
       obtain ⟨T0, b1, b2, b3⟩ := ops2_trace (P := P) (nt := nt) (ops := ops) (h := h) (h2 := h2) _ lp 0 _ (by rw [List.drop_zero]; exact q1) t t1 (by rw [q2]; exact p1)
       rw [Nat.zero_add] at b2 b3
       obtain ⟨T1, c1, c2, c3⟩ := ops2_trace (P := P) (nt := nt) (ops := ops) (h := h) (h2 := h2) _ lm (lp.length + 1) _ (by rw [q1, ← List.drop_drop, List.drop_left]; rfl) t2 t3 (by rw [q6]; exact p3)
       obtain ⟨T2, d1, d2, d3⟩ := ops2_trace (P := P) (nt := nt) (ops := ops) (h := h3) (h2 := h3) _ lr (b + 1) [] (by rw [q1, ← hb0, List.append_nil, show lp.length + 1 + lm.length + 1 = lp.length + (1 + (lm.length + 1)) by omega, ← List.drop_drop, List.drop_left, ← List.drop_drop, List.drop_one, List.tail_cons, ← List.drop_drop, List.drop_left]; rfl) t4 t5 (by rw [q9]; exact p5)
       rw [hb0] at c2 c3
       have hbar : barAt P ops.toList (befs ops.toList []) b = true := by
         injection q8 with _ _ e _
         exact e.symm
       have hup : edgesUp 0 ops.toList = true := by simp only [drawsOk, Bool.and_eq_true] at hd; exact hd.1
       have hbr : ∀ (j : Nat) o, j ≠ b → ops[j]? = some o → still P o.op = false → (j < b → Reach ops.toList b j) ∧ (b < j → Reach ops.toList j b) := fun j o hj ho hst => by
         rcases bar_ok hbar ((Array.getElem?_toList (xs := ops) (i := j)).trans ho) hst (Ne.symm hj) with h | h
         · have := h.lt hup; exact ⟨fun _ => by omega, fun _ => h⟩
         · have := h.lt hup; exact ⟨fun _ => h, fun _ => by omega⟩
       have SA := stepOf ha (by rw [q4] at p2; exact p2)
       have SB := stepOf hb (by have e := q8; rw [hbar] at e; rw [e] at p4; exact p4)
       let Ts : Nat → F := fun i => if i ≤ lp.length then T0 i else if i ≤ b then T1 i else T2 i
       have U0 : ∀ i, i ≤ lp.length → Ts i = T0 i := fun i hi => if_pos hi
       have U1 : ∀ i, lp.length < i → i ≤ b → Ts i = T1 i := fun i hi hj => by
         show (if _ then _ else _) = _
         rw [if_neg (by omega), if_pos hj]
       have U2 : ∀ i, b < i → Ts i = T2 i := fun i hi => by
         show (if _ then _ else _) = _
         rw [if_neg (by omega), if_neg (by omega)]
       have hA : ∀ o, ops[lp.length]? = some o → StepOk P nt ops lp.length o true (Ts lp.length) (Ts (lp.length + 1)) h h2 := fun o ho => by
         rw [ha] at ho; cases ho
         rw [U0 _ (Nat.le_refl _), U1 _ (by omega) (by omega), b2, c1]; exact SA
       have hB : ∀ o, ops[b]? = some o → StepOk P nt ops b o true (Ts b) (Ts (b + 1)) h2 h3 := fun o ho => by
         rw [hb] at ho; cases ho
         rw [U1 _ (by omega) (Nat.le_refl _), U2 _ (by omega), c2, d1]; exact SB
       have hq : ∀ (i : Nat) o, i < b → i ≠ lp.length → ops[i]? = some o → StepOk P nt ops i o true (Ts i) (Ts (i + 1)) h h ∧ StepOk P nt ops i o true (Ts i) (Ts (i + 1)) h2 h2 ∧ (still P o.op = true ∨ Reach ops.toList b i) := fun i o hi hne ho => by
         have fin : still P o.op = true ∨ Reach ops.toList b i := by
           cases hst : still P o.op with
           | true => exact .inl rfl
           | false => exact .inr ((hbr i o (by omega) ho hst).1 hi)
         by_cases e : i < lp.length
         · rw [U0 i (by omega), U0 (i + 1) (by omega)]
           obtain ⟨x1, x2⟩ := b3 i o (Nat.zero_le _) e ho
           exact ⟨x1, x2, fin⟩
         · rw [U1 i (by omega) (by omega), U1 (i + 1) (by omega) (by omega)]
           obtain ⟨x1, x2⟩ := c3 i o (by omega) hi ho
           exact ⟨x1, x2, fin⟩
       have hR : ∀ (i : Nat) o, b < i → ops[i]? = some o → StepOk P nt ops i o true (Ts i) (Ts (i + 1)) h3 h3 ∧ (still P o.op = true ∨ Reach ops.toList i b) := fun i o hi ho => by
         have : i < ops.size := (Array.getElem?_eq_some_iff.1 ho).1
         rw [U2 i hi, U2 (i + 1) (by omega)]
         refine ⟨(d3 i o (by omega) (by omega) ho).1, ?_⟩
         cases hst : still P o.op with
         | true => exact .inl rfl
         | false => exact .inr ((hbr i o (by omega) ho hst).2 hi)
       have hs : Frm nt ops Ts := fun i o ho => by
         have S : ∃ g g', StepOk P nt ops i o true (Ts i) (Ts (i + 1)) g g' := by
           by_cases e : i = lp.length
           · subst e; exact ⟨_, _, hA o ho⟩
           · rcases Nat.lt_trichotomy i b with h1 | h1 | h1
             · exact ⟨_, _, (hq i o h1 e ho).1⟩
             · subst h1; exact ⟨_, _, hB o ho⟩
             · exact ⟨_, _, (hR i o h1 ho).1⟩
         obtain ⟨g, g', S⟩ := S
         exact ⟨S.dst, S.rest⟩
       have hAB : ∀ o, ops[lp.length]? = some o → Reach ops.toList b lp.length ∨ (still P o.op = true ∧ h2 = h) := fun o ho => by
         cases hst : still P o.op with
         | false => exact .inl ((hbr _ o (by omega) ho hst).1 (by omega))
         | true => exact .inr ⟨rfl, (hA o ho).calm hst⟩
       obtain ⟨va, ga, _, ea2, ea3, ea4, _⟩ := SA.ex
       obtain ⟨vb, gb, _, eb2, eb3, eb4, _⟩ := SB.ex
       simp only [if_true] at ea2 ea4 eb2 eb4
       rw [← ea4] at ea2 ea3
       rw [← eb4] at eb2 eb3
       refine ⟨KeepF.trans ea2 ea3 eb2, Nat.le_trans ea3 eb3, fun ρ a w w0 Q A R hQ => wp_region_any hm ?_⟩
       refine any1 hd (by omega) (by omega) hs hq hR hA hB hAB (ρ0 := ρ) (w0 := w0) (fun ρ' a' w' q1 q2 q3 => hQ ρ' a' w' q1 (by rw [hn, U2 _ (by omega), d2] at q2; exact q2) q3) ops.size _ a _ ρ (by simp) (by unfold left; exact Nat.le_trans (List.length_filter_le _ _) (by simp)) ?_ A.size A.defers (Ext.refl _ _) ?_ ?_
       · intro j o hj hin
         unfold InL at hin
         by_cases hj2 : j < ops.size <;> simp [hj2] at hin
       · intro q h5
         refine ⟨0, Nat.zero_le _, .inl rfl, fun j o hj hdj => ⟨fun h => by omega, fun hin => ?_⟩, by rw [U0 0 (Nat.zero_le _), b1]; exact A.slot q h5⟩
         unfold InL at hin
         by_cases hj2 : j < ops.size <;> simp [hj2] at hin
       · have hno : ∀ j, ¬ InL (Array.replicate ops.size false) j := by
           intro j; unfold InL
           by_cases hj : j < ops.size <;> simp [hj]
         exact ⟨fun _ _ => R.dr _, fun h => absurd h (hno _), fun h => absurd h (hno _)⟩
     · cases e1
 | scope d => exact absurd rfl (hs d)
 | _ => cases e'
def DW (P : Program) (nt : Nat) (l : List CO) (t : F) (h : H) (K : X → F → H → Prop) : Prop := Ok P nt (.draws l) t h K
theorem dwStop {nt : Nat} {l : List CO} {t : F} {h : H} {K : X → F → H → Prop} (a : DW P nt l t h K) : Ok P nt (.draws l) t h K := a
theorem DW.gen (hm : P.follows .mixedOrders = true) {nt : Nat} {t t1 t2 t3 t4 t5 : F} {h h2 h3 : H} {K : X → F → H → Prop} {l pre mid rest : List CO} {A : CO} {g : G} {d : D} {r : CR} (hl : l = pre ++ A :: (mid ++ .mk g d true r :: rest))
   (p1 : Ops2 P pre t h h2 t1) (p2 : OpRel P A t1 h t2 h2) (p3 : Ops2 P mid t2 h h2 t3) (p4 : OpRel P (.mk g d true r) t3 h2 t4 h3) (p5 : Ops2 P rest t4 h3 h3 t5) (k : K .normal t5 h3) : DW P nt l t h K := by
 unfold DW
 rw [hl]
 exact Ok.dw1 hm p1 p2 p3 p4 p5 k
theorem DW.two (hm : P.follows .mixedOrders = true) {nt : Nat} {t t1 t2 t3 : F} {h h2 h3 : H} {K : X → F → H → Prop} {l pre : List CO} {A : CO} {g : G} {d : D} {r : CR} (hl : l = pre ++ [A, .mk g d true r])
   (p1 : Ops2 P pre t h h2 t1) (p2 : OpRel P A t1 h t2 h2) (p3 : OpRel P (.mk g d true r) t2 h2 t3 h3) (k : K .normal t3 h3) : DW P nt l t h K := DW.gen (mid := []) (rest := []) hm hl p1 p2 rfl p3 rfl k
section
variable {r : Run} {t t' : F} {h h1 h2 : H} {v : V} {n : Nat} {b : Bool} {l : List CO}
theorem ops2_c (a : RunRel P (.mk r) t h v h) (a2 : RunRel P (.mk r) t h2 v h2) (k : Ops2 P l (put n v t) h h2 t') : Ops2 P (.mk .none (.some (slOf n)) b (.mk r) :: l) t h h2 t' :=
 ⟨_, ⟨true, fun _ => rfl, .inl ⟨rfl, v, a, fun k => putS k⟩⟩, ⟨true, fun _ => rfl, .inl ⟨rfl, v, a2, fun k => putS k⟩⟩, k⟩
theorem opRel_c (a : RunRel P (.mk r) t h v h1) : OpRel P (.mk .none (.some (slOf n)) b (.mk r)) t h (put n v t) h1 := ⟨true, fun _ => rfl, .inl ⟨rfl, v, a, fun k => putS k⟩⟩
theorem opRel_0 (a : RunRel P (.mk r) t h v h1) : OpRel P (.mk .none .none b (.mk r)) t h t h1 := ⟨true, fun _ => rfl, .inl ⟨rfl, v, a, fun k => rfl⟩⟩
theorem ops2_u (n : Nat) (r : Run) (v : V) (a : RunRel P (.mk r) t h v h) (a2 : RunRel P (.mk r) t h2 v h2) (k : Ops2 P l (put n v t) h h2 t') : Ops2 P (uB n r :: l) t h h2 t' := ops2_c a a2 k
theorem ops2_n : Ops2 P [] t h h2 t := rfl
theorem opRel_u (n : Nat) (r : Run) (a : RunRel P (.mk r) t h v h1) : OpRel P (uB n r) t h (put n v t) h1 := opRel_c a
theorem dw_gen {nt : Nat} {K : X → F → H → Prop} (a : ∀ T, T = t → DW P nt l T h K) : DW P nt l t h K := a t rfl
theorem or_run {K : F → H → Prop} (a : OR P r t h (.w0 [] t K)) : ∃ v h', RunRel P (.mk r) t h v h' ∧ K t h' := by
 obtain ⟨v, h', rr, k⟩ := a
 rw [go_w0, wo_nil] at k
 exact ⟨v, h', rr, k⟩
theorem rv_of (a : OR P r t h (.w 0 [] F.zero fun t' h' => get 0 t' = v ∧ h' = h)) : RunRel P (.mk r) t h v h := by
 obtain ⟨v', h', rr, k⟩ := a
 rw [go_w, wo_nil, get_put', if_pos rfl] at k
 obtain ⟨rfl, rfl⟩ := k
 exact rr
theorem run_appS {el : Nat} {s x : O} {u : V} {c : List UInt8} (e1 : oV s t = u) (e2 : oV x t = sv c) (a : ∀ k, append2 el 1 u c.length (c.map bv) h k = k v h1) : RunRel P (.mk (doAppendS el s x)) t h v h1 := by
 refine ⟨_, cfSome P, fun k => ?_⟩
 show oK x t (fun x => newCellsS x fun n vs => oK s t fun s => append2 el 1 s n vs h k) = _
 rw [oK_eq, e2]
 show unpK c.length (pk c) [] (fun vs => oK s t fun s => append2 el 1 s c.length vs h k) = _
 rw [unpK_map _ _ _ _ rfl, List.append_nil, oK_eq, e1, a]
end
end
end Go.Ev

set_option maxRecDepth 100000
set_option maxHeartbeats 8000000
set_option linter.all false
namespace Go.Proofs.Ytjlhfoadabkahaa
open Go Go.Ev
section
variable {P : Program} {h h' : H} {N : Nx}
noncomputable def fileV (q : B) (g n : Nat) : V := .l q g 0 n n (capF n)
def fOf (v : V) (q : B) : Prop := ∃ g off n fin cap, v = .l q g off n fin cap ∧ cap ≠ some 0
def FileM (h : H) (v : V) (bs : List UInt8) : Prop :=
 (bs = [] ∧ ∃ id g off fin, v = .l id g off 0 fin (some 0)) ∨
 ∃ q g blk, v = fileV q g bs.length ∧ B.val h.floor ≤ B.val q ∧ B.val q < B.val h.next ∧ h.heap.get q = some blk ∧ blk.min ≤ g ∧ g ≤ blk.cur ∧ bs.length ≤ blk.size ∧ blk.el = 5 ∧ blk.fr ≤ 1 ∧ ∀ i y, (bs.map bv)[i]? = some y → blk.cells.getN i = some y
theorem capF_no0 (n : Nat) : capF n ≠ some 0 := by cases n with | zero => intro h; cases h | succ n => intro h; cases h
theorem fOf_file {q p : B} {g n : Nat} (a : fOf (fileV q g n) p) : p = q := by obtain ⟨_, _, _, _, _, e, _⟩ := a; cases e; rfl
theorem fOf_mk (q : B) (g n : Nat) : fOf (fileV q g n) q := ⟨g, 0, n, n, _, rfl, capF_no0 n⟩
theorem FileM.sl {v : V} {bs : List UInt8} (a : FileM h v bs) : IsSl v ∧ lenV v = bs.length := by
 rcases a with ⟨rfl, id, g, off, fin, rfl⟩ | ⟨q, g, blk, rfl, _⟩
 · exact ⟨.inr ⟨_, _, _, _, _, _, rfl⟩, rfl⟩
 · exact ⟨.inr ⟨_, _, _, _, _, _, rfl⟩, rfl⟩
theorem FileM.ln {v : V} {bs : List UInt8} {g : H} (a : FileM h v bs) : H1 P gLen v g N = N.go P (.i .i64 (bs.length : Int)) g := by rw [a.sl.1.ln, a.sl.2]
theorem FileM.stay {p : B → Prop} {v : V} {bs : List UInt8} (a : FileM h v bs) (s : Stay p h h') (hp : ∀ q, fOf v q → ¬ p q) : FileM h' v bs := by
 rcases a with ⟨rfl, id, g, off, fin, rfl⟩ | ⟨q, g, blk, rfl, a1, a2, a3, a4⟩
 · exact .inl ⟨rfl, _, _, _, _, rfl⟩
 · exact .inr ⟨q, g, blk, rfl, by rw [s.floor]; exact a1, Nat.lt_of_lt_of_le a2 s.next, (s.get q a2 (hp q (fOf_mk ..))).trans a3, a4⟩
theorem FileM.own {v : V} {bs : List UInt8} (a : FileM h v bs) {q : B} (hq : fOf v q) : B.val h.floor ≤ B.val q ∧ B.val q < B.val h.next := by
 rcases a with ⟨rfl, id, g, off, fin, rfl⟩ | ⟨p, g, blk, rfl, a1, a2, a3, a4⟩
 · obtain ⟨_, _, _, _, _, e, e2⟩ := hq
   cases e; exact absurd rfl e2
 · rw [fOf_file hq]; exact ⟨a1, a2⟩
theorem FileM.rd {v : V} {bs : List UInt8} (a : FileM h v bs) : RdB h v bs := fun N => by
 rcases a with ⟨rfl, id, g, off, fin, rfl⟩ | ⟨q, g, blk, rfl, a1, a2, a3, a4, a5, a6, a7, a8, a9⟩
 · exact hv_of fun k => rfl
 · cases bs with
   | nil => exact hv_of fun k => rfl
   | cons c r =>
     have hL : Lst h (fileV q g (c :: r).length) ((c :: r).map bv) := by
       refine .inr ⟨q, g, 0, (c :: r).length, capF (c :: r).length, by rw [List.length_map]; rfl, by rw [List.length_map]; omega, a2, fun _ => ⟨blk, a3, a4⟩, fun i y hy => ?_⟩
       unfold Ev.cell cellB
       rw [a3]
       show (if blk.min ≤ g then blk.cells.getN (0 + i) else none) = _
       rw [if_pos a4, Nat.zero_add]
       exact a9 i y hy
     exact hL.bs (by simp)
noncomputable def fCut (v : V) (k : Nat) : V := match v with
 | .l q g off _ fin cap => if cap = some 0 then v else .l q g off k k (capF k)
 | _ => v
theorem fCut_of {v : V} {k : Nat} {q : B} (a : fOf (fCut v k) q) : fOf v q := by
 unfold fCut at a
 split at a
 · split at a
   · exact a
   · rename_i h
     obtain ⟨g, off, n, fin, cap, e, e2⟩ := a
     cases e
     exact ⟨_, _, _, _, _, rfl, h⟩
 · exact a
theorem capS_F {k n : Nat} (h : 1 ≤ n) : capS k n = capF k := by
 cases k with
 | zero => cases n with | zero => omega | succ n => rfl
 | succ k => rfl
theorem FileM.cut {v : V} {bs : List UInt8} {k : Nat} (a : FileM h v bs) (hk : k ≤ bs.length) : FileM h (fCut v k) (bs.take k) ∧ ∀ (kd : IntKind) (g : H) (N : Nx), H2 P (slHiV 1) v (.i kd (k : Int)) g N = N.go P (fCut v k) g := by
 have e0 : Nat.ble 0 k = true := by rw [Nat.ble_eq]; exact Nat.zero_le _
 rcases a with ⟨rfl, id, g, off, fin, rfl⟩ | ⟨q, g, blk, rfl, a1, a2, a3, a4, a5, a6, a7, a8, a9⟩
 · have hk0 : k = 0 := by simpa using hk
   subst hk0
   have e : fCut (.l id g off 0 fin (some 0)) 0 = .l id g off 0 fin (some 0) := by unfold fCut; exact if_pos rfl
   rw [e]
   refine ⟨.inl ⟨rfl, _, _, _, _, rfl⟩, fun kd g0 N => hv_of fun q => ?_⟩
   unfold slHiV
   simp only [vL_l, vI_i, natK_cast, e0, ifK_true]
   rfl
 · have e : fCut (fileV q g bs.length) k = fileV q g k := by unfold fCut fileV; exact if_neg (capF_no0 _)
   rw [e]
   have hl : (bs.take k).length = k := by rw [List.length_take]; omega
   refine ⟨.inr ⟨q, g, blk, by rw [hl], a1, a2, a3, a4, a5, by rw [hl]; omega, a7, a8, fun i y hy => a9 i y ?_⟩, fun kd g0 N => hv_of fun f => ?_⟩
   · rw [List.map_take, List.getElem?_take] at hy
     split at hy
     · exact hy
     · cases hy
   · unfold slHiV fileV
     simp only [vL_l, vI_i, natK_cast, e0, ifK_true]
     cases hn : bs.length with
     | zero =>
       have hk0 : k = 0 := by omega
       subst hk0
       rfl
     | succ n =>
       show sliceN 1 q g 0 (n + 1) (n + 1) 0 k f = _
       have e1 : Nat.ble k (n + 1) = true := by rw [Nat.ble_eq]; omega
       have e2 : Nat.beq (n + 1) (Nat.add 0 (Nat.mul (n + 1) 1)) = true := by
         show Nat.beq (n + 1) (0 + (n + 1) * 1) = true
         rw [Nat.mul_one, Nat.zero_add]; exact Nat.beq_refl _
       unfold sliceN
       rw [e1, ifK_true, e2, ifK_true, fN_eq, fN_eq, fN_eq]
       show f (.l q g (0 + 0 * 1) (k - 0) (0 + k * 1) (capS k (n + 1))) = _
       rw [capS_F (by omega)]; simp
theorem append2_flag {el size : Nat} {id : B} {g off len fin n : Nat} {vs : List V} {k : V → H → Bool} : append2 el size (.l id g off len fin (some 18446744073709551616)) n vs h k = appGrow (selB (Nat.ble 1 len) (Nat.beq size 1)) el id g off len fin size n vs h k := by
 show boolK (flagB 18446744073709551616) (fun _ => appGrow (selB (Nat.ble 1 len) (Nat.beq size 1)) el id g off len fin size n vs h k) (fun _ => boolK (Nat.ble (Nat.add len n) 18446744073709551616) (fun _ => appIn id g off len fin 18446744073709551616 size n vs h k) fun _ => appOut el id g off len fin size n vs h k) = _
 rw [flagB_M, boolK_true]
theorem FileM.app2 {v : V} {bs b : List UInt8} (a : FileM h v bs) (hf : B.val h.floor ≤ B.val h.next) (hl : bs.length + b.length ≤ 1048576) :
   ∃ v' h', (∀ k, append2 5 1 v b.length (b.map bv) h k = k v' h') ∧ FileM h' v' (bs ++ b) ∧ Stay (fOf v) h h' ∧ ∀ q, fOf v' q → fOf v q ∨ B.val h.next ≤ B.val q := by
 have h1 : allOne (b.map bv) = true := allOne_bv b
 rcases a with ⟨rfl, id, g, off, fin, rfl⟩ | ⟨q, g, ⟨cur, min, sz, cells, bel, fr⟩, rfl, a1, a2, a3, a4, a5, a6, a7, a8, a9⟩
 · cases b with
   | nil => exact ⟨.l id g off 0 fin (some 0), h, fun k => rfl, .inl ⟨rfl, _, _, _, _, rfl⟩, Stay.refl _ _, fun q hq => .inl hq⟩
   | cons c r =>
     obtain ⟨h', b1, b2, b3, blk, c1, c2, c3, c4, c5, c6, c7⟩ := alloc_new 5 ((c :: r).map bv) h (by rw [List.length_map]; simp at hl ⊢; omega)
     have hble : Nat.ble (Nat.add 0 (r.length + 1)) 1048576 = true := by rw [Nat.ble_eq]; simp at hl; show 0 + (r.length + 1) ≤ _; omega
     have hn : Nat.ble (Nat.add 0 (r.length + 1)) 0 = false := by
       cases hx : Nat.ble (Nat.add 0 (r.length + 1)) 0 with
       | false => rfl
       | true => have := Nat.le_of_ble_eq_true hx; have h2 : 0 + (r.length + 1) ≤ 0 := this; omega
     refine ⟨fileV h.next 0 (c :: r).length, h', fun k => ?_, .inr ⟨h.next, 0, blk, rfl, by rw [b2.floor]; exact hf, by omega, c1, by omega, by omega, by rw [c4, List.length_map]; exact Nat.le_refl _, c5, by omega, c7⟩, b2.mono fun _ _ h => h.elim, fun q hq => .inr (by rw [fOf_file hq]; exact Nat.le_refl _)⟩
     show boolK (flagB 0) (fun _ => appGrow (selB (Nat.ble 1 0) (Nat.beq 1 1)) 5 id g off 0 fin 1 (r.length + 1) ((c :: r).map bv) h k) (fun _ => boolK (Nat.ble (Nat.add 0 (r.length + 1)) 0) (fun _ => appIn id g off 0 fin 0 1 (r.length + 1) ((c :: r).map bv) h k) fun _ => appOut 5 id g off 0 fin 1 (r.length + 1) ((c :: r).map bv) h k) = _
     rw [flagB_of (by omega), boolK_false, hn, boolK_false]
     unfold appOut
     rw [hble, ifK_true]
     show alloc 5 (app [] ((c :: r).map bv)) h (fun id h => fN (Nat.add 0 (r.length + 1)) fun l' => fN (Nat.mul l' 1) fun fin' => k (.l id 0 0 l' fin' none) h) = _
     rw [app_eq, List.nil_append, b1, fN_eq, fN_eq]
     show k (.l h.next 0 0 (0 + (r.length + 1)) ((0 + (r.length + 1)) * 1) none) h' = _
     rw [Nat.zero_add, Nat.mul_one]; rfl
 · obtain ⟨next, floor, heap⟩ := h
   simp only at a1 a2 a3 a4 a5 a6 a7 a8 a9
   obtain ⟨tr, t1, t2, t3⟩ := setList_fine (b.map bv) bs.length cells (by rw [List.length_map]; omega)
   obtain ⟨min', hmin⟩ : ∃ m, selN (Nat.beq bs.length sz) min (Nat.succ cur) = m := ⟨_, rfl⟩
   have hmle : min' ≤ cur + 1 := by rw [← hmin]; cases Nat.beq bs.length sz <;> (simp [selN]; try omega)
   obtain ⟨hp, s1, s2, s3⟩ := setK_ok q (⟨Nat.succ cur, min', Nat.add bs.length (Nat.mul b.length 1), tr, bel, fr⟩ : Blk) heap
   have e1 : Nat.ble min g = true := by rw [Nat.ble_eq]; exact a4
   have e2 : B.geB floor q = true := by cases floor <;> first | rfl | (show Nat.ble _ _ = true; rw [Nat.ble_eq]; exact a1)
   have e3 : Nat.add 0 (Nat.mul bs.length 1) = bs.length := by show 0 + bs.length * 1 = _; omega
   have e3' : Nat.ble bs.length sz = true := by rw [Nat.ble_eq]; exact a6
   have e4 : Nat.beq bs.length bs.length = true := Nat.beq_refl _
   have e6 : Nat.ble (Nat.add bs.length b.length) 1048576 = true := by rw [Nat.ble_eq]; exact hl
   have e7 : frOk fr bs.length = true := by
     match fr, a8 with
     | 0, _ => rfl
     | 1, _ => rfl
   have e8 : Nat.beq bel 5 = true := by rw [a7]; rfl
   have key : ∀ (z : Bool) k, z = true → appGrow z 5 q g 0 bs.length bs.length 1 b.length (b.map bv) ⟨next, floor, heap⟩ k = k (fileV q (cur + 1) (bs ++ b).length) ⟨next, floor, hp⟩ := fun z k hz => by
     have a3' : heap.get q = some ⟨cur, min, sz, cells, bel, fr⟩ := a3
     simp only [appGrow, hK_mk, a3', optK_some, blkK_mk, fN_eq, e3, e1, e2, e3', e4, hmin, hz, e6, h1, e7, e8, ifK_true]
     rw [t1, s1]
     show k (.l q (cur + 1) 0 (bs.length + b.length) (bs.length + b.length * 1) (capF (bs.length + b.length))) _ = _
     unfold fileV
     rw [List.length_append, Nat.mul_one]
   refine ⟨fileV q (cur + 1) (bs ++ b).length, ⟨next, floor, hp⟩, fun k => ?_, .inr ⟨q, cur + 1, _, rfl, a1, a2, s2, hmle, Nat.le_refl _, by rw [List.length_append]; show _ ≤ bs.length + b.length * 1; omega, a7, a8, fun i y hy => ?_⟩, ⟨rfl, Nat.le_refl _, fun i _ hi => s3 i fun e => hi (by rw [e]; exact fOf_mk ..)⟩, fun p hp => .inl (by rw [fOf_file hp]; exact fOf_mk ..)⟩
   · cases hn : bs.length with
     | zero =>
       show append2 5 1 (.l q g 0 0 0 (some 18446744073709551616)) b.length (b.map bv) ⟨next, floor, heap⟩ k = _
       rw [append2_flag]
       have := key (selB (Nat.ble 1 0) (Nat.beq 1 1)) k rfl
       rwa [hn] at this
     | succ n =>
       show appGrow (Nat.ble 1 (n + 1)) 5 q g 0 (n + 1) (n + 1) 1 b.length (b.map bv) ⟨next, floor, heap⟩ k = _
       have := key (Nat.ble 1 (n + 1)) k (by rw [Nat.ble_eq]; omega)
       rwa [hn] at this
   · show tr.getN i = some y
     rw [List.map_append] at hy
     by_cases hi : i < bs.length
     · rw [t3 i (.inl (by omega))]
       refine a9 i y ?_
       rwa [List.getElem?_append_left (by rw [List.length_map]; exact hi)] at hy
     · rw [List.getElem?_append_right (by rw [List.length_map]; omega), List.length_map] at hy
       have := t2 (i - bs.length) y hy
       rwa [show bs.length + (i - bs.length) = i by omega] at this
theorem SB.file {c : List UInt8} (hf : B.val h.floor ≤ B.val h.next) (hl : c.length ≤ 1048576)
   (k : ∀ h', Stay nowhere h h' → B.val h'.next = B.val h.next + 1 → FileM h' (fileV h.next 0 c.length) c → N.go P (fileV h.next 0 c.length) h') : SB P 5 (sv c) h N := by
 obtain ⟨h', a1, a2, a3, a4, a5, cs, a6, a7⟩ := s2b_new 5 hf hl
 have := fun k => a1 (.c (sv c)) F.zero (fun _ _ _ _ => false) k rfl
 refine hm_of (v := fileV h.next 0 c.length) (h' := h') (fun k => ?_) (k h' a2 a3 (.inr ⟨h.next, 0, _, rfl, by rw [a2.floor]; exact hf, by omega, a6, Nat.le_refl _, Nat.le_refl _, Nat.le_refl _, rfl, Nat.le_refl _, a7⟩))
 have e := this k
 simp only [doS2B, oE_eq] at e
 exact e
end
end Go.Proofs.Ytjlhfoadabkahaa

set_option maxRecDepth 100000
set_option maxHeartbeats 8000000
set_option linter.all false
namespace Go.Proofs.Ytjlhfoadabkahaa
open Go Go.Ev
section
variable {h : H}
def putErr (rm : Int) (E : En) (k b : List UInt8) : Int := if nameP k = false then 10 else if (getE E k).isSome then 14 else if 60 ≤ E.length ∨ max (rm - (usedE E : Int)) 0 < (b.length : Int) then 15 else 0
theorem put_err {s : B} {f : Nat} {rm : Int} {fl lo : V} {E : En} {k b : List UInt8} (r : Row h s 0 0 [.i .i64 rm, fl, lo]) (hf : 3 ≤ f) (m : MpB h fl E) (hE : ∀ p ∈ E, IsSl p.2) (hl : usedE E ≤ 9223372036854775807) (h0 : 0 ≤ rm) (h1 : rm ≤ 1000000) (hk : k.length ≤ 9223372036854775807) (hb : b.length ≤ 9223372036854775807)
   (he : putErr rm E k b ≠ 0) : FnOk Try.prog 16 [.p s 0 0 f, sv k, sv b] h fun y h' => y = .i .i64 (putErr rm E k b) ∧ h' = h := by
 refine fn_go c16 (by intro hb; cases hb) (by simp) (by simp) fun Q hQ => ?_
 simp only [slotsF, Nat.reduceAdd]
 repeat' (first
   | refine St.h ?_
   | simp (disch := first | omega | (simp only [lnv]; omega)) only [wlk, mwk, ↓get_put', ↓reduceIte, seval]
   | (with_reducible (first | apply cd_split | apply gd_split)) <;> (intro hc; (try simp only [hcn] at hc); (try simp only [hc]); (try simp only [hcl] at hc); try omega))
 refine CL.pure (isName_ok hk) ?_
 cases hn : nameP k with
 | false =>
   repeat' (first
     | refine St.h ?_
     | simp (disch := first | omega | (simp only [lnv]; omega)) only [wlk, mwk, ↓get_put', ↓reduceIte, seval]
     | (with_reducible (first | apply cd_split | apply gd_split)) <;> (intro hc; (try simp only [hcn] at hc); (try simp only [hc]); (try simp only [hcl] at hc); try omega))
   subst hQ
   exact ⟨by unfold putErr; rw [if_pos hn], rfl⟩
 | true =>
 cases hg : getE E k with
 | some v =>
   repeat' (first
     | refine St.h ?_
     | simp (disch := first | omega | (simp only [lnv]; omega)) only [wlk, mwk, ↓get_put', ↓reduceIte, seval, r.l1, m.lk, hg]
     | (with_reducible (first | apply cd_split | apply gd_split)) <;> (intro hc; (try simp only [hcn] at hc); (try simp only [hc]); (try simp only [hcl] at hc); try omega))
   subst hQ
   exact ⟨by unfold putErr; rw [if_neg (by rw [hn]; decide), hg]; rfl, rfl⟩
 | none =>
 have hee : putErr rm E k b = if 60 ≤ E.length ∨ max (rm - (usedE E : Int)) 0 < (b.length : Int) then 15 else 0 := by unfold putErr; rw [if_neg (by rw [hn]; decide), hg]; rfl
 by_cases h60 : 60 ≤ E.length
 · repeat' (first
     | refine St.h ?_
     | simp (disch := first | omega | (simp only [lnv]; omega)) only [wlk, mwk, ↓get_put', ↓reduceIte, seval, r.l1, m.lk, m.ln, hg]
     | (with_reducible (first | apply cd_split | apply gd_split)) <;> (intro hc; (try simp only [hcn] at hc); (try simp only [hc]); (try simp only [hcl] at hc); try omega))
   subst hQ
   exact ⟨by rw [hee, if_pos (.inl h60)], rfl⟩
 · repeat' (first
     | refine St.h ?_
     | simp (disch := first | omega | (simp only [lnv]; omega)) only [wlk, mwk, ↓get_put', ↓reduceIte, seval, r.l1, m.lk, m.ln, hg]
     | (with_reducible (first | apply cd_split | apply gd_split)) <;> (intro hc; (try simp only [hcn] at hc); (try simp only [hc]); (try simp only [hcl] at hc); try omega))
   refine CL.pure (left_ok r hf m hE hl h0 h1) ?_
   by_cases hlt : max (rm - (usedE E : Int)) 0 < (b.length : Int)
   · repeat' (first
       | refine St.h ?_
       | simp (disch := first | omega | (simp only [lnv]; omega)) only [wlk, mwk, ↓get_put', ↓reduceIte, seval, r.l1, m.lk, m.ln, hg]
       | (with_reducible (first | apply cd_split | apply gd_split)) <;> (intro hc; (try simp only [hcn] at hc); (try simp only [hc]); (try simp only [hcl] at hc); try omega))
     subst hQ
     exact ⟨by rw [hee, if_pos (.inr hlt)], rfl⟩
   · exact absurd (by rw [hee, if_neg (fun e => e.elim h60 hlt)]) he
theorem put_ok {s id : B} {rm : Int} {lo : V} {E : En} {acts : List V} {k b : List UInt8} (o : Ev.Own h s [.i .i64 rm, .m id, lo]) (m : MapC h id E) (bf : Buf h 84 6 lo acts) (hsi : s ≠ id) (hls : ¬ isOf lo s) (hli : ¬ isOf lo id) (hf : B.val h.floor ≤ B.val h.next)
   (hla : acts.length + 6 ≤ 1048576) (hE : ∀ p ∈ E, IsSl p.2) (hl : usedE E ≤ 9223372036854775807) (h0 : 0 ≤ rm) (h1 : rm ≤ 1000000) (hk : k.length ≤ 9223372036854775807) (hb : b.length ≤ 9223372036854775807)
   (he : putErr rm E k b = 0) : FnOk Try.prog 16 [.p s 0 0 3, sv k, sv b] h fun y h' => y = .i .i64 0 ∧ ∃ lo' q, B.val h.next ≤ B.val q ∧ q ≠ id ∧ Ev.Own h' s [.i .i64 rm, .m id, lo'] ∧ MapC h' id (setE E k (fileV q 0 b.length)) ∧ FileM h' (fileV q 0 b.length) b ∧
     Buf h' 84 6 lo' (acts ++ actV 1 k [] 0 .l0 false) ∧ Stay (fun i => i = s ∨ i = id ∨ isOf lo i) h h' ∧ (∀ i, isOf lo' i → (isOf lo i ∨ B.val h.next ≤ B.val i) ∧ i ≠ q) := by
 have hn : nameP k = true := by
   cases hn : nameP k with
   | true => rfl
   | false => unfold putErr at he; rw [if_pos hn] at he; cases he
 have hg : getE E k = none := by
   cases hg : getE E k with
   | none => rfl
   | some v => unfold putErr at he; rw [if_neg (by rw [hn]; decide), hg] at he; cases he
 have hcap : ¬ (60 ≤ E.length ∨ max (rm - (usedE E : Int)) 0 < (b.length : Int)) := fun e => by unfold putErr at he; rw [if_neg (by rw [hn]; decide), hg] at he; simp only [Option.isSome_none, Bool.false_eq_true, if_false] at he; rw [if_pos e] at he; cases he
 have h60 : ¬ 60 ≤ E.length := fun e => hcap (.inl e)
 have hlt : ¬ max (rm - (usedE E : Int)) 0 < (b.length : Int) := fun e => hcap (.inr e)
 have hb2 : b.length ≤ 1048576 := by omega
 refine fn_go c16 (by intro hb; cases hb) (by simp) (by simp) fun Q hQ => ?_
 simp only [slotsF, Nat.reduceAdd]
 repeat' (first
   | refine St.h ?_
   | simp (disch := first | omega | (simp only [lnv]; omega)) only [wlk, mwk, ↓get_put', ↓reduceIte, seval]
   | (with_reducible (first | apply cd_split | apply gd_split)) <;> (intro hc; (try simp only [hcn] at hc); (try simp only [hc]); (try simp only [hcl] at hc); try omega))
 refine CL.pure (isName_ok hk) ?_
 repeat' (first
   | refine St.h ?_
   | simp (disch := first | omega | (simp only [lnv]; omega)) only [wlk, mwk, ↓get_put', ↓reduceIte, seval, hn, o.row.l1, m.lk, m.ln, hg]
   | (with_reducible (first | apply cd_split | apply gd_split)) <;> (intro hc; (try simp only [hcn] at hc); (try simp only [hc]); (try simp only [hcl] at hc); try omega))
 refine CL.pure (left_ok o.row (by omega) (.inr ⟨id, rfl, m.b⟩) hE hl h0 h1) ?_
 repeat' (first
   | refine St.h ?_
   | simp (disch := first | omega | (simp only [lnv]; omega)) only [wlk, mwk, ↓get_put', ↓reduceIte, seval, hn, o.row.l1, m.lk, m.ln, hg]
   | (with_reducible (first | apply cd_split | apply gd_split)) <;> (intro hc; (try simp only [hcn] at hc); (try simp only [hc]); (try simp only [hcl] at hc); try omega))
 have hslt : B.val s < B.val h.next := by obtain ⟨_, _, _, _, _, _, h6, _⟩ := o; exact h6
 have hqi : h.next ≠ id := fun e => by have := m.lt; rw [← e] at this; exact absurd this (Nat.lt_irrefl _)
 have hqs : h.next ≠ s := fun e => by have := hslt; rw [← e] at this; exact absurd this (Nat.lt_irrefl _)
 refine SB.file hf hb2 fun h2 s2 n2 q2 => ?_
 have o2 := o.stay s2 (fun h => h)
 have m2 := m.stay s2 (fun h => h)
 have bf2 := bf.grow s2
 repeat' (first
   | refine St.h ?_
   | simp (disch := first | omega | (simp only [lnv]; omega)) only [wlk, mwk, ↓get_put', ↓reduceIte, seval, o2.row.l1]
   | (with_reducible (first | apply cd_split | apply gd_split)) <;> (intro hc; (try simp only [hcn] at hc); (try simp only [hc]); (try simp only [hcl] at hc); try omega))
 refine MU.mk m2 (by omega) fun h3 m3 s3 => ?_
 have o3 := o2.stay s3 hsi
 have bf3 := bf2.stay s3 (fun i hi e => hli (by rw [← e]; exact hi))
 have q3 := FileM.stay q2 s3 fun p hp => by rw [fOf_file hp]; exact hqi
 repeat' (first
   | refine St.h ?_
   | simp (disch := first | omega | (simp only [lnv]; omega)) only [wlk, mwk, ↓get_put', ↓reduceIte, seval, o3.row.l1]
   | (with_reducible (first | apply cd_split | apply gd_split)) <;> (intro hc; (try simp only [hcn] at hc); (try simp only [hc]); (try simp only [hcl] at hc); try omega))
 refine AL.own (by simp) (s3.fl (s2.fl hf)) fun h4 s4 n4 o4 => ?_
 repeat' (first
   | refine St.h ?_
   | simp (disch := first | omega | (simp only [lnv]; omega)) only [wlk, mwk, ↓get_put', ↓reduceIte, seval, o3.row.l1]
   | (with_reducible (first | apply cd_split | apply gd_split)) <;> (intro hc; (try simp only [hcn] at hc); (try simp only [hc]); (try simp only [hcl] at hc); try omega))
 refine AP.buf (vs := actV 1 k [] 0 .l0 false) (cnt := 1) (bf3.grow s4) (new_row o4.row rfl (Nat.le_refl _) (by omega) (by show 6 ≤ 6; omega)) (s4.fl (s3.fl (s2.fl hf))) (by omega) rfl (act_one (.inl rfl)) (by simp [actV]; omega) fun lo' h5 b5 s5 hv5 tp => ?_
 have o5 := (o3.stay s4 (fun h => h)).stay s5 hls
 repeat' (first
   | refine St.h ?_
   | simp (disch := first | omega | (simp only [lnv]; omega)) only [wlk, mwk, ↓get_put', ↓reduceIte, seval, o5.row.l1]
   | (with_reducible (first | apply cd_split | apply gd_split)) <;> (intro hc; (try simp only [hcn] at hc); (try simp only [hc]); (try simp only [hcl] at hc); try omega))
 refine ST.own o5 (buf_cells b5).1 (buf_cells b5).2 (by omega) (by omega) fun h6 o6 s6 => ?_
 repeat' (first
   | refine St.h ?_
   | simp (disch := first | omega | (simp only [lnv]; omega)) only [wlk, mwk, ↓get_put', ↓reduceIte, seval]
   | (with_reducible (first | apply cd_split | apply gd_split)) <;> (intro hc; (try simp only [hcn] at hc); (try simp only [hc]); (try simp only [hcl] at hc); try omega))
 subst hQ
 have n3 := s3.next
 have hlq : ¬ isOf lo h.next := fun e => absurd (bf.own e).2 (Nat.lt_irrefl _)
 have hl' : ∀ i, isOf lo' i → (isOf lo i ∨ B.val h.next ≤ B.val i) ∧ i ≠ h.next := fun i hi => by
   rcases hv5 i hi with e | e
   · exact ⟨.inl e, fun e2 => hlq (by rw [← e2]; exact e)⟩
   · exact ⟨.inr (by omega), fun e2 => by rw [e2] at e; omega⟩
 have hl5 : ¬ isOf lo' s := fun e => (hv5 _ e).elim hls fun e => by omega
 refine ⟨rfl, lo', h.next, Nat.le_refl _, hqi, o6, ((m3.stay s4 (fun h => h)).stay s5 hli).stay s6 (fun e => hsi e.symm), FileM.stay (FileM.stay (FileM.stay q3 s4 (fun _ _ h => h)) s5 (fun p hp => by rw [fOf_file hp]; exact hlq)) s6 (fun p hp => by rw [fOf_file hp]; exact hqs), b5.stay s6 (fun i hi e => hl5 (by rw [← e]; exact hi)), ?_, hl'⟩
 exact ((((s2.mono fun _ _ e => e.elim).trans (s3.mono fun _ _ e => .inr (.inl e))).trans (s4.mono fun _ _ e => e.elim)).trans (s5.mono fun _ _ e => .inr (.inr e))).trans (s6.mono fun _ _ e => .inl e)
theorem put_new {s : B} {rm : Int} {lo : V} {acts : List V} {k b : List UInt8} (o : Ev.Own h s [.i .i64 rm, .m0, lo]) (bf : Buf h 84 6 lo acts) (hls : ¬ isOf lo s) (hf : B.val h.floor ≤ B.val h.next)
   (hla : acts.length + 6 ≤ 1048576) (h0 : 0 ≤ rm) (h1 : rm ≤ 1000000) (hk : k.length ≤ 9223372036854775807) (hb : b.length ≤ 9223372036854775807)
   (he : putErr rm [] k b = 0) : FnOk Try.prog 16 [.p s 0 0 3, sv k, sv b] h fun y h' => y = .i .i64 0 ∧ ∃ lo' q id, B.val h.next ≤ B.val q ∧ B.val h.next ≤ B.val id ∧ q ≠ id ∧ Ev.Own h' s [.i .i64 rm, .m id, lo'] ∧ MapC h' id (setE [] k (fileV q 0 b.length)) ∧ FileM h' (fileV q 0 b.length) b ∧
     Buf h' 84 6 lo' (acts ++ actV 1 k [] 0 .l0 false) ∧ Stay (fun i => i = s ∨ isOf lo i) h h' ∧ (∀ i, isOf lo' i → (isOf lo i ∨ B.val h.next ≤ B.val i) ∧ i ≠ q ∧ i ≠ id) := by
 have hn : nameP k = true := by
   cases hn : nameP k with
   | true => rfl
   | false => unfold putErr at he; rw [if_pos hn] at he; cases he
 have hg : getE ([] : En) k = none := rfl
 have hcap : ¬ (60 ≤ ([] : En).length ∨ max (rm - (usedE [] : Int)) 0 < (b.length : Int)) := fun e => by unfold putErr at he; rw [if_neg (by rw [hn]; decide), hg] at he; simp only [Option.isSome_none, Bool.false_eq_true, if_false] at he; rw [if_pos e] at he; cases he
 have hu : usedE [] = 0 := rfl
 have hlt : ¬ max (rm - (usedE [] : Int)) 0 < (b.length : Int) := fun e => hcap (.inr e)
 have hb2 : b.length ≤ 1048576 := by omega
 refine fn_go c16 (by intro hb; cases hb) (by simp) (by simp) fun Q hQ => ?_
 simp only [slotsF, Nat.reduceAdd]
 repeat' (first
   | refine St.h ?_
   | simp (disch := first | omega | (simp only [lnv]; omega)) only [wlk, mwk, ↓get_put', ↓reduceIte, seval]
   | (with_reducible (first | apply cd_split | apply gd_split)) <;> (intro hc; (try simp only [hcn] at hc); (try simp only [hc]); (try simp only [hcl] at hc); try omega))
 refine CL.pure (isName_ok hk) ?_
 repeat' (first
   | refine St.h ?_
   | simp (disch := first | omega | (simp only [lnv]; omega)) only [wlk, mwk, ↓get_put', ↓reduceIte, seval, hn, o.row.l1]
   | (with_reducible (first | apply cd_split | apply gd_split)) <;> (intro hc; (try simp only [hcn] at hc); (try simp only [hc]); (try simp only [hcl] at hc); try omega))
 refine CL.pure (left_ok (E := []) o.row (by omega) (.inl ⟨rfl, rfl⟩) (by simp) (by rw [hu]; omega) h0 h1) ?_
 repeat' (first
   | refine St.h ?_
   | simp (disch := first | omega | (simp only [lnv]; omega)) only [wlk, mwk, ↓get_put', ↓reduceIte, seval, hn, o.row.l1]
   | (with_reducible (first | apply cd_split | apply gd_split)) <;> (intro hc; (try simp only [hcn] at hc); (try simp only [hc]); (try simp only [hcl] at hc); try omega))
 have hslt : B.val s < B.val h.next := by obtain ⟨_, _, _, _, _, _, h6, _⟩ := o; exact h6
 have his : h.next ≠ s := fun e => by have := hslt; rw [← e] at this; exact absurd this (Nat.lt_irrefl _)
 have hli : ¬ isOf lo h.next := fun e => absurd (bf.own e).2 (Nat.lt_irrefl _)
 refine MN.mk hf fun ha ma sa na => ?_
 have oa := o.stay sa (fun h => h)
 have bfa := bf.grow sa
 repeat' (first
   | refine St.h ?_
   | simp (disch := first | omega | (simp only [lnv]; omega)) only [wlk, mwk, ↓get_put', ↓reduceIte, seval, oa.row.l1]
   | (with_reducible (first | apply cd_split | apply gd_split)) <;> (intro hc; (try simp only [hcn] at hc); (try simp only [hc]); (try simp only [hcl] at hc); try omega))
 refine ST.own oa rfl rfl (by omega) (by omega) fun hz oz sz => ?_
 have oz : Ev.Own hz s [.i .i64 rm, .m h.next, lo] := oz
 have mz := ma.stay sz his
 have bfz := bfa.stay sz (fun i hi e => hls (by rw [← e]; exact hi))
 have nz := sz.next
 repeat' (first
   | refine St.h ?_
   | simp (disch := first | omega | (simp only [lnv]; omega)) only [wlk, mwk, ↓get_put', ↓reduceIte, seval, oz.row.l1]
   | (with_reducible (first | apply cd_split | apply gd_split)) <;> (intro hc; (try simp only [hcn] at hc); (try simp only [hc]); (try simp only [hcl] at hc); try omega))
 refine SB.file (sz.fl (sa.fl hf)) hb2 fun h2 s2 n2 q2 => ?_
 have hqi : hz.next ≠ h.next := fun e => by rw [e] at nz; omega
 have hqs : hz.next ≠ s := fun e => by rw [e] at nz; omega
 have o2 := oz.stay s2 (fun h => h)
 have m2 := mz.stay s2 (fun h => h)
 have bf2 := bfz.grow s2
 repeat' (first
   | refine St.h ?_
   | simp (disch := first | omega | (simp only [lnv]; omega)) only [wlk, mwk, ↓get_put', ↓reduceIte, seval, o2.row.l1]
   | (with_reducible (first | apply cd_split | apply gd_split)) <;> (intro hc; (try simp only [hcn] at hc); (try simp only [hc]); (try simp only [hcl] at hc); try omega))
 refine MU.mk m2 (by simp) fun h3 m3 s3 => ?_
 have o3 := o2.stay s3 (fun e => his e.symm)
 have bf3 := bf2.stay s3 (fun i hi e => hli (by rw [← e]; exact hi))
 have q3 := FileM.stay q2 s3 fun p hp => by rw [fOf_file hp]; exact hqi
 repeat' (first
   | refine St.h ?_
   | simp (disch := first | omega | (simp only [lnv]; omega)) only [wlk, mwk, ↓get_put', ↓reduceIte, seval, o3.row.l1]
   | (with_reducible (first | apply cd_split | apply gd_split)) <;> (intro hc; (try simp only [hcn] at hc); (try simp only [hc]); (try simp only [hcl] at hc); try omega))
 refine AL.own (by simp) (s3.fl (s2.fl (sz.fl (sa.fl hf)))) fun h4 s4 n4 o4 => ?_
 repeat' (first
   | refine St.h ?_
   | simp (disch := first | omega | (simp only [lnv]; omega)) only [wlk, mwk, ↓get_put', ↓reduceIte, seval, o3.row.l1]
   | (with_reducible (first | apply cd_split | apply gd_split)) <;> (intro hc; (try simp only [hcn] at hc); (try simp only [hc]); (try simp only [hcl] at hc); try omega))
 refine AP.buf (vs := actV 1 k [] 0 .l0 false) (cnt := 1) (bf3.grow s4) (new_row o4.row rfl (Nat.le_refl _) (by omega) (by show 6 ≤ 6; omega)) (s4.fl (s3.fl (s2.fl (sz.fl (sa.fl hf))))) (by omega) rfl (act_one (.inl rfl)) (by simp [actV]; omega) fun lo' h5 b5 s5 hv5 tp => ?_
 have o5 := (o3.stay s4 (fun h => h)).stay s5 hls
 repeat' (first
   | refine St.h ?_
   | simp (disch := first | omega | (simp only [lnv]; omega)) only [wlk, mwk, ↓get_put', ↓reduceIte, seval, o5.row.l1]
   | (with_reducible (first | apply cd_split | apply gd_split)) <;> (intro hc; (try simp only [hcn] at hc); (try simp only [hc]); (try simp only [hcl] at hc); try omega))
 refine ST.own o5 (buf_cells b5).1 (buf_cells b5).2 (by omega) (by omega) fun h6 o6 s6 => ?_
 repeat' (first
   | refine St.h ?_
   | simp (disch := first | omega | (simp only [lnv]; omega)) only [wlk, mwk, ↓get_put', ↓reduceIte, seval]
   | (with_reducible (first | apply cd_split | apply gd_split)) <;> (intro hc; (try simp only [hcn] at hc); (try simp only [hc]); (try simp only [hcl] at hc); try omega))
 subst hQ
 have n3 := s3.next
 have hlq : ¬ isOf lo hz.next := fun e => absurd (bfz.own e).2 (Nat.lt_irrefl _)
 have hl' : ∀ i, isOf lo' i → (isOf lo i ∨ B.val h.next ≤ B.val i) ∧ i ≠ hz.next ∧ i ≠ h.next := fun i hi => by
   rcases hv5 i hi with e | e
   · exact ⟨.inl e, fun e2 => hlq (by rw [← e2]; exact e), fun e2 => hli (by rw [← e2]; exact e)⟩
   · exact ⟨.inr (by omega), fun e2 => by rw [e2] at e; omega, fun e2 => by rw [e2] at e; omega⟩
 have hl5 : ¬ isOf lo' s := fun e => (hv5 _ e).elim hls fun e => by omega
 refine ⟨rfl, lo', hz.next, h.next, by omega, Nat.le_refl _, hqi, o6, ((m3.stay s4 (fun h => h)).stay s5 hli).stay s6 his, FileM.stay (FileM.stay (FileM.stay q3 s4 (fun _ _ h => h)) s5 (fun p hp => by rw [fOf_file hp]; exact hlq)) s6 (fun p hp => by rw [fOf_file hp]; exact hqs), b5.stay s6 (fun i hi e => hl5 (by rw [← e]; exact hi)), ?_, hl'⟩
 have t3 : Stay (fun i => i = s ∨ isOf lo i ∨ i = h.next) h h6 := ((((((sa.mono fun _ _ e => e.elim).trans (sz.mono fun _ _ e => .inl e)).trans (s2.mono fun _ _ e => e.elim)).trans (s3.mono fun _ _ e => .inr (.inr e))).trans (s4.mono fun _ _ e => e.elim)).trans (s5.mono fun _ _ e => .inr (.inl e))).trans (s6.mono fun _ _ e => .inl e)
 exact t3.mono fun i hi e => by
   rcases e with e | e | e
   · exact .inl e
   · exact .inr e
   · rw [e] at hi; exact absurd hi (Nat.lt_irrefl _)
end
end Go.Proofs.Ytjlhfoadabkahaa

set_option maxRecDepth 100000
set_option maxHeartbeats 8000000
set_option linter.all false
namespace Go.Proofs.Ytjlhfoadabkahaa
open Go Go.Ev
section
variable {h : H}
def swapErr (E : En) (old name : List UInt8) : Int := if nameP name = false then 10 else if (getE E old).isSome then 0 else 14
theorem swap_err {s : B} {f : Nat} {rm fl lo : V} {E : En} {old name : List UInt8} (r : Row h s 0 0 [rm, fl, lo]) (hf : 3 ≤ f) (m : MpB h fl E) (hk : name.length ≤ 9223372036854775807) (he : swapErr E old name ≠ 0) :
   FnOk Try.prog 20 [.p s 0 0 f, sv old, sv name] h fun y h' => y = .i .i64 (swapErr E old name) ∧ h' = h := by
 refine fn_go c20 (by intro hb; cases hb) (by simp) (by simp) fun Q hQ => ?_
 simp only [slotsF, Nat.reduceAdd]
 repeat' (first
   | refine St.h ?_
   | simp (disch := first | omega | (simp only [lnv]; omega)) only [wlk, mwk, ↓get_put', ↓reduceIte, seval]
   | (with_reducible (first | apply cd_split | apply gd_split)) <;> (intro hc; (try simp only [hcn] at hc); (try simp only [hc]); (try simp only [hcl] at hc); try omega))
 refine CL.pure (isName_ok hk) ?_
 cases hn : nameP name with
 | false =>
   repeat' (first
     | refine St.h ?_
     | simp (disch := first | omega | (simp only [lnv]; omega)) only [wlk, mwk, ↓get_put', ↓reduceIte, seval]
     | (with_reducible (first | apply cd_split | apply gd_split)) <;> (intro hc; (try simp only [hcn] at hc); (try simp only [hc]); (try simp only [hcl] at hc); try omega))
   subst hQ
   exact ⟨by unfold swapErr; rw [if_pos hn], rfl⟩
 | true =>
 cases hg : getE E old with
 | some v => exact absurd (by unfold swapErr; rw [if_neg (by rw [hn]; decide), hg]; rfl) he
 | none =>
   repeat' (first
     | refine St.h ?_
     | simp (disch := first | omega | (simp only [lnv]; omega)) only [wlk, mwk, ↓get_put', ↓reduceIte, seval, r.l1, m.lk, hg]
     | (with_reducible (first | apply cd_split | apply gd_split)) <;> (intro hc; (try simp only [hcn] at hc); (try simp only [hc]); (try simp only [hcl] at hc); try omega))
   subst hQ
   exact ⟨by unfold swapErr; rw [if_neg (by rw [hn]; decide), hg]; rfl, rfl⟩
end
end Go.Proofs.Ytjlhfoadabkahaa

set_option maxRecDepth 100000
set_option maxHeartbeats 8000000
set_option linter.all false
namespace Go.Proofs.Ytjlhfoadabkahaa
open Go Go.Ev
section
variable {h : H}
def addErr (rm : Int) (E : En) (k b : List UInt8) : Int := if (getE E k).isSome = false then 14 else if max (rm - (usedE E : Int)) 0 < (b.length : Int) then 15 else 0
theorem add_err {s : B} {f : Nat} {rm : Int} {fl lo : V} {E : En} {k b : List UInt8} (r : Row h s 0 0 [.i .i64 rm, fl, lo]) (hf : 3 ≤ f) (m : MpB h fl E) (hE : ∀ p ∈ E, IsSl p.2) (hl : usedE E ≤ 9223372036854775807) (h0 : 0 ≤ rm) (h1 : rm ≤ 1000000) (hb : b.length ≤ 9223372036854775807)
   (he : addErr rm E k b ≠ 0) : FnOk Try.prog 18 [.p s 0 0 f, sv k, sv b] h fun y h' => y = .i .i64 (addErr rm E k b) ∧ h' = h := by
 refine fn_go c18 (by intro hb; cases hb) (by simp) (by simp) fun Q hQ => ?_
 simp only [slotsF, Nat.reduceAdd]
 cases hg : getE E k with
 | none =>
   repeat' (first
     | refine St.h ?_
     | simp (disch := first | omega | (simp only [lnv]; omega)) only [wlk, mwk, ↓get_put', ↓reduceIte, seval, r.l1, m.lk, hg]
     | (with_reducible (first | apply cd_split | apply gd_split)) <;> (intro hc; (try simp only [hcn] at hc); (try simp only [hc]); (try simp only [hcl] at hc); try omega))
   subst hQ
   exact ⟨by unfold addErr; rw [hg]; rfl, rfl⟩
 | some v =>
   repeat' (first
     | refine St.h ?_
     | simp (disch := first | omega | (simp only [lnv]; omega)) only [wlk, mwk, ↓get_put', ↓reduceIte, seval, r.l1, m.lk, hg]
     | (with_reducible (first | apply cd_split | apply gd_split)) <;> (intro hc; (try simp only [hcn] at hc); (try simp only [hc]); (try simp only [hcl] at hc); try omega))
   refine CL.pure (left_ok r hf m hE hl h0 h1) ?_
   by_cases hlt : max (rm - (usedE E : Int)) 0 < (b.length : Int)
   · repeat' (first
       | with_reducible refine dwStop ?_
       | refine St.h ?_
       | simp (disch := first | omega | (simp only [lnv]; omega)) only [wlk, mwk, ↓get_put', ↓reduceIte, seval, r.l1, hlt]
       | (with_reducible (first | apply cd_split | apply gd_split)) <;> (intro hc; (try simp only [hcn] at hc); (try simp only [hc]); (try simp only [hcl] at hc); try omega))
     subst hQ
     exact ⟨by unfold addErr; rw [hg, if_neg (by simp), if_pos hlt], rfl⟩
   · exact absurd (by unfold addErr; rw [hg, if_neg (by simp), if_neg hlt]) he
theorem add_pre {h2 : H} {T : F} {s id : B} {rm : Int} {lo v : V} {k b : List UInt8} (o : Ev.Own h s [.i .i64 rm, .m id, lo]) (o2 : Ev.Own h2 s [.i .i64 rm, .m id, lo]) (e0 : get 0 T = .p s 0 0 3) (e1 : get 1 T = sv k) (e2 : get 2 T = sv b) (e7 : get 7 T = v) :
   Ops2 Try.prog [uB 25 (doMove (tm 0)), uB 26 (doNilCheck (tm 25)), uB 27 (doFieldAddr 1 (tm 26)), uB 28 (doLoad (tm 27)), uB 29 (doMove (tm 1)), uB 30 (doMove (tm 7)), uB 31 (doMove (tm 2))] T h h2
     (put 31 (sv b) (put 30 v (put 29 (sv k) (put 28 (.m id) (put 27 (.p s 0 1 3) (put 26 (.p s 0 0 3) (put 25 (.p s 0 0 3) T))))))) := by
 refine ops2_u 25 _ (.p s 0 0 3) (rv_of (by simp (disch := first | omega | (simp only [lnv]; omega)) only [wlk, mwk, ↓get_put', ↓reduceIte, seval, e0])) (rv_of (by simp (disch := first | omega | (simp only [lnv]; omega)) only [wlk, mwk, ↓get_put', ↓reduceIte, seval, e0])) ?_
 refine ops2_u 26 _ (.p s 0 0 3) (rv_of (by simp (disch := first | omega | (simp only [lnv]; omega)) only [wlk, mwk, ↓get_put', ↓reduceIte, seval, e0])) (rv_of (by simp (disch := first | omega | (simp only [lnv]; omega)) only [wlk, mwk, ↓get_put', ↓reduceIte, seval, e0])) ?_
 refine ops2_u 27 _ (.p s 0 1 3) (rv_of (by simp (disch := first | omega | (simp only [lnv]; omega)) only [wlk, mwk, ↓get_put', ↓reduceIte, seval, e0])) (rv_of (by simp (disch := first | omega | (simp only [lnv]; omega)) only [wlk, mwk, ↓get_put', ↓reduceIte, seval, e0])) ?_
 refine ops2_u 28 _ (.m id) (rv_of (by simp (disch := first | omega | (simp only [lnv]; omega)) only [wlk, mwk, ↓get_put', ↓reduceIte, seval, e0, o.row.l1])) (rv_of (by simp (disch := first | omega | (simp only [lnv]; omega)) only [wlk, mwk, ↓get_put', ↓reduceIte, seval, e0, o2.row.l1])) ?_
 refine ops2_u 29 _ (sv k) (rv_of (by simp (disch := first | omega | (simp only [lnv]; omega)) only [wlk, mwk, ↓get_put', ↓reduceIte, seval, e1])) (rv_of (by simp (disch := first | omega | (simp only [lnv]; omega)) only [wlk, mwk, ↓get_put', ↓reduceIte, seval, e1])) ?_
 refine ops2_u 30 _ (v) (rv_of (by simp (disch := first | omega | (simp only [lnv]; omega)) only [wlk, mwk, ↓get_put', ↓reduceIte, seval, e7])) (rv_of (by simp (disch := first | omega | (simp only [lnv]; omega)) only [wlk, mwk, ↓get_put', ↓reduceIte, seval, e7])) ?_
 refine ops2_u 31 _ (sv b) (rv_of (by simp (disch := first | omega | (simp only [lnv]; omega)) only [wlk, mwk, ↓get_put', ↓reduceIte, seval, e2])) (rv_of (by simp (disch := first | omega | (simp only [lnv]; omega)) only [wlk, mwk, ↓get_put', ↓reduceIte, seval, e2])) ?_
 exact ops2_n
theorem add_fr {T : F} {s id : B} {v v' : V} {k b : List UInt8} (e0 : get 0 T = .p s 0 0 3) (e1 : get 1 T = sv k) (e7 : get 7 T = v) : ∃ U, put 32 v' (put 31 (sv b) (put 30 v (put 29 (sv k) (put 28 (.m id) (put 27 (.p s 0 1 3) (put 26 (.p s 0 0 3) (put 25 (.p s 0 0 3) T))))))) = U ∧ get 0 U = .p s 0 0 3 ∧ get 1 U = sv k ∧ get 7 U = v ∧ get 28 U = .m id ∧ get 29 U = sv k ∧ get 32 U = v' ∧ oV (tm 30) (put 31 (sv b) (put 30 v (put 29 (sv k) (put 28 (.m id) (put 27 (.p s 0 1 3) (put 26 (.p s 0 0 3) (put 25 (.p s 0 0 3) T))))))) = v ∧ oV (tm 31) (put 31 (sv b) (put 30 v (put 29 (sv k) (put 28 (.m id) (put 27 (.p s 0 1 3) (put 26 (.p s 0 0 3) (put 25 (.p s 0 0 3) T))))))) = sv b := by
 refine ⟨_, rfl, ?_, ?_, ?_, ?_, ?_, ?_, ?_, ?_⟩
 all_goals simp (disch := first | omega | (simp only [lnv]; omega)) only [wlk, mwk, ↓get_put', ↓reduceIte, seval, e0, e1, e7]
theorem add_ok {s id : B} {rm : Int} {lo v : V} {E : En} {acts : List V} {k b bs : List UInt8} (o : Ev.Own h s [.i .i64 rm, .m id, lo]) (m : MapC h id E) (bf : Buf h 84 6 lo acts) (hsi : s ≠ id) (hls : ¬ isOf lo s) (hli : ¬ isOf lo id) (hf : B.val h.floor ≤ B.val h.next)
   (hg : getE E k = some v) (fv : FileM h v bs) (hvs : ¬ fOf v s) (hvi : ¬ fOf v id) (hvl : ∀ q, fOf v q → ¬ isOf lo q)
   (hlE : E.length ≤ 1048576) (hla : acts.length + 6 ≤ 1048576) (hE : ∀ p ∈ E, IsSl p.2) (hl : usedE E ≤ 9223372036854775807) (h0 : 0 ≤ rm) (h1 : rm ≤ 1000000) (hb : b.length ≤ 9223372036854775807) (hbb : bs.length + b.length ≤ 1048576)
   (he : addErr rm E k b = 0) : FnOk Try.prog 18 [.p s 0 0 3, sv k, sv b] h fun y h' => y = .i .i64 0 ∧ ∃ lo' v', Ev.Own h' s [.i .i64 rm, .m id, lo'] ∧ MapC h' id (setE E k v') ∧ FileM h' v' (bs ++ b) ∧
     Buf h' 84 6 lo' (acts ++ actV 2 k [] (bs.length : Int) .l0 false) ∧ Stay (fun i => i = s ∨ i = id ∨ isOf lo i ∨ fOf v i) h h' ∧ (∀ i, isOf lo' i → isOf lo i ∨ B.val h.next ≤ B.val i) ∧ (∀ q, fOf v' q → fOf v q ∨ B.val h.next ≤ B.val q) ∧ (∀ q, fOf v' q → q ≠ s ∧ q ≠ id ∧ ¬ isOf lo' q) := by
 have hlt : ¬ max (rm - (usedE E : Int)) 0 < (b.length : Int) := fun e => by unfold addErr at he; rw [hg, if_neg (by simp), if_pos e] at he; cases he
 have hslt : B.val s < B.val h.next := by obtain ⟨_, _, _, _, _, _, h6, _⟩ := o; exact h6
 refine fn_go c18 (by intro hb; cases hb) (by simp) (by simp) fun Q hQ => ?_
 simp only [slotsF, Nat.reduceAdd]
 repeat' (first
   | refine St.h ?_
   | simp (disch := first | omega | (simp only [lnv]; omega)) only [wlk, mwk, ↓get_put', ↓reduceIte, seval, o.row.l1, m.lk, hg]
   | (with_reducible (first | apply cd_split | apply gd_split)) <;> (intro hc; (try simp only [hcn] at hc); (try simp only [hc]); (try simp only [hcl] at hc); try omega))
 refine CL.pure (left_ok o.row (by omega) (.inr ⟨id, rfl, m.b⟩) hE hl h0 h1) ?_
 repeat' (first
   | with_reducible refine dwStop ?_
   | refine St.h ?_
   | simp (disch := first | omega | (simp only [lnv]; omega)) only [wlk, mwk, ↓get_put', ↓reduceIte, seval, o.row.l1]
   | (with_reducible (first | apply cd_split | apply gd_split)) <;> (intro hc; (try simp only [hcn] at hc); (try simp only [hc]); (try simp only [hcl] at hc); try omega))
 refine dw_gen fun T hT => ?_
 have e0 : get 0 T = .p s 0 0 3 := by rw [hT]; simp (disch := first | omega | (simp only [lnv]; omega)) only [wlk, mwk, ↓get_put', ↓reduceIte, seval]
 have e1 : get 1 T = sv k := by rw [hT]; simp (disch := first | omega | (simp only [lnv]; omega)) only [wlk, mwk, ↓get_put', ↓reduceIte, seval]
 have e2 : get 2 T = sv b := by rw [hT]; simp (disch := first | omega | (simp only [lnv]; omega)) only [wlk, mwk, ↓get_put', ↓reduceIte, seval]
 have e7 : get 7 T = v := by rw [hT]; simp (disch := first | omega | (simp only [lnv]; omega)) only [wlk, mwk, ↓get_put', ↓reduceIte, seval]
 clear hT
 obtain ⟨v', h2, p1, f2, p3, p4⟩ := fv.app2 hf hbb
 have o2 := o.stay p3 hvs
 have m2 := m.stay p3 hvi
 have bf2 := bf.stay p3 fun i hi e => hvl i e hi
 have hp1 := add_pre (h2 := h2) o o2 e0 e1 e2 e7
 obtain ⟨U, hU, u0, u1, u7, u28, u29, u32, u30, u31⟩ := add_fr (v' := v') (id := id) (b := b) e0 e1 e7
 have hp2 := opRel_u (P := Try.prog) (t := put 31 (sv b) (put 30 v (put 29 (sv k) (put 28 (.m id) (put 27 (.p s 0 1 3) (put 26 (.p s 0 0 3) (put 25 (.p s 0 0 3) T))))))) 32 _ (run_appS (el := 5) (s := tm 30) (x := tm 31) (u := v) (c := b) u30 u31 p1)
 rw [hU] at hp2
 clear hU
 obtain ⟨_, h3, rr, m3, s3⟩ := or_run (P := Try.prog) (r := doMapSet none (tm 28) (tm 29) (tm 32)) (h := h2) (t := U) (K := fun _ h' => MapC h' id (setE E k v') ∧ Stay (fun i => i = id) h2 h') (by
     simp (disch := first | omega | (simp only [lnv]; omega)) only [wlk, mwk, ↓get_put', ↓reduceIte, seval, u28, u29, u32]
     refine MU.mk m2 hlE fun h' m' s' => ?_
     simp (disch := first | omega | (simp only [lnv]; omega)) only [wlk, mwk, ↓get_put', ↓reduceIte, seval]
     exact ⟨m', s'⟩)
 refine DW.two hmix rfl hp1 hp2 (opRel_0 rr) ?_
 have hi2 : B.val id < B.val h2.next := m2.lt
 have o3 := o2.stay s3 hsi
 have bf3 := bf2.stay s3 fun i hi e => hli (by rw [← e]; exact hi)
 have hvi' : ∀ q, fOf v' q → q ≠ s ∧ q ≠ id ∧ ¬ isOf lo q := fun q hq => by
   rcases p4 q hq with e | e
   · exact ⟨fun e2 => hvs (by rw [← e2]; exact e), fun e2 => hvi (by rw [← e2]; exact e), hvl q e⟩
   · have := m.lt
     exact ⟨fun e2 => by rw [e2] at e; omega, fun e2 => by rw [e2] at e; omega, fun e2 => by have := (bf.own e2).2; omega⟩
 have f3 := f2.stay s3 fun q hq e => (hvi' q hq).2.1 e
 have hf3 := s3.fl (p3.fl hf)
 repeat' (first
   | refine St.h ?_
   | simp (disch := first | omega | (simp only [lnv]; omega)) only [wlk, mwk, ↓get_put', ↓reduceIte, seval, u0, u1, u7, o3.row.l1, fv.ln]
   | (with_reducible (first | apply cd_split | apply gd_split)) <;> (intro hc; (try simp only [hcn] at hc); (try simp only [hc]); (try simp only [hcl] at hc); try omega))
 refine AL.own (by simp) hf3 fun h4 s4 n4 o4 => ?_
 repeat' (first
   | refine St.h ?_
   | simp (disch := first | omega | (simp only [lnv]; omega)) only [wlk, mwk, ↓get_put', ↓reduceIte, seval, u0, u1, u7, o3.row.l1]
   | (with_reducible (first | apply cd_split | apply gd_split)) <;> (intro hc; (try simp only [hcn] at hc); (try simp only [hc]); (try simp only [hcl] at hc); try omega))
 refine AP.buf (vs := actV 2 k [] (bs.length : Int) .l0 false) (cnt := 1) (bf3.grow s4) (new_row o4.row rfl (Nat.le_refl _) (by omega) (by show 6 ≤ 6; omega)) (s4.fl hf3) (by omega) rfl (act_one (.inl rfl)) (by simp [actV]; omega) fun lo' h5 b5 s5 hv5 tp => ?_
 have o5 := (o3.stay s4 (fun h => h)).stay s5 hls
 repeat' (first
   | refine St.h ?_
   | simp (disch := first | omega | (simp only [lnv]; omega)) only [wlk, mwk, ↓get_put', ↓reduceIte, seval, u0, o5.row.l1]
   | (with_reducible (first | apply cd_split | apply gd_split)) <;> (intro hc; (try simp only [hcn] at hc); (try simp only [hc]); (try simp only [hcl] at hc); try omega))
 refine ST.own o5 (buf_cells b5).1 (buf_cells b5).2 (by omega) (by omega) fun h6 o6 s6 => ?_
 repeat' (first
   | refine St.h ?_
   | simp (disch := first | omega | (simp only [lnv]; omega)) only [wlk, mwk, ↓get_put', ↓reduceIte, seval]
   | (with_reducible (first | apply cd_split | apply gd_split)) <;> (intro hc; (try simp only [hcn] at hc); (try simp only [hc]); (try simp only [hcl] at hc); try omega))
 subst hQ
 have n3 := s3.next
 have np := p3.next
 have hl' : ∀ i, isOf lo' i → isOf lo i ∨ B.val h.next ≤ B.val i := fun i hi => (hv5 i hi).imp (fun h => h) fun e => by omega
 have hl5 : ¬ isOf lo' s := fun e => (hl' _ e).elim hls fun e => by omega
 have hfin : ∀ q, fOf v' q → q ≠ s ∧ q ≠ id ∧ ¬ isOf lo' q := fun q hq => by
   obtain ⟨c1, c2, c3⟩ := hvi' q hq
   refine ⟨c1, c2, fun e => ?_⟩
   rcases hv5 q e with e | e
   · exact c3 e
   · have := (f2.own hq).2; omega
 refine ⟨rfl, lo', v', o6, ((m3.stay s4 (fun h => h)).stay s5 hli).stay s6 (fun e => hsi e.symm), ((f3.stay s4 (fun _ _ h => h)).stay s5 (fun q hq => (hvi' q hq).2.2)).stay s6 (fun q hq => (hvi' q hq).1), b5.stay s6 (fun i hi e => hl5 (by rw [← e]; exact hi)), ?_, hl', p4, hfin⟩
 exact ((((p3.mono fun _ _ e => .inr (.inr (.inr e))).trans (s3.mono fun _ _ e => .inr (.inl e))).trans (s4.mono fun _ _ e => e.elim)).trans (s5.mono fun _ _ e => .inr (.inr (.inl e)))).trans (s6.mono fun _ _ e => .inl e)
end
end Go.Proofs.Ytjlhfoadabkahaa

set_option maxRecDepth 100000
set_option maxHeartbeats 8000000
set_option linter.all false
namespace Go.Proofs.Ytjlhfoadabkahaa
open Go Go.Ev
section
variable {h : H}
theorem swap_same {s id : B} {rm : Int} {lo v : V} {E : En} {acts : List V} {k : List UInt8} (o : Ev.Own h s [.i .i64 rm, .m id, lo]) (m : MapC h id E) (bf : Buf h 84 6 lo acts) (hsi : s ≠ id) (hls : ¬ isOf lo s) (hli : ¬ isOf lo id) (hf : B.val h.floor ≤ B.val h.next)
   (hla : acts.length + 6 ≤ 1048576) (hk : k.length ≤ 9223372036854775807) (hn : nameP k = true) (hg : getE E k = some v) : FnOk Try.prog 20 [.p s 0 0 3, sv k, sv k] h fun y h' => y = .i .i64 0 ∧ ∃ lo', Ev.Own h' s [.i .i64 rm, .m id, lo'] ∧ MapC h' id E ∧
     Buf h' 84 6 lo' (acts ++ actV 3 k k 0 .l0 false) ∧ Stay (fun i => i = s ∨ isOf lo i) h h' ∧ (∀ i, isOf lo' i → isOf lo i ∨ B.val h.next ≤ B.val i) := by
 refine fn_go c20 (by intro hb; cases hb) (by simp) (by simp) fun Q hQ => ?_
 simp only [slotsF, Nat.reduceAdd]
 repeat' (first
   | refine St.h ?_
   | simp (disch := first | omega | (simp only [lnv]; omega)) only [wlk, mwk, ↓get_put', ↓reduceIte, seval]
   | (with_reducible (first | apply cd_split | apply gd_split)) <;> (intro hc; (try simp only [hcn] at hc); (try simp only [hc]); (try simp only [hcl] at hc); try omega))
 refine CL.pure (isName_ok hk) ?_
 repeat' (first
   | refine St.h ?_
   | simp (disch := first | omega | (simp only [lnv]; omega)) only [wlk, mwk, ↓get_put', ↓reduceIte, seval, hn, o.row.l1, m.lk, hg]
   | (with_reducible (first | apply cd_split | apply gd_split)) <;> (intro hc; (try simp only [hcn] at hc); (try simp only [hc]); (try simp only [hcl] at hc); try omega))
 refine AL.own (by simp) hf fun h1 s1 n1 o1 => ?_
 have oa := o.stay s1 (fun h => h)
 repeat' (first
   | refine St.h ?_
   | simp (disch := first | omega | (simp only [lnv]; omega)) only [wlk, mwk, ↓get_put', ↓reduceIte, seval]
   | (with_reducible (first | apply cd_split | apply gd_split)) <;> (intro hc; (try simp only [hcn] at hc); (try simp only [hc]); (try simp only [hcl] at hc); try omega))
 refine ST.ownAll (vs := [.i .i64 3, sv k, sv k, .i .i64 0, .l0, .b false]) o1 rfl rfl rfl (by simp) (by simp) fun h2 o2 s2 => ?_
 have n2 := s2.next
 have hs1 : B.val s < B.val h.next := by obtain ⟨_, _, _, _, _, _, h6, _⟩ := o; exact h6
 have ob := oa.stay s2 (fun e => by rw [e] at hs1; omega)
 have bf1 := bf.grow s1
 have bf2 := bf1.stay s2 (fun i hi e => by have := (bf.own hi).2; rw [e] at this; omega)
 have hf2 := s2.fl (s1.fl hf)
 repeat' (first
   | refine St.h ?_
   | simp (disch := first | omega | (simp only [lnv]; omega)) only [wlk, mwk, ↓get_put', ↓reduceIte, seval, ob.row.l1, o2.row.ln]
   | (with_reducible (first | apply cd_split | apply gd_split)) <;> (intro hc; (try simp only [hcn] at hc); (try simp only [hc]); (try simp only [hcl] at hc); try omega))
 refine AL.ownU (by simp) hf2 fun h3 s3 o3 => ?_
 have oc := ob.stay s3 (fun h => h)
 have hf3 := s3.fl hf2
 repeat' (first
   | refine St.h ?_
   | simp (disch := first | omega | (simp only [lnv]; omega)) only [wlk, mwk, ↓get_put', ↓reduceIte, seval, oc.row.l1]
   | (with_reducible (first | apply cd_split | apply gd_split)) <;> (intro hc; (try simp only [hcn] at hc); (try simp only [hc]); (try simp only [hcl] at hc); try omega))
 refine AP.buf (vs := actV 3 k k 0 .l0 false) (cnt := 1) (bf2.grow s3) (new_row o3.row rfl (Nat.le_refl _) (by omega) (by show 6 ≤ 6; omega)) hf3 (by omega) rfl (act_one (.inl rfl)) (by simp [actV]; omega) fun lo' h5 b5 s5 hv5 tp => ?_
 have od := oc.stay s5 hls
 repeat' (first
   | refine St.h ?_
   | simp (disch := first | omega | (simp only [lnv]; omega)) only [wlk, mwk, ↓get_put', ↓reduceIte, seval, od.row.l1]
   | (with_reducible (first | apply cd_split | apply gd_split)) <;> (intro hc; (try simp only [hcn] at hc); (try simp only [hc]); (try simp only [hcl] at hc); try omega))
 refine ST.own od (buf_cells b5).1 (buf_cells b5).2 (by omega) (by omega) fun h6 o6 s6 => ?_
 repeat' (first
   | refine St.h ?_
   | simp (disch := first | omega | (simp only [lnv]; omega)) only [wlk, mwk, ↓get_put', ↓reduceIte, seval]
   | (with_reducible (first | apply cd_split | apply gd_split)) <;> (intro hc; (try simp only [hcn] at hc); (try simp only [hc]); (try simp only [hcl] at hc); try omega))
 subst hQ
 have n3 := s3.next
 have n1' := s1.next
 have hl' : ∀ i, isOf lo' i → isOf lo i ∨ B.val h.next ≤ B.val i := fun i hi => (hv5 i hi).imp (fun h => h) fun e => by omega
 have hl5 : ¬ isOf lo' s := fun e => (hl' _ e).elim hls fun e => by omega
 have mi := m.lt
 refine ⟨rfl, lo', o6, ((((m.stay s1 (fun h => h)).stay s2 (fun e => by rw [e] at mi; omega)).stay s3 (fun h => h)).stay s5 hli).stay s6 (fun e => hsi e.symm), b5.stay s6 (fun i hi e => hl5 (by rw [← e]; exact hi)), ?_, hl'⟩
 have t2 : Stay nowhere h h2 := s1.past' s2 fun i hi => by rw [hi]; exact Nat.le_refl _
 exact (((t2.trans s3).mono fun _ _ e => e.elim).trans (s5.mono fun _ _ e => .inr e)).trans (s6.mono fun _ _ e => .inl e)
theorem swap_ok {s id : B} {rm : Int} {lo v : V} {E : En} {acts : List V} {k n : List UInt8} (o : Ev.Own h s [.i .i64 rm, .m id, lo]) (m : MapC h id E) (bf : Buf h 84 6 lo acts) (hsi : s ≠ id) (hls : ¬ isOf lo s) (hli : ¬ isOf lo id) (hf : B.val h.floor ≤ B.val h.next)
   (hla : acts.length + 6 ≤ 1048576) (hlE : E.length ≤ 1048576) (hk : n.length ≤ 9223372036854775807) (hn : nameP n = true) (hkn : k ≠ n) (hg : getE E k = some v) (hgs : IsSl ((getE E n).getD .l0)) : FnOk Try.prog 20 [.p s 0 0 3, sv k, sv n] h fun y h' => y = .i .i64 0 ∧ ∃ lo', Ev.Own h' s [.i .i64 rm, .m id, lo'] ∧ MapC h' id (setE (delE E k) n v) ∧
     Buf h' 84 6 lo' (acts ++ actV 3 n k 0 ((getE E n).getD .l0) (getE E n).isSome) ∧ Stay (fun i => i = s ∨ i = id ∨ isOf lo i) h h' ∧ (∀ i, isOf lo' i → isOf lo i ∨ B.val h.next ≤ B.val i) := by
 refine fn_go c20 (by intro hb; cases hb) (by simp) (by simp) fun Q hQ => ?_
 simp only [slotsF, Nat.reduceAdd]
 repeat' (first
   | refine St.h ?_
   | simp (disch := first | omega | (simp only [lnv]; omega)) only [wlk, mwk, ↓get_put', ↓reduceIte, seval]
   | (with_reducible (first | apply cd_split | apply gd_split)) <;> (intro hc; (try simp only [hcn] at hc); (try simp only [hc]); (try simp only [hcl] at hc); try omega))
 refine CL.pure (isName_ok hk) ?_
 repeat' (first
   | refine St.h ?_
   | simp (disch := first | omega | (simp only [lnv]; omega)) only [wlk, mwk, ↓get_put', ↓reduceIte, seval, hn, o.row.l1, m.lk, hg]
   | (with_reducible (first | apply cd_split | apply gd_split)) <;> (intro hc; (try simp only [hcn] at hc); (try simp only [hc]); (try simp only [hcl] at hc); try omega))
 refine AL.own (by simp) hf fun h1 s1 n1 o1 => ?_
 have oa := o.stay s1 (fun h => h)
 have ma := m.stay s1 (fun h => h)
 repeat' (first
   | refine St.h ?_
   | simp (disch := first | omega | (simp only [lnv]; omega)) only [wlk, mwk, ↓get_put', ↓reduceIte, seval]
   | (with_reducible (first | apply cd_split | apply gd_split)) <;> (intro hc; (try simp only [hcn] at hc); (try simp only [hc]); (try simp only [hcl] at hc); try omega))
 refine ST.ownAll (vs := [.i .i64 3, sv n, sv k, .i .i64 0, .l0, .b false]) o1 rfl rfl rfl (by simp) (by simp) fun h2 o2 s2 => ?_
 have n2 := s2.next
 have hs1 : B.val s < B.val h.next := by obtain ⟨_, _, _, _, _, _, h6, _⟩ := o; exact h6
 have mi := m.lt
 have ob := oa.stay s2 (fun e => by rw [e] at hs1; omega)
 have mb := ma.stay s2 (fun e => by rw [e] at mi; omega)
 have hnx : ∀ i, B.val i < B.val h.next → i ≠ h.next := fun i hi e => by rw [e] at hi; exact absurd hi (Nat.lt_irrefl _)
 have bf1 := bf.grow s1
 have bf2 := bf1.stay s2 (fun i hi e => by have := (bf.own hi).2; rw [e] at this; omega)
 have hf2 := s2.fl (s1.fl hf)
 have hne : decide (k = n) = false := decide_eq_false hkn
 generalize hG : (getE E n).getD .l0 = G at *
 generalize hB : (getE E n).isSome = bb at *
 repeat' (first
   | refine St.h ?_
   | simp (disch := first | omega | (simp only [lnv]; omega)) only [wlk, mwk, ↓get_put', ↓reduceIte, seval, ob.row.l1, o2.row.ln, mb.lk, hne, hG, hB]
   | (with_reducible (first | apply cd_split | apply gd_split)) <;> (intro hc; (try simp only [hcn] at hc); (try simp only [hc]); (try simp only [hcl] at hc); try omega))
 have hG1 : cells G = [G] ∧ oneV G = true := by rcases hgs with rfl | ⟨_, _, _, _, _, _, rfl⟩ <;> exact ⟨rfl, rfl⟩
 have hnn : B.val h.next < B.val h2.next := by omega
 refine ST.own o2 hG1.1 hG1.2 (by omega) (by omega) fun h3 o3 s3 => ?_
 have oc := ob.stay s3 (hnx _ hs1)
 have mc := mb.stay s3 (hnx _ mi)
 repeat' (first
   | refine St.h ?_
   | simp (disch := first | omega | (simp only [lnv]; omega)) only [wlk, mwk, ↓get_put', ↓reduceIte, seval, oc.row.l1, o3.row.ln]
   | (with_reducible (first | apply cd_split | apply gd_split)) <;> (intro hc; (try simp only [hcn] at hc); (try simp only [hc]); (try simp only [hcl] at hc); try omega))
 refine ST.own (y := .b bb) o3 rfl rfl (by omega) (by omega) fun h4 o4 s4 => ?_
 have o4 : Ev.Own h4 h.next [.i .i64 3, sv n, sv k, .i .i64 0, G, .b bb] := o4
 have od := oc.stay s4 (hnx _ hs1)
 have md := mc.stay s4 (hnx _ mi)
 have n3 := s3.next
 have n4 := s4.next
 repeat' (first
   | refine St.h ?_
   | simp (disch := first | omega | (simp only [lnv]; omega)) only [wlk, mwk, ↓get_put', ↓reduceIte, seval, od.row.l1, o4.row.ln]
   | (with_reducible (first | apply cd_split | apply gd_split)) <;> (intro hc; (try simp only [hcn] at hc); (try simp only [hc]); (try simp only [hcl] at hc); try omega))
 refine MD.mk md hlE fun h5 me s5 => ?_
 have oe := od.stay s5 hsi
 have o5 := o4.stay s5 (fun e => hnx _ mi e.symm)
 have n5 := s5.next
 repeat' (first
   | refine St.h ?_
   | simp (disch := first | omega | (simp only [lnv]; omega)) only [wlk, mwk, ↓get_put', ↓reduceIte, seval, oe.row.l1, o5.row.ln]
   | (with_reducible (first | apply cd_split | apply gd_split)) <;> (intro hc; (try simp only [hcn] at hc); (try simp only [hc]); (try simp only [hcl] at hc); try omega))
 have hlE2 : (delE E k).length ≤ 1048576 := by have := (keys_del_sub E k).length_le; rw [keysE_len, keysE_len] at this; omega
 refine MU.mk me hlE2 fun h6 mf s6 => ?_
 have og := oe.stay s6 hsi
 have o6 := o5.stay s6 (fun e => hnx _ mi e.symm)
 have n6 := s6.next
 have bfx := ((((bf2.stay s3 (fun i hi e => by have := (bf.own hi).2; rw [e] at this; omega)).stay s4 (fun i hi e => by have := (bf.own hi).2; rw [e] at this; omega)).stay s5 (fun i hi e => hli (by rw [← e]; exact hi))).stay s6 (fun i hi e => hli (by rw [← e]; exact hi)))
 have hf6 := s6.fl (s5.fl (s4.fl (s3.fl hf2)))
 repeat' (first
   | refine St.h ?_
   | simp (disch := first | omega | (simp only [lnv]; omega)) only [wlk, mwk, ↓get_put', ↓reduceIte, seval, og.row.l1, o6.row.ln]
   | (with_reducible (first | apply cd_split | apply gd_split)) <;> (intro hc; (try simp only [hcn] at hc); (try simp only [hc]); (try simp only [hcl] at hc); try omega))
 refine AL.ownU (by simp) hf6 fun h7 s7 o7 => ?_
 have oh := og.stay s7 (fun h => h)
 have hf7 := s7.fl hf6
 have n7 := s7.next
 repeat' (first
   | refine St.h ?_
   | simp (disch := first | omega | (simp only [lnv]; omega)) only [wlk, mwk, ↓get_put', ↓reduceIte, seval, oh.row.l1]
   | (with_reducible (first | apply cd_split | apply gd_split)) <;> (intro hc; (try simp only [hcn] at hc); (try simp only [hc]); (try simp only [hcl] at hc); try omega))
 refine AP.buf (vs := actV 3 n k 0 G bb) (cnt := 1) (bfx.grow s7) (new_row o7.row rfl (Nat.le_refl _) (by omega) (by show 6 ≤ 6; omega)) hf7 (by omega) rfl (act_one hgs) (by simp [actV]; omega) fun lo' h8 b8 s8 hv8 tp => ?_
 have oi := oh.stay s8 hls
 repeat' (first
   | refine St.h ?_
   | simp (disch := first | omega | (simp only [lnv]; omega)) only [wlk, mwk, ↓get_put', ↓reduceIte, seval, oi.row.l1]
   | (with_reducible (first | apply cd_split | apply gd_split)) <;> (intro hc; (try simp only [hcn] at hc); (try simp only [hc]); (try simp only [hcl] at hc); try omega))
 refine ST.own oi (buf_cells b8).1 (buf_cells b8).2 (by omega) (by omega) fun h9 o9 s9 => ?_
 repeat' (first
   | refine St.h ?_
   | simp (disch := first | omega | (simp only [lnv]; omega)) only [wlk, mwk, ↓get_put', ↓reduceIte, seval]
   | (with_reducible (first | apply cd_split | apply gd_split)) <;> (intro hc; (try simp only [hcn] at hc); (try simp only [hc]); (try simp only [hcl] at hc); try omega))
 subst hQ
 have hl' : ∀ i, isOf lo' i → isOf lo i ∨ B.val h.next ≤ B.val i := fun i hi => (hv8 i hi).imp (fun h => h) fun e => by omega
 have hl5 : ¬ isOf lo' s := fun e => (hl' _ e).elim hls fun e => by omega
 refine ⟨rfl, lo', o9, (((mf.stay s7 (fun h => h)).stay s8 hli).stay s9 (fun e => hsi e.symm)), b8.stay s9 (fun i hi e => hl5 (by rw [← e]; exact hi)), ?_, hl'⟩
 have t4 : Stay nowhere h h4 := ((s1.past' s2 fun i hi => by rw [hi]; exact Nat.le_refl _).past' s3 fun i hi => by rw [hi]; exact Nat.le_refl _).past' s4 fun i hi => by rw [hi]; exact Nat.le_refl _
 exact (((((t4.mono fun _ _ e => e.elim).trans (s5.mono fun _ _ e => .inr (.inl e))).trans (s6.mono fun _ _ e => .inr (.inl e))).trans (s7.mono fun _ _ e => e.elim)).trans (s8.mono fun _ _ e => .inr (.inr e))).trans (s9.mono fun _ _ e => .inl e)
end
end Go.Proofs.Ytjlhfoadabkahaa

set_option maxRecDepth 100000
set_option maxHeartbeats 8000000
set_option linter.all false
namespace Go.Proofs.Ytjlhfoadabkahaa
open Go Go.Ev
section
variable {h : H}
def hlN (n : Int) (m : Nat) : Nat := (max 0 (min n (m : Int))).toNat
theorem heldZ_N (n : Int) (m : Nat) : heldZ n (m : Int) = (hlN n m : Int) := by unfold heldZ hlN; omega
theorem hlN_le (n : Int) (m : Nat) : hlN n m ≤ m := by unfold hlN; omega
theorem tb_put {s id : B} {rm n front : Int} {lo v gone : V} {E : En} {k old bs : List UInt8} {had : Bool} (o : Ev.Own h s [.i .i64 rm, .m id, lo]) (m : MapC h id E) (hsi : s ≠ id) (hf : B.val h.floor ≤ B.val h.next) (hlE : E.length ≤ 1048576) (hl : bs.length ≤ 9223372036854775807)
   (hgo : IsSl gone) (hg : getE E k = some v) (fv : FileM h v bs) : FnOk Try.prog 56 [.p s 0 0 3, .a (actV 1 k old front gone had), .i .i64 n] h fun y h' => y = .tu [] ∧
     MapC h' id (if decide (0 < hlN n bs.length) then setE E k (fCut v (hlN n bs.length)) else delE E k) ∧ Stay (fun i => i = id) h h' := by
 have hz := heldZ_N n bs.length
 have hzl := hlN_le n bs.length
 obtain ⟨c1, c2⟩ := fv.cut (P := Try.prog) hzl
 generalize hlN n bs.length = z at *
 have hs1 : B.val s < B.val h.next := by obtain ⟨_, _, _, _, _, _, h6, _⟩ := o; exact h6
 have mi := m.lt
 unfold actV
 refine fn_go c56 (by intro hb; cases hb) (by simp) (by simp) fun Q hQ => ?_
 simp only [slotsF, Nat.reduceAdd]
 repeat' (first
   | refine St.h ?_
   | simp (disch := first | omega | (simp only [lnv]; omega)) only [wlk, mwk, ↓get_put', ↓reduceIte, seval]
   | (with_reducible (first | apply cd_split | apply gd_split)) <;> (intro hc; (try simp only [hcn] at hc); (try simp only [hc]); (try simp only [hcl] at hc); try omega))
 refine AL.own (by simp) hf fun h1 s1 n1 o1 => ?_
 have oa := o.stay s1 (fun h => h)
 have ma := m.stay s1 (fun h => h)
 have hf1 := s1.fl hf
 have o1 : Ev.Own h1 h.next [.i .i64 1, sv k, sv old, .i .i64 front, gone, .b had] := o1
 repeat' (first
   | refine St.h ?_
   | simp (disch := first | omega | (simp only [lnv]; omega)) only [wlk, mwk, ↓get_put', ↓reduceIte, seval, oa.row.l1, o1.row.l1, ma.lk, hg, fv.ln]
   | (with_reducible (first | apply cd_split | apply gd_split)) <;> (intro hc; (try simp only [hcn] at hc); (try simp only [hc]); (try simp only [hcl] at hc); try omega))
 refine CL.pure (held_ok n bs.length) ?_
 rw [hz]
 repeat' (first
   | refine St.h ?_
   | simp (disch := first | omega | (simp only [lnv]; omega)) only [wlk, mwk, ↓get_put', ↓reduceIte, seval, oa.row.l1, o1.row.l1, c2]
   | (with_reducible (first | apply cd_split | apply gd_split)) <;> (intro hc; (try simp only [hcn] at hc); (try simp only [hc]); (try simp only [hcl] at hc); try omega))
 have hd : decide ((0 : Int) < (z : Int)) = decide (0 < z) := decide_eq_decide.2 (by omega)
 refine CL.mk (setBack_ok (b := decide ((0 : Int) < (z : Int))) oa.row (by omega) ma hlE) ?_
 rintro y h2 ⟨rfl, m2, s2⟩
 repeat' (first
   | refine St.h ?_
   | simp (disch := first | omega | (simp only [lnv]; omega)) only [wlk, mwk, ↓get_put', ↓reduceIte, seval]
   | (with_reducible (first | apply cd_split | apply gd_split)) <;> (intro hc; (try simp only [hcn] at hc); (try simp only [hc]); (try simp only [hcl] at hc); try omega))
 subst hQ
 refine ⟨rfl, ?_, (s1.mono fun _ _ e => e.elim).trans s2⟩
 rw [hd] at m2
 exact m2
theorem tb_add {s id : B} {rm n : Int} {f : Nat} {lo v gone : V} {E : En} {k old bs : List UInt8} {had : Bool} (o : Ev.Own h s [.i .i64 rm, .m id, lo]) (m : MapC h id E) (hsi : s ≠ id) (hf : B.val h.floor ≤ B.val h.next) (hlE : E.length ≤ 1048576) (hl : bs.length ≤ 9223372036854775807) (hfr : f ≤ bs.length)
   (hgo : IsSl gone) (hg : getE E k = some v) (fv : FileM h v bs) : FnOk Try.prog 56 [.p s 0 0 3, .a (actV 2 k old (f : Int) gone had), .i .i64 n] h fun y h' => y = .tu [] ∧
     MapC h' id (setE E k (fCut v (f + hlN n (bs.length - f)))) ∧ Stay (fun i => i = id) h h' := by
 have hz := heldZ_N n (bs.length - f)
 have hzl := hlN_le n (bs.length - f)
 obtain ⟨c1, c2⟩ := fv.cut (P := Try.prog) (k := f + hlN n (bs.length - f)) (by omega)
 generalize hlN n (bs.length - f) = z at *
 have e1 : (bs.length : Int) - (f : Int) = ((bs.length - f : Nat) : Int) := by omega
 have e2 : (f : Int) + (z : Int) = ((f + z : Nat) : Int) := by omega
 have hs1 : B.val s < B.val h.next := by obtain ⟨_, _, _, _, _, _, h6, _⟩ := o; exact h6
 have mi := m.lt
 unfold actV
 refine fn_go c56 (by intro hb; cases hb) (by simp) (by simp) fun Q hQ => ?_
 simp only [slotsF, Nat.reduceAdd]
 repeat' (first
   | refine St.h ?_
   | simp (disch := first | omega | (simp only [lnv]; omega)) only [wlk, mwk, ↓get_put', ↓reduceIte, seval]
   | (with_reducible (first | apply cd_split | apply gd_split)) <;> (intro hc; (try simp only [hcn] at hc); (try simp only [hc]); (try simp only [hcl] at hc); try omega))
 refine AL.own (by simp) hf fun h1 s1 n1 o1 => ?_
 have oa := o.stay s1 (fun h => h)
 have ma := m.stay s1 (fun h => h)
 have hf1 := s1.fl hf
 have o1 : Ev.Own h1 h.next [.i .i64 2, sv k, sv old, .i .i64 (f : Int), gone, .b had] := o1
 repeat' (first
   | refine St.h ?_
   | simp (disch := first | omega | (simp only [lnv]; omega)) only [wlk, mwk, ↓get_put', ↓reduceIte, seval, oa.row.l1, o1.row.l1, ma.lk, hg, fv.ln, e1]
   | (with_reducible (first | apply cd_split | apply gd_split)) <;> (intro hc; (try simp only [hcn] at hc); (try simp only [hc]); (try simp only [hcl] at hc); try omega))
 refine CL.pure (held_ok n ((bs.length - f : Nat) : Int)) ?_
 rw [hz]
 repeat' (first
   | refine St.h ?_
   | simp (disch := first | omega | (simp only [lnv]; omega)) only [wlk, mwk, ↓get_put', ↓reduceIte, seval, oa.row.l1, o1.row.l1, e2, c2]
   | (with_reducible (first | apply cd_split | apply gd_split)) <;> (intro hc; (try simp only [hcn] at hc); (try simp only [hc]); (try simp only [hcl] at hc); try omega))
 refine MU.mk ma hlE fun h2 m2 s2 => ?_
 repeat' (first
   | refine St.h ?_
   | simp (disch := first | omega | (simp only [lnv]; omega)) only [wlk, mwk, ↓get_put', ↓reduceIte, seval]
   | (with_reducible (first | apply cd_split | apply gd_split)) <;> (intro hc; (try simp only [hcn] at hc); (try simp only [hc]); (try simp only [hcl] at hc); try omega))
 subst hQ
 exact ⟨rfl, m2, (s1.mono fun _ _ e => e.elim).trans s2⟩
theorem tb_drop {s id : B} {rm n front : Int} {lo gone : V} {E : En} {k old : List UInt8} {had : Bool} (o : Ev.Own h s [.i .i64 rm, .m id, lo]) (m : MapC h id E) (hsi : s ≠ id) (hf : B.val h.floor ≤ B.val h.next) (hlE : E.length ≤ 1048576)
   (hgo : IsSl gone) : FnOk Try.prog 56 [.p s 0 0 3, .a (actV 4 k old front gone had), .i .i64 n] h fun y h' => y = .tu [] ∧
     MapC h' id (setE E k gone) ∧ Stay (fun i => i = id) h h' := by
 have hs1 : B.val s < B.val h.next := by obtain ⟨_, _, _, _, _, _, h6, _⟩ := o; exact h6
 have mi := m.lt
 unfold actV
 refine fn_go c56 (by intro hb; cases hb) (by simp) (by simp) fun Q hQ => ?_
 simp only [slotsF, Nat.reduceAdd]
 repeat' (first
   | refine St.h ?_
   | simp (disch := first | omega | (simp only [lnv]; omega)) only [wlk, mwk, ↓get_put', ↓reduceIte, seval]
   | (with_reducible (first | apply cd_split | apply gd_split)) <;> (intro hc; (try simp only [hcn] at hc); (try simp only [hc]); (try simp only [hcl] at hc); try omega))
 refine AL.own (by simp) hf fun h1 s1 n1 o1 => ?_
 have oa := o.stay s1 (fun h => h)
 have ma := m.stay s1 (fun h => h)
 have hf1 := s1.fl hf
 have o1 : Ev.Own h1 h.next [.i .i64 4, sv k, sv old, .i .i64 front, gone, .b had] := o1
 repeat' (first
   | refine St.h ?_
   | simp (disch := first | omega | (simp only [lnv]; omega)) only [wlk, mwk, ↓get_put', ↓reduceIte, seval, oa.row.l1, o1.row.l1, ma.lk]
   | (with_reducible (first | apply cd_split | apply gd_split)) <;> (intro hc; (try simp only [hcn] at hc); (try simp only [hc]); (try simp only [hcl] at hc); try omega))
 refine MU.mk ma hlE fun h2 m2 s2 => ?_
 repeat' (first
   | refine St.h ?_
   | simp (disch := first | omega | (simp only [lnv]; omega)) only [wlk, mwk, ↓get_put', ↓reduceIte, seval]
   | (with_reducible (first | apply cd_split | apply gd_split)) <;> (intro hc; (try simp only [hcn] at hc); (try simp only [hc]); (try simp only [hcl] at hc); try omega))
 subst hQ
 exact ⟨rfl, m2, (s1.mono fun _ _ e => e.elim).trans s2⟩
theorem tb_same {s id : B} {rm n front : Int} {lo gone : V} {E : En} {k : List UInt8} {had : Bool} (o : Ev.Own h s [.i .i64 rm, .m id, lo]) (m : MapC h id E) (hsi : s ≠ id) (hf : B.val h.floor ≤ B.val h.next)
   (hgo : IsSl gone) : FnOk Try.prog 56 [.p s 0 0 3, .a (actV 3 k k front gone had), .i .i64 n] h fun y h' => y = .tu [] ∧ Stay nowhere h h' := by
 have hs1 : B.val s < B.val h.next := by obtain ⟨_, _, _, _, _, _, h6, _⟩ := o; exact h6
 have mi := m.lt
 unfold actV
 refine fn_go c56 (by intro hb; cases hb) (by simp) (by simp) fun Q hQ => ?_
 simp only [slotsF, Nat.reduceAdd]
 repeat' (first
   | refine St.h ?_
   | simp (disch := first | omega | (simp only [lnv]; omega)) only [wlk, mwk, ↓get_put', ↓reduceIte, seval]
   | (with_reducible (first | apply cd_split | apply gd_split)) <;> (intro hc; (try simp only [hcn] at hc); (try simp only [hc]); (try simp only [hcl] at hc); try omega))
 refine AL.own (by simp) hf fun h1 s1 n1 o1 => ?_
 have oa := o.stay s1 (fun h => h)
 have ma := m.stay s1 (fun h => h)
 have hf1 := s1.fl hf
 have o1 : Ev.Own h1 h.next [.i .i64 3, sv k, sv k, .i .i64 front, gone, .b had] := o1
 repeat' (first
   | refine St.h ?_
   | simp (disch := first | omega | (simp only [lnv]; omega)) only [wlk, mwk, ↓get_put', ↓reduceIte, seval, oa.row.l1, o1.row.l1, ma.lk]
   | (with_reducible (first | apply cd_split | apply gd_split)) <;> (intro hc; (try simp only [hcn] at hc); (try simp only [hc]); (try simp only [hcl] at hc); try omega))
 subst hQ
 exact ⟨rfl, s1⟩
theorem tb_swap {s id : B} {rm n front : Int} {lo v gone : V} {E : En} {k old : List UInt8} {had : Bool} (o : Ev.Own h s [.i .i64 rm, .m id, lo]) (m : MapC h id E) (hsi : s ≠ id) (hf : B.val h.floor ≤ B.val h.next) (hlE : E.length + 1 ≤ 1048576) (hko : old ≠ k)
   (hgo : IsSl gone) (hg : getE E k = some v) : FnOk Try.prog 56 [.p s 0 0 3, .a (actV 3 k old front gone had), .i .i64 n] h fun y h' => y = .tu [] ∧
     MapC h' id (if had then setE (setE E old v) k gone else delE (setE E old v) k) ∧ Stay (fun i => i = id) h h' := by
 have hne : decide (old = k) = false := decide_eq_false hko
 have hs1 : B.val s < B.val h.next := by obtain ⟨_, _, _, _, _, _, h6, _⟩ := o; exact h6
 have mi := m.lt
 unfold actV
 refine fn_go c56 (by intro hb; cases hb) (by simp) (by simp) fun Q hQ => ?_
 simp only [slotsF, Nat.reduceAdd]
 repeat' (first
   | refine St.h ?_
   | simp (disch := first | omega | (simp only [lnv]; omega)) only [wlk, mwk, ↓get_put', ↓reduceIte, seval]
   | (with_reducible (first | apply cd_split | apply gd_split)) <;> (intro hc; (try simp only [hcn] at hc); (try simp only [hc]); (try simp only [hcl] at hc); try omega))
 refine AL.own (by simp) hf fun h1 s1 n1 o1 => ?_
 have oa := o.stay s1 (fun h => h)
 have ma := m.stay s1 (fun h => h)
 have hf1 := s1.fl hf
 have o1 : Ev.Own h1 h.next [.i .i64 3, sv k, sv old, .i .i64 front, gone, .b had] := o1
 repeat' (first
   | refine St.h ?_
   | simp (disch := first | omega | (simp only [lnv]; omega)) only [wlk, mwk, ↓get_put', ↓reduceIte, seval, oa.row.l1, o1.row.l1, ma.lk, hg, hne]
   | (with_reducible (first | apply cd_split | apply gd_split)) <;> (intro hc; (try simp only [hcn] at hc); (try simp only [hc]); (try simp only [hcl] at hc); try omega))
 refine MU.mk ma (by omega) fun h2 m2 s2 => ?_
 have ob := oa.stay s2 hsi
 have o2 := o1.stay s2 (fun e => by rw [← e] at mi; exact absurd mi (Nat.lt_irrefl _))
 repeat' (first
   | refine St.h ?_
   | simp (disch := first | omega | (simp only [lnv]; omega)) only [wlk, mwk, ↓get_put', ↓reduceIte, seval, ob.row.l1, o2.row.l1]
   | (with_reducible (first | apply cd_split | apply gd_split)) <;> (intro hc; (try simp only [hcn] at hc); (try simp only [hc]); (try simp only [hcl] at hc); try omega))
 have hl2 : (setE E old v).length ≤ 1048576 := by
   have h1 := keys_set E old v
   have h2 : (keysE (setE E old v)).length ≤ (keysE E).length + 1 := by rw [h1]; split <;> simp
   rw [keysE_len, keysE_len] at h2; omega
 refine CL.mk (setBack_ok (b := had) ob.row (by omega) m2 hl2) ?_
 rintro y h3 ⟨rfl, m3, s3⟩
 repeat' (first
   | refine St.h ?_
   | simp (disch := first | omega | (simp only [lnv]; omega)) only [wlk, mwk, ↓get_put', ↓reduceIte, seval]
   | (with_reducible (first | apply cd_split | apply gd_split)) <;> (intro hc; (try simp only [hcn] at hc); (try simp only [hc]); (try simp only [hcl] at hc); try omega))
 subst hQ
 exact ⟨rfl, m3, ((s1.mono fun _ _ e => e.elim).trans s2).trans s3⟩
end
end Go.Proofs.Ytjlhfoadabkahaa

set_option linter.all false
namespace Go.Ev
open Go
section
variable {α β : Type} {X : List (List UInt8 × α)} {k j : List UInt8} {v w : α}
def gt (X : List (List UInt8 × α)) (k : List UInt8) : Option α := match X with
 | [] => none
 | a :: r => if k = a.1 then some a.2 else gt r k
def st (X : List (List UInt8 × α)) (k : List UInt8) (v : α) : List (List UInt8 × α) := match X with
 | [] => [(k, v)]
 | a :: r => if k = a.1 then (k, v) :: r else a :: st r k v
def dl (X : List (List UInt8 × α)) (k : List UInt8) : List (List UInt8 × α) := match X with
 | [] => []
 | a :: r => if k = a.1 then r else a :: dl r k
theorem gt_c (a : List UInt8 × α) (r) : gt (a :: r) k = if k = a.1 then some a.2 else gt r k := rfl
theorem st_c (a : List UInt8 × α) (r) : st (a :: r) k v = if k = a.1 then (k, v) :: r else a :: st r k v := rfl
theorem dl_c (a : List UInt8 × α) (r) : dl (a :: r) k = if k = a.1 then r else a :: dl r k := rfl
def mp2 (f : α → β) (X : List (List UInt8 × α)) : List (List UInt8 × β) := X.map fun p => (p.1, f p.2)
theorem gt_mp2 (f : α → β) : gt (mp2 f X) k = (gt X k).map f := by
 induction X with
 | nil => rfl
 | cons a r ih =>
   show gt ((a.1, f a.2) :: mp2 f r) k = _
   rw [gt_c, gt_c, ih]
   by_cases e : k = a.1
   · rw [if_pos e, if_pos e]; rfl
   · rw [if_neg e, if_neg e]
theorem st_mp2 (f : α → β) : st (mp2 f X) k (f v) = mp2 f (st X k v) := by
 induction X with
 | nil => rfl
 | cons a r ih =>
   show st ((a.1, f a.2) :: mp2 f r) k (f v) = _
   rw [st_c, st_c, ih]
   by_cases e : k = a.1
   · rw [if_pos e, if_pos e]; rfl
   · rw [if_neg e, if_neg e]; rfl
theorem dl_mp2 (f : α → β) : dl (mp2 f X) k = mp2 f (dl X k) := by
 induction X with
 | nil => rfl
 | cons a r ih =>
   show dl ((a.1, f a.2) :: mp2 f r) k = _
   rw [dl_c, dl_c, ih]
   by_cases e : k = a.1
   · rw [if_pos e, if_pos e]
   · rw [if_neg e, if_neg e]; rfl
theorem getE_gt (E : En) : getE E k = gt E k := by
 induction E with
 | nil => rfl
 | cons a r ih => rw [gt_c, ← ih]; rfl
theorem setE_st (E : En) (v : V) : setE E k v = st E k v := by
 induction E with
 | nil => rfl
 | cons a r ih => rw [st_c, ← ih]; rfl
theorem delE_dl (E : En) : delE E k = dl E k := by
 induction E with
 | nil => rfl
 | cons a r ih => rw [dl_c, ← ih]; rfl
theorem lookR_gt (L : List Fi) : lookR L k = gt L k := by
 induction L with
 | nil => rfl
 | cons a r ih =>
   rw [gt_c, lookR_c, ih]
   by_cases e : a.1 = k
   · rw [if_pos e, if_pos e.symm]
   · rw [if_neg e, if_neg fun h => e h.symm]
def nam (X : List (List UInt8 × α)) : List (List UInt8) := X.map (·.1)
theorem gt_none : gt X k = none ↔ k ∉ nam X := by
 induction X with
 | nil => simp [gt, nam]
 | cons a r ih =>
   rw [gt_c]
   show _ ↔ k ∉ a.1 :: nam r
   by_cases e : k = a.1
   · rw [if_pos e]; simp [e]
   · rw [if_neg e, ih]; simp [e]
theorem gt_st : gt (st X k v) j = if j = k then some v else gt X j := by
 induction X with
 | nil => show gt [(k, v)] j = _; rw [gt_c]
 | cons a r ih =>
   rw [st_c]
   by_cases e : k = a.1
   · rw [if_pos e, gt_c, gt_c]
     by_cases e2 : j = k
     · rw [if_pos e2, if_pos e2]
     · rw [if_neg e2, if_neg e2, if_neg (by rw [← e]; exact e2)]
   · rw [if_neg e, gt_c, ih, gt_c]
     by_cases e2 : j = a.1
     · rw [if_pos e2, if_pos e2, if_neg (fun h => e (by rw [← h]; exact e2))]
     · rw [if_neg e2, if_neg e2]
theorem gt_dl (hn : (nam X).Nodup) : gt (dl X k) j = if j = k then none else gt X j := by
 induction X with
 | nil => show gt [] j = _; split <;> rfl
 | cons a r ih =>
   have hn' : (a.1 :: nam r).Nodup := hn
   rw [List.nodup_cons] at hn'
   rw [dl_c]
   by_cases e : k = a.1
   · rw [if_pos e, gt_c]
     by_cases e2 : j = k
     · rw [if_pos e2]; exact gt_none.2 (by rw [e2, e]; exact hn'.1)
     · rw [if_neg e2, if_neg (by rw [← e]; exact e2)]
   · rw [if_neg e, gt_c, ih hn'.2, gt_c]
     by_cases e2 : j = a.1
     · rw [if_pos e2, if_pos e2, if_neg (fun h => e (by rw [← h]; exact e2))]
     · rw [if_neg e2, if_neg e2]
theorem st_perm : (st X k v).Perm ((k, v) :: dl X k) := by
 induction X with
 | nil => exact .refl _
 | cons a r ih =>
   rw [st_c, dl_c]
   by_cases e : k = a.1
   · rw [if_pos e, if_pos e]
   · rw [if_neg e, if_neg e]
     exact (ih.cons a).trans (.swap ..)
theorem gt_perm (h : gt X k = some v) : X.Perm ((k, v) :: dl X k) := by
 induction X with
 | nil => cases h
 | cons a r ih =>
   rw [gt_c] at h
   rw [dl_c]
   by_cases e : k = a.1
   · rw [if_pos e] at h ⊢
     cases h
     rw [e]
   · rw [if_neg e] at h ⊢
     exact ((ih h).cons a).trans (.swap ..)
theorem dl_none (h : gt X k = none) : dl X k = X := by
 induction X with
 | nil => rfl
 | cons a r ih =>
   rw [gt_c] at h
   rw [dl_c]
   by_cases e : k = a.1
   · rw [if_pos e] at h; cases h
   · rw [if_neg e] at h ⊢; rw [ih h]
theorem dl_nam (hn : (nam X).Nodup) : (nam (dl X k)).Nodup := by
 induction X with
 | nil => exact hn
 | cons a r ih =>
   have hn' : (a.1 :: nam r).Nodup := hn
   rw [List.nodup_cons] at hn'
   rw [dl_c]
   by_cases e : k = a.1
   · rw [if_pos e]; exact hn'.2
   · rw [if_neg e]
     show (a.1 :: nam (dl r k)).Nodup
     rw [List.nodup_cons]
     refine ⟨fun h => ?_, ih hn'.2⟩
     have hg : gt (dl r k) a.1 = gt r a.1 := by rw [gt_dl hn'.2, if_neg fun h => e h.symm]
     exact hn'.1 (Decidable.not_not.1 fun hc => (gt_none.1 (hg.trans (gt_none.2 hc))) h)
theorem st_nam (hn : (nam X).Nodup) : (nam (st X k v)).Nodup := by
 have p : (nam (st X k v)).Perm (k :: nam (dl X k)) := (st_perm (X := X) (k := k) (v := v)).map _
 rw [p.nodup_iff, List.nodup_cons]
 exact ⟨gt_none.1 (by rw [gt_dl hn, if_pos rfl]), dl_nam hn⟩
theorem gt_ext {Y : List (List UInt8 × α)} (hX : (nam X).Nodup) (hY : (nam Y).Nodup) (h : ∀ k, gt X k = gt Y k) : X.Perm Y := by
 induction X generalizing Y with
 | nil =>
   cases Y with
   | nil => exact .refl _
   | cons a r => have := h a.1; rw [gt_c, if_pos rfl] at this; cases this
 | cons a r ih =>
   have hX' : (a.1 :: nam r).Nodup := hX
   rw [List.nodup_cons] at hX'
   have h1 : gt Y a.1 = some a.2 := by rw [← h a.1, gt_c, if_pos rfl]
   refine .trans ?_ (gt_perm h1).symm
   refine List.Perm.cons _ (ih hX'.2 (dl_nam hY) fun k => ?_)
   rw [gt_dl hY, ← h k, gt_c]
   by_cases e : k = a.1
   · rw [if_pos e]; exact gt_none.2 (by rw [e]; exact hX'.1)
   · rw [if_neg e, if_neg e]
end
end Go.Ev

set_option maxRecDepth 100000
set_option maxHeartbeats 8000000
set_option linter.all false
namespace Go.Proofs.Ytjlhfoadabkahaa
open Go Go.Ev
abbrev Fl := V × List UInt8
abbrev Xs := List (List UInt8 × Fl)
structure AB where
 kind : Int
 name : List UInt8
 old : List UInt8
 front : Nat
 gone : Option Fl
instance : Inhabited AB := ⟨⟨0, [], [], 0, none⟩⟩
noncomputable def AB.gv (a : AB) : V := match a.gone with
 | none => .l0
 | some f => f.1
noncomputable def actG (a : AB) : List V := actV a.kind a.name a.old (a.front : Int) a.gv a.gone.isSome
theorem actG_len (a : AB) : (actG a).length = 6 := rfl
def gones (U : List AB) : List Fl := U.flatMap fun a => a.gone.toList
def live (X : Xs) (U : List AB) : List Fl := X.map (·.2) ++ gones U
def apa (a b : Fl) : Prop := ∀ q, fOf a.1 q → ¬ fOf b.1 q
theorem apa_symm {a b : Fl} (h : apa a b) : apa b a := fun q h1 h2 => h q h2 h1
abbrev vX (X : Xs) : En := mp2 (fun f : Fl => f.1) X
abbrev bX (X : Xs) : List Fi := mp2 (fun f : Fl => f.2) X
structure ShM (h : H) (s : B) (mp lo : V) (X : Xs) (U W : List AB) (rm : Int) : Prop where
 own : Ev.Own h s [.i .i64 rm, mp, lo]
 map : (mp = .m0 ∧ X = [] ∧ U = []) ∨ ∃ id, mp = .m id ∧ MapC h id (vX X)
 buf : Buf h 84 6 lo (W.flatMap actG)
 fil : ∀ f ∈ live X U, FileM h f.1 f.2
 sm : mp ≠ .m s
 ls : ¬ isOf lo s
 lm : ∀ id, mp = .m id → ¬ isOf lo id
 fs : ∀ f ∈ live X U, ∀ q, fOf f.1 q → q ≠ s ∧ mp ≠ .m q ∧ ¬ isOf lo q
 fp : (live X U).Pairwise apa
def fpS (s : B) (mp lo : V) (X : Xs) (U : List AB) : B → Prop := fun q => q = s ∨ mp = .m q ∨ isOf lo q ∨ ∃ f ∈ live X U, fOf f.1 q
section
variable {h h' : H} {s : B} {mp lo mp' lo' : V} {X X' : Xs} {U U' W W' : List AB} {rm rm' : Int}
theorem ShM.slt (S : ShM h s mp lo X U W rm) : B.val s < B.val h.next := by obtain ⟨_, _, _, _, _, _, h6, _⟩ := S.own; exact h6
theorem ShM.mlt (S : ShM h s mp lo X U W rm) {q : B} (e : mp = .m q) : B.val q < B.val h.next := by
 rcases S.map with ⟨e', _⟩ | ⟨id, e', m⟩
 · rw [e] at e'; cases e'
 · rw [e] at e'; cases e'; exact m.lt
theorem ShM.lt (S : ShM h s mp lo X U W rm) {q : B} (hq : fpS s mp lo X U q) : B.val q < B.val h.next := by
 rcases hq with e | e | e | ⟨f, hf, e⟩
 · rw [e]; exact S.slt
 · exact S.mlt e
 · exact (S.buf.own e).2
 · exact ((S.fil f hf).own e).2
theorem ShM.nod (S : ShM h s mp lo X U W rm) : (nam X).Nodup := by
 rcases S.map with ⟨_, e, _⟩ | ⟨id, _, m⟩
 · rw [e]; exact List.nodup_nil
 · have := m.nod
   have e : keysE (vX X) = nam X := by
     unfold keysE nam
     show List.map _ (List.map _ _) = _
     rw [List.map_map]; rfl
   rwa [e] at this
theorem ShM.upd {F R F' : List Fl} (S : ShM h s mp lo X U W rm) (hp : (live X U).Perm (F ++ R)) (hp' : (live X' U').Perm (F' ++ R))
   (st : Stay (fun i => i = s ∨ mp = .m i ∨ isOf lo i ∨ ∃ f ∈ F, fOf f.1 i) h h') (own' : Ev.Own h' s [.i .i64 rm', mp', lo']) (map' : (mp' = .m0 ∧ X' = [] ∧ U' = []) ∨ ∃ id, mp' = .m id ∧ MapC h' id (vX X')) (buf' : Buf h' 84 6 lo' (W'.flatMap actG))
   (hm : ∀ i, mp' = .m i → mp = .m i ∨ B.val h.next ≤ B.val i) (hl : ∀ i, isOf lo' i → isOf lo i ∨ B.val h.next ≤ B.val i) (lm' : ∀ id, mp' = .m id → ¬ isOf lo' id)
   (fF : ∀ f ∈ F', FileM h' f.1 f.2 ∧ ∀ q, fOf f.1 q → ((∃ e ∈ F, fOf e.1 q) ∨ B.val h.next ≤ B.val q) ∧ q ≠ s ∧ mp' ≠ .m q ∧ ¬ isOf lo' q) (fP : F'.Pairwise apa) :
   ShM h' s mp' lo' X' U' W' rm' ∧ Stay (fpS s mp lo X U) h h' ∧ ∀ q, fpS s mp' lo' X' U' q → fpS s mp lo X U q ∨ B.val h.next ≤ B.val q := by
 have hs := S.slt
 have memF : ∀ {f}, f ∈ F → f ∈ live X U := fun h => hp.mem_iff.2 (List.mem_append_left _ h)
 have memR : ∀ {f}, f ∈ R → f ∈ live X U := fun h => hp.mem_iff.2 (List.mem_append_right _ h)
 have pw := (hp.pairwise_iff (fun h => apa_symm h)).1 S.fp
 rw [List.pairwise_append] at pw
 obtain ⟨_, pR, pFR⟩ := pw
 have apR : ∀ f ∈ R, ∀ q, fOf f.1 q → ¬ (q = s ∨ mp = .m q ∨ isOf lo q ∨ ∃ e ∈ F, fOf e.1 q) := by
   rintro f hf q hq (e | e | e | ⟨g, hg, e⟩)
   · exact (S.fs f (memR hf) q hq).1 e
   · exact (S.fs f (memR hf) q hq).2.1 e
   · exact (S.fs f (memR hf) q hq).2.2 e
   · exact pFR g hg f hf q e hq
 have ltR : ∀ f ∈ R, ∀ q, fOf f.1 q → B.val q < B.val h.next := fun f hf q hq => ((S.fil f (memR hf)).own hq).2
 refine ⟨⟨own', map', buf', fun f hf => ?_, fun e => ?_, fun e => ?_, lm', fun f hf q hq => ?_, ?_⟩, ?_, ?_⟩
 · rcases List.mem_append.1 (hp'.mem_iff.1 hf) with h1 | h1
   · exact (fF f h1).1
   · exact (S.fil f (memR h1)).stay st (apR f h1)
 · exact (hm s e).elim S.sm fun e => by omega
 · exact (hl s e).elim S.ls fun e => by omega
 · rcases List.mem_append.1 (hp'.mem_iff.1 hf) with h1 | h1
   · exact ((fF f h1).2 q hq).2
   · have := apR f h1 q hq
     have hlt := ltR f h1 q hq
     exact ⟨fun e => this (.inl e), fun e => (hm q e).elim (fun e => this (.inr (.inl e))) fun e => by omega, fun e => (hl q e).elim (fun e => this (.inr (.inr (.inl e)))) fun e => by omega⟩
 · refine (hp'.pairwise_iff (fun h => apa_symm h)).2 (List.pairwise_append.2 ⟨fP, pR, fun a ha b hb q q1 q2 => ?_⟩)
   rcases ((fF a ha).2 q q1).1 with ⟨e, he, e2⟩ | e
   · exact pFR e he b hb q e2 q2
   · have := ltR b hb q q2; omega
 · exact st.mono fun q _ e => e.elim .inl fun e => e.elim (fun e => .inr (.inl e)) fun e => e.elim (fun e => .inr (.inr (.inl e))) fun ⟨f, hf, e⟩ => .inr (.inr (.inr ⟨f, memF hf, e⟩))
 · rintro q (e | e | e | ⟨f, hf, e⟩)
   · exact .inl (.inl e)
   · exact (hm q e).imp_left fun e => .inr (.inl e)
   · exact (hl q e).imp_left fun e => .inr (.inr (.inl e))
   · rcases List.mem_append.1 (hp'.mem_iff.1 hf) with h1 | h1
     · exact ((fF f h1).2 q e).1.imp_left fun ⟨g, hg, e⟩ => .inr (.inr (.inr ⟨g, memF hg, e⟩))
     · exact .inl (.inr (.inr (.inr ⟨f, memR h1, e⟩)))
theorem ShM.stay {p : B → Prop} (S : ShM h s mp lo X U W rm) (t : Stay p h h') (hp : ∀ q, fpS s mp lo X U q → ¬ p q) : ShM h' s mp lo X U W rm :=
 ⟨S.own.stay t (hp s (.inl rfl)), S.map.elim .inl fun ⟨id, e, m⟩ => .inr ⟨id, e, m.stay t (hp id (.inr (.inl e)))⟩, S.buf.stay t fun q e => hp q (.inr (.inr (.inl e))), fun f hf => (S.fil f hf).stay t fun q e => hp q (.inr (.inr (.inr ⟨f, hf, e⟩))), S.sm, S.ls, S.lm, S.fs, S.fp⟩
end
end Go.Proofs.Ytjlhfoadabkahaa

set_option maxRecDepth 100000
set_option maxHeartbeats 8000000
set_option linter.all false
namespace Go.Proofs.Ytjlhfoadabkahaa
open Go Go.Ev
structure AC where
 kind : Int
 name : List UInt8
 old : List UInt8
 front : Nat
 gone : Option (List UInt8)
def absA (a : AB) : AC := ⟨a.kind, a.name, a.old, a.front, a.gone.map fun f => f.2⟩
section
variable {h h' : H} {s : B} {mp lo mp' lo' : V} {X X' : Xs} {U U' W W' : List AB} {rm rm' : Int} {k b : List UInt8} {f : Fl}
def AftS (h h' : H) (s : B) (mp lo : V) (X : Xs) (U : List AB) (C' : List Fi) (V' : List AC) (rm' : Int) : Prop :=
 ∃ mp' lo' X' U', bX X' = C' ∧ U'.map absA = V' ∧ ShM h' s mp' lo' X' U' U' rm' ∧ Stay (fpS s mp lo X U) h h' ∧ ∀ q, fpS s mp' lo' X' U' q → fpS s mp lo X U q ∨ B.val h.next ≤ B.val q
theorem gones_snoc {a : AB} : gones (U ++ [a]) = gones U ++ a.gone.toList := by unfold gones; rw [List.flatMap_append]; simp
theorem mem_vX {p : List UInt8 × V} (hp : p ∈ vX X) : ∃ x ∈ X, p = (x.1, x.2.1) := by
 obtain ⟨x, h1, h2⟩ := List.mem_map.1 hp
 exact ⟨x, h1, h2.symm⟩
theorem ShM.sl (S : ShM h s mp lo X U W rm) : ∀ p ∈ vX X, IsSl p.2 := fun p hp => by
 obtain ⟨x, h1, rfl⟩ := mem_vX hp
 exact (S.fil x.2 (List.mem_append_left _ (List.mem_map.2 ⟨x, h1, rfl⟩))).sl.1
theorem used_X (hX : ∀ x ∈ X, lenV x.2.1 = x.2.2.length) : usedE (vX X) = usedR (bX X) := by
 unfold usedE usedR
 show (List.map _ (List.map _ X)).sum = (List.map _ (List.map _ X)).sum
 rw [List.map_map, List.map_map]
 congr 1
 exact List.map_congr_left fun x hx => hX x hx
theorem ShM.used (S : ShM h s mp lo X U W rm) : usedE (vX X) = usedR (bX X) := used_X fun x hx => (S.fil x.2 (List.mem_append_left _ (List.mem_map.2 ⟨x, hx, rfl⟩))).sl.2
theorem get_X : getE (vX X) k = (gt X k).map fun f => f.1 := by rw [getE_gt]; exact gt_mp2 _
theorem set_X : setE (vX X) k f.1 = vX (st X k f) := by rw [setE_st]; exact st_mp2 (v := f) _
theorem del_X : delE (vX X) k = vX (dl X k) := by rw [delE_dl]; exact dl_mp2 _
theorem len_X : (vX X).length = X.length := List.length_map ..
theorem len_bX : (bX X).length = X.length := List.length_map ..
theorem mem_gt (h : gt X k = some f) : f ∈ X.map (·.2) := (((gt_perm h).map (·.2)).mem_iff).2 (List.mem_cons_self ..)
def pErr (rm : Int) (C : List Fi) (k b : List UInt8) : Int := if nameP k = false then 10 else if (gt C k).isSome then 14 else if 60 ≤ C.length ∨ max (rm - (usedR C : Int)) 0 < (b.length : Int) then 15 else 0
def aErr (rm : Int) (C : List Fi) (k b : List UInt8) : Int := if (gt C k).isSome = false then 14 else if max (rm - (usedR C : Int)) 0 < (b.length : Int) then 15 else 0
theorem get_iX : (getE (vX X) k).isSome = (gt (bX X) k).isSome := by
 rw [get_X, show gt (bX X) k = (gt X k).map fun f => f.2 from gt_mp2 _]
 cases gt X k <;> rfl
theorem ShM.pe (S : ShM h s mp lo X U W rm) : putErr rm (vX X) k b = pErr rm (bX X) k b := by unfold putErr pErr; rw [S.used, get_iX, len_X, len_bX]
theorem ShM.ae (S : ShM h s mp lo X U W rm) : addErr rm (vX X) k b = aErr rm (bX X) k b := by unfold addErr aErr; rw [S.used, get_iX]
end
end Go.Proofs.Ytjlhfoadabkahaa

set_option maxRecDepth 100000
set_option maxHeartbeats 8000000
set_option linter.all false
namespace Go.Proofs.Ytjlhfoadabkahaa
open Go Go.Ev
section
variable {h h' : H} {s : B} {mp lo mp' lo' : V} {X X' : Xs} {U U' W W' : List AB} {rm rm' : Int} {k n b : List UInt8} {f : Fl}
theorem ShM.mpB (S : ShM h s mp lo X U W rm) : MpB h mp (vX X) := S.map.elim (fun ⟨e, e2, _⟩ => .inl ⟨e, by rw [e2]; rfl⟩) fun ⟨id, e, m⟩ => .inr ⟨id, e, m.b⟩
theorem gX : gt (bX X) k = (gt X k).map fun f => f.2 := gt_mp2 _
theorem live_snoc {X : Xs} {a : AB} : live X (U ++ [a]) = X.map (·.2) ++ (gones U ++ a.gone.toList) := by unfold live; rw [gones_snoc]
theorem flat_snoc {a : AB} : (U ++ [a]).flatMap actG = U.flatMap actG ++ actG a := by rw [List.flatMap_append]; simp
theorem acts_len (hU : U.length ≤ 10000) : (U.flatMap actG).length + 6 ≤ 1048576 := by rw [fm_len actG_len]; omega
theorem abs_snoc {a : AB} : (U ++ [a]).map absA = U.map absA ++ [absA a] := by rw [List.map_append]; rfl
def putA (k : List UInt8) : AC := ⟨1, k, [], 0, none⟩
theorem sput_ok (S : ShM h s mp lo X U U rm) (hU : U.length ≤ 10000) (hu : usedR (bX X) ≤ 9223372036854775807) (h0 : 0 ≤ rm) (h1 : rm ≤ 1000000) (hk : k.length ≤ 9223372036854775807) (hb : b.length ≤ 9223372036854775807) (hf : B.val h.floor ≤ B.val h.next) :
   FnOk Try.prog 16 [.p s 0 0 3, sv k, sv b] h fun y h' => y = .i .i64 (pErr rm (bX X) k b) ∧ if pErr rm (bX X) k b = 0 then AftS h h' s mp lo X U (st (bX X) k b) (U.map absA ++ [putA k]) rm else h' = h := by
 by_cases he : pErr rm (bX X) k b = 0
 · simp only [if_pos he]
   have he' : putErr rm (vX X) k b = 0 := by rw [S.pe]; exact he
   have hg : gt X k = none := by
     cases hg : gt X k with
     | none => rfl
     | some f =>
       unfold pErr at he
       rw [gX, hg] at he
       by_cases hn : nameP k = false
       · rw [if_pos hn] at he; cases he
       · rw [if_neg hn] at he; cases he
   have fin : ∀ {y : V} {h' : H} {id : B} {lo' : V} {q : B}, (mp = .m id ∨ mp = .m0 ∧ B.val h.next ≤ B.val id) → B.val h.next ≤ B.val q → q ≠ id → Ev.Own h' s [.i .i64 rm, .m id, lo'] → MapC h' id (setE (vX X) k (fileV q 0 b.length)) → FileM h' (fileV q 0 b.length) b → Buf h' 84 6 lo' (U.flatMap actG ++ actV 1 k [] 0 .l0 false) →
       Stay (fun i => i = s ∨ mp = .m i ∨ isOf lo i) h h' → (∀ i, isOf lo' i → (isOf lo i ∨ B.val h.next ≤ B.val i) ∧ i ≠ q ∧ i ≠ id) → AftS h h' s mp lo X U (st (bX X) k b) (U.map absA ++ [putA k]) rm := by
     intro y h' id lo' q hid hq hqi o' m' f' b' s' hl
     have hs := S.slt
     have := S.upd (F := []) (R := live X U) (F' := [(fileV q 0 b.length, b)]) (X' := st X k (fileV q 0 b.length, b)) (U' := U ++ [⟨1, k, [], 0, none⟩]) (W' := U ++ [⟨1, k, [], 0, none⟩]) (rm' := rm) (mp' := .m id) (lo' := lo') (.refl _) ?_ (s'.mono fun i _ e => e.elim .inl fun e => e.elim (fun e => .inr (.inl e)) fun e => .inr (.inr (.inl e))) o' (.inr ⟨id, rfl, by rw [← set_X]; exact m'⟩) (by rw [flat_snoc]; exact b') ?_ (fun i e => (hl i e).1) ?_ ?_ (List.pairwise_singleton ..)
     · refine ⟨_, _, _, _, ?_, by rw [abs_snoc]; rfl, this⟩
       exact (st_mp2 (v := ((fileV q 0 b.length, b) : Fl)) (fun f : Fl => f.2)).symm
     · rw [live_snoc]
       have p := (st_perm (X := X) (k := k) (v := ((fileV q 0 b.length, b) : Fl))).map (·.2)
       rw [dl_none hg] at p
       refine (p.append_right _).trans ?_
       show ((fileV q 0 b.length, b) :: (X.map (·.2) ++ (gones U ++ []))).Perm _
       rw [List.append_nil]
       exact .refl _
     · intro i e
       cases e
       exact hid.imp_right (·.2)
     · intro i e; cases e; exact fun e => (hl _ e).2.2 rfl
     · intro f hf
       rw [List.mem_singleton.1 hf]
       refine ⟨f', fun p hp => ?_⟩
       rw [fOf_file hp]
       exact ⟨.inr hq, fun e => by rw [e] at hq; omega, fun e => by cases e; exact hqi rfl, fun e => (hl _ e).2.1 rfl⟩
   rcases S.map with ⟨e1, e2, _⟩ | ⟨id, e1, m⟩
   · subst e1 e2
     refine (put_new S.own S.buf S.ls hf (acts_len hU) h0 h1 hk hb he').mono ?_
     rintro y h' ⟨rfl, lo', q, id, hq, hi, hqi, o', m', f', b', s', hl⟩
     exact ⟨by rw [he], fin (y := .u) (.inr ⟨rfl, hi⟩) hq hqi o' m' f' b' (s'.mono fun i _ e => e.elim .inl fun e => .inr (.inr e)) fun i e => hl i e⟩
   · subst e1
     refine (put_ok S.own m S.buf (fun e => S.sm (by rw [e])) S.ls (S.lm id rfl) hf (acts_len hU) S.sl (by rw [S.used]; exact hu) h0 h1 hk hb he').mono ?_
     rintro y h' ⟨rfl, lo', q, hq, hqi, o', m', f', b', s', hl⟩
     refine ⟨by rw [he], fin (y := .u) (.inl rfl) hq hqi o' m' f' b' (s'.mono fun i _ e => e.elim .inl fun e => e.elim (fun e => .inr (.inl (by rw [e]))) fun e => .inr (.inr e)) fun i e => ⟨(hl i e).1, (hl i e).2, fun e2 => ?_⟩⟩
     have := m.lt
     rw [e2] at e
     exact (hl id e).1.elim (S.lm id rfl) fun e => by omega
 · simp only [if_neg he]
   refine (put_err S.own.row (by omega) S.mpB S.sl (by rw [S.used]; exact hu) h0 h1 hk hb (by rw [S.pe]; exact he)).mono ?_
   rintro y h' ⟨rfl, rfl⟩
   exact ⟨by rw [S.pe], rfl⟩
theorem used_gt : ∀ {L : List Fi} {k b0 : List UInt8}, gt L k = some b0 → b0.length ≤ usedR L
 | a :: r, k, b0, h => by
   rw [gt_c] at h
   unfold usedR
   rw [List.map_cons, List.sum_cons]
   by_cases e : k = a.1
   · rw [if_pos e] at h; rw [← Option.some.inj h]; exact Nat.le_add_right _ _
   · rw [if_neg e] at h
     have := used_gt h
     unfold usedR at this
     omega
def addA (k : List UInt8) (n : Nat) : AC := ⟨2, k, [], n, none⟩
theorem ShM.mem {f : Fl} (h : gt X k = some f) : f ∈ live X U := List.mem_append_left _ (mem_gt h)
theorem ShM.isMap (S : ShM h s mp lo X U W rm) (hg : gt X k = some f) : ∃ id, mp = .m id ∧ MapC h id (vX X) := by
 rcases S.map with ⟨_, e, _⟩ | h
 · rw [e] at hg; cases hg
 · exact h
theorem sadd_ok (S : ShM h s mp lo X U U rm) (hX : X.length ≤ 10000) (hU : U.length ≤ 10000) (hu : usedR (bX X) ≤ 1000000) (h0 : 0 ≤ rm) (h1 : rm ≤ 1000000) (hb : b.length ≤ 9223372036854775807) (hf : B.val h.floor ≤ B.val h.next) :
   FnOk Try.prog 18 [.p s 0 0 3, sv k, sv b] h fun y h' => y = .i .i64 (aErr rm (bX X) k b) ∧ if aErr rm (bX X) k b = 0 then AftS h h' s mp lo X U (st (bX X) k ((gt (bX X) k).getD [] ++ b)) (U.map absA ++ [addA k ((gt (bX X) k).getD []).length]) rm else h' = h := by
 by_cases he : aErr rm (bX X) k b = 0
 · simp only [if_pos he]
   have he' : addErr rm (vX X) k b = 0 := by rw [S.ae]; exact he
   obtain ⟨⟨v, bs⟩, hg⟩ : ∃ f, gt X k = some f := by
     cases hg : gt X k with
     | some f => exact ⟨f, rfl⟩
     | none => unfold aErr at he; rw [gX, hg] at he; cases he
   have hgb : gt (bX X) k = some bs := by rw [gX, hg]; rfl
   have hub := used_gt hgb
   have hbb : bs.length + b.length ≤ 1048576 := by
     unfold aErr at he
     rw [hgb, if_neg (fun h => by cases h)] at he
     by_cases hlt : max (rm - (usedR (bX X) : Int)) 0 < (b.length : Int)
     · rw [if_pos hlt] at he; cases he
     · omega
   obtain ⟨id, rfl, m⟩ := S.isMap hg
   have hm := ShM.mem (U := U) hg
   have hfs := S.fs _ hm
   refine (add_ok (v := v) (bs := bs) S.own m S.buf (fun e => S.sm (by rw [e])) S.ls (S.lm id rfl) hf (by rw [get_X, hg]; rfl) (S.fil _ hm) (fun e => (hfs s e).1 rfl) (fun e => (hfs id e).2.1 rfl) (fun q e => (hfs q e).2.2) (by rw [len_X]; omega) (acts_len hU) S.sl (by rw [S.used]; omega) h0 h1 hb hbb he').mono ?_
   rintro y h' ⟨rfl, lo', v', o', m', f', b', s', hl, hv, hvv⟩
   refine ⟨by rw [he], ?_⟩
   rw [hgb]
   have := S.upd (F := [(v, bs)]) (R := (dl X k).map (·.2) ++ gones U) (F' := [(v', bs ++ b)]) (X' := st X k (v', bs ++ b)) (U' := U ++ [⟨2, k, [], bs.length, none⟩]) (W' := U ++ [⟨2, k, [], bs.length, none⟩]) (rm' := rm) (mp' := .m id) (lo' := lo')
     (((gt_perm hg).map (·.2)).append_right _) ?_ (s'.mono fun i _ e => e.elim .inl fun e => e.elim (fun e => .inr (.inl (by rw [e]))) fun e => e.elim (fun e => .inr (.inr (.inl e))) fun e => .inr (.inr (.inr ⟨_, List.mem_singleton.2 rfl, e⟩))) o' (.inr ⟨id, rfl, by rw [← set_X]; exact m'⟩) (by rw [flat_snoc]; exact b') (fun i e => .inl e) hl ?_ ?_ (List.pairwise_singleton ..)
   · refine ⟨_, _, _, _, ?_, by rw [abs_snoc]; rfl, this⟩
     exact (st_mp2 (v := ((v', bs ++ b) : Fl)) (fun f : Fl => f.2)).symm
   · rw [live_snoc]
     have p := (st_perm (X := X) (k := k) (v := ((v', bs ++ b) : Fl))).map (·.2)
     refine (p.append_right _).trans ?_
     show ((v', bs ++ b) :: ((dl X k).map (·.2) ++ (gones U ++ []))).Perm _
     rw [List.append_nil]
     exact .refl _
   · intro i e; cases e; exact fun e => (hl _ e).elim (S.lm _ rfl) fun e => by have := m.lt; omega
   · intro f hf'
     rw [List.mem_singleton.1 hf']
     exact ⟨f', fun p hp => ⟨(hv p hp).imp_left fun e => ⟨_, List.mem_singleton.2 rfl, e⟩, (hvv p hp).1, fun e => (hvv p hp).2.1 (by cases e; rfl), (hvv p hp).2.2⟩⟩
 · simp only [if_neg he]
   refine (add_err S.own.row (by omega) S.mpB S.sl (by rw [S.used]; omega) h0 h1 hb (by rw [S.ae]; exact he)).mono ?_
   rintro y h' ⟨rfl, rfl⟩
   exact ⟨by rw [S.ae], rfl⟩
def dropA (k : List UInt8) (g : List UInt8) : AC := ⟨4, k, [], 0, some g⟩
theorem ShM.upd0 {id : B} {a : AB} (S : ShM h s (.m id) lo X U U rm) (hp : (live X' (U ++ [a])).Perm (live X U)) (st : Stay (fun i => i = s ∨ i = id ∨ isOf lo i) h h') (own' : Ev.Own h' s [.i .i64 rm, .m id, lo']) (map' : MapC h' id (vX X')) (buf' : Buf h' 84 6 lo' (U.flatMap actG ++ actG a))
   (hl : ∀ i, isOf lo' i → isOf lo i ∨ B.val h.next ≤ B.val i) : AftS h h' s (.m id) lo X U (bX X') (U.map absA ++ [absA a]) rm := by
 have hid := S.mlt (q := id) rfl
 exact ⟨.m id, lo', X', U ++ [a], rfl, abs_snoc, S.upd (F := []) (R := live X U) (F' := []) (.refl _) hp (st.mono fun i _ e => e.elim .inl fun e => e.elim (fun e => .inr (.inl (by rw [e]))) fun e => .inr (.inr (.inl e))) own' (.inr ⟨id, rfl, map'⟩) (by rw [flat_snoc]; exact buf') (fun i e => .inl e) hl
   (fun i e e2 => by cases e; exact (hl _ e2).elim (S.lm _ rfl) fun e => by omega) (fun f hf => by cases hf) .nil⟩
theorem sdrop_ok (S : ShM h s mp lo X U U rm) (hX : X.length ≤ 10000) (hU : U.length ≤ 10000) (hf : B.val h.floor ≤ B.val h.next) :
   FnOk Try.prog 22 [.p s 0 0 3, sv k] h fun y h' => match gt (bX X) k with
     | none => y = .i .i64 14 ∧ h' = h
     | some g => y = .i .i64 0 ∧ AftS h h' s mp lo X U (dl (bX X) k) (U.map absA ++ [dropA k g]) rm := by
 rw [gX]
 cases hg : gt X k with
 | none => exact drop_none S.own.row (by omega) S.mpB (by rw [get_X, hg]; rfl)
 | some f =>
   obtain ⟨id, rfl, m⟩ := S.isMap hg
   have hm := ShM.mem (U := U) hg
   refine (drop_ok (v := f.1) S.own m S.buf (fun e => S.sm (by rw [e])) S.ls (S.lm id rfl) hf (by rw [len_X]; omega) (acts_len hU) (by rw [get_X, hg]; rfl) (S.fil _ hm).sl.1).mono ?_
   rintro y h' ⟨rfl, lo', o', m', b', s', hl⟩
   refine ⟨rfl, ?_⟩
   have := S.upd0 (X' := dl X k) (a := ⟨4, k, [], 0, some f⟩) ?_ s' o' (by rw [← del_X]; exact m') b' hl
   · rw [show dl (bX X) k = bX (dl X k) from dl_mp2 _]; exact this
   · rw [live_snoc]
     unfold live
     refine .trans ?_ (((gt_perm hg).map (·.2)).append_right _).symm
     show ((dl X k).map (·.2) ++ (gones U ++ [f])).Perm (f :: ((dl X k).map (·.2) ++ gones U))
     rw [← List.append_assoc]
     exact List.perm_append_singleton ..
end
end Go.Proofs.Ytjlhfoadabkahaa

set_option maxRecDepth 100000
set_option maxHeartbeats 8000000
set_option linter.all false
namespace Go.Proofs.Ytjlhfoadabkahaa
open Go Go.Ev
section
variable {h h' : H} {s : B} {mp lo mp' lo' : V} {X X' : Xs} {U U' W W' : List AB} {rm rm' : Int} {k n b : List UInt8} {f : Fl}
def sErr (C : List Fi) (o n : List UInt8) : Int := if nameP n = false then 10 else if (gt C o).isSome then 0 else 14
def swapC (C : List Fi) (o n : List UInt8) : List Fi := if o = n then C else st (dl C o) n ((gt C o).getD [])
def swapA (C : List Fi) (o n : List UInt8) : AC := ⟨3, n, o, 0, if o = n then none else gt C n⟩
theorem ShM.se : swapErr (vX X) k n = sErr (bX X) k n := by unfold swapErr sErr; rw [get_iX]
theorem swap_perm (hn : (nam X).Nodup) (hkn : k ≠ n) (hg : gt X k = some f) (G : List Fl) : ((st (dl X k) n f).map (·.2) ++ (G ++ (gt X n).toList)).Perm (X.map (·.2) ++ G) := by
 have e : gt (dl X k) n = gt X n := by rw [gt_dl hn, if_neg fun e => hkn e.symm]
 have p1 : ((st (dl X k) n f).map (·.2)).Perm (f :: (dl (dl X k) n).map (·.2)) := (st_perm (X := dl X k) (k := n) (v := f)).map (·.2)
 have p2 : (X.map (·.2)).Perm (f :: (dl X k).map (·.2)) := (gt_perm hg).map (·.2)
 have p3 : ((dl X k).map (·.2)).Perm ((gt X n).toList ++ (dl (dl X k) n).map (·.2)) := by
   cases hx : gt X n with
   | none => rw [dl_none (e.trans hx)]; exact .refl _
   | some g => exact (gt_perm (e.trans hx)).map (·.2)
 refine (p1.append_right _).trans (.trans ?_ ((p2.trans (p3.cons f)).append_right G).symm)
 refine List.Perm.cons f ?_
 show ((dl (dl X k) n).map (·.2) ++ (G ++ (gt X n).toList)).Perm (((gt X n).toList ++ (dl (dl X k) n).map (·.2)) ++ G)
 rw [← List.append_assoc, List.append_assoc (gt X n).toList]
 exact List.perm_append_comm
theorem sswap_ok (S : ShM h s mp lo X U U rm) (hX : X.length ≤ 10000) (hU : U.length ≤ 10000) (hk : n.length ≤ 9223372036854775807) (hf : B.val h.floor ≤ B.val h.next) :
   FnOk Try.prog 20 [.p s 0 0 3, sv k, sv n] h fun y h' => y = .i .i64 (sErr (bX X) k n) ∧ if sErr (bX X) k n = 0 then AftS h h' s mp lo X U (swapC (bX X) k n) (U.map absA ++ [swapA (bX X) k n]) rm else h' = h := by
 by_cases he : sErr (bX X) k n = 0
 · simp only [if_pos he]
   have hn : nameP n = true := by
     cases hn : nameP n with
     | true => rfl
     | false => unfold sErr at he; rw [if_pos hn] at he; cases he
   obtain ⟨f, hg⟩ : ∃ f, gt X k = some f := by
     cases hg : gt X k with
     | some f => exact ⟨f, rfl⟩
     | none => unfold sErr at he; rw [if_neg (by rw [hn]; decide), gX, hg] at he; cases he
   obtain ⟨id, rfl, m⟩ := S.isMap hg
   have hm := ShM.mem (U := U) hg
   by_cases hkn : k = n
   · subst hkn
     refine (swap_same S.own m S.buf (fun e => S.sm (by rw [e])) S.ls (S.lm id rfl) hf (acts_len hU) hk hn (by rw [get_X, hg]; rfl)).mono ?_
     rintro y h' ⟨rfl, lo', o', m', b', s', hl⟩
     refine ⟨by rw [he], ?_⟩
     unfold swapC swapA
     rw [if_pos rfl, if_pos rfl]
     refine S.upd0 (X' := X) (a := ⟨3, k, k, 0, none⟩) ?_ (s'.mono fun i _ e => e.elim .inl fun e => .inr (.inr e)) o' m' b' hl
     rw [live_snoc]
     show (X.map (fun p : List UInt8 × Fl => p.2) ++ (gones U ++ [])).Perm _
     rw [List.append_nil]; exact .refl _
   · have hgs : (getE (vX X) n).getD .l0 = (⟨3, n, k, 0, gt X n⟩ : AB).gv := by
       rw [get_X]
       unfold AB.gv
       show (Option.map _ (gt X n)).getD V.l0 = match gt X n with | none => V.l0 | some f => f.1
       cases gt X n <;> rfl
     have hsl : IsSl ((getE (vX X) n).getD .l0) := by
       cases hx : getE (vX X) n with
       | none => exact .inl rfl
       | some v => exact S.sl _ (getE_in hx)
     refine (swap_ok (v := f.1) S.own m S.buf (fun e => S.sm (by rw [e])) S.ls (S.lm id rfl) hf (acts_len hU) (by rw [len_X]; omega) hk hn hkn (by rw [get_X, hg]; rfl) hsl).mono ?_
     rintro y h' ⟨rfl, lo', o', m', b', s', hl⟩
     refine ⟨by rw [he], ?_⟩
     rw [del_X, set_X] at m'
     have ei : (getE (vX X) n).isSome = (gt X n).isSome := by rw [get_X]; cases gt X n <;> rfl
     rw [hgs, ei] at b'
     have := S.upd0 (X' := st (dl X k) n f) (a := ⟨3, n, k, 0, gt X n⟩) (by rw [live_snoc]; exact swap_perm S.nod hkn hg _) s' o' m' b' hl
     have e1 : swapC (bX X) k n = bX (st (dl X k) n f) := by
       unfold swapC
       rw [if_neg hkn, gX, hg, show dl (bX X) k = bX (dl X k) from dl_mp2 _]
       exact st_mp2 (v := f) (fun f : Fl => f.2)
     have e2 : swapA (bX X) k n = absA ⟨3, n, k, 0, gt X n⟩ := by unfold swapA absA; rw [if_neg hkn, gX]
     rw [e1, e2]
     exact this
 · simp only [if_neg he]
   refine (swap_err S.own.row (by omega) S.mpB hk (by rw [ShM.se]; exact he)).mono ?_
   rintro y h' ⟨rfl, rfl⟩
   exact ⟨by rw [ShM.se], rfl⟩
theorem snew_ok (n : Int) (hf : B.val h.floor ≤ B.val h.next) : FnOk Try.prog 14 [.i .i64 n] h fun y h' => y = .p h.next 0 0 3 ∧ ShM h' h.next .m0 .l0 [] [] [] (heldZ n 1000000) ∧ Stay nowhere h h' ∧ ∀ q, fpS h.next .m0 .l0 [] [] q → B.val h.next ≤ B.val q := by
 have no : ∀ q, ¬ isOf .l0 q := fun q ⟨_, _, _, _, _, e⟩ => by cases e
 refine (new_ok n hf).mono ?_
 rintro y h' ⟨rfl, o, s⟩
 refine ⟨rfl, ⟨o, .inl ⟨rfl, rfl, rfl⟩, Buf.nil _ _ _, fun f hf => (by cases hf), fun e => (by cases e), no _, fun i e => (by cases e), fun f hf => (by cases hf), .nil⟩, s, ?_⟩
 rintro q (e | e | e | ⟨f, hf, e⟩)
 · rw [e]; exact Nat.le_refl _
 · cases e
 · exact absurd e (no q)
 · cases hf
theorem sroom_ok {n : Int} (S : ShM h s mp lo X U U rm) : FnOk Try.prog 26 [.p s 0 0 3, .i .i64 n] h fun y h' => y = .tu [] ∧ AftS h h' s mp lo X U (bX X) (U.map absA) (heldZ n 1000000) := by
 refine (room_ok S.own).mono ?_
 rintro y h' ⟨rfl, o, t⟩
 refine ⟨rfl, mp, lo, X, U, rfl, rfl, ?_⟩
 have hx := (S.map.imp_right fun ⟨id, e, m⟩ => (⟨id, e, m.stay t fun e2 => S.sm (by rw [e, e2])⟩ : ∃ id, mp = V.m id ∧ MapC h' id (vX X)))
 exact S.upd (F := []) (R := live X U) (F' := []) (.refl _) (.refl _) (t.mono fun i _ e => .inl e) o hx (S.buf.stay t fun q e e2 => S.ls (by rw [← e2]; exact e)) (fun i e => .inl e) (fun i e => .inl e) S.lm (fun f hf => (by cases hf)) .nil
theorem skeep_ok (S : ShM h s mp lo X U W rm) : FnOk Try.prog 24 [.p s 0 0 3] h fun y h' => y = .tu [] ∧ AftS h h' s mp lo X U (bX X) [] rm := by
 have no : ∀ q, ¬ isOf .l0 q := fun q ⟨_, _, _, _, _, e⟩ => by cases e
 refine (keep_ok S.own).mono ?_
 rintro y h' ⟨rfl, o, t⟩
 refine ⟨rfl, mp, .l0, X, [], rfl, rfl, ?_⟩
 have hx := (S.map.imp (fun e => (⟨e.1, e.2.1, rfl⟩ : mp = V.m0 ∧ X = [] ∧ ([] : List AB) = [])) fun ⟨id, e, m⟩ => (⟨id, e, m.stay t fun e2 => S.sm (by rw [e, e2])⟩ : ∃ id, mp = V.m id ∧ MapC h' id (vX X)))
 have hl : ∀ f ∈ live X [], f ∈ live X U := fun f hf => by
   have hf : f ∈ X.map (fun p : List UInt8 × Fl => p.2) ++ [] := hf
   rw [List.append_nil] at hf
   exact List.mem_append_left _ hf
 refine ⟨⟨o, hx, Buf.nil _ _ _, fun f hf => (S.fil f (hl f hf)).stay t fun q e e2 => (S.fs f (hl f hf) q e).1 e2, S.sm, no _, fun _ _ => no _, fun f hf q e => ⟨(S.fs f (hl f hf) q e).1, (S.fs f (hl f hf) q e).2.1, no _⟩, ?_⟩, t.mono fun i _ e => .inl e, ?_⟩
 · have := S.fp
   unfold live at this
   rw [List.pairwise_append] at this
   show (X.map (fun p : List UInt8 × Fl => p.2) ++ []).Pairwise apa
   rw [List.append_nil]; exact this.1
 · rintro q (e | e | e | ⟨f, hf, e⟩)
   · exact .inl (.inl e)
   · exact .inl (.inr (.inl e))
   · exact absurd e (no q)
   · exact .inl (.inr (.inr (.inr ⟨f, hl f hf, e⟩)))
theorem sloose_ok (S : ShM h s mp lo X U W rm) (hW : W.length ≤ 10000) : FnOk Try.prog 34 [.p s 0 0 3] h fun y h' => y = .i .i64 (W.length : Int) ∧ h' = h := loose_ok S.own.row (by omega) fun N => (Ss.buf (c := actG) S.buf rfl actG_len (by omega)).ln
theorem sleft_ok (S : ShM h s mp lo X U W rm) (hu : usedR (bX X) ≤ 9223372036854775807) (h0 : 0 ≤ rm) (h1 : rm ≤ 1000000) : FnOk Try.prog 48 [.p s 0 0 3] h fun y h' => y = .i .i64 (max (rm - (usedR (bX X) : Int)) 0) ∧ h' = h := by
 have := left_ok S.own.row (Nat.le_refl _) S.mpB S.sl (by rw [S.used]; exact hu) h0 h1
 rwa [S.used] at this
theorem sget_ok (S : ShM h s mp lo X U W rm) : FnOk Try.prog 31 [.p s 0 0 3, sv k] h fun y h' => y = .tu [sv ((gt (bX X) k).getD []), .i .i64 (if gt (bX X) k = none then 14 else 0)] ∧ h' = h := by
 have r := S.own.row
 have m := S.mpB
 rw [gX]
 refine fn_go c31 (by intro hb; cases hb) (by simp) (by simp) fun Q hQ => ?_
 simp only [slotsF, Nat.reduceAdd]
 cases hg : gt X k with
 | none =>
   have hg' : getE (vX X) k = none := by rw [get_X, hg]; rfl
   repeat' (first
     | refine St.h ?_
     | simp (disch := first | omega | (simp only [lnv]; omega)) only [wlk, mwk, ↓get_put', ↓reduceIte, seval, r.l1, m.lk, hg']
     | (with_reducible (first | apply cd_split | apply gd_split)) <;> (intro hc; (try simp only [hcn] at hc); (try simp only [hc]); (try simp only [hcl] at hc); try omega))
   subst hQ
   rw [hg]
   exact ⟨rfl, rfl⟩
 | some f =>
   have hg' : getE (vX X) k = some f.1 := by rw [get_X, hg]; rfl
   have hb := (S.fil _ (ShM.mem (U := U) hg)).rd
   repeat' (first
     | refine St.h ?_
     | simp (disch := first | omega | (simp only [lnv]; omega)) only [wlk, mwk, ↓get_put', ↓reduceIte, seval, r.l1, m.lk, hg']
     | (with_reducible (first | apply cd_split | apply gd_split)) <;> (intro hc; (try simp only [hcn] at hc); (try simp only [hc]); (try simp only [hcl] at hc); try omega))
   rw [hb]
   repeat' (first
     | refine St.h ?_
     | simp (disch := first | omega | (simp only [lnv]; omega)) only [wlk, mwk, ↓get_put', ↓reduceIte, seval]
     | (with_reducible (first | apply cd_split | apply gd_split)) <;> (intro hc; (try simp only [hcn] at hc); (try simp only [hc]); (try simp only [hcl] at hc); try omega))
   subst hQ
   rw [hg]
   exact ⟨rfl, rfl⟩
theorem sused_ok (S : ShM h s mp lo X U W rm) (hu : usedR (bX X) ≤ 9223372036854775807) : FnOk Try.prog 36 [.p s 0 0 3] h fun y h' => y = .i .i64 (usedR (bX X) : Int) ∧ h' = h := by
 have := used_any S.own.row (Nat.le_refl _) S.mpB S.sl (by rw [S.used]; exact hu)
 rwa [S.used] at this
end
end Go.Proofs.Ytjlhfoadabkahaa

set_option maxRecDepth 100000
set_option maxHeartbeats 8000000
set_option linter.all false
namespace Go.Proofs.Ytjlhfoadabkahaa
open Go Go.Ev
section
variable {h h' : H} {s : B} {mp lo mp' lo' : V} {X X' : Xs} {U U' W W' : List AB} {rm rm' : Int} {k b : List UInt8} {f : Fl} {a : AB} {n : Int}
def undoC (C : List Fi) (a : AC) (n : Int) : List Fi :=
 let b := (gt C a.name).getD []
 if a.kind = 1 then (if decide (0 < hlN n b.length) then st C a.name (b.take (hlN n b.length)) else dl C a.name)
 else if a.kind = 2 then st C a.name (b.take (a.front + hlN n (b.length - a.front)))
 else if a.kind = 3 then (if a.old = a.name then C else match a.gone with
   | some g => st (st C a.old b) a.name g
   | none => dl (st C a.old b) a.name)
 else st C a.name (a.gone.getD [])
def mayU (C : List Fi) (a : AC) : Prop :=
 (a.kind = 1 ∧ a.gone = none ∧ ∃ b, gt C a.name = some b) ∨ (a.kind = 2 ∧ a.gone = none ∧ ∃ b, gt C a.name = some b ∧ a.front ≤ b.length) ∨
 (a.kind = 3 ∧ (a.old = a.name ∧ a.gone = none ∨ a.old ≠ a.name ∧ gt C a.old = none ∧ ∃ b, gt C a.name = some b)) ∨ (a.kind = 4 ∧ gt C a.name = none ∧ ∃ g, a.gone = some g)
theorem gv_sl (hg : ∀ f ∈ a.gone, IsSl f.1) : IsSl a.gv := by
 unfold AB.gv
 cases e : a.gone with
 | none => exact .inl rfl
 | some f => exact hg f e
theorem gX_some {b : List UInt8} (h : gt (bX X) k = some b) : ∃ v, gt X k = some (v, b) := by
 rw [gX] at h
 cases hg : gt X k with
 | none => rw [hg] at h; cases h
 | some f => rw [hg] at h; exact ⟨f.1, by rw [← Option.some.inj h]⟩
theorem gX_none (h : gt (bX X) k = none) : gt X k = none := by
 rw [gX] at h
 cases hg : gt X k with
 | none => rfl
 | some f => rw [hg] at h; cases h
theorem ShM.back {id : B} {F R F' : List Fl} (S : ShM h s (.m id) lo X U W rm) (hp : (live X U).Perm (F ++ R)) (hp' : (live X' U').Perm (F' ++ R)) (t : Stay (fun i => i = id) h h') (m' : MapC h' id (vX X'))
   (fF : ∀ f ∈ F', FileM h f.1 f.2 ∧ ∀ q, fOf f.1 q → ∃ e ∈ F, fOf e.1 q) (fP : F'.Pairwise apa) :
   ShM h' s (.m id) lo X' U' W rm ∧ Stay (fpS s (.m id) lo X U) h h' ∧ ∀ q, fpS s (.m id) lo X' U' q → fpS s (.m id) lo X U q := by
 have memF : ∀ {f}, f ∈ F → f ∈ live X U := fun h => hp.mem_iff.2 (List.mem_append_left _ h)
 have hsi : s ≠ id := fun e => S.sm (by rw [e])
 have := S.upd (rm' := rm) (W' := W) (X' := X') (U' := U') (mp' := .m id) (lo' := lo) hp hp' (t.mono fun i _ e => .inr (.inl (by rw [e]))) (S.own.stay t hsi) (.inr ⟨id, rfl, m'⟩) (S.buf.stay t fun q e e2 => S.lm id rfl (by rw [← e2]; exact e)) (fun i e => .inl e) (fun i e => .inl e) S.lm
   (fun f hf => ⟨(fF f hf).1.stay t fun q hq e => ?_, fun q hq => ?_⟩) fP
 · refine ⟨this.1, this.2.1, ?_⟩
   rintro q (e | e | e | ⟨f, hf, e⟩)
   · exact .inl e
   · exact .inr (.inl e)
   · exact .inr (.inr (.inl e))
   · rcases List.mem_append.1 (hp'.mem_iff.1 hf) with h1 | h1
     · obtain ⟨g, hg, e⟩ := (fF f h1).2 q e
       exact .inr (.inr (.inr ⟨g, memF hg, e⟩))
     · exact .inr (.inr (.inr ⟨f, hp.mem_iff.2 (List.mem_append_right _ h1), e⟩))
 · obtain ⟨g, hg, e2⟩ := (fF f hf).2 q hq
   exact (S.fs g (memF hg) q e2).2.1 (by rw [e])
 · obtain ⟨g, hg, e⟩ := (fF f hf).2 q hq
   exact ⟨.inl ⟨g, hg, e⟩, S.fs g (memF hg) q e⟩
theorem back_perm {Z : Xs} (hz : (Z.map (·.2)).Perm (a.gone.toList ++ X.map (·.2))) : (live Z U).Perm ([] ++ live X (U ++ [a])) := by
 rw [live_snoc, List.nil_append, ← List.append_assoc]
 refine (hz.append_right (gones U)).trans ?_
 rw [List.append_assoc]
 exact List.perm_append_comm
theorem stb_ok (S : ShM h s mp lo X (U ++ [a]) W rm) (hX : X.length ≤ 10000) (hm : mayU (bX X) (absA a)) (hu : usedR (bX X) ≤ 9223372036854775807) (hf : B.val h.floor ≤ B.val h.next) :
   FnOk Try.prog 56 [.p s 0 0 3, .a (actG a), .i .i64 n] h fun y h' => y = .tu [] ∧ ∃ X', bX X' = undoC (bX X) (absA a) n ∧ ShM h' s mp lo X' U W rm ∧ Stay (fpS s mp lo X (U ++ [a])) h h' ∧ ∀ q, fpS s mp lo X' U q → fpS s mp lo X (U ++ [a]) q := by
 have hgo : IsSl a.gv := gv_sl fun f hf => (S.fil f (by rw [live_snoc]; exact List.mem_append_right _ (List.mem_append_right _ (by rw [hf]; exact List.mem_singleton.2 rfl)))).sl.1
 obtain ⟨id, rfl, m⟩ : ∃ id, mp = .m id ∧ MapC h id (vX X) := by
   rcases S.map with ⟨_, _, e⟩ | h
   · exact absurd e (by simp)
   · exact h
 have hsi : s ≠ id := fun e => S.sm (by rw [e])
 have hlE : (vX X).length ≤ 1048576 := by rw [len_X]; omega
 obtain ⟨kd, nm, od, fr, gn⟩ := a
 rcases hm with ⟨h1, h2, b, h3⟩ | ⟨h1, h2, b, h3, h4⟩ | ⟨h1, h2⟩ | ⟨h1, h2, g, h3⟩
 · obtain rfl : kd = 1 := h1
   obtain rfl : gn = none := by cases gn with | none => rfl | some g => cases h2
   have h3 : gt (bX X) nm = some b := h3
   obtain ⟨v, hg⟩ := gX_some h3
   have hmem := ShM.mem (U := U ++ [(⟨1, nm, od, fr, none⟩ : AB)]) hg
   have fv := S.fil _ hmem
   have hbu := used_gt h3
   refine (tb_put (n := n) (front := (fr : Int)) (old := od) (had := false) S.own m hsi hf hlE (show b.length ≤ _ by omega) hgo (show getE (vX X) nm = _ by rw [get_X, hg]; rfl) fv).mono ?_
   rintro y h' ⟨rfl, m', t⟩
   have hgo : ∀ Z : Xs, live Z (U ++ [(⟨1, nm, od, fr, none⟩ : AB)]) = live Z U := fun Z => by rw [live_snoc]; show Z.map (·.2) ++ (gones U ++ []) = _; rw [List.append_nil]; rfl
   have hpF : (live X (U ++ [(⟨1, nm, od, fr, none⟩ : AB)])).Perm ([(v, b)] ++ ((dl X nm).map (·.2) ++ gones U)) := by rw [hgo]; exact ((gt_perm hg).map (·.2)).append_right _
   have eu : undoC (bX X) (absA ⟨1, nm, od, fr, none⟩) n = if decide (0 < hlN n b.length) then st (bX X) nm (b.take (hlN n b.length)) else dl (bX X) nm := by
     show (if (1 : Int) = 1 then (if decide (0 < hlN n ((gt (bX X) nm).getD []).length) then st (bX X) nm (((gt (bX X) nm).getD []).take (hlN n ((gt (bX X) nm).getD []).length)) else dl (bX X) nm) else undoC (bX X) (absA ⟨1, nm, od, fr, none⟩) n) = _
     rw [if_pos rfl, h3]; rfl
   have ct := FileM.cut (P := Try.prog) fv (hlN_le n b.length)
   rw [eu]
   by_cases hk : decide (0 < hlN n b.length) = true
   · rw [if_pos hk] at m' ⊢
     have := S.back (X' := st X nm (fCut v (hlN n b.length), b.take (hlN n b.length))) (U' := U) (F' := [(fCut v (hlN n b.length), b.take (hlN n b.length))]) hpF ?_ t (by rw [← set_X]; exact m') (fun f hf => ?_) (List.pairwise_singleton ..)
     · exact ⟨rfl, _, (st_mp2 (v := ((fCut v (hlN n b.length), b.take (hlN n b.length)) : Fl)) (fun f : Fl => f.2)).symm, this⟩
     · exact ((st_perm (X := X) (k := nm) (v := ((fCut v (hlN n b.length), b.take (hlN n b.length)) : Fl))).map (·.2)).append_right _
     · rw [List.mem_singleton.1 hf]
       exact ⟨ct.1, fun q hq => ⟨_, List.mem_singleton.2 rfl, fCut_of hq⟩⟩
   · rw [if_neg hk] at m' ⊢
     have := S.back (X' := dl X nm) (U' := U) (F' := []) hpF (.refl _) t (by rw [← del_X]; exact m') (fun f hf => (by cases hf)) .nil
     exact ⟨rfl, _, (dl_mp2 _).symm, this⟩
 · obtain rfl : kd = 2 := h1
   obtain rfl : gn = none := by cases gn with | none => rfl | some g => cases h2
   have h3 : gt (bX X) nm = some b := h3
   obtain ⟨v, hg⟩ := gX_some h3
   have hmem := ShM.mem (U := U ++ [(⟨2, nm, od, fr, none⟩ : AB)]) hg
   have fv := S.fil _ hmem
   have hbu := used_gt h3
   have hfr : fr ≤ b.length := h4
   refine (tb_add (n := n) (f := fr) (old := od) (had := false) S.own m hsi hf hlE (show b.length ≤ _ by omega) hfr hgo (show getE (vX X) nm = _ by rw [get_X, hg]; rfl) fv).mono ?_
   rintro y h' ⟨rfl, m', t⟩
   have hgo : ∀ Z : Xs, live Z (U ++ [(⟨2, nm, od, fr, none⟩ : AB)]) = live Z U := fun Z => by rw [live_snoc]; show Z.map (·.2) ++ (gones U ++ []) = _; rw [List.append_nil]; rfl
   have hpF : (live X (U ++ [(⟨2, nm, od, fr, none⟩ : AB)])).Perm ([(v, b)] ++ ((dl X nm).map (·.2) ++ gones U)) := by rw [hgo]; exact ((gt_perm hg).map (·.2)).append_right _
   have eu : undoC (bX X) (absA ⟨2, nm, od, fr, none⟩) n = st (bX X) nm (b.take (fr + hlN n (b.length - fr))) := by
     show (if (2 : Int) = 1 then bX X else if (2 : Int) = 2 then st (bX X) nm (((gt (bX X) nm).getD []).take (fr + hlN n (((gt (bX X) nm).getD []).length - fr))) else bX X) = _
     rw [if_neg (by decide), if_pos rfl, h3]; rfl
   have hle := hlN_le n (b.length - fr)
   have ct := FileM.cut (P := Try.prog) (k := fr + hlN n (b.length - fr)) fv (by show _ ≤ b.length; omega)
   rw [eu]
   have := S.back (X' := st X nm (fCut v (fr + hlN n (b.length - fr)), b.take (fr + hlN n (b.length - fr)))) (U' := U) (F' := [(fCut v (fr + hlN n (b.length - fr)), b.take (fr + hlN n (b.length - fr)))]) hpF ?_ t (by rw [← set_X]; exact m') (fun f hf => ?_) (List.pairwise_singleton ..)
   · exact ⟨rfl, _, (st_mp2 (v := ((fCut v (fr + hlN n (b.length - fr)), b.take (fr + hlN n (b.length - fr))) : Fl)) (fun f : Fl => f.2)).symm, this⟩
   · exact ((st_perm (X := X) (k := nm) (v := ((fCut v (fr + hlN n (b.length - fr)), b.take (fr + hlN n (b.length - fr))) : Fl))).map (·.2)).append_right _
   · rw [List.mem_singleton.1 hf]
     exact ⟨ct.1, fun q hq => ⟨_, List.mem_singleton.2 rfl, fCut_of hq⟩⟩
 · obtain rfl : kd = 3 := h1
   rcases h2 with ⟨h2, h3⟩ | ⟨h2, h3, b, h4⟩
   · obtain rfl : od = nm := h2
     obtain rfl : gn = none := by cases gn with | none => rfl | some g => cases h3
     refine (tb_same (n := n) (front := (fr : Int)) (k := od) (had := false) S.own m hsi hf hgo).mono ?_
     rintro y h' ⟨rfl, t⟩
     have eu : undoC (bX X) (absA ⟨3, od, od, fr, none⟩) n = bX X := by
       show (if (3 : Int) = 1 then bX X else if (3 : Int) = 2 then bX X else if (3 : Int) = 3 then (if od = od then bX X else dl (st (bX X) od ((gt (bX X) od).getD [])) od) else bX X) = _
       rw [if_neg (by decide), if_neg (by decide), if_pos rfl, if_pos rfl]
     rw [eu]
     exact ⟨rfl, X, rfl, S.back (X' := X) (U' := U) (F := []) (F' := []) (R := live X (U ++ [⟨3, od, od, fr, none⟩])) (.refl _) (back_perm (a := ⟨3, od, od, fr, none⟩) (.refl _)) (t.mono fun _ _ e => e.elim) (m.stay t fun e => e) (fun f hf => (by cases hf)) .nil⟩
   · have h2 : od ≠ nm := h2
     have h3 : gt (bX X) od = none := h3
     have h4 : gt (bX X) nm = some b := h4
     obtain ⟨v, hg⟩ := gX_some h4
     have ho := gX_none h3
     refine (tb_swap (n := n) (front := (fr : Int)) (v := v) (had := gn.isSome) S.own m hsi hf (by rw [len_X]; omega) h2 hgo (show getE (vX X) nm = _ by rw [get_X, hg]; rfl)).mono ?_
     rintro y h' ⟨rfl, m', t⟩
     have eu : undoC (bX X) (absA ⟨3, nm, od, fr, gn⟩) n = match gn with | some g => st (st (bX X) od b) nm g.2 | none => dl (st (bX X) od b) nm := by
       show (if (3 : Int) = 1 then bX X else if (3 : Int) = 2 then bX X else if (3 : Int) = 3 then (if od = nm then bX X else match gn.map (fun f : Fl => f.2) with
         | some g => st (st (bX X) od ((gt (bX X) nm).getD [])) nm g
         | none => dl (st (bX X) od ((gt (bX X) nm).getD [])) nm) else bX X) = _
       rw [if_neg (by decide), if_neg (by decide), if_pos rfl, if_neg h2, h4]
       cases gn <;> rfl
     have e1 : setE (vX X) od v = vX (st X od (v, b)) := set_X (f := (v, b))
     have e2 : st (bX X) od b = bX (st X od (v, b)) := st_mp2 (v := ((v, b) : Fl)) (fun f : Fl => f.2)
     rw [e1] at m'
     rw [eu, e2]
     have hY : gt (st X od (v, b)) nm = some (v, b) := by rw [gt_st, if_neg fun e => h2 e.symm, hg]
     have q1 : ((st X od (v, b)).map (·.2)).Perm ((v, b) :: X.map (·.2)) := by
       have := (st_perm (X := X) (k := od) (v := ((v, b) : Fl))).map (·.2)
       rwa [dl_none ho] at this
     have q2 : ((st X od (v, b)).map (·.2)).Perm ((v, b) :: (dl (st X od (v, b)) nm).map (·.2)) := (gt_perm hY).map (·.2)
     have q3 : ((dl (st X od (v, b)) nm).map (·.2)).Perm (X.map (·.2)) := (q2.symm.trans q1).cons_inv
     cases gn with
     | none =>
       have m' : MapC h' id (delE (vX (st X od (v, b))) nm) := m'
       exact ⟨rfl, _, (dl_mp2 _).symm, S.back (X' := dl (st X od (v, b)) nm) (U' := U) (F := []) (F' := []) (R := live X (U ++ [⟨3, nm, od, fr, none⟩])) (.refl _) (back_perm (a := ⟨3, nm, od, fr, none⟩) q3) t (by rw [← del_X]; exact m') (fun f hf => (by cases hf)) .nil⟩
     | some g =>
       have m' : MapC h' id (setE (vX (st X od (v, b))) nm g.1) := m'
       have p4 : ((st (st X od (v, b)) nm g).map (·.2)).Perm (g :: (dl (st X od (v, b)) nm).map (·.2)) := (st_perm (X := st X od (v, b)) (k := nm) (v := g)).map (·.2)
       have q4 : ((st (st X od (v, b)) nm g).map (·.2)).Perm (g :: X.map (·.2)) := p4.trans (q3.cons g)
       exact ⟨rfl, _, (st_mp2 (v := g) (fun f : Fl => f.2)).symm, S.back (X' := st (st X od (v, b)) nm g) (U' := U) (F := []) (F' := []) (R := live X (U ++ [⟨3, nm, od, fr, some g⟩])) (.refl _) (back_perm (a := ⟨3, nm, od, fr, some g⟩) q4) t (by rw [← set_X]; exact m') (fun f hf => (by cases hf)) .nil⟩
 · obtain rfl : kd = 4 := h1
   have h2 : gt (bX X) nm = none := h2
   cases gn with
   | none => cases h3
   | some g =>
   refine (tb_drop (n := n) (front := (fr : Int)) (k := nm) (old := od) (had := true) S.own m hsi hf hlE hgo).mono ?_
   rintro y h' ⟨rfl, m', t⟩
   have m' : MapC h' id (setE (vX X) nm g.1) := m'
   have eu : undoC (bX X) (absA ⟨4, nm, od, fr, some g⟩) n = st (bX X) nm g.2 := by
     show (if (4 : Int) = 1 then bX X else if (4 : Int) = 2 then bX X else if (4 : Int) = 3 then bX X else st (bX X) nm g.2) = _
     rw [if_neg (by decide), if_neg (by decide), if_neg (by decide)]
   rw [eu]
   have q4 : ((st X nm g).map (·.2)).Perm (g :: X.map (·.2)) := by
     have ho : gt X nm = none := gX_none h2
     have := (st_perm (X := X) (k := nm) (v := g)).map (·.2)
     rwa [dl_none ho] at this
   exact ⟨rfl, _, (st_mp2 (v := g) (fun f : Fl => f.2)).symm, S.back (X' := st X nm g) (U' := U) (F := []) (F' := []) (R := live X (U ++ [⟨4, nm, od, fr, some g⟩])) (.refl _) (back_perm (a := ⟨4, nm, od, fr, some g⟩) q4) t (by rw [← set_X]; exact m') (fun f hf => (by cases hf)) .nil⟩
end
end Go.Proofs.Ytjlhfoadabkahaa

set_option maxRecDepth 1000000
set_option linter.all false
namespace Go.Proofs.Ytjlhfoadabkahaa
open Go Go.Ev
noncomputable abbrev s15_0 : CC := (CC.seq (CC.region [(wB 3 (doMove (tm 0))), (wB 4 (doMin (tm 3) (oN 1000000))), (wB 5 (doMax (oN 0) (tm 4))), (wB 6 (doBuild [V.l0, V.l0, V.l0, (V.i IntKind.i64 (Int.ofNat 0))] [(Pt.mk 3 1 (tm 5))])), (wB 7 (doBox 80 (tm 6))), (wB 2 (doMove (tm 7)))]) CC.ret)
noncomputable abbrev b15 : CC := (CC.seq (CC.region [(wB 2 (doMove (O.c V.p0)))]) s15_0)
theorem c15 : compFn Try.prog 15 = ⟨8, b15, [(Rs.tmp (slOf 2))]⟩ := by kernel_rfl
noncomputable abbrev s51_0 : CC := (CC.cond (tm 8) CC.skip (CC.exit 0))
noncomputable abbrev s51_1 : CC := (CC.seq (CC.region [(wB 5 (doMove (tm 3))), (wB 6 (doMove (tm 0))), (wB 7 (doLenS (tm 6))), (wB 8 (bin2 fLss (tm 5) (tm 7)))]) s51_0)
noncomputable abbrev s51_2 : CC := (CC.seq (CC.region [(wB 2 (doMove (O.c (V.b Bool.false))))]) CC.ret)
noncomputable abbrev s51_3 : CC := (CC.cond (tm 31) s51_2 CC.skip)
noncomputable abbrev s51_4 : CC := (CC.seq (CC.region [(wB 14 (doMove (tm 4))), (wB 15 (bin2 fLss (tm 14) (O.c (V.i IntKind.u8 (Int.ofNat 97))))), (wB 16 (doMove (tm 15))), (wG 16 false 17 (doMove (tm 4))), (wG 16 false 18 (bin2 fGtr (tm 17) (O.c (V.i IntKind.u8 (Int.ofNat 122))))), (wB 19 (doPick (tm 16) (O.c (V.b Bool.true)) (tm 18))), (wB 20 (doMove (tm 19))), (wG 20 true 21 (doMove (tm 4))), (wG 20 true 22 (bin2 fLss (tm 21) (O.c (V.i IntKind.u8 (Int.ofNat 48))))), (wG 20 true 23 (doMove (tm 22))), (wG 23 false 24 (doMove (tm 4))), (wG 23 false 25 (bin2 fGtr (tm 24) (O.c (V.i IntKind.u8 (Int.ofNat 57))))), (wG 20 true 26 (doPick (tm 23) (O.c (V.b Bool.true)) (tm 25))), (wB 27 (doPick (tm 20) (tm 26) (O.c (V.b Bool.false)))), (wB 28 (doMove (tm 27))), (wG 28 true 29 (doMove (tm 4))), (wG 28 true 30 (bin2 fNeq (tm 29) (O.c (V.i IntKind.u8 (Int.ofNat 45))))), (wB 31 (doPick (tm 28) (tm 30) (O.c (V.b Bool.false))))]) s51_3)
noncomputable abbrev s51_5 : CC := (CC.seq (CC.region [(wB 11 (doMove (tm 0))), (wB 12 (doMove (tm 3))), (wB 13 (doSIndex (tm 11) (tm 12))), (wB 4 (doMove (tm 13)))]) s51_4)
noncomputable abbrev s51_6 : CC := (CC.block 1 s51_5)
noncomputable abbrev s51_7 : CC := (CC.region [(wB 9 (doMove (tm 3))), (wB 10 (bin2 fAdd (tm 9) (oN 1))), (wB 3 (doMove (tm 10)))])
noncomputable abbrev s51_8 : CC := (CC.seq s51_6 s51_7)
noncomputable abbrev l51_0 : CC := (CC.seq s51_1 s51_8)
noncomputable abbrev s51_9 : CC := (CC.loop l51_0)
noncomputable abbrev s51_10 : CC := (CC.block 0 s51_9)
noncomputable abbrev s51_11 : CC := (CC.seq (CC.region [(wB 3 (doMove (oN 0)))]) s51_10)
noncomputable abbrev s51_12 : CC := (CC.seq (CC.region [(wB 32 (doMove (tm 0))), (wB 33 (doLenS (tm 32))), (wB 34 (bin2 fGeq (tm 33) (oN 1))), (wB 35 (doMove (tm 34))), (wG 35 true 36 (doMove (tm 0))), (wG 35 true 37 (doLenS (tm 36))), (wG 35 true 38 (bin2 fLeq (tm 37) (oN 16))), (wB 39 (doPick (tm 35) (tm 38) (O.c (V.b Bool.false)))), (wB 2 (doMove (tm 39)))]) CC.ret)
noncomputable abbrev s51_13 : CC := (CC.seq s51_11 s51_12)
noncomputable abbrev b51 : CC := (CC.seq (CC.region [(wB 2 (doMove (O.c (V.b Bool.false))))]) s51_13)
theorem c51 : compFn Try.prog 51 = ⟨40, b51, [(Rs.tmp (slOf 2))]⟩ := by kernel_rfl
noncomputable abbrev s52_0 : CC := (CC.cond (tm 9) CC.skip (CC.exit 0))
noncomputable abbrev s52_1 : CC := (CC.seq (CC.region [(wB 6 (doMove (tm 5))), (wB 7 (doMove (tm 0))), (wB 8 (doLen (tm 7))), (wB 9 (bin2 fLss (tm 6) (tm 8)))]) s52_0)
noncomputable abbrev s52_2 : CC := (CC.seq (CC.region [(wB 19 (doMove (tm 5))), (wB 4 (doMove (tm 19)))]) CC.ret)
noncomputable abbrev s52_3 : CC := (CC.cond (tm 18) s52_2 CC.skip)
noncomputable abbrev s52_4 : CC := (CC.seq (CC.region [(wB 12 (doMove (tm 0))), (wB 13 (doMove (tm 5))), (wB 14 (doIndexAddr 2 (tm 12) (tm 13))), (wB 15 (doFieldAddr 0 (tm 14))), (wB 16 (doLoad (tm 15))), (wB 17 (doMove (tm 1))), (wB 18 (doSCmp eqS (tm 16) (tm 17)))]) s52_3)
noncomputable abbrev s52_5 : CC := (CC.block 1 s52_4)
noncomputable abbrev s52_6 : CC := (CC.region [(wB 10 (doMove (tm 5))), (wB 11 (bin2 fAdd (tm 10) (oN 1))), (wB 5 (doMove (tm 11)))])
noncomputable abbrev s52_7 : CC := (CC.seq s52_5 s52_6)
noncomputable abbrev l52_0 : CC := (CC.seq s52_1 s52_7)
noncomputable abbrev s52_8 : CC := (CC.loop l52_0)
noncomputable abbrev s52_9 : CC := (CC.block 0 s52_8)
noncomputable abbrev s52_10 : CC := (CC.seq (CC.region [(wB 5 (doMove (oN 0)))]) s52_9)
noncomputable abbrev s52_11 : CC := (CC.seq (CC.region [(wB 4 (doMove (O.c (V.i IntKind.i64 (Int.negSucc 0)))))]) CC.ret)
noncomputable abbrev s52_12 : CC := (CC.seq s52_10 s52_11)
noncomputable abbrev b52 : CC := (CC.seq (CC.region [(wB 4 (doMove (oN 0)))]) s52_12)
theorem c52 : compFn Try.prog 52 = ⟨20, b52, [(Rs.tmp (slOf 4))]⟩ := by kernel_rfl
noncomputable abbrev s82_0 : CC := (CC.cond (tm 10) CC.skip (CC.exit 0))
noncomputable abbrev s82_1 : CC := (CC.seq (CC.region [(wB 7 (doMove (tm 6))), (wB 8 (doMove (tm 0))), (wB 9 (doLen (tm 8))), (wB 10 (bin2 fLss (tm 7) (tm 9)))]) s82_0)
noncomputable abbrev s82_2 : CC := (CC.region [(wB 20 (doMove (tm 5))), (wB 21 (doMove (tm 0))), (wB 22 (doMove (tm 6))), (wB 23 (doIndexAddr 2 (tm 21) (tm 22))), (wB 24 (doLoadA 2 (tm 23))), (wB 25 (doBuildSlice 97 1 [(V.s 0 0), (V.s 0 0)] [(Pt.mk 0 2 (tm 24))])), (wB 26 (doAppend 97 2 (tm 20) (tm 25))), (wB 5 (doMove (tm 26)))])
noncomputable abbrev s82_3 : CC := (CC.cond (tm 19) s82_2 CC.skip)
noncomputable abbrev s82_4 : CC := (CC.seq (CC.region [(wB 13 (doMove (tm 0))), (wB 14 (doMove (tm 6))), (wB 15 (doIndexAddr 2 (tm 13) (tm 14))), (wB 16 (doFieldAddr 0 (tm 15))), (wB 17 (doLoad (tm 16))), (wB 18 (doMove (tm 1))), (wB 19 (doSCmp (fun a b c d => !eqS a b c d) (tm 17) (tm 18)))]) s82_3)
noncomputable abbrev s82_5 : CC := (CC.block 1 s82_4)
noncomputable abbrev s82_6 : CC := (CC.region [(wB 11 (doMove (tm 6))), (wB 12 (bin2 fAdd (tm 11) (oN 1))), (wB 6 (doMove (tm 12)))])
noncomputable abbrev s82_7 : CC := (CC.seq s82_5 s82_6)
noncomputable abbrev l82_0 : CC := (CC.seq s82_1 s82_7)
noncomputable abbrev s82_8 : CC := (CC.loop l82_0)
noncomputable abbrev s82_9 : CC := (CC.block 0 s82_8)
noncomputable abbrev s82_10 : CC := (CC.seq (CC.region [(wB 6 (doMove (oN 0)))]) s82_9)
noncomputable abbrev s82_11 : CC := (CC.seq (CC.region [(wB 27 (doMove (tm 5))), (wB 4 (doMove (tm 27)))]) CC.ret)
noncomputable abbrev s82_12 : CC := (CC.seq s82_10 s82_11)
noncomputable abbrev s82_13 : CC := (CC.seq (CC.region [(wB 5 (doMove (O.c V.l0)))]) s82_12)
noncomputable abbrev b82 : CC := (CC.seq (CC.region [(wB 4 (doMove (O.c V.l0)))]) s82_13)
theorem c82 : compFn Try.prog 82 = ⟨28, b82, [(Rs.tmp (slOf 4))]⟩ := by kernel_rfl
noncomputable abbrev s81_0 : CC := (CC.cond (tm 16) CC.skip (CC.exit 0))
noncomputable abbrev s81_1 : CC := (CC.seq (CC.region [(wB 13 (doMove (tm 8))), (wB 14 (doMove (tm 7))), (wB 15 (doLen (tm 14))), (wB 16 (bin2 fLss (tm 13) (tm 15)))]) s81_0)
noncomputable abbrev s81_2 : CC := (CC.seq (CC.region [(wB 31 (doMove (tm 5))), (wB 32 (doLoadA 2 (tm 3))), (wB 33 (doBuildSlice 97 1 [(V.s 0 0), (V.s 0 0)] [(Pt.mk 0 2 (tm 32))])), (wB 34 (doAppend 97 2 (tm 31) (tm 33))), (wB 5 (doMove (tm 34)))]) (CC.region [(wB 6 (doMove (O.c (V.b Bool.true))))]))
noncomputable abbrev s81_3 : CC := (CC.cond (tm 30) s81_2 CC.skip)
noncomputable abbrev s81_4 : CC := (CC.seq (CC.draws [(uB 19 (doMove (tm 6))), (uB 20 (doNot (tm 19))), (uB 21 (doMove (tm 20))), (uG 21 true 22 (doFieldAddr 0 (tm 3))), (uG 21 true 23 (doLoad (tm 22))), (uG 21 true 24 (doMove (tm 7))), (uG 21 true 25 (doMove (tm 8))), (uG 21 true 26 (doIndexAddr 2 (tm 24) (tm 25))), (uG 21 true 27 (doFieldAddr 0 (tm 26))), (uG 21 true 28 (doLoad (tm 27))), (uG 21 true 29 (doSCmp ltS (tm 23) (tm 28))), (uB 30 (doPick (tm 21) (tm 29) (O.c (V.b Bool.false))))]) s81_3)
noncomputable abbrev s81_5 : CC := (CC.region [(wB 35 (doMove (tm 5))), (wB 36 (doMove (tm 7))), (wB 37 (doMove (tm 8))), (wB 38 (doIndexAddr 2 (tm 36) (tm 37))), (wB 39 (doLoadA 2 (tm 38))), (wB 40 (doBuildSlice 97 1 [(V.s 0 0), (V.s 0 0)] [(Pt.mk 0 2 (tm 39))])), (wB 41 (doAppend 97 2 (tm 35) (tm 40))), (wB 5 (doMove (tm 41)))])
noncomputable abbrev s81_6 : CC := (CC.seq s81_4 s81_5)
noncomputable abbrev s81_7 : CC := (CC.block 1 s81_6)
noncomputable abbrev s81_8 : CC := (CC.region [(wB 17 (doMove (tm 8))), (wB 18 (bin2 fAdd (tm 17) (oN 1))), (wB 8 (doMove (tm 18)))])
noncomputable abbrev s81_9 : CC := (CC.seq s81_7 s81_8)
noncomputable abbrev l81_0 : CC := (CC.seq s81_1 s81_9)
noncomputable abbrev s81_10 : CC := (CC.loop l81_0)
noncomputable abbrev s81_11 : CC := (CC.block 0 s81_10)
noncomputable abbrev s81_12 : CC := (CC.seq (CC.region [(wB 8 (doMove (oN 0)))]) s81_11)
noncomputable abbrev s81_13 : CC := (CC.region [(wB 44 (doMove (tm 5))), (wB 45 (doLoadA 2 (tm 3))), (wB 46 (doBuildSlice 97 1 [(V.s 0 0), (V.s 0 0)] [(Pt.mk 0 2 (tm 45))])), (wB 47 (doAppend 97 2 (tm 44) (tm 46))), (wB 5 (doMove (tm 47)))])
noncomputable abbrev s81_14 : CC := (CC.cond (tm 43) s81_13 CC.skip)
noncomputable abbrev s81_15 : CC := (CC.seq (CC.region [(wB 42 (doMove (tm 6))), (wB 43 (doNot (tm 42)))]) s81_14)
noncomputable abbrev s81_16 : CC := (CC.seq (CC.region [(wB 48 (doMove (tm 5))), (wB 4 (doMove (tm 48)))]) CC.ret)
noncomputable abbrev s81_17 : CC := (CC.seq s81_15 s81_16)
noncomputable abbrev s81_18 : CC := (CC.seq s81_12 s81_17)
noncomputable abbrev s81_19 : CC := (CC.seq (CC.region [(wB 9 (doMove (tm 0))), (wB 10 (doFieldAddr 0 (tm 3))), (wB 11 (doLoad (tm 10))), (wB 12 (doCall 82 [(tm 9), (tm 11)])), (wB 7 (doMove (tm 12)))]) s81_18)
noncomputable abbrev s81_20 : CC := (CC.seq (CC.region [(wB 6 (doMove (O.c (V.b Bool.false))))]) s81_19)
noncomputable abbrev s81_21 : CC := (CC.seq (CC.region [(wB 5 (doMove (O.c V.l0)))]) s81_20)
noncomputable abbrev b81 : CC := (CC.seq (CC.region [(wB 3 (doBox 97 (tm 1))), (wB 4 (doMove (O.c V.l0)))]) s81_21)
theorem c81 : compFn Try.prog 81 = ⟨49, b81, [(Rs.tmp (slOf 4))]⟩ := by kernel_rfl
noncomputable abbrev s60_0 : CC := (CC.cond (tm 11) CC.skip (CC.exit 0))
noncomputable abbrev s60_1 : CC := (CC.seq (CC.region [(wB 5 (doMove (tm 4))), (wB 6 (doMove (tm 0))), (wB 7 (doNilCheck (tm 6))), (wB 8 (doFieldAddr 0 (tm 7))), (wB 9 (doLoad (tm 8))), (wB 10 (doLen (tm 9))), (wB 11 (bin2 fLss (tm 5) (tm 10)))]) s60_0)
noncomputable abbrev s60_2 : CC := (CC.region [(wB 14 (doMove (tm 3))), (wB 15 (doMove (tm 0))), (wB 16 (doNilCheck (tm 15))), (wB 17 (doFieldAddr 0 (tm 16))), (wB 18 (doLoad (tm 17))), (wB 19 (doMove (tm 4))), (wB 20 (doIndexAddr 2 (tm 18) (tm 19))), (wB 21 (doFieldAddr 1 (tm 20))), (wB 22 (doLoad (tm 21))), (wB 23 (doLenS (tm 22))), (wB 24 (bin2 fAdd (tm 14) (tm 23))), (wB 3 (doMove (tm 24)))])
noncomputable abbrev s60_3 : CC := (CC.block 1 s60_2)
noncomputable abbrev s60_4 : CC := (CC.region [(wB 12 (doMove (tm 4))), (wB 13 (bin2 fAdd (tm 12) (oN 1))), (wB 4 (doMove (tm 13)))])
noncomputable abbrev s60_5 : CC := (CC.seq s60_3 s60_4)
noncomputable abbrev l60_0 : CC := (CC.seq s60_1 s60_5)
noncomputable abbrev s60_6 : CC := (CC.loop l60_0)
noncomputable abbrev s60_7 : CC := (CC.block 0 s60_6)
noncomputable abbrev s60_8 : CC := (CC.seq (CC.region [(wB 4 (doMove (oN 0)))]) s60_7)
noncomputable abbrev s60_9 : CC := (CC.seq (CC.region [(wB 25 (doMove (tm 3))), (wB 2 (doMove (tm 25)))]) CC.ret)
noncomputable abbrev s60_10 : CC := (CC.seq s60_8 s60_9)
noncomputable abbrev s60_11 : CC := (CC.seq (CC.region [(wB 3 (doMove (oN 0)))]) s60_10)
noncomputable abbrev b60 : CC := (CC.seq (CC.region [(wB 2 (doMove (oN 0)))]) s60_11)
theorem c60 : compFn Try.prog 60 = ⟨26, b60, [(Rs.tmp (slOf 2))]⟩ := by kernel_rfl
noncomputable abbrev s53_0 : CC := (CC.seq (CC.draws [(uB 3 (doMove (tm 0))), (uB 4 (doNilCheck (tm 3))), (uB 5 (doFieldAddr 3 (tm 4))), (uB 6 (doLoad (tm 5))), (uB 7 (doMove (tm 0))), (uB 8 (doCall 60 [(tm 7)])), (uB 9 (bin2 fSub (tm 6) (tm 8))), (uB 10 (doMax (oN 0) (tm 9))), (uB 2 (doMove (tm 10)))]) CC.ret)
noncomputable abbrev b53 : CC := (CC.seq (CC.region [(wB 2 (doMove (oN 0)))]) s53_0)
theorem c53 : compFn Try.prog 53 = ⟨11, b53, [(Rs.tmp (slOf 2))]⟩ := by kernel_rfl
noncomputable abbrev s57_0 : CC := (CC.seq (CC.region [(wB 14 (doMove (tm 0))), (wB 15 (doFieldAddr 1 (tm 3))), (wB 16 (doLoad (tm 15))), (wB 17 (doFieldAddr 2 (tm 3))), (wB 18 (doLoad (tm 17))), (wB 19 (doBuild [(V.s 0 0), (V.s 0 0)] [(Pt.mk 0 1 (tm 16)), (Pt.mk 1 1 (tm 18))])), (wB 20 (doCall 81 [(tm 14), (tm 19)])), (wB 4 (doMove (tm 20)))]) CC.ret)
noncomputable abbrev s57_1 : CC := (CC.seq (CC.draws [(uB 25 (doMove (tm 0))), (uB 26 (doFieldAddr 1 (tm 3))), (uB 27 (doLoad (tm 26))), (uB 28 (doMove (tm 0))), (uB 29 (doMove (tm 5))), (uB 30 (doIndexAddr 2 (tm 28) (tm 29))), (uB 31 (doFieldAddr 1 (tm 30))), (uB 32 (doLoad (tm 31))), (uB 33 (doFieldAddr 2 (tm 3))), (uB 34 (doLoad (tm 33))), (uB 35 (doConcat (tm 32) (tm 34))), (uB 36 (doBuild [(V.s 0 0), (V.s 0 0)] [(Pt.mk 0 1 (tm 27)), (Pt.mk 1 1 (tm 35))])), (wB 37 (doCall 81 [(tm 25), (tm 36)])), (uB 4 (doMove (tm 37)))]) CC.ret)
noncomputable abbrev s57_2 : CC := (CC.seq (CC.region [(wB 47 (doMove (tm 0))), (wB 4 (doMove (tm 47)))]) CC.ret)
noncomputable abbrev s57_3 : CC := (CC.cond (tm 46) s57_2 CC.skip)
noncomputable abbrev s57_4 : CC := (CC.seq (CC.region [(wB 42 (doFieldAddr 1 (tm 3))), (wB 43 (doLoad (tm 42))), (wB 44 (doFieldAddr 2 (tm 3))), (wB 45 (doLoad (tm 44))), (wB 46 (doSCmp eqS (tm 43) (tm 45)))]) s57_3)
noncomputable abbrev s57_5 : CC := (CC.seq (CC.draws [(uB 48 (doMove (tm 0))), (uB 49 (doFieldAddr 1 (tm 3))), (uB 50 (doLoad (tm 49))), (uB 51 (doCall 82 [(tm 48), (tm 50)])), (uB 52 (doFieldAddr 2 (tm 3))), (uB 53 (doLoad (tm 52))), (uB 54 (doMove (tm 0))), (uB 55 (doMove (tm 5))), (uB 56 (doIndexAddr 2 (tm 54) (tm 55))), (uB 57 (doFieldAddr 1 (tm 56))), (uB 58 (doLoad (tm 57))), (uB 59 (doBuild [(V.s 0 0), (V.s 0 0)] [(Pt.mk 0 1 (tm 53)), (Pt.mk 1 1 (tm 58))])), (wB 60 (doCall 81 [(tm 51), (tm 59)])), (uB 4 (doMove (tm 60)))]) CC.ret)
noncomputable abbrev s57_6 : CC := (CC.seq s57_4 s57_5)
noncomputable abbrev s57_7 : CC := (CC.cond (tm 38) s57_6 CC.skip)
noncomputable abbrev s57_8 : CC := (CC.seq (CC.region [(wB 39 (doFieldAddr 0 (tm 3))), (wB 40 (doLoad (tm 39))), (wB 41 (bin2 fEql (tm 40) (oN 3))), (wB 38 (doMove (tm 41)))]) s57_7)
noncomputable abbrev s57_9 : CC := (CC.cond (tm 21) s57_1 s57_8)
noncomputable abbrev s57_10 : CC := (CC.seq (CC.region [(wB 22 (doFieldAddr 0 (tm 3))), (wB 23 (doLoad (tm 22))), (wB 24 (bin2 fEql (tm 23) (oN 2))), (wB 21 (doMove (tm 24)))]) s57_9)
noncomputable abbrev s57_11 : CC := (CC.cond (tm 10) s57_0 s57_10)
noncomputable abbrev s57_12 : CC := (CC.seq (CC.region [(wB 11 (doFieldAddr 0 (tm 3))), (wB 12 (doLoad (tm 11))), (wB 13 (bin2 fEql (tm 12) (oN 1))), (wB 10 (doMove (tm 13)))]) s57_11)
noncomputable abbrev s57_13 : CC := (CC.block 0 s57_12)
noncomputable abbrev s57_14 : CC := (CC.seq (CC.region [(wB 61 (doMove (tm 0))), (wB 62 (doFieldAddr 1 (tm 3))), (wB 63 (doLoad (tm 62))), (wB 64 (doCall 82 [(tm 61), (tm 63)])), (wB 4 (doMove (tm 64)))]) CC.ret)
noncomputable abbrev s57_15 : CC := (CC.seq s57_13 s57_14)
noncomputable abbrev s57_16 : CC := (CC.seq (CC.region [(wB 6 (doMove (tm 0))), (wB 7 (doFieldAddr 1 (tm 3))), (wB 8 (doLoad (tm 7))), (wB 9 (doCall 52 [(tm 6), (tm 8)])), (wB 5 (doMove (tm 9)))]) s57_15)
noncomputable abbrev b57 : CC := (CC.seq (CC.region [(wB 3 (doBox 88 (tm 1))), (wB 4 (doMove (O.c V.l0)))]) s57_16)
theorem c57 : compFn Try.prog 57 = ⟨65, b57, [(Rs.tmp (slOf 4))]⟩ := by kernel_rfl
noncomputable abbrev s54_0 : CC := (CC.draws [(uB 13 (doMove (tm 0))), (uB 14 (doMove (tm 0))), (uB 15 (doNilCheck (tm 14))), (uB 16 (doFieldAddr 2 (tm 15))), (uB 17 (doLoad (tm 16))), (uB 18 (doAppend 88 3 (O.c V.l0) (tm 17))), (uB 19 (doLoadA 3 (tm 3))), (uB 20 (doBuildSlice 88 1 [(V.i IntKind.i64 (Int.ofNat 0)), (V.s 0 0), (V.s 0 0)] [(Pt.mk 0 3 (tm 19))])), (wB 21 (doAppend 88 3 (tm 18) (tm 20))), (wB 22 (doNilCheck (tm 13))), (uB 23 (doFieldAddr 2 (tm 22))), (CO.mk G.none D.none Bool.true (CR.mk (doStore 1 (tm 23) (tm 21))))])
noncomputable abbrev s54_1 : CC := (CC.seq (CC.draws [(uB 4 (doMove (tm 0))), (uB 5 (doMove (tm 0))), (uB 6 (doNilCheck (tm 5))), (uB 7 (doFieldAddr 0 (tm 6))), (uB 8 (doLoad (tm 7))), (uB 9 (doLoadA 3 (tm 3))), (wB 10 (doCall 57 [(tm 8), (tm 9)])), (wB 11 (doNilCheck (tm 4))), (uB 12 (doFieldAddr 0 (tm 11))), (CO.mk G.none D.none Bool.true (CR.mk (doStore 1 (tm 12) (tm 10))))]) s54_0)
noncomputable abbrev b54 : CC := (CC.seq (CC.region [(wB 3 (doBox 88 (tm 1)))]) s54_1)
theorem c54 : compFn Try.prog 54 = ⟨24, b54, []⟩ := by kernel_rfl
noncomputable abbrev s17_0 : CC := (CC.seq (CC.region [(wB 6 (doMove (oN 10)))]) CC.ret)
noncomputable abbrev s17_1 : CC := (CC.seq (CC.region [(wB 6 (doMove (oN 14)))]) CC.ret)
noncomputable abbrev s17_2 : CC := (CC.seq (CC.region [(wB 6 (doMove (oN 15)))]) CC.ret)
noncomputable abbrev s17_3 : CC := (CC.cond (tm 19) s17_2 CC.skip)
noncomputable abbrev s17_4 : CC := (CC.seq (CC.region [(wB 20 (doMove (tm 0))), (wB 21 (doNilCheck (tm 20))), (wB 22 (doFieldAddr 0 (tm 21))), (wB 23 (doLoad (tm 22))), (wB 24 (doLen (tm 23))), (wB 25 (bin2 fGeq (tm 24) (oN 60))), (wB 26 (doMove (tm 25))), (wG 26 false 27 (doMove (tm 2))), (wG 26 false 28 (doLenS (tm 27))), (wG 26 false 29 (doMove (tm 0))), (wG 26 false 30 (doCall 53 [(tm 29)])), (wG 26 false 31 (bin2 fGtr (tm 28) (tm 30))), (wB 32 (doPick (tm 26) (O.c (V.b Bool.true)) (tm 31))), (wB 19 (doMove (tm 32)))]) s17_3)
noncomputable abbrev s17_5 : CC := (CC.cond (tm 11) s17_1 s17_4)
noncomputable abbrev s17_6 : CC := (CC.seq (CC.region [(wB 12 (doMove (tm 0))), (wB 13 (doNilCheck (tm 12))), (wB 14 (doFieldAddr 0 (tm 13))), (wB 15 (doLoad (tm 14))), (wB 16 (doMove (tm 1))), (wB 17 (doCall 52 [(tm 15), (tm 16)])), (wB 18 (bin2 fGeq (tm 17) (oN 0))), (wB 11 (doMove (tm 18)))]) s17_5)
noncomputable abbrev s17_7 : CC := (CC.cond (tm 7) s17_0 s17_6)
noncomputable abbrev s17_8 : CC := (CC.seq (CC.region [(wB 8 (doMove (tm 1))), (wB 9 (doCall 51 [(tm 8)])), (wB 10 (doNot (tm 9))), (wB 7 (doMove (tm 10)))]) s17_7)
noncomputable abbrev s17_9 : CC := (CC.block 0 s17_8)
noncomputable abbrev s17_10 : CC := (CC.seq (CC.region [(wB 6 (doMove (oN 0)))]) CC.ret)
noncomputable abbrev s17_11 : CC := (CC.seq (CC.region [(wB 33 (doMove (tm 0))), (wB 34 (doMove (tm 1))), (wB 35 (doMove (tm 2))), (wB 36 (doBuild [(V.i IntKind.i64 (Int.ofNat 0)), (V.s 0 0), (V.s 0 0)] [(Pt.mk 0 1 (oN 1)), (Pt.mk 1 1 (tm 34)), (Pt.mk 2 1 (tm 35))])), (wB 37 (doCall 54 [(tm 33), (tm 36)]))]) s17_10)
noncomputable abbrev s17_12 : CC := (CC.seq s17_9 s17_11)
noncomputable abbrev b17 : CC := (CC.seq (CC.region [(wB 6 (doMove (oN 0)))]) s17_12)
theorem c17 : compFn Try.prog 17 = ⟨38, b17, [(Rs.tmp (slOf 6))]⟩ := by kernel_rfl
noncomputable abbrev s19_0 : CC := (CC.seq (CC.region [(wB 6 (doMove (oN 14)))]) CC.ret)
noncomputable abbrev s19_1 : CC := (CC.seq (CC.region [(wB 6 (doMove (oN 15)))]) CC.ret)
noncomputable abbrev s19_2 : CC := (CC.cond (tm 15) s19_1 CC.skip)
noncomputable abbrev s19_3 : CC := (CC.seq (CC.region [(wB 16 (doMove (tm 2))), (wB 17 (doLenS (tm 16))), (wB 18 (doMove (tm 0))), (wB 19 (doCall 53 [(tm 18)])), (wB 20 (bin2 fGtr (tm 17) (tm 19))), (wB 15 (doMove (tm 20)))]) s19_2)
noncomputable abbrev s19_4 : CC := (CC.cond (tm 7) s19_0 s19_3)
noncomputable abbrev s19_5 : CC := (CC.seq (CC.region [(wB 8 (doMove (tm 0))), (wB 9 (doNilCheck (tm 8))), (wB 10 (doFieldAddr 0 (tm 9))), (wB 11 (doLoad (tm 10))), (wB 12 (doMove (tm 1))), (wB 13 (doCall 52 [(tm 11), (tm 12)])), (wB 14 (bin2 fLss (tm 13) (oN 0))), (wB 7 (doMove (tm 14)))]) s19_4)
noncomputable abbrev s19_6 : CC := (CC.block 0 s19_5)
noncomputable abbrev s19_7 : CC := (CC.seq (CC.region [(wB 6 (doMove (oN 0)))]) CC.ret)
noncomputable abbrev s19_8 : CC := (CC.seq (CC.region [(wB 21 (doMove (tm 0))), (wB 22 (doMove (tm 1))), (wB 23 (doMove (tm 2))), (wB 24 (doBuild [(V.i IntKind.i64 (Int.ofNat 0)), (V.s 0 0), (V.s 0 0)] [(Pt.mk 0 1 (oN 2)), (Pt.mk 1 1 (tm 22)), (Pt.mk 2 1 (tm 23))])), (wB 25 (doCall 54 [(tm 21), (tm 24)]))]) s19_7)
noncomputable abbrev s19_9 : CC := (CC.seq s19_6 s19_8)
noncomputable abbrev b19 : CC := (CC.seq (CC.region [(wB 6 (doMove (oN 0)))]) s19_9)
theorem c19 : compFn Try.prog 19 = ⟨26, b19, [(Rs.tmp (slOf 6))]⟩ := by kernel_rfl
noncomputable abbrev s21_0 : CC := (CC.seq (CC.region [(wB 6 (doMove (oN 10)))]) CC.ret)
noncomputable abbrev s21_1 : CC := (CC.seq (CC.region [(wB 6 (doMove (oN 14)))]) CC.ret)
noncomputable abbrev s21_2 : CC := (CC.cond (tm 11) s21_1 CC.skip)
noncomputable abbrev s21_3 : CC := (CC.seq (CC.region [(wB 12 (doMove (tm 0))), (wB 13 (doNilCheck (tm 12))), (wB 14 (doFieldAddr 0 (tm 13))), (wB 15 (doLoad (tm 14))), (wB 16 (doMove (tm 1))), (wB 17 (doCall 52 [(tm 15), (tm 16)])), (wB 18 (bin2 fLss (tm 17) (oN 0))), (wB 11 (doMove (tm 18)))]) s21_2)
noncomputable abbrev s21_4 : CC := (CC.cond (tm 7) s21_0 s21_3)
noncomputable abbrev s21_5 : CC := (CC.seq (CC.region [(wB 8 (doMove (tm 2))), (wB 9 (doCall 51 [(tm 8)])), (wB 10 (doNot (tm 9))), (wB 7 (doMove (tm 10)))]) s21_4)
noncomputable abbrev s21_6 : CC := (CC.block 0 s21_5)
noncomputable abbrev s21_7 : CC := (CC.seq (CC.region [(wB 6 (doMove (oN 0)))]) CC.ret)
noncomputable abbrev s21_8 : CC := (CC.seq (CC.region [(wB 19 (doMove (tm 0))), (wB 20 (doMove (tm 1))), (wB 21 (doMove (tm 2))), (wB 22 (doBuild [(V.i IntKind.i64 (Int.ofNat 0)), (V.s 0 0), (V.s 0 0)] [(Pt.mk 0 1 (oN 3)), (Pt.mk 1 1 (tm 20)), (Pt.mk 2 1 (tm 21))])), (wB 23 (doCall 54 [(tm 19), (tm 22)]))]) s21_7)
noncomputable abbrev s21_9 : CC := (CC.seq s21_6 s21_8)
noncomputable abbrev b21 : CC := (CC.seq (CC.region [(wB 6 (doMove (oN 0)))]) s21_9)
theorem c21 : compFn Try.prog 21 = ⟨24, b21, [(Rs.tmp (slOf 6))]⟩ := by kernel_rfl
noncomputable abbrev s23_0 : CC := (CC.seq (CC.region [(wB 4 (doMove (oN 14)))]) CC.ret)
noncomputable abbrev s23_1 : CC := (CC.cond (tm 11) s23_0 CC.skip)
noncomputable abbrev s23_2 : CC := (CC.seq (CC.region [(wB 5 (doMove (tm 0))), (wB 6 (doNilCheck (tm 5))), (wB 7 (doFieldAddr 0 (tm 6))), (wB 8 (doLoad (tm 7))), (wB 9 (doMove (tm 1))), (wB 10 (doCall 52 [(tm 8), (tm 9)])), (wB 11 (bin2 fLss (tm 10) (oN 0)))]) s23_1)
noncomputable abbrev s23_3 : CC := (CC.seq (CC.region [(wB 4 (doMove (oN 0)))]) CC.ret)
noncomputable abbrev s23_4 : CC := (CC.seq (CC.region [(wB 12 (doMove (tm 0))), (wB 13 (doMove (tm 1))), (wB 14 (doBuild [(V.i IntKind.i64 (Int.ofNat 0)), (V.s 0 0), (V.s 0 0)] [(Pt.mk 0 1 (oN 4)), (Pt.mk 1 1 (tm 13)), (Pt.mk 2 1 (O.c (V.s 0 0)))])), (wB 15 (doCall 54 [(tm 12), (tm 14)]))]) s23_3)
noncomputable abbrev s23_5 : CC := (CC.seq s23_2 s23_4)
noncomputable abbrev b23 : CC := (CC.seq (CC.region [(wB 4 (doMove (oN 0)))]) s23_5)
theorem c23 : compFn Try.prog 23 = ⟨16, b23, [(Rs.tmp (slOf 4))]⟩ := by kernel_rfl
noncomputable abbrev s25_0 : CC := (CC.region [(wB 9 (doMove (tm 0))), (wB 10 (doNilCheck (tm 9))), (wB 11 (doFieldAddr 2 (tm 10))), (CO.mk G.none D.none Bool.true (CR.mk (doStore 1 (tm 11) (O.c V.l0))))])
noncomputable abbrev b25 : CC := (CC.seq (CC.region [(wB 2 (doMove (tm 0))), (wB 3 (doMove (tm 0))), (wB 4 (doNilCheck (tm 3))), (wB 5 (doFieldAddr 0 (tm 4))), (wB 6 (doLoad (tm 5))), (wB 7 (doNilCheck (tm 2))), (wB 8 (doFieldAddr 1 (tm 7))), (CO.mk G.none D.none Bool.true (CR.mk (doStore 1 (tm 8) (tm 6))))]) s25_0)
theorem c25 : compFn Try.prog 25 = ⟨12, b25, []⟩ := by kernel_rfl
noncomputable abbrev s32_0 : CC := (CC.seq (CC.region [(wB 4 (doMove (O.c (V.s 0 0)))), (wB 5 (doMove (oN 14)))]) CC.ret)
noncomputable abbrev s32_1 : CC := (CC.cond (tm 14) s32_0 CC.skip)
noncomputable abbrev s32_2 : CC := (CC.seq (CC.region [(wB 13 (doMove (tm 6))), (wB 14 (bin2 fLss (tm 13) (oN 0)))]) s32_1)
noncomputable abbrev s32_3 : CC := (CC.seq (CC.region [(wB 15 (doMove (tm 0))), (wB 16 (doNilCheck (tm 15))), (wB 17 (doFieldAddr 0 (tm 16))), (wB 18 (doLoad (tm 17))), (wB 19 (doMove (tm 6))), (wB 20 (doIndexAddr 2 (tm 18) (tm 19))), (wB 21 (doFieldAddr 1 (tm 20))), (wB 22 (doLoad (tm 21))), (wB 4 (doMove (tm 22))), (wB 5 (doMove (oN 0)))]) CC.ret)
noncomputable abbrev s32_4 : CC := (CC.seq s32_2 s32_3)
noncomputable abbrev s32_5 : CC := (CC.seq (CC.region [(wB 7 (doMove (tm 0))), (wB 8 (doNilCheck (tm 7))), (wB 9 (doFieldAddr 0 (tm 8))), (wB 10 (doLoad (tm 9))), (wB 11 (doMove (tm 1))), (wB 12 (doCall 52 [(tm 10), (tm 11)])), (wB 6 (doMove (tm 12)))]) s32_4)
noncomputable abbrev b32 : CC := (CC.seq (CC.region [(wB 4 (doMove (O.c (V.s 0 0)))), (wB 5 (doMove (oN 0)))]) s32_5)
theorem c32 : compFn Try.prog 32 = ⟨23, b32, [(Rs.tmp (slOf 4)), (Rs.tmp (slOf 5))]⟩ := by kernel_rfl
noncomputable abbrev b27 : CC := (CC.region [(wB 4 (doMove (tm 0))), (wB 5 (doMove (tm 1))), (wB 6 (doMin (tm 5) (oN 1000000))), (wB 7 (doMax (oN 0) (tm 6))), (wB 8 (doNilCheck (tm 4))), (wB 9 (doFieldAddr 3 (tm 8))), (CO.mk G.none D.none Bool.true (CR.mk (doStore 1 (tm 9) (tm 7))))])
theorem c27 : compFn Try.prog 27 = ⟨10, b27, []⟩ := by kernel_rfl
noncomputable abbrev s29_0 : CC := (CC.cond (tm 25) CC.skip (CC.exit 0))
noncomputable abbrev s29_1 : CC := (CC.seq (CC.region [(wB 23 (doMove (tm 8))), (wB 24 (doMove (tm 6))), (wB 25 (bin2 fLss (tm 23) (tm 24)))]) s29_0)
noncomputable abbrev s29_2 : CC := (CC.region [(wB 28 (doMove (tm 7))), (wB 29 (doMove (tm 0))), (wB 30 (doNilCheck (tm 29))), (wB 31 (doFieldAddr 2 (tm 30))), (wB 32 (doLoad (tm 31))), (wB 33 (doMove (tm 8))), (wB 34 (doIndexAddr 3 (tm 32) (tm 33))), (wB 35 (doLoadA 3 (tm 34))), (wB 36 (doCall 57 [(tm 28), (tm 35)])), (wB 7 (doMove (tm 36)))])
noncomputable abbrev s29_3 : CC := (CC.block 1 s29_2)
noncomputable abbrev s29_4 : CC := (CC.region [(wB 26 (doMove (tm 8))), (wB 27 (bin2 fAdd (tm 26) (oN 1))), (wB 8 (doMove (tm 27)))])
noncomputable abbrev s29_5 : CC := (CC.seq s29_3 s29_4)
noncomputable abbrev l29_0 : CC := (CC.seq s29_1 s29_5)
noncomputable abbrev s29_6 : CC := (CC.loop l29_0)
noncomputable abbrev s29_7 : CC := (CC.block 0 s29_6)
noncomputable abbrev s29_8 : CC := (CC.seq (CC.region [(wB 8 (doMove (oN 0)))]) s29_7)
noncomputable abbrev s29_9 : CC := (CC.region [(wB 75 (doMove (tm 7))), (wB 76 (doLoadA 3 (tm 9))), (wB 77 (doCall 57 [(tm 75), (tm 76)])), (wB 7 (doMove (tm 77)))])
noncomputable abbrev s29_10 : CC := (CC.cond (tm 74) s29_9 CC.skip)
noncomputable abbrev s29_11 : CC := (CC.seq (CC.region [(wB 73 (doMove (tm 10))), (wB 74 (bin2 fGtr (tm 73) (oN 0)))]) s29_10)
noncomputable abbrev s29_12 : CC := (CC.seq (CC.region [(wB 68 (doFieldAddr 2 (tm 9))), (wB 69 (doLoad (tm 68))), (wB 70 (doMove (tm 10))), (wB 71 (doSSlice (tm 69) none (some (tm 70)))), (wB 72 (doFieldAddr 2 (tm 9))), (CO.mk G.none D.none Bool.true (CR.mk (doStore 1 (tm 72) (tm 71))))]) s29_11)
noncomputable abbrev s29_13 : CC := (CC.seq (CC.region [(wB 62 (doMove (tm 2))), (wB 63 (doFieldAddr 2 (tm 9))), (wB 64 (doLoad (tm 63))), (wB 65 (doLenS (tm 64))), (wB 66 (doMin (tm 62) (tm 65))), (wB 67 (doMax (oN 0) (tm 66))), (wB 10 (doMove (tm 67)))]) s29_12)
noncomputable abbrev s29_14 : CC := (CC.seq (CC.region [(wB 55 (doMove (tm 0))), (wB 56 (doNilCheck (tm 55))), (wB 57 (doFieldAddr 2 (tm 56))), (wB 58 (doLoad (tm 57))), (wB 59 (doMove (tm 6))), (wB 60 (doIndexAddr 3 (tm 58) (tm 59))), (wB 61 (doLoadA 3 (tm 60))), (wB 9 (doAlloc 88 [(V.i IntKind.i64 (Int.ofNat 0)), (V.s 0 0), (V.s 0 0)])), (CO.mk G.none D.none Bool.true (CR.mk (doStore 3 (tm 9) (tm 61))))]) s29_13)
noncomputable abbrev s29_15 : CC := (CC.cond (tm 54) s29_14 CC.skip)
noncomputable abbrev s29_16 : CC := (CC.seq (CC.region [(wB 37 (doMove (tm 6))), (wB 38 (doMove (tm 0))), (wB 39 (doNilCheck (tm 38))), (wB 40 (doFieldAddr 2 (tm 39))), (wB 41 (doLoad (tm 40))), (wB 42 (doLen (tm 41))), (wB 43 (bin2 fLss (tm 37) (tm 42))), (wB 44 (doMove (tm 43))), (wG 44 true 45 (doMove (tm 0))), (wG 44 true 46 (doNilCheck (tm 45))), (wG 44 true 47 (doFieldAddr 2 (tm 46))), (wG 44 true 48 (doLoad (tm 47))), (wG 44 true 49 (doMove (tm 6))), (wG 44 true 50 (doIndexAddr 3 (tm 48) (tm 49))), (wG 44 true 51 (doFieldAddr 0 (tm 50))), (wG 44 true 52 (doLoad (tm 51))), (wG 44 true 53 (bin2 fLeq (tm 52) (oN 2))), (wB 54 (doPick (tm 44) (tm 53) (O.c (V.b Bool.false))))]) s29_15)
noncomputable abbrev s29_17 : CC := (CC.region [(wB 82 (doMove (tm 0))), (wB 83 (doCall 25 [(tm 82)]))])
noncomputable abbrev s29_18 : CC := (CC.seq (CC.region [(wB 78 (doMove (tm 0))), (wB 79 (doMove (tm 7))), (wB 80 (doNilCheck (tm 78))), (wB 81 (doFieldAddr 0 (tm 80))), (CO.mk G.none D.none Bool.true (CR.mk (doStore 1 (tm 81) (tm 79))))]) s29_17)
noncomputable abbrev s29_19 : CC := (CC.seq s29_16 s29_18)
noncomputable abbrev s29_20 : CC := (CC.seq s29_8 s29_19)
noncomputable abbrev s29_21 : CC := (CC.seq (CC.region [(wB 19 (doMove (tm 0))), (wB 20 (doNilCheck (tm 19))), (wB 21 (doFieldAddr 1 (tm 20))), (wB 22 (doLoad (tm 21))), (wB 7 (doMove (tm 22)))]) s29_20)
noncomputable abbrev b29 : CC := (CC.seq (CC.region [(wB 11 (doMove (tm 1))), (wB 12 (doMove (tm 0))), (wB 13 (doNilCheck (tm 12))), (wB 14 (doFieldAddr 2 (tm 13))), (wB 15 (doLoad (tm 14))), (wB 16 (doLen (tm 15))), (wB 17 (doMin (tm 11) (tm 16))), (wB 18 (doMax (oN 0) (tm 17))), (wB 6 (doMove (tm 18)))]) s29_21)
theorem c29 : compFn Try.prog 29 = ⟨84, b29, []⟩ := by kernel_rfl
noncomputable abbrev s13_0 : CC := (CC.cond (tm 7) CC.skip (CC.exit 0))
noncomputable abbrev s13_1 : CC := (CC.seq (CC.region [(wB 4 (doMove (tm 3))), (wB 5 (doMove (tm 0))), (wB 6 (doLen (tm 5))), (wB 7 (bin2 fLss (tm 4) (tm 6)))]) s13_0)
noncomputable abbrev s13_2 : CC := (CC.seq (CC.region [(wB 2 (doMove (O.c (V.b Bool.false))))]) CC.ret)
noncomputable abbrev s13_3 : CC := (CC.cond (tm 34) s13_2 CC.skip)
noncomputable abbrev s13_4 : CC := (CC.seq (CC.region [(wB 10 (doMove (tm 0))), (wB 11 (doMove (tm 3))), (wB 12 (doIndexAddr 6 (tm 10) (tm 11))), (wB 13 (doFieldAddr 5 (tm 12))), (wB 14 (doLoad (tm 13))), (wB 15 (doLenS (tm 14))), (wB 16 (bin2 fGtr (tm 15) (oN 100))), (wB 17 (doMove (tm 16))), (wG 17 false 18 (doMove (tm 0))), (wG 17 false 19 (doMove (tm 3))), (wG 17 false 20 (doIndexAddr 6 (tm 18) (tm 19))), (wG 17 false 21 (doFieldAddr 3 (tm 20))), (wG 17 false 22 (doLoad (tm 21))), (wG 17 false 23 (doLenS (tm 22))), (wG 17 false 24 (bin2 fGtr (tm 23) (oN 30))), (wB 25 (doPick (tm 17) (O.c (V.b Bool.true)) (tm 24))), (wB 26 (doMove (tm 25))), (wG 26 false 27 (doMove (tm 0))), (wG 26 false 28 (doMove (tm 3))), (wG 26 false 29 (doIndexAddr 6 (tm 27) (tm 28))), (wG 26 false 30 (doFieldAddr 4 (tm 29))), (wG 26 false 31 (doLoad (tm 30))), (wG 26 false 32 (doLenS (tm 31))), (wG 26 false 33 (bin2 fGtr (tm 32) (oN 30))), (wB 34 (doPick (tm 26) (O.c (V.b Bool.true)) (tm 33)))]) s13_3)
noncomputable abbrev s13_5 : CC := (CC.block 1 s13_4)
noncomputable abbrev s13_6 : CC := (CC.region [(wB 8 (doMove (tm 3))), (wB 9 (bin2 fAdd (tm 8) (oN 1))), (wB 3 (doMove (tm 9)))])
noncomputable abbrev s13_7 : CC := (CC.seq s13_5 s13_6)
noncomputable abbrev l13_0 : CC := (CC.seq s13_1 s13_7)
noncomputable abbrev s13_8 : CC := (CC.loop l13_0)
noncomputable abbrev s13_9 : CC := (CC.block 0 s13_8)
noncomputable abbrev s13_10 : CC := (CC.seq (CC.region [(wB 3 (doMove (oN 0)))]) s13_9)
noncomputable abbrev s13_11 : CC := (CC.seq (CC.region [(wB 35 (doMove (tm 0))), (wB 36 (doLen (tm 35))), (wB 37 (bin2 fLeq (tm 36) (oN 60))), (wB 2 (doMove (tm 37)))]) CC.ret)
noncomputable abbrev s13_12 : CC := (CC.seq s13_10 s13_11)
noncomputable abbrev b13 : CC := (CC.seq (CC.region [(wB 2 (doMove (O.c (V.b Bool.false))))]) s13_12)
theorem c13 : compFn Try.prog 13 = ⟨38, b13, [(Rs.tmp (slOf 2))]⟩ := by kernel_rfl
end Go.Proofs.Ytjlhfoadabkahaa

set_option maxRecDepth 100000
set_option maxHeartbeats 8000000
set_option linter.all false
namespace Go.Proofs.Ytjlhfoadabkahaa
open Go Go.Ev
section
variable {h : H}
abbrev FiM (h : H) (v : V) (L : List Fi) : Prop := Ss 2 fC h v L
section
variable {P : Program} {N : Nx} {v : V} {L : List Fi} {i : Nat}
theorem fi_l0 (a : FiM h v L) (hi : i < L.length) : L1 P (lid v) (lg v) (loff v + i * 2) (lfin v) h N = N.go P (sv (L.getD i default).1) h := Ss.ld (d := 0) a fC_len hi (by omega)
theorem fi_l1 (a : FiM h v L) (hi : i < L.length) : L1 P (lid v) (lg v) (loff v + i * 2 + 1) (lfin v) h N = N.go P (sv (L.getD i default).2) h := Ss.ld (d := 1) a fC_len hi (by omega)
theorem fi_la (a : FiM h v L) (hi : i < L.length) : LN P (lid v) (lg v) (loff v + i * 2) (lfin v) 2 h N = N.go P (.a [sv (L.getD i default).1, sv (L.getD i default).2]) h := Ss.ldA a fC_len (by omega) hi
end
theorem rname_ok {l : List UInt8} (hl : l.length ≤ 9223372036854775807) : FnOk Try.prog 51 [sv l] h fun y h' => y = .b (nameP l) ∧ h' = h := by
 refine fn_go c51 (by intro hb; cases hb) (by simp) (by simp) fun Q hQ => ?_
 simp only [slotsF, Nat.reduceAdd]
 repeat' (first
   | refine St.h ?_
   | simp (disch := first | omega | (simp only [lnv]; omega)) only [wlk, ↓get_put', ↓reduceIte, seval]
   | (with_reducible (first | apply cd_split | apply gd_split)) <;> (intro hc; (try simp only [hcn] at hc); (try simp only [hc]); (try simp only [hcl] at hc); try omega))
 refine Ok.lp (fun m t g => ∃ i : Nat, m = l.length - i ∧ i ≤ l.length ∧ h = g ∧ get 0 t = sv l ∧ get 3 t = .i .i64 (i : Int) ∧ (l.take i).all nameC = true) l.length ?_ ?_
 · simp (disch := first | omega | (simp only [lnv]; omega)) only [wlk, ↓get_put', ↓reduceIte, seval]
   refine ⟨0, by omega, by omega, ?_⟩
   simp
 rintro I hI m t g ⟨i, rfl, hi, rfl, e0, e3, ea⟩
 repeat' (first
   | refine St.h ?_
   | simp (disch := first | omega | (simp only [lnv]; omega)) only [wlk, ↓get_put', ↓reduceIte, seval, e0, e3, Int.toNat_natCast]
   | (with_reducible (first | apply cd_split | apply gd_split)) <;> (intro hc; (try simp only [hcn] at hc); (try simp only [hc]); (try simp only [hcl] at hc); try omega))
 all_goals first
   | (refine lp_next hI (l.length - (i + 1)) (by omega) ⟨i + 1, rfl, by omega, rfl, by simp (disch := first | omega | (simp only [lnv]; omega)) only [wlk, ↓get_put', ↓reduceIte, seval, e0], by simp (disch := first | omega | (simp only [lnv]; omega)) only [wlk, ↓get_put', ↓reduceIte, seval]; rfl, ?_⟩
      rw [all_take (by omega), ea, Bool.true_and]
      exact decide_eq_true (by omega))
   | (subst hQ
      exact ⟨by rw [nameP_bad (i := i) (by omega) (decide_eq_false (by omega))], rfl⟩)
   | (subst hQ
      refine ⟨?_, rfl⟩
      rw [List.take_of_length_le (by omega)] at ea
      unfold nameP
      rw [ea, Bool.and_true]
      congr 1
      first
        | (rw [decide_eq_true (p := 1 ≤ l.length) (by omega), Bool.true_and]; exact decide_eq_decide.2 (by omega))
        | (rw [decide_eq_false (p := 1 ≤ l.length) (by omega), Bool.false_and]))
   | skip
theorem rfind_ok {v : V} {L : List Fi} {k : List UInt8} (hL : FiM h v L) (hl : L.length ≤ 1000000) : FnOk Try.prog 52 [v, sv k] h fun y h' => y = .i .i64 (findR L k) ∧ h' = h := by
 refine fn_go c52 (by intro hb; cases hb) (by simp) (by simp) fun Q hQ => ?_
 simp only [slotsF, Nat.reduceAdd]
 repeat' (first
   | refine St.h ?_
   | simp (disch := first | omega | (simp only [lnv]; omega)) only [wlk, ↓get_put', ↓reduceIte, seval]
   | (with_reducible (first | apply cd_split | apply gd_split)) <;> (intro hc; (try simp only [hcn] at hc); (try simp only [hc]); (try simp only [hcl] at hc); try omega))
 refine Ok.lp (fun m t g => ∃ i : Nat, m = L.length - i ∧ i ≤ L.length ∧ h = g ∧ get 0 t = v ∧ get 1 t = sv k ∧ get 5 t = .i .i64 (i : Int) ∧ ∀ j, j < i → (L.getD j default).1 ≠ k) L.length ?_ ?_
 · simp (disch := first | omega | (simp only [lnv]; omega)) only [wlk, ↓get_put', ↓reduceIte, seval]
   exact ⟨0, by omega, by omega, trivial, trivial, trivial, rfl, fun j hj => by omega⟩
 rintro I hI m t g ⟨i, rfl, hi, rfl, e0, e1, e5, ea⟩
 repeat' (first
   | refine St.h ?_
   | simp (disch := first | omega | (simp only [lnv]; omega)) only [wlk, ↓get_put', ↓reduceIte, seval, e0, e1, e5, hL.ln, hL.ix, Nat.add_zero, fi_l0 hL, Int.toNat_natCast]
   | (with_reducible (first | apply cd_split | apply gd_split)) <;> (intro hc; (try simp only [hcn] at hc); (try simp only [hc]); (try simp only [hcl] at hc); try omega))
 · have he := hc
   subst hQ
   exact ⟨by rw [find_at (by omega) ea he], rfl⟩
 · have he := hc
   refine lp_next hI (L.length - (i + 1)) (by omega) ⟨i + 1, rfl, by omega, rfl, by simp (disch := first | omega | (simp only [lnv]; omega)) only [wlk, ↓get_put', ↓reduceIte, seval, e0], by simp (disch := first | omega | (simp only [lnv]; omega)) only [wlk, ↓get_put', ↓reduceIte, seval, e1], by simp (disch := first | omega | (simp only [lnv]; omega)) only [wlk, ↓get_put', ↓reduceIte, seval]; rfl, fun j hj => ?_⟩
   rcases Nat.lt_or_ge j i with h1 | h1
   · exact ea j h1
   · rw [show j = i by omega]; exact he
 · obtain rfl : i = L.length := by omega
   subst hQ
   exact ⟨(by rw [find_none ea]; try rfl), rfl⟩
theorem rwithout_ok {v : V} {L : List Fi} {k : List UInt8} (hL : FiM h v L) (hl : L.length ≤ 1000) (hf : B.val h.floor ≤ B.val h.next) : FnOk Try.prog 82 [v, sv k] h fun y h' => FiM h' y (wioR L k) ∧ Stay nowhere h h' ∧ ∀ q, isOf y q → B.val h.next ≤ B.val q := by
 refine fn_go c82 (by intro hb; cases hb) (by simp) (by simp) fun Q hQ => ?_
 simp only [slotsF, Nat.reduceAdd]
 repeat' (first
   | refine St.h ?_
   | simp (disch := first | omega | (simp only [lnv]; omega)) only [wlk, ↓get_put', ↓reduceIte, seval]
   | (with_reducible (first | apply cd_split | apply gd_split)) <;> (intro hc; (try simp only [hcn] at hc); (try simp only [hc]); (try simp only [hcl] at hc); try omega))
 refine Ok.lp (fun m t g => ∃ (i : Nat) (u : V), m = L.length - i ∧ i ≤ L.length ∧ get 0 t = v ∧ get 1 t = sv k ∧ get 5 t = u ∧ get 6 t = .i .i64 (i : Int) ∧ Stay nowhere h g ∧ Buf g 97 2 u ((wioR (L.take i) k).flatMap fC) ∧ ∀ q, isOf u q → B.val h.next ≤ B.val q) L.length ?_ ?_
 · simp (disch := first | omega | (simp only [lnv]; omega)) only [wlk, ↓get_put', ↓reduceIte, seval]
   refine ⟨0, .l0, by omega, by omega, ?_, ?_, ?_, ?_, Stay.refl _ _, Buf.nil _ _ _, ?_⟩
   all_goals first | trivial | rfl | (rintro q ⟨_, _, _, _, _, e⟩; cases e)
 rintro I hI m t g ⟨i, u, rfl, hi, e0, e1, e5, e6, st, bu, ho⟩
 have hfg := st.fl hf
 have hLg := hL.grow st
 have hwl : (wioR (L.take i) k).length ≤ i := Nat.le_trans (List.length_filter_le _ _) (by rw [List.length_take]; omega)
 have hw := fun h => wio_snoc (L := L) (k := k) (i := i) h
 repeat' (first
   | refine St.h ?_
   | simp (disch := first | omega | (simp only [lnv]; omega)) only [wlk, ↓get_put', ↓reduceIte, seval, e0, e1, e5, e6, hL.ln, hL.ix, Nat.add_zero, fi_l0 hLg, fi_la hLg, Int.toNat_natCast]
   | (with_reducible (first | apply cd_split | apply gd_split)) <;> (intro hc; (try simp only [hcn] at hc); (try simp only [hc]); (try simp only [hcl] at hc); try omega))
 · have he := hc
   have hw := hw (by omega)
   rw [if_neg he] at hw
   refine AL.own (by simp) hfg fun g1 s1 n1 o1 => ?_
   repeat' (first
     | refine St.h ?_
     | simp (disch := first | omega | (simp only [lnv]; omega)) only [wlk, ↓get_put', ↓reduceIte, seval, e0, e1, e5, e6]
     | (with_reducible (first | apply cd_split | apply gd_split)) <;> (intro hc; (try simp only [hcn] at hc); (try simp only [hc]); (try simp only [hcl] at hc); try omega))
   refine AP.buf (vs := fC (L.getD i default)) (cnt := 1) (bu.grow s1) (new_row o1.row rfl (Nat.le_refl _) (by omega) (by show 2 ≤ 2; omega)) (s1.fl hfg) (by omega) rfl rfl (by rw [fm_len fC_len]; simp [fC]; omega) fun u' g2 b2 s2 hu2 tp => ?_
   repeat' (first
     | refine St.h ?_
     | simp (disch := first | omega | (simp only [lnv]; omega)) only [wlk, ↓get_put', ↓reduceIte, seval, e0, e1, e5, e6]
     | (with_reducible (first | apply cd_split | apply gd_split)) <;> (intro hc; (try simp only [hcn] at hc); (try simp only [hc]); (try simp only [hcl] at hc); try omega))
   have nn := s1.next
   have nh := st.next
   refine lp_next hI (L.length - (i + 1)) (by omega) ⟨i + 1, u', rfl, by omega, by simp (disch := first | omega | (simp only [lnv]; omega)) only [wlk, ↓get_put', ↓reduceIte, seval, e0], by simp (disch := first | omega | (simp only [lnv]; omega)) only [wlk, ↓get_put', ↓reduceIte, seval, e1], by simp (disch := first | omega | (simp only [lnv]; omega)) only [wlk, ↓get_put', ↓reduceIte, seval], by simp (disch := first | omega | (simp only [lnv]; omega)) only [wlk, ↓get_put', ↓reduceIte, seval, e6]; rfl, (st.trans s1).past' s2 fun q hq => ho q hq, by rw [hw, List.flatMap_append]; simpa using b2, fun q hq => (hu2 q hq).elim (fun e => ho q e) fun e => by omega⟩
 · have he := hc
   have hw := hw (by omega)
   rw [if_pos he, List.append_nil] at hw
   refine lp_next hI (L.length - (i + 1)) (by omega) ⟨i + 1, u, rfl, by omega, by simp (disch := first | omega | (simp only [lnv]; omega)) only [wlk, ↓get_put', ↓reduceIte, seval, e0], by simp (disch := first | omega | (simp only [lnv]; omega)) only [wlk, ↓get_put', ↓reduceIte, seval, e1], by simp (disch := first | omega | (simp only [lnv]; omega)) only [wlk, ↓get_put', ↓reduceIte, seval, e5], by simp (disch := first | omega | (simp only [lnv]; omega)) only [wlk, ↓get_put', ↓reduceIte, seval, e6]; rfl, st, by rw [hw]; exact bu, ho⟩
 · obtain rfl : i = L.length := by omega
   repeat' (first
     | refine St.h ?_
     | simp (disch := first | omega | (simp only [lnv]; omega)) only [wlk, ↓get_put', ↓reduceIte, seval, e5]
     | (with_reducible (first | apply cd_split | apply gd_split)) <;> (intro hc; (try simp only [hcn] at hc); (try simp only [hc]); (try simp only [hcl] at hc); try omega))
   subst hQ
   rw [List.take_length] at bu
   exact ⟨Ss.buf bu rfl fC_len (by omega), st, ho⟩
theorem insP_len {L : List Fi} {f : Fi} {i : Nat} (hi : i ≤ L.length) : (insP L f i).length ≤ i + 1 := by
 have key : ∀ (A : List Fi), (insR A f).length = A.length + 1 := by
   intro A
   induction A with
   | nil => rfl
   | cons a r ih => rw [insR_c]; split <;> simp [ih]
 unfold insP
 split
 · rw [key, List.length_take]; omega
 · rw [List.length_take]; omega
theorem rwith_ok {v : V} {L : List Fi} {f : Fi} (hL : FiM h v L) (hl : L.length ≤ 1000) (hf : B.val h.floor ≤ B.val h.next) : FnOk Try.prog 81 [v, .a [sv f.1, sv f.2]] h fun y h' => FiM h' y (withR L f) ∧ Stay nowhere h h' ∧ ∀ q, isOf y q → B.val h.next ≤ B.val q := by
 refine fn_go c81 (by intro hb; cases hb) (by simp) (by simp) fun Q hQ => ?_
 simp only [slotsF, Nat.reduceAdd]
 repeat' (first
   | refine St.h ?_
   | simp (disch := first | omega | (simp only [lnv]; omega)) only [wlk, ↓get_put', ↓reduceIte, seval]
   | (with_reducible (first | apply cd_split | apply gd_split)) <;> (intro hc; (try simp only [hcn] at hc); (try simp only [hc]); (try simp only [hcl] at hc); try omega))
 refine AL.own (by simp) hf fun h1 s1 n1 o1 => ?_
 have hf1 := s1.fl hf
 repeat' (first
   | refine St.h ?_
   | simp (disch := first | omega | (simp only [lnv]; omega)) only [wlk, ↓get_put', ↓reduceIte, seval, o1.row.l1]
   | (with_reducible (first | apply cd_split | apply gd_split)) <;> (intro hc; (try simp only [hcn] at hc); (try simp only [hc]); (try simp only [hcl] at hc); try omega))
 refine CL.mk (rwithout_ok (k := f.1) (hL.grow s1) hl hf1) ?_
 rintro w h2 ⟨hW, s2, _⟩
 have hf2 := s2.fl hf1
 have o2 := o1.stay s2 fun h => h
 have lt2 : B.val h.next < B.val h2.next := by have := s2.next; omega
 have hwl : (wioR L f.1).length ≤ 1000 := Nat.le_trans (List.length_filter_le _ _) hl
 have hwd : withR L f = insR (wioR L f.1) f := rfl
 generalize wioR L f.1 = R at *
 repeat' (first
   | refine St.h ?_
   | simp (disch := first | omega | (simp only [lnv]; omega)) only [wlk, ↓get_put', ↓reduceIte, seval]
   | (with_reducible (first | apply cd_split | apply gd_split)) <;> (intro hc; (try simp only [hcn] at hc); (try simp only [hc]); (try simp only [hcl] at hc); try omega))
 refine Ok.lp (fun m t g => ∃ (i : Nat) (u : V), m = R.length - i ∧ i ≤ R.length ∧ get 3 t = .p h.next 0 0 2 ∧ get 5 t = u ∧ get 6 t = .b (insG R f i) ∧ get 7 t = w ∧ get 8 t = .i .i64 (i : Int) ∧ Stay nowhere h2 g ∧ Buf g 97 2 u ((insP R f i).flatMap fC) ∧ ∀ q, isOf u q → B.val h2.next ≤ B.val q) R.length ?_ ?_
 · simp (disch := first | omega | (simp only [lnv]; omega)) only [wlk, ↓get_put', ↓reduceIte, seval]
   refine ⟨0, .l0, by omega, by omega, ?_, ?_, ?_, ?_, ?_, Stay.refl _ _, Buf.nil _ _ _, ?_⟩
   all_goals first | trivial | rfl | (rintro q ⟨_, _, _, _, _, e⟩; cases e)
 rintro I hI m t g ⟨i, u, rfl, hi, e3, e5, e6, e7, e8, st, bu, ho⟩
 have hfg := st.fl hf2
 have hWg := hW.grow st
 have og := o2.stay st fun h => h
 have hpl := insP_len (L := R) (f := f) hi
 have hS := fun h => insP_succ (L := R) (f := f) (i := i) h
 have hG := fun h => insG_succ (L := R) (f := f) (i := i) h
 have nh := st.next
 cases hg : insG R f i with
 | true =>
   rw [hg] at e6 hS hG
   repeat' (first
     | refine St.h ?_
     | simp (disch := first | omega | (simp only [lnv]; omega)) only [wlk, ↓get_put', ↓reduceIte, seval, e3, e5, e6, e7, e8, hW.ln, hW.ix, fi_la hWg, Int.toNat_natCast]
     | (with_reducible (first | apply cd_split | apply gd_split)) <;> (intro hc; (try simp only [hcn] at hc); (try simp only [hc]); (try simp only [hcl] at hc); try omega))
   · have hS := hS (by omega)
     rw [if_neg (fun h => by cases h.1)] at hS
     refine AL.own (by simp) hfg fun g1 s3 n3 o3 => ?_
     repeat' (first
       | refine St.h ?_
       | simp (disch := first | omega | (simp only [lnv]; omega)) only [wlk, ↓get_put', ↓reduceIte, seval, e3, e5, e6, e7, e8]
       | (with_reducible (first | apply cd_split | apply gd_split)) <;> (intro hc; (try simp only [hcn] at hc); (try simp only [hc]); (try simp only [hcl] at hc); try omega))
     refine AP.buf (vs := fC (R.getD i default)) (cnt := 1) (bu.grow s3) (new_row o3.row rfl (Nat.le_refl _) (by omega) (by show 2 ≤ 2; omega)) (s3.fl hfg) (by omega) rfl rfl (by rw [fm_len fC_len]; simp [fC]; omega) fun u' g2 b2 s4 hu2 tp => ?_
     repeat' (first
       | refine St.h ?_
       | simp (disch := first | omega | (simp only [lnv]; omega)) only [wlk, ↓get_put', ↓reduceIte, seval, e3, e5, e6, e7, e8]
       | (with_reducible (first | apply cd_split | apply gd_split)) <;> (intro hc; (try simp only [hcn] at hc); (try simp only [hc]); (try simp only [hcl] at hc); try omega))
     have nn := s3.next
     refine lp_next hI (R.length - (i + 1)) (by omega) ⟨i + 1, u', rfl, by omega, by simp (disch := first | omega | (simp only [lnv]; omega)) only [wlk, ↓get_put', ↓reduceIte, seval, e3], by simp (disch := first | omega | (simp only [lnv]; omega)) only [wlk, ↓get_put', ↓reduceIte, seval], by rw [hG (by omega)]; simp (disch := first | omega | (simp only [lnv]; omega)) only [wlk, ↓get_put', ↓reduceIte, seval, e6]; rfl, by simp (disch := first | omega | (simp only [lnv]; omega)) only [wlk, ↓get_put', ↓reduceIte, seval, e7], by simp (disch := first | omega | (simp only [lnv]; omega)) only [wlk, ↓get_put', ↓reduceIte, seval]; rfl, (st.trans s3).past' s4 fun q hq => ho q hq, by rw [hS, List.flatMap_append]; simpa using b2, fun q hq => (hu2 q hq).elim (fun e => ho q e) fun e => by omega⟩
   · obtain rfl : i = R.length := by omega
     repeat' (first
       | refine St.h ?_
       | simp (disch := first | omega | (simp only [lnv]; omega)) only [wlk, ↓get_put', ↓reduceIte, seval, e5, e6]
       | (with_reducible (first | apply cd_split | apply gd_split)) <;> (intro hc; (try simp only [hcn] at hc); (try simp only [hc]); (try simp only [hcl] at hc); try omega))
     subst hQ
     have he := insP_end (L := R) (f := f)
     rw [hg, if_pos rfl] at he
     exact ⟨Ss.buf bu (by rw [hwd, he]) fC_len (by omega), (s1.trans s2).trans st, fun q hq => by have := ho q hq; omega⟩
 | false =>
   rw [hg] at e6 hS hG
   repeat' (first
     | refine St.h ?_
     | simp (disch := first | omega | (simp only [lnv]; omega)) only [wlk, ↓get_put', ↓reduceIte, seval, e3, e5, e6, e7, e8, hW.ln, hW.ix, fi_l0 hWg, Nat.add_zero, fi_la hWg, og.row.l1, og.row.ln, Int.toNat_natCast]
     | (with_reducible (first | apply cd_split | apply gd_split)) <;> (intro hc; (try simp only [hcn] at hc); (try simp only [hc]); (try simp only [hcl] at hc); try omega))
   · have hlt := hc
     have hS := hS (by omega)
     rw [if_pos ⟨rfl, hlt⟩] at hS
     refine AL.own (by simp) hfg fun g1 s3 n3 o3 => ?_
     have hWa := hWg.grow s3
     repeat' (first
       | refine St.h ?_
       | simp (disch := first | omega | (simp only [lnv]; omega)) only [wlk, ↓get_put', ↓reduceIte, seval, e3, e5, e6, e7, e8]
       | (with_reducible (first | apply cd_split | apply gd_split)) <;> (intro hc; (try simp only [hcn] at hc); (try simp only [hc]); (try simp only [hcl] at hc); try omega))
     refine AP.buf (vs := fC f) (cnt := 1) (bu.grow s3) (new_row o3.row rfl (Nat.le_refl _) (by omega) (by show 2 ≤ 2; omega)) (s3.fl hfg) (by omega) rfl rfl (by rw [fm_len fC_len]; simp [fC]; omega) fun u' g2 b2 s4 hu2 tp => ?_
     have nn := s3.next
     have s04 : Stay nowhere h2 g2 := (st.trans s3).past' s4 fun q hq => ho q hq
     have hf4 := s04.fl hf2
     have hWb := hW.grow s04
     repeat' (first
       | refine St.h ?_
       | simp (disch := first | omega | (simp only [lnv]; omega)) only [wlk, ↓get_put', ↓reduceIte, seval, e3, e5, e6, e7, e8, hW.ix, fi_la hWb, Int.toNat_natCast]
       | (with_reducible (first | apply cd_split | apply gd_split)) <;> (intro hc; (try simp only [hcn] at hc); (try simp only [hc]); (try simp only [hcl] at hc); try omega))
     refine AL.own (by simp) hf4 fun g3 s5 n5 o5 => ?_
     repeat' (first
       | refine St.h ?_
       | simp (disch := first | omega | (simp only [lnv]; omega)) only [wlk, ↓get_put', ↓reduceIte, seval, e3, e5, e6, e7, e8]
       | (with_reducible (first | apply cd_split | apply gd_split)) <;> (intro hc; (try simp only [hcn] at hc); (try simp only [hc]); (try simp only [hcl] at hc); try omega))
     refine AP.buf (vs := fC (R.getD i default)) (cnt := 1) (b2.grow s5) (new_row o5.row rfl (Nat.le_refl _) (by omega) (by show 2 ≤ 2; omega)) (s5.fl hf4) (by omega) rfl rfl (by rw [List.length_append, fm_len fC_len]; simp [fC]; omega) fun u'' g4 b4 s6 hu4 tp2 => ?_
     repeat' (first
       | refine St.h ?_
       | simp (disch := first | omega | (simp only [lnv]; omega)) only [wlk, ↓get_put', ↓reduceIte, seval, e3, e5, e6, e7, e8]
       | (with_reducible (first | apply cd_split | apply gd_split)) <;> (intro hc; (try simp only [hcn] at hc); (try simp only [hc]); (try simp only [hcl] at hc); try omega))
     have n4 := s04.next
     have n6 := s5.next
     have ho2 : ∀ q, isOf u' q → B.val h2.next ≤ B.val q := fun q hq => (hu2 q hq).elim (fun e => ho q e) fun e => by omega
     refine lp_next hI (R.length - (i + 1)) (by omega) ⟨i + 1, u'', rfl, by omega, by simp (disch := first | omega | (simp only [lnv]; omega)) only [wlk, ↓get_put', ↓reduceIte, seval, e3], by simp (disch := first | omega | (simp only [lnv]; omega)) only [wlk, ↓get_put', ↓reduceIte, seval], by rw [hG (by omega), hlt]; simp (disch := first | omega | (simp only [lnv]; omega)) only [wlk, ↓get_put', ↓reduceIte, seval]; rfl, by simp (disch := first | omega | (simp only [lnv]; omega)) only [wlk, ↓get_put', ↓reduceIte, seval, e7], by simp (disch := first | omega | (simp only [lnv]; omega)) only [wlk, ↓get_put', ↓reduceIte, seval, e8]; rfl, (s04.trans s5).past' s6 fun q hq => ho2 q hq, by rw [hS, List.flatMap_append, List.flatMap_append]; simpa using b4, fun q hq => (hu4 q hq).elim (fun e => ho2 q e) fun e => by omega⟩
   · have hlt := hc
     have hS := hS (by omega)
     rw [if_neg (fun h => by rw [hlt] at h; cases h.2)] at hS
     refine AL.own (by simp) hfg fun g1 s3 n3 o3 => ?_
     repeat' (first
       | refine St.h ?_
       | simp (disch := first | omega | (simp only [lnv]; omega)) only [wlk, ↓get_put', ↓reduceIte, seval, e3, e5, e6, e7, e8]
       | (with_reducible (first | apply cd_split | apply gd_split)) <;> (intro hc; (try simp only [hcn] at hc); (try simp only [hc]); (try simp only [hcl] at hc); try omega))
     refine AP.buf (vs := fC (R.getD i default)) (cnt := 1) (bu.grow s3) (new_row o3.row rfl (Nat.le_refl _) (by omega) (by show 2 ≤ 2; omega)) (s3.fl hfg) (by omega) rfl rfl (by rw [fm_len fC_len]; simp [fC]; omega) fun u' g2 b2 s4 hu2 tp => ?_
     repeat' (first
       | refine St.h ?_
       | simp (disch := first | omega | (simp only [lnv]; omega)) only [wlk, ↓get_put', ↓reduceIte, seval, e3, e5, e6, e7, e8]
       | (with_reducible (first | apply cd_split | apply gd_split)) <;> (intro hc; (try simp only [hcn] at hc); (try simp only [hc]); (try simp only [hcl] at hc); try omega))
     have nn := s3.next
     refine lp_next hI (R.length - (i + 1)) (by omega) ⟨i + 1, u', rfl, by omega, by simp (disch := first | omega | (simp only [lnv]; omega)) only [wlk, ↓get_put', ↓reduceIte, seval, e3], by simp (disch := first | omega | (simp only [lnv]; omega)) only [wlk, ↓get_put', ↓reduceIte, seval], by rw [hG (by omega), hlt]; simp (disch := first | omega | (simp only [lnv]; omega)) only [wlk, ↓get_put', ↓reduceIte, seval, e6]; rfl, by simp (disch := first | omega | (simp only [lnv]; omega)) only [wlk, ↓get_put', ↓reduceIte, seval, e7], by simp (disch := first | omega | (simp only [lnv]; omega)) only [wlk, ↓get_put', ↓reduceIte, seval, e8]; rfl, (st.trans s3).past' s4 fun q hq => ho q hq, by rw [hS, List.flatMap_append]; simpa using b2, fun q hq => (hu2 q hq).elim (fun e => ho q e) fun e => by omega⟩
   · obtain rfl : i = R.length := by omega
     have he := insP_end (L := R) (f := f)
     rw [hg, if_neg (by decide)] at he
     refine AL.own (by simp) hfg fun g1 s3 n3 o3 => ?_
     repeat' (first
       | refine St.h ?_
       | simp (disch := first | omega | (simp only [lnv]; omega)) only [wlk, ↓get_put', ↓reduceIte, seval, e3, e5, e6, e7, e8]
       | (with_reducible (first | apply cd_split | apply gd_split)) <;> (intro hc; (try simp only [hcn] at hc); (try simp only [hc]); (try simp only [hcl] at hc); try omega))
     refine AP.buf (vs := fC f) (cnt := 1) (bu.grow s3) (new_row o3.row rfl (Nat.le_refl _) (by omega) (by show 2 ≤ 2; omega)) (s3.fl hfg) (by omega) rfl rfl (by rw [fm_len fC_len]; simp [fC]; omega) fun u' g2 b2 s4 hu2 tp => ?_
     repeat' (first
       | refine St.h ?_
       | simp (disch := first | omega | (simp only [lnv]; omega)) only [wlk, ↓get_put', ↓reduceIte, seval, e3, e5, e6, e7, e8]
       | (with_reducible (first | apply cd_split | apply gd_split)) <;> (intro hc; (try simp only [hcn] at hc); (try simp only [hc]); (try simp only [hcl] at hc); try omega))
     subst hQ
     refine ⟨Ss.buf b2 (by rw [hwd, he, List.flatMap_append]; simp) fC_len (by omega), ((s1.trans s2).trans (st.trans s3)).past' s4 fun q hq => by have := ho q hq; omega, fun q hq => ?_⟩
     have nn := s3.next
     rcases hu2 q hq with e | e
     · have := ho q e; omega
     · omega
end
end Go.Proofs.Ytjlhfoadabkahaa
