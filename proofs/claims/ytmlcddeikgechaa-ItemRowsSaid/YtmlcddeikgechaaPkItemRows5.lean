/- Texts of ours, without what this claim does not use: JrBaP JrBa JrSeal NSeal NBa1 NEnt2 NBa2 NBa3 BaL BaP JrBld NBld Wh NBaQ ItL ItP JrIt NIt1 Wq Wz NChS NIt2 NIt3 Wy Wx NItP1. No condition. -/
import Derived.Test.YtmlcddeikgechaaPkItemRows4
import Derived.Test.YtmlcddeikgechaaProg
import Derived.KernelRfl
import Derived.Test.YtmlcddeikgechaaChecked
set_option maxRecDepth 1000000
set_option linter.all false
namespace Go.Proofs.Ytmlcddeikgechaa
open Go Go.Ev
noncomputable abbrev s30_0 : CC := (CC.seq (CC.region [(wB 2 (doMove (O.c (V.b Bool.false))))]) CC.ret)
noncomputable abbrev s30_1 : CC := (CC.cond (tm 7) s30_0 CC.skip)
noncomputable abbrev s30_2 : CC := (CC.seq (CC.region [(wB 5 (doMove (tm 0))), (wB 6 (doLen (tm 5))), (wB 7 (bin2 fGtr (tm 6) (oN 8)))]) s30_1)
noncomputable abbrev s30_3 : CC := (CC.cond (tm 11) CC.skip (CC.exit 0))
noncomputable abbrev s30_4 : CC := (CC.seq (CC.region [(wB 2 (doMove (O.c (V.b Bool.false))))]) CC.ret)
noncomputable abbrev s30_5 : CC := (CC.cond (tm 17) s30_4 CC.skip)
noncomputable abbrev s30_6 : CC := (CC.seq (CC.region [(wB 15 (doLoadA 3 (tm 4))), (wB 16 (doCall 44 [(tm 15)])), (wB 17 (doNot (tm 16)))]) s30_5)
noncomputable abbrev s30_7 : CC := (CC.seq (CC.region [(wB 2 (doMove (O.c (V.b Bool.false))))]) CC.ret)
noncomputable abbrev s30_8 : CC := (CC.cond (tm 30) s30_7 CC.skip)
noncomputable abbrev s30_9 : CC := (CC.seq (CC.draws [(uB 18 (doMove (tm 3))), (uB 19 (bin2 fGtr (tm 18) (oN 0))), (uB 20 (doMove (tm 19))), (uG 20 true 21 (doMove (tm 0))), (uG 20 true 22 (doMove (tm 3))), (uG 20 true 23 (bin2 fSub (tm 22) (oN 1))), (uG 20 true 24 (doIndexAddr 3 (tm 21) (tm 23))), (uG 20 true 25 (doFieldAddr 0 (tm 24))), (uG 20 true 26 (doLoad (tm 25))), (uG 20 true 27 (doFieldAddr 0 (tm 4))), (uG 20 true 28 (doLoad (tm 27))), (uG 20 true 29 (doSCmp (fun a b c d => !ltS a b c d) (tm 26) (tm 28))), (uB 30 (doPick (tm 20) (tm 29) (O.c (V.b Bool.false))))] none) s30_8)
noncomputable abbrev s30_10 : CC := (CC.seq s30_6 s30_9)
noncomputable abbrev s30_11 : CC := (CC.seq (CC.region [(wB 12 (doMove (tm 10))), (wB 13 (doIndexAddr 3 (tm 8) (tm 10))), (wB 14 (doLoadA 3 (tm 13))), (wB 4 (doAlloc 39 [(V.s 0 0), (V.b Bool.false), (V.s 0 0)])), (wB 3 (doMove (tm 12))), (CO.mk G.none D.none Bool.true (CR.mk (doStore 3 (tm 4) (tm 14))))]) s30_10)
noncomputable abbrev s30_12 : CC := (CC.block 1 s30_11)
noncomputable abbrev s30_13 : CC := (CC.region [(wB 31 (bin2 fAdd (tm 10) (oN 1))), (wB 10 (doMove (tm 31)))])
noncomputable abbrev s30_14 : CC := (CC.seq s30_12 s30_13)
noncomputable abbrev s30_15 : CC := (CC.seq s30_3 s30_14)
noncomputable abbrev l30_0 : CC := (CC.seq (CC.region [(wB 11 (bin2 fLss (tm 10) (tm 9)))]) s30_15)
noncomputable abbrev s30_16 : CC := (CC.loop l30_0)
noncomputable abbrev s30_17 : CC := (CC.block 0 s30_16)
noncomputable abbrev s30_18 : CC := (CC.seq (CC.region [(wB 8 (doMove (tm 0))), (wB 9 (doLen (tm 8))), (wB 10 (doMove (oN 0)))]) s30_17)
noncomputable abbrev s30_19 : CC := (CC.seq (CC.region [(wB 2 (doMove (O.c (V.b Bool.true))))]) CC.ret)
noncomputable abbrev s30_20 : CC := (CC.seq s30_18 s30_19)
noncomputable abbrev s30_21 : CC := (CC.seq s30_2 s30_20)
noncomputable abbrev b30 : CC := (CC.seq (CC.region [(wB 2 (doMove (O.c (V.b Bool.false))))]) s30_21)
theorem c30 : compFn Try.prog 30 = ⟨32, b30, [(Rs.tmp (slOf 2))]⟩ := by kernel_rfl
noncomputable abbrev s36_0 : CC := (CC.seq (CC.region [(wB 4 (doMove (O.c (V.s 0 0)))), (wB 5 (doMove (oN 10)))]) CC.ret)
noncomputable abbrev s36_1 : CC := (CC.cond (tm 19) s36_0 CC.skip)
noncomputable abbrev s36_2 : CC := (CC.seq (CC.region [(wB 9 (doMove (tm 1))), (wB 10 (doCall 30 [(tm 9)])), (wB 11 (doNot (tm 10))), (wB 12 (doMove (tm 11))), (wG 12 false 13 (doMove (tm 0))), (wG 12 false 14 (bin2 fLss (tm 13) (oN 1))), (wB 15 (doPick (tm 12) (O.c (V.b Bool.true)) (tm 14))), (wB 16 (doMove (tm 15))), (wG 16 false 17 (doMove (tm 0))), (wG 16 false 18 (bin2 fGtr (tm 17) (oN 1000000))), (wB 19 (doPick (tm 16) (O.c (V.b Bool.true)) (tm 18)))]) s36_1)
noncomputable abbrev s36_3 : CC := (CC.cond (tm 30) CC.skip (CC.exit 0))
noncomputable abbrev s36_4 : CC := (CC.region [(wB 33 (doLoadA 3 (tm 8))), (wB 34 (doCall 49 [(tm 33)])), (wB 35 (doCall 48 [(tm 6), (tm 34)]))])
noncomputable abbrev s36_5 : CC := (CC.seq (CC.region [(wB 31 (doIndexAddr 3 (tm 27) (tm 29))), (wB 32 (doLoadA 3 (tm 31))), (wB 8 (doAlloc 39 [(V.s 0 0), (V.b Bool.false), (V.s 0 0)])), (CO.mk G.none D.none Bool.true (CR.mk (doStore 3 (tm 8) (tm 32))))]) s36_4)
noncomputable abbrev s36_6 : CC := (CC.block 1 s36_5)
noncomputable abbrev s36_7 : CC := (CC.region [(wB 36 (bin2 fAdd (tm 29) (oN 1))), (wB 29 (doMove (tm 36)))])
noncomputable abbrev s36_8 : CC := (CC.seq s36_6 s36_7)
noncomputable abbrev s36_9 : CC := (CC.seq s36_3 s36_8)
noncomputable abbrev l36_0 : CC := (CC.seq (CC.region [(wB 30 (bin2 fLss (tm 29) (tm 28)))]) s36_9)
noncomputable abbrev s36_10 : CC := (CC.loop l36_0)
noncomputable abbrev s36_11 : CC := (CC.block 0 s36_10)
noncomputable abbrev s36_12 : CC := (CC.seq (CC.region [(wB 27 (doMove (tm 1))), (wB 28 (doLen (tm 27))), (wB 29 (doMove (oN 0)))]) s36_11)
noncomputable abbrev s36_13 : CC := (CC.seq (CC.region [(wB 37 (doCall 50 [(tm 6)])), (wB 38 (doCall 19 [(tm 37)])), (wB 4 (doMove (tm 38))), (wB 5 (doMove (oN 0)))]) CC.ret)
noncomputable abbrev s36_14 : CC := (CC.seq s36_12 s36_13)
noncomputable abbrev s36_15 : CC := (CC.seq (CC.region [(wB 23 (doMove (tm 1))), (wB 24 (doLen (tm 23))), (wB 25 (doCall 18 [(tm 24)])), (wB 26 (doCall 48 [(tm 6), (tm 25)]))]) s36_14)
noncomputable abbrev s36_16 : CC := (CC.seq (CC.region [(wB 20 (doMove (tm 0))), (wB 21 (doCall 18 [(tm 20)])), (wB 22 (doCall 48 [(tm 6), (tm 21)]))]) s36_15)
noncomputable abbrev s36_17 : CC := (CC.seq (CC.region [(wB 6 (doAlloc 77 [V.p0, V.l0]))]) s36_16)
noncomputable abbrev s36_18 : CC := (CC.seq s36_2 s36_17)
noncomputable abbrev b36 : CC := (CC.seq (CC.region [(wB 4 (doMove (O.c (V.s 0 0)))), (wB 5 (doMove (oN 0)))]) s36_18)
theorem c36 : compFn Try.prog 36 = ⟨39, b36, [(Rs.tmp (slOf 4)), (Rs.tmp (slOf 5))]⟩ := by kernel_rfl
noncomputable abbrev s53_0 : CC := (CC.seq (CC.region [(wB 21 (doMove (tm 8))), (wB 2 (doMove (oN 0))), (wB 3 (doMove (O.c V.l0))), (wB 4 (doMove (oN 0))), (wB 5 (doMove (tm 21)))]) CC.ret)
noncomputable abbrev s53_1 : CC := (CC.cond (tm 20) s53_0 CC.skip)
noncomputable abbrev s53_2 : CC := (CC.seq (CC.region [(wB 19 (doMove (tm 8))), (wB 20 (bin2 fNeq (tm 19) (oN 0)))]) s53_1)
noncomputable abbrev s53_3 : CC := (CC.seq (CC.region [(wB 2 (doMove (oN 0))), (wB 3 (doMove (O.c V.l0))), (wB 4 (doMove (oN 0))), (wB 5 (doMove (oN 10)))]) CC.ret)
noncomputable abbrev s53_4 : CC := (CC.cond (tm 37) s53_3 CC.skip)
noncomputable abbrev s53_5 : CC := (CC.seq (CC.region [(wB 33 (doMove (tm 11))), (wB 34 (doMove (tm 0))), (wB 35 (doMove (tm 7))), (wB 36 (doSSlice (tm 34) none (some (tm 35)))), (wB 37 (doSCmp (fun a b c d => !eqS a b c d) (tm 33) (tm 36)))]) s53_4)
noncomputable abbrev s53_6 : CC := (CC.seq (CC.region [(wB 28 (doMove (tm 9))), (wB 29 (doMove (tm 10))), (wB 30 (doCall 36 [(tm 28), (tm 29)])), (wB 27 (doMove (tm 30))), (wB 31 (doExtract 0 (tm 27))), (wB 32 (doExtract 1 (tm 27))), (wB 11 (doMove (tm 31))), (wB 12 (doMove (tm 32)))]) s53_5)
noncomputable abbrev s53_7 : CC := (CC.seq (CC.region [(wB 38 (doMove (tm 9))), (wB 39 (doMove (tm 10))), (wB 40 (doMove (tm 7))), (wB 2 (doMove (tm 38))), (wB 3 (doMove (tm 39))), (wB 4 (doMove (tm 40))), (wB 5 (doMove (oN 0)))]) CC.ret)
noncomputable abbrev s53_8 : CC := (CC.seq s53_6 s53_7)
noncomputable abbrev s53_9 : CC := (CC.seq (CC.region [(wB 23 (doMove (tm 6))), (wB 24 (doCall 57 [(tm 23)])), (wB 22 (doMove (tm 24))), (wB 25 (doExtract 0 (tm 22))), (wB 26 (doExtract 1 (tm 22))), (wB 9 (doMove (tm 25))), (wB 10 (doMove (tm 26)))]) s53_8)
noncomputable abbrev s53_10 : CC := (CC.seq s53_2 s53_9)
noncomputable abbrev s53_11 : CC := (CC.seq (CC.region [(wB 14 (doMove (tm 0))), (wB 15 (doCall 24 [(tm 14)])), (wB 13 (doMove (tm 15))), (wB 16 (doExtract 0 (tm 13))), (wB 17 (doExtract 1 (tm 13))), (wB 18 (doExtract 2 (tm 13))), (wB 6 (doMove (tm 16))), (wB 7 (doMove (tm 17))), (wB 8 (doMove (tm 18)))]) s53_10)
noncomputable abbrev b53 : CC := (CC.seq (CC.region [(wB 2 (doMove (oN 0))), (wB 3 (doMove (O.c V.l0))), (wB 4 (doMove (oN 0))), (wB 5 (doMove (oN 0)))]) s53_11)
theorem c53 : compFn Try.prog 53 = ⟨41, b53, [(Rs.tmp (slOf 2)), (Rs.tmp (slOf 3)), (Rs.tmp (slOf 4)), (Rs.tmp (slOf 5))]⟩ := by kernel_rfl
noncomputable abbrev s49_0 : CC := (CC.seq (CC.draws [(uB 5 (doFieldAddr 0 (tm 1))), (uB 6 (doLoad (tm 5))), (uB 7 (doCall 55 [(tm 6)])), (uB 8 (doBuildSlice 5 1 [(V.i IntKind.u8 (Int.ofNat 0))] [(Pt.mk 0 1 (O.c (V.i IntKind.u8 (Int.ofNat 1))))])), (uB 9 (doB2S (tm 8))), (uB 10 (doConcat (tm 7) (tm 9))), (uB 2 (doMove (tm 10)))] none) CC.ret)
noncomputable abbrev s49_1 : CC := (CC.cond (tm 4) s49_0 CC.skip)
noncomputable abbrev s49_2 : CC := (CC.seq (CC.region [(wB 3 (doFieldAddr 1 (tm 1))), (wB 4 (doLoad (tm 3)))]) s49_1)
noncomputable abbrev s49_3 : CC := (CC.seq (CC.draws [(uB 11 (doFieldAddr 0 (tm 1))), (uB 12 (doLoad (tm 11))), (uB 13 (doCall 55 [(tm 12)])), (uB 14 (doBuildSlice 5 1 [(V.i IntKind.u8 (Int.ofNat 0))] [(Pt.mk 0 1 (O.c (V.i IntKind.u8 (Int.ofNat 0))))])), (uB 15 (doB2S (tm 14))), (uB 16 (doConcat (tm 13) (tm 15))), (uB 17 (doFieldAddr 2 (tm 1))), (uB 18 (doLoad (tm 17))), (uB 19 (doCall 55 [(tm 18)])), (uB 20 (doConcat (tm 16) (tm 19))), (uB 2 (doMove (tm 20)))] none) CC.ret)
noncomputable abbrev s49_4 : CC := (CC.seq s49_2 s49_3)
noncomputable abbrev b49 : CC := (CC.seq (CC.region [(wB 1 (doBox 39 (tm 0))), (wB 2 (doMove (O.c (V.s 0 0))))]) s49_4)
theorem c49 : compFn Try.prog 49 = ⟨21, b49, [(Rs.tmp (slOf 2))]⟩ := by kernel_rfl
noncomputable abbrev s57_0 : CC := (CC.seq (CC.region [(wB 2 (doMove (oN 0))), (wB 3 (doMove (O.c V.l0)))]) CC.ret)
noncomputable abbrev s57_1 : CC := (CC.cond (tm 20) s57_0 CC.skip)
noncomputable abbrev s57_2 : CC := (CC.seq (CC.region [(wB 19 (doMove (tm 6))), (wB 20 (bin2 fNeq (tm 19) (oN 0)))]) s57_1)
noncomputable abbrev s57_3 : CC := (CC.seq (CC.region [(wB 2 (doMove (oN 0))), (wB 3 (doMove (O.c V.l0)))]) CC.ret)
noncomputable abbrev s57_4 : CC := (CC.cond (tm 34) s57_3 CC.skip)
noncomputable abbrev s57_5 : CC := (CC.seq (CC.region [(wB 29 (doMove (tm 6))), (wB 30 (bin2 fNeq (tm 29) (oN 0))), (wB 31 (doMove (tm 30))), (wG 31 false 32 (doMove (tm 7))), (wG 31 false 33 (bin2 fGtr (tm 32) (oN 8))), (wB 34 (doPick (tm 31) (O.c (V.b Bool.true)) (tm 33)))]) s57_4)
noncomputable abbrev s57_6 : CC := (CC.cond (tm 40) CC.skip (CC.exit 0))
noncomputable abbrev s57_7 : CC := (CC.seq (CC.region [(wB 2 (doMove (oN 0))), (wB 3 (doMove (O.c V.l0)))]) CC.ret)
noncomputable abbrev s57_8 : CC := (CC.cond (tm 50) s57_7 CC.skip)
noncomputable abbrev s57_9 : CC := (CC.seq (CC.region [(wB 49 (doMove (tm 12))), (wB 50 (doNot (tm 49)))]) s57_8)
noncomputable abbrev s57_10 : CC := (CC.region [(wB 55 (doMove (tm 5))), (wB 56 (doMove (tm 11))), (wB 57 (bin2 fAdd (tm 55) (tm 56))), (wB 5 (doMove (tm 57)))])
noncomputable abbrev s57_11 : CC := (CC.seq (CC.region [(wB 51 (doMove (tm 9))), (wB 52 (doLoadA 3 (tm 10))), (wB 53 (doBuildSlice 39 1 [(V.s 0 0), (V.b Bool.false), (V.s 0 0)] [(Pt.mk 0 3 (tm 52))])), (wB 54 (doAppend 39 3 (tm 51) (tm 53))), (wB 9 (doMove (tm 54)))]) s57_10)
noncomputable abbrev s57_12 : CC := (CC.seq s57_9 s57_11)
noncomputable abbrev s57_13 : CC := (CC.seq (CC.region [(wB 42 (doMove (tm 0))), (wB 43 (doMove (tm 5))), (wB 44 (doSSlice (tm 42) (some (tm 43)) none)), (wB 45 (doCall 59 [(tm 44)])), (wB 41 (doMove (tm 45))), (wB 46 (doExtract 0 (tm 41))), (wB 47 (doExtract 1 (tm 41))), (wB 48 (doExtract 2 (tm 41))), (wB 10 (doAlloc 39 [(V.s 0 0), (V.b Bool.false), (V.s 0 0)])), (CO.mk G.none D.none Bool.true (CR.mk (doStore 3 (tm 10) (tm 46)))), (wB 11 (doMove (tm 47))), (wB 12 (doMove (tm 48)))]) s57_12)
noncomputable abbrev s57_14 : CC := (CC.block 1 s57_13)
noncomputable abbrev s57_15 : CC := (CC.region [(wB 58 (bin2 fAdd (tm 39) (oN 1))), (wB 39 (doMove (tm 58)))])
noncomputable abbrev s57_16 : CC := (CC.seq s57_14 s57_15)
noncomputable abbrev s57_17 : CC := (CC.seq s57_6 s57_16)
noncomputable abbrev l57_0 : CC := (CC.seq (CC.region [(wB 40 (bin2 fLss (tm 39) (tm 38)))]) s57_17)
noncomputable abbrev s57_18 : CC := (CC.loop l57_0)
noncomputable abbrev s57_19 : CC := (CC.block 0 s57_18)
noncomputable abbrev s57_20 : CC := (CC.seq (CC.region [(wB 38 (doMove (tm 7))), (wB 39 (doMove (oN 0)))]) s57_19)
noncomputable abbrev s57_21 : CC := (CC.seq (CC.region [(wB 59 (doMove (tm 4))), (wB 60 (doMove (tm 9))), (wB 2 (doMove (tm 59))), (wB 3 (doMove (tm 60)))]) CC.ret)
noncomputable abbrev s57_22 : CC := (CC.seq s57_20 s57_21)
noncomputable abbrev s57_23 : CC := (CC.seq (CC.region [(wB 9 (doMove (O.c V.l0)))]) s57_22)
noncomputable abbrev s57_24 : CC := (CC.seq (CC.region [(wB 35 (doMove (tm 5))), (wB 36 (doMove (tm 8))), (wB 37 (bin2 fAdd (tm 35) (tm 36))), (wB 5 (doMove (tm 37)))]) s57_23)
noncomputable abbrev s57_25 : CC := (CC.seq s57_5 s57_24)
noncomputable abbrev s57_26 : CC := (CC.seq (CC.region [(wB 22 (doMove (tm 0))), (wB 23 (doMove (tm 5))), (wB 24 (doSSlice (tm 22) (some (tm 23)) none)), (wB 25 (doCall 41 [(tm 24)])), (wB 21 (doMove (tm 25))), (wB 26 (doExtract 0 (tm 21))), (wB 27 (doExtract 1 (tm 21))), (wB 28 (doExtract 2 (tm 21))), (wB 7 (doMove (tm 26))), (wB 8 (doMove (tm 27))), (wB 6 (doMove (tm 28)))]) s57_25)
noncomputable abbrev s57_27 : CC := (CC.seq s57_2 s57_26)
noncomputable abbrev s57_28 : CC := (CC.seq (CC.region [(wB 14 (doMove (tm 0))), (wB 15 (doCall 41 [(tm 14)])), (wB 13 (doMove (tm 15))), (wB 16 (doExtract 0 (tm 13))), (wB 17 (doExtract 1 (tm 13))), (wB 18 (doExtract 2 (tm 13))), (wB 4 (doMove (tm 16))), (wB 5 (doMove (tm 17))), (wB 6 (doMove (tm 18)))]) s57_27)
noncomputable abbrev b57 : CC := (CC.seq (CC.region [(wB 2 (doMove (oN 0))), (wB 3 (doMove (O.c V.l0)))]) s57_28)
theorem c57 : compFn Try.prog 57 = ⟨61, b57, [(Rs.tmp (slOf 2)), (Rs.tmp (slOf 3))]⟩ := by kernel_rfl
noncomputable abbrev s59_0 : CC := (CC.seq (CC.region [(wB 26 (doBuild [(V.s 0 0), (V.b Bool.false), (V.s 0 0)] [])), (CO.mk G.none D.none Bool.true (CR.mk (doStore 3 (tm 2) (tm 26)))), (wB 3 (doMove (oN 0))), (wB 4 (doMove (O.c (V.b Bool.false))))]) CC.ret)
noncomputable abbrev s59_1 : CC := (CC.cond (tm 25) s59_0 CC.skip)
noncomputable abbrev s59_2 : CC := (CC.seq (CC.region [(wB 18 (doMove (tm 7))), (wB 19 (bin2 fNeq (tm 18) (oN 0))), (wB 20 (doMove (tm 19))), (wG 20 false 21 (doMove (tm 6))), (wG 20 false 22 (doMove (tm 0))), (wG 20 false 23 (doLenS (tm 22))), (wG 20 false 24 (bin2 fEql (tm 21) (tm 23))), (wB 25 (doPick (tm 20) (O.c (V.b Bool.true)) (tm 24)))]) s59_1)
noncomputable abbrev s59_3 : CC := (CC.seq (CC.region [(wB 44 (doMove (tm 5))), (wB 45 (doMove (tm 9))), (wB 46 (doBuild [(V.s 0 0), (V.b Bool.false), (V.s 0 0)] [(Pt.mk 0 1 (tm 44)), (Pt.mk 2 1 (tm 45))])), (wB 47 (doMove (tm 6))), (wB 48 (doMove (tm 10))), (wB 49 (bin2 fAdd (tm 47) (tm 48))), (wB 50 (doMove (tm 11))), (wB 51 (bin2 fEql (tm 50) (oN 0))), (CO.mk G.none D.none Bool.true (CR.mk (doStore 3 (tm 2) (tm 46)))), (wB 3 (doMove (tm 49))), (wB 4 (doMove (tm 51)))]) CC.ret)
noncomputable abbrev s59_4 : CC := (CC.seq (CC.region [(wB 37 (doMove (tm 0))), (wB 38 (doMove (tm 6))), (wB 39 (doSSlice (tm 37) (some (tm 38)) none)), (wB 40 (doCall 60 [(tm 39)])), (wB 36 (doMove (tm 40))), (wB 41 (doExtract 0 (tm 36))), (wB 42 (doExtract 1 (tm 36))), (wB 43 (doExtract 2 (tm 36))), (wB 9 (doMove (tm 41))), (wB 10 (doMove (tm 42))), (wB 11 (doMove (tm 43)))]) s59_3)
noncomputable abbrev s59_5 : CC := (CC.seq (CC.region [(wB 54 (doMove (tm 5))), (wB 55 (doBuild [(V.s 0 0), (V.b Bool.false), (V.s 0 0)] [(Pt.mk 0 1 (tm 54)), (Pt.mk 1 1 (O.c (V.b Bool.true)))])), (wB 56 (doMove (tm 6))), (CO.mk G.none D.none Bool.true (CR.mk (doStore 3 (tm 2) (tm 55)))), (wB 3 (doMove (tm 56))), (wB 4 (doMove (O.c (V.b Bool.true))))]) CC.ret)
noncomputable abbrev s59_6 : CC := (CC.seq (CC.region [(wB 33 (doBuild [(V.s 0 0), (V.b Bool.false), (V.s 0 0)] [])), (CO.mk G.none D.none Bool.true (CR.mk (doStore 3 (tm 2) (tm 33)))), (wB 3 (doMove (oN 0))), (wB 4 (doMove (O.c (V.b Bool.false))))]) CC.ret)
noncomputable abbrev s59_7 : CC := (CC.cond (tm 52) s59_5 s59_6)
noncomputable abbrev s59_8 : CC := (CC.seq (CC.region [(wB 53 (bin2 fEql (tm 32) (O.c (V.i IntKind.u8 (Int.ofNat 1))))), (wB 52 (doMove (tm 53)))]) s59_7)
noncomputable abbrev s59_9 : CC := (CC.cond (tm 34) s59_4 s59_8)
noncomputable abbrev s59_10 : CC := (CC.seq (CC.region [(wB 35 (bin2 fEql (tm 32) (O.c (V.i IntKind.u8 (Int.ofNat 0))))), (wB 34 (doMove (tm 35)))]) s59_9)
noncomputable abbrev s59_11 : CC := (CC.block 0 s59_10)
noncomputable abbrev s59_12 : CC := (CC.seq (CC.region [(wB 32 (doMove (tm 8)))]) s59_11)
noncomputable abbrev s59_13 : CC := (CC.seq (CC.region [(wB 30 (doMove (tm 6))), (wB 31 (bin2 fAdd (tm 30) (oN 1))), (wB 6 (doMove (tm 31)))]) s59_12)
noncomputable abbrev s59_14 : CC := (CC.seq (CC.region [(wB 27 (doMove (tm 0))), (wB 28 (doMove (tm 6))), (wB 29 (doSIndex (tm 27) (tm 28))), (wB 8 (doMove (tm 29)))]) s59_13)
noncomputable abbrev s59_15 : CC := (CC.seq s59_2 s59_14)
noncomputable abbrev s59_16 : CC := (CC.seq (CC.region [(wB 13 (doMove (tm 0))), (wB 14 (doCall 60 [(tm 13)])), (wB 12 (doMove (tm 14))), (wB 15 (doExtract 0 (tm 12))), (wB 16 (doExtract 1 (tm 12))), (wB 17 (doExtract 2 (tm 12))), (wB 5 (doMove (tm 15))), (wB 6 (doMove (tm 16))), (wB 7 (doMove (tm 17)))]) s59_15)
noncomputable abbrev b59 : CC := (CC.seq (CC.region [(wB 2 (doAlloc 39 [(V.s 0 0), (V.b Bool.false), (V.s 0 0)])), (wB 3 (doMove (oN 0))), (wB 4 (doMove (O.c (V.b Bool.false))))]) s59_16)
theorem c59 : compFn Try.prog 59 = ⟨57, b59, [(Rs.cellA (slOf 2) 3), (Rs.tmp (slOf 3)), (Rs.tmp (slOf 4))]⟩ := by kernel_rfl
end Go.Proofs.Ytmlcddeikgechaa

set_option maxRecDepth 1000000
set_option linter.all false
namespace Go.Proofs.Ytmlcddeikgechaa
open Go Go.Ev
noncomputable abbrev s33_0 : CC := (CC.cond (tm 7) CC.skip (CC.exit 0))
noncomputable abbrev s33_1 : CC := (CC.seq (CC.region [(wB 4 (doMove (tm 3))), (wB 5 (doMove (tm 0))), (wB 6 (doLen (tm 5))), (wB 7 (bin2 fLss (tm 4) (tm 6)))]) s33_0)
noncomputable abbrev s33_2 : CC := (CC.seq (CC.region [(wB 2 (doMove (O.c (V.b Bool.false))))]) CC.ret)
noncomputable abbrev s33_3 : CC := (CC.cond (tm 33) s33_2 CC.skip)
noncomputable abbrev s33_4 : CC := (CC.seq (CC.draws [(uB 10 (doMove (tm 0))), (uB 11 (doMove (tm 3))), (uB 12 (doIndexAddr 3 (tm 10) (tm 11))), (wB 13 (doLoadA 3 (tm 12))), (wB 14 (doCall 46 [(tm 13)])), (uB 15 (doNot (tm 14))), (uB 16 (doMove (tm 15))), (uG 16 false 17 (doMove (tm 3))), (uG 16 false 18 (bin2 fGtr (tm 17) (oN 0))), (uG 16 false 19 (doMove (tm 18))), (uG 19 true 20 (doMove (tm 0))), (uG 19 true 21 (doMove (tm 3))), (uG 19 true 22 (doIndexAddr 3 (tm 20) (tm 21))), (uG 19 true 23 (doFieldAddr 0 (tm 22))), (uG 19 true 24 (doLoad (tm 23))), (uG 19 true 25 (doMove (tm 0))), (uG 19 true 26 (doMove (tm 3))), (uG 19 true 27 (bin2 fSub (tm 26) (oN 1))), (uG 19 true 28 (doIndexAddr 3 (tm 25) (tm 27))), (uG 19 true 29 (doFieldAddr 0 (tm 28))), (uG 19 true 30 (doLoad (tm 29))), (uG 19 true 31 (doSCmp (fun a b c d => ltS a b c d || eqS a b c d) (tm 24) (tm 30))), (uG 16 false 32 (doPick (tm 19) (tm 31) (O.c (V.b Bool.false)))), (uB 33 (doPick (tm 16) (O.c (V.b Bool.true)) (tm 32)))] none) s33_3)
noncomputable abbrev s33_5 : CC := (CC.block 1 s33_4)
noncomputable abbrev s33_6 : CC := (CC.region [(wB 8 (doMove (tm 3))), (wB 9 (bin2 fAdd (tm 8) (oN 1))), (wB 3 (doMove (tm 9)))])
noncomputable abbrev s33_7 : CC := (CC.seq s33_5 s33_6)
noncomputable abbrev l33_0 : CC := (CC.seq s33_1 s33_7)
noncomputable abbrev s33_8 : CC := (CC.loop l33_0)
noncomputable abbrev s33_9 : CC := (CC.block 0 s33_8)
noncomputable abbrev s33_10 : CC := (CC.seq (CC.region [(wB 3 (doMove (oN 0)))]) s33_9)
noncomputable abbrev s33_11 : CC := (CC.seq (CC.region [(wB 34 (doMove (tm 0))), (wB 35 (doLen (tm 34))), (wB 36 (bin2 fLeq (tm 35) (oN 8))), (wB 2 (doMove (tm 36)))]) CC.ret)
noncomputable abbrev s33_12 : CC := (CC.seq s33_10 s33_11)
noncomputable abbrev b33 : CC := (CC.seq (CC.region [(wB 2 (doMove (O.c (V.b Bool.false))))]) s33_12)
theorem c33 : compFn Try.prog 33 = ⟨37, b33, [(Rs.tmp (slOf 2))]⟩ := by kernel_rfl
end Go.Proofs.Ytmlcddeikgechaa

set_option maxRecDepth 1000000
set_option linter.all false
namespace Go.Proofs.Ytmlcddeikgechaa
open Go Go.Ev
noncomputable abbrev s47_0 : CC := (CC.cond (tm 9) CC.skip (CC.exit 0))
noncomputable abbrev s47_1 : CC := (CC.region [(wB 18 (doMove (tm 4))), (wB 19 (doMove (tm 3))), (wB 20 (bin2 fAdd (tm 18) (tm 19))), (wB 21 (doRem (tm 20) (O.c (V.i IntKind.u32 (Int.ofNat 65521))))), (wB 4 (doMove (tm 21)))])
noncomputable abbrev s47_2 : CC := (CC.seq (CC.region [(wB 11 (doMove (tm 3))), (wB 12 (doMove (tm 0))), (wB 13 (doMove (tm 5))), (wB 14 (doSIndex (tm 12) (tm 13))), (wB 15 (doConv IntKind.u32 (tm 14))), (wB 16 (bin2 fAdd (tm 11) (tm 15))), (wB 17 (doRem (tm 16) (O.c (V.i IntKind.u32 (Int.ofNat 65521))))), (wB 3 (doMove (tm 17)))]) s47_1)
noncomputable abbrev s47_3 : CC := (CC.seq (CC.region [(wB 10 (doMove (tm 8))), (wB 5 (doMove (tm 10)))]) s47_2)
noncomputable abbrev s47_4 : CC := (CC.block 1 s47_3)
noncomputable abbrev s47_5 : CC := (CC.region [(wB 22 (bin2 fAdd (tm 8) (oN 1))), (wB 8 (doMove (tm 22)))])
noncomputable abbrev s47_6 : CC := (CC.seq s47_4 s47_5)
noncomputable abbrev s47_7 : CC := (CC.seq s47_0 s47_6)
noncomputable abbrev l47_0 : CC := (CC.seq (CC.region [(wB 9 (bin2 fLss (tm 8) (tm 7)))]) s47_7)
noncomputable abbrev s47_8 : CC := (CC.loop l47_0)
noncomputable abbrev s47_9 : CC := (CC.block 0 s47_8)
noncomputable abbrev s47_10 : CC := (CC.seq (CC.region [(wB 6 (doMove (tm 0))), (wB 7 (doLenS (tm 6))), (wB 8 (doMove (oN 0)))]) s47_9)
noncomputable abbrev s47_11 : CC := (CC.seq (CC.region [(wB 23 (doMove (tm 4))), (wB 24 (doShift shlF (tm 23) (O.c (V.i IntKind.u64 (Int.ofNat 16))))), (wB 25 (doMove (tm 3))), (wB 26 (bin2 fOr (tm 24) (tm 25))), (wB 2 (doMove (tm 26)))]) CC.ret)
noncomputable abbrev s47_12 : CC := (CC.seq s47_10 s47_11)
noncomputable abbrev s47_13 : CC := (CC.seq (CC.region [(wB 3 (doMove (O.c (V.i IntKind.u32 (Int.ofNat 1))))), (wB 4 (doMove (O.c (V.i IntKind.u32 (Int.ofNat 0)))))]) s47_12)
noncomputable abbrev b47 : CC := (CC.seq (CC.region [(wB 2 (doMove (O.c (V.i IntKind.u32 (Int.ofNat 0)))))]) s47_13)
theorem c47 : compFn Try.prog 47 = ⟨27, b47, [(Rs.tmp (slOf 2))]⟩ := by kernel_rfl
noncomputable abbrev s35_0 : CC := (CC.seq (CC.region [(wB 6 (doMove (tm 3))), (wB 7 (doShift shrF (tm 6) (O.c (V.i IntKind.u64 (Int.ofNat 24))))), (wB 8 (doConv IntKind.u8 (tm 7))), (wB 9 (doMove (tm 3))), (wB 10 (doShift shrF (tm 9) (O.c (V.i IntKind.u64 (Int.ofNat 16))))), (wB 11 (doConv IntKind.u8 (tm 10))), (wB 12 (doMove (tm 3))), (wB 13 (doShift shrF (tm 12) (O.c (V.i IntKind.u64 (Int.ofNat 8))))), (wB 14 (doConv IntKind.u8 (tm 13))), (wB 15 (doMove (tm 3))), (wB 16 (doConv IntKind.u8 (tm 15))), (wB 17 (doBuildSlice 5 4 [(V.i IntKind.u8 (Int.ofNat 0)), (V.i IntKind.u8 (Int.ofNat 0)), (V.i IntKind.u8 (Int.ofNat 0)), (V.i IntKind.u8 (Int.ofNat 0))] [(Pt.mk 0 1 (tm 8)), (Pt.mk 1 1 (tm 11)), (Pt.mk 2 1 (tm 14)), (Pt.mk 3 1 (tm 16))])), (wB 18 (doB2S (tm 17))), (wB 2 (doMove (tm 18)))]) CC.ret)
noncomputable abbrev s35_1 : CC := (CC.seq (CC.region [(wB 4 (doMove (tm 0))), (wB 5 (doCall 47 [(tm 4)])), (wB 3 (doMove (tm 5)))]) s35_0)
noncomputable abbrev b35 : CC := (CC.seq (CC.region [(wB 2 (doMove (O.c (V.s 0 0))))]) s35_1)
theorem c35 : compFn Try.prog 35 = ⟨19, b35, [(Rs.tmp (slOf 2))]⟩ := by kernel_rfl
noncomputable abbrev s19_0 : CC := (CC.seq (CC.region [(wB 3 (doMove (tm 0))), (wB 4 (doLenS (tm 3))), (wB 5 (doCall 18 [(tm 4)])), (wB 6 (doMove (tm 0))), (wB 7 (doCall 35 [(tm 6)])), (wB 8 (doConcat (tm 5) (tm 7))), (wB 9 (doMove (tm 0))), (wB 10 (doConcat (tm 8) (tm 9))), (wB 2 (doMove (tm 10)))]) CC.ret)
noncomputable abbrev b19 : CC := (CC.seq (CC.region [(wB 2 (doMove (O.c (V.s 0 0))))]) s19_0)
theorem c19 : compFn Try.prog 19 = ⟨11, b19, [(Rs.tmp (slOf 2))]⟩ := by kernel_rfl
noncomputable abbrev s24_0 : CC := (CC.seq (CC.region [(wB 2 (doMove (O.c (V.s 0 0)))), (wB 3 (doMove (oN 0))), (wB 4 (doMove (oN 12)))]) CC.ret)
noncomputable abbrev s24_1 : CC := (CC.seq (CC.region [(wB 2 (doMove (O.c (V.s 0 0)))), (wB 3 (doMove (oN 0))), (wB 4 (doMove (oN 13)))]) CC.ret)
noncomputable abbrev s24_2 : CC := (CC.cond (tm 20) s24_0 s24_1)
noncomputable abbrev s24_3 : CC := (CC.seq (CC.region [(wB 21 (bin2 fEql (tm 17) (oN 12))), (wB 20 (doMove (tm 21)))]) s24_2)
noncomputable abbrev s24_4 : CC := (CC.cond (tm 18) CC.skip s24_3)
noncomputable abbrev s24_5 : CC := (CC.seq (CC.region [(wB 19 (bin2 fEql (tm 17) (oN 0))), (wB 18 (doMove (tm 19)))]) s24_4)
noncomputable abbrev s24_6 : CC := (CC.block 0 s24_5)
noncomputable abbrev s24_7 : CC := (CC.seq (CC.region [(wB 17 (doMove (tm 7)))]) s24_6)
noncomputable abbrev s24_8 : CC := (CC.seq (CC.region [(wB 2 (doMove (O.c (V.s 0 0)))), (wB 3 (doMove (oN 0))), (wB 4 (doMove (oN 12)))]) CC.ret)
noncomputable abbrev s24_9 : CC := (CC.cond (tm 29) s24_8 CC.skip)
noncomputable abbrev s24_10 : CC := (CC.seq (CC.region [(wB 25 (doMove (tm 5))), (wB 26 (doMove (tm 8))), (wB 27 (doLenS (tm 26))), (wB 28 (bin2 fSub (tm 27) (oN 4))), (wB 29 (bin2 fGtr (tm 25) (tm 28)))]) s24_9)
noncomputable abbrev s24_11 : CC := (CC.seq (CC.region [(wB 2 (doMove (O.c (V.s 0 0)))), (wB 3 (doMove (oN 0))), (wB 4 (doMove (oN 13)))]) CC.ret)
noncomputable abbrev s24_12 : CC := (CC.cond (tm 39) s24_11 CC.skip)
noncomputable abbrev s24_13 : CC := (CC.seq (CC.region [(wB 36 (doMove (tm 9))), (wB 37 (doMove (tm 10))), (wB 38 (doCall 35 [(tm 37)])), (wB 39 (doSCmp (fun a b c d => !eqS a b c d) (tm 36) (tm 38)))]) s24_12)
noncomputable abbrev s24_14 : CC := (CC.seq (CC.region [(wB 40 (doMove (tm 10))), (wB 41 (doMove (tm 6))), (wB 42 (bin2 fAdd (tm 41) (oN 4))), (wB 43 (doMove (tm 5))), (wB 44 (bin2 fAdd (tm 42) (tm 43))), (wB 2 (doMove (tm 40))), (wB 3 (doMove (tm 44))), (wB 4 (doMove (oN 0)))]) CC.ret)
noncomputable abbrev s24_15 : CC := (CC.seq s24_13 s24_14)
noncomputable abbrev s24_16 : CC := (CC.seq (CC.draws [(uB 30 (doMove (tm 8))), (uB 31 (doSSlice (tm 30) none (some (oN 4)))), (uB 32 (doMove (tm 8))), (uB 33 (doMove (tm 5))), (uB 34 (bin2 fAdd (oN 4) (tm 33))), (uB 35 (doSSlice (tm 32) (some (oN 4)) (some (tm 34)))), (uB 9 (doMove (tm 31))), (uB 10 (doMove (tm 35)))] none) s24_15)
noncomputable abbrev s24_17 : CC := (CC.seq s24_10 s24_16)
noncomputable abbrev s24_18 : CC := (CC.seq (CC.region [(wB 22 (doMove (tm 0))), (wB 23 (doMove (tm 6))), (wB 24 (doSSlice (tm 22) (some (tm 23)) none)), (wB 8 (doMove (tm 24)))]) s24_17)
noncomputable abbrev s24_19 : CC := (CC.seq s24_7 s24_18)
noncomputable abbrev s24_20 : CC := (CC.seq (CC.region [(wB 12 (doMove (tm 0))), (wB 13 (doCall 41 [(tm 12)])), (wB 11 (doMove (tm 13))), (wB 14 (doExtract 0 (tm 11))), (wB 15 (doExtract 1 (tm 11))), (wB 16 (doExtract 2 (tm 11))), (wB 5 (doMove (tm 14))), (wB 6 (doMove (tm 15))), (wB 7 (doMove (tm 16)))]) s24_19)
noncomputable abbrev b24 : CC := (CC.seq (CC.region [(wB 2 (doMove (O.c (V.s 0 0)))), (wB 3 (doMove (oN 0))), (wB 4 (doMove (oN 0)))]) s24_20)
theorem c24 : compFn Try.prog 24 = ⟨45, b24, [(Rs.tmp (slOf 2)), (Rs.tmp (slOf 3)), (Rs.tmp (slOf 4))]⟩ := by kernel_rfl
noncomputable abbrev s38_0 : CC := (CC.seq (CC.region [(wB 3 (doMove (tm 0))), (wB 4 (doShift shrF (tm 3) (O.c (V.i IntKind.u64 (Int.ofNat 24))))), (wB 5 (doConv IntKind.u8 (tm 4))), (wB 6 (doMove (tm 0))), (wB 7 (doShift shrF (tm 6) (O.c (V.i IntKind.u64 (Int.ofNat 16))))), (wB 8 (doConv IntKind.u8 (tm 7))), (wB 9 (doMove (tm 0))), (wB 10 (doShift shrF (tm 9) (O.c (V.i IntKind.u64 (Int.ofNat 8))))), (wB 11 (doConv IntKind.u8 (tm 10))), (wB 12 (doMove (tm 0))), (wB 13 (doConv IntKind.u8 (tm 12))), (wB 14 (doBuildSlice 5 4 [(V.i IntKind.u8 (Int.ofNat 0)), (V.i IntKind.u8 (Int.ofNat 0)), (V.i IntKind.u8 (Int.ofNat 0)), (V.i IntKind.u8 (Int.ofNat 0))] [(Pt.mk 0 1 (tm 5)), (Pt.mk 1 1 (tm 8)), (Pt.mk 2 1 (tm 11)), (Pt.mk 3 1 (tm 13))])), (wB 15 (doB2S (tm 14))), (wB 2 (doMove (tm 15)))]) CC.ret)
noncomputable abbrev b38 : CC := (CC.seq (CC.region [(wB 2 (doMove (O.c (V.s 0 0))))]) s38_0)
theorem c38 : compFn Try.prog 38 = ⟨16, b38, [(Rs.tmp (slOf 2))]⟩ := by kernel_rfl
end Go.Proofs.Ytmlcddeikgechaa

set_option maxRecDepth 100000
set_option maxHeartbeats 8000000
set_option linter.all false
namespace Go.Proofs.Ytmlcddeikgechaa
open Go Go.Ev
theorem sum_ok {h : H} {l : List UInt8} (hl : l.length ≤ 1000000) : FnOk Try.prog 47 [sv l] h fun y h' => y = .i .u32 (sumB l : Int) ∧ h' = h := by
  refine fn_go c47 (by intro hb; cases hb) (by simp) (by simp) fun Q hQ => ?_
  simp only [slotsF, Nat.reduceAdd]
  repeat' (first
    | refine St.h ?_
    | simp (disch := first | omega | (simp only [lnv]; omega)) only [wlk, ↓get_put', ↓reduceIte, seval]
    | (with_reducible (first | apply cd_split | apply gd_split)) <;> (intro hc; (try simp only [hcn] at hc); (try simp only [hc]); (try simp only [hcl] at hc); try omega))
  refine Ok.lp (fun m t g => ∃ i : Nat, i ≤ l.length ∧ m = l.length - i ∧ g = h ∧ get 0 t = sv l ∧ get 3 t = .i .u32 ((adl (l.take i)).1 : Int) ∧ get 4 t = .i .u32 ((adl (l.take i)).2 : Int) ∧ get 7 t = .i .i64 (l.length : Int) ∧ get 8 t = .i .i64 (i : Int)) l.length ?_ ?_
  · simp (disch := first | omega | (simp only [lnv]; omega)) only [wlk, ↓get_put', ↓reduceIte, seval]
    exact ⟨0, by omega, rfl, trivial, trivial, rfl, rfl, trivial, rfl⟩
  rintro I hI m t g ⟨i, hi, rfl, rfl, f0, f3, f4, f7, f8⟩
  have hci := (l.getD i 0).toNat_lt
  have ⟨b1, b2⟩ := adl_lt (l.take i)
  repeat' (first
    | refine St.h ?_
    | simp (disch := first | omega | (simp only [lnv]; omega)) only [wlk, ↓get_put', ↓reduceIte, seval, f0, f3, f4, f7, f8]
    | (with_reducible (first | apply cd_split | apply gd_split)) <;> (intro hc; (try simp only [hcn] at hc); (try simp only [hc]); (try simp only [hcl] at hc); try omega))
  · have e := adl_take (l := l) (i := i) (by omega)
    refine lp_next hI (l.length - (i + 1)) (by omega) ⟨i + 1, by omega, rfl, rfl, ?_, ?_, ?_, ?_, ?_⟩
    · simp (disch := first | omega | (simp only [lnv]; omega)) only [wlk, ↓get_put', ↓reduceIte, seval, f0]
    · simp (disch := first | omega | (simp only [lnv]; omega)) only [wlk, ↓get_put', ↓reduceIte, seval, e, adlStep]; rfl
    · simp (disch := first | omega | (simp only [lnv]; omega)) only [wlk, ↓get_put', ↓reduceIte, seval, e, adlStep]; rfl
    · simp (disch := first | omega | (simp only [lnv]; omega)) only [wlk, ↓get_put', ↓reduceIte, seval, f7]
    · simp (disch := first | omega | (simp only [lnv]; omega)) only [wlk, ↓get_put', ↓reduceIte, seval]; rfl
  · obtain rfl : i = l.length := by omega
    rw [List.take_length] at *
    have e : (((adl l).2 : Int) * 65536).toNat ||| (adl l).1 = sumB l := by
      rw [show (((adl l).2 : Int) * 65536).toNat = 2 ^ 16 * (adl l).2 by omega, ← Nat.two_pow_add_eq_or_of_lt (by omega)]
      unfold sumB; omega
    subst hQ
    simp (disch := first | omega | (simp only [lnv]; omega)) only [wlk, ↓get_put', ↓reduceIte, seval, e]
theorem fourB_cells {n : Nat} (h : n < 4294967296) : ([V.i .u8 ((n / 16777216 : Nat) : Int), V.i .u8 ((n / 65536 % 256 : Nat) : Int), V.i .u8 ((n / 256 % 256 : Nat) : Int), V.i .u8 ((n % 256 : Nat) : Int)] : List V) = (fourB n).map bv := by
  have e1 : n / 16777216 = n / 16777216 % 256 := by omega
  rw [e1]
  simp only [bv_ofNat]
  unfold fourB
  simp [u8_mod]
theorem four_ok {h : H} {n : Nat} (hn : n < 4294967296) (hf : B.val h.floor ≤ B.val h.next) : FnOk Try.prog 38 [.i .u32 (n : Int)] h fun y h' => y = sv (fourB n) ∧ Stay nowhere h h' := by
  refine fn_go c38 (by intro hb; cases hb) (by simp) (by simp) fun Q hQ => ?_
  simp only [slotsF, Nat.reduceAdd]
  repeat' (first
    | refine St.h ?_
    | simp (disch := first | omega | (simp only [lnv]; omega)) only [wlk, ↓get_put', ↓reduceIte, seval, wrap_u8m]
    | (with_reducible (first | apply cd_split | apply gd_split)) <;> (intro hc; (try simp only [hcn] at hc); (try simp only [hc]); (try simp only [hcl] at hc); try omega))
  refine AL.str (bs := fourB n) (fourB_cells hn) (by simp [fourB]) rfl rfl (by simp [fourB]) hf fun h' u s1 => ?_
  repeat' (first
    | refine St.h ?_
    | simp (disch := first | omega | (simp only [lnv]; omega)) only [wlk, ↓get_put', ↓reduceIte, seval]
    | (with_reducible (first | apply cd_split | apply gd_split)) <;> (intro hc; (try simp only [hcn] at hc); (try simp only [hc]); (try simp only [hcl] at hc); try omega))
  subst hQ
  exact ⟨rfl, s1⟩
theorem sumBytes_ok {h : H} {l : List UInt8} (hl : l.length ≤ 1000000) (hf : B.val h.floor ≤ B.val h.next) : FnOk Try.prog 35 [sv l] h fun y h' => y = sv (fourB (sumB l)) ∧ Stay nowhere h h' := by
  refine fn_go c35 (by intro hb; cases hb) (by simp) (by simp) fun Q hQ => ?_
  simp only [slotsF, Nat.reduceAdd]
  have hn := sumB_lt l
  repeat' (first
    | refine St.h ?_
    | simp (disch := first | omega | (simp only [lnv]; omega)) only [wlk, ↓get_put', ↓reduceIte, seval]
    | (with_reducible (first | apply cd_split | apply gd_split)) <;> (intro hc; (try simp only [hcn] at hc); (try simp only [hc]); (try simp only [hcl] at hc); try omega))
  refine CL.pure (sum_ok hl) ?_
  repeat' (first
    | refine St.h ?_
    | simp (disch := first | omega | (simp only [lnv]; omega)) only [wlk, ↓get_put', ↓reduceIte, seval, wrap_u8m]
    | (with_reducible (first | apply cd_split | apply gd_split)) <;> (intro hc; (try simp only [hcn] at hc); (try simp only [hc]); (try simp only [hcl] at hc); try omega))
  refine AL.str (bs := fourB (sumB l)) (fourB_cells hn) (by simp [fourB]) rfl rfl (by simp [fourB]) hf fun h' u s1 => ?_
  repeat' (first
    | refine St.h ?_
    | simp (disch := first | omega | (simp only [lnv]; omega)) only [wlk, ↓get_put', ↓reduceIte, seval]
    | (with_reducible (first | apply cd_split | apply gd_split)) <;> (intro hc; (try simp only [hcn] at hc); (try simp only [hc]); (try simp only [hcl] at hc); try omega))
  subst hQ
  exact ⟨rfl, s1⟩
theorem seal_ok {h : H} {l : List UInt8} (hl : l.length ≤ 1000000) (hf : B.val h.floor ≤ B.val h.next) : FnOk Try.prog 19 [sv l] h fun y h' => y = sv (sealB l) ∧ Stay nowhere h h' := by
  refine fn_go c19 (by intro hb; cases hb) (by simp) (by simp) fun Q hQ => ?_
  simp only [slotsF, Nat.reduceAdd]
  have h9 := numB_len (n := l.length) (by omega)
  have h4 := fourB_len (sumB l)
  repeat' (first
    | refine St.h ?_
    | simp (disch := first | omega | (simp only [lnv]; omega)) only [wlk, ↓get_put', ↓reduceIte, seval]
    | (with_reducible (first | apply cd_split | apply gd_split)) <;> (intro hc; (try simp only [hcn] at hc); (try simp only [hc]); (try simp only [hcl] at hc); try omega))
  refine CL.stay (num_ok (by omega) hf) fun h1 s1 => ?_
  repeat' (first
    | refine St.h ?_
    | simp (disch := first | omega | (simp only [lnv]; omega)) only [wlk, ↓get_put', ↓reduceIte, seval]
    | (with_reducible (first | apply cd_split | apply gd_split)) <;> (intro hc; (try simp only [hcn] at hc); (try simp only [hc]); (try simp only [hcl] at hc); try omega))
  refine CL.stay (sumBytes_ok hl (s1.fl hf)) fun h2 s2 => ?_
  repeat' (first
    | refine St.h ?_
    | simp (disch := first | omega | (simp only [lnv]; omega)) only [wlk, ↓get_put', ↓reduceIte, seval]
    | (with_reducible (first | apply cd_split | apply gd_split)) <;> (intro hc; (try simp only [hcn] at hc); (try simp only [hc]); (try simp only [hcl] at hc); try omega))
  subst hQ
  exact ⟨rfl, s1.trans s2⟩
/-- what Open tells, as a value -/
def opn (l : List UInt8) : V := .tu [sv (openB l).1, .i .i64 (openB l).2.1, .i .i64 (openB l).2.2]
theorem open_ok {h : H} {l : List UInt8} (hl : l.length ≤ 1000000) (hf : B.val h.floor ≤ B.val h.next) : FnOk Try.prog 24 [sv l] h fun y h' => y = opn l ∧ Stay nowhere h h' := by
  refine fn_go c24 (by intro hb; cases hb) (by simp) (by simp) fun Q hQ => ?_
  simp only [slotsF, Nat.reduceAdd]
  repeat' (first
    | refine St.h ?_
    | simp (disch := first | omega | (simp only [lnv]; omega)) only [wlk, ↓get_put', ↓reduceIte, seval]
    | (with_reducible (first | apply cd_split | apply gd_split)) <;> (intro hc; (try simp only [hcn] at hc); (try simp only [hc]); (try simp only [hcl] at hc); try omega))
  refine CL.pure (takeNum_ok hl) ?_
  rcases takeN_range l with (hc | hc) | ⟨n, k, hc, h1, h2, h3, h4⟩
  · have e : openB l = ([], 0, 13) := by unfold openB; rw [hc]; rfl
    rw [hc]; unfold tri
    repeat' (first
      | refine St.h ?_
      | simp (disch := first | omega | (simp only [lnv]; omega)) only [wlk, ↓get_put', ↓reduceIte, seval]
      | (with_reducible (first | apply cd_split | apply gd_split)) <;> (intro hc; (try simp only [hcn] at hc); (try simp only [hc]); (try simp only [hcl] at hc); try omega))
    subst hQ
    exact ⟨by unfold opn; rw [e], Stay.refl _ _⟩
  · have e : openB l = ([], 0, 12) := by unfold openB; rw [hc]; rfl
    rw [hc]; unfold tri
    repeat' (first
      | refine St.h ?_
      | simp (disch := first | omega | (simp only [lnv]; omega)) only [wlk, ↓get_put', ↓reduceIte, seval]
      | (with_reducible (first | apply cd_split | apply gd_split)) <;> (intro hc; (try simp only [hcn] at hc); (try simp only [hc]); (try simp only [hcl] at hc); try omega))
    subst hQ
    exact ⟨by unfold opn; rw [e], Stay.refl _ _⟩
  have e := openB_num hc
  rw [hc]; unfold tri
  have hd : (l.drop k).length = l.length - k := List.length_drop
  repeat' (first
    | refine St.h ?_
    | simp (disch := first | omega | (simp only [lnv]; omega)) only [wlk, ↓get_put', ↓reduceIte, seval, Int.toNat_natCast]
    | (with_reducible (first | apply cd_split | apply gd_split)) <;> (intro hc; (try simp only [hcn] at hc); (try simp only [hc]); (try simp only [hcl] at hc); try omega))
  · rw [if_pos (by omega)] at e
    subst hQ
    exact ⟨by unfold opn; rw [e], Stay.refl _ _⟩
  rw [if_neg (by omega)] at e
  have ht : ((l.drop k).take (4 + (n : Int)).toNat).drop 4 = (l.drop (k + 4)).take n := by
    rw [show (4 + (n : Int)).toNat = 4 + n by omega, List.drop_take, List.drop_drop]
    congr 1; omega
  rw [ht]
  have htl : ((l.drop (k + 4)).take n).length ≤ 1000000 := by rw [List.length_take, List.length_drop]; omega
  refine CL.stay (sumBytes_ok htl hf) fun h1' s1 => ?_
  repeat' (first
    | refine St.h ?_
    | simp (disch := first | omega | (simp only [lnv]; omega)) only [wlk, ↓get_put', ↓reduceIte, seval]
    | (with_reducible (first | apply cd_split | apply gd_split)) <;> (intro hc; (try simp only [hcn] at hc); (try simp only [hc]); (try simp only [hcl] at hc); try omega))
  all_goals subst hQ
  · rw [if_pos (fun e' => hc e'.symm)] at e
    exact ⟨by unfold opn; rw [e], s1⟩
  · rw [if_neg (by intro e'; exact e' hc.symm)] at e
    exact ⟨by unfold opn; rw [e], s1⟩
end Go.Proofs.Ytmlcddeikgechaa

set_option maxRecDepth 100000
set_option maxHeartbeats 8000000
set_option linter.all false
namespace Go.Proofs.Ytmlcddeikgechaa
open Go Go.Ev
theorem ris12_ok {h : H} {v : V} {L : List Wri} (hL : Ws h v L) (hl : L.length ≤ 10000) (hf : B.val h.floor ≤ B.val h.next) : FnOk Try.prog 33 [v] h fun y h' => y = .b (isB L) ∧ Stay nowhere h h' := by
  refine fn_go c33 (by intro hb; cases hb) (by simp) (by simp) fun Q hQ => ?_
  simp only [slotsF, Nat.reduceAdd]
  repeat' (first
    | refine St.h ?_
    | simp (disch := first | omega | (simp only [lnv]; omega)) only [wlk, ↓get_put', ↓reduceIte, seval]
    | (with_reducible (first | apply cd_split | apply gd_split)) <;> (intro hc; (try simp only [hcn] at hc); (try simp only [hc]); (try simp only [hcl] at hc); try omega))
  refine Ok.lp (fun m t g => ∃ j : Nat, m = L.length - j ∧ j ≤ L.length ∧ Stay nowhere h g ∧ upU L j = true ∧ get 0 t = v ∧ get 3 t = .i .i64 (j : Int)) L.length ?_ ?_
  · simp (disch := first | omega | (simp only [lnv]; omega)) only [wlk, ↓get_put', ↓reduceIte, seval]
    exact ⟨0, by omega, by omega, Stay.refl _ _, rfl, trivial, rfl⟩
  rintro I hI m t g ⟨j, rfl, hj, st, hs, f0, f3⟩
  have hLg := hL.grow st
  have hfg := st.fl hf
  by_cases hjl : j < L.length
  case neg =>
    obtain rfl : j = L.length := by omega
    have hr : ∀ q : Bool, q = decide (L.length ≤ 8) → q = isB L := fun q hq => by unfold isB; rw [hs, Bool.true_and]; exact hq
    repeat' (first
      | refine St.h ?_
      | simp (disch := first | omega | (simp only [lnv]; omega)) only [wlk, ↓get_put', ↓reduceIte, seval, f0, f3, hLg.ln]
      | (with_reducible (first | apply cd_split | apply gd_split)) <;> (intro hc; (try simp only [hcn] at hc); (try simp only [hc]); (try simp only [hcl] at hc); try omega))
    subst hQ
    exact ⟨congrArg V.b (hr _ (by apply decide_eq_decide.2; omega)), st⟩
  have ej : ((j : Int) - 1).toNat = j - 1 := by omega
  repeat' (first
    | refine St.h ?_
    | simp (disch := first | omega | (simp only [lnv]; omega)) only [wlk, ↓get_put', ↓reduceIte, seval, f0, f3, hLg.ln, hLg.ix, hLg.la, Int.toNat_natCast]
    | (with_reducible (first | apply cd_split | apply gd_split)) <;> (intro hc; (try simp only [hcn] at hc); (try simp only [hc]); (try simp only [hcl] at hc); try omega))
  refine CL.stay (risWrite_ok hfg) fun h1 s1 => ?_
  have hL1 := hLg.grow s1
  have st1 := st.trans s1
  cases hw : isW (L.getD j default).key (L.getD j default).del (L.getD j default).val with
  | false =>
    have hn : isB L = false := upU_no hjl (by unfold upA isR; rw [hw]; rfl)
    repeat' (first
      | refine St.h ?_
      | simp (disch := first | omega | (simp only [lnv]; omega)) only [wlk, ↓get_put', ↓reduceIte, seval, f0, f3]
      | (with_reducible (first | apply cd_split | apply gd_split)) <;> (intro hc; (try simp only [hcn] at hc); (try simp only [hc]); (try simp only [hcl] at hc); try omega))
    subst hQ
    exact ⟨by rw [hn], st1⟩
  | true =>
  by_cases h0 : j = 0
  · have hu : upA L j = true := by unfold upA isR; rw [hw, decide_eq_true h0]; rfl
    have hz : ¬ (0 : Int) < (j : Int) := by omega
    repeat' (first
      | refine St.h ?_
      | simp (disch := first | omega | (simp only [lnv]; omega)) only [wlk, ↓get_put', ↓reduceIte, seval, f0, f3, hz]
      | (with_reducible (first | apply cd_split | apply gd_split)) <;> (intro hc; (try simp only [hcn] at hc); (try simp only [hc]); (try simp only [hcl] at hc); try omega))
    refine lp_next hI (L.length - (j + 1)) (by omega) ⟨j + 1, rfl, by omega, st1, by rw [upU_succ, hs, hu]; rfl, ?_, ?_⟩
    · simp (disch := first | omega | (simp only [lnv]; omega)) only [wlk, ↓get_put', ↓reduceIte, seval, f0]
    · simp (disch := first | omega | (simp only [lnv]; omega)) only [wlk, ↓get_put', ↓reduceIte, seval]; rfl
  · have ek : (j : Int) - 1 = ((j - 1 : Nat) : Int) := by omega
    have hz : ((0 : Int) < (j : Int)) = True := eq_true (by omega)
    have hu : upA L j = Op.bytesLess (L.getD (j - 1) default).key (L.getD j default).key := by unfold upA isR; rw [hw, decide_eq_false h0]; rfl
    have hle : (Op.bytesLess (L.getD j default).key (L.getD (j - 1) default).key || decide ((L.getD j default).key = (L.getD (j - 1) default).key)) = !Op.bytesLess (L.getD (j - 1) default).key (L.getD j default).key := by
      by_cases e : (L.getD j default).key = (L.getD (j - 1) default).key
      · rw [e, bl_irr]; simp
      · rw [decide_eq_false e, Bool.or_false]
        rcases bl_total e with h3 | h3
        · rw [h3, bl_asym h3]; rfl
        · rw [h3, bl_asym h3]; rfl
    cases hb : Op.bytesLess (L.getD (j - 1) default).key (L.getD j default).key with
    | false =>
      rw [hb] at hu hle
      have hn : isB L = false := upU_no hjl hu
      repeat' (first
        | refine St.h ?_
        | simp (disch := first | omega | (simp only [lnv]; omega)) only [wlk, ↓get_put', ↓reduceIte, seval, f0, f3, hz, hL1.ln, hL1.ix, hL1.l0, ek, hle, Int.toNat_natCast]
        | (with_reducible (first | apply cd_split | apply gd_split)) <;> (intro hc; (try simp only [hcn] at hc); (try simp only [hc]); (try simp only [hcl] at hc); try omega))
      subst hQ
      exact ⟨by rw [hn], st1⟩
    | true =>
      rw [hb] at hu hle
      repeat' (first
        | refine St.h ?_
        | simp (disch := first | omega | (simp only [lnv]; omega)) only [wlk, ↓get_put', ↓reduceIte, seval, f0, f3, hz, hL1.ln, hL1.ix, hL1.l0, ek, hle, Int.toNat_natCast]
        | (with_reducible (first | apply cd_split | apply gd_split)) <;> (intro hc; (try simp only [hcn] at hc); (try simp only [hc]); (try simp only [hcl] at hc); try omega))
      refine lp_next hI (L.length - (j + 1)) (by omega) ⟨j + 1, rfl, by omega, st1, by rw [upU_succ, hs, hu]; rfl, ?_, ?_⟩
      · simp (disch := first | omega | (simp only [lnv]; omega)) only [wlk, ↓get_put', ↓reduceIte, seval, f0]
      · simp (disch := first | omega | (simp only [lnv]; omega)) only [wlk, ↓get_put', ↓reduceIte, seval]; rfl
theorem fm_wri (L : List Wri) : (L.flatMap wriC).length = L.length * 3 := fm_len wriC_len L
/-- append(u, x) of a write -/
theorem push_w {h : H} {u : V} {M : List Wri} {x : Wri} {id : B} {N : Nx} (b : Buf h 39 3 u (M.flatMap wriC)) (o : Ev.Own h id (wriC x)) (hl : M.length ≤ 100000) (hf : B.val h.floor ≤ B.val h.next)
    (k : ∀ u' h', Buf h' 39 3 u' ((M ++ [x]).flatMap wriC) → Stay (isOf u) h h' → (∀ i, isOf u' i → isOf u i ∨ B.val h.next ≤ B.val i) → N.go Try.prog u' h') : AP Try.prog 39 3 u (.l id 0 0 1 3 (some 1)) h N := by
  refine AP.buf (vs := wriC x) (cnt := 1) b (new_row o.row rfl (Nat.le_refl _) (by omega) (by show 3 ≤ 3; omega)) hf (by omega) rfl rfl (by rw [fm_wri]; show M.length * 3 + 3 ≤ 1048576; omega) fun u' h' b' s' hu _ => ?_
  refine k u' h' ?_ s' hu
  rw [List.flatMap_append]; simpa using b'
end Go.Proofs.Ytmlcddeikgechaa

set_option maxRecDepth 100000
set_option maxHeartbeats 8000000
set_option linter.all false
namespace Go.Proofs.Ytmlcddeikgechaa
open Go Go.Ev
theorem textB_len (l : List UInt8) (h : l.length ≤ 9223372036854775807) : (textB l).length ≤ l.length + 9 := by
  unfold textB; rw [List.length_append]; have := numB_len h; omega
end Go.Proofs.Ytmlcddeikgechaa

set_option maxRecDepth 100000
set_option maxHeartbeats 8000000
set_option linter.all false
namespace Go.Proofs.Ytmlcddeikgechaa
open Go Go.Ev
theorem rowsB_take {L : List Wri} {j : Nat} (hj : j < L.length) : numB L.length ++ (L.take (j + 1)).flatMap oneB = numB L.length ++ (L.take j).flatMap oneB ++ oneB (L.getD j default) := by
  rw [take_wri hj, List.flatMap_append]; simp
theorem oneB_len {w : Wri} (h : isR w = true) : (oneB w).length ≤ 60 := by
  have hr := isR_len h
  have l1 := textB_len w.key (by omega)
  have l2 := textB_len w.val (by omega)
  unfold oneB
  rw [List.length_append]
  split
  · simp; omega
  · rw [List.length_cons]; omega
theorem rows_len {L : List Wri} (hB : isB L = true) : ∀ {j : Nat}, j ≤ L.length → ((L.take j).flatMap oneB).length ≤ 60 * j
  | 0, _ => by simp
  | j + 1, hj => by
    have h1 := rows_len hB (j := j) (by omega)
    have h2 := oneB_len (upA_is (isB_up hB (j := j) (by omega)))
    rw [take_wri (by omega), List.flatMap_append, List.length_append, List.flatMap_cons, List.flatMap_nil, List.append_nil]
    omega
theorem rowsB_len {L : List Wri} (hB : isB L = true) : (rowsB L).length ≤ 500 := by
  have hl := isB_len hB
  have h1 := rows_len hB (Nat.le_refl _)
  have ln := numB_len (n := L.length) (by omega)
  rw [List.take_length] at h1
  unfold rowsB; rw [List.length_append]; omega
end Go.Proofs.Ytmlcddeikgechaa

set_option maxRecDepth 100000
set_option maxHeartbeats 8000000
set_option linter.all false
namespace Go.Proofs.Ytmlcddeikgechaa
open Go Go.Ev
def rdV (u : V) (r : Int × List Wri × Int × Int) : V := .tu [.i .i64 r.1, u, .i .i64 r.2.2.1, .i .i64 r.2.2.2]
theorem readR_num {s b : List UInt8} {n : Nat} (e : openB s = (b, (n : Int), 0)) (h : (takeN b).2.2 ≠ 0) : readR s = (0, [], 0, 10) := by
  unfold readR
  rw [e]
  show (if (0 : Int) ≠ 0 then _ else if (takeN b).2.2 ≠ 0 then _ else _ : Int × List Wri × Int × Int) = _
  rw [if_neg (by omega), if_pos h]
theorem readR_eq {s b : List UInt8} {n q k : Nat} (e : openB s = (b, (n : Int), 0)) (e1 : takeN b = ((q : Int), (k : Int), 0)) : readR s = match takeR (b.drop k) with
    | none => (0, [], 0, 10)
    | some l => if (bytB q l).2 = 0 ∧ (bytB q l).1 = s.take n then ((q : Int), l, (n : Int), 0) else (0, [], 0, 10) := by
  unfold readR
  rw [e]
  show (if (0 : Int) ≠ 0 then _ else if (takeN b).2.2 ≠ 0 then _ else _ : Int × List Wri × Int × Int) = _
  rw [if_neg (by omega), e1]
  show (if (0 : Int) ≠ 0 then _ else _ : Int × List Wri × Int × Int) = _
  rw [if_neg (by omega)]; rfl
theorem bytB_ok {q : Int} {l : List Wri} (h : (bytB q l).2 = 0) : okB12 q l = true ∧ (bytB q l).1 = batB q l := by
  unfold bytB at h ⊢
  cases ho : okB12 q l with
  | false => rw [ho] at h; simp at h
  | true => exact ⟨rfl, rfl⟩
end Go.Proofs.Ytmlcddeikgechaa

set_option linter.all false
namespace Go.Proofs.Ytmlcddeikgechaa
open Go Go.Ev
theorem isB_all {L : List Wri} (h : isB L = true) : ∀ w ∈ L, isR w = true := fun w hw => by
  obtain ⟨i, hi, rfl⟩ := List.getElem_of_mem hw
  have := upA_is (isB_up h hi)
  rwa [show L.getD i default = L[i] by simp [List.getD, hi]] at this
theorem takeWs_rows : ∀ {L : List Wri} (more : List UInt8), (∀ w ∈ L, isR w = true) → takeWs L.length (L.flatMap oneB ++ more) = some (L, more)
  | [], _, _ => rfl
  | w :: L, more, h => by
    have hr := isR_len (h w (by simp))
    have ih := takeWs_rows (L := L) more fun x hx => h x (List.mem_cons_of_mem _ hx)
    have e1 : (w :: L).flatMap oneB ++ more = textB w.key ++ ((if w.del then [1] else 0 :: textB w.val) ++ (L.flatMap oneB ++ more)) := by
      rw [List.flatMap_cons]; unfold oneB; simp
    have hk : takeT (textB w.key ++ ((if w.del then [1] else 0 :: textB w.val) ++ (L.flatMap oneB ++ more))) = (w.key, ((textB w.key).length : Int), 0) := takeT_textB (by omega)
    rw [e1, List.length_cons]
    unfold takeWs
    rw [hk]
    have en : ((textB w.key).length : Int).toNat = (textB w.key).length := by omega
    have hd1 : ∀ X : List UInt8, (textB w.key ++ X).drop ((textB w.key).length + 1) = X.drop 1 := fun X => by
      rw [← List.drop_drop, List.drop_left]
    have hg : ∀ (c : UInt8) (X : List UInt8), (textB w.key ++ c :: X).getD (textB w.key).length 0 = c := fun c X => by simp [List.getD]
    cases hdel : w.del with
    | true =>
      have hv := hr.2.2.2 hdel
      show (if (0 : Int) ≠ 0 ∨ ((textB w.key).length : Int) = (((textB w.key ++ ([1] ++ (L.flatMap oneB ++ more))).length : Nat) : Int) then none else _) = _
      rw [if_neg (by rw [List.length_append]; simp; omega), en]
      show (if (textB w.key ++ 1 :: (L.flatMap oneB ++ more)).getD (textB w.key).length 0 = 1 then _ else _) = _
      rw [hg, if_pos rfl]
      show Option.map _ (takeWs L.length ((textB w.key ++ 1 :: (L.flatMap oneB ++ more)).drop ((textB w.key).length + 1))) = _
      rw [hd1]
      show Option.map _ (takeWs L.length (L.flatMap oneB ++ more)) = _
      rw [ih]
      show some ((⟨w.key, true, []⟩ : Wri) :: L, more) = _
      rw [← hdel, ← hv]
    | false =>
      show (if (0 : Int) ≠ 0 ∨ ((textB w.key).length : Int) = (((textB w.key ++ (0 :: textB w.val ++ (L.flatMap oneB ++ more))).length : Nat) : Int) then none else _) = _
      rw [if_neg (by rw [List.length_append]; simp; omega), en]
      show (if (textB w.key ++ 0 :: (textB w.val ++ (L.flatMap oneB ++ more))).getD (textB w.key).length 0 = 1 then _ else _) = _
      rw [hg, if_neg (by decide)]
      have ev : (textB w.key ++ 0 :: (textB w.val ++ (L.flatMap oneB ++ more))).drop ((textB w.key).length + 1) = textB w.val ++ (L.flatMap oneB ++ more) := by rw [hd1]; rfl
      show (if (takeT ((textB w.key ++ 0 :: (textB w.val ++ (L.flatMap oneB ++ more))).drop ((textB w.key).length + 1))).2.2 ≠ 0 then none else Option.map (fun r => ((⟨w.key, false, (takeT ((textB w.key ++ 0 :: (textB w.val ++ (L.flatMap oneB ++ more))).drop ((textB w.key).length + 1))).1⟩ : Wri) :: r.1, r.2)) (takeWs L.length (((textB w.key ++ 0 :: (textB w.val ++ (L.flatMap oneB ++ more))).drop ((textB w.key).length + 1)).drop (takeT ((textB w.key ++ 0 :: (textB w.val ++ (L.flatMap oneB ++ more))).drop ((textB w.key).length + 1))).2.1.toNat))) = _
      rw [ev, takeT_textB (by omega)]
      show (if (0 : Int) ≠ 0 then none else Option.map _ (takeWs L.length ((textB w.val ++ (L.flatMap oneB ++ more)).drop ((textB w.val).length : Int).toNat))) = _
      rw [if_neg (by omega), show ((textB w.val).length : Int).toNat = (textB w.val).length by omega, List.drop_left, ih]
      show some ((⟨w.key, false, w.val⟩ : Wri) :: L, more) = _
      rw [← hdel]
theorem okB12_iff {q : Int} {L : List Wri} : okB12 q L = true ↔ isB L = true ∧ 1 ≤ q ∧ q ≤ 1000000 := by
  unfold okB12; rw [Bool.and_eq_true, decide_eq_true_eq]
theorem readR_bat {q : Nat} {L : List Wri} (h : okB12 q L = true) (more : List UInt8) : readR (batB q L ++ more) = ((q : Int), L, ((batB q L).length : Int), 0) := by
  obtain ⟨hB, h1, h2⟩ := okB12_iff.1 h
  have hrl := rowsB_len hB
  have ln := numB_len (n := (q : Int).toNat) (by omega)
  have hl8 := isB_len hB
  have e : openB (batB q L ++ more) = (numB (q : Int).toNat ++ rowsB L, ((batB q L).length : Int), 0) := openB_seal (by rw [List.length_append]; omega)
  have eq1 : (q : Int).toNat = q := by omega
  have e1 : takeN (numB (q : Int).toNat ++ rowsB L) = ((q : Int), ((numB q).length : Int), 0) := by rw [eq1]; exact takeN_numB (by omega) _
  have ht : takeR ((numB (q : Int).toNat ++ rowsB L).drop (numB q).length) = some L := by
    rw [eq1, List.drop_left]
    unfold takeR rowsB
    rw [takeN_numB (by omega)]
    show (if (0 : Int) ≠ 0 ∨ (8 : Int) < (L.length : Int) then none else Option.map _ (takeWs (L.length : Int).toNat ((numB L.length ++ L.flatMap oneB).drop ((numB L.length).length : Int).toNat))) = _
    rw [if_neg (by omega), show (L.length : Int).toNat = L.length by omega, show ((numB L.length).length : Int).toNat = (numB L.length).length by omega, List.drop_left]
    have := takeWs_rows (L := L) [] (isB_all hB)
    rw [List.append_nil] at this
    rw [this]; rfl
  rw [readR_eq e e1, ht]
  show (if (bytB q L).2 = 0 ∧ (bytB q L).1 = (batB q L ++ more).take (batB q L).length then _ else _) = _
  have hb : bytB q L = (batB q L, 0) := by unfold bytB; rw [h]; rfl
  rw [hb, if_pos ⟨rfl, (List.take_left ..).symm⟩]
end Go.Proofs.Ytmlcddeikgechaa

set_option linter.all false
namespace Go.Proofs.Ytmlcddeikgechaa
open Go Go.Ev
/-- the write at the front -/
def tkP (s : List UInt8) : Option (Wri × Nat) :=
  if (takeT s).2.2 ≠ 0 ∨ (takeT s).2.1 = (s.length : Int) then none
  else if s.getD (takeT s).2.1.toNat 0 = 0 then
    (if (takeT (s.drop ((takeT s).2.1.toNat + 1))).2.2 ≠ 0 then none else some (⟨(takeT s).1, false, (takeT (s.drop ((takeT s).2.1.toNat + 1))).1⟩, (takeT s).2.1.toNat + 1 + (takeT (s.drop ((takeT s).2.1.toNat + 1))).2.1.toNat))
  else if s.getD (takeT s).2.1.toNat 0 = 1 then some (⟨(takeT s).1, true, []⟩, (takeT s).2.1.toNat + 1) else none
def tksP : Nat → List UInt8 → Option (List Wri)
  | 0, _ => some []
  | n + 1, s => (tkP s).bind fun r => (tksP n (s.drop r.2)).map (r.1 :: ·)
def taP (s : List UInt8) : Int × List Wri :=
  if (takeN s).2.2 ≠ 0 then (0, []) else
  let r := s.drop (takeN s).2.1.toNat
  if (takeN r).2.2 ≠ 0 ∨ 8 < (takeN r).1 then (0, []) else
  match tksP (takeN r).1.toNat (r.drop (takeN r).2.1.toNat) with
  | none => (0, [])
  | some l => ((takeN s).1, l)
theorem tksP_len : ∀ {n : Nat} {s : List UInt8} {l : List Wri}, tksP n s = some l → l.length = n
  | 0, s, l, h => by cases h; rfl
  | n + 1, s, l, h => by
    unfold tksP at h
    cases e : tkP s with
    | none => rw [e] at h; cases h
    | some r =>
      rw [e] at h
      have h : (tksP n (s.drop r.2)).map (r.1 :: ·) = some l := h
      cases e2 : tksP n (s.drop r.2) with
      | none => rw [e2] at h; cases h
      | some m =>
        rw [e2] at h; cases h
        simp [tksP_len e2]
theorem taP_len (s : List UInt8) : (taP s).2.length ≤ 8 := by
  unfold taP
  split
  · simp
  · show (if _ then _ else _ : Int × List Wri).2.length ≤ 8
    split
    · simp
    · rename_i hn
      split
      · simp
      · rename_i l e
        have := tksP_len e
        show l.length ≤ 8
        omega
theorem taP_int (s : List UInt8) : 0 ≤ (taP s).1 ∧ (taP s).1 ≤ 9223372036854775807 := by
  have h := takeN_range s
  have h3 : 0 ≤ (takeN s).1 ∧ (takeN s).1 ≤ 9223372036854775807 := by
    rcases h with (e | e) | ⟨n, k, e, hn, _⟩
    · rw [e]; simp
    · rw [e]; simp
    · rw [e]; show 0 ≤ (n : Int) ∧ (n : Int) ≤ _; omega
  unfold taP
  split
  · simp
  · show 0 ≤ (if _ then _ else _ : Int × List Wri).1 ∧ (if _ then _ else _ : Int × List Wri).1 ≤ _
    split
    · simp
    · split
      · simp
      · exact h3
theorem tkP_one {w : Wri} (h : isR w = true) (more : List UInt8) : tkP (oneB w ++ more) = some (w, (oneB w).length) := by
  have hr := isR_len h
  have hk : ∀ X, takeT (textB w.key ++ X) = (w.key, ((textB w.key).length : Int), 0) := fun X => takeT_textB (by omega)
  have en : ((textB w.key).length : Int).toNat = (textB w.key).length := by omega
  have hd1 : ∀ X : List UInt8, (textB w.key ++ X).drop ((textB w.key).length + 1) = X.drop 1 := fun X => by
    rw [← List.drop_drop, List.drop_left]
  have hg : ∀ (c : UInt8) (X : List UInt8), (textB w.key ++ c :: X).getD (textB w.key).length 0 = c := fun c X => by simp [List.getD]
  cases hdel : w.del with
  | true =>
    have hv := hr.2.2.2 hdel
    have e1 : oneB w = textB w.key ++ [1] := by unfold oneB; rw [hdel]; rfl
    have e2 : oneB w ++ more = textB w.key ++ 1 :: more := by rw [e1]; simp
    have e3 : (oneB w).length = (textB w.key).length + 1 := by rw [e1]; simp
    rw [e2, e3]
    unfold tkP
    rw [hk, en]
    show (if (0 : Int) ≠ 0 ∨ ((textB w.key).length : Int) = (((textB w.key ++ 1 :: more).length : Nat) : Int) then none else _) = _
    rw [if_neg (by rw [List.length_append]; simp; omega), hg, if_neg (by decide), if_pos rfl]
    show some ((⟨w.key, true, []⟩ : Wri), _) = _
    rw [← hdel, ← hv]
  | false =>
    have e1 : oneB w = textB w.key ++ 0 :: textB w.val := by unfold oneB; rw [hdel]; rfl
    have e2 : oneB w ++ more = textB w.key ++ 0 :: (textB w.val ++ more) := by rw [e1]; simp
    have e3 : (oneB w).length = (textB w.key).length + 1 + (textB w.val).length := by rw [e1]; simp; omega
    have ev : (textB w.key ++ 0 :: (textB w.val ++ more)).drop ((textB w.key).length + 1) = textB w.val ++ more := by rw [hd1]; rfl
    rw [e2, e3]
    unfold tkP
    rw [hk, en]
    show (if (0 : Int) ≠ 0 ∨ ((textB w.key).length : Int) = (((textB w.key ++ 0 :: (textB w.val ++ more)).length : Nat) : Int) then none else _) = _
    rw [if_neg (by rw [List.length_append]; simp; omega), hg, if_pos rfl]
    show (if (takeT ((textB w.key ++ 0 :: (textB w.val ++ more)).drop ((textB w.key).length + 1))).2.2 ≠ 0 then none else some ((⟨w.key, false, (takeT ((textB w.key ++ 0 :: (textB w.val ++ more)).drop ((textB w.key).length + 1))).1⟩ : Wri), (textB w.key).length + 1 + (takeT ((textB w.key ++ 0 :: (textB w.val ++ more)).drop ((textB w.key).length + 1))).2.1.toNat)) = _
    rw [ev, takeT_textB (by omega)]
    show (if (0 : Int) ≠ 0 then none else some ((⟨w.key, false, w.val⟩ : Wri), (textB w.key).length + 1 + ((textB w.val).length : Int).toNat)) = _
    rw [if_neg (by omega), show ((textB w.val).length : Int).toNat = (textB w.val).length by omega, ← hdel]
theorem tksP_rows : ∀ {L : List Wri} (more : List UInt8), (∀ w ∈ L, isR w = true) → tksP L.length (L.flatMap oneB ++ more) = some L
  | [], _, _ => rfl
  | w :: L, more, h => by
    have ih := tksP_rows (L := L) more fun x hx => h x (List.mem_cons_of_mem _ hx)
    rw [List.flatMap_cons, List.length_cons, List.append_assoc]
    unfold tksP
    rw [tkP_one (h w (by simp))]
    show (tksP L.length ((oneB w ++ (L.flatMap oneB ++ more)).drop (oneB w).length)).map (w :: ·) = _
    rw [List.drop_left, ih]; rfl
theorem taP_bat {q : Nat} {L : List Wri} (h : okB12 q L = true) : taP (numB q ++ rowsB L) = ((q : Int), L) := by
  obtain ⟨hB, h1, h2⟩ := okB12_iff.1 h
  have hl8 := isB_len hB
  unfold taP
  rw [takeN_numB (by omega)]
  show (if (0 : Int) ≠ 0 then _ else _ : Int × List Wri) = _
  rw [if_neg (by omega)]
  have e1 : (numB q ++ rowsB L).drop (((q : Int), ((numB q).length : Int), (0 : Int)).2.1.toNat) = rowsB L := by
    show (numB q ++ rowsB L).drop ((numB q).length : Int).toNat = _
    rw [show ((numB q).length : Int).toNat = (numB q).length by omega, List.drop_left]
  rw [e1]
  have e2 : takeN (rowsB L) = ((L.length : Int), ((numB L.length).length : Int), 0) := by unfold rowsB; exact takeN_numB (by omega) _
  show (if (takeN (rowsB L)).2.2 ≠ 0 ∨ 8 < (takeN (rowsB L)).1 then ((0 : Int), ([] : List Wri)) else match tksP (takeN (rowsB L)).1.toNat ((rowsB L).drop (takeN (rowsB L)).2.1.toNat) with | none => ((0 : Int), ([] : List Wri)) | some l => ((q : Int), l)) = _
  rw [e2]
  show (if (0 : Int) ≠ 0 ∨ (8 : Int) < (L.length : Int) then _ else _ : Int × List Wri) = _
  rw [if_neg (by omega)]
  show (match tksP (L.length : Int).toNat ((rowsB L).drop ((numB L.length).length : Int).toNat) with | none => ((0 : Int), ([] : List Wri)) | some l => ((q : Int), l)) = _
  rw [show (L.length : Int).toNat = L.length by omega, show ((numB L.length).length : Int).toNat = (numB L.length).length by omega]
  unfold rowsB
  rw [List.drop_left]
  have := tksP_rows (L := L) [] (isB_all hB)
  rw [List.append_nil] at this
  rw [this]
theorem sealB_inj {a b : List UInt8} (ha : a.length ≤ 9223372036854775807) (hb : b.length ≤ 9223372036854775807) (h : sealB a = sealB b) : a = b := by
  have e1 := openB_seal (l := a) (more := []) ha
  have e2 := openB_seal (l := b) (more := []) hb
  rw [h, e2] at e1
  exact (Prod.mk.inj e1).1.symm
/-- what the program reads is what the document reads -/
theorem readP {s x : List UInt8} {n : Nat} (hs : s.length ≤ 1000000) (e : openB s = (x, (n : Int), 0)) : readR s = if (bytB (taP x).1 (taP x).2).1 = s.take n then ((taP x).1, (taP x).2, (n : Int), 0) else (0, [], 0, 10) := by
  obtain ⟨more, hm⟩ := openB_inv e
  have hx : x.length ≤ s.length := by rw [hm, List.length_append, sealB_len]; omega
  have hn : n = (sealB x).length := by
    have := openB_seal (l := x) (more := more) (by omega)
    rw [← hm, e] at this
    have := (Prod.mk.inj (Prod.mk.inj this).2).1
    omega
  have ht : s.take n = sealB x := by rw [hm, hn, List.take_left]
  have hp : 0 < (sealB x).length := by rw [sealB_len]; omega
  rw [ht]
  by_cases hb : (bytB (taP x).1 (taP x).2).1 = sealB x
  · rw [if_pos hb]
    have ho : okB12 (taP x).1 (taP x).2 = true := by
      cases ho : okB12 (taP x).1 (taP x).2 with
      | true => rfl
      | false =>
        unfold bytB at hb; rw [ho] at hb
        have := congrArg List.length hb
        simp at this; omega
    have hb2 : batB (taP x).1 (taP x).2 = sealB x := by rw [← hb]; unfold bytB; rw [ho]; rfl
    obtain ⟨h0, h1, h2⟩ := okB12_iff.1 ho
    obtain ⟨q, hq⟩ : ∃ q : Nat, (taP x).1 = (q : Int) := ⟨(taP x).1.toNat, by omega⟩
    rw [hq] at ho hb2 ⊢
    rw [hm, hn, ← hb2]
    exact readR_bat ho more
  · rw [if_neg hb]
    rcases takeN_range x with (e1 | e1) | ⟨q, k, e1, q1, k1, k2, k3⟩
    · exact readR_num e (by rw [e1]; simp)
    · exact readR_num e (by rw [e1]; simp)
    · rw [readR_eq e e1]
      cases htr : takeR (x.drop k) with
      | none => rfl
      | some l =>
        show (if (bytB q l).2 = 0 ∧ (bytB q l).1 = s.take n then _ else _) = _
        refine if_neg fun ⟨b1, b2⟩ => ?_
        obtain ⟨c1, c2⟩ := bytB_ok b1
        rw [ht, c2] at b2
        obtain ⟨hB, h1, h2⟩ := okB12_iff.1 c1
        have hrl := rowsB_len hB
        have ln := numB_len (n := q) (by omega)
        have hxe : numB (q : Int).toNat ++ rowsB l = x := sealB_inj (by rw [List.length_append, show (q : Int).toNat = q by omega]; omega) (by omega) b2
        rw [show (q : Int).toNat = q by omega] at hxe
        rw [← hxe, taP_bat c1] at hb
        refine hb ?_
        show (bytB q l).1 = _
        rw [c2, hxe]; exact b2
end Go.Proofs.Ytmlcddeikgechaa

set_option maxRecDepth 1000000
set_option linter.all false
namespace Go.Proofs.Ytmlcddeikgechaa
open Go Go.Ev
noncomputable abbrev s48_0 : CC := (CC.seq (CC.region [(wB 17 (doMove (tm 1))), (wB 18 (doLenS (tm 17))), (wB 4 (doMove (tm 18))), (wB 5 (doMove (O.c V.x0)))]) CC.ret)
noncomputable abbrev s48_1 : CC := (CC.seq (CC.region [(wB 8 (doMove (tm 0))), (wB 9 (doMove (tm 0))), (wB 10 (doNilCheck (tm 9))), (wB 11 (doFieldAddr 1 (tm 10))), (wB 12 (doLoad (tm 11))), (wB 13 (doMove (tm 1))), (wB 14 (doAppendS 5 (tm 12) (tm 13))), (wB 15 (doNilCheck (tm 8))), (wB 16 (doFieldAddr 1 (tm 15))), (CO.mk G.none D.none Bool.true (CR.mk (doStore 1 (tm 16) (tm 14))))]) s48_0)
noncomputable abbrev s48_2 : CC := (CC.seq (CC.region [(wB 6 (doMove (tm 0))), (wB 7 (doCall 54 [(tm 6)]))]) s48_1)
noncomputable abbrev b48 : CC := (CC.seq (CC.region [(wB 4 (doMove (oN 0))), (wB 5 (doMove (O.c V.x0)))]) s48_2)
theorem c48 : compFn Try.prog 48 = ⟨19, b48, [(Rs.tmp (slOf 4)), (Rs.tmp (slOf 5))]⟩ := by kernel_rfl
noncomputable abbrev s50_0 : CC := (CC.seq (CC.draws [(uB 3 (doMove (tm 0))), (uB 4 (doNilCheck (tm 3))), (uB 5 (doFieldAddr 1 (tm 4))), (uB 6 (doLoad (tm 5))), (uB 7 (doSData (tm 6))), (uB 8 (doMove (tm 0))), (uB 9 (doNilCheck (tm 8))), (uB 10 (doFieldAddr 1 (tm 9))), (uB 11 (doLoad (tm 10))), (uB 12 (doLen (tm 11))), (wB 13 (doUStr 5 (tm 7) (tm 12))), (uB 2 (doMove (tm 13)))] (some ([4, 10], [(1, [0]), (3, [0]), (6, [0, 5]), (8, [0, 5])]))) CC.ret)
noncomputable abbrev b50 : CC := (CC.seq (CC.region [(wB 2 (doMove (O.c (V.s 0 0))))]) s50_0)
theorem c50 : compFn Try.prog 50 = ⟨14, b50, [(Rs.tmp (slOf 2))]⟩ := by kernel_rfl
noncomputable abbrev s54_0 : CC := (CC.region [(wB 7 (doMove (tm 0))), (wB 8 (doMove (tm 0))), (wB 9 (doP2U (tm 8))), (wB 10 (doMove (tm 9))), (wB 11 (doU2P 77 2 (tm 10))), (wB 12 (doNilCheck (tm 7))), (wB 13 (doFieldAddr 0 (tm 12))), (CO.mk G.none D.none Bool.true (CR.mk (doStore 1 (tm 13) (tm 11))))])
noncomputable abbrev s54_1 : CC := (CC.cond (tm 19) CC.bad CC.skip)
noncomputable abbrev s54_2 : CC := (CC.seq (CC.region [(wB 14 (doMove (tm 0))), (wB 15 (doNilCheck (tm 14))), (wB 16 (doFieldAddr 0 (tm 15))), (wB 17 (doLoad (tm 16))), (wB 18 (doMove (tm 0))), (wB 19 (doPtr Bool.true (tm 17) (tm 18)))]) s54_1)
noncomputable abbrev s54_3 : CC := (CC.cond (tm 6) s54_0 s54_2)
noncomputable abbrev b54 : CC := (CC.seq (CC.region [(wB 2 (doMove (tm 0))), (wB 3 (doNilCheck (tm 2))), (wB 4 (doFieldAddr 0 (tm 3))), (wB 5 (doLoad (tm 4))), (wB 6 (doPtr Bool.false (tm 5) (O.c V.p0)))]) s54_3)
theorem c54 : compFn Try.prog 54 = ⟨20, b54, []⟩ := by kernel_rfl
end Go.Proofs.Ytmlcddeikgechaa

set_option maxRecDepth 100000
set_option maxHeartbeats 8000000
set_option linter.all false
namespace Go.Proofs.Ytmlcddeikgechaa
open Go Go.Ev
section
variable {h : H} {lo : Nat} {id : B} {U : B → Prop} {a : List UInt8}
theorem copyCheck_ok (s : Sb h lo 77 5 id U a) : FnOk Try.prog 54 [.p id 0 0 2] h fun y h' => Sb h' lo 77 5 id U a ∧ Stay U h h' := by
  obtain ⟨⟨adr, w, o, ha, b, hw, hn⟩, hself, hlo⟩ := s
  refine fn_go c54 (by intro hb; cases hb) (by simp) (by simp) fun Q hQ => ?_
  simp only [slotsF, Nat.reduceAdd]
  have or := o.own.row
  rcases ha with rfl | rfl
  · repeat' (first
      | refine St.h ?_
      | simp (disch := first | omega | (simp only [lnv]; omega)) only [wlk, ↓get_put', ↓reduceIte, seval, or.l1, or_ptr, h2_ptr00, h2_ptr01, h2_ptr10, h2_ptr11, or_p2u, or_u2p, o.pu, o.up]
      | (with_reducible (first | apply cd_split | apply gd_split)) <;> (intro hc; (try simp only [hcn] at hc); (try simp only [hc]); (try simp only [hcl] at hc); try omega))
    refine ST.ownE (y := .p id 0 0 2) o rfl rfl (by omega) (by omega) fun h' o' s' => ?_
    repeat' (first
      | refine St.h ?_
      | simp (disch := first | omega | (simp only [lnv]; omega)) only [wlk, ↓get_put', ↓reduceIte, seval]
      | (with_reducible (first | apply cd_split | apply gd_split)) <;> (intro hc; (try simp only [hcn] at hc); (try simp only [hc]); (try simp only [hcl] at hc); try omega))
    subst hQ
    exact ⟨⟨⟨.p id 0 0 2, w, o', .inr rfl, b.stay s' (fun i hi e => hn (by rw [← e]; exact hi)), hw, hn⟩, hself, fun i hi => ⟨(hlo i hi).1, Nat.lt_of_lt_of_le (hlo i hi).2 s'.next⟩⟩, s'.mono fun i _ hi => by rw [hi]; exact hself⟩
  · repeat' (first
      | refine St.h ?_
      | simp (disch := first | omega | (simp only [lnv]; omega)) only [wlk, ↓get_put', ↓reduceIte, seval, or.l1, or_ptr, h2_ptr00, h2_ptr01, h2_ptr10, h2_ptr11]
      | (with_reducible (first | apply cd_split | apply gd_split)) <;> (intro hc; (try simp only [hcn] at hc); (try simp only [hc]); (try simp only [hcl] at hc); try omega))
    subst hQ
    exact ⟨⟨⟨.p id 0 0 2, w, o, .inr rfl, b, hw, hn⟩, hself, hlo⟩, Stay.refl _ _⟩
theorem bld_end {h h1 h2 h3 : H} {w w' adr : V} {c : List UInt8} (hself : U id) (hlo : ∀ i, U i → lo ≤ B.val i ∧ B.val i < B.val h1.next) (hw : ∀ i, isOf w i → U i) (hn : ¬ isOf w id) (hidlt : B.val id < B.val h1.next)
    (ha : adr = .p0 ∨ adr = .p id 0 0 2) (st1 : Stay U h h1) (b2 : Buf h2 5 1 w' ((a ++ c).map bv)) (st2 : Stay (isOf w) h1 h2) (hw2 : ∀ i, isOf w' i → isOf w i ∨ B.val h1.next ≤ B.val i) (o3 : OwnE h3 id 77 [adr, w']) (st3 : Stay (fun i => i = id) h2 h3) :
    ∃ U', Sb h3 lo 77 5 id U' (a ++ c) ∧ Stay U h h3 ∧ ∀ i, U' i → U i ∨ B.val h.next ≤ B.val i := by
  have hn2 : ¬ isOf w' id := fun e => by
    rcases hw2 _ e with h7 | h7
    · exact hn h7
    · omega
  have hlo0 := (hlo _ hself).1
  refine ⟨fun i => U i ∨ isOf w' i, ⟨⟨adr, w', o3, ha, b2.stay st3 (fun i hi e => hn2 (by rw [← e]; exact hi)), fun i hi => .inr hi, hn2⟩, .inl hself, ?_⟩, ?_, ?_⟩
  · have n2 := st2.next
    have n3 := st3.next
    rintro i (hi | hi)
    · have := hlo i hi; omega
    · have h8 := b2.own hi
      rcases hw2 _ hi with h7 | h7
      · have := hlo i (hw i h7); omega
      · omega
  · exact (st1.trans (st2.mono fun i _ hi => hw i hi)).trans (st3.mono fun i _ hi => by rw [hi]; exact hself)
  · have n1 := st1.next
    rintro i (hi | hi)
    · exact .inl hi
    · rcases hw2 _ hi with h7 | h7
      · exact .inl (hw i h7)
      · exact .inr (by omega)
theorem writeString_ok {c : List UInt8} (s : Sb h lo 77 5 id U a) (hl : a.length + c.length ≤ 1048576) (hf : B.val h.floor ≤ B.val h.next) : FnOk Try.prog 48 [.p id 0 0 2, sv c] h fun y h' => ∃ U', Sb h' lo 77 5 id U' (a ++ c) ∧ Stay U h h' ∧ ∀ i, U' i → U i ∨ B.val h.next ≤ B.val i := by
  refine fn_go c48 (by intro hb; cases hb) (by simp) (by simp) fun Q hQ => ?_
  simp only [slotsF, Nat.reduceAdd]
  repeat' (first
    | refine St.h ?_
    | simp (disch := first | omega | (simp only [lnv]; omega)) only [wlk, ↓get_put', ↓reduceIte, seval]
    | (with_reducible (first | apply cd_split | apply gd_split)) <;> (intro hc; (try simp only [hcn] at hc); (try simp only [hc]); (try simp only [hcl] at hc); try omega))
  refine CL.mk (copyCheck_ok s) ?_
  rintro _ h1 ⟨⟨⟨adr, w, o, ha, b, hw, hn⟩, hself, hlo⟩, st1⟩
  have or := o.own.row
  repeat' (first
    | refine St.h ?_
    | simp (disch := first | omega | (simp only [lnv]; omega)) only [wlk, ↓get_put', ↓reduceIte, seval, or.l1]
    | (with_reducible (first | apply cd_split | apply gd_split)) <;> (intro hc; (try simp only [hcn] at hc); (try simp only [hc]); (try simp only [hcl] at hc); try omega))
  refine AS.buf b (st1.fl hf) hl fun w' h2 b2 st2 hw2 tp => ?_
  have o2 := o.stay st2 hn
  obtain ⟨c1, c2, _⟩ := buf_cells b2
  repeat' (first
    | refine St.h ?_
    | simp (disch := first | omega | (simp only [lnv]; omega)) only [wlk, ↓get_put', ↓reduceIte, seval]
    | (with_reducible (first | apply cd_split | apply gd_split)) <;> (intro hc; (try simp only [hcn] at hc); (try simp only [hc]); (try simp only [hcl] at hc); try omega))
  refine ST.ownE o2 c1 c2 (by omega) (by omega) fun h3 o3 st3 => ?_
  repeat' (first
    | refine St.h ?_
    | simp (disch := first | omega | (simp only [lnv]; omega)) only [wlk, ↓get_put', ↓reduceIte, seval]
    | (with_reducible (first | apply cd_split | apply gd_split)) <;> (intro hc; (try simp only [hcn] at hc); (try simp only [hc]); (try simp only [hcl] at hc); try omega))
  subst hQ
  exact bld_end hself hlo hw hn o.lt ha st1 b2 st2 hw2 o3 st3
theorem string_ok (s : Sb h lo 77 5 id U a) (hl : a.length ≤ 1048576) : FnOk Try.prog 50 [.p id 0 0 2] h fun y h' => y = sv a ∧ Stay U h h' := by
  refine fn_go c50 (by intro hb; cases hb) (by simp) (by simp) fun Q hQ => ?_
  simp only [slotsF, Nat.reduceAdd]
  obtain ⟨⟨adr, w, o, ha, b, hw, hn⟩, hself, hlo⟩ := s
  have or := o.own.row
  have hln := fun g N => b.lst.ln (P := Try.prog) (h := g) (N := N)
  rw [List.length_map] at hln
  obtain ⟨pv, hpv1, hpv2⟩ : ∃ pv : V, (∀ g N, H1 Try.prog gSData w g N = N.go Try.prog pv g) ∧ ∀ k : V → Bool, (vL w (fun _ => k .p0) fun id g off len fin _ => k (.p id g off fin)) = k pv := by
    rcases b with ⟨rfl, _⟩ | ⟨i, g, n, blk, rfl, b1, _⟩
    · exact ⟨.p0, fun g N => hv_of fun k => rfl, fun k => rfl⟩
    · refine ⟨.p i g 0 _, fun g N => hv_of fun k => ?_, fun k => rfl⟩
      have : Nat.ble 1 n = true := by rw [Nat.ble_eq]; exact b1
      show (ifK (Nat.ble 1 n) fun _ => k (.p i _ 0 _)) = _
      rw [this, ifK_true]
  repeat' (first
    | refine St.h ?_
    | simp (disch := first | omega | (simp only [lnv]; omega)) only [wlk, ↓get_put', ↓reduceIte, seval, or.l1, or_sdata, hpv1, hln, or_ustr]
    | (with_reducible (first | apply cd_split | apply gd_split)) <;> (intro hc; (try simp only [hcn] at hc); (try simp only [hc]); (try simp only [hcl] at hc); try omega))
  obtain ⟨h', e', st'⟩ := ustr_eq b hl (fun _ _ _ _ => false) F.zero (.c pv) (.c (.i .i64 (a.length : Int))) hpv2 rfl
  refine US.of (v := sv a) (h' := h') (fun k => ?_) ?_
  · have := e' k
    simp only [doUStr, oE_eq] at this
    exact this
  repeat' (first
    | refine St.h ?_
    | simp (disch := first | omega | (simp only [lnv]; omega)) only [wlk, ↓get_put', ↓reduceIte, seval]
    | (with_reducible (first | apply cd_split | apply gd_split)) <;> (intro hc; (try simp only [hcn] at hc); (try simp only [hc]); (try simp only [hcl] at hc); try omega))
  subst hQ
  exact ⟨rfl, st'.mono fun i _ hi => hw i hi⟩
end
end Go.Proofs.Ytmlcddeikgechaa

set_option linter.all false
namespace Go.Ev
open Go
theorem CPS.own {P : Program} {h : H} {N : Nx} {id : B} {el fin : Nat} {xs : List V} {s : List UInt8} {cap : Option Nat} (o : OwnE h id el xs) (hne : 1 ≤ s.length) (hj : s.length ≤ fin) (hfit : s.length < 2 ^ 37)
    (k : ∀ h', OwnE h' id el (s.map bv) → Stay (fun i => i = id) h h' → N.go P (.i .i64 (s.length : Int)) h') : CPS P (.l id 0 0 s.length fin cap) (sv s) h N := by
  obtain ⟨blk, a1, a2, a3, a4, aE, a5, a6, a7⟩ := o
  obtain ⟨next, floor, heap⟩ := h
  obtain ⟨cur, min, sz, cs, bel, fr⟩ := blk
  simp only at a2 a3 a4 aE a7
  subst a2; subst a3; subst a4; subst aE
  have hvl : (s.map bv).length = s.length := List.length_map _
  obtain ⟨tr, t1, t2, t3⟩ := setList_fine (s.map bv) 0 cs (by omega)
  obtain ⟨hp, s1, s2, s3⟩ := setK_ok id (⟨0, 0, sz, tr, bel, 0⟩ : Blk) heap
  have e1 : B.geB floor id = true := by cases floor <;> first | rfl | (show Nat.ble _ _ = true; rw [Nat.ble_eq]; exact a5)
  have e2 : Nat.ble (Nat.add 0 (s.map bv).length) fin = true := by rw [Nat.ble_eq]; show 0 + (s.map bv).length ≤ fin; omega
  have e4 : frOk 0 0 = true := rfl
  have e5 : Nat.beq 0 0 = true := rfl
  have e6 : Nat.ble 0 0 = true := rfl
  have a1' : heap.get id = some ⟨0, 0, sz, cs, bel, 0⟩ := a1
  refine hm_of (v := .i .i64 (s.length : Int)) (h' := ⟨next, floor, hp⟩) (fun q => ?_) (k _ ⟨_, s2, rfl, rfl, rfl, rfl, a5, a6, fun i z hz => by have := t2 i z hz; rwa [Nat.zero_add] at this⟩ ⟨rfl, Nat.le_refl _, fun i _ hi => s3 i hi⟩)
  show natC s.length (fun _ => false) (fun _ => copyToS (sv s) ⟨next, floor, heap⟩ q id 0 0 s.length fin) = _
  obtain ⟨m, hm⟩ : ∃ m, s.length = m + 1 := ⟨s.length - 1, by omega⟩
  have hc : ∀ (z : Unit → Bool) (f : Nat → Bool), natC s.length z f = f (m + 1) := fun z f => by rw [hm]; rfl
  rw [hc]
  unfold copyToS
  show unpK s.length (pk s) [] (fun vs => ifK (Nat.beq s.length s.length) fun _ => store ⟨next, floor, heap⟩ id 0 0 fin vs fun h => q (.i .i64 (.ofNat s.length)) h) = _
  rw [unpK_map _ _ _ _ rfl, List.append_nil, Nat.beq_refl, ifK_true]
  simp only [store, hK_mk, a1', optK_some, blkK_mk, e5, e6, e1, e2, allOne_bv, e4, ifK_true]
  rw [t1, s1]; rfl
theorem US.own {P : Program} {h : H} {N : Nx} {id : B} {el fin : Nat} {a : List UInt8} (o : OwnE h id el (a.map bv)) (hne : 1 ≤ a.length) (hj : a.length ≤ fin) (hl : a.length ≤ 1048576)
    (k : ∀ h', Stay (fun i => i = id) h h' → N.go P (sv a) h') : US P el (.p id 0 0 fin) (.i .i64 (a.length : Int)) h N := by
  have hrow : Row h id 0 0 (a.map bv) := o.own.row
  obtain ⟨blk, a1, a2, a3, a4, aE, a5, a6, a7⟩ := o
  have hld : ∀ k, loadN h id 0 0 fin a.length k = k (a.map bv) := fun k => by
    have := loadN_row (n := (a.map bv).length) (fin := fin) hrow rfl (by intro h0; have := congrArg List.length h0; simp at this; subst this; simp at hne) (by rw [List.length_map]; omega) k
    rwa [List.length_map] at this
  obtain ⟨next, floor, heap⟩ := h
  obtain ⟨cur, min, sz, cells, bel, fr⟩ := blk
  simp only at a2 a3 a4 aE a7
  subst a2; subst a3; subst a4; subst aE
  obtain ⟨hp, s1, s2, s3⟩ := setK_ok id (⟨0, 0, sz, cells, bel, a.length + 2⟩ : Blk) heap
  have a1' : heap.get id = some ⟨0, 0, sz, cells, bel, 0⟩ := a1
  have g2 : Nat.beq bel bel = true := Nat.beq_refl bel
  have g3 : B.geB floor id = true := by cases floor <;> first | rfl | (show Nat.ble _ _ = true; rw [Nat.ble_eq]; exact a5)
  have g4 : Nat.ble 1 a.length = true := by rw [Nat.ble_eq]; exact hne
  have g5 : Nat.ble a.length 1048576 = true := by rw [Nat.ble_eq]; exact hl
  have g6 : Nat.beq 0 0 = true := rfl
  have g7 : Nat.ble 0 0 = true := rfl
  refine US.of (v := sv a) (h' := ⟨next, floor, hp⟩) (fun q => ?_) (k _ ⟨rfl, Nat.le_refl _, fun i _ hi => s3 i hi⟩)
  simp only [vI_i, kdEq_self, ifK_true, natK_cast, vPZ_p]
  unfold uStrK
  rw [g6, ifK_true, g4, ifK_true, g5, ifK_true]
  simp only [elK, hK_mk, a1', optK_some, blkK_mk, g7, g2, ifK_true]
  rw [hld, pack_bv]
  have e0 : 0 * 256 ^ a.length + pk a = pk a := by rw [Nat.zero_mul, Nat.zero_add]
  rw [e0]
  simp only [freezeK, hK_mk, a1', optK_some, blkK_mk, g3, ifK_true]
  show fN (Nat.add a.length 2) (fun fr' => T.setK id ⟨0, 0, sz, cells, bel, fr'⟩ heap fun heap => q (.s a.length (pk a)) ⟨next, floor, heap⟩) = _
  rw [fN_eq]
  exact s1 _
theorem Own.ra3 {h : H} {Q : V → H → Prop} {id : B} {a b c : V} {us : List V} (o : Own h id [a, b, c]) : RA Q 3 (.p id 0 0 3) us h = Q (one (.a [a, b, c] :: us)) h := o.ra rfl (by omega) (by omega)
end Go.Ev

set_option maxRecDepth 100000
set_option maxHeartbeats 8000000
set_option linter.all false
namespace Go.Proofs.Ytmlcddeikgechaa
open Go Go.Ev
theorem bis_ok {h : H} {v : V} {L : List Wri} (hL : Ws h v L) (hl : L.length ≤ 10000) (hf : B.val h.floor ≤ B.val h.next) : FnOk Try.prog 30 [v] h fun y h' => y = .b (isB L) ∧ Stay nowhere h h' := by
  refine fn_go c30 (by intro hb; cases hb) (by simp) (by simp) fun Q hQ => ?_
  simp only [slotsF, Nat.reduceAdd]
  by_cases h8 : 8 < L.length
  · have d1 : ((8 : Int) < (L.length : Int)) = True := eq_true (by omega)
    repeat' (first
      | refine St.h ?_
      | simp (disch := first | omega | (simp only [lnv]; omega)) only [wlk, ↓get_put', ↓reduceIte, seval, hL.ln, d1]
      | (with_reducible (first | apply cd_split | apply gd_split)) <;> (intro hc; (try simp only [hcn] at hc); (try simp only [hc]); (try simp only [hcl] at hc); try omega))
    subst hQ
    exact ⟨by unfold isB; rw [decide_eq_false (by omega), Bool.and_false], Stay.refl _ _⟩
  have d1 : ((8 : Int) < (L.length : Int)) = False := eq_false (by omega)
  repeat' (first
    | refine St.h ?_
    | simp (disch := first | omega | (simp only [lnv]; omega)) only [wlk, ↓get_put', ↓reduceIte, seval, hL.ln, d1]
    | (with_reducible (first | apply cd_split | apply gd_split)) <;> (intro hc; (try simp only [hcn] at hc); (try simp only [hc]); (try simp only [hcl] at hc); try omega))
  refine Ok.lp (fun m t g => ∃ j : Nat, m = L.length - j ∧ j ≤ L.length ∧ Stay nowhere h g ∧ upU L j = true ∧ get 0 t = v ∧ get 8 t = v ∧ get 9 t = .i .i64 (L.length : Int) ∧ get 10 t = .i .i64 (j : Int)) L.length ?_ ?_
  · simp (disch := first | omega | (simp only [lnv]; omega)) only [wlk, ↓get_put', ↓reduceIte, seval]
    refine ⟨0, by omega, by omega, Stay.refl _ _, rfl, ?_⟩
    repeat' (first | trivial | rfl | refine And.intro ?_ ?_)
  rintro I hI m t g ⟨j, rfl, hj, st, hs, f0, f8, f9, f10⟩
  have hLg := hL.grow st
  have hfg := st.fl hf
  by_cases hjl : j < L.length
  case neg =>
    obtain rfl : j = L.length := by omega
    have d2 : ((L.length : Int) < (L.length : Int)) = False := eq_false (by omega)
    repeat' (first
      | refine St.h ?_
      | simp (disch := first | omega | (simp only [lnv]; omega)) only [wlk, ↓get_put', ↓reduceIte, seval, f0, f8, f9, f10, d2]
      | (with_reducible (first | apply cd_split | apply gd_split)) <;> (intro hc; (try simp only [hcn] at hc); (try simp only [hc]); (try simp only [hcl] at hc); try omega))
    subst hQ
    exact ⟨by unfold isB; rw [hs, decide_eq_true (by omega)]; rfl, st⟩
  have d2 : ((j : Int) < (L.length : Int)) = True := eq_true (by omega)
  repeat' (first
    | refine St.h ?_
    | simp (disch := first | omega | (simp only [lnv]; omega)) only [wlk, ↓get_put', ↓reduceIte, seval, f0, f8, f9, f10, d2, hLg.ix, hLg.la, Int.toNat_natCast]
    | (with_reducible (first | apply cd_split | apply gd_split)) <;> (intro hc; (try simp only [hcn] at hc); (try simp only [hc]); (try simp only [hcl] at hc); try omega))
  refine AL.own (by simp) hfg fun g1 t1 _ o1 => ?_
  have hf1 := t1.fl hfg
  repeat' (first
    | refine St.h ?_
    | simp (disch := first | omega | (simp only [lnv]; omega)) only [wlk, ↓get_put', ↓reduceIte, seval, f0, f8, f9, f10]
    | (with_reducible (first | apply cd_split | apply gd_split)) <;> (intro hc; (try simp only [hcn] at hc); (try simp only [hc]); (try simp only [hcl] at hc); try omega))
  refine ST.all o1 rfl rfl (by simp) (by simp) fun g2 o2 t2 => ?_
  have hf2 := t2.fl hf1
  have tt : Stay nowhere g g2 := t1.past' t2 fun q hq => by rw [hq]; exact Nat.le_refl _
  have r2 := o2.row
  repeat' (first
    | refine St.h ?_
    | simp (disch := first | omega | (simp only [lnv]; omega)) only [wlk, ↓get_put', ↓reduceIte, seval, f0, f8, f9, f10, r2.ln]
    | (with_reducible (first | apply cd_split | apply gd_split)) <;> (intro hc; (try simp only [hcn] at hc); (try simp only [hc]); (try simp only [hcl] at hc); try omega))
  refine CL.stay (isWrite_ok hf2) fun g3 t3 => ?_
  have t4 := tt.trans t3
  have L3 := hLg.grow t4
  have o3 := o2.stay t3 fun h => h
  have r3 := o3.row
  have st3 := st.trans t4
  cases hw : isW (L.getD j default).key (L.getD j default).del (L.getD j default).val with
  | false =>
    have hn : isB L = false := upU_no hjl (by unfold upA isR; rw [hw]; rfl)
    repeat' (first
      | refine St.h ?_
      | simp (disch := first | omega | (simp only [lnv]; omega)) only [wlk, ↓get_put', ↓reduceIte, seval, f0, f8, f9, f10]
      | (with_reducible (first | apply cd_split | apply gd_split)) <;> (intro hc; (try simp only [hcn] at hc); (try simp only [hc]); (try simp only [hcl] at hc); try omega))
    subst hQ
    exact ⟨by rw [hn], st3⟩
  | true =>
  by_cases h0 : j = 0
  · have hu : upA L j = true := by unfold upA isR; rw [hw, decide_eq_true h0]; rfl
    have hz : ((0 : Int) < (j : Int)) = False := eq_false (by omega)
    repeat' (first
      | refine St.h ?_
      | simp (disch := first | omega | (simp only [lnv]; omega)) only [wlk, ↓get_put', ↓reduceIte, seval, f0, f8, f9, f10, hz]
      | (with_reducible (first | apply cd_split | apply gd_split)) <;> (intro hc; (try simp only [hcn] at hc); (try simp only [hc]); (try simp only [hcl] at hc); try omega))
    refine lp_next hI (L.length - (j + 1)) (by omega) ⟨j + 1, rfl, by omega, st3, by rw [upU_succ, hs, hu]; rfl, by simp (disch := first | omega | (simp only [lnv]; omega)) only [wlk, ↓get_put', ↓reduceIte, seval, f0], by simp (disch := first | omega | (simp only [lnv]; omega)) only [wlk, ↓get_put', ↓reduceIte, seval, f8], by simp (disch := first | omega | (simp only [lnv]; omega)) only [wlk, ↓get_put', ↓reduceIte, seval, f9], by simp (disch := first | omega | (simp only [lnv]; omega)) only [wlk, ↓get_put', ↓reduceIte, seval, f10]; rfl⟩
  · have ek : ((j : Int) - 1).toNat = j - 1 := by omega
    have hz : ((0 : Int) < (j : Int)) = True := eq_true (by omega)
    have hu : upA L j = Op.bytesLess (L.getD (j - 1) default).key (L.getD j default).key := by unfold upA isR; rw [hw, decide_eq_false h0]; rfl
    cases hk : Op.bytesLess (L.getD (j - 1) default).key (L.getD j default).key with
    | false =>
      have hn : isB L = false := upU_no hjl (by rw [hu, hk])
      repeat' (first
        | refine St.h ?_
        | simp (disch := first | omega | (simp only [lnv]; omega)) only [wlk, ↓get_put', ↓reduceIte, seval, f0, f8, f9, f10, hz, ek, L3.ix, L3.l0, r3.l1, hk]
        | (with_reducible (first | apply cd_split | apply gd_split)) <;> (intro hc; (try simp only [hcn] at hc); (try simp only [hc]); (try simp only [hcl] at hc); try omega))
      subst hQ
      exact ⟨by rw [hn], st3⟩
    | true =>
      repeat' (first
        | refine St.h ?_
        | simp (disch := first | omega | (simp only [lnv]; omega)) only [wlk, ↓get_put', ↓reduceIte, seval, f0, f8, f9, f10, hz, ek, L3.ix, L3.l0, r3.l1, hk]
        | (with_reducible (first | apply cd_split | apply gd_split)) <;> (intro hc; (try simp only [hcn] at hc); (try simp only [hc]); (try simp only [hcl] at hc); try omega))
      refine lp_next hI (L.length - (j + 1)) (by omega) ⟨j + 1, rfl, by omega, st3, by rw [upU_succ, hs, hu, hk]; rfl, by simp (disch := first | omega | (simp only [lnv]; omega)) only [wlk, ↓get_put', ↓reduceIte, seval, f0], by simp (disch := first | omega | (simp only [lnv]; omega)) only [wlk, ↓get_put', ↓reduceIte, seval, f8], by simp (disch := first | omega | (simp only [lnv]; omega)) only [wlk, ↓get_put', ↓reduceIte, seval, f9], by simp (disch := first | omega | (simp only [lnv]; omega)) only [wlk, ↓get_put', ↓reduceIte, seval, f10]; rfl⟩
theorem blay_ok {h : H} {w : Wri} (hk : w.key.length ≤ 1000) (hv : w.val.length ≤ 1000) (hf : B.val h.floor ≤ B.val h.next) : FnOk Try.prog 49 [.a [sv w.key, .b w.del, sv w.val]] h fun y h' => y = sv (oneB w) ∧ Stay nowhere h h' := by
  have l1 := textB_len w.key (by omega)
  have l2 := textB_len w.val (by omega)
  refine fn_go c49 (by intro hb; cases hb) (by simp) (by simp) fun Q hQ => ?_
  simp only [slotsF, Nat.reduceAdd]
  repeat' (first
    | refine St.h ?_
    | simp (disch := first | omega | (simp only [lnv]; omega)) only [wlk, ↓get_put', ↓reduceIte, seval]
    | (with_reducible (first | apply cd_split | apply gd_split)) <;> (intro hc; (try simp only [hcn] at hc); (try simp only [hc]); (try simp only [hcl] at hc); try omega))
  refine AL.own (by simp) hf fun h1 s1 n1 o1 => ?_
  have hf1 := s1.fl hf
  cases hd : w.del with
  | true =>
    have hb : oneB w = textB w.key ++ [1] := by unfold oneB; rw [hd]; rfl
    repeat' (first
      | refine St.h ?_
      | simp (disch := first | omega | (simp only [lnv]; omega)) only [wlk, ↓get_put', ↓reduceIte, seval, o1.row.l1, hd]
      | (with_reducible (first | apply cd_split | apply gd_split)) <;> (intro hc; (try simp only [hcn] at hc); (try simp only [hc]); (try simp only [hcl] at hc); try omega))
    refine CL.stayU (text_ok (by omega) (re_fl _)) fun h3 s3 => ?_
    have hf3 := s3.fl hf1
    repeat' (first
      | refine St.h ?_
      | simp (disch := first | omega | (simp only [lnv]; omega)) only [wlk, ↓get_put', ↓reduceIte, seval]
      | (with_reducible (first | apply cd_split | apply gd_split)) <;> (intro hc; (try simp only [hcn] at hc); (try simp only [hc]); (try simp only [hcl] at hc); try omega))
    refine AL.strU (bs := [1]) rfl (by simp) rfl rfl (by simp) hf3 fun h5 u5 s5 => ?_
    repeat' (first
      | refine St.h ?_
      | simp (disch := first | omega | (simp only [lnv]; omega)) only [wlk, ↓get_put', ↓reduceIte, seval]
      | (with_reducible (first | apply cd_split | apply gd_split)) <;> (intro hc; (try simp only [hcn] at hc); (try simp only [hc]); (try simp only [hcl] at hc); try omega))
    subst hQ
    exact ⟨by rw [hb], (s1.trans s3).trans s5⟩
  | false =>
    have hb : oneB w = textB w.key ++ 0 :: textB w.val := by unfold oneB; rw [hd]; rfl
    repeat' (first
      | refine St.h ?_
      | simp (disch := first | omega | (simp only [lnv]; omega)) only [wlk, ↓get_put', ↓reduceIte, seval, o1.row.l1, hd]
      | (with_reducible (first | apply cd_split | apply gd_split)) <;> (intro hc; (try simp only [hcn] at hc); (try simp only [hc]); (try simp only [hcl] at hc); try omega))
    refine CL.stayU (text_ok (by omega) (re_fl _)) fun h3 s3 => ?_
    have o3 := o1.stay s3 fun h => h
    have hf3 := s3.fl hf1
    repeat' (first
      | refine St.h ?_
      | simp (disch := first | omega | (simp only [lnv]; omega)) only [wlk, ↓get_put', ↓reduceIte, seval]
      | (with_reducible (first | apply cd_split | apply gd_split)) <;> (intro hc; (try simp only [hcn] at hc); (try simp only [hc]); (try simp only [hcl] at hc); try omega))
    refine AL.strU (bs := [0]) rfl (by simp) rfl rfl (by simp) hf3 fun h5 u5 s5 => ?_
    have o5 := o3.stay s5 fun h => h
    have hf5 := s5.fl hf3
    repeat' (first
      | refine St.h ?_
      | simp (disch := first | omega | (simp only [lnv]; omega)) only [wlk, ↓get_put', ↓reduceIte, seval, o5.row.l1]
      | (with_reducible (first | apply cd_split | apply gd_split)) <;> (intro hc; (try simp only [hcn] at hc); (try simp only [hc]); (try simp only [hcl] at hc); try omega))
    refine CL.stayU (text_ok (by omega) (re_fl _)) fun h6 s6 => ?_
    repeat' (first
      | refine St.h ?_
      | simp (disch := first | omega | (simp only [lnv]; omega)) only [wlk, ↓get_put', ↓reduceIte, seval]
      | (with_reducible (first | apply cd_split | apply gd_split)) <;> (intro hc; (try simp only [hcn] at hc); (try simp only [hc]); (try simp only [hcl] at hc); try omega))
    subst hQ
    exact ⟨by rw [hb]; simp, ((s1.trans s3).trans s5).trans s6⟩
theorem bbytes_ok {h : H} {v : V} {seq : Int} {L : List Wri} (hL : Ws h v L) (hl : L.length ≤ 10000) (hs : -9223372036854775808 ≤ seq) (hs2 : seq ≤ 9223372036854775807) (hf : B.val h.floor ≤ B.val h.next) : FnOk Try.prog 36 [.i .i64 seq, v] h fun y h' => y = .tu [sv (bytB seq L).1, .i .i64 (bytB seq L).2] ∧ Stay nowhere h h' := by
  refine fn_go c36 (by intro hb; cases hb) (by simp) (by simp) fun Q hQ => ?_
  simp only [slotsF, Nat.reduceAdd]
  repeat' (first
    | refine St.h ?_
    | simp (disch := first | omega | (simp only [lnv]; omega)) only [wlk, ↓get_put', ↓reduceIte, seval]
    | (with_reducible (first | apply cd_split | apply gd_split)) <;> (intro hc; (try simp only [hcn] at hc); (try simp only [hc]); (try simp only [hcl] at hc); try omega))
  refine CL.stay (bis_ok hL hl hf) fun h1 s1 => ?_
  have hf1 := s1.fl hf
  have hL1 := hL.grow s1
  have hno : okB12 seq L = false → bytB seq L = ([], 10) := fun e => by unfold bytB; rw [e]; rfl
  cases hB : isB L with
  | false =>
    have e := hno (by unfold okB12; rw [hB]; rfl)
    repeat' (first
      | refine St.h ?_
      | simp (disch := first | omega | (simp only [lnv]; omega)) only [wlk, ↓get_put', ↓reduceIte, seval]
      | (with_reducible (first | apply cd_split | apply gd_split)) <;> (intro hc; (try simp only [hcn] at hc); (try simp only [hc]); (try simp only [hcl] at hc); try omega))
    subst hQ
    exact ⟨by rw [e], s1⟩
  | true =>
  by_cases q1 : seq < 1
  · have e := hno (by unfold okB12; rw [hB, decide_eq_false (by omega)]; rfl)
    repeat' (first
      | refine St.h ?_
      | simp (disch := first | omega | (simp only [lnv]; omega)) only [wlk, ↓get_put', ↓reduceIte, seval]
      | (with_reducible (first | apply cd_split | apply gd_split)) <;> (intro hc; (try simp only [hcn] at hc); (try simp only [hc]); (try simp only [hcl] at hc); try omega))
    subst hQ
    exact ⟨by rw [e], s1⟩
  by_cases q2 : 1000000 < seq
  · have e := hno (by unfold okB12; rw [hB, decide_eq_false (by omega)]; rfl)
    repeat' (first
      | refine St.h ?_
      | simp (disch := first | omega | (simp only [lnv]; omega)) only [wlk, ↓get_put', ↓reduceIte, seval]
      | (with_reducible (first | apply cd_split | apply gd_split)) <;> (intro hc; (try simp only [hcn] at hc); (try simp only [hc]); (try simp only [hcl] at hc); try omega))
    subst hQ
    exact ⟨by rw [e], s1⟩
  have e : bytB seq L = (batB seq L, 0) := by unfold bytB okB12; rw [hB, decide_eq_true (by omega)]; rfl
  have ln := numB_len (n := seq.toNat) (by omega)
  have ln2 := numB_len (n := L.length) (by omega)
  have lr := rowsB_len hB
  have en : ((L.length : Int)).toNat = L.length := by omega
  repeat' (first
    | refine St.h ?_
    | simp (disch := first | omega | (simp only [lnv]; omega)) only [wlk, ↓get_put', ↓reduceIte, seval]
    | (with_reducible (first | apply cd_split | apply gd_split)) <;> (intro hc; (try simp only [hcn] at hc); (try simp only [hc]); (try simp only [hcl] at hc); try omega))
  refine AL.ownE (by simp) hf1 fun h2 s2 n2 o2 => ?_
  have hf2 := s2.fl hf1
  have sb : Sb h2 (B.val h1.next) 77 5 h1.next (fun i => i = h1.next) [] :=
    ⟨⟨.p0, .l0, o2, .inl rfl, Buf.nil _ _ _, fun i hi => absurd hi (by rintro ⟨_, _, _, _, _, e⟩; cases e), by rintro ⟨_, _, _, _, _, e⟩; cases e⟩, rfl, fun i hi => by rw [hi]; exact ⟨Nat.le_refl _, by omega⟩⟩
  repeat' (first
    | refine St.h ?_
    | simp (disch := first | omega | (simp only [lnv]; omega)) only [wlk, ↓get_put', ↓reduceIte, seval]
    | (with_reducible (first | apply cd_split | apply gd_split)) <;> (intro hc; (try simp only [hcn] at hc); (try simp only [hc]); (try simp only [hcl] at hc); try omega))
  refine CL.stay (num_ok (by omega) hf2) fun h3 s3 => ?_
  have hf3 := s3.fl hf2
  have sb3 := sb.stay s3 fun _ _ h => h
  have a3 := s2.trans s3
  repeat' (first
    | refine St.h ?_
    | simp (disch := first | omega | (simp only [lnv]; omega)) only [wlk, ↓get_put', ↓reduceIte, seval]
    | (with_reducible (first | apply cd_split | apply gd_split)) <;> (intro hc; (try simp only [hcn] at hc); (try simp only [hc]); (try simp only [hcl] at hc); try omega))
  refine CL.mk (writeString_ok sb3 (by simp; omega) hf3) ?_
  rintro _ h4 ⟨U4, sb4, s4, hU4⟩
  have hf4 := s4.fl hf3
  have a4 := a3.past' s4 fun q hq => (sb3.lo q hq).1
  have hL4 := hL1.grow a4
  repeat' (first
    | refine St.h ?_
    | simp (disch := first | omega | (simp only [lnv]; omega)) only [wlk, ↓get_put', ↓reduceIte, seval, hL4.ln]
    | (with_reducible (first | apply cd_split | apply gd_split)) <;> (intro hc; (try simp only [hcn] at hc); (try simp only [hc]); (try simp only [hcl] at hc); try omega))
  refine CL.stay (num_ok (by omega) hf4) fun h5 s5 => ?_
  have hf5 := s5.fl hf4
  have sb5 := sb4.stay s5 fun _ _ h => h
  have a5 := a4.trans s5
  repeat' (first
    | refine St.h ?_
    | simp (disch := first | omega | (simp only [lnv]; omega)) only [wlk, ↓get_put', ↓reduceIte, seval, en]
    | (with_reducible (first | apply cd_split | apply gd_split)) <;> (intro hc; (try simp only [hcn] at hc); (try simp only [hc]); (try simp only [hcl] at hc); try omega))
  refine CL.mk (writeString_ok sb5 (by simp; omega) hf5) ?_
  rintro _ h6 ⟨U6, sb6, s6, hU6⟩
  have hf6 := s6.fl hf5
  have a6 := a5.past' s6 fun q hq => (sb5.lo q hq).1
  have hL6 := hL1.grow a6
  repeat' (first
    | refine St.h ?_
    | simp (disch := first | omega | (simp only [lnv]; omega)) only [wlk, ↓get_put', ↓reduceIte, seval, hL6.ln]
    | (with_reducible (first | apply cd_split | apply gd_split)) <;> (intro hc; (try simp only [hcn] at hc); (try simp only [hc]); (try simp only [hcl] at hc); try omega))
  refine Ok.lp (fun m t g => ∃ (j : Nat) (U : B → Prop), m = L.length - j ∧ j ≤ L.length ∧ Stay nowhere h1 g ∧ Sb g (B.val h1.next) 77 5 h1.next U (numB seq.toNat ++ (numB L.length ++ (L.take j).flatMap oneB)) ∧ get 6 t = .p h1.next 0 0 2 ∧ get 27 t = v ∧ get 28 t = .i .i64 (L.length : Int) ∧ get 29 t = .i .i64 (j : Int)) L.length ?_ ?_
  · simp (disch := first | omega | (simp only [lnv]; omega)) only [wlk, ↓get_put', ↓reduceIte, seval]
    refine ⟨0, U6, by omega, by omega, a6, by simpa using sb6, ?_⟩
    repeat' (first | trivial | rfl | refine And.intro ?_ ?_)
  rintro I hI m t g ⟨j, U, rfl, hj, st, sbg, f6, f27, f28, f29⟩
  have hfg := st.fl hf1
  have hLg := hL1.grow st
  have hrl := rows_len hB hj
  by_cases hjl : j < L.length
  case neg =>
    obtain rfl : j = L.length := by omega
    have d1 : ((L.length : Int) < (L.length : Int)) = False := eq_false (by omega)
    rw [List.take_length] at sbg
    repeat' (first
      | refine St.h ?_
      | simp (disch := first | omega | (simp only [lnv]; omega)) only [wlk, ↓get_put', ↓reduceIte, seval, f6, f27, f28, f29, d1]
      | (with_reducible (first | apply cd_split | apply gd_split)) <;> (intro hc; (try simp only [hcn] at hc); (try simp only [hc]); (try simp only [hcl] at hc); try omega))
    refine CL.mk (string_ok sbg (by have : (numB L.length ++ L.flatMap oneB).length ≤ 500 := lr; rw [List.length_append]; omega)) ?_
    rintro _ g2 ⟨rfl, t2⟩
    have st2 := st.past' t2 fun i hi => (sbg.lo i hi).1
    repeat' (first
      | refine St.h ?_
      | simp (disch := first | omega | (simp only [lnv]; omega)) only [wlk, ↓get_put', ↓reduceIte, seval]
      | (with_reducible (first | apply cd_split | apply gd_split)) <;> (intro hc; (try simp only [hcn] at hc); (try simp only [hc]); (try simp only [hcl] at hc); try omega))
    refine CL.stay (seal_ok (by have : (numB L.length ++ L.flatMap oneB).length ≤ 500 := lr; rw [List.length_append]; omega) (st2.fl hf1)) fun g3 t3 => ?_
    repeat' (first
      | refine St.h ?_
      | simp (disch := first | omega | (simp only [lnv]; omega)) only [wlk, ↓get_put', ↓reduceIte, seval]
      | (with_reducible (first | apply cd_split | apply gd_split)) <;> (intro hc; (try simp only [hcn] at hc); (try simp only [hc]); (try simp only [hcl] at hc); try omega))
    subst hQ
    exact ⟨by rw [e]; rfl, s1.trans (st2.trans t3)⟩
  have d1 : ((j : Int) < (L.length : Int)) = True := eq_true (by omega)
  have hr := isR_len (upA_is (isB_up hB hjl))
  have h1l := oneB_len (upA_is (isB_up hB hjl))
  have hcat := rowsB_take hjl
  repeat' (first
    | refine St.h ?_
    | simp (disch := first | omega | (simp only [lnv]; omega)) only [wlk, ↓get_put', ↓reduceIte, seval, f6, f27, f28, f29, d1, hLg.ix, hLg.la, Int.toNat_natCast]
    | (with_reducible (first | apply cd_split | apply gd_split)) <;> (intro hc; (try simp only [hcn] at hc); (try simp only [hc]); (try simp only [hcl] at hc); try omega))
  refine AL.own (by simp) hfg fun g1 t1 _ o1 => ?_
  have hf1' := t1.fl hfg
  repeat' (first
    | refine St.h ?_
    | simp (disch := first | omega | (simp only [lnv]; omega)) only [wlk, ↓get_put', ↓reduceIte, seval, f6, f27, f28, f29]
    | (with_reducible (first | apply cd_split | apply gd_split)) <;> (intro hc; (try simp only [hcn] at hc); (try simp only [hc]); (try simp only [hcl] at hc); try omega))
  refine ST.all o1 rfl rfl (by simp) (by simp) fun g2 o2 t2 => ?_
  have hf2' := t2.fl hf1'
  have tt : Stay nowhere g g2 := t1.past' t2 fun q hq => by rw [hq]; exact Nat.le_refl _
  have sb2 := sbg.stay tt fun _ _ h => h
  repeat' (first
    | refine St.h ?_
    | simp (disch := first | omega | (simp only [lnv]; omega)) only [wlk, ↓get_put', ↓reduceIte, seval, f6, f27, f28, f29, o2.row.ln]
    | (with_reducible (first | apply cd_split | apply gd_split)) <;> (intro hc; (try simp only [hcn] at hc); (try simp only [hc]); (try simp only [hcl] at hc); try omega))
  refine CL.stay (blay_ok (w := L.getD j default) (by omega) (by omega) hf2') fun g3 t3 => ?_
  have sb3 := sb2.stay t3 fun _ _ h => h
  repeat' (first
    | refine St.h ?_
    | simp (disch := first | omega | (simp only [lnv]; omega)) only [wlk, ↓get_put', ↓reduceIte, seval, f6, f27, f28, f29]
    | (with_reducible (first | apply cd_split | apply gd_split)) <;> (intro hc; (try simp only [hcn] at hc); (try simp only [hc]); (try simp only [hcl] at hc); try omega))
  refine CL.mk (writeString_ok sb3 (by simp only [List.length_append]; omega) (t3.fl hf2')) ?_
  rintro _ g4 ⟨U4, sb4, t4, hU4⟩
  repeat' (first
    | refine St.h ?_
    | simp (disch := first | omega | (simp only [lnv]; omega)) only [wlk, ↓get_put', ↓reduceIte, seval, f6, f27, f28, f29]
    | (with_reducible (first | apply cd_split | apply gd_split)) <;> (intro hc; (try simp only [hcn] at hc); (try simp only [hc]); (try simp only [hcl] at hc); try omega))
  refine lp_next hI (L.length - (j + 1)) (by omega) ⟨j + 1, U4, rfl, by omega, ((st.trans tt).trans t3).past' t4 fun q hq => (sb3.lo q hq).1, by rw [hcat, ← List.append_assoc]; exact sb4, by simp (disch := first | omega | (simp only [lnv]; omega)) only [wlk, ↓get_put', ↓reduceIte, seval, f6], by simp (disch := first | omega | (simp only [lnv]; omega)) only [wlk, ↓get_put', ↓reduceIte, seval, f27], by simp (disch := first | omega | (simp only [lnv]; omega)) only [wlk, ↓get_put', ↓reduceIte, seval, f28], by simp (disch := first | omega | (simp only [lnv]; omega)) only [wlk, ↓get_put', ↓reduceIte, seval, f29]; rfl⟩
theorem btake_ok {h : H} {s : List UInt8} (hs : s.length ≤ 1000000) (hf : B.val h.floor ≤ B.val h.next) : FnOk Try.prog 59 [sv s] h fun y h' => ∃ (w : Wri) (k : Nat) (b : Bool), y = .tu [.a (wriC w), .i .i64 (k : Int), .b b] ∧ Stay nowhere h h' ∧ (b = false → tkP s = none) ∧ (b = true → tkP s = some (w, k) ∧ 1 ≤ k ∧ k ≤ s.length) := by
  refine fn_go c59 (by intro hb; cases hb) (by simp) (by simp) fun Q hQ => ?_
  simp only [slotsF, Nat.reduceAdd]
  repeat' (first
    | refine St.h ?_
    | simp (disch := first | omega | (simp only [lnv]; omega)) only [wlk, ↓get_put', ↓reduceIte, seval]
    | (with_reducible (first | apply cd_split | apply gd_split)) <;> (intro hc; (try simp only [hcn] at hc); (try simp only [hc]); (try simp only [hcl] at hc); try omega))
  refine AL.own (by simp) hf fun h1 s1 n1 o1 => ?_
  have hf1 := s1.fl hf
  repeat' (first
    | refine St.h ?_
    | simp (disch := first | omega | (simp only [lnv]; omega)) only [wlk, ↓get_put', ↓reduceIte, seval]
    | (with_reducible (first | apply cd_split | apply gd_split)) <;> (intro hc; (try simp only [hcn] at hc); (try simp only [hc]); (try simp only [hcl] at hc); try omega))
  refine CL.pure (takeText_ok hs) ?_
  have hz0 : ((10 : Int) = 0) = False := eq_false (by decide)
  have hz1 : ((12 : Int) = 0) = False := eq_false (by decide)
  have no : ∀ {g : H} {w : Wri} {k : Nat}, Stay nowhere h g → tkP s = none → ∃ (w' : Wri) (k' : Nat) (b : Bool), V.tu [.a [sv w.key, .b w.del, sv w.val], .i .i64 (k : Int), .b false] = .tu [.a (wriC w'), .i .i64 (k' : Int), .b b] ∧ Stay nowhere h g ∧ (b = false → tkP s = none) ∧ (b = true → tkP s = some (w', k') ∧ 1 ≤ k' ∧ k' ≤ s.length) := fun {g w k} st en => ⟨w, k, false, rfl, st, fun _ => en, fun h => by cases h⟩
  have past : ∀ {g2 : H}, Stay (fun i => i = h.next) h1 g2 → Stay nowhere h g2 := fun t2 => s1.past' t2 fun q hq => by rw [hq]; exact Nat.le_refl _
  rcases takeT_range s with (e1 | e1) | ⟨x, q, e1, q1, q2, q3⟩
  · have en : tkP s = none := by unfold tkP; rw [e1]; rfl
    repeat' (first
      | refine St.h ?_
      | simp (disch := first | omega | (simp only [lnv]; omega)) only [wlk, ↓get_put', ↓reduceIte, seval, e1, triT, hz0]
      | (with_reducible (first | apply cd_split | apply gd_split)) <;> (intro hc; (try simp only [hcn] at hc); (try simp only [hc]); (try simp only [hcl] at hc); try omega))
    refine ST.all o1 rfl rfl (by simp) (by simp) fun g2 o2 t2 => ?_
    repeat' (first
      | refine St.h ?_
      | simp (disch := first | omega | (simp only [lnv]; omega)) only [wlk, ↓get_put', ↓reduceIte, seval, o2.row.ln, o2.ra3]
      | (with_reducible (first | apply cd_split | apply gd_split)) <;> (intro hc; (try simp only [hcn] at hc); (try simp only [hc]); (try simp only [hcl] at hc); try omega))
    subst hQ
    exact no (w := ⟨[], false, []⟩) (k := 0) (past t2) en
  · have en : tkP s = none := by unfold tkP; rw [e1]; rfl
    repeat' (first
      | refine St.h ?_
      | simp (disch := first | omega | (simp only [lnv]; omega)) only [wlk, ↓get_put', ↓reduceIte, seval, e1, triT, hz1]
      | (with_reducible (first | apply cd_split | apply gd_split)) <;> (intro hc; (try simp only [hcn] at hc); (try simp only [hc]); (try simp only [hcl] at hc); try omega))
    refine ST.all o1 rfl rfl (by simp) (by simp) fun g2 o2 t2 => ?_
    repeat' (first
      | refine St.h ?_
      | simp (disch := first | omega | (simp only [lnv]; omega)) only [wlk, ↓get_put', ↓reduceIte, seval, o2.row.ln, o2.ra3]
      | (with_reducible (first | apply cd_split | apply gd_split)) <;> (intro hc; (try simp only [hcn] at hc); (try simp only [hc]); (try simp only [hcl] at hc); try omega))
    subst hQ
    exact no (w := ⟨[], false, []⟩) (k := 0) (past t2) en
  by_cases hqe : q = s.length
  · have en : tkP s = none := by unfold tkP; rw [e1, if_pos (Or.inr (by show (q : Int) = (s.length : Int); omega))]
    have hq : ((q : Int) = (s.length : Int)) = True := eq_true (by omega)
    repeat' (first
      | refine St.h ?_
      | simp (disch := first | omega | (simp only [lnv]; omega)) only [wlk, ↓get_put', ↓reduceIte, seval, e1, triT, hq]
      | (with_reducible (first | apply cd_split | apply gd_split)) <;> (intro hc; (try simp only [hcn] at hc); (try simp only [hc]); (try simp only [hcl] at hc); try omega))
    refine ST.all o1 rfl rfl (by simp) (by simp) fun g2 o2 t2 => ?_
    repeat' (first
      | refine St.h ?_
      | simp (disch := first | omega | (simp only [lnv]; omega)) only [wlk, ↓get_put', ↓reduceIte, seval, o2.row.ln, o2.ra3]
      | (with_reducible (first | apply cd_split | apply gd_split)) <;> (intro hc; (try simp only [hcn] at hc); (try simp only [hc]); (try simp only [hcl] at hc); try omega))
    subst hQ
    exact no (w := ⟨[], false, []⟩) (k := 0) (past t2) en
  have hq : ((q : Int) = (s.length : Int)) = False := eq_false (by omega)
  have eq1 : (q : Int).toNat = q := by omega
  have hb := (s.getD q 0).toNat_lt
  have eq2 : ((q : Int) + 1).toNat = q + 1 := by omega
  have hdl : (s.drop (q + 1)).length = s.length - (q + 1) := List.length_drop
  have hT : tkP s = if s.getD q 0 = 0 then
    (if (takeT (s.drop (q + 1))).2.2 ≠ 0 then none else some (⟨x, false, (takeT (s.drop (q + 1))).1⟩, q + 1 + (takeT (s.drop (q + 1))).2.1.toNat))
    else if s.getD q 0 = 1 then some (⟨x, true, []⟩, q + 1) else none := by
    unfold tkP
    rw [e1]
    show (if (0 : Int) ≠ 0 ∨ (q : Int) = (s.length : Int) then none else _) = _
    rw [if_neg (by omega), eq1]
  by_cases c0 : s.getD q 0 = 0
  · have d0 : (((s.getD q 0).toNat : Int) = 0) = True := eq_true (by rw [c0]; rfl)
    rw [if_pos c0] at hT
    repeat' (first
      | refine St.h ?_
      | simp (disch := first | omega | (simp only [lnv]; omega)) only [wlk, ↓get_put', ↓reduceIte, seval, e1, triT, hq, d0, eq2]
      | (with_reducible (first | apply cd_split | apply gd_split)) <;> (intro hc; (try simp only [hcn] at hc); (try simp only [hc]); (try simp only [hcl] at hc); try omega))
    refine CL.pure (takeText_ok (by omega)) ?_
    rcases takeT_range (s.drop (q + 1)) with (e2 | e2) | ⟨x2, r, e2, r1, r2, r3⟩
    · have en : tkP s = none := by rw [hT, e2]; rfl
      repeat' (first
        | refine St.h ?_
        | simp (disch := first | omega | (simp only [lnv]; omega)) only [wlk, ↓get_put', ↓reduceIte, seval, e2, triT, hz0]
        | (with_reducible (first | apply cd_split | apply gd_split)) <;> (intro hc; (try simp only [hcn] at hc); (try simp only [hc]); (try simp only [hcl] at hc); try omega))
      refine ST.all o1 rfl rfl (by simp) (by simp) fun g2 o2 t2 => ?_
      repeat' (first
        | refine St.h ?_
        | simp (disch := first | omega | (simp only [lnv]; omega)) only [wlk, ↓get_put', ↓reduceIte, seval, o2.row.ln, o2.ra3]
        | (with_reducible (first | apply cd_split | apply gd_split)) <;> (intro hc; (try simp only [hcn] at hc); (try simp only [hc]); (try simp only [hcl] at hc); try omega))
      subst hQ
      exact no (w := ⟨x, false, []⟩) (k := q + 1) (past t2) en
    · have en : tkP s = none := by rw [hT, e2]; rfl
      repeat' (first
        | refine St.h ?_
        | simp (disch := first | omega | (simp only [lnv]; omega)) only [wlk, ↓get_put', ↓reduceIte, seval, e2, triT, hz1]
        | (with_reducible (first | apply cd_split | apply gd_split)) <;> (intro hc; (try simp only [hcn] at hc); (try simp only [hc]); (try simp only [hcl] at hc); try omega))
      refine ST.all o1 rfl rfl (by simp) (by simp) fun g2 o2 t2 => ?_
      repeat' (first
        | refine St.h ?_
        | simp (disch := first | omega | (simp only [lnv]; omega)) only [wlk, ↓get_put', ↓reduceIte, seval, o2.row.ln, o2.ra3]
        | (with_reducible (first | apply cd_split | apply gd_split)) <;> (intro hc; (try simp only [hcn] at hc); (try simp only [hc]); (try simp only [hcl] at hc); try omega))
      subst hQ
      exact no (w := ⟨x, false, []⟩) (k := q + 1) (past t2) en
    · have er : (r : Int).toNat = r := by omega
      have en : tkP s = some (⟨x, false, x2⟩, q + 1 + r) := by
        rw [hT, e2]
        show (if (0 : Int) ≠ 0 then none else some ((⟨x, false, x2⟩ : Wri), q + 1 + (r : Int).toNat)) = _
        rw [if_neg (by omega), er]
      repeat' (first
        | refine St.h ?_
        | simp (disch := first | omega | (simp only [lnv]; omega)) only [wlk, ↓get_put', ↓reduceIte, seval, e2, triT]
        | (with_reducible (first | apply cd_split | apply gd_split)) <;> (intro hc; (try simp only [hcn] at hc); (try simp only [hc]); (try simp only [hcl] at hc); try omega))
      refine ST.all o1 rfl rfl (by simp) (by simp) fun g2 o2 t2 => ?_
      repeat' (first
        | refine St.h ?_
        | simp (disch := first | omega | (simp only [lnv]; omega)) only [wlk, ↓get_put', ↓reduceIte, seval, o2.row.ln, o2.ra3]
        | (with_reducible (first | apply cd_split | apply gd_split)) <;> (intro hc; (try simp only [hcn] at hc); (try simp only [hc]); (try simp only [hcl] at hc); try omega))
      subst hQ
      refine ⟨⟨x, false, x2⟩, q + 1 + r, true, rfl, past t2, (fun h => by cases h), fun _ => ⟨en, by omega, by omega⟩⟩
  have d0 : (((s.getD q 0).toNat : Int) = 0) = False := eq_false fun e => c0 (by apply UInt8.toNat_inj.1; show (s.getD q 0).toNat = 0; omega)
  rw [if_neg c0] at hT
  by_cases c1 : s.getD q 0 = 1
  · have d1 : (((s.getD q 0).toNat : Int) = 1) = True := eq_true (by rw [c1]; rfl)
    rw [if_pos c1] at hT
    repeat' (first
      | refine St.h ?_
      | simp (disch := first | omega | (simp only [lnv]; omega)) only [wlk, ↓get_put', ↓reduceIte, seval, e1, triT, hq, d0, d1, eq2]
      | (with_reducible (first | apply cd_split | apply gd_split)) <;> (intro hc; (try simp only [hcn] at hc); (try simp only [hc]); (try simp only [hcl] at hc); try omega))
    refine ST.all o1 rfl rfl (by simp) (by simp) fun g2 o2 t2 => ?_
    repeat' (first
      | refine St.h ?_
      | simp (disch := first | omega | (simp only [lnv]; omega)) only [wlk, ↓get_put', ↓reduceIte, seval, o2.row.ln, o2.ra3]
      | (with_reducible (first | apply cd_split | apply gd_split)) <;> (intro hc; (try simp only [hcn] at hc); (try simp only [hc]); (try simp only [hcl] at hc); try omega))
    subst hQ
    refine ⟨⟨x, true, []⟩, q + 1, true, rfl, past t2, (fun h => by cases h), fun _ => ⟨hT, by omega, by omega⟩⟩
  · have d1 : (((s.getD q 0).toNat : Int) = 1) = False := eq_false fun e => c1 (by apply UInt8.toNat_inj.1; show (s.getD q 0).toNat = 1; omega)
    rw [if_neg c1] at hT
    repeat' (first
      | refine St.h ?_
      | simp (disch := first | omega | (simp only [lnv]; omega)) only [wlk, ↓get_put', ↓reduceIte, seval, e1, triT, hq, d0, d1, eq2]
      | (with_reducible (first | apply cd_split | apply gd_split)) <;> (intro hc; (try simp only [hcn] at hc); (try simp only [hc]); (try simp only [hcl] at hc); try omega))
    refine ST.all o1 rfl rfl (by simp) (by simp) fun g2 o2 t2 => ?_
    repeat' (first
      | refine St.h ?_
      | simp (disch := first | omega | (simp only [lnv]; omega)) only [wlk, ↓get_put', ↓reduceIte, seval, o2.row.ln, o2.ra3]
      | (with_reducible (first | apply cd_split | apply gd_split)) <;> (intro hc; (try simp only [hcn] at hc); (try simp only [hc]); (try simp only [hcl] at hc); try omega))
    subst hQ
    exact no (w := ⟨[], false, []⟩) (k := 0) (past t2) hT
theorem btakeAll_ok {h : H} {s : List UInt8} (hs : s.length ≤ 1000000) (hf : B.val h.floor ≤ B.val h.next) : FnOk Try.prog 57 [sv s] h fun y h' => ∃ u, y = .tu [.i .i64 (taP s).1, u] ∧ Ws h' u (taP s).2 ∧ (∀ q, isOf u q → B.val h.next ≤ B.val q) ∧ Stay nowhere h h' := by
  refine fn_go c57 (by intro hb; cases hb) (by simp) (by simp) fun Q hQ => ?_
  simp only [slotsF, Nat.reduceAdd]
  repeat' (first
    | refine St.h ?_
    | simp (disch := first | omega | (simp only [lnv]; omega)) only [wlk, ↓get_put', ↓reduceIte, seval]
    | (with_reducible (first | apply cd_split | apply gd_split)) <;> (intro hc; (try simp only [hcn] at hc); (try simp only [hc]); (try simp only [hcl] at hc); try omega))
  refine CL.pure (takeNum_ok hs) ?_
  have hz0 : ((10 : Int) = 0) = False := eq_false (by decide)
  have hz1 : ((12 : Int) = 0) = False := eq_false (by decide)
  have no : ∀ {g : H}, Stay nowhere h g → taP s = (0, []) → ∃ u, V.tu [.i .i64 0, .l0] = .tu [.i .i64 (taP s).1, u] ∧ Ws g u (taP s).2 ∧ (∀ q, isOf u q → B.val h.next ≤ B.val q) ∧ Stay nowhere h g := fun {g} st e => by
    rw [e]; exact ⟨.l0, rfl, Ss.nil, (fun q hq => by obtain ⟨_, _, _, _, _, e⟩ := hq; cases e), st⟩
  rcases takeN_range s with (e1 | e1) | ⟨z, q, e1, z1, q1, q2, q3⟩
  · have en : taP s = (0, []) := by unfold taP; rw [e1]; rfl
    repeat' (first
      | refine St.h ?_
      | simp (disch := first | omega | (simp only [lnv]; omega)) only [wlk, ↓get_put', ↓reduceIte, seval, e1, tri, hz0]
      | (with_reducible (first | apply cd_split | apply gd_split)) <;> (intro hc; (try simp only [hcn] at hc); (try simp only [hc]); (try simp only [hcl] at hc); try omega))
    subst hQ
    exact no (Stay.refl _ _) en
  · have en : taP s = (0, []) := by unfold taP; rw [e1]; rfl
    repeat' (first
      | refine St.h ?_
      | simp (disch := first | omega | (simp only [lnv]; omega)) only [wlk, ↓get_put', ↓reduceIte, seval, e1, tri, hz1]
      | (with_reducible (first | apply cd_split | apply gd_split)) <;> (intro hc; (try simp only [hcn] at hc); (try simp only [hc]); (try simp only [hcl] at hc); try omega))
    subst hQ
    exact no (Stay.refl _ _) en
  have eq1 : (q : Int).toNat = q := by omega
  have hdl : (s.drop q).length = s.length - q := List.length_drop
  have hT : taP s = if (takeN (s.drop q)).2.2 ≠ 0 ∨ 8 < (takeN (s.drop q)).1 then ((0 : Int), ([] : List Wri)) else match tksP (takeN (s.drop q)).1.toNat ((s.drop q).drop (takeN (s.drop q)).2.1.toNat) with | none => ((0 : Int), ([] : List Wri)) | some l => ((z : Int), l) := by
    unfold taP
    rw [e1]
    show (if (0 : Int) ≠ 0 then _ else _ : Int × List Wri) = _
    rw [if_neg (by omega), eq1]
    all_goals rfl
  repeat' (first
    | refine St.h ?_
    | simp (disch := first | omega | (simp only [lnv]; omega)) only [wlk, ↓get_put', ↓reduceIte, seval, e1, tri, eq1]
    | (with_reducible (first | apply cd_split | apply gd_split)) <;> (intro hc; (try simp only [hcn] at hc); (try simp only [hc]); (try simp only [hcl] at hc); try omega))
  refine CL.pure (takeNum_ok (by omega)) ?_
  rcases takeN_range (s.drop q) with (e2 | e2) | ⟨n, k, e2, n1, k1, k2, k3⟩
  · have en : taP s = (0, []) := by rw [hT, e2]; rfl
    repeat' (first
      | refine St.h ?_
      | simp (disch := first | omega | (simp only [lnv]; omega)) only [wlk, ↓get_put', ↓reduceIte, seval, e2, tri, hz0]
      | (with_reducible (first | apply cd_split | apply gd_split)) <;> (intro hc; (try simp only [hcn] at hc); (try simp only [hc]); (try simp only [hcl] at hc); try omega))
    subst hQ
    exact no (Stay.refl _ _) en
  · have en : taP s = (0, []) := by rw [hT, e2]; rfl
    repeat' (first
      | refine St.h ?_
      | simp (disch := first | omega | (simp only [lnv]; omega)) only [wlk, ↓get_put', ↓reduceIte, seval, e2, tri, hz1]
      | (with_reducible (first | apply cd_split | apply gd_split)) <;> (intro hc; (try simp only [hcn] at hc); (try simp only [hc]); (try simp only [hcl] at hc); try omega))
    subst hQ
    exact no (Stay.refl _ _) en
  rw [hdl] at k3
  have ek : (k : Int).toNat = k := by omega
  have en' : (n : Int).toNat = n := by omega
  have hdd : (s.drop q).drop k = s.drop (q + k) := by rw [List.drop_drop]
  by_cases h8 : 8 < n
  · have en : taP s = (0, []) := by rw [hT, e2, if_pos (Or.inr (by show (8 : Int) < (n : Int); omega))]
    have hc8 : ((8 : Int) < (n : Int)) = True := eq_true (by omega)
    repeat' (first
      | refine St.h ?_
      | simp (disch := first | omega | (simp only [lnv]; omega)) only [wlk, ↓get_put', ↓reduceIte, seval, e2, tri, hc8]
      | (with_reducible (first | apply cd_split | apply gd_split)) <;> (intro hc; (try simp only [hcn] at hc); (try simp only [hc]); (try simp only [hcl] at hc); try omega))
    subst hQ
    exact no (Stay.refl _ _) en
  have hT : taP s = match tksP n (s.drop (q + k)) with | none => ((0 : Int), ([] : List Wri)) | some l => ((z : Int), l) := by
    rw [hT, e2]
    show (if (0 : Int) ≠ 0 ∨ (8 : Int) < (n : Int) then _ else _ : Int × List Wri) = _
    rw [if_neg (by omega), en', ek, hdd]
  have hc8 : ((8 : Int) < (n : Int)) = False := eq_false (by omega)
  repeat' (first
    | refine St.h ?_
    | simp (disch := first | omega | (simp only [lnv]; omega)) only [wlk, ↓get_put', ↓reduceIte, seval, e2, tri, hc8]
    | (with_reducible (first | apply cd_split | apply gd_split)) <;> (intro hc; (try simp only [hcn] at hc); (try simp only [hc]); (try simp only [hcl] at hc); try omega))
  refine Ok.lp (fun m t g => ∃ (j a : Nat) (u : V) (M : List Wri), m = n - j ∧ j ≤ n ∧ a ≤ s.length ∧ M.length = j ∧ tksP n (s.drop (q + k)) = (tksP (n - j) (s.drop a)).map (fun r => M ++ r) ∧ get 0 t = sv s ∧ get 4 t = .i .i64 (z : Int) ∧ get 5 t = .i .i64 (a : Int) ∧ get 9 t = u ∧ get 38 t = .i .i64 (n : Int) ∧ get 39 t = .i .i64 (j : Int) ∧ Buf g 39 3 u (M.flatMap wriC) ∧ (∀ q, isOf u q → B.val h.next ≤ B.val q) ∧ Stay nowhere h g) n ?_ ?_
  · simp (disch := first | omega | (simp only [lnv]; omega)) only [wlk, ↓get_put', ↓reduceIte, seval]
    refine ⟨0, q + k, .l0, [], by omega, by omega, by omega, rfl, ?_, ?_, ?_, ?_, ?_, ?_, ?_, Buf.nil _ _ _, ?_, Stay.refl _ _⟩
    rotate_right
    · rintro i ⟨_, _, _, _, _, e⟩; cases e
    · rw [Nat.sub_zero]; cases tksP n (s.drop (q + k)) <;> simp
    all_goals first | trivial | rfl
  rintro I hI m t g ⟨j, a, u, M, rfl, hj, ha, hM, hR, f0, f4, f5, f9, f38, f39, bf, own, st⟩
  have hfg := st.fl hf
  by_cases hjn : j < n
  case neg =>
    obtain rfl : j = n := by omega
    have d1 : ((j : Int) < (j : Int)) = False := eq_false (by omega)
    rw [Nat.sub_self] at hR
    have e3 : taP s = ((z : Int), M) := by rw [hT, hR]; simp [tksP]
    repeat' (first
      | refine St.h ?_
      | simp (disch := first | omega | (simp only [lnv]; omega)) only [wlk, ↓get_put', ↓reduceIte, seval, f0, f4, f5, f9, f38, f39, d1]
      | (with_reducible (first | apply cd_split | apply gd_split)) <;> (intro hc; (try simp only [hcn] at hc); (try simp only [hc]); (try simp only [hcl] at hc); try omega))
    subst hQ
    rw [e3]
    exact ⟨u, rfl, Ss.buf bf rfl wriC_len (by omega), own, st⟩
  have d1 : ((j : Int) < (n : Int)) = True := eq_true (by omega)
  obtain ⟨d, hd⟩ : ∃ d, n - j = d + 1 := ⟨n - j - 1, by omega⟩
  rw [hd] at hR
  have hal : (s.drop a).length = s.length - a := List.length_drop
  have hR2 : tksP (d + 1) (s.drop a) = (tkP (s.drop a)).bind fun r => (tksP d ((s.drop a).drop r.2)).map (r.1 :: ·) := rfl
  repeat' (first
    | refine St.h ?_
    | simp (disch := first | omega | (simp only [lnv]; omega)) only [wlk, ↓get_put', ↓reduceIte, seval, f0, f4, f5, f9, f38, f39, d1, Int.toNat_natCast]
    | (with_reducible (first | apply cd_split | apply gd_split)) <;> (intro hc; (try simp only [hcn] at hc); (try simp only [hc]); (try simp only [hcl] at hc); try omega))
  refine CL.mk (btake_ok (s := s.drop a) (by omega) hfg) ?_
  rintro _ g1 ⟨w, c, b, rfl, t1, hno, hyes⟩
  have hf1 := t1.fl hfg
  have st1 := st.trans t1
  unfold wriC
  repeat' (first
    | refine St.h ?_
    | simp (disch := first | omega | (simp only [lnv]; omega)) only [wlk, ↓get_put', ↓reduceIte, seval, f0, f4, f5, f9, f38, f39]
    | (with_reducible (first | apply cd_split | apply gd_split)) <;> (intro hc; (try simp only [hcn] at hc); (try simp only [hc]); (try simp only [hcl] at hc); try omega))
  refine AL.own (by simp) hf1 fun g2 t2 _ o2 => ?_
  have hf2 := t2.fl hf1
  repeat' (first
    | refine St.h ?_
    | simp (disch := first | omega | (simp only [lnv]; omega)) only [wlk, ↓get_put', ↓reduceIte, seval, f0, f4, f5, f9, f38, f39]
    | (with_reducible (first | apply cd_split | apply gd_split)) <;> (intro hc; (try simp only [hcn] at hc); (try simp only [hc]); (try simp only [hcl] at hc); try omega))
  refine ST.all o2 rfl rfl (by simp) (by simp) fun g3 o3 t3 => ?_
  have hf3 := t3.fl hf2
  have t13 : Stay nowhere g1 g3 := t2.past' t3 fun q hq => by rw [hq]; exact Nat.le_refl _
  have st3 := st1.trans t13
  have b3 := bf.grow (t1.trans t13)
  cases b with
  | false =>
    have en : taP s = (0, []) := by rw [hT, hR, hR2, hno rfl]; rfl
    repeat' (first
      | refine St.h ?_
      | simp (disch := first | omega | (simp only [lnv]; omega)) only [wlk, ↓get_put', ↓reduceIte, seval, f0, f4, f5, f9, f38, f39]
      | (with_reducible (first | apply cd_split | apply gd_split)) <;> (intro hc; (try simp only [hcn] at hc); (try simp only [hc]); (try simp only [hcl] at hc); try omega))
    subst hQ
    exact no st3 en
  | true =>
    obtain ⟨y1, y2, y3⟩ := hyes rfl
    rw [hal] at y3
    have hdd2 : (s.drop a).drop c = s.drop (a + c) := by rw [List.drop_drop]
    rw [y1] at hR2
    have hR2 : tksP (d + 1) (s.drop a) = (tksP d (s.drop (a + c))).map (w :: ·) := by rw [hR2]; show ((tksP d ((s.drop a).drop c)).map (w :: ·)) = _; rw [hdd2]
    repeat' (first
      | refine St.h ?_
      | simp (disch := first | omega | (simp only [lnv]; omega)) only [wlk, ↓get_put', ↓reduceIte, seval, f0, f4, f5, f9, f38, f39, o3.row.ln]
      | (with_reducible (first | apply cd_split | apply gd_split)) <;> (intro hc; (try simp only [hcn] at hc); (try simp only [hc]); (try simp only [hcl] at hc); try omega))
    refine AL.own (by simp) hf3 fun g4 t4 _ o4 => ?_
    repeat' (first
      | refine St.h ?_
      | simp (disch := first | omega | (simp only [lnv]; omega)) only [wlk, ↓get_put', ↓reduceIte, seval, f0, f4, f5, f9, f38, f39]
      | (with_reducible (first | apply cd_split | apply gd_split)) <;> (intro hc; (try simp only [hcn] at hc); (try simp only [hc]); (try simp only [hcl] at hc); try omega))
    refine push_w (x := w) (b3.grow t4) o4 (by omega) (t4.fl hf3) fun u2 g5 b5 t5 ho => ?_
    have n5 := (st3.trans t4).next
    repeat' (first
      | refine St.h ?_
      | simp (disch := first | omega | (simp only [lnv]; omega)) only [wlk, ↓get_put', ↓reduceIte, seval, f0, f4, f5, f9, f38, f39]
      | (with_reducible (first | apply cd_split | apply gd_split)) <;> (intro hc; (try simp only [hcn] at hc); (try simp only [hc]); (try simp only [hcl] at hc); try omega))
    refine lp_next hI (n - (j + 1)) (by omega) ⟨j + 1, a + c, u2, M ++ [w], rfl, by omega, by omega, by rw [List.length_append, hM]; rfl, ?_, by simp (disch := first | omega | (simp only [lnv]; omega)) only [wlk, ↓get_put', ↓reduceIte, seval, f0], by simp (disch := first | omega | (simp only [lnv]; omega)) only [wlk, ↓get_put', ↓reduceIte, seval, f4], by simp (disch := first | omega | (simp only [lnv]; omega)) only [wlk, ↓get_put', ↓reduceIte, seval, f5]; rfl, by simp (disch := first | omega | (simp only [lnv]; omega)) only [wlk, ↓get_put', ↓reduceIte, seval], by simp (disch := first | omega | (simp only [lnv]; omega)) only [wlk, ↓get_put', ↓reduceIte, seval, f38], by simp (disch := first | omega | (simp only [lnv]; omega)) only [wlk, ↓get_put', ↓reduceIte, seval, f39]; rfl, b5, fun i hi => ?_, (st3.trans t4).past' t5 fun q hq => own q hq⟩
    · rw [hR, hR2, show n - (j + 1) = d by omega]
      cases tksP d (s.drop (a + c)) <;> simp
    · rcases ho i hi with h3 | h3
      · exact own i h3
      · omega
theorem bread_ok12 {h : H} {s : List UInt8} (hs : s.length ≤ 200000) (hf : B.val h.floor ≤ B.val h.next) : FnOk Try.prog 53 [sv s] h fun y h' => ∃ u, y = rdV u (readR s) ∧ Ws h' u (readR s).2.1 ∧ (∀ q, isOf u q → B.val h.next ≤ B.val q) ∧ Stay nowhere h h' := by
  refine fn_go c53 (by intro hb; cases hb) (by simp) (by simp) fun Q hQ => ?_
  simp only [slotsF, Nat.reduceAdd]
  repeat' (first
    | refine St.h ?_
    | simp (disch := first | omega | (simp only [lnv]; omega)) only [wlk, ↓get_put', ↓reduceIte, seval]
    | (with_reducible (first | apply cd_split | apply gd_split)) <;> (intro hc; (try simp only [hcn] at hc); (try simp only [hc]); (try simp only [hcl] at hc); try omega))
  refine CL.stay (open_ok (by omega) hf) fun h1 s1 => ?_
  have hf1 := s1.fl hf
  have hend : ∀ {g : H} (e : Int), Stay nowhere h g → readR s = (0, [], 0, e) → ∃ u, V.tu [.i .i64 0, .l0, .i .i64 0, .i .i64 e] = rdV u (readR s) ∧ Ws g u (readR s).2.1 ∧ (∀ q, isOf u q → B.val h.next ≤ B.val q) ∧ Stay nowhere h g := fun {g} e st e1 => by
    rw [e1]
    exact ⟨.l0, rfl, Ss.nil, (fun q hq => by obtain ⟨_, _, _, _, _, e⟩ := hq; cases e), st⟩
  have hz1 : ((12 : Int) = 0) = False := eq_false (by decide)
  have hz2 : ((13 : Int) = 0) = False := eq_false (by decide)
  rcases openB_range s with e | e | ⟨x, n, e, n1, n2, n3⟩
  · have e0 : readR s = (0, [], 0, 12) := by unfold readR; rw [e]; rfl
    repeat' (first
      | refine St.h ?_
      | simp (disch := first | omega | (simp only [lnv]; omega)) only [wlk, ↓get_put', ↓reduceIte, seval, opn, e, hz1]
      | (with_reducible (first | apply cd_split | apply gd_split)) <;> (intro hc; (try simp only [hcn] at hc); (try simp only [hc]); (try simp only [hcl] at hc); try omega))
    subst hQ
    exact hend 12 s1 e0
  · have e0 : readR s = (0, [], 0, 13) := by unfold readR; rw [e]; rfl
    repeat' (first
      | refine St.h ?_
      | simp (disch := first | omega | (simp only [lnv]; omega)) only [wlk, ↓get_put', ↓reduceIte, seval, opn, e, hz2]
      | (with_reducible (first | apply cd_split | apply gd_split)) <;> (intro hc; (try simp only [hcn] at hc); (try simp only [hc]); (try simp only [hcl] at hc); try omega))
    subst hQ
    exact hend 13 s1 e0
  have hR := readP (by omega) e
  obtain ⟨i1, i2⟩ := taP_int x
  have i3 := taP_len x
  repeat' (first
    | refine St.h ?_
    | simp (disch := first | omega | (simp only [lnv]; omega)) only [wlk, ↓get_put', ↓reduceIte, seval, opn, e]
    | (with_reducible (first | apply cd_split | apply gd_split)) <;> (intro hc; (try simp only [hcn] at hc); (try simp only [hc]); (try simp only [hcl] at hc); try omega))
  refine CL.mk (btakeAll_ok (by omega) hf1) ?_
  rintro _ h2 ⟨u, rfl, hu, uo, s2⟩
  have hf2 := s2.fl hf1
  have s02 := s1.trans s2
  repeat' (first
    | refine St.h ?_
    | simp (disch := first | omega | (simp only [lnv]; omega)) only [wlk, ↓get_put', ↓reduceIte, seval]
    | (with_reducible (first | apply cd_split | apply gd_split)) <;> (intro hc; (try simp only [hcn] at hc); (try simp only [hc]); (try simp only [hcl] at hc); try omega))
  refine CL.stay (bbytes_ok (seq := (taP x).1) hu (by omega) (by omega) (by omega) hf2) fun h3 s3 => ?_
  have s03 := s02.trans s3
  by_cases hc : (bytB (taP x).1 (taP x).2).1 = s.take n
  · have hcd : decide ((bytB (taP x).1 (taP x).2).1 = s.take n) = true := decide_eq_true hc
    rw [if_pos hc] at hR
    repeat' (first
      | refine St.h ?_
      | simp (disch := first | omega | (simp only [lnv]; omega)) only [wlk, ↓get_put', ↓reduceIte, seval, hc, hcd, Int.toNat_natCast]
      | (with_reducible (first | apply cd_split | apply gd_split)) <;> (intro hc; (try simp only [hcn] at hc); (try simp only [hc]); (try simp only [hcl] at hc); try omega))
    subst hQ
    rw [hR]
    exact ⟨u, rfl, hu.grow s3, fun q hq => Nat.le_trans s1.next (uo q hq), s03⟩
  · have hcd : decide ((bytB (taP x).1 (taP x).2).1 = s.take n) = false := decide_eq_false hc
    rw [if_neg hc] at hR
    repeat' (first
      | refine St.h ?_
      | simp (disch := first | omega | (simp only [lnv]; omega)) only [wlk, ↓get_put', ↓reduceIte, seval, hcd, Int.toNat_natCast]
      | (with_reducible (first | apply cd_split | apply gd_split)) <;> (intro hc; (try simp only [hcn] at hc); (try simp only [hc]); (try simp only [hcl] at hc); try omega))
    subst hQ
    exact hend 10 s03 hR
end Go.Proofs.Ytmlcddeikgechaa

set_option linter.all false
namespace Go.Proofs.Ytmlcddeikgechaa
open Go Go.Ev
theorem bodyI_len {x : Itm} (h : isI x = true) : (bodyI x).length ≤ 600 := by
  have h1 := isI_nums h
  have h2 := rowsB_len (isI_isB h)
  have a := numB_len (n := x.lv.toNat) (by omega)
  have b := numB_len (n := x.n.toNat) (by omega)
  have c := numB_len (n := x.tn.toNat) (by omega)
  unfold bodyI
  simp only [List.length_append, List.length_cons]
  omega
theorem takeR_rows {L : List Wri} (hB : isB L = true) : takeR (rowsB L) = some L := by
  have h8 := isB_len hB
  have e := takeWs_rows (L := L) [] (isB_all hB)
  have en : takeN (rowsB L) = ((L.length : Int), ((numB L.length).length : Int), 0) := takeN_numB (by omega) _
  unfold takeR
  rw [en]
  show (if (0 : Int) ≠ 0 ∨ 8 < (L.length : Int) then none else _) = _
  rw [if_neg (by omega)]
  rw [show ((L.length : Int)).toNat = L.length by omega, show (((numB L.length).length : Int)).toNat = (numB L.length).length by omega]
  rw [show (rowsB L).drop (numB L.length).length = L.flatMap oneB ++ [] by unfold rowsB; rw [List.drop_left, List.append_nil], e]
  rfl
theorem takeI_body {x : Itm} (h : isI x = true) : takeI (bodyI x) = some x := by
  have h1 := isI_nums h
  have e1 : takeN (bodyI x) = ((x.lv.toNat : Int), ((numB x.lv.toNat).length : Int), 0) := takeN_numB (by omega) _
  unfold takeI
  rw [e1]
  show (if (0 : Int) ≠ 0 then none else _) = _
  rw [if_neg (by omega)]
  rw [show (((numB x.lv.toNat).length : Int)).toNat = (numB x.lv.toNat).length by omega]
  have d1 : (bodyI x).drop (numB x.lv.toNat).length = numB x.n.toNat ++ (numB x.tn.toNat ++ (kindB x :: rowsB x.ws)) := by unfold bodyI; rw [List.drop_left]
  have e2 : takeN (numB x.n.toNat ++ (numB x.tn.toNat ++ (kindB x :: rowsB x.ws))) = ((x.n.toNat : Int), ((numB x.n.toNat).length : Int), 0) := takeN_numB (by omega) _
  have e3 : takeN (numB x.tn.toNat ++ (kindB x :: rowsB x.ws)) = ((x.tn.toNat : Int), ((numB x.tn.toNat).length : Int), 0) := takeN_numB (by omega) _
  simp only [d1, e2]
  rw [if_neg (by omega), show (((numB x.n.toNat).length : Int)).toNat = (numB x.n.toNat).length by omega, List.drop_left]
  simp only [e3]
  rw [if_neg (by omega), show (((numB x.tn.toNat).length : Int)).toNat = (numB x.tn.toNat).length by omega, List.drop_left]
  simp only [takeR_rows (isI_isB h)]
  refine congrArg some (itm_ext ⟨?_, ?_, ?_, ?_, rfl⟩)
  · show ((x.lv.toNat : Nat) : Int) = x.lv; omega
  · show ((x.n.toNat : Nat) : Int) = x.n; omega
  · show ((x.tn.toNat : Nat) : Int) = x.tn; omega
  · show decide (kindB x = 1) = x.sh
    unfold kindB
    cases x.sh <;> rfl
theorem readI_itm {x : Itm} (h : isI x = true) (more : List UInt8) : readI (itmB x ++ more) = (x, ((itmB x).length : Int), 0) := by
  have hl := bodyI_len h
  have e : openB (itmB x ++ more) = (bodyI x, ((itmB x).length : Int), 0) := openB_seal (by omega)
  unfold readI
  simp only [e, takeI_body h]
  rw [if_neg (by omega), show (((itmB x).length : Int)).toNat = (itmB x).length by omega, List.take_left, if_pos ⟨h, rfl⟩]
end Go.Proofs.Ytmlcddeikgechaa

set_option linter.all false
namespace Go.Proofs.Ytmlcddeikgechaa
open Go Go.Ev
/-- the writes that batch reads behind a number -/
def tkW (b : List UInt8) : List Wri := (readR (sealB (numB 1 ++ b))).2.1
def hd3 (b : List UInt8) (p : Nat) (x y z : Int) : Itm := match b.drop p with | [] => itmZ | c :: r => ⟨x, y, z, decide (c = 1), tkW r⟩
def hd2 (b : List UInt8) (p : Nat) (x y : Int) : Itm := if (takeN (b.drop p)).2.2 ≠ 0 then itmZ else hd3 b (p + (takeN (b.drop p)).2.1.toNat) x y (takeN (b.drop p)).1
def hd1 (b : List UInt8) (p : Nat) (x : Int) : Itm := if (takeN (b.drop p)).2.2 ≠ 0 then itmZ else hd2 b (p + (takeN (b.drop p)).2.1.toNat) x (takeN (b.drop p)).1
def hd0 (b : List UInt8) (p : Nat) : Itm := if (takeN (b.drop p)).2.2 ≠ 0 then itmZ else hd1 b (p + (takeN (b.drop p)).2.1.toNat) (takeN (b.drop p)).1
/-- what the program takes -/
def tkI (b : List UInt8) : Itm := hd0 b 0
/-- where the loop is -/
def AtJ (b : List UInt8) (p : Nat) (xs : List V) (i : Nat) : Prop :=
  (i = 0 ∧ xs = [.i .i64 0, .i .i64 0, .i .i64 0] ∧ tkI b = hd0 b p) ∨ (∃ x, i = 1 ∧ xs = [.i .i64 x, .i .i64 0, .i .i64 0] ∧ tkI b = hd1 b p x) ∨
  (∃ x y, i = 2 ∧ xs = [.i .i64 x, .i .i64 y, .i .i64 0] ∧ tkI b = hd2 b p x y) ∨ (∃ x y z, i = 3 ∧ xs = [.i .i64 x, .i .i64 y, .i .i64 z] ∧ tkI b = hd3 b p x y z)
theorem AtJ.no {b : List UInt8} {p i : Nat} {xs : List V} (a : AtJ b p xs i) (hi : i < 3) (h : (takeN (b.drop p)).2.2 ≠ 0) : tkI b = itmZ := by
  rcases a with ⟨_, _, e⟩ | ⟨x, _, _, e⟩ | ⟨x, y, _, _, e⟩ | ⟨x, y, z, e, _⟩
  · rw [e]; unfold hd0; rw [if_pos h]
  · rw [e]; unfold hd1; rw [if_pos h]
  · rw [e]; unfold hd2; rw [if_pos h]
  · omega
theorem AtJ.len {b : List UInt8} {p i : Nat} {xs : List V} (a : AtJ b p xs i) : xs.length = 3 ∧ i ≤ 3 := by
  rcases a with ⟨rfl, rfl, e⟩ | ⟨x, rfl, rfl, e⟩ | ⟨x, y, rfl, rfl, e⟩ | ⟨x, y, z, rfl, rfl, _⟩ <;> exact ⟨rfl, by omega⟩
theorem AtJ.next {b : List UInt8} {p i : Nat} {xs : List V} {q k : Nat} (a : AtJ b p xs i) (hi : i < 3) (h : takeN (b.drop p) = ((q : Int), (k : Int), 0)) : AtJ b (p + k) (xs.set i (.i .i64 (q : Int))) (i + 1) := by
  have hk : ((k : Int)).toNat = k := by omega
  rcases a with ⟨rfl, rfl, e⟩ | ⟨x, rfl, rfl, e⟩ | ⟨x, y, rfl, rfl, e⟩ | ⟨x, y, z, rfl, _⟩
  · refine .inr (.inl ⟨_, rfl, rfl, ?_⟩); rw [e]; unfold hd0; rw [h, if_neg (by simp)]; simp only [hk]
  · refine .inr (.inr (.inl ⟨_, _, rfl, rfl, ?_⟩)); rw [e]; unfold hd1; rw [h, if_neg (by simp)]; simp only [hk]
  · refine .inr (.inr (.inr ⟨_, _, _, rfl, rfl, ?_⟩)); rw [e]; unfold hd2; rw [h, if_neg (by simp)]; simp only [hk]
  · omega
theorem tkW_rows {L : List Wri} (hB : isB L = true) : tkW (rowsB L) = L := by
  have h := readR_bat (q := 1) (L := L) (okB12_iff.2 ⟨hB, by omega, by omega⟩) []
  rw [List.append_nil] at h
  unfold tkW
  rw [show sealB (numB 1 ++ rowsB L) = batB ((1 : Nat) : Int) L from rfl, h]
theorem tkW_len (b : List UInt8) (hb : b.length ≤ 999000) : (tkW b).length ≤ 8 := by
  unfold tkW
  have h1 := numB_len (n := 1) (by omega)
  have e := openB_seal (l := numB 1 ++ b) (more := []) (by rw [List.length_append]; omega)
  rw [List.append_nil] at e
  rw [readP (by rw [sealB_len]; have := numB_len (n := (numB 1 ++ b).length) (by rw [List.length_append]; omega); rw [List.length_append] at this ⊢; omega) e]
  split
  · exact taP_len _
  · simp
theorem tkI_len (b : List UInt8) (hb : b.length ≤ 999000) : (tkI b).ws.length ≤ 8 := by
  have z : itmZ.ws.length ≤ 8 := by simp [itmZ]
  have e3 : ∀ p x y z, (hd3 b p x y z).ws.length ≤ 8 := fun p x y z => by
    unfold hd3
    cases hd : b.drop p with
    | nil => simp [itmZ]
    | cons c r =>
      have := congrArg List.length hd
      rw [List.length_drop, List.length_cons] at this
      exact tkW_len r (by omega)
  unfold tkI hd0 hd1 hd2
  repeat' split
  all_goals first | exact z | exact e3 _ _ _ _
theorem tkI_body {x : Itm} (h : isI x = true) : tkI (bodyI x) = x := by
  have h1 := isI_nums h
  have hk : ∀ l : List UInt8, ((l.length : Int)).toNat = l.length := fun l => by omega
  have e1 : takeN (bodyI x) = ((x.lv.toNat : Int), ((numB x.lv.toNat).length : Int), 0) := takeN_numB (by omega) _
  have e2 : takeN (numB x.n.toNat ++ (numB x.tn.toNat ++ (kindB x :: rowsB x.ws))) = ((x.n.toNat : Int), ((numB x.n.toNat).length : Int), 0) := takeN_numB (by omega) _
  have e3 : takeN (numB x.tn.toNat ++ (kindB x :: rowsB x.ws)) = ((x.tn.toNat : Int), ((numB x.tn.toNat).length : Int), 0) := takeN_numB (by omega) _
  have d1 : (bodyI x).drop (0 + (numB x.lv.toNat).length) = numB x.n.toNat ++ (numB x.tn.toNat ++ (kindB x :: rowsB x.ws)) := by unfold bodyI; rw [Nat.zero_add, List.drop_left]
  have d2 : (bodyI x).drop (0 + (numB x.lv.toNat).length + (numB x.n.toNat).length) = numB x.tn.toNat ++ (kindB x :: rowsB x.ws) := by rw [← List.drop_drop, d1, List.drop_left]
  have d3 : (bodyI x).drop (0 + (numB x.lv.toNat).length + (numB x.n.toNat).length + (numB x.tn.toNat).length) = kindB x :: rowsB x.ws := by rw [← List.drop_drop, d2, List.drop_left]
  unfold tkI hd0 hd1 hd2 hd3
  rw [List.drop_zero, e1]
  simp only [hk, d1, e2, d2, e3, d3, ne_eq, not_true, if_false]
  refine itm_ext ⟨?_, ?_, ?_, ?_, tkW_rows (isI_isB h)⟩
  · show ((x.lv.toNat : Nat) : Int) = x.lv; omega
  · show ((x.n.toNat : Nat) : Int) = x.n; omega
  · show ((x.tn.toNat : Nat) : Int) = x.tn; omega
  · show decide (kindB x = 1) = x.sh
    unfold kindB
    cases x.sh <;> rfl
/-- what the program reads is what the document reads -/
theorem readJ {s b : List UInt8} {n : Nat} (hs : s.length ≤ 1000000) (e : openB s = (b, (n : Int), 0)) : readI s = if isI (tkI b) = true ∧ itmB (tkI b) = s.take n then (tkI b, (n : Int), 0) else (itmZ, 0, 10) := by
  obtain ⟨more, hm⟩ := openB_inv e
  have hb : b.length ≤ s.length := by rw [hm, List.length_append, sealB_len]; omega
  have hn : n = (sealB b).length := by
    have := openB_seal (l := b) (more := more) (by omega)
    rw [← hm, e] at this
    have := (Prod.mk.inj (Prod.mk.inj this).2).1
    omega
  have ht : s.take n = sealB b := by rw [hm, hn, List.take_left]
  have inj : ∀ x : Itm, isI x = true → itmB x = sealB b → bodyI x = b := fun x hx h => by
    have := bodyI_len hx
    exact sealB_inj (by omega) (by omega) h
  rw [ht]
  by_cases hc : isI (tkI b) = true ∧ itmB (tkI b) = sealB b
  · rw [if_pos hc, hm, hn, ← hc.2]
    exact readI_itm hc.1 more
  · rw [if_neg hc]
    unfold readI
    simp only [e]
    rw [if_neg (by omega)]
    cases hT : takeI b with
    | none => rfl
    | some x =>
      show (if isI x = true ∧ itmB x = s.take ((n : Int)).toNat then _ else _ : Itm × Int × Int) = _
      rw [show ((n : Int)).toNat = n by omega, ht]
      refine if_neg fun h => hc ?_
      have hx := inj x h.1 h.2
      have : tkI b = x := by rw [← hx]; exact tkI_body h.1
      rw [this]; exact h
end Go.Proofs.Ytmlcddeikgechaa

set_option maxRecDepth 1000000
set_option linter.all false
namespace Go.Proofs.Ytmlcddeikgechaa
open Go Go.Ev
noncomputable abbrev s16_0 : CC := (CC.seq (CC.region [(wB 2 (doMove (O.c (V.b Bool.false))))]) CC.ret)
noncomputable abbrev s16_1 : CC := (CC.cond (tm 31) s16_0 CC.skip)
noncomputable abbrev s16_2 : CC := (CC.seq (CC.region [(wB 4 (doFieldAddr 0 (tm 1))), (wB 5 (doLoad (tm 4))), (wB 6 (bin2 fLss (tm 5) (oN 0))), (wB 7 (doMove (tm 6))), (wG 7 false 8 (doFieldAddr 0 (tm 1))), (wG 7 false 9 (doLoad (tm 8))), (wG 7 false 10 (bin2 fGeq (tm 9) (oN 6))), (wB 11 (doPick (tm 7) (O.c (V.b Bool.true)) (tm 10))), (wB 12 (doMove (tm 11))), (wG 12 false 13 (doFieldAddr 1 (tm 1))), (wG 12 false 14 (doLoad (tm 13))), (wG 12 false 15 (bin2 fLss (tm 14) (oN 1))), (wB 16 (doPick (tm 12) (O.c (V.b Bool.true)) (tm 15))), (wB 17 (doMove (tm 16))), (wG 17 false 18 (doFieldAddr 1 (tm 1))), (wG 17 false 19 (doLoad (tm 18))), (wG 17 false 20 (bin2 fGtr (tm 19) (oN 1000000))), (wB 21 (doPick (tm 17) (O.c (V.b Bool.true)) (tm 20))), (wB 22 (doMove (tm 21))), (wG 22 false 23 (doFieldAddr 2 (tm 1))), (wG 22 false 24 (doLoad (tm 23))), (wG 22 false 25 (bin2 fLss (tm 24) (oN 0))), (wB 26 (doPick (tm 22) (O.c (V.b Bool.true)) (tm 25))), (wB 27 (doMove (tm 26))), (wG 27 false 28 (doFieldAddr 2 (tm 1))), (wG 27 false 29 (doLoad (tm 28))), (wG 27 false 30 (bin2 fGtr (tm 29) (oN 1000000))), (wB 31 (doPick (tm 27) (O.c (V.b Bool.true)) (tm 30)))]) s16_1)
noncomputable abbrev s16_3 : CC := (CC.cond (tm 36) CC.skip (CC.exit 0))
noncomputable abbrev s16_4 : CC := (CC.seq (CC.region [(wB 32 (doMove (tm 3))), (wB 33 (doFieldAddr 4 (tm 1))), (wB 34 (doLoad (tm 33))), (wB 35 (doLen (tm 34))), (wB 36 (bin2 fLss (tm 32) (tm 35)))]) s16_3)
noncomputable abbrev s16_5 : CC := (CC.seq (CC.region [(wB 2 (doMove (O.c (V.b Bool.false))))]) CC.ret)
noncomputable abbrev s16_6 : CC := (CC.cond (tm 46) s16_5 CC.skip)
noncomputable abbrev s16_7 : CC := (CC.seq (CC.region [(wB 39 (doFieldAddr 4 (tm 1))), (wB 40 (doLoad (tm 39))), (wB 41 (doMove (tm 3))), (wB 42 (doIndexAddr 3 (tm 40) (tm 41))), (wB 43 (doFieldAddr 0 (tm 42))), (wB 44 (doLoad (tm 43))), (wB 45 (doLenS (tm 44))), (wB 46 (bin2 fGtr (tm 45) (oN 12)))]) s16_6)
noncomputable abbrev s16_8 : CC := (CC.block 1 s16_7)
noncomputable abbrev s16_9 : CC := (CC.region [(wB 37 (doMove (tm 3))), (wB 38 (bin2 fAdd (tm 37) (oN 1))), (wB 3 (doMove (tm 38)))])
noncomputable abbrev s16_10 : CC := (CC.seq s16_8 s16_9)
noncomputable abbrev l16_0 : CC := (CC.seq s16_4 s16_10)
noncomputable abbrev s16_11 : CC := (CC.loop l16_0)
noncomputable abbrev s16_12 : CC := (CC.block 0 s16_11)
noncomputable abbrev s16_13 : CC := (CC.seq (CC.region [(wB 3 (doMove (oN 0)))]) s16_12)
noncomputable abbrev s16_14 : CC := (CC.seq (CC.region [(wB 47 (doFieldAddr 3 (tm 1))), (wB 48 (doLoad (tm 47))), (wB 49 (doMove (tm 48))), (wG 49 true 50 (doFieldAddr 4 (tm 1))), (wG 49 true 51 (doLoad (tm 50))), (wG 49 true 52 (doLen (tm 51))), (wG 49 true 53 (bin2 fEql (tm 52) (oN 0))), (wB 54 (doPick (tm 49) (tm 53) (O.c (V.b Bool.false)))), (wB 55 (doMove (tm 54))), (wG 55 false 56 (doFieldAddr 3 (tm 1))), (wG 55 false 57 (doLoad (tm 56))), (wG 55 false 58 (doNot (tm 57))), (wG 55 false 59 (doMove (tm 58))), (wG 59 true 60 (doFieldAddr 4 (tm 1))), (wG 59 true 61 (doLoad (tm 60))), (wG 59 true 62 (doLen (tm 61))), (wG 59 true 63 (bin2 fGtr (tm 62) (oN 0))), (wG 55 false 64 (doPick (tm 59) (tm 63) (O.c (V.b Bool.false)))), (wG 55 false 65 (doMove (tm 64))), (wG 65 true 66 (doFieldAddr 4 (tm 1))), (wG 65 true 67 (doLoad (tm 66))), (wG 65 true 68 (doCall 33 [(tm 67)])), (wG 55 false 69 (doPick (tm 65) (tm 68) (O.c (V.b Bool.false)))), (wB 70 (doPick (tm 55) (O.c (V.b Bool.true)) (tm 69))), (wB 2 (doMove (tm 70)))]) CC.ret)
noncomputable abbrev s16_15 : CC := (CC.seq s16_13 s16_14)
noncomputable abbrev s16_16 : CC := (CC.seq s16_2 s16_15)
noncomputable abbrev b16 : CC := (CC.seq (CC.region [(wB 1 (doBox 24 (tm 0))), (wB 2 (doMove (O.c (V.b Bool.false))))]) s16_16)
theorem c16 : compFn Try.prog 16 = ⟨71, b16, [(Rs.tmp (slOf 2))]⟩ := by kernel_rfl
noncomputable abbrev s14_0 : CC := (CC.seq (CC.region [(wB 5 (doFieldAddr 0 (tm 2))), (wB 6 (doLoad (tm 5))), (wB 7 (doFieldAddr 0 (tm 3))), (wB 8 (doLoad (tm 7))), (wB 9 (bin2 fEql (tm 6) (tm 8))), (wB 10 (doMove (tm 9))), (wG 10 true 11 (doFieldAddr 1 (tm 2))), (wG 10 true 12 (doLoad (tm 11))), (wG 10 true 13 (doFieldAddr 1 (tm 3))), (wG 10 true 14 (doLoad (tm 13))), (wG 10 true 15 (bin2 fEql (tm 12) (tm 14))), (wB 16 (doPick (tm 10) (tm 15) (O.c (V.b Bool.false)))), (wB 17 (doMove (tm 16))), (wG 17 true 18 (doFieldAddr 2 (tm 2))), (wG 17 true 19 (doLoad (tm 18))), (wG 17 true 20 (doFieldAddr 2 (tm 3))), (wG 17 true 21 (doLoad (tm 20))), (wG 17 true 22 (bin2 fEql (tm 19) (tm 21))), (wB 23 (doPick (tm 17) (tm 22) (O.c (V.b Bool.false)))), (wB 24 (doMove (tm 23))), (wG 24 true 25 (doFieldAddr 3 (tm 2))), (wG 24 true 26 (doLoad (tm 25))), (wG 24 true 27 (doFieldAddr 3 (tm 3))), (wG 24 true 28 (doLoad (tm 27))), (wG 24 true 29 (doBool Bool.false (tm 26) (tm 28))), (wB 30 (doPick (tm 24) (tm 29) (O.c (V.b Bool.false)))), (wB 31 (doMove (tm 30))), (wG 31 true 32 (doFieldAddr 4 (tm 2))), (wG 31 true 33 (doLoad (tm 32))), (wG 31 true 34 (doFieldAddr 4 (tm 3))), (wG 31 true 35 (doLoad (tm 34))), (wG 31 true 36 (doCall 29 [(tm 33), (tm 35)])), (wB 37 (doPick (tm 31) (tm 36) (O.c (V.b Bool.false)))), (wB 4 (doMove (tm 37)))]) CC.ret)
noncomputable abbrev b14 : CC := (CC.seq (CC.region [(wB 2 (doBox 24 (tm 0))), (wB 3 (doBox 24 (tm 1))), (wB 4 (doMove (O.c (V.b Bool.false))))]) s14_0)
noncomputable abbrev s10_0 : CC := (CC.seq (CC.region [(wB 2 (doMove (O.c (V.s 0 0)))), (wB 3 (doMove (O.c (V.b Bool.false))))]) CC.ret)
noncomputable abbrev s10_1 : CC := (CC.cond (tm 7) s10_0 CC.skip)
noncomputable abbrev s10_2 : CC := (CC.seq (CC.region [(wB 5 (doLoadA 5 (tm 1))), (wB 6 (doCall 16 [(tm 5)])), (wB 7 (doNot (tm 6)))]) s10_1)
noncomputable abbrev s10_3 : CC := (CC.cond (tm 9) (CC.region [(wB 4 (doMove (O.c (V.s 1 1))))]) CC.skip)
noncomputable abbrev s10_4 : CC := (CC.seq (CC.region [(wB 8 (doFieldAddr 3 (tm 1))), (wB 9 (doLoad (tm 8)))]) s10_3)
noncomputable abbrev s10_5 : CC := (CC.seq (CC.draws [(uB 10 (doFieldAddr 0 (tm 1))), (uB 11 (doLoad (tm 10))), (uB 12 (doCall 22 [(tm 11)])), (uB 13 (doFieldAddr 1 (tm 1))), (uB 14 (doLoad (tm 13))), (uB 15 (doCall 22 [(tm 14)])), (uB 16 (doConcat (tm 12) (tm 15))), (uB 17 (doFieldAddr 2 (tm 1))), (uB 18 (doLoad (tm 17))), (uB 19 (doCall 22 [(tm 18)])), (uB 20 (doConcat (tm 16) (tm 19))), (uB 21 (doMove (tm 4))), (uB 22 (doConcat (tm 20) (tm 21))), (uB 23 (doFieldAddr 4 (tm 1))), (uB 24 (doLoad (tm 23))), (wB 25 (doCall 23 [(tm 24)])), (uB 26 (doConcat (tm 22) (tm 25))), (wB 27 (doCall 21 [(tm 26)])), (uB 2 (doMove (tm 27))), (uB 3 (doMove (O.c (V.b Bool.true))))] (some ([2, 5, 9, 15, 17], [(1, [0]), (4, [0, 3]), (8, [0, 3, 6]), (14, [0, 3, 6, 10])]))) CC.ret)
noncomputable abbrev s10_6 : CC := (CC.seq s10_4 s10_5)
noncomputable abbrev s10_7 : CC := (CC.seq (CC.region [(wB 4 (doMove (O.c (V.s 1 0))))]) s10_6)
noncomputable abbrev s10_8 : CC := (CC.seq s10_2 s10_7)
noncomputable abbrev b10 : CC := (CC.seq (CC.region [(wB 1 (doBox 24 (tm 0))), (wB 2 (doMove (O.c (V.s 0 0)))), (wB 3 (doMove (O.c (V.b Bool.false))))]) s10_8)
noncomputable abbrev s8_0 : CC := (CC.cond (tm 8) CC.skip (CC.exit 0))
noncomputable abbrev s8_1 : CC := (CC.seq (CC.region [(wB 4 (doMove (tm 3))), (wB 5 (doFieldAddr 4 (tm 1))), (wB 6 (doLoad (tm 5))), (wB 7 (doLen (tm 6))), (wB 8 (bin2 fLss (tm 4) (tm 7)))]) s8_0)
noncomputable abbrev s8_2 : CC := (CC.seq (CC.region [(wB 2 (doMove (O.c (V.b Bool.false))))]) CC.ret)
noncomputable abbrev s8_3 : CC := (CC.cond (tm 28) s8_2 CC.skip)
noncomputable abbrev s8_4 : CC := (CC.seq (CC.region [(wB 11 (doFieldAddr 4 (tm 1))), (wB 12 (doLoad (tm 11))), (wB 13 (doMove (tm 3))), (wB 14 (doIndexAddr 3 (tm 12) (tm 13))), (wB 15 (doFieldAddr 0 (tm 14))), (wB 16 (doLoad (tm 15))), (wB 17 (doLenS (tm 16))), (wB 18 (bin2 fGtr (tm 17) (oN 20))), (wB 19 (doMove (tm 18))), (wG 19 false 20 (doFieldAddr 4 (tm 1))), (wG 19 false 21 (doLoad (tm 20))), (wG 19 false 22 (doMove (tm 3))), (wG 19 false 23 (doIndexAddr 3 (tm 21) (tm 22))), (wG 19 false 24 (doFieldAddr 2 (tm 23))), (wG 19 false 25 (doLoad (tm 24))), (wG 19 false 26 (doLenS (tm 25))), (wG 19 false 27 (bin2 fGtr (tm 26) (oN 40))), (wB 28 (doPick (tm 19) (O.c (V.b Bool.true)) (tm 27)))]) s8_3)
noncomputable abbrev s8_5 : CC := (CC.block 1 s8_4)
noncomputable abbrev s8_6 : CC := (CC.region [(wB 9 (doMove (tm 3))), (wB 10 (bin2 fAdd (tm 9) (oN 1))), (wB 3 (doMove (tm 10)))])
noncomputable abbrev s8_7 : CC := (CC.seq s8_5 s8_6)
noncomputable abbrev l8_0 : CC := (CC.seq s8_1 s8_7)
noncomputable abbrev s8_8 : CC := (CC.loop l8_0)
noncomputable abbrev s8_9 : CC := (CC.block 0 s8_8)
noncomputable abbrev s8_10 : CC := (CC.seq (CC.region [(wB 3 (doMove (oN 0)))]) s8_9)
noncomputable abbrev s8_11 : CC := (CC.seq (CC.region [(wB 29 (doFieldAddr 4 (tm 1))), (wB 30 (doLoad (tm 29))), (wB 31 (doLen (tm 30))), (wB 32 (bin2 fLeq (tm 31) (oN 12))), (wB 2 (doMove (tm 32)))]) CC.ret)
noncomputable abbrev s8_12 : CC := (CC.seq s8_10 s8_11)
noncomputable abbrev b8 : CC := (CC.seq (CC.region [(wB 1 (doBox 24 (tm 0))), (wB 2 (doMove (O.c (V.b Bool.false))))]) s8_12)
theorem c8 : compFn Try.prog 8 = ⟨33, b8, [(Rs.tmp (slOf 2))]⟩ := by kernel_rfl
end Go.Proofs.Ytmlcddeikgechaa

set_option maxRecDepth 100000
set_option maxHeartbeats 8000000
set_option linter.all false
namespace Go.Proofs.Ytmlcddeikgechaa
open Go Go.Ev
theorem isI_no {x : Itm} (h : ¬ (0 ≤ x.lv ∧ x.lv < 6 ∧ 1 ≤ x.n ∧ x.n ≤ 1000000 ∧ 0 ≤ x.tn ∧ x.tn ≤ 1000000)) : isI x = false := by
  unfold isI numsI; rw [decide_eq_false h]; rfl
theorem isI_nm {x : Itm} (h : 0 ≤ x.lv ∧ x.lv < 6 ∧ 1 ≤ x.n ∧ x.n ≤ 1000000 ∧ 0 ≤ x.tn ∧ x.tn ≤ 1000000) : isI x = (shortI x.ws && kindI x) := by
  unfold isI numsI; rw [decide_eq_true h]; rfl
theorem shortI_no {L : List Wri} {i : Nat} (hi : i < L.length) (h : 12 < (L.getD i default).key.length) : shortI L = false := by
  unfold shortI
  refine List.all_eq_false.2 ⟨L.getD i default, ?_, by rw [decide_eq_true_eq]; omega⟩
  rw [show L.getD i default = L[i] by simp [List.getD, hi]]; exact List.getElem_mem hi
theorem shortI_yes {L : List Wri} (h : ∀ j, j < L.length → (L.getD j default).key.length ≤ 12) : shortI L = true := by
  rw [shortI_iff]
  intro w hw
  obtain ⟨i, hi, rfl⟩ := List.getElem_of_mem hw
  have := h i hi
  rwa [show L.getD i default = L[i] by simp [List.getD, hi]] at this
theorem kindI_t {x : Itm} (h : x.sh = true) : kindI x = decide (x.ws = []) := by unfold kindI; rw [h]; simp
theorem kindI_f {x : Itm} (h : x.sh = false) : kindI x = (decide (x.ws ≠ []) && isB x.ws) := by unfold kindI; rw [h]; simp
theorem ris18_ok {h : H} {v : V} {lv n tn : Int} {sh : Bool} {ws : List Wri} (hL : Ws h v ws) (hl : ws.length ≤ 10000) (hf : B.val h.floor ≤ B.val h.next) : FnOk Try.prog 16 [.a [.i .i64 lv, .i .i64 n, .i .i64 tn, .b sh, v]] h fun y h' =>
    y = .b (isI ⟨lv, n, tn, sh, ws⟩) ∧ Stay nowhere h h' := by
  refine fn_go c16 (by intro hb; cases hb) (by simp) (by simp) fun Q hQ => ?_
  simp only [slotsF, Nat.reduceAdd]
  repeat' (first
    | refine St.h ?_
    | simp (disch := first | omega | (simp only [lnv]; omega)) only [wlk, ↓get_put', ↓reduceIte, seval]
    | (with_reducible (first | apply cd_split | apply gd_split)) <;> (intro hc; (try simp only [hcn] at hc); (try simp only [hc]); (try simp only [hcl] at hc); try omega))
  refine AL.own (by simp) hf fun h1 s1 n1 o1 => ?_
  have hf1 := s1.fl hf
  have hL1 := hL.grow s1
  have r1 := o1.row
  by_cases hN : 0 ≤ lv ∧ lv < 6 ∧ 1 ≤ n ∧ n ≤ 1000000 ∧ 0 ≤ tn ∧ tn ≤ 1000000
  case neg =>
    have hno := isI_no (x := ⟨lv, n, tn, sh, ws⟩) hN
    repeat' (first
      | refine St.h ?_
      | simp (disch := first | omega | (simp only [lnv]; omega)) only [wlk, ↓get_put', ↓reduceIte, seval, r1.l1, r1.ln]
      | (with_reducible (first | apply cd_split | apply gd_split)) <;> (intro hc; (try simp only [hcn] at hc); (try simp only [hc]); (try simp only [hcl] at hc); try omega))
    all_goals first | (exfalso; omega) | (subst hQ; exact ⟨by rw [hno], s1⟩)
  obtain ⟨c1, c2, c3, c4, c5, c6⟩ := hN
  have hnm := isI_nm (x := ⟨lv, n, tn, sh, ws⟩) ⟨c1, c2, c3, c4, c5, c6⟩
  repeat' (first
    | refine St.h ?_
    | simp (disch := first | omega | (simp only [lnv]; omega)) only [wlk, ↓get_put', ↓reduceIte, seval, r1.l1, r1.ln]
    | (with_reducible (first | apply cd_split | apply gd_split)) <;> (intro hc; (try simp only [hcn] at hc); (try simp only [hc]); (try simp only [hcl] at hc); try omega))
  refine Ok.lp (fun m t g => ∃ j : Nat, m = ws.length - j ∧ j ≤ ws.length ∧ h1 = g ∧ (∀ q, q < j → (ws.getD q default).key.length ≤ 12) ∧ get 1 t = .p h.next 0 0 5 ∧ get 3 t = .i .i64 (j : Int)) ws.length ?_ ?_
  · simp (disch := first | omega | (simp only [lnv]; omega)) only [wlk, ↓get_put', ↓reduceIte, seval]
    refine ⟨0, by omega, by omega, ?_⟩
    repeat' (first | trivial | rfl | (intro q hq; omega) | refine And.intro ?_ ?_)
  rintro I hI m t g ⟨j, rfl, hj, rfl, hk, f1, f3⟩
  by_cases hjl : j < ws.length
  · by_cases hb : 12 < (ws.getD j default).key.length
    · have hsh := shortI_no hjl hb
      repeat' (first
        | refine St.h ?_
        | simp (disch := first | omega | (simp only [lnv]; omega)) only [wlk, ↓get_put', ↓reduceIte, seval, f1, f3, r1.l1, hL1.ln, hL1.ix, hL1.l0, Int.toNat_natCast]
        | (with_reducible (first | apply cd_split | apply gd_split)) <;> (intro hc; (try simp only [hcn] at hc); (try simp only [hc]); (try simp only [hcl] at hc); try omega))
      subst hQ
      exact ⟨by rw [hnm, hsh]; rfl, s1⟩
    · repeat' (first
        | refine St.h ?_
        | simp (disch := first | omega | (simp only [lnv]; omega)) only [wlk, ↓get_put', ↓reduceIte, seval, f1, f3, r1.l1, hL1.ln, hL1.ix, hL1.l0, Int.toNat_natCast]
        | (with_reducible (first | apply cd_split | apply gd_split)) <;> (intro hc; (try simp only [hcn] at hc); (try simp only [hc]); (try simp only [hcl] at hc); try omega))
      refine lp_next hI (ws.length - (j + 1)) (by omega) ⟨j + 1, rfl, by omega, rfl, fun q hq => ?_, ?_, ?_⟩
      · by_cases e : q = j
        · subst e; omega
        · exact hk q (by omega)
      · simp (disch := first | omega | (simp only [lnv]; omega)) only [wlk, ↓get_put', ↓reduceIte, seval, f1]
      · simp (disch := first | omega | (simp only [lnv]; omega)) only [wlk, ↓get_put', ↓reduceIte, seval, f3]; rfl
  obtain rfl : j = ws.length := by omega
  have hsh := shortI_yes hk
  have hws : ws = [] ↔ ws.length = 0 := List.length_eq_zero_iff.symm
  cases sh with
  | true =>
    have hk1 := kindI_t (x := ⟨lv, n, tn, true, ws⟩) rfl
    have e1 : decide (ws = []) = decide ((ws.length : Int) = 0) := decide_eq_decide.2 (by rw [hws]; omega)
    repeat' (first
      | refine St.h ?_
      | simp (disch := first | omega | (simp only [lnv]; omega)) only [wlk, ↓get_put', ↓reduceIte, seval, f1, f3, r1.l1, hL1.ln]
      | (with_reducible (first | apply cd_split | apply gd_split)) <;> (intro hc; (try simp only [hcn] at hc); (try simp only [hc]); (try simp only [hcl] at hc); try omega))
    · subst hQ
      exact ⟨by rw [hnm, hsh, hk1, decide_eq_true (hws.2 (by omega))]; rfl, s1⟩
    · subst hQ
      exact ⟨by rw [hnm, hsh, hk1, decide_eq_false (fun e => by have := hws.1 e; omega)]; rfl, s1⟩
  | false =>
    have hk1 := kindI_f (x := ⟨lv, n, tn, false, ws⟩) rfl
    repeat' (first
      | refine St.h ?_
      | simp (disch := first | omega | (simp only [lnv]; omega)) only [wlk, ↓get_put', ↓reduceIte, seval, f1, f3, r1.l1, hL1.ln]
      | (with_reducible (first | apply cd_split | apply gd_split)) <;> (intro hc; (try simp only [hcn] at hc); (try simp only [hc]); (try simp only [hcl] at hc); try omega))
    · have hne : ws ≠ [] := fun e => by have := hws.1 e; omega
      refine CL.stay (ris12_ok hL1 hl hf1) fun h2 s2 => ?_
      repeat' (first
        | refine St.h ?_
        | simp (disch := first | omega | (simp only [lnv]; omega)) only [wlk, ↓get_put', ↓reduceIte, seval]
        | (with_reducible (first | apply cd_split | apply gd_split)) <;> (intro hc; (try simp only [hcn] at hc); (try simp only [hc]); (try simp only [hcl] at hc); try omega))
      subst hQ
      exact ⟨by rw [hnm, hsh, hk1, decide_eq_true hne]; simp, s1.trans s2⟩
    · have he : ws = [] := hws.2 (by omega)
      subst hQ
      exact ⟨by rw [hnm, hsh, hk1, decide_eq_false (fun e => e he)]; rfl, s1⟩
theorem few18_ok {h : H} {v : V} {lv n tn : Int} {sh : Bool} {ws : List Wri} (hL : Ws h v ws) (hl : ws.length ≤ 9223372036854775807) (hf : B.val h.floor ≤ B.val h.next) : FnOk Try.prog 8 [.a [.i .i64 lv, .i .i64 n, .i .i64 tn, .b sh, v]] h fun y h' =>
    y = .b (fewI ⟨lv, n, tn, sh, ws⟩) ∧ Stay nowhere h h' := by
  refine fn_go c8 (by intro hb; cases hb) (by simp) (by simp) fun Q hQ => ?_
  simp only [slotsF, Nat.reduceAdd]
  repeat' (first
    | refine St.h ?_
    | simp (disch := first | omega | (simp only [lnv]; omega)) only [wlk, ↓get_put', ↓reduceIte, seval]
    | (with_reducible (first | apply cd_split | apply gd_split)) <;> (intro hc; (try simp only [hcn] at hc); (try simp only [hc]); (try simp only [hcl] at hc); try omega))
  refine AL.own (by simp) hf fun h1 s1 n1 o1 => ?_
  have hL1 := hL.grow s1
  have r1 := o1.row
  repeat' (first
    | refine St.h ?_
    | simp (disch := first | omega | (simp only [lnv]; omega)) only [wlk, ↓get_put', ↓reduceIte, seval, r1.l1, r1.ln]
    | (with_reducible (first | apply cd_split | apply gd_split)) <;> (intro hc; (try simp only [hcn] at hc); (try simp only [hc]); (try simp only [hcl] at hc); try omega))
  refine Ok.lp (fun m t g => ∃ j : Nat, m = ws.length - j ∧ j ≤ ws.length ∧ h1 = g ∧ (∀ q, q < j → okW (ws.getD q default) = true) ∧ get 1 t = .p h.next 0 0 5 ∧ get 3 t = .i .i64 (j : Int)) ws.length ?_ ?_
  · simp (disch := first | omega | (simp only [lnv]; omega)) only [wlk, ↓get_put', ↓reduceIte, seval]
    refine ⟨0, by omega, by omega, ?_⟩
    repeat' (first | trivial | rfl | (intro q hq; omega) | refine And.intro ?_ ?_)
  rintro I hI m t g ⟨j, rfl, hj, rfl, hk, f1, f3⟩
  have okI : ∀ w : Wri, okW w = decide (w.key.length ≤ 20 ∧ w.val.length ≤ 40) := fun w => by unfold okW; rw [Bool.decide_and]
  by_cases hjl : j < ws.length
  · by_cases hb : (ws.getD j default).key.length ≤ 20 ∧ (ws.getD j default).val.length ≤ 40
    · obtain ⟨b1, b2⟩ := hb
      repeat' (first
        | refine St.h ?_
        | simp (disch := first | omega | (simp only [lnv]; omega)) only [wlk, ↓get_put', ↓reduceIte, seval, f1, f3, r1.l1, hL1.ln, hL1.ix, hL1.l0, hL1.l2, Int.toNat_natCast]
        | (with_reducible (first | apply cd_split | apply gd_split)) <;> (intro hc; (try simp only [hcn] at hc); (try simp only [hc]); (try simp only [hcl] at hc); try omega))
      refine lp_next hI (ws.length - (j + 1)) (by omega) ⟨j + 1, rfl, by omega, rfl, fun q hq => ?_, ?_, ?_⟩
      · by_cases e : q = j
        · subst e; rw [okI]; exact decide_eq_true ⟨b1, b2⟩
        · exact hk q (by omega)
      · simp (disch := first | omega | (simp only [lnv]; omega)) only [wlk, ↓get_put', ↓reduceIte, seval, f1]
      · simp (disch := first | omega | (simp only [lnv]; omega)) only [wlk, ↓get_put', ↓reduceIte, seval, f3]; rfl
    · have hno : fewI ⟨lv, n, tn, sh, ws⟩ = false := by
        unfold fewI
        rw [show ws.all okW = false from List.all_eq_false.2 ⟨ws.getD j default, by rw [show ws.getD j default = ws[j] by simp [List.getD, hjl]]; exact List.getElem_mem hjl, by rw [okI, decide_eq_false hb]; simp⟩]; rfl
      repeat' (first
        | refine St.h ?_
        | simp (disch := first | omega | (simp only [lnv]; omega)) only [wlk, ↓get_put', ↓reduceIte, seval, f1, f3, r1.l1, hL1.ln, hL1.ix, hL1.l0, hL1.l2, Int.toNat_natCast]
        | (with_reducible (first | apply cd_split | apply gd_split)) <;> (intro hc; (try simp only [hcn] at hc); (try simp only [hc]); (try simp only [hcl] at hc); try omega))
      all_goals first | (exfalso; omega) | (subst hQ; exact ⟨by rw [hno], s1⟩)
  obtain rfl : j = ws.length := by omega
  have hall : ws.all okW = true := List.all_eq_true.2 fun w hw => by
    obtain ⟨i, hi, rfl⟩ := List.getElem_of_mem hw
    have := hk i hi
    rwa [show ws.getD i default = ws[i] by simp [List.getD, hi]] at this
  repeat' (first
    | refine St.h ?_
    | simp (disch := first | omega | (simp only [lnv]; omega)) only [wlk, ↓get_put', ↓reduceIte, seval, f1, f3, r1.l1, hL1.ln]
    | (with_reducible (first | apply cd_split | apply gd_split)) <;> (intro hc; (try simp only [hcn] at hc); (try simp only [hc]); (try simp only [hcl] at hc); try omega))
  subst hQ
  exact ⟨by unfold fewI; rw [hall, Bool.true_and]; exact congrArg V.b (decide_eq_decide.2 (by show _ ↔ ws.length ≤ 12; omega)), s1⟩
end Go.Proofs.Ytmlcddeikgechaa

set_option linter.all false
namespace Go.Ev
open Go
section
variable {P : Program} {nt : Nat} {ops : Array Oper} {Ts : Nat → F}
/-- operations that leave memory alone, and make the same of h and of h2 -/
def Ops2 (P : Program) : List CO → F → H → H → F → Prop
  | [], t, _, _, t' => t' = t
  | o :: l, t, h, h2, t' => ∃ t1, OpRel P o t h t1 h ∧ OpRel P o t h2 t1 h2 ∧ Ops2 P l t1 h h2 t'
theorem stepOf {nt : Nat} {ops : Array Oper} {i : Nat} {o : Oper} (hi : ops[i]? = some o) {b : Bool} {t t1 : F} {h h1 : H} (a : OpRel P ⟨compG nt ops.toList o.guard, dOf nt o.dst, b, compOp P o.op⟩ t h t1 h1) : StepOk P nt ops i o true t t1 h h1 := by
  have a' : DrRel P ⟨compG nt ops.toList o.guard, dOf nt o.dst, true, compOp P o.op⟩ t h t1 h1 := a
  obtain ⟨cf, hcf, e⟩ := drRel_run a'
  obtain ⟨t1', h1', a1, a2⟩ := dr_step hcf hi (ih := fun t h k => k t h) (k := fun _ _ => true) (e _ _)
  obtain ⟨rfl, rfl⟩ := same_of (fun k => (e (fun t h k => k t h) k).symm.trans (a1 k))
  exact a2
theorem ops2_trace {nt : Nat} {ops : Array Oper} (bars : Nat → Bool) {h h2 : H} : ∀ (l : List Oper) (n : Nat) (rest : List Oper), ops.toList.drop n = l ++ rest → ∀ (t t' : F),
    Ops2 P (compOpsWith bars P nt ops.toList (compOp P) n l) t h h2 t' →
    ∃ Ts : Nat → F, Ts n = t ∧ Ts (n + l.length) = t' ∧ ∀ (i : Nat) o, n ≤ i → i < n + l.length → ops[i]? = some o → StepOk P nt ops i o true (Ts i) (Ts (i + 1)) h h ∧ StepOk P nt ops i o true (Ts i) (Ts (i + 1)) h2 h2 := by
  intro l
  induction l with
  | nil =>
    intro n rest hl t t' hk
    obtain rfl : t' = t := hk
    exact ⟨fun _ => t', rfl, rfl, fun i o h1 h2 => by simp at h2; omega⟩
  | cons o l ih =>
    intro n rest hl t t' hk
    have hn : ops[n]? = some o := by
      have : ops.toList[n]? = some o := by
        have := congrArg (fun l => l[0]?) hl
        simpa using this
      simpa using this
    obtain ⟨t1, k1, k2, k3⟩ := hk
    have hl' : ops.toList.drop (n + 1) = l ++ rest := by rw [← List.drop_drop, hl]; rfl
    obtain ⟨Ts, b1, b2, b3⟩ := ih (n + 1) rest hl' _ _ k3
    refine ⟨fun i => if i = n then t else Ts i, by simp, ?_, fun i oi h1 h2 hi => ?_⟩
    · have e1 : n + (o :: l).length = n + 1 + l.length := by simp; omega
      rw [e1]
      simp only [show ¬ n + 1 + l.length = n by omega, if_false]
      exact b2
    · by_cases hin : i = n
      · subst hin
        rw [hn] at hi
        cases hi
        simp only [if_true, show ¬ i + 1 = i by omega, if_false, b1]
        exact ⟨stepOf hn k1, stepOf hn k2⟩
      · simp only [hin, if_false, show ¬ i + 1 = n by omega]
        exact b3 i oi (by omega) (by simp at h2; omega) hi
/-- all but two leave memory alone; the second one comes behind all that touch it, or ahead of them -/
theorem dw_core (hm : P.follows .mixedOrders = true) {nt : Nat} {ops : Array Oper} (hd : drawsOk ops.toList = true) {t t1 t2 t3 t4 t5 : F} {h h2 h3 : H} {pre mid rest : List CO} {A : CO} {g : G} {d : D} {r : CR}
    (el : compOpsWith (barAt P ops.toList (befs ops.toList [])) P nt ops.toList (compOp P) 0 ops.toList = pre ++ A :: (mid ++ .mk g d true r :: rest))
    (p1 : Ops2 P pre t h h2 t1) (p2 : OpRel P A t1 h t2 h2) (p3 : Ops2 P mid t2 h h2 t3) (p4 : OpRel P (.mk g d true r) t3 h2 t4 h3) (p5 : Ops2 P rest t4 h3 h3 t5) : KeepF h h3 ∧ B.val h.next ≤ B.val h3.next ∧ ∀ ρ a w w0 (id : Nat) (Q : Exit → Act → World → Prop), ARel ρ nt t a → HRel ρ h w w0 → (∀ ρ' a' w', Ext h.floor ρ ρ' → ARel ρ' nt t5 a' → HRel ρ' h3 w' w0 → Q .normal a' w') → (Code.region id ops true).wp P Q a w := by
  obtain ⟨lp, l1, q1, q2, q3⟩ := cow_app el
  obtain ⟨oa, l2, rfl, q4, q5⟩ := cow_cons q3
  obtain ⟨lm, l3, rfl, q6, q7⟩ := cow_app q5
  obtain ⟨ob, lr, rfl, q8, q9⟩ := cow_cons q7
  rw [Nat.zero_add] at q4 q6 q8 q9
  have hop : ∀ (i : Nat) o, ops.toList[i]? = some o → ops[i]? = some o := fun i o e => by simpa using e
  generalize hb0 : lp.length + 1 + lm.length = b at *
  have hn : ops.size = b + 1 + lr.length := by have := congrArg List.length q1; simp at this; omega
  have ha : ops[lp.length]? = some oa := hop _ _ (by rw [q1]; simp)
  have hb : ops[b]? = some ob := hop _ _ (by rw [q1, ← hb0, List.getElem?_append_right (by omega), show lp.length + 1 + lm.length - lp.length = lm.length + 1 by omega, List.getElem?_cons_succ]; simp)
  obtain ⟨T0, b1, b2, b3⟩ := ops2_trace (P := P) (nt := nt) (ops := ops) (h := h) (h2 := h2) _ lp 0 _ (by rw [List.drop_zero]; exact q1) t t1 (by rw [q2]; exact p1)
  rw [Nat.zero_add] at b2 b3
  obtain ⟨T1, c1, c2, c3⟩ := ops2_trace (P := P) (nt := nt) (ops := ops) (h := h) (h2 := h2) _ lm (lp.length + 1) _ (by rw [q1, ← List.drop_drop, List.drop_left]; rfl) t2 t3 (by rw [q6]; exact p3)
  obtain ⟨T2, d1, d2, d3⟩ := ops2_trace (P := P) (nt := nt) (ops := ops) (h := h3) (h2 := h3) _ lr (b + 1) [] (by rw [q1, ← hb0, List.append_nil, show lp.length + 1 + lm.length + 1 = lp.length + (1 + (lm.length + 1)) by omega, ← List.drop_drop, List.drop_left, ← List.drop_drop, List.drop_one, List.tail_cons, ← List.drop_drop, List.drop_left]; rfl) t4 t5 (by rw [q9]; exact p5)
  rw [hb0] at c2 c3
  have hbar : barAt P ops.toList (befs ops.toList []) b = true := by
    injection q8 with _ _ e _
    exact e.symm
  have SA := stepOf ha (by rw [q4] at p2; exact p2)
  have SB := stepOf hb (by have e := q8; rw [hbar] at e; rw [e] at p4; exact p4)
  let Ts : Nat → F := fun i => if i ≤ lp.length then T0 i else if i ≤ b then T1 i else T2 i
  have U0 : ∀ i, i ≤ lp.length → Ts i = T0 i := fun i hi => if_pos hi
  have U1 : ∀ i, lp.length < i → i ≤ b → Ts i = T1 i := fun i hi hj => by
    show (if _ then _ else _) = _
    rw [if_neg (by omega), if_pos hj]
  have U2 : ∀ i, b < i → Ts i = T2 i := fun i hi => by
    show (if _ then _ else _) = _
    rw [if_neg (by omega), if_neg (by omega)]
  have hA : ∀ o, ops[lp.length]? = some o → StepOk P nt ops lp.length o true (Ts lp.length) (Ts (lp.length + 1)) h h2 := fun o ho => by
    rw [ha] at ho; cases ho
    rw [U0 _ (Nat.le_refl _), U1 _ (by omega) (by omega), b2, c1]; exact SA
  have hB : ∀ o, ops[b]? = some o → StepOk P nt ops b o true (Ts b) (Ts (b + 1)) h2 h3 := fun o ho => by
    rw [hb] at ho; cases ho
    rw [U1 _ (by omega) (Nat.le_refl _), U2 _ (by omega), c2, d1]; exact SB
  obtain ⟨f1, f2, f3⟩ := dual_ok (nt := nt) (ops := ops) (Ts := Ts) (n := lp.length) (p := b) (h := h) (h2 := h2) (h3 := h3) hm hd (by omega) (by omega) hbar
    (fun i o hi hne ho => by
      by_cases e : i < lp.length
      · rw [U0 i (by omega), U0 (i + 1) (by omega)]
        exact b3 i o (Nat.zero_le _) e ho
      · rw [U1 i (by omega) (by omega), U1 (i + 1) (by omega) (by omega)]
        exact c3 i o (by omega) hi ho)
    (fun i o hi ho => by
      have : i < ops.size := (Array.getElem?_eq_some_iff.1 ho).1
      rw [U2 i hi, U2 (i + 1) (by omega)]
      exact (d3 i o (by omega) (by omega) ho).1) hA hB
  exact ⟨f1, f2, fun ρ a w w0 id Q A R hQ => f3 ρ a w w0 id Q (by rw [U0 0 (Nat.zero_le _), b1]; exact A) R (by rw [hn, U2 _ (by omega), d2]; exact hQ)⟩
theorem Ok.dw1 (hm : P.follows .mixedOrders = true) {nt : Nat} {t t1 t2 t3 t4 t5 : F} {h h2 h3 : H} {K : X → F → H → Prop} {pre mid rest : List CO} {A : CO} {g : G} {d : D} {r : CR} {ch : Option (List Nat × List (Nat × List Nat))} 
    (p1 : Ops2 P pre t h h2 t1) (p2 : OpRel P A t1 h t2 h2) (p3 : Ops2 P mid t2 h h2 t3) (p4 : OpRel P (.mk g d true r) t3 h2 t4 h3) (p5 : Ops2 P rest t4 h3 h3 t5) (k : K .normal t5 h3) : Ok P nt (.draws (pre ++ A :: (mid ++ .mk g d true r :: rest)) ch) t h K := by
  refine ⟨.normal, t5, h3, by_scopes _ fun c e' hs => ?_, k⟩
  cases c with
  | region id ops draw =>
    have e1 : compRegion P nt ops.toList draw = .draws (pre ++ A :: (mid ++ .mk g d true r :: rest)) ch := e'
    obtain ⟨rfl, hd, e1⟩ := reg_dr e1
    obtain ⟨f1, f2, f3⟩ := dw_core hm hd (CC.draws.inj e1).1 p1 p2 p3 p4 p5
    exact ⟨f1, f2, fun ρ a w w0 Q A R hQ => f3 ρ a w w0 id Q A R hQ⟩
  | scope d => exact absurd rfl (hs d)
  | _ => cases e'
/-- a region that draws, where the walk stops -/
def DW (P : Program) (nt : Nat) (l : List CO) (t : F) (h : H) (K : X → F → H → Prop) : Prop := ∀ ch, Ok P nt (.draws l ch) t h K
theorem DW.gen (hm : P.follows .mixedOrders = true) {nt : Nat} {t t1 t2 t3 t4 t5 : F} {h h2 h3 : H} {K : X → F → H → Prop} {l pre mid rest : List CO} {A : CO} {g : G} {d : D} {r : CR} (hl : l = pre ++ A :: (mid ++ .mk g d true r :: rest))
    (p1 : Ops2 P pre t h h2 t1) (p2 : OpRel P A t1 h t2 h2) (p3 : Ops2 P mid t2 h h2 t3) (p4 : OpRel P (.mk g d true r) t3 h2 t4 h3) (p5 : Ops2 P rest t4 h3 h3 t5) (k : K .normal t5 h3) : DW P nt l t h K := by
  intro ch
  rw [hl]
  exact Ok.dw1 hm p1 p2 p3 p4 p5 k
theorem DW.two (hm : P.follows .mixedOrders = true) {nt : Nat} {t t1 t2 t3 : F} {h h2 h3 : H} {K : X → F → H → Prop} {l pre : List CO} {A : CO} {g : G} {d : D} {r : CR} (hl : l = pre ++ [A, .mk g d true r])
    (p1 : Ops2 P pre t h h2 t1) (p2 : OpRel P A t1 h t2 h2) (p3 : OpRel P (.mk g d true r) t2 h2 t3 h3) (k : K .normal t3 h3) : DW P nt l t h K := DW.gen (mid := []) (rest := []) hm hl p1 p2 rfl p3 rfl k
section
variable {r : Run} {t t' : F} {h h1 h2 : H} {v : V} {n : Nat} {b : Bool} {l : List CO}
theorem opRel_c (a : RunRel P (.mk r) t h v h1) : OpRel P (.mk .none (.some (slOf n)) b (.mk r)) t h (put n v t) h1 := ⟨true, fun _ => rfl, .inl ⟨rfl, v, a, fun k => putS k⟩⟩
theorem opRel_0 (a : RunRel P (.mk r) t h v h1) : OpRel P (.mk .none .none b (.mk r)) t h t h1 := ⟨true, fun _ => rfl, .inl ⟨rfl, v, a, fun k => rfl⟩⟩
theorem or_run {K : F → H → Prop} (a : OR P r t h (.w0 [] t K)) : ∃ v h', RunRel P (.mk r) t h v h' ∧ K t h' := by
  obtain ⟨v, h', rr, k⟩ := a
  rw [go_w0, wo_nil] at k
  exact ⟨v, h', rr, k⟩
theorem rv_of (a : OR P r t h (.w 0 [] F.zero fun t' h' => get 0 t' = v ∧ h' = h)) : RunRel P (.mk r) t h v h := by
  obtain ⟨v', h', rr, k⟩ := a
  rw [go_w, wo_nil, get_put', if_pos rfl] at k
  obtain ⟨rfl, rfl⟩ := k
  exact rr
end
end
end Go.Ev

set_option linter.all false
namespace Go.Ev
open Go
section
variable {P : Program}
/-- all but one leave memory alone -/
theorem Ok.dw0 (hm : P.follows .mixedOrders = true) {nt : Nat} {t t1 t2 t3 : F} {h h2 : H} {K : X → F → H → Prop} {pre mid : List CO} {A : CO} {ch : Option (List Nat × List (Nat × List Nat))} 
    (p1 : Ops2 P pre t h h2 t1) (p2 : OpRel P A t1 h t2 h2) (p3 : Ops2 P mid t2 h h2 t3) (k : K .normal t3 h2) : Ok P nt (.draws (pre ++ A :: mid) ch) t h K := by
  refine ⟨.normal, t3, h2, by_scopes _ fun c e' hs => ?_, k⟩
  cases c with
  | region id ops draw =>
    have e1 : compRegion P nt ops.toList draw = .draws (pre ++ A :: mid) ch := e'
    obtain ⟨rfl, hd, e1⟩ := reg_dr e1
    obtain ⟨lp, l1, q1, q2, q3⟩ := cow_app (CC.draws.inj e1).1
    obtain ⟨oa, lm, rfl, q4, q6⟩ := cow_cons q3
    rw [Nat.zero_add] at q4 q6
    have hop : ∀ (i : Nat) o, ops.toList[i]? = some o → ops[i]? = some o := fun i o e => by simpa using e
    have hn : ops.size = lp.length + 1 + lm.length := by have := congrArg List.length q1; simp at this; omega
    have ha : ops[lp.length]? = some oa := hop _ _ (by rw [q1]; simp)
    obtain ⟨T0, b1, b2, b3⟩ := ops2_trace (P := P) (nt := nt) (ops := ops) (h := h) (h2 := h2) _ lp 0 _ (by rw [List.drop_zero]; exact q1) t t1 (by rw [q2]; exact p1)
    rw [Nat.zero_add] at b2 b3
    obtain ⟨T1, c1, c2, c3⟩ := ops2_trace (P := P) (nt := nt) (ops := ops) (h := h) (h2 := h2) _ lm (lp.length + 1) [] (by rw [q1, ← List.drop_drop, List.drop_left, List.append_nil]; rfl) t2 t3 (by rw [q6]; exact p3)
    have SA := stepOf ha (by rw [q4] at p2; exact p2)
    let Ts : Nat → F := fun i => if i ≤ lp.length then T0 i else T1 i
    have U0 : ∀ i, i ≤ lp.length → Ts i = T0 i := fun i hi => if_pos hi
    have U1 : ∀ i, lp.length < i → Ts i = T1 i := fun i hi => by
      show (if _ then _ else _) = _
      rw [if_neg (by omega)]
    have hA : ∀ o, ops[lp.length]? = some o → StepOk P nt ops lp.length o true (Ts lp.length) (Ts (lp.length + 1)) h h2 := fun o ho => by
      rw [ha] at ho; cases ho
      rw [U0 _ (Nat.le_refl _), U1 _ (by omega), b2, c1]; exact SA
    have hq : ∀ (i : Nat) o, i ≠ lp.length → ops[i]? = some o → StepOk P nt ops i o true (Ts i) (Ts (i + 1)) h h ∧ StepOk P nt ops i o true (Ts i) (Ts (i + 1)) h2 h2 := fun i o hne ho => by
      have hi : i < ops.size := (Array.getElem?_eq_some_iff.1 ho).1
      by_cases e : i < lp.length
      · rw [U0 i (by omega), U0 (i + 1) (by omega)]
        exact b3 i o (Nat.zero_le _) e ho
      · rw [U1 i (by omega), U1 (i + 1) (by omega)]
        exact c3 i o (by omega) (by omega) ho
    have hs : Frm nt ops Ts := fun i o ho => by
      have S : ∃ g g', StepOk P nt ops i o true (Ts i) (Ts (i + 1)) g g' := by
        by_cases e : i = lp.length
        · subst e; exact ⟨_, _, hA o ho⟩
        · exact ⟨_, _, (hq i o e ho).1⟩
      obtain ⟨g, g', S⟩ := S
      exact ⟨S.dst, S.rest⟩
    let Hs : Nat → H := fun i => if i ≤ lp.length then h else h2
    have V0 : ∀ i, i ≤ lp.length → Hs i = h := fun i hi => if_pos hi
    have V1 : ∀ i, lp.length < i → Hs i = h2 := fun i h1 => if_neg (by omega)
    have R := chain_ok (nt := nt) (ops := ops) (Ts := Ts) (Hs := Hs) (lo := fun k => k = lp.length) hm hd hs (fun i j hi hj hij _ => by omega)
      (fun i o hi ho => by
        have hi : i = lp.length := hi
        subst hi
        rw [V0 _ (Nat.le_refl _), V1 _ (by omega)]; exact hA o ho)
      (fun i hi hl => by
        have hl : ¬ i = lp.length := hl
        by_cases e : i < lp.length
        · rw [V0 _ (by omega), V0 _ (by omega)]
        · rw [V1 _ (by omega), V1 _ (by omega)])
      (fun i o hl ho => by
        obtain ⟨x1, x2⟩ := hq i o hl ho
        refine ⟨⟨_, _, x1⟩, .inr fun c _ _ _ => ?_⟩
        by_cases e : c ≤ lp.length
        · rw [V0 _ e]; exact x1
        · rw [V1 _ (by omega)]; exact x2)
    rw [V0 0 (Nat.zero_le _), V1 ops.size (by omega)] at R
    obtain ⟨f1, f2, f3⟩ := R
    exact ⟨f1, f2, fun ρ a w w0 Q A R hQ => f3 ρ a w w0 id Q (by rw [U0 0 (Nat.zero_le _), b1]; exact A) R (by rw [hn, U1 _ (by omega), c2]; exact hQ)⟩
  | scope d => exact absurd rfl (hs d)
  | _ => cases e'
theorem DW.one (hm : P.follows .mixedOrders = true) {nt : Nat} {t t1 t2 t3 : F} {h h2 : H} {K : X → F → H → Prop} {l pre mid : List CO} {A : CO} (hl : l = pre ++ A :: mid)
    (p1 : Ops2 P pre t h h2 t1) (p2 : OpRel P A t1 h t2 h2) (p3 : Ops2 P mid t2 h h2 t3) (k : K .normal t3 h2) : DW P nt l t h K := by
  intro ch
  rw [hl]
  exact Ok.dw0 hm p1 p2 p3 k
theorem opRel_quiet {nt : Nat} {ops : List Oper} {o : Oper} {b : Bool} {t t1 : F} {h h1 : H} (hq : quiet P o.op = true) (a : OpRel P ⟨compG nt ops o.guard, dOf nt o.dst, b, compOp P o.op⟩ t h t1 h1) : h1 = h := by
  obtain ⟨c, _, a⟩ := a
  rcases a with ⟨_, v, ⟨cf, hcf, e⟩, _⟩ | ⟨_, e, _⟩
  · exact quiet_ok hq hcf e
  · exact e
theorem quiet_ops {nt : Nat} {ops : Array Oper} (bars : Nat → Bool) {h : H} : ∀ (l : List Oper) (n : Nat) (rest : List Oper), ops.toList.drop n = l ++ rest → (∀ o ∈ l, quiet P o.op = true) → ∀ (t t' : F) (h' : H),
    OpsRel P (compOpsWith bars P nt ops.toList (compOp P) n l) t h t' h' →
    h' = h ∧ ∃ Ts : Nat → F, Ts n = t ∧ Ts (n + l.length) = t' ∧ ∀ (i : Nat) o, n ≤ i → i < n + l.length → ops[i]? = some o → StepOk P nt ops i o true (Ts i) (Ts (i + 1)) h h := by
  intro l
  induction l with
  | nil =>
    intro n rest hl _ t t' h' hk
    obtain ⟨rfl, rfl⟩ := hk
    exact ⟨rfl, fun _ => t', rfl, rfl, fun i o h1 h2 => by simp at h2; omega⟩
  | cons o l ih =>
    intro n rest hl hq t t' h' hk
    have hn : ops[n]? = some o := by
      have : ops.toList[n]? = some o := by
        have := congrArg (fun l => l[0]?) hl
        simpa using this
      simpa using this
    obtain ⟨t1, h1, k1, k2⟩ := hk
    obtain rfl := opRel_quiet (hq o (by simp)) k1
    have hl' : ops.toList.drop (n + 1) = l ++ rest := by rw [← List.drop_drop, hl]; rfl
    obtain ⟨e, Ts, b1, b2, b3⟩ := ih (n + 1) rest hl' (fun x hx => hq x (List.mem_cons_of_mem _ hx)) _ _ _ k2
    refine ⟨e, fun i => if i = n then t else Ts i, by simp, ?_, fun i oi h1 h2 hi => ?_⟩
    · have e1 : n + (o :: l).length = n + 1 + l.length := by simp; omega
      rw [e1]
      simp only [show ¬ n + 1 + l.length = n by omega, if_false]
      exact b2
    · by_cases hin : i = n
      · subst hin
        rw [hn] at hi
        cases hi
        simp only [if_true, show ¬ i + 1 = i by omega, if_false, b1]
        exact stepOf hn k1
      · simp only [hin, if_false, show ¬ i + 1 = n by omega]
        exact b3 i oi (by omega) (by simp at h2; omega) hi
/-- two that write, A and B; one that reads, o, may come ahead of A or behind it -/
theorem Ok.float (hm : P.follows .mixedOrders = true) {nt : Nat} {t : F} {h : H} {K : X → F → H → Prop} {l L1 L2 L3 : List CO} {o A B : CO} {ld : List Nat} {cs : List (Nat × List Nat)} {n p : Nat} (hl : l = L1 ++ o :: (L2 ++ A :: (L3 ++ [B])))
    (hn : n = L1.length + 1 + L2.length) (hp : p = n + 1 + L3.length) (hlo : ld = [n, p])
    (hcs : cs.all (fun q => (decide (q.1 = L1.length) && q.2.all fun j => decide (j ≤ p)) || ((decide (q.1 ≠ L1.length ∧ q.1 < n) && q.2.all fun j => decide (j ≤ n)) || (decide (n < q.1 ∧ q.1 < p) && q.2.all fun j => decide (n < j ∧ j ≤ p)))) = true)
    (k : WO P L1 t h fun t1 _ => ∃ t2, OpRel P o t1 h t2 h ∧ WO P L2 t2 h fun t3 _ => ∃ t4 h2, OpRel P A t3 h t4 h2 ∧ OpRel P o t1 h2 t2 h2 ∧ WO P L3 t4 h2 fun t5 _ => ∃ t6 h3, OpRel P B t5 h2 t6 h3 ∧ K .normal t6 h3) : Ok P nt (.draws l (some (ld, cs))) t h K := by
  obtain ⟨t1, g1, k1, t2, k2, t3, g3, k3, t4, h2, k4, k5, t5, g5, k6, t6, h3, k7, kk⟩ := k
  refine ⟨.normal, t6, h3, by_scopes _ fun c e' hs => ?_, kk⟩
  cases c with
  | region id ops draw =>
    have e1 : compRegion P nt ops.toList draw = .draws l (some (ld, cs)) := e'
    obtain ⟨rfl, hd, e1⟩ := reg_dr e1
    obtain ⟨e2, ec⟩ := CC.draws.inj e1
    rw [hl] at e2
    obtain ⟨l1, r1, q1, q2, q3⟩ := cow_app e2
    obtain ⟨oo, r2, rfl, q4, q5⟩ := cow_cons q3
    obtain ⟨l2, r3, rfl, q6, q7⟩ := cow_app q5
    obtain ⟨oa, r4, rfl, q8, q9⟩ := cow_cons q7
    obtain ⟨l3, r5, rfl, q10, q11⟩ := cow_app q9
    obtain ⟨ob, r6, rfl, q12, q13⟩ := cow_cons q11
    have cl : ∀ (bars : Nat → Bool) (l : List Oper) (n : Nat), (compOpsWith bars P nt ops.toList (compOp P) n l).length = l.length := by
      intro bars l
      induction l with
      | nil => intro n; rfl
      | cons o l ih => intro n; show (compOpsWith bars P nt ops.toList (compOp P) (n + 1) l).length + 1 = _; rw [ih]; rfl
    have c1 : L1.length = l1.length := by rw [← q2, cl]
    have c2 : L2.length = l2.length := by rw [← q6, cl]
    have c3 : L3.length = l3.length := by rw [← q10, cl]
    obtain rfl : r6 = [] := by
      cases r6 with
      | nil => rfl
      | cons x r => have := congrArg List.length q13; rw [cl] at this; simp at this
    rw [c1] at hcs
    rw [Nat.zero_add] at q4 q6 q8 q10 q12
    obtain rfl : n = l1.length + 1 + l2.length := by omega
    obtain rfl : p = l1.length + 1 + l2.length + 1 + l3.length := by omega
    have hsz : ops.size = l1.length + 1 + l2.length + 1 + l3.length + 1 := by have := congrArg List.length q1; simp at this; omega
    have hop : ∀ (i : Nat) o, ops.toList[i]? = some o → ops[i]? = some o := fun i o e => by simpa using e
    have gl : ∀ i : Nat, ops.toList[i]? = (l1 ++ oo :: (l2 ++ oa :: (l3 ++ [ob])))[i]? := fun i => by rw [q1]
    have ho : ops[l1.length]? = some oo := hop _ _ (by rw [gl]; simp)
    have ha : ops[l1.length + 1 + l2.length]? = some oa := hop _ _ (by rw [gl, List.getElem?_append_right (by omega), show l1.length + 1 + l2.length - l1.length = l2.length + 1 by omega, List.getElem?_cons_succ]; simp)
    have hb : ops[l1.length + 1 + l2.length + 1 + l3.length]? = some ob := hop _ _ (by rw [gl, List.getElem?_append_right (by omega), show l1.length + 1 + l2.length + 1 + l3.length - l1.length = (l2.length + 1 + l3.length) + 1 by omega, List.getElem?_cons_succ, List.getElem?_append_right (by omega), show l2.length + 1 + l3.length - l2.length = l3.length + 1 by omega, List.getElem?_cons_succ]; simp)
    have hld : ld = loudsOf P 0 ops.toList := by
      unfold chainOf at ec
      split at ec
      · cases ec; rfl
      · cases ec
    rw [hlo] at hld
    have hqt : ∀ (i : Nat) x, ops[i]? = some x → i ≠ l1.length + 1 + l2.length → i ≠ l1.length + 1 + l2.length + 1 + l3.length → quiet P x.op = true := fun i x hx n1 n2 => by
      cases hq : quiet P x.op with
      | true => rfl
      | false =>
        have : i ∈ loudsOf P 0 ops.toList := louds_mem.2 ⟨i, x, by omega, (Array.getElem?_toList (xs := ops) (i := i)).trans hx, hq⟩
        rw [← hld] at this
        simp only [List.mem_cons, List.not_mem_nil, or_false] at this
        omega
    have hlq : ∀ (i : Nat) x, ops[i]? = some x → quiet P x.op = true → i ≠ l1.length + 1 + l2.length ∧ i ≠ l1.length + 1 + l2.length + 1 + l3.length := fun i x hx hq => by
      have no : i ∉ loudsOf P 0 ops.toList := fun hi => by
        obtain ⟨j, y, e1, e2, e3⟩ := louds_mem.1 hi
        have e4 : ops[j]? = some y := hop _ _ e2
        rw [show j = i by omega, hx] at e4
        cases e4; rw [hq] at e3; cases e3
      rw [← hld] at no
      simp only [List.mem_cons, List.not_mem_nil, or_false, not_or] at no
      exact no
    have Q1 : ∀ x ∈ l1, quiet P x.op = true := fun x hx => by
      obtain ⟨i, hi, e⟩ := List.mem_iff_getElem.1 hx
      exact hqt i x (hop _ _ (by rw [gl, List.getElem?_append_left hi, List.getElem?_eq_getElem hi, e])) (by omega) (by omega)
    have Q2 : ∀ x ∈ l2, quiet P x.op = true := fun x hx => by
      obtain ⟨i, hi, e⟩ := List.mem_iff_getElem.1 hx
      exact hqt (l1.length + 1 + i) x (hop _ _ (by rw [gl, List.getElem?_append_right (by omega), show l1.length + 1 + i - l1.length = i + 1 by omega, List.getElem?_cons_succ, List.getElem?_append_left hi, List.getElem?_eq_getElem hi, e])) (by omega) (by omega)
    have Q3 : ∀ x ∈ l3, quiet P x.op = true := fun x hx => by
      obtain ⟨i, hi, e⟩ := List.mem_iff_getElem.1 hx
      exact hqt (l1.length + 1 + l2.length + 1 + i) x (hop _ _ (by rw [gl, List.getElem?_append_right (by omega), show l1.length + 1 + l2.length + 1 + i - l1.length = (l2.length + 1 + i) + 1 by omega, List.getElem?_cons_succ, List.getElem?_append_right (by omega), show l2.length + 1 + i - l2.length = i + 1 by omega, List.getElem?_cons_succ, List.getElem?_append_left hi, List.getElem?_eq_getElem hi, e])) (by omega) (by omega)
    have d1 : ops.toList.drop (l1.length + 1) = l2 ++ (oa :: (l3 ++ [ob])) := by rw [q1, ← List.drop_drop, List.drop_left]; rfl
    have d2 : ops.toList.drop (l1.length + 1 + l2.length + 1) = l3 ++ [ob] := by rw [← List.drop_drop, ← List.drop_drop, d1, List.drop_left]; rfl
    obtain ⟨z1, T1, a1, a2, a3⟩ := quiet_ops (P := P) (nt := nt) (ops := ops) (h := h) _ l1 0 _ (by rw [List.drop_zero]; exact q1) Q1 t t1 g1 (by rw [q2]; exact k1)
    rw [Nat.zero_add] at a2 a3
    obtain ⟨z2, T2, b1, b2, b3⟩ := quiet_ops (P := P) (nt := nt) (ops := ops) (h := h) _ l2 (l1.length + 1) _ d1 Q2 t2 t3 g3 (by rw [q6]; exact k3)
    obtain ⟨z3, T3, c4, c5, c6⟩ := quiet_ops (P := P) (nt := nt) (ops := ops) (h := h2) _ l3 (l1.length + 1 + l2.length + 1) _ d2 Q3 t4 t5 g5 (by rw [q10]; exact k6)
    rw [q4] at k2 k5
    rw [q8] at k4
    rw [q12] at k7
    let Ts : Nat → F := fun i => if i ≤ l1.length then T1 i else if i ≤ l1.length + 1 + l2.length then T2 i else if i ≤ l1.length + 1 + l2.length + 1 + l3.length then T3 i else t6
    let Hs : Nat → H := fun i => if i ≤ l1.length + 1 + l2.length then h else if i ≤ l1.length + 1 + l2.length + 1 + l3.length then h2 else h3
    have U1 : ∀ i, i ≤ l1.length → Ts i = T1 i := fun i hi => if_pos hi
    have U2 : ∀ i, l1.length < i → i ≤ l1.length + 1 + l2.length → Ts i = T2 i := fun i hi hj => by
      show (if _ then _ else _) = _
      rw [if_neg (by omega), if_pos hj]
    have U3 : ∀ i, l1.length + 1 + l2.length < i → i ≤ l1.length + 1 + l2.length + 1 + l3.length → Ts i = T3 i := fun i hi hj => by
      show (if _ then _ else _) = _
      rw [if_neg (by omega), if_neg (by omega), if_pos hj]
    have U4 : ∀ i, l1.length + 1 + l2.length + 1 + l3.length < i → Ts i = t6 := fun i hi => by
      show (if _ then _ else _) = _
      rw [if_neg (by omega), if_neg (by omega), if_neg (by omega)]
    have V1 : ∀ i, i ≤ l1.length + 1 + l2.length → Hs i = h := fun i hi => if_pos hi
    have V2 : ∀ i, l1.length + 1 + l2.length < i → i ≤ l1.length + 1 + l2.length + 1 + l3.length → Hs i = h2 := fun i hi hj => by
      show (if _ then _ else _) = _
      rw [if_neg (by omega), if_pos hj]
    have V3 : ∀ i, l1.length + 1 + l2.length + 1 + l3.length < i → Hs i = h3 := fun i hi => by
      show (if _ then _ else _) = _
      rw [if_neg (by omega), if_neg (by omega)]
    have So : StepOk P nt ops l1.length oo true (Ts l1.length) (Ts (l1.length + 1)) h h ∧ StepOk P nt ops l1.length oo true (Ts l1.length) (Ts (l1.length + 1)) h2 h2 := by
      rw [U1 _ (Nat.le_refl _), U2 _ (by omega) (by omega), a2, b1]
      exact ⟨stepOf ho k2, stepOf ho k5⟩
    have Sq : ∀ (i : Nat) x, ops[i]? = some x → i ≠ l1.length + 1 + l2.length → i ≠ l1.length + 1 + l2.length + 1 + l3.length → StepOk P nt ops i x true (Ts i) (Ts (i + 1)) (Hs i) (Hs i) := fun i x hx n1 n2 => by
      have hi : i < ops.size := (Array.getElem?_eq_some_iff.1 hx).1
      by_cases e1 : i < l1.length
      · rw [U1 _ (by omega), U1 _ (by omega), V1 _ (by omega)]; exact a3 i x (Nat.zero_le _) e1 hx
      · by_cases e2 : i = l1.length
        · subst e2
          rw [ho] at hx; cases hx
          rw [V1 _ (by omega)]; exact So.1
        · by_cases e3 : i < l1.length + 1 + l2.length
          · rw [U2 _ (by omega) (by omega), U2 _ (by omega) (by omega), V1 _ (by omega)]; exact b3 i x (by omega) e3 hx
          · rw [U3 _ (by omega) (by omega), U3 _ (by omega) (by omega), V2 _ (by omega) (by omega)]; exact c6 i x (by omega) (by omega) hx
    obtain ⟨f1, f2, f3⟩ := chain_of (nt := nt) (ops := ops) (Ts := Ts) (Hs := Hs) hm hd ec
      (fun i x hx => by
        by_cases n1 : i = l1.length + 1 + l2.length
        · subst n1
          rw [ha] at hx; cases hx
          refine ⟨?_, fun hq => absurd rfl (hlq _ _ ha hq).1⟩
          rw [U2 _ (by omega) (Nat.le_refl _), U3 _ (by omega) (by omega), V1 _ (Nat.le_refl _), V2 _ (by omega) (by omega), b2, c4]
          exact stepOf ha k4
        · by_cases n2 : i = l1.length + 1 + l2.length + 1 + l3.length
          · subst n2
            rw [hb] at hx; cases hx
            refine ⟨?_, fun hq => absurd rfl (hlq _ _ hb hq).2⟩
            rw [U3 _ (by omega) (Nat.le_refl _), U4 _ (by omega), V2 _ (by omega) (Nat.le_refl _), V3 _ (by omega), c5]
            exact stepOf hb k7
          · have same : Hs (i + 1) = Hs i := by
              have hi : i < ops.size := (Array.getElem?_eq_some_iff.1 hx).1
              by_cases e : i < l1.length + 1 + l2.length
              · rw [V1 _ (by omega), V1 _ (by omega)]
              · rw [V2 _ (by omega) (by omega), V2 _ (by omega) (by omega)]
            exact ⟨by rw [same]; exact Sq i x hx n1 n2, fun _ => same⟩)
      (fun q hq x hx j hj => by
        have := List.all_eq_true.1 hcs q hq
        simp only [Bool.or_eq_true, Bool.and_eq_true, decide_eq_true_eq, List.all_eq_true] at this
        rcases this with ⟨e1, e2⟩ | ⟨⟨e1, e3⟩, e2⟩ | ⟨⟨e1, e3⟩, e2⟩
        · rw [e1] at hx ⊢
          rw [ho] at hx; cases hx
          have := e2 j hj
          by_cases e : j ≤ l1.length + 1 + l2.length
          · rw [V1 _ e]; exact So.1
          · rw [V2 _ (by omega) this]; exact So.2
        · have := Sq q.1 x hx (by omega) (by omega)
          rw [V1 _ (by omega)] at this
          rw [V1 _ (e2 j hj)]; exact this
        · have := Sq q.1 x hx (by omega) (by omega)
          rw [V2 _ e1 (by omega)] at this
          have h9 := e2 j hj
          rw [V2 _ h9.1 h9.2]; exact this)
    rw [V1 0 (Nat.zero_le _), V3 ops.size (by omega)] at f1 f2 f3
    exact ⟨f1, f2, fun ρ a w w0 Q A R hQ => f3 ρ a w w0 id Q (by rw [U1 0 (Nat.zero_le _), a1]; exact A) R (by rw [U4 ops.size (by omega)]; exact hQ)⟩
  | scope d => exact absurd rfl (hs d)
  | _ => cases e'
end
end Go.Ev

set_option maxRecDepth 100000
set_option linter.all false
namespace Go.Ev
open Go
section
variable {P : Program} {q : List Nat} {p : Nat} {R : H → Prop}
/-- from the n-th operation on: those of q float; R holds up to the p-th -/
def CWs (P : Program) (q : List Nat) (p : Nat) (R : H → Prop) : List CO → Nat → F → H → (F → H → Prop) → Prop
  | [], _, t, h, K => K t h
  | o :: l, n, t, h, K => ∃ t1 h1, OpRel P o t h t1 h1 ∧ (n + 1 ≤ p → R h1) ∧ (n ∈ q → ∀ g, R g → OpRel P o t g t1 g) ∧ CWs P q p R l (n + 1) t1 h1 K
theorem cws_trace {nt : Nat} {ops : Array Oper} (bars : Nat → Bool) {K : F → H → Prop} : ∀ (l : List Oper) (n : Nat) (rest : List Oper), ops.toList.drop n = l ++ rest → ∀ (t : F) (h : H),
    CWs P q p R (compOpsWith bars P nt ops.toList (compOp P) n l) n t h K →
    ∃ (Ts : Nat → F) (Hs : Nat → H), Ts n = t ∧ Hs n = h ∧ K (Ts (n + l.length)) (Hs (n + l.length)) ∧ ∀ (i : Nat) o, n ≤ i → i < n + l.length → ops[i]? = some o →
      StepOk P nt ops i o true (Ts i) (Ts (i + 1)) (Hs i) (Hs (i + 1)) ∧ (quiet P o.op = true → Hs (i + 1) = Hs i) ∧ (i + 1 ≤ p → R (Hs (i + 1))) ∧ (i ∈ q → ∀ g, R g → StepOk P nt ops i o true (Ts i) (Ts (i + 1)) g g) := by
  intro l
  induction l with
  | nil =>
    intro n rest hl t h hk
    exact ⟨fun _ => t, fun _ => h, rfl, rfl, hk, fun i o h1 h2 => by simp at h2; omega⟩
  | cons o l ih =>
    intro n rest hl t h hk
    have hn : ops[n]? = some o := by
      have : ops.toList[n]? = some o := by
        have := congrArg (fun l => l[0]?) hl
        simpa using this
      simpa using this
    obtain ⟨t1, h1, k1, k2, k3, k4⟩ := hk
    have hl' : ops.toList.drop (n + 1) = l ++ rest := by rw [← List.drop_drop, hl]; rfl
    obtain ⟨Ts, Hs, b1, b2, b3, b4⟩ := ih (n + 1) rest hl' _ _ k4
    have e1 : n + (o :: l).length = n + 1 + l.length := by simp; omega
    refine ⟨fun i => if i = n then t else Ts i, fun i => if i = n then h else Hs i, by simp, by simp, ?_, fun i oi h1' h2' hi => ?_⟩
    · rw [e1]
      simp only [show ¬ n + 1 + l.length = n by omega, if_false]
      exact b3
    · by_cases hin : i = n
      · subst hin
        rw [hn] at hi
        cases hi
        simp only [if_true, show ¬ i + 1 = i by omega, if_false, b1, b2]
        exact ⟨stepOf hn k1, fun hq => opRel_quiet hq k1, k2, fun e g hg => stepOf hn (k3 e g hg)⟩
      · simp only [hin, if_false, show ¬ i + 1 = n by omega]
        exact b4 i oi (by omega) (by rw [e1] at h2'; omega) hi
theorem Ok.chainS (hm : P.follows .mixedOrders = true) {nt : Nat} {t : F} {h : H} {K : X → F → H → Prop} {l : List CO} {ld : List Nat} {cs : List (Nat × List Nat)} (q : List Nat) (p : Nat) (R : H → Prop)
    (hcs : cs.all (fun c => decide (c.1 ∈ q) && c.2.all fun j => decide (j ≤ p)) = true) (hp : p ≤ l.length) (hR : R h) (k : CWs P q p R l 0 t h fun t' h' => K .normal t' h') : Ok P nt (.draws l (some (ld, cs))) t h K := by
  have ex : ∃ t' h', K .normal t' h' ∧ CWs P q p R l 0 t h fun t1 h1 => t1 = t' ∧ h1 = h' := by
    have : ∀ (l : List CO) (n : Nat) (t : F) (h : H) (K : F → H → Prop), CWs P q p R l n t h K → ∃ t' h', K t' h' ∧ CWs P q p R l n t h fun t1 h1 => t1 = t' ∧ h1 = h' := by
      intro l
      induction l with
      | nil => intro n t h K hk; exact ⟨t, h, hk, rfl, rfl⟩
      | cons o l ih =>
        intro n t h K hk
        obtain ⟨t1, h1, k1, k2, k3, k4⟩ := hk
        obtain ⟨t', h', a, b⟩ := ih _ _ _ _ k4
        exact ⟨t', h', a, t1, h1, k1, k2, k3, b⟩
    exact this l 0 t h _ k
  obtain ⟨t', h', kk, k⟩ := ex
  refine ⟨.normal, t', h', by_scopes _ fun c e' hs => ?_, kk⟩
  cases c with
  | region id ops draw =>
    have e1 : compRegion P nt ops.toList draw = .draws l (some (ld, cs)) := e'
    obtain ⟨rfl, hd, e1⟩ := reg_dr e1
    · skip
      · skip
        obtain ⟨e2, ec⟩ := CC.draws.inj e1
        have cl : ∀ (bars : Nat → Bool) (l : List Oper) (n : Nat), (compOpsWith bars P nt ops.toList (compOp P) n l).length = l.length := by
          intro bars l
          induction l with
          | nil => intro n; rfl
          | cons o l ih => intro n; show (compOpsWith bars P nt ops.toList (compOp P) (n + 1) l).length + 1 = _; rw [ih]; rfl
        have hlen : l.length = ops.size := by rw [← e2, cl, Array.length_toList]
        rw [← e2] at k
        obtain ⟨Ts, Hs, b1, b2, ⟨b3, b3'⟩, b4⟩ := cws_trace (ops := ops) _ ops.toList 0 [] (by simp) t h k
        rw [Nat.zero_add, Array.length_toList] at b3 b3' b4
        have hsz : ∀ {i : Nat} {o}, ops[i]? = some o → i < ops.size := fun e => (Array.getElem?_eq_some_iff.1 e).1
        have hRj : ∀ j, j ≤ p → j ≤ ops.size → R (Hs j) := fun j hj hs => by
          cases j with
          | zero => rw [b2]; exact hR
          | succ j =>
            have ho : ops[j]? = some (ops[j]'(by omega)) := Array.getElem?_eq_getElem _
            exact (b4 j _ (Nat.zero_le _) (by omega) ho).2.2.1 hj
        obtain ⟨f1, f2, f3⟩ := chain_of (nt := nt) (ops := ops) (Ts := Ts) (Hs := Hs) hm hd ec
          (fun i o ho => ⟨(b4 i o (Nat.zero_le _) (hsz ho) ho).1, (b4 i o (Nat.zero_le _) (hsz ho) ho).2.1⟩)
          (fun c hc o ho j hj => by
            have := List.all_eq_true.1 hcs c hc
            rw [Bool.and_eq_true, decide_eq_true_eq, List.all_eq_true] at this
            obtain ⟨g1, g2⟩ := this
            have g3 := of_decide_eq_true (g2 j hj)
            exact (b4 _ o (Nat.zero_le _) (hsz ho) ho).2.2.2 g1 _ (hRj j g3 (by omega)))
        rw [b2, b3'] at f1 f2
        exact ⟨f1, f2, fun ρ a w w0 Q A R hQ => f3 ρ a w w0 id Q (by rw [b1]; exact A) (by rw [b2]; exact R) (by rw [b2, b3, b3']; exact hQ)⟩
  | scope d => exact absurd rfl (hs d)
  | _ => cases e'
end
section
variable {P : Program} {q : List Nat} {p n m : Nat} {R : H → Prop} {l : List CO} {t : F} {h : H} {K : F → H → Prop} {r : Run} {b : Bool}
theorem cws_n (k : K t h) : CWs P q p R [] n t h K := k
/-- one that doesn't float -/
theorem cws_c (hq : n ∉ q) (a : OR P r t h (.w 0 [] F.zero fun t' h' => (n + 1 ≤ p → R h') ∧ CWs P q p R l (n + 1) (put m (get 0 t') t) h' K)) : CWs P q p R (.mk .none (.some (slOf m)) b (.mk r) :: l) n t h K := by
  obtain ⟨v, h', rr, k⟩ := a
  rw [go_w, wo_nil, get_put', if_pos rfl] at k
  exact ⟨_, h', opRel_c rr, k.1, fun e => absurd e hq, k.2⟩
theorem cws_0 (hq : n ∉ q) (a : OR P r t h (.w0 [] t fun _ h' => (n + 1 ≤ p → R h') ∧ CWs P q p R l (n + 1) t h' K)) : CWs P q p R (.mk .none .none b (.mk r) :: l) n t h K := by
  obtain ⟨v, h', rr, k⟩ := or_run a
  exact ⟨_, h', opRel_0 rr, k.1, fun e => absurd e hq, k.2⟩
/-- the one that floats -/
theorem cws_f (x : V) (hR : R h) (a : ∀ g, R g → OR P r t g (.w 0 [] F.zero fun t' h' => get 0 t' = x ∧ h' = g)) (k : CWs P q p R l (n + 1) (put m x t) h K) : CWs P q p R (.mk .none (.some (slOf m)) b (.mk r) :: l) n t h K :=
  ⟨_, h, opRel_c (rv_of (a h hR)), fun _ => hR, fun _ g hg => opRel_c (rv_of (a g hg)), k⟩
end
end Go.Ev

set_option maxRecDepth 100000
set_option maxHeartbeats 8000000
set_option linter.all false
namespace Go.Ev
open Go
def FLi (P : Program) (nt : Nat) (l : List CO) (ld : List Nat) (cs : List (Nat × List Nat)) (t : F) (h : H) (K : X → F → H → Prop) : Prop := Ok P nt (.draws l (some (ld, cs))) t h K
theorem fliStop {P : Program} {nt : Nat} {l : List CO} {ld : List Nat} {cs : List (Nat × List Nat)} {t : F} {h : H} {K : X → F → H → Prop} (a : FLi P nt l ld cs t h K) : Ok P nt (.draws l (some (ld, cs))) t h K := a
end Go.Ev
namespace Go.Proofs.Ytmlcddeikgechaa
open Go Go.Ev
end Go.Proofs.Ytmlcddeikgechaa

set_option maxRecDepth 100000
set_option maxHeartbeats 8000000
set_option linter.all false
namespace Go.Ev
open Go
theorem Own.ra5 {h : H} {Q : V → H → Prop} {id : B} {a b c d e : V} {us : List V} (o : Ev.Own h id [a, b, c, d, e]) : RA Q 5 (.p id 0 0 5) us h = Q (one (.a [a, b, c, d, e] :: us)) h := o.ra rfl (by omega) (by omega)
def rem3 (b : List UInt8) (p : Nat) (x y z : Int) : Option Itm := match b.drop p with
  | [] => none
  | c :: b3 => (takeR b3).map fun w => ⟨x, y, z, decide (c = 1), w⟩
def rem2 (b : List UInt8) (p : Nat) (x y : Int) : Option Itm := if (takeN (b.drop p)).2.2 ≠ 0 then none else rem3 b (p + (takeN (b.drop p)).2.1.toNat) x y (takeN (b.drop p)).1
def rem1 (b : List UInt8) (p : Nat) (x : Int) : Option Itm := if (takeN (b.drop p)).2.2 ≠ 0 then none else rem2 b (p + (takeN (b.drop p)).2.1.toNat) x (takeN (b.drop p)).1
def rem0 (b : List UInt8) (p : Nat) : Option Itm := if (takeN (b.drop p)).2.2 ≠ 0 then none else rem1 b (p + (takeN (b.drop p)).2.1.toNat) (takeN (b.drop p)).1
/-- where the loop is -/
def AtI (b : List UInt8) (p : Nat) (xs : List V) (i : Nat) : Prop :=
  (i = 0 ∧ xs = [.i .i64 0, .i .i64 0, .i .i64 0] ∧ takeI b = rem0 b p) ∨ (∃ x, i = 1 ∧ xs = [.i .i64 x, .i .i64 0, .i .i64 0] ∧ takeI b = rem1 b p x) ∨
  (∃ x y, i = 2 ∧ xs = [.i .i64 x, .i .i64 y, .i .i64 0] ∧ takeI b = rem2 b p x y) ∨ (∃ x y z, i = 3 ∧ xs = [.i .i64 x, .i .i64 y, .i .i64 z] ∧ takeI b = rem3 b p x y z)
theorem AtI.no {b : List UInt8} {p i : Nat} {xs : List V} (a : AtI b p xs i) (hi : i < 3) (h : (takeN (b.drop p)).2.2 ≠ 0) : takeI b = none := by
  rcases a with ⟨_, _, e⟩ | ⟨x, _, _, e⟩ | ⟨x, y, _, _, e⟩ | ⟨x, y, z, e, _⟩
  · rw [e]; unfold rem0; rw [if_pos h]
  · rw [e]; unfold rem1; rw [if_pos h]
  · rw [e]; unfold rem2; rw [if_pos h]
  · omega
theorem AtI.len {b : List UInt8} {p i : Nat} {xs : List V} (a : AtI b p xs i) : xs.length = 3 ∧ i ≤ 3 := by
  rcases a with ⟨rfl, rfl, e⟩ | ⟨x, rfl, rfl, e⟩ | ⟨x, y, rfl, rfl, e⟩ | ⟨x, y, z, rfl, rfl, _⟩ <;> exact ⟨rfl, by omega⟩
theorem AtI.next {b : List UInt8} {p i : Nat} {xs : List V} {q k : Nat} (a : AtI b p xs i) (hi : i < 3) (h : takeN (b.drop p) = ((q : Int), (k : Int), 0)) : AtI b (p + k) (xs.set i (.i .i64 (q : Int))) (i + 1) := by
  have hk : ((k : Int)).toNat = k := by omega
  rcases a with ⟨rfl, rfl, e⟩ | ⟨x, rfl, rfl, e⟩ | ⟨x, y, rfl, rfl, e⟩ | ⟨x, y, z, rfl, _⟩
  · refine .inr (.inl ⟨_, rfl, rfl, ?_⟩); rw [e]; unfold rem0; rw [h, if_neg (by simp)]; simp only [hk]
  · refine .inr (.inr (.inl ⟨_, _, rfl, rfl, ?_⟩)); rw [e]; unfold rem1; rw [h, if_neg (by simp)]; simp only [hk]
  · refine .inr (.inr (.inr ⟨_, _, _, rfl, rfl, ?_⟩)); rw [e]; unfold rem2; rw [h, if_neg (by simp)]; simp only [hk]
  · omega
end Go.Ev
namespace Go.Proofs.Ytmlcddeikgechaa
open Go Go.Ev
theorem fp_ws {P : Program} {h h0 : H} {ps : List Pt} {t : F} {z : List V} {e : Option (Nat × Nat)} {off : Nat} {N : Nx} {v : V} {L : List Wri} (a : Ws h0 v L) : FP P off 1 v ps t z e h N = if off + 1 ≤ z.length then FL P ps t (z.take off ++ (v :: z.drop (off + 1))) e h N else FPJ P off 1 v ps t z e h N := by
  rcases a with ⟨rfl, _⟩ | ⟨id, g, off', fin, cap, rfl, _⟩
  · exact fp_l0
  · exact fp_l
theorem ws_one {h : H} {v : V} {L : List Wri} (a : Ws h v L) : cells v = [v] ∧ oneV v = true := by
  rcases a with ⟨rfl, _⟩ | ⟨id, g', off', fin', cap', rfl, _⟩ <;> exact ⟨rfl, rfl⟩
theorem one_it {u : V} (h : oneV u = true) (x y z : Int) (q : Bool) : allOne [.i .i64 x, .i .i64 y, .i .i64 z, .b q, u] = true := by
  unfold allOne; simp [h]; rfl
def rdI (u : V) (r : Itm × Int × Int) : V := .tu [.a [.i .i64 r.1.lv, .i .i64 r.1.n, .i .i64 r.1.tn, .b r.1.sh, u], .i .i64 r.2.1, .i .i64 r.2.2]
end Go.Proofs.Ytmlcddeikgechaa

set_option linter.all false
namespace Go.Ev
open Go
/-- less of a block's cells -/
theorem Own.pre {h : H} {id : B} {xs ys : List V} (o : Own h id (xs ++ ys)) : Own h id xs := by
  obtain ⟨blk, h1, h2, h3, h4, h5, h6, h7⟩ := o
  refine ⟨blk, h1, h2, h3, h4, h5, h6, fun i y hy => h7 i y ?_⟩
  have hi := (List.getElem?_eq_some_iff.1 hy).1
  rw [List.getElem?_append_left hi]; exact hy
theorem Own.none {h : H} {id : B} {xs : List V} (o : Own h id xs) : Own h id [] := Own.pre (xs := []) (ys := xs) o
/-- cells stored behind those that are known -/
theorem store_end {h : H} {id : B} {xs vs : List V} {fin : Nat} (o : Own h id xs) (hj : xs.length + vs.length ≤ fin) (hfit : fin < 2 ^ 37) (h1 : allOne vs = true) : ∃ h', (∀ k, store h id 0 xs.length fin vs k = k h') ∧ Own h' id (xs ++ vs) ∧ Stay (fun i => i = id) h h' := by
  obtain ⟨blk, a1, a2, a3, a4, a5, a6, a7⟩ := o
  obtain ⟨next, floor, heap⟩ := h
  obtain ⟨cur, min, sz, cells, bel, fr⟩ := blk
  simp only at a2 a3 a4 a7
  subst a2; subst a3; subst a4
  obtain ⟨tr, t1, t2, t3⟩ := setList_fine vs xs.length cells (by omega)
  obtain ⟨hp, s1, s2, s3⟩ := setK_ok id (⟨0, 0, sz, tr, bel, 0⟩ : Blk) heap
  have e1 : B.geB floor id = true := by cases floor <;> first | rfl | (show Nat.ble _ _ = true; rw [Nat.ble_eq]; exact a5)
  have e2 : Nat.ble (Nat.add xs.length vs.length) fin = true := by rw [Nat.ble_eq]; exact hj
  have e4 : frOk 0 xs.length = true := rfl
  have e5 : Nat.beq 0 0 = true := rfl
  have e6 : Nat.ble 0 0 = true := rfl
  have a1' : heap.get id = some ⟨0, 0, sz, cells, bel, 0⟩ := a1
  refine ⟨⟨next, floor, hp⟩, fun k => ?_, ⟨_, s2, rfl, rfl, rfl, a5, a6, fun i z hz => ?_⟩, ⟨rfl, Nat.le_refl _, fun i _ hi => s3 i hi⟩⟩
  · simp only [store, hK_mk, a1', optK_some, blkK_mk, e5, e6, e1, e2, h1, e4, ifK_true]
    rw [t1, s1]
  · show tr.getN i = some z
    by_cases hi : i < xs.length
    · rw [List.getElem?_append_left hi] at hz
      rw [t3 i (by omega)]; exact a7 i z hz
    · rw [List.getElem?_append_right (by omega)] at hz
      have := t2 _ z hz
      rwa [show xs.length + (i - xs.length) = i by omega] at this
section
variable {P : Program} {h : H} {N : Nx} {id : B} {el size cnt len c : Nat} {x : V} {xs vs : List V}
/-- in place: there is room -/
theorem AP.made (o : Own h id xs) (hlen : xs.length = len * size) (hx : ∀ k : Nat → List V → Bool, newCells size x h k = k cnt vs) (hn : vs.length = cnt * size) (h1 : allOne vs = true) (hc : len + cnt ≤ c) (hfit : c * size < 2 ^ 37) (hcb : c < 18446744073709551616)
    (k : ∀ h', Own h' id (xs ++ vs) → Stay (fun i => i = id) h h' → N.go P (.l id 0 0 (len + cnt) (c * size) (some c)) h') : AP P el size (.l id 0 0 len (c * size) (some c)) x h N := by
  have hle : Nat.ble (Nat.add len cnt) c = true := by rw [Nat.ble_eq]; exact hc
  have hmul := Nat.mul_le_mul_right size hc
  rw [Nat.add_mul] at hmul
  cases cnt with
  | zero =>
    have hv : vs = [] := List.eq_nil_of_length_eq_zero (by rw [hn, Nat.zero_mul])
    subst hv
    refine hm_of (v := .l id 0 0 (len + 0) (c * size) (some c)) (h' := h) (fun q => ?_) (k h (by rw [List.append_nil]; exact o) ⟨rfl, Nat.le_refl _, fun _ _ _ => rfl⟩)
    rw [hx]
    show boolK (flagB c) _ (fun _ => boolK (Nat.ble (Nat.add len 0) c) (fun _ => appIn id 0 0 len (c * size) c size 0 [] h q) _) = _
    rw [flagB_of hcb, boolK_false, hle]; rfl
  | succ m =>
    obtain ⟨h', a1, a2, a3⟩ := store_end o (vs := vs) (fin := c * size) (by omega) hfit h1
    refine hm_of (v := .l id 0 0 (len + (m + 1)) (c * size) (some c)) (h' := h') (fun q => ?_) (k h' a2 a3)
    rw [hx]
    show boolK (flagB c) _ (fun _ => boolK (Nat.ble (Nat.add len (m + 1)) c) (fun _ => appIn id 0 0 len (c * size) c size (m + 1) vs h q) _) = _
    rw [flagB_of hcb, boolK_false, hle]
    show store h id 0 (Nat.add 0 (Nat.mul len size)) (c * size) vs (fun h => fN (Nat.add len (m + 1)) fun l' => q (.l id 0 0 l' (c * size) (some c)) h) = _
    rw [show Nat.add 0 (Nat.mul len size) = xs.length by rw [hlen]; show 0 + len * size = _; omega, a1, fN_eq]
    rfl
/-- append(S{}, s...): a new block, or the empty one -/
theorem AP.e1 {g off fin : Nat} (hx : ∀ k : Nat → List V → Bool, newCells size x h k = k cnt vs) (hf : B.val h.floor ≤ B.val h.next) (hn : vs.length = cnt * size) (hl : cnt ≤ 1048576) (hl2 : vs.length < 2 ^ 38)
    (k0 : cnt = 0 → N.go P (.l id g off 0 fin (some 0)) h)
    (k : ∀ h', 1 ≤ cnt → Stay nowhere h h' → B.val h'.next = B.val h.next + 1 → Buf h' el size (.l h.next 0 0 cnt vs.length none) vs → Top h' (.l h.next 0 0 cnt vs.length none) → N.go P (.l h.next 0 0 cnt vs.length none) h') : AP P el size (.l id g off 0 fin (some 0)) x h N := by
  cases cnt with
  | zero =>
    have hv : vs = [] := List.eq_nil_of_length_eq_zero (by rw [hn, Nat.zero_mul])
    subst hv
    exact hm_of (v := .l id g off 0 fin (some 0)) (h' := h) (fun q => by rw [hx]; rfl) (k0 rfl)
  | succ m =>
  obtain ⟨h', a1, a2, a3, blk, b1, b2, b3, b4, b5, b6, b7⟩ := alloc_new el vs h hl2
  have hble : Nat.ble (Nat.add 0 (m + 1)) 1048576 = true := by rw [Nat.ble_eq]; show 0 + (m + 1) ≤ _; omega
  have hno : Nat.ble (Nat.add 0 (m + 1)) 0 = false := by
    cases hx : Nat.ble (Nat.add 0 (m + 1)) 0 with
    | false => rfl
    | true => have := Nat.le_of_ble_eq_true hx; have h2 : 0 + (m + 1) ≤ 0 := this; omega
  refine hm_of (v := .l h.next 0 0 (m + 1) vs.length none) (h' := h') (fun q => ?_) (k h' (by omega) a2 a3 (.inr ⟨h.next, 0, m + 1, blk, rfl, by omega, hn, by rw [a2.floor]; exact hf, by omega, b1, ⟨by omega, by omega⟩, b4, b5, b6, b7⟩) ?_)
  · rw [hx]
    show boolK (flagB 0) (fun _ => appGrow (selB (Nat.ble 1 0) (Nat.beq 0 (Nat.add 18446744073709551615 size))) el id g off 0 fin size (m + 1) vs h q) (fun _ => boolK (Nat.ble (Nat.add 0 (m + 1)) 0) (fun _ => appIn id g off 0 fin 0 size (m + 1) vs h q) fun _ => appOut el id g off 0 fin size (m + 1) vs h q) = _
    rw [flagB_of (by omega), boolK_false, hno, boolK_false]
    unfold appOut
    rw [hble, ifK_true]
    show alloc el (app [] vs) h (fun id h => fN (Nat.add 0 (m + 1)) fun l' => fN (Nat.mul l' size) fun fin' => q (.l id 0 0 l' fin' none) h) = _
    rw [app_eq, List.nil_append, a1, fN_eq, fN_eq]
    show q (.l h.next 0 0 (0 + (m + 1)) ((0 + (m + 1)) * size) none) h' = _
    rw [Nat.zero_add, ← hn]
  · intro id' g off n fin cap e
    cases e
    exact ⟨blk, b1, b3⟩
end
end Go.Ev

set_option maxRecDepth 100000
set_option maxHeartbeats 8000000
set_option linter.all false
namespace Go.Ev
open Go
def GrI (h : H) (el n : Nat) (v : V) (m : Nat) (xs : List V) : Prop := ∃ id g cap blk, v = .l id g 0 m (m * n) cap ∧ xs.length = m * n ∧ ((1 ≤ m ∧ cap = none) ∨ (m = 0 ∧ cap = some (18446744073709551615 + n))) ∧
  B.val h.floor ≤ B.val id ∧ B.val id < B.val h.next ∧ h.heap.get id = some blk ∧ blk.min ≤ g ∧ blk.cur = g ∧ m * n ≤ blk.size ∧ blk.el = el ∧ blk.fr = 0 ∧ ∀ i y, xs[i]? = some y → blk.cells.getN i = some y
/-- a row of one's own that is the newest of its block; or nothing -/
def Gr {α : Type} (el n : Nat) (c : α → List V) (h : H) (v : V) (L : List α) : Prop :=
  (v = .l0 ∧ L = []) ∨ (∃ id g off fin, v = .l id g off 0 fin (some 0) ∧ L = [] ∧ off ≤ fin ∧ B.val id < B.val h.next) ∨ GrI h el n v L.length (L.flatMap c)
section
variable {P : Program} {α : Type} [Inhabited α] {n el : Nat} {c : α → List V} {h h' : H} {N : Nx} {v x : V} {L X : List α} {j k cnt : Nat} {vs : List V}
theorem Gr.nil : Gr el n c h .l0 ([] : List α) := .inl ⟨rfl, rfl⟩
theorem Gr.buf (b : Buf h el n v (L.flatMap c)) (tp : Top h v) (hc : ∀ e, (c e).length = n) (hn : 1 ≤ n) : Gr el n c h v L := by
  rcases b with ⟨rfl, e⟩ | ⟨id, g, m, blk, rfl, b1, b2, b3, b4, b5, b6, b7, b8, b9, b10⟩
  · refine .inl ⟨rfl, ?_⟩
    cases L with
    | nil => rfl
    | cons a L => have := fm_len hc (a :: L); rw [e] at this; have h3 : (L.length + 1) * n = 0 := this.symm; rw [Nat.add_mul] at h3; omega
  · obtain ⟨blk', b5', hcur⟩ := tp id g 0 m _ none rfl
    have hbb : blk' = blk := by rw [b5] at b5'; exact (Option.some.inj b5').symm
    subst hbb
    have hm : m = L.length := by
      rw [fm_len hc] at b2
      exact (Nat.eq_of_mul_eq_mul_right (by omega) b2).symm
    subst hm
    exact .inr (.inr ⟨id, g, none, blk', by rw [b2], b2, .inl ⟨b1, rfl⟩, b3, b4, b5, b6.1, hcur, by omega, b8, b9, b10⟩)
theorem Gr.ss (a : Gr el n c h v L) : Ss n c h v L := by
  rcases a with ⟨rfl, rfl⟩ | ⟨id, g, off, fin, rfl, rfl, h1, h2⟩ | ⟨id, g, cap, blk, rfl, a1, a2, a3, a4, a5, a6, a7, a8, a9, a10, a11⟩
  · exact .inl ⟨rfl, rfl⟩
  · exact .inr ⟨id, g, off, fin, _, rfl, by simpa using h1, h2, fun e => absurd rfl e, fun i y hy => by simp at hy⟩
  · refine .inr ⟨id, g, 0, _, cap, rfl, by omega, a4, fun _ => ⟨blk, a5, a6⟩, fun i y hy => ?_⟩
    unfold Ev.cell cellB
    rw [a5]
    show (if blk.min ≤ g then blk.cells.getN (0 + i) else none) = _
    rw [if_pos a6, Nat.zero_add]
    exact a11 i y hy
theorem Gr.lt (a : Gr el n c h v L) : ∀ q, isOf v q → B.val q < B.val h.next := by
  rcases a with ⟨rfl, rfl⟩ | ⟨id, g, off, fin, rfl, rfl, h1, h2⟩ | ⟨id, g, cap, blk, rfl, a1, a2, a3, a4, _⟩
  · rintro q ⟨_, _, _, _, _, e⟩; cases e
  · rintro q ⟨_, _, _, _, _, e⟩; cases e; exact h2
  · rintro q ⟨_, _, _, _, _, e⟩; cases e; exact a4
theorem Gr.stay {p : B → Prop} (a : Gr el n c h v L) (s : Stay p h h') (hp : ∀ q, isOf v q → ¬ p q) : Gr el n c h' v L := by
  rcases a with ⟨rfl, rfl⟩ | ⟨id, g, off, fin, rfl, rfl, h1, h2⟩ | ⟨id, g, cap, blk, rfl, a1, a2, a3, a4, a5, a6⟩
  · exact .inl ⟨rfl, rfl⟩
  · exact .inr (.inl ⟨id, g, off, fin, rfl, rfl, h1, Nat.lt_of_lt_of_le h2 s.next⟩)
  · exact .inr (.inr ⟨id, g, cap, blk, rfl, a1, a2, by rw [s.floor]; exact a3, Nat.lt_of_lt_of_le a4 s.next, (s.get id a4 (hp id ⟨_, _, _, _, _, rfl⟩)).trans a5, a6⟩)
theorem Gr.grow (a : Gr el n c h v L) (s : Stay nowhere h h') : Gr el n c h' v L := a.stay s fun _ _ e => e
/-- a store into a block -/
theorem store_blk {id : B} {g off fin : Nat} {blk : Blk} (h0 : h.heap.get id = some blk) (h1 : blk.cur = g) (h2 : blk.min ≤ g) (h3 : blk.fr = 0) (h4 : B.val h.floor ≤ B.val id) (hj : off + vs.length ≤ fin) (hfit : off + vs.length < 2 ^ 37) (ho : allOne vs = true) :
    ∃ h' tr, (∀ k, store h id g off fin vs k = k h') ∧ h'.heap.get id = some ⟨g, g, blk.size, tr, blk.el, 0⟩ ∧ (∀ i y, vs[i]? = some y → tr.getN (off + i) = some y) ∧ (∀ i, i < off ∨ off + vs.length ≤ i → tr.getN i = blk.cells.getN i) ∧ Stay (fun q => q = id) h h' ∧ h'.next = h.next := by
  obtain ⟨next, floor, heap⟩ := h
  obtain ⟨cur, min, sz, cells, bel, fr⟩ := blk
  simp only at h1 h2 h3 h4
  subst h1; subst h3
  obtain ⟨tr, t1, t2, t3⟩ := setList_fine vs off cells (by omega)
  obtain ⟨hp, s1, s2, s3⟩ := setK_ok id (⟨cur, cur, sz, tr, bel, 0⟩ : Blk) heap
  have e1 : B.geB floor id = true := by cases floor <;> first | rfl | (show Nat.ble _ _ = true; rw [Nat.ble_eq]; exact h4)
  have e2 : Nat.ble (Nat.add off vs.length) fin = true := by rw [Nat.ble_eq]; exact hj
  have e4 : frOk 0 off = true := rfl
  have e5 : Nat.beq cur cur = true := Nat.beq_refl cur
  have e6 : Nat.ble min cur = true := by rw [Nat.ble_eq]; exact h2
  have h0' : heap.get id = some ⟨cur, min, sz, cells, bel, 0⟩ := h0
  refine ⟨⟨next, floor, hp⟩, tr, fun k => ?_, s2, t2, fun i hi => t3 i hi, ⟨rfl, Nat.le_refl _, fun q _ hq => s3 q hq⟩, rfl⟩
  simp only [store, hK_mk, h0', optK_some, blkK_mk, e5, e6, e1, e2, ho, e4, ifK_true]
  rw [t1, s1]
/-- l[j] = y -/
theorem ST.gr {y : α} (a : Gr el n c h v L) (hc : ∀ e, (c e).length = n) (hn : 1 ≤ n) (hj : j < L.length) (hl : L.length * n < 2 ^ 36) (h1 : allOne (c y) = true)
    (k : ∀ h', Gr el n c h' v (L.set j y) → Stay (isOf v) h h' → N.go P (.tu []) h') : ST P n (.p (lid v) (lg v) (loff v + j * n) (lfin v)) (.a (c y)) h N := by
  rcases a with ⟨rfl, rfl⟩ | ⟨id, g, off, fin, rfl, rfl, _⟩ | ⟨id, g, cap, blk, rfl, a1, a2, a3, a4, a5, a6, a7, a8, a9, a10, a11⟩
  · simp at hj
  · simp at hj
  have hjn : (j + 1) * n ≤ L.length * n := Nat.mul_le_mul_right n hj
  rw [Nat.add_mul] at hjn
  obtain ⟨h', tr, b1, b2, b3, b4, b5, b6⟩ := store_blk (off := j * n) (fin := L.length * n) (vs := c y) a5 a7 a6 a10 a3 (by rw [hc]; omega) (by rw [hc]; omega) h1
  refine hm_of (v := .tu []) (h' := h') (fun k => ?_) (k h' (.inr (.inr ⟨id, g, cap, _, by rw [List.length_set], by rw [fm_len hc, List.length_set], by rw [List.length_set]; exact a2, by rw [b5.floor]; exact a3, by rw [b6]; exact a4, b2, Nat.le_refl _, rfl, by rw [List.length_set]; exact a8, a9, rfl, fun i z hz => ?_⟩)) (b5.mono fun q _ e => by rw [e]; exact ⟨_, _, _, _, _, rfl⟩))
  · show ifK (Nat.beq (c y).length n) (fun _ => store h id g (0 + j * n) (L.length * n) (c y) fun h => k (.tu []) h) = _
    rw [hc, Nat.beq_refl, ifK_true, Nat.zero_add, b1]
  · show tr.getN i = some z
    have hil : i < L.length * n := by
      have h1 := (List.getElem?_eq_some_iff.1 hz).1
      rw [fm_len hc, List.length_set] at h1; exact h1
    have hd : i % n < n := Nat.mod_lt _ hn
    have hi : i = i / n * n + i % n := by rw [Nat.mul_comm]; exact (Nat.div_add_mod i n).symm
    have hq : i / n < L.length := (Nat.div_lt_iff_lt_mul hn).2 hil
    generalize i / n = q at *
    generalize i % n = d at *
    subst hi
    rw [fm_get hc (by rw [List.length_set]; exact hq) hd] at hz
    by_cases e : q = j
    · subst e
      have hdl : d < (c y).length := by rw [hc]; exact hd
      have : (L.set q y).getD q default = y := by simp [List.getD, hq]
      rw [this] at hz
      rw [b3 d ((c y).getD d .u) (by simp [List.getD, hdl]), hz]
    · have : (L.set j y).getD q default = L.getD q default := by
        rw [List.getD_eq_getElem?_getD, List.getElem?_set_ne (fun h => e h.symm), ← List.getD_eq_getElem?_getD]
      rw [this] at hz
      rw [b4]
      · exact a11 _ _ (by rw [fm_get hc hq hd]; exact hz)
      · rw [hc]
        rcases Nat.lt_or_gt_of_ne e with h | h
        · have : (q + 1) * n ≤ j * n := Nat.mul_le_mul_right n h
          rw [Nat.add_mul] at this; omega
        · have : (j + 1) * n ≤ q * n := Nat.mul_le_mul_right n h
          rw [Nat.add_mul] at this; omega
/-- append -/
theorem AP.gr (a : Gr el n c h v L) (hc : ∀ e, (c e).length = n) (hn : 1 ≤ n) (hx : ∀ k : Nat → List V → Bool, newCells n x h k = k X.length (X.flatMap c)) (h1 : allOne (X.flatMap c) = true) (hpos : 1 ≤ L.length + X.length) (hb : (L.length + X.length) * n ≤ 1048576) (hf : B.val h.floor ≤ B.val h.next)
    (k : ∀ v' h', Gr el n c h' v' (L ++ X) → Stay (isOf v) h h' → (∀ i, isOf v' i → isOf v i ∨ B.val h.next ≤ B.val i) → N.go P v' h') : AP P el n v x h N := by
  have hXl : (X.flatMap c).length = X.length * n := fm_len hc X
  rw [Nat.add_mul] at hb
  have hXle : X.length ≤ X.length * n := Nat.le_mul_of_pos_right _ hn
  have hLle : L.length ≤ L.length * n := Nat.le_mul_of_pos_right _ hn
  rcases a with ⟨rfl, rfl⟩ | ⟨id, g, off, fin, rfl, rfl, h2, h3⟩ | ⟨id, g, cap, blk, rfl, a1, a2, a3, a4, a5, a6, a7, a8, a9, a10, a11⟩
  · refine AP.buf (vs := X.flatMap c) (cnt := X.length) (Buf.nil h el n) hx hf hn hXl h1 (by rw [hXl, List.length_nil]; omega) fun v' h' b s hv tp => k v' h' (Gr.buf (by simpa using b) tp hc hn) s hv
  · refine AP.e1 hx hf hXl (by omega) (by omega) (fun e => by rw [List.length_nil] at hpos; omega) fun h' _ s nx b tp => k _ h' (Gr.buf (by simpa using b) tp hc hn) (s.mono fun _ _ e => e.elim) fun i hi => ?_
    obtain ⟨_, _, _, _, _, e⟩ := hi; cases e; exact .inr (Nat.le_refl _)
  · obtain ⟨next, floor, heap⟩ := h
    obtain ⟨cur, min, sz, cells, bel, fr⟩ := blk
    simp only at a6 a7 a8 a9 a10
    subst a7; subst a10; subst a9
    obtain ⟨tr, t1, t2, t3⟩ := setList_fine (X.flatMap c) (L.length * n) cells (by omega)
    obtain ⟨min', hmin⟩ : ∃ m', selN (Nat.beq (L.length * n) sz) min (Nat.succ cur) = m' := ⟨_, rfl⟩
    have hmin2 : min' ≤ cur + 1 := by
      rw [← hmin]
      cases Nat.beq (L.length * n) sz with
      | true => show min ≤ cur + 1; omega
      | false => exact Nat.le_refl _
    obtain ⟨hp, s1, s2, s3⟩ := setK_ok id (⟨Nat.succ cur, min', Nat.add (L.length * n) (Nat.mul X.length n), tr, bel, 0⟩ : Blk) heap
    have e1 : Nat.ble min cur = true := by rw [Nat.ble_eq]; exact a6
    have e2 : B.geB floor id = true := by cases floor <;> first | rfl | (show Nat.ble _ _ = true; rw [Nat.ble_eq]; exact a3)
    have e3 : Nat.add 0 (Nat.mul L.length n) = L.length * n := by show 0 + L.length * n = _; omega
    have e3' : Nat.ble (L.length * n) sz = true := by rw [Nat.ble_eq]; exact a8
    have e4 : Nat.beq (L.length * n) (L.length * n) = true := Nat.beq_refl _
    have e6 : Nat.ble (Nat.add L.length X.length) 1048576 = true := by rw [Nat.ble_eq]; show L.length + X.length ≤ 1048576; omega
    have e7 : frOk 0 (L.length * n) = true := rfl
    have e8 : Nat.beq bel bel = true := Nat.beq_refl _
    have e9 : capZ n (Nat.add L.length X.length) = none := capZ_pos (by show 1 ≤ L.length + X.length; omega)
    have b5' : heap.get id = some ⟨cur, min, sz, cells, bel, 0⟩ := a5
    have go : ∀ z, z = true → ∀ k, appGrow z bel id cur 0 L.length (L.length * n) n X.length (X.flatMap c) ⟨next, floor, heap⟩ k = k (.l id (Nat.succ cur) 0 (L.length + X.length) (L.length * n + X.length * n) none) ⟨next, floor, hp⟩ := fun z hz k => by
      subst hz
      simp only [appGrow, hK_mk, b5', optK_some, blkK_mk, fN_eq, e3, e1, e2, e3', e4, e6, h1, e7, e8, e9, ifK_true, hmin]
      rw [t1, s1]; rfl
    have go2 : ∀ q, append2 bel n (.l id cur 0 L.length (L.length * n) cap) X.length (X.flatMap c) ⟨next, floor, heap⟩ q = q (.l id (Nat.succ cur) 0 (L.length + X.length) (L.length * n + X.length * n) none) ⟨next, floor, hp⟩ := fun q => by
      rcases a2 with ⟨a2, rfl⟩ | ⟨a2, rfl⟩
      · exact go _ (by rw [Nat.ble_eq]; exact a2) q
      · show boolK (flagB (18446744073709551615 + n)) (fun _ => appGrow (selB (Nat.ble 1 L.length) (Nat.beq (18446744073709551615 + n) (Nat.add 18446744073709551615 n))) bel id cur 0 L.length (L.length * n) n X.length (X.flatMap c) ⟨next, floor, heap⟩ q) _ = _
        have hfl : flagB (18446744073709551615 + n) = true := by show Nat.ble _ _ = true; rw [Nat.ble_eq]; omega
        rw [hfl, boolK_true]
        refine go _ ?_ q
        rw [show Nat.beq (18446744073709551615 + n) (Nat.add 18446744073709551615 n) = true from Nat.beq_refl _]
        cases Nat.ble 1 L.length <;> rfl
    refine hm_of (v := .l id (Nat.succ cur) 0 (L.length + X.length) (L.length * n + X.length * n) none) (h' := ⟨next, floor, hp⟩) (fun q => by rw [hx, go2]) (k _ _ (.inr (.inr ⟨id, cur + 1, none, _, ?_, ?_, .inl ⟨by rw [List.length_append]; omega, rfl⟩, a3, a4, s2, hmin2, rfl, ?_, rfl, rfl, fun i y hy => ?_⟩)) ⟨rfl, Nat.le_refl _, fun q _ hq => s3 q fun e => hq (by rw [e]; exact ⟨_, _, _, _, _, rfl⟩)⟩ fun i hi => ?_)
    · rw [List.length_append, Nat.add_mul]
    · rw [List.flatMap_append, List.length_append, List.length_append, a1, hXl, Nat.add_mul]
    · show (L ++ X).length * n ≤ L.length * n + X.length * n
      rw [List.length_append, Nat.add_mul]; exact Nat.le_refl _
    · show tr.getN i = some y
      rw [List.flatMap_append] at hy
      by_cases hi : i < L.length * n
      · rw [t3 i (.inl hi)]
        refine a11 i y ?_
        rwa [List.getElem?_append_left (by rw [a1]; exact hi)] at hy
      · rw [List.getElem?_append_right (by rw [a1]; omega), a1] at hy
        have := t2 (i - L.length * n) y hy
        rwa [show L.length * n + (i - L.length * n) = i by omega] at this
    · obtain ⟨_, _, _, _, _, e⟩ := hi; cases e; exact .inl ⟨_, _, _, _, _, rfl⟩
/-- v[:k] -/
theorem Gr.hi (a : Gr el n c h v L) (hc : ∀ e, (c e).length = n) (hk : k ≤ L.length) (hL : 1 ≤ L.length) : ∃ u, Gr el n c h u (L.take k) ∧ (∀ q, isOf u q → isOf v q) ∧ ∀ (g : H) (N : Nx), H2 P (slHiV n) v (.i .i64 (k : Int)) g N = N.go P u g := by
  rcases a with ⟨rfl, rfl⟩ | ⟨id, g, off, fin, rfl, rfl, _⟩ | ⟨id, g, cap, blk, rfl, a1, a2, a3, a4, a5, a6, a7, a8, a9, a10, a11⟩
  · simp at hL
  · simp at hL
  obtain ⟨_, rfl⟩ : 1 ≤ L.length ∧ cap = none := by
    rcases a2 with h | h
    · exact h
    · omega
  have htk : (L.take k).length = k := by rw [List.length_take]; omega
  have hkn : k * n ≤ L.length * n := Nat.mul_le_mul_right n hk
  refine ⟨.l id g 0 k (k * n) (capS n k L.length), .inr (.inr ⟨id, g, capS n k L.length, blk, by rw [htk], by rw [fm_len hc], ?_, a3, a4, a5, a6, a7, by rw [htk]; omega, a9, a10, fun i y hy => a11 i y ?_⟩), ?_, fun g0 N => hv_of fun q => ?_⟩
  · rw [htk]
    cases k with
    | zero =>
      right
      refine ⟨rfl, ?_⟩
      obtain ⟨m, hm⟩ : ∃ m, L.length = m + 1 := ⟨L.length - 1, by omega⟩
      rw [hm]; rfl
    | succ k => left; exact ⟨by omega, rfl⟩
  · rw [fm_take hc, List.getElem?_take] at hy
    split at hy
    · exact hy
    · cases hy
  · rintro q ⟨_, _, _, _, _, e⟩; cases e; exact ⟨_, _, _, _, _, rfl⟩
  · have e0 : Nat.ble 0 k = true := by rw [Nat.ble_eq]; omega
    have e1 : Nat.ble k L.length = true := by rw [Nat.ble_eq]; exact hk
    have e2 : Nat.beq (L.length * n) (Nat.add 0 (Nat.mul L.length n)) = true := by
      rw [show Nat.add 0 (Nat.mul L.length n) = L.length * n by show 0 + L.length * n = _; omega]; exact Nat.beq_refl _
    unfold slHiV
    simp only [vL_l, vI_i, natK_cast, e0, ifK_true]
    show sliceN n id g 0 L.length (L.length * n) 0 k q = _
    unfold sliceN
    rw [e1, ifK_true, e2, ifK_true, fN_eq, fN_eq, fN_eq]
    show q (.l id g (0 + 0 * n) (k - 0) (0 + k * n) (capS n k L.length)) = _
    simp
end
end Go.Ev

set_option maxRecDepth 100000
set_option maxHeartbeats 8000000
set_option linter.all false
namespace Go.Ev
open Go
end Go.Ev
namespace Go.Proofs.Ytmlcddeikgechaa
open Go Go.Ev
theorem isLong_ok {h : H} {w : Wri} (hf : B.val h.floor ≤ B.val h.next) : FnOk Try.prog 32 [.a (wriC w)] h fun y h' => y = .b (decide (12 < w.key.length)) ∧ Stay nowhere h h' := by
  obtain ⟨k, d, v⟩ := w
  unfold wriC
  refine fn_go c32 (by intro hb; cases hb) (by simp) (by simp) fun Q hQ => ?_
  simp only [slotsF, Nat.reduceAdd]
  repeat' (first
    | refine St.h ?_
    | simp (disch := first | omega | (simp only [lnv]; omega)) only [wlk, ↓get_put', ↓reduceIte, seval]
    | (with_reducible (first | apply cd_split | apply gd_split)) <;> (intro hc; (try simp only [hcn] at hc); (try simp only [hc]); (try simp only [hcl] at hc); try omega))
  refine AL.own (by simp) hf fun h1 s1 n1 o1 => ?_
  repeat' (first
    | refine St.h ?_
    | simp (disch := first | omega | (simp only [lnv]; omega)) only [wlk, ↓get_put', ↓reduceIte, seval, o1.row.l1]
    | (with_reducible (first | apply cd_split | apply gd_split)) <;> (intro hc; (try simp only [hcn] at hc); (try simp only [hc]); (try simp only [hcl] at hc); try omega))
  all_goals
    subst hQ
    exact ⟨congrArg V.b (decide_eq_decide.2 (by show (12 < (k.length : Int)) ↔ 12 < k.length; omega)), s1⟩
theorem indexLong_ok {h : H} {v : V} {L : List Wri} (hL : Ws h v L) (hl : L.length ≤ 10000) (hf : B.val h.floor ≤ B.val h.next) : FnOk Try.prog 45 [v, .f 32 []] h fun y h' =>
    ∃ k : Int, y = .i .i64 k ∧ -1 ≤ k ∧ k ≤ L.length ∧ (0 ≤ k ↔ shortI L = false) ∧ Stay nowhere h h' := by
  refine fn_go c45 (by intro hb; cases hb) (by simp) (by simp) fun Q hQ => ?_
  simp only [slotsF, Nat.reduceAdd]
  repeat' (first
    | refine St.h ?_
    | simp (disch := first | omega | (simp only [lnv]; omega)) only [wlk, ↓get_put', ↓reduceIte, seval, hL.ln]
    | (with_reducible (first | apply cd_split | apply gd_split)) <;> (intro hc; (try simp only [hcn] at hc); (try simp only [hc]); (try simp only [hcl] at hc); try omega))
  refine Ok.lp (fun m t g => ∃ i : Nat, m = L.length - i ∧ i ≤ L.length ∧ get 0 t = v ∧ get 1 t = .f 32 [] ∧ get 7 t = .i .i64 (L.length : Int) ∧ get 8 t = .i .i64 (i : Int) ∧ (∀ q, q < i → (L.getD q default).key.length ≤ 12) ∧ Stay nowhere h g) L.length ?_ ?_
  · simp (disch := first | omega | (simp only [lnv]; omega)) only [wlk, ↓get_put', ↓reduceIte, seval]
    refine ⟨0, by omega, by omega, ?_⟩
    refine ⟨?_, ?_, ?_, ?_, fun q hq => by omega, Stay.refl _ _⟩
    all_goals first | trivial | rfl
  rintro I hI m t g ⟨i, rfl, hi, f0, f1, f7, f8, hno, st⟩
  have hfg := st.fl hf
  have hLg := hL.grow st
  by_cases hil : i < L.length
  case neg =>
    obtain rfl : i = L.length := by omega
    repeat' (first
      | refine St.h ?_
      | simp (disch := first | omega | (simp only [lnv]; omega)) only [wlk, ↓get_put', ↓reduceIte, seval, f0, f1, f7, f8]
      | (with_reducible (first | apply cd_split | apply gd_split)) <;> (intro hc; (try simp only [hcn] at hc); (try simp only [hc]); (try simp only [hcl] at hc); try omega))
    subst hQ
    exact ⟨_, rfl, by omega, by omega, by rw [shortI_yes hno]; simp, st⟩
  repeat' (first
    | refine St.h ?_
    | simp (disch := first | omega | (simp only [lnv]; omega)) only [wlk, ↓get_put', ↓reduceIte, seval, f0, f1, f7, f8, hL.ix, hLg.la, Int.toNat_natCast]
    | (with_reducible (first | apply cd_split | apply gd_split)) <;> (intro hc; (try simp only [hcn] at hc); (try simp only [hc]); (try simp only [hcl] at hc); try omega))
  refine CL.stay (isLong_ok (w := L.getD i default) hfg) fun g1 t1 => ?_
  by_cases hb : 12 < (L.getD i default).key.length
  · have hd : decide (12 < (L.getD i default).key.length) = true := decide_eq_true hb
    rw [hd]
    repeat' (first
      | refine St.h ?_
      | simp (disch := first | omega | (simp only [lnv]; omega)) only [wlk, ↓get_put', ↓reduceIte, seval, f0, f1, f7, f8]
      | (with_reducible (first | apply cd_split | apply gd_split)) <;> (intro hc; (try simp only [hcn] at hc); (try simp only [hc]); (try simp only [hcl] at hc); try omega))
    subst hQ
    exact ⟨_, rfl, by omega, by omega, by rw [shortI_no hil hb]; simp, st.trans t1⟩
  · have hd : decide (12 < (L.getD i default).key.length) = false := decide_eq_false hb
    rw [hd]
    repeat' (first
      | refine St.h ?_
      | simp (disch := first | omega | (simp only [lnv]; omega)) only [wlk, ↓get_put', ↓reduceIte, seval, f0, f1, f7, f8]
      | (with_reducible (first | apply cd_split | apply gd_split)) <;> (intro hc; (try simp only [hcn] at hc); (try simp only [hc]); (try simp only [hcl] at hc); try omega))
    refine lp_next hI (L.length - (i + 1)) (by omega) ⟨i + 1, rfl, by omega, by simp (disch := first | omega | (simp only [lnv]; omega)) only [wlk, ↓get_put', ↓reduceIte, seval, f0], by simp (disch := first | omega | (simp only [lnv]; omega)) only [wlk, ↓get_put', ↓reduceIte, seval, f1], by simp (disch := first | omega | (simp only [lnv]; omega)) only [wlk, ↓get_put', ↓reduceIte, seval, f7], by simp (disch := first | omega | (simp only [lnv]; omega)) only [wlk, ↓get_put', ↓reduceIte, seval, f8]; rfl, fun q hq => ?_, st.trans t1⟩
    by_cases e : q = i
    · subst e; omega
    · exact hno q (by omega)
theorem anyLong_ok {h : H} {v : V} {L : List Wri} (hL : Ws h v L) (hl : L.length ≤ 10000) (hf : B.val h.floor ≤ B.val h.next) : FnOk Try.prog 31 [v, .f 32 []] h fun y h' => y = .b (!shortI L) ∧ Stay nowhere h h' := by
  refine fn_go c31 (by intro hb; cases hb) (by simp) (by simp) fun Q hQ => ?_
  simp only [slotsF, Nat.reduceAdd]
  repeat' (first
    | refine St.h ?_
    | simp (disch := first | omega | (simp only [lnv]; omega)) only [wlk, ↓get_put', ↓reduceIte, seval]
    | (with_reducible (first | apply cd_split | apply gd_split)) <;> (intro hc; (try simp only [hcn] at hc); (try simp only [hc]); (try simp only [hcl] at hc); try omega))
  refine CL.mk (indexLong_ok hL hl hf) ?_
  rintro _ h1 ⟨k, rfl, k1, k2, k3, s1⟩
  have hk : decide (0 ≤ k) = !shortI L := by
    cases hh : shortI L with
    | false => exact decide_eq_true (k3.2 hh)
    | true => exact decide_eq_false fun h => by rw [k3.1 h] at hh; cases hh
  repeat' (first
    | refine St.h ?_
    | simp (disch := first | omega | (simp only [lnv]; omega)) only [wlk, ↓get_put', ↓reduceIte, seval]
    | (with_reducible (first | apply cd_split | apply gd_split)) <;> (intro hc; (try simp only [hcn] at hc); (try simp only [hc]); (try simp only [hcl] at hc); try omega))
  subst hQ
  exact ⟨by rw [hk], s1⟩
theorem equalW_ok {h : H} {v w : V} {L M : List Wri} (hL : Ws h v L) (hM : Ws h w M) (hl : L.length ≤ 100000) (hm : M.length ≤ 100000) : FnOk Try.prog 34 [v, w] h fun y h' => y = .b (decide (L = M)) ∧ h' = h := by
  refine fn_go c34 (by intro hb; cases hb) (by simp) (by simp) fun Q hQ => ?_
  simp only [slotsF, Nat.reduceAdd]
  by_cases hlen : L.length = M.length
  case neg =>
    have hd : ((L.length : Int) = (M.length : Int)) = False := eq_false (by omega)
    repeat' (first
      | refine St.h ?_
      | simp (disch := first | omega | (simp only [lnv]; omega)) only [wlk, ↓get_put', ↓reduceIte, seval, hL.ln, hM.ln, hd]
      | (with_reducible (first | apply cd_split | apply gd_split)) <;> (intro hc; (try simp only [hcn] at hc); (try simp only [hc]); (try simp only [hcl] at hc); try omega))
    subst hQ
    exact ⟨by rw [decide_eq_false (fun e => hlen (by rw [e]))], rfl⟩
  have hd : ((L.length : Int) = (M.length : Int)) = True := eq_true (by omega)
  repeat' (first
    | refine St.h ?_
    | simp (disch := first | omega | (simp only [lnv]; omega)) only [wlk, ↓get_put', ↓reduceIte, seval, hL.ln, hM.ln, hd]
    | (with_reducible (first | apply cd_split | apply gd_split)) <;> (intro hc; (try simp only [hcn] at hc); (try simp only [hc]); (try simp only [hcl] at hc); try omega))
  refine Ok.lp (fun m t g => ∃ j : Nat, m = L.length - j ∧ h = g ∧ (∀ i, i < j → L.getD i default = M.getD i default) ∧ j ≤ L.length ∧ get 0 t = v ∧ get 1 t = w ∧ get 12 t = .i .i64 (L.length : Int) ∧ get 13 t = .i .i64 (j : Int)) L.length ?_ ?_
  · simp (disch := first | omega | (simp only [lnv]; omega)) only [wlk, ↓get_put', ↓reduceIte, seval]
    refine ⟨0, by omega, trivial, fun i hi => by omega, by omega, ?_⟩
    repeat' (first | trivial | rfl | refine And.intro ?_ ?_)
  rintro I hI m t g ⟨j, rfl, rfl, he, hj, f0, f1, f12, f13⟩
  by_cases hje : L.getD j default = M.getD j default
  · have hd2 : (M.getD j default).key = (M.getD j default).key ∧ (M.getD j default).del = (M.getD j default).del ∧ (M.getD j default).val = (M.getD j default).val := ⟨rfl, rfl, rfl⟩
    repeat' (first
      | refine St.h ?_
      | simp (disch := first | omega | (simp only [lnv]; omega)) only [wlk, ↓get_put', ↓reduceIte, seval, f0, f1, f12, f13, hL.ln, hL.ix, hM.ix, hL.la, hM.la, hje, Int.toNat_natCast]
      | (with_reducible (first | apply cd_split | apply gd_split)) <;> (intro hc; (try simp only [hcn] at hc); (try simp only [hc]); (try simp only [hcl] at hc); try omega))
    · refine lp_next hI (L.length - (j + 1)) (by omega) ⟨j + 1, rfl, rfl, fun i hi => ?_, by omega, ?_, ?_, ?_, ?_⟩
      · by_cases e : i = j
        · subst e; exact hje
        · exact he i (by omega)
      · simp (disch := first | omega | (simp only [lnv]; omega)) only [wlk, ↓get_put', ↓reduceIte, seval, f0]
      · simp (disch := first | omega | (simp only [lnv]; omega)) only [wlk, ↓get_put', ↓reduceIte, seval, f1]
      · simp (disch := first | omega | (simp only [lnv]; omega)) only [wlk, ↓get_put', ↓reduceIte, seval, f12]
      · simp (disch := first | omega | (simp only [lnv]; omega)) only [wlk, ↓get_put', ↓reduceIte, seval, f13]; rfl
    · obtain rfl : j = L.length := by omega
      subst hQ
      refine ⟨?_, rfl⟩
      rw [decide_eq_true]
      refine List.ext_getElem hlen fun i h1 h2 => ?_
      have := he i h1
      simpa [List.getD, h1, h2] using this
  · have hd2 : decide ((L.getD j default).key = (M.getD j default).key ∧ (L.getD j default).del = (M.getD j default).del ∧ (L.getD j default).val = (M.getD j default).val) = false := decide_eq_false fun e => hje (wri_ext e)
    repeat' (first
      | refine St.h ?_
      | simp (disch := first | omega | (simp only [lnv]; omega)) only [wlk, ↓get_put', ↓reduceIte, seval, f0, f1, f12, f13, hL.ln, hL.ix, hM.ix, hL.la, hM.la, hd2, Int.toNat_natCast]
      | (with_reducible (first | apply cd_split | apply gd_split)) <;> (intro hc; (try simp only [hcn] at hc); (try simp only [hc]); (try simp only [hcl] at hc); try omega))
    · subst hQ
      exact ⟨by rw [decide_eq_false (fun e => hje (by rw [e]))], rfl⟩
    · obtain rfl : j = L.length := by omega
      exact absurd (by simp [List.getD, ← hlen]) hje
theorem iis_ok0 {h : H} {v : V} {lv n tn : Int} {sh : Bool} {ws : List Wri} (hL : Ws h v ws) (hl : ws.length ≤ 10000) (hf : B.val h.floor ≤ B.val h.next) : FnOk Try.prog 15 [.a [.i .i64 lv, .i .i64 n, .i .i64 tn, .b sh, v]] h fun y h' => y = .b (isI ⟨lv, n, tn, sh, ws⟩) ∧ Stay nowhere h h' := by
  refine fn_go c15 (by intro hb; cases hb) (by simp) (by simp) fun Q hQ => ?_
  simp only [slotsF, Nat.reduceAdd]
  repeat' (first
    | refine St.h ?_
    | simp (disch := first | omega | (simp only [lnv]; omega)) only [wlk, ↓get_put', ↓reduceIte, seval]
    | (with_reducible (first | apply cd_split | apply gd_split)) <;> (intro hc; (try simp only [hcn] at hc); (try simp only [hc]); (try simp only [hcl] at hc); try omega))
  refine AL.own (by simp) hf fun h1 s1 n1 o1 => ?_
  have hf1 := s1.fl hf
  have hL1 := hL.grow s1
  have r1 := o1.row
  by_cases hN : 0 ≤ lv ∧ lv < 6 ∧ 1 ≤ n ∧ n ≤ 1000000 ∧ 0 ≤ tn ∧ tn ≤ 1000000
  case neg =>
    have hno := isI_no (x := ⟨lv, n, tn, sh, ws⟩) hN
    repeat' (first
      | refine St.h ?_
      | simp (disch := first | omega | (simp only [lnv]; omega)) only [wlk, ↓get_put', ↓reduceIte, seval, r1.l1, r1.ln]
      | (with_reducible (first | apply cd_split | apply gd_split)) <;> (intro hc; (try simp only [hcn] at hc); (try simp only [hc]); (try simp only [hcl] at hc); try omega))
    all_goals first | (exfalso; omega) | (subst hQ; exact ⟨by rw [hno], s1⟩)
  obtain ⟨c1, c2, c3, c4, c5, c6⟩ := hN
  have hnm := isI_nm (x := ⟨lv, n, tn, sh, ws⟩) ⟨c1, c2, c3, c4, c5, c6⟩
  cases sh with
  | true =>
    repeat' (first
      | refine St.h ?_
      | simp (disch := first | omega | (simp only [lnv]; omega)) only [wlk, ↓get_put', ↓reduceIte, seval, r1.l1, r1.ln, hL1.ln]
      | (with_reducible (first | apply cd_split | apply gd_split)) <;> (intro hc; (try simp only [hcn] at hc); (try simp only [hc]); (try simp only [hcl] at hc); try omega))
    subst hQ
    refine ⟨?_, s1⟩
    rw [hnm, kindI_t rfl]
    show V.b (decide ((ws.length : Int) = 0)) = V.b (shortI ws && decide (ws = []))
    cases ws with
    | nil => rfl
    | cons w r => rw [decide_eq_false (by rw [List.length_cons]; omega), decide_eq_false (by simp), Bool.and_false]
  | false =>
  by_cases hz : ws = []
  · subst hz
    have r0 : isI ⟨lv, n, tn, false, []⟩ = false := by rw [hnm, kindI_f rfl]; rfl
    repeat' (first
      | refine St.h ?_
      | simp (disch := first | omega | (simp only [lnv]; omega)) only [wlk, ↓get_put', ↓reduceIte, seval, r1.l1, r1.ln, hL1.ln]
      | (with_reducible (first | apply cd_split | apply gd_split)) <;> (intro hc; (try simp only [hcn] at hc); (try simp only [hc]); (try simp only [hcl] at hc); try omega))
    · exact absurd hc (by simp)
    · subst hQ
      exact ⟨by rw [r0], s1⟩
  have hpos : 0 < ws.length := List.length_pos_iff.2 hz
  have r0 : isI ⟨lv, n, tn, false, ws⟩ = (shortI ws && isB ws) := by rw [hnm, kindI_f rfl]; simp [hz]
  repeat' (first
    | refine St.h ?_
    | simp (disch := first | omega | (simp only [lnv]; omega)) only [wlk, ↓get_put', ↓reduceIte, seval, r1.l1, r1.ln, hL1.ln]
    | (with_reducible (first | apply cd_split | apply gd_split)) <;> (intro hc; (try simp only [hcn] at hc); (try simp only [hc]); (try simp only [hcl] at hc); try omega))
  refine CL.stay (bis_ok hL1 hl hf1) fun h2 s2 => ?_
  have hf2 := s2.fl hf1
  have hL2 := hL1.grow s2
  have r2 := (o1.stay s2 fun e => e).row
  cases hB : isB ws with
  | false =>
    repeat' (first
      | refine St.h ?_
      | simp (disch := first | omega | (simp only [lnv]; omega)) only [wlk, ↓get_put', ↓reduceIte, seval, r2.l1, r2.ln]
      | (with_reducible (first | apply cd_split | apply gd_split)) <;> (intro hc; (try simp only [hcn] at hc); (try simp only [hc]); (try simp only [hcl] at hc); try omega))
    subst hQ
    exact ⟨by rw [r0, hB, Bool.and_false], s1.trans s2⟩
  | true =>
    repeat' (first
      | refine St.h ?_
      | simp (disch := first | omega | (simp only [lnv]; omega)) only [wlk, ↓get_put', ↓reduceIte, seval, r2.l1, r2.ln]
      | (with_reducible (first | apply cd_split | apply gd_split)) <;> (intro hc; (try simp only [hcn] at hc); (try simp only [hc]); (try simp only [hcl] at hc); try omega))
    refine CL.stay (anyLong_ok hL2 hl hf2) fun h3 s3 => ?_
    repeat' (first
      | refine St.h ?_
      | simp (disch := first | omega | (simp only [lnv]; omega)) only [wlk, ↓get_put', ↓reduceIte, seval]
      | (with_reducible (first | apply cd_split | apply gd_split)) <;> (intro hc; (try simp only [hcn] at hc); (try simp only [hc]); (try simp only [hcl] at hc); try omega))
    subst hQ
    exact ⟨by rw [r0, hB]; simp, (s1.trans s2).trans s3⟩
theorem isame_ok {h : H} {v w : V} {lv n tn lv2 m2 tn2 : Int} {sh sh2 : Bool} {L M : List Wri} (hL : Ws h v L) (hM : Ws h w M) (hl : L.length ≤ 10000) (hm : M.length ≤ 10000) (hf : B.val h.floor ≤ B.val h.next) :
    FnOk Try.prog 17 [.a [.i .i64 lv, .i .i64 n, .i .i64 tn, .b sh, v], .a [.i .i64 lv2, .i .i64 m2, .i .i64 tn2, .b sh2, w]] h fun y h' => y = .b (decide ((⟨lv, n, tn, sh, L⟩ : Itm) = ⟨lv2, m2, tn2, sh2, M⟩)) ∧ Stay nowhere h h' := by
  refine fn_go c17 (by intro hb; cases hb) (by simp) (by simp) fun Q hQ => ?_
  simp only [slotsF, Nat.reduceAdd]
  repeat' (first
    | refine St.h ?_
    | simp (disch := first | omega | (simp only [lnv]; omega)) only [wlk, ↓get_put', ↓reduceIte, seval]
    | (with_reducible (first | apply cd_split | apply gd_split)) <;> (intro hc; (try simp only [hcn] at hc); (try simp only [hc]); (try simp only [hcl] at hc); try omega))
  refine AL.own (by simp) hf fun h1 s1 n1 o1 => ?_
  have hf1 := s1.fl hf
  repeat' (first
    | refine St.h ?_
    | simp (disch := first | omega | (simp only [lnv]; omega)) only [wlk, ↓get_put', ↓reduceIte, seval]
    | (with_reducible (first | apply cd_split | apply gd_split)) <;> (intro hc; (try simp only [hcn] at hc); (try simp only [hc]); (try simp only [hcl] at hc); try omega))
  refine AL.own (by simp) hf1 fun h2 s2 n2 p2 => ?_
  have o2 := o1.stay s2 fun e => e
  have r1 := o2.row
  have r2 := p2.row
  have hL2 := (hL.grow s1).grow s2
  have hM2 := (hM.grow s1).grow s2
  have st := s1.trans s2
  repeat' (first
    | refine St.h ?_
    | simp (disch := first | omega | (simp only [lnv]; omega)) only [wlk, ↓get_put', ↓reduceIte, seval, r1.l1, r2.l1]
    | (with_reducible (first | apply cd_split | apply gd_split)) <;> (intro hc; (try simp only [hcn] at hc); (try simp only [hc]); (try simp only [hcl] at hc); try omega))
  · refine CL.pure (equalW_ok hL2 hM2 (by omega) (by omega)) ?_
    have e1 : lv = lv2 := by assumption
    have e2 : n = m2 := by assumption
    have e3 : tn = tn2 := by assumption
    have e4 : sh = sh2 := by simpa using hc
    repeat' (first
      | refine St.h ?_
      | simp (disch := first | omega | (simp only [lnv]; omega)) only [wlk, ↓get_put', ↓reduceIte, seval]
      | (with_reducible (first | apply cd_split | apply gd_split)) <;> (intro hc; (try simp only [hcn] at hc); (try simp only [hc]); (try simp only [hcl] at hc); try omega))
    subst hQ e1 e2 e3 e4
    exact ⟨congrArg V.b (decide_eq_decide.2 ⟨fun e => by rw [e], fun e => by injection e⟩), st⟩
  all_goals
    subst hQ
    exact ⟨by rw [decide_eq_false (fun e => by cases e; first | exact hc rfl | simp at hc)], st⟩
end Go.Proofs.Ytmlcddeikgechaa
