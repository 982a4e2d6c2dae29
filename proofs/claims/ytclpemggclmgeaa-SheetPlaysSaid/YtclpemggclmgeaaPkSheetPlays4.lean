/- Texts of ours, without what this claim does not use: JrSh JrPd PdO Wy Wx CellM EntM ShT Base NPd1 NPd2 NPd3 NPd4 NPd5. No condition. -/
import Derived.Test.YtclpemggclmgeaaPkSheetPlays3
import Derived.Test.YtclpemggclmgeaaProg
import Derived.KernelRfl
set_option maxRecDepth 1000000
set_option linter.all false
namespace Go.Proofs.Ytclpemggclmgeaa
open Go Go.Ev
noncomputable abbrev s40_0 : CC := (CC.seq (CC.region [(wB 2 (doMove (O.c V.l0)))]) CC.ret)
noncomputable abbrev s40_1 : CC := (CC.cond (tm 4) s40_0 CC.skip)
noncomputable abbrev s40_2 : CC := (CC.seq (CC.region [(wB 3 (doMove (tm 0))), (wB 4 (doNil vLN Bool.false (tm 3) (O.c V.l0)))]) s40_1)
noncomputable abbrev s40_3 : CC := (CC.seq (CC.region [(wB 5 (doBuildSlice 32 0 [] [])), (wB 6 (doMove (tm 0))), (wB 7 (doAppend 32 5 (tm 5) (tm 6))), (wB 2 (doMove (tm 7)))]) CC.ret)
noncomputable abbrev s40_4 : CC := (CC.seq s40_2 s40_3)
noncomputable abbrev b40 : CC := (CC.seq (CC.region [(wB 2 (doMove (O.c V.l0)))]) s40_4)
theorem c40 : compFn Try.prog 40 = ⟨8, b40, [(Rs.tmp (slOf 2))]⟩ := by kernel_rfl
noncomputable abbrev s45_0 : CC := (CC.seq (CC.region [(wB 13 (doMove (tm 0))), (wB 4 (doMove (tm 13)))]) CC.ret)
noncomputable abbrev s45_1 : CC := (CC.cond (tm 12) s45_0 CC.skip)
noncomputable abbrev s45_2 : CC := (CC.seq (CC.region [(wB 11 (doMove (tm 5))), (wB 12 (bin2 fEql (tm 11) (O.c (V.i IntKind.i64 (Int.negSucc 0)))))]) s45_1)
noncomputable abbrev s45_3 : CC := (CC.cond (tm 19) CC.skip (CC.exit 0))
noncomputable abbrev s45_4 : CC := (CC.seq (CC.region [(wB 16 (doMove (tm 6))), (wB 17 (doMove (tm 0))), (wB 18 (doLen (tm 17))), (wB 19 (bin2 fLss (tm 16) (tm 18)))]) s45_3)
noncomputable abbrev s45_5 : CC := (CC.region [(wB 34 (doMove (tm 5))), (wB 35 (bin2 fAdd (tm 34) (oN 1))), (wB 5 (doMove (tm 35)))])
noncomputable abbrev s45_6 : CC := (CC.seq (CC.region [(wB 30 (doMove (tm 0))), (wB 31 (doMove (tm 5))), (wB 32 (doLoadA 5 (tm 7))), (wB 33 (doIndexAddr 5 (tm 30) (tm 31))), (CO.mk G.none D.none Bool.true (CR.mk (doStore 5 (tm 33) (tm 32))))]) s45_5)
noncomputable abbrev s45_7 : CC := (CC.cond (tm 29) s45_6 CC.skip)
noncomputable abbrev s45_8 : CC := (CC.seq (CC.region [(wB 26 (doMove (tm 1))), (wB 27 (doLoadA 5 (tm 7))), (wB 28 (doCallV (tm 26) [(tm 27)])), (wB 29 (doNot (tm 28)))]) s45_7)
noncomputable abbrev s45_9 : CC := (CC.seq (CC.region [(wB 22 (doMove (tm 0))), (wB 23 (doMove (tm 6))), (wB 24 (doIndexAddr 5 (tm 22) (tm 23))), (wB 25 (doLoadA 5 (tm 24))), (wB 7 (doAlloc 32 [(V.i IntKind.i64 (Int.ofNat 0)), (V.i IntKind.i64 (Int.ofNat 0)), (V.s 0 0), (V.s 0 0), (V.i IntKind.i64 (Int.ofNat 0))])), (CO.mk G.none D.none Bool.true (CR.mk (doStore 5 (tm 7) (tm 25))))]) s45_8)
noncomputable abbrev s45_10 : CC := (CC.block 1 s45_9)
noncomputable abbrev s45_11 : CC := (CC.region [(wB 20 (doMove (tm 6))), (wB 21 (bin2 fAdd (tm 20) (oN 1))), (wB 6 (doMove (tm 21)))])
noncomputable abbrev s45_12 : CC := (CC.seq s45_10 s45_11)
noncomputable abbrev l45_0 : CC := (CC.seq s45_4 s45_12)
noncomputable abbrev s45_13 : CC := (CC.loop l45_0)
noncomputable abbrev s45_14 : CC := (CC.block 0 s45_13)
noncomputable abbrev s45_15 : CC := (CC.seq (CC.region [(wB 14 (doMove (tm 5))), (wB 15 (bin2 fAdd (tm 14) (oN 1))), (wB 6 (doMove (tm 15)))]) s45_14)
noncomputable abbrev s45_16 : CC := (CC.seq (CC.region [(wB 39 (doMove (tm 0))), (wB 40 (doMove (tm 5))), (wB 41 (doSlice 5 (tm 39) none (some (tm 40)))), (wB 4 (doMove (tm 41)))]) CC.ret)
noncomputable abbrev s45_17 : CC := (CC.seq (CC.region [(wB 36 (doMove (tm 0))), (wB 37 (doMove (tm 5))), (wB 38 (doSlice 5 (tm 36) (some (tm 37)) none)), (CO.mk G.none D.none Bool.true (CR.mk (doClear [(V.i IntKind.i64 (Int.ofNat 0)), (V.i IntKind.i64 (Int.ofNat 0)), (V.s 0 0), (V.s 0 0), (V.i IntKind.i64 (Int.ofNat 0))] (tm 38))))]) s45_16)
noncomputable abbrev s45_18 : CC := (CC.seq s45_15 s45_17)
noncomputable abbrev s45_19 : CC := (CC.seq s45_2 s45_18)
noncomputable abbrev s45_20 : CC := (CC.seq (CC.region [(wB 8 (doMove (tm 0))), (wB 9 (doMove (tm 1))), (wB 10 (doCall 58 [(tm 8), (tm 9)])), (wB 5 (doMove (tm 10)))]) s45_19)
noncomputable abbrev b45 : CC := (CC.seq (CC.region [(wB 4 (doMove (O.c V.l0)))]) s45_20)
theorem c45 : compFn Try.prog 45 = ⟨42, b45, [(Rs.tmp (slOf 4))]⟩ := by kernel_rfl
noncomputable abbrev s43_0 : CC := (CC.seq (CC.region [(wB 5 (doMove (tm 0))), (wB 6 (doMove (tm 1))), (wB 7 (doCall 58 [(tm 5), (tm 6)])), (wB 8 (bin2 fGeq (tm 7) (oN 0))), (wB 4 (doMove (tm 8)))]) CC.ret)
noncomputable abbrev b43 : CC := (CC.seq (CC.region [(wB 4 (doMove (O.c (V.b Bool.false))))]) s43_0)
theorem c43 : compFn Try.prog 43 = ⟨9, b43, [(Rs.tmp (slOf 4))]⟩ := by kernel_rfl
noncomputable abbrev s58_0 : CC := (CC.cond (tm 9) CC.skip (CC.exit 0))
noncomputable abbrev s58_1 : CC := (CC.seq (CC.region [(wB 17 (doMove (tm 5))), (wB 4 (doMove (tm 17)))]) CC.ret)
noncomputable abbrev s58_2 : CC := (CC.cond (tm 16) s58_1 CC.skip)
noncomputable abbrev s58_3 : CC := (CC.seq (CC.region [(wB 11 (doMove (tm 1))), (wB 12 (doMove (tm 0))), (wB 13 (doMove (tm 5))), (wB 14 (doIndexAddr 5 (tm 12) (tm 13))), (wB 15 (doLoadA 5 (tm 14))), (wB 16 (doCallV (tm 11) [(tm 15)]))]) s58_2)
noncomputable abbrev s58_4 : CC := (CC.seq (CC.region [(wB 10 (doMove (tm 8))), (wB 5 (doMove (tm 10)))]) s58_3)
noncomputable abbrev s58_5 : CC := (CC.block 1 s58_4)
noncomputable abbrev s58_6 : CC := (CC.region [(wB 18 (bin2 fAdd (tm 8) (oN 1))), (wB 8 (doMove (tm 18)))])
noncomputable abbrev s58_7 : CC := (CC.seq s58_5 s58_6)
noncomputable abbrev s58_8 : CC := (CC.seq s58_0 s58_7)
noncomputable abbrev l58_0 : CC := (CC.seq (CC.region [(wB 9 (bin2 fLss (tm 8) (tm 7)))]) s58_8)
noncomputable abbrev s58_9 : CC := (CC.loop l58_0)
noncomputable abbrev s58_10 : CC := (CC.block 0 s58_9)
noncomputable abbrev s58_11 : CC := (CC.seq (CC.region [(wB 6 (doMove (tm 0))), (wB 7 (doLen (tm 6))), (wB 8 (doMove (oN 0)))]) s58_10)
noncomputable abbrev s58_12 : CC := (CC.seq (CC.region [(wB 4 (doMove (O.c (V.i IntKind.i64 (Int.negSucc 0)))))]) CC.ret)
noncomputable abbrev s58_13 : CC := (CC.seq s58_11 s58_12)
noncomputable abbrev b58 : CC := (CC.seq (CC.region [(wB 4 (doMove (oN 0)))]) s58_13)
theorem c58 : compFn Try.prog 58 = ⟨19, b58, [(Rs.tmp (slOf 4))]⟩ := by kernel_rfl
noncomputable abbrev s47_0 : CC := (CC.seq (CC.region [(wB 5 (doMove (tm 0))), (wB 6 (doMove (tm 1))), (wB 7 (doCall 59 [(tm 5), (tm 6)])), (wB 8 (bin2 fGeq (tm 7) (oN 0))), (wB 4 (doMove (tm 8)))]) CC.ret)
noncomputable abbrev b47 : CC := (CC.seq (CC.region [(wB 4 (doMove (O.c (V.b Bool.false))))]) s47_0)
theorem c47 : compFn Try.prog 47 = ⟨9, b47, [(Rs.tmp (slOf 4))]⟩ := by kernel_rfl
noncomputable abbrev s59_0 : CC := (CC.cond (tm 9) CC.skip (CC.exit 0))
noncomputable abbrev s59_1 : CC := (CC.seq (CC.region [(wB 17 (doMove (tm 5))), (wB 4 (doMove (tm 17)))]) CC.ret)
noncomputable abbrev s59_2 : CC := (CC.cond (tm 16) s59_1 CC.skip)
noncomputable abbrev s59_3 : CC := (CC.seq (CC.region [(wB 11 (doMove (tm 1))), (wB 12 (doMove (tm 0))), (wB 13 (doMove (tm 5))), (wB 14 (doIndexAddr 1 (tm 12) (tm 13))), (wB 15 (doLoad (tm 14))), (wB 16 (bin2 fEql (tm 11) (tm 15)))]) s59_2)
noncomputable abbrev s59_4 : CC := (CC.seq (CC.region [(wB 10 (doMove (tm 8))), (wB 5 (doMove (tm 10)))]) s59_3)
noncomputable abbrev s59_5 : CC := (CC.block 1 s59_4)
noncomputable abbrev s59_6 : CC := (CC.region [(wB 18 (bin2 fAdd (tm 8) (oN 1))), (wB 8 (doMove (tm 18)))])
noncomputable abbrev s59_7 : CC := (CC.seq s59_5 s59_6)
noncomputable abbrev s59_8 : CC := (CC.seq s59_0 s59_7)
noncomputable abbrev l59_0 : CC := (CC.seq (CC.region [(wB 9 (bin2 fLss (tm 8) (tm 7)))]) s59_8)
noncomputable abbrev s59_9 : CC := (CC.loop l59_0)
noncomputable abbrev s59_10 : CC := (CC.block 0 s59_9)
noncomputable abbrev s59_11 : CC := (CC.seq (CC.region [(wB 6 (doMove (tm 0))), (wB 7 (doLen (tm 6))), (wB 8 (doMove (oN 0)))]) s59_10)
noncomputable abbrev s59_12 : CC := (CC.seq (CC.region [(wB 4 (doMove (O.c (V.i IntKind.i64 (Int.negSucc 0)))))]) CC.ret)
noncomputable abbrev s59_13 : CC := (CC.seq s59_11 s59_12)
noncomputable abbrev b59 : CC := (CC.seq (CC.region [(wB 4 (doMove (oN 0)))]) s59_13)
theorem c59 : compFn Try.prog 59 = ⟨19, b59, [(Rs.tmp (slOf 4))]⟩ := by kernel_rfl
noncomputable abbrev s48_0 : CC := (CC.seq (CC.region [(wB 3 (doMove (tm 0))), (wB 4 (doCall 60 [(tm 3)])), (wB 2 (doMove (tm 4)))]) CC.ret)
noncomputable abbrev b48 : CC := (CC.seq (CC.region [(wB 2 (doMove (O.c (V.s 0 0))))]) s48_0)
theorem c48 : compFn Try.prog 48 = ⟨5, b48, [(Rs.tmp (slOf 2))]⟩ := by kernel_rfl
noncomputable abbrev s60_0 : CC := (CC.seq (CC.region [(wB 2 (doMove (O.c (V.s 0 0))))]) CC.ret)
noncomputable abbrev s60_1 : CC := (CC.cond (tm 6) s60_0 CC.skip)
noncomputable abbrev s60_2 : CC := (CC.seq (CC.region [(wB 4 (doMove (tm 0))), (wB 5 (doLenS (tm 4))), (wB 6 (bin2 fEql (tm 5) (oN 0)))]) s60_1)
noncomputable abbrev s60_3 : CC := (CC.seq (CC.region [(wB 13 (doMove (tm 3))), (wB 14 (doIndexAddr 1 (tm 13) (oN 0))), (wB 15 (doMove (tm 3))), (wB 16 (doLen (tm 15))), (wB 17 (doUStr 5 (tm 14) (tm 16))), (wB 2 (doMove (tm 17)))]) CC.ret)
noncomputable abbrev s60_4 : CC := (CC.seq (CC.region [(wB 10 (doMove (tm 3))), (wB 11 (doMove (tm 0))), (wB 12 (doCopyS (tm 10) (tm 11)))]) s60_3)
noncomputable abbrev s60_5 : CC := (CC.seq (CC.region [(wB 7 (doMove (tm 0))), (wB 8 (doLenS (tm 7))), (wB 9 (doMakeSlice 5 [(V.i IntKind.u8 (Int.ofNat 0))] (tm 8) (tm 8))), (wB 3 (doMove (tm 9)))]) s60_4)
noncomputable abbrev s60_6 : CC := (CC.seq s60_2 s60_5)
noncomputable abbrev b60 : CC := (CC.seq (CC.region [(wB 2 (doMove (O.c (V.s 0 0))))]) s60_6)
theorem c60 : compFn Try.prog 60 = ⟨18, b60, [(Rs.tmp (slOf 2))]⟩ := by kernel_rfl
noncomputable abbrev s10_0 : CC := (CC.seq (CC.region [(wB 1 (doBuild [V.l0, (V.i IntKind.i64 (Int.ofNat 0)), (V.i IntKind.i64 (Int.ofNat 0)), (V.i IntKind.i64 (Int.ofNat 0))] [(Pt.mk 1 1 (oN 1)), (Pt.mk 3 1 (oN 1))])), (wB 2 (doBox 57 (tm 1))), (wB 0 (doMove (tm 2)))]) CC.ret)
noncomputable abbrev b10 : CC := (CC.seq (CC.region [(wB 0 (doMove (O.c V.p0)))]) s10_0)
theorem c10 : compFn Try.prog 10 = ⟨3, b10, [(Rs.tmp (slOf 0))]⟩ := by kernel_rfl
noncomputable abbrev s13_0 : CC := (CC.seq (CC.region [(wB 4 (doMove (oN 10)))]) CC.ret)
noncomputable abbrev s13_1 : CC := (CC.seq (CC.region [(wB 4 (doMove (oN 18)))]) CC.ret)
noncomputable abbrev s13_2 : CC := (CC.seq (CC.region [(wB 4 (doMove (oN 16)))]) CC.ret)
noncomputable abbrev s13_3 : CC := (CC.cond (tm 17) s13_2 CC.skip)
noncomputable abbrev s13_4 : CC := (CC.seq (CC.region [(wB 18 (doMove (tm 0))), (wB 19 (doLoadA 4 (tm 3))), (wB 20 (doCall 27 [(tm 18), (tm 19)])), (wB 17 (doMove (tm 20)))]) s13_3)
noncomputable abbrev s13_5 : CC := (CC.cond (tm 11) s13_1 s13_4)
noncomputable abbrev s13_6 : CC := (CC.seq (CC.region [(wB 12 (doMove (tm 0))), (wB 13 (doFieldAddr 0 (tm 3))), (wB 14 (doLoad (tm 13))), (wB 15 (doCall 26 [(tm 12), (tm 14)])), (wB 16 (doNot (tm 15))), (wB 11 (doMove (tm 16)))]) s13_5)
noncomputable abbrev s13_7 : CC := (CC.cond (tm 7) s13_0 s13_6)
noncomputable abbrev s13_8 : CC := (CC.seq (CC.region [(wB 8 (doLoadA 4 (tm 3))), (wB 9 (doCall 25 [(tm 8)])), (wB 10 (doNot (tm 9))), (wB 7 (doMove (tm 10)))]) s13_7)
noncomputable abbrev s13_9 : CC := (CC.block 0 s13_8)
noncomputable abbrev s13_10 : CC := (CC.seq (CC.region [(wB 4 (doMove (oN 16)))]) CC.ret)
noncomputable abbrev s13_11 : CC := (CC.seq (CC.region [(wB 4 (doMove (oN 25)))]) CC.ret)
noncomputable abbrev s13_12 : CC := (CC.cond (tm 27) s13_11 CC.skip)
noncomputable abbrev s13_13 : CC := (CC.seq (CC.region [(wB 28 (doMove (tm 5))), (wB 29 (doLen (tm 28))), (wB 30 (bin2 fGtr (tm 29) (oN 40))), (wB 27 (doMove (tm 30)))]) s13_12)
noncomputable abbrev s13_14 : CC := (CC.cond (tm 24) s13_10 s13_13)
noncomputable abbrev s13_15 : CC := (CC.seq (CC.region [(wB 25 (doMove (tm 5))), (wB 26 (doCall 29 [(tm 25)])), (wB 24 (doMove (tm 26)))]) s13_14)
noncomputable abbrev s13_16 : CC := (CC.block 1 s13_15)
noncomputable abbrev s13_17 : CC := (CC.region [(wB 61 (doMove (tm 0))), (wB 62 (doFieldAddr 1 (tm 3))), (wB 63 (doLoad (tm 62))), (wB 64 (doMove (tm 6))), (wB 65 (doIndexAddr 5 (tm 63) (tm 64))), (wB 66 (doFieldAddr 0 (tm 65))), (wB 67 (doLoad (tm 66))), (wB 68 (bin2 fAdd (tm 67) (oN 1))), (wB 69 (doNilCheck (tm 61))), (wB 70 (doFieldAddr 3 (tm 69))), (CO.mk G.none D.none Bool.true (CR.mk (doStore 1 (tm 70) (tm 68))))])
noncomputable abbrev s13_18 : CC := (CC.cond (tm 60) s13_17 CC.skip)
noncomputable abbrev s13_19 : CC := (CC.seq (CC.region [(wB 59 (doMove (tm 6))), (wB 60 (bin2 fGeq (tm 59) (oN 0)))]) s13_18)
noncomputable abbrev s13_20 : CC := (CC.seq (CC.region [(wB 55 (doFieldAddr 1 (tm 3))), (wB 56 (doLoad (tm 55))), (wB 57 (doLen (tm 56))), (wB 58 (bin2 fSub (tm 57) (oN 1))), (wB 6 (doMove (tm 58)))]) s13_19)
noncomputable abbrev s13_21 : CC := (CC.seq (CC.region [(wB 4 (doMove (oN 0)))]) CC.ret)
noncomputable abbrev s13_22 : CC := (CC.seq s13_20 s13_21)
noncomputable abbrev s13_23 : CC := (CC.seq (CC.draws [(uB 35 (doMove (tm 0))), (uB 36 (doMove (tm 0))), (uB 37 (doMove (tm 0))), (uB 38 (doNilCheck (tm 37))), (uB 39 (doFieldAddr 1 (tm 38))), (uB 40 (doLoad (tm 39))), (uB 41 (doFieldAddr 2 (tm 3))), (uB 42 (doLoad (tm 41))), (uB 43 (doMax (tm 40) (tm 42))), (uB 44 (doMove (tm 0))), (uB 45 (doNilCheck (tm 44))), (uB 46 (doFieldAddr 2 (tm 45))), (uB 47 (doLoad (tm 46))), (uB 48 (doFieldAddr 3 (tm 3))), (uB 49 (doLoad (tm 48))), (uB 50 (doMax (tm 47) (tm 49))), (uB 51 (doNilCheck (tm 35))), (uB 52 (doFieldAddr 1 (tm 51))), (CO.mk G.none D.none Bool.false (CR.mk (doStore 1 (tm 52) (tm 43)))), (wB 53 (doNilCheck (tm 36))), (uB 54 (doFieldAddr 2 (tm 53))), (CO.mk G.none D.none Bool.true (CR.mk (doStore 1 (tm 54) (tm 50))))] (some ([18, 21], [(3, [0]), (5, [0]), (7, [0]), (10, [0]), (12, [0]), (14, [0, 19]), (16, [0]), (19, [19])]))) s13_22)
noncomputable abbrev s13_24 : CC := (CC.seq (CC.region [(wB 31 (doMove (tm 0))), (wB 32 (doMove (tm 5))), (wB 33 (doNilCheck (tm 31))), (wB 34 (doFieldAddr 0 (tm 33))), (CO.mk G.none D.none Bool.true (CR.mk (doStore 1 (tm 34) (tm 32))))]) s13_23)
noncomputable abbrev s13_25 : CC := (CC.seq s13_16 s13_24)
noncomputable abbrev s13_26 : CC := (CC.seq (CC.region [(wB 21 (doMove (tm 0))), (wB 22 (doLoadA 4 (tm 3))), (wB 23 (doCall 28 [(tm 21), (tm 22)])), (wB 5 (doMove (tm 23)))]) s13_25)
noncomputable abbrev s13_27 : CC := (CC.seq s13_9 s13_26)
noncomputable abbrev b13 : CC := (CC.seq (CC.region [(wB 3 (doBox 36 (tm 1))), (wB 4 (doMove (oN 0)))]) s13_27)
theorem c13 : compFn Try.prog 13 = ⟨71, b13, [(Rs.tmp (slOf 4))]⟩ := by kernel_rfl
noncomputable abbrev s22_0 : CC := (CC.seq (CC.region [(wB 3 (doMove (tm 0))), (wB 4 (doNilCheck (tm 3))), (wB 5 (doFieldAddr 0 (tm 4))), (wB 6 (doLoad (tm 5))), (wB 7 (doCall 40 [(tm 6)])), (wB 2 (doMove (tm 7)))]) CC.ret)
noncomputable abbrev b22 : CC := (CC.seq (CC.region [(wB 2 (doMove (O.c V.l0)))]) s22_0)
theorem c22 : compFn Try.prog 22 = ⟨8, b22, [(Rs.tmp (slOf 2))]⟩ := by kernel_rfl
noncomputable abbrev s24_0 : CC := (CC.cond (tm 14) CC.skip (CC.exit 0))
noncomputable abbrev s24_1 : CC := (CC.region [(wB 21 (doMove (tm 5))), (wB 22 (doLoadA 5 (tm 7))), (wB 23 (doBuildSlice 32 1 [(V.i IntKind.i64 (Int.ofNat 0)), (V.i IntKind.i64 (Int.ofNat 0)), (V.s 0 0), (V.s 0 0), (V.i IntKind.i64 (Int.ofNat 0))] [(Pt.mk 0 5 (tm 22))])), (wB 24 (doAppend 32 5 (tm 21) (tm 23))), (wB 5 (doMove (tm 24)))])
noncomputable abbrev s24_2 : CC := (CC.cond (tm 20) s24_1 CC.skip)
noncomputable abbrev s24_3 : CC := (CC.seq (CC.region [(wB 17 (doFieldAddr 1 (tm 7))), (wB 18 (doLoad (tm 17))), (wB 19 (doMove (tm 1))), (wB 20 (bin2 fEql (tm 18) (tm 19)))]) s24_2)
noncomputable abbrev s24_4 : CC := (CC.seq (CC.region [(wB 15 (doIndexAddr 5 (tm 11) (tm 13))), (wB 16 (doLoadA 5 (tm 15))), (wB 7 (doAlloc 32 [(V.i IntKind.i64 (Int.ofNat 0)), (V.i IntKind.i64 (Int.ofNat 0)), (V.s 0 0), (V.s 0 0), (V.i IntKind.i64 (Int.ofNat 0))])), (CO.mk G.none D.none Bool.true (CR.mk (doStore 5 (tm 7) (tm 16))))]) s24_3)
noncomputable abbrev s24_5 : CC := (CC.block 1 s24_4)
noncomputable abbrev s24_6 : CC := (CC.region [(wB 25 (bin2 fAdd (tm 13) (oN 1))), (wB 13 (doMove (tm 25)))])
noncomputable abbrev s24_7 : CC := (CC.seq s24_5 s24_6)
noncomputable abbrev s24_8 : CC := (CC.seq s24_0 s24_7)
noncomputable abbrev l24_0 : CC := (CC.seq (CC.region [(wB 14 (bin2 fLss (tm 13) (tm 12)))]) s24_8)
noncomputable abbrev s24_9 : CC := (CC.loop l24_0)
noncomputable abbrev s24_10 : CC := (CC.block 0 s24_9)
noncomputable abbrev s24_11 : CC := (CC.seq (CC.region [(wB 8 (doMove (tm 0))), (wB 9 (doNilCheck (tm 8))), (wB 10 (doFieldAddr 0 (tm 9))), (wB 11 (doLoad (tm 10))), (wB 12 (doLen (tm 11))), (wB 13 (doMove (oN 0)))]) s24_10)
noncomputable abbrev s24_12 : CC := (CC.seq (CC.region [(wB 26 (doMove (tm 5))), (wB 4 (doMove (tm 26)))]) CC.ret)
noncomputable abbrev s24_13 : CC := (CC.seq s24_11 s24_12)
noncomputable abbrev s24_14 : CC := (CC.seq (CC.region [(wB 5 (doMove (O.c V.l0)))]) s24_13)
noncomputable abbrev b24 : CC := (CC.seq (CC.region [(wB 4 (doMove (O.c V.l0)))]) s24_14)
theorem c24 : compFn Try.prog 24 = ⟨27, b24, [(Rs.tmp (slOf 4))]⟩ := by kernel_rfl
noncomputable abbrev s19_0 : CC := (CC.seq (CC.region [(wB 3 (doMove (tm 0))), (wB 4 (doNilCheck (tm 3))), (wB 5 (doFieldAddr 1 (tm 4))), (wB 6 (doLoad (tm 5))), (wB 2 (doMove (tm 6)))]) CC.ret)
noncomputable abbrev b19 : CC := (CC.seq (CC.region [(wB 2 (doMove (oN 0)))]) s19_0)
theorem c19 : compFn Try.prog 19 = ⟨7, b19, [(Rs.tmp (slOf 2))]⟩ := by kernel_rfl
noncomputable abbrev s20_0 : CC := (CC.seq (CC.region [(wB 3 (doMove (tm 0))), (wB 4 (doNilCheck (tm 3))), (wB 5 (doFieldAddr 2 (tm 4))), (wB 6 (doLoad (tm 5))), (wB 2 (doMove (tm 6)))]) CC.ret)
noncomputable abbrev b20 : CC := (CC.seq (CC.region [(wB 2 (doMove (oN 0)))]) s20_0)
theorem c20 : compFn Try.prog 20 = ⟨7, b20, [(Rs.tmp (slOf 2))]⟩ := by kernel_rfl
noncomputable abbrev s21_0 : CC := (CC.seq (CC.region [(wB 3 (doMove (tm 0))), (wB 4 (doNilCheck (tm 3))), (wB 5 (doFieldAddr 3 (tm 4))), (wB 6 (doLoad (tm 5))), (wB 2 (doMove (tm 6)))]) CC.ret)
noncomputable abbrev b21 : CC := (CC.seq (CC.region [(wB 2 (doMove (oN 0)))]) s21_0)
theorem c21 : compFn Try.prog 21 = ⟨7, b21, [(Rs.tmp (slOf 2))]⟩ := by kernel_rfl
noncomputable abbrev s12_0 : CC := (CC.seq (CC.draws [(uB 3 (doMove (tm 0))), (uB 4 (doCall 22 [(tm 3)])), (uB 5 (doMove (tm 0))), (uB 6 (doNilCheck (tm 5))), (uB 7 (doFieldAddr 1 (tm 6))), (uB 8 (doLoad (tm 7))), (uB 9 (doMove (tm 0))), (uB 10 (doNilCheck (tm 9))), (uB 11 (doFieldAddr 2 (tm 10))), (uB 12 (doLoad (tm 11))), (uB 13 (doMove (tm 0))), (uB 14 (doNilCheck (tm 13))), (uB 15 (doFieldAddr 3 (tm 14))), (uB 16 (doLoad (tm 15))), (uB 17 (doBuild [V.l0, (V.i IntKind.i64 (Int.ofNat 0)), (V.i IntKind.i64 (Int.ofNat 0)), (V.i IntKind.i64 (Int.ofNat 0))] [(Pt.mk 0 1 (tm 4)), (Pt.mk 1 1 (tm 8)), (Pt.mk 2 1 (tm 12)), (Pt.mk 3 1 (tm 16))])), (wB 18 (doBox 57 (tm 17))), (uB 2 (doMove (tm 18)))] (some ([1, 15], [(3, [0, 2]), (5, [0, 2]), (7, [0, 2]), (9, [0, 2]), (11, [0, 2]), (13, [0, 2])]))) CC.ret)
noncomputable abbrev b12 : CC := (CC.seq (CC.region [(wB 2 (doMove (O.c V.p0)))]) s12_0)
theorem c12 : compFn Try.prog 12 = ⟨19, b12, [(Rs.tmp (slOf 2))]⟩ := by kernel_rfl
noncomputable abbrev s25_0 : CC := (CC.seq (CC.region [(wB 2 (doMove (O.c (V.b Bool.false))))]) CC.ret)
noncomputable abbrev s25_1 : CC := (CC.cond (tm 14) s25_0 CC.skip)
noncomputable abbrev s25_2 : CC := (CC.seq (CC.region [(wB 5 (doFieldAddr 0 (tm 1))), (wB 6 (doLoad (tm 5))), (wB 7 (doLen (tm 6))), (wB 8 (bin2 fGtr (tm 7) (oN 40))), (wB 9 (doMove (tm 8))), (wG 9 false 10 (doFieldAddr 1 (tm 1))), (wG 9 false 11 (doLoad (tm 10))), (wG 9 false 12 (doLen (tm 11))), (wG 9 false 13 (bin2 fGtr (tm 12) (oN 40))), (wB 14 (doPick (tm 9) (O.c (V.b Bool.true)) (tm 13)))]) s25_1)
noncomputable abbrev s25_3 : CC := (CC.cond (tm 19) CC.skip (CC.exit 0))
noncomputable abbrev s25_4 : CC := (CC.seq (CC.region [(wB 2 (doMove (O.c (V.b Bool.false))))]) CC.ret)
noncomputable abbrev s25_5 : CC := (CC.cond (tm 25) s25_4 CC.skip)
noncomputable abbrev s25_6 : CC := (CC.seq (CC.region [(wB 23 (doLoadA 5 (tm 4))), (wB 24 (doCall 41 [(tm 23)])), (wB 25 (doNot (tm 24)))]) s25_5)
noncomputable abbrev s25_7 : CC := (CC.seq (CC.region [(wB 2 (doMove (O.c (V.b Bool.false))))]) CC.ret)
noncomputable abbrev s25_8 : CC := (CC.cond (tm 39) s25_7 CC.skip)
noncomputable abbrev s25_9 : CC := (CC.seq (CC.draws [(uB 26 (doMove (tm 3))), (uB 27 (bin2 fGtr (tm 26) (oN 0))), (uB 28 (doMove (tm 27))), (uG 28 true 29 (doFieldAddr 1 (tm 1))), (uG 28 true 30 (doLoad (tm 29))), (uG 28 true 31 (doMove (tm 3))), (uG 28 true 32 (bin2 fSub (tm 31) (oN 1))), (uG 28 true 33 (doIndexAddr 5 (tm 30) (tm 32))), (uG 28 true 34 (doFieldAddr 0 (tm 33))), (uG 28 true 35 (doLoad (tm 34))), (uG 28 true 36 (doFieldAddr 0 (tm 4))), (uG 28 true 37 (doLoad (tm 36))), (uG 28 true 38 (bin2 fGeq (tm 35) (tm 37))), (uB 39 (doPick (tm 28) (tm 38) (O.c (V.b Bool.false))))] none) s25_8)
noncomputable abbrev s25_10 : CC := (CC.seq s25_6 s25_9)
noncomputable abbrev s25_11 : CC := (CC.seq (CC.region [(wB 20 (doMove (tm 18))), (wB 21 (doIndexAddr 5 (tm 16) (tm 18))), (wB 22 (doLoadA 5 (tm 21))), (wB 4 (doAlloc 32 [(V.i IntKind.i64 (Int.ofNat 0)), (V.i IntKind.i64 (Int.ofNat 0)), (V.s 0 0), (V.s 0 0), (V.i IntKind.i64 (Int.ofNat 0))])), (wB 3 (doMove (tm 20))), (CO.mk G.none D.none Bool.true (CR.mk (doStore 5 (tm 4) (tm 22))))]) s25_10)
noncomputable abbrev s25_12 : CC := (CC.block 1 s25_11)
noncomputable abbrev s25_13 : CC := (CC.region [(wB 40 (bin2 fAdd (tm 18) (oN 1))), (wB 18 (doMove (tm 40)))])
noncomputable abbrev s25_14 : CC := (CC.seq s25_12 s25_13)
noncomputable abbrev s25_15 : CC := (CC.seq s25_3 s25_14)
noncomputable abbrev l25_0 : CC := (CC.seq (CC.region [(wB 19 (bin2 fLss (tm 18) (tm 17)))]) s25_15)
noncomputable abbrev s25_16 : CC := (CC.loop l25_0)
noncomputable abbrev s25_17 : CC := (CC.block 0 s25_16)
noncomputable abbrev s25_18 : CC := (CC.seq (CC.region [(wB 15 (doFieldAddr 1 (tm 1))), (wB 16 (doLoad (tm 15))), (wB 17 (doLen (tm 16))), (wB 18 (doMove (oN 0)))]) s25_17)
noncomputable abbrev s25_19 : CC := (CC.seq (CC.region [(wB 41 (doFieldAddr 2 (tm 1))), (wB 42 (doLoad (tm 41))), (wB 43 (doCall 42 [(oN 0), (tm 42), (oN 1000000)])), (wB 44 (doMove (tm 43))), (wG 44 true 45 (doFieldAddr 3 (tm 1))), (wG 44 true 46 (doLoad (tm 45))), (wG 44 true 47 (doCall 42 [(oN 0), (tm 46), (oN 1000000)])), (wB 48 (doPick (tm 44) (tm 47) (O.c (V.b Bool.false)))), (wB 2 (doMove (tm 48)))]) CC.ret)
noncomputable abbrev s25_20 : CC := (CC.seq s25_18 s25_19)
noncomputable abbrev s25_21 : CC := (CC.seq s25_2 s25_20)
noncomputable abbrev b25 : CC := (CC.seq (CC.region [(wB 1 (doBox 36 (tm 0))), (wB 2 (doMove (O.c (V.b Bool.false))))]) s25_21)
theorem c25 : compFn Try.prog 25 = ⟨49, b25, [(Rs.tmp (slOf 2))]⟩ := by kernel_rfl
noncomputable abbrev s41_0 : CC := (CC.seq (CC.region [(wB 3 (doFieldAddr 0 (tm 1))), (wB 4 (doLoad (tm 3))), (wB 5 (doCall 42 [(oN 1), (tm 4), (oN 1000000)])), (wB 6 (doMove (tm 5))), (wG 6 true 7 (doFieldAddr 1 (tm 1))), (wG 6 true 8 (doLoad (tm 7))), (wG 6 true 9 (doCall 42 [(oN 0), (tm 8), (oN 1)])), (wB 10 (doPick (tm 6) (tm 9) (O.c (V.b Bool.false)))), (wB 11 (doMove (tm 10))), (wG 11 true 12 (doFieldAddr 2 (tm 1))), (wG 11 true 13 (doLoad (tm 12))), (wG 11 true 14 (doCall 57 [(tm 13)])), (wB 15 (doPick (tm 11) (tm 14) (O.c (V.b Bool.false)))), (wB 16 (doMove (tm 15))), (wG 16 true 17 (doFieldAddr 3 (tm 1))), (wG 16 true 18 (doLoad (tm 17))), (wG 16 true 19 (doCall 57 [(tm 18)])), (wB 20 (doPick (tm 16) (tm 19) (O.c (V.b Bool.false)))), (wB 21 (doMove (tm 20))), (wG 21 true 22 (doFieldAddr 2 (tm 1))), (wG 21 true 23 (doLoad (tm 22))), (wG 21 true 24 (doFieldAddr 3 (tm 1))), (wG 21 true 25 (doLoad (tm 24))), (wG 21 true 26 (doSCmp (fun a b c d => ltS a b c d || eqS a b c d) (tm 23) (tm 25))), (wB 27 (doPick (tm 21) (tm 26) (O.c (V.b Bool.false)))), (wB 28 (doMove (tm 27))), (wG 28 true 29 (doFieldAddr 4 (tm 1))), (wG 28 true 30 (doLoad (tm 29))), (wG 28 true 31 (bin2 fGeq (tm 30) (oN 1))), (wB 32 (doPick (tm 28) (tm 31) (O.c (V.b Bool.false)))), (wB 2 (doMove (tm 32)))]) CC.ret)
noncomputable abbrev b41 : CC := (CC.seq (CC.region [(wB 1 (doBox 32 (tm 0))), (wB 2 (doMove (O.c (V.b Bool.false))))]) s41_0)
theorem c41 : compFn Try.prog 41 = ⟨33, b41, [(Rs.tmp (slOf 2))]⟩ := by kernel_rfl
noncomputable abbrev s42_0 : CC := (CC.seq (CC.region [(wB 7 (doMove (tm 0))), (wB 8 (doMove (tm 1))), (wB 9 (bin2 fLeq (tm 7) (tm 8))), (wB 10 (doMove (tm 9))), (wG 10 true 11 (doMove (tm 1))), (wG 10 true 12 (doMove (tm 2))), (wG 10 true 13 (bin2 fLeq (tm 11) (tm 12))), (wB 14 (doPick (tm 10) (tm 13) (O.c (V.b Bool.false)))), (wB 6 (doMove (tm 14)))]) CC.ret)
noncomputable abbrev b42 : CC := (CC.seq (CC.region [(wB 6 (doMove (O.c (V.b Bool.false))))]) s42_0)
theorem c42 : compFn Try.prog 42 = ⟨15, b42, [(Rs.tmp (slOf 6))]⟩ := by kernel_rfl
noncomputable abbrev s57_0 : CC := (CC.seq (CC.region [(wB 3 (doMove (tm 0))), (wB 4 (doLenS (tm 3))), (wB 5 (doCall 42 [(oN 1), (tm 4), (oN 13)])), (wB 2 (doMove (tm 5)))]) CC.ret)
noncomputable abbrev b57 : CC := (CC.seq (CC.region [(wB 2 (doMove (O.c (V.b Bool.false))))]) s57_0)
theorem c57 : compFn Try.prog 57 = ⟨6, b57, [(Rs.tmp (slOf 2))]⟩ := by kernel_rfl
noncomputable abbrev s26_0 : CC := (CC.cond (tm 10) CC.skip (CC.exit 0))
noncomputable abbrev s26_1 : CC := (CC.seq (CC.region [(wB 4 (doMove (O.c (V.b Bool.false))))]) CC.ret)
noncomputable abbrev s26_2 : CC := (CC.cond (tm 19) s26_1 CC.skip)
noncomputable abbrev s26_3 : CC := (CC.seq (CC.region [(wB 13 (doMove (tm 0))), (wB 14 (doNilCheck (tm 13))), (wB 15 (doFieldAddr 0 (tm 14))), (wB 16 (doLoad (tm 15))), (wB 17 (doMkF 44 [(tm 6)])), (wB 18 (doCall 43 [(tm 16), (tm 17)])), (wB 19 (doNot (tm 18)))]) s26_2)
noncomputable abbrev s26_4 : CC := (CC.seq (CC.region [(wB 11 (doIndexAddr 1 (tm 7) (tm 9))), (wB 12 (doLoad (tm 11))), (wB 6 (doAlloc 3 [(V.i IntKind.i64 (Int.ofNat 0))])), (CO.mk G.none D.none Bool.true (CR.mk (doStore 1 (tm 6) (tm 12))))]) s26_3)
noncomputable abbrev s26_5 : CC := (CC.block 1 s26_4)
noncomputable abbrev s26_6 : CC := (CC.region [(wB 20 (bin2 fAdd (tm 9) (oN 1))), (wB 9 (doMove (tm 20)))])
noncomputable abbrev s26_7 : CC := (CC.seq s26_5 s26_6)
noncomputable abbrev s26_8 : CC := (CC.seq s26_0 s26_7)
noncomputable abbrev l26_0 : CC := (CC.seq (CC.region [(wB 10 (bin2 fLss (tm 9) (tm 8)))]) s26_8)
noncomputable abbrev s26_9 : CC := (CC.loop l26_0)
noncomputable abbrev s26_10 : CC := (CC.block 0 s26_9)
noncomputable abbrev s26_11 : CC := (CC.seq (CC.region [(wB 7 (doMove (tm 1))), (wB 8 (doLen (tm 7))), (wB 9 (doMove (oN 0)))]) s26_10)
noncomputable abbrev s26_12 : CC := (CC.seq (CC.region [(wB 4 (doMove (O.c (V.b Bool.true))))]) CC.ret)
noncomputable abbrev s26_13 : CC := (CC.seq s26_11 s26_12)
noncomputable abbrev b26 : CC := (CC.seq (CC.region [(wB 4 (doMove (O.c (V.b Bool.false))))]) s26_13)
theorem c26 : compFn Try.prog 26 = ⟨21, b26, [(Rs.tmp (slOf 4))]⟩ := by kernel_rfl
noncomputable abbrev s44_0 : CC := (CC.seq (CC.region [(wB 4 (doFieldAddr 0 (tm 2))), (wB 5 (doLoad (tm 4))), (wB 6 (doLoad (tm 1))), (wB 7 (bin2 fEql (tm 5) (tm 6))), (wB 3 (doMove (tm 7)))]) CC.ret)
noncomputable abbrev b44 : CC := (CC.seq (CC.region [(wB 2 (doBox 32 (tm 0))), (wB 3 (doMove (O.c (V.b Bool.false))))]) s44_0)
theorem c44 : compFn Try.prog 44 = ⟨8, b44, [(Rs.tmp (slOf 3))]⟩ := by kernel_rfl
noncomputable abbrev s27_0 : CC := (CC.seq (CC.region [(wB 4 (doMove (O.c (V.b Bool.true))))]) CC.ret)
noncomputable abbrev s27_1 : CC := (CC.seq (CC.region [(wB 4 (doMove (O.c (V.b Bool.true))))]) CC.ret)
noncomputable abbrev s27_2 : CC := (CC.seq (CC.draws [(uB 5 (doFieldAddr 3 (tm 3))), (wB 6 (doLoad (tm 5))), (uB 7 (bin2 fGtr (tm 6) (oN 0))), (uB 8 (doMove (tm 7))), (uG 8 true 9 (doFieldAddr 3 (tm 3))), (uG 8 true 10 (doLoad (tm 9))), (uG 8 true 11 (doMove (tm 0))), (uG 8 true 12 (doNilCheck (tm 11))), (uG 8 true 13 (doFieldAddr 2 (tm 12))), (uG 8 true 14 (doLoad (tm 13))), (uG 8 true 15 (bin2 fLss (tm 10) (tm 14))), (uB 16 (doPick (tm 8) (tm 15) (O.c (V.b Bool.false)))), (uB 4 (doMove (tm 16)))] none) CC.ret)
noncomputable abbrev s27_3 : CC := (CC.cond (tm 34) s27_1 s27_2)
noncomputable abbrev s27_4 : CC := (CC.seq (CC.draws [(uB 35 (doFieldAddr 2 (tm 3))), (wB 36 (doLoad (tm 35))), (uB 37 (bin2 fGtr (tm 36) (oN 0))), (uB 38 (doMove (tm 37))), (uG 38 true 39 (doFieldAddr 2 (tm 3))), (uG 38 true 40 (doLoad (tm 39))), (uG 38 true 41 (doMove (tm 0))), (uG 38 true 42 (doNilCheck (tm 41))), (uG 38 true 43 (doFieldAddr 1 (tm 42))), (uG 38 true 44 (doLoad (tm 43))), (uG 38 true 45 (bin2 fLss (tm 40) (tm 44))), (uB 46 (doPick (tm 38) (tm 45) (O.c (V.b Bool.false)))), (uB 34 (doMove (tm 46)))] none) s27_3)
noncomputable abbrev s27_5 : CC := (CC.cond (tm 17) s27_0 s27_4)
noncomputable abbrev s27_6 : CC := (CC.seq (CC.draws [(uB 18 (doFieldAddr 1 (tm 3))), (wB 19 (doLoad (tm 18))), (uB 20 (doLen (tm 19))), (uB 21 (bin2 fGtr (tm 20) (oN 0))), (uB 22 (doMove (tm 21))), (uG 22 true 23 (doFieldAddr 1 (tm 3))), (uG 22 true 24 (doLoad (tm 23))), (uG 22 true 25 (doIndexAddr 5 (tm 24) (oN 0))), (uG 22 true 26 (doFieldAddr 0 (tm 25))), (uG 22 true 27 (doLoad (tm 26))), (uG 22 true 28 (doMove (tm 0))), (uG 22 true 29 (doNilCheck (tm 28))), (uG 22 true 30 (doFieldAddr 3 (tm 29))), (uG 22 true 31 (doLoad (tm 30))), (uG 22 true 32 (bin2 fLss (tm 27) (tm 31))), (uB 33 (doPick (tm 22) (tm 32) (O.c (V.b Bool.false)))), (uB 17 (doMove (tm 33)))] none) s27_5)
noncomputable abbrev s27_7 : CC := (CC.block 0 s27_6)
noncomputable abbrev b27 : CC := (CC.seq (CC.region [(wB 3 (doBox 36 (tm 1))), (wB 4 (doMove (O.c (V.b Bool.false))))]) s27_7)
theorem c27 : compFn Try.prog 27 = ⟨47, b27, [(Rs.tmp (slOf 4))]⟩ := by kernel_rfl
noncomputable abbrev s28_0 : CC := (CC.cond (tm 16) CC.skip (CC.exit 0))
noncomputable abbrev s28_1 : CC := (CC.region [(wB 27 (doMove (tm 5))), (wB 28 (doLoadA 5 (tm 7))), (wB 29 (doBuildSlice 32 1 [(V.i IntKind.i64 (Int.ofNat 0)), (V.i IntKind.i64 (Int.ofNat 0)), (V.s 0 0), (V.s 0 0), (V.i IntKind.i64 (Int.ofNat 0))] [(Pt.mk 0 5 (tm 28))])), (wB 30 (doAppend 32 5 (tm 27) (tm 29))), (wB 5 (doMove (tm 30)))])
noncomputable abbrev s28_2 : CC := (CC.seq (CC.draws [(uB 19 (doFieldAddr 2 (tm 7))), (uB 20 (doLoad (tm 19))), (uB 21 (doCall 48 [(tm 20)])), (uB 22 (doFieldAddr 3 (tm 7))), (uB 23 (doLoad (tm 22))), (wB 24 (doCall 48 [(tm 23)])), (uB 25 (doFieldAddr 2 (tm 7))), (CO.mk G.none D.none Bool.true (CR.mk (doStore 1 (tm 25) (tm 21)))), (uB 26 (doFieldAddr 3 (tm 7))), (CO.mk G.none D.none Bool.true (CR.mk (doStore 1 (tm 26) (tm 24))))] (some ([2, 5, 7, 9], [(1, [0]), (4, [0, 3])]))) s28_1)
noncomputable abbrev s28_3 : CC := (CC.seq (CC.region [(wB 17 (doIndexAddr 5 (tm 13) (tm 15))), (wB 18 (doLoadA 5 (tm 17))), (wB 7 (doAlloc 32 [(V.i IntKind.i64 (Int.ofNat 0)), (V.i IntKind.i64 (Int.ofNat 0)), (V.s 0 0), (V.s 0 0), (V.i IntKind.i64 (Int.ofNat 0))])), (CO.mk G.none D.none Bool.true (CR.mk (doStore 5 (tm 7) (tm 18))))]) s28_2)
noncomputable abbrev s28_4 : CC := (CC.block 1 s28_3)
noncomputable abbrev s28_5 : CC := (CC.region [(wB 31 (bin2 fAdd (tm 15) (oN 1))), (wB 15 (doMove (tm 31)))])
noncomputable abbrev s28_6 : CC := (CC.seq s28_4 s28_5)
noncomputable abbrev s28_7 : CC := (CC.seq s28_0 s28_6)
noncomputable abbrev l28_0 : CC := (CC.seq (CC.region [(wB 16 (bin2 fLss (tm 15) (tm 14)))]) s28_7)
noncomputable abbrev s28_8 : CC := (CC.loop l28_0)
noncomputable abbrev s28_9 : CC := (CC.block 0 s28_8)
noncomputable abbrev s28_10 : CC := (CC.seq (CC.region [(wB 12 (doFieldAddr 1 (tm 3))), (wB 13 (doLoad (tm 12))), (wB 14 (doLen (tm 13))), (wB 15 (doMove (oN 0)))]) s28_9)
noncomputable abbrev s28_11 : CC := (CC.seq (CC.region [(wB 34 (doMove (tm 5))), (wB 4 (doMove (tm 34)))]) CC.ret)
noncomputable abbrev s28_12 : CC := (CC.seq (CC.region [(wB 32 (doMove (tm 5))), (wB 33 (doCall 49 [(tm 32), (O.c (V.f 50 []))]))]) s28_11)
noncomputable abbrev s28_13 : CC := (CC.seq s28_10 s28_12)
noncomputable abbrev s28_14 : CC := (CC.seq (CC.region [(wB 8 (doMove (tm 0))), (wB 9 (doCall 22 [(tm 8)])), (wB 10 (doMkF 46 [(tm 3)])), (wB 11 (doCall 45 [(tm 9), (tm 10)])), (wB 5 (doMove (tm 11)))]) s28_13)
noncomputable abbrev b28 : CC := (CC.seq (CC.region [(wB 3 (doBox 36 (tm 1))), (wB 4 (doMove (O.c V.l0)))]) s28_14)
theorem c28 : compFn Try.prog 28 = ⟨35, b28, [(Rs.tmp (slOf 4))]⟩ := by kernel_rfl
noncomputable abbrev s46_0 : CC := (CC.seq (CC.region [(wB 4 (doFieldAddr 0 (tm 1))), (wB 5 (doLoad (tm 4))), (wB 6 (doFieldAddr 0 (tm 2))), (wB 7 (doLoad (tm 6))), (wB 8 (doCall 47 [(tm 5), (tm 7)])), (wB 3 (doMove (tm 8)))]) CC.ret)
noncomputable abbrev b46 : CC := (CC.seq (CC.region [(wB 2 (doBox 32 (tm 0))), (wB 3 (doMove (O.c (V.b Bool.false))))]) s46_0)
theorem c46 : compFn Try.prog 46 = ⟨9, b46, [(Rs.tmp (slOf 3))]⟩ := by kernel_rfl
noncomputable abbrev s29_0 : CC := (CC.cond (tm 8) CC.skip (CC.exit 0))
noncomputable abbrev s29_1 : CC := (CC.seq (CC.region [(wB 2 (doMove (O.c (V.b Bool.true))))]) CC.ret)
noncomputable abbrev s29_2 : CC := (CC.cond (tm 33) s29_1 CC.skip)
noncomputable abbrev s29_3 : CC := (CC.seq (CC.draws [(uB 12 (doMove (tm 3))), (uB 13 (bin2 fGtr (tm 12) (oN 0))), (uB 14 (doMove (tm 13))), (uG 14 true 15 (doMove (tm 0))), (uG 14 true 16 (doMove (tm 3))), (uG 14 true 17 (bin2 fSub (tm 16) (oN 1))), (uG 14 true 18 (doIndexAddr 5 (tm 15) (tm 17))), (uG 14 true 19 (doFieldAddr 1 (tm 18))), (wG 14 true 20 (doLoad (tm 19))), (uG 14 true 21 (bin2 fEql (tm 20) (oN 1))), (uB 22 (doPick (tm 14) (tm 21) (O.c (V.b Bool.false)))), (uB 23 (doMove (tm 22))), (uG 23 true 24 (doFieldAddr 2 (tm 4))), (uG 23 true 25 (doLoad (tm 24))), (uG 23 true 26 (doMove (tm 0))), (uG 23 true 27 (doMove (tm 3))), (uG 23 true 28 (bin2 fSub (tm 27) (oN 1))), (uG 23 true 29 (doIndexAddr 5 (tm 26) (tm 28))), (uG 23 true 30 (doFieldAddr 3 (tm 29))), (uG 23 true 31 (doLoad (tm 30))), (uG 23 true 32 (doSCmp (fun a b c d => ltS a b c d || eqS a b c d) (tm 25) (tm 31))), (uB 33 (doPick (tm 23) (tm 32) (O.c (V.b Bool.false))))] none) s29_2)
noncomputable abbrev s29_4 : CC := (CC.seq (CC.region [(wB 9 (doMove (tm 7))), (wB 10 (doIndexAddr 5 (tm 5) (tm 7))), (wB 11 (doLoadA 5 (tm 10))), (wB 4 (doAlloc 32 [(V.i IntKind.i64 (Int.ofNat 0)), (V.i IntKind.i64 (Int.ofNat 0)), (V.s 0 0), (V.s 0 0), (V.i IntKind.i64 (Int.ofNat 0))])), (wB 3 (doMove (tm 9))), (CO.mk G.none D.none Bool.true (CR.mk (doStore 5 (tm 4) (tm 11))))]) s29_3)
noncomputable abbrev s29_5 : CC := (CC.block 1 s29_4)
noncomputable abbrev s29_6 : CC := (CC.region [(wB 34 (bin2 fAdd (tm 7) (oN 1))), (wB 7 (doMove (tm 34)))])
noncomputable abbrev s29_7 : CC := (CC.seq s29_5 s29_6)
noncomputable abbrev s29_8 : CC := (CC.seq s29_0 s29_7)
noncomputable abbrev l29_0 : CC := (CC.seq (CC.region [(wB 8 (bin2 fLss (tm 7) (tm 6)))]) s29_8)
noncomputable abbrev s29_9 : CC := (CC.loop l29_0)
noncomputable abbrev s29_10 : CC := (CC.block 0 s29_9)
noncomputable abbrev s29_11 : CC := (CC.seq (CC.region [(wB 5 (doMove (tm 0))), (wB 6 (doLen (tm 5))), (wB 7 (doMove (oN 0)))]) s29_10)
noncomputable abbrev s29_12 : CC := (CC.seq (CC.region [(wB 2 (doMove (O.c (V.b Bool.false))))]) CC.ret)
noncomputable abbrev s29_13 : CC := (CC.seq s29_11 s29_12)
noncomputable abbrev b29 : CC := (CC.seq (CC.region [(wB 2 (doMove (O.c (V.b Bool.false))))]) s29_13)
theorem c29 : compFn Try.prog 29 = ⟨35, b29, [(Rs.tmp (slOf 2))]⟩ := by kernel_rfl
end Go.Proofs.Ytclpemggclmgeaa

set_option maxRecDepth 1000000
set_option linter.all false
namespace Go.Proofs.Ytclpemggclmgeaa
open Go Go.Ev
noncomputable abbrev s71_0 : CC := (CC.cond (tm 14) CC.skip (CC.exit 0))
noncomputable abbrev s71_1 : CC := (CC.seq (CC.region [(wB 12 (doMove (tm 8))), (wB 13 (doMove (tm 2))), (wB 14 (bin2 fLss (tm 12) (tm 13)))]) s71_0)
noncomputable abbrev s71_2 : CC := (CC.cond (tm 34) CC.skip (CC.exit 2))
noncomputable abbrev s71_3 : CC := (CC.seq (CC.draws [(uB 18 (doMove (tm 9))), (uB 19 (doMove (tm 1))), (uB 20 (bin2 fGtr (tm 18) (tm 19))), (uB 21 (doMove (tm 20))), (uG 21 true 22 (doMove (tm 3))), (uG 21 true 23 (doMove (tm 0))), (uG 21 true 24 (doMove (tm 9))), (uG 21 true 25 (doIndexAddr 5 (tm 23) (tm 24))), (uG 21 true 26 (doLoadA 5 (tm 25))), (uG 21 true 27 (doMove (tm 0))), (uG 21 true 28 (doMove (tm 9))), (uG 21 true 29 (bin2 fSub (tm 28) (oN 1))), (uG 21 true 30 (doIndexAddr 5 (tm 27) (tm 29))), (uG 21 true 31 (doLoadA 5 (tm 30))), (wG 21 true 32 (doCallV (tm 22) [(tm 26), (tm 31)])), (uG 21 true 33 (bin2 fLss (tm 32) (oN 0))), (uB 34 (doPick (tm 21) (tm 33) (O.c (V.b Bool.false))))] none) s71_2)
noncomputable abbrev s71_4 : CC := (CC.draws [(uB 37 (doMove (tm 0))), (uB 38 (doMove (tm 9))), (uB 39 (doMove (tm 0))), (uB 40 (doMove (tm 9))), (uB 41 (bin2 fSub (tm 40) (oN 1))), (uB 42 (doMove (tm 0))), (uB 43 (doMove (tm 9))), (uB 44 (bin2 fSub (tm 43) (oN 1))), (uB 45 (doIndexAddr 5 (tm 42) (tm 44))), (uB 46 (doLoadA 5 (tm 45))), (uB 47 (doMove (tm 0))), (uB 48 (doMove (tm 9))), (uB 49 (doIndexAddr 5 (tm 47) (tm 48))), (uB 50 (doLoadA 5 (tm 49))), (uB 51 (doIndexAddr 5 (tm 37) (tm 38))), (CO.mk G.none D.none Bool.true (CR.mk (doStore 5 (tm 51) (tm 46)))), (uB 52 (doIndexAddr 5 (tm 39) (tm 41))), (CO.mk G.none D.none Bool.true (CR.mk (doStore 5 (tm 52) (tm 50))))] none)
noncomputable abbrev s71_5 : CC := (CC.block 3 s71_4)
noncomputable abbrev s71_6 : CC := (CC.region [(wB 35 (doMove (tm 9))), (wB 36 (bin2 fSub (tm 35) (oN 1))), (wB 9 (doMove (tm 36)))])
noncomputable abbrev s71_7 : CC := (CC.seq s71_5 s71_6)
noncomputable abbrev l71_0 : CC := (CC.seq s71_3 s71_7)
noncomputable abbrev s71_8 : CC := (CC.loop l71_0)
noncomputable abbrev s71_9 : CC := (CC.block 2 s71_8)
noncomputable abbrev s71_10 : CC := (CC.seq (CC.region [(wB 17 (doMove (tm 8))), (wB 9 (doMove (tm 17)))]) s71_9)
noncomputable abbrev s71_11 : CC := (CC.block 1 s71_10)
noncomputable abbrev s71_12 : CC := (CC.region [(wB 15 (doMove (tm 8))), (wB 16 (bin2 fAdd (tm 15) (oN 1))), (wB 8 (doMove (tm 16)))])
noncomputable abbrev s71_13 : CC := (CC.seq s71_11 s71_12)
noncomputable abbrev l71_1 : CC := (CC.seq s71_1 s71_13)
noncomputable abbrev s71_14 : CC := (CC.loop l71_1)
noncomputable abbrev s71_15 : CC := (CC.block 0 s71_14)
noncomputable abbrev b71 : CC := (CC.seq (CC.region [(wB 10 (doMove (tm 1))), (wB 11 (bin2 fAdd (tm 10) (oN 1))), (wB 8 (doMove (tm 11)))]) s71_15)
theorem c71 : compFn Try.prog 71 = ⟨53, b71, []⟩ := by kernel_rfl
noncomputable abbrev s85_0 : CC := (CC.cond (tm 18) (CC.exit 0) CC.skip)
noncomputable abbrev s85_1 : CC := (CC.seq (CC.region [(wB 16 (doMove (tm 11))), (wB 17 (doMove (tm 2))), (wB 18 (bin2 fGeq (tm 16) (tm 17)))]) s85_0)
noncomputable abbrev s85_2 : CC := (CC.region [(wB 41 (doMove (tm 11))), (wB 42 (bin2 fAdd (tm 41) (oN 1))), (wB 11 (doMove (tm 42)))])
noncomputable abbrev s85_3 : CC := (CC.cond (tm 40) s85_2 CC.skip)
noncomputable abbrev s85_4 : CC := (CC.seq (CC.draws [(uB 19 (doMove (tm 11))), (uB 20 (bin2 fAdd (tm 19) (oN 1))), (uB 21 (doMove (tm 2))), (uB 22 (bin2 fLss (tm 20) (tm 21))), (uB 23 (doMove (tm 22))), (uG 23 true 24 (doMove (tm 4))), (uG 23 true 25 (doMove (tm 0))), (uG 23 true 26 (doMove (tm 3))), (uG 23 true 27 (doMove (tm 11))), (uG 23 true 28 (bin2 fAdd (tm 26) (tm 27))), (uG 23 true 29 (doIndexAddr 5 (tm 25) (tm 28))), (uG 23 true 30 (doLoadA 5 (tm 29))), (uG 23 true 31 (doMove (tm 0))), (uG 23 true 32 (doMove (tm 3))), (uG 23 true 33 (doMove (tm 11))), (uG 23 true 34 (bin2 fAdd (tm 32) (tm 33))), (uG 23 true 35 (bin2 fAdd (tm 34) (oN 1))), (uG 23 true 36 (doIndexAddr 5 (tm 31) (tm 35))), (uG 23 true 37 (doLoadA 5 (tm 36))), (wG 23 true 38 (doCallV (tm 24) [(tm 30), (tm 37)])), (uG 23 true 39 (bin2 fLss (tm 38) (oN 0))), (uB 40 (doPick (tm 23) (tm 39) (O.c (V.b Bool.false))))] none) s85_3)
noncomputable abbrev s85_5 : CC := (CC.cond (tm 58) CC.ret CC.skip)
noncomputable abbrev s85_6 : CC := (CC.seq (CC.draws [(uB 43 (doMove (tm 4))), (uB 44 (doMove (tm 0))), (uB 45 (doMove (tm 3))), (uB 46 (doMove (tm 10))), (uB 47 (bin2 fAdd (tm 45) (tm 46))), (uB 48 (doIndexAddr 5 (tm 44) (tm 47))), (uB 49 (doLoadA 5 (tm 48))), (uB 50 (doMove (tm 0))), (uB 51 (doMove (tm 3))), (uB 52 (doMove (tm 11))), (uB 53 (bin2 fAdd (tm 51) (tm 52))), (uB 54 (doIndexAddr 5 (tm 50) (tm 53))), (uB 55 (doLoadA 5 (tm 54))), (wB 56 (doCallV (tm 43) [(tm 49), (tm 55)])), (uB 57 (bin2 fLss (tm 56) (oN 0))), (uB 58 (doNot (tm 57)))] none) s85_5)
noncomputable abbrev s85_7 : CC := (CC.region [(wB 81 (doMove (tm 11))), (wB 10 (doMove (tm 81)))])
noncomputable abbrev s85_8 : CC := (CC.seq (CC.draws [(uB 59 (doMove (tm 0))), (uB 60 (doMove (tm 3))), (uB 61 (doMove (tm 10))), (uB 62 (bin2 fAdd (tm 60) (tm 61))), (uB 63 (doMove (tm 0))), (uB 64 (doMove (tm 3))), (uB 65 (doMove (tm 11))), (uB 66 (bin2 fAdd (tm 64) (tm 65))), (uB 67 (doMove (tm 0))), (uB 68 (doMove (tm 3))), (uB 69 (doMove (tm 11))), (uB 70 (bin2 fAdd (tm 68) (tm 69))), (uB 71 (doIndexAddr 5 (tm 67) (tm 70))), (uB 72 (doLoadA 5 (tm 71))), (uB 73 (doMove (tm 0))), (uB 74 (doMove (tm 3))), (uB 75 (doMove (tm 10))), (uB 76 (bin2 fAdd (tm 74) (tm 75))), (uB 77 (doIndexAddr 5 (tm 73) (tm 76))), (uB 78 (doLoadA 5 (tm 77))), (uB 79 (doIndexAddr 5 (tm 59) (tm 62))), (CO.mk G.none D.none Bool.true (CR.mk (doStore 5 (tm 79) (tm 72)))), (uB 80 (doIndexAddr 5 (tm 63) (tm 66))), (CO.mk G.none D.none Bool.true (CR.mk (doStore 5 (tm 80) (tm 78))))] none) s85_7)
noncomputable abbrev s85_9 : CC := (CC.seq s85_6 s85_8)
noncomputable abbrev s85_10 : CC := (CC.seq s85_4 s85_9)
noncomputable abbrev s85_11 : CC := (CC.seq s85_1 s85_10)
noncomputable abbrev s85_12 : CC := (CC.seq (CC.region [(wB 13 (doMove (tm 10))), (wB 14 (bin2 fMul (oN 2) (tm 13))), (wB 15 (bin2 fAdd (tm 14) (oN 1))), (wB 11 (doMove (tm 15)))]) s85_11)
noncomputable abbrev l85_0 : CC := (CC.block 1 s85_12)
noncomputable abbrev s85_13 : CC := (CC.loop l85_0)
noncomputable abbrev s85_14 : CC := (CC.block 0 s85_13)
noncomputable abbrev b85 : CC := (CC.seq (CC.region [(wB 12 (doMove (tm 1))), (wB 10 (doMove (tm 12)))]) s85_14)
theorem c85 : compFn Try.prog 85 = ⟨82, b85, []⟩ := by kernel_rfl
noncomputable abbrev s72_0 : CC := (CC.cond (tm 21) CC.skip (CC.exit 0))
noncomputable abbrev s72_1 : CC := (CC.seq (CC.region [(wB 20 (doMove (tm 11))), (wB 21 (bin2 fGeq (tm 20) (oN 0)))]) s72_0)
noncomputable abbrev s72_2 : CC := (CC.region [(wB 24 (doMove (tm 0))), (wB 25 (doMove (tm 11))), (wB 26 (doMove (tm 10))), (wB 27 (doMove (tm 8))), (wB 28 (doMove (tm 3))), (wB 29 (doCall 85 [(tm 24), (tm 25), (tm 26), (tm 27), (tm 28)]))])
noncomputable abbrev s72_3 : CC := (CC.block 1 s72_2)
noncomputable abbrev s72_4 : CC := (CC.region [(wB 22 (doMove (tm 11))), (wB 23 (bin2 fSub (tm 22) (oN 1))), (wB 11 (doMove (tm 23)))])
noncomputable abbrev s72_5 : CC := (CC.seq s72_3 s72_4)
noncomputable abbrev l72_0 : CC := (CC.seq s72_1 s72_5)
noncomputable abbrev s72_6 : CC := (CC.loop l72_0)
noncomputable abbrev s72_7 : CC := (CC.block 0 s72_6)
noncomputable abbrev s72_8 : CC := (CC.seq (CC.region [(wB 17 (doMove (tm 10))), (wB 18 (bin2 fSub (tm 17) (oN 1))), (wB 19 (bin2 fQuo (tm 18) (oN 2))), (wB 11 (doMove (tm 19)))]) s72_7)
noncomputable abbrev s72_9 : CC := (CC.cond (tm 33) CC.skip (CC.exit 2))
noncomputable abbrev s72_10 : CC := (CC.seq (CC.region [(wB 32 (doMove (tm 12))), (wB 33 (bin2 fGeq (tm 32) (oN 0)))]) s72_9)
noncomputable abbrev s72_11 : CC := (CC.region [(wB 54 (doMove (tm 0))), (wB 55 (doMove (tm 9))), (wB 56 (doMove (tm 12))), (wB 57 (doMove (tm 8))), (wB 58 (doMove (tm 3))), (wB 59 (doCall 85 [(tm 54), (tm 55), (tm 56), (tm 57), (tm 58)]))])
noncomputable abbrev s72_12 : CC := (CC.seq (CC.draws [(uB 36 (doMove (tm 0))), (uB 37 (doMove (tm 8))), (uB 38 (doMove (tm 0))), (uB 39 (doMove (tm 8))), (uB 40 (doMove (tm 12))), (uB 41 (bin2 fAdd (tm 39) (tm 40))), (uB 42 (doMove (tm 0))), (uB 43 (doMove (tm 8))), (uB 44 (doMove (tm 12))), (uB 45 (bin2 fAdd (tm 43) (tm 44))), (uB 46 (doIndexAddr 5 (tm 42) (tm 45))), (uB 47 (doLoadA 5 (tm 46))), (uB 48 (doMove (tm 0))), (uB 49 (doMove (tm 8))), (uB 50 (doIndexAddr 5 (tm 48) (tm 49))), (uB 51 (doLoadA 5 (tm 50))), (uB 52 (doIndexAddr 5 (tm 36) (tm 37))), (CO.mk G.none D.none Bool.true (CR.mk (doStore 5 (tm 52) (tm 47)))), (uB 53 (doIndexAddr 5 (tm 38) (tm 41))), (CO.mk G.none D.none Bool.true (CR.mk (doStore 5 (tm 53) (tm 51))))] none) s72_11)
noncomputable abbrev s72_13 : CC := (CC.block 3 s72_12)
noncomputable abbrev s72_14 : CC := (CC.region [(wB 34 (doMove (tm 12))), (wB 35 (bin2 fSub (tm 34) (oN 1))), (wB 12 (doMove (tm 35)))])
noncomputable abbrev s72_15 : CC := (CC.seq s72_13 s72_14)
noncomputable abbrev l72_1 : CC := (CC.seq s72_10 s72_15)
noncomputable abbrev s72_16 : CC := (CC.loop l72_1)
noncomputable abbrev s72_17 : CC := (CC.block 2 s72_16)
noncomputable abbrev s72_18 : CC := (CC.seq (CC.region [(wB 30 (doMove (tm 10))), (wB 31 (bin2 fSub (tm 30) (oN 1))), (wB 12 (doMove (tm 31)))]) s72_17)
noncomputable abbrev s72_19 : CC := (CC.seq s72_8 s72_18)
noncomputable abbrev s72_20 : CC := (CC.seq (CC.region [(wB 14 (doMove (tm 2))), (wB 15 (doMove (tm 1))), (wB 16 (bin2 fSub (tm 14) (tm 15))), (wB 10 (doMove (tm 16)))]) s72_19)
noncomputable abbrev s72_21 : CC := (CC.seq (CC.region [(wB 9 (doMove (oN 0)))]) s72_20)
noncomputable abbrev b72 : CC := (CC.seq (CC.region [(wB 13 (doMove (tm 1))), (wB 8 (doMove (tm 13)))]) s72_21)
theorem c72 : compFn Try.prog 72 = ⟨60, b72, []⟩ := by kernel_rfl
noncomputable abbrev s61_0 : CC := (CC.seq (CC.region [(wB 26 (doMove (tm 0))), (wB 27 (doMove (tm 1))), (wB 28 (doMove (tm 2))), (wB 29 (doMove (tm 4))), (wB 30 (doCall 71 [(tm 26), (tm 27), (tm 28), (tm 29)]))]) CC.ret)
noncomputable abbrev s61_1 : CC := (CC.cond (tm 25) s61_0 CC.skip)
noncomputable abbrev s61_2 : CC := (CC.seq (CC.region [(wB 24 (doMove (tm 12))), (wB 25 (bin2 fLeq (tm 24) (oN 12)))]) s61_1)
noncomputable abbrev s61_3 : CC := (CC.seq (CC.region [(wB 33 (doMove (tm 0))), (wB 34 (doMove (tm 1))), (wB 35 (doMove (tm 2))), (wB 36 (doMove (tm 4))), (wB 37 (doCall 72 [(tm 33), (tm 34), (tm 35), (tm 36)]))]) CC.ret)
noncomputable abbrev s61_4 : CC := (CC.cond (tm 32) s61_3 CC.skip)
noncomputable abbrev s61_5 : CC := (CC.seq (CC.region [(wB 31 (doMove (tm 3))), (wB 32 (bin2 fEql (tm 31) (oN 0)))]) s61_4)
noncomputable abbrev s61_6 : CC := (CC.region [(wB 45 (doMove (tm 3))), (wB 46 (bin2 fSub (tm 45) (oN 1))), (wB 3 (doMove (tm 46)))])
noncomputable abbrev s61_7 : CC := (CC.seq (CC.region [(wB 40 (doMove (tm 0))), (wB 41 (doMove (tm 1))), (wB 42 (doMove (tm 2))), (wB 43 (doMove (tm 4))), (wB 44 (doCall 73 [(tm 40), (tm 41), (tm 42), (tm 43)]))]) s61_6)
noncomputable abbrev s61_8 : CC := (CC.cond (tm 39) s61_7 CC.skip)
noncomputable abbrev s61_9 : CC := (CC.seq (CC.region [(wB 38 (doMove (tm 10))), (wB 39 (doNot (tm 38)))]) s61_8)
noncomputable abbrev s61_10 : CC := (CC.seq (CC.region [(wB 62 (doMove (tm 2))), (wB 63 (bin2 fSub (tm 62) (oN 1))), (wB 64 (doMove (tm 13))), (wB 65 (doMove (tm 1))), (wB 66 (bin2 fSub (tm 64) (tm 65))), (wB 67 (bin2 fSub (tm 63) (tm 66))), (wB 13 (doMove (tm 67)))]) (CC.region [(wB 14 (doMove (oN 1)))]))
noncomputable abbrev s61_11 : CC := (CC.seq (CC.region [(wB 57 (doMove (tm 0))), (wB 58 (doMove (tm 1))), (wB 59 (doMove (tm 2))), (wB 60 (doMove (tm 4))), (wB 61 (doCall 75 [(tm 57), (tm 58), (tm 59), (tm 60)]))]) s61_10)
noncomputable abbrev s61_12 : CC := (CC.cond (tm 56) s61_11 CC.skip)
noncomputable abbrev s61_13 : CC := (CC.seq (CC.region [(wB 55 (doMove (tm 14))), (wB 56 (bin2 fEql (tm 55) (oN 2)))]) s61_12)
noncomputable abbrev s61_14 : CC := (CC.cond (tm 80) CC.ret CC.skip)
noncomputable abbrev s61_15 : CC := (CC.seq (CC.region [(wB 76 (doMove (tm 0))), (wB 77 (doMove (tm 1))), (wB 78 (doMove (tm 2))), (wB 79 (doMove (tm 4))), (wB 80 (doCall 76 [(tm 76), (tm 77), (tm 78), (tm 79)]))]) s61_14)
noncomputable abbrev s61_16 : CC := (CC.cond (tm 75) s61_15 CC.skip)
noncomputable abbrev s61_17 : CC := (CC.seq (CC.region [(wB 68 (doMove (tm 10))), (wB 69 (doMove (tm 68))), (wG 69 true 70 (doMove (tm 11))), (wB 71 (doPick (tm 69) (tm 70) (O.c (V.b Bool.false)))), (wB 72 (doMove (tm 71))), (wG 72 true 73 (doMove (tm 14))), (wG 72 true 74 (bin2 fEql (tm 73) (oN 1))), (wB 75 (doPick (tm 72) (tm 74) (O.c (V.b Bool.false))))]) s61_16)
noncomputable abbrev s61_18 : CC := (CC.seq (CC.region [(wB 104 (doMove (tm 15))), (wB 1 (doMove (tm 104)))]) (CC.exit 1))
noncomputable abbrev s61_19 : CC := (CC.seq (CC.region [(wB 98 (doMove (tm 0))), (wB 99 (doMove (tm 1))), (wB 100 (doMove (tm 2))), (wB 101 (doMove (tm 13))), (wB 102 (doMove (tm 4))), (wB 103 (doCall 77 [(tm 98), (tm 99), (tm 100), (tm 101), (tm 102)])), (wB 15 (doMove (tm 103)))]) s61_18)
noncomputable abbrev s61_20 : CC := (CC.cond (tm 97) s61_19 CC.skip)
noncomputable abbrev s61_21 : CC := (CC.seq (CC.draws [(uB 81 (doMove (tm 1))), (uB 82 (bin2 fGtr (tm 81) (oN 0))), (uB 83 (doMove (tm 82))), (uG 83 true 84 (doMove (tm 4))), (uG 83 true 85 (doMove (tm 0))), (uG 83 true 86 (doMove (tm 1))), (uG 83 true 87 (bin2 fSub (tm 86) (oN 1))), (uG 83 true 88 (doIndexAddr 5 (tm 85) (tm 87))), (uG 83 true 89 (doLoadA 5 (tm 88))), (uG 83 true 90 (doMove (tm 0))), (uG 83 true 91 (doMove (tm 13))), (uG 83 true 92 (doIndexAddr 5 (tm 90) (tm 91))), (uG 83 true 93 (doLoadA 5 (tm 92))), (wG 83 true 94 (doCallV (tm 84) [(tm 89), (tm 93)])), (uG 83 true 95 (bin2 fLss (tm 94) (oN 0))), (uG 83 true 96 (doNot (tm 95))), (uB 97 (doPick (tm 83) (tm 96) (O.c (V.b Bool.false))))] none) s61_20)
noncomputable abbrev s61_22 : CC := (CC.region [(wB 135 (doMove (tm 16))), (wB 136 (bin2 fAdd (tm 135) (oN 1))), (wB 1 (doMove (tm 136)))])
noncomputable abbrev s61_23 : CC := (CC.seq (CC.region [(wB 129 (doMove (tm 0))), (wB 130 (doMove (tm 1))), (wB 131 (doMove (tm 16))), (wB 132 (doMove (tm 3))), (wB 133 (doMove (tm 4))), (wB 134 (doCall 61 [(tm 129), (tm 130), (tm 131), (tm 132), (tm 133)]))]) s61_22)
noncomputable abbrev s61_24 : CC := (CC.seq (CC.region [(wB 126 (doMove (tm 18))), (wB 127 (doMove (tm 20))), (wB 128 (bin2 fGeq (tm 126) (tm 127))), (wB 10 (doMove (tm 128)))]) s61_23)
noncomputable abbrev s61_25 : CC := (CC.region [(wB 147 (doMove (tm 16))), (wB 2 (doMove (tm 147)))])
noncomputable abbrev s61_26 : CC := (CC.seq (CC.region [(wB 140 (doMove (tm 0))), (wB 141 (doMove (tm 16))), (wB 142 (bin2 fAdd (tm 141) (oN 1))), (wB 143 (doMove (tm 2))), (wB 144 (doMove (tm 3))), (wB 145 (doMove (tm 4))), (wB 146 (doCall 61 [(tm 140), (tm 142), (tm 143), (tm 144), (tm 145)]))]) s61_25)
noncomputable abbrev s61_27 : CC := (CC.seq (CC.region [(wB 137 (doMove (tm 19))), (wB 138 (doMove (tm 20))), (wB 139 (bin2 fGeq (tm 137) (tm 138))), (wB 10 (doMove (tm 139)))]) s61_26)
noncomputable abbrev s61_28 : CC := (CC.cond (tm 125) s61_24 s61_27)
noncomputable abbrev s61_29 : CC := (CC.seq (CC.region [(wB 123 (doMove (tm 18))), (wB 124 (doMove (tm 19))), (wB 125 (bin2 fLss (tm 123) (tm 124)))]) s61_28)
noncomputable abbrev s61_30 : CC := (CC.seq (CC.region [(wB 121 (doMove (tm 12))), (wB 122 (bin2 fQuo (tm 121) (oN 8))), (wB 20 (doMove (tm 122)))]) s61_29)
noncomputable abbrev s61_31 : CC := (CC.seq (CC.region [(wB 115 (doMove (tm 16))), (wB 116 (doMove (tm 1))), (wB 117 (bin2 fSub (tm 115) (tm 116))), (wB 118 (doMove (tm 2))), (wB 119 (doMove (tm 16))), (wB 120 (bin2 fSub (tm 118) (tm 119))), (wB 18 (doMove (tm 117))), (wB 19 (doMove (tm 120)))]) s61_30)
noncomputable abbrev s61_32 : CC := (CC.seq (CC.region [(wB 114 (doMove (tm 17))), (wB 11 (doMove (tm 114)))]) s61_31)
noncomputable abbrev s61_33 : CC := (CC.seq (CC.region [(wB 106 (doMove (tm 0))), (wB 107 (doMove (tm 1))), (wB 108 (doMove (tm 2))), (wB 109 (doMove (tm 13))), (wB 110 (doMove (tm 4))), (wB 111 (doCall 78 [(tm 106), (tm 107), (tm 108), (tm 109), (tm 110)])), (wB 105 (doMove (tm 111))), (wB 112 (doExtract 0 (tm 105))), (wB 113 (doExtract 1 (tm 105))), (wB 16 (doMove (tm 112))), (wB 17 (doMove (tm 113)))]) s61_32)
noncomputable abbrev s61_34 : CC := (CC.seq s61_21 s61_33)
noncomputable abbrev s61_35 : CC := (CC.seq s61_17 s61_34)
noncomputable abbrev s61_36 : CC := (CC.seq s61_13 s61_35)
noncomputable abbrev s61_37 : CC := (CC.seq (CC.region [(wB 48 (doMove (tm 0))), (wB 49 (doMove (tm 1))), (wB 50 (doMove (tm 2))), (wB 51 (doMove (tm 4))), (wB 52 (doCall 74 [(tm 48), (tm 49), (tm 50), (tm 51)])), (wB 47 (doMove (tm 52))), (wB 53 (doExtract 0 (tm 47))), (wB 54 (doExtract 1 (tm 47))), (wB 13 (doMove (tm 53))), (wB 14 (doMove (tm 54)))]) s61_36)
noncomputable abbrev s61_38 : CC := (CC.seq s61_9 s61_37)
noncomputable abbrev s61_39 : CC := (CC.seq s61_5 s61_38)
noncomputable abbrev s61_40 : CC := (CC.seq s61_2 s61_39)
noncomputable abbrev s61_41 : CC := (CC.seq (CC.region [(wB 21 (doMove (tm 2))), (wB 22 (doMove (tm 1))), (wB 23 (bin2 fSub (tm 21) (tm 22))), (wB 12 (doMove (tm 23)))]) s61_40)
noncomputable abbrev l61_0 : CC := (CC.block 1 s61_41)
noncomputable abbrev s61_42 : CC := (CC.loop l61_0)
noncomputable abbrev s61_43 : CC := (CC.block 0 s61_42)
noncomputable abbrev s61_44 : CC := (CC.seq (CC.region [(wB 11 (doMove (O.c (V.b Bool.true))))]) s61_43)
noncomputable abbrev b61 : CC := (CC.seq (CC.region [(wB 10 (doMove (O.c (V.b Bool.true))))]) s61_44)
theorem c61 : compFn Try.prog 61 = ⟨148, b61, []⟩ := by kernel_rfl
noncomputable abbrev s78_0 : CC := (CC.cond (tm 47) CC.skip (CC.exit 0))
noncomputable abbrev s78_1 : CC := (CC.seq (CC.draws [(uB 32 (doMove (tm 12))), (uB 33 (doMove (tm 13))), (uB 34 (bin2 fLeq (tm 32) (tm 33))), (uB 35 (doMove (tm 34))), (uG 35 true 36 (doMove (tm 4))), (uG 35 true 37 (doMove (tm 0))), (uG 35 true 38 (doMove (tm 12))), (uG 35 true 39 (doIndexAddr 5 (tm 37) (tm 38))), (uG 35 true 40 (doLoadA 5 (tm 39))), (uG 35 true 41 (doMove (tm 0))), (uG 35 true 42 (doMove (tm 1))), (uG 35 true 43 (doIndexAddr 5 (tm 41) (tm 42))), (uG 35 true 44 (doLoadA 5 (tm 43))), (wG 35 true 45 (doCallV (tm 36) [(tm 40), (tm 44)])), (uG 35 true 46 (bin2 fLss (tm 45) (oN 0))), (uB 47 (doPick (tm 35) (tm 46) (O.c (V.b Bool.false))))] none) s78_0)
noncomputable abbrev s78_2 : CC := (CC.region [(wB 48 (doMove (tm 12))), (wB 49 (bin2 fAdd (tm 48) (oN 1))), (wB 12 (doMove (tm 49)))])
noncomputable abbrev s78_3 : CC := (CC.block 1 s78_2)
noncomputable abbrev l78_0 : CC := (CC.seq s78_1 s78_3)
noncomputable abbrev s78_4 : CC := (CC.loop l78_0)
noncomputable abbrev s78_5 : CC := (CC.block 0 s78_4)
noncomputable abbrev s78_6 : CC := (CC.cond (tm 66) CC.skip (CC.exit 2))
noncomputable abbrev s78_7 : CC := (CC.seq (CC.draws [(uB 50 (doMove (tm 12))), (uB 51 (doMove (tm 13))), (uB 52 (bin2 fLeq (tm 50) (tm 51))), (uB 53 (doMove (tm 52))), (uG 53 true 54 (doMove (tm 4))), (uG 53 true 55 (doMove (tm 0))), (uG 53 true 56 (doMove (tm 13))), (uG 53 true 57 (doIndexAddr 5 (tm 55) (tm 56))), (uG 53 true 58 (doLoadA 5 (tm 57))), (uG 53 true 59 (doMove (tm 0))), (uG 53 true 60 (doMove (tm 1))), (uG 53 true 61 (doIndexAddr 5 (tm 59) (tm 60))), (uG 53 true 62 (doLoadA 5 (tm 61))), (wG 53 true 63 (doCallV (tm 54) [(tm 58), (tm 62)])), (uG 53 true 64 (bin2 fLss (tm 63) (oN 0))), (uG 53 true 65 (doNot (tm 64))), (uB 66 (doPick (tm 53) (tm 65) (O.c (V.b Bool.false))))] none) s78_6)
noncomputable abbrev s78_8 : CC := (CC.region [(wB 67 (doMove (tm 13))), (wB 68 (bin2 fSub (tm 67) (oN 1))), (wB 13 (doMove (tm 68)))])
noncomputable abbrev s78_9 : CC := (CC.block 3 s78_8)
noncomputable abbrev l78_1 : CC := (CC.seq s78_7 s78_9)
noncomputable abbrev s78_10 : CC := (CC.loop l78_1)
noncomputable abbrev s78_11 : CC := (CC.block 2 s78_10)
noncomputable abbrev s78_12 : CC := (CC.seq (CC.region [(wB 86 (doMove (tm 13))), (wB 10 (doMove (tm 86))), (wB 11 (doMove (O.c (V.b Bool.true))))]) CC.ret)
noncomputable abbrev s78_13 : CC := (CC.seq (CC.draws [(uB 72 (doMove (tm 0))), (uB 73 (doMove (tm 13))), (uB 74 (doMove (tm 0))), (uB 75 (doMove (tm 1))), (uB 76 (doMove (tm 0))), (uB 77 (doMove (tm 1))), (uB 78 (doIndexAddr 5 (tm 76) (tm 77))), (uB 79 (doLoadA 5 (tm 78))), (uB 80 (doMove (tm 0))), (uB 81 (doMove (tm 13))), (uB 82 (doIndexAddr 5 (tm 80) (tm 81))), (uB 83 (doLoadA 5 (tm 82))), (uB 84 (doIndexAddr 5 (tm 72) (tm 73))), (CO.mk G.none D.none Bool.true (CR.mk (doStore 5 (tm 84) (tm 79)))), (uB 85 (doIndexAddr 5 (tm 74) (tm 75))), (CO.mk G.none D.none Bool.true (CR.mk (doStore 5 (tm 85) (tm 83))))] none) s78_12)
noncomputable abbrev s78_14 : CC := (CC.cond (tm 71) s78_13 CC.skip)
noncomputable abbrev s78_15 : CC := (CC.seq (CC.region [(wB 69 (doMove (tm 12))), (wB 70 (doMove (tm 13))), (wB 71 (bin2 fGtr (tm 69) (tm 70)))]) s78_14)
noncomputable abbrev s78_16 : CC := (CC.cond (tm 120) CC.skip (CC.exit 6))
noncomputable abbrev s78_17 : CC := (CC.seq (CC.draws [(uB 105 (doMove (tm 12))), (uB 106 (doMove (tm 13))), (uB 107 (bin2 fLeq (tm 105) (tm 106))), (uB 108 (doMove (tm 107))), (uG 108 true 109 (doMove (tm 4))), (uG 108 true 110 (doMove (tm 0))), (uG 108 true 111 (doMove (tm 12))), (uG 108 true 112 (doIndexAddr 5 (tm 110) (tm 111))), (uG 108 true 113 (doLoadA 5 (tm 112))), (uG 108 true 114 (doMove (tm 0))), (uG 108 true 115 (doMove (tm 1))), (uG 108 true 116 (doIndexAddr 5 (tm 114) (tm 115))), (uG 108 true 117 (doLoadA 5 (tm 116))), (wG 108 true 118 (doCallV (tm 109) [(tm 113), (tm 117)])), (uG 108 true 119 (bin2 fLss (tm 118) (oN 0))), (uB 120 (doPick (tm 108) (tm 119) (O.c (V.b Bool.false))))] none) s78_16)
noncomputable abbrev s78_18 : CC := (CC.region [(wB 121 (doMove (tm 12))), (wB 122 (bin2 fAdd (tm 121) (oN 1))), (wB 12 (doMove (tm 122)))])
noncomputable abbrev s78_19 : CC := (CC.block 7 s78_18)
noncomputable abbrev l78_2 : CC := (CC.seq s78_17 s78_19)
noncomputable abbrev s78_20 : CC := (CC.loop l78_2)
noncomputable abbrev s78_21 : CC := (CC.block 6 s78_20)
noncomputable abbrev s78_22 : CC := (CC.cond (tm 139) CC.skip (CC.exit 8))
noncomputable abbrev s78_23 : CC := (CC.seq (CC.draws [(uB 123 (doMove (tm 12))), (uB 124 (doMove (tm 13))), (uB 125 (bin2 fLeq (tm 123) (tm 124))), (uB 126 (doMove (tm 125))), (uG 126 true 127 (doMove (tm 4))), (uG 126 true 128 (doMove (tm 0))), (uG 126 true 129 (doMove (tm 13))), (uG 126 true 130 (doIndexAddr 5 (tm 128) (tm 129))), (uG 126 true 131 (doLoadA 5 (tm 130))), (uG 126 true 132 (doMove (tm 0))), (uG 126 true 133 (doMove (tm 1))), (uG 126 true 134 (doIndexAddr 5 (tm 132) (tm 133))), (uG 126 true 135 (doLoadA 5 (tm 134))), (wG 126 true 136 (doCallV (tm 127) [(tm 131), (tm 135)])), (uG 126 true 137 (bin2 fLss (tm 136) (oN 0))), (uG 126 true 138 (doNot (tm 137))), (uB 139 (doPick (tm 126) (tm 138) (O.c (V.b Bool.false))))] none) s78_22)
noncomputable abbrev s78_24 : CC := (CC.region [(wB 140 (doMove (tm 13))), (wB 141 (bin2 fSub (tm 140) (oN 1))), (wB 13 (doMove (tm 141)))])
noncomputable abbrev s78_25 : CC := (CC.block 9 s78_24)
noncomputable abbrev l78_3 : CC := (CC.seq s78_23 s78_25)
noncomputable abbrev s78_26 : CC := (CC.loop l78_3)
noncomputable abbrev s78_27 : CC := (CC.block 8 s78_26)
noncomputable abbrev s78_28 : CC := (CC.cond (tm 144) (CC.exit 4) CC.skip)
noncomputable abbrev s78_29 : CC := (CC.seq (CC.region [(wB 142 (doMove (tm 12))), (wB 143 (doMove (tm 13))), (wB 144 (bin2 fGtr (tm 142) (tm 143)))]) s78_28)
noncomputable abbrev s78_30 : CC := (CC.region [(wB 161 (doMove (tm 13))), (wB 162 (bin2 fSub (tm 161) (oN 1))), (wB 13 (doMove (tm 162)))])
noncomputable abbrev s78_31 : CC := (CC.seq (CC.region [(wB 159 (doMove (tm 12))), (wB 160 (bin2 fAdd (tm 159) (oN 1))), (wB 12 (doMove (tm 160)))]) s78_30)
noncomputable abbrev s78_32 : CC := (CC.seq (CC.draws [(uB 145 (doMove (tm 0))), (uB 146 (doMove (tm 12))), (uB 147 (doMove (tm 0))), (uB 148 (doMove (tm 13))), (uB 149 (doMove (tm 0))), (uB 150 (doMove (tm 13))), (uB 151 (doIndexAddr 5 (tm 149) (tm 150))), (uB 152 (doLoadA 5 (tm 151))), (uB 153 (doMove (tm 0))), (uB 154 (doMove (tm 12))), (uB 155 (doIndexAddr 5 (tm 153) (tm 154))), (uB 156 (doLoadA 5 (tm 155))), (uB 157 (doIndexAddr 5 (tm 145) (tm 146))), (CO.mk G.none D.none Bool.true (CR.mk (doStore 5 (tm 157) (tm 152)))), (uB 158 (doIndexAddr 5 (tm 147) (tm 148))), (CO.mk G.none D.none Bool.true (CR.mk (doStore 5 (tm 158) (tm 156))))] none) s78_31)
noncomputable abbrev s78_33 : CC := (CC.seq s78_29 s78_32)
noncomputable abbrev s78_34 : CC := (CC.seq s78_27 s78_33)
noncomputable abbrev s78_35 : CC := (CC.seq s78_21 s78_34)
noncomputable abbrev l78_4 : CC := (CC.block 5 s78_35)
noncomputable abbrev s78_36 : CC := (CC.loop l78_4)
noncomputable abbrev s78_37 : CC := (CC.block 4 s78_36)
noncomputable abbrev s78_38 : CC := (CC.seq (CC.region [(wB 177 (doMove (tm 13))), (wB 10 (doMove (tm 177))), (wB 11 (doMove (O.c (V.b Bool.false))))]) CC.ret)
noncomputable abbrev s78_39 : CC := (CC.seq (CC.draws [(uB 163 (doMove (tm 0))), (uB 164 (doMove (tm 13))), (uB 165 (doMove (tm 0))), (uB 166 (doMove (tm 1))), (uB 167 (doMove (tm 0))), (uB 168 (doMove (tm 1))), (uB 169 (doIndexAddr 5 (tm 167) (tm 168))), (uB 170 (doLoadA 5 (tm 169))), (uB 171 (doMove (tm 0))), (uB 172 (doMove (tm 13))), (uB 173 (doIndexAddr 5 (tm 171) (tm 172))), (uB 174 (doLoadA 5 (tm 173))), (uB 175 (doIndexAddr 5 (tm 163) (tm 164))), (CO.mk G.none D.none Bool.true (CR.mk (doStore 5 (tm 175) (tm 170)))), (uB 176 (doIndexAddr 5 (tm 165) (tm 166))), (CO.mk G.none D.none Bool.true (CR.mk (doStore 5 (tm 176) (tm 174))))] none) s78_38)
noncomputable abbrev s78_40 : CC := (CC.seq s78_37 s78_39)
noncomputable abbrev s78_41 : CC := (CC.seq (CC.region [(wB 103 (doMove (tm 13))), (wB 104 (bin2 fSub (tm 103) (oN 1))), (wB 13 (doMove (tm 104)))]) s78_40)
noncomputable abbrev s78_42 : CC := (CC.seq (CC.region [(wB 101 (doMove (tm 12))), (wB 102 (bin2 fAdd (tm 101) (oN 1))), (wB 12 (doMove (tm 102)))]) s78_41)
noncomputable abbrev s78_43 : CC := (CC.seq (CC.draws [(uB 87 (doMove (tm 0))), (uB 88 (doMove (tm 12))), (uB 89 (doMove (tm 0))), (uB 90 (doMove (tm 13))), (uB 91 (doMove (tm 0))), (uB 92 (doMove (tm 13))), (uB 93 (doIndexAddr 5 (tm 91) (tm 92))), (uB 94 (doLoadA 5 (tm 93))), (uB 95 (doMove (tm 0))), (uB 96 (doMove (tm 12))), (uB 97 (doIndexAddr 5 (tm 95) (tm 96))), (uB 98 (doLoadA 5 (tm 97))), (uB 99 (doIndexAddr 5 (tm 87) (tm 88))), (CO.mk G.none D.none Bool.true (CR.mk (doStore 5 (tm 99) (tm 94)))), (uB 100 (doIndexAddr 5 (tm 89) (tm 90))), (CO.mk G.none D.none Bool.true (CR.mk (doStore 5 (tm 100) (tm 98))))] none) s78_42)
noncomputable abbrev s78_44 : CC := (CC.seq s78_15 s78_43)
noncomputable abbrev s78_45 : CC := (CC.seq s78_11 s78_44)
noncomputable abbrev s78_46 : CC := (CC.seq s78_5 s78_45)
noncomputable abbrev s78_47 : CC := (CC.seq (CC.region [(wB 28 (doMove (tm 1))), (wB 29 (bin2 fAdd (tm 28) (oN 1))), (wB 30 (doMove (tm 2))), (wB 31 (bin2 fSub (tm 30) (oN 1))), (wB 12 (doMove (tm 29))), (wB 13 (doMove (tm 31)))]) s78_46)
noncomputable abbrev s78_48 : CC := (CC.seq (CC.draws [(uB 14 (doMove (tm 0))), (uB 15 (doMove (tm 1))), (uB 16 (doMove (tm 0))), (uB 17 (doMove (tm 3))), (uB 18 (doMove (tm 0))), (uB 19 (doMove (tm 3))), (uB 20 (doIndexAddr 5 (tm 18) (tm 19))), (uB 21 (doLoadA 5 (tm 20))), (uB 22 (doMove (tm 0))), (uB 23 (doMove (tm 1))), (uB 24 (doIndexAddr 5 (tm 22) (tm 23))), (uB 25 (doLoadA 5 (tm 24))), (uB 26 (doIndexAddr 5 (tm 14) (tm 15))), (CO.mk G.none D.none Bool.true (CR.mk (doStore 5 (tm 26) (tm 21)))), (uB 27 (doIndexAddr 5 (tm 16) (tm 17))), (CO.mk G.none D.none Bool.true (CR.mk (doStore 5 (tm 27) (tm 25))))] none) s78_47)
noncomputable abbrev b78 : CC := (CC.seq (CC.region [(wB 10 (doMove (oN 0))), (wB 11 (doMove (O.c (V.b Bool.false))))]) s78_48)
theorem c78 : compFn Try.prog 78 = ⟨178, b78, [(Rs.tmp (slOf 10)), (Rs.tmp (slOf 11))]⟩ := by kernel_rfl
noncomputable abbrev s77_0 : CC := (CC.cond (tm 47) CC.skip (CC.exit 2))
noncomputable abbrev s77_1 : CC := (CC.seq (CC.draws [(uB 31 (doMove (tm 11))), (uB 32 (doMove (tm 12))), (uB 33 (bin2 fLeq (tm 31) (tm 32))), (uB 34 (doMove (tm 33))), (uG 34 true 35 (doMove (tm 4))), (uG 34 true 36 (doMove (tm 0))), (uG 34 true 37 (doMove (tm 1))), (uG 34 true 38 (doIndexAddr 5 (tm 36) (tm 37))), (uG 34 true 39 (doLoadA 5 (tm 38))), (uG 34 true 40 (doMove (tm 0))), (uG 34 true 41 (doMove (tm 11))), (uG 34 true 42 (doIndexAddr 5 (tm 40) (tm 41))), (uG 34 true 43 (doLoadA 5 (tm 42))), (wG 34 true 44 (doCallV (tm 35) [(tm 39), (tm 43)])), (uG 34 true 45 (bin2 fLss (tm 44) (oN 0))), (uG 34 true 46 (doNot (tm 45))), (uB 47 (doPick (tm 34) (tm 46) (O.c (V.b Bool.false))))] none) s77_0)
noncomputable abbrev s77_2 : CC := (CC.region [(wB 48 (doMove (tm 11))), (wB 49 (bin2 fAdd (tm 48) (oN 1))), (wB 11 (doMove (tm 49)))])
noncomputable abbrev s77_3 : CC := (CC.block 3 s77_2)
noncomputable abbrev l77_0 : CC := (CC.seq s77_1 s77_3)
noncomputable abbrev s77_4 : CC := (CC.loop l77_0)
noncomputable abbrev s77_5 : CC := (CC.block 2 s77_4)
noncomputable abbrev s77_6 : CC := (CC.cond (tm 65) CC.skip (CC.exit 4))
noncomputable abbrev s77_7 : CC := (CC.seq (CC.draws [(uB 50 (doMove (tm 11))), (uB 51 (doMove (tm 12))), (uB 52 (bin2 fLeq (tm 50) (tm 51))), (uB 53 (doMove (tm 52))), (uG 53 true 54 (doMove (tm 4))), (uG 53 true 55 (doMove (tm 0))), (uG 53 true 56 (doMove (tm 1))), (uG 53 true 57 (doIndexAddr 5 (tm 55) (tm 56))), (uG 53 true 58 (doLoadA 5 (tm 57))), (uG 53 true 59 (doMove (tm 0))), (uG 53 true 60 (doMove (tm 12))), (uG 53 true 61 (doIndexAddr 5 (tm 59) (tm 60))), (uG 53 true 62 (doLoadA 5 (tm 61))), (wG 53 true 63 (doCallV (tm 54) [(tm 58), (tm 62)])), (uG 53 true 64 (bin2 fLss (tm 63) (oN 0))), (uB 65 (doPick (tm 53) (tm 64) (O.c (V.b Bool.false))))] none) s77_6)
noncomputable abbrev s77_8 : CC := (CC.region [(wB 66 (doMove (tm 12))), (wB 67 (bin2 fSub (tm 66) (oN 1))), (wB 12 (doMove (tm 67)))])
noncomputable abbrev s77_9 : CC := (CC.block 5 s77_8)
noncomputable abbrev l77_1 : CC := (CC.seq s77_7 s77_9)
noncomputable abbrev s77_10 : CC := (CC.loop l77_1)
noncomputable abbrev s77_11 : CC := (CC.block 4 s77_10)
noncomputable abbrev s77_12 : CC := (CC.cond (tm 70) (CC.exit 0) CC.skip)
noncomputable abbrev s77_13 : CC := (CC.seq (CC.region [(wB 68 (doMove (tm 11))), (wB 69 (doMove (tm 12))), (wB 70 (bin2 fGtr (tm 68) (tm 69)))]) s77_12)
noncomputable abbrev s77_14 : CC := (CC.region [(wB 87 (doMove (tm 12))), (wB 88 (bin2 fSub (tm 87) (oN 1))), (wB 12 (doMove (tm 88)))])
noncomputable abbrev s77_15 : CC := (CC.seq (CC.region [(wB 85 (doMove (tm 11))), (wB 86 (bin2 fAdd (tm 85) (oN 1))), (wB 11 (doMove (tm 86)))]) s77_14)
noncomputable abbrev s77_16 : CC := (CC.seq (CC.draws [(uB 71 (doMove (tm 0))), (uB 72 (doMove (tm 11))), (uB 73 (doMove (tm 0))), (uB 74 (doMove (tm 12))), (uB 75 (doMove (tm 0))), (uB 76 (doMove (tm 12))), (uB 77 (doIndexAddr 5 (tm 75) (tm 76))), (uB 78 (doLoadA 5 (tm 77))), (uB 79 (doMove (tm 0))), (uB 80 (doMove (tm 11))), (uB 81 (doIndexAddr 5 (tm 79) (tm 80))), (uB 82 (doLoadA 5 (tm 81))), (uB 83 (doIndexAddr 5 (tm 71) (tm 72))), (CO.mk G.none D.none Bool.true (CR.mk (doStore 5 (tm 83) (tm 78)))), (uB 84 (doIndexAddr 5 (tm 73) (tm 74))), (CO.mk G.none D.none Bool.true (CR.mk (doStore 5 (tm 84) (tm 82))))] none) s77_15)
noncomputable abbrev s77_17 : CC := (CC.seq s77_13 s77_16)
noncomputable abbrev s77_18 : CC := (CC.seq s77_11 s77_17)
noncomputable abbrev s77_19 : CC := (CC.seq s77_5 s77_18)
noncomputable abbrev l77_2 : CC := (CC.block 1 s77_19)
noncomputable abbrev s77_20 : CC := (CC.loop l77_2)
noncomputable abbrev s77_21 : CC := (CC.block 0 s77_20)
noncomputable abbrev s77_22 : CC := (CC.seq (CC.region [(wB 89 (doMove (tm 11))), (wB 10 (doMove (tm 89)))]) CC.ret)
noncomputable abbrev s77_23 : CC := (CC.seq s77_21 s77_22)
noncomputable abbrev s77_24 : CC := (CC.seq (CC.region [(wB 27 (doMove (tm 1))), (wB 28 (bin2 fAdd (tm 27) (oN 1))), (wB 29 (doMove (tm 2))), (wB 30 (bin2 fSub (tm 29) (oN 1))), (wB 11 (doMove (tm 28))), (wB 12 (doMove (tm 30)))]) s77_23)
noncomputable abbrev s77_25 : CC := (CC.seq (CC.draws [(uB 13 (doMove (tm 0))), (uB 14 (doMove (tm 1))), (uB 15 (doMove (tm 0))), (uB 16 (doMove (tm 3))), (uB 17 (doMove (tm 0))), (uB 18 (doMove (tm 3))), (uB 19 (doIndexAddr 5 (tm 17) (tm 18))), (uB 20 (doLoadA 5 (tm 19))), (uB 21 (doMove (tm 0))), (uB 22 (doMove (tm 1))), (uB 23 (doIndexAddr 5 (tm 21) (tm 22))), (uB 24 (doLoadA 5 (tm 23))), (uB 25 (doIndexAddr 5 (tm 13) (tm 14))), (CO.mk G.none D.none Bool.true (CR.mk (doStore 5 (tm 25) (tm 20)))), (uB 26 (doIndexAddr 5 (tm 15) (tm 16))), (CO.mk G.none D.none Bool.true (CR.mk (doStore 5 (tm 26) (tm 24))))] none) s77_24)
noncomputable abbrev b77 : CC := (CC.seq (CC.region [(wB 10 (doMove (oN 0)))]) s77_25)
theorem c77 : compFn Try.prog 77 = ⟨90, b77, [(Rs.tmp (slOf 10))]⟩ := by kernel_rfl
noncomputable abbrev s76_0 : CC := (CC.cond (tm 16) CC.skip (CC.exit 0))
noncomputable abbrev s76_1 : CC := (CC.seq (CC.region [(wB 15 (doMove (tm 10))), (wB 16 (bin2 fLss (tm 15) (oN 5)))]) s76_0)
noncomputable abbrev s76_2 : CC := (CC.cond (tm 36) CC.skip (CC.exit 2))
noncomputable abbrev s76_3 : CC := (CC.seq (CC.draws [(uB 19 (doMove (tm 9))), (uB 20 (doMove (tm 2))), (uB 21 (bin2 fLss (tm 19) (tm 20))), (uB 22 (doMove (tm 21))), (uG 22 true 23 (doMove (tm 3))), (uG 22 true 24 (doMove (tm 0))), (uG 22 true 25 (doMove (tm 9))), (uG 22 true 26 (doIndexAddr 5 (tm 24) (tm 25))), (uG 22 true 27 (doLoadA 5 (tm 26))), (uG 22 true 28 (doMove (tm 0))), (uG 22 true 29 (doMove (tm 9))), (uG 22 true 30 (bin2 fSub (tm 29) (oN 1))), (uG 22 true 31 (doIndexAddr 5 (tm 28) (tm 30))), (uG 22 true 32 (doLoadA 5 (tm 31))), (wG 22 true 33 (doCallV (tm 23) [(tm 27), (tm 32)])), (uG 22 true 34 (bin2 fLss (tm 33) (oN 0))), (uG 22 true 35 (doNot (tm 34))), (uB 36 (doPick (tm 22) (tm 35) (O.c (V.b Bool.false))))] none) s76_2)
noncomputable abbrev s76_4 : CC := (CC.region [(wB 37 (doMove (tm 9))), (wB 38 (bin2 fAdd (tm 37) (oN 1))), (wB 9 (doMove (tm 38)))])
noncomputable abbrev s76_5 : CC := (CC.block 3 s76_4)
noncomputable abbrev l76_0 : CC := (CC.seq s76_3 s76_5)
noncomputable abbrev s76_6 : CC := (CC.loop l76_0)
noncomputable abbrev s76_7 : CC := (CC.block 2 s76_6)
noncomputable abbrev s76_8 : CC := (CC.seq (CC.region [(wB 8 (doMove (O.c (V.b Bool.true))))]) CC.ret)
noncomputable abbrev s76_9 : CC := (CC.cond (tm 41) s76_8 CC.skip)
noncomputable abbrev s76_10 : CC := (CC.seq (CC.region [(wB 39 (doMove (tm 9))), (wB 40 (doMove (tm 2))), (wB 41 (bin2 fEql (tm 39) (tm 40)))]) s76_9)
noncomputable abbrev s76_11 : CC := (CC.seq (CC.region [(wB 8 (doMove (O.c (V.b Bool.false))))]) CC.ret)
noncomputable abbrev s76_12 : CC := (CC.cond (tm 45) s76_11 CC.skip)
noncomputable abbrev s76_13 : CC := (CC.seq (CC.region [(wB 42 (doMove (tm 2))), (wB 43 (doMove (tm 1))), (wB 44 (bin2 fSub (tm 42) (tm 43))), (wB 45 (bin2 fLss (tm 44) (oN 50)))]) s76_12)
noncomputable abbrev s76_14 : CC := (CC.cond (tm 69) CC.skip (CC.exit 4))
noncomputable abbrev s76_15 : CC := (CC.seq (CC.region [(wB 68 (doMove (tm 11))), (wB 69 (bin2 fGeq (tm 68) (oN 1)))]) s76_14)
noncomputable abbrev s76_16 : CC := (CC.cond (tm 84) (CC.exit 4) CC.skip)
noncomputable abbrev s76_17 : CC := (CC.seq (CC.draws [(uB 72 (doMove (tm 3))), (uB 73 (doMove (tm 0))), (uB 74 (doMove (tm 11))), (uB 75 (doIndexAddr 5 (tm 73) (tm 74))), (uB 76 (doLoadA 5 (tm 75))), (uB 77 (doMove (tm 0))), (uB 78 (doMove (tm 11))), (uB 79 (bin2 fSub (tm 78) (oN 1))), (uB 80 (doIndexAddr 5 (tm 77) (tm 79))), (uB 81 (doLoadA 5 (tm 80))), (wB 82 (doCallV (tm 72) [(tm 76), (tm 81)])), (uB 83 (bin2 fLss (tm 82) (oN 0))), (uB 84 (doNot (tm 83)))] none) s76_16)
noncomputable abbrev s76_18 : CC := (CC.draws [(uB 85 (doMove (tm 0))), (uB 86 (doMove (tm 11))), (uB 87 (doMove (tm 0))), (uB 88 (doMove (tm 11))), (uB 89 (bin2 fSub (tm 88) (oN 1))), (uB 90 (doMove (tm 0))), (uB 91 (doMove (tm 11))), (uB 92 (bin2 fSub (tm 91) (oN 1))), (uB 93 (doIndexAddr 5 (tm 90) (tm 92))), (uB 94 (doLoadA 5 (tm 93))), (uB 95 (doMove (tm 0))), (uB 96 (doMove (tm 11))), (uB 97 (doIndexAddr 5 (tm 95) (tm 96))), (uB 98 (doLoadA 5 (tm 97))), (uB 99 (doIndexAddr 5 (tm 85) (tm 86))), (CO.mk G.none D.none Bool.true (CR.mk (doStore 5 (tm 99) (tm 94)))), (uB 100 (doIndexAddr 5 (tm 87) (tm 89))), (CO.mk G.none D.none Bool.true (CR.mk (doStore 5 (tm 100) (tm 98))))] none)
noncomputable abbrev s76_19 : CC := (CC.seq s76_17 s76_18)
noncomputable abbrev s76_20 : CC := (CC.block 5 s76_19)
noncomputable abbrev s76_21 : CC := (CC.region [(wB 70 (doMove (tm 11))), (wB 71 (bin2 fSub (tm 70) (oN 1))), (wB 11 (doMove (tm 71)))])
noncomputable abbrev s76_22 : CC := (CC.seq s76_20 s76_21)
noncomputable abbrev l76_1 : CC := (CC.seq s76_15 s76_22)
noncomputable abbrev s76_23 : CC := (CC.loop l76_1)
noncomputable abbrev s76_24 : CC := (CC.block 4 s76_23)
noncomputable abbrev s76_25 : CC := (CC.seq (CC.region [(wB 66 (doMove (tm 9))), (wB 67 (bin2 fSub (tm 66) (oN 1))), (wB 11 (doMove (tm 67)))]) s76_24)
noncomputable abbrev s76_26 : CC := (CC.cond (tm 65) s76_25 CC.skip)
noncomputable abbrev s76_27 : CC := (CC.seq (CC.region [(wB 62 (doMove (tm 9))), (wB 63 (doMove (tm 1))), (wB 64 (bin2 fSub (tm 62) (tm 63))), (wB 65 (bin2 fGeq (tm 64) (oN 2)))]) s76_26)
noncomputable abbrev s76_28 : CC := (CC.cond (tm 109) CC.skip (CC.exit 6))
noncomputable abbrev s76_29 : CC := (CC.seq (CC.region [(wB 107 (doMove (tm 12))), (wB 108 (doMove (tm 2))), (wB 109 (bin2 fLss (tm 107) (tm 108)))]) s76_28)
noncomputable abbrev s76_30 : CC := (CC.cond (tm 124) (CC.exit 6) CC.skip)
noncomputable abbrev s76_31 : CC := (CC.seq (CC.draws [(uB 112 (doMove (tm 3))), (uB 113 (doMove (tm 0))), (uB 114 (doMove (tm 12))), (uB 115 (doIndexAddr 5 (tm 113) (tm 114))), (uB 116 (doLoadA 5 (tm 115))), (uB 117 (doMove (tm 0))), (uB 118 (doMove (tm 12))), (uB 119 (bin2 fSub (tm 118) (oN 1))), (uB 120 (doIndexAddr 5 (tm 117) (tm 119))), (uB 121 (doLoadA 5 (tm 120))), (wB 122 (doCallV (tm 112) [(tm 116), (tm 121)])), (uB 123 (bin2 fLss (tm 122) (oN 0))), (uB 124 (doNot (tm 123)))] none) s76_30)
noncomputable abbrev s76_32 : CC := (CC.draws [(uB 125 (doMove (tm 0))), (uB 126 (doMove (tm 12))), (uB 127 (doMove (tm 0))), (uB 128 (doMove (tm 12))), (uB 129 (bin2 fSub (tm 128) (oN 1))), (uB 130 (doMove (tm 0))), (uB 131 (doMove (tm 12))), (uB 132 (bin2 fSub (tm 131) (oN 1))), (uB 133 (doIndexAddr 5 (tm 130) (tm 132))), (uB 134 (doLoadA 5 (tm 133))), (uB 135 (doMove (tm 0))), (uB 136 (doMove (tm 12))), (uB 137 (doIndexAddr 5 (tm 135) (tm 136))), (uB 138 (doLoadA 5 (tm 137))), (uB 139 (doIndexAddr 5 (tm 125) (tm 126))), (CO.mk G.none D.none Bool.true (CR.mk (doStore 5 (tm 139) (tm 134)))), (uB 140 (doIndexAddr 5 (tm 127) (tm 129))), (CO.mk G.none D.none Bool.true (CR.mk (doStore 5 (tm 140) (tm 138))))] none)
noncomputable abbrev s76_33 : CC := (CC.seq s76_31 s76_32)
noncomputable abbrev s76_34 : CC := (CC.block 7 s76_33)
noncomputable abbrev s76_35 : CC := (CC.region [(wB 110 (doMove (tm 12))), (wB 111 (bin2 fAdd (tm 110) (oN 1))), (wB 12 (doMove (tm 111)))])
noncomputable abbrev s76_36 : CC := (CC.seq s76_34 s76_35)
noncomputable abbrev l76_2 : CC := (CC.seq s76_29 s76_36)
noncomputable abbrev s76_37 : CC := (CC.loop l76_2)
noncomputable abbrev s76_38 : CC := (CC.block 6 s76_37)
noncomputable abbrev s76_39 : CC := (CC.seq (CC.region [(wB 105 (doMove (tm 9))), (wB 106 (bin2 fAdd (tm 105) (oN 1))), (wB 12 (doMove (tm 106)))]) s76_38)
noncomputable abbrev s76_40 : CC := (CC.cond (tm 104) s76_39 CC.skip)
noncomputable abbrev s76_41 : CC := (CC.seq (CC.region [(wB 101 (doMove (tm 2))), (wB 102 (doMove (tm 9))), (wB 103 (bin2 fSub (tm 101) (tm 102))), (wB 104 (bin2 fGeq (tm 103) (oN 2)))]) s76_40)
noncomputable abbrev s76_42 : CC := (CC.seq s76_27 s76_41)
noncomputable abbrev s76_43 : CC := (CC.seq (CC.draws [(uB 46 (doMove (tm 0))), (uB 47 (doMove (tm 9))), (uB 48 (doMove (tm 0))), (uB 49 (doMove (tm 9))), (uB 50 (bin2 fSub (tm 49) (oN 1))), (uB 51 (doMove (tm 0))), (uB 52 (doMove (tm 9))), (uB 53 (bin2 fSub (tm 52) (oN 1))), (uB 54 (doIndexAddr 5 (tm 51) (tm 53))), (uB 55 (doLoadA 5 (tm 54))), (uB 56 (doMove (tm 0))), (uB 57 (doMove (tm 9))), (uB 58 (doIndexAddr 5 (tm 56) (tm 57))), (uB 59 (doLoadA 5 (tm 58))), (uB 60 (doIndexAddr 5 (tm 46) (tm 47))), (CO.mk G.none D.none Bool.true (CR.mk (doStore 5 (tm 60) (tm 55)))), (uB 61 (doIndexAddr 5 (tm 48) (tm 50))), (CO.mk G.none D.none Bool.true (CR.mk (doStore 5 (tm 61) (tm 59))))] none) s76_42)
noncomputable abbrev s76_44 : CC := (CC.seq s76_13 s76_43)
noncomputable abbrev s76_45 : CC := (CC.seq s76_10 s76_44)
noncomputable abbrev s76_46 : CC := (CC.seq s76_7 s76_45)
noncomputable abbrev s76_47 : CC := (CC.block 1 s76_46)
noncomputable abbrev s76_48 : CC := (CC.region [(wB 17 (doMove (tm 10))), (wB 18 (bin2 fAdd (tm 17) (oN 1))), (wB 10 (doMove (tm 18)))])
noncomputable abbrev s76_49 : CC := (CC.seq s76_47 s76_48)
noncomputable abbrev l76_3 : CC := (CC.seq s76_1 s76_49)
noncomputable abbrev s76_50 : CC := (CC.loop l76_3)
noncomputable abbrev s76_51 : CC := (CC.block 0 s76_50)
noncomputable abbrev s76_52 : CC := (CC.seq (CC.region [(wB 10 (doMove (oN 0)))]) s76_51)
noncomputable abbrev s76_53 : CC := (CC.seq (CC.region [(wB 8 (doMove (O.c (V.b Bool.false))))]) CC.ret)
noncomputable abbrev s76_54 : CC := (CC.seq s76_52 s76_53)
noncomputable abbrev s76_55 : CC := (CC.seq (CC.region [(wB 13 (doMove (tm 1))), (wB 14 (bin2 fAdd (tm 13) (oN 1))), (wB 9 (doMove (tm 14)))]) s76_54)
noncomputable abbrev b76 : CC := (CC.seq (CC.region [(wB 8 (doMove (O.c (V.b Bool.false))))]) s76_55)
theorem c76 : compFn Try.prog 76 = ⟨141, b76, [(Rs.tmp (slOf 8))]⟩ := by kernel_rfl
noncomputable abbrev s73_0 : CC := (CC.cond (tm 35) CC.skip (CC.exit 0))
noncomputable abbrev s73_1 : CC := (CC.seq (CC.region [(wB 28 (doMove (tm 11))), (wB 29 (doMove (tm 1))), (wB 30 (doMove (tm 8))), (wB 31 (bin2 fQuo (tm 30) (oN 4))), (wB 32 (bin2 fMul (tm 31) (oN 2))), (wB 33 (bin2 fAdd (tm 29) (tm 32))), (wB 34 (bin2 fAdd (tm 33) (oN 1))), (wB 35 (bin2 fLeq (tm 28) (tm 34)))]) s73_0)
noncomputable abbrev s73_2 : CC := (CC.region [(wB 46 (doMove (tm 12))), (wB 47 (doMove (tm 8))), (wB 48 (bin2 fSub (tm 46) (tm 47))), (wB 12 (doMove (tm 48)))])
noncomputable abbrev s73_3 : CC := (CC.cond (tm 45) s73_2 CC.skip)
noncomputable abbrev s73_4 : CC := (CC.seq (CC.region [(wB 43 (doMove (tm 12))), (wB 44 (doMove (tm 8))), (wB 45 (bin2 fGeq (tm 43) (tm 44)))]) s73_3)
noncomputable abbrev s73_5 : CC := (CC.draws [(uB 49 (doMove (tm 0))), (uB 50 (doMove (tm 11))), (uB 51 (doMove (tm 0))), (uB 52 (doMove (tm 1))), (uB 53 (doMove (tm 12))), (uB 54 (bin2 fAdd (tm 52) (tm 53))), (uB 55 (doMove (tm 0))), (uB 56 (doMove (tm 1))), (uB 57 (doMove (tm 12))), (uB 58 (bin2 fAdd (tm 56) (tm 57))), (uB 59 (doIndexAddr 5 (tm 55) (tm 58))), (uB 60 (doLoadA 5 (tm 59))), (uB 61 (doMove (tm 0))), (uB 62 (doMove (tm 11))), (uB 63 (doIndexAddr 5 (tm 61) (tm 62))), (uB 64 (doLoadA 5 (tm 63))), (uB 65 (doIndexAddr 5 (tm 49) (tm 50))), (CO.mk G.none D.none Bool.true (CR.mk (doStore 5 (tm 65) (tm 60)))), (uB 66 (doIndexAddr 5 (tm 51) (tm 54))), (CO.mk G.none D.none Bool.true (CR.mk (doStore 5 (tm 66) (tm 64))))] none)
noncomputable abbrev s73_6 : CC := (CC.seq s73_4 s73_5)
noncomputable abbrev s73_7 : CC := (CC.seq (CC.region [(wB 38 (doCall 87 [(tm 9)])), (wB 39 (doMove (tm 10))), (wB 40 (bin2 fSub (tm 39) (O.c (V.i IntKind.u64 (Int.ofNat 1))))), (wB 41 (bin2 fAnd (tm 38) (tm 40))), (wB 42 (doConv IntKind.i64 (tm 41))), (wB 12 (doMove (tm 42)))]) s73_6)
noncomputable abbrev s73_8 : CC := (CC.block 1 s73_7)
noncomputable abbrev s73_9 : CC := (CC.region [(wB 36 (doMove (tm 11))), (wB 37 (bin2 fAdd (tm 36) (oN 1))), (wB 11 (doMove (tm 37)))])
noncomputable abbrev s73_10 : CC := (CC.seq s73_8 s73_9)
noncomputable abbrev l73_0 : CC := (CC.seq s73_1 s73_10)
noncomputable abbrev s73_11 : CC := (CC.loop l73_0)
noncomputable abbrev s73_12 : CC := (CC.block 0 s73_11)
noncomputable abbrev s73_13 : CC := (CC.seq (CC.region [(wB 22 (doMove (tm 1))), (wB 23 (doMove (tm 8))), (wB 24 (bin2 fQuo (tm 23) (oN 4))), (wB 25 (bin2 fMul (tm 24) (oN 2))), (wB 26 (bin2 fAdd (tm 22) (tm 25))), (wB 27 (bin2 fSub (tm 26) (oN 1))), (wB 11 (doMove (tm 27)))]) s73_12)
noncomputable abbrev s73_14 : CC := (CC.seq (CC.region [(wB 20 (doMove (tm 8))), (wB 21 (doCall 86 [(tm 20)])), (wB 10 (doMove (tm 21)))]) s73_13)
noncomputable abbrev s73_15 : CC := (CC.seq (CC.region [(wB 18 (doMove (tm 8))), (wB 19 (doConv IntKind.u64 (tm 18))), (wB 9 (doAlloc 119 [(V.i IntKind.u64 (Int.ofNat 0))])), (CO.mk G.none D.none Bool.true (CR.mk (doStore 1 (tm 9) (tm 19))))]) s73_14)
noncomputable abbrev s73_16 : CC := (CC.cond (tm 17) s73_15 CC.skip)
noncomputable abbrev s73_17 : CC := (CC.seq (CC.region [(wB 16 (doMove (tm 8))), (wB 17 (bin2 fGeq (tm 16) (oN 8)))]) s73_16)
noncomputable abbrev b73 : CC := (CC.seq (CC.region [(wB 13 (doMove (tm 2))), (wB 14 (doMove (tm 1))), (wB 15 (bin2 fSub (tm 13) (tm 14))), (wB 8 (doMove (tm 15)))]) s73_17)
theorem c73 : compFn Try.prog 73 = ⟨67, b73, []⟩ := by kernel_rfl
noncomputable abbrev s74_0 : CC := (CC.region [(wB 45 (doMove (tm 0))), (wB 46 (doMove (tm 14))), (wB 47 (doMove (tm 3))), (wB 48 (doCall 88 [(tm 45), (tm 46), (tm 11), (tm 47)])), (wB 14 (doMove (tm 48)))])
noncomputable abbrev s74_1 : CC := (CC.seq (CC.region [(wB 41 (doMove (tm 0))), (wB 42 (doMove (tm 13))), (wB 43 (doMove (tm 3))), (wB 44 (doCall 88 [(tm 41), (tm 42), (tm 11), (tm 43)])), (wB 13 (doMove (tm 44)))]) s74_0)
noncomputable abbrev s74_2 : CC := (CC.seq (CC.region [(wB 37 (doMove (tm 0))), (wB 38 (doMove (tm 12))), (wB 39 (doMove (tm 3))), (wB 40 (doCall 88 [(tm 37), (tm 38), (tm 11), (tm 39)])), (wB 12 (doMove (tm 40)))]) s74_1)
noncomputable abbrev s74_3 : CC := (CC.cond (tm 36) s74_2 CC.skip)
noncomputable abbrev s74_4 : CC := (CC.seq (CC.region [(wB 35 (doMove (tm 10))), (wB 36 (bin2 fGeq (tm 35) (oN 50)))]) s74_3)
noncomputable abbrev s74_5 : CC := (CC.region [(wB 49 (doMove (tm 0))), (wB 50 (doMove (tm 12))), (wB 51 (doMove (tm 13))), (wB 52 (doMove (tm 14))), (wB 53 (doMove (tm 3))), (wB 54 (doCall 89 [(tm 49), (tm 50), (tm 51), (tm 52), (tm 11), (tm 53)])), (wB 13 (doMove (tm 54)))])
noncomputable abbrev s74_6 : CC := (CC.seq s74_4 s74_5)
noncomputable abbrev s74_7 : CC := (CC.cond (tm 34) s74_6 CC.skip)
noncomputable abbrev s74_8 : CC := (CC.seq (CC.region [(wB 33 (doMove (tm 10))), (wB 34 (bin2 fGeq (tm 33) (oN 8)))]) s74_7)
noncomputable abbrev s74_9 : CC := (CC.seq (CC.region [(wB 59 (doMove (tm 13))), (wB 8 (doMove (tm 59))), (wB 9 (doMove (oN 1)))]) CC.ret)
noncomputable abbrev s74_10 : CC := (CC.seq (CC.region [(wB 62 (doMove (tm 13))), (wB 8 (doMove (tm 62))), (wB 9 (doMove (oN 2)))]) CC.ret)
noncomputable abbrev s74_11 : CC := (CC.seq (CC.region [(wB 56 (doMove (tm 13))), (wB 8 (doMove (tm 56))), (wB 9 (doMove (oN 0)))]) CC.ret)
noncomputable abbrev s74_12 : CC := (CC.cond (tm 60) s74_10 s74_11)
noncomputable abbrev s74_13 : CC := (CC.seq (CC.region [(wB 61 (bin2 fEql (tm 55) (oN 12))), (wB 60 (doMove (tm 61)))]) s74_12)
noncomputable abbrev s74_14 : CC := (CC.cond (tm 57) s74_9 s74_13)
noncomputable abbrev s74_15 : CC := (CC.seq (CC.region [(wB 58 (bin2 fEql (tm 55) (oN 0))), (wB 57 (doMove (tm 58)))]) s74_14)
noncomputable abbrev s74_16 : CC := (CC.block 0 s74_15)
noncomputable abbrev s74_17 : CC := (CC.seq (CC.region [(wB 55 (doLoad (tm 11)))]) s74_16)
noncomputable abbrev s74_18 : CC := (CC.seq s74_8 s74_17)
noncomputable abbrev s74_19 : CC := (CC.seq (CC.region [(wB 28 (doMove (tm 1))), (wB 29 (doMove (tm 10))), (wB 30 (bin2 fQuo (tm 29) (oN 4))), (wB 31 (bin2 fMul (tm 30) (oN 3))), (wB 32 (bin2 fAdd (tm 28) (tm 31))), (wB 14 (doMove (tm 32)))]) s74_18)
noncomputable abbrev s74_20 : CC := (CC.seq (CC.region [(wB 23 (doMove (tm 1))), (wB 24 (doMove (tm 10))), (wB 25 (bin2 fQuo (tm 24) (oN 4))), (wB 26 (bin2 fMul (tm 25) (oN 2))), (wB 27 (bin2 fAdd (tm 23) (tm 26))), (wB 13 (doMove (tm 27)))]) s74_19)
noncomputable abbrev s74_21 : CC := (CC.seq (CC.region [(wB 18 (doMove (tm 1))), (wB 19 (doMove (tm 10))), (wB 20 (bin2 fQuo (tm 19) (oN 4))), (wB 21 (bin2 fMul (tm 20) (oN 1))), (wB 22 (bin2 fAdd (tm 18) (tm 21))), (wB 12 (doMove (tm 22)))]) s74_20)
noncomputable abbrev s74_22 : CC := (CC.seq (CC.region [(wB 11 (doAlloc 3 [(V.i IntKind.i64 (Int.ofNat 0))]))]) s74_21)
noncomputable abbrev s74_23 : CC := (CC.seq (CC.region [(wB 15 (doMove (tm 2))), (wB 16 (doMove (tm 1))), (wB 17 (bin2 fSub (tm 15) (tm 16))), (wB 10 (doMove (tm 17)))]) s74_22)
noncomputable abbrev b74 : CC := (CC.seq (CC.region [(wB 8 (doMove (oN 0))), (wB 9 (doMove (oN 0)))]) s74_23)
theorem c74 : compFn Try.prog 74 = ⟨63, b74, [(Rs.tmp (slOf 8)), (Rs.tmp (slOf 9))]⟩ := by kernel_rfl
noncomputable abbrev s91_0 : CC := (CC.seq (CC.region [(wB 28 (doMove (tm 2))), (wB 29 (doMove (tm 1))), (wB 10 (doMove (tm 28))), (wB 11 (doMove (tm 29)))]) CC.ret)
noncomputable abbrev s91_1 : CC := (CC.seq (CC.region [(wB 23 (doMove (tm 3))), (wB 24 (doNilCheck (tm 23))), (wB 25 (doLoad (tm 24))), (wB 26 (bin2 fAdd (tm 25) (oN 1))), (wB 27 (doNilCheck (tm 23))), (CO.mk G.none D.none Bool.true (CR.mk (doStore 1 (tm 27) (tm 26))))]) s91_0)
noncomputable abbrev s91_2 : CC := (CC.cond (tm 22) s91_1 CC.skip)
noncomputable abbrev s91_3 : CC := (CC.seq (CC.draws [(uB 12 (doMove (tm 4))), (uB 13 (doMove (tm 0))), (uB 14 (doMove (tm 2))), (uB 15 (doIndexAddr 5 (tm 13) (tm 14))), (uB 16 (doLoadA 5 (tm 15))), (uB 17 (doMove (tm 0))), (uB 18 (doMove (tm 1))), (uB 19 (doIndexAddr 5 (tm 17) (tm 18))), (uB 20 (doLoadA 5 (tm 19))), (wB 21 (doCallV (tm 12) [(tm 16), (tm 20)])), (uB 22 (bin2 fLss (tm 21) (oN 0)))] none) s91_2)
noncomputable abbrev s91_4 : CC := (CC.seq (CC.region [(wB 30 (doMove (tm 1))), (wB 31 (doMove (tm 2))), (wB 10 (doMove (tm 30))), (wB 11 (doMove (tm 31)))]) CC.ret)
noncomputable abbrev s91_5 : CC := (CC.seq s91_3 s91_4)
noncomputable abbrev b91 : CC := (CC.seq (CC.region [(wB 10 (doMove (oN 0))), (wB 11 (doMove (oN 0)))]) s91_5)
theorem c91 : compFn Try.prog 91 = ⟨32, b91, [(Rs.tmp (slOf 10)), (Rs.tmp (slOf 11))]⟩ := by kernel_rfl
noncomputable abbrev s89_0 : CC := (CC.seq (CC.region [(wB 40 (doMove (tm 2))), (wB 12 (doMove (tm 40)))]) CC.ret)
noncomputable abbrev s89_1 : CC := (CC.seq (CC.region [(wB 32 (doMove (tm 0))), (wB 33 (doMove (tm 1))), (wB 34 (doMove (tm 2))), (wB 35 (doMove (tm 4))), (wB 36 (doMove (tm 5))), (wB 37 (doCall 91 [(tm 32), (tm 33), (tm 34), (tm 35), (tm 36)])), (wB 31 (doMove (tm 37))), (wB 38 (doExtract 0 (tm 31))), (wB 39 (doExtract 1 (tm 31))), (wB 1 (doMove (tm 38))), (wB 2 (doMove (tm 39)))]) s89_0)
noncomputable abbrev s89_2 : CC := (CC.seq (CC.region [(wB 23 (doMove (tm 0))), (wB 24 (doMove (tm 2))), (wB 25 (doMove (tm 3))), (wB 26 (doMove (tm 4))), (wB 27 (doMove (tm 5))), (wB 28 (doCall 91 [(tm 23), (tm 24), (tm 25), (tm 26), (tm 27)])), (wB 22 (doMove (tm 28))), (wB 29 (doExtract 0 (tm 22))), (wB 30 (doExtract 1 (tm 22))), (wB 2 (doMove (tm 29))), (wB 3 (doMove (tm 30)))]) s89_1)
noncomputable abbrev s89_3 : CC := (CC.seq (CC.region [(wB 14 (doMove (tm 0))), (wB 15 (doMove (tm 1))), (wB 16 (doMove (tm 2))), (wB 17 (doMove (tm 4))), (wB 18 (doMove (tm 5))), (wB 19 (doCall 91 [(tm 14), (tm 15), (tm 16), (tm 17), (tm 18)])), (wB 13 (doMove (tm 19))), (wB 20 (doExtract 0 (tm 13))), (wB 21 (doExtract 1 (tm 13))), (wB 1 (doMove (tm 20))), (wB 2 (doMove (tm 21)))]) s89_2)
noncomputable abbrev b89 : CC := (CC.seq (CC.region [(wB 12 (doMove (oN 0)))]) s89_3)
theorem c89 : compFn Try.prog 89 = ⟨41, b89, [(Rs.tmp (slOf 12))]⟩ := by kernel_rfl
noncomputable abbrev s88_0 : CC := (CC.seq (CC.region [(wB 9 (doMove (tm 0))), (wB 10 (doMove (tm 1))), (wB 11 (bin2 fSub (tm 10) (oN 1))), (wB 12 (doMove (tm 1))), (wB 13 (doMove (tm 1))), (wB 14 (bin2 fAdd (tm 13) (oN 1))), (wB 15 (doMove (tm 2))), (wB 16 (doMove (tm 3))), (wB 17 (doCall 89 [(tm 9), (tm 11), (tm 12), (tm 14), (tm 15), (tm 16)])), (wB 8 (doMove (tm 17)))]) CC.ret)
noncomputable abbrev b88 : CC := (CC.seq (CC.region [(wB 8 (doMove (oN 0)))]) s88_0)
theorem c88 : compFn Try.prog 88 = ⟨18, b88, [(Rs.tmp (slOf 8))]⟩ := by kernel_rfl
noncomputable abbrev s75_0 : CC := (CC.cond (tm 15) CC.skip (CC.exit 0))
noncomputable abbrev s75_1 : CC := (CC.seq (CC.region [(wB 13 (doMove (tm 8))), (wB 14 (doMove (tm 9))), (wB 15 (bin2 fLss (tm 13) (tm 14)))]) s75_0)
noncomputable abbrev s75_2 : CC := (CC.region [(wB 32 (doMove (tm 9))), (wB 33 (bin2 fSub (tm 32) (oN 1))), (wB 9 (doMove (tm 33)))])
noncomputable abbrev s75_3 : CC := (CC.seq (CC.region [(wB 30 (doMove (tm 8))), (wB 31 (bin2 fAdd (tm 30) (oN 1))), (wB 8 (doMove (tm 31)))]) s75_2)
noncomputable abbrev s75_4 : CC := (CC.seq (CC.draws [(uB 16 (doMove (tm 0))), (uB 17 (doMove (tm 8))), (uB 18 (doMove (tm 0))), (uB 19 (doMove (tm 9))), (uB 20 (doMove (tm 0))), (uB 21 (doMove (tm 9))), (uB 22 (doIndexAddr 5 (tm 20) (tm 21))), (uB 23 (doLoadA 5 (tm 22))), (uB 24 (doMove (tm 0))), (uB 25 (doMove (tm 8))), (uB 26 (doIndexAddr 5 (tm 24) (tm 25))), (uB 27 (doLoadA 5 (tm 26))), (uB 28 (doIndexAddr 5 (tm 16) (tm 17))), (CO.mk G.none D.none Bool.true (CR.mk (doStore 5 (tm 28) (tm 23)))), (uB 29 (doIndexAddr 5 (tm 18) (tm 19))), (CO.mk G.none D.none Bool.true (CR.mk (doStore 5 (tm 29) (tm 27))))] none) s75_3)
noncomputable abbrev s75_5 : CC := (CC.block 1 s75_4)
noncomputable abbrev l75_0 : CC := (CC.seq s75_1 s75_5)
noncomputable abbrev s75_6 : CC := (CC.loop l75_0)
noncomputable abbrev s75_7 : CC := (CC.block 0 s75_6)
noncomputable abbrev s75_8 : CC := (CC.seq (CC.region [(wB 11 (doMove (tm 2))), (wB 12 (bin2 fSub (tm 11) (oN 1))), (wB 9 (doMove (tm 12)))]) s75_7)
noncomputable abbrev b75 : CC := (CC.seq (CC.region [(wB 10 (doMove (tm 1))), (wB 8 (doMove (tm 10)))]) s75_8)
theorem c75 : compFn Try.prog 75 = ⟨34, b75, []⟩ := by kernel_rfl
noncomputable abbrev s87_0 : CC := (CC.seq (CC.region [(wB 30 (doMove (tm 0))), (wB 31 (doNilCheck (tm 30))), (wB 32 (doLoad (tm 31))), (wB 2 (doMove (tm 32)))]) CC.ret)
noncomputable abbrev s87_1 : CC := (CC.seq (CC.draws [(uB 21 (doMove (tm 0))), (uB 22 (doNilCheck (tm 21))), (uB 23 (doLoad (tm 22))), (uB 24 (doMove (tm 0))), (uB 25 (doNilCheck (tm 24))), (uB 26 (doLoad (tm 25))), (uB 27 (doShift shlF (tm 26) (O.c (V.i IntKind.u64 (Int.ofNat 17))))), (uB 28 (bin2 fXor (tm 23) (tm 27))), (wB 29 (doNilCheck (tm 21))), (CO.mk G.none D.none Bool.true (CR.mk (doStore 1 (tm 29) (tm 28))))] none) s87_0)
noncomputable abbrev s87_2 : CC := (CC.seq (CC.draws [(uB 12 (doMove (tm 0))), (uB 13 (doNilCheck (tm 12))), (uB 14 (doLoad (tm 13))), (uB 15 (doMove (tm 0))), (uB 16 (doNilCheck (tm 15))), (uB 17 (doLoad (tm 16))), (uB 18 (doShift shrF (tm 17) (O.c (V.i IntKind.u64 (Int.ofNat 7))))), (uB 19 (bin2 fXor (tm 14) (tm 18))), (wB 20 (doNilCheck (tm 12))), (CO.mk G.none D.none Bool.true (CR.mk (doStore 1 (tm 20) (tm 19))))] none) s87_1)
noncomputable abbrev s87_3 : CC := (CC.seq (CC.draws [(uB 3 (doMove (tm 0))), (uB 4 (doNilCheck (tm 3))), (uB 5 (doLoad (tm 4))), (uB 6 (doMove (tm 0))), (uB 7 (doNilCheck (tm 6))), (uB 8 (doLoad (tm 7))), (uB 9 (doShift shlF (tm 8) (O.c (V.i IntKind.u64 (Int.ofNat 13))))), (uB 10 (bin2 fXor (tm 5) (tm 9))), (wB 11 (doNilCheck (tm 3))), (CO.mk G.none D.none Bool.true (CR.mk (doStore 1 (tm 11) (tm 10))))] none) s87_2)
noncomputable abbrev b87 : CC := (CC.seq (CC.region [(wB 2 (doMove (O.c (V.i IntKind.u64 (Int.ofNat 0)))))]) s87_3)
theorem c87 : compFn Try.prog 87 = ⟨33, b87, [(Rs.tmp (slOf 2))]⟩ := by kernel_rfl
noncomputable abbrev s86_0 : CC := (CC.seq (CC.region [(wB 3 (doMove (tm 0))), (wB 4 (doConv IntKind.u64 (tm 3))), (wB 5 (doCall 62 [(tm 4)])), (wB 6 (doShift shlF (O.c (V.i IntKind.u64 (Int.ofNat 1))) (tm 5))), (wB 2 (doMove (tm 6)))]) CC.ret)
noncomputable abbrev b86 : CC := (CC.seq (CC.region [(wB 2 (doMove (O.c (V.i IntKind.u64 (Int.ofNat 0)))))]) s86_0)
theorem c86 : compFn Try.prog 86 = ⟨7, b86, [(Rs.tmp (slOf 2))]⟩ := by kernel_rfl
noncomputable abbrev s62_0 : CC := (CC.seq (CC.region [(wB 3 (doMove (tm 0))), (wB 4 (doConv IntKind.u32 (tm 3))), (wB 5 (doCall 79 [(tm 4)])), (wB 2 (doMove (tm 5)))]) CC.ret)
noncomputable abbrev s62_1 : CC := (CC.cond (O.c (V.b Bool.false)) s62_0 CC.skip)
noncomputable abbrev s62_2 : CC := (CC.seq (CC.region [(wB 6 (doMove (tm 0))), (wB 7 (doCall 80 [(tm 6)])), (wB 2 (doMove (tm 7)))]) CC.ret)
noncomputable abbrev s62_3 : CC := (CC.seq s62_1 s62_2)
noncomputable abbrev b62 : CC := (CC.seq (CC.region [(wB 2 (doMove (oN 0)))]) s62_3)
theorem c62 : compFn Try.prog 62 = ⟨8, b62, [(Rs.tmp (slOf 2))]⟩ := by kernel_rfl
noncomputable abbrev s80_0 : CC := (CC.seq (CC.region [(wB 5 (doMove (tm 0))), (wB 6 (doShift shrF (tm 5) (O.c (V.i IntKind.u64 (Int.ofNat 32))))), (wB 0 (doMove (tm 6)))]) (CC.region [(wB 2 (doMove (oN 32)))]))
noncomputable abbrev s80_1 : CC := (CC.cond (tm 4) s80_0 CC.skip)
noncomputable abbrev s80_2 : CC := (CC.seq (CC.region [(wB 3 (doMove (tm 0))), (wB 4 (bin2 fGeq (tm 3) (O.c (V.i IntKind.u64 (Int.ofNat 4294967296)))))]) s80_1)
noncomputable abbrev s80_3 : CC := (CC.region [(wB 11 (doMove (tm 2))), (wB 12 (bin2 fAdd (tm 11) (oN 16))), (wB 2 (doMove (tm 12)))])
noncomputable abbrev s80_4 : CC := (CC.seq (CC.region [(wB 9 (doMove (tm 0))), (wB 10 (doShift shrF (tm 9) (O.c (V.i IntKind.u64 (Int.ofNat 16))))), (wB 0 (doMove (tm 10)))]) s80_3)
noncomputable abbrev s80_5 : CC := (CC.cond (tm 8) s80_4 CC.skip)
noncomputable abbrev s80_6 : CC := (CC.seq (CC.region [(wB 7 (doMove (tm 0))), (wB 8 (bin2 fGeq (tm 7) (O.c (V.i IntKind.u64 (Int.ofNat 65536)))))]) s80_5)
noncomputable abbrev s80_7 : CC := (CC.region [(wB 17 (doMove (tm 2))), (wB 18 (bin2 fAdd (tm 17) (oN 8))), (wB 2 (doMove (tm 18)))])
noncomputable abbrev s80_8 : CC := (CC.seq (CC.region [(wB 15 (doMove (tm 0))), (wB 16 (doShift shrF (tm 15) (O.c (V.i IntKind.u64 (Int.ofNat 8))))), (wB 0 (doMove (tm 16)))]) s80_7)
noncomputable abbrev s80_9 : CC := (CC.cond (tm 14) s80_8 CC.skip)
noncomputable abbrev s80_10 : CC := (CC.seq (CC.region [(wB 13 (doMove (tm 0))), (wB 14 (bin2 fGeq (tm 13) (O.c (V.i IntKind.u64 (Int.ofNat 256)))))]) s80_9)
noncomputable abbrev s80_11 : CC := (CC.seq (CC.region [(wB 19 (doMove (tm 2))), (wB 20 (doMove (tm 0))), (wB 21 (doConv IntKind.u8 (tm 20))), (wB 22 (doSIndex (O.c (V.s 256 496986003408712215933005303621146343841837811690876167382323004466384420695090407243345123874780946046625255262057845613767806773758184921447759720770971536008171983842311960805720366577116933250839345203839274948261284255908394484732272583221484877694546905335834403051067785895034095251181560891789708940188598129052595634438001880866652824740680664595948164050600812232986714152902334120417949232733424961741260388658846598210939813666227264727603044226856020347194099943897342244906131705541414413428559898943151040826816076322978570758226444464494629814583418847495712557856038296917933182380796641777551368)) (tm 21))), (wB 23 (doConv IntKind.i64 (tm 22))), (wB 24 (bin2 fAdd (tm 19) (tm 23))), (wB 2 (doMove (tm 24)))]) CC.ret)
noncomputable abbrev s80_12 : CC := (CC.seq s80_10 s80_11)
noncomputable abbrev s80_13 : CC := (CC.seq s80_6 s80_12)
noncomputable abbrev s80_14 : CC := (CC.seq s80_2 s80_13)
noncomputable abbrev b80 : CC := (CC.seq (CC.region [(wB 2 (doMove (oN 0)))]) s80_14)
theorem c80 : compFn Try.prog 80 = ⟨25, b80, [(Rs.tmp (slOf 2))]⟩ := by kernel_rfl
noncomputable abbrev s49_0 : CC := (CC.region [(wB 7 (doMove (tm 0))), (wB 8 (doMove (tm 4))), (wB 9 (doMove (tm 4))), (wB 10 (doConv IntKind.u64 (tm 9))), (wB 11 (doCall 62 [(tm 10)])), (wB 12 (doMove (tm 1))), (wB 13 (doCall 61 [(tm 7), (oN 0), (tm 8), (tm 11), (tm 12)]))])
noncomputable abbrev b49 : CC := (CC.seq (CC.region [(wB 5 (doMove (tm 0))), (wB 6 (doLen (tm 5))), (wB 4 (doMove (tm 6)))]) s49_0)
theorem c49 : compFn Try.prog 49 = ⟨14, b49, []⟩ := by kernel_rfl
noncomputable abbrev s63_0 : CC := (CC.seq (CC.region [(wB 4 (doMove (oN 0)))]) CC.ret)
noncomputable abbrev s63_1 : CC := (CC.cond (tm 12) s63_0 CC.skip)
noncomputable abbrev s63_2 : CC := (CC.seq (CC.region [(wB 12 (doMove (tm 6)))]) s63_1)
noncomputable abbrev s63_3 : CC := (CC.seq (CC.region [(wB 4 (doMove (O.c (V.i IntKind.i64 (Int.negSucc 0)))))]) CC.ret)
noncomputable abbrev s63_4 : CC := (CC.seq s63_2 s63_3)
noncomputable abbrev s63_5 : CC := (CC.cond (tm 11) s63_4 CC.skip)
noncomputable abbrev s63_6 : CC := (CC.seq (CC.region [(wB 11 (doMove (tm 5)))]) s63_5)
noncomputable abbrev s63_7 : CC := (CC.seq (CC.region [(wB 4 (doMove (oN 1)))]) CC.ret)
noncomputable abbrev s63_8 : CC := (CC.cond (tm 13) s63_7 CC.skip)
noncomputable abbrev s63_9 : CC := (CC.seq (CC.region [(wB 13 (doMove (tm 6)))]) s63_8)
noncomputable abbrev s63_10 : CC := (CC.seq (CC.region [(wB 4 (doMove (O.c (V.i IntKind.i64 (Int.negSucc 0)))))]) CC.ret)
noncomputable abbrev s63_11 : CC := (CC.cond (tm 16) s63_10 CC.skip)
noncomputable abbrev s63_12 : CC := (CC.seq (CC.region [(wB 14 (doMove (tm 0))), (wB 15 (doMove (tm 1))), (wB 16 (bin2 fLss (tm 14) (tm 15)))]) s63_11)
noncomputable abbrev s63_13 : CC := (CC.seq (CC.region [(wB 4 (doMove (oN 1)))]) CC.ret)
noncomputable abbrev s63_14 : CC := (CC.cond (tm 19) s63_13 CC.skip)
noncomputable abbrev s63_15 : CC := (CC.seq (CC.region [(wB 17 (doMove (tm 0))), (wB 18 (doMove (tm 1))), (wB 19 (bin2 fGtr (tm 17) (tm 18)))]) s63_14)
noncomputable abbrev s63_16 : CC := (CC.seq (CC.region [(wB 4 (doMove (oN 0)))]) CC.ret)
noncomputable abbrev s63_17 : CC := (CC.seq s63_15 s63_16)
noncomputable abbrev s63_18 : CC := (CC.seq s63_12 s63_17)
noncomputable abbrev s63_19 : CC := (CC.seq s63_9 s63_18)
noncomputable abbrev s63_20 : CC := (CC.seq s63_6 s63_19)
noncomputable abbrev s63_21 : CC := (CC.seq (CC.region [(wB 9 (doMove (tm 1))), (wB 10 (doCall 81 [(tm 9)])), (wB 6 (doMove (tm 10)))]) s63_20)
noncomputable abbrev s63_22 : CC := (CC.seq (CC.region [(wB 7 (doMove (tm 0))), (wB 8 (doCall 81 [(tm 7)])), (wB 5 (doMove (tm 8)))]) s63_21)
noncomputable abbrev b63 : CC := (CC.seq (CC.region [(wB 4 (doMove (oN 0)))]) s63_22)
theorem c63 : compFn Try.prog 63 = ⟨20, b63, [(Rs.tmp (slOf 4))]⟩ := by kernel_rfl
noncomputable abbrev s81_0 : CC := (CC.seq (CC.region [(wB 3 (doMove (tm 0))), (wB 4 (doMove (tm 0))), (wB 5 (bin2 fNeq (tm 3) (tm 4))), (wB 2 (doMove (tm 5)))]) CC.ret)
noncomputable abbrev b81 : CC := (CC.seq (CC.region [(wB 2 (doMove (O.c (V.b Bool.false))))]) s81_0)
theorem c81 : compFn Try.prog 81 = ⟨6, b81, [(Rs.tmp (slOf 2))]⟩ := by kernel_rfl
noncomputable abbrev s64_0 : CC := (CC.seq (CC.region [(wB 5 (doMove (tm 0))), (wB 6 (doMove (tm 1))), (wB 7 (doCall 82 [(tm 5), (tm 6)])), (wB 4 (doMove (tm 7)))]) CC.ret)
noncomputable abbrev b64 : CC := (CC.seq (CC.region [(wB 4 (doMove (oN 0)))]) s64_0)
theorem c64 : compFn Try.prog 64 = ⟨8, b64, [(Rs.tmp (slOf 4))]⟩ := by kernel_rfl
noncomputable abbrev s82_0 : CC := (CC.seq (CC.region [(wB 5 (doMove (tm 0))), (wB 6 (doMove (tm 1))), (wB 7 (doCmpS (tm 5) (tm 6))), (wB 4 (doMove (tm 7)))]) CC.ret)
noncomputable abbrev b82 : CC := (CC.seq (CC.region [(wB 4 (doMove (oN 0)))]) s82_0)
theorem c82 : compFn Try.prog 82 = ⟨8, b82, [(Rs.tmp (slOf 4))]⟩ := by kernel_rfl
noncomputable abbrev s50_0 : CC := (CC.seq (CC.region [(wB 16 (doFieldAddr 1 (tm 2))), (wB 17 (doLoad (tm 16))), (wB 18 (doFieldAddr 1 (tm 3))), (wB 19 (doLoad (tm 18))), (wB 20 (doCall 63 [(tm 17), (tm 19)])), (wB 4 (doMove (tm 20)))]) CC.ret)
noncomputable abbrev s50_1 : CC := (CC.seq (CC.region [(wB 25 (doFieldAddr 0 (tm 3))), (wB 26 (doLoad (tm 25))), (wB 27 (doFieldAddr 0 (tm 2))), (wB 28 (doLoad (tm 27))), (wB 29 (doCall 63 [(tm 26), (tm 28)])), (wB 4 (doMove (tm 29)))]) CC.ret)
noncomputable abbrev s50_2 : CC := (CC.seq (CC.region [(wB 5 (doFieldAddr 2 (tm 2))), (wB 6 (doLoad (tm 5))), (wB 7 (doFieldAddr 2 (tm 3))), (wB 8 (doLoad (tm 7))), (wB 9 (doCall 64 [(tm 6), (tm 8)])), (wB 4 (doMove (tm 9)))]) CC.ret)
noncomputable abbrev s50_3 : CC := (CC.cond (tm 21) s50_1 s50_2)
noncomputable abbrev s50_4 : CC := (CC.seq (CC.region [(wB 22 (doFieldAddr 1 (tm 2))), (wB 23 (doLoad (tm 22))), (wB 24 (bin2 fEql (tm 23) (oN 0))), (wB 21 (doMove (tm 24)))]) s50_3)
noncomputable abbrev s50_5 : CC := (CC.cond (tm 10) s50_0 s50_4)
noncomputable abbrev s50_6 : CC := (CC.seq (CC.region [(wB 11 (doFieldAddr 1 (tm 2))), (wB 12 (doLoad (tm 11))), (wB 13 (doFieldAddr 1 (tm 3))), (wB 14 (doLoad (tm 13))), (wB 15 (bin2 fNeq (tm 12) (tm 14))), (wB 10 (doMove (tm 15)))]) s50_5)
noncomputable abbrev s50_7 : CC := (CC.block 0 s50_6)
noncomputable abbrev b50 : CC := (CC.seq (CC.region [(wB 2 (doBox 32 (tm 0))), (wB 3 (doBox 32 (tm 1))), (wB 4 (doMove (oN 0)))]) s50_7)
theorem c50 : compFn Try.prog 50 = ⟨30, b50, [(Rs.tmp (slOf 4))]⟩ := by kernel_rfl
end Go.Proofs.Ytclpemggclmgeaa

set_option linter.all false
namespace Go.Ev
open Go
def swN (p : Nat → Nat) (a b : Nat) : Nat → Nat := fun k => if k = b then p a else if k = a then p b else p k
inductive Swp (a b : Nat) : (Nat → Nat) → (Nat → Nat) → Prop
 | refl (p : Nat → Nat) : Swp a b p p
 | swap {p q : Nat → Nat} (i j : Nat) : Swp a b p q → a ≤ i → i < b → a ≤ j → j < b → Swp a b p (swN q i j)
section
variable {R : Nat → Nat → Bool} {p q r : Nat → Nat} {a b c d i j k m n x y : Nat}
theorem sw_l : swN p a b b = p a := if_pos rfl
theorem sw_r : swN p a b a = p b := by unfold swN; split <;> simp_all
theorem sw_o (h1 : x ≠ a) (h2 : x ≠ b) : swN p a b x = p x := by unfold swN; rw [if_neg h2, if_neg h1]
theorem Swp.trans (h1 : Swp a b p q) (h2 : Swp a b q r) : Swp a b p r := by
 induction h2 with
 | refl => exact h1
 | swap i j _ h3 h4 h5 h6 ih => exact .swap i j ih h3 h4 h5 h6
theorem Swp.wide (h : Swp a b p q) (ha : c ≤ a) (hb : b ≤ d) : Swp c d p q := by
 induction h with
 | refl => exact .refl _
 | swap i j _ h3 h4 h5 h6 ih => exact .swap i j ih (by omega) (by omega) (by omega) (by omega)
theorem Swp.one (h1 : a ≤ i) (h2 : i < b) (h3 : a ≤ j) (h4 : j < b) : Swp a b p (swN p i j) := .swap i j (.refl _) h1 h2 h3 h4
theorem Swp.out (h : Swp a b p q) : k < a ∨ b ≤ k → q k = p k := by
 intro hk
 induction h with
 | refl => rfl
 | swap i j _ h3 h4 h5 h6 ih => rw [sw_o (by omega) (by omega)]; exact ih
theorem Swp.all {P : Nat → Prop} (h : Swp a b p q) (h1 : ∀ k, a ≤ k → k < b → P (p k)) : ∀ k, a ≤ k → k < b → P (q k) := by
 induction h with
 | refl => exact h1
 | swap i j _ h3 h4 h5 h6 ih =>
   intro k k1 k2
   unfold swN
   split
   · exact ih i h3 h4
   · split
     · exact ih j h5 h6
     · exact ih k k1 k2
def rwN {α : Type} [Inhabited α] (L : List α) (p : Nat → Nat) (n : Nat) : List α := (List.range n).map fun i => L.getD (p i) default
section
variable {α : Type} [Inhabited α] {L : List α}
theorem rwN_len : (rwN L p n).length = n := by simp [rwN]
theorem rwN_getD (h : x < n) : (rwN L p n).getD x default = L.getD (p x) default := by simp [rwN, List.getD, h]
theorem rwN_set : ((rwN L p n).set a (L.getD (p b) default)).set b (L.getD (p a) default) = rwN L (swN p a b) n := by
 refine List.ext_getElem (by simp [rwN]) fun i h1 h2 => ?_
 simp only [rwN, List.getElem_set, List.getElem_map, List.getElem_range, swN]
 by_cases e : b = i
 · subst e; simp
 · rw [if_neg e, if_neg (Ne.symm e)]
   by_cases e2 : a = i
   · subst e2; simp
   · rw [if_neg e2, if_neg (Ne.symm e2)]
theorem rwN_id : rwN L (fun i => i) L.length = L := by
 refine List.ext_getElem (by simp [rwN]) fun i h1 h2 => ?_
 simp [rwN, List.getD, h2]
theorem set_swp : ∀ {l : List α} {i j : Nat}, i < l.length → j < l.length → ((l.set i (l.getD j default)).set j (l.getD i default)).Perm l := by
 intro l i j hi hj
 have e := @List.set_set_perm α l i j hi hj
 have g1 : l.getD j default = l[j] := by simp [List.getD, hj]
 have g2 : l.getD i default = l[i] := by simp [List.getD, hi]
 rw [g1, g2]; exact e
theorem Swp.perm (h : Swp a b p q) (hb : b ≤ n) : (rwN L q n).Perm (rwN L p n) := by
 induction h with
 | refl => exact List.Perm.refl _
 | swap i j _ h3 h4 h5 h6 ih =>
   rw [← rwN_set]
   refine List.Perm.trans ?_ ih
   rename_i q _
   have := set_swp (l := rwN L q n) (i := i) (j := j) (by rw [rwN_len]; omega) (by rw [rwN_len]; omega)
   rw [rwN_getD (by omega), rwN_getD (by omega)] at this
   exact this
end
structure Ord (R : Nat → Nat → Bool) : Prop where
 asym : ∀ {x y}, R x y = true → R y x = false
 nt : ∀ {x y z}, R x y = false → R y z = false → R x z = false
theorem Ord.irr (o : Ord R) : R x x = false := by
 cases h : R x x with
 | false => rfl
 | true => rw [← h]; exact o.asym h
def Srt (R : Nat → Nat → Bool) (p : Nat → Nat) (a b : Nat) : Prop := ∀ i j, a ≤ i → i < j → j < b → R (p j) (p i) = false
def Low (R : Nat → Nat → Bool) (p : Nat → Nat) (a b : Nat) : Prop := ∀ i j, i < a → a ≤ j → j < b → R (p j) (p i) = false
theorem Low.sw (h : Low R p a b) (s : Swp a b p q) : Low R q a b := fun i j h1 h2 h3 => by
 rw [s.out (.inl h1)]
 exact s.all (P := fun x => R x (p i) = false) (fun k k1 k2 => h i k h1 k1 k2) j h2 h3
theorem srt_out (h : Srt R p a b) (h1 : ∀ k, a ≤ k → k < b → q k = p k) : Srt R q a b := fun i j hi hij hj => by
 rw [h1 i hi (by omega), h1 j (by omega) hj]; exact h i j hi hij hj
def MidN (R : Nat → Nat → Bool) (p : Nat → Nat) (a i j : Nat) : Prop := (∀ x y, a ≤ x → x < y → y ≤ i → x ≠ j → y ≠ j → R (p y) (p x) = false) ∧ ∀ y, j < y → y ≤ i → R (p y) (p j) = false
theorem mid_new (h : Srt R p a i) : MidN R p a i i := ⟨fun x y h1 h2 h3 h4 h5 => h x y h1 h2 (by omega), fun y h1 h2 => by omega⟩
theorem mid_swp (o : Ord R) (M : MidN R p a i (n + 1)) (h0 : a ≤ n) (hj : n + 1 ≤ i) (hlt : R (p (n + 1)) (p n) = true) : MidN R (swN p (n + 1) n) a i n := by
 have hlt := o.asym hlt
 constructor
 · intro x y hx hxy hy hx1 hy1
   by_cases e1 : y = n + 1
   · rw [e1, sw_r, sw_o (by omega) hx1]
     exact M.1 x n hx (by omega) (by omega) (by omega) (by omega)
   · rw [sw_o e1 hy1]
     by_cases e2 : x = n + 1
     · rw [e2, sw_r]; exact M.1 n y h0 (by omega) hy (by omega) e1
     · rw [sw_o e2 hx1]; exact M.1 x y hx hxy hy e2 e1
 · intro y h1 h2
   rw [sw_l]
   by_cases e : y = n + 1
   · rw [e, sw_r]; exact hlt
   · rw [sw_o e (by omega)]; exact M.2 y (by omega) h2
theorem mid_done (o : Ord R) (M : MidN R p a i j) (hj : j ≤ i) (h : j = a ∨ R (p j) (p (j - 1)) = false) (ha : a ≤ j) : Srt R p a (i + 1) := by
 intro x y hx hxy hy
 by_cases e1 : x = j
 · rw [e1]; exact M.2 y (by omega) (by omega)
 · by_cases e2 : y = j
   · rw [e2] at hxy ⊢
     have h := h.resolve_left (by omega)
     by_cases e3 : x = j - 1
     · rw [e3]; exact h
     · exact o.nt h (M.1 x (j - 1) hx (by omega) (by omega) e1 (by omega))
   · exact M.1 x y hx hxy (by omega) e1 e2
def Hea (R : Nat → Nat → Bool) (p : Nat → Nat) (a lo hi : Nat) : Prop := ∀ k c, lo ≤ k → (c = 2 * k + 1 ∨ c = 2 * k + 2) → c < hi → R (p (a + k)) (p (a + c)) = false
def HeaX (R : Nat → Nat → Bool) (p : Nat → Nat) (a lo hi root : Nat) : Prop :=
 (∀ k c, lo ≤ k → k ≠ root → (c = 2 * k + 1 ∨ c = 2 * k + 2) → c < hi → R (p (a + k)) (p (a + c)) = false) ∧
 ∀ k c, lo ≤ k → (root = 2 * k + 1 ∨ root = 2 * k + 2) → (c = 2 * root + 1 ∨ c = 2 * root + 2) → c < hi → R (p (a + k)) (p (a + c)) = false
theorem hea_new {lo hi : Nat} (h : Hea R p a (lo + 1) hi) : HeaX R p a lo hi lo := ⟨fun k c h1 h2 h3 h4 => h k c (by omega) h3 h4, fun k c h1 h2 => by omega⟩
theorem hea_step {lo hi root ch : Nat} (o : Ord R) (h : HeaX R p a lo hi root) (hl : lo ≤ root) (hc : ch = 2 * root + 1 ∨ ch = 2 * root + 2) (hch : ch < hi) (hmax : ∀ c, (c = 2 * root + 1 ∨ c = 2 * root + 2) → c < hi → R (p (a + ch)) (p (a + c)) = false) (hlt : R (p (a + root)) (p (a + ch)) = true) : HeaX R (swN p (a + root) (a + ch)) a lo hi ch := by
 have hlt := o.asym hlt
 constructor
 · intro k c h1 h2 h3 h4
   by_cases e1 : k = root
   · rw [e1, sw_r]
     by_cases e2 : c = ch
     · rw [e2, sw_l]; exact hlt
     · rw [sw_o (by omega) (by omega)]; exact hmax c (by omega) h4
   · rw [show swN p (a + root) (a + ch) (a + k) = p (a + k) from sw_o (by omega) (by omega)]
     by_cases e2 : c = root
     · rw [e2, sw_r]; exact h.2 k ch h1 (by omega) hc hch
     · rw [sw_o (by omega) (by omega)]; exact h.1 k c h1 e1 h3 h4
 · intro k c h1 h2 h3 h4
   obtain rfl : k = root := by omega
   rw [sw_r, sw_o (by omega) (by omega)]
   exact h.1 ch c (by omega) (by omega) h3 h4
theorem hea_done {lo hi root : Nat} (h : HeaX R p a lo hi root) (h1 : ∀ c, (c = 2 * root + 1 ∨ c = 2 * root + 2) → c < hi → R (p (a + root)) (p (a + c)) = false) : Hea R p a lo hi := fun k c k1 k2 k3 => by
 by_cases e : k = root
 · subst e; exact h1 c k2 k3
 · exact h.1 k c k1 e k2 k3
theorem hea_max {hi : Nat} (o : Ord R) (h : Hea R p a 0 hi) : ∀ k, k < hi → R (p a) (p (a + k)) = false := by
 intro k
 induction k using Nat.strongRecOn with
 | _ k ih =>
   intro hk
   by_cases e : k = 0
   · subst e; exact o.irr
   · exact o.nt (ih ((k - 1) / 2) (by omega) (by omega)) (h ((k - 1) / 2) k (Nat.zero_le _) (by omega) hk)
theorem hea_end {lo hi : Nat} (h : hi ≤ 2 * lo + 1) : Hea R p a lo hi := fun k c h1 h2 h3 => by omega
def Fin (R : Nat → Nat → Bool) (p : Nat → Nat) (a0 b0 a b : Nat) : Prop := ∀ q, Swp a b p q → Srt R q a b → Srt R q a0 b0
theorem fin_sw {a0 b0 : Nat} (h : Fin R p a0 b0 a b) (s : Swp a b p q) : Fin R q a0 b0 a b := fun r s2 => h r (s.trans s2)
theorem fin_eq {a0 b0 e : Nat} (o : Ord R) (h : Fin R p a0 b0 a b) (hm : a ≤ m) (hb : m ≤ b) (h0 : ∀ k, a ≤ k → k < b → R (p k) e = false) (h1 : ∀ k, a ≤ k → k < m → R e (p k) = false) : Fin R p a0 b0 m b := fun q s hs => by
 refine h q (s.wide hm (Nat.le_refl _)) fun i j i1 i2 i3 => ?_
 by_cases d1 : m ≤ i
 · exact hs i j d1 i2 i3
 · rw [s.out (.inl (by omega : i < m))]
   have : R (q j) e = false := (s.wide hm (Nat.le_refl _)).all (P := fun x => R x e = false) h0 j (by omega) i3
   exact o.nt this (h1 i i1 (by omega))
theorem low_eq {e : Nat} (o : Ord R) (h : Low R p a b) (hm : a ≤ m) (h1 : ∀ k, a ≤ k → k < m → R e (p k) = false) (h2 : ∀ k, m ≤ k → k < b → R e (p k) = true) : Low R p m b := fun i j i1 i2 i3 => by
 by_cases d : i < a
 · exact h i j d (by omega) i3
 · exact o.nt (o.asym (h2 j i2 i3)) (h1 i (by omega) i1)
structure Par (R : Nat → Nat → Bool) (p : Nat → Nat) (a b m : Nat) : Prop where
 am : a ≤ m
 mb : m < b
 lt : ∀ k, a ≤ k → k < m → R (p k) (p m) = true
 ge : ∀ k, m < k → k < b → R (p k) (p m) = false
theorem par_srt (o : Ord R) (P : Par R p a b m) (h1 : Srt R p a m) (h2 : Srt R p (m + 1) b) : Srt R p a b := fun i j i1 i2 i3 => by
 by_cases d1 : j < m
 · exact h1 i j i1 i2 d1
 · by_cases d2 : j = m
   · subst d2; exact o.asym (P.lt i i1 i2)
   · by_cases d3 : m < i
     · exact h2 i j d3 i2 i3
     · by_cases d4 : i = m
       · subst d4; exact P.ge j (by omega) i3
       · exact o.nt (P.ge j (by omega) i3) (o.asym (P.lt i i1 (by omega)))
theorem Par.left (P : Par R p a b m) (s : Swp a m p q) : Par R q a b m := ⟨P.am, P.mb, fun k k1 k2 => by
 rw [s.out (.inr (Nat.le_refl _))]; exact s.all (P := fun x => R x (p m) = true) (fun k k1 k2 => P.lt k k1 k2) k k1 k2, fun k k1 k2 => by
 rw [s.out (.inr (Nat.le_refl _)), s.out (.inr (by omega))]; exact P.ge k k1 k2⟩
theorem Par.right (P : Par R p a b m) (s : Swp (m + 1) b p q) : Par R q a b m := ⟨P.am, P.mb, fun k k1 k2 => by
 rw [s.out (.inl (by omega)), s.out (.inl (by omega))]; exact P.lt k k1 k2, fun k k1 k2 => by
 rw [show q m = p m from s.out (.inl (by omega))]; exact s.all (P := fun x => R x (p m) = false) (fun k k1 k2 => P.ge k (by omega) k2) k (by omega) k2⟩
theorem low_left (h : Low R p a b) (hm : m ≤ b) : Low R p a m := fun i j i1 i2 i3 => h i j i1 i2 (by omega)
theorem low_right (o : Ord R) (h : Low R p a b) (P : Par R p a b m) : Low R p (m + 1) b := fun i j i1 i2 i3 => by
 by_cases d1 : i < a
 · exact h i j d1 (by have := P.am; omega) i3
 · by_cases d2 : i = m
   · subst d2; exact P.ge j (by omega) i3
   · exact o.nt (P.ge j (by omega) i3) (o.asym (P.lt i (by omega) (by omega)))
theorem fin_right {a0 b0 : Nat} (o : Ord R) (h : Fin R p a0 b0 a b) (P : Par R p a b m) (hs : Srt R p a m) : Fin R p a0 b0 (m + 1) b := fun q s h2 => by
 have := P.am; have := P.mb
 exact h q (s.wide (by omega) (Nat.le_refl _)) (par_srt o (P.right s) (srt_out hs fun k k1 k2 => s.out (.inl (by omega))) h2)
theorem fin_left {a0 b0 : Nat} (o : Ord R) (h : Fin R p a0 b0 a b) (P : Par R p a b m) (hs : Srt R p (m + 1) b) : Fin R p a0 b0 a m := fun q s h2 => by
 have := P.am; have := P.mb
 exact h q (s.wide (Nat.le_refl _) (by omega)) (par_srt o (P.left s) h2 (srt_out hs fun k k1 k2 => s.out (.inr (by omega))))
end
end Go.Ev

set_option linter.all false
namespace Go.Ev
open Go
section
variable {P : Program} {h : H} {N : Nx} {id : B} {el size cnt len c : Nat} {x : V} {xs vs : List V}
theorem AP.e1 {g off fin : Nat} (hx : ∀ k : Nat → List V → Bool, newCells size x h k = k cnt vs) (hf : B.val h.floor ≤ B.val h.next) (hn : vs.length = cnt * size) (hl : cnt ≤ 1048576) (hl2 : vs.length < 2 ^ 38)
   (k0 : cnt = 0 → N.go P (.l id g off 0 fin (some 0)) h)
   (k : ∀ h', 1 ≤ cnt → Stay nowhere h h' → B.val h'.next = B.val h.next + 1 → Buf h' el size (.l h.next 0 0 cnt vs.length none) vs → Top h' (.l h.next 0 0 cnt vs.length none) → N.go P (.l h.next 0 0 cnt vs.length none) h') : AP P el size (.l id g off 0 fin (some 0)) x h N := by
 cases cnt with
 | zero =>
   have hv : vs = [] := List.eq_nil_of_length_eq_zero (by rw [hn, Nat.zero_mul])
   subst hv
   exact hm_of (v := .l id g off 0 fin (some 0)) (h' := h) (fun q => by rw [hx]; rfl) (k0 rfl)
 | succ m =>
 obtain ⟨h', a1, a2, a3, blk, b1, b2, b3, b4, b5, b6, b7⟩ := alloc_new el vs h hl2
 have hble : Nat.ble (Nat.add 0 (m + 1)) 1048576 = true := by rw [Nat.ble_eq]; show 0 + (m + 1) ≤ _; omega
 have hno : Nat.ble (Nat.add 0 (m + 1)) 0 = false := by
   cases hx : Nat.ble (Nat.add 0 (m + 1)) 0 with
   | false => rfl
   | true => have := Nat.le_of_ble_eq_true hx; have h2 : 0 + (m + 1) ≤ 0 := this; omega
 refine hm_of (v := .l h.next 0 0 (m + 1) vs.length none) (h' := h') (fun q => ?_) (k h' (by omega) a2 a3 (.inr ⟨h.next, 0, m + 1, blk, rfl, by omega, hn, by rw [a2.floor]; exact hf, by omega, b1, ⟨by omega, by omega⟩, b4, b5, b6, b7⟩) ?_)
 · rw [hx]
   show boolK (flagB 0) (fun _ => appGrow (selB (Nat.ble 1 0) (Nat.beq 0 (Nat.add 18446744073709551615 size))) el id g off 0 fin size (m + 1) vs h q) (fun _ => boolK (Nat.ble (Nat.add 0 (m + 1)) 0) (fun _ => appIn id g off 0 fin 0 size (m + 1) vs h q) fun _ => appOut el id g off 0 fin size (m + 1) vs h q) = _
   rw [flagB_of (by omega), boolK_false, hno, boolK_false]
   unfold appOut
   rw [hble, ifK_true]
   show alloc el (app [] vs) h (fun id h => fN (Nat.add 0 (m + 1)) fun l' => fN (Nat.mul l' size) fun fin' => q (.l id 0 0 l' fin' none) h) = _
   rw [app_eq, List.nil_append, a1, fN_eq, fN_eq]
   show q (.l h.next 0 0 (0 + (m + 1)) ((0 + (m + 1)) * size) none) h' = _
   rw [Nat.zero_add, ← hn]
 · intro id' g off n fin cap e
   cases e
   exact ⟨blk, b1, b3⟩
end
end Go.Ev

set_option maxRecDepth 100000
set_option maxHeartbeats 8000000
set_option linter.all false
namespace Go.Ev
open Go
def GrI (h : H) (el n : Nat) (v : V) (m : Nat) (xs : List V) : Prop := ∃ id g cap blk, v = .l id g 0 m (m * n) cap ∧ xs.length = m * n ∧ ((1 ≤ m ∧ cap = none) ∨ (m = 0 ∧ cap = some (18446744073709551615 + n))) ∧
 B.val h.floor ≤ B.val id ∧ B.val id < B.val h.next ∧ h.heap.get id = some blk ∧ blk.min ≤ g ∧ blk.cur = g ∧ m * n ≤ blk.size ∧ blk.el = el ∧ blk.fr = 0 ∧ ∀ i y, xs[i]? = some y → blk.cells.getN i = some y
def Gr {α : Type} (el n : Nat) (c : α → List V) (h : H) (v : V) (L : List α) : Prop :=
 (v = .l0 ∧ L = []) ∨ (∃ id g off fin, v = .l id g off 0 fin (some 0) ∧ L = [] ∧ off ≤ fin ∧ B.val id < B.val h.next) ∨ GrI h el n v L.length (L.flatMap c)
section
variable {P : Program} {α : Type} [Inhabited α] {n el : Nat} {c : α → List V} {h h' : H} {N : Nx} {v x : V} {L X : List α} {j k cnt : Nat} {vs : List V}
theorem Gr.nil : Gr el n c h .l0 ([] : List α) := .inl ⟨rfl, rfl⟩
theorem Gr.lit0 {id : B} {g off fin : Nat} (h1 : off ≤ fin) (h2 : B.val id < B.val h.next) : Gr el n c h (.l id g off 0 fin (some 0)) ([] : List α) := .inr (.inl ⟨_, _, _, _, rfl, rfl, h1, h2⟩)
theorem Gr.buf (b : Buf h el n v (L.flatMap c)) (tp : Top h v) (hc : ∀ e, (c e).length = n) (hn : 1 ≤ n) : Gr el n c h v L := by
 rcases b with ⟨rfl, e⟩ | ⟨id, g, m, blk, rfl, b1, b2, b3, b4, b5, b6, b7, b8, b9, b10⟩
 · refine .inl ⟨rfl, ?_⟩
   cases L with
   | nil => rfl
   | cons a L => have := fm_len hc (a :: L); rw [e] at this; have h3 : (L.length + 1) * n = 0 := this.symm; rw [Nat.add_mul] at h3; omega
 · obtain ⟨blk', b5', hcur⟩ := tp id g 0 m _ none rfl
   have hbb : blk' = blk := by rw [b5] at b5'; exact (Option.some.inj b5').symm
   subst hbb
   have hm : m = L.length := by
     rw [fm_len hc] at b2
     exact (Nat.eq_of_mul_eq_mul_right (by omega) b2).symm
   subst hm
   exact .inr (.inr ⟨id, g, none, blk', by rw [b2], b2, .inl ⟨b1, rfl⟩, b3, b4, b5, b6.1, hcur, by omega, b8, b9, b10⟩)
theorem Gr.ss (a : Gr el n c h v L) : Ss n c h v L := by
 rcases a with ⟨rfl, rfl⟩ | ⟨id, g, off, fin, rfl, rfl, h1, h2⟩ | ⟨id, g, cap, blk, rfl, a1, a2, a3, a4, a5, a6, a7, a8, a9, a10, a11⟩
 · exact .inl ⟨rfl, rfl⟩
 · exact .inr ⟨id, g, off, fin, _, rfl, by simpa using h1, h2, fun e => absurd rfl e, fun i y hy => by simp at hy⟩
 · refine .inr ⟨id, g, 0, _, cap, rfl, by omega, a4, fun _ => ⟨blk, a5, a6⟩, fun i y hy => ?_⟩
   unfold Ev.cell cellB
   rw [a5]
   show (if blk.min ≤ g then blk.cells.getN (0 + i) else none) = _
   rw [if_pos a6, Nat.zero_add]
   exact a11 i y hy
theorem Gr.lt (a : Gr el n c h v L) : ∀ q, isOf v q → B.val q < B.val h.next := by
 rcases a with ⟨rfl, rfl⟩ | ⟨id, g, off, fin, rfl, rfl, h1, h2⟩ | ⟨id, g, cap, blk, rfl, a1, a2, a3, a4, _⟩
 · rintro q ⟨_, _, _, _, _, e⟩; cases e
 · rintro q ⟨_, _, _, _, _, e⟩; cases e; exact h2
 · rintro q ⟨_, _, _, _, _, e⟩; cases e; exact a4
theorem Gr.stay {p : B → Prop} (a : Gr el n c h v L) (s : Stay p h h') (hp : ∀ q, isOf v q → ¬ p q) : Gr el n c h' v L := by
 rcases a with ⟨rfl, rfl⟩ | ⟨id, g, off, fin, rfl, rfl, h1, h2⟩ | ⟨id, g, cap, blk, rfl, a1, a2, a3, a4, a5, a6⟩
 · exact .inl ⟨rfl, rfl⟩
 · exact .inr (.inl ⟨id, g, off, fin, rfl, rfl, h1, Nat.lt_of_lt_of_le h2 s.next⟩)
 · exact .inr (.inr ⟨id, g, cap, blk, rfl, a1, a2, by rw [s.floor]; exact a3, Nat.lt_of_lt_of_le a4 s.next, (s.get id a4 (hp id ⟨_, _, _, _, _, rfl⟩)).trans a5, a6⟩)
theorem Gr.grow (a : Gr el n c h v L) (s : Stay nowhere h h') : Gr el n c h' v L := a.stay s fun _ _ e => e
theorem store_blk {id : B} {g off fin : Nat} {blk : Blk} (h0 : h.heap.get id = some blk) (h1 : blk.cur = g) (h2 : blk.min ≤ g) (h3 : blk.fr = 0) (h4 : B.val h.floor ≤ B.val id) (hj : off + vs.length ≤ fin) (hfit : off + vs.length < 2 ^ 37) (ho : allOne vs = true) :
   ∃ h' tr, (∀ k, store h id g off fin vs k = k h') ∧ h'.heap.get id = some ⟨g, g, blk.size, tr, blk.el, 0⟩ ∧ (∀ i y, vs[i]? = some y → tr.getN (off + i) = some y) ∧ (∀ i, i < off ∨ off + vs.length ≤ i → tr.getN i = blk.cells.getN i) ∧ Stay (fun q => q = id) h h' ∧ h'.next = h.next := by
 obtain ⟨next, floor, heap⟩ := h
 obtain ⟨cur, min, sz, cells, bel, fr⟩ := blk
 simp only at h1 h2 h3 h4
 subst h1; subst h3
 obtain ⟨tr, t1, t2, t3⟩ := setList_fine vs off cells (by omega)
 obtain ⟨hp, s1, s2, s3⟩ := setK_ok id (⟨cur, cur, sz, tr, bel, 0⟩ : Blk) heap
 have e1 : B.geB floor id = true := by cases floor <;> first | rfl | (show Nat.ble _ _ = true; rw [Nat.ble_eq]; exact h4)
 have e2 : Nat.ble (Nat.add off vs.length) fin = true := by rw [Nat.ble_eq]; exact hj
 have e4 : frOk 0 off = true := rfl
 have e5 : Nat.beq cur cur = true := Nat.beq_refl cur
 have e6 : Nat.ble min cur = true := by rw [Nat.ble_eq]; exact h2
 have h0' : heap.get id = some ⟨cur, min, sz, cells, bel, 0⟩ := h0
 refine ⟨⟨next, floor, hp⟩, tr, fun k => ?_, s2, t2, fun i hi => t3 i hi, ⟨rfl, Nat.le_refl _, fun q _ hq => s3 q hq⟩, rfl⟩
 simp only [store, hK_mk, h0', optK_some, blkK_mk, e5, e6, e1, e2, ho, e4, ifK_true]
 rw [t1, s1]
theorem ST.gr {y : α} (a : Gr el n c h v L) (hc : ∀ e, (c e).length = n) (hn : 1 ≤ n) (hj : j < L.length) (hl : L.length * n < 2 ^ 36) (h1 : allOne (c y) = true)
   (k : ∀ h', Gr el n c h' v (L.set j y) → Stay (isOf v) h h' → N.go P (.tu []) h') : ST P n (.p (lid v) (lg v) (loff v + j * n) (lfin v)) (.a (c y)) h N := by
 rcases a with ⟨rfl, rfl⟩ | ⟨id, g, off, fin, rfl, rfl, _⟩ | ⟨id, g, cap, blk, rfl, a1, a2, a3, a4, a5, a6, a7, a8, a9, a10, a11⟩
 · simp at hj
 · simp at hj
 have hjn : (j + 1) * n ≤ L.length * n := Nat.mul_le_mul_right n hj
 rw [Nat.add_mul] at hjn
 obtain ⟨h', tr, b1, b2, b3, b4, b5, b6⟩ := store_blk (off := j * n) (fin := L.length * n) (vs := c y) a5 a7 a6 a10 a3 (by rw [hc]; omega) (by rw [hc]; omega) h1
 refine hm_of (v := .tu []) (h' := h') (fun k => ?_) (k h' (.inr (.inr ⟨id, g, cap, _, by rw [List.length_set], by rw [fm_len hc, List.length_set], by rw [List.length_set]; exact a2, by rw [b5.floor]; exact a3, by rw [b6]; exact a4, b2, Nat.le_refl _, rfl, by rw [List.length_set]; exact a8, a9, rfl, fun i z hz => ?_⟩)) (b5.mono fun q _ e => by rw [e]; exact ⟨_, _, _, _, _, rfl⟩))
 · show ifK (Nat.beq (c y).length n) (fun _ => store h id g (0 + j * n) (L.length * n) (c y) fun h => k (.tu []) h) = _
   rw [hc, Nat.beq_refl, ifK_true, Nat.zero_add, b1]
 · show tr.getN i = some z
   have hil : i < L.length * n := by
     have h1 := (List.getElem?_eq_some_iff.1 hz).1
     rw [fm_len hc, List.length_set] at h1; exact h1
   have hd : i % n < n := Nat.mod_lt _ hn
   have hi : i = i / n * n + i % n := by rw [Nat.mul_comm]; exact (Nat.div_add_mod i n).symm
   have hq : i / n < L.length := (Nat.div_lt_iff_lt_mul hn).2 hil
   generalize i / n = q at *
   generalize i % n = d at *
   subst hi
   rw [fm_get hc (by rw [List.length_set]; exact hq) hd] at hz
   by_cases e : q = j
   · subst e
     have hdl : d < (c y).length := by rw [hc]; exact hd
     have : (L.set q y).getD q default = y := by simp [List.getD, hq]
     rw [this] at hz
     rw [b3 d ((c y).getD d .u) (by simp [List.getD, hdl]), hz]
   · have : (L.set j y).getD q default = L.getD q default := by
       rw [List.getD_eq_getElem?_getD, List.getElem?_set_ne (fun h => e h.symm), ← List.getD_eq_getElem?_getD]
     rw [this] at hz
     rw [b4]
     · exact a11 _ _ (by rw [fm_get hc hq hd]; exact hz)
     · rw [hc]
       rcases Nat.lt_or_gt_of_ne e with h | h
       · have : (q + 1) * n ≤ j * n := Nat.mul_le_mul_right n h
         rw [Nat.add_mul] at this; omega
       · have : (j + 1) * n ≤ q * n := Nat.mul_le_mul_right n h
         rw [Nat.add_mul] at this; omega
theorem AP.gr (a : Gr el n c h v L) (hc : ∀ e, (c e).length = n) (hn : 1 ≤ n) (hx : ∀ k : Nat → List V → Bool, newCells n x h k = k X.length (X.flatMap c)) (h1 : allOne (X.flatMap c) = true) (hpos : 1 ≤ X.length) (hb : (L.length + X.length) * n ≤ 1048576) (hf : B.val h.floor ≤ B.val h.next)
   (k : ∀ v' h', Gr el n c h' v' (L ++ X) → Stay (isOf v) h h' → (∀ i, isOf v' i → isOf v i ∨ B.val h.next ≤ B.val i) → N.go P v' h') : AP P el n v x h N := by
 have hXl : (X.flatMap c).length = X.length * n := fm_len hc X
 rw [Nat.add_mul] at hb
 have hXle : X.length ≤ X.length * n := Nat.le_mul_of_pos_right _ hn
 have hLle : L.length ≤ L.length * n := Nat.le_mul_of_pos_right _ hn
 rcases a with ⟨rfl, rfl⟩ | ⟨id, g, off, fin, rfl, rfl, h2, h3⟩ | ⟨id, g, cap, blk, rfl, a1, a2, a3, a4, a5, a6, a7, a8, a9, a10, a11⟩
 · refine AP.buf (vs := X.flatMap c) (cnt := X.length) (Buf.nil h el n) hx hf hn hXl h1 (by rw [hXl, List.length_nil]; omega) fun v' h' b s hv tp => k v' h' (Gr.buf (by simpa using b) tp hc hn) s hv
 · refine AP.e1 hx hf hXl (by omega) (by omega) (fun e => by omega) fun h' _ s nx b tp => k _ h' (Gr.buf (by simpa using b) tp hc hn) (s.mono fun _ _ e => e.elim) fun i hi => ?_
   obtain ⟨_, _, _, _, _, e⟩ := hi; cases e; exact .inr (Nat.le_refl _)
 · obtain ⟨next, floor, heap⟩ := h
   obtain ⟨cur, min, sz, cells, bel, fr⟩ := blk
   simp only at a6 a7 a8 a9 a10
   subst a7; subst a10; subst a9
   obtain ⟨tr, t1, t2, t3⟩ := setList_fine (X.flatMap c) (L.length * n) cells (by omega)
   obtain ⟨min', hmin⟩ : ∃ m', selN (Nat.beq (L.length * n) sz) min (Nat.succ cur) = m' := ⟨_, rfl⟩
   have hmin2 : min' ≤ cur + 1 := by
     rw [← hmin]
     cases Nat.beq (L.length * n) sz with
     | true => show min ≤ cur + 1; omega
     | false => exact Nat.le_refl _
   obtain ⟨hp, s1, s2, s3⟩ := setK_ok id (⟨Nat.succ cur, min', Nat.add (L.length * n) (Nat.mul X.length n), tr, bel, 0⟩ : Blk) heap
   have e1 : Nat.ble min cur = true := by rw [Nat.ble_eq]; exact a6
   have e2 : B.geB floor id = true := by cases floor <;> first | rfl | (show Nat.ble _ _ = true; rw [Nat.ble_eq]; exact a3)
   have e3 : Nat.add 0 (Nat.mul L.length n) = L.length * n := by show 0 + L.length * n = _; omega
   have e3' : Nat.ble (L.length * n) sz = true := by rw [Nat.ble_eq]; exact a8
   have e4 : Nat.beq (L.length * n) (L.length * n) = true := Nat.beq_refl _
   have e6 : Nat.ble (Nat.add L.length X.length) 1048576 = true := by rw [Nat.ble_eq]; show L.length + X.length ≤ 1048576; omega
   have e7 : frOk 0 (L.length * n) = true := rfl
   have e8 : Nat.beq bel bel = true := Nat.beq_refl _
   have e9 : capZ n (Nat.add L.length X.length) = none := capZ_pos (by show 1 ≤ L.length + X.length; omega)
   have b5' : heap.get id = some ⟨cur, min, sz, cells, bel, 0⟩ := a5
   have go : ∀ z, z = true → ∀ k, appGrow z bel id cur 0 L.length (L.length * n) n X.length (X.flatMap c) ⟨next, floor, heap⟩ k = k (.l id (Nat.succ cur) 0 (L.length + X.length) (L.length * n + X.length * n) none) ⟨next, floor, hp⟩ := fun z hz k => by
     subst hz
     simp only [appGrow, hK_mk, b5', optK_some, blkK_mk, fN_eq, e3, e1, e2, e3', e4, e6, h1, e7, e8, e9, ifK_true, hmin]
     rw [t1, s1]; rfl
   have go2 : ∀ q, append2 bel n (.l id cur 0 L.length (L.length * n) cap) X.length (X.flatMap c) ⟨next, floor, heap⟩ q = q (.l id (Nat.succ cur) 0 (L.length + X.length) (L.length * n + X.length * n) none) ⟨next, floor, hp⟩ := fun q => by
     rcases a2 with ⟨a2, rfl⟩ | ⟨a2, rfl⟩
     · exact go _ (by rw [Nat.ble_eq]; exact a2) q
     · show boolK (flagB (18446744073709551615 + n)) (fun _ => appGrow (selB (Nat.ble 1 L.length) (Nat.beq (18446744073709551615 + n) (Nat.add 18446744073709551615 n))) bel id cur 0 L.length (L.length * n) n X.length (X.flatMap c) ⟨next, floor, heap⟩ q) _ = _
       have hfl : flagB (18446744073709551615 + n) = true := by show Nat.ble _ _ = true; rw [Nat.ble_eq]; omega
       rw [hfl, boolK_true]
       refine go _ ?_ q
       rw [show Nat.beq (18446744073709551615 + n) (Nat.add 18446744073709551615 n) = true from Nat.beq_refl _]
       cases Nat.ble 1 L.length <;> rfl
   refine hm_of (v := .l id (Nat.succ cur) 0 (L.length + X.length) (L.length * n + X.length * n) none) (h' := ⟨next, floor, hp⟩) (fun q => by rw [hx, go2]) (k _ _ (.inr (.inr ⟨id, cur + 1, none, _, ?_, ?_, .inl ⟨by rw [List.length_append]; omega, rfl⟩, a3, a4, s2, hmin2, rfl, ?_, rfl, rfl, fun i y hy => ?_⟩)) ⟨rfl, Nat.le_refl _, fun q _ hq => s3 q fun e => hq (by rw [e]; exact ⟨_, _, _, _, _, rfl⟩)⟩ fun i hi => ?_)
   · rw [List.length_append, Nat.add_mul]
   · rw [List.flatMap_append, List.length_append, List.length_append, a1, hXl, Nat.add_mul]
   · show (L ++ X).length * n ≤ L.length * n + X.length * n
     rw [List.length_append, Nat.add_mul]; exact Nat.le_refl _
   · show tr.getN i = some y
     rw [List.flatMap_append] at hy
     by_cases hi : i < L.length * n
     · rw [t3 i (.inl hi)]
       refine a11 i y ?_
       rwa [List.getElem?_append_left (by rw [a1]; exact hi)] at hy
     · rw [List.getElem?_append_right (by rw [a1]; omega), a1] at hy
       have := t2 (i - L.length * n) y hy
       rwa [show L.length * n + (i - L.length * n) = i by omega] at this
   · obtain ⟨_, _, _, _, _, e⟩ := hi; cases e; exact .inl ⟨_, _, _, _, _, rfl⟩
theorem Gr.hi (a : Gr el n c h v L) (hc : ∀ e, (c e).length = n) (hk : k ≤ L.length) (hL : 1 ≤ L.length) : ∃ u, Gr el n c h u (L.take k) ∧ (∀ q, isOf u q → isOf v q) ∧ ∀ (g : H) (N : Nx), H2 P (slHiV n) v (.i .i64 (k : Int)) g N = N.go P u g := by
 rcases a with ⟨rfl, rfl⟩ | ⟨id, g, off, fin, rfl, rfl, _⟩ | ⟨id, g, cap, blk, rfl, a1, a2, a3, a4, a5, a6, a7, a8, a9, a10, a11⟩
 · simp at hL
 · simp at hL
 obtain ⟨_, rfl⟩ : 1 ≤ L.length ∧ cap = none := by
   rcases a2 with h | h
   · exact h
   · omega
 have htk : (L.take k).length = k := by rw [List.length_take]; omega
 have hkn : k * n ≤ L.length * n := Nat.mul_le_mul_right n hk
 refine ⟨.l id g 0 k (k * n) (capS n k L.length), .inr (.inr ⟨id, g, capS n k L.length, blk, by rw [htk], by rw [fm_len hc], ?_, a3, a4, a5, a6, a7, by rw [htk]; omega, a9, a10, fun i y hy => a11 i y ?_⟩), ?_, fun g0 N => hv_of fun q => ?_⟩
 · rw [htk]
   cases k with
   | zero =>
     right
     refine ⟨rfl, ?_⟩
     obtain ⟨m, hm⟩ : ∃ m, L.length = m + 1 := ⟨L.length - 1, by omega⟩
     rw [hm]; rfl
   | succ k => left; exact ⟨by omega, rfl⟩
 · rw [fm_take hc, List.getElem?_take] at hy
   split at hy
   · exact hy
   · cases hy
 · rintro q ⟨_, _, _, _, _, e⟩; cases e; exact ⟨_, _, _, _, _, rfl⟩
 · have e0 : Nat.ble 0 k = true := by rw [Nat.ble_eq]; omega
   have e1 : Nat.ble k L.length = true := by rw [Nat.ble_eq]; exact hk
   have e2 : Nat.beq (L.length * n) (Nat.add 0 (Nat.mul L.length n)) = true := by
     rw [show Nat.add 0 (Nat.mul L.length n) = L.length * n by show 0 + L.length * n = _; omega]; exact Nat.beq_refl _
   unfold slHiV
   simp only [vL_l, vI_i, natK_cast, e0, ifK_true]
   show sliceN n id g 0 L.length (L.length * n) 0 k q = _
   unfold sliceN
   rw [e1, ifK_true, e2, ifK_true, fN_eq, fN_eq, fN_eq]
   show q (.l id g (0 + 0 * n) (k - 0) (0 + k * n) (capS n k L.length)) = _
   simp
def CLR (P : Program) (z : List V) (x : V) (h : H) (N : Nx) : Prop := HM P (fun k => vL x (fun _ => k (.tu []) h) fun id g off len fin _ => natC len (fun _ => k (.tu []) h) fun n => store h id g off fin (repL z n) fun h => k (.tu []) h) N
theorem or_clear {x : O} {z : List V} {t : F} : OR P (doClear z x) t h N = CLR P z (oV x t) h N := or_hm fun cf k => by simp only [doClear, oK_eq]
theorem repL_flat (e : α) : ∀ m, repL (c e) m = (List.replicate m e).flatMap c
 | 0 => rfl
 | m + 1 => by rw [List.replicate_succ, List.flatMap_cons, ← repL_flat e m]; show app (c e) (repL (c e) m) = _; rw [app_eq]
theorem Gr.clr {z : α} (a : Gr el n c h v L) (hc : ∀ e, (c e).length = n) (hn : 1 ≤ n) (hk : k < L.length) (hl : L.length * n < 2 ^ 36) (h1 : ∀ m, allOne (repL (c z) m) = true) :
   ∃ u, (∀ (g : H) (N : Nx), H2 P (slLoV n) v (.i .i64 (k : Int)) g N = N.go P u g) ∧ ∀ N : Nx, (∀ h', Gr el n c h' v (L.take k ++ List.replicate (L.length - k) z) → Stay (isOf v) h h' → N.go P (.tu []) h') → CLR P (c z) u h N := by
 rcases a with ⟨rfl, rfl⟩ | ⟨id, g, off, fin, rfl, rfl, _⟩ | ⟨id, g, cap, blk, rfl, a1, a2, a3, a4, a5, a6, a7, a8, a9, a10, a11⟩
 · simp at hk
 · simp at hk
 obtain ⟨_, rfl⟩ : 1 ≤ L.length ∧ cap = none := by
   rcases a2 with h | h
   · exact h
   · omega
 have hkn : k * n + (L.length - k) * n = L.length * n := by rw [← Nat.add_mul]; congr 1; omega
 refine ⟨.l id g (k * n) (L.length - k) (L.length * n) none, fun g0 N => hv_of fun q => ?_, fun N kk => ?_⟩
 · have e0 : Nat.ble k L.length = true := by rw [Nat.ble_eq]; omega
   have e1 : Nat.ble L.length L.length = true := by rw [Nat.ble_eq]; exact Nat.le_refl _
   have e2 : Nat.beq (L.length * n) (Nat.add 0 (Nat.mul L.length n)) = true := by
     rw [show Nat.add 0 (Nat.mul L.length n) = L.length * n by show 0 + L.length * n = _; omega]; exact Nat.beq_refl _
   unfold slLoV
   simp only [vL_l, vI_i, natK_cast, e0, ifK_true]
   show sliceN n id g 0 L.length (L.length * n) k L.length q = _
   unfold sliceN
   rw [e1, ifK_true, e2, ifK_true, fN_eq, fN_eq, fN_eq, capS_self]
   show q (.l id g (0 + k * n) (L.length - k) (0 + L.length * n) none) = _
   simp
 · have hrl : (repL (c z) (L.length - k)).length = (L.length - k) * n := by rw [repL_len, hc]
   obtain ⟨h', tr, b1, b2, b3, b4, b5, b6⟩ := store_blk (off := k * n) (fin := L.length * n) (vs := repL (c z) (L.length - k)) a5 a7 a6 a10 a3 (by rw [hrl]; omega) (by rw [hrl]; omega) (h1 _)
   have hlen : (L.take k ++ List.replicate (L.length - k) z).length = L.length := by simp; omega
   refine hm_of (v := .tu []) (h' := h') (fun q => ?_) (kk h' (.inr (.inr ⟨id, g, none, _, by rw [hlen], by rw [fm_len hc], .inl ⟨by rw [hlen]; omega, rfl⟩, by rw [b5.floor]; exact a3, by rw [b6]; exact a4, b2, Nat.le_refl _, rfl, by rw [hlen]; exact a8, a9, rfl, fun i y hy => ?_⟩)) (b5.mono fun q _ e => by rw [e]; exact ⟨_, _, _, _, _, rfl⟩))
   · show natC (L.length - k) _ _ = _
     obtain ⟨m, hm⟩ : ∃ m, L.length - k = m + 1 := ⟨L.length - k - 1, by omega⟩
     rw [hm]
     show store h id g (k * n) (L.length * n) (repL (c z) (m + 1)) (fun h => q (.tu []) h) = _
     rw [← hm, b1]
   · show tr.getN i = some y
     rw [List.flatMap_append, ← repL_flat] at hy
     have hkl : ((L.take k).flatMap c).length = k * n := by rw [fm_len hc, List.length_take]; congr 1; omega
     by_cases hi : i < k * n
     · rw [b4 i (.inl hi)]
       refine a11 i y ?_
       rw [List.getElem?_append_left (by rw [hkl]; exact hi), fm_take hc, List.getElem?_take, if_pos hi] at hy
       exact hy
     · rw [List.getElem?_append_right (by rw [hkl]; omega), hkl] at hy
       have := b3 (i - k * n) y hy
       rwa [show k * n + (i - k * n) = i by omega] at this
end
end Go.Ev

set_option linter.all false
namespace Go.Ev
open Go
def badD (l : List UInt8) : Prop := l.head? = some 0 ∨ 9223372036854775808 ≤ pk l
instance (l : List UInt8) : Decidable (badD l) := by unfold badD; exact inferInstance
end Go.Ev

set_option linter.all false
namespace Go.Ev
open Go
structure Ent where
 key : List UInt8
 seq : Int
 del : Bool
 val : List UInt8
deriving DecidableEq
def entZ : Ent := ⟨[], 0, false, []⟩
instance : Inhabited Ent := ⟨entZ⟩
section
variable {P : Program} {h h' g' : H} {N : Nx} {v : V} {L : List Ent} {i d : Nat}
end
section
variable {k v : List UInt8} {d : Bool}
end
theorem bl_cons {x y : UInt8} {a b : List UInt8} : Op.bytesLess (x :: a) (y :: b) = true ↔ x.toNat < y.toNat ∨ (x = y ∧ Op.bytesLess a b = true) := by
 simp only [Op.bytesLess, Bool.or_eq_true, Bool.and_eq_true, decide_eq_true_eq, beq_iff_eq, UInt8.lt_iff_toNat_lt]
theorem bl_irr : ∀ l : List UInt8, Op.bytesLess l l = false
 | [] => rfl
 | c :: l => by
   cases h : Op.bytesLess (c :: l) (c :: l) with
   | false => rfl
   | true =>
     rcases bl_cons.1 h with h | ⟨_, h⟩
     · omega
     · rw [bl_irr l] at h; cases h
theorem bl_trans : ∀ {a b c : List UInt8}, Op.bytesLess a b = true → Op.bytesLess b c = true → Op.bytesLess a c = true
 | a, [], c, h, _ => by cases a <;> cases h
 | _, _ :: _, [], _, h => by cases h
 | [], _ :: _, _ :: _, _, _ => rfl
 | x :: a, y :: b, z :: c, h, g => by
   rcases bl_cons.1 h with h1 | ⟨h1, h2⟩ <;> rcases bl_cons.1 g with g1 | ⟨g1, g2⟩
   · exact bl_cons.2 (.inl (by omega))
   · exact bl_cons.2 (.inl (by rw [← g1]; exact h1))
   · exact bl_cons.2 (.inl (by rw [h1]; exact g1))
   · exact bl_cons.2 (.inr ⟨h1.trans g1, bl_trans h2 g2⟩)
theorem bl_asym {a b : List UInt8} (h : Op.bytesLess a b = true) : Op.bytesLess b a = false := by
 cases g : Op.bytesLess b a with
 | false => rfl
 | true => have := bl_trans h g; rw [bl_irr] at this; cases this
theorem bl_total : ∀ {a b : List UInt8}, a ≠ b → Op.bytesLess a b = true ∨ Op.bytesLess b a = true
 | [], [], h => absurd rfl h
 | [], _ :: _, _ => .inl rfl
 | _ :: _, [], _ => .inr rfl
 | x :: a, y :: b, h => by
   by_cases e : x = y
   · subst e
     rcases bl_total (a := a) (b := b) (fun e => h (by rw [e])) with g | g
     · exact .inl (bl_cons.2 (.inr ⟨rfl, g⟩))
     · exact .inr (bl_cons.2 (.inr ⟨rfl, g⟩))
   · have : x.toNat ≠ y.toNat := fun g => e (UInt8.toNat_inj.1 g)
     rcases Nat.lt_or_ge x.toNat y.toNat with g | g
     · exact .inl (bl_cons.2 (.inl g))
     · exact .inr (bl_cons.2 (.inl (by omega)))
section
variable {s k v : List UInt8} {n m j : Nat} {q e : Int}
end
end Go.Ev

set_option linter.all false
namespace Go.Ev
open Go
structure Tbl where
 id : Int
 tier : Int
 fst : List UInt8
 lst : List UInt8
 cnt : Int
deriving DecidableEq
def tblZ : Tbl := ⟨0, 0, [], [], 0⟩
instance : Inhabited Tbl := ⟨tblZ⟩
def tblC (t : Tbl) : List V := [.i .i64 t.id, .i .i64 t.tier, sv t.fst, sv t.lst, .i .i64 t.cnt]
theorem tblC_len (t : Tbl) : (tblC t).length = 5 := rfl
def Tbs (h : H) (v : V) (L : List Tbl) : Prop := Ss 5 tblC h v L
section
variable {P : Program} {h h' g' : H} {N : Nx} {v : V} {L : List Tbl} {i d : Nat}
theorem Tbs.ln (a : Tbs h v L) : H1 P gLen v g' N = N.go P (.i .i64 (L.length : Int)) g' := Ss.ln a
theorem Tbs.ix (a : Tbs h v L) (hi : i < L.length) : IX P 5 v i g' N = N.go P (.p (lid v) (lg v) (loff v + i * 5) (lfin v)) g' := Ss.ix a hi
theorem Tbs.l0 (a : Tbs h v L) (hi : i < L.length) : L1 P (lid v) (lg v) (loff v + i * 5) (lfin v) h N = N.go P (.i .i64 (L.getD i default).id) h := Ss.ld (d := 0) a tblC_len hi (by omega)
theorem Tbs.l1 (a : Tbs h v L) (hi : i < L.length) : L1 P (lid v) (lg v) (loff v + i * 5 + 1) (lfin v) h N = N.go P (.i .i64 (L.getD i default).tier) h := Ss.ld (d := 1) a tblC_len hi (by omega)
theorem Tbs.l2 (a : Tbs h v L) (hi : i < L.length) : L1 P (lid v) (lg v) (loff v + i * 5 + 2) (lfin v) h N = N.go P (sv (L.getD i default).fst) h := Ss.ld (d := 2) a tblC_len hi (by omega)
theorem Tbs.l3 (a : Tbs h v L) (hi : i < L.length) : L1 P (lid v) (lg v) (loff v + i * 5 + 3) (lfin v) h N = N.go P (sv (L.getD i default).lst) h := Ss.ld (d := 3) a tblC_len hi (by omega)
theorem Tbs.la (a : Tbs h v L) (hi : i < L.length) : LN P (lid v) (lg v) (loff v + i * 5) (lfin v) 5 h N = N.go P (.a [.i .i64 (L.getD i default).id, .i .i64 (L.getD i default).tier, sv (L.getD i default).fst, sv (L.getD i default).lst, .i .i64 (L.getD i default).cnt]) h := Ss.ldA a tblC_len (by omega) hi
theorem Tbs.grow (a : Tbs h v L) (s : Stay nowhere h h') : Tbs h' v L := Ss.grow a s
end
def cmpZ (a b : Int) : Int := if a < b then -1 else if b < a then 1 else 0
def cmpT (a b : Tbl) : Int := if a.tier = b.tier then (if a.tier = 0 then cmpZ b.id a.id else cmpI (decide (a.fst = b.fst)) (Op.bytesLess a.fst b.fst)) else cmpZ a.tier b.tier
def ltT (a b : Tbl) : Bool := if a.tier = b.tier then (if a.tier = 0 then decide (b.id < a.id) else Op.bytesLess a.fst b.fst) else decide (a.tier < b.tier)
theorem cmpZ_lt {a b : Int} : (cmpZ a b < 0) = (a < b) := by
 unfold cmpZ
 by_cases h1 : a < b
 · rw [if_pos h1]; simp [h1]
 · rw [if_neg h1]
   by_cases h2 : b < a
   · rw [if_pos h2]; simp; omega
   · rw [if_neg h2]; simp; omega
theorem bl_neT {a b : List UInt8} (h : Op.bytesLess a b = true) : a ≠ b := fun e => by rw [e, bl_irr] at h; cases h
theorem cmpT_lt {a b : Tbl} : (cmpT a b < 0) = (ltT a b = true) := by
 unfold cmpT ltT
 by_cases h1 : a.tier = b.tier
 · rw [if_pos h1, if_pos h1]
   by_cases h2 : a.tier = 0
   · rw [if_pos h2, if_pos h2, cmpZ_lt]; simp
   · rw [if_neg h2, if_neg h2]
     cases hb : Op.bytesLess a.fst b.fst with
     | true => rw [decide_eq_false (bl_neT hb)]; exact propext ⟨fun _ => rfl, fun _ => by decide⟩
     | false =>
       by_cases e : a.fst = b.fst
       · rw [decide_eq_true e]; exact propext ⟨fun h => absurd h (by decide), fun h => by cases h⟩
       · rw [decide_eq_false e]; exact propext ⟨fun h => absurd h (by decide), fun h => by cases h⟩
 · rw [if_neg h1, if_neg h1, cmpZ_lt]; simp
theorem cmpT_t {a b : Tbl} (h : ltT a b = true) : (cmpT a b < 0) = True := by rw [cmpT_lt, h]; simp
theorem cmpT_f {a b : Tbl} (h : ltT a b = false) : (cmpT a b < 0) = False := by rw [cmpT_lt, h]; simp
theorem ltT_asym {a b : Tbl} (h : ltT a b = true) : ltT b a = false := by
 unfold ltT at *
 by_cases h1 : a.tier = b.tier
 · rw [if_pos h1] at h
   rw [if_pos h1.symm]
   by_cases h2 : a.tier = 0
   · rw [if_pos h2] at h; rw [if_pos (by omega)]; simp at h ⊢; omega
   · rw [if_neg h2] at h; rw [if_neg (by omega)]; exact bl_asym h
 · rw [if_neg h1] at h; rw [if_neg (Ne.symm h1)]; simp at h ⊢; omega
theorem bl_nt {a b c : List UInt8} (h1 : Op.bytesLess a b = false) (h2 : Op.bytesLess b c = false) : Op.bytesLess a c = false := by
 cases h : Op.bytesLess a c with
 | false => rfl
 | true =>
   exfalso
   by_cases e1 : a = b
   · subst e1; rw [h] at h2; cases h2
   · rcases bl_total e1 with h3 | h3
     · rw [h3] at h1; cases h1
     · by_cases e2 : b = c
       · subst e2; rw [h] at h1; cases h1
       · rw [bl_trans h3 h] at h2; cases h2
theorem ltT_nt {a b c : Tbl} (h1 : ltT a b = false) (h2 : ltT b c = false) : ltT a c = false := by
 unfold ltT at *
 by_cases e1 : a.tier = b.tier
 · rw [if_pos e1] at h1
   by_cases e2 : b.tier = c.tier
   · rw [if_pos e2] at h2; rw [if_pos (e1.trans e2)]
     by_cases e3 : a.tier = 0
     · rw [if_pos e3] at h1 ⊢; rw [if_pos (by omega)] at h2; simp at h1 h2 ⊢; omega
     · rw [if_neg e3] at h1 ⊢; rw [if_neg (by omega)] at h2; exact bl_nt h1 h2
   · rw [if_neg e2] at h2; rw [if_neg (by omega)]; simp at h2 ⊢; omega
 · rw [if_neg e1] at h1
   by_cases e2 : b.tier = c.tier
   · rw [if_neg (by omega)]; simp at h1 ⊢; omega
   · rw [if_neg e2] at h2
     simp at h1 h2
     rw [if_neg (by omega)]; simp; omega
def ltL (L : List Tbl) (x y : Nat) : Bool := ltT (L.getD x default) (L.getD y default)
theorem ltL_ord (L : List Tbl) : Ord (ltL L) := ⟨fun h => ltT_asym h, fun h1 h2 => ltT_nt h1 h2⟩
theorem cmpL_t {L : List Tbl} {x y : Nat} (h : ltL L x y = true) : (cmpT (L.getD x default) (L.getD y default) < 0) = True := cmpT_t h
theorem cmpL_f {L : List Tbl} {x y : Nat} (h : ltL L x y = false) : (cmpT (L.getD x default) (L.getD y default) < 0) = False := cmpT_f h
end Go.Ev

namespace Go.Proofs.Ytclpemggclmgeaa
open Go Go.Ev
theorem hmix : Try.prog.follows .mixedOrders = true := by kernel_rfl
open Go.Ev in
instance {nt : Nat} {t : F} {h : H} {K : X → F → H → Prop} {l : List CO} {ch : Option (List Nat × List (Nat × List Nat))} : St (Ok Try.prog nt (.draws l ch) t h K) (DO Try.prog l t h (K .normal)) := ⟨Ok.dw hmix⟩
end Go.Proofs.Ytclpemggclmgeaa

set_option maxRecDepth 100000
set_option maxHeartbeats 8000000
set_option linter.all false
namespace Go.Proofs.Ytclpemggclmgeaa
open Go Go.Ev
theorem bcmpT_ok {h : H} {x y : List UInt8} : FnOk Try.prog 82 [sv x, sv y] h fun z h' => z = .i .i64 (cmpI (decide (x = y)) (Op.bytesLess x y)) ∧ h' = h := by
 refine fn_go c82 (by intro hb; cases hb) (by simp) (by simp) fun Q hQ => ?_
 simp only [slotsF, Nat.reduceAdd]
 repeat' (first
   | refine St.h ?_
   | simp (disch := first | omega | (simp only [lnv]; omega)) only [wlk, ↓get_put', ↓reduceIte, seval]
   | (with_reducible (first | apply cd_split | apply gd_split)) <;> (intro hc; (try simp only [hcn] at hc); (try simp only [hc]); (try simp only [hcl] at hc); try omega))
 subst hQ
 exact ⟨rfl, rfl⟩
theorem scmpT_ok {h : H} {x y : List UInt8} : FnOk Try.prog 64 [sv x, sv y] h fun z h' => z = .i .i64 (cmpI (decide (x = y)) (Op.bytesLess x y)) ∧ h' = h := by
 refine fn_go c64 (by intro hb; cases hb) (by simp) (by simp) fun Q hQ => ?_
 simp only [slotsF, Nat.reduceAdd]
 repeat' (first
   | refine St.h ?_
   | simp (disch := first | omega | (simp only [lnv]; omega)) only [wlk, ↓get_put', ↓reduceIte, seval]
   | (with_reducible (first | apply cd_split | apply gd_split)) <;> (intro hc; (try simp only [hcn] at hc); (try simp only [hc]); (try simp only [hcl] at hc); try omega))
 refine CL.pure bcmpT_ok ?_
 repeat' (first
   | refine St.h ?_
   | simp (disch := first | omega | (simp only [lnv]; omega)) only [wlk, ↓get_put', ↓reduceIte, seval]
   | (with_reducible (first | apply cd_split | apply gd_split)) <;> (intro hc; (try simp only [hcn] at hc); (try simp only [hc]); (try simp only [hcl] at hc); try omega))
 subst hQ
 exact ⟨rfl, rfl⟩
theorem nanT_ok {h : H} {x : Int} : FnOk Try.prog 81 [.i .i64 x] h fun z h' => z = .b false ∧ h' = h := by
 refine fn_go c81 (by intro hb; cases hb) (by simp) (by simp) fun Q hQ => ?_
 simp only [slotsF, Nat.reduceAdd]
 repeat' (first
   | refine St.h ?_
   | simp (disch := first | omega | (simp only [lnv]; omega)) only [wlk, ↓get_put', ↓reduceIte, seval]
   | (with_reducible (first | apply cd_split | apply gd_split)) <;> (intro hc; (try simp only [hcn] at hc); (try simp only [hc]); (try simp only [hcl] at hc); try omega))
 subst hQ
 exact ⟨by simp, rfl⟩
theorem icmpT_ok {h : H} {x y : Int} : FnOk Try.prog 63 [.i .i64 x, .i .i64 y] h fun z h' => z = .i .i64 (cmpZ x y) ∧ h' = h := by
 refine fn_go c63 (by intro hb; cases hb) (by simp) (by simp) fun Q hQ => ?_
 simp only [slotsF, Nat.reduceAdd]
 repeat' (first
   | refine St.h ?_
   | simp (disch := first | omega | (simp only [lnv]; omega)) only [wlk, ↓get_put', ↓reduceIte, seval]
   | (with_reducible (first | apply cd_split | apply gd_split)) <;> (intro hc; (try simp only [hcn] at hc); (try simp only [hc]); (try simp only [hcl] at hc); try omega))
 refine CL.pure nanT_ok ?_
 repeat' (first
   | refine St.h ?_
   | simp (disch := first | omega | (simp only [lnv]; omega)) only [wlk, ↓get_put', ↓reduceIte, seval]
   | (with_reducible (first | apply cd_split | apply gd_split)) <;> (intro hc; (try simp only [hcn] at hc); (try simp only [hc]); (try simp only [hcl] at hc); try omega))
 refine CL.pure nanT_ok ?_
 by_cases h1 : x < y
 · repeat' (first
     | refine St.h ?_
     | simp (disch := first | omega | (simp only [lnv]; omega)) only [wlk, ↓get_put', ↓reduceIte, seval, h1]
     | (with_reducible (first | apply cd_split | apply gd_split)) <;> (intro hc; (try simp only [hcn] at hc); (try simp only [hc]); (try simp only [hcl] at hc); try omega))
   subst hQ
   exact ⟨by unfold cmpZ; rw [if_pos h1], rfl⟩
 · have d1 : (x < y) = False := eq_false h1
   by_cases h2 : y < x
   · repeat' (first
       | refine St.h ?_
       | simp (disch := first | omega | (simp only [lnv]; omega)) only [wlk, ↓get_put', ↓reduceIte, seval, d1, h2]
       | (with_reducible (first | apply cd_split | apply gd_split)) <;> (intro hc; (try simp only [hcn] at hc); (try simp only [hc]); (try simp only [hcl] at hc); try omega))
     subst hQ
     exact ⟨by unfold cmpZ; rw [if_neg h1, if_pos h2], rfl⟩
   · have d2 : (y < x) = False := eq_false h2
     repeat' (first
       | refine St.h ?_
       | simp (disch := first | omega | (simp only [lnv]; omega)) only [wlk, ↓get_put', ↓reduceIte, seval, d1, d2]
       | (with_reducible (first | apply cd_split | apply gd_split)) <;> (intro hc; (try simp only [hcn] at hc); (try simp only [hc]); (try simp only [hcl] at hc); try omega))
     subst hQ
     exact ⟨by unfold cmpZ; rw [if_neg h1, if_neg h2], rfl⟩
theorem byTier_ok {h : H} {a b : Tbl} (hf : B.val h.floor ≤ B.val h.next) : FnOk Try.prog 50 [.a [.i .i64 a.id, .i .i64 a.tier, sv a.fst, sv a.lst, .i .i64 a.cnt], .a [.i .i64 b.id, .i .i64 b.tier, sv b.fst, sv b.lst, .i .i64 b.cnt]] h fun y h' => y = .i .i64 (cmpT a b) ∧ Stay nowhere h h' := by
 refine fn_go c50 (by intro hb; cases hb) (by simp) (by simp) fun Q hQ => ?_
 simp only [slotsF, Nat.reduceAdd]
 repeat' (first
   | refine St.h ?_
   | simp (disch := first | omega | (simp only [lnv]; omega)) only [wlk, ↓get_put', ↓reduceIte, seval]
   | (with_reducible (first | apply cd_split | apply gd_split)) <;> (intro hc; (try simp only [hcn] at hc); (try simp only [hc]); (try simp only [hcl] at hc); try omega))
 refine AL.own (by simp) hf fun h1 s1 n1 o1 => ?_
 repeat' (first
   | refine St.h ?_
   | simp (disch := first | omega | (simp only [lnv]; omega)) only [wlk, ↓get_put', ↓reduceIte, seval]
   | (with_reducible (first | apply cd_split | apply gd_split)) <;> (intro hc; (try simp only [hcn] at hc); (try simp only [hc]); (try simp only [hcl] at hc); try omega))
 refine AL.own (by simp) (s1.fl hf) fun h2 s2 n2 o2 => ?_
 have o1 := o1.stay s2 fun h => h
 have r1 := o1.row
 have r2 := o2.row
 by_cases ht : a.tier = b.tier
 · have d1 : (a.tier = b.tier) = True := eq_true ht
   by_cases h0 : a.tier = 0
   · have d2 : (b.tier = 0) = True := eq_true (by omega)
     repeat' (first
       | refine St.h ?_
       | simp (disch := first | omega | (simp only [lnv]; omega)) only [wlk, ↓get_put', ↓reduceIte, seval, r1.l1, r2.l1, ht, d2]
       | (with_reducible (first | apply cd_split | apply gd_split)) <;> (intro hc; (try simp only [hcn] at hc); (try simp only [hc]); (try simp only [hcl] at hc); try omega))
     refine CL.pure icmpT_ok ?_
     repeat' (first
       | refine St.h ?_
       | simp (disch := first | omega | (simp only [lnv]; omega)) only [wlk, ↓get_put', ↓reduceIte, seval]
       | (with_reducible (first | apply cd_split | apply gd_split)) <;> (intro hc; (try simp only [hcn] at hc); (try simp only [hc]); (try simp only [hcl] at hc); try omega))
     subst hQ
     exact ⟨by unfold cmpT; rw [if_pos ht, if_pos h0], s1.trans s2⟩
   · have d2 : (b.tier = 0) = False := eq_false (by omega)
     repeat' (first
       | refine St.h ?_
       | simp (disch := first | omega | (simp only [lnv]; omega)) only [wlk, ↓get_put', ↓reduceIte, seval, r1.l1, r2.l1, ht, d2]
       | (with_reducible (first | apply cd_split | apply gd_split)) <;> (intro hc; (try simp only [hcn] at hc); (try simp only [hc]); (try simp only [hcl] at hc); try omega))
     refine CL.pure scmpT_ok ?_
     repeat' (first
       | refine St.h ?_
       | simp (disch := first | omega | (simp only [lnv]; omega)) only [wlk, ↓get_put', ↓reduceIte, seval]
       | (with_reducible (first | apply cd_split | apply gd_split)) <;> (intro hc; (try simp only [hcn] at hc); (try simp only [hc]); (try simp only [hcl] at hc); try omega))
     subst hQ
     exact ⟨by unfold cmpT; rw [if_pos ht, if_neg h0], s1.trans s2⟩
 · have d1 : (a.tier = b.tier) = False := eq_false ht
   repeat' (first
     | refine St.h ?_
     | simp (disch := first | omega | (simp only [lnv]; omega)) only [wlk, ↓get_put', ↓reduceIte, seval, r1.l1, r2.l1, d1]
     | (with_reducible (first | apply cd_split | apply gd_split)) <;> (intro hc; (try simp only [hcn] at hc); (try simp only [hc]); (try simp only [hcl] at hc); try omega))
   refine CL.pure icmpT_ok ?_
   repeat' (first
     | refine St.h ?_
     | simp (disch := first | omega | (simp only [lnv]; omega)) only [wlk, ↓get_put', ↓reduceIte, seval]
     | (with_reducible (first | apply cd_split | apply gd_split)) <;> (intro hc; (try simp only [hcn] at hc); (try simp only [hc]); (try simp only [hcl] at hc); try omega))
   subst hQ
   exact ⟨by unfold cmpT; rw [if_neg ht], s1.trans s2⟩
def Rt (h : H) (v : V) (L : List Tbl) : Prop := Gr 32 5 tblC h v L
theorem Rt.tbs {h : H} {v : V} {L : List Tbl} (a : Rt h v L) : Tbs h v L := Gr.ss a
theorem Rt.grow {h h' : H} {v : V} {L : List Tbl} (a : Rt h v L) (s : Stay nowhere h h') : Rt h' v L := Gr.grow a s
theorem stay_up {h h' : H} {p : B → Prop} (s : Stay nowhere h h') : Stay p h h' := s.mono fun _ _ e => e.elim
section
variable {L : List Tbl} {N : Nat}
theorem ST.sw1 {P : Program} {h : H} {K : Nx} {v : V} {p : Nat → Nat} {i j : Nat} (rb : Rt h v (rwN L p N)) (hN : N ≤ 1000) (hi : i < N)
   (k : ∀ h', Rt h' v ((rwN L p N).set i (L.getD (p j) default)) → Stay (isOf v) h h' → K.go P (.tu []) h') : ST P 5 (.p (lid v) (lg v) (loff v + i * 5) (lfin v)) (.a [.i .i64 (L.getD (p j) default).id, .i .i64 (L.getD (p j) default).tier, sv (L.getD (p j) default).fst, sv (L.getD (p j) default).lst, .i .i64 (L.getD (p j) default).cnt]) h K :=
 ST.gr (y := L.getD (p j) default) rb tblC_len (by omega) (by rw [rwN_len]; exact hi) (by rw [rwN_len]; omega) rfl k
theorem ST.sw2 {P : Program} {h : H} {K : Nx} {v : V} {p : Nat → Nat} {i j : Nat} (rb : Rt h v ((rwN L p N).set i (L.getD (p j) default))) (hN : N ≤ 1000) (hj : j < N)
   (k : ∀ h', Rt h' v (rwN L (swN p i j) N) → Stay (isOf v) h h' → K.go P (.tu []) h') : ST P 5 (.p (lid v) (lg v) (loff v + j * 5) (lfin v)) (.a [.i .i64 (L.getD (p i) default).id, .i .i64 (L.getD (p i) default).tier, sv (L.getD (p i) default).fst, sv (L.getD (p i) default).lst, .i .i64 (L.getD (p i) default).cnt]) h K := by
 refine ST.gr (y := L.getD (p i) default) rb tblC_len (by omega) (by rw [List.length_set, rwN_len]; exact hj) (by rw [List.length_set, rwN_len]; omega) rfl fun h' r s => k h' ?_ s
 rw [rwN_set] at r; exact r
theorem isortT_ok {h : H} {v : V} {p : Nat → Nat} {a b : Nat} (hb : Rt h v (rwN L p N)) (hN : N ≤ 1000) (h1 : a ≤ b) (h2 : b ≤ N) (hf : B.val h.floor ≤ B.val h.next) : FnOk Try.prog 71 [v, .i .i64 (a : Int), .i .i64 (b : Int), .f 50 []] h fun y h' =>
   ∃ q, Swp a b p q ∧ Srt (ltL L) q a b ∧ Rt h' v (rwN L q N) ∧ Stay (isOf v) h h' := by
 refine fn_go c71 (by intro hb; cases hb) (by simp) (by simp) fun Q hQ => ?_
 simp only [slotsF, Nat.reduceAdd]
 repeat' (first
   | refine St.h ?_
   | simp (disch := first | omega | (simp only [lnv]; omega)) only [wlk, ↓get_put', ↓reduceIte, seval]
   | (with_reducible (first | apply cd_split | apply gd_split)) <;> (intro hc; (try simp only [hcn] at hc); (try simp only [hc]); (try simp only [hcl] at hc); try omega))
 by_cases hab : a < b
 case neg =>
   refine Ok.lp (fun m t g => m = 0 ∧ h = g ∧ get 2 t = .i .i64 (b : Int) ∧ get 8 t = .i .i64 ((a : Int) + 1)) 0 ?_ ?_
   · simp (disch := first | omega | (simp only [lnv]; omega)) only [wlk, ↓get_put', ↓reduceIte, seval]
     repeat' (first | trivial | rfl | refine And.intro ?_ ?_)
   rintro I hI m t g ⟨rfl, rfl, f2, f8⟩
   have d1 : ((a : Int) + 1 < (b : Int)) = False := eq_false (by omega)
   repeat' (first
     | refine St.h ?_
     | simp (disch := first | omega | (simp only [lnv]; omega)) only [wlk, ↓get_put', ↓reduceIte, seval, f2, f8, d1]
     | (with_reducible (first | apply cd_split | apply gd_split)) <;> (intro hc; (try simp only [hcn] at hc); (try simp only [hc]); (try simp only [hcl] at hc); try omega))
   subst hQ
   exact ⟨p, .refl _, fun i j h1 h2 h3 => by omega, hb, ⟨rfl, Nat.le_refl _, fun _ _ _ => rfl⟩⟩
 refine Ok.lp (fun m t g => ∃ (i : Nat) (q : Nat → Nat), m = b - i ∧ a + 1 ≤ i ∧ i ≤ b ∧ get 0 t = v ∧ get 1 t = .i .i64 (a : Int) ∧ get 2 t = .i .i64 (b : Int) ∧ get 3 t = .f 50 [] ∧ get 8 t = .i .i64 (i : Int) ∧ Swp a b p q ∧ Srt (ltL L) q a i ∧ Rt g v (rwN L q N) ∧ Stay (isOf v) h g) (b - (a + 1)) ?_ ?_
 · simp (disch := first | omega | (simp only [lnv]; omega)) only [wlk, ↓get_put', ↓reduceIte, seval]
   refine ⟨a + 1, p, by omega, by omega, by omega, ?_⟩
   refine ⟨?_, ?_, ?_, ?_, ?_, .refl _, fun i j h1 h2 h3 => by omega, hb, ⟨rfl, Nat.le_refl _, fun _ _ _ => rfl⟩⟩
   all_goals first | trivial | rfl
 rintro I hI m t g ⟨i, q, rfl, hi1, hi2, f0, f1, f2, f3, f8, hper, hs, rb, st⟩
 have hfg := st.fl hf
 by_cases hib : i < b
 case neg =>
   obtain rfl : i = b := by omega
   repeat' (first
     | refine St.h ?_
     | simp (disch := first | omega | (simp only [lnv]; omega)) only [wlk, ↓get_put', ↓reduceIte, seval, f0, f1, f2, f3, f8]
     | (with_reducible (first | apply cd_split | apply gd_split)) <;> (intro hc; (try simp only [hcn] at hc); (try simp only [hc]); (try simp only [hcl] at hc); try omega))
   subst hQ
   exact ⟨q, hper, hs, rb, st⟩
 repeat' (first
   | refine St.h ?_
   | simp (disch := first | omega | (simp only [lnv]; omega)) only [wlk, ↓get_put', ↓reduceIte, seval, f0, f1, f2, f3, f8]
   | (with_reducible (first | apply cd_split | apply gd_split)) <;> (intro hc; (try simp only [hcn] at hc); (try simp only [hc]); (try simp only [hcl] at hc); try omega))
 refine Ok.lp (fun m t g => ∃ (j : Nat) (q : Nat → Nat), m = j ∧ a ≤ j ∧ j ≤ i ∧ get 0 t = v ∧ get 1 t = .i .i64 (a : Int) ∧ get 2 t = .i .i64 (b : Int) ∧ get 3 t = .f 50 [] ∧ get 8 t = .i .i64 (i : Int) ∧ get 9 t = .i .i64 (j : Int) ∧ MidN (ltL L) q a i j ∧ Swp a b p q ∧ Rt g v (rwN L q N) ∧ Stay (isOf v) h g) i ?_ ?_
 · simp (disch := first | omega | (simp only [lnv]; omega)) only [wlk, ↓get_put', ↓reduceIte, seval, f0, f1, f2, f3, f8]
   refine ⟨i, q, by omega, by omega, by omega, ?_⟩
   refine ⟨?_, ?_, ?_, ?_, ?_, ?_, mid_new hs, hper, rb, st⟩
   all_goals first | trivial | rfl
 rintro I2 hI2 m2 t2 g2 ⟨j, q2, rfl, hj1, hj2, e0, e1, e2, e3, e8, e9, hM, hper2, rb2, st2⟩
 have hfg2 := st2.fl hf
 have done : ∀ g3, Rt g3 v (rwN L q2 N) → Stay (isOf v) h g3 → (m2 = a ∨ ltL L (q2 m2) (q2 (m2 - 1)) = false) → ∀ t3 : F, get 0 t3 = v → get 1 t3 = .i .i64 (a : Int) → get 2 t3 = .i .i64 (b : Int) → get 3 t3 = .f 50 [] → get 8 t3 = .i .i64 ((i + 1 : Nat) : Int) → LpG I (b - i) t3 g3 := fun g3 r3 s3 hd t3 x0 x1 x2 x3 x8 => by
   exact lp_next hI (b - (i + 1)) (by omega) ⟨i + 1, q2, rfl, by omega, by omega, x0, x1, x2, x3, x8, hper2, mid_done (ltL_ord L) hM hj2 hd hj1, r3, s3⟩
 by_cases hja : a < m2
 case neg =>
   obtain rfl : m2 = a := by omega
   have d1 : ((m2 : Int) < (m2 : Int)) = False := eq_false (by omega)
   repeat' (first
     | refine St.h ?_
     | simp (disch := first | omega | (simp only [lnv]; omega)) only [wlk, ↓get_put', ↓reduceIte, seval, e0, e1, e2, e3, e8, e9, d1]
     | (with_reducible (first | apply cd_split | apply gd_split)) <;> (intro hc; (try simp only [hcn] at hc); (try simp only [hc]); (try simp only [hcl] at hc); try omega))
   exact done _ rb2 st2 (.inl rfl) _ (by simp (disch := first | omega | (simp only [lnv]; omega)) only [wlk, ↓get_put', ↓reduceIte, seval, e0]) (by simp (disch := first | omega | (simp only [lnv]; omega)) only [wlk, ↓get_put', ↓reduceIte, seval, e1]) (by simp (disch := first | omega | (simp only [lnv]; omega)) only [wlk, ↓get_put', ↓reduceIte, seval, e2]) (by simp (disch := first | omega | (simp only [lnv]; omega)) only [wlk, ↓get_put', ↓reduceIte, seval, e3]) (by simp (disch := first | omega | (simp only [lnv]; omega)) only [wlk, ↓get_put', ↓reduceIte, seval, e8]; rfl)
 have d1 : ((a : Int) < (m2 : Int)) = True := eq_true (by omega)
 obtain ⟨n, rfl⟩ : ∃ n, m2 = n + 1 := ⟨m2 - 1, by omega⟩
 have en : (((n + 1 : Nat) : Int) - 1).toNat = n := by omega
 have W2 := rb2.tbs
 have ln : (rwN L q2 N).length = N := rwN_len
 have ga : (rwN L q2 N).getD (n + 1) default = L.getD (q2 (n + 1)) default := rwN_getD (by omega)
 have gb : (rwN L q2 N).getD n default = L.getD (q2 n) default := rwN_getD (by omega)
 repeat' (first
   | refine St.h ?_
   | simp (disch := first | omega | (simp only [lnv]; omega)) only [wlk, ↓get_put', ↓reduceIte, seval, e0, e1, e2, e3, e8, e9, d1, W2.ix, W2.la, en, ga, gb, Int.toNat_natCast]
   | (with_reducible (first | apply cd_split | apply gd_split)) <;> (intro hc; (try simp only [hcn] at hc); (try simp only [hc]); (try simp only [hcl] at hc); try omega))
 refine CL.stay (byTier_ok (a := L.getD (q2 (n + 1)) default) (b := L.getD (q2 n) default) hfg2) fun g3 s3 => ?_
 have rb3 := rb2.grow s3
 have st3 := st2.trans (stay_up s3)
 have W3 := rb3.tbs
 cases hk : ltL L (q2 (n + 1)) (q2 n) with
 | false =>
   have d2 := cmpL_f hk
   repeat' (first
     | refine St.h ?_
     | simp (disch := first | omega | (simp only [lnv]; omega)) only [wlk, ↓get_put', ↓reduceIte, seval, e0, e1, e2, e3, e8, e9, d1, d2]
     | (with_reducible (first | apply cd_split | apply gd_split)) <;> (intro hc; (try simp only [hcn] at hc); (try simp only [hc]); (try simp only [hcl] at hc); try omega))
   refine done _ rb3 st3 (.inr hk) _ (by simp (disch := first | omega | (simp only [lnv]; omega)) only [wlk, ↓get_put', ↓reduceIte, seval, e0]) (by simp (disch := first | omega | (simp only [lnv]; omega)) only [wlk, ↓get_put', ↓reduceIte, seval, e1]) (by simp (disch := first | omega | (simp only [lnv]; omega)) only [wlk, ↓get_put', ↓reduceIte, seval, e2]) (by simp (disch := first | omega | (simp only [lnv]; omega)) only [wlk, ↓get_put', ↓reduceIte, seval, e3]) (by simp (disch := first | omega | (simp only [lnv]; omega)) only [wlk, ↓get_put', ↓reduceIte, seval, e8]; rfl)
 | true =>
   have d2 := cmpL_t hk
   repeat' (first
     | refine St.h ?_
     | simp (disch := first | omega | (simp only [lnv]; omega)) only [wlk, ↓get_put', ↓reduceIte, seval, e0, e1, e2, e3, e8, e9, d1, d2, W3.ix, W3.la, en, ga, gb, Int.toNat_natCast]
     | (with_reducible (first | apply cd_split | apply gd_split)) <;> (intro hc; (try simp only [hcn] at hc); (try simp only [hc]); (try simp only [hcl] at hc); try omega))
   refine ST.sw1 rb3 hN (by omega) fun h3 B3 s4 => ?_
   have W4 := B3.tbs
   repeat' (first
     | refine St.h ?_
     | simp (disch := first | omega | (simp only [lnv]; omega)) only [wlk, ↓get_put', ↓reduceIte, seval, e0, e1, e2, e3, e8, e9, en, W4.ix]
     | (with_reducible (first | apply cd_split | apply gd_split)) <;> (intro hc; (try simp only [hcn] at hc); (try simp only [hc]); (try simp only [hcl] at hc); try omega))
   refine ST.sw2 B3 hN (by omega) fun h4 B4 s5 => ?_
   repeat' (first
     | refine St.h ?_
     | simp (disch := first | omega | (simp only [lnv]; omega)) only [wlk, ↓get_put', ↓reduceIte, seval, e0, e1, e2, e3, e8, e9]
     | (with_reducible (first | apply cd_split | apply gd_split)) <;> (intro hc; (try simp only [hcn] at hc); (try simp only [hc]); (try simp only [hcl] at hc); try omega))
   have ez : ((n + 1 : Nat) : Int) - 1 = (n : Int) := by omega
   refine lp_next hI2 n (by omega) ⟨n, swN q2 (n + 1) n, rfl, by omega, by omega, by simp (disch := first | omega | (simp only [lnv]; omega)) only [wlk, ↓get_put', ↓reduceIte, seval, e0], by simp (disch := first | omega | (simp only [lnv]; omega)) only [wlk, ↓get_put', ↓reduceIte, seval, e1], by simp (disch := first | omega | (simp only [lnv]; omega)) only [wlk, ↓get_put', ↓reduceIte, seval, e2], by simp (disch := first | omega | (simp only [lnv]; omega)) only [wlk, ↓get_put', ↓reduceIte, seval, e3], by simp (disch := first | omega | (simp only [lnv]; omega)) only [wlk, ↓get_put', ↓reduceIte, seval, e8], by simp (disch := first | omega | (simp only [lnv]; omega)) only [wlk, ↓get_put', ↓reduceIte, seval, ez, e9], mid_swp (ltL_ord L) hM (by omega) hj2 hk, hper2.trans (.one (by omega) (by omega) (by omega) (by omega)), B4, st3.trans (s4.trans s5)⟩
end
end Go.Proofs.Ytclpemggclmgeaa

set_option maxRecDepth 100000
set_option maxHeartbeats 8000000
set_option linter.all false
namespace Go.Proofs.Ytclpemggclmgeaa
open Go Go.Ev
section
variable {L : List Tbl} {N : Nat}
theorem sift_ok {h : H} {v : V} {p : Nat → Nat} {lo hi a : Nat} (hb : Rt h v (rwN L p N)) (hN : N ≤ 1000) (h1 : a + hi ≤ N) (h2 : lo ≤ 1000) (hh : Hea (ltL L) p a (lo + 1) hi) (hf : B.val h.floor ≤ B.val h.next) : FnOk Try.prog 85 [v, .i .i64 (lo : Int), .i .i64 (hi : Int), .i .i64 (a : Int), .f 50 []] h fun y h' =>
   ∃ q, Swp a (a + hi) p q ∧ Hea (ltL L) q a lo hi ∧ Rt h' v (rwN L q N) ∧ Stay (isOf v) h h' := by
 refine fn_go c85 (by intro hb; cases hb) (by simp) (by simp) fun Q hQ => ?_
 simp only [slotsF, Nat.reduceAdd]
 repeat' (first
   | refine St.h ?_
   | simp (disch := first | omega | (simp only [lnv]; omega)) only [wlk, ↓get_put', ↓reduceIte, seval]
   | (with_reducible (first | apply cd_split | apply gd_split)) <;> (intro hc; (try simp only [hcn] at hc); (try simp only [hc]); (try simp only [hcl] at hc); try omega))
 refine Ok.lp (fun m t g => ∃ (r : Nat) (q : Nat → Nat), m = 1000 - r ∧ lo ≤ r ∧ r ≤ 1000 ∧ get 0 t = v ∧ get 2 t = .i .i64 (hi : Int) ∧ get 3 t = .i .i64 (a : Int) ∧ get 4 t = .f 50 [] ∧ get 10 t = .i .i64 (r : Int) ∧ HeaX (ltL L) q a lo hi r ∧ Swp a (a + hi) p q ∧ Rt g v (rwN L q N) ∧ Stay (isOf v) h g) (1000 - lo) ?_ ?_
 · simp (disch := first | omega | (simp only [lnv]; omega)) only [wlk, ↓get_put', ↓reduceIte, seval]
   refine ⟨lo, p, by omega, by omega, by omega, ?_⟩
   refine ⟨?_, ?_, ?_, ?_, ?_, hea_new hh, .refl _, hb, ⟨rfl, Nat.le_refl _, fun _ _ _ => rfl⟩⟩
   all_goals first | trivial | rfl
 rintro I hI m t g ⟨r, q, rfl, hr1, hr2, f0, f2, f3, f4, f10, hx, sw, rb, st⟩
 have hfg := st.fl hf
 have ech : 2 * (r : Int) + 1 = ((2 * r + 1 : Nat) : Int) := by omega
 by_cases hc : 2 * r + 1 < hi
 case neg =>
   have d1 : ((hi : Int) ≤ ((2 * r + 1 : Nat) : Int)) = True := eq_true (by omega)
   repeat' (first
     | refine St.h ?_
     | simp (disch := first | omega | (simp only [lnv]; omega)) only [wlk, ↓get_put', ↓reduceIte, seval, f0, f2, f3, f4, f10, ech, d1]
     | (with_reducible (first | apply cd_split | apply gd_split)) <;> (intro hc; (try simp only [hcn] at hc); (try simp only [hc]); (try simp only [hcl] at hc); try omega))
   subst hQ
   exact ⟨q, sw, hea_done hx fun c h1 h2 => by omega, rb, st⟩
 obtain ⟨ch, hch⟩ : ∃ ch, ch = 2 * r + 1 := ⟨_, rfl⟩
 rw [← hch] at ech hc
 have d1 : ((hi : Int) ≤ (ch : Int)) = False := eq_false (by omega)
 have e2 : (ch : Int) + 1 = ((ch + 1 : Nat) : Int) := by omega
 have W1 := rb.tbs
 have ln : (rwN L q N).length = N := rwN_len
 have i1 : ((a : Int) + (ch : Int)).toNat = a + ch := by omega
 have i2 : ((a : Int) + (ch : Int) + 1).toNat = a + ch + 1 := by omega
 have i3 : ((a : Int) + (r : Int)).toNat = a + r := by omega
 have gx : ∀ j, j < N → (rwN L q N).getD j default = L.getD (q j) default := fun j hj => rwN_getD hj
 have g1 : (rwN L q N).getD (a + ch) default = L.getD (q (a + ch)) default := gx _ (by omega)
 have g3 : (rwN L q N).getD (a + r) default = L.getD (q (a + r)) default := gx _ (by omega)
 -- the greater child
 obtain ⟨c, hc1, hc2, hmax, hcase⟩ : ∃ c, (c = 2 * r + 1 ∨ c = 2 * r + 2) ∧ c < hi ∧ (∀ d, (d = 2 * r + 1 ∨ d = 2 * r + 2) → d < hi → ltL L (q (a + c)) (q (a + d)) = false) ∧
     ((ch + 1 < hi ∧ ltL L (q (a + ch)) (q (a + ch + 1)) = true ∧ c = ch + 1) ∨ (ch + 1 < hi ∧ ltL L (q (a + ch)) (q (a + ch + 1)) = false ∧ c = ch) ∨ (¬ ch + 1 < hi ∧ c = ch)) := by
   have irr : ∀ {x}, ltL L x x = false := (ltL_ord L).irr
   by_cases h3 : ch + 1 < hi
   · cases hk : ltL L (q (a + ch)) (q (a + ch + 1)) with
     | true =>
       refine ⟨ch + 1, by omega, h3, fun d hd hd2 => ?_, .inl ⟨h3, rfl, rfl⟩⟩
       rcases hd with e | e
       · rw [show d = ch by omega]; exact (ltL_ord L).asym hk
       · rw [show d = ch + 1 by omega]; exact irr
     | false =>
       refine ⟨ch, by omega, by omega, fun d hd hd2 => ?_, .inr (.inl ⟨h3, rfl, rfl⟩)⟩
       rcases hd with e | e
       · rw [show d = ch by omega]; exact irr
       · rw [show d = ch + 1 by omega]; exact hk
   · refine ⟨ch, by omega, by omega, fun d hd hd2 => ?_, .inr (.inr ⟨h3, rfl⟩)⟩
     rw [show d = ch by omega]; exact irr
 have gc : (rwN L q N).getD (a + c) default = L.getD (q (a + c)) default := gx _ (by omega)
 have ic : ((a : Int) + (c : Int)).toNat = a + c := by omega
 -- what follows, from the child on
 have fin : ∀ (K : X → F → H → Prop) (t : F) (g : H), get 0 t = v → get 2 t = .i .i64 (hi : Int) → get 3 t = .i .i64 (a : Int) → get 4 t = .f 50 [] → get 10 t = .i .i64 (r : Int) → get 11 t = .i .i64 (c : Int) → Rt g v (rwN L q N) → Stay (isOf v) h g →
     (∀ t g, ltL L (q (a + r)) (q (a + c)) = false → Rt g v (rwN L q N) → Stay (isOf v) h g → K .ret t g) →
     (∀ t g, ltL L (q (a + r)) (q (a + c)) = true → get 0 t = v → get 2 t = .i .i64 (hi : Int) → get 3 t = .i .i64 (a : Int) → get 4 t = .f 50 [] → get 10 t = .i .i64 (c : Int) → Rt g v (rwN L (swN q (a + r) (a + c)) N) → Stay (isOf v) h g → K .normal t g) → Ok Try.prog 82 s85_9 t g K := fun K t g f0 f2 f3 f4 f10 f11 rb st k1 k2 => by
   have hfg := st.fl hf
   have W1 := rb.tbs
   repeat' (first
     | refine St.h ?_
     | simp (disch := first | omega | (simp only [lnv]; omega)) only [wlk, ↓get_put', ↓reduceIte, seval, f0, f2, f3, f4, f10, f11, i3, ic, g3, gc, W1.ix, W1.la]
     | (with_reducible (first | apply cd_split | apply gd_split)) <;> (intro hc; (try simp only [hcn] at hc); (try simp only [hc]); (try simp only [hcl] at hc); try omega))
   refine CL.stay (byTier_ok (a := L.getD (q (a + r)) default) (b := L.getD (q (a + c)) default) hfg) fun g4 s4 => ?_
   have rb4 := rb.grow s4
   have st4 := st.trans (stay_up s4)
   have W4 := rb4.tbs
   cases hk : ltL L (q (a + r)) (q (a + c)) with
   | false =>
     have d2 := cmpL_f hk
     repeat' (first
       | refine St.h ?_
       | simp (disch := first | omega | (simp only [lnv]; omega)) only [wlk, ↓get_put', ↓reduceIte, seval, f0, f2, f3, f4, f10, f11, d2]
       | (with_reducible (first | apply cd_split | apply gd_split)) <;> (intro hc; (try simp only [hcn] at hc); (try simp only [hc]); (try simp only [hcl] at hc); try omega))
     exact k1 _ _ hk rb4 st4
   | true =>
     have d2 := cmpL_t hk
     repeat' (first
       | refine St.h ?_
       | simp (disch := first | omega | (simp only [lnv]; omega)) only [wlk, ↓get_put', ↓reduceIte, seval, f0, f2, f3, f4, f10, f11, d2, i3, ic, g3, gc, W4.ix, W4.la]
       | (with_reducible (first | apply cd_split | apply gd_split)) <;> (intro hc; (try simp only [hcn] at hc); (try simp only [hc]); (try simp only [hcl] at hc); try omega))
     refine ST.sw1 rb4 hN (by omega) fun h5 B5 s5 => ?_
     have W5 := B5.tbs
     repeat' (first
       | refine St.h ?_
       | simp (disch := first | omega | (simp only [lnv]; omega)) only [wlk, ↓get_put', ↓reduceIte, seval, f0, f2, f3, f4, f10, f11, i3, ic, W5.ix]
       | (with_reducible (first | apply cd_split | apply gd_split)) <;> (intro hc; (try simp only [hcn] at hc); (try simp only [hc]); (try simp only [hcl] at hc); try omega))
     refine ST.sw2 B5 hN (by omega) fun h6 B6 s6 => ?_
     repeat' (first
       | refine St.h ?_
       | simp (disch := first | omega | (simp only [lnv]; omega)) only [wlk, ↓get_put', ↓reduceIte, seval, f0, f2, f3, f4, f10, f11]
       | (with_reducible (first | apply cd_split | apply gd_split)) <;> (intro hc; (try simp only [hcn] at hc); (try simp only [hc]); (try simp only [hcl] at hc); try omega))
     exact k2 _ _ hk (by simp (disch := first | omega | (simp only [lnv]; omega)) only [wlk, ↓get_put', ↓reduceIte, seval, f0]) (by simp (disch := first | omega | (simp only [lnv]; omega)) only [wlk, ↓get_put', ↓reduceIte, seval, f2]) (by simp (disch := first | omega | (simp only [lnv]; omega)) only [wlk, ↓get_put', ↓reduceIte, seval, f3]) (by simp (disch := first | omega | (simp only [lnv]; omega)) only [wlk, ↓get_put', ↓reduceIte, seval, f4]) (by simp (disch := first | omega | (simp only [lnv]; omega)) only [wlk, ↓get_put', ↓reduceIte, seval, f11]) B6 (st4.trans (s5.trans s6))
 have fin1 : ∀ g, ltL L (q (a + r)) (q (a + c)) = false → Rt g v (rwN L q N) → Stay (isOf v) h g → ∃ q, Swp a (a + hi) p q ∧ Hea (ltL L) q a lo hi ∧ Rt g v (rwN L q N) ∧ Stay (isOf v) h g := fun g hk rb st => by
   refine ⟨q, sw, hea_done hx fun d hd hd2 => ?_, rb, st⟩
   exact (ltL_ord L).nt hk (hmax d hd hd2)
 have fin2 : ∀ t g, ltL L (q (a + r)) (q (a + c)) = true → get 0 t = v → get 2 t = .i .i64 (hi : Int) → get 3 t = .i .i64 (a : Int) → get 4 t = .f 50 [] → get 10 t = .i .i64 (c : Int) → Rt g v (rwN L (swN q (a + r) (a + c)) N) → Stay (isOf v) h g → LpG I (1000 - r) t g := fun t g hk f0 f2 f3 f4 f10 rb st =>
   lp_next hI (1000 - c) (by omega) ⟨c, _, rfl, by omega, by omega, f0, f2, f3, f4, f10, hea_step (ltL_ord L) hx hr1 hc1 hc2 hmax hk, sw.trans (.one (by omega) (by omega) (by omega) (by omega)), rb, st⟩
 rcases hcase with ⟨h3, hk, rfl⟩ | ⟨h3, hk, rfl⟩ | ⟨h3, rfl⟩
 · have d2 : (((ch + 1 : Nat) : Int) < (hi : Int)) = True := eq_true (by omega)
   have g2 : (rwN L q N).getD (a + ch + 1) default = L.getD (q (a + ch + 1)) default := gx _ (by omega)
   repeat' (first
     | refine St.h ?_
     | simp (disch := first | omega | (simp only [lnv]; omega)) only [wlk, ↓get_put', ↓reduceIte, seval, f0, f2, f3, f4, f10, ech, d1, e2, d2, i1, i2, g1, g2, W1.ix, W1.la]
     | (with_reducible (first | apply cd_split | apply gd_split)) <;> (intro hc; (try simp only [hcn] at hc); (try simp only [hc]); (try simp only [hcl] at hc); try omega))
   refine CL.stay (byTier_ok (a := L.getD (q (a + ch)) default) (b := L.getD (q (a + ch + 1)) default) hfg) fun g4 s4 => ?_
   have d3 := cmpL_t hk
   repeat' (first
     | refine fin _ _ _ ?_ ?_ ?_ ?_ ?_ ?_ (rb.grow s4) (st.trans (stay_up s4)) (fun t g hk rb st => ?_) (fun t g hk f0 f2 f3 f4 f10 rb st => ?_)
     | refine St.h ?_
     | simp (disch := first | omega | (simp only [lnv]; omega)) only [wlk, ↓get_put', ↓reduceIte, seval, f0, f2, f3, f4, f10, ech, e2, d3]
     | (with_reducible (first | apply cd_split | apply gd_split)) <;> (intro hc; (try simp only [hcn] at hc); (try simp only [hc]); (try simp only [hcl] at hc); try omega))
   · subst hQ
     exact fin1 g hk rb st
   · exact fin2 t g hk f0 f2 f3 f4 f10 rb st
 · have d2 : (((c + 1 : Nat) : Int) < (hi : Int)) = True := eq_true (by omega)
   have g2 : (rwN L q N).getD (a + c + 1) default = L.getD (q (a + c + 1)) default := gx _ (by omega)
   repeat' (first
     | refine St.h ?_
     | simp (disch := first | omega | (simp only [lnv]; omega)) only [wlk, ↓get_put', ↓reduceIte, seval, f0, f2, f3, f4, f10, ech, d1, e2, d2, i1, i2, g1, g2, W1.ix, W1.la]
     | (with_reducible (first | apply cd_split | apply gd_split)) <;> (intro hc; (try simp only [hcn] at hc); (try simp only [hc]); (try simp only [hcl] at hc); try omega))
   refine CL.stay (byTier_ok (a := L.getD (q (a + c)) default) (b := L.getD (q (a + c + 1)) default) hfg) fun g4 s4 => ?_
   have d3 := cmpL_f hk
   repeat' (first
     | refine fin _ _ _ ?_ ?_ ?_ ?_ ?_ ?_ (rb.grow s4) (st.trans (stay_up s4)) (fun t g hk rb st => ?_) (fun t g hk f0 f2 f3 f4 f10 rb st => ?_)
     | refine St.h ?_
     | simp (disch := first | omega | (simp only [lnv]; omega)) only [wlk, ↓get_put', ↓reduceIte, seval, f0, f2, f3, f4, f10, ech, e2, d3]
     | (with_reducible (first | apply cd_split | apply gd_split)) <;> (intro hc; (try simp only [hcn] at hc); (try simp only [hc]); (try simp only [hcl] at hc); try omega))
   · subst hQ
     exact fin1 g hk rb st
   · exact fin2 t g hk f0 f2 f3 f4 f10 rb st
 · have d2 : (((c + 1 : Nat) : Int) < (hi : Int)) = False := eq_false (by omega)
   repeat' (first
     | refine fin _ _ _ ?_ ?_ ?_ ?_ ?_ ?_ rb st (fun t g hk rb st => ?_) (fun t g hk f0 f2 f3 f4 f10 rb st => ?_)
     | refine St.h ?_
     | simp (disch := first | omega | (simp only [lnv]; omega)) only [wlk, ↓get_put', ↓reduceIte, seval, f0, f2, f3, f4, f10, ech, d1, e2, d2]
     | (with_reducible (first | apply cd_split | apply gd_split)) <;> (intro hc; (try simp only [hcn] at hc); (try simp only [hc]); (try simp only [hcl] at hc); try omega))
   · subst hQ
     exact fin1 g hk rb st
   · exact fin2 t g hk f0 f2 f3 f4 f10 rb st
theorem heap_ok {h : H} {v : V} {p : Nat → Nat} {a b : Nat} (hb : Rt h v (rwN L p N)) (hN : N ≤ 1000) (h1 : a < b) (h2 : b ≤ N) (hf : B.val h.floor ≤ B.val h.next) : FnOk Try.prog 72 [v, .i .i64 (a : Int), .i .i64 (b : Int), .f 50 []] h fun y h' =>
   ∃ q, Swp a b p q ∧ Srt (ltL L) q a b ∧ Rt h' v (rwN L q N) ∧ Stay (isOf v) h h' := by
 obtain ⟨n, rfl⟩ : ∃ n, b = a + n := ⟨b - a, by omega⟩
 have en : ((a + n : Nat) : Int) - (a : Int) = (n : Int) := by omega
 have ei : ((n : Int) - 1).toNat / 2 = (n + 1) / 2 - 1 := by omega
 have ei2 : ((n : Int) - 1) / 2 = (((n + 1) / 2 - 1 : Nat) : Int) := by omega
 refine fn_go c72 (by intro hb; cases hb) (by simp) (by simp) fun Q hQ => ?_
 simp only [slotsF, Nat.reduceAdd]
 repeat' (first
   | refine St.h ?_
   | simp (disch := first | omega | (simp only [lnv]; omega)) only [wlk, ↓get_put', ↓reduceIte, seval, en, ei, ei2]
   | (with_reducible (first | apply cd_split | apply gd_split)) <;> (intro hc; (try simp only [hcn] at hc); (try simp only [hc]); (try simp only [hcl] at hc); try omega))
 -- the heap is built
 refine Ok.lp (fun m t g => ∃ (i : Nat) (q : Nat → Nat), m = i ∧ i ≤ n ∧ get 0 t = v ∧ get 3 t = .f 50 [] ∧ get 8 t = .i .i64 (a : Int) ∧ get 9 t = .i .i64 0 ∧ get 10 t = .i .i64 (n : Int) ∧ get 11 t = .i .i64 ((i : Int) - 1) ∧ Hea (ltL L) q a i n ∧ Swp a (a + n) p q ∧ Rt g v (rwN L q N) ∧ Stay (isOf v) h g) ((n + 1) / 2) ?_ ?_
 · simp (disch := first | omega | (simp only [lnv]; omega)) only [wlk, ↓get_put', ↓reduceIte, seval, en, ei, ei2]
   refine ⟨(n + 1) / 2, p, rfl, by omega, ?_⟩
   refine ⟨?_, ?_, ?_, ?_, ?_, ?_, hea_end (by omega), .refl _, hb, ⟨rfl, Nat.le_refl _, fun _ _ _ => rfl⟩⟩
   all_goals first | trivial | rfl | (simp only [V.i.injEq, true_and]; omega)
 rintro I hI m t g ⟨i, q, rfl, hi, f0, f3, f8, f9, f10, f11, hh, sw, rb, st⟩
 have hfg := st.fl hf
 by_cases h0 : m = 0
 case neg =>
   obtain ⟨j, rfl⟩ : ∃ j, m = j + 1 := ⟨m - 1, by omega⟩
   have ej : ((j + 1 : Nat) : Int) - 1 = (j : Int) := by omega
   rw [ej] at f11
   have d1 : ((0 : Int) ≤ (j : Int)) = True := eq_true (by omega)
   repeat' (first
     | refine St.h ?_
     | simp (disch := first | omega | (simp only [lnv]; omega)) only [wlk, ↓get_put', ↓reduceIte, seval, f0, f3, f8, f9, f10, f11, d1]
     | (with_reducible (first | apply cd_split | apply gd_split)) <;> (intro hc; (try simp only [hcn] at hc); (try simp only [hc]); (try simp only [hcl] at hc); try omega))
   refine CL.mk (sift_ok (lo := j) (hi := n) (a := a) rb hN h2 (by omega) hh hfg) ?_
   rintro y g2 ⟨q2, sw2, hh2, rb2, s2⟩
   repeat' (first
     | refine St.h ?_
     | simp (disch := first | omega | (simp only [lnv]; omega)) only [wlk, ↓get_put', ↓reduceIte, seval, f0, f3, f8, f9, f10, f11]
     | (with_reducible (first | apply cd_split | apply gd_split)) <;> (intro hc; (try simp only [hcn] at hc); (try simp only [hc]); (try simp only [hcl] at hc); try omega))
   exact lp_next hI j (by omega) ⟨j, q2, rfl, by omega, by simp (disch := first | omega | (simp only [lnv]; omega)) only [wlk, ↓get_put', ↓reduceIte, seval, f0], by simp (disch := first | omega | (simp only [lnv]; omega)) only [wlk, ↓get_put', ↓reduceIte, seval, f3], by simp (disch := first | omega | (simp only [lnv]; omega)) only [wlk, ↓get_put', ↓reduceIte, seval, f8], by simp (disch := first | omega | (simp only [lnv]; omega)) only [wlk, ↓get_put', ↓reduceIte, seval, f9], by simp (disch := first | omega | (simp only [lnv]; omega)) only [wlk, ↓get_put', ↓reduceIte, seval, f10], by simp (disch := first | omega | (simp only [lnv]; omega)) only [wlk, ↓get_put', ↓reduceIte, seval, f11], hh2, sw.trans sw2, rb2, st.trans s2⟩
 subst h0
 have d1 : ((0 : Int) ≤ ((0 : Nat) : Int) - 1) = False := eq_false (by omega)
 repeat' (first
   | refine St.h ?_
   | simp (disch := first | omega | (simp only [lnv]; omega)) only [wlk, ↓get_put', ↓reduceIte, seval, f0, f3, f8, f9, f10, f11, d1]
   | (with_reducible (first | apply cd_split | apply gd_split)) <;> (intro hc; (try simp only [hcn] at hc); (try simp only [hc]); (try simp only [hcl] at hc); try omega))
 -- the greatest goes to the end
 refine Ok.lp (fun m t g => ∃ (i : Nat) (q : Nat → Nat), m = i ∧ i ≤ n ∧ get 0 t = v ∧ get 3 t = .f 50 [] ∧ get 8 t = .i .i64 (a : Int) ∧ get 9 t = .i .i64 0 ∧ get 12 t = .i .i64 ((i : Int) - 1) ∧ Hea (ltL L) q a 0 i ∧ Srt (ltL L) q (a + i) (a + n) ∧ (∀ x y, a ≤ x → x < a + i → a + i ≤ y → y < a + n → ltL L (q y) (q x) = false) ∧ Swp a (a + n) p q ∧ Rt g v (rwN L q N) ∧ Stay (isOf v) h g) n ?_ ?_
 · simp (disch := first | omega | (simp only [lnv]; omega)) only [wlk, ↓get_put', ↓reduceIte, seval, f0, f3, f8, f9, f10]
   refine ⟨n, q, rfl, Nat.le_refl _, ?_⟩
   refine ⟨?_, ?_, ?_, ?_, ?_, hh, fun i j h1 h2 h3 => by omega, fun x y h1 h2 h3 h4 => by omega, sw, rb, st⟩
   all_goals first | trivial | rfl
 rintro I2 hI2 m2 t2 g2 ⟨i, q2, rfl, hi2, e0, e3, e8, e9, e12, hh2, hs2, hc2, sw2, rb2, st2⟩
 have hfg2 := st2.fl hf
 by_cases h0 : m2 = 0
 case pos =>
   subst h0
   repeat' (first
     | refine St.h ?_
     | simp (disch := first | omega | (simp only [lnv]; omega)) only [wlk, ↓get_put', ↓reduceIte, seval, e0, e3, e8, e9, e12, d1]
     | (with_reducible (first | apply cd_split | apply gd_split)) <;> (intro hc; (try simp only [hcn] at hc); (try simp only [hc]); (try simp only [hcl] at hc); try omega))
   subst hQ
   exact ⟨q2, sw2, hs2, rb2, st2⟩
 obtain ⟨j, rfl⟩ : ∃ j, m2 = j + 1 := ⟨m2 - 1, by omega⟩
 have ej : ((j + 1 : Nat) : Int) - 1 = (j : Int) := by omega
 rw [ej] at e12
 have d2 : ((0 : Int) ≤ (j : Int)) = True := eq_true (by omega)
 have W2 := rb2.tbs
 have ln : (rwN L q2 N).length = N := rwN_len
 have i1 : ((a : Int) + (j : Int)).toNat = a + j := by omega
 have ga : (rwN L q2 N).getD (a + j) default = L.getD (q2 (a + j)) default := rwN_getD (by omega)
 have gb : (rwN L q2 N).getD a default = L.getD (q2 a) default := rwN_getD (by omega)
 repeat' (first
   | refine St.h ?_
   | simp (disch := first | omega | (simp only [lnv]; omega)) only [wlk, ↓get_put', ↓reduceIte, seval, e0, e3, e8, e9, e12, d2, i1, ga, gb, W2.ix, W2.la, Int.toNat_natCast]
   | (with_reducible (first | apply cd_split | apply gd_split)) <;> (intro hc; (try simp only [hcn] at hc); (try simp only [hc]); (try simp only [hcl] at hc); try omega))
 refine ST.sw1 rb2 hN (by omega) fun h3 B3 s3 => ?_
 have W3 := B3.tbs
 repeat' (first
   | refine St.h ?_
   | simp (disch := first | omega | (simp only [lnv]; omega)) only [wlk, ↓get_put', ↓reduceIte, seval, e0, e3, e8, e9, e12, i1, W3.ix]
   | (with_reducible (first | apply cd_split | apply gd_split)) <;> (intro hc; (try simp only [hcn] at hc); (try simp only [hc]); (try simp only [hcl] at hc); try omega))
 refine ST.sw2 B3 hN (by omega) fun h4 B4 s4 => ?_
 have st4 := st2.trans (s3.trans s4)
 -- the row, with both in each other's place
 have o := ltL_ord L
 have hmx := hea_max o hh2
 obtain ⟨q3, hq3⟩ : ∃ q3, q3 = swN q2 a (a + j) := ⟨_, rfl⟩
 rw [← hq3] at B4
 have x1 : q3 (a + j) = q2 a := by rw [hq3]; exact sw_l
 have x2 : ∀ k, k ≠ a → k ≠ a + j → q3 k = q2 k := fun k k1 k2 => by rw [hq3]; exact sw_o k1 k2
 have sw3 : Swp a (a + j + 1) q2 q3 := by rw [hq3]; exact .one (by omega) (by omega) (by omega) (by omega)
 have hlow : ∀ k, a ≤ k → k < a + j + 1 → ltL L (q2 a) (q3 k) = false := sw3.all (P := fun x => ltL L (q2 a) x = false) fun k k1 k2 => by
   obtain ⟨d, rfl⟩ : ∃ d, k = a + d := ⟨k - a, by omega⟩
   exact hmx d (by omega)
 have hh3 : Hea (ltL L) q3 a 1 j := fun k c k1 k2 k3 => by
   rw [x2 (a + k) (by omega) (by omega), x2 (a + c) (by omega) (by omega)]
   exact hh2 k c (by omega) k2 (by omega)
 repeat' (first
   | refine St.h ?_
   | simp (disch := first | omega | (simp only [lnv]; omega)) only [wlk, ↓get_put', ↓reduceIte, seval, e0, e3, e8, e9, e12]
   | (with_reducible (first | apply cd_split | apply gd_split)) <;> (intro hc; (try simp only [hcn] at hc); (try simp only [hc]); (try simp only [hcl] at hc); try omega))
 refine CL.mk (sift_ok (lo := 0) (hi := j) (a := a) B4 hN (by omega) (by omega) hh3 (st4.fl hf)) ?_
 rintro y g5 ⟨q5, sw5, hh5, rb5, s5⟩
 have o5 : ∀ k, a + j ≤ k → q5 k = q3 k := fun k hk => sw5.out (.inr hk)
 repeat' (first
   | refine St.h ?_
   | simp (disch := first | omega | (simp only [lnv]; omega)) only [wlk, ↓get_put', ↓reduceIte, seval, e0, e3, e8, e9, e12]
   | (with_reducible (first | apply cd_split | apply gd_split)) <;> (intro hc; (try simp only [hcn] at hc); (try simp only [hc]); (try simp only [hcl] at hc); try omega))
 refine lp_next hI2 j (by omega) ⟨j, q5, rfl, by omega, by simp (disch := first | omega | (simp only [lnv]; omega)) only [wlk, ↓get_put', ↓reduceIte, seval, e0], by simp (disch := first | omega | (simp only [lnv]; omega)) only [wlk, ↓get_put', ↓reduceIte, seval, e3], by simp (disch := first | omega | (simp only [lnv]; omega)) only [wlk, ↓get_put', ↓reduceIte, seval, e8], by simp (disch := first | omega | (simp only [lnv]; omega)) only [wlk, ↓get_put', ↓reduceIte, seval, e9], by simp (disch := first | omega | (simp only [lnv]; omega)) only [wlk, ↓get_put', ↓reduceIte, seval, e12], hh5, ?_, ?_, sw2.trans ((sw3.wide (Nat.le_refl _) (by omega)).trans (sw5.wide (Nat.le_refl _) (by omega))), rb5, st4.trans s5⟩
 · intro x y hx hxy hy
   rw [o5 x hx, o5 y (by omega), x2 y (by omega) (by omega)]
   by_cases e : x = a + j
   · rw [e, x1]; exact hc2 a y (by omega) (by omega) (by omega) hy
   · rw [x2 x (by omega) e]; exact hs2 x y (by omega) hxy hy
 · intro x y hx hx2 hy hy2
   have hxx : ltL L (q2 a) (q5 x) = false := sw5.all (P := fun z => ltL L (q2 a) z = false) (fun k k1 k2 => hlow k k1 (by omega)) x hx hx2
   rw [o5 y hy]
   by_cases e : y = a + j
   · rw [e, x1]; exact hxx
   · rw [x2 y (by omega) e]
     exact o.nt (hc2 a y (by omega) (by omega) (by omega) hy2) hxx
theorem rev_ok {h : H} {v c : V} {p : Nat → Nat} {a b : Nat} (hb : Rt h v (rwN L p N)) (hN : N ≤ 1000) (h1 : a ≤ b) (h2 : b ≤ N) (hf : B.val h.floor ≤ B.val h.next) : FnOk Try.prog 75 [v, .i .i64 (a : Int), .i .i64 (b : Int), c] h fun y h' =>
   ∃ q, Swp a b p q ∧ Rt h' v (rwN L q N) ∧ Stay (isOf v) h h' := by
 refine fn_go c75 (by intro hb; cases hb) (by simp) (by simp) fun Q hQ => ?_
 simp only [slotsF, Nat.reduceAdd]
 repeat' (first
   | refine St.h ?_
   | simp (disch := first | omega | (simp only [lnv]; omega)) only [wlk, ↓get_put', ↓reduceIte, seval]
   | (with_reducible (first | apply cd_split | apply gd_split)) <;> (intro hc; (try simp only [hcn] at hc); (try simp only [hc]); (try simp only [hcl] at hc); try omega))
 refine Ok.lp (fun m t g => ∃ (i j : Nat) (q : Nat → Nat), m = j - i ∧ a ≤ i ∧ j ≤ b ∧ get 0 t = v ∧ get 8 t = .i .i64 (i : Int) ∧ get 9 t = .i .i64 ((j : Int) - 1) ∧ Swp a b p q ∧ Rt g v (rwN L q N) ∧ Stay (isOf v) h g) (b - a) ?_ ?_
 · simp (disch := first | omega | (simp only [lnv]; omega)) only [wlk, ↓get_put', ↓reduceIte, seval]
   refine ⟨a, b, p, rfl, Nat.le_refl _, Nat.le_refl _, ?_⟩
   refine ⟨?_, ?_, ?_, .refl _, hb, ⟨rfl, Nat.le_refl _, fun _ _ _ => rfl⟩⟩
   all_goals first | trivial | rfl
 rintro I hI m t g ⟨i, j, q, rfl, hi, hj, f0, f8, f9, sw, rb, st⟩
 by_cases hij : i + 1 < j
 case neg =>
   have d1 : ((i : Int) < (j : Int) - 1) = False := eq_false (by omega)
   repeat' (first
     | refine St.h ?_
     | simp (disch := first | omega | (simp only [lnv]; omega)) only [wlk, ↓get_put', ↓reduceIte, seval, f0, f8, f9, d1]
     | (with_reducible (first | apply cd_split | apply gd_split)) <;> (intro hc; (try simp only [hcn] at hc); (try simp only [hc]); (try simp only [hcl] at hc); try omega))
   subst hQ
   exact ⟨q, sw, rb, st⟩
 obtain ⟨k, rfl⟩ : ∃ k, j = k + 1 := ⟨j - 1, by omega⟩
 have ek : ((k + 1 : Nat) : Int) - 1 = (k : Int) := by omega
 rw [ek] at f9
 have d1 : ((i : Int) < (k : Int)) = True := eq_true (by omega)
 have W1 := rb.tbs
 have ln : (rwN L q N).length = N := rwN_len
 have ga : (rwN L q N).getD i default = L.getD (q i) default := rwN_getD (by omega)
 have gb : (rwN L q N).getD k default = L.getD (q k) default := rwN_getD (by omega)
 repeat' (first
   | refine St.h ?_
   | simp (disch := first | omega | (simp only [lnv]; omega)) only [wlk, ↓get_put', ↓reduceIte, seval, f0, f8, f9, d1, ga, gb, W1.ix, W1.la, Int.toNat_natCast]
   | (with_reducible (first | apply cd_split | apply gd_split)) <;> (intro hc; (try simp only [hcn] at hc); (try simp only [hc]); (try simp only [hcl] at hc); try omega))
 refine ST.sw1 rb hN (by omega) fun h3 B3 s3 => ?_
 have W3 := B3.tbs
 repeat' (first
   | refine St.h ?_
   | simp (disch := first | omega | (simp only [lnv]; omega)) only [wlk, ↓get_put', ↓reduceIte, seval, f0, f8, f9, W3.ix, Int.toNat_natCast]
   | (with_reducible (first | apply cd_split | apply gd_split)) <;> (intro hc; (try simp only [hcn] at hc); (try simp only [hc]); (try simp only [hcl] at hc); try omega))
 refine ST.sw2 B3 hN (by omega) fun h4 B4 s4 => ?_
 repeat' (first
   | refine St.h ?_
   | simp (disch := first | omega | (simp only [lnv]; omega)) only [wlk, ↓get_put', ↓reduceIte, seval, f0, f8, f9]
   | (with_reducible (first | apply cd_split | apply gd_split)) <;> (intro hc; (try simp only [hcn] at hc); (try simp only [hc]); (try simp only [hcl] at hc); try omega))
 refine lp_next hI (k - (i + 1)) (by omega) ⟨i + 1, k, _, rfl, by omega, by omega, by simp (disch := first | omega | (simp only [lnv]; omega)) only [wlk, ↓get_put', ↓reduceIte, seval, f0], by simp (disch := first | omega | (simp only [lnv]; omega)) only [wlk, ↓get_put', ↓reduceIte, seval, f8]; rfl, by simp (disch := first | omega | (simp only [lnv]; omega)) only [wlk, ↓get_put', ↓reduceIte, seval, f9], sw.trans (.one (by omega) (by omega) (by omega) (by omega)), B4, st.trans (s3.trans s4)⟩
end
end Go.Proofs.Ytclpemggclmgeaa

set_option maxRecDepth 100000
set_option maxHeartbeats 8000000
set_option linter.all false
namespace Go.Proofs.Ytclpemggclmgeaa
open Go Go.Ev
def tabP : List UInt8 := [0, 1, 2, 2, 3, 3, 3, 3] ++ List.replicate 8 4 ++ List.replicate 16 5 ++ List.replicate 32 6 ++ List.replicate 64 7 ++ List.replicate 128 8
theorem tabP_len : tabP.length = 256 := by decide
theorem tabP_s : V.s 256 496986003408712215933005303621146343841837811690876167382323004466384420695090407243345123874780946046625255262057845613767806773758184921447759720770971536008171983842311960805720366577116933250839345203839274948261284255908394484732272583221484877694546905335834403051067785895034095251181560891789708940188598129052595634438001880866652824740680664595948164050600812232986714152902334120417949232733424961741260388658846598210939813666227264727603044226856020347194099943897342244906131705541414413428559898943151040826816076322978570758226444464494629814583418847495712557856038296917933182380796641777551368 = sv tabP := by rfl
def bitsP (n : Nat) : Nat := (tabP.getD n 0).toNat
theorem bitsP_pow : ∀ n, n < 256 → 1 ≤ n → 2 ^ bitsP n ≤ 2 * n ∧ 1 ≤ 2 ^ bitsP n ∧ bitsP n ≤ 8 := by decide
theorem bitsP_le : ∀ n, n < 256 → bitsP n ≤ 8 := by decide
theorem tabP_ix {P : Program} {h : H} {N : Nx} {kd : IntKind} {x : Int} (h0 : 0 ≤ x) (h1 : x < 256) : H2 P gSIndex (sv tabP) (.i kd x) h N = N.go P (.i .u8 (min 8 (bitsP x.toNat) : Nat)) h := by
 rw [h2_sindex h0 (by rw [tabP_len]; exact h1)]
 have : bitsP x.toNat ≤ 8 := bitsP_le _ (by omega)
 rw [Nat.min_eq_right this]; rfl
theorem len64P_ok {h : H} {n : Nat} (hn : n < 256) : FnOk Try.prog 80 [.i .u64 (n : Int)] h fun y h' => y = .i .i64 (bitsP n : Int) ∧ h' = h := by
 have hb := bitsP_le n hn
 refine fn_go c80 (by intro hb; cases hb) (by simp) (by simp) fun Q hQ => ?_
 simp only [slotsF, Nat.reduceAdd]
 repeat' (first
   | refine St.h ?_
   | simp (disch := first | omega | (simp only [lnv]; omega)) only [wlk, ↓get_put', ↓reduceIte, seval, Int.toNat_natCast, tabP_s, tabP_ix]
   | (with_reducible (first | apply cd_split | apply gd_split)) <;> (intro hc; (try simp only [hcn] at hc); (try simp only [hc]); (try simp only [hcl] at hc); try omega))
 subst hQ
 exact ⟨congrArg (V.i .i64) (by omega), rfl⟩
theorem lenP_ok {h : H} {n : Nat} (hn : n < 256) : FnOk Try.prog 62 [.i .u64 (n : Int)] h fun y h' => y = .i .i64 (bitsP n : Int) ∧ h' = h := by
 refine fn_go c62 (by intro hb; cases hb) (by simp) (by simp) fun Q hQ => ?_
 simp only [slotsF, Nat.reduceAdd]
 repeat' (first
   | refine St.h ?_
   | simp (disch := first | omega | (simp only [lnv]; omega)) only [wlk, ↓get_put', ↓reduceIte, seval]
   | (with_reducible (first | apply cd_split | apply gd_split)) <;> (intro hc; (try simp only [hcn] at hc); (try simp only [hc]); (try simp only [hcl] at hc); try omega))
 refine CL.pure (len64P_ok hn) ?_
 repeat' (first
   | refine St.h ?_
   | simp (disch := first | omega | (simp only [lnv]; omega)) only [wlk, ↓get_put', ↓reduceIte, seval]
   | (with_reducible (first | apply cd_split | apply gd_split)) <;> (intro hc; (try simp only [hcn] at hc); (try simp only [hc]); (try simp only [hcl] at hc); try omega))
 subst hQ
 exact ⟨rfl, rfl⟩
theorem wrapP_u64 {n : Nat} : IntKind.u64.wrap (n : Int) = ((n % 18446744073709551616 : Nat) : Int) := by
 have : IntKind.u64.wrap (n : Int) = (n : Int) % 18446744073709551616 := by simp only [IntKind.wrap, IntKind.bits, IntKind.signed]; simp
 rw [this]; omega
theorem npow_ok {h : H} {n : Nat} (hn : n < 256) : FnOk Try.prog 86 [.i .i64 (n : Int)] h fun y h' => y = .i .u64 ((2 ^ bitsP n : Nat) : Int) ∧ h' = h := by
 have hb := bitsP_le n hn
 have hp : 2 ^ bitsP n ≤ 2 ^ 8 := Nat.pow_le_pow_right (by omega) hb
 have e1 : min (bitsP n) IntKind.u64.bits = bitsP n := Nat.min_eq_left (by show bitsP n ≤ 64; omega)
 refine fn_go c86 (by intro hb; cases hb) (by simp) (by simp) fun Q hQ => ?_
 simp only [slotsF, Nat.reduceAdd]
 repeat' (first
   | refine St.h ?_
   | simp (disch := first | omega | (simp only [lnv]; omega)) only [wlk, ↓get_put', ↓reduceIte, seval, Int.toNat_natCast]
   | (with_reducible (first | apply cd_split | apply gd_split)) <;> (intro hc; (try simp only [hcn] at hc); (try simp only [hc]); (try simp only [hcl] at hc); try omega))
 refine CL.pure (lenP_ok hn) ?_
 repeat' (first
   | refine St.h ?_
   | simp (disch := first | omega | (simp only [lnv]; omega)) only [wlk, ↓get_put', ↓reduceIte, seval, e1, Int.toNat_natCast]
   | (with_reducible (first | apply cd_split | apply gd_split)) <;> (intro hc; (try simp only [hcn] at hc); (try simp only [hc]); (try simp only [hcl] at hc); try omega))
 subst hQ
 refine ⟨congrArg (V.i .u64) ?_, rfl⟩
 rw [Int.one_mul, wrapP_u64, Nat.mod_eq_of_lt (by omega)]
theorem xors_ok {h : H} {s : B} {n : Nat} (o : Ev.Own h s [.i .u64 (n : Int)]) (hn : n < 18446744073709551616) (hf : B.val h.floor ≤ B.val h.next) : FnOk Try.prog 87 [.p s 0 0 1] h fun y h' => ∃ k : Nat, k < 18446744073709551616 ∧ y = .i .u64 (k : Int) ∧ Ev.Own h' s [.i .u64 (k : Int)] ∧ Stay (fun i => i = s) h h' := by
 have e1 : ∀ m : Nat, IntKind.u64.wrap ((m : Int) * 8192) = ((m * 8192 % 18446744073709551616 : Nat) : Int) := fun m => by
   have := wrapP_u64 (n := m * 8192)
   rw [← this]; congr 1
 have e2 : ∀ m : Nat, (m : Int) / 128 = ((m / 128 : Nat) : Int) := fun m => by omega
 have e3 : ∀ m : Nat, IntKind.u64.wrap ((m : Int) * 131072) = ((m * 131072 % 18446744073709551616 : Nat) : Int) := fun m => by
   have := wrapP_u64 (n := m * 131072)
   rw [← this]; congr 1
 have hr := o.row
 refine fn_go c87 (by intro hb; cases hb) (by simp) (by simp) fun Q hQ => ?_
 simp only [slotsF, Nat.reduceAdd]
 repeat' (first
   | refine St.h ?_
   | simp (disch := first | omega | (simp only [lnv]; omega)) only [wlk, ↓get_put', ↓reduceIte, seval, hr.l1, e1, Int.toNat_natCast]
   | (with_reducible (first | apply cd_split | apply gd_split)) <;> (intro hc; (try simp only [hcn] at hc); (try simp only [hc]); (try simp only [hcl] at hc); try omega))
 obtain ⟨n1, hn1⟩ : ∃ n1, n1 = (n ^^^ (n * 8192 % 18446744073709551616)) := ⟨_, rfl⟩
 have b1 : n1 < 18446744073709551616 := by rw [hn1]; exact Nat.xor_lt_two_pow (n := 64) (by omega) (by omega)
 rw [← hn1]
 refine ST.own o rfl rfl (by omega) (by omega) fun h1 o1 s1 => ?_
 have r1 := o1.row
 repeat' (first
   | refine St.h ?_
   | simp (disch := first | omega | (simp only [lnv]; omega)) only [wlk, ↓get_put', ↓reduceIte, seval, r1.l1, e2, Int.toNat_natCast]
   | (with_reducible (first | apply cd_split | apply gd_split)) <;> (intro hc; (try simp only [hcn] at hc); (try simp only [hc]); (try simp only [hcl] at hc); try omega))
 obtain ⟨n2, hn2⟩ : ∃ n2, n2 = (n1 ^^^ (n1 / 128)) := ⟨_, rfl⟩
 have b2 : n2 < 18446744073709551616 := by rw [hn2]; exact Nat.xor_lt_two_pow (n := 64) (by omega) (by omega)
 rw [← hn2]
 refine ST.own o1 rfl rfl (by omega) (by omega) fun h2 o2 s2 => ?_
 have r2 := o2.row
 repeat' (first
   | refine St.h ?_
   | simp (disch := first | omega | (simp only [lnv]; omega)) only [wlk, ↓get_put', ↓reduceIte, seval, r2.l1, e3, Int.toNat_natCast]
   | (with_reducible (first | apply cd_split | apply gd_split)) <;> (intro hc; (try simp only [hcn] at hc); (try simp only [hc]); (try simp only [hcl] at hc); try omega))
 obtain ⟨n3, hn3⟩ : ∃ n3, n3 = (n2 ^^^ (n2 * 131072 % 18446744073709551616)) := ⟨_, rfl⟩
 have b3 : n3 < 18446744073709551616 := by rw [hn3]; exact Nat.xor_lt_two_pow (n := 64) (by omega) (by omega)
 rw [← hn3]
 refine ST.own o2 rfl rfl (by omega) (by omega) fun h3 o3 s3 => ?_
 have r3 := o3.row
 repeat' (first
   | refine St.h ?_
   | simp (disch := first | omega | (simp only [lnv]; omega)) only [wlk, ↓get_put', ↓reduceIte, seval, r3.l1]
   | (with_reducible (first | apply cd_split | apply gd_split)) <;> (intro hc; (try simp only [hcn] at hc); (try simp only [hc]); (try simp only [hcl] at hc); try omega))
 subst hQ
 exact ⟨n3, b3, rfl, o3, s1.trans (s2.trans s3)⟩
section
variable {L : List Tbl} {N : Nat}
theorem order2_ok {h : H} {v : V} {p : Nat → Nat} {x y k : Nat} {s : B} (rb : Rt h v (rwN L p N)) (hx : x < N) (hy : y < N) (hN : N ≤ 1000) (o : Ev.Own h s [.i .i64 (k : Int)]) (hk : k ≤ 1000) (hf : B.val h.floor ≤ B.val h.next) : FnOk Try.prog 91 [v, .i .i64 (x : Int), .i .i64 (y : Int), .p s 0 0 1, .f 50 []] h fun r h' =>
   ∃ x' y' k' : Nat, r = .tu [.i .i64 (x' : Int), .i .i64 (y' : Int)] ∧ ((x' = x ∧ y' = y) ∨ (x' = y ∧ y' = x)) ∧ k' ≤ k + 1 ∧ Ev.Own h' s [.i .i64 (k' : Int)] ∧ Stay (fun i => i = s) h h' := by
 have W1 := rb.tbs
 have ln : (rwN L p N).length = N := rwN_len
 refine fn_go c91 (by intro hb; cases hb) (by simp) (by simp) fun Q hQ => ?_
 simp only [slotsF, Nat.reduceAdd]
 repeat' (first
   | refine St.h ?_
   | simp (disch := first | omega | (simp only [lnv]; omega)) only [wlk, ↓get_put', ↓reduceIte, seval, W1.ix, W1.la, Int.toNat_natCast]
   | (with_reducible (first | apply cd_split | apply gd_split)) <;> (intro hc; (try simp only [hcn] at hc); (try simp only [hc]); (try simp only [hcl] at hc); try omega))
 refine CL.stay (byTier_ok (a := (rwN L p N).getD y default) (b := (rwN L p N).getD x default) hf) fun h1 s1 => ?_
 have o1 := o.stay s1 fun e => e
 have r1 := o1.row
 by_cases hc : cmpT ((rwN L p N).getD y default) ((rwN L p N).getD x default) < 0
 · have d1 := eq_true hc
   repeat' (first
     | refine St.h ?_
     | simp (disch := first | omega | (simp only [lnv]; omega)) only [wlk, ↓get_put', ↓reduceIte, seval, d1, r1.l1]
     | (with_reducible (first | apply cd_split | apply gd_split)) <;> (intro hc; (try simp only [hcn] at hc); (try simp only [hc]); (try simp only [hcl] at hc); try omega))
   refine ST.own o1 rfl rfl (by omega) (by omega) fun h2 o2 s2 => ?_
   repeat' (first
     | refine St.h ?_
     | simp (disch := first | omega | (simp only [lnv]; omega)) only [wlk, ↓get_put', ↓reduceIte, seval]
     | (with_reducible (first | apply cd_split | apply gd_split)) <;> (intro hc; (try simp only [hcn] at hc); (try simp only [hc]); (try simp only [hcl] at hc); try omega))
   subst hQ
   exact ⟨y, x, k + 1, rfl, .inr ⟨rfl, rfl⟩, Nat.le_refl _, o2, (stay_up s1).trans s2⟩
 · have d1 := eq_false hc
   repeat' (first
     | refine St.h ?_
     | simp (disch := first | omega | (simp only [lnv]; omega)) only [wlk, ↓get_put', ↓reduceIte, seval, d1]
     | (with_reducible (first | apply cd_split | apply gd_split)) <;> (intro hc; (try simp only [hcn] at hc); (try simp only [hc]); (try simp only [hcl] at hc); try omega))
   subst hQ
   exact ⟨x, y, k, rfl, .inl ⟨rfl, rfl⟩, by omega, o1, stay_up s1⟩
theorem median_ok {h : H} {v : V} {p : Nat → Nat} {x y z k : Nat} {s : B} (rb : Rt h v (rwN L p N)) (hx : x < N) (hy : y < N) (hz : z < N) (hN : N ≤ 1000) (o : Ev.Own h s [.i .i64 (k : Int)]) (hk : k ≤ 900) (hs : ∀ q, isOf v q → ¬ q = s) (hf : B.val h.floor ≤ B.val h.next) : FnOk Try.prog 89 [v, .i .i64 (x : Int), .i .i64 (y : Int), .i .i64 (z : Int), .p s 0 0 1, .f 50 []] h fun r h' =>
   ∃ m k' : Nat, r = .i .i64 (m : Int) ∧ (m = x ∨ m = y ∨ m = z) ∧ k' ≤ k + 3 ∧ Ev.Own h' s [.i .i64 (k' : Int)] ∧ Stay (fun i => i = s) h h' := by
 refine fn_go c89 (by intro hb; cases hb) (by simp) (by simp) fun Q hQ => ?_
 simp only [slotsF, Nat.reduceAdd]
 repeat' (first
   | refine St.h ?_
   | simp (disch := first | omega | (simp only [lnv]; omega)) only [wlk, ↓get_put', ↓reduceIte, seval]
   | (with_reducible (first | apply cd_split | apply gd_split)) <;> (intro hc; (try simp only [hcn] at hc); (try simp only [hc]); (try simp only [hcl] at hc); try omega))
 refine CL.mk (order2_ok rb hx hy hN o (by omega) hf) ?_
 rintro _ h1 ⟨x1, y1, k1, rfl, e1, hk1, o1, s1⟩
 repeat' (first
   | refine St.h ?_
   | simp (disch := first | omega | (simp only [lnv]; omega)) only [wlk, ↓get_put', ↓reduceIte, seval]
   | (with_reducible (first | apply cd_split | apply gd_split)) <;> (intro hc; (try simp only [hcn] at hc); (try simp only [hc]); (try simp only [hcl] at hc); try omega))
 refine CL.mk (order2_ok (x := y1) (y := z) (Gr.stay rb s1 hs) (by omega) hz hN o1 (by omega) (s1.fl hf)) ?_
 rintro _ h2 ⟨y2, z2, k2, rfl, e2, hk2, o2, s2⟩
 have s12 := s1.trans s2
 repeat' (first
   | refine St.h ?_
   | simp (disch := first | omega | (simp only [lnv]; omega)) only [wlk, ↓get_put', ↓reduceIte, seval]
   | (with_reducible (first | apply cd_split | apply gd_split)) <;> (intro hc; (try simp only [hcn] at hc); (try simp only [hc]); (try simp only [hcl] at hc); try omega))
 refine CL.mk (order2_ok (x := x1) (y := y2) (Gr.stay rb s12 hs) (by omega) (by omega) hN o2 (by omega) (s12.fl hf)) ?_
 rintro _ h3 ⟨x3, y3, k3, rfl, e3, hk3, o3, s3⟩
 repeat' (first
   | refine St.h ?_
   | simp (disch := first | omega | (simp only [lnv]; omega)) only [wlk, ↓get_put', ↓reduceIte, seval]
   | (with_reducible (first | apply cd_split | apply gd_split)) <;> (intro hc; (try simp only [hcn] at hc); (try simp only [hc]); (try simp only [hcl] at hc); try omega))
 subst hQ
 exact ⟨y3, k3, rfl, by omega, by omega, o3, s12.trans s3⟩
theorem medadj_ok {h : H} {v : V} {p : Nat → Nat} {x k : Nat} {s : B} (rb : Rt h v (rwN L p N)) (hx : 1 ≤ x) (hx2 : x + 1 < N) (hN : N ≤ 1000) (o : Ev.Own h s [.i .i64 (k : Int)]) (hk : k ≤ 900) (hs : ∀ q, isOf v q → ¬ q = s) (hf : B.val h.floor ≤ B.val h.next) : FnOk Try.prog 88 [v, .i .i64 (x : Int), .p s 0 0 1, .f 50 []] h fun r h' =>
   ∃ m k' : Nat, r = .i .i64 (m : Int) ∧ (x ≤ m + 1 ∧ m ≤ x + 1) ∧ k' ≤ k + 3 ∧ Ev.Own h' s [.i .i64 (k' : Int)] ∧ Stay (fun i => i = s) h h' := by
 have e1 : (x : Int) - 1 = ((x - 1 : Nat) : Int) := by omega
 have e2 : (x : Int) + 1 = ((x + 1 : Nat) : Int) := by omega
 refine fn_go c88 (by intro hb; cases hb) (by simp) (by simp) fun Q hQ => ?_
 simp only [slotsF, Nat.reduceAdd]
 repeat' (first
   | refine St.h ?_
   | simp (disch := first | omega | (simp only [lnv]; omega)) only [wlk, ↓get_put', ↓reduceIte, seval, e1, e2]
   | (with_reducible (first | apply cd_split | apply gd_split)) <;> (intro hc; (try simp only [hcn] at hc); (try simp only [hc]); (try simp only [hcl] at hc); try omega))
 refine CL.mk (median_ok (x := x - 1) (y := x) (z := x + 1) rb (by omega) (by omega) (by omega) hN o hk hs hf) ?_
 rintro _ h1 ⟨m, k1, rfl, e1, hk1, o1, s1⟩
 repeat' (first
   | refine St.h ?_
   | simp (disch := first | omega | (simp only [lnv]; omega)) only [wlk, ↓get_put', ↓reduceIte, seval]
   | (with_reducible (first | apply cd_split | apply gd_split)) <;> (intro hc; (try simp only [hcn] at hc); (try simp only [hc]); (try simp only [hcl] at hc); try omega))
 subst hQ
 exact ⟨m, k1, rfl, by omega, hk1, o1, s1⟩
theorem choose_ok {h : H} {v : V} {p : Nat → Nat} {a b : Nat} (rb : Rt h v (rwN L p N)) (h1 : a + 12 < b) (h2 : b ≤ N) (hN : N ≤ 1000) (hf : B.val h.floor ≤ B.val h.next) : FnOk Try.prog 74 [v, .i .i64 (a : Int), .i .i64 (b : Int), .f 50 []] h fun r h' =>
   ∃ (m : Nat) (z : Int), r = .tu [.i .i64 (m : Int), .i .i64 z] ∧ a ≤ m ∧ m < b ∧ Stay nowhere h h' := by
 obtain ⟨n, rfl⟩ : ∃ n, b = a + n := ⟨b - a, by omega⟩
 obtain ⟨d, hd⟩ : ∃ d, d = n / 4 := ⟨_, rfl⟩
 have en : ((a + n : Nat) : Int) - (a : Int) = (n : Int) := by omega
 have ed : (n : Int) / 4 = (d : Int) := by omega
 have ed2 : n / 4 = d := hd.symm
 have e1 : (a : Int) + (d : Int) * 1 = ((a + d : Nat) : Int) := by omega
 have e1' : (a : Int) + (d : Int) = ((a + d : Nat) : Int) := by omega
 have e2 : (a : Int) + (d : Int) * 2 = ((a + 2 * d : Nat) : Int) := by omega
 have e3 : (a : Int) + (d : Int) * 3 = ((a + 3 * d : Nat) : Int) := by omega
 have d8 : ((8 : Int) ≤ (n : Int)) = True := eq_true (by omega)
 refine fn_go c74 (by intro hb; cases hb) (by simp) (by simp) fun Q hQ => ?_
 simp only [slotsF, Nat.reduceAdd]
 repeat' (first
   | refine St.h ?_
   | simp (disch := first | omega | (simp only [lnv]; omega)) only [wlk, ↓get_put', ↓reduceIte, seval, en]
   | (with_reducible (first | apply cd_split | apply gd_split)) <;> (intro hc; (try simp only [hcn] at hc); (try simp only [hc]); (try simp only [hcl] at hc); try omega))
 refine AL.own (by simp) hf fun g1 s1 n1 o1 => ?_
 have hf1 := s1.fl hf
 have rb1 := rb.grow s1
 have hs : ∀ q, isOf v q → ¬ q = h.next := fun q hq e => by have := Gr.lt rb q hq; rw [e] at this; omega
 have fin : ∀ (m k : Nat) g, a ≤ m → m < a + n → Stay nowhere h g → Q (.tu [.i .i64 (m : Int), .i .i64 0]) g ∧ Q (.tu [.i .i64 (m : Int), .i .i64 1]) g ∧ Q (.tu [.i .i64 (m : Int), .i .i64 2]) g := fun m k g h1 h2 s => by
   subst hQ
   exact ⟨⟨m, 0, rfl, h1, h2, s⟩, ⟨m, 1, rfl, h1, h2, s⟩, ⟨m, 2, rfl, h1, h2, s⟩⟩
 have old : B.val h.next < B.val g1.next := by rw [n1]; omega
 by_cases h50 : 50 ≤ n
 · have d50 : ((50 : Int) ≤ (n : Int)) = True := eq_true (by omega)
   repeat' (first
     | refine St.h ?_
     | simp (disch := first | omega | (simp only [lnv]; omega)) only [wlk, ↓get_put', ↓reduceIte, seval, en, ed, ed2, e1, e1', e2, e3, d8, d50, Int.toNat_natCast]
     | (with_reducible (first | apply cd_split | apply gd_split)) <;> (intro hc; (try simp only [hcn] at hc); (try simp only [hc]); (try simp only [hcl] at hc); try omega))
   refine CL.mk (medadj_ok (x := a + d) (k := 0) rb1 (by omega) (by omega) hN o1 (by omega) hs hf1) ?_
   rintro _ g2 ⟨m1, k1, rfl, c1, hk1, o2, s2⟩
   have rb2 := Gr.stay rb1 s2 hs
   have hf2 := s2.fl hf1
   repeat' (first
     | refine St.h ?_
     | simp (disch := first | omega | (simp only [lnv]; omega)) only [wlk, ↓get_put', ↓reduceIte, seval, en, ed, ed2, e1, e1', e2, e3, d8, d50, Int.toNat_natCast]
     | (with_reducible (first | apply cd_split | apply gd_split)) <;> (intro hc; (try simp only [hcn] at hc); (try simp only [hc]); (try simp only [hcl] at hc); try omega))
   refine CL.mk (medadj_ok (x := a + 2 * d) rb2 (by omega) (by omega) hN o2 (by omega) hs hf2) ?_
   rintro _ g3 ⟨m2, k2, rfl, c2, hk2, o3, s3⟩
   have rb3 := Gr.stay rb2 s3 hs
   have hf3 := s3.fl hf2
   repeat' (first
     | refine St.h ?_
     | simp (disch := first | omega | (simp only [lnv]; omega)) only [wlk, ↓get_put', ↓reduceIte, seval, en, ed, ed2, e1, e1', e2, e3, d8, d50, Int.toNat_natCast]
     | (with_reducible (first | apply cd_split | apply gd_split)) <;> (intro hc; (try simp only [hcn] at hc); (try simp only [hc]); (try simp only [hcl] at hc); try omega))
   refine CL.mk (medadj_ok (x := a + 3 * d) rb3 (by omega) (by omega) hN o3 (by omega) hs hf3) ?_
   rintro _ g4 ⟨m3, k3, rfl, c3, hk3, o4, s4⟩
   have rb4 := Gr.stay rb3 s4 hs
   have hf4 := s4.fl hf3
   repeat' (first
     | refine St.h ?_
     | simp (disch := first | omega | (simp only [lnv]; omega)) only [wlk, ↓get_put', ↓reduceIte, seval, en, ed, ed2, e1, e1', e2, e3, d8, d50, Int.toNat_natCast]
     | (with_reducible (first | apply cd_split | apply gd_split)) <;> (intro hc; (try simp only [hcn] at hc); (try simp only [hc]); (try simp only [hcl] at hc); try omega))
   refine CL.mk (median_ok (x := m1) (y := m2) (z := m3) rb4 (by omega) (by omega) (by omega) hN o4 (by omega) hs hf4) ?_
   rintro _ g5 ⟨m, k4, rfl, c4, hk4, o5, s5⟩
   have r5 := o5.row
   have st : Stay nowhere h g5 := s1.past' (s2.trans (s3.trans (s4.trans s5))) fun i e => by rw [e]; exact Nat.le_refl _
   obtain ⟨F0, F1, F2⟩ := fin m k4 g5 (by omega) (by omega) st
   repeat' (first
     | refine St.h ?_
     | simp (disch := first | omega | (simp only [lnv]; omega)) only [wlk, ↓get_put', ↓reduceIte, seval, r5.l1]
     | (with_reducible (first | apply cd_split | apply gd_split)) <;> (intro hc; (try simp only [hcn] at hc); (try simp only [hc]); (try simp only [hcl] at hc); try omega))
   all_goals first | exact F0 | exact F1 | exact F2
 · have d50 : ((50 : Int) ≤ (n : Int)) = False := eq_false (by omega)
   repeat' (first
     | refine St.h ?_
     | simp (disch := first | omega | (simp only [lnv]; omega)) only [wlk, ↓get_put', ↓reduceIte, seval, en, ed, ed2, e1, e1', e2, e3, d8, d50, Int.toNat_natCast]
     | (with_reducible (first | apply cd_split | apply gd_split)) <;> (intro hc; (try simp only [hcn] at hc); (try simp only [hc]); (try simp only [hcl] at hc); try omega))
   refine CL.mk (median_ok (x := a + d) (y := a + 2 * d) (z := a + 3 * d) (k := 0) rb1 (by omega) (by omega) (by omega) hN o1 (by omega) hs hf1) ?_
   rintro _ g5 ⟨m, k4, rfl, c4, hk4, o5, s5⟩
   have r5 := o5.row
   have st : Stay nowhere h g5 := s1.past' s5 fun i e => by rw [e]; exact Nat.le_refl _
   obtain ⟨F0, F1, F2⟩ := fin m k4 g5 (by omega) (by omega) st
   repeat' (first
     | refine St.h ?_
     | simp (disch := first | omega | (simp only [lnv]; omega)) only [wlk, ↓get_put', ↓reduceIte, seval, r5.l1]
     | (with_reducible (first | apply cd_split | apply gd_split)) <;> (intro hc; (try simp only [hcn] at hc); (try simp only [hc]); (try simp only [hcl] at hc); try omega))
   all_goals first | exact F0 | exact F1 | exact F2
theorem break_ok {h : H} {v c : V} {p : Nat → Nat} {a b : Nat} (rb : Rt h v (rwN L p N)) (h1 : a + 12 < b) (h2 : b ≤ N) (hN : N ≤ 200) (hf : B.val h.floor ≤ B.val h.next) : FnOk Try.prog 73 [v, .i .i64 (a : Int), .i .i64 (b : Int), c] h fun r h' =>
   ∃ q, Swp a b p q ∧ Rt h' v (rwN L q N) ∧ Stay (isOf v) h h' := by
 obtain ⟨n, rfl⟩ : ∃ n, b = a + n := ⟨b - a, by omega⟩
 obtain ⟨d, hd⟩ : ∃ d, d = n / 4 := ⟨_, rfl⟩
 obtain ⟨bp1, bp2, bp3⟩ := bitsP_pow n (by omega) (by omega)
 have en : ((a + n : Nat) : Int) - (a : Int) = (n : Int) := by omega
 have ed : (n : Int) / 4 = (d : Int) := by omega
 have ed2 : n / 4 = d := hd.symm
 have d8 : ((8 : Int) ≤ (n : Int)) = True := eq_true (by omega)
 have e1 : (a : Int) + (d : Int) * 2 - 1 = ((a + 2 * d - 1 : Nat) : Int) := by omega
 have e2 : (a : Int) + (d : Int) * 2 + 1 = ((a + 2 * d + 1 : Nat) : Int) := by omega
 have em : ((2 ^ bitsP n : Nat) : Int) - 1 = ((2 ^ bitsP n - 1 : Nat) : Int) := by omega
 have hpw : 2 ^ bitsP n ≤ 400 := by omega
 refine fn_go c73 (by intro hb; cases hb) (by simp) (by simp) fun Q hQ => ?_
 simp only [slotsF, Nat.reduceAdd]
 repeat' (first
   | refine St.h ?_
   | simp (disch := first | omega | (simp only [lnv]; omega)) only [wlk, ↓get_put', ↓reduceIte, seval, en, d8, Int.toNat_natCast]
   | (with_reducible (first | apply cd_split | apply gd_split)) <;> (intro hc; (try simp only [hcn] at hc); (try simp only [hc]); (try simp only [hcl] at hc); try omega))
 refine AL.own (by simp) hf fun g1 s1 n1 o1 => ?_
 have hf1 := s1.fl hf
 have rb1 := rb.grow s1
 have hs : ∀ q, isOf v q → ¬ q = h.next := fun q hq e => by have := Gr.lt rb q hq; rw [e] at this; omega
 repeat' (first
   | refine St.h ?_
   | simp (disch := first | omega | (simp only [lnv]; omega)) only [wlk, ↓get_put', ↓reduceIte, seval, en, d8, Int.toNat_natCast]
   | (with_reducible (first | apply cd_split | apply gd_split)) <;> (intro hc; (try simp only [hcn] at hc); (try simp only [hc]); (try simp only [hcl] at hc); try omega))
 refine ST.own o1 rfl rfl (by omega) (by omega) fun g2 o2 s2 => ?_
 have rb2 := Gr.stay rb1 s2 hs
 have hf2 := s2.fl hf1
 repeat' (first
   | refine St.h ?_
   | simp (disch := first | omega | (simp only [lnv]; omega)) only [wlk, ↓get_put', ↓reduceIte, seval, en, d8, Int.toNat_natCast]
   | (with_reducible (first | apply cd_split | apply gd_split)) <;> (intro hc; (try simp only [hcn] at hc); (try simp only [hc]); (try simp only [hcl] at hc); try omega))
 refine CL.pure (npow_ok (n := n) (by omega)) ?_
 repeat' (first
   | refine St.h ?_
   | simp (disch := first | omega | (simp only [lnv]; omega)) only [wlk, ↓get_put', ↓reduceIte, seval, en, d8, ed, ed2, e1, Int.toNat_natCast]
   | (with_reducible (first | apply cd_split | apply gd_split)) <;> (intro hc; (try simp only [hcn] at hc); (try simp only [hc]); (try simp only [hcl] at hc); try omega))
 generalize hM : 2 ^ bitsP n = M at *
 refine Ok.lp (fun m t g => ∃ (i k : Nat) (q : Nat → Nat), m = a + 2 * d + 2 - i ∧ a + 2 * d ≤ i + 1 ∧ i ≤ a + 2 * d + 2 ∧ k < 18446744073709551616 ∧ get 0 t = v ∧ get 1 t = .i .i64 (a : Int) ∧ get 8 t = .i .i64 (n : Int) ∧ get 9 t = .p h.next 0 0 1 ∧ get 10 t = .i .u64 (M : Int) ∧ get 11 t = .i .i64 (i : Int) ∧ Ev.Own g h.next [.i .u64 (k : Int)] ∧ Swp a (a + n) p q ∧ Rt g v (rwN L q N) ∧ Stay (fun x => isOf v x ∨ x = h.next) g2 g) (a + 2 * d + 2 - (a + 2 * d - 1)) ?_ ?_
 · simp (disch := first | omega | (simp only [lnv]; omega)) only [wlk, ↓get_put', ↓reduceIte, seval, e1]
   refine ⟨a + 2 * d - 1, n, p, rfl, by omega, by omega, by omega, ?_⟩
   refine ⟨?_, ?_, ?_, ?_, ?_, ?_, o2, .refl _, rb2, ⟨rfl, Nat.le_refl _, fun _ _ _ => rfl⟩⟩
   all_goals first | trivial | rfl
 rintro I hI m t g ⟨i, k, q, rfl, hi1, hi2, hk, f0, f1, f8, f9, f10, f11, o3, sw, rb3, st⟩
 have hfg := st.fl hf2
 have big : Stay (isOf v) h g := by
   have x : Stay (fun x => isOf v x ∨ x = h.next) g1 g := (s2.mono fun i _ e => .inr e).trans st
   refine ⟨x.floor.trans s1.floor, Nat.le_trans s1.next x.next, fun id i1 i2 => ?_⟩
   rw [x.get id (Nat.lt_of_lt_of_le i1 s1.next) fun e => by
     rcases e with e | e
     · exact i2 e
     · rw [e] at i1; omega]
   exact s1.get id i1 fun e => e
 by_cases hil : i ≤ a + 2 * d + 1
 case neg =>
   have d1 : ((i : Int) ≤ ((a + 2 * d + 1 : Nat) : Int)) = False := eq_false (by omega)
   repeat' (first
     | refine St.h ?_
     | simp (disch := first | omega | (simp only [lnv]; omega)) only [wlk, ↓get_put', ↓reduceIte, seval, f0, f1, f8, f9, f10, f11, ed, ed2, e2, d1, Int.toNat_natCast]
     | (with_reducible (first | apply cd_split | apply gd_split)) <;> (intro hc; (try simp only [hcn] at hc); (try simp only [hc]); (try simp only [hcl] at hc); try omega))
   subst hQ
   exact ⟨q, sw, rb3, big⟩
 have d1 : ((i : Int) ≤ ((a + 2 * d + 1 : Nat) : Int)) = True := eq_true (by omega)
 repeat' (first
   | refine St.h ?_
   | simp (disch := first | omega | (simp only [lnv]; omega)) only [wlk, ↓get_put', ↓reduceIte, seval, f0, f1, f8, f9, f10, f11, ed, ed2, e2, d1, Int.toNat_natCast]
   | (with_reducible (first | apply cd_split | apply gd_split)) <;> (intro hc; (try simp only [hcn] at hc); (try simp only [hc]); (try simp only [hcl] at hc); try omega))
 refine CL.mk (xors_ok o3 hk hfg) ?_
 rintro _ g4 ⟨k4, hk4, rfl, o4, s4⟩
 have rb4 : Rt g4 v (rwN L q N) := Gr.stay rb3 s4 hs
 obtain ⟨u, hu⟩ : ∃ u, u = k4 &&& (M - 1) := ⟨_, rfl⟩
 have hu2 : u ≤ M - 1 := by rw [hu]; exact Nat.and_le_right
 have W4 := rb4.tbs
 have ln : (rwN L q N).length = N := rwN_len
 have gx : ∀ j, j < N → (rwN L q N).getD j default = L.getD (q j) default := fun j hj => rwN_getD hj
 have gi := gx i (by omega)
 have st4 : Stay (fun x => isOf v x ∨ x = h.next) g2 g4 := st.trans (s4.mono fun _ _ e => .inr e)
 by_cases hun : n ≤ u
 · have d2 : ((n : Int) ≤ (u : Int)) = True := eq_true (by omega)
   have eu : (u : Int) - (n : Int) = ((u - n : Nat) : Int) := by omega
   have i1 : ((a : Int) + ((u - n : Nat) : Int)).toNat = a + (u - n) := by omega
   have g1' := gx (a + (u - n)) (by omega)
   repeat' (first
     | refine St.h ?_
     | simp (disch := first | omega | (simp only [lnv]; omega)) only [wlk, ↓get_put', ↓reduceIte, seval, f0, f1, f8, f9, f10, f11, em, ← hu, d2, eu, i1, gi, g1', W4.ix, W4.la, Int.toNat_natCast]
     | (with_reducible (first | apply cd_split | apply gd_split)) <;> (intro hc; (try simp only [hcn] at hc); (try simp only [hc]); (try simp only [hcl] at hc); try omega))
   refine ST.sw1 rb4 (by omega) (by omega) fun g5 B5 s5 => ?_
   have W5 := B5.tbs
   repeat' (first
     | refine St.h ?_
     | simp (disch := first | omega | (simp only [lnv]; omega)) only [wlk, ↓get_put', ↓reduceIte, seval, f0, f1, f8, f9, f10, f11, eu, i1, W5.ix]
     | (with_reducible (first | apply cd_split | apply gd_split)) <;> (intro hc; (try simp only [hcn] at hc); (try simp only [hc]); (try simp only [hcl] at hc); try omega))
   refine ST.sw2 B5 (by omega) (by omega) fun g6 B6 s6 => ?_
   have s56 := s5.trans s6
   repeat' (first
     | refine St.h ?_
     | simp (disch := first | omega | (simp only [lnv]; omega)) only [wlk, ↓get_put', ↓reduceIte, seval, f0, f1, f8, f9, f10, f11]
     | (with_reducible (first | apply cd_split | apply gd_split)) <;> (intro hc; (try simp only [hcn] at hc); (try simp only [hc]); (try simp only [hcl] at hc); try omega))
   refine lp_next hI (a + 2 * d + 2 - (i + 1)) (by omega) ⟨i + 1, k4, _, rfl, by omega, by omega, hk4, by simp (disch := first | omega | (simp only [lnv]; omega)) only [wlk, ↓get_put', ↓reduceIte, seval, f0], by simp (disch := first | omega | (simp only [lnv]; omega)) only [wlk, ↓get_put', ↓reduceIte, seval, f1], by simp (disch := first | omega | (simp only [lnv]; omega)) only [wlk, ↓get_put', ↓reduceIte, seval, f8], by simp (disch := first | omega | (simp only [lnv]; omega)) only [wlk, ↓get_put', ↓reduceIte, seval, f9], by simp (disch := first | omega | (simp only [lnv]; omega)) only [wlk, ↓get_put', ↓reduceIte, seval, f10], by simp (disch := first | omega | (simp only [lnv]; omega)) only [wlk, ↓get_put', ↓reduceIte, seval, f11]; rfl, o4.stay s56 fun e => hs _ e rfl, sw.trans (.one (by omega) (by omega) (by omega) (by omega)), B6, st4.trans (s56.mono fun _ _ e => .inl e)⟩
 · have d2 : ((n : Int) ≤ (u : Int)) = False := eq_false (by omega)
   have i1 : ((a : Int) + (u : Int)).toNat = a + u := by omega
   have g1' := gx (a + u) (by omega)
   repeat' (first
     | refine St.h ?_
     | simp (disch := first | omega | (simp only [lnv]; omega)) only [wlk, ↓get_put', ↓reduceIte, seval, f0, f1, f8, f9, f10, f11, em, ← hu, d2, i1, gi, g1', W4.ix, W4.la, Int.toNat_natCast]
     | (with_reducible (first | apply cd_split | apply gd_split)) <;> (intro hc; (try simp only [hcn] at hc); (try simp only [hc]); (try simp only [hcl] at hc); try omega))
   refine ST.sw1 rb4 (by omega) (by omega) fun g5 B5 s5 => ?_
   have W5 := B5.tbs
   repeat' (first
     | refine St.h ?_
     | simp (disch := first | omega | (simp only [lnv]; omega)) only [wlk, ↓get_put', ↓reduceIte, seval, f0, f1, f8, f9, f10, f11, i1, W5.ix]
     | (with_reducible (first | apply cd_split | apply gd_split)) <;> (intro hc; (try simp only [hcn] at hc); (try simp only [hc]); (try simp only [hcl] at hc); try omega))
   refine ST.sw2 B5 (by omega) (by omega) fun g6 B6 s6 => ?_
   have s56 := s5.trans s6
   repeat' (first
     | refine St.h ?_
     | simp (disch := first | omega | (simp only [lnv]; omega)) only [wlk, ↓get_put', ↓reduceIte, seval, f0, f1, f8, f9, f10, f11]
     | (with_reducible (first | apply cd_split | apply gd_split)) <;> (intro hc; (try simp only [hcn] at hc); (try simp only [hc]); (try simp only [hcl] at hc); try omega))
   refine lp_next hI (a + 2 * d + 2 - (i + 1)) (by omega) ⟨i + 1, k4, _, rfl, by omega, by omega, hk4, by simp (disch := first | omega | (simp only [lnv]; omega)) only [wlk, ↓get_put', ↓reduceIte, seval, f0], by simp (disch := first | omega | (simp only [lnv]; omega)) only [wlk, ↓get_put', ↓reduceIte, seval, f1], by simp (disch := first | omega | (simp only [lnv]; omega)) only [wlk, ↓get_put', ↓reduceIte, seval, f8], by simp (disch := first | omega | (simp only [lnv]; omega)) only [wlk, ↓get_put', ↓reduceIte, seval, f9], by simp (disch := first | omega | (simp only [lnv]; omega)) only [wlk, ↓get_put', ↓reduceIte, seval, f10], by simp (disch := first | omega | (simp only [lnv]; omega)) only [wlk, ↓get_put', ↓reduceIte, seval, f11]; rfl, o4.stay s56 fun e => hs _ e rfl, sw.trans (.one (by omega) (by omega) (by omega) (by omega)), B6, st4.trans (s56.mono fun _ _ e => .inl e)⟩
end
end Go.Proofs.Ytclpemggclmgeaa

set_option maxRecDepth 100000
set_option maxHeartbeats 8000000
set_option linter.all false
namespace Go.Proofs.Ytclpemggclmgeaa
open Go Go.Ev
section
variable {L : List Tbl} {N : Nat}
theorem parteq_ok {h : H} {v : V} {p : Nat → Nat} {a b c : Nat} (rb0 : Rt h v (rwN L p N)) (h1 : a ≤ c) (h2 : c < b) (h3 : b ≤ N) (hN : N ≤ 1000) (hf : B.val h.floor ≤ B.val h.next) : FnOk Try.prog 77 [v, .i .i64 (a : Int), .i .i64 (b : Int), .i .i64 (c : Int), .f 50 []] h fun r h' =>
   ∃ (m : Nat) (q : Nat → Nat), r = .i .i64 (m : Int) ∧ a < m ∧ m ≤ b ∧ Swp a b p q ∧ (∀ k, a ≤ k → k < m → ltL L (p c) (q k) = false) ∧ (∀ k, m ≤ k → k < b → ltL L (p c) (q k) = true) ∧ Rt h' v (rwN L q N) ∧ Stay (isOf v) h h' := by
 have ln : ∀ q : Nat → Nat, (rwN L q N).length = N := fun q => rwN_len
 have gx : ∀ (q : Nat → Nat) j, j < N → (rwN L q N).getD j default = L.getD (q j) default := fun q j hj => rwN_getD hj
 have irr : ∀ {x}, ltL L x x = false := (ltL_ord L).irr
 have W0 := rb0.tbs
 have l0 := ln p
 have ga := gx p a (by omega)
 have gc := gx p c (by omega)
 refine fn_go c77 (by intro hb; cases hb) (by simp) (by simp) fun Q hQ => ?_
 simp only [slotsF, Nat.reduceAdd]
 repeat' (first
   | refine St.h ?_
   | simp (disch := first | omega | (simp only [lnv]; omega)) only [wlk, ↓get_put', ↓reduceIte, seval, ga, gc, W0.ix, W0.la, Int.toNat_natCast]
   | (with_reducible (first | apply cd_split | apply gd_split)) <;> (intro hc; (try simp only [hcn] at hc); (try simp only [hc]); (try simp only [hcl] at hc); try omega))
 refine ST.sw1 rb0 hN (by omega) fun h5 B5 s5 => ?_
 have W5 := B5.tbs
 repeat' (first
   | refine St.h ?_
   | simp (disch := first | omega | (simp only [lnv]; omega)) only [wlk, ↓get_put', ↓reduceIte, seval, W5.ix, Int.toNat_natCast]
   | (with_reducible (first | apply cd_split | apply gd_split)) <;> (intro hc; (try simp only [hcn] at hc); (try simp only [hc]); (try simp only [hcl] at hc); try omega))
 refine ST.sw2 B5 hN (by omega) fun h6 B6 s6 => ?_
 have st6 := s5.trans s6
 have hea : swN p a c a = p c := sw_r
 generalize he : p c = e at *
 repeat' (first
   | refine St.h ?_
   | simp (disch := first | omega | (simp only [lnv]; omega)) only [wlk, ↓get_put', ↓reduceIte, seval]
   | (with_reducible (first | apply cd_split | apply gd_split)) <;> (intro hc; (try simp only [hcn] at hc); (try simp only [hc]); (try simp only [hcl] at hc); try omega))
 refine Ok.lp (fun m t g => ∃ (i j : Nat) (q : Nat → Nat), m = j - i ∧ a + 1 ≤ i ∧ i ≤ j ∧ j ≤ b ∧ get 0 t = v ∧ get 1 t = .i .i64 (a : Int) ∧ get 4 t = .f 50 [] ∧ get 11 t = .i .i64 (i : Int) ∧ get 12 t = .i .i64 ((j : Int) - 1) ∧ q a = e ∧ (∀ k, a ≤ k → k < i → ltL L e (q k) = false) ∧ (∀ k, j ≤ k → k < b → ltL L e (q k) = true) ∧ Swp a b p q ∧ Rt g v (rwN L q N) ∧ Stay (isOf v) h g) (b - (a + 1)) ?_ ?_
 · simp (disch := first | omega | (simp only [lnv]; omega)) only [wlk, ↓get_put', ↓reduceIte, seval]
   refine ⟨a + 1, b, swN p a c, rfl, by omega, by omega, by omega, ?_⟩
   refine ⟨?_, ?_, ?_, ?_, ?_, hea, fun k k1 k2 => ?_, fun k k1 k2 => by omega, .one (by omega) (by omega) (by omega) (by omega), B6, st6⟩
   rotate_right
   · rw [show k = a by omega, hea]; exact irr
   all_goals first | trivial | rfl
 rintro I hI m t g ⟨i, j, q, rfl, hi, hij, hj, f0, f1, f4, f11, f12, hqa, hlo, hhi, sw, rb, st⟩
 repeat' (first
   | refine St.h ?_
   | simp (disch := first | omega | (simp only [lnv]; omega)) only [wlk, ↓get_put', ↓reduceIte, seval, f0, f1, f4, f11, f12]
   | (with_reducible (first | apply cd_split | apply gd_split)) <;> (intro hc; (try simp only [hcn] at hc); (try simp only [hc]); (try simp only [hcl] at hc); try omega))
 -- from below
 refine Ok.lp (fun m t g => ∃ (i' : Nat), m = j - i' ∧ i ≤ i' ∧ i' ≤ j ∧ get 0 t = v ∧ get 1 t = .i .i64 (a : Int) ∧ get 4 t = .f 50 [] ∧ get 11 t = .i .i64 (i' : Int) ∧ get 12 t = .i .i64 ((j : Int) - 1) ∧ (∀ k, a ≤ k → k < i' → ltL L e (q k) = false) ∧ Rt g v (rwN L q N) ∧ Stay (isOf v) h g) (j - i) ?_ ?_
 · simp (disch := first | omega | (simp only [lnv]; omega)) only [wlk, ↓get_put', ↓reduceIte, seval, f0, f1, f4, f11, f12]
   refine ⟨i, rfl, by omega, by omega, ?_⟩
   refine ⟨?_, ?_, ?_, ?_, ?_, hlo, rb, st⟩
   all_goals first | trivial | rfl
 rintro I1 hI1 m1 t1 g1 ⟨i', rfl, hi', hij', f0, f1, f4, f11, f12, hlo', rb, st⟩
 have hfg := st.fl hf
 have W1 := rb.tbs
 have l1 := ln q
 have g1a := gx q a (by omega)
 by_cases hl : i' < j
 case neg =>
   obtain rfl : i' = j := by omega
   have d1 : ((i' : Int) ≤ (i' : Int) - 1) = False := eq_false (by omega)
   repeat' (first
     | refine St.h ?_
     | simp (disch := first | omega | (simp only [lnv]; omega)) only [wlk, ↓get_put', ↓reduceIte, seval, f0, f1, f4, f11, f12, d1]
     | (with_reducible (first | apply cd_split | apply gd_split)) <;> (intro hc; (try simp only [hcn] at hc); (try simp only [hc]); (try simp only [hcl] at hc); try omega))
   refine Ok.lp (fun m t g => m = 0 ∧ get 11 t = .i .i64 (i' : Int) ∧ get 12 t = .i .i64 ((i' : Int) - 1) ∧ Rt g v (rwN L q N) ∧ Stay (isOf v) h g) 0 ?_ ?_
   · simp (disch := first | omega | (simp only [lnv]; omega)) only [wlk, ↓get_put', ↓reduceIte, seval, f0, f1, f4, f11, f12]
     refine ⟨?_, ?_, ?_, rb, st⟩
     all_goals first | trivial | rfl
   rintro I2 hI2 m2 t2 g2 ⟨rfl, f11, f12, rb, st⟩
   have d2 : ((i' : Int) - 1 < (i' : Int)) = True := eq_true (by omega)
   repeat' (first
     | refine St.h ?_
     | simp (disch := first | omega | (simp only [lnv]; omega)) only [wlk, ↓get_put', ↓reduceIte, seval, f11, f12, d1, d2]
     | (with_reducible (first | apply cd_split | apply gd_split)) <;> (intro hc; (try simp only [hcn] at hc); (try simp only [hc]); (try simp only [hcl] at hc); try omega))
   subst hQ
   exact ⟨i', q, rfl, by omega, by omega, sw, hlo', hhi, rb, st⟩
 have g1i := gx q i' (by omega)
 have d1 : ((i' : Int) ≤ (j : Int) - 1) = True := eq_true (by omega)
 repeat' (first
   | refine St.h ?_
   | simp (disch := first | omega | (simp only [lnv]; omega)) only [wlk, ↓get_put', ↓reduceIte, seval, f0, f1, f4, f11, f12, d1, g1a, g1i, hqa, W1.ix, W1.la, Int.toNat_natCast]
   | (with_reducible (first | apply cd_split | apply gd_split)) <;> (intro hc; (try simp only [hcn] at hc); (try simp only [hc]); (try simp only [hcl] at hc); try omega))
 refine CL.stay (byTier_ok (a := L.getD e default) (b := L.getD (q i') default) hfg) fun g2 s2 => ?_
 have rb2 := rb.grow s2
 have st2 := st.trans (stay_up s2)
 cases hk : ltL L e (q i') with
 | false =>
   have d2 := cmpL_f hk
   repeat' (first
     | refine St.h ?_
     | simp (disch := first | omega | (simp only [lnv]; omega)) only [wlk, ↓get_put', ↓reduceIte, seval, f0, f1, f4, f11, f12, d2]
     | (with_reducible (first | apply cd_split | apply gd_split)) <;> (intro hc; (try simp only [hcn] at hc); (try simp only [hc]); (try simp only [hcl] at hc); try omega))
   refine lp_next hI1 (j - (i' + 1)) (by omega) ⟨i' + 1, rfl, by omega, by omega, by simp (disch := first | omega | (simp only [lnv]; omega)) only [wlk, ↓get_put', ↓reduceIte, seval, f0], by simp (disch := first | omega | (simp only [lnv]; omega)) only [wlk, ↓get_put', ↓reduceIte, seval, f1], by simp (disch := first | omega | (simp only [lnv]; omega)) only [wlk, ↓get_put', ↓reduceIte, seval, f4], by simp (disch := first | omega | (simp only [lnv]; omega)) only [wlk, ↓get_put', ↓reduceIte, seval, f11]; rfl, by simp (disch := first | omega | (simp only [lnv]; omega)) only [wlk, ↓get_put', ↓reduceIte, seval, f12], fun k k1 k2 => ?_, rb2, st2⟩
   by_cases ek : k = i'
   · rw [ek]; exact hk
   · exact hlo' k k1 (by omega)
 | true =>
 have d2 := cmpL_t hk
 repeat' (first
   | refine St.h ?_
   | simp (disch := first | omega | (simp only [lnv]; omega)) only [wlk, ↓get_put', ↓reduceIte, seval, f0, f1, f4, f11, f12, d2]
   | (with_reducible (first | apply cd_split | apply gd_split)) <;> (intro hc; (try simp only [hcn] at hc); (try simp only [hc]); (try simp only [hcl] at hc); try omega))
 -- from above
 refine Ok.lp (fun m t g => ∃ (j' : Nat), m = j' - i' ∧ i' ≤ j' ∧ j' ≤ j ∧ get 0 t = v ∧ get 1 t = .i .i64 (a : Int) ∧ get 4 t = .f 50 [] ∧ get 11 t = .i .i64 (i' : Int) ∧ get 12 t = .i .i64 ((j' : Int) - 1) ∧ (∀ k, j' ≤ k → k < b → ltL L e (q k) = true) ∧ Rt g v (rwN L q N) ∧ Stay (isOf v) h g) (j - i') ?_ ?_
 · simp (disch := first | omega | (simp only [lnv]; omega)) only [wlk, ↓get_put', ↓reduceIte, seval, f0, f1, f4, f11, f12]
   refine ⟨j, rfl, by omega, by omega, ?_⟩
   refine ⟨?_, ?_, ?_, ?_, ?_, hhi, rb2, st2⟩
   all_goals first | trivial | rfl
 rintro I3 hI3 m3 t3 g3 ⟨j', rfl, hj1, hj2, e0, e1, e4, e11, e12, hhi', rb3, st3⟩
 have hf3 := st3.fl hf
 have W3 := rb3.tbs
 by_cases hl2 : i' < j'
 case neg =>
   obtain rfl : j' = i' := by omega
   have d3 : ((j' : Int) ≤ (j' : Int) - 1) = False := eq_false (by omega)
   have d4 : ((j' : Int) - 1 < (j' : Int)) = True := eq_true (by omega)
   repeat' (first
     | refine St.h ?_
     | simp (disch := first | omega | (simp only [lnv]; omega)) only [wlk, ↓get_put', ↓reduceIte, seval, e0, e1, e4, e11, e12, d3, d4]
     | (with_reducible (first | apply cd_split | apply gd_split)) <;> (intro hc; (try simp only [hcn] at hc); (try simp only [hc]); (try simp only [hcl] at hc); try omega))
   subst hQ
   exact ⟨j', q, rfl, by omega, by omega, sw, hlo', hhi', rb3, st3⟩
 obtain ⟨u, rfl⟩ : ∃ u, j' = u + 1 := ⟨j' - 1, by omega⟩
 have eu : ((u + 1 : Nat) : Int) - 1 = (u : Int) := by omega
 rw [eu] at e12
 have g3u := gx q u (by omega)
 have d3 : ((i' : Int) ≤ (u : Int)) = True := eq_true (by omega)
 repeat' (first
   | refine St.h ?_
   | simp (disch := first | omega | (simp only [lnv]; omega)) only [wlk, ↓get_put', ↓reduceIte, seval, e0, e1, e4, e11, e12, d3, g1a, g3u, hqa, W3.ix, W3.la, Int.toNat_natCast]
   | (with_reducible (first | apply cd_split | apply gd_split)) <;> (intro hc; (try simp only [hcn] at hc); (try simp only [hc]); (try simp only [hcl] at hc); try omega))
 refine CL.stay (byTier_ok (a := L.getD e default) (b := L.getD (q u) default) hf3) fun g4 s4 => ?_
 have rb4 := rb3.grow s4
 have st4 := st3.trans (stay_up s4)
 have W4 := rb4.tbs
 cases hk2 : ltL L e (q u) with
 | true =>
   have d4 := cmpL_t hk2
   repeat' (first
     | refine St.h ?_
     | simp (disch := first | omega | (simp only [lnv]; omega)) only [wlk, ↓get_put', ↓reduceIte, seval, e0, e1, e4, e11, e12, d4]
     | (with_reducible (first | apply cd_split | apply gd_split)) <;> (intro hc; (try simp only [hcn] at hc); (try simp only [hc]); (try simp only [hcl] at hc); try omega))
   refine lp_next hI3 (u - i') (by omega) ⟨u, rfl, by omega, by omega, by simp (disch := first | omega | (simp only [lnv]; omega)) only [wlk, ↓get_put', ↓reduceIte, seval, e0], by simp (disch := first | omega | (simp only [lnv]; omega)) only [wlk, ↓get_put', ↓reduceIte, seval, e1], by simp (disch := first | omega | (simp only [lnv]; omega)) only [wlk, ↓get_put', ↓reduceIte, seval, e4], by simp (disch := first | omega | (simp only [lnv]; omega)) only [wlk, ↓get_put', ↓reduceIte, seval, e11], by simp (disch := first | omega | (simp only [lnv]; omega)) only [wlk, ↓get_put', ↓reduceIte, seval, e12], fun k k1 k2 => ?_, rb4, st4⟩
   by_cases ek : k = u
   · rw [ek]; exact hk2
   · exact hhi' k (by omega) k2
 | false =>
   have d4 := cmpL_f hk2
   have hne : u ≠ i' := fun e => by rw [e, hk] at hk2; cases hk2
   have g4u := gx q u (by omega)
   have d5 : ((u : Int) < (i' : Int)) = False := eq_false (by omega)
   repeat' (first
     | refine St.h ?_
     | simp (disch := first | omega | (simp only [lnv]; omega)) only [wlk, ↓get_put', ↓reduceIte, seval, e0, e1, e4, e11, e12, d4, d5, g1i, g4u, W4.ix, W4.la, Int.toNat_natCast]
     | (with_reducible (first | apply cd_split | apply gd_split)) <;> (intro hc; (try simp only [hcn] at hc); (try simp only [hc]); (try simp only [hcl] at hc); try omega))
   refine ST.sw1 rb4 hN (by omega) fun g5 B5 s5 => ?_
   have W5 := B5.tbs
   repeat' (first
     | refine St.h ?_
     | simp (disch := first | omega | (simp only [lnv]; omega)) only [wlk, ↓get_put', ↓reduceIte, seval, e0, e1, e4, e11, e12, W5.ix, Int.toNat_natCast]
     | (with_reducible (first | apply cd_split | apply gd_split)) <;> (intro hc; (try simp only [hcn] at hc); (try simp only [hc]); (try simp only [hcl] at hc); try omega))
   refine ST.sw2 B5 hN (by omega) fun g6 B6 s6 => ?_
   repeat' (first
     | refine St.h ?_
     | simp (disch := first | omega | (simp only [lnv]; omega)) only [wlk, ↓get_put', ↓reduceIte, seval, e0, e1, e4, e11, e12]
     | (with_reducible (first | apply cd_split | apply gd_split)) <;> (intro hc; (try simp only [hcn] at hc); (try simp only [hc]); (try simp only [hcl] at hc); try omega))
   refine lp_next hI (u - (i' + 1)) (by omega) ⟨i' + 1, u, swN q i' u, rfl, by omega, by omega, by omega, by simp (disch := first | omega | (simp only [lnv]; omega)) only [wlk, ↓get_put', ↓reduceIte, seval, e0], by simp (disch := first | omega | (simp only [lnv]; omega)) only [wlk, ↓get_put', ↓reduceIte, seval, e1], by simp (disch := first | omega | (simp only [lnv]; omega)) only [wlk, ↓get_put', ↓reduceIte, seval, e4], by simp (disch := first | omega | (simp only [lnv]; omega)) only [wlk, ↓get_put', ↓reduceIte, seval, e11]; rfl, by simp (disch := first | omega | (simp only [lnv]; omega)) only [wlk, ↓get_put', ↓reduceIte, seval, e12], by rw [sw_o (by omega) (by omega)]; exact hqa, fun k k1 k2 => ?_, fun k k1 k2 => ?_, sw.trans (.one (by omega) (by omega) (by omega) (by omega)), B6, st4.trans (s5.trans s6)⟩
   · by_cases ek : k = i'
     · rw [ek, sw_r]; exact hk2
     · rw [sw_o ek (by omega)]; exact hlo' k k1 (by omega)
   · by_cases ek : k = u
     · rw [ek, sw_l]; exact hk
     · rw [sw_o (by omega) ek]; exact hhi' k (by omega) k2
end
end Go.Proofs.Ytclpemggclmgeaa

set_option maxRecDepth 100000
set_option maxHeartbeats 8000000
set_option linter.all false
namespace Go.Proofs.Ytclpemggclmgeaa
open Go Go.Ev
section
variable {L : List Tbl} {N : Nat}
theorem par_done {R : Nat → Nat → Bool} {q : Nat → Nat} {a b i e : Nat} (o : Ord R) (hi : a + 1 ≤ i) (hb : i ≤ b) (hqa : q a = e) (hlo : ∀ k, a + 1 ≤ k → k < i → R (q k) e = true) (hhi : ∀ k, i ≤ k → k < b → R (q k) e = false) : Par R (swN q (i - 1) a) a b (i - 1) := by
 have h0 : swN q (i - 1) a (i - 1) = e := by rw [sw_r]; exact hqa
 refine ⟨by omega, by omega, fun k k1 k2 => ?_, fun k k1 k2 => ?_⟩
 · rw [h0]
   by_cases ek : k = a
   · rw [ek, sw_l]; exact hlo (i - 1) (by omega) (by omega)
   · rw [sw_o (by omega) ek]; exact hlo k (by omega) (by omega)
 · rw [h0, sw_o (by omega) (by omega)]
   exact hhi k (by omega) k2
theorem part_ok {h : H} {v : V} {p : Nat → Nat} {a b c : Nat} (rb0 : Rt h v (rwN L p N)) (h1 : a ≤ c) (h2 : c < b) (h3 : b ≤ N) (hN : N ≤ 1000) (hf : B.val h.floor ≤ B.val h.next) : FnOk Try.prog 78 [v, .i .i64 (a : Int), .i .i64 (b : Int), .i .i64 (c : Int), .f 50 []] h fun r h' =>
   ∃ (m : Nat) (z : Bool) (q : Nat → Nat), r = .tu [.i .i64 (m : Int), .b z] ∧ Par (ltL L) q a b m ∧ Swp a b p q ∧ Rt h' v (rwN L q N) ∧ Stay (isOf v) h h' := by
 have ln : ∀ q : Nat → Nat, (rwN L q N).length = N := fun q => rwN_len
 have gx : ∀ (q : Nat → Nat) j, j < N → (rwN L q N).getD j default = L.getD (q j) default := fun q j hj => rwN_getD hj
 have o := ltL_ord L
 have W0 := rb0.tbs
 have l0 := ln p
 have ga := gx p a (by omega)
 have gc := gx p c (by omega)
 refine fn_go c78 (by intro hb; cases hb) (by simp) (by simp) fun Q hQ => ?_
 simp only [slotsF, Nat.reduceAdd]
 repeat' (first
   | refine St.h ?_
   | simp (disch := first | omega | (simp only [lnv]; omega)) only [wlk, ↓get_put', ↓reduceIte, seval, ga, gc, W0.ix, W0.la, Int.toNat_natCast]
   | (with_reducible (first | apply cd_split | apply gd_split)) <;> (intro hc; (try simp only [hcn] at hc); (try simp only [hc]); (try simp only [hcl] at hc); try omega))
 refine ST.sw1 rb0 hN (by omega) fun h5 B5 s5 => ?_
 have W5 := B5.tbs
 repeat' (first
   | refine St.h ?_
   | simp (disch := first | omega | (simp only [lnv]; omega)) only [wlk, ↓get_put', ↓reduceIte, seval, W5.ix, Int.toNat_natCast]
   | (with_reducible (first | apply cd_split | apply gd_split)) <;> (intro hc; (try simp only [hcn] at hc); (try simp only [hc]); (try simp only [hcl] at hc); try omega))
 refine ST.sw2 B5 hN (by omega) fun h6 B6 s6 => ?_
 have st6 := s5.trans s6
 have hea : swN p a c a = p c := sw_r
 have sw0 : Swp a b p (swN p a c) := .one (by omega) (by omega) (by omega) (by omega)
 generalize he : p c = e at *
 generalize hp0 : swN p a c = p0 at *
 repeat' (first
   | refine St.h ?_
   | simp (disch := first | omega | (simp only [lnv]; omega)) only [wlk, ↓get_put', ↓reduceIte, seval]
   | (with_reducible (first | apply cd_split | apply gd_split)) <;> (intro hc; (try simp only [hcn] at hc); (try simp only [hc]); (try simp only [hcl] at hc); try omega))
 -- from below
 refine Ok.lp (fun m t g => ∃ (i : Nat), m = b - i ∧ a + 1 ≤ i ∧ i ≤ b ∧ get 0 t = v ∧ get 1 t = .i .i64 (a : Int) ∧ get 4 t = .f 50 [] ∧ get 12 t = .i .i64 (i : Int) ∧ get 13 t = .i .i64 ((b : Int) - 1) ∧ (∀ k, a + 1 ≤ k → k < i → ltL L (p0 k) e = true) ∧ Rt g v (rwN L p0 N) ∧ Stay (isOf v) h g) (b - (a + 1)) ?_ ?_
 · simp (disch := first | omega | (simp only [lnv]; omega)) only [wlk, ↓get_put', ↓reduceIte, seval]
   refine ⟨a + 1, rfl, by omega, by omega, ?_⟩
   refine ⟨?_, ?_, ?_, ?_, ?_, fun k k1 k2 => by omega, B6, st6⟩
   all_goals first | trivial | rfl
 rintro I1 hI1 m1 t1 g1 ⟨i, rfl, hi, hib, f0, f1, f4, f12, f13, hlo, rb, st⟩
 have hfg := st.fl hf
 have W1 := rb.tbs
 have l1 := ln p0
 have g1a := gx p0 a (by omega)
 by_cases hl : i < b
 case neg =>
   obtain rfl : i = b := by omega
   have d1 : ((i : Int) ≤ (i : Int) - 1) = False := eq_false (by omega)
   repeat' (first
     | refine St.h ?_
     | simp (disch := first | omega | (simp only [lnv]; omega)) only [wlk, ↓get_put', ↓reduceIte, seval, f0, f1, f4, f12, f13, d1]
     | (with_reducible (first | apply cd_split | apply gd_split)) <;> (intro hc; (try simp only [hcn] at hc); (try simp only [hc]); (try simp only [hcl] at hc); try omega))
   refine Ok.lp (fun m t g => m = 0 ∧ get 0 t = v ∧ get 1 t = .i .i64 (a : Int) ∧ get 12 t = .i .i64 (i : Int) ∧ get 13 t = .i .i64 ((i : Int) - 1) ∧ Rt g v (rwN L p0 N) ∧ Stay (isOf v) h g) 0 ?_ ?_
   · simp (disch := first | omega | (simp only [lnv]; omega)) only [wlk, ↓get_put', ↓reduceIte, seval, f0, f1, f4, f12, f13]
     refine ⟨?_, ?_, ?_, ?_, ?_, rb, st⟩
     all_goals first | trivial | rfl
   rintro I2 hI2 m2 t2 g2 ⟨rfl, f0, f1, f12, f13, rb, st⟩
   have d2 : ((i : Int) - 1 < (i : Int)) = True := eq_true (by omega)
   have ei : (i : Int) - 1 = ((i - 1 : Nat) : Int) := by omega
   rw [ei] at f13 d1 d2
   have W2 := rb.tbs
   have gj := gx p0 (i - 1) (by omega)
   repeat' (first
     | refine St.h ?_
     | simp (disch := first | omega | (simp only [lnv]; omega)) only [wlk, ↓get_put', ↓reduceIte, seval, f0, f1, f12, f13, d1, d2, g1a, gj, W2.ix, W2.la, Int.toNat_natCast]
     | (with_reducible (first | apply cd_split | apply gd_split)) <;> (intro hc; (try simp only [hcn] at hc); (try simp only [hc]); (try simp only [hcl] at hc); try omega))
   refine ST.sw1 rb hN (by omega) fun h7 B7 s7 => ?_
   have W7 := B7.tbs
   repeat' (first
     | refine St.h ?_
     | simp (disch := first | omega | (simp only [lnv]; omega)) only [wlk, ↓get_put', ↓reduceIte, seval, f0, f1, f12, f13, W7.ix, Int.toNat_natCast]
     | (with_reducible (first | apply cd_split | apply gd_split)) <;> (intro hc; (try simp only [hcn] at hc); (try simp only [hc]); (try simp only [hcl] at hc); try omega))
   refine ST.sw2 B7 hN (by omega) fun h8 B8 s8 => ?_
   repeat' (first
     | refine St.h ?_
     | simp (disch := first | omega | (simp only [lnv]; omega)) only [wlk, ↓get_put', ↓reduceIte, seval, f0, f1, f12, f13]
     | (with_reducible (first | apply cd_split | apply gd_split)) <;> (intro hc; (try simp only [hcn] at hc); (try simp only [hc]); (try simp only [hcl] at hc); try omega))
   subst hQ
   exact ⟨i - 1, true, _, rfl, par_done o hi (Nat.le_refl _) hea hlo fun k k1 k2 => by omega, sw0.trans (.one (by omega) (by omega) (by omega) (by omega)), B8, st.trans (s7.trans s8)⟩
 have g1i := gx p0 i (by omega)
 have d1 : ((i : Int) ≤ (b : Int) - 1) = True := eq_true (by omega)
 repeat' (first
   | refine St.h ?_
   | simp (disch := first | omega | (simp only [lnv]; omega)) only [wlk, ↓get_put', ↓reduceIte, seval, f0, f1, f4, f12, f13, d1, g1a, g1i, hea, W1.ix, W1.la, Int.toNat_natCast]
   | (with_reducible (first | apply cd_split | apply gd_split)) <;> (intro hc; (try simp only [hcn] at hc); (try simp only [hc]); (try simp only [hcl] at hc); try omega))
 refine CL.stay (byTier_ok (a := L.getD (p0 i) default) (b := L.getD e default) hfg) fun g2 s2 => ?_
 have rb2 := rb.grow s2
 have st2 := st.trans (stay_up s2)
 cases hk : ltL L (p0 i) e with
 | true =>
   have d2 := cmpL_t hk
   repeat' (first
     | refine St.h ?_
     | simp (disch := first | omega | (simp only [lnv]; omega)) only [wlk, ↓get_put', ↓reduceIte, seval, f0, f1, f4, f12, f13, d2]
     | (with_reducible (first | apply cd_split | apply gd_split)) <;> (intro hc; (try simp only [hcn] at hc); (try simp only [hc]); (try simp only [hcl] at hc); try omega))
   refine lp_next hI1 (b - (i + 1)) (by omega) ⟨i + 1, rfl, by omega, by omega, by simp (disch := first | omega | (simp only [lnv]; omega)) only [wlk, ↓get_put', ↓reduceIte, seval, f0], by simp (disch := first | omega | (simp only [lnv]; omega)) only [wlk, ↓get_put', ↓reduceIte, seval, f1], by simp (disch := first | omega | (simp only [lnv]; omega)) only [wlk, ↓get_put', ↓reduceIte, seval, f4], by simp (disch := first | omega | (simp only [lnv]; omega)) only [wlk, ↓get_put', ↓reduceIte, seval, f12]; rfl, by simp (disch := first | omega | (simp only [lnv]; omega)) only [wlk, ↓get_put', ↓reduceIte, seval, f13], fun k k1 k2 => ?_, rb2, st2⟩
   by_cases ek : k = i
   · rw [ek]; exact hk
   · exact hlo k k1 (by omega)
 | false =>
 have d2 := cmpL_f hk
 repeat' (first
   | refine St.h ?_
   | simp (disch := first | omega | (simp only [lnv]; omega)) only [wlk, ↓get_put', ↓reduceIte, seval, f0, f1, f4, f12, f13, d2]
   | (with_reducible (first | apply cd_split | apply gd_split)) <;> (intro hc; (try simp only [hcn] at hc); (try simp only [hc]); (try simp only [hcl] at hc); try omega))
 -- from above
 refine Ok.lp (fun m t g => ∃ (j : Nat), m = j - i ∧ i ≤ j ∧ j ≤ b ∧ get 0 t = v ∧ get 1 t = .i .i64 (a : Int) ∧ get 4 t = .f 50 [] ∧ get 12 t = .i .i64 (i : Int) ∧ get 13 t = .i .i64 ((j : Int) - 1) ∧ (∀ k, j ≤ k → k < b → ltL L (p0 k) e = false) ∧ Rt g v (rwN L p0 N) ∧ Stay (isOf v) h g) (b - i) ?_ ?_
 · simp (disch := first | omega | (simp only [lnv]; omega)) only [wlk, ↓get_put', ↓reduceIte, seval, f0, f1, f4, f12, f13]
   refine ⟨b, rfl, by omega, by omega, ?_⟩
   refine ⟨?_, ?_, ?_, ?_, ?_, fun k k1 k2 => by omega, rb2, st2⟩
   all_goals first | trivial | rfl
 rintro I3 hI3 m3 t3 g3 ⟨j, rfl, hij, hjb, e0, e1, e4, e12, e13, hhi, rb3, st3⟩
 have hf3 := st3.fl hf
 have W3 := rb3.tbs
 by_cases hl2 : i < j
 case neg =>
   obtain rfl : j = i := by omega
   have d3 : ((j : Int) ≤ (j : Int) - 1) = False := eq_false (by omega)
   have d4 : ((j : Int) - 1 < (j : Int)) = True := eq_true (by omega)
   have ei : (j : Int) - 1 = ((j - 1 : Nat) : Int) := by omega
   rw [ei] at e13 d3 d4
   have gj := gx p0 (j - 1) (by omega)
   repeat' (first
     | refine St.h ?_
     | simp (disch := first | omega | (simp only [lnv]; omega)) only [wlk, ↓get_put', ↓reduceIte, seval, e0, e1, e4, e12, e13, d3, d4, g1a, gj, W3.ix, W3.la, Int.toNat_natCast]
     | (with_reducible (first | apply cd_split | apply gd_split)) <;> (intro hc; (try simp only [hcn] at hc); (try simp only [hc]); (try simp only [hcl] at hc); try omega))
   refine ST.sw1 rb3 hN (by omega) fun h7 B7 s7 => ?_
   have W7 := B7.tbs
   repeat' (first
     | refine St.h ?_
     | simp (disch := first | omega | (simp only [lnv]; omega)) only [wlk, ↓get_put', ↓reduceIte, seval, e0, e1, e12, e13, W7.ix, Int.toNat_natCast]
     | (with_reducible (first | apply cd_split | apply gd_split)) <;> (intro hc; (try simp only [hcn] at hc); (try simp only [hc]); (try simp only [hcl] at hc); try omega))
   refine ST.sw2 B7 hN (by omega) fun h8 B8 s8 => ?_
   repeat' (first
     | refine St.h ?_
     | simp (disch := first | omega | (simp only [lnv]; omega)) only [wlk, ↓get_put', ↓reduceIte, seval, e0, e1, e12, e13]
     | (with_reducible (first | apply cd_split | apply gd_split)) <;> (intro hc; (try simp only [hcn] at hc); (try simp only [hc]); (try simp only [hcl] at hc); try omega))
   subst hQ
   exact ⟨j - 1, true, _, rfl, par_done o hi (by omega) hea hlo hhi, sw0.trans (.one (by omega) (by omega) (by omega) (by omega)), B8, st3.trans (s7.trans s8)⟩
 obtain ⟨u, rfl⟩ : ∃ u, j = u + 1 := ⟨j - 1, by omega⟩
 have eu : ((u + 1 : Nat) : Int) - 1 = (u : Int) := by omega
 rw [eu] at e13
 have g3u := gx p0 u (by omega)
 have d3 : ((i : Int) ≤ (u : Int)) = True := eq_true (by omega)
 repeat' (first
   | refine St.h ?_
   | simp (disch := first | omega | (simp only [lnv]; omega)) only [wlk, ↓get_put', ↓reduceIte, seval, e0, e1, e4, e12, e13, d3, g1a, g3u, hea, W3.ix, W3.la, Int.toNat_natCast]
   | (with_reducible (first | apply cd_split | apply gd_split)) <;> (intro hc; (try simp only [hcn] at hc); (try simp only [hc]); (try simp only [hcl] at hc); try omega))
 refine CL.stay (byTier_ok (a := L.getD (p0 u) default) (b := L.getD e default) hf3) fun g4 s4 => ?_
 have rb4 := rb3.grow s4
 have st4 := st3.trans (stay_up s4)
 have W4 := rb4.tbs
 cases hk2 : ltL L (p0 u) e with
 | false =>
   have d4 := cmpL_f hk2
   repeat' (first
     | refine St.h ?_
     | simp (disch := first | omega | (simp only [lnv]; omega)) only [wlk, ↓get_put', ↓reduceIte, seval, e0, e1, e4, e12, e13, d4]
     | (with_reducible (first | apply cd_split | apply gd_split)) <;> (intro hc; (try simp only [hcn] at hc); (try simp only [hc]); (try simp only [hcl] at hc); try omega))
   refine lp_next hI3 (u - i) (by omega) ⟨u, rfl, by omega, by omega, by simp (disch := first | omega | (simp only [lnv]; omega)) only [wlk, ↓get_put', ↓reduceIte, seval, e0], by simp (disch := first | omega | (simp only [lnv]; omega)) only [wlk, ↓get_put', ↓reduceIte, seval, e1], by simp (disch := first | omega | (simp only [lnv]; omega)) only [wlk, ↓get_put', ↓reduceIte, seval, e4], by simp (disch := first | omega | (simp only [lnv]; omega)) only [wlk, ↓get_put', ↓reduceIte, seval, e12], by simp (disch := first | omega | (simp only [lnv]; omega)) only [wlk, ↓get_put', ↓reduceIte, seval, e13], fun k k1 k2 => ?_, rb4, st4⟩
   by_cases ek : k = u
   · rw [ek]; exact hk2
   · exact hhi k (by omega) k2
 | true =>
 have d4 := cmpL_t hk2
 have hne : u ≠ i := fun e => by rw [e, hk] at hk2; cases hk2
 have d5 : ((u : Int) < (i : Int)) = False := eq_false (by omega)
 repeat' (first
   | refine St.h ?_
   | simp (disch := first | omega | (simp only [lnv]; omega)) only [wlk, ↓get_put', ↓reduceIte, seval, e0, e1, e4, e12, e13, d4, d5, g1i, g3u, W4.ix, W4.la, Int.toNat_natCast]
   | (with_reducible (first | apply cd_split | apply gd_split)) <;> (intro hc; (try simp only [hcn] at hc); (try simp only [hc]); (try simp only [hcl] at hc); try omega))
 refine ST.sw1 rb4 hN (by omega) fun g5 B5 s5 => ?_
 have W5 := B5.tbs
 repeat' (first
   | refine St.h ?_
   | simp (disch := first | omega | (simp only [lnv]; omega)) only [wlk, ↓get_put', ↓reduceIte, seval, e0, e1, e4, e12, e13, W5.ix, Int.toNat_natCast]
   | (with_reducible (first | apply cd_split | apply gd_split)) <;> (intro hc; (try simp only [hcn] at hc); (try simp only [hc]); (try simp only [hcl] at hc); try omega))
 refine ST.sw2 B5 hN (by omega) fun g6 B6 s6 => ?_
 have st7 := st4.trans (s5.trans s6)
 repeat' (first
   | refine St.h ?_
   | simp (disch := first | omega | (simp only [lnv]; omega)) only [wlk, ↓get_put', ↓reduceIte, seval, e0, e1, e4, e12, e13]
   | (with_reducible (first | apply cd_split | apply gd_split)) <;> (intro hc; (try simp only [hcn] at hc); (try simp only [hc]); (try simp only [hcl] at hc); try omega))
 -- both ends close in
 refine Ok.lp (fun m t g => ∃ (i j : Nat) (q : Nat → Nat), m = j - i ∧ a + 1 ≤ i ∧ i ≤ j ∧ j ≤ b ∧ get 0 t = v ∧ get 1 t = .i .i64 (a : Int) ∧ get 4 t = .f 50 [] ∧ get 12 t = .i .i64 (i : Int) ∧ get 13 t = .i .i64 ((j : Int) - 1) ∧ q a = e ∧ (∀ k, a + 1 ≤ k → k < i → ltL L (q k) e = true) ∧ (∀ k, j ≤ k → k < b → ltL L (q k) e = false) ∧ Swp a b p q ∧ Rt g v (rwN L q N) ∧ Stay (isOf v) h g) (u - (i + 1)) ?_ ?_
 · simp (disch := first | omega | (simp only [lnv]; omega)) only [wlk, ↓get_put', ↓reduceIte, seval, e0, e1, e4, e12, e13]
   refine ⟨i + 1, u, swN p0 i u, rfl, by omega, by omega, by omega, ?_⟩
   refine ⟨?_, ?_, ?_, ?_, ?_, by rw [sw_o (by omega) (by omega)]; exact hea, fun k k1 k2 => ?_, fun k k1 k2 => ?_, sw0.trans (.one (by omega) (by omega) (by omega) (by omega)), B6, st7⟩
   rotate_right
   · by_cases ek : k = u
     · rw [ek, sw_l]; exact hk
     · rw [sw_o (by omega) ek]; exact hhi k (by omega) k2
   rotate_right
   · by_cases ek : k = i
     · rw [ek, sw_r]; exact hk2
     · rw [sw_o ek (by omega)]; exact hlo k k1 (by omega)
   all_goals first | trivial | rfl
 clear hlo hhi hk hk2 g1a g1i g3u W1 W3 W4 W5 rb rb2 rb3 rb4 B5 B6 hI1 hI3 f0 f1 f4 f12 f13 e0 e1 e4 e12 e13
 rintro I hI m t g ⟨i, j, q, rfl, hi, hij, hj, f0, f1, f4, f12, f13, hqa, hlo, hhi, sw, rb, st⟩
 have g1a := gx q a (by omega)
 have lq := ln q
 repeat' (first
   | refine St.h ?_
   | simp (disch := first | omega | (simp only [lnv]; omega)) only [wlk, ↓get_put', ↓reduceIte, seval, f0, f1, f4, f12, f13]
   | (with_reducible (first | apply cd_split | apply gd_split)) <;> (intro hc; (try simp only [hcn] at hc); (try simp only [hc]); (try simp only [hcl] at hc); try omega))
 refine Ok.lp (fun m t g => ∃ (i' : Nat), m = j - i' ∧ i ≤ i' ∧ i' ≤ j ∧ get 0 t = v ∧ get 1 t = .i .i64 (a : Int) ∧ get 4 t = .f 50 [] ∧ get 12 t = .i .i64 (i' : Int) ∧ get 13 t = .i .i64 ((j : Int) - 1) ∧ (∀ k, a + 1 ≤ k → k < i' → ltL L (q k) e = true) ∧ Rt g v (rwN L q N) ∧ Stay (isOf v) h g) (j - i) ?_ ?_
 · simp (disch := first | omega | (simp only [lnv]; omega)) only [wlk, ↓get_put', ↓reduceIte, seval, f0, f1, f4, f12, f13]
   refine ⟨i, rfl, by omega, by omega, ?_⟩
   refine ⟨?_, ?_, ?_, ?_, ?_, hlo, rb, st⟩
   all_goals first | trivial | rfl
 rintro I1 hI1 m1 t1 g1 ⟨i', rfl, hi', hij', f0, f1, f4, f12, f13, hlo', rb, st⟩
 have hfg := st.fl hf
 have W1 := rb.tbs
 by_cases hl : i' < j
 case neg =>
   obtain rfl : i' = j := by omega
   have d1 : ((i' : Int) ≤ (i' : Int) - 1) = False := eq_false (by omega)
   repeat' (first
     | refine St.h ?_
     | simp (disch := first | omega | (simp only [lnv]; omega)) only [wlk, ↓get_put', ↓reduceIte, seval, f0, f1, f4, f12, f13, d1]
     | (with_reducible (first | apply cd_split | apply gd_split)) <;> (intro hc; (try simp only [hcn] at hc); (try simp only [hc]); (try simp only [hcl] at hc); try omega))
   refine Ok.lp (fun m t g => m = 0 ∧ get 0 t = v ∧ get 1 t = .i .i64 (a : Int) ∧ get 12 t = .i .i64 (i' : Int) ∧ get 13 t = .i .i64 ((i' : Int) - 1) ∧ Rt g v (rwN L q N) ∧ Stay (isOf v) h g) 0 ?_ ?_
   · simp (disch := first | omega | (simp only [lnv]; omega)) only [wlk, ↓get_put', ↓reduceIte, seval, f0, f1, f4, f12, f13]
     refine ⟨?_, ?_, ?_, ?_, ?_, rb, st⟩
     all_goals first | trivial | rfl
   rintro I2 hI2 m2 t2 g2 ⟨rfl, f0, f1, f12, f13, rb, st⟩
   have d2 : ((i' : Int) - 1 < (i' : Int)) = True := eq_true (by omega)
   have ei : (i' : Int) - 1 = ((i' - 1 : Nat) : Int) := by omega
   rw [ei] at f13 d1 d2
   have W2 := rb.tbs
   have gj := gx q (i' - 1) (by omega)
   repeat' (first
     | refine St.h ?_
     | simp (disch := first | omega | (simp only [lnv]; omega)) only [wlk, ↓get_put', ↓reduceIte, seval, f0, f1, f12, f13, d1, d2, g1a, gj, W2.ix, W2.la, Int.toNat_natCast]
     | (with_reducible (first | apply cd_split | apply gd_split)) <;> (intro hc; (try simp only [hcn] at hc); (try simp only [hc]); (try simp only [hcl] at hc); try omega))
   refine ST.sw1 rb hN (by omega) fun h7 B7 s7 => ?_
   have W7 := B7.tbs
   repeat' (first
     | refine St.h ?_
     | simp (disch := first | omega | (simp only [lnv]; omega)) only [wlk, ↓get_put', ↓reduceIte, seval, f0, f1, f12, f13, W7.ix, Int.toNat_natCast]
     | (with_reducible (first | apply cd_split | apply gd_split)) <;> (intro hc; (try simp only [hcn] at hc); (try simp only [hc]); (try simp only [hcl] at hc); try omega))
   refine ST.sw2 B7 hN (by omega) fun h8 B8 s8 => ?_
   repeat' (first
     | refine St.h ?_
     | simp (disch := first | omega | (simp only [lnv]; omega)) only [wlk, ↓get_put', ↓reduceIte, seval, f0, f1, f12, f13]
     | (with_reducible (first | apply cd_split | apply gd_split)) <;> (intro hc; (try simp only [hcn] at hc); (try simp only [hc]); (try simp only [hcl] at hc); try omega))
   subst hQ
   exact ⟨i' - 1, false, _, rfl, par_done o (by omega) hj hqa hlo' hhi, sw.trans (.one (by omega) (by omega) (by omega) (by omega)), B8, st.trans (s7.trans s8)⟩
 have g1i := gx q i' (by omega)
 have d1 : ((i' : Int) ≤ (j : Int) - 1) = True := eq_true (by omega)
 repeat' (first
   | refine St.h ?_
   | simp (disch := first | omega | (simp only [lnv]; omega)) only [wlk, ↓get_put', ↓reduceIte, seval, f0, f1, f4, f12, f13, d1, g1a, g1i, hqa, W1.ix, W1.la, Int.toNat_natCast]
   | (with_reducible (first | apply cd_split | apply gd_split)) <;> (intro hc; (try simp only [hcn] at hc); (try simp only [hc]); (try simp only [hcl] at hc); try omega))
 refine CL.stay (byTier_ok (a := L.getD (q i') default) (b := L.getD e default) hfg) fun g2 s2 => ?_
 have rb2 := rb.grow s2
 have st2 := st.trans (stay_up s2)
 cases hk : ltL L (q i') e with
 | true =>
   have d2 := cmpL_t hk
   repeat' (first
     | refine St.h ?_
     | simp (disch := first | omega | (simp only [lnv]; omega)) only [wlk, ↓get_put', ↓reduceIte, seval, f0, f1, f4, f12, f13, d2]
     | (with_reducible (first | apply cd_split | apply gd_split)) <;> (intro hc; (try simp only [hcn] at hc); (try simp only [hc]); (try simp only [hcl] at hc); try omega))
   refine lp_next hI1 (j - (i' + 1)) (by omega) ⟨i' + 1, rfl, by omega, by omega, by simp (disch := first | omega | (simp only [lnv]; omega)) only [wlk, ↓get_put', ↓reduceIte, seval, f0], by simp (disch := first | omega | (simp only [lnv]; omega)) only [wlk, ↓get_put', ↓reduceIte, seval, f1], by simp (disch := first | omega | (simp only [lnv]; omega)) only [wlk, ↓get_put', ↓reduceIte, seval, f4], by simp (disch := first | omega | (simp only [lnv]; omega)) only [wlk, ↓get_put', ↓reduceIte, seval, f12]; rfl, by simp (disch := first | omega | (simp only [lnv]; omega)) only [wlk, ↓get_put', ↓reduceIte, seval, f13], fun k k1 k2 => ?_, rb2, st2⟩
   by_cases ek : k = i'
   · rw [ek]; exact hk
   · exact hlo' k k1 (by omega)
 | false =>
 have d2 := cmpL_f hk
 repeat' (first
   | refine St.h ?_
   | simp (disch := first | omega | (simp only [lnv]; omega)) only [wlk, ↓get_put', ↓reduceIte, seval, f0, f1, f4, f12, f13, d2]
   | (with_reducible (first | apply cd_split | apply gd_split)) <;> (intro hc; (try simp only [hcn] at hc); (try simp only [hc]); (try simp only [hcl] at hc); try omega))
 refine Ok.lp (fun m t g => ∃ (j' : Nat), m = j' - i' ∧ i' ≤ j' ∧ j' ≤ j ∧ get 0 t = v ∧ get 1 t = .i .i64 (a : Int) ∧ get 4 t = .f 50 [] ∧ get 12 t = .i .i64 (i' : Int) ∧ get 13 t = .i .i64 ((j' : Int) - 1) ∧ (∀ k, j' ≤ k → k < b → ltL L (q k) e = false) ∧ Rt g v (rwN L q N) ∧ Stay (isOf v) h g) (j - i') ?_ ?_
 · simp (disch := first | omega | (simp only [lnv]; omega)) only [wlk, ↓get_put', ↓reduceIte, seval, f0, f1, f4, f12, f13]
   refine ⟨j, rfl, by omega, by omega, ?_⟩
   refine ⟨?_, ?_, ?_, ?_, ?_, hhi, rb2, st2⟩
   all_goals first | trivial | rfl
 rintro I3 hI3 m3 t3 g3 ⟨j', rfl, hj1, hj2, e0, e1, e4, e12, e13, hhi', rb3, st3⟩
 have hf3 := st3.fl hf
 have W3 := rb3.tbs
 by_cases hl2 : i' < j'
 case neg =>
   obtain rfl : j' = i' := by omega
   have d3 : ((j' : Int) ≤ (j' : Int) - 1) = False := eq_false (by omega)
   have d4 : ((j' : Int) - 1 < (j' : Int)) = True := eq_true (by omega)
   have ei : (j' : Int) - 1 = ((j' - 1 : Nat) : Int) := by omega
   rw [ei] at e13 d3 d4
   have gj := gx q (j' - 1) (by omega)
   repeat' (first
     | refine St.h ?_
     | simp (disch := first | omega | (simp only [lnv]; omega)) only [wlk, ↓get_put', ↓reduceIte, seval, e0, e1, e4, e12, e13, d3, d4, g1a, gj, W3.ix, W3.la, Int.toNat_natCast]
     | (with_reducible (first | apply cd_split | apply gd_split)) <;> (intro hc; (try simp only [hcn] at hc); (try simp only [hc]); (try simp only [hcl] at hc); try omega))
   refine ST.sw1 rb3 hN (by omega) fun h7 B7 s7 => ?_
   have W7 := B7.tbs
   repeat' (first
     | refine St.h ?_
     | simp (disch := first | omega | (simp only [lnv]; omega)) only [wlk, ↓get_put', ↓reduceIte, seval, e0, e1, e12, e13, W7.ix, Int.toNat_natCast]
     | (with_reducible (first | apply cd_split | apply gd_split)) <;> (intro hc; (try simp only [hcn] at hc); (try simp only [hc]); (try simp only [hcl] at hc); try omega))
   refine ST.sw2 B7 hN (by omega) fun h8 B8 s8 => ?_
   repeat' (first
     | refine St.h ?_
     | simp (disch := first | omega | (simp only [lnv]; omega)) only [wlk, ↓get_put', ↓reduceIte, seval, e0, e1, e12, e13]
     | (with_reducible (first | apply cd_split | apply gd_split)) <;> (intro hc; (try simp only [hcn] at hc); (try simp only [hc]); (try simp only [hcl] at hc); try omega))
   subst hQ
   exact ⟨j' - 1, false, _, rfl, par_done o (by omega) (by omega) hqa hlo' hhi', sw.trans (.one (by omega) (by omega) (by omega) (by omega)), B8, st3.trans (s7.trans s8)⟩
 obtain ⟨u, rfl⟩ : ∃ u, j' = u + 1 := ⟨j' - 1, by omega⟩
 have eu : ((u + 1 : Nat) : Int) - 1 = (u : Int) := by omega
 rw [eu] at e13
 have g3u := gx q u (by omega)
 have d3 : ((i' : Int) ≤ (u : Int)) = True := eq_true (by omega)
 repeat' (first
   | refine St.h ?_
   | simp (disch := first | omega | (simp only [lnv]; omega)) only [wlk, ↓get_put', ↓reduceIte, seval, e0, e1, e4, e12, e13, d3, g1a, g3u, hqa, W3.ix, W3.la, Int.toNat_natCast]
   | (with_reducible (first | apply cd_split | apply gd_split)) <;> (intro hc; (try simp only [hcn] at hc); (try simp only [hc]); (try simp only [hcl] at hc); try omega))
 refine CL.stay (byTier_ok (a := L.getD (q u) default) (b := L.getD e default) hf3) fun g4 s4 => ?_
 have rb4 := rb3.grow s4
 have st4 := st3.trans (stay_up s4)
 have W4 := rb4.tbs
 cases hk2 : ltL L (q u) e with
 | false =>
   have d4 := cmpL_f hk2
   repeat' (first
     | refine St.h ?_
     | simp (disch := first | omega | (simp only [lnv]; omega)) only [wlk, ↓get_put', ↓reduceIte, seval, e0, e1, e4, e12, e13, d4]
     | (with_reducible (first | apply cd_split | apply gd_split)) <;> (intro hc; (try simp only [hcn] at hc); (try simp only [hc]); (try simp only [hcl] at hc); try omega))
   refine lp_next hI3 (u - i') (by omega) ⟨u, rfl, by omega, by omega, by simp (disch := first | omega | (simp only [lnv]; omega)) only [wlk, ↓get_put', ↓reduceIte, seval, e0], by simp (disch := first | omega | (simp only [lnv]; omega)) only [wlk, ↓get_put', ↓reduceIte, seval, e1], by simp (disch := first | omega | (simp only [lnv]; omega)) only [wlk, ↓get_put', ↓reduceIte, seval, e4], by simp (disch := first | omega | (simp only [lnv]; omega)) only [wlk, ↓get_put', ↓reduceIte, seval, e12], by simp (disch := first | omega | (simp only [lnv]; omega)) only [wlk, ↓get_put', ↓reduceIte, seval, e13], fun k k1 k2 => ?_, rb4, st4⟩
   by_cases ek : k = u
   · rw [ek]; exact hk2
   · exact hhi' k (by omega) k2
 | true =>
   have d4 := cmpL_t hk2
   have hne : u ≠ i' := fun e => by rw [e, hk] at hk2; cases hk2
   have d5 : ((u : Int) < (i' : Int)) = False := eq_false (by omega)
   repeat' (first
     | refine St.h ?_
     | simp (disch := first | omega | (simp only [lnv]; omega)) only [wlk, ↓get_put', ↓reduceIte, seval, e0, e1, e4, e12, e13, d4, d5, g1i, g3u, W4.ix, W4.la, Int.toNat_natCast]
     | (with_reducible (first | apply cd_split | apply gd_split)) <;> (intro hc; (try simp only [hcn] at hc); (try simp only [hc]); (try simp only [hcl] at hc); try omega))
   refine ST.sw1 rb4 hN (by omega) fun g5 B5 s5 => ?_
   have W5 := B5.tbs
   repeat' (first
     | refine St.h ?_
     | simp (disch := first | omega | (simp only [lnv]; omega)) only [wlk, ↓get_put', ↓reduceIte, seval, e0, e1, e4, e12, e13, W5.ix, Int.toNat_natCast]
     | (with_reducible (first | apply cd_split | apply gd_split)) <;> (intro hc; (try simp only [hcn] at hc); (try simp only [hc]); (try simp only [hcl] at hc); try omega))
   refine ST.sw2 B5 hN (by omega) fun g6 B6 s6 => ?_
   repeat' (first
     | refine St.h ?_
     | simp (disch := first | omega | (simp only [lnv]; omega)) only [wlk, ↓get_put', ↓reduceIte, seval, e0, e1, e4, e12, e13]
     | (with_reducible (first | apply cd_split | apply gd_split)) <;> (intro hc; (try simp only [hcn] at hc); (try simp only [hc]); (try simp only [hcl] at hc); try omega))
   refine lp_next hI (u - (i' + 1)) (by omega) ⟨i' + 1, u, swN q i' u, rfl, by omega, by omega, by omega, by simp (disch := first | omega | (simp only [lnv]; omega)) only [wlk, ↓get_put', ↓reduceIte, seval, e0], by simp (disch := first | omega | (simp only [lnv]; omega)) only [wlk, ↓get_put', ↓reduceIte, seval, e1], by simp (disch := first | omega | (simp only [lnv]; omega)) only [wlk, ↓get_put', ↓reduceIte, seval, e4], by simp (disch := first | omega | (simp only [lnv]; omega)) only [wlk, ↓get_put', ↓reduceIte, seval, e12]; rfl, by simp (disch := first | omega | (simp only [lnv]; omega)) only [wlk, ↓get_put', ↓reduceIte, seval, e13], by rw [sw_o (by omega) (by omega)]; exact hqa, fun k k1 k2 => ?_, fun k k1 k2 => ?_, sw.trans (.one (by omega) (by omega) (by omega) (by omega)), B6, st4.trans (s5.trans s6)⟩
   · by_cases ek : k = i'
     · rw [ek, sw_r]; exact hk2
     · rw [sw_o ek (by omega)]; exact hlo' k k1 (by omega)
   · by_cases ek : k = u
     · rw [ek, sw_l]; exact hk
     · rw [sw_o (by omega) ek]; exact hhi' k (by omega) k2
end
end Go.Proofs.Ytclpemggclmgeaa
