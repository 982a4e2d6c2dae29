/- Texts of ours, without what this claim does not use: JrMg2 NMg4 NMg6 MgH ArgE ArgR NMgL MergeSame. No condition. -/
import Derived.Test.YtnjgoggnhdpnoaaPkMergeSame4
import Derived.Test.YtnjgoggnhdpnoaaProg
import Derived.KernelRfl
import Derived.Test.YtnjgoggnhdpnoaaRows
import Derived.WalkKit
import Derived.ProofKit
import Derived.OpenShut
import Derived.ChangeMaps5
set_option maxRecDepth 1000000
set_option linter.all false
namespace Go.Proofs.Ytnjgoggnhdpnoaa
open Go Go.Ev
noncomputable abbrev s8_0 : CC := (CC.seq (CC.draws [(uB 46 (doMove (tm 4))), (uB 47 (bin2 fEql (tm 46) (oN 0))), (uB 48 (doMove (tm 47))), (uG 48 true 49 (doMove (tm 3))), (uG 48 true 50 (doLen (tm 49))), (uG 48 true 51 (bin2 fEql (tm 50) (oN 4))), (uB 52 (doPick (tm 48) (tm 51) (O.c (V.b Bool.false)))), (uB 53 (doMove (tm 52))), (uG 53 true 54 (doMove (tm 3))), (uG 53 true 55 (doIndexAddr 4 (tm 54) (oN 1))), (uG 53 true 56 (doLoadA 4 (tm 55))), (uG 53 true 57 (doMove (tm 2))), (uG 53 true 58 (doIndexAddr 4 (tm 57) (oN 0))), (uG 53 true 59 (doLoadA 4 (tm 58))), (uG 53 true 60 (doSEq [KD.s, KD.i, KD.b, KD.s] Bool.false (tm 56) (tm 59))), (uB 61 (doPick (tm 53) (tm 60) (O.c (V.b Bool.false)))), (uB 62 (doMove (tm 61))), (uG 62 true 63 (doMove (tm 6))), (uG 62 true 64 (bin2 fEql (tm 63) (oN 16))), (uB 65 (doPick (tm 62) (tm 64) (O.c (V.b Bool.false)))), (uB 66 (doMove (tm 65))), (uG 66 true 67 (doMove (tm 7))), (uG 66 true 68 (doLen (tm 67))), (uG 66 true 69 (bin2 fEql (tm 68) (oN 0))), (uB 70 (doPick (tm 66) (tm 69) (O.c (V.b Bool.false)))), (uB 71 (doMove (tm 70))), (uG 71 true 72 (doMove (tm 8))), (uG 71 true 73 (doLen (tm 72))), (uG 71 true 74 (bin2 fEql (tm 73) (oN 1))), (uB 75 (doPick (tm 71) (tm 74) (O.c (V.b Bool.false)))), (uB 76 (doMove (tm 75))), (uG 76 true 77 (doMove (tm 9))), (uG 76 true 78 (doLen (tm 77))), (uG 76 true 79 (bin2 fEql (tm 78) (oN 3))), (uB 80 (doPick (tm 76) (tm 79) (O.c (V.b Bool.false)))), (uB 81 (doMove (tm 80))), (uG 81 true 82 (doMove (tm 10))), (uG 81 true 83 (doLen (tm 82))), (uG 81 true 84 (bin2 fEql (tm 83) (oN 1))), (uB 85 (doPick (tm 81) (tm 84) (O.c (V.b Bool.false)))), (uB 0 (doMove (tm 85)))]) CC.ret)
noncomputable abbrev s8_1 : CC := (CC.seq (CC.region [(wB 43 (doMove (tm 3))), (wB 44 (doBuildSlice 3 1 [(V.i IntKind.i64 (Int.ofNat 0))] [(Pt.mk 0 1 (oN 2))])), (wB 45 (doCall 16 [(tm 43), (tm 44), (O.c (V.b Bool.true))])), (wB 10 (doMove (tm 45)))]) s8_0)
noncomputable abbrev s8_2 : CC := (CC.seq (CC.region [(wB 40 (doMove (tm 3))), (wB 41 (doBuildSlice 3 1 [(V.i IntKind.i64 (Int.ofNat 0))] [(Pt.mk 0 1 (oN 2))])), (wB 42 (doCall 16 [(tm 40), (tm 41), (O.c (V.b Bool.false))])), (wB 9 (doMove (tm 42)))]) s8_1)
noncomputable abbrev s8_3 : CC := (CC.seq (CC.region [(wB 38 (doMove (tm 3))), (wB 39 (doCall 14 [(tm 38), (oN 3)])), (wB 8 (doMove (tm 39)))]) s8_2)
noncomputable abbrev s8_4 : CC := (CC.seq (CC.region [(wB 36 (doMove (tm 3))), (wB 37 (doCall 14 [(tm 36), (oN 2)])), (wB 7 (doMove (tm 37)))]) s8_3)
noncomputable abbrev s8_5 : CC := (CC.seq (CC.draws [(uB 25 (doMove (tm 1))), (uB 26 (doIndexAddr 4 (tm 25) (oN 1))), (uB 27 (doLoadA 4 (tm 26))), (uB 28 (doMove (tm 1))), (uB 29 (doIndexAddr 4 (tm 28) (oN 0))), (uB 30 (doLoadA 4 (tm 29))), (wB 31 (doBuildSlice 39 2 [(V.s 0 0), (V.i IntKind.i64 (Int.ofNat 0)), (V.b Bool.false), (V.s 0 0), (V.s 0 0), (V.i IntKind.i64 (Int.ofNat 0)), (V.b Bool.false), (V.s 0 0)] [(Pt.mk 0 4 (tm 27)), (Pt.mk 4 4 (tm 30))])), (wB 32 (doBuildSlice 23 1 [V.l0] [(Pt.mk 0 1 (tm 31))])), (wB 33 (doCall 11 [(tm 32)])), (uB 24 (doMove (tm 33))), (uB 34 (doExtract 0 (tm 24))), (uB 35 (doExtract 1 (tm 24))), (uB 5 (doMove (tm 34))), (uB 6 (doMove (tm 35)))]) s8_4)
noncomputable abbrev s8_6 : CC := (CC.seq (CC.region [(wB 18 (doMove (tm 1))), (wB 19 (doMove (tm 2))), (wB 20 (doBuildSlice 23 2 [V.l0, V.l0] [(Pt.mk 0 1 (tm 18)), (Pt.mk 1 1 (tm 19))])), (wB 21 (doCall 11 [(tm 20)])), (wB 17 (doMove (tm 21))), (wB 22 (doExtract 0 (tm 17))), (wB 23 (doExtract 1 (tm 17))), (wB 3 (doMove (tm 22))), (wB 4 (doMove (tm 23)))]) s8_5)
noncomputable abbrev s8_7 : CC := (CC.seq (CC.region [(wB 14 (doBuild [(V.s 0 0), (V.i IntKind.i64 (Int.ofNat 0)), (V.b Bool.false), (V.s 0 0)] [(Pt.mk 0 1 (O.c (V.s 1 97))), (Pt.mk 1 1 (oN 2)), (Pt.mk 2 1 (O.c (V.b Bool.true)))])), (wB 15 (doBuild [(V.s 0 0), (V.i IntKind.i64 (Int.ofNat 0)), (V.b Bool.false), (V.s 0 0)] [(Pt.mk 0 1 (O.c (V.s 1 98))), (Pt.mk 1 1 (oN 1)), (Pt.mk 2 1 (O.c (V.b Bool.true)))])), (wB 16 (doBuildSlice 39 2 [(V.s 0 0), (V.i IntKind.i64 (Int.ofNat 0)), (V.b Bool.false), (V.s 0 0), (V.s 0 0), (V.i IntKind.i64 (Int.ofNat 0)), (V.b Bool.false), (V.s 0 0)] [(Pt.mk 0 4 (tm 14)), (Pt.mk 4 4 (tm 15))])), (wB 2 (doMove (tm 16)))]) s8_6)
noncomputable abbrev s8_8 : CC := (CC.seq (CC.region [(wB 11 (doBuild [(V.s 0 0), (V.i IntKind.i64 (Int.ofNat 0)), (V.b Bool.false), (V.s 0 0)] [(Pt.mk 0 1 (O.c (V.s 1 97))), (Pt.mk 1 1 (oN 3)), (Pt.mk 3 1 (O.c (V.s 1 122)))])), (wB 12 (doBuild [(V.s 0 0), (V.i IntKind.i64 (Int.ofNat 0)), (V.b Bool.false), (V.s 0 0)] [(Pt.mk 0 1 (O.c (V.s 1 97))), (Pt.mk 1 1 (oN 1)), (Pt.mk 3 1 (O.c (V.s 1 120)))])), (wB 13 (doBuildSlice 39 2 [(V.s 0 0), (V.i IntKind.i64 (Int.ofNat 0)), (V.b Bool.false), (V.s 0 0), (V.s 0 0), (V.i IntKind.i64 (Int.ofNat 0)), (V.b Bool.false), (V.s 0 0)] [(Pt.mk 0 4 (tm 11)), (Pt.mk 4 4 (tm 12))])), (wB 1 (doMove (tm 13)))]) s8_7)
noncomputable abbrev b8 : CC := (CC.seq (CC.region [(wB 0 (doMove (O.c (V.b Bool.false))))]) s8_8)
noncomputable abbrev s3_0 : CC := (CC.seq (CC.region [(wB 10 (doMove (O.c (V.b Bool.false))))]) CC.ret)
noncomputable abbrev s3_1 : CC := (CC.cond (tm 16) s3_0 CC.skip)
noncomputable abbrev s3_2 : CC := (CC.seq (CC.region [(wB 15 (doCall 8 [])), (wB 16 (doNot (tm 15)))]) s3_1)
noncomputable abbrev s3_3 : CC := (CC.seq (CC.region [(wB 10 (doMove (O.c (V.b Bool.true))))]) CC.ret)
noncomputable abbrev s3_4 : CC := (CC.cond (tm 29) s3_3 CC.skip)
noncomputable abbrev s3_5 : CC := (CC.seq (CC.region [(wB 17 (doMove (tm 0))), (wB 18 (doCall 9 [(tm 17)])), (wB 19 (doNot (tm 18))), (wB 20 (doMove (tm 19))), (wG 20 false 21 (doMove (tm 1))), (wG 20 false 22 (doCall 10 [(tm 21)])), (wG 20 false 23 (doNot (tm 22))), (wB 24 (doPick (tm 20) (O.c (V.b Bool.true)) (tm 23))), (wB 25 (doMove (tm 24))), (wG 25 false 26 (doMove (tm 3))), (wG 25 false 27 (doLen (tm 26))), (wG 25 false 28 (bin2 fGtr (tm 27) (oN 10))), (wB 29 (doPick (tm 25) (O.c (V.b Bool.true)) (tm 28)))]) s3_4)
noncomputable abbrev s3_6 : CC := (CC.seq (CC.region [(wB 40 (doMove (tm 11))), (wB 41 (doMove (tm 13))), (wB 42 (doCall 13 [(tm 40), (tm 41)])), (wB 43 (doMove (tm 42))), (wG 43 true 44 (doMove (tm 12))), (wG 43 true 45 (bin2 fEql (tm 44) (oN 0))), (wG 43 true 46 (doMove (tm 14))), (wG 43 true 47 (doBool Bool.false (tm 45) (tm 46))), (wB 48 (doPick (tm 43) (tm 47) (O.c (V.b Bool.false)))), (wB 49 (doMove (tm 48))), (wG 49 true 50 (doMove (tm 12))), (wG 49 true 51 (bin2 fEql (tm 50) (oN 0))), (wG 49 true 52 (doMove (tm 51))), (wG 52 false 53 (doMove (tm 12))), (wG 52 false 54 (bin2 fEql (tm 53) (oN 16))), (wG 49 true 55 (doPick (tm 52) (O.c (V.b Bool.true)) (tm 54))), (wB 56 (doPick (tm 49) (tm 55) (O.c (V.b Bool.false)))), (wB 57 (doMove (tm 56))), (wG 57 true 58 (doMove (tm 1))), (wG 57 true 59 (doMove (tm 2))), (wG 57 true 60 (doCall 14 [(tm 58), (tm 59)])), (wG 57 true 61 (doMove (tm 1))), (wG 57 true 62 (doMove (tm 2))), (wG 57 true 63 (doCall 15 [(tm 61), (tm 62)])), (wG 57 true 64 (doCall 13 [(tm 60), (tm 63)])), (wB 65 (doPick (tm 57) (tm 64) (O.c (V.b Bool.false)))), (wB 66 (doMove (tm 65))), (wG 66 true 67 (doMove (tm 1))), (wG 66 true 68 (doMove (tm 3))), (wG 66 true 69 (doMove (tm 4))), (wG 66 true 70 (doCall 16 [(tm 67), (tm 68), (tm 69)])), (wG 66 true 71 (doMove (tm 1))), (wG 66 true 72 (doMove (tm 3))), (wG 66 true 73 (doMove (tm 4))), (wG 66 true 74 (doCall 17 [(tm 71), (tm 72), (tm 73)])), (wG 66 true 75 (doCall 13 [(tm 70), (tm 74)])), (wB 76 (doPick (tm 66) (tm 75) (O.c (V.b Bool.false)))), (wB 10 (doMove (tm 76)))]) CC.ret)
noncomputable abbrev s3_7 : CC := (CC.seq (CC.region [(wB 36 (doMove (tm 0))), (wB 37 (doCall 12 [(tm 36)])), (wB 35 (doMove (tm 37))), (wB 38 (doExtract 0 (tm 35))), (wB 39 (doExtract 1 (tm 35))), (wB 13 (doMove (tm 38))), (wB 14 (doMove (tm 39)))]) s3_6)
noncomputable abbrev s3_8 : CC := (CC.seq (CC.region [(wB 31 (doMove (tm 0))), (wB 32 (doCall 11 [(tm 31)])), (wB 30 (doMove (tm 32))), (wB 33 (doExtract 0 (tm 30))), (wB 34 (doExtract 1 (tm 30))), (wB 11 (doMove (tm 33))), (wB 12 (doMove (tm 34)))]) s3_7)
noncomputable abbrev s3_9 : CC := (CC.seq s3_5 s3_8)
noncomputable abbrev s3_10 : CC := (CC.seq s3_2 s3_9)
noncomputable abbrev b3 : CC := (CC.seq (CC.region [(wB 10 (doMove (O.c (V.b Bool.false))))]) s3_10)
theorem c3 : compFn Try.prog 3 = ⟨77, b3, [(Rs.tmp (slOf 10))]⟩ := by kernel_rfl
noncomputable abbrev s4_0 : CC := (CC.seq (CC.region [(wB 6 (doMove (O.c (V.b Bool.false))))]) CC.ret)
noncomputable abbrev s4_1 : CC := (CC.cond (tm 14) s4_0 CC.skip)
noncomputable abbrev s4_2 : CC := (CC.seq (CC.region [(wB 13 (doCall 8 [])), (wB 14 (doNot (tm 13)))]) s4_1)
noncomputable abbrev s4_3 : CC := (CC.seq (CC.region [(wB 6 (doMove (O.c (V.b Bool.true))))]) CC.ret)
noncomputable abbrev s4_4 : CC := (CC.cond (tm 27) s4_3 CC.skip)
noncomputable abbrev s4_5 : CC := (CC.seq (CC.region [(wB 15 (doMove (tm 0))), (wB 16 (doCall 10 [(tm 15)])), (wB 17 (doNot (tm 16))), (wB 18 (doMove (tm 17))), (wG 18 false 19 (doMove (tm 1))), (wG 18 false 20 (doLen (tm 19))), (wG 18 false 21 (bin2 fGtr (tm 20) (oN 10))), (wB 22 (doPick (tm 18) (O.c (V.b Bool.true)) (tm 21))), (wB 23 (doMove (tm 22))), (wG 23 false 24 (doMove (tm 0))), (wG 23 false 25 (doCall 18 [(tm 24)])), (wG 23 false 26 (doNot (tm 25))), (wB 27 (doPick (tm 23) (O.c (V.b Bool.true)) (tm 26)))]) s4_4)
noncomputable abbrev s4_6 : CC := (CC.cond (tm 31) CC.skip (CC.exit 0))
noncomputable abbrev s4_7 : CC := (CC.seq (CC.region [(wB 28 (doMove (tm 7))), (wB 29 (doMove (tm 0))), (wB 30 (doLen (tm 29))), (wB 31 (bin2 fLss (tm 28) (tm 30)))]) s4_6)
noncomputable abbrev s4_8 : CC := (CC.seq (CC.region [(wB 6 (doMove (O.c (V.b Bool.true))))]) CC.ret)
noncomputable abbrev s4_9 : CC := (CC.cond (tm 39) s4_8 CC.skip)
noncomputable abbrev s4_10 : CC := (CC.seq (CC.region [(wB 34 (doMove (tm 0))), (wB 35 (doMove (tm 7))), (wB 36 (doIndexAddr 4 (tm 34) (tm 35))), (wB 37 (doLoadA 4 (tm 36))), (wB 38 (doCall 19 [(tm 37)])), (wB 39 (doNot (tm 38)))]) s4_9)
noncomputable abbrev s4_11 : CC := (CC.block 1 s4_10)
noncomputable abbrev s4_12 : CC := (CC.region [(wB 32 (doMove (tm 7))), (wB 33 (bin2 fAdd (tm 32) (oN 1))), (wB 7 (doMove (tm 33)))])
noncomputable abbrev s4_13 : CC := (CC.seq s4_11 s4_12)
noncomputable abbrev l4_0 : CC := (CC.seq s4_7 s4_13)
noncomputable abbrev s4_14 : CC := (CC.loop l4_0)
noncomputable abbrev s4_15 : CC := (CC.block 0 s4_14)
noncomputable abbrev s4_16 : CC := (CC.seq (CC.region [(wB 7 (doMove (oN 0)))]) s4_15)
noncomputable abbrev s4_17 : CC := (CC.seq (CC.region [(wB 6 (doMove (O.c (V.b Bool.false))))]) CC.ret)
noncomputable abbrev s4_18 : CC := (CC.cond (tm 61) s4_17 CC.skip)
noncomputable abbrev s4_19 : CC := (CC.seq (CC.region [(wB 44 (doMove (tm 8))), (wB 45 (doCall 18 [(tm 44)])), (wB 46 (doNot (tm 45))), (wB 47 (doMove (tm 46))), (wG 47 false 48 (doMove (tm 8))), (wG 47 false 49 (doLen (tm 48))), (wG 47 false 50 (doMove (tm 0))), (wG 47 false 51 (doLen (tm 50))), (wG 47 false 52 (bin2 fGtr (tm 49) (tm 51))), (wB 53 (doPick (tm 47) (O.c (V.b Bool.true)) (tm 52))), (wB 54 (doMove (tm 53))), (wG 54 false 55 (doMove (tm 8))), (wG 54 false 56 (doCall 14 [(tm 55), (oN 1000000)])), (wG 54 false 57 (doMove (tm 0))), (wG 54 false 58 (doCall 14 [(tm 57), (oN 1000000)])), (wG 54 false 59 (doCall 13 [(tm 56), (tm 58)])), (wG 54 false 60 (doNot (tm 59))), (wB 61 (doPick (tm 54) (O.c (V.b Bool.true)) (tm 60)))]) s4_18)
noncomputable abbrev s4_20 : CC := (CC.cond (tm 65) CC.skip (CC.exit 2))
noncomputable abbrev s4_21 : CC := (CC.seq (CC.region [(wB 62 (doMove (tm 9))), (wB 63 (doMove (tm 1))), (wB 64 (doLen (tm 63))), (wB 65 (bin2 fLss (tm 62) (tm 64)))]) s4_20)
noncomputable abbrev s4_22 : CC := (CC.seq (CC.region [(wB 6 (doMove (O.c (V.b Bool.false))))]) CC.ret)
noncomputable abbrev s4_23 : CC := (CC.cond (tm 81) s4_22 CC.skip)
noncomputable abbrev s4_24 : CC := (CC.seq (CC.draws [(uB 68 (doMove (tm 8))), (uB 69 (doMove (tm 1))), (uB 70 (doMove (tm 9))), (uB 71 (doIndexAddr 1 (tm 69) (tm 70))), (uB 72 (doLoad (tm 71))), (uB 73 (doCall 14 [(tm 68), (tm 72)])), (uB 74 (doMove (tm 0))), (uB 75 (doMove (tm 1))), (uB 76 (doMove (tm 9))), (uB 77 (doIndexAddr 1 (tm 75) (tm 76))), (uB 78 (doLoad (tm 77))), (wB 79 (doCall 14 [(tm 74), (tm 78)])), (wB 80 (doCall 13 [(tm 73), (tm 79)])), (uB 81 (doNot (tm 80)))]) s4_23)
noncomputable abbrev s4_25 : CC := (CC.block 3 s4_24)
noncomputable abbrev s4_26 : CC := (CC.region [(wB 66 (doMove (tm 9))), (wB 67 (bin2 fAdd (tm 66) (oN 1))), (wB 9 (doMove (tm 67)))])
noncomputable abbrev s4_27 : CC := (CC.seq s4_25 s4_26)
noncomputable abbrev l4_1 : CC := (CC.seq s4_21 s4_27)
noncomputable abbrev s4_28 : CC := (CC.loop l4_1)
noncomputable abbrev s4_29 : CC := (CC.block 2 s4_28)
noncomputable abbrev s4_30 : CC := (CC.seq (CC.region [(wB 9 (doMove (oN 0)))]) s4_29)
noncomputable abbrev s4_31 : CC := (CC.cond (tm 85) CC.skip (CC.exit 4))
noncomputable abbrev s4_32 : CC := (CC.seq (CC.region [(wB 82 (doMove (tm 10))), (wB 83 (doMove (tm 8))), (wB 84 (doLen (tm 83))), (wB 85 (bin2 fLss (tm 82) (tm 84)))]) s4_31)
noncomputable abbrev s4_33 : CC := (CC.seq (CC.region [(wB 6 (doMove (O.c (V.b Bool.false))))]) CC.ret)
noncomputable abbrev s4_34 : CC := (CC.cond (tm 112) s4_33 CC.skip)
noncomputable abbrev s4_35 : CC := (CC.seq (CC.draws [(uB 103 (doMove (tm 12))), (uB 104 (doNot (tm 103))), (uB 105 (doMove (tm 104))), (uG 105 false 106 (doLoadA 4 (tm 11))), (uG 105 false 107 (doMove (tm 8))), (uG 105 false 108 (doMove (tm 10))), (uG 105 false 109 (doIndexAddr 4 (tm 107) (tm 108))), (uG 105 false 110 (doLoadA 4 (tm 109))), (uG 105 false 111 (doSEq [KD.s, KD.i, KD.b, KD.s] Bool.true (tm 106) (tm 110))), (uB 112 (doPick (tm 105) (O.c (V.b Bool.true)) (tm 111)))]) s4_34)
noncomputable abbrev s4_36 : CC := (CC.seq (CC.draws [(uB 89 (doMove (tm 0))), (uB 90 (doMove (tm 8))), (uB 91 (doMove (tm 10))), (uB 92 (doIndexAddr 4 (tm 90) (tm 91))), (uB 93 (doFieldAddr 0 (tm 92))), (uB 94 (doLoad (tm 93))), (uB 95 (doMove (tm 8))), (uB 96 (doMove (tm 10))), (uB 97 (doIndexAddr 4 (tm 95) (tm 96))), (uB 98 (doFieldAddr 1 (tm 97))), (uB 99 (doLoad (tm 98))), (uB 100 (doCall 20 [(tm 89), (tm 94), (tm 99)])), (uB 88 (doMove (tm 100))), (uB 101 (doExtract 0 (tm 88))), (uB 102 (doExtract 1 (tm 88))), (uB 11 (doAlloc 39 [(V.s 0 0), (V.i IntKind.i64 (Int.ofNat 0)), (V.b Bool.false), (V.s 0 0)])), (CO.mk G.none D.none Bool.true (CR.mk (doStore 4 (tm 11) (tm 101)))), (uB 12 (doMove (tm 102)))]) s4_35)
noncomputable abbrev s4_37 : CC := (CC.block 5 s4_36)
noncomputable abbrev s4_38 : CC := (CC.region [(wB 86 (doMove (tm 10))), (wB 87 (bin2 fAdd (tm 86) (oN 1))), (wB 10 (doMove (tm 87)))])
noncomputable abbrev s4_39 : CC := (CC.seq s4_37 s4_38)
noncomputable abbrev l4_2 : CC := (CC.seq s4_32 s4_39)
noncomputable abbrev s4_40 : CC := (CC.loop l4_2)
noncomputable abbrev s4_41 : CC := (CC.block 4 s4_40)
noncomputable abbrev s4_42 : CC := (CC.seq (CC.region [(wB 10 (doMove (oN 0)))]) s4_41)
noncomputable abbrev s4_43 : CC := (CC.seq (CC.region [(wB 6 (doMove (O.c (V.b Bool.true))))]) CC.ret)
noncomputable abbrev s4_44 : CC := (CC.seq s4_42 s4_43)
noncomputable abbrev s4_45 : CC := (CC.seq s4_30 s4_44)
noncomputable abbrev s4_46 : CC := (CC.seq s4_19 s4_45)
noncomputable abbrev s4_47 : CC := (CC.seq (CC.region [(wB 40 (doMove (tm 0))), (wB 41 (doMove (tm 1))), (wB 42 (doMove (tm 2))), (wB 43 (doCall 16 [(tm 40), (tm 41), (tm 42)])), (wB 8 (doMove (tm 43)))]) s4_46)
noncomputable abbrev s4_48 : CC := (CC.seq s4_16 s4_47)
noncomputable abbrev s4_49 : CC := (CC.seq s4_5 s4_48)
noncomputable abbrev s4_50 : CC := (CC.seq s4_2 s4_49)
noncomputable abbrev b4 : CC := (CC.seq (CC.region [(wB 6 (doMove (O.c (V.b Bool.false))))]) s4_50)
theorem c4 : compFn Try.prog 4 = ⟨113, b4, [(Rs.tmp (slOf 6))]⟩ := by kernel_rfl
noncomputable abbrev s5_0 : CC := (CC.seq (CC.region [(wB 4 (doMove (O.c (V.b Bool.false))))]) CC.ret)
noncomputable abbrev s5_1 : CC := (CC.cond (tm 13) s5_0 CC.skip)
noncomputable abbrev s5_2 : CC := (CC.seq (CC.region [(wB 12 (doCall 8 [])), (wB 13 (doNot (tm 12)))]) s5_1)
noncomputable abbrev s5_3 : CC := (CC.seq (CC.region [(wB 4 (doMove (O.c (V.b Bool.true))))]) CC.ret)
noncomputable abbrev s5_4 : CC := (CC.cond (tm 26) s5_3 CC.skip)
noncomputable abbrev s5_5 : CC := (CC.seq (CC.region [(wB 14 (doMove (tm 0))), (wB 15 (doCall 10 [(tm 14)])), (wB 16 (doNot (tm 15))), (wB 17 (doMove (tm 16))), (wG 17 false 18 (doMove (tm 1))), (wG 17 false 19 (doLen (tm 18))), (wG 17 false 20 (bin2 fGtr (tm 19) (oN 60))), (wB 21 (doPick (tm 17) (O.c (V.b Bool.true)) (tm 20))), (wB 22 (doMove (tm 21))), (wG 22 false 23 (doMove (tm 0))), (wG 22 false 24 (doCall 18 [(tm 23)])), (wG 22 false 25 (doNot (tm 24))), (wB 26 (doPick (tm 22) (O.c (V.b Bool.true)) (tm 25)))]) s5_4)
noncomputable abbrev s5_6 : CC := (CC.cond (tm 30) CC.skip (CC.exit 0))
noncomputable abbrev s5_7 : CC := (CC.seq (CC.region [(wB 27 (doMove (tm 7))), (wB 28 (doMove (tm 0))), (wB 29 (doLen (tm 28))), (wB 30 (bin2 fLss (tm 27) (tm 29)))]) s5_6)
noncomputable abbrev s5_8 : CC := (CC.region [(wB 43 (doMove (tm 5))), (wB 44 (doMove (tm 0))), (wB 45 (doMove (tm 7))), (wB 46 (doIndexAddr 4 (tm 44) (tm 45))), (wB 47 (doLoadA 4 (tm 46))), (wB 48 (doBuildSlice 39 1 [(V.s 0 0), (V.i IntKind.i64 (Int.ofNat 0)), (V.b Bool.false), (V.s 0 0)] [(Pt.mk 0 4 (tm 47))])), (wB 49 (doAppend 39 4 (tm 43) (tm 48))), (wB 5 (doMove (tm 49)))])
noncomputable abbrev s5_9 : CC := (CC.region [(wB 50 (doMove (tm 6))), (wB 51 (doMove (tm 0))), (wB 52 (doMove (tm 7))), (wB 53 (doIndexAddr 4 (tm 51) (tm 52))), (wB 54 (doLoadA 4 (tm 53))), (wB 55 (doBuildSlice 39 1 [(V.s 0 0), (V.i IntKind.i64 (Int.ofNat 0)), (V.b Bool.false), (V.s 0 0)] [(Pt.mk 0 4 (tm 54))])), (wB 56 (doAppend 39 4 (tm 50) (tm 55))), (wB 6 (doMove (tm 56)))])
noncomputable abbrev s5_10 : CC := (CC.cond (tm 42) s5_8 s5_9)
noncomputable abbrev s5_11 : CC := (CC.seq (CC.region [(wB 33 (doMove (tm 7))), (wB 34 (doMove (tm 1))), (wB 35 (doLen (tm 34))), (wB 36 (bin2 fLss (tm 33) (tm 35))), (wB 37 (doMove (tm 36))), (wG 37 true 38 (doMove (tm 1))), (wG 37 true 39 (doMove (tm 7))), (wG 37 true 40 (doIndexAddr 1 (tm 38) (tm 39))), (wG 37 true 41 (doLoad (tm 40))), (wB 42 (doPick (tm 37) (tm 41) (O.c (V.b Bool.false))))]) s5_10)
noncomputable abbrev s5_12 : CC := (CC.block 1 s5_11)
noncomputable abbrev s5_13 : CC := (CC.region [(wB 31 (doMove (tm 7))), (wB 32 (bin2 fAdd (tm 31) (oN 1))), (wB 7 (doMove (tm 32)))])
noncomputable abbrev s5_14 : CC := (CC.seq s5_12 s5_13)
noncomputable abbrev l5_0 : CC := (CC.seq s5_7 s5_14)
noncomputable abbrev s5_15 : CC := (CC.loop l5_0)
noncomputable abbrev s5_16 : CC := (CC.block 0 s5_15)
noncomputable abbrev s5_17 : CC := (CC.seq (CC.region [(wB 7 (doMove (oN 0)))]) s5_16)
noncomputable abbrev s5_18 : CC := (CC.seq (CC.region [(wB 72 (doMove (tm 9))), (wB 73 (bin2 fEql (tm 72) (oN 0))), (wB 74 (doMove (tm 73))), (wG 74 true 75 (doMove (tm 11))), (wG 74 true 76 (bin2 fEql (tm 75) (oN 0))), (wB 77 (doPick (tm 74) (tm 76) (O.c (V.b Bool.false)))), (wB 78 (doMove (tm 77))), (wG 78 true 79 (doMove (tm 8))), (wG 78 true 80 (doMove (tm 0))), (wG 78 true 81 (doCall 13 [(tm 79), (tm 80)])), (wB 82 (doPick (tm 78) (tm 81) (O.c (V.b Bool.false)))), (wB 83 (doMove (tm 82))), (wG 83 true 84 (doMove (tm 10))), (wG 83 true 85 (doMove (tm 0))), (wG 83 true 86 (doCall 13 [(tm 84), (tm 85)])), (wB 87 (doPick (tm 83) (tm 86) (O.c (V.b Bool.false)))), (wB 4 (doMove (tm 87)))]) CC.ret)
noncomputable abbrev s5_19 : CC := (CC.seq (CC.region [(wB 65 (doMove (tm 0))), (wB 66 (doMove (tm 5))), (wB 67 (doMove (tm 0))), (wB 68 (doBuildSlice 23 3 [V.l0, V.l0, V.l0] [(Pt.mk 0 1 (tm 65)), (Pt.mk 1 1 (tm 66)), (Pt.mk 2 1 (tm 67))])), (wB 69 (doCall 11 [(tm 68)])), (wB 64 (doMove (tm 69))), (wB 70 (doExtract 0 (tm 64))), (wB 71 (doExtract 1 (tm 64))), (wB 10 (doMove (tm 70))), (wB 11 (doMove (tm 71)))]) s5_18)
noncomputable abbrev s5_20 : CC := (CC.seq (CC.region [(wB 58 (doMove (tm 5))), (wB 59 (doMove (tm 6))), (wB 60 (doBuildSlice 23 2 [V.l0, V.l0] [(Pt.mk 0 1 (tm 58)), (Pt.mk 1 1 (tm 59))])), (wB 61 (doCall 11 [(tm 60)])), (wB 57 (doMove (tm 61))), (wB 62 (doExtract 0 (tm 57))), (wB 63 (doExtract 1 (tm 57))), (wB 8 (doMove (tm 62))), (wB 9 (doMove (tm 63)))]) s5_19)
noncomputable abbrev s5_21 : CC := (CC.seq s5_17 s5_20)
noncomputable abbrev s5_22 : CC := (CC.seq (CC.region [(wB 5 (doMove (O.c V.l0))), (wB 6 (doMove (O.c V.l0)))]) s5_21)
noncomputable abbrev s5_23 : CC := (CC.seq s5_5 s5_22)
noncomputable abbrev s5_24 : CC := (CC.seq s5_2 s5_23)
noncomputable abbrev b5 : CC := (CC.seq (CC.region [(wB 4 (doMove (O.c (V.b Bool.false))))]) s5_24)
theorem c5 : compFn Try.prog 5 = ⟨88, b5, [(Rs.tmp (slOf 4))]⟩ := by kernel_rfl
noncomputable abbrev s6_0 : CC := (CC.seq (CC.region [(wB 8 (doMove (O.c (V.b Bool.false))))]) CC.ret)
noncomputable abbrev s6_1 : CC := (CC.cond (tm 21) s6_0 CC.skip)
noncomputable abbrev s6_2 : CC := (CC.seq (CC.region [(wB 20 (doCall 8 [])), (wB 21 (doNot (tm 20)))]) s6_1)
noncomputable abbrev s6_3 : CC := (CC.seq (CC.region [(wB 8 (doMove (O.c (V.b Bool.true))))]) CC.ret)
noncomputable abbrev s6_4 : CC := (CC.cond (tm 24) s6_3 CC.skip)
noncomputable abbrev s6_5 : CC := (CC.seq (CC.region [(wB 22 (doMove (tm 1))), (wB 23 (doLen (tm 22))), (wB 24 (bin2 fGtr (tm 23) (oN 10)))]) s6_4)
noncomputable abbrev s6_6 : CC := (CC.cond (tm 34) CC.skip (CC.exit 0))
noncomputable abbrev s6_7 : CC := (CC.seq (CC.region [(wB 33 (doMove (tm 13))), (wB 34 (bin2 fGeq (tm 33) (oN 1)))]) s6_6)
noncomputable abbrev s6_8 : CC := (CC.region [(wB 37 (doMove (tm 10))), (wB 38 (doMove (tm 13))), (wB 39 (doMove (tm 2))), (wB 40 (doMove (tm 13))), (wB 41 (doConv IntKind.u64 (tm 40))), (wB 42 (doShift shrF (tm 39) (tm 41))), (wB 43 (bin2 fAnd (tm 42) (O.c (V.i IntKind.u32 (Int.ofNat 1))))), (wB 44 (bin2 fEql (tm 43) (O.c (V.i IntKind.u32 (Int.ofNat 1))))), (wB 45 (doBuild [(V.s 0 0), (V.i IntKind.i64 (Int.ofNat 0)), (V.b Bool.false), (V.s 0 0)] [(Pt.mk 0 1 (O.c (V.s 1 107))), (Pt.mk 1 1 (tm 38)), (Pt.mk 2 1 (tm 44))])), (wB 46 (doBuildSlice 39 1 [(V.s 0 0), (V.i IntKind.i64 (Int.ofNat 0)), (V.b Bool.false), (V.s 0 0)] [(Pt.mk 0 4 (tm 45))])), (wB 47 (doAppend 39 4 (tm 37) (tm 46))), (wB 10 (doMove (tm 47)))])
noncomputable abbrev s6_9 : CC := (CC.block 1 s6_8)
noncomputable abbrev s6_10 : CC := (CC.region [(wB 35 (doMove (tm 13))), (wB 36 (bin2 fSub (tm 35) (oN 1))), (wB 13 (doMove (tm 36)))])
noncomputable abbrev s6_11 : CC := (CC.seq s6_9 s6_10)
noncomputable abbrev l6_0 : CC := (CC.seq s6_7 s6_11)
noncomputable abbrev s6_12 : CC := (CC.loop l6_0)
noncomputable abbrev s6_13 : CC := (CC.block 0 s6_12)
noncomputable abbrev s6_14 : CC := (CC.seq (CC.region [(wB 32 (doMove (tm 9))), (wB 13 (doMove (tm 32)))]) s6_13)
noncomputable abbrev s6_15 : CC := (CC.cond (tm 54) CC.skip (CC.exit 2))
noncomputable abbrev s6_16 : CC := (CC.seq (CC.region [(wB 51 (doMove (tm 14))), (wB 52 (doMove (tm 1))), (wB 53 (doLen (tm 52))), (wB 54 (bin2 fLss (tm 51) (tm 53)))]) s6_15)
noncomputable abbrev s6_17 : CC := (CC.region [(wB 67 (doMove (tm 11))), (wB 68 (doMove (tm 15))), (wB 69 (doMove (tm 9))), (wB 70 (doMin (tm 68) (tm 69))), (wB 71 (doIndexAddr 1 (tm 67) (tm 70))), (CO.mk G.none D.none Bool.true (CR.mk (doStore 1 (tm 71) (O.c (V.b Bool.true)))))])
noncomputable abbrev s6_18 : CC := (CC.seq (CC.region [(wB 63 (doMove (tm 12))), (wB 64 (doMove (tm 15))), (wB 65 (doBuildSlice 3 1 [(V.i IntKind.i64 (Int.ofNat 0))] [(Pt.mk 0 1 (tm 64))])), (wB 66 (doAppend 3 1 (tm 63) (tm 65))), (wB 12 (doMove (tm 66)))]) s6_17)
noncomputable abbrev s6_19 : CC := (CC.seq (CC.region [(wB 57 (doMove (tm 1))), (wB 58 (doMove (tm 14))), (wB 59 (doIndexAddr 1 (tm 57) (tm 58))), (wB 60 (doLoad (tm 59))), (wB 61 (doRem (tm 60) (O.c (V.i IntKind.u8 (Int.ofNat 25))))), (wB 62 (doConv IntKind.i64 (tm 61))), (wB 15 (doMove (tm 62)))]) s6_18)
noncomputable abbrev s6_20 : CC := (CC.block 3 s6_19)
noncomputable abbrev s6_21 : CC := (CC.region [(wB 55 (doMove (tm 14))), (wB 56 (bin2 fAdd (tm 55) (oN 1))), (wB 14 (doMove (tm 56)))])
noncomputable abbrev s6_22 : CC := (CC.seq s6_20 s6_21)
noncomputable abbrev l6_1 : CC := (CC.seq s6_16 s6_22)
noncomputable abbrev s6_23 : CC := (CC.loop l6_1)
noncomputable abbrev s6_24 : CC := (CC.block 2 s6_23)
noncomputable abbrev s6_25 : CC := (CC.seq (CC.region [(wB 14 (doMove (oN 0)))]) s6_24)
noncomputable abbrev s6_26 : CC := (CC.cond (tm 79) CC.skip (CC.exit 4))
noncomputable abbrev s6_27 : CC := (CC.seq (CC.region [(wB 74 (doMove (tm 16))), (wB 75 (doMove (tm 9))), (wB 76 (bin2 fLeq (tm 74) (tm 75))), (wB 77 (doMove (tm 76))), (wG 77 true 78 (doMove (tm 3))), (wB 79 (doPick (tm 77) (tm 78) (O.c (V.b Bool.false))))]) s6_26)
noncomputable abbrev s6_28 : CC := (CC.cond (tm 86) (CC.exit 5) CC.skip)
noncomputable abbrev s6_29 : CC := (CC.seq (CC.region [(wB 82 (doMove (tm 11))), (wB 83 (doMove (tm 16))), (wB 84 (doIndexAddr 1 (tm 82) (tm 83))), (wB 85 (doLoad (tm 84))), (wB 86 (doNot (tm 85)))]) s6_28)
noncomputable abbrev s6_30 : CC := (CC.cond (tm 92) (CC.exit 4) CC.skip)
noncomputable abbrev s6_31 : CC := (CC.seq (CC.region [(wB 87 (doMove (tm 2))), (wB 88 (doMove (tm 16))), (wB 89 (doConv IntKind.u64 (tm 88))), (wB 90 (doShift shrF (tm 87) (tm 89))), (wB 91 (bin2 fAnd (tm 90) (O.c (V.i IntKind.u32 (Int.ofNat 1))))), (wB 92 (bin2 fEql (tm 91) (O.c (V.i IntKind.u32 (Int.ofNat 0)))))]) s6_30)
noncomputable abbrev s6_32 : CC := (CC.region [(wB 93 (doMove (tm 11))), (wB 94 (doMove (tm 16))), (wB 95 (doIndexAddr 1 (tm 93) (tm 94))), (CO.mk G.none D.none Bool.true (CR.mk (doStore 1 (tm 95) (O.c (V.b Bool.false)))))])
noncomputable abbrev s6_33 : CC := (CC.seq s6_31 s6_32)
noncomputable abbrev s6_34 : CC := (CC.seq s6_29 s6_33)
noncomputable abbrev s6_35 : CC := (CC.block 5 s6_34)
noncomputable abbrev s6_36 : CC := (CC.region [(wB 80 (doMove (tm 16))), (wB 81 (bin2 fAdd (tm 80) (oN 1))), (wB 16 (doMove (tm 81)))])
noncomputable abbrev s6_37 : CC := (CC.seq s6_35 s6_36)
noncomputable abbrev l6_2 : CC := (CC.seq s6_27 s6_37)
noncomputable abbrev s6_38 : CC := (CC.loop l6_2)
noncomputable abbrev s6_39 : CC := (CC.block 4 s6_38)
noncomputable abbrev s6_40 : CC := (CC.seq (CC.region [(wB 16 (doMove (oN 1)))]) s6_39)
noncomputable abbrev s6_41 : CC := (CC.cond (tm 102) CC.skip (CC.exit 6))
noncomputable abbrev s6_42 : CC := (CC.seq (CC.region [(wB 101 (doMove (tm 19))), (wB 102 (bin2 fGeq (tm 101) (oN 1)))]) s6_41)
noncomputable abbrev s6_43 : CC := (CC.cond (tm 109) (CC.exit 7) CC.skip)
noncomputable abbrev s6_44 : CC := (CC.seq (CC.region [(wB 105 (doMove (tm 11))), (wB 106 (doMove (tm 19))), (wB 107 (doIndexAddr 1 (tm 105) (tm 106))), (wB 108 (doLoad (tm 107))), (wB 109 (doNot (tm 108)))]) s6_43)
noncomputable abbrev s6_45 : CC := (CC.seq (CC.region [(wB 8 (doMove (O.c (V.b Bool.false))))]) CC.ret)
noncomputable abbrev s6_46 : CC := (CC.cond (tm 122) s6_45 CC.skip)
noncomputable abbrev s6_47 : CC := (CC.seq (CC.region [(wB 110 (doMove (tm 18))), (wB 111 (doMove (tm 17))), (wB 112 (doLen (tm 111))), (wB 113 (bin2 fGeq (tm 110) (tm 112))), (wB 114 (doMove (tm 113))), (wG 114 false 115 (doMove (tm 17))), (wG 114 false 116 (doMove (tm 18))), (wG 114 false 117 (doIndexAddr 4 (tm 115) (tm 116))), (wG 114 false 118 (doFieldAddr 1 (tm 117))), (wG 114 false 119 (doLoad (tm 118))), (wG 114 false 120 (doMove (tm 19))), (wG 114 false 121 (bin2 fNeq (tm 119) (tm 120))), (wB 122 (doPick (tm 114) (O.c (V.b Bool.true)) (tm 121)))]) s6_46)
noncomputable abbrev s6_48 : CC := (CC.region [(wB 123 (doMove (tm 18))), (wB 124 (bin2 fAdd (tm 123) (oN 1))), (wB 18 (doMove (tm 124)))])
noncomputable abbrev s6_49 : CC := (CC.seq s6_47 s6_48)
noncomputable abbrev s6_50 : CC := (CC.seq s6_44 s6_49)
noncomputable abbrev s6_51 : CC := (CC.block 7 s6_50)
noncomputable abbrev s6_52 : CC := (CC.region [(wB 103 (doMove (tm 19))), (wB 104 (bin2 fSub (tm 103) (oN 1))), (wB 19 (doMove (tm 104)))])
noncomputable abbrev s6_53 : CC := (CC.seq s6_51 s6_52)
noncomputable abbrev l6_3 : CC := (CC.seq s6_42 s6_53)
noncomputable abbrev s6_54 : CC := (CC.loop l6_3)
noncomputable abbrev s6_55 : CC := (CC.block 6 s6_54)
noncomputable abbrev s6_56 : CC := (CC.seq (CC.region [(wB 100 (doMove (tm 9))), (wB 19 (doMove (tm 100)))]) s6_55)
noncomputable abbrev s6_57 : CC := (CC.seq (CC.region [(wB 125 (doMove (tm 18))), (wB 126 (doMove (tm 17))), (wB 127 (doLen (tm 126))), (wB 128 (bin2 fEql (tm 125) (tm 127))), (wB 8 (doMove (tm 128)))]) CC.ret)
noncomputable abbrev s6_58 : CC := (CC.seq s6_56 s6_57)
noncomputable abbrev s6_59 : CC := (CC.seq (CC.region [(wB 18 (doMove (oN 0)))]) s6_58)
noncomputable abbrev s6_60 : CC := (CC.seq (CC.region [(wB 96 (doMove (tm 10))), (wB 97 (doMove (tm 12))), (wB 98 (doMove (tm 3))), (wB 99 (doCall 16 [(tm 96), (tm 97), (tm 98)])), (wB 17 (doMove (tm 99)))]) s6_59)
noncomputable abbrev s6_61 : CC := (CC.seq s6_40 s6_60)
noncomputable abbrev s6_62 : CC := (CC.seq (CC.region [(wB 72 (doMove (tm 11))), (wB 73 (doIndexAddr 1 (tm 72) (oN 0))), (CO.mk G.none D.none Bool.true (CR.mk (doStore 1 (tm 73) (O.c (V.b Bool.false)))))]) s6_61)
noncomputable abbrev s6_63 : CC := (CC.seq s6_25 s6_62)
noncomputable abbrev s6_64 : CC := (CC.seq (CC.region [(wB 48 (doMove (tm 11))), (wB 49 (doMove (tm 9))), (wB 50 (doIndexAddr 1 (tm 48) (tm 49))), (CO.mk G.none D.none Bool.true (CR.mk (doStore 1 (tm 50) (O.c (V.b Bool.true)))))]) s6_63)
noncomputable abbrev s6_65 : CC := (CC.seq s6_14 s6_64)
noncomputable abbrev s6_66 : CC := (CC.seq (CC.region [(wB 12 (doMove (O.c V.l0)))]) s6_65)
noncomputable abbrev s6_67 : CC := (CC.seq (CC.region [(wB 29 (doMove (tm 9))), (wB 30 (bin2 fAdd (tm 29) (oN 1))), (wB 31 (doMakeSlice 4 [(V.b Bool.false)] (tm 30) (tm 30))), (wB 11 (doMove (tm 31)))]) s6_66)
noncomputable abbrev s6_68 : CC := (CC.seq (CC.region [(wB 10 (doMove (O.c V.l0)))]) s6_67)
noncomputable abbrev s6_69 : CC := (CC.seq (CC.region [(wB 25 (doMove (tm 0))), (wB 26 (doRem (tm 25) (O.c (V.i IntKind.u8 (Int.ofNat 20))))), (wB 27 (doConv IntKind.i64 (tm 26))), (wB 28 (bin2 fAdd (tm 27) (oN 1))), (wB 9 (doMove (tm 28)))]) s6_68)
noncomputable abbrev s6_70 : CC := (CC.seq s6_5 s6_69)
noncomputable abbrev s6_71 : CC := (CC.seq s6_2 s6_70)
noncomputable abbrev b6 : CC := (CC.seq (CC.region [(wB 8 (doMove (O.c (V.b Bool.false))))]) s6_71)
theorem c6 : compFn Try.prog 6 = ⟨129, b6, [(Rs.tmp (slOf 8))]⟩ := by kernel_rfl
noncomputable abbrev s7_0 : CC := (CC.seq (CC.region [(wB 6 (doMove (O.c (V.b Bool.false))))]) CC.ret)
noncomputable abbrev s7_1 : CC := (CC.cond (tm 18) s7_0 CC.skip)
noncomputable abbrev s7_2 : CC := (CC.seq (CC.region [(wB 17 (doCall 8 [])), (wB 18 (doNot (tm 17)))]) s7_1)
noncomputable abbrev s7_3 : CC := (CC.seq (CC.region [(wB 6 (doMove (O.c (V.b Bool.true))))]) CC.ret)
noncomputable abbrev s7_4 : CC := (CC.cond (tm 26) s7_3 CC.skip)
noncomputable abbrev s7_5 : CC := (CC.seq (CC.region [(wB 19 (doMove (tm 0))), (wB 20 (doLen (tm 19))), (wB 21 (bin2 fGtr (tm 20) (oN 30))), (wB 22 (doMove (tm 21))), (wG 22 false 23 (doMove (tm 1))), (wG 22 false 24 (doLen (tm 23))), (wG 22 false 25 (bin2 fGtr (tm 24) (oN 30))), (wB 26 (doPick (tm 22) (O.c (V.b Bool.true)) (tm 25)))]) s7_4)
noncomputable abbrev s7_6 : CC := (CC.cond (tm 30) CC.skip (CC.exit 0))
noncomputable abbrev s7_7 : CC := (CC.seq (CC.region [(wB 27 (doMove (tm 8))), (wB 28 (doMove (tm 0))), (wB 29 (doLen (tm 28))), (wB 30 (bin2 fLss (tm 27) (tm 29)))]) s7_6)
noncomputable abbrev s7_8 : CC := (CC.region [(wB 33 (doMove (tm 0))), (wB 34 (doMove (tm 8))), (wB 35 (doIndexAddr 1 (tm 33) (tm 34))), (wB 36 (doLoad (tm 35))), (wB 37 (doRem (tm 36) (O.c (V.i IntKind.u8 (Int.ofNat 26))))), (wB 38 (doIndexAddrArr 2 26 (tm 7) (oN 0))), (wB 39 (doIndexAddrArr 26 1 (tm 38) (tm 37))), (CO.mk G.none D.none Bool.true (CR.mk (doStore 1 (tm 39) (O.c (V.b Bool.true)))))])
noncomputable abbrev s7_9 : CC := (CC.block 1 s7_8)
noncomputable abbrev s7_10 : CC := (CC.region [(wB 31 (doMove (tm 8))), (wB 32 (bin2 fAdd (tm 31) (oN 1))), (wB 8 (doMove (tm 32)))])
noncomputable abbrev s7_11 : CC := (CC.seq s7_9 s7_10)
noncomputable abbrev l7_0 : CC := (CC.seq s7_7 s7_11)
noncomputable abbrev s7_12 : CC := (CC.loop l7_0)
noncomputable abbrev s7_13 : CC := (CC.block 0 s7_12)
noncomputable abbrev s7_14 : CC := (CC.seq (CC.region [(wB 8 (doMove (oN 0)))]) s7_13)
noncomputable abbrev s7_15 : CC := (CC.cond (tm 43) CC.skip (CC.exit 2))
noncomputable abbrev s7_16 : CC := (CC.seq (CC.region [(wB 40 (doMove (tm 9))), (wB 41 (doMove (tm 1))), (wB 42 (doLen (tm 41))), (wB 43 (bin2 fLss (tm 40) (tm 42)))]) s7_15)
noncomputable abbrev s7_17 : CC := (CC.region [(wB 46 (doMove (tm 1))), (wB 47 (doMove (tm 9))), (wB 48 (doIndexAddr 1 (tm 46) (tm 47))), (wB 49 (doLoad (tm 48))), (wB 50 (doRem (tm 49) (O.c (V.i IntKind.u8 (Int.ofNat 26))))), (wB 51 (doIndexAddrArr 2 26 (tm 7) (oN 1))), (wB 52 (doIndexAddrArr 26 1 (tm 51) (tm 50))), (CO.mk G.none D.none Bool.true (CR.mk (doStore 1 (tm 52) (O.c (V.b Bool.true)))))])
noncomputable abbrev s7_18 : CC := (CC.block 3 s7_17)
noncomputable abbrev s7_19 : CC := (CC.region [(wB 44 (doMove (tm 9))), (wB 45 (bin2 fAdd (tm 44) (oN 1))), (wB 9 (doMove (tm 45)))])
noncomputable abbrev s7_20 : CC := (CC.seq s7_18 s7_19)
noncomputable abbrev l7_1 : CC := (CC.seq s7_16 s7_20)
noncomputable abbrev s7_21 : CC := (CC.loop l7_1)
noncomputable abbrev s7_22 : CC := (CC.block 2 s7_21)
noncomputable abbrev s7_23 : CC := (CC.seq (CC.region [(wB 9 (doMove (oN 0)))]) s7_22)
noncomputable abbrev s7_24 : CC := (CC.cond (tm 54) CC.skip (CC.exit 4))
noncomputable abbrev s7_25 : CC := (CC.seq (CC.region [(wB 53 (doMove (tm 13))), (wB 54 (bin2 fLss (tm 53) (oN 26)))]) s7_24)
noncomputable abbrev s7_26 : CC := (CC.cond (tm 58) CC.skip (CC.exit 6))
noncomputable abbrev s7_27 : CC := (CC.seq (CC.region [(wB 57 (doMove (tm 14))), (wB 58 (bin2 fLss (tm 57) (oN 2)))]) s7_26)
noncomputable abbrev s7_28 : CC := (CC.region [(wB 84 (doMove (tm 11))), (wB 85 (bin2 fAdd (tm 84) (oN 1))), (wB 11 (doMove (tm 85)))])
noncomputable abbrev s7_29 : CC := (CC.seq (CC.draws [(uB 66 (doMove (tm 14))), (uB 67 (doMove (tm 14))), (uB 68 (doIndexAddrArr 2 1 (tm 10) (tm 67))), (uB 69 (doLoad (tm 68))), (uB 70 (doMove (tm 13))), (uB 71 (bin2 fAdd (oN 97) (tm 70))), (uB 72 (doConv IntKind.u8 (tm 71))), (uB 73 (doBuildSlice 5 1 [(V.i IntKind.u8 (Int.ofNat 0))] [(Pt.mk 0 1 (tm 72))])), (uB 74 (doB2S (tm 73))), (uB 75 (doMove (tm 13))), (uB 76 (bin2 fAdd (tm 75) (oN 1))), (uB 77 (doMove (tm 14))), (uB 78 (bin2 fMul (oN 100) (tm 77))), (uB 79 (bin2 fAdd (tm 76) (tm 78))), (uB 80 (doBuild [(V.s 0 0), (V.i IntKind.i64 (Int.ofNat 0)), (V.b Bool.false), (V.s 0 0)] [(Pt.mk 0 1 (tm 74)), (Pt.mk 1 1 (tm 79))])), (uB 81 (doBuildSlice 39 1 [(V.s 0 0), (V.i IntKind.i64 (Int.ofNat 0)), (V.b Bool.false), (V.s 0 0)] [(Pt.mk 0 4 (tm 80))])), (wB 82 (doAppend 39 4 (tm 69) (tm 81))), (uB 83 (doIndexAddrArr 2 1 (tm 10) (tm 66))), (CO.mk G.none D.none Bool.true (CR.mk (doStore 1 (tm 83) (tm 82))))]) s7_28)
noncomputable abbrev s7_30 : CC := (CC.cond (tm 65) s7_29 CC.skip)
noncomputable abbrev s7_31 : CC := (CC.seq (CC.region [(wB 61 (doMove (tm 14))), (wB 62 (doMove (tm 13))), (wB 63 (doIndexAddrArr 2 26 (tm 7) (tm 61))), (wB 64 (doIndexAddrArr 26 1 (tm 63) (tm 62))), (wB 65 (doLoad (tm 64)))]) s7_30)
noncomputable abbrev s7_32 : CC := (CC.block 7 s7_31)
noncomputable abbrev s7_33 : CC := (CC.region [(wB 59 (doMove (tm 14))), (wB 60 (bin2 fAdd (tm 59) (oN 1))), (wB 14 (doMove (tm 60)))])
noncomputable abbrev s7_34 : CC := (CC.seq s7_32 s7_33)
noncomputable abbrev l7_2 : CC := (CC.seq s7_27 s7_34)
noncomputable abbrev s7_35 : CC := (CC.loop l7_2)
noncomputable abbrev s7_36 : CC := (CC.block 6 s7_35)
noncomputable abbrev s7_37 : CC := (CC.seq (CC.region [(wB 14 (doMove (oN 0)))]) s7_36)
noncomputable abbrev s7_38 : CC := (CC.region [(wB 110 (doMove (tm 12))), (wB 111 (bin2 fAdd (tm 110) (oN 1))), (wB 12 (doMove (tm 111)))])
noncomputable abbrev s7_39 : CC := (CC.cond (tm 109) s7_38 CC.skip)
noncomputable abbrev s7_40 : CC := (CC.seq (CC.region [(wB 86 (doMove (tm 13))), (wB 87 (doIndexAddrArr 2 26 (tm 7) (oN 0))), (wB 88 (doIndexAddrArr 26 1 (tm 87) (tm 86))), (wB 89 (doLoad (tm 88))), (wB 90 (doMove (tm 89))), (wG 90 true 91 (doMove (tm 13))), (wG 90 true 92 (bin2 fAdd (tm 91) (oN 1))), (wG 90 true 93 (doMove (tm 2))), (wG 90 true 94 (doConv IntKind.i64 (tm 93))), (wG 90 true 95 (bin2 fLeq (tm 92) (tm 94))), (wB 96 (doPick (tm 90) (tm 95) (O.c (V.b Bool.false)))), (wB 97 (doMove (tm 96))), (wG 97 false 98 (doMove (tm 13))), (wG 97 false 99 (doIndexAddrArr 2 26 (tm 7) (oN 1))), (wG 97 false 100 (doIndexAddrArr 26 1 (tm 99) (tm 98))), (wG 97 false 101 (doLoad (tm 100))), (wG 97 false 102 (doMove (tm 101))), (wG 102 true 103 (doMove (tm 13))), (wG 102 true 104 (bin2 fAdd (tm 103) (oN 101))), (wG 102 true 105 (doMove (tm 2))), (wG 102 true 106 (doConv IntKind.i64 (tm 105))), (wG 102 true 107 (bin2 fLeq (tm 104) (tm 106))), (wG 97 false 108 (doPick (tm 102) (tm 107) (O.c (V.b Bool.false)))), (wB 109 (doPick (tm 97) (O.c (V.b Bool.true)) (tm 108)))]) s7_39)
noncomputable abbrev s7_41 : CC := (CC.seq s7_37 s7_40)
noncomputable abbrev s7_42 : CC := (CC.block 5 s7_41)
noncomputable abbrev s7_43 : CC := (CC.region [(wB 55 (doMove (tm 13))), (wB 56 (bin2 fAdd (tm 55) (oN 1))), (wB 13 (doMove (tm 56)))])
noncomputable abbrev s7_44 : CC := (CC.seq s7_42 s7_43)
noncomputable abbrev l7_3 : CC := (CC.seq s7_25 s7_44)
noncomputable abbrev s7_45 : CC := (CC.loop l7_3)
noncomputable abbrev s7_46 : CC := (CC.block 4 s7_45)
noncomputable abbrev s7_47 : CC := (CC.seq (CC.region [(wB 13 (doMove (oN 0)))]) s7_46)
noncomputable abbrev s7_48 : CC := (CC.seq (CC.region [(wB 121 (doMove (tm 16))), (wB 122 (bin2 fEql (tm 121) (oN 0))), (wB 123 (doMove (tm 122))), (wG 123 true 124 (doMove (tm 15))), (wG 123 true 125 (doLen (tm 124))), (wG 123 true 126 (doMove (tm 11))), (wG 123 true 127 (bin2 fEql (tm 125) (tm 126))), (wB 128 (doPick (tm 123) (tm 127) (O.c (V.b Bool.false)))), (wB 129 (doMove (tm 128))), (wG 129 true 130 (doMove (tm 15))), (wG 129 true 131 (doMove (tm 2))), (wG 129 true 132 (doConv IntKind.i64 (tm 131))), (wG 129 true 133 (doCall 14 [(tm 130), (tm 132)])), (wG 129 true 134 (doLen (tm 133))), (wG 129 true 135 (doMove (tm 12))), (wG 129 true 136 (bin2 fEql (tm 134) (tm 135))), (wB 137 (doPick (tm 129) (tm 136) (O.c (V.b Bool.false)))), (wB 6 (doMove (tm 137)))]) CC.ret)
noncomputable abbrev s7_49 : CC := (CC.seq (CC.region [(wB 113 (doIndexAddrArr 2 1 (tm 10) (oN 0))), (wB 114 (doLoad (tm 113))), (wB 115 (doIndexAddrArr 2 1 (tm 10) (oN 1))), (wB 116 (doLoad (tm 115))), (wB 117 (doBuildSlice 23 2 [V.l0, V.l0] [(Pt.mk 0 1 (tm 114)), (Pt.mk 1 1 (tm 116))])), (wB 118 (doCall 11 [(tm 117)])), (wB 112 (doMove (tm 118))), (wB 119 (doExtract 0 (tm 112))), (wB 120 (doExtract 1 (tm 112))), (wB 15 (doMove (tm 119))), (wB 16 (doMove (tm 120)))]) s7_48)
noncomputable abbrev s7_50 : CC := (CC.seq s7_47 s7_49)
noncomputable abbrev s7_51 : CC := (CC.seq (CC.region [(wB 11 (doMove (oN 0))), (wB 12 (doMove (oN 0)))]) s7_50)
noncomputable abbrev s7_52 : CC := (CC.seq (CC.region [(wB 10 (doAlloc 51 [V.l0, V.l0]))]) s7_51)
noncomputable abbrev s7_53 : CC := (CC.seq s7_23 s7_52)
noncomputable abbrev s7_54 : CC := (CC.seq s7_14 s7_53)
noncomputable abbrev s7_55 : CC := (CC.seq (CC.region [(wB 7 (doAlloc 50 [(V.b Bool.false), (V.b Bool.false), (V.b Bool.false), (V.b Bool.false), (V.b Bool.false), (V.b Bool.false), (V.b Bool.false), (V.b Bool.false), (V.b Bool.false), (V.b Bool.false), (V.b Bool.false), (V.b Bool.false), (V.b Bool.false), (V.b Bool.false), (V.b Bool.false), (V.b Bool.false), (V.b Bool.false), (V.b Bool.false), (V.b Bool.false), (V.b Bool.false), (V.b Bool.false), (V.b Bool.false), (V.b Bool.false), (V.b Bool.false), (V.b Bool.false), (V.b Bool.false), (V.b Bool.false), (V.b Bool.false), (V.b Bool.false), (V.b Bool.false), (V.b Bool.false), (V.b Bool.false), (V.b Bool.false), (V.b Bool.false), (V.b Bool.false), (V.b Bool.false), (V.b Bool.false), (V.b Bool.false), (V.b Bool.false), (V.b Bool.false), (V.b Bool.false), (V.b Bool.false), (V.b Bool.false), (V.b Bool.false), (V.b Bool.false), (V.b Bool.false), (V.b Bool.false), (V.b Bool.false), (V.b Bool.false), (V.b Bool.false), (V.b Bool.false), (V.b Bool.false)]))]) s7_54)
noncomputable abbrev s7_56 : CC := (CC.seq s7_5 s7_55)
noncomputable abbrev s7_57 : CC := (CC.seq s7_2 s7_56)
noncomputable abbrev b7 : CC := (CC.seq (CC.region [(wB 6 (doMove (O.c (V.b Bool.false))))]) s7_57)
theorem c7 : compFn Try.prog 7 = ⟨138, b7, [(Rs.tmp (slOf 6))]⟩ := by kernel_rfl
end Go.Proofs.Ytnjgoggnhdpnoaa

set_option maxRecDepth 100000
set_option maxHeartbeats 8000000
set_option linter.all false
namespace Go.Proofs.Ytnjgoggnhdpnoaa
open Go Go.Ev
theorem few11_ok {h : H} {v : V} {L : List Ent} (hL : Es h v L) (hl : L.length ≤ 9223372036854775807) : FnOk Try.prog 10 [v] h fun y h' => y = .b (fewE L) ∧ h' = h := by
  refine fn_go c10 (by intro hb; cases hb) (by simp) (by simp) fun Q hQ => ?_
  simp only [slotsF, Nat.reduceAdd]
  repeat' (first
    | refine St.h ?_
    | simp (disch := first | omega | (simp only [lnv]; omega)) only [wlk, ↓get_put', ↓reduceIte, seval]
    | (with_reducible (first | apply cd_split | apply gd_split)) <;> (intro hc; (try simp only [hcn] at hc); (try simp only [hc]); (try simp only [hcl] at hc); try omega))
  refine Ok.lp (fun m t g => ∃ j : Nat, m = L.length - j ∧ h = g ∧ (∀ i, i < j → okE (L.getD i default) = true) ∧ j ≤ L.length ∧ get 0 t = v ∧ get 3 t = .i .i64 (j : Int)) L.length ?_ ?_
  · simp (disch := first | omega | (simp only [lnv]; omega)) only [wlk, ↓get_put', ↓reduceIte, seval]
    exact ⟨0, by omega, trivial, fun i hi => by omega, by omega, trivial, rfl⟩
  rintro I hI m t g ⟨j, rfl, rfl, hs, hj, f0, f3⟩
  repeat' (first
    | refine St.h ?_
    | simp (disch := first | omega | (simp only [lnv]; omega)) only [wlk, ↓get_put', ↓reduceIte, seval, f0, f3, hL.ln, hL.ix, hL.l0, hL.l3, Int.toNat_natCast]
    | (with_reducible (first | apply cd_split | apply gd_split)) <;> (intro hc; (try simp only [hcn] at hc); (try simp only [hc]); (try simp only [hcl] at hc); try omega))
  · have hb : okE (L.getD j default) = false := by unfold okE; rw [decide_eq_false (p := (L.getD j default).key.length ≤ 20) (by omega), Bool.false_and]
    subst hQ
    exact ⟨by unfold fewE; rw [all_at (by omega) hb]; rfl, rfl⟩
  · have hb : okE (L.getD j default) = false := by unfold okE; rw [decide_eq_false (p := (L.getD j default).val.length ≤ 40) (by omega), Bool.and_false]
    subst hQ
    exact ⟨by unfold fewE; rw [all_at (by omega) hb]; rfl, rfl⟩
  · have hb : okE (L.getD j default) = true := by unfold okE; rw [decide_eq_true (p := (L.getD j default).val.length ≤ 40) (by omega), decide_eq_true (p := (L.getD j default).key.length ≤ 20) (by omega)]; rfl
    refine lp_next hI (L.length - (j + 1)) (by omega) ⟨j + 1, rfl, rfl, fun i hi => ?_, by omega, ?_, ?_⟩
    · rcases Nat.lt_or_ge i j with h1 | h1
      · exact hs i h1
      · rw [show i = j by omega]; exact hb
    · simp (disch := first | omega | (simp only [lnv]; omega)) only [wlk, ↓get_put', ↓reduceIte, seval, f0]
    · simp (disch := first | omega | (simp only [lnv]; omega)) only [wlk, ↓get_put', ↓reduceIte, seval]; rfl
  · subst hQ
    obtain rfl : j = L.length := by omega
    refine ⟨?_, rfl⟩
    unfold fewE
    rw [all_ok hs, Bool.true_and]
    congr 2
    exact propext ⟨fun h => by omega, fun h => by omega⟩
end Go.Proofs.Ytnjgoggnhdpnoaa

set_option maxRecDepth 100000
set_option maxHeartbeats 8000000
set_option linter.all false
namespace Go.Proofs.Ytnjgoggnhdpnoaa
open Go Go.Ev
theorem re_esM {h : H} {v : V} {L : List Ent} (a : Es h v L) : Es (reFloor h) v L := by cases h; exact a
theorem un_esM {h h1 : H} {v : V} {L : List Ent} (a : Es h1 v L) : Es (unFloor h h1) v L := by cases h; cases h1; exact a
theorem clEsU {P : Program} {f : FuncId} {vs : List V} {h : H} {M : List Ent} {m : Nat} {l : List CO} {t : F} {K : F → H → Prop} (a : FnOk P f vs (reFloor h) fun y h' => Es h' y M ∧ SwN 4 y ∧ Stay nowhere (reFloor h) h')
    (k : ∀ y h', Es h' y M → Stay nowhere h h' → DO P l (put m y t) h' K) : CL P f vs (reFloor h) (.u m l t h K) := ⟨_, a, fun v h' hq => by rw [go_u]; exact k _ _ (un_esM hq.1) hq.2.2.unfloor⟩
theorem newest_selfM {L : List Ent} (hs : sortedE L = true) {i : Nat} (hi : i < L.length) : newestE L (L.getD i default).key (L.getD i default).seq = (L.getD i default, true) := by
  refine newest_at hs (fun j hj => ?_) hi ?_
  · have := sorted_lt hs hj hi
    unfold lessE at this
    unfold hitE
    split at this
    · rw [decide_eq_true_eq] at this
      rw [decide_eq_false (p := (L.getD j default).seq ≤ (L.getD i default).seq) (by omega), Bool.and_false]
    · rename_i hne
      rw [decide_eq_false hne, Bool.false_and]
  · unfold hitE; simp
theorem newest_subM {L p : List Ent} (hs : sortedE L = true) (hp : p.Sublist L) {i : Nat} (hi : i < p.length) : newestE L (p.getD i default).key (p.getD i default).seq = (p.getD i default, true) := by
  obtain ⟨q, hq, e⟩ := mem_getD (hp.subset (getD_memE hi))
  rw [← e]; exact newest_selfM hs hq
theorem mergeSame_ok {h : H} {v x : V} {L : List Ent} {S : List Int} {b : Bool} (swv : SwN 4 v) (hL : Es h v L) (hl : L.length ≤ 9223372036854775807) (hS : Kl h .i64 x S) (hl4 : S.length ≤ 9223372036854775807) (hw : ∀ n ∈ S, -9223372036854775808 ≤ n ∧ n ≤ 9223372036854775807) (hf : B.val h.floor ≤ B.val h.next) : FnOk Try.prog 4 [v, x, .b b] h fun y h' => y = .b true := by
  refine fn_go c4 (by intro hb; cases hb) (by simp) (by simp) fun Q hQ => ?_
  simp only [slotsF, Nat.reduceAdd]
  repeat' (first
    | refine St.h ?_
    | simp (disch := first | omega | (simp only [lnv]; omega)) only [wlk, ↓get_put', ↓reduceIte, seval]
    | (with_reducible (first | apply cd_split | apply gd_split)) <;> (intro hc; (try simp only [hcn] at hc); (try simp only [hc]); (try simp only [hcl] at hc); try omega))
  refine CL.pure known11 ?_
  repeat' (first
    | refine St.h ?_
    | simp (disch := first | omega | (simp only [lnv]; omega)) only [wlk, ↓get_put', ↓reduceIte, seval]
    | (with_reducible (first | apply cd_split | apply gd_split)) <;> (intro hc; (try simp only [hcn] at hc); (try simp only [hc]); (try simp only [hcl] at hc); try omega))
  refine CL.pure (few11_ok hL hl) ?_
  cases hfl : fewE L with
  | false =>
    repeat' (first
      | refine St.h ?_
      | simp (disch := first | omega | (simp only [lnv]; omega)) only [wlk, ↓get_put', ↓reduceIte, seval]
      | (with_reducible (first | apply cd_split | apply gd_split)) <;> (intro hc; (try simp only [hcn] at hc); (try simp only [hc]); (try simp only [hcl] at hc); try omega))
    subst hQ; rfl
  | true =>
  obtain ⟨hl60, _⟩ := few_len hfl
  repeat' (first
    | refine St.h ?_
    | simp (disch := first | omega | (simp only [lnv]; omega)) only [wlk, ↓get_put', ↓reduceIte, seval, kl_lnM hS]
    | (with_reducible (first | apply cd_split | apply gd_split)) <;> (intro hc; (try simp only [hcn] at hc); (try simp only [hc]); (try simp only [hcl] at hc); try omega))
  · subst hQ; rfl
  refine CL.stay (rsorted_ok hL (by omega) hf) fun h1 s1 => ?_
  have hf1 := s1.fl hf
  cases hs : sortedE L with
  | false =>
    repeat' (first
      | refine St.h ?_
      | simp (disch := first | omega | (simp only [lnv]; omega)) only [wlk, ↓get_put', ↓reduceIte, seval]
      | (with_reducible (first | apply cd_split | apply gd_split)) <;> (intro hc; (try simp only [hcn] at hc); (try simp only [hc]); (try simp only [hcl] at hc); try omega))
    subst hQ; rfl
  | true =>
  have hL1 := hL.grow s1
  have hS1 : Kl h1 .i64 x S := Lst.grow hS s1
  repeat' (first
    | refine St.h ?_
    | simp (disch := first | omega | (simp only [lnv]; omega)) only [wlk, ↓get_put', ↓reduceIte, seval]
    | (with_reducible (first | apply cd_split | apply gd_split)) <;> (intro hc; (try simp only [hcn] at hc); (try simp only [hc]); (try simp only [hcl] at hc); try omega))
  refine Ok.lp (fun m t g => ∃ (i : Nat), m = L.length - i ∧ i ≤ L.length ∧ get 0 t = v ∧ get 1 t = x ∧ get 2 t = .b b ∧ get 7 t = .i .i64 (i : Int) ∧ Stay nowhere h1 g ∧ ∀ q, q < i → isE (L.getD q default) = true) L.length ?_ ?_
  · simp (disch := first | omega | (simp only [lnv]; omega)) only [wlk, ↓get_put', ↓reduceIte, seval]
    refine ⟨0, by omega, by omega, ?_⟩
    refine ⟨?_, ?_, ?_, ?_, Stay.refl _ _, fun q hq => by omega⟩
    all_goals first | trivial | rfl
  rintro I hI m t g ⟨i, rfl, hi, f0, f1, f2, f7, st, hall⟩
  have hfg := st.fl hf1
  have hLg := hL1.grow st
  have hSg : Kl g .i64 x S := Lst.grow hS1 st
  by_cases hil : i < L.length
  case pos =>
    repeat' (first
      | refine St.h ?_
      | simp (disch := first | omega | (simp only [lnv]; omega)) only [wlk, ↓get_put', ↓reduceIte, seval, f0, f7, hL.ln, hL.ix, hLg.la, Int.toNat_natCast]
      | (with_reducible (first | apply cd_split | apply gd_split)) <;> (intro hc; (try simp only [hcn] at hc); (try simp only [hc]); (try simp only [hcl] at hc); try omega))
    refine CL.stay (ris_ok (e := L.getD i default) hfg) fun g1 t1 => ?_
    cases hi2 : isE (L.getD i default) with
    | false =>
      repeat' (first
        | refine St.h ?_
        | simp (disch := first | omega | (simp only [lnv]; omega)) only [wlk, ↓get_put', ↓reduceIte, seval]
        | (with_reducible (first | apply cd_split | apply gd_split)) <;> (intro hc; (try simp only [hcn] at hc); (try simp only [hc]); (try simp only [hcl] at hc); try omega))
      subst hQ; rfl
    | true =>
      repeat' (first
        | refine St.h ?_
        | simp (disch := first | omega | (simp only [lnv]; omega)) only [wlk, ↓get_put', ↓reduceIte, seval, f7]
        | (with_reducible (first | apply cd_split | apply gd_split)) <;> (intro hc; (try simp only [hcn] at hc); (try simp only [hc]); (try simp only [hcl] at hc); try omega))
      refine lp_next hI (L.length - (i + 1)) (by omega) ⟨i + 1, rfl, by omega, by simp (disch := first | omega | (simp only [lnv]; omega)) only [wlk, ↓get_put', ↓reduceIte, seval, f0], by simp (disch := first | omega | (simp only [lnv]; omega)) only [wlk, ↓get_put', ↓reduceIte, seval, f1], by simp (disch := first | omega | (simp only [lnv]; omega)) only [wlk, ↓get_put', ↓reduceIte, seval, f2], by simp (disch := first | omega | (simp only [lnv]; omega)) only [wlk, ↓get_put', ↓reduceIte, seval, f7]; rfl, st.trans t1, fun q hq => ?_⟩
      by_cases e : q = i
      · rw [e]; exact hi2
      · exact hall q (by omega)
  obtain rfl : i = L.length := by omega
  have ha : L.all isE = true := by
    rw [List.all_eq_true]
    intro a ha
    obtain ⟨q, hq, rfl⟩ := mem_getD ha
    exact hall q hq
  clear hall
  repeat' (first
    | refine St.h ?_
    | simp (disch := first | omega | (simp only [lnv]; omega)) only [wlk, ↓get_put', ↓reduceIte, seval, f0, f1, f2, f7, hL.ln]
    | (with_reducible (first | apply cd_split | apply gd_split)) <;> (intro hc; (try simp only [hcn] at hc); (try simp only [hc]); (try simp only [hcl] at hc); try omega))
  refine CL.mk (mpack_ok (b := b) hLg swv hSg (by omega) (by omega) hw hfg) ?_
  rintro p g1 ⟨ep, wp, t1⟩
  have hsub := packE_sub (L := L) (held := S) (b := b)
  have hvis := fun n hn => vis_pack (L := L) (held := S) (b := b) (n := n) ha hs hn
  generalize packE L S b = K at *
  have pl := hsub.length_le
  have hsK := sub_sorted hsub hs
  have hf1' := t1.fl hfg
  repeat' (first
    | refine St.h ?_
    | simp (disch := first | omega | (simp only [lnv]; omega)) only [wlk, ↓get_put', ↓reduceIte, seval, f0, f1, f2]
    | (with_reducible (first | apply cd_split | apply gd_split)) <;> (intro hc; (try simp only [hcn] at hc); (try simp only [hc]); (try simp only [hcl] at hc); try omega))
  refine CL.stay (rsorted_ok ep (by omega) hf1') fun g2 t2 => ?_
  rw [hsK]
  have hf2 := t2.fl hf1'
  have st2 := (st.trans t1).trans t2
  have hL2 := hL1.grow st2
  have ep2 := ep.grow t2
  repeat' (first
    | refine St.h ?_
    | simp (disch := first | omega | (simp only [lnv]; omega)) only [wlk, ↓get_put', ↓reduceIte, seval, f0, hL.ln, ep.ln]
    | (with_reducible (first | apply cd_split | apply gd_split)) <;> (intro hc; (try simp only [hcn] at hc); (try simp only [hc]); (try simp only [hcl] at hc); try omega))
  refine CL.mk (mvis_ok (s := 1000000) ep2 wp (by omega) (by omega) (by omega) hf2) ?_
  rintro w3 g3 ⟨e3, _, t3⟩
  have hf3 := t3.fl hf2
  have hL3 := hL2.grow t3
  repeat' (first
    | refine St.h ?_
    | simp (disch := first | omega | (simp only [lnv]; omega)) only [wlk, ↓get_put', ↓reduceIte, seval, f0]
    | (with_reducible (first | apply cd_split | apply gd_split)) <;> (intro hc; (try simp only [hcn] at hc); (try simp only [hc]); (try simp only [hcl] at hc); try omega))
  refine CL.mk (mvis_ok (s := 1000000) hL3 swv (by omega) (by omega) (by omega) hf3) ?_
  rintro w4 g4 ⟨e4, _, t4⟩
  have hf4 := t4.fl hf3
  have vl : ∀ q, (visE K q).length ≤ 60 := fun q => by
    rw [visE_ok hsK]
    have := List.length_filter_le (visP K q) K; omega
  have v0 := hvis 1000000 (by simp)
  rw [← v0] at e4
  repeat' (first
    | refine St.h ?_
    | simp (disch := first | omega | (simp only [lnv]; omega)) only [wlk, ↓get_put', ↓reduceIte, seval]
    | (with_reducible (first | apply cd_split | apply gd_split)) <;> (intro hc; (try simp only [hcn] at hc); (try simp only [hc]); (try simp only [hcl] at hc); try omega))
  refine CL.pure (rsame_ok (e3.grow t4) e4 (by have := vl 1000000; omega)) ?_
  have hd1 : (visE K 1000000 = visE K 1000000) = True := eq_true rfl
  have ep4 := ep2.grow (t3.trans t4)
  have hL4 := hL2.grow (t3.trans t4)
  have hS4 : Kl g4 .i64 x S := Lst.grow hS1 (st2.trans (t3.trans t4))
  repeat' (first
    | refine St.h ?_
    | simp (disch := first | omega | (simp only [lnv]; omega)) only [wlk, ↓get_put', ↓reduceIte, seval, hd1]
    | (with_reducible (first | apply cd_split | apply gd_split)) <;> (intro hc; (try simp only [hcn] at hc); (try simp only [hc]); (try simp only [hcl] at hc); try omega))
  refine Ok.lp (fun m t g => ∃ (j : Nat), m = S.length - j ∧ j ≤ S.length ∧ get 0 t = v ∧ get 1 t = x ∧ get 8 t = p ∧ get 9 t = .i .i64 (j : Int) ∧ Stay nowhere g4 g) S.length ?_ ?_
  · simp (disch := first | omega | (simp only [lnv]; omega)) only [wlk, ↓get_put', ↓reduceIte, seval]
    refine ⟨0, by omega, by omega, ?_⟩
    refine ⟨?_, ?_, ?_, ?_, Stay.refl _ _⟩
    all_goals first | trivial | rfl | (simp (disch := first | omega | (simp only [lnv]; omega)) only [wlk, ↓get_put', ↓reduceIte, seval, f0, f1])
  rintro I2 hI2 m2 T g5 ⟨j, rfl, hj, f0, f1, f8, f9, t5⟩
  have hf5 := t5.fl hf4
  have ep5 := ep4.grow t5
  have hL5 := hL4.grow t5
  have hS5 : Kl g5 .i64 x S := Lst.grow hS4 t5
  by_cases hjl : j < S.length
  case pos =>
    have hm : S.getD j 0 ∈ S := by rw [List.getD_eq_getElem?_getD, List.getElem?_eq_getElem hjl]; simp
    have hb := hw _ hm
    have v1 := hvis (S.getD j 0) (List.mem_cons_of_mem _ hm)
    generalize hq : S.getD j 0 = q at *
    repeat' (first
      | refine St.h ?_
      | simp (disch := first | omega | (simp only [lnv]; omega)) only [wlk, ↓get_put', ↓reduceIte, seval, f0, f1, f8, f9, kl_lnM hS5, kl_ixM hS5 hjl, kl_ldM hS5 hjl, hq, Int.toNat_natCast]
      | (with_reducible (first | apply cd_split | apply gd_split)) <;> (intro hc; (try simp only [hcn] at hc); (try simp only [hc]); (try simp only [hcl] at hc); try omega))
    refine clEsU (mvis_ok (s := q) (re_esM ep5) wp (by omega) (by omega) (by omega) (re_fl _)) fun w6 g6 e6 t6 => ?_
    have hf6 := t6.fl hf5
    have hL6 := hL5.grow t6
    have hS6 : Kl g6 .i64 x S := Lst.grow hS5 t6
    repeat' (first
      | refine St.h ?_
      | simp (disch := first | omega | (simp only [lnv]; omega)) only [wlk, ↓get_put', ↓reduceIte, seval, f0, f1, f8, f9, kl_lnM hS6, kl_ixM hS6 hjl, kl_ldM hS6 hjl, hq, Int.toNat_natCast]
      | (with_reducible (first | apply cd_split | apply gd_split)) <;> (intro hc; (try simp only [hcn] at hc); (try simp only [hc]); (try simp only [hcl] at hc); try omega))
    refine CL.mk (mvis_ok (s := q) hL6 swv (by omega) (by omega) (by omega) hf6) ?_
    rintro w7 g7 ⟨e7, _, t7⟩
    rw [← v1] at e7
    have hd2 : (visE K q = visE K q) = True := eq_true rfl
    repeat' (first
      | refine St.h ?_
      | simp (disch := first | omega | (simp only [lnv]; omega)) only [wlk, ↓get_put', ↓reduceIte, seval]
      | (with_reducible (first | apply cd_split | apply gd_split)) <;> (intro hc; (try simp only [hcn] at hc); (try simp only [hc]); (try simp only [hcl] at hc); try omega))
    refine CL.pure (rsame_ok (e6.grow t7) e7 (by have := vl q; omega)) ?_
    repeat' (first
      | refine St.h ?_
      | simp (disch := first | omega | (simp only [lnv]; omega)) only [wlk, ↓get_put', ↓reduceIte, seval, f0, f1, f8, f9, hd2]
      | (with_reducible (first | apply cd_split | apply gd_split)) <;> (intro hc; (try simp only [hcn] at hc); (try simp only [hc]); (try simp only [hcl] at hc); try omega))
    refine lp_next hI2 (S.length - (j + 1)) (by omega) ⟨j + 1, rfl, by omega, by simp (disch := first | omega | (simp only [lnv]; omega)) only [wlk, ↓get_put', ↓reduceIte, seval, f0], by simp (disch := first | omega | (simp only [lnv]; omega)) only [wlk, ↓get_put', ↓reduceIte, seval, f1], by simp (disch := first | omega | (simp only [lnv]; omega)) only [wlk, ↓get_put', ↓reduceIte, seval, f8], by simp (disch := first | omega | (simp only [lnv]; omega)) only [wlk, ↓get_put', ↓reduceIte, seval, f9]; rfl, (t5.trans t6).trans t7⟩
  obtain rfl : j = S.length := by omega
  repeat' (first
    | refine St.h ?_
    | simp (disch := first | omega | (simp only [lnv]; omega)) only [wlk, ↓get_put', ↓reduceIte, seval, f0, f1, f8, f9, kl_lnM hS5]
    | (with_reducible (first | apply cd_split | apply gd_split)) <;> (intro hc; (try simp only [hcn] at hc); (try simp only [hc]); (try simp only [hcl] at hc); try omega))
  refine Ok.lp (fun m t g => ∃ (j : Nat), m = K.length - j ∧ j ≤ K.length ∧ get 0 t = v ∧ get 8 t = p ∧ get 10 t = .i .i64 (j : Int) ∧ Stay nowhere g5 g) K.length ?_ ?_
  · simp (disch := first | omega | (simp only [lnv]; omega)) only [wlk, ↓get_put', ↓reduceIte, seval]
    refine ⟨0, by omega, by omega, ?_⟩
    refine ⟨?_, ?_, ?_, Stay.refl _ _⟩
    all_goals first | trivial | rfl | (simp (disch := first | omega | (simp only [lnv]; omega)) only [wlk, ↓get_put', ↓reduceIte, seval, f0, f8])
  rintro I3 hI3 m3 T3 g6 ⟨j, rfl, hj3, f0, f8, f10, t6⟩
  have hf6 := t6.fl hf5
  have ep6 := ep5.grow t6
  have hL6 := hL5.grow t6
  by_cases hjl : j < K.length
  case neg =>
    obtain rfl : j = K.length := by omega
    repeat' (first
      | refine St.h ?_
      | simp (disch := first | omega | (simp only [lnv]; omega)) only [wlk, ↓get_put', ↓reduceIte, seval, f0, f8, f10, ep6.ln]
      | (with_reducible (first | apply cd_split | apply gd_split)) <;> (intro hc; (try simp only [hcn] at hc); (try simp only [hc]); (try simp only [hcl] at hc); try omega))
    subst hQ; rfl
  have hns := newest_subM hs hsub hjl
  repeat' (first
    | refine St.h ?_
    | simp (disch := first | omega | (simp only [lnv]; omega)) only [wlk, ↓get_put', ↓reduceIte, seval, f0, f8, f10, ep6.ln, ep6.ix, ep6.l0, ep6.l1, Int.toNat_natCast]
    | (with_reducible (first | apply cd_split | apply gd_split)) <;> (intro hc; (try simp only [hcn] at hc); (try simp only [hc]); (try simp only [hcl] at hc); try omega))
  refine CL.stayU (rnewest_ok (re_esM hL6) (by omega) (re_fl _)) fun g7 t7 => ?_
  rw [hns]
  have hf7 := t7.fl hf6
  have ep7 := ep6.grow t7
  generalize he : K.getD j default = e at *
  obtain ⟨ek, eq, ed, ev⟩ := e
  unfold twoE entC
  repeat' (first
    | refine St.h ?_
    | simp (disch := first | omega | (simp only [lnv]; omega)) only [wlk, ↓get_put', ↓reduceIte, seval, f0, f8, f10]
    | (with_reducible (first | apply cd_split | apply gd_split)) <;> (intro hc; (try simp only [hcn] at hc); (try simp only [hc]); (try simp only [hcl] at hc); try omega))
  refine AL.ownU (by simp) hf7 fun g8 t8 o8 => ?_
  repeat' (first
    | refine St.h ?_
    | simp (disch := first | omega | (simp only [lnv]; omega)) only [wlk, ↓get_put', ↓reduceIte, seval, f0, f8, f10]
    | (with_reducible (first | apply cd_split | apply gd_split)) <;> (intro hc; (try simp only [hcn] at hc); (try simp only [hc]); (try simp only [hcl] at hc); try omega))
  refine ST.all o8 rfl rfl (by simp) (by simp) fun g9 o9 t9 => ?_
  have t79 : Stay nowhere g7 g9 := t8.past' t9 fun q hq => by rw [hq]; exact Nat.le_refl _
  have ep9 := ep7.grow t79
  have hd5 : ek = ek ∧ eq = eq ∧ ed = ed ∧ ev = ev := ⟨rfl, rfl, rfl, rfl⟩
  repeat' (first
    | refine St.h ?_
    | simp (disch := first | omega | (simp only [lnv]; omega)) only [wlk, ↓get_put', ↓reduceIte, seval, f0, f8, f10, ep9.ln, ep9.ix, ep9.la, o9.row.ln, he, Int.toNat_natCast]
    | (with_reducible (first | apply cd_split | apply gd_split)) <;> (intro hc; (try simp only [hcn] at hc); (try simp only [hc]); (try simp only [hcl] at hc); try omega))
  refine lp_next hI3 (K.length - (j + 1)) (by omega) ⟨j + 1, rfl, by omega, by simp (disch := first | omega | (simp only [lnv]; omega)) only [wlk, ↓get_put', ↓reduceIte, seval, f0], by simp (disch := first | omega | (simp only [lnv]; omega)) only [wlk, ↓get_put', ↓reduceIte, seval, f8], by simp (disch := first | omega | (simp only [lnv]; omega)) only [wlk, ↓get_put', ↓reduceIte, seval, f10]; rfl, (t6.trans t7).trans t79⟩
end Go.Proofs.Ytnjgoggnhdpnoaa

set_option linter.all false
namespace Go.Proofs.Ytnjgoggnhdpnoaa
open Go Go.Ev
def hE (D : Nat → Bool) (i : Nat) : Ent := ⟨[107], (i : Int), D i, []⟩
section
variable {D w : Nat → Bool} {k : Nat}
/-- the array behind the third loop, stopped at i -/
def f4 (w : Nat → Bool) (i j : Nat) : Bool := decide (i ≤ j) && w j
end
end Go.Proofs.Ytnjgoggnhdpnoaa

set_option linter.all false
namespace Go.Ev
open Go Go.RowKit Go.WideShapes Go.ChangeShapes Go.ChangeAt Go.Deep
section
variable {H' : Type} {enc : TypeId × Value → H'} {P : Program}
theorem flat_of {W : World} {t : TypeId} {fs : Array Field} {fuel : Nat} {cs : List Value} {x : DataW H' × List MemPlace} (ut : P.underlying t = some (.struct fs)) (hd : DataW.trod enc P W 0 (fun _ => true) true fuel t cs = some x) :
    cs.length = P.cellsOf t ∧ ∀ (i : Nat) f, fs.toList[i]? = some f → ∃ n y, DataW.trod enc P W 0 (fun _ => true) true n f.type ((cs.drop f.offset).take (P.cellsOf f.type)) = some y := by
  cases fuel with
  | zero => simp [DataW.trod] at hd
  | succ n =>
    unfold DataW.trod at hd
    rw [ut] at hd
    simp only at hd
    split at hd
    · rename_i hl
      refine ⟨hl, fun i f hf => ?_⟩
      rw [Option.map_eq_some_iff] at hd
      obtain ⟨xs, hx, _⟩ := hd
      have := mapM_some_get hx i f hf
      have hlen := mapM_some_length hx
      have hi : i < xs.length := by rw [hlen]; exact (List.getElem?_eq_some_iff.1 hf).1
      exact ⟨n, xs[i], by rw [this]; simp⟩
    · cases hd
structure EntF (P : Program) (t : TypeId) (fs : Array Field) : Prop where
  ut : P.underlying t = some (.struct fs)
  sz : P.cellsOf t = 4
  f0 : ∃ f, fs.toList[0]? = some f ∧ f.offset = 0 ∧ P.cellsOf f.type = 1 ∧ P.underlying f.type = some .string
  f1 : ∃ f, fs.toList[1]? = some f ∧ f.offset = 1 ∧ P.cellsOf f.type = 1 ∧ P.underlying f.type = some (.int .i64)
  f2 : ∃ f, fs.toList[2]? = some f ∧ f.offset = 2 ∧ P.cellsOf f.type = 1 ∧ P.underlying f.type = some .bool
  f3 : ∃ f, fs.toList[3]? = some f ∧ f.offset = 3 ∧ P.cellsOf f.type = 1 ∧ P.underlying f.type = some .string
/-- an entry's cells -/
def entV (k : ByteArray) (n : Int) (d : Bool) (v : ByteArray) : List Value := [.string k, .int .i64 n, .bool d, .string v]
theorem ent_cells {W : World} {t : TypeId} {fs : Array Field} {fuel : Nat} {cs : List Value} {x : DataW H' × List MemPlace} (F : EntF P t fs) (hd : DataW.trod enc P W 0 (fun _ => true) true fuel t cs = some x) :
    ∃ k n d v, cs = entV k n d v ∧ k.size ≤ maxLen ∧ v.size ≤ maxLen ∧ (Lit.int .i64 n).wf = true := by
  obtain ⟨hl, hf⟩ := flat_of F.ut hd
  rw [F.sz] at hl
  obtain ⟨f0, g0, o0, c0, u0⟩ := F.f0
  obtain ⟨f1, g1, o1, c1, u1⟩ := F.f1
  obtain ⟨f2, g2, o2, c2, u2⟩ := F.f2
  obtain ⟨f3, g3, o3, c3, u3⟩ := F.f3
  match cs, hl with
  | [a, b, c, d], _ =>
    obtain ⟨_, _, h0⟩ := hf 0 f0 g0
    obtain ⟨_, _, h1⟩ := hf 1 f1 g1
    obtain ⟨_, _, h2⟩ := hf 2 f2 g2
    obtain ⟨_, _, h3⟩ := hf 3 f3 g3
    rw [o0, c0] at h0
    rw [o1, c1] at h1
    rw [o2, c2] at h2
    rw [o3, c3] at h3
    obtain ⟨k, e0, _, z0⟩ := DataW.trod_string u0 h0
    obtain ⟨n, e1, _, z1⟩ := DataW.trod_int u1 h1
    obtain ⟨q, e2, _⟩ := DataW.trod_bool u2 h2
    obtain ⟨v, e3, _, z3⟩ := DataW.trod_string u3 h3
    simp at e0 e1 e2 e3
    exact ⟨k, n, q, v, by rw [e0, e1, e2, e3]; rfl, z0, z3, z1⟩
/-- a row of entries -/
theorem es_of {W : World} {h : H} (s : Start W h) (h0 : 0 < W.heap.size) {t e : TypeId} {fs : Array Field} {fuel : Nat} {cs : List Value} {x : DataW H' × List MemPlace} (ht : P.underlying t = some (.slice e)) (F : EntF P e fs)
    (hd : DataW.trod enc P W 0 (fun _ => true) true fuel t cs = some x) : ∃ sv L, cs = [sv] ∧ Es h (absV W sv) L ∧ L.length ≤ 9223372036854775807 ∧ ∀ e ∈ L, (e.key.length ≤ 9223372036854775807 ∧ e.val.length ≤ 9223372036854775807) ∧ -9223372036854775808 ≤ e.seq ∧ e.seq ≤ 9223372036854775807 := by
  rcases open_slice ht hd with ⟨rfl, _⟩ | ⟨a, len, cap, m, n, D, Pl, rfl, hb, hl, hm, hmm, _, hx⟩
  · exact ⟨_, [], rfl, .inl ⟨rfl, rfl⟩, by simp, fun e he => by cases he⟩
  simp only [if_true] at hmm
  rw [F.sz] at hx
  have hx' : ∀ i, i < len → ∃ k n q u, (∀ d y, (entV k n q u)[d]? = some y → W.cell? ⟨a.block, a.off + i * 4 + d, none⟩ = some y) ∧ (0 < len → a.spot = none) ∧ k.size ≤ maxLen ∧ u.size ≤ maxLen ∧ (Lit.int .i64 n).wf = true := by
    intro i hi
    obtain ⟨cs', h1, h2⟩ := hx i (by omega)
    obtain ⟨k, n, q, u, rfl, z1, z2, z3⟩ := ent_cells F h2
    obtain ⟨_, _, h3⟩ := World.cells?_some h1
    refine ⟨k, n, q, u, fun d y hy => ?_, fun _ => ?_, z1, z2, z3⟩
    · have hd : d < 4 := by have := (List.getElem?_eq_some_iff.1 hy).1; exact this
      have h4 := h3 d hd
      rw [hy] at h4
      have h5 := cell_add h4
      have e1 : (a.add (i * 4)).block = a.block := by unfold Addr.add; split <;> rfl
      have e2 : (a.add (i * 4)).off = a.off + i * 4 := by
        unfold Addr.add; split
        · rename_i hz; rw [hz]; rfl
        · rfl
      rw [e1, e2] at h5
      exact h5
    · have hlen : 0 < len := by omega
      obtain ⟨cs0, g1, g2⟩ := hx 0 (by omega)
      obtain ⟨k0, n0, q0, u0, rfl, _⟩ := ent_cells F g2
      obtain ⟨_, _, g3⟩ := World.cells?_some g1
      have g4 := g3 0 (by omega)
      have g5 := World.cell?_spot g4
      unfold Addr.add at g5
      simpa using g5
  obtain ⟨E, hE⟩ := choose_lt (α := ByteArray × Int × Bool × ByteArray) (p := fun i r => (∀ d y, (entV r.1 r.2.1 r.2.2.1 r.2.2.2)[d]? = some y → W.cell? ⟨a.block, a.off + i * 4 + d, none⟩ = some y) ∧ (0 < len → a.spot = none) ∧ r.1.size ≤ maxLen ∧ r.2.2.2.size ≤ maxLen ∧ (Lit.int .i64 r.2.1).wf = true) (fun i hi => by
    obtain ⟨k, n, q, u, h⟩ := hx' i hi
    exact ⟨(k, n, q, u), h⟩)
  let G : Nat → Ent := fun i => ⟨(E i).1.data.toList, (E i).2.1, (E i).2.2.1, (E i).2.2.2.data.toList⟩
  have hL : ((List.range len).map G).length = len := by simp
  refine ⟨_, (List.range len).map G, rfl, ?_, by rw [hL]; exact maxLen_le (by omega), fun e he => ?_⟩
  · obtain ⟨b, off, spot⟩ := a
    cases len with
    | zero =>
      have e : absV W (.slice (some ⟨b, off, spot⟩) 0 cap) = .l (nb 0) 0 0 0 0 none := by unfold absV; simp only [if_pos h0]
      rw [e]
      exact .inr ⟨nb 0, 0, 0, 0, none, rfl, by simp, (s.blk 0 h0).1, fun hne => absurd rfl hne, fun i v hv => by simp at hv⟩
    | succ n =>
      have hs' : spot = none := (hE 0 (by omega)).2.1 (by omega)
      subst hs'
      have hcell : ∀ i, i < n + 1 → ∀ d y, (entV (E i).1 (E i).2.1 (E i).2.2.1 (E i).2.2.2)[d]? = some y → b < W.heap.size ∧ off + i * 4 + d < csz W b ∧ (∃ blk, h.heap.get (nb b) = some blk ∧ blk.min ≤ 0) ∧ Ev.cell h (nb b) 0 (off + i * 4 + d) = some (absV W y) :=
        fun i hi d y hy => s.cell ((hE i hi).1 d y hy)
      obtain ⟨d1, d2, d3, d4⟩ := hcell n (by omega) 3 _ rfl
      have e : absV W (.slice (some ⟨b, off, none⟩) (n + 1) cap) = .l (nb b) 0 off (n + 1) (csz W b) (some cap) := by unfold absV; simp only [if_pos (⟨d1, hl, Nat.lt_of_le_of_lt hm maxLen_lt⟩ : b < W.heap.size ∧ n + 1 ≤ cap ∧ cap < 18446744073709551616)]
      rw [e]
      refine .inr ⟨nb b, 0, off, csz W b, some cap, by rw [hL], by rw [hL]; omega, (s.blk b d1).1, fun _ => d3, fun j v hv => ?_⟩
      have hj : j < (((List.range (n + 1)).map G).flatMap entC).length := (List.getElem?_eq_some_iff.1 hv).1
      rw [fm_len entC_len, hL] at hj
      obtain ⟨i, d, rfl, hd⟩ : ∃ i d, j = i * 4 + d ∧ d < 4 := ⟨j / 4, j % 4, by omega, by omega⟩
      have hi : i < n + 1 := by omega
      rw [fm_get entC_len (by rw [hL]; exact hi) hd] at hv
      have hG : ((List.range (n + 1)).map G).getD i default = G i := by simp [List.getD, hi]
      rw [hG] at hv
      rw [← Nat.add_assoc]
      match d, hd with
      | 0, _ => have := (hcell i hi 0 _ rfl).2.2.2; rw [this, absV_str]; exact hv
      | 1, _ => exact (hcell i hi 1 _ rfl).2.2.2.trans hv
      | 2, _ => exact (hcell i hi 2 _ rfl).2.2.2.trans hv
      | 3, _ => have := (hcell i hi 3 _ rfl).2.2.2; rw [this, absV_str]; exact hv
  · obtain ⟨i, hi, rfl⟩ := List.mem_map.1 he
    rw [List.mem_range] at hi
    obtain ⟨_, _, z1, z2, z3⟩ := hE i hi
    exact ⟨⟨str_len z1, str_len z2⟩, wf_i64 z3⟩
theorem swn_abs {W : World} {h : H} {x : Value} {L : List Ent} (a : Es h (absV W x) L) : SwN 4 (absV W x) := by
  have nol : ∀ v : V, Es h v L → v ≠ .u := by
    rintro _ (⟨rfl, _⟩ | ⟨id, g, off, fin, cap, rfl, _⟩) <;> intro e <;> cases e
  have np : ∀ id g off fin, ¬ Es h (.p id g off fin) L := by
    rintro id g off fin (⟨e, _⟩ | ⟨_, _, _, _, _, e, _⟩) <;> cases e
  revert a
  unfold absV
  split
  all_goals intro a
  all_goals first
    | exact .inl rfl
    | (exfalso; rcases a with ⟨e, _⟩ | ⟨_, _, _, _, _, e, _⟩ <;> cases e; done)
    | skip
  · split at a
    · exact absurd a (np _ _ _ _)
    · exact absurd rfl (nol _ a)
  · rename_i hh
    split at a
    · rename_i hb
      rw [if_pos hb]
      exact .inr ⟨_, _, _, _, _, _, rfl, hb.2.1, fun h => absurd hb.2.2 (Nat.not_lt.2 h)⟩
    · exact absurd rfl (nol _ a)
  · split at a
    · rename_i hb
      rw [if_pos hb]
      exact .inr ⟨_, _, _, _, _, _, rfl, rfl⟩
    · exact absurd rfl (nol _ a)
structure WriF (P : Program) (t : TypeId) (fs : Array Field) : Prop where
  ut : P.underlying t = some (.struct fs)
  sz : P.cellsOf t = 3
  f0 : ∃ f, fs.toList[0]? = some f ∧ f.offset = 0 ∧ P.cellsOf f.type = 1 ∧ P.underlying f.type = some .string
  f1 : ∃ f, fs.toList[1]? = some f ∧ f.offset = 1 ∧ P.cellsOf f.type = 1 ∧ P.underlying f.type = some .bool
  f2 : ∃ f, fs.toList[2]? = some f ∧ f.offset = 2 ∧ P.cellsOf f.type = 1 ∧ P.underlying f.type = some .string
end
end Go.Ev

set_option linter.all false
namespace Go.Ev
open Go Go.RowKit Go.WideShapes Go.ChangeShapes Go.ChangeAt Go.Deep
section
variable {H' : Type} {enc : TypeId × Value → H'} {P : Program}
inductive Kd where
  | i (k : IntKind)
  | s
  | b
def Kd.ok (P : Program) (k : Kd) (t : TypeId) : Prop := match k with
  | .i k => P.underlying t = some (.int k)
  | .s => P.underlying t = some .string
  | .b => P.underlying t = some .bool
def FldOk (P : Program) (l : List Field) : Nat → List Kd → Prop
  | _, [] => True
  | n, k :: ks => (∃ f, l[n]? = some f ∧ f.offset = n ∧ P.cellsOf f.type = 1 ∧ k.ok P f.type) ∧ FldOk P l (n + 1) ks
/-- a struct whose fields are numbers, texts, bools -/
structure FlatF (P : Program) (t : TypeId) (fs : Array Field) (ks : List Kd) : Prop where
  ut : P.underlying t = some (.struct fs)
  sz : P.cellsOf t = ks.length
  fld : FldOk P fs.toList 0 ks
end
end Go.Ev

set_option linter.all false
namespace Go.Proofs.Ytnjgoggnhdpnoaa
open Go Go.Ev
theorem wf_all {S : List Int} (h : ∀ n ∈ S, (Lit.int .i64 n).wf = true) : ∀ n ∈ S, -9223372036854775808 ≤ n ∧ n ≤ 9223372036854775807 := fun n hn => wf_i64 (h n hn)
theorem mergeSame_l {h : H} {v x : V} {L : List Ent} {S : List Int} {b : Bool} (swv : SwN 4 v) (hL : Es h v L) (hl : L.length ≤ 9223372036854775807) (hS : Kl h .i64 x S) (hl4 : S.length ≤ 9223372036854775807) (hw : ∀ n ∈ S, (Lit.int .i64 n).wf = true) (hf : B.val h.floor ≤ B.val h.next) : FnOk Try.prog 4 [v, x, .b b] h fun y h' => y = .b true := mergeSame_ok swv hL hl hS hl4 (wf_all hw) hf
end Go.Proofs.Ytnjgoggnhdpnoaa

namespace Go.Proofs.Ytnjgoggnhdpnoaa.mergeSame
open Go Go.Ev Go.ChangeShapes Go.WideShapes Go.ChangeAt Go.RowKit Go.ChangeMaps
set_option linter.all false
theorem own : ownKnob Try.prog.godebug = none := by kernel_rfl
theorem laid : laidOutB Try.prog = true := by kernel_rfl
theorem heap_pos {W : World} (h : W.ShapedOpen Try.prog) : 0 < W.heap.size := by
  obtain ⟨o, _, h1, _⟩ := h.2 0 (of_decide_eq_true (by kernel_rfl)) (of_decide_eq_true (by kernel_rfl))
  exact (Array.getElem?_eq_some_iff.1 h1).1
set_option maxRecDepth 100000 in
theorem isEntF : ∃ fs, EntF Try.prog 39 fs := ⟨_, (EntF.mk Try.underlying39 (by kernel_rfl) ⟨_, rfl, rfl, by kernel_rfl, Try.underlying9⟩ ⟨_, rfl, rfl, by kernel_rfl, Try.underlying3⟩ ⟨_, rfl, rfl, by kernel_rfl, Try.underlying4⟩ ⟨_, rfl, rfl, by kernel_rfl, Try.underlying9⟩)⟩
set_option maxRecDepth 100000 in
theorem run {H : Type} {enc : TypeId × Value → H} (W : World) (base : Nat) (args : Array Value) (ds : List (DataW H)) (p : List MemPlace) (hval : ∀ (j : Nat) t v, Try.f4.params[j]? = some t → args[j]? = some v → Value.okWide Try.prog W .any base t v) (hopen : W.ShapedOpen Try.prog)
    (hA : DataW.TrodAll enc Try.prog W 0 (fun _ => true) true Try.f4.params.toList args.toList ds p) : Calls Try.prog 4 args W fun e w' => e = .returned (.bool true) ∧ Below W.heap.size W w' := by
  rw [Try.params4] at hA hval
  obtain ⟨fsEntF, eF⟩ := isEntF
  obtain ⟨v0, vs0, d0, ds0, p0, q0, hargs, rfl, rfl, h0, r0⟩ := trodAll_cons hA
  obtain ⟨v1, vs1, d1, ds1, p1, q1, rfl, rfl, rfl, h1, r1⟩ := trodAll_cons r0
  obtain ⟨v2, vs2, d2, ds2, p2, q2, rfl, rfl, rfl, h2, r2⟩ := trodAll_cons r1
  obtain ⟨rfl, rfl, rfl⟩ := trodAll_nil r2
  obtain rfl : args = #[v0, v1, v2] := by cases args; simp_all
  obtain ⟨h, s1, s2⟩ := Go.Ev.start W
  have s : Go.Ev.Start W h := ⟨s1, s2⟩
  obtain ⟨x0, y0, z0, rfl⟩ := okWide_slice Try.underlying23 (hval 0 23 v0 rfl rfl)
  obtain ⟨fu0, hfu0⟩ := h0
  obtain ⟨u0, L0, e0, m0, l0, k0⟩ := es_of s (heap_pos hopen) Try.underlying23 eF hfu0
  obtain rfl := (List.cons.inj (show [Value.slice x0 y0 z0] = [u0] from e0)).1
  obtain ⟨x1, y1, z1, rfl⟩ := okWide_slice Try.underlying24 (hval 1 24 v1 rfl rfl)
  obtain ⟨fu1, hfu1⟩ := h1
  obtain ⟨u1, L1, e1, m1, l1, k1⟩ := lk_of s (heap_pos hopen) Try.underlying24 (by kernel_rfl) Try.underlying3 hfu1
  obtain rfl := (List.cons.inj (show [Value.slice x1 y1 z1] = [u1] from e1)).1
  obtain ⟨a2, rfl, rfl, rfl⟩ := open_bool Try.underlying4 (hval 2 4 v2 rfl rfl) h2
  exact calls_true s (vs := [absV W (.slice x0 y0 z0), absV W (.slice x1 y1 z1), .b a2]) ⟨absV_rel W _, absV_rel W _, rfl, trivial⟩ (mergeSame_l (swn_abs m0) m0 l0 m1 l1 k1 s1.flo)
set_option maxRecDepth 100000 in
theorem lifted (os : Os) (started : os.Started) (H : Type) (enc : TypeId × Value → H) :
    ReturnsInHanded {} Try.checked os 4 .any (Rows.mergeSameSpec.pre6 enc Try.prog Try.f4 Rows.mergeSameRow.domain false) (Rows.mergeSameSpec.post enc Try.prog Try.f4 false true false false) :=
  law_lifted (C := Try.checked) own started (by kernel_rfl) Try.func4
    (ChangeSpec.witness6 (enc := enc) (C := Try.checked) false ⟨#[], #[.slice none 0 0, .slice none 0 0, .bool false], []⟩ 8 (by kernel_rfl) (by kernel_rfl) (by kernel_rfl) (by kernel_rfl))
    rfl (fun ds hd => by rw [Try.params4] at hd; match ds, hd with | [d1, d2, d3], _ => rfl) laid (by kernel_rfl) (by kernel_rfl) Try.underlying4 (fun W base args ds p hv ho hA => run W base args ds p hv ho hA)
theorem over : Rows.mergeSameRow.holds Try.pinned (OpenSpec.ofChange Rows.mergeSameSpec) :=
  OpenClaim.holds_of_wide 4 Try.f4 rfl rfl rfl rfl rfl rfl rfl ⟨rfl, rfl, rfl, rfl, rfl⟩ rfl rfl rfl rfl rfl (by kernel_rfl) Try.func4 (by kernel_rfl)
    (of_decide_eq_true (by kernel_rfl)) (by unfold Func.isWrapper; first | (rw [if_pos (by decide +kernel)]; kernel_rfl) | (rw [if_neg (by decide +kernel)]; exact ⟨rfl, rfl⟩))
    (fun os started H enc _ => lifted os started H enc)
/-- THE STATEMENT -/
theorem proved : Rows.MergeSameSaid :=
  over
end Go.Proofs.Ytnjgoggnhdpnoaa.mergeSame
