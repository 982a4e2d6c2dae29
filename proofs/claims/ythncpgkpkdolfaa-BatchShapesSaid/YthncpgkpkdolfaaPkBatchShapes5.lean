/- Texts of ours, without what this claim does not use: JrBa2 BaK NBa6 BaW ArgR NBaL BatchShapes. No condition. -/
import Derived.Test.YthncpgkpkdolfaaPkBatchShapes4
import Derived.Test.YthncpgkpkdolfaaProg
import Derived.KernelRfl
import Derived.Test.YthncpgkpkdolfaaRows
import Derived.WalkKit
import Derived.ProofKit
import Derived.OpenShut
import Derived.ChangeMaps5
set_option maxRecDepth 1000000
set_option linter.all false
namespace Go.Proofs.Ythncpgkpkdolfaa
open Go Go.Ev
noncomputable abbrev s7_0 : CC := (CC.seq (CC.draws [(uB 51 (doMove (tm 3))), (uB 52 (bin2 fEql (tm 51) (oN 0))), (uB 53 (doMove (tm 52))), (uG 53 true 54 (doMove (tm 7))), (uG 53 true 55 (bin2 fEql (tm 54) (oN 0))), (uB 56 (doPick (tm 53) (tm 55) (O.c (V.b Bool.false)))), (uB 57 (doMove (tm 56))), (uG 57 true 58 (doMove (tm 4))), (uG 57 true 59 (bin2 fEql (tm 58) (oN 3))), (uB 60 (doPick (tm 57) (tm 59) (O.c (V.b Bool.false)))), (uB 61 (doMove (tm 60))), (uG 61 true 62 (doMove (tm 6))), (uG 61 true 63 (doMove (tm 2))), (uG 61 true 64 (doLenS (tm 63))), (uG 61 true 65 (bin2 fEql (tm 62) (tm 64))), (uB 66 (doPick (tm 61) (tm 65) (O.c (V.b Bool.false)))), (uB 67 (doMove (tm 66))), (uG 67 true 68 (doMove (tm 5))), (uG 67 true 69 (doMove (tm 1))), (wG 67 true 70 (doCall 17 [(tm 68), (tm 69)])), (uB 71 (doPick (tm 67) (tm 70) (O.c (V.b Bool.false)))), (uB 72 (doMove (tm 71))), (uG 72 true 73 (doMove (tm 9))), (uG 72 true 74 (bin2 fEql (tm 73) (oN 10))), (uB 75 (doPick (tm 72) (tm 74) (O.c (V.b Bool.false)))), (uB 76 (doMove (tm 75))), (uG 76 true 77 (doMove (tm 1))), (wG 76 true 78 (doCall 15 [(tm 77)])), (uB 79 (doPick (tm 76) (tm 78) (O.c (V.b Bool.false)))), (uB 80 (doMove (tm 79))), (wG 80 true 81 (doCall 15 [(O.c V.l0)])), (uB 82 (doPick (tm 80) (tm 81) (O.c (V.b Bool.false)))), (uB 83 (doMove (tm 82))), (uG 83 true 84 (doMove (tm 1))), (uG 83 true 85 (doIndexAddr 3 (tm 84) (oN 1))), (uG 83 true 86 (doLoadA 3 (tm 85))), (uG 83 true 87 (doMove (tm 1))), (uG 83 true 88 (doIndexAddr 3 (tm 87) (oN 0))), (uG 83 true 89 (doLoadA 3 (tm 88))), (wG 83 true 90 (doBuildSlice 49 2 [(V.s 0 0), (V.b Bool.false), (V.s 0 0), (V.s 0 0), (V.b Bool.false), (V.s 0 0)] [(Pt.mk 0 3 (tm 86)), (Pt.mk 3 3 (tm 89))])), (wG 83 true 91 (doCall 15 [(tm 90)])), (uG 83 true 92 (doNot (tm 91))), (uB 93 (doPick (tm 83) (tm 92) (O.c (V.b Bool.false)))), (uB 94 (doMove (tm 93))), (uG 94 true 95 (doMove (tm 10))), (uG 94 true 96 (doLen (tm 95))), (uG 94 true 97 (bin2 fEql (tm 96) (oN 2))), (uB 98 (doPick (tm 94) (tm 97) (O.c (V.b Bool.false)))), (uB 99 (doMove (tm 98))), (uG 99 true 100 (doMove (tm 10))), (uG 99 true 101 (doIndexAddr 3 (tm 100) (oN 1))), (uG 99 true 102 (doFieldAddr 2 (tm 101))), (wG 99 true 103 (doLoad (tm 102))), (uG 99 true 104 (doSCmp eqS (tm 103) (O.c (V.s 1 121)))), (uB 105 (doPick (tm 99) (tm 104) (O.c (V.b Bool.false)))), (uB 106 (doMove (tm 105))), (uG 106 true 107 (doMove (tm 11))), (uG 106 true 108 (doLen (tm 107))), (uG 106 true 109 (bin2 fEql (tm 108) (oN 2))), (uB 110 (doPick (tm 106) (tm 109) (O.c (V.b Bool.false)))), (uB 111 (doMove (tm 110))), (uG 111 true 112 (doMove (tm 12))), (uG 111 true 113 (bin2 fEql (tm 112) (oN 3))), (uB 114 (doPick (tm 111) (tm 113) (O.c (V.b Bool.false)))), (uB 115 (doMove (tm 114))), (uG 115 true 116 (doMove (tm 13))), (uG 115 true 117 (doMove (tm 2))), (uG 115 true 118 (doLenS (tm 117))), (uG 115 true 119 (bin2 fEql (tm 116) (tm 118))), (uB 120 (doPick (tm 115) (tm 119) (O.c (V.b Bool.false)))), (uB 121 (doMove (tm 120))), (uG 121 true 122 (doMove (tm 1))), (wG 121 true 123 (doCall 21 [(oN 5), (tm 122)])), (uG 121 true 124 (doLen (tm 123))), (uG 121 true 125 (bin2 fEql (tm 124) (oN 2))), (uB 126 (doPick (tm 121) (tm 125) (O.c (V.b Bool.false)))), (uB 0 (doMove (tm 126)))]) CC.ret)
noncomputable abbrev s7_1 : CC := (CC.seq (CC.region [(wB 45 (doMove (tm 2))), (wB 46 (doConcat (tm 45) (O.c (V.s 1 122)))), (wB 47 (doCall 13 [(tm 46)])), (wB 44 (doMove (tm 47))), (wB 48 (doExtract 0 (tm 44))), (wB 49 (doExtract 1 (tm 44))), (wB 50 (doExtract 2 (tm 44))), (wB 11 (doMove (tm 48))), (wB 12 (doMove (tm 49))), (wB 13 (doMove (tm 50)))]) s7_0)
noncomputable abbrev s7_2 : CC := (CC.seq (CC.draws [(uB 35 (doMove (tm 1))), (uB 36 (doIndexAddr 3 (tm 35) (oN 1))), (uB 37 (doLoadA 3 (tm 36))), (uB 38 (doMove (tm 1))), (uB 39 (doIndexAddr 3 (tm 38) (oN 0))), (uB 40 (doLoadA 3 (tm 39))), (uB 41 (doBuild [(V.s 0 0), (V.b Bool.false), (V.s 0 0)] [(Pt.mk 0 1 (O.c (V.s 1 98))), (Pt.mk 2 1 (O.c (V.s 1 121)))])), (wB 42 (doBuildSlice 49 3 [(V.s 0 0), (V.b Bool.false), (V.s 0 0), (V.s 0 0), (V.b Bool.false), (V.s 0 0), (V.s 0 0), (V.b Bool.false), (V.s 0 0)] [(Pt.mk 0 3 (tm 37)), (Pt.mk 3 3 (tm 40)), (Pt.mk 6 3 (tm 41))])), (wB 43 (doCall 18 [(tm 42)])), (uB 10 (doMove (tm 43)))]) s7_1)
noncomputable abbrev s7_3 : CC := (CC.seq (CC.region [(wB 31 (doMove (tm 1))), (wB 32 (doCall 9 [(oN 0), (tm 31)])), (wB 30 (doMove (tm 32))), (wB 33 (doExtract 0 (tm 30))), (wB 34 (doExtract 1 (tm 30))), (wB 8 (doMove (tm 33))), (wB 9 (doMove (tm 34)))]) s7_2)
noncomputable abbrev s7_4 : CC := (CC.seq (CC.region [(wB 23 (doMove (tm 2))), (wB 24 (doConcat (tm 23) (O.c (V.s 1 122)))), (wB 25 (doCall 11 [(tm 24)])), (wB 22 (doMove (tm 25))), (wB 26 (doExtract 0 (tm 22))), (wB 27 (doExtract 1 (tm 22))), (wB 28 (doExtract 2 (tm 22))), (wB 29 (doExtract 3 (tm 22))), (wB 4 (doMove (tm 26))), (wB 5 (doMove (tm 27))), (wB 6 (doMove (tm 28))), (wB 7 (doMove (tm 29)))]) s7_3)
noncomputable abbrev s7_5 : CC := (CC.seq (CC.region [(wB 18 (doMove (tm 1))), (wB 19 (doCall 9 [(oN 3), (tm 18)])), (wB 17 (doMove (tm 19))), (wB 20 (doExtract 0 (tm 17))), (wB 21 (doExtract 1 (tm 17))), (wB 2 (doMove (tm 20))), (wB 3 (doMove (tm 21)))]) s7_4)
noncomputable abbrev s7_6 : CC := (CC.seq (CC.region [(wB 14 (doBuild [(V.s 0 0), (V.b Bool.false), (V.s 0 0)] [(Pt.mk 0 1 (O.c (V.s 1 97))), (Pt.mk 2 1 (O.c (V.s 1 120)))])), (wB 15 (doBuild [(V.s 0 0), (V.b Bool.false), (V.s 0 0)] [(Pt.mk 0 1 (O.c (V.s 1 98))), (Pt.mk 1 1 (O.c (V.b Bool.true)))])), (wB 16 (doBuildSlice 49 2 [(V.s 0 0), (V.b Bool.false), (V.s 0 0), (V.s 0 0), (V.b Bool.false), (V.s 0 0)] [(Pt.mk 0 3 (tm 14)), (Pt.mk 3 3 (tm 15))])), (wB 1 (doMove (tm 16)))]) s7_5)
noncomputable abbrev b7 : CC := (CC.seq (CC.region [(wB 0 (doMove (O.c (V.b Bool.false))))]) s7_6)
theorem c7 : compFn Try.prog 7 = ⟨127, b7, [(Rs.tmp (slOf 0))]⟩ := by kernel_rfl
noncomputable abbrev s3_0 : CC := (CC.seq (CC.region [(wB 6 (doMove (O.c (V.b Bool.false))))]) CC.ret)
noncomputable abbrev s3_1 : CC := (CC.cond (tm 26) s3_0 CC.skip)
noncomputable abbrev s3_2 : CC := (CC.seq (CC.region [(wB 25 (doCall 7 [])), (wB 26 (doNot (tm 25)))]) s3_1)
noncomputable abbrev s3_3 : CC := (CC.seq (CC.region [(wB 6 (doMove (O.c (V.b Bool.true))))]) CC.ret)
noncomputable abbrev s3_4 : CC := (CC.cond (tm 34) s3_3 CC.skip)
noncomputable abbrev s3_5 : CC := (CC.seq (CC.region [(wB 27 (doMove (tm 0))), (wB 28 (doCall 8 [(tm 27)])), (wB 29 (doNot (tm 28))), (wB 30 (doMove (tm 29))), (wG 30 false 31 (doMove (tm 2))), (wG 30 false 32 (doLenS (tm 31))), (wG 30 false 33 (bin2 fGtr (tm 32) (oN 1500))), (wB 34 (doPick (tm 30) (O.c (V.b Bool.true)) (tm 33)))]) s3_4)
noncomputable abbrev s3_6 : CC := (CC.seq (CC.region [(wB 73 (doMove (tm 0))), (wB 74 (doCall 15 [(tm 73)])), (wB 75 (doMove (tm 0))), (wB 76 (doCall 16 [(tm 75)])), (wB 77 (doBool Bool.false (tm 74) (tm 76))), (wB 78 (doMove (tm 77))), (wG 78 true 79 (doMove (tm 0))), (wG 78 true 80 (doCall 18 [(tm 79)])), (wG 78 true 81 (doMove (tm 0))), (wG 78 true 82 (doCall 19 [(tm 81)])), (wG 78 true 83 (doCall 17 [(tm 80), (tm 82)])), (wB 84 (doPick (tm 78) (tm 83) (O.c (V.b Bool.false)))), (wB 85 (doMove (tm 84))), (wG 85 true 86 (doMove (tm 7))), (wG 85 true 87 (doMove (tm 9))), (wG 85 true 88 (doSCmp eqS (tm 86) (tm 87))), (wB 89 (doPick (tm 85) (tm 88) (O.c (V.b Bool.false)))), (wB 90 (doMove (tm 89))), (wG 90 true 91 (doMove (tm 8))), (wG 90 true 92 (doMove (tm 10))), (wG 90 true 93 (bin2 fEql (tm 91) (tm 92))), (wB 94 (doPick (tm 90) (tm 93) (O.c (V.b Bool.false)))), (wB 95 (doMove (tm 94))), (wG 95 true 96 (doMove (tm 11))), (wG 95 true 97 (doMove (tm 15))), (wG 95 true 98 (bin2 fEql (tm 96) (tm 97))), (wB 99 (doPick (tm 95) (tm 98) (O.c (V.b Bool.false)))), (wB 100 (doMove (tm 99))), (wG 100 true 101 (doMove (tm 12))), (wG 100 true 102 (doMove (tm 16))), (wG 100 true 103 (doCall 17 [(tm 101), (tm 102)])), (wB 104 (doPick (tm 100) (tm 103) (O.c (V.b Bool.false)))), (wB 105 (doMove (tm 104))), (wG 105 true 106 (doMove (tm 13))), (wG 105 true 107 (doMove (tm 17))), (wG 105 true 108 (bin2 fEql (tm 106) (tm 107))), (wB 109 (doPick (tm 105) (tm 108) (O.c (V.b Bool.false)))), (wB 110 (doMove (tm 109))), (wG 110 true 111 (doMove (tm 14))), (wG 110 true 112 (doMove (tm 18))), (wG 110 true 113 (bin2 fEql (tm 111) (tm 112))), (wB 114 (doPick (tm 110) (tm 113) (O.c (V.b Bool.false)))), (wB 115 (doMove (tm 114))), (wG 115 true 116 (doMove (tm 19))), (wG 115 true 117 (doMove (tm 22))), (wG 115 true 118 (doCall 20 [(tm 116), (tm 117)])), (wB 119 (doPick (tm 115) (tm 118) (O.c (V.b Bool.false)))), (wB 120 (doMove (tm 119))), (wG 120 true 121 (doMove (tm 20))), (wG 120 true 122 (doMove (tm 23))), (wG 120 true 123 (bin2 fEql (tm 121) (tm 122))), (wB 124 (doPick (tm 120) (tm 123) (O.c (V.b Bool.false)))), (wB 125 (doMove (tm 124))), (wG 125 true 126 (doMove (tm 21))), (wG 125 true 127 (doMove (tm 24))), (wG 125 true 128 (bin2 fEql (tm 126) (tm 127))), (wB 129 (doPick (tm 125) (tm 128) (O.c (V.b Bool.false)))), (wB 130 (doMove (tm 129))), (wG 130 true 131 (doMove (tm 1))), (wG 130 true 132 (doMove (tm 0))), (wG 130 true 133 (doCall 21 [(tm 131), (tm 132)])), (wG 130 true 134 (doMove (tm 1))), (wG 130 true 135 (doMove (tm 0))), (wG 130 true 136 (doCall 22 [(tm 134), (tm 135)])), (wG 130 true 137 (doCall 20 [(tm 133), (tm 136)])), (wB 138 (doPick (tm 130) (tm 137) (O.c (V.b Bool.false)))), (wB 6 (doMove (tm 138)))]) CC.ret)
noncomputable abbrev s3_7 : CC := (CC.seq (CC.region [(wB 68 (doMove (tm 2))), (wB 69 (doCall 14 [(tm 68)])), (wB 67 (doMove (tm 69))), (wB 70 (doExtract 0 (tm 67))), (wB 71 (doExtract 1 (tm 67))), (wB 72 (doExtract 2 (tm 67))), (wB 22 (doMove (tm 70))), (wB 23 (doMove (tm 71))), (wB 24 (doMove (tm 72)))]) s3_6)
noncomputable abbrev s3_8 : CC := (CC.seq (CC.region [(wB 62 (doMove (tm 2))), (wB 63 (doCall 13 [(tm 62)])), (wB 61 (doMove (tm 63))), (wB 64 (doExtract 0 (tm 61))), (wB 65 (doExtract 1 (tm 61))), (wB 66 (doExtract 2 (tm 61))), (wB 19 (doMove (tm 64))), (wB 20 (doMove (tm 65))), (wB 21 (doMove (tm 66)))]) s3_7)
noncomputable abbrev s3_9 : CC := (CC.seq (CC.region [(wB 55 (doMove (tm 2))), (wB 56 (doCall 12 [(tm 55)])), (wB 54 (doMove (tm 56))), (wB 57 (doExtract 0 (tm 54))), (wB 58 (doExtract 1 (tm 54))), (wB 59 (doExtract 2 (tm 54))), (wB 60 (doExtract 3 (tm 54))), (wB 15 (doMove (tm 57))), (wB 16 (doMove (tm 58))), (wB 17 (doMove (tm 59))), (wB 18 (doMove (tm 60)))]) s3_8)
noncomputable abbrev s3_10 : CC := (CC.seq (CC.region [(wB 48 (doMove (tm 2))), (wB 49 (doCall 11 [(tm 48)])), (wB 47 (doMove (tm 49))), (wB 50 (doExtract 0 (tm 47))), (wB 51 (doExtract 1 (tm 47))), (wB 52 (doExtract 2 (tm 47))), (wB 53 (doExtract 3 (tm 47))), (wB 11 (doMove (tm 50))), (wB 12 (doMove (tm 51))), (wB 13 (doMove (tm 52))), (wB 14 (doMove (tm 53)))]) s3_9)
noncomputable abbrev s3_11 : CC := (CC.seq (CC.region [(wB 42 (doMove (tm 1))), (wB 43 (doMove (tm 0))), (wB 44 (doCall 10 [(tm 42), (tm 43)])), (wB 41 (doMove (tm 44))), (wB 45 (doExtract 0 (tm 41))), (wB 46 (doExtract 1 (tm 41))), (wB 9 (doMove (tm 45))), (wB 10 (doMove (tm 46)))]) s3_10)
noncomputable abbrev s3_12 : CC := (CC.seq (CC.region [(wB 36 (doMove (tm 1))), (wB 37 (doMove (tm 0))), (wB 38 (doCall 9 [(tm 36), (tm 37)])), (wB 35 (doMove (tm 38))), (wB 39 (doExtract 0 (tm 35))), (wB 40 (doExtract 1 (tm 35))), (wB 7 (doMove (tm 39))), (wB 8 (doMove (tm 40)))]) s3_11)
noncomputable abbrev s3_13 : CC := (CC.seq s3_5 s3_12)
noncomputable abbrev s3_14 : CC := (CC.seq s3_2 s3_13)
noncomputable abbrev b3 : CC := (CC.seq (CC.region [(wB 6 (doMove (O.c (V.b Bool.false))))]) s3_14)
theorem c3 : compFn Try.prog 3 = ⟨139, b3, [(Rs.tmp (slOf 6))]⟩ := by kernel_rfl
noncomputable abbrev s4_0 : CC := (CC.seq (CC.region [(wB 8 (doMove (O.c (V.b Bool.false))))]) CC.ret)
noncomputable abbrev s4_1 : CC := (CC.cond (tm 29) s4_0 CC.skip)
noncomputable abbrev s4_2 : CC := (CC.seq (CC.region [(wB 28 (doCall 7 [])), (wB 29 (doNot (tm 28)))]) s4_1)
noncomputable abbrev s4_3 : CC := (CC.seq (CC.region [(wB 8 (doMove (O.c (V.b Bool.true))))]) CC.ret)
noncomputable abbrev s4_4 : CC := (CC.cond (tm 37) s4_3 CC.skip)
noncomputable abbrev s4_5 : CC := (CC.seq (CC.region [(wB 30 (doMove (tm 0))), (wB 31 (doLen (tm 30))), (wB 32 (bin2 fGtr (tm 31) (oN 10))), (wB 33 (doMove (tm 32))), (wG 33 false 34 (doMove (tm 0))), (wG 33 false 35 (doLen (tm 34))), (wG 33 false 36 (bin2 fEql (tm 35) (oN 0))), (wB 37 (doPick (tm 33) (O.c (V.b Bool.true)) (tm 36)))]) s4_4)
noncomputable abbrev s4_6 : CC := (CC.cond (tm 47) CC.skip (CC.exit 0))
noncomputable abbrev s4_7 : CC := (CC.seq (CC.region [(wB 44 (doMove (tm 14))), (wB 45 (doMove (tm 0))), (wB 46 (doLen (tm 45))), (wB 47 (bin2 fLss (tm 44) (tm 46)))]) s4_6)
noncomputable abbrev s4_8 : CC := (CC.seq (CC.region [(wB 8 (doMove (O.c (V.b Bool.true))))]) CC.ret)
noncomputable abbrev s4_9 : CC := (CC.cond (tm 55) s4_8 CC.skip)
noncomputable abbrev s4_10 : CC := (CC.seq (CC.region [(wB 50 (doMove (tm 0))), (wB 51 (doMove (tm 14))), (wB 52 (doIndexAddr 1 (tm 50) (tm 51))), (wB 53 (doLoad (tm 52))), (wB 54 (doCall 8 [(tm 53)])), (wB 55 (doNot (tm 54)))]) s4_9)
noncomputable abbrev s4_11 : CC := (CC.region [(wB 73 (doMove (tm 16))), (wB 74 (bin2 fAdd (tm 73) (oN 1))), (wB 16 (doMove (tm 74)))])
noncomputable abbrev s4_12 : CC := (CC.cond (tm 72) s4_11 CC.skip)
noncomputable abbrev s4_13 : CC := (CC.seq (CC.region [(wB 66 (doMove (tm 13))), (wB 67 (bin2 fGtr (tm 66) (oN 0))), (wB 68 (doMove (tm 67))), (wG 68 true 69 (doMove (tm 14))), (wG 68 true 70 (doMove (tm 13))), (wG 68 true 71 (bin2 fGeq (tm 69) (tm 70))), (wB 72 (doPick (tm 68) (tm 71) (O.c (V.b Bool.false))))]) s4_12)
noncomputable abbrev s4_14 : CC := (CC.seq (CC.region [(wB 83 (doMove (tm 15))), (wB 84 (doCall 16 [(tm 83)])), (wB 85 (doNot (tm 84))), (wB 8 (doMove (tm 85)))]) CC.ret)
noncomputable abbrev s4_15 : CC := (CC.cond (tm 82) s4_14 CC.skip)
noncomputable abbrev s4_16 : CC := (CC.seq (CC.region [(wB 81 (doMove (tm 18))), (wB 82 (bin2 fNeq (tm 81) (oN 0)))]) s4_15)
noncomputable abbrev s4_17 : CC := (CC.region [(wB 93 (doMove (tm 10))), (wB 94 (doMove (tm 9))), (wB 95 (doLenS (tm 94))), (wB 96 (doBuildSlice 3 1 [(V.i IntKind.i64 (Int.ofNat 0))] [(Pt.mk 0 1 (tm 95))])), (wB 97 (doAppend 3 1 (tm 93) (tm 96))), (wB 98 (doMove (tm 11))), (wB 99 (doMove (tm 12))), (wB 100 (doBuildSlice 3 1 [(V.i IntKind.i64 (Int.ofNat 0))] [(Pt.mk 0 1 (tm 99))])), (wB 101 (doAppend 3 1 (tm 98) (tm 100))), (wB 10 (doMove (tm 97))), (wB 11 (doMove (tm 101)))])
noncomputable abbrev s4_18 : CC := (CC.seq (CC.region [(wB 89 (doMove (tm 12))), (wB 90 (doMove (tm 15))), (wB 91 (doLen (tm 90))), (wB 92 (bin2 fAdd (tm 89) (tm 91))), (wB 12 (doMove (tm 92)))]) s4_17)
noncomputable abbrev s4_19 : CC := (CC.seq (CC.region [(wB 86 (doMove (tm 9))), (wB 87 (doMove (tm 17))), (wB 88 (doConcat (tm 86) (tm 87))), (wB 9 (doMove (tm 88)))]) s4_18)
noncomputable abbrev s4_20 : CC := (CC.seq s4_16 s4_19)
noncomputable abbrev s4_21 : CC := (CC.seq (CC.region [(wB 76 (doMove (tm 16))), (wB 77 (doMove (tm 15))), (wB 78 (doCall 9 [(tm 76), (tm 77)])), (wB 75 (doMove (tm 78))), (wB 79 (doExtract 0 (tm 75))), (wB 80 (doExtract 1 (tm 75))), (wB 17 (doMove (tm 79))), (wB 18 (doMove (tm 80)))]) s4_20)
noncomputable abbrev s4_22 : CC := (CC.seq s4_13 s4_21)
noncomputable abbrev s4_23 : CC := (CC.seq (CC.region [(wB 61 (doMove (tm 1))), (wB 62 (doConv IntKind.i64 (tm 61))), (wB 63 (bin2 fAdd (tm 62) (oN 1))), (wB 64 (doMove (tm 14))), (wB 65 (bin2 fAdd (tm 63) (tm 64))), (wB 16 (doMove (tm 65)))]) s4_22)
noncomputable abbrev s4_24 : CC := (CC.seq (CC.region [(wB 56 (doMove (tm 0))), (wB 57 (doMove (tm 14))), (wB 58 (doIndexAddr 1 (tm 56) (tm 57))), (wB 59 (doLoad (tm 58))), (wB 60 (doCall 18 [(tm 59)])), (wB 15 (doMove (tm 60)))]) s4_23)
noncomputable abbrev s4_25 : CC := (CC.seq s4_10 s4_24)
noncomputable abbrev s4_26 : CC := (CC.block 1 s4_25)
noncomputable abbrev s4_27 : CC := (CC.region [(wB 48 (doMove (tm 14))), (wB 49 (bin2 fAdd (tm 48) (oN 1))), (wB 14 (doMove (tm 49)))])
noncomputable abbrev s4_28 : CC := (CC.seq s4_26 s4_27)
noncomputable abbrev l4_0 : CC := (CC.seq s4_7 s4_28)
noncomputable abbrev s4_29 : CC := (CC.loop l4_0)
noncomputable abbrev s4_30 : CC := (CC.block 0 s4_29)
noncomputable abbrev s4_31 : CC := (CC.seq (CC.region [(wB 14 (doMove (oN 0)))]) s4_30)
noncomputable abbrev s4_32 : CC := (CC.region [(wB 112 (doMove (tm 13))), (wB 19 (doMove (tm 112)))])
noncomputable abbrev s4_33 : CC := (CC.cond (tm 111) s4_32 CC.skip)
noncomputable abbrev s4_34 : CC := (CC.seq (CC.region [(wB 104 (doMove (tm 13))), (wB 105 (bin2 fGtr (tm 104) (oN 0))), (wB 106 (doMove (tm 105))), (wG 106 true 107 (doMove (tm 13))), (wG 106 true 108 (doMove (tm 0))), (wG 106 true 109 (doLen (tm 108))), (wG 106 true 110 (bin2 fLss (tm 107) (tm 109))), (wB 111 (doPick (tm 106) (tm 110) (O.c (V.b Bool.false))))]) s4_33)
noncomputable abbrev s4_35 : CC := (CC.seq (CC.region [(wB 8 (doMove (O.c (V.b Bool.false))))]) CC.ret)
noncomputable abbrev s4_36 : CC := (CC.cond (tm 143) s4_35 CC.skip)
noncomputable abbrev s4_37 : CC := (CC.seq (CC.region [(wB 119 (doMove (tm 20))), (wB 120 (doLen (tm 119))), (wB 121 (doMove (tm 11))), (wB 122 (doMove (tm 19))), (wB 123 (bin2 fSub (tm 122) (oN 1))), (wB 124 (doIndexAddr 1 (tm 121) (tm 123))), (wB 125 (doLoad (tm 124))), (wB 126 (bin2 fNeq (tm 120) (tm 125))), (wB 127 (doMove (tm 126))), (wG 127 false 128 (doMove (tm 21))), (wG 127 false 129 (doMove (tm 1))), (wG 127 false 130 (doConv IntKind.i64 (tm 129))), (wG 127 false 131 (doMove (tm 19))), (wG 127 false 132 (bin2 fAdd (tm 130) (tm 131))), (wG 127 false 133 (bin2 fNeq (tm 128) (tm 132))), (wB 134 (doPick (tm 127) (O.c (V.b Bool.true)) (tm 133))), (wB 135 (doMove (tm 134))), (wG 135 false 136 (doMove (tm 22))), (wG 135 false 137 (doMove (tm 10))), (wG 135 false 138 (doMove (tm 19))), (wG 135 false 139 (bin2 fSub (tm 138) (oN 1))), (wG 135 false 140 (doIndexAddr 1 (tm 137) (tm 139))), (wG 135 false 141 (doLoad (tm 140))), (wG 135 false 142 (bin2 fNeq (tm 136) (tm 141))), (wB 143 (doPick (tm 135) (O.c (V.b Bool.true)) (tm 142)))]) s4_36)
noncomputable abbrev s4_38 : CC := (CC.cond (tm 159) CC.skip (CC.exit 2))
noncomputable abbrev s4_39 : CC := (CC.seq (CC.region [(wB 149 (doMove (tm 24))), (wB 150 (doMove (tm 19))), (wB 151 (bin2 fLss (tm 149) (tm 150))), (wB 152 (doMove (tm 151))), (wG 152 true 153 (doMove (tm 10))), (wG 152 true 154 (doMove (tm 24))), (wG 152 true 155 (doIndexAddr 1 (tm 153) (tm 154))), (wG 152 true 156 (doLoad (tm 155))), (wG 152 true 157 (doMove (tm 23))), (wG 152 true 158 (bin2 fLeq (tm 156) (tm 157))), (wB 159 (doPick (tm 152) (tm 158) (O.c (V.b Bool.false))))]) s4_38)
noncomputable abbrev s4_40 : CC := (CC.region [(wB 160 (doMove (tm 24))), (wB 161 (bin2 fAdd (tm 160) (oN 1))), (wB 24 (doMove (tm 161)))])
noncomputable abbrev s4_41 : CC := (CC.block 3 s4_40)
noncomputable abbrev l4_1 : CC := (CC.seq s4_39 s4_41)
noncomputable abbrev s4_42 : CC := (CC.loop l4_1)
noncomputable abbrev s4_43 : CC := (CC.block 2 s4_42)
noncomputable abbrev s4_44 : CC := (CC.seq (CC.region [(wB 172 (doMove (tm 25))), (wB 173 (doLen (tm 172))), (wB 174 (bin2 fEql (tm 173) (oN 0))), (wB 175 (doMove (tm 174))), (wG 175 true 176 (doMove (tm 26))), (wG 175 true 177 (bin2 fEql (tm 176) (oN 0))), (wB 178 (doPick (tm 175) (tm 177) (O.c (V.b Bool.false)))), (wB 179 (doMove (tm 178))), (wG 179 true 180 (doMove (tm 27))), (wG 179 true 181 (bin2 fEql (tm 180) (oN 0))), (wB 182 (doPick (tm 179) (tm 181) (O.c (V.b Bool.false)))), (wB 8 (doMove (tm 182)))]) CC.ret)
noncomputable abbrev s4_45 : CC := (CC.cond (tm 171) s4_44 CC.skip)
noncomputable abbrev s4_46 : CC := (CC.seq (CC.region [(wB 170 (doMove (tm 24))), (wB 171 (bin2 fEql (tm 170) (oN 0)))]) s4_45)
noncomputable abbrev s4_47 : CC := (CC.seq (CC.region [(wB 183 (doMove (tm 25))), (wB 184 (doLen (tm 183))), (wB 185 (doMove (tm 11))), (wB 186 (doMove (tm 24))), (wB 187 (bin2 fSub (tm 186) (oN 1))), (wB 188 (doIndexAddr 1 (tm 185) (tm 187))), (wB 189 (doLoad (tm 188))), (wB 190 (bin2 fEql (tm 184) (tm 189))), (wB 191 (doMove (tm 190))), (wG 191 true 192 (doMove (tm 26))), (wG 191 true 193 (doMove (tm 1))), (wG 191 true 194 (doConv IntKind.i64 (tm 193))), (wG 191 true 195 (doMove (tm 24))), (wG 191 true 196 (bin2 fAdd (tm 194) (tm 195))), (wG 191 true 197 (bin2 fEql (tm 192) (tm 196))), (wB 198 (doPick (tm 191) (tm 197) (O.c (V.b Bool.false)))), (wB 199 (doMove (tm 198))), (wG 199 true 200 (doMove (tm 27))), (wG 199 true 201 (doMove (tm 10))), (wG 199 true 202 (doMove (tm 24))), (wG 199 true 203 (bin2 fSub (tm 202) (oN 1))), (wG 199 true 204 (doIndexAddr 1 (tm 201) (tm 203))), (wG 199 true 205 (doLoad (tm 204))), (wG 199 true 206 (bin2 fEql (tm 200) (tm 205))), (wB 207 (doPick (tm 199) (tm 206) (O.c (V.b Bool.false)))), (wB 8 (doMove (tm 207)))]) CC.ret)
noncomputable abbrev s4_48 : CC := (CC.seq s4_46 s4_47)
noncomputable abbrev s4_49 : CC := (CC.seq (CC.region [(wB 163 (doMove (tm 9))), (wB 164 (doMove (tm 23))), (wB 165 (doSSlice (tm 163) none (some (tm 164)))), (wB 166 (doCall 13 [(tm 165)])), (wB 162 (doMove (tm 166))), (wB 167 (doExtract 0 (tm 162))), (wB 168 (doExtract 1 (tm 162))), (wB 169 (doExtract 2 (tm 162))), (wB 25 (doMove (tm 167))), (wB 26 (doMove (tm 168))), (wB 27 (doMove (tm 169)))]) s4_48)
noncomputable abbrev s4_50 : CC := (CC.seq s4_43 s4_49)
noncomputable abbrev s4_51 : CC := (CC.seq (CC.region [(wB 24 (doMove (oN 0)))]) s4_50)
noncomputable abbrev s4_52 : CC := (CC.seq (CC.region [(wB 144 (doMove (tm 2))), (wB 145 (doConv IntKind.i64 (tm 144))), (wB 146 (doMove (tm 9))), (wB 147 (doLenS (tm 146))), (wB 148 (doRem (tm 145) (tm 147))), (wB 23 (doMove (tm 148)))]) s4_51)
noncomputable abbrev s4_53 : CC := (CC.seq s4_37 s4_52)
noncomputable abbrev s4_54 : CC := (CC.seq (CC.region [(wB 114 (doMove (tm 9))), (wB 115 (doCall 13 [(tm 114)])), (wB 113 (doMove (tm 115))), (wB 116 (doExtract 0 (tm 113))), (wB 117 (doExtract 1 (tm 113))), (wB 118 (doExtract 2 (tm 113))), (wB 20 (doMove (tm 116))), (wB 21 (doMove (tm 117))), (wB 22 (doMove (tm 118)))]) s4_53)
noncomputable abbrev s4_55 : CC := (CC.seq s4_34 s4_54)
noncomputable abbrev s4_56 : CC := (CC.seq (CC.region [(wB 102 (doMove (tm 0))), (wB 103 (doLen (tm 102))), (wB 19 (doMove (tm 103)))]) s4_55)
noncomputable abbrev s4_57 : CC := (CC.seq s4_31 s4_56)
noncomputable abbrev s4_58 : CC := (CC.seq (CC.region [(wB 38 (doMove (tm 3))), (wB 39 (doConv IntKind.i64 (tm 38))), (wB 40 (doMove (tm 0))), (wB 41 (doLen (tm 40))), (wB 42 (bin2 fMul (oN 2) (tm 41))), (wB 43 (doRem (tm 39) (tm 42))), (wB 13 (doMove (tm 43)))]) s4_57)
noncomputable abbrev s4_59 : CC := (CC.seq (CC.region [(wB 12 (doMove (oN 0)))]) s4_58)
noncomputable abbrev s4_60 : CC := (CC.seq (CC.region [(wB 10 (doMove (O.c V.l0))), (wB 11 (doMove (O.c V.l0)))]) s4_59)
noncomputable abbrev s4_61 : CC := (CC.seq (CC.region [(wB 9 (doMove (O.c (V.s 0 0))))]) s4_60)
noncomputable abbrev s4_62 : CC := (CC.seq s4_5 s4_61)
noncomputable abbrev s4_63 : CC := (CC.seq s4_2 s4_62)
noncomputable abbrev b4 : CC := (CC.seq (CC.region [(wB 8 (doMove (O.c (V.b Bool.false))))]) s4_63)
theorem c4 : compFn Try.prog 4 = ⟨208, b4, [(Rs.tmp (slOf 8))]⟩ := by kernel_rfl
noncomputable abbrev s5_0 : CC := (CC.seq (CC.region [(wB 2 (doMove (O.c (V.b Bool.false))))]) CC.ret)
noncomputable abbrev s5_1 : CC := (CC.cond (tm 11) s5_0 CC.skip)
noncomputable abbrev s5_2 : CC := (CC.seq (CC.region [(wB 10 (doCall 7 [])), (wB 11 (doNot (tm 10)))]) s5_1)
noncomputable abbrev s5_3 : CC := (CC.seq (CC.region [(wB 2 (doMove (O.c (V.b Bool.true))))]) CC.ret)
noncomputable abbrev s5_4 : CC := (CC.cond (tm 14) s5_3 CC.skip)
noncomputable abbrev s5_5 : CC := (CC.seq (CC.region [(wB 12 (doMove (tm 0))), (wB 13 (doLen (tm 12))), (wB 14 (bin2 fGtr (tm 13) (oN 30)))]) s5_4)
noncomputable abbrev s5_6 : CC := (CC.cond (tm 18) CC.skip (CC.exit 0))
noncomputable abbrev s5_7 : CC := (CC.seq (CC.region [(wB 15 (doMove (tm 5))), (wB 16 (doMove (tm 0))), (wB 17 (doLen (tm 16))), (wB 18 (bin2 fLss (tm 15) (tm 17)))]) s5_6)
noncomputable abbrev s5_8 : CC := (CC.region [(wB 31 (doMove (tm 3))), (wB 32 (doMove (tm 6))), (wB 33 (bin2 fAdd (oN 97) (tm 32))), (wB 34 (doConv IntKind.u8 (tm 33))), (wB 35 (doBuildSlice 5 1 [(V.i IntKind.u8 (Int.ofNat 0))] [(Pt.mk 0 1 (tm 34))])), (wB 36 (doB2S (tm 35))), (wB 37 (doMove (tm 5))), (wB 38 (bin2 fAdd (oN 65) (tm 37))), (wB 39 (doConv IntKind.u8 (tm 38))), (wB 40 (doBuildSlice 5 1 [(V.i IntKind.u8 (Int.ofNat 0))] [(Pt.mk 0 1 (tm 39))])), (wB 41 (doB2S (tm 40))), (wB 42 (doBuild [(V.s 0 0), (V.b Bool.false), (V.s 0 0)] [(Pt.mk 0 1 (tm 36)), (Pt.mk 2 1 (tm 41))])), (wB 43 (doBuildSlice 49 1 [(V.s 0 0), (V.b Bool.false), (V.s 0 0)] [(Pt.mk 0 3 (tm 42))])), (wB 44 (doAppend 49 3 (tm 31) (tm 43))), (wB 3 (doMove (tm 44)))])
noncomputable abbrev s5_9 : CC := (CC.seq (CC.region [(wB 27 (doMove (tm 6))), (wB 28 (doMove (tm 5))), (wB 29 (bin2 fAdd (tm 28) (oN 1))), (wB 30 (doIndexAddrArr 8 1 (tm 4) (tm 27))), (CO.mk G.none D.none Bool.true (CR.mk (doStore 1 (tm 30) (tm 29))))]) s5_8)
noncomputable abbrev s5_10 : CC := (CC.seq (CC.region [(wB 21 (doMove (tm 0))), (wB 22 (doMove (tm 5))), (wB 23 (doIndexAddr 1 (tm 21) (tm 22))), (wB 24 (doLoad (tm 23))), (wB 25 (doRem (tm 24) (O.c (V.i IntKind.u8 (Int.ofNat 8))))), (wB 26 (doConv IntKind.i64 (tm 25))), (wB 6 (doMove (tm 26)))]) s5_9)
noncomputable abbrev s5_11 : CC := (CC.block 1 s5_10)
noncomputable abbrev s5_12 : CC := (CC.region [(wB 19 (doMove (tm 5))), (wB 20 (bin2 fAdd (tm 19) (oN 1))), (wB 5 (doMove (tm 20)))])
noncomputable abbrev s5_13 : CC := (CC.seq s5_11 s5_12)
noncomputable abbrev l5_0 : CC := (CC.seq s5_7 s5_13)
noncomputable abbrev s5_14 : CC := (CC.loop l5_0)
noncomputable abbrev s5_15 : CC := (CC.block 0 s5_14)
noncomputable abbrev s5_16 : CC := (CC.seq (CC.region [(wB 5 (doMove (oN 0)))]) s5_15)
noncomputable abbrev s5_17 : CC := (CC.cond (tm 48) CC.skip (CC.exit 2))
noncomputable abbrev s5_18 : CC := (CC.seq (CC.region [(wB 47 (doMove (tm 9))), (wB 48 (bin2 fLss (tm 47) (oN 8)))]) s5_17)
noncomputable abbrev s5_19 : CC := (CC.cond (tm 54) (CC.exit 3) CC.skip)
noncomputable abbrev s5_20 : CC := (CC.seq (CC.region [(wB 51 (doMove (tm 9))), (wB 52 (doIndexAddrArr 8 1 (tm 4) (tm 51))), (wB 53 (doLoad (tm 52))), (wB 54 (bin2 fEql (tm 53) (oN 0)))]) s5_19)
noncomputable abbrev s5_21 : CC := (CC.seq (CC.region [(wB 2 (doMove (O.c (V.b Bool.false))))]) CC.ret)
noncomputable abbrev s5_22 : CC := (CC.cond (tm 72) s5_21 CC.skip)
noncomputable abbrev s5_23 : CC := (CC.seq (CC.draws [(uB 55 (doMove (tm 8))), (uB 56 (doMove (tm 7))), (uB 57 (doLen (tm 56))), (uB 58 (bin2 fGeq (tm 55) (tm 57))), (uB 59 (doMove (tm 58))), (uG 59 false 60 (doMove (tm 7))), (uG 59 false 61 (doMove (tm 8))), (uG 59 false 62 (doIndexAddr 3 (tm 60) (tm 61))), (uG 59 false 63 (doLoadA 3 (tm 62))), (uG 59 false 64 (doMove (tm 3))), (uG 59 false 65 (doMove (tm 9))), (uG 59 false 66 (doIndexAddrArr 8 1 (tm 4) (tm 65))), (uG 59 false 67 (doLoad (tm 66))), (uG 59 false 68 (bin2 fSub (tm 67) (oN 1))), (uG 59 false 69 (doIndexAddr 3 (tm 64) (tm 68))), (uG 59 false 70 (doLoadA 3 (tm 69))), (uG 59 false 71 (doSEq [KD.s, KD.b, KD.s] Bool.true (tm 63) (tm 70))), (uB 72 (doPick (tm 59) (O.c (V.b Bool.true)) (tm 71)))]) s5_22)
noncomputable abbrev s5_24 : CC := (CC.region [(wB 73 (doMove (tm 8))), (wB 74 (bin2 fAdd (tm 73) (oN 1))), (wB 8 (doMove (tm 74)))])
noncomputable abbrev s5_25 : CC := (CC.seq s5_23 s5_24)
noncomputable abbrev s5_26 : CC := (CC.seq s5_20 s5_25)
noncomputable abbrev s5_27 : CC := (CC.block 3 s5_26)
noncomputable abbrev s5_28 : CC := (CC.region [(wB 49 (doMove (tm 9))), (wB 50 (bin2 fAdd (tm 49) (oN 1))), (wB 9 (doMove (tm 50)))])
noncomputable abbrev s5_29 : CC := (CC.seq s5_27 s5_28)
noncomputable abbrev l5_1 : CC := (CC.seq s5_18 s5_29)
noncomputable abbrev s5_30 : CC := (CC.loop l5_1)
noncomputable abbrev s5_31 : CC := (CC.block 2 s5_30)
noncomputable abbrev s5_32 : CC := (CC.seq (CC.region [(wB 9 (doMove (oN 0)))]) s5_31)
noncomputable abbrev s5_33 : CC := (CC.seq (CC.region [(wB 75 (doMove (tm 8))), (wB 76 (doMove (tm 7))), (wB 77 (doLen (tm 76))), (wB 78 (bin2 fEql (tm 75) (tm 77))), (wB 79 (doMove (tm 78))), (wG 79 true 80 (doMove (tm 7))), (wG 79 true 81 (doCall 15 [(tm 80)])), (wB 82 (doPick (tm 79) (tm 81) (O.c (V.b Bool.false)))), (wB 2 (doMove (tm 82)))]) CC.ret)
noncomputable abbrev s5_34 : CC := (CC.seq s5_32 s5_33)
noncomputable abbrev s5_35 : CC := (CC.seq (CC.region [(wB 8 (doMove (oN 0)))]) s5_34)
noncomputable abbrev s5_36 : CC := (CC.seq (CC.region [(wB 45 (doMove (tm 3))), (wB 46 (doCall 18 [(tm 45)])), (wB 7 (doMove (tm 46)))]) s5_35)
noncomputable abbrev s5_37 : CC := (CC.seq s5_16 s5_36)
noncomputable abbrev s5_38 : CC := (CC.seq (CC.region [(wB 4 (doAlloc 47 [(V.i IntKind.i64 (Int.ofNat 0)), (V.i IntKind.i64 (Int.ofNat 0)), (V.i IntKind.i64 (Int.ofNat 0)), (V.i IntKind.i64 (Int.ofNat 0)), (V.i IntKind.i64 (Int.ofNat 0)), (V.i IntKind.i64 (Int.ofNat 0)), (V.i IntKind.i64 (Int.ofNat 0)), (V.i IntKind.i64 (Int.ofNat 0))]))]) s5_37)
noncomputable abbrev s5_39 : CC := (CC.seq (CC.region [(wB 3 (doMove (O.c V.l0)))]) s5_38)
noncomputable abbrev s5_40 : CC := (CC.seq s5_5 s5_39)
noncomputable abbrev s5_41 : CC := (CC.seq s5_2 s5_40)
noncomputable abbrev b5 : CC := (CC.seq (CC.region [(wB 2 (doMove (O.c (V.b Bool.false))))]) s5_41)
theorem c5 : compFn Try.prog 5 = ⟨83, b5, [(Rs.tmp (slOf 2))]⟩ := by kernel_rfl
noncomputable abbrev s6_0 : CC := (CC.seq (CC.region [(wB 6 (doMove (O.c (V.b Bool.false))))]) CC.ret)
noncomputable abbrev s6_1 : CC := (CC.cond (tm 16) s6_0 CC.skip)
noncomputable abbrev s6_2 : CC := (CC.seq (CC.region [(wB 15 (doCall 7 [])), (wB 16 (doNot (tm 15)))]) s6_1)
noncomputable abbrev s6_3 : CC := (CC.cond (tm 23) CC.skip (CC.exit 0))
noncomputable abbrev s6_4 : CC := (CC.seq (CC.region [(wB 21 (doMove (tm 9))), (wB 22 (doMove (tm 7))), (wB 23 (bin2 fLss (tm 21) (tm 22)))]) s6_3)
noncomputable abbrev s6_5 : CC := (CC.region [(wB 26 (doMove (tm 8))), (wB 27 (doMove (tm 9))), (wB 28 (bin2 fAdd (oN 97) (tm 27))), (wB 29 (doConv IntKind.u8 (tm 28))), (wB 30 (doBuildSlice 5 1 [(V.i IntKind.u8 (Int.ofNat 0))] [(Pt.mk 0 1 (tm 29))])), (wB 31 (doB2S (tm 30))), (wB 32 (doBuild [(V.s 0 0), (V.b Bool.false), (V.s 0 0)] [(Pt.mk 0 1 (tm 31)), (Pt.mk 2 1 (O.c (V.s 1 118)))])), (wB 33 (doBuildSlice 49 1 [(V.s 0 0), (V.b Bool.false), (V.s 0 0)] [(Pt.mk 0 3 (tm 32))])), (wB 34 (doAppend 49 3 (tm 26) (tm 33))), (wB 8 (doMove (tm 34)))])
noncomputable abbrev s6_6 : CC := (CC.block 1 s6_5)
noncomputable abbrev s6_7 : CC := (CC.region [(wB 24 (doMove (tm 9))), (wB 25 (bin2 fAdd (tm 24) (oN 1))), (wB 9 (doMove (tm 25)))])
noncomputable abbrev s6_8 : CC := (CC.seq s6_6 s6_7)
noncomputable abbrev l6_0 : CC := (CC.seq s6_4 s6_8)
noncomputable abbrev s6_9 : CC := (CC.loop l6_0)
noncomputable abbrev s6_10 : CC := (CC.block 0 s6_9)
noncomputable abbrev s6_11 : CC := (CC.seq (CC.region [(wB 9 (doMove (oN 0)))]) s6_10)
noncomputable abbrev s6_12 : CC := (CC.seq (CC.region [(wB 6 (doMove (O.c (V.b Bool.false))))]) CC.ret)
noncomputable abbrev s6_13 : CC := (CC.cond (tm 68) s6_12 CC.skip)
noncomputable abbrev s6_14 : CC := (CC.seq (CC.region [(wB 49 (doMove (tm 8))), (wB 50 (doCall 15 [(tm 49)])), (wB 51 (doMove (tm 10))), (wB 52 (doBool Bool.true (tm 50) (tm 51))), (wB 53 (doMove (tm 52))), (wG 53 false 54 (doMove (tm 12))), (wG 53 false 55 (bin2 fEql (tm 54) (oN 0))), (wG 53 false 56 (doMove (tm 10))), (wG 53 false 57 (doMove (tm 56))), (wG 57 true 58 (doMove (tm 13))), (wG 53 false 59 (doPick (tm 57) (tm 58) (O.c (V.b Bool.false)))), (wG 53 false 60 (doBool Bool.true (tm 55) (tm 59))), (wB 61 (doPick (tm 53) (O.c (V.b Bool.true)) (tm 60))), (wB 62 (doMove (tm 61))), (wG 62 false 63 (doMove (tm 11))), (wG 62 false 64 (doSCmp eqS (tm 63) (O.c (V.s 0 0)))), (wG 62 false 65 (doMove (tm 12))), (wG 62 false 66 (bin2 fNeq (tm 65) (oN 0))), (wG 62 false 67 (doBool Bool.true (tm 64) (tm 66))), (wB 68 (doPick (tm 62) (O.c (V.b Bool.true)) (tm 67)))]) s6_13)
noncomputable abbrev s6_15 : CC := (CC.seq (CC.region [(wB 6 (doMove (O.c (V.b Bool.false))))]) CC.ret)
noncomputable abbrev s6_16 : CC := (CC.cond (tm 106) s6_15 CC.skip)
noncomputable abbrev s6_17 : CC := (CC.seq (CC.region [(wB 92 (doMove (tm 8))), (wB 93 (doCall 15 [(tm 92)])), (wB 94 (doMove (tm 93))), (wG 94 false 95 (doMove (tm 8))), (wG 94 false 96 (doCall 21 [(oN 1), (tm 95)])), (wG 94 false 97 (doLen (tm 96))), (wG 94 false 98 (bin2 fNeq (tm 97) (oN 0))), (wB 99 (doPick (tm 94) (O.c (V.b Bool.true)) (tm 98))), (wB 100 (doMove (tm 99))), (wG 100 false 101 (doMove (tm 8))), (wG 100 false 102 (doCall 18 [(tm 101)])), (wG 100 false 103 (doLen (tm 102))), (wG 100 false 104 (doMove (tm 7))), (wG 100 false 105 (bin2 fNeq (tm 103) (tm 104))), (wB 106 (doPick (tm 100) (O.c (V.b Bool.true)) (tm 105)))]) s6_16)
noncomputable abbrev s6_18 : CC := (CC.seq (CC.draws [(uB 76 (doMove (tm 8))), (uB 77 (doMove (tm 14))), (uB 78 (doMove (tm 8))), (uB 79 (doMove (tm 14))), (uB 80 (bin2 fAdd (tm 79) (oN 1))), (uB 81 (doMove (tm 8))), (uB 82 (doMove (tm 14))), (uB 83 (bin2 fAdd (tm 82) (oN 1))), (uB 84 (doIndexAddr 3 (tm 81) (tm 83))), (uB 85 (doLoadA 3 (tm 84))), (uB 86 (doMove (tm 8))), (uB 87 (doMove (tm 14))), (uB 88 (doIndexAddr 3 (tm 86) (tm 87))), (uB 89 (doLoadA 3 (tm 88))), (uB 90 (doIndexAddr 3 (tm 76) (tm 77))), (CO.mk G.none D.none Bool.true (CR.mk (doStore 3 (tm 90) (tm 85)))), (uB 91 (doIndexAddr 3 (tm 78) (tm 80))), (CO.mk G.none D.none Bool.true (CR.mk (doStore 3 (tm 91) (tm 89))))]) s6_17)
noncomputable abbrev s6_19 : CC := (CC.seq (CC.region [(wB 71 (doMove (tm 2))), (wB 72 (doConv IntKind.i64 (tm 71))), (wB 73 (doMove (tm 7))), (wB 74 (bin2 fSub (tm 73) (oN 1))), (wB 75 (doRem (tm 72) (tm 74))), (wB 14 (doMove (tm 75)))]) s6_18)
noncomputable abbrev s6_20 : CC := (CC.cond (tm 70) s6_19 CC.skip)
noncomputable abbrev s6_21 : CC := (CC.seq (CC.region [(wB 69 (doMove (tm 7))), (wB 70 (bin2 fGtr (tm 69) (oN 1)))]) s6_20)
noncomputable abbrev s6_22 : CC := (CC.seq (CC.region [(wB 6 (doMove (O.c (V.b Bool.true))))]) CC.ret)
noncomputable abbrev s6_23 : CC := (CC.seq s6_21 s6_22)
noncomputable abbrev s6_24 : CC := (CC.seq s6_14 s6_23)
noncomputable abbrev s6_25 : CC := (CC.seq (CC.region [(wB 43 (doMove (tm 1))), (wB 44 (bin2 fGeq (tm 43) (oN 1))), (wB 45 (doMove (tm 44))), (wG 45 true 46 (doMove (tm 1))), (wG 45 true 47 (bin2 fLeq (tm 46) (oN 1000000))), (wB 48 (doPick (tm 45) (tm 47) (O.c (V.b Bool.false)))), (wB 13 (doMove (tm 48)))]) s6_24)
noncomputable abbrev s6_26 : CC := (CC.seq (CC.region [(wB 38 (doMove (tm 1))), (wB 39 (doMove (tm 8))), (wB 40 (doCall 9 [(tm 38), (tm 39)])), (wB 37 (doMove (tm 40))), (wB 41 (doExtract 0 (tm 37))), (wB 42 (doExtract 1 (tm 37))), (wB 11 (doMove (tm 41))), (wB 12 (doMove (tm 42)))]) s6_25)
noncomputable abbrev s6_27 : CC := (CC.seq (CC.region [(wB 35 (doMove (tm 7))), (wB 36 (bin2 fLeq (tm 35) (oN 8))), (wB 10 (doMove (tm 36)))]) s6_26)
noncomputable abbrev s6_28 : CC := (CC.seq s6_11 s6_27)
noncomputable abbrev s6_29 : CC := (CC.seq (CC.region [(wB 8 (doMove (O.c V.l0)))]) s6_28)
noncomputable abbrev s6_30 : CC := (CC.seq (CC.region [(wB 17 (doMove (tm 0))), (wB 18 (doRem (tm 17) (O.c (V.i IntKind.u8 (Int.ofNat 11))))), (wB 19 (doConv IntKind.i64 (tm 18))), (wB 20 (bin2 fAdd (tm 19) (oN 1))), (wB 7 (doMove (tm 20)))]) s6_29)
noncomputable abbrev s6_31 : CC := (CC.seq s6_2 s6_30)
noncomputable abbrev b6 : CC := (CC.seq (CC.region [(wB 6 (doMove (O.c (V.b Bool.false))))]) s6_31)
theorem c6 : compFn Try.prog 6 = ⟨107, b6, [(Rs.tmp (slOf 6))]⟩ := by kernel_rfl
end Go.Proofs.Ythncpgkpkdolfaa

set_option linter.all false
namespace Go.Ev
open Go
def wkB (k i : Nat) : Wri := ⟨[UInt8.ofNat (97 + k)], false, [UInt8.ofNat (65 + i)]⟩
theorem isR_wk (k i : Nat) : isR (wkB k i) = true := by
  unfold isR isW wkB
  exact decide_eq_true ⟨by simp, by simp, by simp, by simp⟩
end Go.Ev

set_option maxRecDepth 100000
set_option maxHeartbeats 8000000
set_option linter.all false
namespace Go.Proofs.Ythncpgkpkdolfaa
open Go Go.Ev
theorem wk_less' {a b i j : Nat} (ha : a < b) (hb : b < 150) : Op.bytesLess (wkB a i).key (wkB b j).key = true := by
  unfold wkB Op.bytesLess
  have h1 : (UInt8.ofNat (97 + a)).toNat = 97 + a := by simp; omega
  have h2 : (UInt8.ofNat (97 + b)).toNat = 97 + b := by simp; omega
  simp [UInt8.lt_iff_toNat_lt]
  omega
def shL (f : Nat → Nat) (k : Nat) : List Wri := (List.range k).map fun i => wkB (f i) 53
theorem shL_len (f : Nat → Nat) (k : Nat) : (shL f k).length = k := by unfold shL; simp
theorem shL_at {f : Nat → Nat} {k i : Nat} (h : i < k) : (shL f k).getD i default = wkB (f i) 53 := by unfold shL; simp [List.getD, h]
theorem shL_get {f : Nat → Nat} {k p : Nat} (hp : p < (shL f k).length) : (shL f k)[p] = wkB (f p) 53 := by
  have := shL_at (f := f) (k := k) (i := p) (by rwa [shL_len] at hp)
  rwa [List.getD_eq_getElem?_getD, List.getElem?_eq_getElem hp, Option.getD_some] at this
theorem shL_succ (f : Nat → Nat) (k : Nat) : shL f (k + 1) = shL f k ++ [wkB (f k) 53] := by unfold shL; rw [List.range_succ, List.map_append]; rfl
theorem shL_mem {f : Nat → Nat} {k : Nat} {w : Wri} (h : w ∈ shL f k) : ∃ i, i < k ∧ w = wkB (f i) 53 := by
  unfold shL at h
  obtain ⟨i, hi, e⟩ := List.mem_map.1 h
  exact ⟨i, List.mem_range.1 hi, e.symm⟩
theorem shL_is {k : Nat} (h : k ≤ 100) : isB (shL id k) = decide (k ≤ 8) := by
  have hu : Up (shL id k) := by
    unfold Up
    rw [List.pairwise_iff_getElem]
    intro i j hi hj hij
    rw [shL_len] at hi hj
    rw [shL_get, shL_get]
    exact wk_less' hij (show j < 150 by omega)
  have h2 := upU_up hu fun w hw => by obtain ⟨i, _, e⟩ := shL_mem hw; rw [e]; exact isR_wk _ _
  unfold isB
  rw [h2, Bool.true_and, shL_len]
/-- two neighbours turned about -/
def sw (j p : Nat) : Nat := if p = j then j + 1 else if p = j + 1 then j else p
theorem sw_set {k j : Nat} (hj : j + 1 < k) : ((shL id k).set j (wkB (j + 1) 53)).set (j + 1) (wkB j 53) = shL (sw j) k := by
  refine List.ext_getElem (by simp [shL_len]) fun i h1 h2 => ?_
  rw [List.getElem_set, List.getElem_set, shL_get, shL_get]
  unfold sw
  by_cases e1 : j + 1 = i
  · rw [if_pos e1, if_neg (by omega), if_pos e1.symm]
  · rw [if_neg e1]
    by_cases e2 : j = i
    · rw [if_pos e2, if_pos e2.symm]
    · rw [if_neg e2, if_neg (fun h => e2 h.symm), if_neg (fun h => e1 h.symm)]; rfl
theorem sw_is {k j : Nat} (hj : j + 1 < k) (hk : k ≤ 100) : isB (shL (sw j) k) = false := by
  refine upU_no (i := j + 1) (by rw [shL_len]; exact hj) ?_
  unfold upA
  rw [Nat.add_sub_cancel, shL_at hj, shL_at (by omega)]
  have h1 : sw j (j + 1) = j := by unfold sw; rw [if_neg (by omega), if_pos rfl]
  have h2 : sw j j = j + 1 := by unfold sw; rw [if_pos rfl]
  rw [h1, h2, bl_asym (wk_less' (i := 53) (j := 53) (show j < j + 1 by omega) (by omega)), decide_eq_false (by omega), Bool.or_false, Bool.and_false]
theorem sw_neat {k j : Nat} (hk : k ≤ 100) (hj : j + 1 < k) : (neatB (shL (sw j) k)).length = k := by
  have hd : (shL (sw j) k).Pairwise fun a b => a.key ≠ b.key := by
    rw [List.pairwise_iff_getElem]
    intro p q hp hq hpq
    rw [shL_len] at hp hq
    rw [shL_get, shL_get]
    have hs : sw j p ≠ sw j q := by unfold sw; (repeat' split) <;> omega
    have hb : ∀ p, p < k → sw j p < k := fun p hp => by unfold sw; (repeat' split) <;> omega
    have h1 := hb p hp
    have h2 := hb q hq
    rcases Nat.lt_or_gt_of_ne hs with h | h
    · exact bl_ne (wk_less' h (by omega))
    · exact fun e => bl_ne (wk_less' h (by omega)) e.symm
  have := neatB_all hd (Nat.le_refl _)
  rwa [List.take_length, shL_len] at this
theorem push_wT {h : H} {u : V} {M : List Wri} {x : Wri} {id : B} {N : Nx} (b : Buf h 49 3 u (M.flatMap wriC)) (o : Ev.Own h id (wriC x)) (hl : M.length ≤ 100000) (hf : B.val h.floor ≤ B.val h.next)
    (k : ∀ u' h', Buf h' 49 3 u' ((M ++ [x]).flatMap wriC) → Stay (isOf u) h h' → (∀ i, isOf u' i → isOf u i ∨ B.val h.next ≤ B.val i) → Top h' u' → N.go Try.prog u' h') : AP Try.prog 49 3 u (.l id 0 0 1 3 (some 1)) h N := by
  refine AP.buf (vs := wriC x) (cnt := 1) b (new_row o.row rfl (Nat.le_refl _) (by omega) (by show 3 ≤ 3; omega)) hf (by omega) rfl rfl (by rw [fm_wri]; show M.length * 3 + 3 ≤ 1048576; omega) fun u' h' b' s' hu tp => ?_
  refine k u' h' ?_ s' hu tp
  rw [List.flatMap_append]; simpa using b'
theorem batB_ne (seq : Int) (L : List Wri) : batB seq L ≠ [] := fun e => by
  have := congrArg List.length e
  unfold batB at this
  rw [sealB_len] at this; simp at this
theorem batchShapes_ok {h : H} {n s : UInt8} {seq : Int} (q1 : -9223372036854775808 ≤ seq) (q2 : seq ≤ 9223372036854775807) (hf : B.val h.floor ≤ B.val h.next) : FnOk Try.prog 6 [.i .u8 (n.toNat : Int), .i .i64 seq, .i .u8 (s.toNat : Int)] h fun y h' => y = .b true ∧ Stay nowhere h h' := by
  refine fn_go c6 (by intro hb; cases hb) (by simp) (by simp) fun Q hQ => ?_
  simp only [slotsF, Nat.reduceAdd]
  have hn0 := n.toNat_lt
  have hs0 := s.toNat_lt
  obtain ⟨k, hk, hk1, hk2⟩ : ∃ k : Nat, (n.toNat : Int) % 11 + 1 = (k : Int) ∧ 1 ≤ k ∧ k ≤ 11 := ⟨n.toNat % 11 + 1, by omega, by omega, by omega⟩
  repeat' (first
    | refine St.h ?_
    | simp (disch := first | omega | (simp only [lnv]; omega)) only [wlk, ↓get_put', ↓reduceIte, seval]
    | (with_reducible (first | apply cd_split | apply gd_split)) <;> (intro hc; (try simp only [hcn] at hc); (try simp only [hc]); (try simp only [hcl] at hc); try omega))
  refine CL.pure known12 ?_
  repeat' (first
    | refine St.h ?_
    | simp (disch := first | omega | (simp only [lnv]; omega)) only [wlk, ↓get_put', ↓reduceIte, seval, hk]
    | (with_reducible (first | apply cd_split | apply gd_split)) <;> (intro hc; (try simp only [hcn] at hc); (try simp only [hc]); (try simp only [hcl] at hc); try omega))
  refine Ok.lp (fun m t g => ∃ (i : Nat) (u : V), m = k - i ∧ i ≤ k ∧ get 1 t = .i .i64 seq ∧ get 2 t = .i .u8 (s.toNat : Int) ∧ get 7 t = .i .i64 (k : Int) ∧ get 8 t = u ∧ get 9 t = .i .i64 (i : Int) ∧ Buf g 49 3 u ((shL id i).flatMap wriC) ∧ Top g u ∧ (∀ q, isOf u q → B.val h.next ≤ B.val q) ∧ Stay nowhere h g) k ?_ ?_
  · simp (disch := first | omega | (simp only [lnv]; omega)) only [wlk, ↓get_put', ↓reduceIte, seval, hk]
    refine ⟨0, .l0, by omega, by omega, ?_, ?_, ?_, ?_, ?_, Buf.nil _ _ _, Top.nil _, ?_, Stay.refl _ _⟩
    rotate_right
    · rintro i ⟨_, _, _, _, _, e⟩; cases e
    all_goals first | trivial | rfl
  rintro I hI m t g ⟨i, u, rfl, hi, f1, f2, f7, f8, f9, bf, tp, own, st⟩
  have hfg := st.fl hf
  by_cases hik : i < k
  case pos =>
    have e1 : (97 : Int) + (i : Int) = ((97 + i : Nat) : Int) := by omega
    repeat' (first
      | refine St.h ?_
      | simp (disch := first | omega | (simp only [lnv]; omega)) only [wlk, ↓get_put', ↓reduceIte, seval, f1, f2, f7, f8, f9]
      | (with_reducible (first | apply cd_split | apply gd_split)) <;> (intro hc; (try simp only [hcn] at hc); (try simp only [hc]); (try simp only [hcl] at hc); try omega))
    have c1 : (UInt8.ofNat (97 + i)).toNat = 97 + i := by simp; omega
    refine AL.str (bs := [UInt8.ofNat (97 + i)]) (by show [_] = [bv _]; unfold bv; rw [c1]; congr 2) (by simp) rfl rfl (by simp) hfg fun g2 u2 t2 => ?_
    have hf2 := t2.fl hfg
    have b2 := bf.grow t2
    have tp2 := tp.stay t2 (fun q hq => (bf.own hq).2) fun _ _ e => e
    repeat' (first
      | refine St.h ?_
      | simp (disch := first | omega | (simp only [lnv]; omega)) only [wlk, ↓get_put', ↓reduceIte, seval, f1, f2, f7, f8, f9]
      | (with_reducible (first | apply cd_split | apply gd_split)) <;> (intro hc; (try simp only [hcn] at hc); (try simp only [hc]); (try simp only [hcl] at hc); try omega))
    refine AL.own (by simp) hf2 fun g4 t4 _ q4 => ?_
    have hf4 := t4.fl hf2
    have b4 := b2.grow t4
    repeat' (first
      | refine St.h ?_
      | simp (disch := first | omega | (simp only [lnv]; omega)) only [wlk, ↓get_put', ↓reduceIte, seval, f1, f2, f7, f8, f9]
      | (with_reducible (first | apply cd_split | apply gd_split)) <;> (intro hc; (try simp only [hcn] at hc); (try simp only [hc]); (try simp only [hcl] at hc); try omega))
    refine push_wT (x := wkB i 53) b4 q4 (by rw [shL_len]; omega) hf4 fun u5 g5 b5 t5 ho tp5 => ?_
    rw [show shL id i ++ [wkB i 53] = shL id (i + 1) from (shL_succ id i).symm] at b5
    have st4 := (st.trans t2).trans t4
    have n4 := st4.next
    repeat' (first
      | refine St.h ?_
      | simp (disch := first | omega | (simp only [lnv]; omega)) only [wlk, ↓get_put', ↓reduceIte, seval, f1, f2, f7, f8, f9]
      | (with_reducible (first | apply cd_split | apply gd_split)) <;> (intro hc; (try simp only [hcn] at hc); (try simp only [hc]); (try simp only [hcl] at hc); try omega))
    refine lp_next hI (k - (i + 1)) (by omega) ⟨i + 1, u5, rfl, by omega, ?_, ?_, ?_, ?_, ?_, b5, tp5, fun q hq => ?_, st4.past' t5 fun q hq => own q hq⟩
    · simp (disch := first | omega | (simp only [lnv]; omega)) only [wlk, ↓get_put', ↓reduceIte, seval, f1]
    · simp (disch := first | omega | (simp only [lnv]; omega)) only [wlk, ↓get_put', ↓reduceIte, seval, f2]
    · simp (disch := first | omega | (simp only [lnv]; omega)) only [wlk, ↓get_put', ↓reduceIte, seval, f7]
    · simp (disch := first | omega | (simp only [lnv]; omega)) only [wlk, ↓get_put', ↓reduceIte, seval]
    · simp (disch := first | omega | (simp only [lnv]; omega)) only [wlk, ↓get_put', ↓reduceIte, seval]; rfl
    · rcases ho q hq with h3 | h3
      · exact own q h3
      · omega
  obtain rfl : i = k := by omega
  have hWs : Ws g u (shL id i) := Ss.buf bf rfl wriC_len (by omega)
  have hIs := shL_is (k := i) (by omega)
  have hlen := shL_len id i
  obtain ⟨b8, hb8⟩ : ∃ b, decide ((i : Int) ≤ 8) = b := ⟨_, rfl⟩
  obtain ⟨b1, hb1⟩ : ∃ b, decide (1 ≤ seq) = b := ⟨_, rfl⟩
  obtain ⟨b2, hb2⟩ : ∃ b, decide (seq ≤ 1000000) = b := ⟨_, rfl⟩
  have hB : isB (shL id i) = b8 := by rw [hIs, ← hb8]; apply decide_eq_decide.2; omega
  obtain ⟨T, E, hTE, hT, hE⟩ : ∃ (T : List UInt8) (E : Int), bytB seq (shL id i) = (T, E) ∧ decide (T = []) = !(b8 && (b1 && b2)) ∧ decide (E = 0) = (b8 && (b1 && b2)) := by
    have ho : okB12 seq (shL id i) = (b8 && (b1 && b2)) := by
      unfold okB12
      rw [hB]
      congr 1
      rw [← hb1, ← hb2]
      by_cases h1 : 1 ≤ seq <;> by_cases h2 : seq ≤ 1000000 <;> simp [h1, h2]
    unfold bytB
    rw [ho]
    cases (b8 && (b1 && b2)) with
    | true => exact ⟨_, _, rfl, by simp [batB_ne], rfl⟩
    | false => exact ⟨_, _, rfl, rfl, rfl⟩
  have hEd : decide (E = 10) = decide (E = 10) := rfl
  repeat' (first
    | refine St.h ?_
    | simp (disch := first | omega | (simp only [lnv]; omega)) only [wlk, ↓get_put', ↓reduceIte, seval, f1, f2, f7, f8, f9]
    | (with_reducible (first | apply cd_split | apply gd_split)) <;> (intro hc; (try simp only [hcn] at hc); (try simp only [hc]); (try simp only [hcl] at hc); try omega))
  refine CL.stay (bbytes_ok hWs (by omega) q1 q2 hfg) fun h1 s1 => ?_
  have hf1 := s1.fl hfg
  have W1 := hWs.grow s1
  have st1 := st.trans s1
  have B1 := bf.grow s1
  have T1 := tp.stay s1 (fun q hq => (bf.own hq).2) fun _ _ e => e
  cases b8 <;> cases b1 <;> cases b2
  all_goals
    simp only [Bool.true_and, Bool.false_and, Bool.and_self, Bool.and_false, Bool.not_true, Bool.not_false] at hT hE
    have hE' : (E = 0) = (decide (E = 0) = true) := by simp
    rw [hE] at hE'
    simp only [Bool.false_eq_true] at hE'
    repeat' (first
      | refine St.h ?_
      | simp (disch := first | omega | (simp only [lnv]; omega)) only [wlk, ↓get_put', ↓reduceIte, seval, f1, f2, f7, f8, f9, hTE, hb8, hb1, hb2]
      | (with_reducible (first | apply cd_split | apply gd_split)) <;> (intro hc; (try simp only [hcn] at hc); (try simp only [hc]); (try simp only [hcl] at hc); try omega))
    refine CL.stay (bis_ok W1 (by omega) hf1) fun h2 s2 => ?_
    have hf2 := s2.fl hf1
    have W2 := W1.grow s2
    have st2 := st1.trans s2
    have B2 := B1.grow s2
    have T2 := T1.stay s2 (fun q hq => (B1.own hq).2) fun _ _ e => e
    by_cases h1i : 1 < i
    case neg =>
      have c1i : ((1 : Int) < (i : Int)) = False := eq_false (by omega)
      repeat' (first
        | refine St.h ?_
        | simp (disch := first | omega | (simp only [lnv]; omega)) only [wlk, ↓get_put', ↓reduceIte, seval, f1, f2, f7, f8, f9, hB, hT, hE, hE', hTE, c1i]
        | (with_reducible (first | apply cd_split | apply gd_split)) <;> (intro hc; (try simp only [hcn] at hc); (try simp only [hc]); (try simp only [hcl] at hc); try omega))
      subst hQ
      exact ⟨rfl, st2⟩
    have c1i : ((1 : Int) < (i : Int)) = True := eq_true (by omega)
    obtain ⟨j, hrem, hj⟩ : ∃ j : Nat, (s.toNat : Int) % ((i : Int) - 1) = (j : Int) ∧ j + 1 < i := by
      have h5 := Int.emod_lt_of_pos (s.toNat : Int) (show (0 : Int) < (i : Int) - 1 by omega)
      have h6 := Int.emod_nonneg (s.toNat : Int) (show (i : Int) - 1 ≠ 0 by omega)
      exact ⟨((s.toNat : Int) % ((i : Int) - 1)).toNat, by omega, by omega⟩
    have ej : ((j : Int) + 1).toNat = j + 1 := by omega
    have g1 := shL_at (f := id) (k := i) (i := j) (by omega)
    have g2 := shL_at (f := id) (k := i) (i := j + 1) (by omega)
    repeat' (first
      | refine St.h ?_
      | simp (disch := first | omega | (simp only [lnv]; omega)) only [wlk, ↓get_put', ↓reduceIte, seval, f1, f2, f7, f8, f9, hB, hT, hE, hE', hTE, c1i, hrem, W2.ix, W2.la, ej, g1, g2, Int.toNat_natCast]
      | (with_reducible (first | apply cd_split | apply gd_split)) <;> (intro hc; (try simp only [hcn] at hc); (try simp only [hc]); (try simp only [hcl] at hc); try omega))
    refine st_bufS (c := wriC) (x := wkB (j + 1) 53) B2 T2 wriC_len (by omega) (by rw [hlen]; omega) (by rw [hlen]; omega) rfl fun h3 B3 T3 s3 => ?_
    have hf3 := s3.fl hf2
    have W3 : Ws h3 u ((shL id i).set j (wkB (j + 1) 53)) := Ss.buf B3 rfl wriC_len (by omega)
    repeat' (first
      | refine St.h ?_
      | simp (disch := first | omega | (simp only [lnv]; omega)) only [wlk, ↓get_put', ↓reduceIte, seval, ej, W3.ix]
      | (with_reducible (first | apply cd_split | apply gd_split)) <;> (intro hc; (try simp only [hcn] at hc); (try simp only [hc]); (try simp only [hcl] at hc); try omega))
    refine st_bufS (c := wriC) (x := wkB j 53) B3 T3 wriC_len (by omega) (by rw [List.length_set, hlen]; omega) (by rw [List.length_set, hlen]; omega) rfl fun h4 B4 T4 s4 => ?_
    have hf4 := s4.fl hf3
    rw [sw_set hj] at B4
    have W4 : Ws h4 u (shL (sw j) i) := Ss.buf B4 rfl wriC_len (by omega)
    have st4 := (st2.past' s3 fun q hq => own q hq).past' s4 fun q hq => own q hq
    have hl4 := shL_len (sw j) i
    have hB4 := sw_is hj (show i ≤ 100 by omega)
    have hE4 : entB 1 (shL (sw j) i) = [] := by unfold entB; rw [hB4]; rfl
    have hN4 := sw_neat (show i ≤ 100 by omega) hj
    repeat' (first
      | refine St.h ?_
      | simp (disch := first | omega | (simp only [lnv]; omega)) only [wlk, ↓get_put', ↓reduceIte, seval, f7, f8]
      | (with_reducible (first | apply cd_split | apply gd_split)) <;> (intro hc; (try simp only [hcn] at hc); (try simp only [hc]); (try simp only [hcl] at hc); try omega))
    refine CL.stay (bis_ok W4 (by omega) hf4) fun h5 s5 => ?_
    have hf5 := s5.fl hf4
    have W5 := W4.grow s5
    repeat' (first
      | refine St.h ?_
      | simp (disch := first | omega | (simp only [lnv]; omega)) only [wlk, ↓get_put', ↓reduceIte, seval, hB4, f7, f8]
      | (with_reducible (first | apply cd_split | apply gd_split)) <;> (intro hc; (try simp only [hcn] at hc); (try simp only [hc]); (try simp only [hcl] at hc); try omega))
    refine CL.mk (bentries_ok (seq := 1) W5 (by omega) hf5) ?_
    rintro u6 h6 ⟨w6, _, s6⟩
    rw [hE4] at w6
    have hf6 := s6.fl hf5
    have hl0 : ((([] : List Ent).length : Int) = 0) = True := eq_true rfl
    repeat' (first
      | refine St.h ?_
      | simp (disch := first | omega | (simp only [lnv]; omega)) only [wlk, ↓get_put', ↓reduceIte, seval, f7, f8, w6.ln, hl0]
      | (with_reducible (first | apply cd_split | apply gd_split)) <;> (intro hc; (try simp only [hcn] at hc); (try simp only [hc]); (try simp only [hcl] at hc); try omega))
    refine CL.mk (bneat_ok (W5.grow s6) (swn_buf12 B4) (by omega) (fun w hw => by
      obtain ⟨p, _, e⟩ := shL_mem hw
      rw [e]; simp [wkB]) hf6) ?_
    rintro u7 h7 ⟨w7, _, s7⟩
    have hl7 : (((neatB (shL (sw j) i)).length : Int) = (i : Int)) = True := eq_true (by omega)
    repeat' (first
      | refine St.h ?_
      | simp (disch := first | omega | (simp only [lnv]; omega)) only [wlk, ↓get_put', ↓reduceIte, seval, f7, f8, w7.ln, hl7]
      | (with_reducible (first | apply cd_split | apply gd_split)) <;> (intro hc; (try simp only [hcn] at hc); (try simp only [hc]); (try simp only [hcl] at hc); try omega))
    subst hQ
    exact ⟨rfl, ((st4.trans s5).trans s6).trans s7⟩
end Go.Proofs.Ythncpgkpkdolfaa

set_option linter.all false
namespace Go.Proofs.Ythncpgkpkdolfaa
open Go Go.Ev
structure Wk where
  v : V
  l : List Wri
instance : Inhabited Wk := ⟨⟨.l0, []⟩⟩
def wkC (b : Wk) : List V := [b.v]
theorem wkC_len (b : Wk) : (wkC b).length = 1 := rfl
structure Wls (h : H) (v : V) (bs : List (List Wri)) (ks : List Wk) : Prop where
  ss : Ss 1 wkC h v ks
  eq : ks.map (·.l) = bs
  es : ∀ k ∈ ks, Ws h k.v k.l ∧ SwN 3 k.v
section
variable {P : Program} {h h' g' : H} {N : Nx} {v : V} {bs : List (List Wri)} {ks : List Wk} {i : Nat}
theorem Wls.len (a : Wls h v bs ks) : ks.length = bs.length := by rw [← a.eq, List.length_map]
theorem Wls.ld (a : Wls h v bs ks) (hi : i < bs.length) : L1 P (lid v) (lg v) (loff v + i) (lfin v) h N = N.go P (ks.getD i default).v h := by
  have := a.ss.ld (P := P) (N := N) (i := i) (d := 0) wkC_len (by rw [a.len]; exact hi) (by omega)
  rwa [Nat.mul_one] at this
theorem Wls.grow (a : Wls h v bs ks) (s : Stay nowhere h h') : Wls h' v bs ks := ⟨a.ss.grow s, a.eq, fun k hk => ⟨(a.es k hk).1.grow s, (a.es k hk).2⟩⟩
theorem Wls.at (a : Wls h v bs ks) (hi : i < bs.length) : Ws h (ks.getD i default).v (bs.getD i []) ∧ SwN 3 (ks.getD i default).v := by
  have hk : i < ks.length := by rw [a.len]; exact hi
  have h1 := a.es (ks.getD i default) (by rw [List.getD_eq_getElem?_getD, List.getElem?_eq_getElem hk]; simp)
  have h2 : bs.getD i [] = (ks.getD i default).l := by rw [← a.eq]; simp [List.getD, List.getElem?_eq_getElem hk]
  rw [h2]; exact h1
end
end Go.Proofs.Ythncpgkpkdolfaa

set_option linter.all false
namespace Go.Ev
open Go Go.RowKit Go.WideShapes Go.ChangeShapes Go.ChangeAt Go.Deep
section
variable {H' : Type} {enc : TypeId × Value → H'} {P : Program}
inductive Kd where
  | i (k : IntKind)
  | s
  | b
def Kd.ok (P : Program) (k : Kd) (t : TypeId) : Prop := match k with
  | .i k => P.underlying t = some (.int k)
  | .s => P.underlying t = some .string
  | .b => P.underlying t = some .bool
def FldOk (P : Program) (l : List Field) : Nat → List Kd → Prop
  | _, [] => True
  | n, k :: ks => (∃ f, l[n]? = some f ∧ f.offset = n ∧ P.cellsOf f.type = 1 ∧ k.ok P f.type) ∧ FldOk P l (n + 1) ks
/-- a struct whose fields are numbers, texts, bools -/
structure FlatF (P : Program) (t : TypeId) (fs : Array Field) (ks : List Kd) : Prop where
  ut : P.underlying t = some (.struct fs)
  sz : P.cellsOf t = ks.length
  fld : FldOk P fs.toList 0 ks
end
end Go.Ev

set_option linter.all false
namespace Go.Proofs.Ythncpgkpkdolfaa
open Go Go.Ev
theorem batchShapes_l {h : H} {n s : UInt8} {seq : Int} (q1 : -9223372036854775808 ≤ seq) (q2 : seq ≤ 9223372036854775807) (hf : B.val h.floor ≤ B.val h.next) : FnOk Try.prog 6 [.i .u8 (n.toNat : Int), .i .i64 seq, .i .u8 (s.toNat : Int)] h fun y _ => y = .b true := (batchShapes_ok q1 q2 hf).mono fun _ _ e => e.1
end Go.Proofs.Ythncpgkpkdolfaa

namespace Go.Proofs.Ythncpgkpkdolfaa.batchShapes
open Go Go.Ev Go.ChangeShapes Go.WideShapes Go.ChangeAt Go.RowKit Go.ChangeMaps
set_option linter.all false
theorem own : ownKnob Try.prog.godebug = none := by kernel_rfl
theorem laid : laidOutB Try.prog = true := by kernel_rfl
theorem heap_pos {W : World} (h : W.ShapedOpen Try.prog) : 0 < W.heap.size := by
  obtain ⟨o, _, h1, _⟩ := h.2 Try.prog.globals.size (Nat.le_refl _) (of_decide_eq_true (by kernel_rfl))
  exact Nat.lt_of_le_of_lt (Nat.zero_le _) (Array.getElem?_eq_some_iff.1 h1).1
set_option maxRecDepth 100000 in
theorem run {H : Type} {enc : TypeId × Value → H} (W : World) (base : Nat) (args : Array Value) (ds : List (DataW H)) (p : List MemPlace) (hval : ∀ (j : Nat) t v, Try.f6.params[j]? = some t → args[j]? = some v → Value.okWide Try.prog W .any base t v) (hopen : W.ShapedOpen Try.prog)
    (hA : DataW.TrodAll enc Try.prog W 0 (fun _ => true) true Try.f6.params.toList args.toList ds p) : Calls Try.prog 6 args W fun e w' => e = .returned (.bool true) ∧ Below W.heap.size W w' := by
  rw [Try.params6] at hA hval
  obtain ⟨v0, vs0, d0, ds0, p0, q0, hargs, rfl, rfl, h0, r0⟩ := trodAll_cons hA
  obtain ⟨v1, vs1, d1, ds1, p1, q1, rfl, rfl, rfl, h1, r1⟩ := trodAll_cons r0
  obtain ⟨v2, vs2, d2, ds2, p2, q2, rfl, rfl, rfl, h2, r2⟩ := trodAll_cons r1
  obtain ⟨rfl, rfl, rfl⟩ := trodAll_nil r2
  obtain rfl : args = #[v0, v1, v2] := by cases args; simp_all
  obtain ⟨h, s1, s2⟩ := Go.Ev.start W
  have s : Go.Ev.Start W h := ⟨s1, s2⟩
  obtain ⟨a0, rfl, rfl, rfl, w0⟩ := open_int Try.underlying5 (hval 0 5 v0 rfl rfl) h0
  obtain ⟨n0, rfl⟩ := u8_byte w0
  obtain ⟨a1, rfl, rfl, rfl, w1⟩ := open_int Try.underlying3 (hval 1 3 v1 rfl rfl) h1
  obtain ⟨a2, rfl, rfl, rfl, w2⟩ := open_int Try.underlying5 (hval 2 5 v2 rfl rfl) h2
  obtain ⟨n2, rfl⟩ := u8_byte w2
  exact calls_true s (vs := [.i .u8 (n0.toNat : Int), .i .i64 a1, .i .u8 (n2.toNat : Int)]) ⟨rfl, rfl, rfl, trivial⟩ (batchShapes_l (wf_i64 w1).1 (wf_i64 w1).2 s1.flo)
set_option maxRecDepth 100000 in
theorem lifted (os : Os) (started : os.Started) (H : Type) (enc : TypeId × Value → H) :
    ReturnsInHanded {} Try.checked os 6 .any (Rows.batchShapesSpec.pre6 enc Try.prog Try.f6 Rows.batchShapesRow.domain false) (Rows.batchShapesSpec.post enc Try.prog Try.f6 false true false false) :=
  law_lifted (C := Try.checked) own started (by kernel_rfl) Try.func6
    (ChangeSpec.witness6 (enc := enc) (C := Try.checked) false ⟨#[], #[.int .u8 0, .int .i64 0, .int .u8 0], []⟩ 8 (by kernel_rfl) (by kernel_rfl) (by kernel_rfl) (by kernel_rfl))
    rfl (fun ds hd => by rw [Try.params6] at hd; match ds, hd with | [d1, d2, d3], _ => rfl) laid (by kernel_rfl) (by kernel_rfl) Try.underlying4 (fun W base args ds p hv ho hA => run W base args ds p hv ho hA)
theorem over : Rows.batchShapesRow.holds Try.pinned (OpenSpec.ofChange Rows.batchShapesSpec) :=
  OpenClaim.holds_of_wide 6 Try.f6 rfl rfl rfl rfl rfl rfl rfl ⟨rfl, rfl, rfl, rfl, rfl⟩ rfl rfl rfl rfl rfl (by kernel_rfl) Try.func6 (by kernel_rfl)
    (of_decide_eq_true (by kernel_rfl)) (by unfold Func.isWrapper; first | (rw [if_pos (by decide +kernel)]; kernel_rfl) | (rw [if_neg (by decide +kernel)]; exact ⟨rfl, rfl⟩))
    (fun os started H enc _ => lifted os started H enc)
/-- THE STATEMENT -/
theorem proved : Rows.BatchShapesSaid :=
  over
end Go.Proofs.Ythncpgkpkdolfaa.batchShapes
