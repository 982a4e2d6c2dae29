/- Texts of ours, without what this claim does not use: JrL13m NMa SheetMany. No condition. -/
import Derived.Test.YtclpemggclmgeaaPkSheetMany5
import Derived.Test.YtclpemggclmgeaaProg
import Derived.KernelRfl
import Derived.Test.YtclpemggclmgeaaRows
import Derived.WalkKit
import Derived.ProofKit
import Derived.OpenShut
import Derived.ChangeMaps5
set_option maxRecDepth 1000000
set_option linter.all false
namespace Go.Proofs.Ytclpemggclmgeaa
open Go Go.Ev
noncomputable abbrev s6_0 : CC := (CC.seq (CC.region [(wB 10 (doMove (O.c (V.b Bool.false))))]) CC.ret)
noncomputable abbrev s6_1 : CC := (CC.cond (tm 22) s6_0 CC.skip)
noncomputable abbrev s6_2 : CC := (CC.seq (CC.region [(wB 21 (doCall 8 [])), (wB 22 (doNot (tm 21)))]) s6_1)
noncomputable abbrev s6_3 : CC := (CC.seq (CC.region [(wB 10 (doMove (O.c (V.b Bool.false))))]) CC.ret)
noncomputable abbrev s6_4 : CC := (CC.cond (tm 110) s6_3 CC.skip)
noncomputable abbrev s6_5 : CC := (CC.seq (CC.region [(wB 89 (doMove (tm 16))), (wB 90 (bin2 fNeq (tm 89) (oN 0))), (wB 91 (doMove (tm 90))), (wG 91 false 92 (doMove (tm 4))), (wG 91 false 93 (doRem (tm 92) (O.c (V.i IntKind.u8 (Int.ofNat 2))))), (wG 91 false 94 (bin2 fEql (tm 93) (O.c (V.i IntKind.u8 (Int.ofNat 1))))), (wG 91 false 95 (doMove (tm 94))), (wG 95 true 96 (doMove (tm 18))), (wG 95 true 97 (doMove (tm 17))), (wG 95 true 98 (bin2 fEql (tm 97) (oN 16))), (wG 95 true 99 (doBool Bool.true (tm 96) (tm 98))), (wG 91 false 100 (doPick (tm 95) (tm 99) (O.c (V.b Bool.false)))), (wB 101 (doPick (tm 91) (O.c (V.b Bool.true)) (tm 100))), (wB 102 (doMove (tm 101))), (wG 102 false 103 (doMove (tm 4))), (wG 102 false 104 (doRem (tm 103) (O.c (V.i IntKind.u8 (Int.ofNat 2))))), (wG 102 false 105 (bin2 fEql (tm 104) (O.c (V.i IntKind.u8 (Int.ofNat 0))))), (wG 102 false 106 (doMove (tm 105))), (wG 106 true 107 (doMove (tm 17))), (wG 106 true 108 (bin2 fNeq (tm 107) (oN 0))), (wG 102 false 109 (doPick (tm 106) (tm 108) (O.c (V.b Bool.false)))), (wB 110 (doPick (tm 102) (O.c (V.b Bool.true)) (tm 109)))]) s6_4)
noncomputable abbrev s6_6 : CC := (CC.seq (CC.region [(wB 132 (doMove (tm 19))), (wB 133 (bin2 fEql (tm 132) (oN 0))), (wB 134 (doMove (tm 20))), (wB 135 (doBool Bool.false (tm 133) (tm 134))), (wB 136 (doMove (tm 135))), (wG 136 true 137 (doMove (tm 4))), (wG 136 true 138 (doRem (tm 137) (O.c (V.i IntKind.u8 (Int.ofNat 2))))), (wG 136 true 139 (bin2 fEql (tm 138) (O.c (V.i IntKind.u8 (Int.ofNat 1))))), (wG 136 true 140 (doMove (tm 139))), (wG 140 false 141 (doMove (tm 15))), (wG 140 false 142 (doCall 24 [(tm 141), (oN 0)])), (wG 140 false 143 (doLen (tm 142))), (wG 140 false 144 (bin2 fEql (tm 143) (oN 1))), (wG 136 true 145 (doPick (tm 140) (O.c (V.b Bool.true)) (tm 144))), (wB 146 (doPick (tm 136) (tm 145) (O.c (V.b Bool.false)))), (wB 10 (doMove (tm 146)))]) CC.ret)
noncomputable abbrev s6_7 : CC := (CC.seq (CC.region [(wB 121 (doMove (tm 4))), (wB 122 (doRem (tm 121) (O.c (V.i IntKind.u8 (Int.ofNat 2))))), (wB 123 (bin2 fEql (tm 122) (O.c (V.i IntKind.u8 (Int.ofNat 1))))), (wB 124 (doMove (tm 123))), (wG 124 true 125 (doMove (tm 18))), (wB 126 (doPick (tm 124) (tm 125) (O.c (V.b Bool.false)))), (wB 127 (doNot (tm 126))), (wB 128 (doMove (tm 127))), (wG 128 false 129 (doMove (tm 17))), (wG 128 false 130 (bin2 fNeq (tm 129) (oN 0))), (wB 131 (doPick (tm 128) (O.c (V.b Bool.true)) (tm 130))), (wB 20 (doMove (tm 131)))]) s6_6)
noncomputable abbrev s6_8 : CC := (CC.seq (CC.region [(wB 111 (doMove (tm 15))), (wB 112 (doBuildSlice 3 1 [(V.i IntKind.i64 (Int.ofNat 0))] [(Pt.mk 0 1 (oN 1))])), (wB 113 (doFieldAddr 2 (tm 13))), (wB 114 (doLoad (tm 113))), (wB 115 (doFieldAddr 3 (tm 13))), (wB 116 (doLoad (tm 115))), (wB 117 (doBuild [(V.i IntKind.i64 (Int.ofNat 0)), (V.i IntKind.i64 (Int.ofNat 0)), (V.s 0 0), (V.s 0 0), (V.i IntKind.i64 (Int.ofNat 0))] [(Pt.mk 0 1 (oN 9)), (Pt.mk 1 1 (oN 1)), (Pt.mk 2 1 (tm 114)), (Pt.mk 3 1 (tm 116)), (Pt.mk 4 1 (oN 1))])), (wB 118 (doBuildSlice 32 1 [(V.i IntKind.i64 (Int.ofNat 0)), (V.i IntKind.i64 (Int.ofNat 0)), (V.s 0 0), (V.s 0 0), (V.i IntKind.i64 (Int.ofNat 0))] [(Pt.mk 0 5 (tm 117))])), (wB 119 (doBuild [V.l0, V.l0, (V.i IntKind.i64 (Int.ofNat 0)), (V.i IntKind.i64 (Int.ofNat 0))] [(Pt.mk 0 1 (tm 112)), (Pt.mk 1 1 (tm 118))])), (wB 120 (doCall 13 [(tm 111), (tm 119)])), (wB 19 (doMove (tm 120)))]) s6_7)
noncomputable abbrev s6_9 : CC := (CC.seq s6_5 s6_8)
noncomputable abbrev s6_10 : CC := (CC.seq (CC.region [(wB 73 (doMove (tm 11))), (wB 74 (doMove (tm 12))), (wB 75 (doMove (tm 3))), (wB 76 (doRem (tm 75) (O.c (V.i IntKind.u8 (Int.ofNat 5))))), (wB 77 (doConv IntKind.i64 (tm 76))), (wB 78 (bin2 fAdd (tm 74) (tm 77))), (wB 79 (bin2 fLeq (tm 73) (tm 78))), (wB 80 (doMove (tm 79))), (wG 80 true 81 (doMove (tm 12))), (wG 80 true 82 (doMove (tm 11))), (wG 80 true 83 (doMove (tm 1))), (wG 80 true 84 (doRem (tm 83) (O.c (V.i IntKind.u8 (Int.ofNat 5))))), (wG 80 true 85 (doConv IntKind.i64 (tm 84))), (wG 80 true 86 (bin2 fAdd (tm 82) (tm 85))), (wG 80 true 87 (bin2 fLeq (tm 81) (tm 86))), (wB 88 (doPick (tm 80) (tm 87) (O.c (V.b Bool.false)))), (wB 18 (doMove (tm 88)))]) s6_9)
noncomputable abbrev s6_11 : CC := (CC.seq (CC.region [(wB 68 (doMove (tm 15))), (wB 69 (doLoadA 5 (tm 14))), (wB 70 (doBuildSlice 32 1 [(V.i IntKind.i64 (Int.ofNat 0)), (V.i IntKind.i64 (Int.ofNat 0)), (V.s 0 0), (V.s 0 0), (V.i IntKind.i64 (Int.ofNat 0))] [(Pt.mk 0 5 (tm 69))])), (wB 71 (doBuild [V.l0, V.l0, (V.i IntKind.i64 (Int.ofNat 0)), (V.i IntKind.i64 (Int.ofNat 0))] [(Pt.mk 1 1 (tm 70))])), (wB 72 (doCall 13 [(tm 68), (tm 71)])), (wB 17 (doMove (tm 72)))]) s6_10)
noncomputable abbrev s6_12 : CC := (CC.seq (CC.region [(wB 63 (doMove (tm 15))), (wB 64 (doLoadA 5 (tm 13))), (wB 65 (doBuildSlice 32 1 [(V.i IntKind.i64 (Int.ofNat 0)), (V.i IntKind.i64 (Int.ofNat 0)), (V.s 0 0), (V.s 0 0), (V.i IntKind.i64 (Int.ofNat 0))] [(Pt.mk 0 5 (tm 64))])), (wB 66 (doBuild [V.l0, V.l0, (V.i IntKind.i64 (Int.ofNat 0)), (V.i IntKind.i64 (Int.ofNat 0))] [(Pt.mk 1 1 (tm 65))])), (wB 67 (doCall 13 [(tm 63), (tm 66)])), (wB 16 (doMove (tm 67)))]) s6_11)
noncomputable abbrev s6_13 : CC := (CC.seq (CC.region [(wB 62 (doCall 10 [])), (wB 15 (doMove (tm 62)))]) s6_12)
noncomputable abbrev s6_14 : CC := (CC.seq (CC.region [(wB 44 (doMove (tm 4))), (wB 45 (doRem (tm 44) (O.c (V.i IntKind.u8 (Int.ofNat 2))))), (wB 46 (doConv IntKind.i64 (tm 45))), (wB 47 (doMove (tm 12))), (wB 48 (bin2 fAdd (oN 97) (tm 47))), (wB 49 (doConv IntKind.u8 (tm 48))), (wB 50 (doBuildSlice 5 1 [(V.i IntKind.u8 (Int.ofNat 0))] [(Pt.mk 0 1 (tm 49))])), (wB 51 (doB2S (tm 50))), (wB 52 (doMove (tm 12))), (wB 53 (bin2 fAdd (oN 97) (tm 52))), (wB 54 (doMove (tm 3))), (wB 55 (doRem (tm 54) (O.c (V.i IntKind.u8 (Int.ofNat 5))))), (wB 56 (doConv IntKind.i64 (tm 55))), (wB 57 (bin2 fAdd (tm 53) (tm 56))), (wB 58 (doConv IntKind.u8 (tm 57))), (wB 59 (doBuildSlice 5 1 [(V.i IntKind.u8 (Int.ofNat 0))] [(Pt.mk 0 1 (tm 58))])), (wB 60 (doB2S (tm 59))), (wB 61 (doBuild [(V.i IntKind.i64 (Int.ofNat 0)), (V.i IntKind.i64 (Int.ofNat 0)), (V.s 0 0), (V.s 0 0), (V.i IntKind.i64 (Int.ofNat 0))] [(Pt.mk 0 1 (oN 2)), (Pt.mk 1 1 (tm 46)), (Pt.mk 2 1 (tm 51)), (Pt.mk 3 1 (tm 60)), (Pt.mk 4 1 (oN 1))])), (wB 14 (doAlloc 32 [(V.i IntKind.i64 (Int.ofNat 0)), (V.i IntKind.i64 (Int.ofNat 0)), (V.s 0 0), (V.s 0 0), (V.i IntKind.i64 (Int.ofNat 0))])), (CO.mk G.none D.none Bool.true (CR.mk (doStore 5 (tm 14) (tm 61))))]) s6_13)
noncomputable abbrev s6_15 : CC := (CC.seq (CC.region [(wB 29 (doMove (tm 11))), (wB 30 (bin2 fAdd (oN 97) (tm 29))), (wB 31 (doConv IntKind.u8 (tm 30))), (wB 32 (doBuildSlice 5 1 [(V.i IntKind.u8 (Int.ofNat 0))] [(Pt.mk 0 1 (tm 31))])), (wB 33 (doB2S (tm 32))), (wB 34 (doMove (tm 11))), (wB 35 (bin2 fAdd (oN 97) (tm 34))), (wB 36 (doMove (tm 1))), (wB 37 (doRem (tm 36) (O.c (V.i IntKind.u8 (Int.ofNat 5))))), (wB 38 (doConv IntKind.i64 (tm 37))), (wB 39 (bin2 fAdd (tm 35) (tm 38))), (wB 40 (doConv IntKind.u8 (tm 39))), (wB 41 (doBuildSlice 5 1 [(V.i IntKind.u8 (Int.ofNat 0))] [(Pt.mk 0 1 (tm 40))])), (wB 42 (doB2S (tm 41))), (wB 43 (doBuild [(V.i IntKind.i64 (Int.ofNat 0)), (V.i IntKind.i64 (Int.ofNat 0)), (V.s 0 0), (V.s 0 0), (V.i IntKind.i64 (Int.ofNat 0))] [(Pt.mk 0 1 (oN 1)), (Pt.mk 1 1 (oN 1)), (Pt.mk 2 1 (tm 33)), (Pt.mk 3 1 (tm 42)), (Pt.mk 4 1 (oN 1))])), (wB 13 (doAlloc 32 [(V.i IntKind.i64 (Int.ofNat 0)), (V.i IntKind.i64 (Int.ofNat 0)), (V.s 0 0), (V.s 0 0), (V.i IntKind.i64 (Int.ofNat 0))])), (CO.mk G.none D.none Bool.true (CR.mk (doStore 5 (tm 13) (tm 43))))]) s6_14)
noncomputable abbrev s6_16 : CC := (CC.seq (CC.region [(wB 23 (doMove (tm 0))), (wB 24 (doRem (tm 23) (O.c (V.i IntKind.u8 (Int.ofNat 10))))), (wB 25 (doConv IntKind.i64 (tm 24))), (wB 26 (doMove (tm 2))), (wB 27 (doRem (tm 26) (O.c (V.i IntKind.u8 (Int.ofNat 10))))), (wB 28 (doConv IntKind.i64 (tm 27))), (wB 11 (doMove (tm 25))), (wB 12 (doMove (tm 28)))]) s6_15)
noncomputable abbrev s6_17 : CC := (CC.seq s6_2 s6_16)
noncomputable abbrev b6 : CC := (CC.seq (CC.region [(wB 10 (doMove (O.c (V.b Bool.false))))]) s6_17)
theorem c6 : compFn Try.prog 6 = ⟨147, b6, [(Rs.tmp (slOf 10))]⟩ := by kernel_rfl
noncomputable abbrev s7_0 : CC := (CC.seq (CC.region [(wB 4 (doMove (O.c (V.b Bool.false))))]) CC.ret)
noncomputable abbrev s7_1 : CC := (CC.cond (tm 15) s7_0 CC.skip)
noncomputable abbrev s7_2 : CC := (CC.seq (CC.region [(wB 14 (doCall 8 [])), (wB 15 (doNot (tm 14)))]) s7_1)
noncomputable abbrev s7_3 : CC := (CC.cond (tm 23) CC.skip (CC.exit 0))
noncomputable abbrev s7_4 : CC := (CC.seq (CC.region [(wB 21 (doMove (tm 7))), (wB 22 (doMove (tm 6))), (wB 23 (bin2 fLeq (tm 21) (tm 22)))]) s7_3)
noncomputable abbrev s7_5 : CC := (CC.seq (CC.region [(wB 4 (doMove (O.c (V.b Bool.false))))]) CC.ret)
noncomputable abbrev s7_6 : CC := (CC.cond (tm 45) s7_5 CC.skip)
noncomputable abbrev s7_7 : CC := (CC.seq (CC.region [(wB 33 (doMove (tm 8))), (wB 34 (bin2 fEql (tm 33) (oN 0))), (wB 35 (doMove (tm 7))), (wB 36 (bin2 fLeq (tm 35) (oN 40))), (wB 37 (doBool Bool.true (tm 34) (tm 36))), (wB 38 (doMove (tm 37))), (wG 38 false 39 (doMove (tm 8))), (wG 38 false 40 (bin2 fNeq (tm 39) (oN 0))), (wG 38 false 41 (doMove (tm 40))), (wG 41 true 42 (doMove (tm 8))), (wG 41 true 43 (bin2 fNeq (tm 42) (oN 25))), (wG 38 false 44 (doPick (tm 41) (tm 43) (O.c (V.b Bool.false)))), (wB 45 (doPick (tm 38) (O.c (V.b Bool.true)) (tm 44)))]) s7_6)
noncomputable abbrev s7_8 : CC := (CC.seq (CC.region [(wB 26 (doMove (tm 5))), (wB 27 (doMove (tm 7))), (wB 28 (doMove (tm 7))), (wB 29 (doBuild [(V.i IntKind.i64 (Int.ofNat 0)), (V.i IntKind.i64 (Int.ofNat 0)), (V.s 0 0), (V.s 0 0), (V.i IntKind.i64 (Int.ofNat 0))] [(Pt.mk 0 1 (tm 27)), (Pt.mk 2 1 (O.c (V.s 1 97))), (Pt.mk 3 1 (O.c (V.s 1 122))), (Pt.mk 4 1 (tm 28))])), (wB 30 (doBuildSlice 32 1 [(V.i IntKind.i64 (Int.ofNat 0)), (V.i IntKind.i64 (Int.ofNat 0)), (V.s 0 0), (V.s 0 0), (V.i IntKind.i64 (Int.ofNat 0))] [(Pt.mk 0 5 (tm 29))])), (wB 31 (doBuild [V.l0, V.l0, (V.i IntKind.i64 (Int.ofNat 0)), (V.i IntKind.i64 (Int.ofNat 0))] [(Pt.mk 1 1 (tm 30))])), (wB 32 (doCall 13 [(tm 26), (tm 31)])), (wB 8 (doMove (tm 32)))]) s7_7)
noncomputable abbrev s7_9 : CC := (CC.block 1 s7_8)
noncomputable abbrev s7_10 : CC := (CC.region [(wB 24 (doMove (tm 7))), (wB 25 (bin2 fAdd (tm 24) (oN 1))), (wB 7 (doMove (tm 25)))])
noncomputable abbrev s7_11 : CC := (CC.seq s7_9 s7_10)
noncomputable abbrev l7_0 : CC := (CC.seq s7_4 s7_11)
noncomputable abbrev s7_12 : CC := (CC.loop l7_0)
noncomputable abbrev s7_13 : CC := (CC.block 0 s7_12)
noncomputable abbrev s7_14 : CC := (CC.seq (CC.region [(wB 7 (doMove (oN 1)))]) s7_13)
noncomputable abbrev s7_15 : CC := (CC.seq (CC.region [(wB 4 (doMove (O.c (V.b Bool.false))))]) CC.ret)
noncomputable abbrev s7_16 : CC := (CC.cond (tm 77) s7_15 CC.skip)
noncomputable abbrev s7_17 : CC := (CC.seq (CC.region [(wB 50 (doMove (tm 10))), (wB 51 (doLen (tm 50))), (wB 52 (doMove (tm 9))), (wB 53 (bin2 fNeq (tm 51) (tm 52))), (wB 54 (doMove (tm 53))), (wG 54 false 55 (doMove (tm 10))), (wG 54 false 56 (doIndexAddr 5 (tm 55) (oN 0))), (wG 54 false 57 (doFieldAddr 0 (tm 56))), (wG 54 false 58 (doLoad (tm 57))), (wG 54 false 59 (doMove (tm 9))), (wG 54 false 60 (bin2 fNeq (tm 58) (tm 59))), (wB 61 (doPick (tm 54) (O.c (V.b Bool.true)) (tm 60))), (wB 62 (doMove (tm 61))), (wG 62 false 63 (doMove (tm 10))), (wG 62 false 64 (doMove (tm 9))), (wG 62 false 65 (bin2 fSub (tm 64) (oN 1))), (wG 62 false 66 (doIndexAddr 5 (tm 63) (tm 65))), (wG 62 false 67 (doFieldAddr 0 (tm 66))), (wG 62 false 68 (doLoad (tm 67))), (wG 62 false 69 (bin2 fNeq (tm 68) (oN 1))), (wB 70 (doPick (tm 62) (O.c (V.b Bool.true)) (tm 69))), (wB 71 (doMove (tm 70))), (wG 71 false 72 (doMove (tm 5))), (wG 71 false 73 (doCall 21 [(tm 72)])), (wG 71 false 74 (doMove (tm 9))), (wG 71 false 75 (bin2 fAdd (tm 74) (oN 1))), (wG 71 false 76 (bin2 fNeq (tm 73) (tm 75))), (wB 77 (doPick (tm 71) (O.c (V.b Bool.true)) (tm 76)))]) s7_16)
noncomputable abbrev s7_18 : CC := (CC.seq (CC.region [(wB 97 (doMove (tm 12))), (wB 98 (bin2 fEql (tm 97) (oN 0))), (wB 99 (doMove (tm 98))), (wG 99 true 100 (doMove (tm 13))), (wG 99 true 101 (bin2 fEql (tm 100) (oN 18))), (wB 102 (doPick (tm 99) (tm 101) (O.c (V.b Bool.false)))), (wB 103 (doMove (tm 102))), (wG 103 true 104 (doMove (tm 5))), (wG 103 true 105 (doCall 22 [(tm 104)])), (wG 103 true 106 (doLen (tm 105))), (wG 103 true 107 (doMove (tm 9))), (wG 103 true 108 (bin2 fEql (tm 106) (tm 107))), (wB 109 (doPick (tm 103) (tm 108) (O.c (V.b Bool.false)))), (wB 110 (doMove (tm 109))), (wG 110 true 111 (doMove (tm 5))), (wG 110 true 112 (doCall 22 [(tm 111)])), (wG 110 true 113 (doIndexAddr 5 (tm 112) (oN 0))), (wG 110 true 114 (doFieldAddr 0 (tm 113))), (wG 110 true 115 (doLoad (tm 114))), (wG 110 true 116 (doMove (tm 9))), (wG 110 true 117 (bin2 fAdd (tm 116) (oN 1))), (wG 110 true 118 (bin2 fEql (tm 115) (tm 117))), (wB 119 (doPick (tm 110) (tm 118) (O.c (V.b Bool.false)))), (wB 4 (doMove (tm 119)))]) CC.ret)
noncomputable abbrev s7_19 : CC := (CC.seq (CC.region [(wB 92 (doMove (tm 5))), (wB 93 (doMove (tm 11))), (wB 94 (doBuildSlice 3 1 [(V.i IntKind.i64 (Int.ofNat 0))] [(Pt.mk 0 1 (tm 93))])), (wB 95 (doBuild [V.l0, V.l0, (V.i IntKind.i64 (Int.ofNat 0)), (V.i IntKind.i64 (Int.ofNat 0))] [(Pt.mk 0 1 (tm 94))])), (wB 96 (doCall 13 [(tm 92), (tm 95)])), (wB 13 (doMove (tm 96)))]) s7_18)
noncomputable abbrev s7_20 : CC := (CC.seq (CC.region [(wB 83 (doMove (tm 5))), (wB 84 (doMove (tm 11))), (wB 85 (doBuildSlice 3 1 [(V.i IntKind.i64 (Int.ofNat 0))] [(Pt.mk 0 1 (tm 84))])), (wB 86 (doMove (tm 9))), (wB 87 (bin2 fAdd (tm 86) (oN 1))), (wB 88 (doBuild [(V.i IntKind.i64 (Int.ofNat 0)), (V.i IntKind.i64 (Int.ofNat 0)), (V.s 0 0), (V.s 0 0), (V.i IntKind.i64 (Int.ofNat 0))] [(Pt.mk 0 1 (tm 87)), (Pt.mk 2 1 (O.c (V.s 1 113))), (Pt.mk 3 1 (O.c (V.s 1 113))), (Pt.mk 4 1 (oN 1))])), (wB 89 (doBuildSlice 32 1 [(V.i IntKind.i64 (Int.ofNat 0)), (V.i IntKind.i64 (Int.ofNat 0)), (V.s 0 0), (V.s 0 0), (V.i IntKind.i64 (Int.ofNat 0))] [(Pt.mk 0 5 (tm 88))])), (wB 90 (doBuild [V.l0, V.l0, (V.i IntKind.i64 (Int.ofNat 0)), (V.i IntKind.i64 (Int.ofNat 0))] [(Pt.mk 0 1 (tm 85)), (Pt.mk 1 1 (tm 89))])), (wB 91 (doCall 13 [(tm 83), (tm 90)])), (wB 12 (doMove (tm 91)))]) s7_19)
noncomputable abbrev s7_21 : CC := (CC.seq (CC.region [(wB 78 (doMove (tm 1))), (wB 79 (doConv IntKind.i64 (tm 78))), (wB 80 (doMove (tm 9))), (wB 81 (doRem (tm 79) (tm 80))), (wB 82 (bin2 fAdd (tm 81) (oN 1))), (wB 11 (doMove (tm 82)))]) s7_20)
noncomputable abbrev s7_22 : CC := (CC.seq s7_17 s7_21)
noncomputable abbrev s7_23 : CC := (CC.seq (CC.region [(wB 48 (doMove (tm 5))), (wB 49 (doCall 22 [(tm 48)])), (wB 10 (doMove (tm 49)))]) s7_22)
noncomputable abbrev s7_24 : CC := (CC.seq (CC.region [(wB 46 (doMove (tm 6))), (wB 47 (doMin (tm 46) (oN 40))), (wB 9 (doMove (tm 47)))]) s7_23)
noncomputable abbrev s7_25 : CC := (CC.seq s7_14 s7_24)
noncomputable abbrev s7_26 : CC := (CC.seq (CC.region [(wB 17 (doMove (tm 0))), (wB 18 (doRem (tm 17) (O.c (V.i IntKind.u8 (Int.ofNat 3))))), (wB 19 (doConv IntKind.i64 (tm 18))), (wB 20 (bin2 fAdd (oN 39) (tm 19))), (wB 6 (doMove (tm 20)))]) s7_25)
noncomputable abbrev s7_27 : CC := (CC.seq (CC.region [(wB 16 (doCall 10 [])), (wB 5 (doMove (tm 16)))]) s7_26)
noncomputable abbrev s7_28 : CC := (CC.seq s7_2 s7_27)
noncomputable abbrev b7 : CC := (CC.seq (CC.region [(wB 4 (doMove (O.c (V.b Bool.false))))]) s7_28)
theorem c7 : compFn Try.prog 7 = ⟨120, b7, [(Rs.tmp (slOf 4))]⟩ := by kernel_rfl
end Go.Proofs.Ytclpemggclmgeaa

set_option maxRecDepth 100000
set_option maxHeartbeats 8000000
set_option linter.all false
namespace Go.Proofs.Ytclpemggclmgeaa
open Go Go.Ev
theorem one_t {h : H} {id : B} {t : Tbl} (o : Ev.Own h id (tblC t)) : Tbs h (.l id 0 0 1 5 (some 1)) [t] := by
  refine .inr ⟨id, 0, 0, 5, some 1, rfl, by simp, ?_, ?_⟩
  · obtain ⟨_, _, _, _, _, _, h6, _⟩ := o; exact h6
  · show Row h id 0 0 ([t].flatMap tblC)
    rw [List.flatMap_cons, List.flatMap_nil, List.append_nil]; exact o.row
theorem one_i {h : H} {id : B} {x : Int} (o : Ev.Own h id [.i .i64 x]) : Il h (.l id 0 0 1 1 (some 1)) [x] := by
  refine .inr ⟨id, 0, 0, 1, some 1, rfl, by simp, ?_, o.row⟩
  obtain ⟨_, _, _, _, _, _, h6, _⟩ := o; exact h6
theorem edM_m {h : H} {id : B} {t : Tbl} (o : Ev.Own h id (tblC t)) : EdM h .l0 (.l id 0 0 1 5 (some 1)) (edM t) := ⟨.inl ⟨rfl, rfl⟩, one_t o⟩
theorem sheetMany_ok {h : H} {a b : UInt8} (hf : B.val h.floor ≤ B.val h.next) : FnOk Try.prog 7 [.i .u8 (a.toNat : Int), .i .u8 (b.toNat : Int)] h fun y h' => y = .b true := by
  have ha := a.toNat_lt
  have hbb := b.toNat_lt
  obtain ⟨N, hN⟩ : ∃ N, N = 39 + a.toNat % 3 := ⟨_, rfl⟩
  have hN2 : (39 : Int) + (a.toNat : Int) % 3 = (N : Int) := by omega
  refine fn_go c7 (by intro hb; cases hb) (by simp) (by simp) fun Q hQ => ?_
  simp only [slotsF, Nat.reduceAdd]
  repeat' (first
    | refine St.h ?_
    | simp (disch := first | omega | (simp only [lnv]; omega)) only [wlk, ↓get_put', ↓reduceIte, seval]
    | (with_reducible (first | apply cd_split | apply gd_split)) <;> (intro hc; (try simp only [hcn] at hc); (try simp only [hc]); (try simp only [hcl] at hc); try omega))
  refine CL.pure (FnOk.of_pure ravelinlaw13.known_pure h) ?_
  repeat' (first
    | refine St.h ?_
    | simp (disch := first | omega | (simp only [lnv]; omega)) only [wlk, ↓get_put', ↓reduceIte, seval]
    | (with_reducible (first | apply cd_split | apply gd_split)) <;> (intro hc; (try simp only [hcn] at hc); (try simp only [hc]); (try simp only [hcl] at hc); try omega))
  refine CL.mk (snew_ok hf) ?_
  rintro _ h1 ⟨rfl, a1, n1, s1⟩
  repeat' (first
    | refine St.h ?_
    | simp (disch := first | omega | (simp only [lnv]; omega)) only [wlk, ↓get_put', ↓reduceIte, seval, hN2]
    | (with_reducible (first | apply cd_split | apply gd_split)) <;> (intro hc; (try simp only [hcn] at hc); (try simp only [hc]); (try simp only [hcl] at hc); try omega))
  refine Ok.lp (fun m t g => ∃ (k : Nat) (u : V), m = N - k ∧ k ≤ N ∧ get 1 t = .i .u8 (b.toNat : Int) ∧ get 5 t = .p h.next 0 0 4 ∧ get 6 t = .i .i64 (N : Int) ∧ get 7 t = .i .i64 ((k + 1 : Nat) : Int) ∧ ShP g h.next u (stM (min k 40)) ∧ Wf (stM (min k 40)) ∧ Stay nowhere h g) N ?_ ?_
  · simp (disch := first | omega | (simp only [lnv]; omega)) only [wlk, ↓get_put', ↓reduceIte, seval, hN2]
    refine ⟨0, .l0, by omega, by omega, ?_⟩
    refine ⟨?_, ?_, ?_, ?_, a1, wfZ, s1⟩
    all_goals first | trivial | rfl
  rintro I hI m t g ⟨k, u, rfl, hk, f1, f5, f6, f7, sp, wf, st⟩
  have hfg := st.fl hf
  have bl := sp.lt.1
  by_cases hkl : k < N
  · have d1 : (((k + 1 : Nat) : Int) ≤ (N : Int)) = True := eq_true (by omega)
    rw [show min k 40 = k by omega] at sp wf
    repeat' (first
      | refine St.h ?_
      | simp (disch := first | omega | (simp only [lnv]; omega)) only [wlk, ↓get_put', ↓reduceIte, seval, f1, f5, f6, f7, d1]
      | (with_reducible (first | apply cd_split | apply gd_split)) <;> (intro hc; (try simp only [hcn] at hc); (try simp only [hc]); (try simp only [hcl] at hc); try omega))
    refine AL.own (by simp) hfg fun g2 t2 n2 o2 => ?_
    have o2 : Ev.Own g2 g.next (tblC (tMn (k + 1))) := o2
    have hf2 := t2.fl hfg
    repeat' (first
      | refine St.h ?_
      | simp (disch := first | omega | (simp only [lnv]; omega)) only [wlk, ↓get_put', ↓reduceIte, seval, f1, f5, f6, f7]
      | (with_reducible (first | apply cd_split | apply gd_split)) <;> (intro hc; (try simp only [hcn] at hc); (try simp only [hc]); (try simp only [hcl] at hc); try omega))
    refine CL.mk (do_ok (e := edM (tMn (k + 1))) (sp.grow t2) wf (edM_m o2) (by simp [edM]) (by simp [edM]) (by simp [edM, tMn]) hf2 ?_) ?_
    · rintro q ⟨_, _, _, _, _, e⟩ e2
      cases e
      rw [e2] at bl; omega
    rintro _ g3 ⟨rfl, u3, sp3, _, t3⟩
    have wf3 := do_wf (e := edM (tMn (k + 1))) wf
    have hd := do_many (k := k) (by omega)
    rw [hd] at sp3 wf3 ⊢
    have st3 : Stay nowhere h g3 := (st.trans t2).past' t3 fun q e => by rw [e]; exact Nat.le_refl _
    by_cases h40 : k < 40
    · rw [if_pos h40] at sp3 wf3 ⊢
      have d2 : (((k + 1 : Nat) : Int) ≤ 40) = True := eq_true (by omega)
      repeat' (first
        | refine St.h ?_
        | simp (disch := first | omega | (simp only [lnv]; omega)) only [wlk, ↓get_put', ↓reduceIte, seval, f1, f5, f6, f7, d2]
        | (with_reducible (first | apply cd_split | apply gd_split)) <;> (intro hc; (try simp only [hcn] at hc); (try simp only [hc]); (try simp only [hcl] at hc); try omega))
      refine lp_next hI (N - (k + 1)) (by omega) ⟨k + 1, u3, rfl, by omega, by simp (disch := first | omega | (simp only [lnv]; omega)) only [wlk, ↓get_put', ↓reduceIte, seval, f1], by simp (disch := first | omega | (simp only [lnv]; omega)) only [wlk, ↓get_put', ↓reduceIte, seval, f5], by simp (disch := first | omega | (simp only [lnv]; omega)) only [wlk, ↓get_put', ↓reduceIte, seval, f6], ?_, ?_, ?_, st3⟩
      · simp (disch := first | omega | (simp only [lnv]; omega)) only [wlk, ↓get_put', ↓reduceIte, seval, f7]; rfl
      · rw [show min (k + 1) 40 = k + 1 by omega]; exact sp3
      · rw [show min (k + 1) 40 = k + 1 by omega]; exact wf3
    · rw [if_neg h40] at sp3 wf3 ⊢
      have d2 : (((k + 1 : Nat) : Int) ≤ 40) = False := eq_false (by omega)
      repeat' (first
        | refine St.h ?_
        | simp (disch := first | omega | (simp only [lnv]; omega)) only [wlk, ↓get_put', ↓reduceIte, seval, f1, f5, f6, f7, d2]
        | (with_reducible (first | apply cd_split | apply gd_split)) <;> (intro hc; (try simp only [hcn] at hc); (try simp only [hc]); (try simp only [hcl] at hc); try omega))
      refine lp_next hI (N - (k + 1)) (by omega) ⟨k + 1, u3, rfl, by omega, by simp (disch := first | omega | (simp only [lnv]; omega)) only [wlk, ↓get_put', ↓reduceIte, seval, f1], by simp (disch := first | omega | (simp only [lnv]; omega)) only [wlk, ↓get_put', ↓reduceIte, seval, f5], by simp (disch := first | omega | (simp only [lnv]; omega)) only [wlk, ↓get_put', ↓reduceIte, seval, f6], ?_, ?_, ?_, st3⟩
      · simp (disch := first | omega | (simp only [lnv]; omega)) only [wlk, ↓get_put', ↓reduceIte, seval, f7]; rfl
      · rw [show min (k + 1) 40 = k by omega]; exact sp3
      · rw [show min (k + 1) 40 = k by omega]; exact wf3
  obtain rfl : k = N := by omega
  have d1 : (((k + 1 : Nat) : Int) ≤ (k : Int)) = False := eq_false (by omega)
  obtain ⟨M, hM⟩ : ∃ M, M = min k 40 := ⟨_, rfl⟩
  rw [← hM] at sp wf
  have hM2 : min (k : Int) 40 = (M : Int) := by omega
  have hM3 : 39 ≤ M ∧ M ≤ 40 := by omega
  have hls : (stM M).L.length = M := tabs_len M
  repeat' (first
    | refine St.h ?_
    | simp (disch := first | omega | (simp only [lnv]; omega)) only [wlk, ↓get_put', ↓reduceIte, seval, f1, f5, f6, f7, d1, hM2]
    | (with_reducible (first | apply cd_split | apply gd_split)) <;> (intro hc; (try simp only [hcn] at hc); (try simp only [hc]); (try simp only [hcl] at hc); try omega))
  refine CL.mk (stabs_ok sp (by omega) hfg) ?_
  rintro w g2 ⟨w1, w2, t2⟩
  have sp2 := sp.grow t2
  have st2 := st.trans t2
  have hf2 := st2.fl hf
  have T2 := w1.tbs
  have i0 : ((stM M).L.getD 0 default).id = (M : Int) := by show ((tabs M).getD 0 default).id = _; rw [tabs_at (by omega)]; rfl
  have i1 : ((stM M).L.getD (M - 1) default).id = 1 := by show ((tabs M).getD (M - 1) default).id = _; rw [tabs_at (by omega), show M - (M - 1) = 1 by omega]; rfl
  have eM : ((M : Int) - 1).toNat = M - 1 := by omega
  have hx0 : 0 < (stM M).L.length := by omega
  have hx1 : M - 1 < (stM M).L.length := by omega
  have nx : (stM M).next = (M : Int) + 1 := rfl
  repeat' (first
    | refine St.h ?_
    | simp (disch := first | omega | (simp only [lnv]; omega)) only [wlk, ↓get_put', ↓reduceIte, seval, f1, f5, f6, f7, T2.ln, hls, T2.ix0, T2.l00, i0, eM, T2.ix, T2.l0, i1]
    | (with_reducible (first | apply cd_split | apply gd_split)) <;> (intro hc; (try simp only [hcn] at hc); (try simp only [hc]); (try simp only [hcl] at hc); try omega))
  refine CL.pure (snext_ok sp2) ?_
  obtain ⟨j, hj⟩ : ∃ j, j = b.toNat % M + 1 := ⟨_, rfl⟩
  have hj2 : (b.toNat : Int) % (M : Int) + 1 = (j : Int) := by omega
  have hj3 : 1 ≤ j ∧ j ≤ M := by have := Nat.mod_lt b.toNat (show 0 < M by omega); omega
  repeat' (first
    | refine St.h ?_
    | simp (disch := first | omega | (simp only [lnv]; omega)) only [wlk, ↓get_put', ↓reduceIte, seval, f1, f5, f6, f7, nx, hj2]
    | (with_reducible (first | apply cd_split | apply gd_split)) <;> (intro hc; (try simp only [hcn] at hc); (try simp only [hc]); (try simp only [hcl] at hc); try omega))
  refine AL.own (by simp) hf2 fun g3 t3 n3 o3 => ?_
  have hf3 := t3.fl hf2
  repeat' (first
    | refine St.h ?_
    | simp (disch := first | omega | (simp only [lnv]; omega)) only [wlk, ↓get_put', ↓reduceIte, seval, f1, f5, f6, f7]
    | (with_reducible (first | apply cd_split | apply gd_split)) <;> (intro hc; (try simp only [hcn] at hc); (try simp only [hc]); (try simp only [hcl] at hc); try omega))
  refine AL.own (by simp) hf3 fun g4 t4 n4 o4 => ?_
  have o4 : Ev.Own g4 g3.next (tblC (tQ M)) := o4
  have hf4 := t4.fl hf3
  have t24 := t3.trans t4
  have sp4 := sp2.grow t24
  repeat' (first
    | refine St.h ?_
    | simp (disch := first | omega | (simp only [lnv]; omega)) only [wlk, ↓get_put', ↓reduceIte, seval, f1, f5, f6, f7]
    | (with_reducible (first | apply cd_split | apply gd_split)) <;> (intro hc; (try simp only [hcn] at hc); (try simp only [hc]); (try simp only [hcl] at hc); try omega))
  refine CL.mk (do_ok (e := edS M j) sp4 wf ⟨(one_i o3).grow t4, one_t o4⟩ (by simp [edS]) (by simp [edS]) (by simp [edS, tQ]) hf4 ?_) ?_
  · rintro q ⟨_, _, _, _, _, e⟩ e2
    cases e
    have := sp2.lt.1
    have := t3.next
    rw [e2] at this; omega
  have wf5 := do_wf (e := edS M j) wf
  have d5 := do_swap (k := M) (j := j) hM3.2 hj3.1 hj3.2
  rw [d5] at wf5 ⊢
  rintro _ g5 ⟨rfl, u5, sp5, _, t5⟩
  have st4 := st2.trans t24
  have st5 : Stay nowhere h g5 := st4.past' t5 fun q e => by rw [e]; exact Nat.le_refl _
  have hf5 := st5.fl hf
  repeat' (first
    | refine St.h ?_
    | simp (disch := first | omega | (simp only [lnv]; omega)) only [wlk, ↓get_put', ↓reduceIte, seval, f1, f5, f6, f7]
    | (with_reducible (first | apply cd_split | apply gd_split)) <;> (intro hc; (try simp only [hcn] at hc); (try simp only [hc]); (try simp only [hcl] at hc); try omega))
  refine AL.own (by simp) hf5 fun g6 t6 n6 o6 => ?_
  have hf6 := t6.fl hf5
  repeat' (first
    | refine St.h ?_
    | simp (disch := first | omega | (simp only [lnv]; omega)) only [wlk, ↓get_put', ↓reduceIte, seval, f1, f5, f6, f7]
    | (with_reducible (first | apply cd_split | apply gd_split)) <;> (intro hc; (try simp only [hcn] at hc); (try simp only [hc]); (try simp only [hcl] at hc); try omega))
  refine CL.mk (do_ok (e := ⟨[(j : Int)], [], 0, 0⟩) (sp5.grow t6) wf5 ⟨one_i o6, Ss.nil⟩ (by simp) (by simp) (by simp) hf6 ?_) ?_
  · rintro q ⟨_, _, _, _, _, e⟩ e2; cases e
  rw [do_again hj3.1 hj3.2]
  rintro _ g7 ⟨rfl, u7, sp7, _, t7⟩
  have sp7 : ShP g7 h.next u7 (stG M j) := sp7
  have st7 : Stay nowhere h g7 := (st5.trans t6).past' t7 fun q e => by rw [e]; exact Nat.le_refl _
  have hf7 := st7.fl hf
  have hlg : (stG M j).L.length = M := by show (leftT (tabs M) [(j : Int)]).length + 1 = M; rw [gone_len hj3.1 hj3.2]; omega
  have ig : ((stG M j).L.getD 0 default).id = (M : Int) + 1 := rfl
  have hxg : 0 < (stG M j).L.length := by omega
  repeat' (first
    | refine St.h ?_
    | simp (disch := first | omega | (simp only [lnv]; omega)) only [wlk, ↓get_put', ↓reduceIte, seval, f1, f5, f6, f7]
    | (with_reducible (first | apply cd_split | apply gd_split)) <;> (intro hc; (try simp only [hcn] at hc); (try simp only [hc]); (try simp only [hcl] at hc); try omega))
  refine CL.mk (stabs_ok sp7 (by omega) hf7) ?_
  rintro w8 g8 ⟨w81, _, t8⟩
  repeat' (first
    | refine St.h ?_
    | simp (disch := first | omega | (simp only [lnv]; omega)) only [wlk, ↓get_put', ↓reduceIte, seval, f1, f5, f6, f7, w81.tbs.ln, hlg]
    | (with_reducible (first | apply cd_split | apply gd_split)) <;> (intro hc; (try simp only [hcn] at hc); (try simp only [hc]); (try simp only [hcl] at hc); try omega))
  refine CL.mk (stabs_ok (sp7.grow t8) (by omega) (t8.fl hf7)) ?_
  rintro w9 g9 ⟨w91, _, t9⟩
  have T9 := w91.tbs
  repeat' (first
    | refine St.h ?_
    | simp (disch := first | omega | (simp only [lnv]; omega)) only [wlk, ↓get_put', ↓reduceIte, seval, f1, f5, f6, f7, T9.ix0, T9.l00, ig]
    | (with_reducible (first | apply cd_split | apply gd_split)) <;> (intro hc; (try simp only [hcn] at hc); (try simp only [hc]); (try simp only [hcl] at hc); try omega))
  subst hQ
  simp
end Go.Proofs.Ytclpemggclmgeaa

namespace Go.Proofs.Ytclpemggclmgeaa.sheetMany
open Go Go.Ev Go.ChangeShapes Go.WideShapes Go.ChangeAt Go.RowKit Go.ChangeMaps
set_option linter.all false
theorem own : ownKnob Try.prog.godebug = none := by kernel_rfl
theorem laid : laidOutB Try.prog = true := by kernel_rfl
theorem heap_pos {W : World} (h : W.ShapedOpen Try.prog) : 0 < W.heap.size := by
  obtain ⟨o, _, h1, _⟩ := h.2 Try.prog.globals.size (Nat.le_refl _) (of_decide_eq_true (by kernel_rfl))
  exact Nat.lt_of_le_of_lt (Nat.zero_le _) (Array.getElem?_eq_some_iff.1 h1).1
set_option maxRecDepth 100000 in
theorem run {H : Type} {enc : TypeId × Value → H} (W : World) (base : Nat) (args : Array Value) (ds : List (DataW H)) (p : List MemPlace) (hval : ∀ (j : Nat) t v, Try.f7.params[j]? = some t → args[j]? = some v → Value.okWide Try.prog W .any base t v) (hopen : W.ShapedOpen Try.prog)
    (hA : DataW.TrodAll enc Try.prog W 0 (fun _ => true) true Try.f7.params.toList args.toList ds p) : Calls Try.prog 7 args W fun e w' => e = .returned (.bool true) ∧ Below W.heap.size W w' := by
  rw [Try.params7] at hA hval
  obtain ⟨v0, vs0, d0, ds0, p0, q0, hargs, rfl, rfl, h0, r0⟩ := trodAll_cons hA
  obtain ⟨v1, vs1, d1, ds1, p1, q1, rfl, rfl, rfl, h1, r1⟩ := trodAll_cons r0
  obtain ⟨rfl, rfl, rfl⟩ := trodAll_nil r1
  obtain rfl : args = #[v0, v1] := by cases args; simp_all
  obtain ⟨h, s1, s2⟩ := Go.Ev.start W
  have s : Go.Ev.Start W h := ⟨s1, s2⟩
  obtain ⟨a0, rfl, rfl, rfl, w0⟩ := open_int Try.underlying5 (hval 0 5 v0 rfl rfl) h0
  obtain ⟨n0, rfl⟩ := u8_byte w0
  obtain ⟨a1, rfl, rfl, rfl, w1⟩ := open_int Try.underlying5 (hval 1 5 v1 rfl rfl) h1
  obtain ⟨n1, rfl⟩ := u8_byte w1
  exact calls_true s (vs := [.i .u8 (n0.toNat : Int), .i .u8 (n1.toNat : Int)]) ⟨rfl, rfl, trivial⟩ (sheetMany_ok  s1.flo)
set_option maxRecDepth 100000 in
theorem lifted (os : Os) (started : os.Started) (H : Type) (enc : TypeId × Value → H) :
    ReturnsInHanded {} Try.checked os 7 .any (Rows.sheetManySpec.pre6 enc Try.prog Try.f7 Rows.sheetManyRow.domain false) (Rows.sheetManySpec.post enc Try.prog Try.f7 false true false false) :=
  law_lifted (C := Try.checked) own started (by kernel_rfl) Try.func7
    (ChangeSpec.witness6 (enc := enc) (C := Try.checked) false ⟨#[], #[.int .u8 0, .int .u8 0], []⟩ 8 (by kernel_rfl) (by kernel_rfl) (by kernel_rfl) (by kernel_rfl))
    rfl (fun ds hd => by rw [Try.params7] at hd; match ds, hd with | [d1, d2], _ => rfl) laid (by kernel_rfl) (by kernel_rfl) Try.underlying4 (fun W base args ds p hv ho hA => run W base args ds p hv ho hA)
theorem over : Rows.sheetManyRow.holds Try.pinned (OpenSpec.ofChange Rows.sheetManySpec) :=
  OpenClaim.holds_of_wide 7 Try.f7 rfl rfl rfl rfl rfl rfl rfl ⟨rfl, rfl, rfl, rfl, rfl⟩ rfl rfl rfl rfl rfl (by kernel_rfl) Try.func7 (by kernel_rfl)
    (of_decide_eq_true (by kernel_rfl)) (by unfold Func.isWrapper; first | (rw [if_pos (by decide +kernel)]; kernel_rfl) | (rw [if_neg (by decide +kernel)]; exact ⟨rfl, rfl⟩))
    (fun os started H enc _ => lifted os started H enc)
/-- THE STATEMENT -/
theorem proved : Rows.SheetManySaid :=
  over
end Go.Proofs.Ytclpemggclmgeaa.sheetMany
