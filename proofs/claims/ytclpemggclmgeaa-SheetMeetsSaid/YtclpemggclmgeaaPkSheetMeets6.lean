/- Texts of ours, without what this claim does not use: JrL13m NMa ShQ Wf Wn NMe SheetMeets. No condition. -/
import Derived.Test.YtclpemggclmgeaaPkSheetMeets5
import Derived.Test.YtclpemggclmgeaaProg
import Derived.KernelRfl
import Derived.Maps.RangeRun
import Derived.Test.YtclpemggclmgeaaRows
import Derived.WalkKit
import Derived.ProofKit
import Derived.OpenShut
import Derived.ChangeMaps5
set_option maxRecDepth 1000000
set_option linter.all false
namespace Go.Proofs.Ytclpemggclmgeaa
open Go Go.Ev
noncomputable abbrev s6_0 : CC := (CC.seq (CC.region [(wB 10 (doMove (O.c (V.b Bool.false))))]) CC.ret)
noncomputable abbrev s6_1 : CC := (CC.cond (tm 22) s6_0 CC.skip)
noncomputable abbrev s6_2 : CC := (CC.seq (CC.region [(wB 21 (doCall 8 [])), (wB 22 (doNot (tm 21)))]) s6_1)
noncomputable abbrev s6_3 : CC := (CC.seq (CC.region [(wB 10 (doMove (O.c (V.b Bool.false))))]) CC.ret)
noncomputable abbrev s6_4 : CC := (CC.cond (tm 110) s6_3 CC.skip)
noncomputable abbrev s6_5 : CC := (CC.seq (CC.region [(wB 89 (doMove (tm 16))), (wB 90 (bin2 fNeq (tm 89) (oN 0))), (wB 91 (doMove (tm 90))), (wG 91 false 92 (doMove (tm 4))), (wG 91 false 93 (doRem (tm 92) (O.c (V.i IntKind.u8 (Int.ofNat 2))))), (wG 91 false 94 (bin2 fEql (tm 93) (O.c (V.i IntKind.u8 (Int.ofNat 1))))), (wG 91 false 95 (doMove (tm 94))), (wG 95 true 96 (doMove (tm 18))), (wG 95 true 97 (doMove (tm 17))), (wG 95 true 98 (bin2 fEql (tm 97) (oN 16))), (wG 95 true 99 (doBool Bool.true (tm 96) (tm 98))), (wG 91 false 100 (doPick (tm 95) (tm 99) (O.c (V.b Bool.false)))), (wB 101 (doPick (tm 91) (O.c (V.b Bool.true)) (tm 100))), (wB 102 (doMove (tm 101))), (wG 102 false 103 (doMove (tm 4))), (wG 102 false 104 (doRem (tm 103) (O.c (V.i IntKind.u8 (Int.ofNat 2))))), (wG 102 false 105 (bin2 fEql (tm 104) (O.c (V.i IntKind.u8 (Int.ofNat 0))))), (wG 102 false 106 (doMove (tm 105))), (wG 106 true 107 (doMove (tm 17))), (wG 106 true 108 (bin2 fNeq (tm 107) (oN 0))), (wG 102 false 109 (doPick (tm 106) (tm 108) (O.c (V.b Bool.false)))), (wB 110 (doPick (tm 102) (O.c (V.b Bool.true)) (tm 109)))]) s6_4)
noncomputable abbrev s6_6 : CC := (CC.seq (CC.region [(wB 132 (doMove (tm 19))), (wB 133 (bin2 fEql (tm 132) (oN 0))), (wB 134 (doMove (tm 20))), (wB 135 (doBool Bool.false (tm 133) (tm 134))), (wB 136 (doMove (tm 135))), (wG 136 true 137 (doMove (tm 4))), (wG 136 true 138 (doRem (tm 137) (O.c (V.i IntKind.u8 (Int.ofNat 2))))), (wG 136 true 139 (bin2 fEql (tm 138) (O.c (V.i IntKind.u8 (Int.ofNat 1))))), (wG 136 true 140 (doMove (tm 139))), (wG 140 false 141 (doMove (tm 15))), (wG 140 false 142 (doCall 24 [(tm 141), (oN 0)])), (wG 140 false 143 (doLen (tm 142))), (wG 140 false 144 (bin2 fEql (tm 143) (oN 1))), (wG 136 true 145 (doPick (tm 140) (O.c (V.b Bool.true)) (tm 144))), (wB 146 (doPick (tm 136) (tm 145) (O.c (V.b Bool.false)))), (wB 10 (doMove (tm 146)))]) CC.ret)
noncomputable abbrev s6_7 : CC := (CC.seq (CC.region [(wB 121 (doMove (tm 4))), (wB 122 (doRem (tm 121) (O.c (V.i IntKind.u8 (Int.ofNat 2))))), (wB 123 (bin2 fEql (tm 122) (O.c (V.i IntKind.u8 (Int.ofNat 1))))), (wB 124 (doMove (tm 123))), (wG 124 true 125 (doMove (tm 18))), (wB 126 (doPick (tm 124) (tm 125) (O.c (V.b Bool.false)))), (wB 127 (doNot (tm 126))), (wB 128 (doMove (tm 127))), (wG 128 false 129 (doMove (tm 17))), (wG 128 false 130 (bin2 fNeq (tm 129) (oN 0))), (wB 131 (doPick (tm 128) (O.c (V.b Bool.true)) (tm 130))), (wB 20 (doMove (tm 131)))]) s6_6)
noncomputable abbrev s6_8 : CC := (CC.seq (CC.region [(wB 111 (doMove (tm 15))), (wB 112 (doBuildSlice 3 1 [(V.i IntKind.i64 (Int.ofNat 0))] [(Pt.mk 0 1 (oN 1))])), (wB 113 (doFieldAddr 2 (tm 13))), (wB 114 (doLoad (tm 113))), (wB 115 (doFieldAddr 3 (tm 13))), (wB 116 (doLoad (tm 115))), (wB 117 (doBuild [(V.i IntKind.i64 (Int.ofNat 0)), (V.i IntKind.i64 (Int.ofNat 0)), (V.s 0 0), (V.s 0 0), (V.i IntKind.i64 (Int.ofNat 0))] [(Pt.mk 0 1 (oN 9)), (Pt.mk 1 1 (oN 1)), (Pt.mk 2 1 (tm 114)), (Pt.mk 3 1 (tm 116)), (Pt.mk 4 1 (oN 1))])), (wB 118 (doBuildSlice 32 1 [(V.i IntKind.i64 (Int.ofNat 0)), (V.i IntKind.i64 (Int.ofNat 0)), (V.s 0 0), (V.s 0 0), (V.i IntKind.i64 (Int.ofNat 0))] [(Pt.mk 0 5 (tm 117))])), (wB 119 (doBuild [V.l0, V.l0, (V.i IntKind.i64 (Int.ofNat 0)), (V.i IntKind.i64 (Int.ofNat 0))] [(Pt.mk 0 1 (tm 112)), (Pt.mk 1 1 (tm 118))])), (wB 120 (doCall 13 [(tm 111), (tm 119)])), (wB 19 (doMove (tm 120)))]) s6_7)
noncomputable abbrev s6_9 : CC := (CC.seq s6_5 s6_8)
noncomputable abbrev s6_10 : CC := (CC.seq (CC.region [(wB 73 (doMove (tm 11))), (wB 74 (doMove (tm 12))), (wB 75 (doMove (tm 3))), (wB 76 (doRem (tm 75) (O.c (V.i IntKind.u8 (Int.ofNat 5))))), (wB 77 (doConv IntKind.i64 (tm 76))), (wB 78 (bin2 fAdd (tm 74) (tm 77))), (wB 79 (bin2 fLeq (tm 73) (tm 78))), (wB 80 (doMove (tm 79))), (wG 80 true 81 (doMove (tm 12))), (wG 80 true 82 (doMove (tm 11))), (wG 80 true 83 (doMove (tm 1))), (wG 80 true 84 (doRem (tm 83) (O.c (V.i IntKind.u8 (Int.ofNat 5))))), (wG 80 true 85 (doConv IntKind.i64 (tm 84))), (wG 80 true 86 (bin2 fAdd (tm 82) (tm 85))), (wG 80 true 87 (bin2 fLeq (tm 81) (tm 86))), (wB 88 (doPick (tm 80) (tm 87) (O.c (V.b Bool.false)))), (wB 18 (doMove (tm 88)))]) s6_9)
noncomputable abbrev s6_11 : CC := (CC.seq (CC.region [(wB 68 (doMove (tm 15))), (wB 69 (doLoadA 5 (tm 14))), (wB 70 (doBuildSlice 32 1 [(V.i IntKind.i64 (Int.ofNat 0)), (V.i IntKind.i64 (Int.ofNat 0)), (V.s 0 0), (V.s 0 0), (V.i IntKind.i64 (Int.ofNat 0))] [(Pt.mk 0 5 (tm 69))])), (wB 71 (doBuild [V.l0, V.l0, (V.i IntKind.i64 (Int.ofNat 0)), (V.i IntKind.i64 (Int.ofNat 0))] [(Pt.mk 1 1 (tm 70))])), (wB 72 (doCall 13 [(tm 68), (tm 71)])), (wB 17 (doMove (tm 72)))]) s6_10)
noncomputable abbrev s6_12 : CC := (CC.seq (CC.region [(wB 63 (doMove (tm 15))), (wB 64 (doLoadA 5 (tm 13))), (wB 65 (doBuildSlice 32 1 [(V.i IntKind.i64 (Int.ofNat 0)), (V.i IntKind.i64 (Int.ofNat 0)), (V.s 0 0), (V.s 0 0), (V.i IntKind.i64 (Int.ofNat 0))] [(Pt.mk 0 5 (tm 64))])), (wB 66 (doBuild [V.l0, V.l0, (V.i IntKind.i64 (Int.ofNat 0)), (V.i IntKind.i64 (Int.ofNat 0))] [(Pt.mk 1 1 (tm 65))])), (wB 67 (doCall 13 [(tm 63), (tm 66)])), (wB 16 (doMove (tm 67)))]) s6_11)
noncomputable abbrev s6_13 : CC := (CC.seq (CC.region [(wB 62 (doCall 10 [])), (wB 15 (doMove (tm 62)))]) s6_12)
noncomputable abbrev s6_14 : CC := (CC.seq (CC.region [(wB 44 (doMove (tm 4))), (wB 45 (doRem (tm 44) (O.c (V.i IntKind.u8 (Int.ofNat 2))))), (wB 46 (doConv IntKind.i64 (tm 45))), (wB 47 (doMove (tm 12))), (wB 48 (bin2 fAdd (oN 97) (tm 47))), (wB 49 (doConv IntKind.u8 (tm 48))), (wB 50 (doBuildSlice 5 1 [(V.i IntKind.u8 (Int.ofNat 0))] [(Pt.mk 0 1 (tm 49))])), (wB 51 (doB2S (tm 50))), (wB 52 (doMove (tm 12))), (wB 53 (bin2 fAdd (oN 97) (tm 52))), (wB 54 (doMove (tm 3))), (wB 55 (doRem (tm 54) (O.c (V.i IntKind.u8 (Int.ofNat 5))))), (wB 56 (doConv IntKind.i64 (tm 55))), (wB 57 (bin2 fAdd (tm 53) (tm 56))), (wB 58 (doConv IntKind.u8 (tm 57))), (wB 59 (doBuildSlice 5 1 [(V.i IntKind.u8 (Int.ofNat 0))] [(Pt.mk 0 1 (tm 58))])), (wB 60 (doB2S (tm 59))), (wB 61 (doBuild [(V.i IntKind.i64 (Int.ofNat 0)), (V.i IntKind.i64 (Int.ofNat 0)), (V.s 0 0), (V.s 0 0), (V.i IntKind.i64 (Int.ofNat 0))] [(Pt.mk 0 1 (oN 2)), (Pt.mk 1 1 (tm 46)), (Pt.mk 2 1 (tm 51)), (Pt.mk 3 1 (tm 60)), (Pt.mk 4 1 (oN 1))])), (wB 14 (doAlloc 32 [(V.i IntKind.i64 (Int.ofNat 0)), (V.i IntKind.i64 (Int.ofNat 0)), (V.s 0 0), (V.s 0 0), (V.i IntKind.i64 (Int.ofNat 0))])), (CO.mk G.none D.none Bool.true (CR.mk (doStore 5 (tm 14) (tm 61))))]) s6_13)
noncomputable abbrev s6_15 : CC := (CC.seq (CC.region [(wB 29 (doMove (tm 11))), (wB 30 (bin2 fAdd (oN 97) (tm 29))), (wB 31 (doConv IntKind.u8 (tm 30))), (wB 32 (doBuildSlice 5 1 [(V.i IntKind.u8 (Int.ofNat 0))] [(Pt.mk 0 1 (tm 31))])), (wB 33 (doB2S (tm 32))), (wB 34 (doMove (tm 11))), (wB 35 (bin2 fAdd (oN 97) (tm 34))), (wB 36 (doMove (tm 1))), (wB 37 (doRem (tm 36) (O.c (V.i IntKind.u8 (Int.ofNat 5))))), (wB 38 (doConv IntKind.i64 (tm 37))), (wB 39 (bin2 fAdd (tm 35) (tm 38))), (wB 40 (doConv IntKind.u8 (tm 39))), (wB 41 (doBuildSlice 5 1 [(V.i IntKind.u8 (Int.ofNat 0))] [(Pt.mk 0 1 (tm 40))])), (wB 42 (doB2S (tm 41))), (wB 43 (doBuild [(V.i IntKind.i64 (Int.ofNat 0)), (V.i IntKind.i64 (Int.ofNat 0)), (V.s 0 0), (V.s 0 0), (V.i IntKind.i64 (Int.ofNat 0))] [(Pt.mk 0 1 (oN 1)), (Pt.mk 1 1 (oN 1)), (Pt.mk 2 1 (tm 33)), (Pt.mk 3 1 (tm 42)), (Pt.mk 4 1 (oN 1))])), (wB 13 (doAlloc 32 [(V.i IntKind.i64 (Int.ofNat 0)), (V.i IntKind.i64 (Int.ofNat 0)), (V.s 0 0), (V.s 0 0), (V.i IntKind.i64 (Int.ofNat 0))])), (CO.mk G.none D.none Bool.true (CR.mk (doStore 5 (tm 13) (tm 43))))]) s6_14)
noncomputable abbrev s6_16 : CC := (CC.seq (CC.region [(wB 23 (doMove (tm 0))), (wB 24 (doRem (tm 23) (O.c (V.i IntKind.u8 (Int.ofNat 10))))), (wB 25 (doConv IntKind.i64 (tm 24))), (wB 26 (doMove (tm 2))), (wB 27 (doRem (tm 26) (O.c (V.i IntKind.u8 (Int.ofNat 10))))), (wB 28 (doConv IntKind.i64 (tm 27))), (wB 11 (doMove (tm 25))), (wB 12 (doMove (tm 28)))]) s6_15)
noncomputable abbrev s6_17 : CC := (CC.seq s6_2 s6_16)
noncomputable abbrev b6 : CC := (CC.seq (CC.region [(wB 10 (doMove (O.c (V.b Bool.false))))]) s6_17)
theorem c6 : compFn Try.prog 6 = ⟨147, b6, [(Rs.tmp (slOf 10))]⟩ := by kernel_rfl
noncomputable abbrev s7_0 : CC := (CC.seq (CC.region [(wB 4 (doMove (O.c (V.b Bool.false))))]) CC.ret)
noncomputable abbrev s7_1 : CC := (CC.cond (tm 15) s7_0 CC.skip)
noncomputable abbrev s7_2 : CC := (CC.seq (CC.region [(wB 14 (doCall 8 [])), (wB 15 (doNot (tm 14)))]) s7_1)
noncomputable abbrev s7_3 : CC := (CC.cond (tm 23) CC.skip (CC.exit 0))
noncomputable abbrev s7_4 : CC := (CC.seq (CC.region [(wB 21 (doMove (tm 7))), (wB 22 (doMove (tm 6))), (wB 23 (bin2 fLeq (tm 21) (tm 22)))]) s7_3)
noncomputable abbrev s7_5 : CC := (CC.seq (CC.region [(wB 4 (doMove (O.c (V.b Bool.false))))]) CC.ret)
noncomputable abbrev s7_6 : CC := (CC.cond (tm 45) s7_5 CC.skip)
noncomputable abbrev s7_7 : CC := (CC.seq (CC.region [(wB 33 (doMove (tm 8))), (wB 34 (bin2 fEql (tm 33) (oN 0))), (wB 35 (doMove (tm 7))), (wB 36 (bin2 fLeq (tm 35) (oN 40))), (wB 37 (doBool Bool.true (tm 34) (tm 36))), (wB 38 (doMove (tm 37))), (wG 38 false 39 (doMove (tm 8))), (wG 38 false 40 (bin2 fNeq (tm 39) (oN 0))), (wG 38 false 41 (doMove (tm 40))), (wG 41 true 42 (doMove (tm 8))), (wG 41 true 43 (bin2 fNeq (tm 42) (oN 25))), (wG 38 false 44 (doPick (tm 41) (tm 43) (O.c (V.b Bool.false)))), (wB 45 (doPick (tm 38) (O.c (V.b Bool.true)) (tm 44)))]) s7_6)
noncomputable abbrev s7_8 : CC := (CC.seq (CC.region [(wB 26 (doMove (tm 5))), (wB 27 (doMove (tm 7))), (wB 28 (doMove (tm 7))), (wB 29 (doBuild [(V.i IntKind.i64 (Int.ofNat 0)), (V.i IntKind.i64 (Int.ofNat 0)), (V.s 0 0), (V.s 0 0), (V.i IntKind.i64 (Int.ofNat 0))] [(Pt.mk 0 1 (tm 27)), (Pt.mk 2 1 (O.c (V.s 1 97))), (Pt.mk 3 1 (O.c (V.s 1 122))), (Pt.mk 4 1 (tm 28))])), (wB 30 (doBuildSlice 32 1 [(V.i IntKind.i64 (Int.ofNat 0)), (V.i IntKind.i64 (Int.ofNat 0)), (V.s 0 0), (V.s 0 0), (V.i IntKind.i64 (Int.ofNat 0))] [(Pt.mk 0 5 (tm 29))])), (wB 31 (doBuild [V.l0, V.l0, (V.i IntKind.i64 (Int.ofNat 0)), (V.i IntKind.i64 (Int.ofNat 0))] [(Pt.mk 1 1 (tm 30))])), (wB 32 (doCall 13 [(tm 26), (tm 31)])), (wB 8 (doMove (tm 32)))]) s7_7)
noncomputable abbrev s7_9 : CC := (CC.block 1 s7_8)
noncomputable abbrev s7_10 : CC := (CC.region [(wB 24 (doMove (tm 7))), (wB 25 (bin2 fAdd (tm 24) (oN 1))), (wB 7 (doMove (tm 25)))])
noncomputable abbrev s7_11 : CC := (CC.seq s7_9 s7_10)
noncomputable abbrev l7_0 : CC := (CC.seq s7_4 s7_11)
noncomputable abbrev s7_12 : CC := (CC.loop l7_0)
noncomputable abbrev s7_13 : CC := (CC.block 0 s7_12)
noncomputable abbrev s7_14 : CC := (CC.seq (CC.region [(wB 7 (doMove (oN 1)))]) s7_13)
noncomputable abbrev s7_15 : CC := (CC.seq (CC.region [(wB 4 (doMove (O.c (V.b Bool.false))))]) CC.ret)
noncomputable abbrev s7_16 : CC := (CC.cond (tm 77) s7_15 CC.skip)
noncomputable abbrev s7_17 : CC := (CC.seq (CC.region [(wB 50 (doMove (tm 10))), (wB 51 (doLen (tm 50))), (wB 52 (doMove (tm 9))), (wB 53 (bin2 fNeq (tm 51) (tm 52))), (wB 54 (doMove (tm 53))), (wG 54 false 55 (doMove (tm 10))), (wG 54 false 56 (doIndexAddr 5 (tm 55) (oN 0))), (wG 54 false 57 (doFieldAddr 0 (tm 56))), (wG 54 false 58 (doLoad (tm 57))), (wG 54 false 59 (doMove (tm 9))), (wG 54 false 60 (bin2 fNeq (tm 58) (tm 59))), (wB 61 (doPick (tm 54) (O.c (V.b Bool.true)) (tm 60))), (wB 62 (doMove (tm 61))), (wG 62 false 63 (doMove (tm 10))), (wG 62 false 64 (doMove (tm 9))), (wG 62 false 65 (bin2 fSub (tm 64) (oN 1))), (wG 62 false 66 (doIndexAddr 5 (tm 63) (tm 65))), (wG 62 false 67 (doFieldAddr 0 (tm 66))), (wG 62 false 68 (doLoad (tm 67))), (wG 62 false 69 (bin2 fNeq (tm 68) (oN 1))), (wB 70 (doPick (tm 62) (O.c (V.b Bool.true)) (tm 69))), (wB 71 (doMove (tm 70))), (wG 71 false 72 (doMove (tm 5))), (wG 71 false 73 (doCall 21 [(tm 72)])), (wG 71 false 74 (doMove (tm 9))), (wG 71 false 75 (bin2 fAdd (tm 74) (oN 1))), (wG 71 false 76 (bin2 fNeq (tm 73) (tm 75))), (wB 77 (doPick (tm 71) (O.c (V.b Bool.true)) (tm 76)))]) s7_16)
noncomputable abbrev s7_18 : CC := (CC.seq (CC.region [(wB 97 (doMove (tm 12))), (wB 98 (bin2 fEql (tm 97) (oN 0))), (wB 99 (doMove (tm 98))), (wG 99 true 100 (doMove (tm 13))), (wG 99 true 101 (bin2 fEql (tm 100) (oN 18))), (wB 102 (doPick (tm 99) (tm 101) (O.c (V.b Bool.false)))), (wB 103 (doMove (tm 102))), (wG 103 true 104 (doMove (tm 5))), (wG 103 true 105 (doCall 22 [(tm 104)])), (wG 103 true 106 (doLen (tm 105))), (wG 103 true 107 (doMove (tm 9))), (wG 103 true 108 (bin2 fEql (tm 106) (tm 107))), (wB 109 (doPick (tm 103) (tm 108) (O.c (V.b Bool.false)))), (wB 110 (doMove (tm 109))), (wG 110 true 111 (doMove (tm 5))), (wG 110 true 112 (doCall 22 [(tm 111)])), (wG 110 true 113 (doIndexAddr 5 (tm 112) (oN 0))), (wG 110 true 114 (doFieldAddr 0 (tm 113))), (wG 110 true 115 (doLoad (tm 114))), (wG 110 true 116 (doMove (tm 9))), (wG 110 true 117 (bin2 fAdd (tm 116) (oN 1))), (wG 110 true 118 (bin2 fEql (tm 115) (tm 117))), (wB 119 (doPick (tm 110) (tm 118) (O.c (V.b Bool.false)))), (wB 4 (doMove (tm 119)))]) CC.ret)
noncomputable abbrev s7_19 : CC := (CC.seq (CC.region [(wB 92 (doMove (tm 5))), (wB 93 (doMove (tm 11))), (wB 94 (doBuildSlice 3 1 [(V.i IntKind.i64 (Int.ofNat 0))] [(Pt.mk 0 1 (tm 93))])), (wB 95 (doBuild [V.l0, V.l0, (V.i IntKind.i64 (Int.ofNat 0)), (V.i IntKind.i64 (Int.ofNat 0))] [(Pt.mk 0 1 (tm 94))])), (wB 96 (doCall 13 [(tm 92), (tm 95)])), (wB 13 (doMove (tm 96)))]) s7_18)
noncomputable abbrev s7_20 : CC := (CC.seq (CC.region [(wB 83 (doMove (tm 5))), (wB 84 (doMove (tm 11))), (wB 85 (doBuildSlice 3 1 [(V.i IntKind.i64 (Int.ofNat 0))] [(Pt.mk 0 1 (tm 84))])), (wB 86 (doMove (tm 9))), (wB 87 (bin2 fAdd (tm 86) (oN 1))), (wB 88 (doBuild [(V.i IntKind.i64 (Int.ofNat 0)), (V.i IntKind.i64 (Int.ofNat 0)), (V.s 0 0), (V.s 0 0), (V.i IntKind.i64 (Int.ofNat 0))] [(Pt.mk 0 1 (tm 87)), (Pt.mk 2 1 (O.c (V.s 1 113))), (Pt.mk 3 1 (O.c (V.s 1 113))), (Pt.mk 4 1 (oN 1))])), (wB 89 (doBuildSlice 32 1 [(V.i IntKind.i64 (Int.ofNat 0)), (V.i IntKind.i64 (Int.ofNat 0)), (V.s 0 0), (V.s 0 0), (V.i IntKind.i64 (Int.ofNat 0))] [(Pt.mk 0 5 (tm 88))])), (wB 90 (doBuild [V.l0, V.l0, (V.i IntKind.i64 (Int.ofNat 0)), (V.i IntKind.i64 (Int.ofNat 0))] [(Pt.mk 0 1 (tm 85)), (Pt.mk 1 1 (tm 89))])), (wB 91 (doCall 13 [(tm 83), (tm 90)])), (wB 12 (doMove (tm 91)))]) s7_19)
noncomputable abbrev s7_21 : CC := (CC.seq (CC.region [(wB 78 (doMove (tm 1))), (wB 79 (doConv IntKind.i64 (tm 78))), (wB 80 (doMove (tm 9))), (wB 81 (doRem (tm 79) (tm 80))), (wB 82 (bin2 fAdd (tm 81) (oN 1))), (wB 11 (doMove (tm 82)))]) s7_20)
noncomputable abbrev s7_22 : CC := (CC.seq s7_17 s7_21)
noncomputable abbrev s7_23 : CC := (CC.seq (CC.region [(wB 48 (doMove (tm 5))), (wB 49 (doCall 22 [(tm 48)])), (wB 10 (doMove (tm 49)))]) s7_22)
noncomputable abbrev s7_24 : CC := (CC.seq (CC.region [(wB 46 (doMove (tm 6))), (wB 47 (doMin (tm 46) (oN 40))), (wB 9 (doMove (tm 47)))]) s7_23)
noncomputable abbrev s7_25 : CC := (CC.seq s7_14 s7_24)
noncomputable abbrev s7_26 : CC := (CC.seq (CC.region [(wB 17 (doMove (tm 0))), (wB 18 (doRem (tm 17) (O.c (V.i IntKind.u8 (Int.ofNat 3))))), (wB 19 (doConv IntKind.i64 (tm 18))), (wB 20 (bin2 fAdd (oN 39) (tm 19))), (wB 6 (doMove (tm 20)))]) s7_25)
noncomputable abbrev s7_27 : CC := (CC.seq (CC.region [(wB 16 (doCall 10 [])), (wB 5 (doMove (tm 16)))]) s7_26)
noncomputable abbrev s7_28 : CC := (CC.seq s7_2 s7_27)
noncomputable abbrev b7 : CC := (CC.seq (CC.region [(wB 4 (doMove (O.c (V.b Bool.false))))]) s7_28)
theorem c7 : compFn Try.prog 7 = ⟨120, b7, [(Rs.tmp (slOf 4))]⟩ := by kernel_rfl
end Go.Proofs.Ytclpemggclmgeaa

set_option maxRecDepth 100000
set_option maxHeartbeats 8000000
set_option linter.all false
namespace Go.Proofs.Ytclpemggclmgeaa
open Go Go.Ev
theorem one_t {h : H} {id : B} {t : Tbl} (o : Ev.Own h id (tblC t)) : Tbs h (.l id 0 0 1 5 (some 1)) [t] := by
  refine .inr ⟨id, 0, 0, 5, some 1, rfl, by simp, ?_, ?_⟩
  · obtain ⟨_, _, _, _, _, _, h6, _⟩ := o; exact h6
  · show Row h id 0 0 ([t].flatMap tblC)
    rw [List.flatMap_cons, List.flatMap_nil, List.append_nil]; exact o.row
theorem one_i {h : H} {id : B} {x : Int} (o : Ev.Own h id [.i .i64 x]) : Il h (.l id 0 0 1 1 (some 1)) [x] := by
  refine .inr ⟨id, 0, 0, 1, some 1, rfl, by simp, ?_, o.row⟩
  obtain ⟨_, _, _, _, _, _, h6, _⟩ := o; exact h6
theorem edM_m {h : H} {id : B} {t : Tbl} (o : Ev.Own h id (tblC t)) : EdM h .l0 (.l id 0 0 1 5 (some 1)) (edM t) := ⟨.inl ⟨rfl, rfl⟩, one_t o⟩
end Go.Proofs.Ytclpemggclmgeaa

set_option linter.all false
namespace Go.Ev
open Go
def chT (n : Nat) : UInt8 := UInt8.ofNat (97 + n)
theorem chT_nat {n : Nat} (h : n ≤ 100) : (chT n).toNat = 97 + n := by unfold chT; rw [UInt8.toNat_ofNat', Nat.mod_eq_of_lt (by omega)]
theorem chT_lt {n m : Nat} (h : n ≤ 100) (h2 : m ≤ 100) : Op.bytesLess [chT n] [chT m] = decide (n < m) := by
  have e : (chT n < chT m) = (n < m) := propext (by rw [UInt8.lt_iff_toNat_lt, chT_nat h, chT_nat h2]; omega)
  have e2 : (chT m < chT n) = (m < n) := propext (by rw [UInt8.lt_iff_toNat_lt, chT_nat h, chT_nat h2]; omega)
  unfold Op.bytesLess
  simp only [e, e2]
  by_cases h1 : n < m
  · simp [h1]
  · simp [h1]; intro _; rfl
def tR (i t : Int) (x y : Nat) : Tbl := ⟨i, t, [chT x], [chT y], 1⟩
theorem tR_is {i t : Int} {x y : Nat} (h1 : 1 ≤ i) (h2 : i ≤ 1000000) (ht : t = 0 ∨ t = 1) (h : x ≤ y) (hy : y ≤ 100) : isTb (tR i t x y) = true := by
  refine isTb_iff.2 ⟨h1, h2, ht, by simp [tR], by simp [tR], ?_, by simp [tR]⟩
  show Op.bytesLess [chT y] [chT x] = false
  rw [chT_lt hy (by omega)]; exact decide_eq_false (by omega)
/-- an edit that brings one -/
theorem do_one {S : Sht} {g : List Int} {t : Tbl} (ht : isTb t = true) (hg : g.length ≤ 40) (hh : hasT S.L g = true) (hp : S.next ≤ t.id) (hl : (leftT S.L g).length < 40) (h0 : 0 ≤ S.log) (h1 : 0 ≤ S.seq) :
    doS S ⟨g, [t], 0, 0⟩ = if (leftT S.L g).any (fun u => meetT u t) then (16, S) else (0, ⟨putT (leftT S.L g) t, S.log, S.seq, t.id + 1⟩) := by
  have he : isEd ⟨g, [t], 0, 0⟩ = true := isEd_iff.2 ⟨hg, by simp, (isEd_iff.1 (isEd_one ht)).up, by simp, by simp, by simp, by simp⟩
  have hpa : pastT S ⟨g, [t], 0, 0⟩ = false := by
    unfold pastT
    show (decide (0 < 1) && decide (t.id < S.next) || (decide ((0 : Int) < 0) && _) || (decide ((0 : Int) < 0) && _)) = false
    rw [decide_eq_false (p := t.id < S.next) (by omega)]; rfl
  have hc : comeT (leftT S.L (Edt.mk g [t] 0 0).gone) (Edt.mk g [t] 0 0).come = if (leftT S.L g).any (fun u => meetT u t) then none else some (putT (leftT S.L g) t) := rfl
  unfold doS
  rw [if_neg (by rw [he]; simp), if_neg (by show ¬ hasT S.L g = false; rw [hh]; simp), if_neg (by rw [hpa]; simp), hc]
  cases hm : (leftT S.L g).any (fun u => meetT u t) with
  | true => rw [if_pos rfl, if_pos rfl]
  | false =>
    rw [if_neg (by simp), if_neg (by simp)]
    show (if 40 < (putT (leftT S.L g) t).length then (25, S) else (0, newS S ⟨g, [t], 0, 0⟩ (putT (leftT S.L g) t))) = _
    rw [(put_perm (leftT S.L g) t).length_eq, List.length_cons, if_neg (by omega)]
    show (0, Sht.mk _ (max S.log 0) (max S.seq 0) (t.id + 1)) = _
    rw [Int.max_eq_left h0, Int.max_eq_left h1]
def s1T (x y : Nat) : Sht := ⟨[tR 1 1 x y], 1, 0, 2⟩
theorem do_r1 {x y : Nat} (h : x ≤ y) (hy : y ≤ 100) : doS shtZ (edM (tR 1 1 x y)) = (0, s1T x y) := by
  have := do_one (S := shtZ) (g := []) (t := tR 1 1 x y) (tR_is (by omega) (by omega) (.inr rfl) h hy) (by simp) rfl (by show (1 : Int) ≤ 1; omega) (by decide) (by decide) (by decide)
  exact this
def s2T (x y z w : Nat) (k : Int) : Sht := ⟨putT [tR 1 1 x y] (tR 2 k z w), 1, 0, 3⟩
theorem meet_r {i j k : Int} {x y z w : Nat} (hx : x ≤ 100) (hy : y ≤ 100) (hz : z ≤ 100) (hw : w ≤ 100) : meetT (tR i 1 x y) (tR j k z w) = decide (k = 1 ∧ x ≤ w ∧ z ≤ y) := by
  unfold meetT
  show decide ((1 : Int) = 1 ∧ k = 1 ∧ Op.bytesLess [chT w] [chT x] = false ∧ Op.bytesLess [chT y] [chT z] = false) = _
  rw [chT_lt hw hx, chT_lt hy hz]
  refine decide_eq_decide.2 ?_
  rw [decide_eq_false_iff_not, decide_eq_false_iff_not]; omega
theorem do_r2 {x y z w : Nat} {k : Int} (h : x ≤ y) (hy : y ≤ 100) (h2 : z ≤ w) (hw : w ≤ 100) (hk : k = 0 ∨ k = 1) : doS (s1T x y) (edM (tR 2 k z w)) = if k = 1 ∧ x ≤ w ∧ z ≤ y then (16, s1T x y) else (0, s2T x y z w k) := by
  have := do_one (S := s1T x y) (g := []) (t := tR 2 k z w) (tR_is (by omega) (by omega) hk h2 hw) (by simp) rfl (by show (2 : Int) ≤ 2; omega) (by rw [left_nil]; show 1 < 40; omega) (by show (0 : Int) ≤ 1; omega) (by show (0 : Int) ≤ 0; omega)
  rw [left_nil] at this
  refine this.trans ?_
  show (if (meetT (tR 1 1 x y) (tR 2 k z w) || false) = true then _ else _) = _
  rw [Bool.or_false, meet_r (by omega) hy (by omega) hw]
  by_cases hm : k = 1 ∧ x ≤ w ∧ z ≤ y
  · rw [decide_eq_true hm, if_pos rfl, if_pos hm]
  · rw [decide_eq_false hm, if_neg (by simp), if_neg hm]; rfl
def edR (x y : Nat) : Edt := ⟨[1], [tR 9 1 x y], 0, 0⟩
theorem do_r3 {x y : Nat} (h : x ≤ y) (hy : y ≤ 100) : doS (s1T x y) (edR x y) = (0, ⟨[tR 9 1 x y], 1, 0, 10⟩) := by
  have hl : leftT (s1T x y).L [1] = [] := rfl
  have := do_one (S := s1T x y) (g := [1]) (t := tR 9 1 x y) (tR_is (by omega) (by omega) (.inr rfl) h hy) (by simp) rfl (by show (2 : Int) ≤ 9; omega) (by rw [hl]; decide) (by show (0 : Int) ≤ 1; omega) (by show (0 : Int) ≤ 0; omega)
  rw [hl] at this
  exact this
theorem left_r {x y z w : Nat} {k : Int} : leftT (s2T x y z w k).L [1] = [tR 2 k z w] := by
  show leftT (if ltT (tR 2 k z w) (tR 1 1 x y) then [tR 2 k z w, tR 1 1 x y] else [tR 1 1 x y, tR 2 k z w]) [1] = _
  split <;> rfl
theorem has_r {x y z w : Nat} {k : Int} : hasT (s2T x y z w k).L [1] = true := by
  show hasT (if ltT (tR 2 k z w) (tR 1 1 x y) then [tR 2 k z w, tR 1 1 x y] else [tR 1 1 x y, tR 2 k z w]) [1] = _
  split <;> rfl
theorem do_r4 {x y z w : Nat} {k : Int} (h : x ≤ y) (hy : y ≤ 100) (h2 : z ≤ w) (hw : w ≤ 100) (hm : ¬ (k = 1 ∧ x ≤ w ∧ z ≤ y)) : doS (s2T x y z w k) (edR x y) = (0, ⟨putT [tR 2 k z w] (tR 9 1 x y), 1, 0, 10⟩) := by
  have := do_one (S := s2T x y z w k) (g := [1]) (t := tR 9 1 x y) (tR_is (by omega) (by omega) (.inr rfl) h hy) (by simp) has_r (by show (3 : Int) ≤ 9; omega) (by rw [left_r]; show 1 < 40; omega) (by show (0 : Int) ≤ 1; omega) (by show (0 : Int) ≤ 0; omega)
  rw [left_r] at this
  refine this.trans ?_
  rw [if_neg]
  · rfl
  · show ¬ (meetT (tR 2 k z w) (tR 9 1 x y) || false) = true
    rw [Bool.or_false, meetT_symm, meet_r (by omega) hy (by omega) hw, decide_eq_true_iff]; exact hm
theorem tier0_r {x y z w : Nat} : ((putT [tR 2 0 z w] (tR 9 1 x y)).filter fun t => decide (t.tier = 0)).length = 1 := by
  show ((if ltT (tR 9 1 x y) (tR 2 0 z w) then [tR 9 1 x y, tR 2 0 z w] else [tR 2 0 z w, tR 9 1 x y]).filter fun t => decide (t.tier = 0)).length = 1
  split <;> rfl
theorem meets_all {x y z w : Nat} {k : Int} (h : x ≤ y) (hy : y ≤ 100) (h2 : z ≤ w) (hw : w ≤ 100) (hk : k = 0 ∨ k = 1) : ∃ er S2 S3, doS (s1T x y) (edM (tR 2 k z w)) = (er, S2) ∧ ((k = 1 ∧ x ≤ w ∧ z ≤ y) ∧ er = 16 ∨ ¬ (k = 1 ∧ x ≤ w ∧ z ≤ y) ∧ er = 0) ∧ doS S2 (edR x y) = (0, S3) ∧ (k = 0 → (S3.L.filter fun t => decide (t.tier = 0)).length = 1) := by
  have d := do_r2 (k := k) h hy h2 hw hk
  by_cases hm : k = 1 ∧ x ≤ w ∧ z ≤ y
  · rw [if_pos hm] at d
    exact ⟨_, _, _, d, .inl ⟨hm, rfl⟩, do_r3 h hy, fun e => by omega⟩
  · rw [if_neg hm] at d
    refine ⟨_, _, _, d, .inr ⟨hm, rfl⟩, do_r4 h hy h2 hw hm, fun e => ?_⟩
    subst e; exact tier0_r
end Go.Ev

set_option linter.all false
namespace Go.Ev
open Go
/-- keys and values -/
abbrev En := List (List UInt8 × V)
def toP (E : En) : List (V × V) := E.map fun p => (sv p.1, p.2)
def idxE (E : En) (k : List UInt8) : Option Nat := match E with
  | [] => none
  | (a, _) :: r => if k = a then some 0 else (idxE r k).map (· + 1)
def getE (E : En) (k : List UInt8) : Option V := match E with
  | [] => none
  | (a, v) :: r => if k = a then some v else getE r k
def setE (E : En) (k : List UInt8) (v : V) : En := match E with
  | [] => [(k, v)]
  | (a, u) :: r => if k = a then (k, v) :: r else (a, u) :: setE r k v
def delE (E : En) (k : List UInt8) : En := match E with
  | [] => []
  | (a, u) :: r => if k = a then r else (a, u) :: delE r k
theorem findP_sv (E : En) (k : List UInt8) : findP none (sv k) (toP E) = some (idxE E k) := by
  have ke : ∀ a b : List UInt8, keyEq none (sv a) (sv b) = some (decide (a = b)) := fun a b => by
    show some (eqS a.length (pk a) b.length (pk b)) = _
    rw [eqS_sv]
  induction E with
  | nil =>
    show (match keyEq none (sv k) (sv k) with | some _ => some none | none => none) = _
    rw [ke]; rfl
  | cons p r ih =>
    obtain ⟨a, v⟩ := p
    show (match keyEq none (sv k) (sv a), findP none (sv k) (toP r) with | some true, some _ => some (some 0) | some false, some (some i) => some (some (i + 1)) | some false, some none => some none | _, _ => none) = _
    rw [ke, ih]
    have hi : idxE ((a, v) :: r) k = if k = a then some 0 else (idxE r k).map (· + 1) := rfl
    rw [hi]
    by_cases e : k = a
    · rw [decide_eq_true e, if_pos e]
    · rw [decide_eq_false e, if_neg e]
      cases idxE r k <;> rfl
theorem idxE_none {E : En} {k : List UInt8} (h : idxE E k = none) : getE E k = none ∧ setE E k = (fun v => E ++ [(k, v)]) ∧ delE E k = E := by
  induction E with
  | nil => exact ⟨rfl, rfl, rfl⟩
  | cons p r ih =>
    obtain ⟨a, v⟩ := p
    unfold idxE at h
    by_cases e : k = a
    · rw [if_pos e] at h; cases h
    · rw [if_neg e] at h
      obtain ⟨h1, h2, h3⟩ := ih (by cases hr : idxE r k with | none => rfl | some j => rw [hr] at h; cases h)
      refine ⟨?_, ?_, ?_⟩
      · show (if k = a then _ else _) = _
        rw [if_neg e]; exact h1
      · funext w
        show (if k = a then _ else (a, v) :: setE r k w) = _
        rw [if_neg e, h2]; rfl
      · show (if k = a then _ else (a, v) :: delE r k) = _
        rw [if_neg e, h3]
theorem idxE_some {E : En} {k : List UInt8} : ∀ {i : Nat}, idxE E k = some i → (∀ v, toP (setE E k v) = (toP E).set i (sv k, v)) ∧ toP (delE E k) = (toP E).eraseIdx i := by
  induction E with
  | nil => intro i h; cases h
  | cons p r ih =>
    obtain ⟨a, v⟩ := p
    intro i h
    unfold idxE at h
    by_cases e : k = a
    · rw [if_pos e] at h
      cases h
      refine ⟨fun w => ?_, ?_⟩
      · unfold setE; rw [if_pos e]; rfl
      · unfold delE; rw [if_pos e]; rfl
    · rw [if_neg e] at h
      cases hr : idxE r k with
      | none => rw [hr] at h; cases h
      | some j =>
        rw [hr] at h
        cases h
        obtain ⟨h1, h2⟩ := ih hr
        refine ⟨fun w => ?_, ?_⟩
        · unfold setE; rw [if_neg e]
          show (sv a, v) :: toP (setE r k w) = _
          rw [h1]; rfl
        · unfold delE; rw [if_neg e]
          show (sv a, v) :: toP (delE r k) = _
          rw [h2]; rfl
def keysE (E : En) : List (List UInt8) := E.map (·.1)
theorem keys_set (E : En) (k : List UInt8) (v : V) : keysE (setE E k v) = if k ∈ keysE E then keysE E else keysE E ++ [k] := by
  induction E with
  | nil => rfl
  | cons p r ih =>
    obtain ⟨a, u⟩ := p
    unfold setE
    by_cases e : k = a
    · subst e
      rw [if_pos rfl, if_pos (by simp [keysE])]; rfl
    · rw [if_neg e]
      show a :: keysE (setE r k v) = _
      rw [ih]
      have : k ∈ keysE ((a, u) :: r) ↔ k ∈ keysE r := by simp [keysE, e]
      by_cases hk : k ∈ keysE r
      · rw [if_pos hk, if_pos (this.2 hk)]; rfl
      · rw [if_neg hk, if_neg fun h => hk (this.1 h)]; rfl
theorem nodup_set {E : En} (h : (keysE E).Nodup) (k : List UInt8) (v : V) : (keysE (setE E k v)).Nodup := by
  rw [keys_set]
  split
  · exact h
  · rename_i hk
    rw [List.nodup_append]
    exact ⟨h, by simp, fun a ha b hb e => hk (by rw [List.mem_singleton] at hb; rw [← hb, ← e]; exact ha)⟩
theorem keys_del_sub (E : En) (k : List UInt8) : (keysE (delE E k)).Sublist (keysE E) := by
  induction E with
  | nil => exact .slnil
  | cons p r ih =>
    obtain ⟨a, u⟩ := p
    unfold delE
    split
    · exact List.sublist_cons_self _ _
    · exact ih.cons_cons a
theorem nodup_del {E : En} (h : (keysE E).Nodup) (k : List UInt8) : (keysE (delE E k)).Nodup := h.sublist (keys_del_sub E k)
structure MapC (h : H) (id : B) (E : En) : Prop where
  blk : ∃ b, h.heap.get id = some b ∧ b.min = b.cur + 7 ∧ RdP b.cells b.el (toP E)
  flo : B.val h.floor ≤ B.val id
  lt : B.val id < B.val h.next
  nod : (keysE E).Nodup
theorem MapC.stay {p : B → Prop} {h h' : H} {id : B} {E : En} (m : MapC h id E) (s : Stay p h h') (hp : ¬ p id) : MapC h' id E := by
  obtain ⟨b, h1, h2⟩ := m.blk
  exact ⟨⟨b, (s.get id m.lt hp).trans h1, h2⟩, by rw [s.floor]; exact m.flo, Nat.lt_of_lt_of_le m.lt s.next, m.nod⟩
theorem MapC.read {h : H} {id : B} {E : En} (m : MapC h id E) : ∃ next floor heap cur size fr, h = ⟨next, floor, heap⟩ ∧ B.geB floor id = true ∧ ∀ k, mapK h id k = k next floor heap cur (cur + 7) size fr (toP E) := by
  obtain ⟨⟨cur, min, size, cells, n, fr⟩, h1, h2, h4⟩ := m.blk
  obtain ⟨next, floor, heap⟩ := h
  simp only at h2 h4
  subst h2
  refine ⟨next, floor, heap, cur, size, fr, rfl, ?_, fun k => ?_⟩
  · have := m.flo
    cases floor <;> first | rfl | (show Nat.ble _ _ = true; rw [Nat.ble_eq]; exact this)
  · have h1' : heap.get id = some ⟨cur, cur + 7, size, cells, n, fr⟩ := h1
    have e7 : Nat.beq (cur + 7) (cur + 7) = true := Nat.beq_refl _
    simp only [mapK, hK_mk, h1', optK_some, blkK_mk, e7, ifK_true]
    exact getP_fine n cells 0 (toP E) h4.1 (fun i kv hi => by simpa using h4.2 i kv hi) _
theorem MapC.write {next floor : B} {heap : T Blk} {id : B} {E : En} (m : MapC ⟨next, floor, heap⟩ id E) (cur size fr : Nat) {F : En} (hl : 2 * F.length < 2 ^ 38) (hn : (keysE F).Nodup) :
    ∃ h', (∀ k, putM next floor heap id cur (cur + 7) size fr (toP F) k = k h') ∧ MapC h' id F ∧ Stay (fun i => i = id) ⟨next, floor, heap⟩ h' := by
  have hfl : B.geB floor id = true := by
    have := m.flo
    cases floor <;> first | rfl | (show Nat.ble _ _ = true; rw [Nat.ble_eq]; exact this)
  obtain ⟨t, t1, t2, t3⟩ := setList_fine (flat2 (toP F)) 0 .o (by rw [flat2_len]; unfold toP; rw [List.length_map, Nat.zero_add]; exact hl)
  obtain ⟨hp, s1, s2, s3⟩ := setK_ok id (⟨cur, cur + 7, size, t, (toP F).length, fr⟩ : Blk) heap
  refine ⟨⟨next, floor, hp⟩, fun k => by unfold putM; rw [hfl, ifK_true, t1, s1], ⟨⟨_, s2, rfl, rfl, fun i kv hi => ?_⟩, m.flo, m.lt, hn⟩, ⟨rfl, Nat.le_refl _, fun i _ hi => s3 i hi⟩⟩
  obtain ⟨f1, f2⟩ := flat2_get _ i kv hi
  exact ⟨by have := t2 _ _ f1; rwa [Nat.zero_add] at this, by have := t2 _ _ f2; rwa [Nat.zero_add] at this⟩
theorem toP_len (E : En) : (toP E).length = E.length := by simp [toP]
theorem toP_app (E : En) (k : List UInt8) (v : V) : toP (E ++ [(k, v)]) = toP E ++ [(sv k, v)] := by simp [toP]
theorem keysE_len (E : En) : (keysE E).length = E.length := by simp [keysE]
def MU (P : Program) (x q v : V) (h : H) (N : Nx) : Prop := HM P (fun k => vM x (fun _ => false) fun id => mapK h id fun next floor heap cur min el fr ps => optK (findP none q ps) fun r => match r with
    | some i => putM next floor heap id cur min el fr (ps.set i (q, v)) fun h => k (.tu []) h
    | none => putM next floor heap id cur min el fr (ps ++ [(q, v)]) fun h => k (.tu []) h) N
def MD (P : Program) (x q : V) (h : H) (N : Nx) : Prop := HM P (fun k => vM x (fun _ => optK (keyEq none q q) fun _ => k (.tu []) h) fun id => mapK h id fun next floor heap cur min el fr ps => optK (findP none q ps) fun r => match r with
    | some i => putM next floor heap id cur min el fr (ps.eraseIdx i) fun h => k (.tu []) h
    | none => ifK (B.geB floor id) fun _ => k (.tu []) h) N
def MN (P : Program) (h : H) (N : Nx) : Prop := HM P (doMakeMap.newM h) N
section
variable {P : Program} {t : F} {h : H} {N : Nx} {x q v : O} {z : V} {ok : Bool}
end
section
variable {P : Program} {h : H} {N : Nx} {z v : V} {ok : Bool} {k : List UInt8} {id : B} {E : En}
/-- m[k] = v -/
theorem MU.mk (m : MapC h id E) (hl : E.length ≤ 1048576) (kk : ∀ h', MapC h' id (setE E k v) → Stay (fun i => i = id) h h' → N.go P (.tu []) h') : MU P (.m id) (sv k) v h N := by
  obtain ⟨next, floor, heap, cur, size, fr, rfl, _, hr⟩ := m.read
  cases hi : idxE E k with
  | none =>
    obtain ⟨h', w1, w2, w3⟩ := m.write cur size fr (F := setE E k v) (by rw [(idxE_none hi).2.1]; simp; omega) (nodup_set m.nod k v)
    refine hm_of (v := .tu []) (h' := h') (fun q => ?_) (kk h' w2 w3)
    show mapK _ id _ = _
    rw [hr]
    show optK (findP none (sv k) (toP E)) _ = _
    rw [findP_sv, hi]
    show putM next floor heap id cur (cur + 7) size fr (toP E ++ [(sv k, v)]) _ = _
    rw [← toP_app]
    have := w1 fun h => q (.tu []) h
    rwa [(idxE_none hi).2.1] at this
  | some i =>
    obtain ⟨h', w1, w2, w3⟩ := m.write cur size fr (F := setE E k v) (by rw [← toP_len, (idxE_some hi).1]; simp [toP_len]; omega) (nodup_set m.nod k v)
    refine hm_of (v := .tu []) (h' := h') (fun q => ?_) (kk h' w2 w3)
    show mapK _ id _ = _
    rw [hr]
    show optK (findP none (sv k) (toP E)) _ = _
    rw [findP_sv, hi]
    show putM next floor heap id cur (cur + 7) size fr ((toP E).set i (sv k, v)) _ = _
    rw [← (idxE_some hi).1]
    exact w1 _
/-- delete(m, k) -/
theorem MD.mk (m : MapC h id E) (hl : E.length ≤ 1048576) (kk : ∀ h', MapC h' id (delE E k) → Stay (fun i => i = id) h h' → N.go P (.tu []) h') : MD P (.m id) (sv k) h N := by
  obtain ⟨next, floor, heap, cur, size, fr, rfl, hfl, hr⟩ := m.read
  cases hi : idxE E k with
  | none =>
    refine hm_of (v := .tu []) (h' := ⟨next, floor, heap⟩) (fun q => ?_) (kk _ (by rw [(idxE_none hi).2.2]; exact m) (Stay.refl _ _))
    show mapK _ id _ = _
    rw [hr]
    show optK (findP none (sv k) (toP E)) _ = _
    rw [findP_sv, hi]
    show ifK (B.geB floor id) _ = _
    rw [hfl]; rfl
  | some i =>
    obtain ⟨h', w1, w2, w3⟩ := m.write cur size fr (F := delE E k) (by have := (keys_del_sub E k).length_le; rw [keysE_len, keysE_len] at this; omega) (nodup_del m.nod k)
    refine hm_of (v := .tu []) (h' := h') (fun q => ?_) (kk h' w2 w3)
    show mapK _ id _ = _
    rw [hr]
    show optK (findP none (sv k) (toP E)) _ = _
    rw [findP_sv, hi]
    show putM next floor heap id cur (cur + 7) size fr ((toP E).eraseIdx i) _ = _
    rw [← (idxE_some hi).2]
    exact w1 _
/-- make(map[string]..) -/
theorem MN.mk (hf : B.val h.floor ≤ B.val h.next) (kk : ∀ h', MapC h' h.next [] → Stay nowhere h h' → B.val h'.next = B.val h.next + 1 → N.go P (.m h.next) h') : MN P h N := by
  obtain ⟨next, floor, heap⟩ := h
  obtain ⟨hp, s1, s2, s3⟩ := setK_ok next (⟨0, 7, 0, .o, 0, 0⟩ : Blk) heap
  obtain ⟨nx, n1, n2⟩ := incK_ok next
  refine hm_of (v := .m next) (h' := ⟨nx, floor, hp⟩) (fun q => ?_) (kk ⟨nx, floor, hp⟩ ⟨⟨_, s2, rfl, rfl, fun i kv hi => by simp [toP] at hi⟩, hf, by show B.val next < B.val nx; omega, .nil⟩ ⟨rfl, by show B.val next ≤ B.val nx; omega, fun i hi _ => s3 i fun e => by rw [e] at hi; exact absurd hi (Nat.lt_irrefl _)⟩ n2)
  unfold doMakeMap.newM
  simp only [hK_mk]
  rw [s1, n1]
end
/-- what a map holds, be it nil -/
def MpV (h : H) (v : V) (E : En) : Prop := (v = .m0 ∧ E = []) ∨ ∃ id, v = .m id ∧ MapC h id E
section
variable {P : Program} {h : H} {N : Nx} {z v : V} {ok : Bool} {k : List UInt8} {E : En}
theorem MpV.nod (m : MpV h v E) : (keysE E).Nodup := by
  rcases m with ⟨rfl, rfl⟩ | ⟨id, rfl, m⟩
  · exact List.nodup_nil
  · exact m.nod
end
end Go.Ev

set_option linter.all false
namespace Go.Ev
open Go
/-- what lies below the floor was there when w0 was -/
def Dn (ρ : Emb) (h : H) (w0 : World) : Prop := ∀ id g L, B.val id < B.val h.floor → ρ id g = some L → L.b < w0.heap.size
theorem Dn.up {ρ ρ' : Emb} {h h' : H} {w0 : World} (d : Dn ρ h w0) (hf : h'.floor = h.floor) (e : Ext h.floor ρ ρ') : Dn ρ' h' w0 := fun id g L hi hL => by
  rw [hf] at hi
  rcases e.2 _ _ _ hL with h | h
  · exact d _ _ _ hi h
  · exact absurd h (Nat.not_le.2 hi)
theorem Dn.re {ρ : Emb} {h : H} {w w0 : World} (R : HRel ρ h w w0) : Dn ρ (reFloor h) w := fun id g L _ hL => by
  obtain ⟨_, _, _, a3, _⟩ := R.loc _ _ _ hL
  exact a3
/-- the code c, from that state, comes to states of which K holds -/
def CodeN (P : Program) (nt : Nat) (c : Code) (t : F) (h : H) (K : X → F → H → Prop) : Prop :=
  ∀ ρ a w w0 (Q : Exit → Act → World → Prop), Dn ρ h w0 → ARel ρ nt t a → HRel ρ h w w0 →
    (∀ x t' h' ρ' a' w', K x t' h' → KeepF h h' → B.val h.next ≤ B.val h'.next → Ext h.floor ρ ρ' → ARel ρ' nt t' a' → HRel ρ' h' w' w0 → Q (xOf x) a' w') → c.wp P Q a w
section
variable {P : Program} {nt : Nat} {t : F} {h : H} {K : X → F → H → Prop} {c c1 c2 : Code}
theorem CodeN.of {cc : CC} (e : comp P nt c = cc) (k : Ok P nt cc t h K) : CodeN P nt c t h K := by
  obtain ⟨x, t', h', s, kk⟩ := k
  obtain ⟨s1, s2, s3⟩ := s c e
  exact fun ρ a w w0 Q _ A R hQ => s3 ρ a w w0 Q A R fun ρ' a' w' l A' R' => hQ x t' h' ρ' a' w' kk s1 s2 l A' R'
theorem CodeN.mono {K' : X → F → H → Prop} (a : CodeN P nt c t h K) (hk : ∀ x t h, K x t h → K' x t h) : CodeN P nt c t h K' :=
  fun ρ b w w0 Q D A R hQ => a ρ b w w0 Q D A R fun x t' h' ρ' a' w' k => hQ x t' h' ρ' a' w' (hk _ _ _ k)
/-- behind the first part -/
def SqN (P : Program) (nt : Nat) (c : Code) (K : X → F → H → Prop) : X → F → H → Prop
  | .normal, t, h => CodeN P nt c t h K
  | x, t, h => K x t h
theorem CodeN.seq (a : CodeN P nt c1 t h (SqN P nt c2 K)) : CodeN P nt (.seq c1 c2) t h K := by
  intro ρ b w w0 Q D A R hQ
  refine wp_seq (a ρ b w w0 _ D A R fun x t1 h1 ρ1 a1 w1 k k1 k2 k3 A1 R1 => ?_)
  cases x with
  | normal => exact k ρ1 a1 w1 w0 Q (D.up k1.1 k3) A1 R1 fun x t2 h2 ρ2 a2 w2 kk l1 l2 l3 A2 R2 => hQ x t2 h2 ρ2 a2 w2 kk (KeepF.trans k1 k2 l1) (Nat.le_trans k2 l2) (Ext.trans k3 (by rw [← k1.1]; exact l3)) A2 R2
  | exit id => exact hQ _ _ _ _ _ _ k k1 k2 k3 A1 R1
  | ret => exact hQ _ _ _ _ _ _ k k1 k2 k3 A1 R1
theorem CodeN.block {id : Nat} (a : CodeN P nt c t h (Out id K)) : CodeN P nt (.block id c) t h K := by
  intro ρ b w w0 Q D A R hQ
  refine wp_block (a ρ b w w0 _ D A R fun x t1 h1 ρ1 a1 w1 k k1 k2 k3 A1 R1 => ?_)
  cases x with
  | normal => exact hQ .normal t1 h1 ρ1 a1 w1 k k1 k2 k3 A1 R1
  | ret => exact hQ .ret t1 h1 ρ1 a1 w1 k k1 k2 k3 A1 R1
  | exit j =>
    have k' : (if j = id then K .normal t1 h1 else K (.exit j) t1 h1) := k
    show (if j = id then Q .normal a1 w1 else Q (.exit j) a1 w1)
    by_cases hj : j = id
    · rw [if_pos hj] at k' ⊢; exact hQ .normal t1 h1 ρ1 a1 w1 k' k1 k2 k3 A1 R1
    · rw [if_neg hj] at k' ⊢; exact hQ (.exit j) t1 h1 ρ1 a1 w1 k' k1 k2 k3 A1 R1
/-- a function whose outcome hangs on an order -/
def FnN (P : Program) (f : FuncId) (vs : List V) (h : H) (K : V → H → Prop) : Prop :=
  ∀ ρ w w0 args, LRel ρ vs args → Dn ρ h w0 → HRel ρ h w w0 →
    (callFunc f args.toArray).run P w = .ok (.enter f args.toArray) w ∧ Calls P f args.toArray w fun e w' => ∃ x v h', e = .returned x ∧ K v h' ∧ KeepF h h' ∧ B.val h.next ≤ B.val h'.next ∧ Done h.floor ρ w0 v h' x w'
theorem FnN.of {f : FuncId} {vs : List V} {K : V → H → Prop} (a : FnOk P f vs h K) : FnN P f vs h K := by
  obtain ⟨v, h', ⟨a1, a2, a3⟩, k⟩ := a
  intro ρ w w0 args hl _ R
  obtain ⟨b1, b2⟩ := a3 ρ w w0 args hl R
  exact ⟨b1, b2.mono fun e w' ⟨x, e1, d⟩ => ⟨x, v, h', e1, k, a1, a2, d⟩⟩
/-- .. that does not show, for a function that leaves all as it was -/
theorem FnN.pure {f : FuncId} {vs : List V} {v : V} (a : FnN P f vs (reFloor h) fun y _ => y = v) (hv : ∀ ρ ρ' x, VRel ρ v x → VRel ρ' v x) : FnOk P f vs h fun y h' => y = v ∧ h' = h := by
  refine ⟨v, h, ⟨KeepF.refl h, Nat.le_refl _, fun ρ w w0 args hl R => ?_⟩, rfl, rfl⟩
  obtain ⟨b1, b2⟩ := a ρ w w args hl (Dn.re R) R.refloor
  refine ⟨b1, b2.mono fun e w' ⟨x, y, h', e1, k, _, _, ρ', q1, q2, q3⟩ => ⟨x, e1, ρ, Ext.refl _ ρ, ?_, ?_⟩⟩
  · rw [k] at q2; exact hv _ _ _ q2
  · exact R.grow q3.old q3.siz q3.tp q3.os q3.out
end
end Go.Ev

set_option maxRecDepth 100000
set_option maxHeartbeats 8000000
set_option linter.all false
namespace Go.Proofs.Ytclpemggclmgeaa
open Go Go.Ev
theorem ch_cell {n : Nat} {i : Int} (h : n ≤ 100) (hi : i = 97 + (n : Int)) : ([.i .u8 i] : List V) = [chT n].map bv := by
  show _ = [V.i .u8 ((chT n).toNat : Int)]
  rw [chT_nat h, hi]; rfl
theorem sheetMeets_ok {h : H} {a b c d e : UInt8} (hf : B.val h.floor ≤ B.val h.next) : FnOk Try.prog 6 [.i .u8 (a.toNat : Int), .i .u8 (b.toNat : Int), .i .u8 (c.toNat : Int), .i .u8 (d.toNat : Int), .i .u8 (e.toNat : Int)] h fun y h' => y = .b true := by
  obtain ⟨X, hX⟩ : ∃ X, X = a.toNat % 10 := ⟨_, rfl⟩
  obtain ⟨Y, hY⟩ : ∃ X, X = c.toNat % 10 := ⟨_, rfl⟩
  obtain ⟨P, hP⟩ : ∃ X, X = b.toNat % 5 := ⟨_, rfl⟩
  obtain ⟨D, hD⟩ : ∃ X, X = d.toNat % 5 := ⟨_, rfl⟩
  obtain ⟨E, hE⟩ : ∃ X, X = e.toNat % 2 := ⟨_, rfl⟩
  have iX : (a.toNat : Int) % 10 = (X : Int) := by omega
  have iY : (c.toNat : Int) % 10 = (Y : Int) := by omega
  have iP : (b.toNat : Int) % 5 = (P : Int) := by omega
  have iD : (d.toNat : Int) % 5 = (D : Int) := by omega
  have iE : (e.toNat : Int) % 2 = (E : Int) := by omega
  have bX : X < 10 := by omega
  have bY : Y < 10 := by omega
  have bP : P < 5 := by omega
  have bD : D < 5 := by omega
  have bE : E < 2 := by omega
  refine fn_go c6 (by intro hb; cases hb) (by simp) (by simp) fun Q hQ => ?_
  simp only [slotsF, Nat.reduceAdd]
  repeat' (first
    | refine St.h ?_
    | simp (disch := first | omega | (simp only [lnv]; omega)) only [wlk, ↓get_put', ↓reduceIte, seval]
    | (with_reducible (first | apply cd_split | apply gd_split)) <;> (intro hc; (try simp only [hcn] at hc); (try simp only [hc]); (try simp only [hcl] at hc); try omega))
  refine CL.pure (FnOk.of_pure ravelinlaw13.known_pure h) ?_
  repeat' (first
    | refine St.h ?_
    | simp (disch := first | omega | (simp only [lnv]; omega)) only [wlk, ↓get_put', ↓reduceIte, seval, iX, iY, iP, iD, iE]
    | (with_reducible (first | apply cd_split | apply gd_split)) <;> (intro hc; (try simp only [hcn] at hc); (try simp only [hc]); (try simp only [hcl] at hc); try omega))
  refine AL.str (bs := [chT X]) (ch_cell (by omega) rfl) (by simp) rfl rfl (by simp) hf fun g1 u1 s1 => ?_
  have hf1 := s1.fl hf
  repeat' (first
    | refine St.h ?_
    | simp (disch := first | omega | (simp only [lnv]; omega)) only [wlk, ↓get_put', ↓reduceIte, seval, iX, iY, iP, iD, iE]
    | (with_reducible (first | apply cd_split | apply gd_split)) <;> (intro hc; (try simp only [hcn] at hc); (try simp only [hc]); (try simp only [hcl] at hc); try omega))
  refine AL.str (bs := [chT (X + P)]) (ch_cell (by omega) (by omega)) (by simp) rfl rfl (by simp) hf1 fun g2 u2 s2 => ?_
  have hf2 := s2.fl hf1
  repeat' (first
    | refine St.h ?_
    | simp (disch := first | omega | (simp only [lnv]; omega)) only [wlk, ↓get_put', ↓reduceIte, seval, iX, iY, iP, iD, iE]
    | (with_reducible (first | apply cd_split | apply gd_split)) <;> (intro hc; (try simp only [hcn] at hc); (try simp only [hc]); (try simp only [hcl] at hc); try omega))
  refine AL.own (by simp) hf2 fun g3 s3 n3 o3 => ?_
  have hf3 := s3.fl hf2
  repeat' (first
    | refine St.h ?_
    | simp (disch := first | omega | (simp only [lnv]; omega)) only [wlk, ↓get_put', ↓reduceIte, seval, iX, iY, iP, iD, iE]
    | (with_reducible (first | apply cd_split | apply gd_split)) <;> (intro hc; (try simp only [hcn] at hc); (try simp only [hc]); (try simp only [hcl] at hc); try omega))
  refine ST.all o3 rfl rfl (by simp) (by simp) fun g4 o4 s4 => ?_
  have s34 : Stay nowhere g2 g4 := s3.past' s4 fun q e => by rw [e]; exact Nat.le_refl _
  have hf4 := s34.fl hf2
  repeat' (first
    | refine St.h ?_
    | simp (disch := first | omega | (simp only [lnv]; omega)) only [wlk, ↓get_put', ↓reduceIte, seval, iX, iY, iP, iD, iE]
    | (with_reducible (first | apply cd_split | apply gd_split)) <;> (intro hc; (try simp only [hcn] at hc); (try simp only [hc]); (try simp only [hcl] at hc); try omega))
  refine AL.str (bs := [chT Y]) (ch_cell (by omega) rfl) (by simp) rfl rfl (by simp) hf4 fun g5 u5 s5 => ?_
  have hf5 := s5.fl hf4
  repeat' (first
    | refine St.h ?_
    | simp (disch := first | omega | (simp only [lnv]; omega)) only [wlk, ↓get_put', ↓reduceIte, seval, iX, iY, iP, iD, iE]
    | (with_reducible (first | apply cd_split | apply gd_split)) <;> (intro hc; (try simp only [hcn] at hc); (try simp only [hc]); (try simp only [hcl] at hc); try omega))
  refine AL.str (bs := [chT (Y + D)]) (ch_cell (by omega) (by omega)) (by simp) rfl rfl (by simp) hf5 fun g6 u6 s6 => ?_
  have hf6 := s6.fl hf5
  repeat' (first
    | refine St.h ?_
    | simp (disch := first | omega | (simp only [lnv]; omega)) only [wlk, ↓get_put', ↓reduceIte, seval, iX, iY, iP, iD, iE]
    | (with_reducible (first | apply cd_split | apply gd_split)) <;> (intro hc; (try simp only [hcn] at hc); (try simp only [hc]); (try simp only [hcl] at hc); try omega))
  refine AL.own (by simp) hf6 fun g7 s7 n7 o7 => ?_
  have hf7 := s7.fl hf6
  repeat' (first
    | refine St.h ?_
    | simp (disch := first | omega | (simp only [lnv]; omega)) only [wlk, ↓get_put', ↓reduceIte, seval, iX, iY, iP, iD, iE]
    | (with_reducible (first | apply cd_split | apply gd_split)) <;> (intro hc; (try simp only [hcn] at hc); (try simp only [hc]); (try simp only [hcl] at hc); try omega))
  refine ST.all o7 rfl rfl (by simp) (by simp) fun g8 o8 s8 => ?_
  have s78 : Stay nowhere g6 g8 := s7.past' s8 fun q e => by rw [e]; exact Nat.le_refl _
  have hf8 := s78.fl hf6
  have s68 : Stay nowhere g4 g8 := (s5.trans s6).trans s78
  have o4 := o4.stay s68 fun e => e
  repeat' (first
    | refine St.h ?_
    | simp (disch := first | omega | (simp only [lnv]; omega)) only [wlk, ↓get_put', ↓reduceIte, seval, iX, iY, iP, iD, iE]
    | (with_reducible (first | apply cd_split | apply gd_split)) <;> (intro hc; (try simp only [hcn] at hc); (try simp only [hc]); (try simp only [hcl] at hc); try omega))
  refine CL.mk (snew_ok hf8) ?_
  rintro _ g9 ⟨rfl, sp9, n9, s9⟩
  have hf9 := s9.fl hf8
  have r4 := (o4.stay s9 fun e => e).row
  repeat' (first
    | refine St.h ?_
    | simp (disch := first | omega | (simp only [lnv]; omega)) only [wlk, ↓get_put', ↓reduceIte, seval, iX, iY, iP, iD, iE, r4.ln]
    | (with_reducible (first | apply cd_split | apply gd_split)) <;> (intro hc; (try simp only [hcn] at hc); (try simp only [hc]); (try simp only [hcl] at hc); try omega))
  refine AL.own (by simp) hf9 fun ga sa na oa => ?_
  have oa : Ev.Own ga g9.next (tblC (tR 1 1 X (X + P))) := oa
  have hfa := sa.fl hf9
  repeat' (first
    | refine St.h ?_
    | simp (disch := first | omega | (simp only [lnv]; omega)) only [wlk, ↓get_put', ↓reduceIte, seval, iX, iY, iP, iD, iE]
    | (with_reducible (first | apply cd_split | apply gd_split)) <;> (intro hc; (try simp only [hcn] at hc); (try simp only [hc]); (try simp only [hcl] at hc); try omega))
  refine CL.mk (do_ok (e := edM (tR 1 1 X (X + P))) (sp9.grow sa) wfZ (edM_m oa) (by simp [edM]) (by simp [edM]) (by simp [edM, tR]) hfa ?_) ?_
  · rintro q ⟨_, _, _, _, _, e⟩ e2
    cases e
    have := sp9.lt.1
    rw [e2] at this; omega
  have wf1 := do_wf (e := edM (tR 1 1 X (X + P))) wfZ
  rw [do_r1 (by omega) (by omega)] at wf1 ⊢
  rintro _ gb ⟨rfl, ub, spb, _, sb⟩
  have spb : ShP gb g8.next ub (s1T X (X + P)) := spb
  have wf1 : Wf (s1T X (X + P)) := wf1
  have hfb := sb.fl hfa
  have ne4 : g2.next ≠ g8.next := fun e => by have e2 : B.val g2.next = B.val g8.next := (by rw [e]); have := s4.next; have := (s5.trans s6).next; have := s78.next; omega
  have ne8 : g6.next ≠ g8.next := fun e => by have e2 : B.val g6.next = B.val g8.next := (by rw [e]); have := s8.next; omega
  have o4b := (o4.stay (s9.trans sa) fun e => e).stay sb ne4
  have o8b := (o8.stay (s9.trans sa) fun e => e).stay sb ne8
  have r8 := o8b.row
  repeat' (first
    | refine St.h ?_
    | simp (disch := first | omega | (simp only [lnv]; omega)) only [wlk, ↓get_put', ↓reduceIte, seval, iX, iY, iP, iD, iE, r8.ln]
    | (with_reducible (first | apply cd_split | apply gd_split)) <;> (intro hc; (try simp only [hcn] at hc); (try simp only [hc]); (try simp only [hcl] at hc); try omega))
  refine AL.own (by simp) hfb fun gc sc nc oc => ?_
  have oc : Ev.Own gc gb.next (tblC (tR 2 (E : Int) Y (Y + D))) := oc
  have hfc := sc.fl hfb
  obtain ⟨er, S2, S3, m1, m2, m3, m4⟩ := meets_all (x := X) (y := X + P) (z := Y) (w := Y + D) (k := (E : Int)) (by omega) (by omega) (by omega) (by omega) (by omega)
  repeat' (first
    | refine St.h ?_
    | simp (disch := first | omega | (simp only [lnv]; omega)) only [wlk, ↓get_put', ↓reduceIte, seval, iX, iY, iP, iD, iE]
    | (with_reducible (first | apply cd_split | apply gd_split)) <;> (intro hc; (try simp only [hcn] at hc); (try simp only [hc]); (try simp only [hcl] at hc); try omega))
  refine CL.mk (do_ok (e := edM (tR 2 (E : Int) Y (Y + D))) (spb.grow sc) wf1 (edM_m oc) (by simp [edM]) (by simp [edM]) (by simp [edM, tR]) hfc ?_) ?_
  · rintro q ⟨_, _, _, _, _, e⟩ e2
    cases e
    have := spb.lt.1
    rw [e2] at this; omega
  have wf2 := do_wf (e := edM (tR 2 (E : Int) Y (Y + D))) wf1
  rw [m1] at wf2 ⊢
  rintro _ gd ⟨rfl, ud, spd, _, sd⟩
  have spd : ShP gd g8.next ud S2 := spd
  have wf2 : Wf S2 := wf2
  have hfd := sd.fl hfc
  have o4d := (o4b.stay sc fun e => e).stay sd ne4
  have k0 : ((E : Int) = 0) = ¬ ((E : Int) = 1) := propext (by omega)
  by_cases q1 : (X : Int) ≤ (Y : Int) + (D : Int) <;> by_cases q2 : (Y : Int) ≤ (X : Int) + (P : Int) <;> by_cases q3 : (E : Int) = 1
  all_goals try (exfalso; omega)
  all_goals
    first | have ee : er = 16 := by omega | have ee : er = 0 := by omega
    subst ee
    repeat' (first
      | refine St.h ?_
      | simp (disch := first | omega | (simp only [lnv]; omega)) only [wlk, ↓get_put', ↓reduceIte, seval, iX, iY, iP, iD, iE, q1, q2, q3, k0]
      | (with_reducible (first | apply cd_split | apply gd_split)) <;> (intro hc; (try simp only [hcn] at hc); (try simp only [hc]); (try simp only [hcl] at hc); try omega))
    refine AL.own (by simp) hfd fun ge se ne oe => ?_
    have hfe := se.fl hfd
    have re := (o4d.stay se fun e => e).row
    repeat' (first
      | refine St.h ?_
      | simp (disch := first | omega | (simp only [lnv]; omega)) only [wlk, ↓get_put', ↓reduceIte, seval, iX, iY, iP, iD, iE, q1, q2, q3, k0, re.l1]
      | (with_reducible (first | apply cd_split | apply gd_split)) <;> (intro hc; (try simp only [hcn] at hc); (try simp only [hc]); (try simp only [hcl] at hc); try omega))
    refine AL.own (by simp) hfe fun gf sf nf of => ?_
    have of : Ev.Own gf ge.next (tblC (tR 9 1 X (X + P))) := of
    have hff := sf.fl hfe
    repeat' (first
      | refine St.h ?_
      | simp (disch := first | omega | (simp only [lnv]; omega)) only [wlk, ↓get_put', ↓reduceIte, seval, iX, iY, iP, iD, iE, q1, q2, q3, k0]
      | (with_reducible (first | apply cd_split | apply gd_split)) <;> (intro hc; (try simp only [hcn] at hc); (try simp only [hc]); (try simp only [hcl] at hc); try omega))
    refine CL.mk (do_ok (e := edR X (X + P)) (spd.grow (se.trans sf)) wf2 ⟨(one_i oe).grow sf, one_t of⟩ (by simp [edR]) (by simp [edR]) (by simp [edR, tR]) hff ?_) ?_
    · rintro q ⟨_, _, _, _, _, e⟩ e2
      cases e
      have := spd.lt.1
      have := se.next
      rw [e2] at this; omega
    have wf3 := do_wf (e := edR X (X + P)) wf2
    rw [m3] at wf3 ⊢
    rintro _ gg ⟨rfl, ug, spg, _, sg⟩
    have spg : ShP gg g8.next ug S3 := spg
    have wf3 : Wf S3 := wf3
    have hfg := sg.fl hff
    have hl3 := wf3.len
    repeat' (first
      | refine St.h ?_
      | simp (disch := first | omega | (simp only [lnv]; omega)) only [wlk, ↓get_put', ↓reduceIte, seval, iX, iY, iP, iD, iE, q1, q2, q3, k0]
      | (with_reducible (first | apply cd_split | apply gd_split)) <;> (intro hc; (try simp only [hcn] at hc); (try simp only [hc]); (try simp only [hcl] at hc); try omega))
    first
      | (subst hQ; rfl)
      | (refine CL.mk (stier_ok spg (by omega) hfg) ?_
         rintro x9 g9 ⟨x91, x92⟩
         have m5 : ((S3.L.filter fun t => decide (t.tier = 0)).length : Int) = 1 := by rw [m4 (by omega)]; rfl
         repeat' (first
           | refine St.h ?_
           | simp (disch := first | omega | (simp only [lnv]; omega)) only [wlk, ↓get_put', ↓reduceIte, seval, iX, iY, iP, iD, iE, q1, q2, q3, k0, x91.ln, m5]
           | (with_reducible (first | apply cd_split | apply gd_split)) <;> (intro hc; (try simp only [hcn] at hc); (try simp only [hc]); (try simp only [hcl] at hc); try omega))
         subst hQ; rfl)
end Go.Proofs.Ytclpemggclmgeaa

namespace Go.Proofs.Ytclpemggclmgeaa.sheetMeets
open Go Go.Ev Go.ChangeShapes Go.WideShapes Go.ChangeAt Go.RowKit Go.ChangeMaps
set_option linter.all false
theorem own : ownKnob Try.prog.godebug = none := by kernel_rfl
theorem laid : laidOutB Try.prog = true := by kernel_rfl
theorem heap_pos {W : World} (h : W.ShapedOpen Try.prog) : 0 < W.heap.size := by
  obtain ⟨o, _, h1, _⟩ := h.2 Try.prog.globals.size (Nat.le_refl _) (of_decide_eq_true (by kernel_rfl))
  exact Nat.lt_of_le_of_lt (Nat.zero_le _) (Array.getElem?_eq_some_iff.1 h1).1
set_option maxRecDepth 100000 in
theorem run {H : Type} {enc : TypeId × Value → H} (W : World) (base : Nat) (args : Array Value) (ds : List (DataW H)) (p : List MemPlace) (hval : ∀ (j : Nat) t v, Try.f6.params[j]? = some t → args[j]? = some v → Value.okWide Try.prog W .any base t v) (hopen : W.ShapedOpen Try.prog)
    (hA : DataW.TrodAll enc Try.prog W 0 (fun _ => true) true Try.f6.params.toList args.toList ds p) : Calls Try.prog 6 args W fun e w' => e = .returned (.bool true) ∧ Below W.heap.size W w' := by
  rw [Try.params6] at hA hval
  obtain ⟨v0, vs0, d0, ds0, p0, q0, hargs, rfl, rfl, h0, r0⟩ := trodAll_cons hA
  obtain ⟨v1, vs1, d1, ds1, p1, q1, rfl, rfl, rfl, h1, r1⟩ := trodAll_cons r0
  obtain ⟨v2, vs2, d2, ds2, p2, q2, rfl, rfl, rfl, h2, r2⟩ := trodAll_cons r1
  obtain ⟨v3, vs3, d3, ds3, p3, q3, rfl, rfl, rfl, h3, r3⟩ := trodAll_cons r2
  obtain ⟨v4, vs4, d4, ds4, p4, q4, rfl, rfl, rfl, h4, r4⟩ := trodAll_cons r3
  obtain ⟨rfl, rfl, rfl⟩ := trodAll_nil r4
  obtain rfl : args = #[v0, v1, v2, v3, v4] := by cases args; simp_all
  obtain ⟨h, s1, s2⟩ := Go.Ev.start W
  have s : Go.Ev.Start W h := ⟨s1, s2⟩
  obtain ⟨a0, rfl, rfl, rfl, w0⟩ := open_int Try.underlying5 (hval 0 5 v0 rfl rfl) h0
  obtain ⟨n0, rfl⟩ := u8_byte w0
  obtain ⟨a1, rfl, rfl, rfl, w1⟩ := open_int Try.underlying5 (hval 1 5 v1 rfl rfl) h1
  obtain ⟨n1, rfl⟩ := u8_byte w1
  obtain ⟨a2, rfl, rfl, rfl, w2⟩ := open_int Try.underlying5 (hval 2 5 v2 rfl rfl) h2
  obtain ⟨n2, rfl⟩ := u8_byte w2
  obtain ⟨a3, rfl, rfl, rfl, w3⟩ := open_int Try.underlying5 (hval 3 5 v3 rfl rfl) h3
  obtain ⟨n3, rfl⟩ := u8_byte w3
  obtain ⟨a4, rfl, rfl, rfl, w4⟩ := open_int Try.underlying5 (hval 4 5 v4 rfl rfl) h4
  obtain ⟨n4, rfl⟩ := u8_byte w4
  exact calls_true s (vs := [.i .u8 (n0.toNat : Int), .i .u8 (n1.toNat : Int), .i .u8 (n2.toNat : Int), .i .u8 (n3.toNat : Int), .i .u8 (n4.toNat : Int)]) ⟨rfl, rfl, rfl, rfl, rfl, trivial⟩ (sheetMeets_ok  s1.flo)
set_option maxRecDepth 100000 in
theorem lifted (os : Os) (started : os.Started) (H : Type) (enc : TypeId × Value → H) :
    ReturnsInHanded {} Try.checked os 6 .any (Rows.sheetMeetsSpec.pre6 enc Try.prog Try.f6 Rows.sheetMeetsRow.domain false) (Rows.sheetMeetsSpec.post enc Try.prog Try.f6 false true false false) :=
  law_lifted (C := Try.checked) own started (by kernel_rfl) Try.func6
    (ChangeSpec.witness6 (enc := enc) (C := Try.checked) false ⟨#[], #[.int .u8 0, .int .u8 0, .int .u8 0, .int .u8 0, .int .u8 0], []⟩ 8 (by kernel_rfl) (by kernel_rfl) (by kernel_rfl) (by kernel_rfl))
    rfl (fun ds hd => by rw [Try.params6] at hd; match ds, hd with | [d1, d2, d3, d4, d5], _ => rfl) laid (by kernel_rfl) (by kernel_rfl) Try.underlying4 (fun W base args ds p hv ho hA => run W base args ds p hv ho hA)
theorem over : Rows.sheetMeetsRow.holds Try.pinned (OpenSpec.ofChange Rows.sheetMeetsSpec) :=
  OpenClaim.holds_of_wide 6 Try.f6 rfl rfl rfl rfl rfl rfl rfl ⟨rfl, rfl, rfl, rfl, rfl⟩ rfl rfl rfl rfl rfl (by kernel_rfl) Try.func6 (by kernel_rfl)
    (of_decide_eq_true (by kernel_rfl)) (by unfold Func.isWrapper; first | (rw [if_pos (by decide +kernel)]; kernel_rfl) | (rw [if_neg (by decide +kernel)]; exact ⟨rfl, rfl⟩))
    (fun os started H enc _ => lifted os started H enc)
/-- THE STATEMENT -/
theorem proved : Rows.SheetMeetsSaid :=
  over
end Go.Proofs.Ytclpemggclmgeaa.sheetMeets
