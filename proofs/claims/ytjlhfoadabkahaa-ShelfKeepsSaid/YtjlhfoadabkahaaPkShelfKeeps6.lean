/- Texts of ours, without what this claim does not use: JrLw2 NShDr NShKe NShKf ShelfKeeps. No condition. -/
import Derived.Test.YtjlhfoadabkahaaPkShelfKeeps5
import Derived.Test.YtjlhfoadabkahaaProg
import Derived.KernelRfl
import Derived.Test.YtjlhfoadabkahaaRows
import Derived.WalkKit
import Derived.ProofKit
import Derived.OpenShut
import Derived.ChangeMaps5
set_option maxRecDepth 1000000
set_option linter.all false
namespace Go.Proofs.Ytjlhfoadabkahaa
open Go Go.Ev
noncomputable abbrev s5_0 : CC := (CC.seq (CC.region [(wB 6 (doMove (O.c (V.b Bool.false))))]) CC.ret)
noncomputable abbrev s5_1 : CC := (CC.cond (tm 16) s5_0 CC.skip)
noncomputable abbrev s5_2 : CC := (CC.seq (CC.region [(wB 15 (doCall 12 [])), (wB 16 (doNot (tm 15)))]) s5_1)
noncomputable abbrev s5_3 : CC := (CC.seq (CC.region [(wB 6 (doMove (O.c (V.b Bool.false))))]) CC.ret)
noncomputable abbrev s5_4 : CC := (CC.cond (tm 46) s5_3 CC.skip)
noncomputable abbrev s5_5 : CC := (CC.seq (CC.region [(wB 27 (doMove (tm 9))), (wB 28 (bin2 fEql (tm 27) (oN 0))), (wB 29 (doMove (tm 1))), (wB 30 (doMove (tm 0))), (wB 31 (bin2 fLeq (tm 29) (tm 30))), (wB 32 (doBool Bool.true (tm 28) (tm 31))), (wB 33 (doMove (tm 32))), (wG 33 false 34 (doMove (tm 9))), (wG 33 false 35 (bin2 fNeq (tm 34) (oN 0))), (wG 33 false 36 (doMove (tm 35))), (wG 36 true 37 (doMove (tm 9))), (wG 36 true 38 (bin2 fNeq (tm 37) (oN 15))), (wG 36 true 39 (doMove (tm 38))), (wG 39 false 40 (doMove (tm 8))), (wG 39 false 41 (doCall 35 [(tm 40)])), (wG 39 false 42 (doLen (tm 41))), (wG 39 false 43 (bin2 fNeq (tm 42) (oN 0))), (wG 36 true 44 (doPick (tm 39) (O.c (V.b Bool.true)) (tm 43))), (wG 33 false 45 (doPick (tm 36) (tm 44) (O.c (V.b Bool.false)))), (wB 46 (doPick (tm 33) (O.c (V.b Bool.true)) (tm 45)))]) s5_4)
noncomputable abbrev s5_6 : CC := (CC.seq (CC.region [(wB 6 (doMove (O.c (V.b Bool.false))))]) CC.ret)
noncomputable abbrev s5_7 : CC := (CC.cond (tm 72) s5_6 CC.skip)
noncomputable abbrev s5_8 : CC := (CC.seq (CC.region [(wB 53 (doMove (tm 10))), (wB 54 (bin2 fEql (tm 53) (oN 0))), (wB 55 (doMove (tm 1))), (wB 56 (doConv IntKind.i64 (tm 55))), (wB 57 (bin2 fMul (oN 2) (tm 56))), (wB 58 (doMove (tm 0))), (wB 59 (doConv IntKind.i64 (tm 58))), (wB 60 (bin2 fLeq (tm 57) (tm 59))), (wB 61 (doBool Bool.true (tm 54) (tm 60))), (wB 62 (doMove (tm 61))), (wG 62 false 63 (doMove (tm 10))), (wG 62 false 64 (bin2 fNeq (tm 63) (oN 0))), (wG 62 false 65 (doMove (tm 64))), (wG 65 true 66 (doMove (tm 8))), (wG 65 true 67 (doCall 36 [(tm 66)])), (wG 65 true 68 (doMove (tm 1))), (wG 65 true 69 (doConv IntKind.i64 (tm 68))), (wG 65 true 70 (bin2 fNeq (tm 67) (tm 69))), (wG 62 false 71 (doPick (tm 65) (tm 70) (O.c (V.b Bool.false)))), (wB 72 (doPick (tm 62) (O.c (V.b Bool.true)) (tm 71)))]) s5_7)
noncomputable abbrev s5_9 : CC := (CC.seq (CC.region [(wB 49 (doMove (tm 8))), (wB 50 (doMove (tm 7))), (wB 51 (doB2S (tm 50))), (wB 52 (doCall 18 [(tm 49), (O.c (V.s 1 97)), (tm 51)])), (wB 10 (doMove (tm 52)))]) s5_8)
noncomputable abbrev s5_10 : CC := (CC.cond (tm 48) s5_9 CC.skip)
noncomputable abbrev s5_11 : CC := (CC.seq (CC.region [(wB 47 (doMove (tm 9))), (wB 48 (bin2 fEql (tm 47) (oN 0)))]) s5_10)
noncomputable abbrev s5_12 : CC := (CC.cond (tm 80) CC.skip (CC.exit 0))
noncomputable abbrev s5_13 : CC := (CC.seq (CC.region [(wB 78 (doMove (tm 13))), (wB 79 (doMove (tm 12))), (wB 80 (bin2 fLss (tm 78) (tm 79)))]) s5_12)
noncomputable abbrev s5_14 : CC := (CC.seq (CC.region [(wB 6 (doMove (O.c (V.b Bool.false))))]) CC.ret)
noncomputable abbrev s5_15 : CC := (CC.cond (tm 108) s5_14 CC.skip)
noncomputable abbrev s5_16 : CC := (CC.seq (CC.region [(wB 96 (doMove (tm 14))), (wB 97 (bin2 fEql (tm 96) (oN 0))), (wB 98 (doMove (tm 13))), (wB 99 (bin2 fLss (tm 98) (oN 60))), (wB 100 (doBool Bool.true (tm 97) (tm 99))), (wB 101 (doMove (tm 100))), (wG 101 false 102 (doMove (tm 14))), (wG 101 false 103 (bin2 fNeq (tm 102) (oN 0))), (wG 101 false 104 (doMove (tm 103))), (wG 104 true 105 (doMove (tm 14))), (wG 104 true 106 (bin2 fNeq (tm 105) (oN 15))), (wG 101 false 107 (doPick (tm 104) (tm 106) (O.c (V.b Bool.false)))), (wB 108 (doPick (tm 101) (O.c (V.b Bool.true)) (tm 107)))]) s5_15)
noncomputable abbrev s5_17 : CC := (CC.seq (CC.region [(wB 83 (doMove (tm 11))), (wB 84 (doMove (tm 13))), (wB 85 (bin2 fQuo (tm 84) (oN 26))), (wB 86 (bin2 fAdd (oN 97) (tm 85))), (wB 87 (doConv IntKind.u8 (tm 86))), (wB 88 (doMove (tm 13))), (wB 89 (doRem (tm 88) (oN 26))), (wB 90 (bin2 fAdd (oN 97) (tm 89))), (wB 91 (doConv IntKind.u8 (tm 90))), (wB 92 (doBuildSlice 5 2 [(V.i IntKind.u8 (Int.ofNat 0)), (V.i IntKind.u8 (Int.ofNat 0))] [(Pt.mk 0 1 (tm 87)), (Pt.mk 1 1 (tm 91))])), (wB 93 (doB2S (tm 92))), (wB 94 (doConcat (O.c (V.s 1 102)) (tm 93))), (wB 95 (doCall 16 [(tm 83), (tm 94), (O.c (V.s 0 0))])), (wB 14 (doMove (tm 95)))]) s5_16)
noncomputable abbrev s5_18 : CC := (CC.block 1 s5_17)
noncomputable abbrev s5_19 : CC := (CC.region [(wB 81 (doMove (tm 13))), (wB 82 (bin2 fAdd (tm 81) (oN 1))), (wB 13 (doMove (tm 82)))])
noncomputable abbrev s5_20 : CC := (CC.seq s5_18 s5_19)
noncomputable abbrev l5_0 : CC := (CC.seq s5_13 s5_20)
noncomputable abbrev s5_21 : CC := (CC.loop l5_0)
noncomputable abbrev s5_22 : CC := (CC.block 0 s5_21)
noncomputable abbrev s5_23 : CC := (CC.seq (CC.region [(wB 13 (doMove (oN 0)))]) s5_22)
noncomputable abbrev s5_24 : CC := (CC.seq (CC.region [(wB 109 (doMove (tm 11))), (wB 110 (doCall 35 [(tm 109)])), (wB 111 (doLen (tm 110))), (wB 112 (doMove (tm 12))), (wB 113 (doMin (tm 112) (oN 60))), (wB 114 (bin2 fEql (tm 111) (tm 113))), (wB 6 (doMove (tm 114)))]) CC.ret)
noncomputable abbrev s5_25 : CC := (CC.seq s5_23 s5_24)
noncomputable abbrev s5_26 : CC := (CC.seq (CC.region [(wB 74 (doMove (tm 2))), (wB 75 (doRem (tm 74) (O.c (V.i IntKind.u8 (Int.ofNat 3))))), (wB 76 (doConv IntKind.i64 (tm 75))), (wB 77 (bin2 fAdd (oN 59) (tm 76))), (wB 12 (doMove (tm 77)))]) s5_25)
noncomputable abbrev s5_27 : CC := (CC.seq (CC.region [(wB 73 (doCall 14 [(oN 10)])), (wB 11 (doMove (tm 73)))]) s5_26)
noncomputable abbrev s5_28 : CC := (CC.seq s5_11 s5_27)
noncomputable abbrev s5_29 : CC := (CC.seq s5_5 s5_28)
noncomputable abbrev s5_30 : CC := (CC.seq (CC.region [(wB 23 (doMove (tm 8))), (wB 24 (doMove (tm 7))), (wB 25 (doB2S (tm 24))), (wB 26 (doCall 16 [(tm 23), (O.c (V.s 1 97)), (tm 25)])), (wB 9 (doMove (tm 26)))]) s5_29)
noncomputable abbrev s5_31 : CC := (CC.seq (CC.region [(wB 20 (doMove (tm 0))), (wB 21 (doConv IntKind.i64 (tm 20))), (wB 22 (doCall 14 [(tm 21)])), (wB 8 (doMove (tm 22)))]) s5_30)
noncomputable abbrev s5_32 : CC := (CC.seq (CC.region [(wB 17 (doMove (tm 1))), (wB 18 (doConv IntKind.i64 (tm 17))), (wB 19 (doMakeSlice 5 [(V.i IntKind.u8 (Int.ofNat 0))] (tm 18) (tm 18))), (wB 7 (doMove (tm 19)))]) s5_31)
noncomputable abbrev s5_33 : CC := (CC.seq s5_2 s5_32)
noncomputable abbrev b5 : CC := (CC.seq (CC.region [(wB 6 (doMove (O.c (V.b Bool.false))))]) s5_33)
theorem c5 : compFn Try.prog 5 = ⟨115, b5, [(Rs.tmp (slOf 6))]⟩ := by kernel_rfl
noncomputable abbrev s4_0 : CC := (CC.seq (CC.region [(wB 8 (doMove (O.c (V.b Bool.false))))]) CC.ret)
noncomputable abbrev s4_1 : CC := (CC.cond (tm 21) s4_0 CC.skip)
noncomputable abbrev s4_2 : CC := (CC.seq (CC.region [(wB 20 (doCall 12 [])), (wB 21 (doNot (tm 20)))]) s4_1)
noncomputable abbrev s4_3 : CC := (CC.seq (CC.region [(wB 8 (doMove (O.c (V.b Bool.true))))]) CC.ret)
noncomputable abbrev s4_4 : CC := (CC.cond (tm 29) s4_3 CC.skip)
noncomputable abbrev s4_5 : CC := (CC.seq (CC.region [(wB 22 (doMove (tm 0))), (wB 23 (doLen (tm 22))), (wB 24 (bin2 fGtr (tm 23) (oN 10))), (wB 25 (doMove (tm 24))), (wG 25 false 26 (doMove (tm 1))), (wG 25 false 27 (doLen (tm 26))), (wG 25 false 28 (bin2 fGtr (tm 27) (oN 10))), (wB 29 (doPick (tm 25) (O.c (V.b Bool.true)) (tm 28)))]) s4_4)
noncomputable abbrev s4_6 : CC := (CC.seq (CC.region [(wB 8 (doMove (O.c (V.b Bool.false))))]) CC.ret)
noncomputable abbrev s4_7 : CC := (CC.cond (tm 33) s4_6 CC.skip)
noncomputable abbrev s4_8 : CC := (CC.seq (CC.region [(wB 31 (doMove (tm 9))), (wB 32 (doCall 16 [(tm 31), (O.c (V.s 1 102)), (O.c (V.s 0 0))])), (wB 33 (bin2 fNeq (tm 32) (oN 0)))]) s4_7)
noncomputable abbrev s4_9 : CC := (CC.cond (tm 40) CC.skip (CC.exit 0))
noncomputable abbrev s4_10 : CC := (CC.seq (CC.region [(wB 34 (doMove (tm 11))), (wB 35 (doMove (tm 0))), (wB 36 (doLen (tm 35))), (wB 37 (doMove (tm 1))), (wB 38 (doLen (tm 37))), (wB 39 (bin2 fAdd (tm 36) (tm 38))), (wB 40 (bin2 fLss (tm 34) (tm 39)))]) s4_9)
noncomputable abbrev s4_11 : CC := (CC.region [(wB 47 (doMove (tm 9))), (wB 48 (doCall 24 [(tm 47)]))])
noncomputable abbrev s4_12 : CC := (CC.cond (tm 46) s4_11 CC.skip)
noncomputable abbrev s4_13 : CC := (CC.seq (CC.region [(wB 43 (doMove (tm 11))), (wB 44 (doMove (tm 0))), (wB 45 (doLen (tm 44))), (wB 46 (bin2 fEql (tm 43) (tm 45)))]) s4_12)
noncomputable abbrev s4_14 : CC := (CC.region [(wB 53 (doMove (tm 0))), (wB 54 (doMove (tm 11))), (wB 55 (doIndexAddr 1 (tm 53) (tm 54))), (wB 56 (doLoad (tm 55))), (wB 12 (doMove (tm 56)))])
noncomputable abbrev s4_15 : CC := (CC.region [(wB 57 (doMove (tm 1))), (wB 58 (doMove (tm 11))), (wB 59 (doMove (tm 0))), (wB 60 (doLen (tm 59))), (wB 61 (bin2 fSub (tm 58) (tm 60))), (wB 62 (doIndexAddr 1 (tm 57) (tm 61))), (wB 63 (doLoad (tm 62))), (wB 12 (doMove (tm 63)))])
noncomputable abbrev s4_16 : CC := (CC.cond (tm 52) s4_14 s4_15)
noncomputable abbrev s4_17 : CC := (CC.seq (CC.region [(wB 49 (doMove (tm 11))), (wB 50 (doMove (tm 0))), (wB 51 (doLen (tm 50))), (wB 52 (bin2 fLss (tm 49) (tm 51)))]) s4_16)
noncomputable abbrev s4_18 : CC := (CC.seq (CC.region [(wB 73 (doMove (tm 12))), (wB 74 (doLenS (tm 73))), (wB 75 (bin2 fGtr (tm 74) (oN 60))), (wB 8 (doMove (tm 75)))]) CC.ret)
noncomputable abbrev s4_19 : CC := (CC.cond (tm 72) s4_18 CC.skip)
noncomputable abbrev s4_20 : CC := (CC.seq (CC.region [(wB 64 (doMove (tm 12))), (wB 65 (doLenS (tm 64))), (wB 66 (bin2 fGtr (tm 65) (oN 60))), (wB 67 (doMove (tm 66))), (wG 67 false 68 (doMove (tm 9))), (wG 67 false 69 (doMove (tm 12))), (wG 67 false 70 (doCall 18 [(tm 68), (O.c (V.s 1 102)), (tm 69)])), (wG 67 false 71 (bin2 fNeq (tm 70) (oN 0))), (wB 72 (doPick (tm 67) (O.c (V.b Bool.true)) (tm 71)))]) s4_19)
noncomputable abbrev s4_21 : CC := (CC.region [(wB 76 (doMove (tm 10))), (wB 77 (doMove (tm 12))), (wB 78 (doConcat (tm 76) (tm 77))), (wB 10 (doMove (tm 78)))])
noncomputable abbrev s4_22 : CC := (CC.seq s4_20 s4_21)
noncomputable abbrev s4_23 : CC := (CC.seq s4_17 s4_22)
noncomputable abbrev s4_24 : CC := (CC.seq (CC.region [(wB 12 (doMove (O.c (V.s 0 0))))]) s4_23)
noncomputable abbrev s4_25 : CC := (CC.seq s4_13 s4_24)
noncomputable abbrev s4_26 : CC := (CC.block 1 s4_25)
noncomputable abbrev s4_27 : CC := (CC.region [(wB 41 (doMove (tm 11))), (wB 42 (bin2 fAdd (tm 41) (oN 1))), (wB 11 (doMove (tm 42)))])
noncomputable abbrev s4_28 : CC := (CC.seq s4_26 s4_27)
noncomputable abbrev l4_0 : CC := (CC.seq s4_10 s4_28)
noncomputable abbrev s4_29 : CC := (CC.loop l4_0)
noncomputable abbrev s4_30 : CC := (CC.block 0 s4_29)
noncomputable abbrev s4_31 : CC := (CC.seq (CC.region [(wB 11 (doMove (oN 0)))]) s4_30)
noncomputable abbrev s4_32 : CC := (CC.region [(wB 82 (doMove (tm 9))), (wB 83 (doCall 24 [(tm 82)]))])
noncomputable abbrev s4_33 : CC := (CC.cond (tm 81) s4_32 CC.skip)
noncomputable abbrev s4_34 : CC := (CC.seq (CC.region [(wB 79 (doMove (tm 1))), (wB 80 (doLen (tm 79))), (wB 81 (bin2 fEql (tm 80) (oN 0)))]) s4_33)
noncomputable abbrev s4_35 : CC := (CC.cond (tm 87) CC.skip (CC.exit 2))
noncomputable abbrev s4_36 : CC := (CC.seq (CC.region [(wB 84 (doMove (tm 15))), (wB 85 (doMove (tm 0))), (wB 86 (doLen (tm 85))), (wB 87 (bin2 fLss (tm 84) (tm 86)))]) s4_35)
noncomputable abbrev s4_37 : CC := (CC.region [(wB 90 (doMove (tm 13))), (wB 91 (doMove (tm 0))), (wB 92 (doMove (tm 15))), (wB 93 (doIndexAddr 1 (tm 91) (tm 92))), (wB 94 (doLoad (tm 93))), (wB 95 (doLenS (tm 94))), (wB 96 (bin2 fAdd (tm 90) (tm 95))), (wB 13 (doMove (tm 96)))])
noncomputable abbrev s4_38 : CC := (CC.block 3 s4_37)
noncomputable abbrev s4_39 : CC := (CC.region [(wB 88 (doMove (tm 15))), (wB 89 (bin2 fAdd (tm 88) (oN 1))), (wB 15 (doMove (tm 89)))])
noncomputable abbrev s4_40 : CC := (CC.seq s4_38 s4_39)
noncomputable abbrev l4_1 : CC := (CC.seq s4_36 s4_40)
noncomputable abbrev s4_41 : CC := (CC.loop l4_1)
noncomputable abbrev s4_42 : CC := (CC.block 2 s4_41)
noncomputable abbrev s4_43 : CC := (CC.seq (CC.region [(wB 15 (doMove (oN 0)))]) s4_42)
noncomputable abbrev s4_44 : CC := (CC.cond (tm 106) CC.skip (CC.exit 4))
noncomputable abbrev s4_45 : CC := (CC.seq (CC.region [(wB 97 (doMove (tm 16))), (wB 98 (doMove (tm 1))), (wB 99 (doLen (tm 98))), (wB 100 (bin2 fLss (tm 97) (tm 99))), (wB 101 (doMove (tm 100))), (wG 101 true 102 (doMove (tm 16))), (wG 101 true 103 (doMove (tm 2))), (wG 101 true 104 (doConv IntKind.i64 (tm 103))), (wG 101 true 105 (bin2 fLss (tm 102) (tm 104))), (wB 106 (doPick (tm 101) (tm 105) (O.c (V.b Bool.false))))]) s4_44)
noncomputable abbrev s4_46 : CC := (CC.region [(wB 109 (doMove (tm 14))), (wB 110 (doMove (tm 1))), (wB 111 (doMove (tm 16))), (wB 112 (doIndexAddr 1 (tm 110) (tm 111))), (wB 113 (doLoad (tm 112))), (wB 114 (doLenS (tm 113))), (wB 115 (bin2 fAdd (tm 109) (tm 114))), (wB 14 (doMove (tm 115)))])
noncomputable abbrev s4_47 : CC := (CC.block 5 s4_46)
noncomputable abbrev s4_48 : CC := (CC.region [(wB 107 (doMove (tm 16))), (wB 108 (bin2 fAdd (tm 107) (oN 1))), (wB 16 (doMove (tm 108)))])
noncomputable abbrev s4_49 : CC := (CC.seq s4_47 s4_48)
noncomputable abbrev l4_2 : CC := (CC.seq s4_45 s4_49)
noncomputable abbrev s4_50 : CC := (CC.loop l4_2)
noncomputable abbrev s4_51 : CC := (CC.block 4 s4_50)
noncomputable abbrev s4_52 : CC := (CC.seq (CC.region [(wB 16 (doMove (oN 0)))]) s4_51)
noncomputable abbrev s4_53 : CC := (CC.region [(wB 121 (doMove (tm 3))), (wB 122 (doConv IntKind.i64 (tm 121))), (wB 123 (doMove (tm 1))), (wB 124 (doMove (tm 2))), (wB 125 (doIndexAddr 1 (tm 123) (tm 124))), (wB 126 (doLoad (tm 125))), (wB 127 (doLenS (tm 126))), (wB 128 (doMin (tm 122) (tm 127))), (wB 17 (doMove (tm 128)))])
noncomputable abbrev s4_54 : CC := (CC.cond (tm 120) s4_53 CC.skip)
noncomputable abbrev s4_55 : CC := (CC.seq (CC.region [(wB 116 (doMove (tm 2))), (wB 117 (doConv IntKind.i64 (tm 116))), (wB 118 (doMove (tm 1))), (wB 119 (doLen (tm 118))), (wB 120 (bin2 fLss (tm 117) (tm 119)))]) s4_54)
noncomputable abbrev s4_56 : CC := (CC.seq (CC.region [(wB 8 (doMove (O.c (V.b Bool.false))))]) CC.ret)
noncomputable abbrev s4_57 : CC := (CC.cond (tm 133) s4_56 CC.skip)
noncomputable abbrev s4_58 : CC := (CC.seq (CC.region [(wB 129 (doMove (tm 9))), (wB 130 (doCall 34 [(tm 129)])), (wB 131 (doMove (tm 1))), (wB 132 (doLen (tm 131))), (wB 133 (bin2 fNeq (tm 130) (tm 132)))]) s4_57)
noncomputable abbrev s4_59 : CC := (CC.seq (CC.region [(wB 145 (doMove (tm 19))), (wB 146 (bin2 fEql (tm 145) (oN 0))), (wB 147 (doMove (tm 146))), (wG 147 true 148 (doMove (tm 18))), (wG 147 true 149 (doMove (tm 10))), (wG 147 true 150 (doMove (tm 13))), (wG 147 true 151 (doMove (tm 14))), (wG 147 true 152 (bin2 fAdd (tm 150) (tm 151))), (wG 147 true 153 (doMove (tm 17))), (wG 147 true 154 (bin2 fAdd (tm 152) (tm 153))), (wG 147 true 155 (doSSlice (tm 149) none (some (tm 154)))), (wG 147 true 156 (doSCmp eqS (tm 148) (tm 155))), (wB 157 (doPick (tm 147) (tm 156) (O.c (V.b Bool.false)))), (wB 158 (doMove (tm 157))), (wG 158 true 159 (doMove (tm 9))), (wG 158 true 160 (doCall 34 [(tm 159)])), (wG 158 true 161 (bin2 fEql (tm 160) (oN 0))), (wB 162 (doPick (tm 158) (tm 161) (O.c (V.b Bool.false)))), (wB 8 (doMove (tm 162)))]) CC.ret)
noncomputable abbrev s4_60 : CC := (CC.seq (CC.region [(wB 141 (doMove (tm 9))), (wB 142 (doCall 31 [(tm 141), (O.c (V.s 1 102))])), (wB 140 (doMove (tm 142))), (wB 143 (doExtract 0 (tm 140))), (wB 144 (doExtract 1 (tm 140))), (wB 18 (doMove (tm 143))), (wB 19 (doMove (tm 144)))]) s4_59)
noncomputable abbrev s4_61 : CC := (CC.seq (CC.region [(wB 134 (doMove (tm 9))), (wB 135 (doMove (tm 2))), (wB 136 (doConv IntKind.i64 (tm 135))), (wB 137 (doMove (tm 3))), (wB 138 (doConv IntKind.i64 (tm 137))), (wB 139 (doCall 28 [(tm 134), (tm 136), (tm 138)]))]) s4_60)
noncomputable abbrev s4_62 : CC := (CC.seq s4_58 s4_61)
noncomputable abbrev s4_63 : CC := (CC.seq s4_55 s4_62)
noncomputable abbrev s4_64 : CC := (CC.seq (CC.region [(wB 17 (doMove (oN 0)))]) s4_63)
noncomputable abbrev s4_65 : CC := (CC.seq s4_52 s4_64)
noncomputable abbrev s4_66 : CC := (CC.seq s4_43 s4_65)
noncomputable abbrev s4_67 : CC := (CC.seq (CC.region [(wB 13 (doMove (oN 0))), (wB 14 (doMove (oN 0)))]) s4_66)
noncomputable abbrev s4_68 : CC := (CC.seq s4_34 s4_67)
noncomputable abbrev s4_69 : CC := (CC.seq s4_31 s4_68)
noncomputable abbrev s4_70 : CC := (CC.seq (CC.region [(wB 10 (doMove (O.c (V.s 0 0))))]) s4_69)
noncomputable abbrev s4_71 : CC := (CC.seq s4_8 s4_70)
noncomputable abbrev s4_72 : CC := (CC.seq (CC.region [(wB 30 (doCall 14 [(oN 1000000)])), (wB 9 (doMove (tm 30)))]) s4_71)
noncomputable abbrev s4_73 : CC := (CC.seq s4_5 s4_72)
noncomputable abbrev s4_74 : CC := (CC.seq s4_2 s4_73)
noncomputable abbrev b4 : CC := (CC.seq (CC.region [(wB 8 (doMove (O.c (V.b Bool.false))))]) s4_74)
theorem c4 : compFn Try.prog 4 = ⟨163, b4, [(Rs.tmp (slOf 8))]⟩ := by kernel_rfl
noncomputable abbrev s7_0 : CC := (CC.seq (CC.region [(wB 6 (doMove (O.c (V.b Bool.false))))]) CC.ret)
noncomputable abbrev s7_1 : CC := (CC.cond (tm 11) s7_0 CC.skip)
noncomputable abbrev s7_2 : CC := (CC.seq (CC.region [(wB 10 (doCall 12 [])), (wB 11 (doNot (tm 10)))]) s7_1)
noncomputable abbrev s7_3 : CC := (CC.seq (CC.region [(wB 6 (doMove (O.c (V.b Bool.true))))]) CC.ret)
noncomputable abbrev s7_4 : CC := (CC.cond (tm 14) s7_3 CC.skip)
noncomputable abbrev s7_5 : CC := (CC.seq (CC.region [(wB 12 (doMove (tm 0))), (wB 13 (doLenS (tm 12))), (wB 14 (bin2 fGtr (tm 13) (oN 100)))]) s7_4)
noncomputable abbrev s7_6 : CC := (CC.seq (CC.region [(wB 6 (doMove (O.c (V.b Bool.false))))]) CC.ret)
noncomputable abbrev s7_7 : CC := (CC.cond (tm 33) s7_6 CC.skip)
noncomputable abbrev s7_8 : CC := (CC.seq (CC.region [(wB 21 (doMove (tm 7))), (wB 22 (doCall 22 [(tm 21), (O.c (V.s 1 102))])), (wB 23 (bin2 fNeq (tm 22) (oN 0))), (wB 24 (doMove (tm 23))), (wG 24 false 25 (doMove (tm 7))), (wG 24 false 26 (doCall 22 [(tm 25), (O.c (V.s 1 102))])), (wG 24 false 27 (bin2 fNeq (tm 26) (oN 14))), (wB 28 (doPick (tm 24) (O.c (V.b Bool.true)) (tm 27))), (wB 29 (doMove (tm 28))), (wG 29 false 30 (doMove (tm 7))), (wG 29 false 31 (doCall 36 [(tm 30)])), (wG 29 false 32 (bin2 fNeq (tm 31) (oN 0))), (wB 33 (doPick (tm 29) (O.c (V.b Bool.true)) (tm 32)))]) s7_7)
noncomputable abbrev s7_9 : CC := (CC.seq (CC.region [(wB 6 (doMove (O.c (V.b Bool.false))))]) CC.ret)
noncomputable abbrev s7_10 : CC := (CC.cond (tm 39) s7_9 CC.skip)
noncomputable abbrev s7_11 : CC := (CC.seq (CC.region [(wB 34 (doMove (tm 2))), (wB 35 (doMove (tm 34))), (wG 35 true 36 (doMove (tm 7))), (wG 35 true 37 (doCall 16 [(tm 36), (O.c (V.s 1 102)), (O.c (V.s 5 478694368626))])), (wG 35 true 38 (bin2 fNeq (tm 37) (oN 0))), (wB 39 (doPick (tm 35) (tm 38) (O.c (V.b Bool.false))))]) s7_10)
noncomputable abbrev s7_12 : CC := (CC.seq (CC.region [(wB 54 (doMove (tm 9))), (wB 55 (bin2 fEql (tm 54) (oN 0))), (wB 56 (doMove (tm 55))), (wG 56 true 57 (doMove (tm 8))), (wG 56 true 58 (doMove (tm 0))), (wG 56 true 59 (doSCmp eqS (tm 57) (tm 58))), (wB 60 (doPick (tm 56) (tm 59) (O.c (V.b Bool.false)))), (wB 6 (doMove (tm 60)))]) CC.ret)
noncomputable abbrev s7_13 : CC := (CC.seq (CC.region [(wB 68 (doMove (tm 9))), (wB 69 (bin2 fEql (tm 68) (oN 0))), (wB 70 (doMove (tm 69))), (wG 70 true 71 (doMove (tm 8))), (wG 70 true 72 (doSCmp eqS (tm 71) (O.c (V.s 5 478694368626)))), (wB 73 (doPick (tm 70) (tm 72) (O.c (V.b Bool.false)))), (wB 6 (doMove (tm 73)))]) CC.ret)
noncomputable abbrev s7_14 : CC := (CC.cond (tm 61) s7_13 CC.skip)
noncomputable abbrev s7_15 : CC := (CC.seq (CC.region [(wB 62 (doMove (tm 2))), (wB 63 (doMove (tm 62))), (wG 63 true 64 (doMove (tm 1))), (wG 63 true 65 (doRem (tm 64) (O.c (V.i IntKind.u8 (Int.ofNat 4))))), (wG 63 true 66 (bin2 fGeq (tm 65) (O.c (V.i IntKind.u8 (Int.ofNat 2))))), (wB 67 (doPick (tm 63) (tm 66) (O.c (V.b Bool.false)))), (wB 61 (doMove (tm 67)))]) s7_14)
noncomputable abbrev s7_16 : CC := (CC.cond (tm 50) s7_12 s7_15)
noncomputable abbrev s7_17 : CC := (CC.seq (CC.region [(wB 51 (doMove (tm 1))), (wB 52 (doRem (tm 51) (O.c (V.i IntKind.u8 (Int.ofNat 4))))), (wB 53 (bin2 fEql (tm 52) (O.c (V.i IntKind.u8 (Int.ofNat 0))))), (wB 50 (doMove (tm 53)))]) s7_16)
noncomputable abbrev s7_18 : CC := (CC.block 0 s7_17)
noncomputable abbrev s7_19 : CC := (CC.seq (CC.region [(wB 74 (doMove (tm 9))), (wB 75 (bin2 fEql (tm 74) (oN 14))), (wB 76 (doMove (tm 75))), (wG 76 true 77 (doMove (tm 7))), (wG 76 true 78 (doCall 35 [(tm 77)])), (wG 76 true 79 (doLen (tm 78))), (wG 76 true 80 (bin2 fEql (tm 79) (oN 0))), (wB 81 (doPick (tm 76) (tm 80) (O.c (V.b Bool.false)))), (wB 6 (doMove (tm 81)))]) CC.ret)
noncomputable abbrev s7_20 : CC := (CC.seq s7_18 s7_19)
noncomputable abbrev s7_21 : CC := (CC.seq (CC.region [(wB 46 (doMove (tm 7))), (wB 47 (doCall 31 [(tm 46), (O.c (V.s 1 102))])), (wB 45 (doMove (tm 47))), (wB 48 (doExtract 0 (tm 45))), (wB 49 (doExtract 1 (tm 45))), (wB 8 (doMove (tm 48))), (wB 9 (doMove (tm 49)))]) s7_20)
noncomputable abbrev s7_22 : CC := (CC.seq (CC.region [(wB 40 (doMove (tm 7))), (wB 41 (doMove (tm 1))), (wB 42 (doRem (tm 41) (O.c (V.i IntKind.u8 (Int.ofNat 4))))), (wB 43 (doConv IntKind.i64 (tm 42))), (wB 44 (doCall 28 [(tm 40), (tm 43), (oN 0)]))]) s7_21)
noncomputable abbrev s7_23 : CC := (CC.seq s7_11 s7_22)
noncomputable abbrev s7_24 : CC := (CC.seq s7_8 s7_23)
noncomputable abbrev s7_25 : CC := (CC.seq (CC.region [(wB 19 (doMove (tm 7))), (wB 20 (doCall 24 [(tm 19)]))]) s7_24)
noncomputable abbrev s7_26 : CC := (CC.seq (CC.region [(wB 16 (doMove (tm 7))), (wB 17 (doMove (tm 0))), (wB 18 (doCall 16 [(tm 16), (O.c (V.s 1 102)), (tm 17)]))]) s7_25)
noncomputable abbrev s7_27 : CC := (CC.seq (CC.region [(wB 15 (doCall 14 [(oN 1000000)])), (wB 7 (doMove (tm 15)))]) s7_26)
noncomputable abbrev s7_28 : CC := (CC.seq s7_5 s7_27)
noncomputable abbrev s7_29 : CC := (CC.seq s7_2 s7_28)
noncomputable abbrev b7 : CC := (CC.seq (CC.region [(wB 6 (doMove (O.c (V.b Bool.false))))]) s7_29)
theorem c7 : compFn Try.prog 7 = ⟨82, b7, [(Rs.tmp (slOf 6))]⟩ := by kernel_rfl
end Go.Proofs.Ytjlhfoadabkahaa

set_option maxRecDepth 100000
set_option maxHeartbeats 8000000
set_option linter.all false
namespace Go.Proofs.Ytjlhfoadabkahaa
open Go Go.Ev
section
variable {h : H} {s : B} {D D' : DS} {P : B → Prop} {k b : List UInt8}
theorem used_one (k b : List UInt8) : usedR [(k, b)] = b.length := by unfold usedR; simp
end
end Go.Proofs.Ytjlhfoadabkahaa

set_option maxRecDepth 100000
set_option maxHeartbeats 8000000
set_option linter.all false
namespace Go.Proofs.Ytjlhfoadabkahaa
open Go Go.Ev
section
variable {h : H} {a b c : List (List UInt8)} {i la : Nat} {x t : List UInt8} {K : List Fi} {A : List DA} {m : Int}
def addD (L : List (List UInt8)) : List DA := L.map fun t => ⟨2, [102], t⟩
theorem cat_s (h : i < c.length) : (c.take (i + 1)).flatten = (c.take i).flatten ++ c.getD i [] := by
  rw [List.take_succ_eq_append_getElem h, List.flatten_append]
  simp [List.getD, h]
theorem addD_s (h : i < c.length) : addD (c.take (i + 1)) = addD (c.take i) ++ [⟨2, [102], c.getD i []⟩] := by
  unfold addD
  rw [List.take_succ_eq_append_getElem h, List.map_append]
  simp [List.getD, h]
theorem addD_d (h : i < c.length) (hl : la ≤ i) : addD ((c.take (i + 1)).drop la) = addD ((c.take i).drop la) ++ [⟨2, [102], c.getD i []⟩] := by
  unfold addD
  rw [List.take_succ_eq_append_getElem h, List.drop_append_of_le_length (by rw [List.length_take]; omega), List.map_append]
  simp [List.getD, h]
theorem add_0 (hr : (x.length : Int) + (t.length : Int) ≤ m) : addE ⟨[([102], x)], K, A, m⟩ [102] t = 0 := by
  unfold addE
  have e : lookR [([102], x)] [102] = some x := if_pos rfl
  show (if lookR [([102], x)] [102] = none then (14 : Int) else if max 0 (m - (usedR [([102], x)] : Int)) < (t.length : Int) then 15 else 0) = _
  rw [e, if_neg (by simp), used_one, if_neg (by omega)]
theorem add_D : doD ⟨[([102], x)], K, A, m⟩ ⟨2, [102], t⟩ = ⟨[([102], x ++ t)], K, A ++ [⟨2, [102], t⟩], m⟩ := rfl
/-- at a round's head -/
def HdK (c : List (List UInt8)) (la i : Nat) (K : List Fi) (A : List DA) : Prop := if i ≤ la then K = [] ∧ A = ⟨1, [102], []⟩ :: addD (c.take i) else K = [([102], (c.take la).flatten)] ∧ A = addD ((c.take i).drop la)
/-- .. behind what is kept -/
def MdK (c : List (List UInt8)) (la i : Nat) (K : List Fi) (A : List DA) : Prop := if i < la then K = [] ∧ A = ⟨1, [102], []⟩ :: addD (c.take i) else K = [([102], (c.take la).flatten)] ∧ A = addD ((c.take i).drop la)
theorem MdK.next (h : MdK c la i K A) (hi : i < c.length) : HdK c la (i + 1) K (A ++ [⟨2, [102], c.getD i []⟩]) := by
  unfold MdK at h
  unfold HdK
  by_cases e : i < la
  · rw [if_pos e] at h
    rw [if_pos (by omega), h.1, h.2, addD_s hi]
    exact ⟨rfl, rfl⟩
  · rw [if_neg e] at h
    rw [if_neg (by omega), h.1, h.2, addD_d hi (by omega)]
    exact ⟨rfl, rfl⟩
theorem HdK.md (h : HdK c la i K A) (hi : i ≠ la) : MdK c la i K A := by
  unfold HdK at h
  unfold MdK
  by_cases e : i < la
  · rw [if_pos (by omega)] at h; rw [if_pos e]; exact h
  · rw [if_neg (by omega)] at h; rw [if_neg e]; exact h
theorem MdK.keep : MdK c i i [([102], (c.take i).flatten)] [] := by
  unfold MdK
  rw [if_neg (by omega)]
  refine ⟨rfl, ?_⟩
  unfold addD
  simp
theorem HdK.len (h : HdK c la i K A) (hc : c.length ≤ 20) : A.length ≤ 10000 := by
  unfold HdK at h
  split at h
  · rw [h.2]; unfold addD; simp; omega
  · rw [h.2]; unfold addD; simp; omega
theorem MdK.len (h : MdK c la i K A) (hc : c.length ≤ 20) : A.length ≤ 10000 := by
  unfold MdK at h
  split at h
  · rw [h.2]; unfold addD; simp; omega
  · rw [h.2]; unfold addD; simp; omega
/-- what stays behind the crash -/
theorem keeps_c {n : Nat} : ∀ (B : List (List UInt8)) (y : List UInt8), runR [([102], y)] (addD B) = [([102], y ++ B.flatten)]
  | [], y => by rw [List.flatten_nil, List.append_nil]; rfl
  | t :: B, y => by
    have e : runR [([102], y)] (addD (t :: B)) = runR [([102], y ++ t)] (addD B) := rfl
    rw [e, keeps_c (n := n) B (y ++ t), List.flatten_cons, List.append_assoc]
theorem keeps_crash {n m : Nat} {y : List UInt8} : ∃ C, crashR [([102], y)] (addD b) (n : Int) (m : Int) = C ∧ gt C [102] = some (y ++ ((b.take n).flatten ++ (if n < b.length then (b.getD n []).take m else []))) := by
  refine ⟨_, rfl, ?_⟩
  have hl : (addD b).length = b.length := List.length_map ..
  have ht : (addD b).take n = addD (b.take n) := List.map_take.symm
  by_cases hn : n < b.length
  · have e1 : hlN (n : Int) (addD b).length = n := by rw [hl]; unfold hlN; omega
    have hg : (addD b).getD n default = ⟨2, [102], b.getD n []⟩ := by unfold addD; simp [List.getD, hn]
    rw [crash_lt (by rw [e1, hl]; exact hn), e1, ht, hg, keeps_c (n := 0), if_pos hn]
    unfold tornR
    by_cases hk : 0 < hlN (m : Int) (b.getD n []).length
    · rw [if_pos ⟨show (2 : Int) ≤ 2 by decide, hk⟩]
      have e2 : (b.getD n []).take (hlN (m : Int) (b.getD n []).length) = (b.getD n []).take m := by
        have : hlN (m : Int) (b.getD n []).length = min m (b.getD n []).length := by unfold hlN; omega
        rw [this, List.take_eq_take_iff]
        omega
      show gt (withR [([102], y ++ (b.take n).flatten)] ([102], (lookR [([102], y ++ (b.take n).flatten)] [102]).getD [] ++ (b.getD n []).take (hlN (m : Int) (b.getD n []).length))) [102] = _
      rw [e2, ← List.append_assoc]
      rfl
    · rw [if_neg fun e => hk e.2]
      have e2 : (b.getD n []).take m = [] := by
        have : hlN (m : Int) (b.getD n []).length = min m (b.getD n []).length := by unfold hlN; omega
        rw [this] at hk
        rw [List.take_eq_nil_iff]
        rcases Nat.eq_zero_or_pos m with h | h
        · exact .inl h
        · right; exact List.eq_nil_of_length_eq_zero (by omega)
      rw [e2, List.append_nil]
      rfl
  · have e1 : ¬ hlN (n : Int) (addD b).length < (addD b).length := by rw [hl]; unfold hlN; omega
    rw [crash_ge e1, keeps_c (n := 0), if_neg hn, List.append_nil, List.take_of_length_le (by omega)]
    rfl
theorem tl_lt {v : V} {L : List (List UInt8)} (a : Tl h v L) {q : B} (hq : isOf v q) : B.val q < B.val h.next := by
  obtain ⟨g, off, n, fin, cap, rfl⟩ := hq
  rcases a with ⟨e, _⟩ | ⟨id, g', off', fin', cap', e, _, h3, _⟩
  · cases e
  · cases e; exact h3
theorem tl_stay {v : V} {L : List (List UInt8)} {h' : H} {p : B → Prop} (a : Tl h v L) (s : Stay p h h') (hp : ∀ q, isOf v q → ¬ p q) : Tl h' v L := Lst.stay a s fun id g off n fin cap e => hp id ⟨_, _, _, _, _, e⟩
end
end Go.Proofs.Ytjlhfoadabkahaa

set_option maxRecDepth 100000
set_option maxHeartbeats 8000000
set_option linter.all false
namespace Go.Proofs.Ytjlhfoadabkahaa
open Go Go.Ev
/-- a cut between two parts of code -/
def MidK (Mid : F → H → Prop) : Ev.X → F → H → Prop
  | .normal, t, h => Mid t h
  | _, _, _ => False
theorem mid_n {Mid : F → H → Prop} {t : F} {h : H} : MidK Mid .normal t h = Mid t h := rfl
theorem Ok_mid {P : Program} {nt : Nat} {a b : CC} {t : F} {h : H} {K : Ev.X → F → H → Prop} (Mid : F → H → Prop) (p : Ok P nt a t h (MidK Mid)) (k : ∀ t g, Mid t g → Ok P nt b t g K) : Ok P nt (.seq a b) t h K :=
  Ok.sq (p.mono fun x t g m => by cases x with
    | normal => exact k t g m
    | ret => exact m.elim
    | exit id => exact m.elim)
section
variable {h : H}
theorem keeps_take {a b : List (List UInt8)} {n m tr : Nat} (ht : tr = if n < b.length then min m (b.getD n []).length else 0) :
    a.flatten ++ ((b.take n).flatten ++ (if n < b.length then (b.getD n []).take m else [])) = (a ++ b).flatten.take (a.flatten.length + (b.take n).flatten.length + tr) ∧ a.flatten.length + (b.take n).flatten.length + tr ≤ (a ++ b).flatten.length := by
  rw [List.flatten_append, Nat.add_assoc, List.take_length_add_append, List.length_append]
  by_cases hn : n < b.length
  · rw [if_pos hn] at ht ⊢
    have eb : b.flatten = (b.take n).flatten ++ (b.getD n [] ++ (b.drop (n + 1)).flatten) := by
      conv => lhs; rw [← List.take_append_drop n b, List.flatten_append, List.drop_eq_getElem_cons hn, List.flatten_cons]
      simp [List.getD, hn]
    have e2 : (b.getD n []).take m = (b.getD n []).take tr := by rw [List.take_eq_take_iff]; omega
    constructor
    · conv => rhs; rw [eb, List.take_length_add_append, List.take_append_of_le_length (by omega)]
      rw [e2]
    · rw [eb, List.length_append, List.length_append]; omega
  · rw [if_neg hn] at ht ⊢
    rw [List.take_of_length_le (by omega : b.length ≤ n), ht, List.append_nil]
    refine ⟨?_, by omega⟩
    rw [Nat.add_zero, List.take_length]
theorem keeps_tail {Q : V → H → Prop} {t : F} {s : B} {P : B → Prop} {va vb : V} {a b c : List (List UInt8)} {n m : UInt8} (hQ : Q = fun y _ => y = .b true) (hcat : a ++ b = c) (hla : a.length ≤ 10) (hlb : b.length ≤ 10) (hx : c.flatten.length ≤ 1200)
    (f0 : get 0 t = va) (f1 : get 1 t = vb) (f2 : get 2 t = .i .u8 (n.toNat : Int)) (f3 : get 3 t = .i .u8 (m.toNat : Int)) (f9 : get 9 t = .p s 0 0 3) (f10 : get 10 t = sv c.flatten) (og : One h s ⟨[([102], c.flatten)], [([102], a.flatten)], addD b, 1000000⟩ P)
    (tA : Tl h va a) (tB : Tl h vb b) (hfg : B.val h.floor ≤ B.val h.next) (hlt : ∀ q, isOf vb q → ¬ P q) : Ok Try.prog 163 s4_67 t h (FnK [Rs.tmp (slOf 8)] Q) := by
  have hn0 := n.toNat_lt
  have hm0 := m.toNat_lt
  have e1 : V.s 1 102 = sv [102] := by kernel_rfl
  have lA : a.flatten.length ≤ c.flatten.length ∧ b.flatten.length ≤ c.flatten.length := by rw [← hcat, List.flatten_append, List.length_append]; omega
  have lT : ∀ (L : List (List UInt8)) i, (L.take i).flatten.length ≤ L.flatten.length := fun L i => by
    conv => rhs; rw [← List.take_append_drop i L, List.flatten_append, List.length_append]
    omega
  repeat' (first
    | refine St.h ?_
    | simp (disch := first | omega | (simp only [lnv]; omega)) only [wlk, mwk, ↓get_put', ↓reduceIte, Nat.min_eq_left, seval]
    | (with_reducible (first | apply cd_split | apply gd_split)) <;> (intro hc; (try simp only [hcn] at hc); (try simp only [hc]); (try simp only [hcl] at hc); try omega))
  refine Ok.lp (fun mm t g => ∃ i, mm = a.length - i ∧ i ≤ a.length ∧ h = g ∧ get 0 t = va ∧ get 1 t = vb ∧ get 2 t = .i .u8 (n.toNat : Int) ∧ get 3 t = .i .u8 (m.toNat : Int) ∧ get 9 t = .p s 0 0 3 ∧ get 10 t = sv c.flatten ∧ get 13 t = .i .i64 ((a.take i).flatten.length : Int) ∧ get 14 t = .i .i64 0 ∧ get 15 t = .i .i64 (i : Int)) a.length ?_ ?_
  · simp (disch := first | omega | (simp only [lnv]; omega)) only [wlk, mwk, ↓get_put', ↓reduceIte, Nat.min_eq_left, seval, f0, f1, f2, f3, f9, f10]
    refine ⟨0, by omega, by omega, ?_⟩
    repeat' (first | trivial | rfl | refine And.intro ?_ ?_)
  rintro I hI mm t1 g ⟨i, rfl, hi, rfl, g0, g1, g2, g3, g9, g10, g13, g14, g15⟩
  have lt1 := lT a i
  repeat' (first
    | refine St.h ?_
    | simp (disch := first | omega | (simp only [lnv]; omega)) only [wlk, mwk, ↓get_put', ↓reduceIte, Nat.min_eq_left, seval, g0, g1, g2, g3, g9, g10, g13, g14, g15, tA.ln, tA.ix, tA.ld, Int.toNat_natCast]
    | (with_reducible (first | apply cd_split | apply gd_split)) <;> (intro hc; (try simp only [hcn] at hc); (try simp only [hc]); (try simp only [hcl] at hc); try omega))
  · have lt1' := lT a (i + 1)
    have hs1 : ((a.take i).flatten.length : Int) + ((a.getD i []).length : Int) = ((a.take (i + 1)).flatten.length : Int) := by rw [cat_s (by omega), List.length_append]; omega
    refine lp_next hI (a.length - (i + 1)) (by omega) ⟨i + 1, rfl, by omega, rfl, by simp (disch := first | omega | (simp only [lnv]; omega)) only [wlk, mwk, ↓get_put', ↓reduceIte, Nat.min_eq_left, seval, g0], by simp (disch := first | omega | (simp only [lnv]; omega)) only [wlk, mwk, ↓get_put', ↓reduceIte, Nat.min_eq_left, seval, g1], by simp (disch := first | omega | (simp only [lnv]; omega)) only [wlk, mwk, ↓get_put', ↓reduceIte, Nat.min_eq_left, seval, g2], by simp (disch := first | omega | (simp only [lnv]; omega)) only [wlk, mwk, ↓get_put', ↓reduceIte, Nat.min_eq_left, seval, g3], by simp (disch := first | omega | (simp only [lnv]; omega)) only [wlk, mwk, ↓get_put', ↓reduceIte, Nat.min_eq_left, seval, g9], by simp (disch := first | omega | (simp only [lnv]; omega)) only [wlk, mwk, ↓get_put', ↓reduceIte, Nat.min_eq_left, seval, g10], by simp (disch := first | omega | (simp only [lnv]; omega)) only [wlk, mwk, ↓get_put', ↓reduceIte, Nat.min_eq_left, seval, g13, hs1], by simp (disch := first | omega | (simp only [lnv]; omega)) only [wlk, mwk, ↓get_put', ↓reduceIte, Nat.min_eq_left, seval, g14], by simp (disch := first | omega | (simp only [lnv]; omega)) only [wlk, mwk, ↓get_put', ↓reduceIte, Nat.min_eq_left, seval, g15]; rfl⟩
  obtain rfl : i = a.length := by omega
  rw [List.take_length] at g13
  clear hI f0 f1 f2 f3 f9 f10
  refine Ok.lp (fun mm t g => ∃ i, mm = b.length - i ∧ i ≤ b.length ∧ i ≤ n.toNat ∧ h = g ∧ get 1 t = vb ∧ get 2 t = .i .u8 (n.toNat : Int) ∧ get 3 t = .i .u8 (m.toNat : Int) ∧ get 9 t = .p s 0 0 3 ∧ get 10 t = sv c.flatten ∧ get 13 t = .i .i64 (a.flatten.length : Int) ∧ get 14 t = .i .i64 ((b.take i).flatten.length : Int) ∧ get 16 t = .i .i64 (i : Int)) b.length ?_ ?_
  · simp (disch := first | omega | (simp only [lnv]; omega)) only [wlk, mwk, ↓get_put', ↓reduceIte, Nat.min_eq_left, seval, g1, g2, g3, g9, g10, g13, g14]
    refine ⟨0, by omega, by omega, by omega, ?_⟩
    repeat' (first | trivial | rfl | refine And.intro ?_ ?_)
  clear g0 g1 g2 g3 g9 g10 g13 g14 g15
  rintro I hI mm t2 g ⟨i, rfl, hi, hin, rfl, g1, g2, g3, g9, g10, g13, g14, g16⟩
  have lt2 := lT b i
  repeat' (first
    | refine St.h ?_
    | simp (disch := first | omega | (simp only [lnv]; omega)) only [wlk, mwk, ↓get_put', ↓reduceIte, Nat.min_eq_left, seval, g1, g2, g3, g9, g10, g13, g14, g16, tB.ln, tB.ix, tB.ld, Int.toNat_natCast]
    | (with_reducible (first | apply cd_split | apply gd_split)) <;> (intro hc; (try simp only [hcn] at hc); (try simp only [hc]); (try simp only [hcl] at hc); try omega))
  · have lt2' := lT b (i + 1)
    have hs1 : ((b.take i).flatten.length : Int) + ((b.getD i []).length : Int) = ((b.take (i + 1)).flatten.length : Int) := by rw [cat_s (by omega), List.length_append]; omega
    refine lp_next hI (b.length - (i + 1)) (by omega) ⟨i + 1, rfl, by omega, by omega, rfl, by simp (disch := first | omega | (simp only [lnv]; omega)) only [wlk, mwk, ↓get_put', ↓reduceIte, Nat.min_eq_left, seval, g1], by simp (disch := first | omega | (simp only [lnv]; omega)) only [wlk, mwk, ↓get_put', ↓reduceIte, Nat.min_eq_left, seval, g2], by simp (disch := first | omega | (simp only [lnv]; omega)) only [wlk, mwk, ↓get_put', ↓reduceIte, Nat.min_eq_left, seval, g3], by simp (disch := first | omega | (simp only [lnv]; omega)) only [wlk, mwk, ↓get_put', ↓reduceIte, Nat.min_eq_left, seval, g9], by simp (disch := first | omega | (simp only [lnv]; omega)) only [wlk, mwk, ↓get_put', ↓reduceIte, Nat.min_eq_left, seval, g10], by simp (disch := first | omega | (simp only [lnv]; omega)) only [wlk, mwk, ↓get_put', ↓reduceIte, Nat.min_eq_left, seval, g13], by simp (disch := first | omega | (simp only [lnv]; omega)) only [wlk, mwk, ↓get_put', ↓reduceIte, Nat.min_eq_left, seval, g14, hs1], by simp (disch := first | omega | (simp only [lnv]; omega)) only [wlk, mwk, ↓get_put', ↓reduceIte, Nat.min_eq_left, seval, g16]; rfl⟩
  · have hi' : i = n.toNat := by omega
    have hC := keeps_crash (b := b) (n := n.toNat) (m := m.toNat) (y := a.flatten)
    have hTR : min m.toNat (b.getD n.toNat []).length = if n.toNat < b.length then min m.toNat (b.getD n.toNat []).length else 0 := by rw [if_pos (by omega)]
    rw [hi'] at g14
    have hmi : min (m.toNat : Int) ((b.getD n.toNat []).length : Int) = ((min m.toNat (b.getD n.toNat []).length : Nat) : Int) := by omega
    refine CL.pure ((one_loose og (by show (addD b).length ≤ 10000; unfold addD; rw [List.length_map]; omega)).y (e' := .i .i64 (b.length : Int)) (by show V.i .i64 (((addD b).length : Nat) : Int) = _; unfold addD; rw [List.length_map])) ?_
    repeat' (first
      | refine St.h ?_
      | simp (disch := first | omega | (simp only [lnv]; omega)) only [wlk, mwk, ↓get_put', ↓reduceIte, Nat.min_eq_left, seval, g1, g2, g3, g9, g10, g13, g14, g16, tB.ln]
      | (with_reducible (first | apply cd_split | apply gd_split)) <;> (intro hc; (try simp only [hcn] at hc); (try simp only [hc]); (try simp only [hcl] at hc); try omega))
    refine CL.mk (one_crash og (n := (n.toNat : Int)) (m := (m.toNat : Int)) (by show (addD b).length ≤ 10000; unfold addD; rw [List.length_map]; omega) hfg) ?_
    rintro y h2 ⟨rfl, P2, o2, gr⟩
    have hf2 := gr.1.fl hfg
    have hC := hC
    obtain ⟨C, eC, gC⟩ := hC
    rw [show ((⟨[([102], c.flatten)], [([102], a.flatten)], addD b, 1000000⟩ : DS)).A = addD b from rfl, show ((⟨[([102], c.flatten)], [([102], a.flatten)], addD b, 1000000⟩ : DS)).K = [([102], a.flatten)] from rfl, eC] at o2
    repeat' (first
      | refine St.h ?_
      | simp (disch := first | omega | (simp only [lnv]; omega)) only [wlk, mwk, ↓get_put', ↓reduceIte, Nat.min_eq_left, seval, g1, g2, g3, g9, g10, g13, g14, g16]
      | (with_reducible (first | apply cd_split | apply gd_split)) <;> (intro hc; (try simp only [hcn] at hc); (try simp only [hc]); (try simp only [hcl] at hc); try omega))
    refine CL.pure ((one_get o2 (k := [102])).y (e' := .tu [sv (c.flatten.take (a.flatten.length + (b.take n.toNat).flatten.length + min m.toNat (b.getD n.toNat []).length)), .i .i64 0]) (by show V.tu [sv ((gt C [102]).getD []), .i .i64 (if gt C [102] = none then 14 else 0)] = _; rw [gC, (keeps_take hTR).1, hcat]; rfl)) ?_
    have hle := (keeps_take (a := a) hTR).2
    rw [hcat] at hle
    have eI : (a.flatten.length : Int) + ((b.take n.toNat).flatten.length : Int) + min (m.toNat : Int) ((b.getD n.toNat []).length : Int) = ((a.flatten.length + (b.take n.toNat).flatten.length + min m.toNat (b.getD n.toNat []).length : Nat) : Int) := by omega
    repeat' (first
      | refine St.h ?_
      | simp (disch := first | omega | (simp only [lnv]; omega)) only [wlk, mwk, ↓get_put', ↓reduceIte, Nat.min_eq_left, seval, g1, g2, g3, g9, g10, g13, g14, g16, eI, Int.toNat_natCast]
      | (with_reducible (first | apply cd_split | apply gd_split)) <;> (intro hc; (try simp only [hcn] at hc); (try simp only [hc]); (try simp only [hcl] at hc); try omega))
    refine CL.pure ((one_loose o2 (by simp)).y (e' := .i .i64 0) rfl) ?_
    repeat' (first
      | refine St.h ?_
      | simp (disch := first | omega | (simp only [lnv]; omega)) only [wlk, mwk, ↓get_put', ↓reduceIte, Nat.min_eq_left, seval]
      | (with_reducible (first | apply cd_split | apply gd_split)) <;> (intro hc; (try simp only [hcn] at hc); (try simp only [hc]); (try simp only [hcl] at hc); try omega))
    subst hQ; rfl
  · have hi' : i = b.length := by omega
    have hC := keeps_crash (b := b) (n := n.toNat) (m := m.toNat) (y := a.flatten)
    have hTR : 0 = if n.toNat < b.length then min m.toNat (b.getD n.toNat []).length else 0 := by rw [if_neg (by omega)]
    rw [hi', List.take_length] at g14
    have en : b.take n.toNat = b := List.take_of_length_le (by omega)
    rw [← en] at g14
    refine CL.pure ((one_loose og (by show (addD b).length ≤ 10000; unfold addD; rw [List.length_map]; omega)).y (e' := .i .i64 (b.length : Int)) (by show V.i .i64 (((addD b).length : Nat) : Int) = _; unfold addD; rw [List.length_map])) ?_
    repeat' (first
      | refine St.h ?_
      | simp (disch := first | omega | (simp only [lnv]; omega)) only [wlk, mwk, ↓get_put', ↓reduceIte, Nat.min_eq_left, seval, g1, g2, g3, g9, g10, g13, g14, g16, tB.ln]
      | (with_reducible (first | apply cd_split | apply gd_split)) <;> (intro hc; (try simp only [hcn] at hc); (try simp only [hc]); (try simp only [hcl] at hc); try omega))
    refine CL.mk (one_crash og (n := (n.toNat : Int)) (m := (m.toNat : Int)) (by show (addD b).length ≤ 10000; unfold addD; rw [List.length_map]; omega) hfg) ?_
    rintro y h2 ⟨rfl, P2, o2, gr⟩
    have hf2 := gr.1.fl hfg
    have hC := hC
    obtain ⟨C, eC, gC⟩ := hC
    rw [show ((⟨[([102], c.flatten)], [([102], a.flatten)], addD b, 1000000⟩ : DS)).A = addD b from rfl, show ((⟨[([102], c.flatten)], [([102], a.flatten)], addD b, 1000000⟩ : DS)).K = [([102], a.flatten)] from rfl, eC] at o2
    repeat' (first
      | refine St.h ?_
      | simp (disch := first | omega | (simp only [lnv]; omega)) only [wlk, mwk, ↓get_put', ↓reduceIte, Nat.min_eq_left, seval, g1, g2, g3, g9, g10, g13, g14, g16]
      | (with_reducible (first | apply cd_split | apply gd_split)) <;> (intro hc; (try simp only [hcn] at hc); (try simp only [hc]); (try simp only [hcl] at hc); try omega))
    refine CL.pure ((one_get o2 (k := [102])).y (e' := .tu [sv (c.flatten.take (a.flatten.length + (b.take n.toNat).flatten.length + 0)), .i .i64 0]) (by show V.tu [sv ((gt C [102]).getD []), .i .i64 (if gt C [102] = none then 14 else 0)] = _; rw [gC, (keeps_take hTR).1, hcat]; rfl)) ?_
    have hle := (keeps_take (a := a) hTR).2
    rw [hcat] at hle
    have eI : (a.flatten.length : Int) + ((b.take n.toNat).flatten.length : Int) + 0 = ((a.flatten.length + (b.take n.toNat).flatten.length + 0 : Nat) : Int) := by omega
    repeat' (first
      | refine St.h ?_
      | simp (disch := first | omega | (simp only [lnv]; omega)) only [wlk, mwk, ↓get_put', ↓reduceIte, Nat.min_eq_left, seval, g1, g2, g3, g9, g10, g13, g14, g16, eI, Int.toNat_natCast]
      | (with_reducible (first | apply cd_split | apply gd_split)) <;> (intro hc; (try simp only [hcn] at hc); (try simp only [hc]); (try simp only [hcl] at hc); try omega))
    refine CL.pure ((one_loose o2 (by simp)).y (e' := .i .i64 0) rfl) ?_
    repeat' (first
      | refine St.h ?_
      | simp (disch := first | omega | (simp only [lnv]; omega)) only [wlk, mwk, ↓get_put', ↓reduceIte, Nat.min_eq_left, seval]
      | (with_reducible (first | apply cd_split | apply gd_split)) <;> (intro hc; (try simp only [hcn] at hc); (try simp only [hc]); (try simp only [hcl] at hc); try omega))
    subst hQ; rfl
theorem shelfKeeps_ok {va vb : V} {a b : List (List UInt8)} {n m : UInt8} (ha : Sl8 h va a) (hla : a.length ≤ 9223372036854775807) (hsa : ∀ l ∈ a, l.length ≤ 9223372036854775807) (hb : Sl8 h vb b) (hlb : b.length ≤ 9223372036854775807) (hsb : ∀ l ∈ b, l.length ≤ 9223372036854775807) (hf : B.val h.floor ≤ B.val h.next) :
    FnOk Try.prog 4 [va, vb, .i .u8 (n.toNat : Int), .i .u8 (m.toNat : Int)] h fun y h' => y = .b true := by
  have hn0 := n.toNat_lt
  have hm0 := m.toNat_lt
  have hA : Tl h va a := ha
  have hB : Tl h vb b := hb
  have e1 : V.s 1 102 = sv [102] := by kernel_rfl
  have e0 : V.s 0 0 = sv [] := rfl
  refine fn_go c4 (by intro hb; cases hb) (by simp) (by simp) fun Q hQ => ?_
  simp only [slotsF, Nat.reduceAdd]
  repeat' (first
    | refine St.h ?_
    | simp (disch := first | omega | (simp only [lnv]; omega)) only [wlk, mwk, ↓get_put', ↓reduceIte, Nat.min_eq_left, seval]
    | (with_reducible (first | apply cd_split | apply gd_split)) <;> (intro hc; (try simp only [hcn] at hc); (try simp only [hc]); (try simp only [hcl] at hc); try omega))
  refine CL.pure known5 ?_
  repeat' (first
    | refine St.h ?_
    | simp (disch := first | omega | (simp only [lnv]; omega)) only [wlk, mwk, ↓get_put', ↓reduceIte, Nat.min_eq_left, seval, hA.ln, hB.ln]
    | (with_reducible (first | apply cd_split | apply gd_split)) <;> (intro hc; (try simp only [hcn] at hc); (try simp only [hc]); (try simp only [hcl] at hc); try omega))
  · subst hQ; rfl
  · subst hQ; rfl
  have hla1 : a.length ≤ 10 := by omega
  have hlb1 : b.length ≤ 10 := by omega
  refine CL.mk (one_new 1000000 hf) ?_
  rintro y h1 ⟨rfl, st, P1, o, hP1⟩
  have hf1 := st.fl hf
  have hA1 := hA.grow st
  have hB1 := hB.grow st
  have hnx1 := st.next
  have ltA : ∀ q, isOf va q → B.val q < B.val h.next := fun q => tl_lt hA
  have ltB : ∀ q, isOf vb q → B.val q < B.val h.next := fun q => tl_lt hB
  clear st
  generalize h.next = N0 at *
  generalize hs : N0 = s at o
  have o1 := o.eq (D' := ⟨[], [], [], 1000000⟩) (by kernel_rfl)
  clear o
  repeat' (first
    | refine St.h ?_
    | simp (disch := first | omega | (simp only [lnv]; omega)) only [wlk, mwk, ↓get_put', ↓reduceIte, Nat.min_eq_left, seval, e0, e1]
    | (with_reducible (first | apply cd_split | apply gd_split)) <;> (intro hc; (try simp only [hcn] at hc); (try simp only [hc]); (try simp only [hcl] at hc); try omega))
  refine CL.mk (one_put o1 (k := [102]) (b := []) (by simp) (by simp) (by simp) hf1) ?_
  rintro y h2 ⟨hy, P2, o2, g2⟩
  have hy : y = .i .i64 0 := hy.trans (by kernel_rfl)
  subst hy
  have hf2 := g2.1.fl hf1
  have o2 := o2.eq (D' := ⟨[([102], [])], [], [⟨1, [102], []⟩], 1000000⟩) (by kernel_rfl)
  have lo2 : ∀ q, P2 q → B.val N0 ≤ B.val q := fun q hq => (g2.2 q hq).elim (hP1 q) fun e => Nat.le_trans hnx1 e
  have hA2 := tl_stay hA1 g2.1 fun q h1 h2 => by have := ltA q h1; have := hP1 q h2; omega
  have hB2 := tl_stay hB1 g2.1 fun q h1 h2 => by have := ltB q h1; have := hP1 q h2; omega
  have hnx2 := Nat.le_trans hnx1 g2.1.next
  clear o1 g2 hP1 hA1 hB1
  have hlen : (a ++ b).length = a.length + b.length := List.length_append
  have gA : ∀ i, i < a.length → a.getD i [] = (a ++ b).getD i [] := fun i hi => by simp [List.getD, List.getElem?_append_left hi]
  have gB : ∀ i, a.length ≤ i → b.getD (i - a.length) [] = (a ++ b).getD i [] := fun i hi => by simp [List.getD, List.getElem?_append_right hi]
  have cA : (a ++ b).take a.length = a := List.take_left
  have cL : (a ++ b).drop a.length = b := List.drop_left
  generalize hc' : a ++ b = c at *
  repeat' (first
    | refine St.h ?_
    | simp (disch := first | omega | (simp only [lnv]; omega)) only [wlk, mwk, ↓get_put', ↓reduceIte, Nat.min_eq_left, seval, e0, e1]
    | (with_reducible (first | apply cd_split | apply gd_split)) <;> (intro hc; (try simp only [hcn] at hc); (try simp only [hc]); (try simp only [hcl] at hc); try omega))
  refine Ok.lp (fun mm t g => ∃ i K A P, mm = c.length - i ∧ i ≤ c.length ∧ get 0 t = va ∧ get 1 t = vb ∧ get 2 t = .i .u8 (n.toNat : Int) ∧ get 3 t = .i .u8 (m.toNat : Int) ∧ get 9 t = .p s 0 0 3 ∧ get 10 t = sv (c.take i).flatten ∧ get 11 t = .i .i64 (i : Int) ∧
    One g s ⟨[([102], (c.take i).flatten)], K, A, 1000000⟩ P ∧ HdK c a.length i K A ∧ (∀ q, P q → B.val N0 ≤ B.val q) ∧ Tl g va a ∧ Tl g vb b ∧ (c.take i).flatten.length ≤ 60 * i ∧ B.val g.floor ≤ B.val g.next ∧ B.val N0 ≤ B.val g.next) c.length ?_ ?_
  · simp (disch := first | omega | (simp only [lnv]; omega)) only [wlk, mwk, ↓get_put', ↓reduceIte, Nat.min_eq_left, seval]
    refine ⟨0, [], [⟨1, [102], []⟩], P2, by omega, by omega, ?_⟩
    repeat' (first | exact o2 | exact hf2 | exact lo2 | exact hA2 | exact hB2 | exact hnx2 | trivial | rfl | refine And.intro ?_ ?_)
    simp
  rintro I hI mm t g ⟨i, K, A, P, rfl, hi, f0, f1, f2, f3, f9, f10, f11, og, hd, lo, tA, tB, hx, hfg, hng⟩
  have hlc : c.length ≤ 20 := by omega
  have hAl := hd.len hlc
  obtain ⟨Mid, hMid⟩ : ∃ M : F → H → Prop, M = fun t g' => ∃ K A P, get 0 t = va ∧ get 1 t = vb ∧ get 2 t = .i .u8 (n.toNat : Int) ∧ get 3 t = .i .u8 (m.toNat : Int) ∧ get 9 t = .p s 0 0 3 ∧ get 10 t = sv (c.take i).flatten ∧ get 11 t = .i .i64 (i : Int) ∧
    One g' s ⟨[([102], (c.take i).flatten)], K, A, 1000000⟩ P ∧ MdK c a.length i K A ∧ (∀ q, P q → B.val N0 ≤ B.val q) ∧ Tl g' va a ∧ Tl g' vb b ∧ B.val g'.floor ≤ B.val g'.next ∧ B.val N0 ≤ B.val g'.next := ⟨_, rfl⟩
  obtain ⟨Mid2, hMid2⟩ : ∃ M : F → H → Prop, M = fun t g' => ∃ P, get 0 t = va ∧ get 1 t = vb ∧ get 2 t = .i .u8 (n.toNat : Int) ∧ get 3 t = .i .u8 (m.toNat : Int) ∧ get 9 t = .p s 0 0 3 ∧ get 10 t = sv c.flatten ∧
    One g' s ⟨[([102], c.flatten)], [([102], a.flatten)], addD b, 1000000⟩ P ∧ (∀ q, P q → B.val N0 ≤ B.val q) ∧ Tl g' va a ∧ Tl g' vb b ∧ B.val g'.floor ≤ B.val g'.next ∧ B.val N0 ≤ B.val g'.next := ⟨_, rfl⟩
  repeat' (first
    | (first | (with_reducible refine (show Ok Try.prog 163 s4_25 _ _ _ from ?_)); refine Ok_mid Mid ?_ ?_ | (with_reducible refine (show Ok Try.prog 163 s4_68 _ _ _ from ?_)); refine Ok_mid Mid2 ?_ ?_)
    | refine St.h ?_
    | simp (disch := first | omega | (simp only [lnv]; omega)) only [wlk, mwk, ↓get_put', ↓reduceIte, Nat.min_eq_left, seval, f0, f1, f2, f3, f9, f10, f11, tA.ln, tB.ln, mid_n]
    | (with_reducible (first | apply cd_split | apply gd_split)) <;> (intro hc; (try simp only [hcn] at hc); (try simp only [hc]); (try simp only [hcl] at hc); try omega))
  · refine CL.mk (one_keep og) ?_
    rintro y g1 ⟨rfl, P', o1, gr⟩
    have o1 := o1.eq (D' := ⟨[([102], (c.take i).flatten)], [([102], (c.take i).flatten)], [], 1000000⟩) rfl
    have hi' : i = a.length := by omega
    repeat' (first
      | refine St.h ?_
      | simp (disch := first | omega | (simp only [lnv]; omega)) only [wlk, mwk, ↓get_put', ↓reduceIte, Nat.min_eq_left, seval, mid_n]
      | (with_reducible (first | apply cd_split | apply gd_split)) <;> (intro hc; (try simp only [hcn] at hc); (try simp only [hc]); (try simp only [hcl] at hc); try omega))
    rw [hMid]
    refine ⟨_, _, P', by simp (disch := first | omega | (simp only [lnv]; omega)) only [wlk, mwk, ↓get_put', ↓reduceIte, Nat.min_eq_left, seval, f0], by simp (disch := first | omega | (simp only [lnv]; omega)) only [wlk, mwk, ↓get_put', ↓reduceIte, Nat.min_eq_left, seval, f1], by simp (disch := first | omega | (simp only [lnv]; omega)) only [wlk, mwk, ↓get_put', ↓reduceIte, Nat.min_eq_left, seval, f2], by simp (disch := first | omega | (simp only [lnv]; omega)) only [wlk, mwk, ↓get_put', ↓reduceIte, Nat.min_eq_left, seval, f3], by simp (disch := first | omega | (simp only [lnv]; omega)) only [wlk, mwk, ↓get_put', ↓reduceIte, Nat.min_eq_left, seval, f9], by simp (disch := first | omega | (simp only [lnv]; omega)) only [wlk, mwk, ↓get_put', ↓reduceIte, Nat.min_eq_left, seval, f10], by simp (disch := first | omega | (simp only [lnv]; omega)) only [wlk, mwk, ↓get_put', ↓reduceIte, Nat.min_eq_left, seval, f11], o1, by rw [← hi']; exact MdK.keep, fun q hq => (gr.2 q hq).elim (lo q) fun e => Nat.le_trans hng e, tl_stay tA gr.1 fun q h1 h2 => ?_, tl_stay tB gr.1 fun q h1 h2 => ?_, gr.1.fl hfg, Nat.le_trans hng gr.1.next⟩
    · have := ltA q h1; have := lo q h2; omega
    · have := ltB q h1; have := lo q h2; omega
  · rw [hMid]
    exact ⟨K, A, P, by simp (disch := first | omega | (simp only [lnv]; omega)) only [wlk, mwk, ↓get_put', ↓reduceIte, Nat.min_eq_left, seval, f0], by simp (disch := first | omega | (simp only [lnv]; omega)) only [wlk, mwk, ↓get_put', ↓reduceIte, Nat.min_eq_left, seval, f1], by simp (disch := first | omega | (simp only [lnv]; omega)) only [wlk, mwk, ↓get_put', ↓reduceIte, Nat.min_eq_left, seval, f2], by simp (disch := first | omega | (simp only [lnv]; omega)) only [wlk, mwk, ↓get_put', ↓reduceIte, Nat.min_eq_left, seval, f3], by simp (disch := first | omega | (simp only [lnv]; omega)) only [wlk, mwk, ↓get_put', ↓reduceIte, Nat.min_eq_left, seval, f9], by simp (disch := first | omega | (simp only [lnv]; omega)) only [wlk, mwk, ↓get_put', ↓reduceIte, Nat.min_eq_left, seval, f10], by simp (disch := first | omega | (simp only [lnv]; omega)) only [wlk, mwk, ↓get_put', ↓reduceIte, Nat.min_eq_left, seval, f11], og, hd.md (by omega), lo, tA, tB, hfg, hng⟩
  · clear f0 f1 f2 f3 f9 f10 f11 og hd lo tA tB hfg hng
    rw [hMid]
    rintro t g ⟨K, A, P, f0, f1, f2, f3, f9, f10, f11, og, md, lo, tA, tB, hfg, hng⟩
    have hil : i < c.length := by omega
    have hAl := md.len hlc
    by_cases hia : i < a.length
    · have hia' : (i : Int) < (a.length : Int) := by omega
      have gi := gA i hia
      repeat' (first
        | refine St.h ?_
        | simp (disch := first | omega | (simp only [lnv]; omega)) only [wlk, mwk, ↓get_put', ↓reduceIte, Nat.min_eq_left, seval, f0, f1, f2, f3, f9, f10, f11, tA.ln, tB.ln, tA.ix, tA.ld, gi, Int.toNat_natCast]
        | (with_reducible (first | apply cd_split | apply gd_split)) <;> (intro hc; (try simp only [hcn] at hc); (try simp only [hc]); (try simp only [hcl] at hc); try omega))
      · subst hQ; rw [decide_eq_true (by omega)]
      · refine CL.mk (one_add og (k := [102]) (b := c.getD i []) hAl (by omega) hfg) ?_
        rintro y g1 ⟨rfl, P', o1, gr⟩
        have p0 : addE ⟨[([102], (c.take i).flatten)], K, A, 1000000⟩ [102] (c.getD i []) = 0 := add_0 (by omega)
        rw [p0, if_pos rfl, add_D, ← cat_s hil] at o1
        rw [p0]
        have hs1 := cat_s hil
        repeat' (first
          | refine St.h ?_
          | simp (disch := first | omega | (simp only [lnv]; omega)) only [wlk, mwk, ↓get_put', ↓reduceIte, Nat.min_eq_left, seval, f0, f1, f2, f3, f9, f10, f11]
          | (with_reducible (first | apply cd_split | apply gd_split)) <;> (intro hc; (try simp only [hcn] at hc); (try simp only [hc]); (try simp only [hcl] at hc); try omega))
        refine lp_next hI (c.length - (i + 1)) (by omega) ⟨i + 1, _, _, P', rfl, by omega, by simp (disch := first | omega | (simp only [lnv]; omega)) only [wlk, mwk, ↓get_put', ↓reduceIte, Nat.min_eq_left, seval, f0], by simp (disch := first | omega | (simp only [lnv]; omega)) only [wlk, mwk, ↓get_put', ↓reduceIte, Nat.min_eq_left, seval, f1], by simp (disch := first | omega | (simp only [lnv]; omega)) only [wlk, mwk, ↓get_put', ↓reduceIte, Nat.min_eq_left, seval, f2], by simp (disch := first | omega | (simp only [lnv]; omega)) only [wlk, mwk, ↓get_put', ↓reduceIte, Nat.min_eq_left, seval, f3], by simp (disch := first | omega | (simp only [lnv]; omega)) only [wlk, mwk, ↓get_put', ↓reduceIte, Nat.min_eq_left, seval, f9], by simp (disch := first | omega | (simp only [lnv]; omega)) only [wlk, mwk, ↓get_put', ↓reduceIte, Nat.min_eq_left, seval, f10, hs1], by simp (disch := first | omega | (simp only [lnv]; omega)) only [wlk, mwk, ↓get_put', ↓reduceIte, Nat.min_eq_left, seval, f11]; rfl, o1, md.next hil, fun q hq => (gr.2 q hq).elim (lo q) fun e => Nat.le_trans hng e, tl_stay tA gr.1 fun q h1 h2 => ?_, tl_stay tB gr.1 fun q h1 h2 => ?_, ?_, gr.1.fl hfg, Nat.le_trans hng gr.1.next⟩
        · have := ltA q h1; have := lo q h2; omega
        · have := ltB q h1; have := lo q h2; omega
        · rw [hs1, List.length_append]; omega
    · have hia' : ¬ (i : Int) < (a.length : Int) := by omega
      have gi := gB i (by omega)
      have ej : (i : Int) - (a.length : Int) = ((i - a.length : Nat) : Int) := by omega
      repeat' (first
        | refine St.h ?_
        | simp (disch := first | omega | (simp only [lnv]; omega)) only [wlk, mwk, ↓get_put', ↓reduceIte, Nat.min_eq_left, seval, f0, f1, f2, f3, f9, f10, f11, tA.ln, tB.ln, tB.ix, tB.ld, gi, ej, Int.toNat_natCast]
        | (with_reducible (first | apply cd_split | apply gd_split)) <;> (intro hc; (try simp only [hcn] at hc); (try simp only [hc]); (try simp only [hcl] at hc); try omega))
      · subst hQ; rw [decide_eq_true (by omega)]
      · refine CL.mk (one_add og (k := [102]) (b := c.getD i []) hAl (by omega) hfg) ?_
        rintro y g1 ⟨rfl, P', o1, gr⟩
        have p0 : addE ⟨[([102], (c.take i).flatten)], K, A, 1000000⟩ [102] (c.getD i []) = 0 := add_0 (by omega)
        rw [p0, if_pos rfl, add_D, ← cat_s hil] at o1
        rw [p0]
        have hs1 := cat_s hil
        repeat' (first
          | refine St.h ?_
          | simp (disch := first | omega | (simp only [lnv]; omega)) only [wlk, mwk, ↓get_put', ↓reduceIte, Nat.min_eq_left, seval, f0, f1, f2, f3, f9, f10, f11]
          | (with_reducible (first | apply cd_split | apply gd_split)) <;> (intro hc; (try simp only [hcn] at hc); (try simp only [hc]); (try simp only [hcl] at hc); try omega))
        refine lp_next hI (c.length - (i + 1)) (by omega) ⟨i + 1, _, _, P', rfl, by omega, by simp (disch := first | omega | (simp only [lnv]; omega)) only [wlk, mwk, ↓get_put', ↓reduceIte, Nat.min_eq_left, seval, f0], by simp (disch := first | omega | (simp only [lnv]; omega)) only [wlk, mwk, ↓get_put', ↓reduceIte, Nat.min_eq_left, seval, f1], by simp (disch := first | omega | (simp only [lnv]; omega)) only [wlk, mwk, ↓get_put', ↓reduceIte, Nat.min_eq_left, seval, f2], by simp (disch := first | omega | (simp only [lnv]; omega)) only [wlk, mwk, ↓get_put', ↓reduceIte, Nat.min_eq_left, seval, f3], by simp (disch := first | omega | (simp only [lnv]; omega)) only [wlk, mwk, ↓get_put', ↓reduceIte, Nat.min_eq_left, seval, f9], by simp (disch := first | omega | (simp only [lnv]; omega)) only [wlk, mwk, ↓get_put', ↓reduceIte, Nat.min_eq_left, seval, f10, hs1], by simp (disch := first | omega | (simp only [lnv]; omega)) only [wlk, mwk, ↓get_put', ↓reduceIte, Nat.min_eq_left, seval, f11]; rfl, o1, md.next hil, fun q hq => (gr.2 q hq).elim (lo q) fun e => Nat.le_trans hng e, tl_stay tA gr.1 fun q h1 h2 => ?_, tl_stay tB gr.1 fun q h1 h2 => ?_, ?_, gr.1.fl hfg, Nat.le_trans hng gr.1.next⟩
        · have := ltA q h1; have := lo q h2; omega
        · have := ltB q h1; have := lo q h2; omega
        · rw [hs1, List.length_append]; omega
  · have hb0 : b = [] := List.eq_nil_of_length_eq_zero (by omega)
    have hi' : i = a.length := by omega
    refine CL.mk (one_keep og) ?_
    rintro y g1 ⟨rfl, P', o1, gr⟩
    have ec : c.take i = c := by rw [List.take_of_length_le (by omega)]
    have ea : c = a := by rw [← hc', hb0, List.append_nil]
    rw [ec] at o1 f10
    have o1 := o1.eq (D' := ⟨[([102], c.flatten)], [([102], a.flatten)], addD b, 1000000⟩) (by rw [ea, hb0]; rfl)
    repeat' (first
      | refine St.h ?_
      | simp (disch := first | omega | (simp only [lnv]; omega)) only [wlk, mwk, ↓get_put', ↓reduceIte, Nat.min_eq_left, seval, mid_n]
      | (with_reducible (first | apply cd_split | apply gd_split)) <;> (intro hc; (try simp only [hcn] at hc); (try simp only [hc]); (try simp only [hcl] at hc); try omega))
    rw [hMid2]
    refine ⟨P', by simp (disch := first | omega | (simp only [lnv]; omega)) only [wlk, mwk, ↓get_put', ↓reduceIte, Nat.min_eq_left, seval, f0], by simp (disch := first | omega | (simp only [lnv]; omega)) only [wlk, mwk, ↓get_put', ↓reduceIte, Nat.min_eq_left, seval, f1], by simp (disch := first | omega | (simp only [lnv]; omega)) only [wlk, mwk, ↓get_put', ↓reduceIte, Nat.min_eq_left, seval, f2], by simp (disch := first | omega | (simp only [lnv]; omega)) only [wlk, mwk, ↓get_put', ↓reduceIte, Nat.min_eq_left, seval, f3], by simp (disch := first | omega | (simp only [lnv]; omega)) only [wlk, mwk, ↓get_put', ↓reduceIte, Nat.min_eq_left, seval, f9], by simp (disch := first | omega | (simp only [lnv]; omega)) only [wlk, mwk, ↓get_put', ↓reduceIte, Nat.min_eq_left, seval, f10], o1, fun q hq => (gr.2 q hq).elim (lo q) fun e => Nat.le_trans hng e, tl_stay tA gr.1 fun q h1 h2 => ?_, tl_stay tB gr.1 fun q h1 h2 => ?_, gr.1.fl hfg, Nat.le_trans hng gr.1.next⟩
    · have := ltA q h1; have := lo q h2; omega
    · have := ltB q h1; have := lo q h2; omega
  · rw [hMid2]
    have ec : c.take i = c := by rw [List.take_of_length_le (by omega)]
    unfold HdK at hd
    rw [if_neg (by omega), ec, cA, cL] at hd
    rw [ec, hd.1, hd.2] at og
    rw [ec] at f10
    exact ⟨P, by simp (disch := first | omega | (simp only [lnv]; omega)) only [wlk, mwk, ↓get_put', ↓reduceIte, Nat.min_eq_left, seval, f0], by simp (disch := first | omega | (simp only [lnv]; omega)) only [wlk, mwk, ↓get_put', ↓reduceIte, Nat.min_eq_left, seval, f1], by simp (disch := first | omega | (simp only [lnv]; omega)) only [wlk, mwk, ↓get_put', ↓reduceIte, Nat.min_eq_left, seval, f2], by simp (disch := first | omega | (simp only [lnv]; omega)) only [wlk, mwk, ↓get_put', ↓reduceIte, Nat.min_eq_left, seval, f3], by simp (disch := first | omega | (simp only [lnv]; omega)) only [wlk, mwk, ↓get_put', ↓reduceIte, Nat.min_eq_left, seval, f9], by simp (disch := first | omega | (simp only [lnv]; omega)) only [wlk, mwk, ↓get_put', ↓reduceIte, Nat.min_eq_left, seval, f10], og, lo, tA, tB, hfg, hng⟩
  · clear f0 f1 f2 f3 f9 f10 f11 og hd lo tA tB hfg hng
    rw [hMid2]
    rintro t g ⟨P, f0, f1, f2, f3, f9, f10, og, lo, tA, tB, hfg, hng⟩
    have ec : c.take i = c := by rw [List.take_of_length_le (by omega)]
    rw [ec] at hx
    exact keeps_tail hQ hc' hla1 hlb1 (by omega) f0 f1 f2 f3 f9 f10 og tA tB hfg fun q h1 h2 => by have := ltB q h1; have := lo q h2; omega
end
end Go.Proofs.Ytjlhfoadabkahaa

namespace Go.Proofs.Ytjlhfoadabkahaa.shelfKeeps
open Go Go.Ev Go.ChangeShapes Go.WideShapes Go.ChangeAt Go.RowKit Go.ChangeMaps
set_option linter.all false
theorem own : ownKnob Try.prog.godebug = none := by kernel_rfl
theorem laid : laidOutB Try.prog = true := by kernel_rfl
theorem heap_pos {W : World} (h : W.ShapedOpen Try.prog) : 0 < W.heap.size := by
  obtain ⟨o, _, h1, _⟩ := h.2 0 (of_decide_eq_true (by kernel_rfl)) (of_decide_eq_true (by kernel_rfl))
  exact (Array.getElem?_eq_some_iff.1 h1).1
set_option maxRecDepth 100000 in
theorem run {H : Type} {enc : TypeId × Value → H} (W : World) (base : Nat) (args : Array Value) (ds : List (DataW H)) (p : List MemPlace) (hval : ∀ (j : Nat) t v, Try.f4.params[j]? = some t → args[j]? = some v → Value.okWide Try.prog W .any base t v) (hopen : W.ShapedOpen Try.prog)
    (hA : DataW.TrodAll enc Try.prog W 0 (fun _ => true) true Try.f4.params.toList args.toList ds p) : Calls Try.prog 4 args W fun e w' => e = .returned (.bool true) ∧ Below W.heap.size W w' := by
  rw [Try.params4] at hA hval
  obtain ⟨v0, vs0, d0, ds0, p0, q0, hargs, rfl, rfl, h0, r0⟩ := trodAll_cons hA
  obtain ⟨v1, vs1, d1, ds1, p1, q1, rfl, rfl, rfl, h1, r1⟩ := trodAll_cons r0
  obtain ⟨v2, vs2, d2, ds2, p2, q2, rfl, rfl, rfl, h2, r2⟩ := trodAll_cons r1
  obtain ⟨v3, vs3, d3, ds3, p3, q3, rfl, rfl, rfl, h3, r3⟩ := trodAll_cons r2
  obtain ⟨rfl, rfl, rfl⟩ := trodAll_nil r3
  obtain rfl : args = #[v0, v1, v2, v3] := by cases args; simp_all
  obtain ⟨h, s1, s2⟩ := Go.Ev.start W
  have s : Go.Ev.Start W h := ⟨s1, s2⟩
  obtain ⟨x0, y0, z0, rfl⟩ := okWide_slice Try.underlying45 (hval 0 45 v0 rfl rfl)
  obtain ⟨fu0, hfu0⟩ := h0
  obtain ⟨u0, L0, e0, m0, l0, k0⟩ := ls_of s (heap_pos hopen) Try.underlying45 (by kernel_rfl) Try.underlying9 hfu0
  obtain rfl := (List.cons.inj (show [Value.slice x0 y0 z0] = [u0] from e0)).1
  obtain ⟨x1, y1, z1, rfl⟩ := okWide_slice Try.underlying45 (hval 1 45 v1 rfl rfl)
  obtain ⟨fu1, hfu1⟩ := h1
  obtain ⟨u1, L1, e1, m1, l1, k1⟩ := ls_of s (heap_pos hopen) Try.underlying45 (by kernel_rfl) Try.underlying9 hfu1
  obtain rfl := (List.cons.inj (show [Value.slice x1 y1 z1] = [u1] from e1)).1
  obtain ⟨a2, rfl, rfl, rfl, w2⟩ := open_int Try.underlying5 (hval 2 5 v2 rfl rfl) h2
  obtain ⟨n2, rfl⟩ := u8_byte w2
  obtain ⟨a3, rfl, rfl, rfl, w3⟩ := open_int Try.underlying5 (hval 3 5 v3 rfl rfl) h3
  obtain ⟨n3, rfl⟩ := u8_byte w3
  exact calls_true s (vs := [absV W (.slice x0 y0 z0), absV W (.slice x1 y1 z1), .i .u8 (n2.toNat : Int), .i .u8 (n3.toNat : Int)]) ⟨absV_rel W _, absV_rel W _, rfl, rfl, trivial⟩ (shelfKeeps_ok m0 l0 k0 m1 l1 k1 s1.flo)
set_option maxRecDepth 100000 in
theorem lifted (os : Os) (started : os.Started) (H : Type) (enc : TypeId × Value → H) :
    ReturnsInHanded {} Try.checked os 4 .any (Rows.shelfKeepsSpec.pre6 enc Try.prog Try.f4 Rows.shelfKeepsRow.domain false) (Rows.shelfKeepsSpec.post enc Try.prog Try.f4 false true false false) :=
  law_lifted (C := Try.checked) own started (by kernel_rfl) Try.func4
    (ChangeSpec.witness6 (enc := enc) (C := Try.checked) false ⟨#[], #[.slice none 0 0, .slice none 0 0, .int .u8 0, .int .u8 0], []⟩ 8 (by kernel_rfl) (by kernel_rfl) (by kernel_rfl) (by kernel_rfl))
    rfl (fun ds hd => by rw [Try.params4] at hd; match ds, hd with | [d1, d2, d3, d4], _ => rfl) laid (by kernel_rfl) (by kernel_rfl) Try.underlying4 (fun W base args ds p hv ho hA => run W base args ds p hv ho hA)
theorem over : Rows.shelfKeepsRow.holds Try.pinned (OpenSpec.ofChange Rows.shelfKeepsSpec) :=
  OpenClaim.holds_of_wide 4 Try.f4 rfl rfl rfl rfl rfl rfl rfl ⟨rfl, rfl, rfl, rfl, rfl⟩ rfl rfl rfl rfl rfl (by kernel_rfl) Try.func4 (by kernel_rfl)
    (of_decide_eq_true (by kernel_rfl)) (by unfold Func.isWrapper; first | (rw [if_pos (by decide +kernel)]; kernel_rfl) | (rw [if_neg (by decide +kernel)]; exact ⟨rfl, rfl⟩))
    (fun os started H enc _ => lifted os started H enc)
/-- THE STATEMENT -/
theorem proved : Rows.ShelfKeepsSaid :=
  over
end Go.Proofs.Ytjlhfoadabkahaa.shelfKeeps
