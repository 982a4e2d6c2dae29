/- Texts of ours, without what this claim does not use: JrTb2 Knravelinlaw9 NTb3 BkS TbS NTb4 TableMany. No condition. -/
import Derived.Test.YtiingkpdodbldaaPkTableMany5
import Derived.Test.YtiingkpdodbldaaProg
import Derived.KernelRfl
import Derived.Test.YtiingkpdodbldaaRows
import Derived.WalkKit
import Derived.ProofKit
import Derived.OpenShut
import Derived.ChangeMaps5
set_option maxRecDepth 1000000
set_option linter.all false
namespace Go.Proofs.Ytiingkpdodbldaa
open Go Go.Ev
noncomputable abbrev s7_0 : CC := (CC.seq (CC.region [(wB 0 (doMove (O.c (V.b Bool.false))))]) CC.ret)
noncomputable abbrev s7_1 : CC := (CC.cond (tm 46) s7_0 CC.skip)
noncomputable abbrev s7_2 : CC := (CC.seq (CC.region [(wB 41 (doMove (tm 4))), (wB 42 (doPtr Bool.false (tm 41) (O.c V.p0))), (wB 43 (doMove (tm 42))), (wG 43 false 44 (doMove (tm 5))), (wG 43 false 45 (bin2 fNeq (tm 44) (oN 0))), (wB 46 (doPick (tm 43) (O.c (V.b Bool.true)) (tm 45)))]) s7_1)
noncomputable abbrev s7_3 : CC := (CC.seq (CC.draws [(uB 69 (doMove (tm 3))), (uB 70 (bin2 fEql (tm 69) (oN 0))), (uB 71 (doMove (tm 70))), (uG 71 true 72 (doMove (tm 7))), (uG 71 true 73 (bin2 fEql (tm 72) (oN 10))), (uB 74 (doPick (tm 71) (tm 73) (O.c (V.b Bool.false)))), (uB 75 (doMove (tm 74))), (uG 75 true 76 (doMove (tm 9))), (uG 75 true 77 (bin2 fEql (tm 76) (oN 12))), (uB 78 (doPick (tm 75) (tm 77) (O.c (V.b Bool.false)))), (uB 79 (doMove (tm 78))), (uG 79 true 80 (doMove (tm 11))), (uB 81 (doPick (tm 79) (tm 80) (O.c (V.b Bool.false)))), (uB 82 (doMove (tm 81))), (uG 82 true 83 (doMove (tm 12))), (uG 82 true 84 (bin2 fEql (tm 83) (oN 0))), (uB 85 (doPick (tm 82) (tm 84) (O.c (V.b Bool.false)))), (uB 86 (doMove (tm 85))), (uG 86 true 87 (doLoadA 4 (tm 10))), (uG 86 true 88 (doMove (tm 1))), (uG 86 true 89 (doIndexAddr 4 (tm 88) (oN 1))), (uG 86 true 90 (doLoadA 4 (tm 89))), (uG 86 true 91 (doSEq [KD.s, KD.i, KD.b, KD.s] Bool.false (tm 87) (tm 90))), (uB 92 (doPick (tm 86) (tm 91) (O.c (V.b Bool.false)))), (uB 93 (doMove (tm 92))), (uG 93 true 94 (doMove (tm 14))), (uG 93 true 95 (doNot (tm 94))), (uB 96 (doPick (tm 93) (tm 95) (O.c (V.b Bool.false)))), (uB 97 (doMove (tm 96))), (uG 97 true 98 (doMove (tm 15))), (uG 97 true 99 (bin2 fEql (tm 98) (oN 0))), (uB 100 (doPick (tm 97) (tm 99) (O.c (V.b Bool.false)))), (uB 101 (doMove (tm 100))), (uG 101 true 102 (doMove (tm 17))), (uG 101 true 103 (bin2 fEql (tm 102) (oN 0))), (uB 104 (doPick (tm 101) (tm 103) (O.c (V.b Bool.false)))), (uB 105 (doMove (tm 104))), (uG 105 true 106 (doMove (tm 16))), (uG 105 true 107 (doMove (tm 1))), (wG 105 true 108 (doCall 17 [(tm 106), (tm 107)])), (uB 109 (doPick (tm 105) (tm 108) (O.c (V.b Bool.false)))), (uB 110 (doMove (tm 109))), (uG 110 true 111 (doMove (tm 4))), (wG 110 true 112 (doCall 19 [(tm 111)])), (uG 110 true 113 (bin2 fEql (tm 112) (oN 2))), (uB 114 (doPick (tm 110) (tm 113) (O.c (V.b Bool.false)))), (uB 115 (doMove (tm 114))), (uG 115 true 116 (doMove (tm 4))), (wG 115 true 117 (doCall 20 [(tm 116)])), (uG 115 true 118 (bin2 fEql (tm 117) (oN 1))), (uB 119 (doPick (tm 115) (tm 118) (O.c (V.b Bool.false)))), (uB 120 (doMove (tm 119))), (uG 120 true 121 (doMove (tm 18))), (uG 120 true 122 (doSCmp eqS (tm 121) (O.c (V.s 1 97)))), (uB 123 (doPick (tm 120) (tm 122) (O.c (V.b Bool.false)))), (uB 124 (doMove (tm 123))), (uG 124 true 125 (doMove (tm 19))), (uG 124 true 126 (doSCmp eqS (tm 125) (O.c (V.s 1 97)))), (uB 127 (doPick (tm 124) (tm 126) (O.c (V.b Bool.false)))), (uB 0 (doMove (tm 127)))]) CC.ret)
noncomputable abbrev s7_4 : CC := (CC.seq (CC.region [(wB 65 (doMove (tm 4))), (wB 66 (doCall 16 [(tm 65)])), (wB 64 (doMove (tm 66))), (wB 67 (doExtract 0 (tm 64))), (wB 68 (doExtract 1 (tm 64))), (wB 18 (doMove (tm 67))), (wB 19 (doMove (tm 68)))]) s7_3)
noncomputable abbrev s7_5 : CC := (CC.seq (CC.region [(wB 60 (doMove (tm 4))), (wB 61 (doCall 15 [(tm 60)])), (wB 59 (doMove (tm 61))), (wB 62 (doExtract 0 (tm 59))), (wB 63 (doExtract 1 (tm 59))), (wB 16 (doMove (tm 62))), (wB 17 (doMove (tm 63)))]) s7_4)
noncomputable abbrev s7_6 : CC := (CC.seq (CC.region [(wB 54 (doMove (tm 4))), (wB 55 (doCall 12 [(tm 54), (O.c (V.s 1 98)), (oN 9)])), (wB 53 (doMove (tm 55))), (wB 56 (doExtract 0 (tm 53))), (wB 57 (doExtract 1 (tm 53))), (wB 58 (doExtract 2 (tm 53))), (wB 13 (doAlloc 34 [(V.s 0 0), (V.i IntKind.i64 (Int.ofNat 0)), (V.b Bool.false), (V.s 0 0)])), (CO.mk G.none D.none Bool.true (CR.mk (doStore 4 (tm 13) (tm 56)))), (wB 14 (doMove (tm 57))), (wB 15 (doMove (tm 58)))]) s7_5)
noncomputable abbrev s7_7 : CC := (CC.seq (CC.region [(wB 48 (doMove (tm 4))), (wB 49 (doCall 12 [(tm 48), (O.c (V.s 1 97)), (oN 1)])), (wB 47 (doMove (tm 49))), (wB 50 (doExtract 0 (tm 47))), (wB 51 (doExtract 1 (tm 47))), (wB 52 (doExtract 2 (tm 47))), (wB 10 (doAlloc 34 [(V.s 0 0), (V.i IntKind.i64 (Int.ofNat 0)), (V.b Bool.false), (V.s 0 0)])), (CO.mk G.none D.none Bool.true (CR.mk (doStore 4 (tm 10) (tm 50)))), (wB 11 (doMove (tm 51))), (wB 12 (doMove (tm 52)))]) s7_6)
noncomputable abbrev s7_8 : CC := (CC.seq s7_2 s7_7)
noncomputable abbrev s7_9 : CC := (CC.seq (CC.region [(wB 38 (doCall 11 [(O.c (V.s 3 6382179))])), (wB 37 (doMove (tm 38))), (wB 39 (doExtract 0 (tm 37))), (wB 40 (doExtract 1 (tm 37))), (wB 8 (doMove (tm 39))), (wB 9 (doMove (tm 40)))]) s7_8)
noncomputable abbrev s7_10 : CC := (CC.seq (CC.region [(wB 34 (doCall 9 [(O.c V.l0)])), (wB 33 (doMove (tm 34))), (wB 35 (doExtract 0 (tm 33))), (wB 36 (doExtract 1 (tm 33))), (wB 6 (doMove (tm 35))), (wB 7 (doMove (tm 36)))]) s7_9)
noncomputable abbrev s7_11 : CC := (CC.seq (CC.region [(wB 29 (doMove (tm 2))), (wB 30 (doCall 11 [(tm 29)])), (wB 28 (doMove (tm 30))), (wB 31 (doExtract 0 (tm 28))), (wB 32 (doExtract 1 (tm 28))), (wB 4 (doMove (tm 31))), (wB 5 (doMove (tm 32)))]) s7_10)
noncomputable abbrev s7_12 : CC := (CC.seq (CC.region [(wB 24 (doMove (tm 1))), (wB 25 (doCall 9 [(tm 24)])), (wB 23 (doMove (tm 25))), (wB 26 (doExtract 0 (tm 23))), (wB 27 (doExtract 1 (tm 23))), (wB 2 (doMove (tm 26))), (wB 3 (doMove (tm 27)))]) s7_11)
noncomputable abbrev s7_13 : CC := (CC.seq (CC.region [(wB 20 (doBuild [(V.s 0 0), (V.i IntKind.i64 (Int.ofNat 0)), (V.b Bool.false), (V.s 0 0)] [(Pt.mk 0 1 (O.c (V.s 1 97))), (Pt.mk 1 1 (oN 2)), (Pt.mk 3 1 (O.c (V.s 1 120)))])), (wB 21 (doBuild [(V.s 0 0), (V.i IntKind.i64 (Int.ofNat 0)), (V.b Bool.false), (V.s 0 0)] [(Pt.mk 0 1 (O.c (V.s 1 97))), (Pt.mk 1 1 (oN 1)), (Pt.mk 2 1 (O.c (V.b Bool.true)))])), (wB 22 (doBuildSlice 34 2 [(V.s 0 0), (V.i IntKind.i64 (Int.ofNat 0)), (V.b Bool.false), (V.s 0 0), (V.s 0 0), (V.i IntKind.i64 (Int.ofNat 0)), (V.b Bool.false), (V.s 0 0)] [(Pt.mk 0 4 (tm 20)), (Pt.mk 4 4 (tm 21))])), (wB 1 (doMove (tm 22)))]) s7_12)
noncomputable abbrev b7 : CC := (CC.seq (CC.region [(wB 0 (doMove (O.c (V.b Bool.false))))]) s7_13)
theorem c7 : compFn Try.prog 7 = ⟨128, b7, [(Rs.tmp (slOf 0))]⟩ := by kernel_rfl
noncomputable abbrev s3_0 : CC := (CC.seq (CC.region [(wB 2 (doMove (O.c (V.b Bool.false))))]) CC.ret)
noncomputable abbrev s3_1 : CC := (CC.cond (tm 8) s3_0 CC.skip)
noncomputable abbrev s3_2 : CC := (CC.seq (CC.region [(wB 7 (doCall 7 [])), (wB 8 (doNot (tm 7)))]) s3_1)
noncomputable abbrev s3_3 : CC := (CC.seq (CC.region [(wB 2 (doMove (O.c (V.b Bool.true))))]) CC.ret)
noncomputable abbrev s3_4 : CC := (CC.cond (tm 11) s3_3 CC.skip)
noncomputable abbrev s3_5 : CC := (CC.seq (CC.region [(wB 9 (doMove (tm 0))), (wB 10 (doCall 8 [(tm 9)])), (wB 11 (doNot (tm 10)))]) s3_4)
noncomputable abbrev s3_6 : CC := (CC.seq (CC.region [(wB 22 (doMove (tm 3))), (wB 23 (doMove (tm 5))), (wB 24 (doSCmp eqS (tm 22) (tm 23))), (wB 25 (doMove (tm 24))), (wG 25 true 26 (doMove (tm 4))), (wG 25 true 27 (doMove (tm 6))), (wG 25 true 28 (bin2 fEql (tm 26) (tm 27))), (wB 29 (doPick (tm 25) (tm 28) (O.c (V.b Bool.false)))), (wB 2 (doMove (tm 29)))]) CC.ret)
noncomputable abbrev s3_7 : CC := (CC.seq (CC.region [(wB 18 (doMove (tm 0))), (wB 19 (doCall 10 [(tm 18)])), (wB 17 (doMove (tm 19))), (wB 20 (doExtract 0 (tm 17))), (wB 21 (doExtract 1 (tm 17))), (wB 5 (doMove (tm 20))), (wB 6 (doMove (tm 21)))]) s3_6)
noncomputable abbrev s3_8 : CC := (CC.seq (CC.region [(wB 13 (doMove (tm 0))), (wB 14 (doCall 9 [(tm 13)])), (wB 12 (doMove (tm 14))), (wB 15 (doExtract 0 (tm 12))), (wB 16 (doExtract 1 (tm 12))), (wB 3 (doMove (tm 15))), (wB 4 (doMove (tm 16)))]) s3_7)
noncomputable abbrev s3_9 : CC := (CC.seq s3_5 s3_8)
noncomputable abbrev s3_10 : CC := (CC.seq s3_2 s3_9)
noncomputable abbrev b3 : CC := (CC.seq (CC.region [(wB 2 (doMove (O.c (V.b Bool.false))))]) s3_10)
theorem c3 : compFn Try.prog 3 = ⟨30, b3, [(Rs.tmp (slOf 2))]⟩ := by kernel_rfl
noncomputable abbrev s4_0 : CC := (CC.seq (CC.region [(wB 10 (doMove (O.c (V.b Bool.false))))]) CC.ret)
noncomputable abbrev s4_1 : CC := (CC.cond (tm 31) s4_0 CC.skip)
noncomputable abbrev s4_2 : CC := (CC.seq (CC.region [(wB 30 (doCall 7 [])), (wB 31 (doNot (tm 30)))]) s4_1)
noncomputable abbrev s4_3 : CC := (CC.seq (CC.region [(wB 10 (doMove (O.c (V.b Bool.true))))]) CC.ret)
noncomputable abbrev s4_4 : CC := (CC.cond (tm 49) s4_3 CC.skip)
noncomputable abbrev s4_5 : CC := (CC.seq (CC.region [(wB 32 (doMove (tm 0))), (wB 33 (doCall 8 [(tm 32)])), (wB 34 (doNot (tm 33))), (wB 35 (doMove (tm 34))), (wG 35 false 36 (doMove (tm 1))), (wG 35 false 37 (doLenS (tm 36))), (wG 35 false 38 (bin2 fGtr (tm 37) (oN 20))), (wB 39 (doPick (tm 35) (O.c (V.b Bool.true)) (tm 38))), (wB 40 (doMove (tm 39))), (wG 40 false 41 (doMove (tm 3))), (wG 40 false 42 (doLenS (tm 41))), (wG 40 false 43 (bin2 fGtr (tm 42) (oN 20))), (wB 44 (doPick (tm 40) (O.c (V.b Bool.true)) (tm 43))), (wB 45 (doMove (tm 44))), (wG 45 false 46 (doMove (tm 4))), (wG 45 false 47 (doLenS (tm 46))), (wG 45 false 48 (bin2 fGtr (tm 47) (oN 20))), (wB 49 (doPick (tm 45) (O.c (V.b Bool.true)) (tm 48)))]) s4_4)
noncomputable abbrev s4_6 : CC := (CC.seq (CC.region [(wB 57 (doMove (tm 11))), (wB 58 (doSCmp eqS (tm 57) (O.c (V.s 0 0)))), (wB 10 (doMove (tm 58)))]) CC.ret)
noncomputable abbrev s4_7 : CC := (CC.cond (tm 56) s4_6 CC.skip)
noncomputable abbrev s4_8 : CC := (CC.seq (CC.region [(wB 55 (doMove (tm 12))), (wB 56 (bin2 fNeq (tm 55) (oN 0)))]) s4_7)
noncomputable abbrev s4_9 : CC := (CC.seq (CC.region [(wB 10 (doMove (O.c (V.b Bool.false))))]) CC.ret)
noncomputable abbrev s4_10 : CC := (CC.cond (tm 69) s4_9 CC.skip)
noncomputable abbrev s4_11 : CC := (CC.seq (CC.region [(wB 64 (doMove (tm 14))), (wB 65 (bin2 fNeq (tm 64) (oN 0))), (wB 66 (doMove (tm 65))), (wG 66 false 67 (doMove (tm 13))), (wG 66 false 68 (doPtr Bool.false (tm 67) (O.c V.p0))), (wB 69 (doPick (tm 66) (O.c (V.b Bool.true)) (tm 68)))]) s4_10)
noncomputable abbrev s4_12 : CC := (CC.seq (CC.region [(wB 10 (doMove (O.c (V.b Bool.false))))]) CC.ret)
noncomputable abbrev s4_13 : CC := (CC.cond (tm 170) s4_12 CC.skip)
noncomputable abbrev s4_14 : CC := (CC.seq (CC.region [(wB 102 (doLoadA 4 (tm 15))), (wB 103 (doLoadA 4 (tm 18))), (wB 104 (doSEq [KD.s, KD.i, KD.b, KD.s] Bool.true (tm 102) (tm 103))), (wB 105 (doMove (tm 104))), (wG 105 false 106 (doMove (tm 16))), (wG 105 false 107 (doMove (tm 19))), (wG 105 false 108 (doBool Bool.true (tm 106) (tm 107))), (wB 109 (doPick (tm 105) (O.c (V.b Bool.true)) (tm 108))), (wB 110 (doMove (tm 109))), (wG 110 false 111 (doMove (tm 17))), (wG 110 false 112 (bin2 fNeq (tm 111) (oN 0))), (wB 113 (doPick (tm 110) (O.c (V.b Bool.true)) (tm 112))), (wB 114 (doMove (tm 113))), (wG 114 false 115 (doMove (tm 21))), (wG 114 false 116 (bin2 fNeq (tm 115) (oN 0))), (wB 117 (doPick (tm 114) (O.c (V.b Bool.true)) (tm 116))), (wB 118 (doMove (tm 117))), (wG 118 false 119 (doMove (tm 20))), (wG 118 false 120 (doMove (tm 0))), (wG 118 false 121 (doMove (tm 3))), (wG 118 false 122 (doMove (tm 4))), (wG 118 false 123 (doCall 18 [(tm 120), (tm 121), (tm 122)])), (wG 118 false 124 (doCall 17 [(tm 119), (tm 123)])), (wG 118 false 125 (doNot (tm 124))), (wB 126 (doPick (tm 118) (O.c (V.b Bool.true)) (tm 125))), (wB 127 (doMove (tm 126))), (wG 127 false 128 (doMove (tm 23))), (wG 127 false 129 (bin2 fNeq (tm 128) (oN 0))), (wB 130 (doPick (tm 127) (O.c (V.b Bool.true)) (tm 129))), (wB 131 (doMove (tm 130))), (wG 131 false 132 (doMove (tm 22))), (wG 131 false 133 (doMove (tm 0))), (wG 131 false 134 (doCall 17 [(tm 132), (tm 133)])), (wG 131 false 135 (doNot (tm 134))), (wB 136 (doPick (tm 131) (O.c (V.b Bool.true)) (tm 135))), (wB 137 (doMove (tm 136))), (wG 137 false 138 (doMove (tm 13))), (wG 137 false 139 (doCall 19 [(tm 138)])), (wG 137 false 140 (doMove (tm 0))), (wG 137 false 141 (doLen (tm 140))), (wG 137 false 142 (bin2 fNeq (tm 139) (tm 141))), (wB 143 (doPick (tm 137) (O.c (V.b Bool.true)) (tm 142))), (wB 144 (doMove (tm 143))), (wG 144 false 145 (doMove (tm 13))), (wG 144 false 146 (doCall 20 [(tm 145)])), (wG 144 false 147 (doMove (tm 0))), (wG 144 false 148 (doCall 21 [(tm 147)])), (wG 144 false 149 (doLen (tm 148))), (wG 144 false 150 (bin2 fNeq (tm 146) (tm 149))), (wB 151 (doPick (tm 144) (O.c (V.b Bool.true)) (tm 150))), (wB 152 (doMove (tm 151))), (wG 152 false 153 (doMove (tm 24))), (wG 152 false 154 (doMove (tm 0))), (wG 152 false 155 (doIndexAddr 4 (tm 154) (oN 0))), (wG 152 false 156 (doFieldAddr 0 (tm 155))), (wG 152 false 157 (doLoad (tm 156))), (wG 152 false 158 (doSCmp (fun a b c d => !eqS a b c d) (tm 153) (tm 157))), (wB 159 (doPick (tm 152) (O.c (V.b Bool.true)) (tm 158))), (wB 160 (doMove (tm 159))), (wG 160 false 161 (doMove (tm 25))), (wG 160 false 162 (doMove (tm 0))), (wG 160 false 163 (doMove (tm 0))), (wG 160 false 164 (doLen (tm 163))), (wG 160 false 165 (bin2 fSub (tm 164) (oN 1))), (wG 160 false 166 (doIndexAddr 4 (tm 162) (tm 165))), (wG 160 false 167 (doFieldAddr 0 (tm 166))), (wG 160 false 168 (doLoad (tm 167))), (wG 160 false 169 (doSCmp (fun a b c d => !eqS a b c d) (tm 161) (tm 168))), (wB 170 (doPick (tm 160) (O.c (V.b Bool.true)) (tm 169)))]) s4_13)
noncomputable abbrev s4_15 : CC := (CC.cond (tm 174) CC.skip (CC.exit 0))
noncomputable abbrev s4_16 : CC := (CC.seq (CC.region [(wB 171 (doMove (tm 26))), (wB 172 (doMove (tm 0))), (wB 173 (doLen (tm 172))), (wB 174 (bin2 fLss (tm 171) (tm 173)))]) s4_15)
noncomputable abbrev s4_17 : CC := (CC.seq (CC.region [(wB 10 (doMove (O.c (V.b Bool.false))))]) CC.ret)
noncomputable abbrev s4_18 : CC := (CC.cond (tm 206) s4_17 CC.skip)
noncomputable abbrev s4_19 : CC := (CC.seq (CC.draws [(uB 193 (doMove (tm 29))), (uB 194 (bin2 fNeq (tm 193) (oN 0))), (uB 195 (doMove (tm 194))), (uG 195 false 196 (doMove (tm 28))), (uG 195 false 197 (doNot (tm 196))), (uB 198 (doPick (tm 195) (O.c (V.b Bool.true)) (tm 197))), (uB 199 (doMove (tm 198))), (uG 199 false 200 (doLoadA 4 (tm 27))), (uG 199 false 201 (doMove (tm 0))), (uG 199 false 202 (doMove (tm 26))), (uG 199 false 203 (doIndexAddr 4 (tm 201) (tm 202))), (uG 199 false 204 (doLoadA 4 (tm 203))), (uG 199 false 205 (doSEq [KD.s, KD.i, KD.b, KD.s] Bool.true (tm 200) (tm 204))), (uB 206 (doPick (tm 199) (O.c (V.b Bool.true)) (tm 205)))]) s4_18)
noncomputable abbrev s4_20 : CC := (CC.seq (CC.draws [(uB 178 (doMove (tm 13))), (uB 179 (doMove (tm 0))), (uB 180 (doMove (tm 26))), (uB 181 (doIndexAddr 4 (tm 179) (tm 180))), (uB 182 (doFieldAddr 0 (tm 181))), (uB 183 (doLoad (tm 182))), (uB 184 (doMove (tm 0))), (uB 185 (doMove (tm 26))), (uB 186 (doIndexAddr 4 (tm 184) (tm 185))), (uB 187 (doFieldAddr 1 (tm 186))), (uB 188 (doLoad (tm 187))), (uB 189 (doCall 12 [(tm 178), (tm 183), (tm 188)])), (uB 177 (doMove (tm 189))), (uB 190 (doExtract 0 (tm 177))), (uB 191 (doExtract 1 (tm 177))), (uB 192 (doExtract 2 (tm 177))), (uB 27 (doAlloc 34 [(V.s 0 0), (V.i IntKind.i64 (Int.ofNat 0)), (V.b Bool.false), (V.s 0 0)])), (CO.mk G.none D.none Bool.true (CR.mk (doStore 4 (tm 27) (tm 190)))), (uB 28 (doMove (tm 191))), (uB 29 (doMove (tm 192)))]) s4_19)
noncomputable abbrev s4_21 : CC := (CC.block 1 s4_20)
noncomputable abbrev s4_22 : CC := (CC.region [(wB 175 (doMove (tm 26))), (wB 176 (bin2 fAdd (tm 175) (oN 1))), (wB 26 (doMove (tm 176)))])
noncomputable abbrev s4_23 : CC := (CC.seq s4_21 s4_22)
noncomputable abbrev l4_0 : CC := (CC.seq s4_16 s4_23)
noncomputable abbrev s4_24 : CC := (CC.loop l4_0)
noncomputable abbrev s4_25 : CC := (CC.block 0 s4_24)
noncomputable abbrev s4_26 : CC := (CC.seq (CC.region [(wB 26 (doMove (oN 0)))]) s4_25)
noncomputable abbrev s4_27 : CC := (CC.seq (CC.region [(wB 10 (doMove (O.c (V.b Bool.true))))]) CC.ret)
noncomputable abbrev s4_28 : CC := (CC.seq s4_26 s4_27)
noncomputable abbrev s4_29 : CC := (CC.seq s4_14 s4_28)
noncomputable abbrev s4_30 : CC := (CC.seq (CC.region [(wB 98 (doMove (tm 13))), (wB 99 (doCall 16 [(tm 98)])), (wB 97 (doMove (tm 99))), (wB 100 (doExtract 0 (tm 97))), (wB 101 (doExtract 1 (tm 97))), (wB 24 (doMove (tm 100))), (wB 25 (doMove (tm 101)))]) s4_29)
noncomputable abbrev s4_31 : CC := (CC.seq (CC.region [(wB 93 (doMove (tm 13))), (wB 94 (doCall 15 [(tm 93)])), (wB 92 (doMove (tm 94))), (wB 95 (doExtract 0 (tm 92))), (wB 96 (doExtract 1 (tm 92))), (wB 22 (doMove (tm 95))), (wB 23 (doMove (tm 96)))]) s4_30)
noncomputable abbrev s4_32 : CC := (CC.seq (CC.region [(wB 86 (doMove (tm 13))), (wB 87 (doMove (tm 3))), (wB 88 (doMove (tm 4))), (wB 89 (doCall 14 [(tm 86), (tm 87), (tm 88)])), (wB 85 (doMove (tm 89))), (wB 90 (doExtract 0 (tm 85))), (wB 91 (doExtract 1 (tm 85))), (wB 20 (doMove (tm 90))), (wB 21 (doMove (tm 91)))]) s4_31)
noncomputable abbrev s4_33 : CC := (CC.seq (CC.region [(wB 79 (doMove (tm 0))), (wB 80 (doMove (tm 1))), (wB 81 (doMove (tm 2))), (wB 82 (doCall 13 [(tm 79), (tm 80), (tm 81)])), (wB 78 (doMove (tm 82))), (wB 83 (doExtract 0 (tm 78))), (wB 84 (doExtract 1 (tm 78))), (wB 18 (doAlloc 34 [(V.s 0 0), (V.i IntKind.i64 (Int.ofNat 0)), (V.b Bool.false), (V.s 0 0)])), (CO.mk G.none D.none Bool.true (CR.mk (doStore 4 (tm 18) (tm 83)))), (wB 19 (doMove (tm 84)))]) s4_32)
noncomputable abbrev s4_34 : CC := (CC.seq (CC.region [(wB 71 (doMove (tm 13))), (wB 72 (doMove (tm 1))), (wB 73 (doMove (tm 2))), (wB 74 (doCall 12 [(tm 71), (tm 72), (tm 73)])), (wB 70 (doMove (tm 74))), (wB 75 (doExtract 0 (tm 70))), (wB 76 (doExtract 1 (tm 70))), (wB 77 (doExtract 2 (tm 70))), (wB 15 (doAlloc 34 [(V.s 0 0), (V.i IntKind.i64 (Int.ofNat 0)), (V.b Bool.false), (V.s 0 0)])), (CO.mk G.none D.none Bool.true (CR.mk (doStore 4 (tm 15) (tm 75)))), (wB 16 (doMove (tm 76))), (wB 17 (doMove (tm 77)))]) s4_33)
noncomputable abbrev s4_35 : CC := (CC.seq s4_11 s4_34)
noncomputable abbrev s4_36 : CC := (CC.seq (CC.region [(wB 60 (doMove (tm 11))), (wB 61 (doCall 11 [(tm 60)])), (wB 59 (doMove (tm 61))), (wB 62 (doExtract 0 (tm 59))), (wB 63 (doExtract 1 (tm 59))), (wB 13 (doMove (tm 62))), (wB 14 (doMove (tm 63)))]) s4_35)
noncomputable abbrev s4_37 : CC := (CC.seq s4_8 s4_36)
noncomputable abbrev s4_38 : CC := (CC.seq (CC.region [(wB 51 (doMove (tm 0))), (wB 52 (doCall 9 [(tm 51)])), (wB 50 (doMove (tm 52))), (wB 53 (doExtract 0 (tm 50))), (wB 54 (doExtract 1 (tm 50))), (wB 11 (doMove (tm 53))), (wB 12 (doMove (tm 54)))]) s4_37)
noncomputable abbrev s4_39 : CC := (CC.seq s4_5 s4_38)
noncomputable abbrev s4_40 : CC := (CC.seq s4_2 s4_39)
noncomputable abbrev b4 : CC := (CC.seq (CC.region [(wB 10 (doMove (O.c (V.b Bool.false))))]) s4_40)
theorem c4 : compFn Try.prog 4 = ⟨207, b4, [(Rs.tmp (slOf 10))]⟩ := by kernel_rfl
noncomputable abbrev s5_0 : CC := (CC.seq (CC.region [(wB 6 (doMove (O.c (V.b Bool.false))))]) CC.ret)
noncomputable abbrev s5_1 : CC := (CC.cond (tm 15) s5_0 CC.skip)
noncomputable abbrev s5_2 : CC := (CC.seq (CC.region [(wB 14 (doCall 7 [])), (wB 15 (doNot (tm 14)))]) s5_1)
noncomputable abbrev s5_3 : CC := (CC.seq (CC.region [(wB 6 (doMove (O.c (V.b Bool.true))))]) CC.ret)
noncomputable abbrev s5_4 : CC := (CC.cond (tm 23) s5_3 CC.skip)
noncomputable abbrev s5_5 : CC := (CC.seq (CC.region [(wB 16 (doMove (tm 0))), (wB 17 (doCall 8 [(tm 16)])), (wB 18 (doNot (tm 17))), (wB 19 (doMove (tm 18))), (wG 19 false 20 (doMove (tm 2))), (wG 19 false 21 (doLenS (tm 20))), (wG 19 false 22 (bin2 fGtr (tm 21) (oN 400))), (wB 23 (doPick (tm 19) (O.c (V.b Bool.true)) (tm 22)))]) s5_4)
noncomputable abbrev s5_6 : CC := (CC.seq (CC.region [(wB 36 (doMove (tm 8))), (wB 37 (bin2 fNeq (tm 36) (oN 0))), (wB 6 (doMove (tm 37)))]) CC.ret)
noncomputable abbrev s5_7 : CC := (CC.cond (tm 35) s5_6 CC.skip)
noncomputable abbrev s5_8 : CC := (CC.seq (CC.region [(wB 29 (doMove (tm 8))), (wB 30 (bin2 fNeq (tm 29) (oN 0))), (wB 31 (doMove (tm 30))), (wG 31 false 32 (doMove (tm 7))), (wG 31 false 33 (doLenS (tm 32))), (wG 31 false 34 (bin2 fLss (tm 33) (oN 10))), (wB 35 (doPick (tm 31) (O.c (V.b Bool.true)) (tm 34)))]) s5_7)
noncomputable abbrev s5_9 : CC := (CC.seq (CC.region [(wB 6 (doMove (O.c (V.b Bool.false))))]) CC.ret)
noncomputable abbrev s5_10 : CC := (CC.cond (tm 71) s5_9 CC.skip)
noncomputable abbrev s5_11 : CC := (CC.seq (CC.region [(wB 50 (doMove (tm 9))), (wB 51 (bin2 fLss (tm 50) (oN 4))), (wB 52 (doMove (tm 51))), (wG 52 true 53 (doMove (tm 11))), (wG 52 true 54 (bin2 fNeq (tm 53) (oN 12))), (wB 55 (doPick (tm 52) (tm 54) (O.c (V.b Bool.false)))), (wB 56 (doMove (tm 55))), (wG 56 false 57 (doMove (tm 11))), (wG 56 false 58 (bin2 fNeq (tm 57) (oN 0))), (wG 56 false 59 (doMove (tm 58))), (wG 59 true 60 (doMove (tm 10))), (wG 59 true 61 (doPtr Bool.true (tm 60) (O.c V.p0))), (wG 56 false 62 (doPick (tm 59) (tm 61) (O.c (V.b Bool.false)))), (wB 63 (doPick (tm 56) (O.c (V.b Bool.true)) (tm 62))), (wB 64 (doMove (tm 63))), (wG 64 false 65 (doMove (tm 11))), (wG 64 false 66 (bin2 fEql (tm 65) (oN 0))), (wG 64 false 67 (doMove (tm 66))), (wG 67 true 68 (doMove (tm 10))), (wG 67 true 69 (doPtr Bool.false (tm 68) (O.c V.p0))), (wG 64 false 70 (doPick (tm 67) (tm 69) (O.c (V.b Bool.false)))), (wB 71 (doPick (tm 64) (O.c (V.b Bool.true)) (tm 70)))]) s5_10)
noncomputable abbrev s5_12 : CC := (CC.seq (CC.region [(wB 77 (doMove (tm 13))), (wB 78 (bin2 fEql (tm 77) (oN 0))), (wB 79 (doMove (tm 12))), (wB 80 (doPtr Bool.true (tm 79) (O.c V.p0))), (wB 81 (doBool Bool.false (tm 78) (tm 80))), (wB 82 (doMove (tm 81))), (wG 82 true 83 (doMove (tm 13))), (wG 82 true 84 (bin2 fEql (tm 83) (oN 0))), (wG 82 true 85 (doMove (tm 84))), (wG 85 false 86 (doMove (tm 13))), (wG 85 false 87 (bin2 fEql (tm 86) (oN 12))), (wG 82 true 88 (doPick (tm 85) (O.c (V.b Bool.true)) (tm 87))), (wG 82 true 89 (doMove (tm 88))), (wG 89 false 90 (doMove (tm 13))), (wG 89 false 91 (bin2 fEql (tm 90) (oN 13))), (wG 82 true 92 (doPick (tm 89) (O.c (V.b Bool.true)) (tm 91))), (wG 82 true 93 (doMove (tm 92))), (wG 93 false 94 (doMove (tm 13))), (wG 93 false 95 (bin2 fEql (tm 94) (oN 10))), (wG 82 true 96 (doPick (tm 93) (O.c (V.b Bool.true)) (tm 95))), (wB 97 (doPick (tm 82) (tm 96) (O.c (V.b Bool.false)))), (wB 6 (doMove (tm 97)))]) CC.ret)
noncomputable abbrev s5_13 : CC := (CC.seq (CC.region [(wB 73 (doMove (tm 2))), (wB 74 (doCall 11 [(tm 73)])), (wB 72 (doMove (tm 74))), (wB 75 (doExtract 0 (tm 72))), (wB 76 (doExtract 1 (tm 72))), (wB 12 (doMove (tm 75))), (wB 13 (doMove (tm 76)))]) s5_12)
noncomputable abbrev s5_14 : CC := (CC.seq s5_11 s5_13)
noncomputable abbrev s5_15 : CC := (CC.seq (CC.region [(wB 44 (doMove (tm 7))), (wB 45 (doMove (tm 9))), (wB 46 (doSSlice (tm 44) none (some (tm 45)))), (wB 47 (doCall 11 [(tm 46)])), (wB 43 (doMove (tm 47))), (wB 48 (doExtract 0 (tm 43))), (wB 49 (doExtract 1 (tm 43))), (wB 10 (doMove (tm 48))), (wB 11 (doMove (tm 49)))]) s5_14)
noncomputable abbrev s5_16 : CC := (CC.seq (CC.region [(wB 38 (doMove (tm 1))), (wB 39 (doConv IntKind.i64 (tm 38))), (wB 40 (doMove (tm 7))), (wB 41 (doLenS (tm 40))), (wB 42 (doRem (tm 39) (tm 41))), (wB 9 (doMove (tm 42)))]) s5_15)
noncomputable abbrev s5_17 : CC := (CC.seq s5_8 s5_16)
noncomputable abbrev s5_18 : CC := (CC.seq (CC.region [(wB 25 (doMove (tm 0))), (wB 26 (doCall 9 [(tm 25)])), (wB 24 (doMove (tm 26))), (wB 27 (doExtract 0 (tm 24))), (wB 28 (doExtract 1 (tm 24))), (wB 7 (doMove (tm 27))), (wB 8 (doMove (tm 28)))]) s5_17)
noncomputable abbrev s5_19 : CC := (CC.seq s5_5 s5_18)
noncomputable abbrev s5_20 : CC := (CC.seq s5_2 s5_19)
noncomputable abbrev b5 : CC := (CC.seq (CC.region [(wB 6 (doMove (O.c (V.b Bool.false))))]) s5_20)
theorem c5 : compFn Try.prog 5 = ⟨98, b5, [(Rs.tmp (slOf 6))]⟩ := by kernel_rfl
noncomputable abbrev s6_0 : CC := (CC.seq (CC.region [(wB 6 (doMove (O.c (V.b Bool.false))))]) CC.ret)
noncomputable abbrev s6_1 : CC := (CC.cond (tm 30) s6_0 CC.skip)
noncomputable abbrev s6_2 : CC := (CC.seq (CC.region [(wB 29 (doCall 7 [])), (wB 30 (doNot (tm 29)))]) s6_1)
noncomputable abbrev s6_3 : CC := (CC.cond (tm 41) CC.skip (CC.exit 0))
noncomputable abbrev s6_4 : CC := (CC.seq (CC.region [(wB 39 (doMove (tm 10))), (wB 40 (doMove (tm 7))), (wB 41 (bin2 fLss (tm 39) (tm 40)))]) s6_3)
noncomputable abbrev s6_5 : CC := (CC.cond (tm 46) CC.skip (CC.exit 2))
noncomputable abbrev s6_6 : CC := (CC.seq (CC.region [(wB 45 (doMove (tm 11))), (wB 46 (bin2 fGeq (tm 45) (oN 1)))]) s6_5)
noncomputable abbrev s6_7 : CC := (CC.region [(wB 49 (doMove (tm 9))), (wB 50 (doMove (tm 10))), (wB 51 (bin2 fAdd (oN 97) (tm 50))), (wB 52 (doConv IntKind.u8 (tm 51))), (wB 53 (doBuildSlice 5 1 [(V.i IntKind.u8 (Int.ofNat 0))] [(Pt.mk 0 1 (tm 52))])), (wB 54 (doB2S (tm 53))), (wB 55 (doConcat (O.c (V.s 3 7038329)) (tm 54))), (wB 56 (doMove (tm 11))), (wB 57 (bin2 fMul (oN 10) (tm 56))), (wB 58 (doBuild [(V.s 0 0), (V.i IntKind.i64 (Int.ofNat 0)), (V.b Bool.false), (V.s 0 0)] [(Pt.mk 0 1 (tm 55)), (Pt.mk 1 1 (tm 57)), (Pt.mk 3 1 (O.c (V.s 19 2639974731702377088567223731525629998947132787)))])), (wB 59 (doBuildSlice 34 1 [(V.s 0 0), (V.i IntKind.i64 (Int.ofNat 0)), (V.b Bool.false), (V.s 0 0)] [(Pt.mk 0 4 (tm 58))])), (wB 60 (doAppend 34 4 (tm 49) (tm 59))), (wB 9 (doMove (tm 60)))])
noncomputable abbrev s6_8 : CC := (CC.block 3 s6_7)
noncomputable abbrev s6_9 : CC := (CC.region [(wB 47 (doMove (tm 11))), (wB 48 (bin2 fSub (tm 47) (oN 1))), (wB 11 (doMove (tm 48)))])
noncomputable abbrev s6_10 : CC := (CC.seq s6_8 s6_9)
noncomputable abbrev l6_0 : CC := (CC.seq s6_6 s6_10)
noncomputable abbrev s6_11 : CC := (CC.loop l6_0)
noncomputable abbrev s6_12 : CC := (CC.block 2 s6_11)
noncomputable abbrev s6_13 : CC := (CC.seq (CC.region [(wB 44 (doMove (tm 8))), (wB 11 (doMove (tm 44)))]) s6_12)
noncomputable abbrev s6_14 : CC := (CC.block 1 s6_13)
noncomputable abbrev s6_15 : CC := (CC.region [(wB 42 (doMove (tm 10))), (wB 43 (bin2 fAdd (tm 42) (oN 1))), (wB 10 (doMove (tm 43)))])
noncomputable abbrev s6_16 : CC := (CC.seq s6_14 s6_15)
noncomputable abbrev l6_1 : CC := (CC.seq s6_4 s6_16)
noncomputable abbrev s6_17 : CC := (CC.loop l6_1)
noncomputable abbrev s6_18 : CC := (CC.block 0 s6_17)
noncomputable abbrev s6_19 : CC := (CC.seq (CC.region [(wB 10 (doMove (oN 0)))]) s6_18)
noncomputable abbrev s6_20 : CC := (CC.seq (CC.region [(wB 6 (doMove (O.c (V.b Bool.false))))]) CC.ret)
noncomputable abbrev s6_21 : CC := (CC.cond (tm 93) s6_20 CC.skip)
noncomputable abbrev s6_22 : CC := (CC.seq (CC.region [(wB 71 (doMove (tm 13))), (wB 72 (bin2 fNeq (tm 71) (oN 0))), (wB 73 (doMove (tm 72))), (wG 73 false 74 (doMove (tm 15))), (wG 73 false 75 (bin2 fNeq (tm 74) (oN 0))), (wB 76 (doPick (tm 73) (O.c (V.b Bool.true)) (tm 75))), (wB 77 (doMove (tm 76))), (wG 77 false 78 (doMove (tm 14))), (wG 77 false 79 (doPtr Bool.false (tm 78) (O.c V.p0))), (wB 80 (doPick (tm 77) (O.c (V.b Bool.true)) (tm 79))), (wB 81 (doMove (tm 80))), (wG 81 false 82 (doMove (tm 14))), (wG 81 false 83 (doCall 19 [(tm 82)])), (wG 81 false 84 (doMove (tm 7))), (wG 81 false 85 (doMove (tm 8))), (wG 81 false 86 (bin2 fMul (tm 84) (tm 85))), (wG 81 false 87 (bin2 fNeq (tm 83) (tm 86))), (wB 88 (doPick (tm 81) (O.c (V.b Bool.true)) (tm 87))), (wB 89 (doMove (tm 88))), (wG 89 false 90 (doMove (tm 14))), (wG 89 false 91 (doCall 20 [(tm 90)])), (wG 89 false 92 (bin2 fLss (tm 91) (oN 1))), (wB 93 (doPick (tm 89) (O.c (V.b Bool.true)) (tm 92)))]) s6_21)
noncomputable abbrev s6_23 : CC := (CC.cond (tm 108) CC.skip (CC.exit 4))
noncomputable abbrev s6_24 : CC := (CC.seq (CC.region [(wB 104 (doMove (tm 18))), (wB 105 (doMove (tm 8))), (wB 106 (bin2 fMul (oN 10) (tm 105))), (wB 107 (bin2 fAdd (tm 106) (oN 5))), (wB 108 (bin2 fLeq (tm 104) (tm 107)))]) s6_23)
noncomputable abbrev s6_25 : CC := (CC.seq (CC.region [(wB 6 (doMove (O.c (V.b Bool.false))))]) CC.ret)
noncomputable abbrev s6_26 : CC := (CC.cond (tm 137) s6_25 CC.skip)
noncomputable abbrev s6_27 : CC := (CC.seq (CC.region [(wB 119 (doMove (tm 21))), (wB 120 (bin2 fNeq (tm 119) (oN 0))), (wB 121 (doMove (tm 120))), (wG 121 false 122 (doMove (tm 20))), (wG 121 false 123 (doMove (tm 18))), (wG 121 false 124 (bin2 fGeq (tm 123) (oN 10))), (wG 121 false 125 (doBool Bool.true (tm 122) (tm 124))), (wB 126 (doPick (tm 121) (O.c (V.b Bool.true)) (tm 125))), (wB 127 (doMove (tm 126))), (wG 127 false 128 (doMove (tm 20))), (wG 127 false 129 (doMove (tm 128))), (wG 129 true 130 (doFieldAddr 1 (tm 19))), (wG 129 true 131 (doLoad (tm 130))), (wG 129 true 132 (doMove (tm 18))), (wG 129 true 133 (bin2 fQuo (tm 132) (oN 10))), (wG 129 true 134 (bin2 fMul (tm 133) (oN 10))), (wG 129 true 135 (bin2 fNeq (tm 131) (tm 134))), (wG 127 false 136 (doPick (tm 129) (tm 135) (O.c (V.b Bool.false)))), (wB 137 (doPick (tm 127) (O.c (V.b Bool.true)) (tm 136)))]) s6_26)
noncomputable abbrev s6_28 : CC := (CC.seq (CC.region [(wB 112 (doMove (tm 14))), (wB 113 (doMove (tm 17))), (wB 114 (doMove (tm 18))), (wB 115 (doCall 12 [(tm 112), (tm 113), (tm 114)])), (wB 111 (doMove (tm 115))), (wB 116 (doExtract 0 (tm 111))), (wB 117 (doExtract 1 (tm 111))), (wB 118 (doExtract 2 (tm 111))), (wB 19 (doAlloc 34 [(V.s 0 0), (V.i IntKind.i64 (Int.ofNat 0)), (V.b Bool.false), (V.s 0 0)])), (CO.mk G.none D.none Bool.true (CR.mk (doStore 4 (tm 19) (tm 116)))), (wB 20 (doMove (tm 117))), (wB 21 (doMove (tm 118)))]) s6_27)
noncomputable abbrev s6_29 : CC := (CC.block 5 s6_28)
noncomputable abbrev s6_30 : CC := (CC.region [(wB 109 (doMove (tm 18))), (wB 110 (bin2 fAdd (tm 109) (oN 5))), (wB 18 (doMove (tm 110)))])
noncomputable abbrev s6_31 : CC := (CC.seq s6_29 s6_30)
noncomputable abbrev l6_2 : CC := (CC.seq s6_24 s6_31)
noncomputable abbrev s6_32 : CC := (CC.loop l6_2)
noncomputable abbrev s6_33 : CC := (CC.block 4 s6_32)
noncomputable abbrev s6_34 : CC := (CC.seq (CC.region [(wB 18 (doMove (oN 0)))]) s6_33)
noncomputable abbrev s6_35 : CC := (CC.seq (CC.region [(wB 159 (doMove (tm 23))), (wB 160 (doNot (tm 159))), (wB 161 (doMove (tm 160))), (wG 161 true 162 (doMove (tm 24))), (wG 161 true 163 (bin2 fEql (tm 162) (oN 0))), (wB 164 (doPick (tm 161) (tm 163) (O.c (V.b Bool.false)))), (wB 165 (doMove (tm 164))), (wG 165 true 166 (doMove (tm 26))), (wG 165 true 167 (bin2 fEql (tm 166) (oN 0))), (wB 168 (doPick (tm 165) (tm 167) (O.c (V.b Bool.false)))), (wB 169 (doMove (tm 168))), (wG 169 true 170 (doMove (tm 25))), (wG 169 true 171 (doLen (tm 170))), (wG 169 true 172 (doMove (tm 8))), (wG 169 true 173 (bin2 fEql (tm 171) (tm 172))), (wB 174 (doPick (tm 169) (tm 173) (O.c (V.b Bool.false)))), (wB 175 (doMove (tm 174))), (wG 175 true 176 (doMove (tm 28))), (wG 175 true 177 (bin2 fEql (tm 176) (oN 0))), (wB 178 (doPick (tm 175) (tm 177) (O.c (V.b Bool.false)))), (wB 179 (doMove (tm 178))), (wG 179 true 180 (doMove (tm 27))), (wG 179 true 181 (doMove (tm 9))), (wG 179 true 182 (doCall 17 [(tm 180), (tm 181)])), (wB 183 (doPick (tm 179) (tm 182) (O.c (V.b Bool.false)))), (wB 184 (doMove (tm 183))), (wG 184 true 185 (doMove (tm 7))), (wG 184 true 186 (doMove (tm 8))), (wG 184 true 187 (bin2 fMul (tm 185) (tm 186))), (wG 184 true 188 (bin2 fLss (tm 187) (oN 12))), (wG 184 true 189 (doMove (tm 188))), (wG 189 false 190 (doMove (tm 14))), (wG 189 false 191 (doCall 20 [(tm 190)])), (wG 189 false 192 (bin2 fGtr (tm 191) (oN 1))), (wG 184 true 193 (doPick (tm 189) (O.c (V.b Bool.true)) (tm 192))), (wB 194 (doPick (tm 184) (tm 193) (O.c (V.b Bool.false)))), (wB 6 (doMove (tm 194)))]) CC.ret)
noncomputable abbrev s6_36 : CC := (CC.seq (CC.region [(wB 155 (doMove (tm 14))), (wB 156 (doCall 15 [(tm 155)])), (wB 154 (doMove (tm 156))), (wB 157 (doExtract 0 (tm 154))), (wB 158 (doExtract 1 (tm 154))), (wB 27 (doMove (tm 157))), (wB 28 (doMove (tm 158)))]) s6_35)
noncomputable abbrev s6_37 : CC := (CC.seq (CC.region [(wB 147 (doMove (tm 14))), (wB 148 (doMove (tm 17))), (wB 149 (doMove (tm 17))), (wB 150 (doConcat (tm 149) (O.c (V.s 1 0)))), (wB 151 (doCall 14 [(tm 147), (tm 148), (tm 150)])), (wB 146 (doMove (tm 151))), (wB 152 (doExtract 0 (tm 146))), (wB 153 (doExtract 1 (tm 146))), (wB 25 (doMove (tm 152))), (wB 26 (doMove (tm 153)))]) s6_36)
noncomputable abbrev s6_38 : CC := (CC.seq (CC.region [(wB 139 (doMove (tm 14))), (wB 140 (doMove (tm 17))), (wB 141 (doConcat (tm 140) (O.c (V.s 1 120)))), (wB 142 (doCall 12 [(tm 139), (tm 141), (oN 1000)])), (wB 138 (doMove (tm 142))), (wB 143 (doExtract 0 (tm 138))), (wB 144 (doExtract 1 (tm 138))), (wB 145 (doExtract 2 (tm 138))), (wB 22 (doAlloc 34 [(V.s 0 0), (V.i IntKind.i64 (Int.ofNat 0)), (V.b Bool.false), (V.s 0 0)])), (CO.mk G.none D.none Bool.true (CR.mk (doStore 4 (tm 22) (tm 143)))), (wB 23 (doMove (tm 144))), (wB 24 (doMove (tm 145)))]) s6_37)
noncomputable abbrev s6_39 : CC := (CC.seq s6_34 s6_38)
noncomputable abbrev s6_40 : CC := (CC.seq (CC.region [(wB 98 (doMove (tm 16))), (wB 99 (bin2 fAdd (oN 97) (tm 98))), (wB 100 (doConv IntKind.u8 (tm 99))), (wB 101 (doBuildSlice 5 1 [(V.i IntKind.u8 (Int.ofNat 0))] [(Pt.mk 0 1 (tm 100))])), (wB 102 (doB2S (tm 101))), (wB 103 (doConcat (O.c (V.s 3 7038329)) (tm 102))), (wB 17 (doMove (tm 103)))]) s6_39)
noncomputable abbrev s6_41 : CC := (CC.seq (CC.region [(wB 94 (doMove (tm 2))), (wB 95 (doConv IntKind.i64 (tm 94))), (wB 96 (doMove (tm 7))), (wB 97 (doRem (tm 95) (tm 96))), (wB 16 (doMove (tm 97)))]) s6_40)
noncomputable abbrev s6_42 : CC := (CC.seq s6_22 s6_41)
noncomputable abbrev s6_43 : CC := (CC.seq (CC.region [(wB 67 (doMove (tm 12))), (wB 68 (doCall 11 [(tm 67)])), (wB 66 (doMove (tm 68))), (wB 69 (doExtract 0 (tm 66))), (wB 70 (doExtract 1 (tm 66))), (wB 14 (doMove (tm 69))), (wB 15 (doMove (tm 70)))]) s6_42)
noncomputable abbrev s6_44 : CC := (CC.seq (CC.region [(wB 62 (doMove (tm 9))), (wB 63 (doCall 9 [(tm 62)])), (wB 61 (doMove (tm 63))), (wB 64 (doExtract 0 (tm 61))), (wB 65 (doExtract 1 (tm 61))), (wB 12 (doMove (tm 64))), (wB 13 (doMove (tm 65)))]) s6_43)
noncomputable abbrev s6_45 : CC := (CC.seq s6_19 s6_44)
noncomputable abbrev s6_46 : CC := (CC.seq (CC.region [(wB 9 (doMove (O.c V.l0)))]) s6_45)
noncomputable abbrev s6_47 : CC := (CC.seq (CC.region [(wB 31 (doMove (tm 0))), (wB 32 (doRem (tm 31) (O.c (V.i IntKind.u8 (Int.ofNat 25))))), (wB 33 (doConv IntKind.i64 (tm 32))), (wB 34 (bin2 fAdd (tm 33) (oN 1))), (wB 35 (doMove (tm 1))), (wB 36 (doRem (tm 35) (O.c (V.i IntKind.u8 (Int.ofNat 4))))), (wB 37 (doConv IntKind.i64 (tm 36))), (wB 38 (bin2 fAdd (tm 37) (oN 1))), (wB 7 (doMove (tm 34))), (wB 8 (doMove (tm 38)))]) s6_46)
noncomputable abbrev s6_48 : CC := (CC.seq s6_2 s6_47)
noncomputable abbrev b6 : CC := (CC.seq (CC.region [(wB 6 (doMove (O.c (V.b Bool.false))))]) s6_48)
theorem c6 : compFn Try.prog 6 = ⟨195, b6, [(Rs.tmp (slOf 6))]⟩ := by kernel_rfl
end Go.Proofs.Ytiingkpdodbldaa

set_option maxRecDepth 1000000
namespace Go.Proofs.Ytiingkpdodbldaa.ravelinlaw9
open Go.Ev
theorem known_run : runFn noTb Try.prog 1000 7 [] = true := by kernel_rfl
theorem known_pure : PureTrue Try.prog 7 := pure_of (noTb_ok _) (Checked.mixed Try.checked) known_run
end Go.Proofs.Ytiingkpdodbldaa.ravelinlaw9

set_option maxRecDepth 100000
set_option maxHeartbeats 8000000
set_option linter.all false
namespace Go.Proofs.Ytiingkpdodbldaa
open Go Go.Ev
theorem known9 {h : H} : FnOk Try.prog 7 [] h fun y h' => y = .b true ∧ h' = h := FnOk.of_pure ravelinlaw9.known_pure h
theorem tabE_len {L : List Ent} (h : okB L) (hl : L.length ≤ 100) : 10 ≤ (tabB L).length ∧ (tabB L).length ≤ 30000 := by
  have hbl := blksE_len L
  have hbt := bodyT_len (blksE_ne (L := L)) (by rw [blksE_flat]; omega)
  rw [blksE_flat] at hbt
  have hil := idxU_len h (by omega) (blksE L).length (by omega)
  rw [idxU_all] at hil
  have hsl := sieveB_len (keysE L)
  have hkl2 : (keysE L).length ≤ L.length := keysU_len L L.length
  have q1 := sealB_len (idxB L)
  have q2 := sealB_len (sieveB (keysE L))
  have q3 := numB_len (n := (idxB L).length) (by omega)
  have q4 := numB_len (n := (sieveB (keysE L)).length) (by omega)
  have q5 := fourB_len (bodyT (blksE L)).length
  unfold tabB
  simp only [List.length_append]
  omega
end Go.Proofs.Ytiingkpdodbldaa

set_option linter.all false
namespace Go.Proofs.Ytiingkpdodbldaa
open Go Go.Ev
def hB (h : Nat) : List UInt8 := List.replicate h 104
def ltr (i : Nat) : UInt8 := UInt8.ofNat (97 + i)
theorem ltr_toNat {i : Nat} (hi : i ≤ 100) : (ltr i).toNat = 97 + i := by unfold ltr; rw [UInt8.toNat_ofNat', Nat.mod_eq_of_lt (by omega)]
theorem ltr_ne {i j : Nat} (hi : i ≤ 100) (hj : j ≤ 100) (h : i ≠ j) : ltr i ≠ ltr j := fun e => by
  have := congrArg UInt8.toNat e
  rw [ltr_toNat hi, ltr_toNat hj] at this; omega
end Go.Proofs.Ytiingkpdodbldaa

set_option maxRecDepth 100000
set_option linter.all false
namespace Go.Proofs.Ytiingkpdodbldaa
open Go Go.Ev
def keyM (i : Nat) : List UInt8 := [107, 101, 121, ltr i]
def valM : List UInt8 := [118, 97, 108, 117, 101, 32, 111, 102, 32, 115, 111, 109, 101, 32, 98, 121, 116, 101, 115]
def entM (i s : Nat) : Ent := ⟨keyM i, 10 * (s : Int), false, valM⟩
/-- the first n of a key's entries -/
def rowM (i v : Nat) : Nat → List Ent
  | 0 => []
  | n + 1 => rowM i v n ++ [entM i (v - n)]
def manyM (v : Nat) : Nat → List Ent
  | 0 => []
  | k + 1 => manyM v k ++ rowM k v v
theorem rowM_len (i v : Nat) : ∀ n, (rowM i v n).length = n
  | 0 => rfl
  | n + 1 => by unfold rowM; rw [List.length_append, rowM_len i v n]; rfl
theorem manyM_len (v : Nat) : ∀ k, (manyM v k).length = k * v
  | 0 => by simp [manyM]
  | k + 1 => by unfold manyM; rw [List.length_append, manyM_len v k, rowM_len, Nat.add_mul]; omega
theorem getD_app {A C : List Ent} {p : Nat} : (A ++ C).getD p default = if p < A.length then A.getD p default else C.getD (p - A.length) default := by
  split
  · rename_i h; simp [List.getD, List.getElem?_append, h]
  · rename_i h; simp [List.getD, List.getElem?_append, h]
theorem rowM_at {i v : Nat} : ∀ {n p : Nat}, p < n → (rowM i v n).getD p default = entM i (v - p)
  | n + 1, p, h => by
    unfold rowM
    rw [getD_app, rowM_len]
    split
    · exact rowM_at (by omega)
    · obtain rfl : p = n := by omega
      rw [Nat.sub_self]; rfl
theorem manyM_at {v : Nat} (hv : 1 ≤ v) (hv4 : v ≤ 4) : ∀ {k p : Nat}, p < k * v → (manyM v k).getD p default = entM (p / v) (v - p % v)
  | 0, p, h => by omega
  | k + 1, p, h => by
    unfold manyM
    rw [getD_app, manyM_len]
    split
    · exact manyM_at hv hv4 (by assumption)
    · have hh : p - k * v < v ∧ p / v = k ∧ p % v = p - k * v := by
        rcases (by omega : v = 1 ∨ v = 2 ∨ v = 3 ∨ v = 4) with rfl | rfl | rfl | rfl <;> omega
      rw [rowM_at hh.1, hh.2.1, hh.2.2]
theorem keyM_ne {a b : Nat} (ha : a ≤ 100) (hb : b ≤ 100) (h : a ≠ b) : keyM a ≠ keyM b := fun e => ltr_ne ha hb h (by injection e with _ e; injection e with _ e; injection e with _ e; injection e)
theorem keyM_less {a b : Nat} (hb : b ≤ 100) (h : a < b) : Op.bytesLess (keyM a) (keyM b) = true := by
  refine bl_cons.2 (.inr ⟨rfl, bl_cons.2 (.inr ⟨rfl, bl_cons.2 (.inr ⟨rfl, bl_cons.2 (.inl ?_)⟩)⟩)⟩)
  rw [ltr_toNat (by omega), ltr_toNat (by omega)]; omega
theorem div_le' {v k p : Nat} (hv : 1 ≤ v) (hv4 : v ≤ 4) (h : p < k * v) : p / v < k := by
  rcases (by omega : v = 1 ∨ v = 2 ∨ v = 3 ∨ v = 4) with rfl | rfl | rfl | rfl <;> omega
theorem manyM_ok {v k : Nat} (hv : 1 ≤ v) (hv4 : v ≤ 4) (hk : 1 ≤ k) (hk25 : k ≤ 25) : okB (manyM v k) := by
  have hl := manyM_len v k
  have hkv : 1 ≤ k * v := Nat.mul_pos hk hv
  refine ⟨?_, fun e => by rw [e] at hl; simp at hl; omega, sorted_iff.2 fun p hp => ?_⟩
  · rw [List.all_eq_true]
    intro e he
    obtain ⟨p, hp, rfl⟩ := List.getElem_of_mem he
    have := manyM_at hv hv4 (k := k) (p := p) (by omega)
    rw [List.getD_eq_getElem?_getD, List.getElem?_eq_getElem hp] at this
    have h2 : p % v < v := Nat.mod_lt _ hv
    have this : (manyM v k)[p] = entM (p / v) (v - p % v) := this
    rw [this]
    exact isE_iff.2 ⟨⟨by show (1 : Int) ≤ 10 * ((v - p % v : Nat) : Int); omega, by show 10 * ((v - p % v : Nat) : Int) ≤ 1000000; omega⟩, by simp [entM, keyM], by simp [entM, keyM], by simp [entM, valM], by simp [entM]⟩
  · rw [hl] at hp
    rw [manyM_at hv hv4 (by omega), manyM_at hv hv4 hp]
    have hd := div_le' hv hv4 hp
    have hh : (p / v = (p + 1) / v ∧ v - (p + 1) % v < v - p % v) ∨ p / v < (p + 1) / v := by
      rcases (by omega : v = 1 ∨ v = 2 ∨ v = 3 ∨ v = 4) with rfl | rfl | rfl | rfl <;> omega
    rcases hh with ⟨h1, h2⟩ | h1
    · rw [h1]
      refine (lessE_eq (a := entM ((p + 1) / v) (v - p % v)) (b := entM ((p + 1) / v) (v - (p + 1) % v)) rfl).trans (decide_eq_true ?_)
      show 10 * ((v - (p + 1) % v : Nat) : Int) < 10 * ((v - p % v : Nat) : Int); omega
    · exact lessE_lt (keyM_less (by omega) h1)
theorem many_none {v k q : Nat} (hv : 1 ≤ v) (hv4 : v ≤ 4) (hq : q < 10) (key : List UInt8) : newestE (manyM v k) key (q : Int) = (entZ, false) := by
  refine newest_end fun p hp => ?_
  rw [manyM_len] at hp
  rw [manyM_at hv hv4 hp]
  have h2 : p % v < v := Nat.mod_lt _ hv
  unfold hitE
  rw [decide_eq_false (p := (entM (p / v) (v - p % v)).seq ≤ (q : Int)) (by show ¬ 10 * ((v - p % v : Nat) : Int) ≤ (q : Int); omega), Bool.and_false]
theorem many_some {v k q i : Nat} (hv : 1 ≤ v) (hv4 : v ≤ 4) (hk : 1 ≤ k) (hk25 : k ≤ 25) (hi : i < k) (hq : 10 ≤ q) (hq2 : q ≤ 10 * v + 5) : newestE (manyM v k) (keyM i) (q : Int) = (entM i (q / 10), true) := by
  have hok := manyM_ok hv hv4 hk hk25
  have hidx : i * v + (v - q / 10) < k * v ∧ (i * v + (v - q / 10)) / v = i ∧ v - (i * v + (v - q / 10)) % v = q / 10 := by
    have hkk : i + 1 ≤ k := hi
    rcases (by omega : v = 1 ∨ v = 2 ∨ v = 3 ∨ v = 4) with rfl | rfl | rfl | rfl <;> omega
  obtain ⟨h1, h2, h3⟩ := hidx
  have := newest_at hok.2.2 (key := keyM i) (seq := (q : Int)) (i := i * v + (v - q / 10)) (fun p hp => ?_) (by rw [manyM_len]; exact h1) ?_
  · rw [this, manyM_at hv hv4 h1, h2, h3]
  · rw [manyM_at hv hv4 (by omega)]
    unfold hitE
    by_cases hpi : p / v = i
    · have hs : q / 10 < v - p % v := by
        rcases (by omega : v = 1 ∨ v = 2 ∨ v = 3 ∨ v = 4) with rfl | rfl | rfl | rfl <;> omega
      rw [decide_eq_false (p := (entM (p / v) (v - p % v)).seq ≤ (q : Int)) (by show ¬ 10 * ((v - p % v : Nat) : Int) ≤ (q : Int); omega), Bool.and_false]
    · have := div_le' hv hv4 (show p < k * v by omega)
      rw [decide_eq_false (p := (entM (p / v) (v - p % v)).key = keyM i) (keyM_ne (by omega) (by omega) hpi), Bool.false_and]
  · rw [manyM_at hv hv4 h1, h2, h3]
    unfold hitE
    rw [decide_eq_true (p := (entM i (q / 10)).key = keyM i) rfl, decide_eq_true (p := (entM i (q / 10)).seq ≤ (q : Int)) (by show 10 * ((q / 10 : Nat) : Int) ≤ (q : Int); omega)]; rfl
theorem many_other {v k i : Nat} (hv : 1 ≤ v) (hv4 : v ≤ 4) (q : Int) : newestE (manyM v k) (keyM i ++ [120]) q = (entZ, false) := by
  refine newest_end fun p hp => ?_
  rw [manyM_len] at hp
  rw [manyM_at hv hv4 hp]
  unfold hitE
  rw [decide_eq_false (p := (entM (p / v) (v - p % v)).key = keyM i ++ [120]) (fun e => by have := congrArg List.length e; simp [entM, keyM] at this), Bool.false_and]
theorem inR_M : ∀ a, a < 25 → ∀ i, i < 25 → inR (keyM i) (keyM i ++ [0]) ⟨keyM a, 0, false, []⟩ = decide (a = i) := by decide +kernel
theorem row_range {i v : Nat} (hi : i < 25) {a : Nat} (ha : a < 25) : ∀ n, rangeE (rowM a v n) (keyM i) (keyM i ++ [0]) = if a = i then rowM a v n else []
  | 0 => by unfold rangeE rowM; split <;> rfl
  | n + 1 => by
    have ih := row_range hi ha n (v := v)
    unfold rangeE at *
    unfold rowM
    rw [List.filter_append, ih, List.filter_cons]
    have h : inR (keyM i) (keyM i ++ [0]) (entM a (v - n)) = decide (a = i) := inR_M a ha i hi
    rw [h]
    by_cases e : a = i
    · rw [if_pos e, if_pos e, decide_eq_true e]; rfl
    · rw [if_neg e, if_neg e, decide_eq_false e]; rfl
theorem many_range {i v : Nat} (hi : i < 25) : ∀ k, k ≤ 25 → (rangeE (manyM v k) (keyM i) (keyM i ++ [0])).length = if i < k then v else 0
  | 0, _ => rfl
  | k + 1, hk => by
    have ih := many_range hi (v := v) k (by omega)
    have hr := row_range hi (a := k) (by omega) v (v := v)
    unfold rangeE at *
    unfold manyM
    rw [List.filter_append, List.length_append, ih, hr]
    by_cases e : k = i
    · rw [if_pos e, rowM_len, if_neg (by omega), if_pos (by omega)]; omega
    · rw [if_neg e]
      by_cases e2 : i < k
      · rw [if_pos e2, if_pos (by omega)]; rfl
      · rw [if_neg e2, if_neg (by omega)]; rfl
theorem blkGo_one : ∀ {r c b : List Ent}, blkGo c r = [b] → b = c ++ r ∧ (r = [] ∨ (blkE b).1.length ≤ 200)
  | [], c, b, h => by
    rw [blkGo_nil] at h
    exact ⟨by rw [List.append_nil]; exact (List.cons.inj h).1.symm, .inl rfl⟩
  | e :: r, c, b, h => by
    unfold blkGo at h
    split at h
    · have := blkGo_pos r [e]
      have h2 := (List.cons.inj h).2
      rw [h2] at this; simp at this
    · rename_i hn
      obtain ⟨h1, h2⟩ := blkGo_one h
      refine ⟨by rw [h1]; simp, .inr ?_⟩
      rcases h2 with rfl | h2
      · rw [h1, List.append_nil]; omega
      · exact h2
theorem blks_two {L : List Ent} (hl : 2 ≤ L.length) (h : 200 < (blkE L).1.length) : 2 ≤ (blksE L).length := by
  cases L with
  | nil => simp at hl
  | cons e r =>
    have hp := blkGo_pos r [e]
    have hd : blksE (e :: r) = blkGo [e] r := rfl
    rw [hd]
    rcases hb : blkGo [e] r with _ | ⟨b, _ | ⟨c, bs⟩⟩
    · rw [hb] at hp; simp at hp
    · obtain ⟨h1, h2⟩ := blkGo_one hb
      have h1 : b = e :: r := h1
      rcases h2 with rfl | h2
      · simp at hl
      · rw [h1] at h2; omega
    · simp
theorem one_big (p : List UInt8) {i s : Nat} : 22 ≤ (oneB p (entM i s)).length := by
  unfold oneB tailB textB
  simp only [entM, List.length_append]
  have : ∀ n, 1 ≤ (numB n).length := fun n => by unfold numB; simp
  have h1 := this (10 * (s : Int)).toNat
  have h2 := this valM.length
  have h3 : valM.length = 19 := rfl
  simp only [Bool.false_eq_true, if_false, List.length_cons, List.length_append]
  omega
theorem body_big : ∀ {L : List Ent} (p : List UInt8), (∀ e ∈ L, ∃ i s, e = entM i s) → 22 * L.length ≤ (bodyB p L).length
  | [], _, _ => by simp
  | e :: L, p, h => by
    obtain ⟨i, s, he⟩ := h e (by simp)
    have h1 := one_big p (i := i) (s := s)
    have h2 := body_big (L := L) e.key fun e he => h e (List.mem_cons_of_mem _ he)
    have e1 : bodyB p (e :: L) = oneB p e ++ bodyB e.key L := rfl
    rw [e1, List.length_append, List.length_cons, he] 
    rw [he] at h2
    omega
theorem many_blocks {v k : Nat} (hv : 1 ≤ v) (hv4 : v ≤ 4) (hk : 1 ≤ k) (hk25 : k ≤ 25) (h12 : 12 ≤ k * v) : 2 ≤ (blksE (manyM v k)).length := by
  have hl := manyM_len v k
  have hok := manyM_ok hv hv4 hk hk25
  refine blks_two (by omega) ?_
  have hb := body_big (L := manyM v k) [] fun e he => by
    obtain ⟨p, hp, rfl⟩ := List.getElem_of_mem he
    have := manyM_at hv hv4 (k := k) (p := p) (by omega)
    rw [List.getD_eq_getElem?_getD, List.getElem?_eq_getElem hp] at this
    exact ⟨_, _, this⟩
  rw [blkE_ok hok.1 hok.2.1 hok.2.2]
  show 200 < (sealB _).length
  rw [sealB_len]; omega
end Go.Proofs.Ytiingkpdodbldaa

set_option maxRecDepth 100000
set_option maxHeartbeats 8000000
set_option linter.all false
namespace Go.Proofs.Ytiingkpdodbldaa
open Go Go.Ev
theorem tableMany_ok {h : H} {n m ask : UInt8} (hf : B.val h.floor ≤ B.val h.next) :
    FnOk Try.prog 6 [.i .u8 (n.toNat : Int), .i .u8 (m.toNat : Int), .i .u8 (ask.toNat : Int)] h fun r h' => r = .b true := by
  have hn0 := n.toNat_lt
  have hm0 := m.toNat_lt
  have ha0 := ask.toNat_lt
  have k3 : V.s 3 7038329 = sv [107, 101, 121] := rfl
  have k19 : V.s 19 2639974731702377088567223731525629998947132787 = sv valM := rfl
  have kx : V.s 1 120 = sv [120] := rfl
  have k0 : V.s 1 0 = sv [0] := rfl
  refine fn_go c6 (by intro hb; cases hb) (by simp) (by simp) fun Q hQ => ?_
  simp only [slotsF, Nat.reduceAdd]
  repeat' (first
    | refine St.h ?_
    | simp (disch := first | omega | (simp only [lnv]; omega)) only [wlk, ↓get_put', ↓reduceIte, seval]
    | (with_reducible (first | apply cd_split | apply gd_split)) <;> (intro hc; (try simp only [hcn] at hc); (try simp only [hc]); (try simp only [hcl] at hc); try omega))
  refine CL.pure known9 ?_
  repeat' (first
    | refine St.h ?_
    | simp (disch := first | omega | (simp only [lnv]; omega)) only [wlk, ↓get_put', ↓reduceIte, seval]
    | (with_reducible (first | apply cd_split | apply gd_split)) <;> (intro hc; (try simp only [hcn] at hc); (try simp only [hc]); (try simp only [hcl] at hc); try omega))
  have hK : (n.toNat : Int) % 25 + 1 = ((n.toNat % 25 + 1 : Nat) : Int) := by omega
  have hG : (m.toNat : Int) % 4 + 1 = ((m.toNat % 4 + 1 : Nat) : Int) := by omega
  have hK2 : n.toNat % 25 + 1 ≤ 25 ∧ 1 ≤ n.toNat % 25 + 1 := by omega
  have hG2 : m.toNat % 4 + 1 ≤ 4 ∧ 1 ≤ m.toNat % 4 + 1 := by omega
  generalize n.toNat % 25 + 1 = K at *
  generalize m.toNat % 4 + 1 = G at *
  refine Ok.lp (fun mm t g => ∃ (i : Nat) (u : V), mm = K - i ∧ i ≤ K ∧ get 2 t = .i .u8 (ask.toNat : Int) ∧ get 7 t = .i .i64 (K : Int) ∧ get 8 t = .i .i64 (G : Int) ∧ get 9 t = u ∧ get 10 t = .i .i64 (i : Int) ∧ Stay nowhere h g ∧ Buf g 34 4 u ((manyM G i).flatMap entC) ∧ (∀ id, isOf u id → B.val h.next ≤ B.val id)) K ?_ ?_
  · simp (disch := first | omega | (simp only [lnv]; omega)) only [wlk, ↓get_put', ↓reduceIte, seval, hK, hG]
    refine ⟨0, .l0, by omega, by omega, ?_⟩
    refine ⟨?_, ?_, ?_, ?_, ?_, Stay.refl _ _, Buf.nil _ _ _, ?_⟩
    rotate_right
    · rintro id ⟨_, _, _, _, _, e⟩; cases e
    all_goals first | trivial | rfl
  rintro I hI mm t g ⟨i, u, rfl, hi, f2, f7, f8, f9, f10, st, bu, ou⟩
  have hfg := st.fl hf
  by_cases hiK : i < K
  case pos =>
    repeat' (first
      | refine St.h ?_
      | simp (disch := first | omega | (simp only [lnv]; omega)) only [wlk, ↓get_put', ↓reduceIte, seval, f7, f8, f9, f10]
      | (with_reducible (first | apply cd_split | apply gd_split)) <;> (intro hc; (try simp only [hcn] at hc); (try simp only [hc]); (try simp only [hcl] at hc); try omega))
    refine Ok.lp (fun mm t g' => ∃ (j : Nat) (w : V), mm = G - j ∧ j ≤ G ∧ get 2 t = .i .u8 (ask.toNat : Int) ∧ get 7 t = .i .i64 (K : Int) ∧ get 8 t = .i .i64 (G : Int) ∧ get 9 t = w ∧ get 10 t = .i .i64 (i : Int) ∧ get 11 t = .i .i64 ((G - j : Nat) : Int) ∧ Stay nowhere h g' ∧ Buf g' 34 4 w ((manyM G i ++ rowM i G j).flatMap entC) ∧ (∀ id, isOf w id → B.val h.next ≤ B.val id)) G ?_ ?_
    · simp (disch := first | omega | (simp only [lnv]; omega)) only [wlk, ↓get_put', ↓reduceIte, seval, f2, f7, f8, f9, f10]
      refine ⟨0, u, by omega, by omega, ?_⟩
      refine ⟨?_, ?_, ?_, ?_, ?_, ?_, st, by rw [show rowM i G 0 = [] from rfl, List.append_nil]; exact bu, ou⟩
      all_goals first | trivial | rfl
    rintro J hJ mm t2 g2 ⟨j, w, rfl, hj, e2, e7, e8, e9, e10, e11, st2, bw, ow⟩
    have hf2 := st2.fl hf
    by_cases hjG : j < G
    case neg =>
      obtain rfl : j = G := by omega
      rw [Nat.sub_self] at e11
      repeat' (first
        | refine St.h ?_
        | simp (disch := first | omega | (simp only [lnv]; omega)) only [wlk, ↓get_put', ↓reduceIte, seval, e7, e8, e9, e10, e11]
        | (with_reducible (first | apply cd_split | apply gd_split)) <;> (intro hc; (try simp only [hcn] at hc); (try simp only [hc]); (try simp only [hcl] at hc); try omega))
      refine lp_next hI (K - (i + 1)) (by omega) ⟨i + 1, w, rfl, by omega, by simp (disch := first | omega | (simp only [lnv]; omega)) only [wlk, ↓get_put', ↓reduceIte, seval, e2], by simp (disch := first | omega | (simp only [lnv]; omega)) only [wlk, ↓get_put', ↓reduceIte, seval, e7], by simp (disch := first | omega | (simp only [lnv]; omega)) only [wlk, ↓get_put', ↓reduceIte, seval, e8], by simp (disch := first | omega | (simp only [lnv]; omega)) only [wlk, ↓get_put', ↓reduceIte, seval, e9], by simp (disch := first | omega | (simp only [lnv]; omega)) only [wlk, ↓get_put', ↓reduceIte, seval, e10]; rfl, st2, bw, ow⟩
    have hcs : [V.i .u8 (97 + (i : Int))] = [ltr i].map bv := by
      rw [List.map_cons, List.map_nil]
      show [V.i .u8 (97 + (i : Int))] = [V.i .u8 ((ltr i).toNat : Int)]
      rw [ltr_toNat (by omega)]; congr 2
    have hge : (1 ≤ ((G - j : Nat) : Int)) = True := eq_true (by omega)
    repeat' (first
      | refine St.h ?_
      | simp (disch := first | omega | (simp only [lnv]; omega)) only [wlk, ↓get_put', ↓reduceIte, seval, e7, e8, e9, e10, e11, hge]
      | (with_reducible (first | apply cd_split | apply gd_split)) <;> (intro hc; (try simp only [hcn] at hc); (try simp only [hc]); (try simp only [hcl] at hc); try omega))
    refine AL.str (bs := [ltr i]) hcs (by simp) rfl rfl (by simp) hf2 fun g3 u3 s3 => ?_
    have hf3 := s3.fl hf2
    have bw3 := bw.grow s3
    have hfm := fm_len entC_len (manyM G i ++ rowM i G j)
    have hll : (manyM G i ++ rowM i G j).length ≤ 200 := by
      rw [List.length_append, manyM_len, rowM_len]
      have := Nat.mul_le_mul (show i ≤ 25 by omega) hG2.1
      omega
    have hseq : 10 * ((G - j : Nat) : Int) = (entM i (G - j)).seq := rfl
    have hap : [107, 101, 121] ++ [ltr i] = keyM i := rfl
    repeat' (first
      | refine St.h ?_
      | simp (disch := first | omega | (simp only [lnv]; omega)) only [wlk, ↓get_put', ↓reduceIte, seval, e7, e8, e9, e10, e11, k3, k19, List.length_cons, List.length_nil]
      | (with_reducible (first | apply cd_split | apply gd_split)) <;> (intro hc; (try simp only [hcn] at hc); (try simp only [hc]); (try simp only [hcl] at hc); try omega))
    refine AL.own (by simp) hf3 fun g4 s4 n4 o4 => ?_
    have hf4 := s4.fl hf3
    have bw4 := bw3.grow s4
    repeat' (first
      | refine St.h ?_
      | simp (disch := first | omega | (simp only [lnv]; omega)) only [wlk, ↓get_put', ↓reduceIte, seval, e7, e8, e9, e10, e11]
      | (with_reducible (first | apply cd_split | apply gd_split)) <;> (intro hc; (try simp only [hcn] at hc); (try simp only [hc]); (try simp only [hcl] at hc); try omega))
    refine AP.buf (vs := entC (entM i (G - j))) (cnt := 1) bw4 (new_row o4.row rfl (Nat.le_refl _) (by omega) (by show 4 ≤ 4; omega)) hf4 (by omega) rfl rfl (by rw [hfm, entC_len]; omega) fun w' g5 b5 s5 ho5 tp5 => ?_
    have s25 : Stay nowhere h g5 := ((st2.trans s3).trans s4).past' s5 fun id hid => ow id hid
    have hgj : ((G - j : Nat) : Int) - 1 = ((G - (j + 1) : Nat) : Int) := by omega
    repeat' (first
      | refine St.h ?_
      | simp (disch := first | omega | (simp only [lnv]; omega)) only [wlk, ↓get_put', ↓reduceIte, seval, e7, e8, e9, e10, e11]
      | (with_reducible (first | apply cd_split | apply gd_split)) <;> (intro hc; (try simp only [hcn] at hc); (try simp only [hc]); (try simp only [hcl] at hc); try omega))
    refine lp_next hJ (G - (j + 1)) (by omega) ⟨j + 1, w', rfl, by omega, by simp (disch := first | omega | (simp only [lnv]; omega)) only [wlk, ↓get_put', ↓reduceIte, seval, e2], by simp (disch := first | omega | (simp only [lnv]; omega)) only [wlk, ↓get_put', ↓reduceIte, seval, e7], by simp (disch := first | omega | (simp only [lnv]; omega)) only [wlk, ↓get_put', ↓reduceIte, seval, e8], by simp (disch := first | omega | (simp only [lnv]; omega)) only [wlk, ↓get_put', ↓reduceIte, seval], by simp (disch := first | omega | (simp only [lnv]; omega)) only [wlk, ↓get_put', ↓reduceIte, seval, e10], by simp (disch := first | omega | (simp only [lnv]; omega)) only [wlk, ↓get_put', ↓reduceIte, seval, e11, hgj], s25, ?_, fun id hid => ?_⟩
    · rw [show rowM i G (j + 1) = rowM i G j ++ [entM i (G - j)] from rfl, ← List.append_assoc, List.flatMap_append]; simpa using b5
    · rcases ho5 id hid with h1 | h1
      · exact ow id h1
      · have := st2.next; have := s3.next; have := s4.next; omega
  obtain rfl : i = K := by omega
  have hL : Es g u (manyM G i) := Ss.buf bu rfl entC_len (by omega)
  have hok := manyM_ok hG2.2 hG2.1 hK2.2 hK2.1
  have hml := manyM_len G i
  have hkv : i * G ≤ 100 := Nat.mul_le_mul hK2.1 hG2.1
  have hpos := okB_pos hok
  have hbp := blksE_pos hok.2.1
  have hbk := fun h12 => many_blocks hG2.2 hG2.1 hK2.2 hK2.1 h12
  obtain ⟨n1, n2⟩ := tabE_len hok (by omega)
  have hw := swn_buf bu
  have hrg := fun a (ha : a < i) => many_range (v := G) (i := a) (by omega) i (by omega)
  have hso := fun (a q : Nat) (ha : a < i) => many_some (v := G) (k := i) (q := q) (i := a) hG2.2 hG2.1 hK2.2 hK2.1 ha
  have hno := fun (q : Nat) (hq : q < 10) => many_none (v := G) (k := i) hG2.2 hG2.1 hq
  have hot := fun a => many_other (v := G) (k := i) (i := a) hG2.2 hG2.1
  have hmul : (i : Int) * (G : Int) = ((i * G : Nat) : Int) := by push_cast; rfl
  generalize manyM G i = L at *
  repeat' (first
    | refine St.h ?_
    | simp (disch := first | omega | (simp only [lnv]; omega)) only [wlk, ↓get_put', ↓reduceIte, seval, f9, f10, f7]
    | (with_reducible (first | apply cd_split | apply gd_split)) <;> (intro hc; (try simp only [hcn] at hc); (try simp only [hc]); (try simp only [hcl] at hc); try omega))
  refine CL.stay (tmake_ok hL hw (by omega) hfg) fun h1 s1 => ?_
  have hf1 := s1.fl hfg
  rw [tabE_ok (blkE_zero.2 hok)]
  repeat' (first
    | refine St.h ?_
    | simp (disch := first | omega | (simp only [lnv]; omega)) only [wlk, ↓get_put', ↓reduceIte, seval]
    | (with_reducible (first | apply cd_split | apply gd_split)) <;> (intro hc; (try simp only [hcn] at hc); (try simp only [hc]); (try simp only [hcl] at hc); try omega))
  refine CL.mk (topen_ok (s := tabB L) (by omega) hf1) ?_
  rintro _ h2 ⟨s2, h7⟩
  have hf2 := s2.fl hf1
  rcases h7 with ⟨e, rfl, he, hsh, hno⟩ | ⟨p, rfl, _, hT⟩
  · exact absurd rfl (hno L hok (by omega))
  have T := hT L hok (by omega) rfl
  have hL2 := (hL.grow s1).grow s2
  repeat' (first
    | refine St.h ?_
    | simp (disch := first | omega | (simp only [lnv]; omega)) only [wlk, ↓get_put', ↓reduceIte, seval, f7, f8, tp, or_ptr, h2_ptr00, h2_ptr01, h2_ptr10]
    | (with_reducible (first | apply cd_split | apply gd_split)) <;> (intro hc; (try simp only [hcn] at hc); (try simp only [hc]); (try simp only [hcl] at hc); try omega))
  refine CL.pure (tcount_ok T) ?_
  rw [hml]
  repeat' (first
    | refine St.h ?_
    | simp (disch := first | omega | (simp only [lnv]; omega)) only [wlk, ↓get_put', ↓reduceIte, seval, f7, f8, hmul]
    | (with_reducible (first | apply cd_split | apply gd_split)) <;> (intro hc; (try simp only [hcn] at hc); (try simp only [hc]); (try simp only [hcl] at hc); try omega))
  refine CL.pure (tblocks_ok T) ?_
  have e1 : (ask.toNat : Int) % (i : Int) = ((ask.toNat % i : Nat) : Int) := by omega
  have e2 := Nat.mod_lt ask.toNat (show 0 < i by omega)
  repeat' (first
    | refine St.h ?_
    | simp (disch := first | omega | (simp only [lnv]; omega)) only [wlk, ↓get_put', ↓reduceIte, seval, f2, f7, f8, e1]
    | (with_reducible (first | apply cd_split | apply gd_split)) <;> (intro hc; (try simp only [hcn] at hc); (try simp only [hc]); (try simp only [hcl] at hc); try omega))
  generalize ask.toNat % i = a at *
  have hcs : [V.i .u8 (97 + (a : Int))] = [ltr a].map bv := by
    rw [List.map_cons, List.map_nil]
    show [V.i .u8 (97 + (a : Int))] = [V.i .u8 ((ltr a).toNat : Int)]
    rw [ltr_toNat (by omega)]; congr 2
  refine AL.str (bs := [ltr a]) hcs (by simp) rfl rfl (by simp) hf2 fun h3 u3 s3 => ?_
  have hf3 := s3.fl hf2
  have T3 := T.grow s3
  have hL3 := hL2.grow s3
  have hap : [107, 101, 121] ++ [ltr a] = keyM a := rfl
  have hkl : (keyM a).length = 4 := rfl
  repeat' (first
    | refine St.h ?_
    | simp (disch := first | omega | (simp only [lnv]; omega)) only [wlk, ↓get_put', ↓reduceIte, seval, f7, f8, k3, hap, List.length_cons, List.length_nil]
    | (with_reducible (first | apply cd_split | apply gd_split)) <;> (intro hc; (try simp only [hcn] at hc); (try simp only [hc]); (try simp only [hcl] at hc); try omega))
  refine Ok.lp (fun mm t g => ∃ b : Nat, mm = 2 * G + 2 - b ∧ b ≤ 2 * G + 2 ∧ get 7 t = .i .i64 (i : Int) ∧ get 8 t = .i .i64 (G : Int) ∧ get 9 t = u ∧ get 14 t = tp p ∧ get 17 t = sv (keyM a) ∧ get 18 t = .i .i64 ((5 * b : Nat) : Int) ∧ Stay nowhere h3 g) (2 * G + 2) ?_ ?_
  · simp (disch := first | omega | (simp only [lnv]; omega)) only [wlk, ↓get_put', ↓reduceIte, seval, f7, f8, f9, tp]
    refine ⟨0, by omega, by omega, ?_⟩
    refine ⟨?_, ?_, ?_, ?_, ?_, ?_, Stay.refl _ _⟩
    all_goals first | trivial | rfl
  rintro J hJ mm t2 g2 ⟨b, rfl, hb, e7, e8, e9, e14, e17, e18, st2⟩
  have hf4 := st2.fl hf3
  have T4 := T3.grow st2
  have hL4 := hL3.grow st2
  by_cases hbq : 5 * b ≤ 10 * G + 5
  case pos =>
    have hcq : (((5 * b : Nat) : Int) ≤ 10 * (G : Int) + 5) = True := eq_true (by omega)
    repeat' (first
      | refine St.h ?_
      | simp (disch := first | omega | (simp only [lnv]; omega)) only [wlk, ↓get_put', ↓reduceIte, seval, e7, e8, e14, e17, e18, hcq]
      | (with_reducible (first | apply cd_split | apply gd_split)) <;> (intro hc; (try simp only [hcn] at hc); (try simp only [hc]); (try simp only [hcl] at hc); try omega))
    refine CL.stay (tget_ok T4 hok (by omega) (by omega) hf4) fun g3 s4 => ?_
    have hf5 := s4.fl hf4
    by_cases hq10 : 5 * b < 10
    case pos =>
      rw [hno _ hq10]
      unfold entC
      repeat' (first
        | refine St.h ?_
        | simp (disch := first | omega | (simp only [lnv]; omega)) only [wlk, ↓get_put', ↓reduceIte, seval, e7, e8, e14, e17, e18]
        | (with_reducible (first | apply cd_split | apply gd_split)) <;> (intro hc; (try simp only [hcn] at hc); (try simp only [hc]); (try simp only [hcl] at hc); try omega))
      refine AL.own (by simp) hf5 fun g4 t4 n4 o4 => ?_
      have hf6 := t4.fl hf5
      repeat' (first
        | refine St.h ?_
        | simp (disch := first | omega | (simp only [lnv]; omega)) only [wlk, ↓get_put', ↓reduceIte, seval, e7, e8, e14, e17, e18]
        | (with_reducible (first | apply cd_split | apply gd_split)) <;> (intro hc; (try simp only [hcn] at hc); (try simp only [hc]); (try simp only [hcl] at hc); try omega))
      refine ST.all o4 rfl rfl (by simp) (by simp) fun g5 o5 t5 => ?_
      have t45 : Stay nowhere g3 g5 := t4.past' t5 fun q hq => by rw [hq]; exact Nat.le_refl _
      have hcq2 : (10 ≤ ((5 * b : Nat) : Int)) = False := eq_false (by omega)
      repeat' (first
        | refine St.h ?_
        | simp (disch := first | omega | (simp only [lnv]; omega)) only [wlk, ↓get_put', ↓reduceIte, seval, e7, e8, e14, e17, e18, hcq2]
        | (with_reducible (first | apply cd_split | apply gd_split)) <;> (intro hc; (try simp only [hcn] at hc); (try simp only [hc]); (try simp only [hcl] at hc); try omega))
      refine lp_next hJ (2 * G + 2 - (b + 1)) (by omega) ⟨b + 1, rfl, by omega, by simp (disch := first | omega | (simp only [lnv]; omega)) only [wlk, ↓get_put', ↓reduceIte, seval, e7], by simp (disch := first | omega | (simp only [lnv]; omega)) only [wlk, ↓get_put', ↓reduceIte, seval, e8], by simp (disch := first | omega | (simp only [lnv]; omega)) only [wlk, ↓get_put', ↓reduceIte, seval, e9], by simp (disch := first | omega | (simp only [lnv]; omega)) only [wlk, ↓get_put', ↓reduceIte, seval, e14], by simp (disch := first | omega | (simp only [lnv]; omega)) only [wlk, ↓get_put', ↓reduceIte, seval, e17], by simp (disch := first | omega | (simp only [lnv]; omega)) only [wlk, ↓get_put', ↓reduceIte, seval, e18]; rfl, (st2.trans s4).trans t45⟩
    case neg =>
      rw [hso a (5 * b) (by omega) (by omega) (by omega)]
      unfold entC
      repeat' (first
        | refine St.h ?_
        | simp (disch := first | omega | (simp only [lnv]; omega)) only [wlk, ↓get_put', ↓reduceIte, seval, e7, e8, e14, e17, e18]
        | (with_reducible (first | apply cd_split | apply gd_split)) <;> (intro hc; (try simp only [hcn] at hc); (try simp only [hc]); (try simp only [hcl] at hc); try omega))
      refine AL.own (by simp) hf5 fun g4 t4 n4 o4 => ?_
      have hf6 := t4.fl hf5
      repeat' (first
        | refine St.h ?_
        | simp (disch := first | omega | (simp only [lnv]; omega)) only [wlk, ↓get_put', ↓reduceIte, seval, e7, e8, e14, e17, e18]
        | (with_reducible (first | apply cd_split | apply gd_split)) <;> (intro hc; (try simp only [hcn] at hc); (try simp only [hc]); (try simp only [hcl] at hc); try omega))
      refine ST.all o4 rfl rfl (by simp) (by simp) fun g5 o5 t5 => ?_
      have t45 : Stay nowhere g3 g5 := t4.past' t5 fun q hq => by rw [hq]; exact Nat.le_refl _
      have hcq2 : (10 ≤ ((5 * b : Nat) : Int)) = True := eq_true (by omega)
      have hse : (entM a (5 * b / 10)).seq = 10 * ((5 * b / 10 : Nat) : Int) := rfl
      repeat' (first
        | refine St.h ?_
        | simp (disch := first | omega | (simp only [lnv]; omega)) only [wlk, ↓get_put', ↓reduceIte, seval, e7, e8, e14, e17, e18, hcq2, o5.row.l1, hse]
        | (with_reducible (first | apply cd_split | apply gd_split)) <;> (intro hc; (try simp only [hcn] at hc); (try simp only [hc]); (try simp only [hcl] at hc); try omega))
      refine lp_next hJ (2 * G + 2 - (b + 1)) (by omega) ⟨b + 1, rfl, by omega, by simp (disch := first | omega | (simp only [lnv]; omega)) only [wlk, ↓get_put', ↓reduceIte, seval, e7], by simp (disch := first | omega | (simp only [lnv]; omega)) only [wlk, ↓get_put', ↓reduceIte, seval, e8], by simp (disch := first | omega | (simp only [lnv]; omega)) only [wlk, ↓get_put', ↓reduceIte, seval, e9], by simp (disch := first | omega | (simp only [lnv]; omega)) only [wlk, ↓get_put', ↓reduceIte, seval, e14], by simp (disch := first | omega | (simp only [lnv]; omega)) only [wlk, ↓get_put', ↓reduceIte, seval, e17], by simp (disch := first | omega | (simp only [lnv]; omega)) only [wlk, ↓get_put', ↓reduceIte, seval, e18]; rfl, (st2.trans s4).trans t45⟩
  have hcq : (((5 * b : Nat) : Int) ≤ 10 * (G : Int) + 5) = False := eq_false (by omega)
  repeat' (first
    | refine St.h ?_
    | simp (disch := first | omega | (simp only [lnv]; omega)) only [wlk, ↓get_put', ↓reduceIte, seval, e7, e8, e14, e17, e18, hcq, kx, List.length_cons, List.length_nil]
    | (with_reducible (first | apply cd_split | apply gd_split)) <;> (intro hc; (try simp only [hcn] at hc); (try simp only [hc]); (try simp only [hcl] at hc); try omega))
  refine CL.stay (tget_ok T4 hok (by omega) (by simp [hkl]) hf4) fun g3 s4 => ?_
  rw [hot a]
  have hf5 := s4.fl hf4
  unfold entC
  repeat' (first
    | refine St.h ?_
    | simp (disch := first | omega | (simp only [lnv]; omega)) only [wlk, ↓get_put', ↓reduceIte, seval, e7, e8, e9, e14, e17]
    | (with_reducible (first | apply cd_split | apply gd_split)) <;> (intro hc; (try simp only [hcn] at hc); (try simp only [hc]); (try simp only [hcl] at hc); try omega))
  refine AL.own (by simp) hf5 fun g4 t4 n4 o4 => ?_
  have hf6 := t4.fl hf5
  repeat' (first
    | refine St.h ?_
    | simp (disch := first | omega | (simp only [lnv]; omega)) only [wlk, ↓get_put', ↓reduceIte, seval, e7, e8, e9, e14, e17]
    | (with_reducible (first | apply cd_split | apply gd_split)) <;> (intro hc; (try simp only [hcn] at hc); (try simp only [hc]); (try simp only [hcl] at hc); try omega))
  refine ST.all o4 rfl rfl (by simp) (by simp) fun g5 o5 t5 => ?_
  have t45 : Stay nowhere g3 g5 := t4.past' t5 fun q hq => by rw [hq]; exact Nat.le_refl _
  have hf7 := t45.fl hf5
  have T5 := (T4.grow s4).grow t45
  have hL5 := (hL4.grow s4).grow t45
  repeat' (first
    | refine St.h ?_
    | simp (disch := first | omega | (simp only [lnv]; omega)) only [wlk, ↓get_put', ↓reduceIte, seval, e7, e8, e9, e14, e17, k0, List.length_cons, List.length_nil]
    | (with_reducible (first | apply cd_split | apply gd_split)) <;> (intro hc; (try simp only [hcn] at hc); (try simp only [hc]); (try simp only [hcl] at hc); try omega))
  refine CL.mk (trange_ok (fr := keyM a) (to := keyM a ++ [0]) T5 hok (by omega) hf7) ?_
  rintro _ h9 ⟨x, rfl, hx, s9⟩
  have hf9 := s9.fl hf7
  have T9 := T5.grow s9
  repeat' (first
    | refine St.h ?_
    | simp (disch := first | omega | (simp only [lnv]; omega)) only [wlk, ↓get_put', ↓reduceIte, seval, e7, e8, e9, e14, e17]
    | (with_reducible (first | apply cd_split | apply gd_split)) <;> (intro hc; (try simp only [hcn] at hc); (try simp only [hc]); (try simp only [hcl] at hc); try omega))
  refine CL.mk (tall_ok T9 hok (by omega) hf9) ?_
  rintro _ h10 ⟨w, rfl, hw2, s10⟩
  have hf10 := s10.fl hf9
  have T10 := T9.grow s10
  have hL10 := (hL5.grow s9).grow s10
  have hr2 := hrg a e2
  rw [if_pos e2] at hr2
  have hln : ((rangeE L (keyM a) (keyM a ++ [0])).length : Int) = (G : Int) := by rw [hr2]
  repeat' (first
    | refine St.h ?_
    | simp (disch := first | omega | (simp only [lnv]; omega)) only [wlk, ↓get_put', ↓reduceIte, seval, e7, e8, e9, e14, e17, hx.ln, hln]
    | (with_reducible (first | apply cd_split | apply gd_split)) <;> (intro hc; (try simp only [hcn] at hc); (try simp only [hc]); (try simp only [hcl] at hc); try omega))
  refine CL.pure (rsame_ok hw2 hL10 (by omega)) ?_
  have hd4 : (L = L) = True := eq_true rfl
  by_cases h12 : i * G < 12
  case pos =>
    have h12' : (((i * G : Nat) : Int) < 12) = True := eq_true (by omega)
    repeat' (first
      | refine St.h ?_
      | simp (disch := first | omega | (simp only [lnv]; omega)) only [wlk, ↓get_put', ↓reduceIte, seval, e7, e8, e9, e14, e17, hmul, hd4, h12']
      | (with_reducible (first | apply cd_split | apply gd_split)) <;> (intro hc; (try simp only [hcn] at hc); (try simp only [hc]); (try simp only [hcl] at hc); try omega))
    subst hQ; rfl
  case neg =>
    have h12' : (((i * G : Nat) : Int) < 12) = False := eq_false (by omega)
    have hb2 := hbk (by omega)
    repeat' (first
      | refine St.h ?_
      | simp (disch := first | omega | (simp only [lnv]; omega)) only [wlk, ↓get_put', ↓reduceIte, seval, e7, e8, e9, e14, e17, hmul, hd4, h12']
      | (with_reducible (first | apply cd_split | apply gd_split)) <;> (intro hc; (try simp only [hcn] at hc); (try simp only [hc]); (try simp only [hcl] at hc); try omega))
    refine CL.pure (tblocks_ok T10) ?_
    repeat' (first
      | refine St.h ?_
      | simp (disch := first | omega | (simp only [lnv]; omega)) only [wlk, ↓get_put', ↓reduceIte, seval]
      | (with_reducible (first | apply cd_split | apply gd_split)) <;> (intro hc; (try simp only [hcn] at hc); (try simp only [hc]); (try simp only [hcl] at hc); try omega))
    subst hQ
    show V.b _ = V.b true
    rw [decide_eq_true (by omega)]
end Go.Proofs.Ytiingkpdodbldaa

namespace Go.Proofs.Ytiingkpdodbldaa.tableMany
open Go Go.Ev Go.ChangeShapes Go.WideShapes Go.ChangeAt Go.RowKit Go.ChangeMaps
set_option linter.all false
theorem own : ownKnob Try.prog.godebug = none := by kernel_rfl
theorem laid : laidOutB Try.prog = true := by kernel_rfl
theorem heap_pos {W : World} (h : W.ShapedOpen Try.prog) : 0 < W.heap.size := by
  obtain ⟨o, _, h1, _⟩ := h.2 0 (of_decide_eq_true (by kernel_rfl)) (of_decide_eq_true (by kernel_rfl))
  exact (Array.getElem?_eq_some_iff.1 h1).1
set_option maxRecDepth 100000 in
theorem run {H : Type} {enc : TypeId × Value → H} (W : World) (base : Nat) (args : Array Value) (ds : List (DataW H)) (p : List MemPlace) (hval : ∀ (j : Nat) t v, Try.f6.params[j]? = some t → args[j]? = some v → Value.okWide Try.prog W .any base t v) (hopen : W.ShapedOpen Try.prog)
    (hA : DataW.TrodAll enc Try.prog W 0 (fun _ => true) true Try.f6.params.toList args.toList ds p) : Calls Try.prog 6 args W fun e w' => e = .returned (.bool true) ∧ Below W.heap.size W w' := by
  rw [Try.params6] at hA hval
  obtain ⟨v0, vs0, d0, ds0, p0, q0, hargs, rfl, rfl, h0, r0⟩ := trodAll_cons hA
  obtain ⟨v1, vs1, d1, ds1, p1, q1, rfl, rfl, rfl, h1, r1⟩ := trodAll_cons r0
  obtain ⟨v2, vs2, d2, ds2, p2, q2, rfl, rfl, rfl, h2, r2⟩ := trodAll_cons r1
  obtain ⟨rfl, rfl, rfl⟩ := trodAll_nil r2
  obtain rfl : args = #[v0, v1, v2] := by cases args; simp_all
  obtain ⟨h, s1, s2⟩ := Go.Ev.start W
  have s : Go.Ev.Start W h := ⟨s1, s2⟩
  obtain ⟨a0, rfl, rfl, rfl, w0⟩ := open_int Try.underlying5 (hval 0 5 v0 rfl rfl) h0
  obtain ⟨n0, rfl⟩ := u8_byte w0
  obtain ⟨a1, rfl, rfl, rfl, w1⟩ := open_int Try.underlying5 (hval 1 5 v1 rfl rfl) h1
  obtain ⟨n1, rfl⟩ := u8_byte w1
  obtain ⟨a2, rfl, rfl, rfl, w2⟩ := open_int Try.underlying5 (hval 2 5 v2 rfl rfl) h2
  obtain ⟨n2, rfl⟩ := u8_byte w2
  exact calls_true s (vs := [.i .u8 (n0.toNat : Int), .i .u8 (n1.toNat : Int), .i .u8 (n2.toNat : Int)]) ⟨rfl, rfl, rfl, trivial⟩ (tableMany_ok  s1.flo)
set_option maxRecDepth 100000 in
theorem lifted (os : Os) (started : os.Started) (H : Type) (enc : TypeId × Value → H) :
    ReturnsInHanded {} Try.checked os 6 .any (Rows.tableManySpec.pre6 enc Try.prog Try.f6 Rows.tableManyRow.domain false) (Rows.tableManySpec.post enc Try.prog Try.f6 false true false false) :=
  law_lifted (C := Try.checked) own started (by kernel_rfl) Try.func6
    (ChangeSpec.witness6 (enc := enc) (C := Try.checked) false ⟨#[], #[.int .u8 0, .int .u8 0, .int .u8 0], []⟩ 8 (by kernel_rfl) (by kernel_rfl) (by kernel_rfl) (by kernel_rfl))
    rfl (fun ds hd => by rw [Try.params6] at hd; match ds, hd with | [d1, d2, d3], _ => rfl) laid (by kernel_rfl) (by kernel_rfl) Try.underlying4 (fun W base args ds p hv ho hA => run W base args ds p hv ho hA)
theorem over : Rows.tableManyRow.holds Try.pinned (OpenSpec.ofChange Rows.tableManySpec) :=
  OpenClaim.holds_of_wide 6 Try.f6 rfl rfl rfl rfl rfl rfl rfl ⟨rfl, rfl, rfl, rfl, rfl⟩ rfl rfl rfl rfl rfl (by kernel_rfl) Try.func6 (by kernel_rfl)
    (of_decide_eq_true (by kernel_rfl)) (by unfold Func.isWrapper; first | (rw [if_pos (by decide +kernel)]; kernel_rfl) | (rw [if_neg (by decide +kernel)]; exact ⟨rfl, rfl⟩))
    (fun os started H enc _ => lifted os started H enc)
/-- THE STATEMENT -/
theorem proved : Rows.TableManySaid :=
  over
end Go.Proofs.Ytiingkpdodbldaa.tableMany
