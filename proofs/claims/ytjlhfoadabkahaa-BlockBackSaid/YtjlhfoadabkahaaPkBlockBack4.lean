/- Texts of ours, without what this claim does not use: JrEnt JrCell CellM NCell NText Wg EntM NEnt1 NEnt2 NEnt3 NEnt4 NEnt5 JrSeal SealM SealN NSeal BkM NBk1 NBk2 NEntB BkN. No condition. -/
import Derived.Test.YtjlhfoadabkahaaPkBlockBack3
import Derived.Test.YtjlhfoadabkahaaProg
import Derived.KernelRfl
set_option maxRecDepth 1000000
set_option linter.all false
namespace Go.Proofs.Ytjlhfoadabkahaa
open Go Go.Ev
noncomputable abbrev s63_0 : CC := (CC.seq (CC.region [(wB 3 (doFieldAddr 1 (tm 1))), (wB 4 (doLoad (tm 3))), (wB 5 (bin2 fGeq (tm 4) (oN 1))), (wB 6 (doMove (tm 5))), (wG 6 true 7 (doFieldAddr 1 (tm 1))), (wG 6 true 8 (doLoad (tm 7))), (wG 6 true 9 (bin2 fLeq (tm 8) (oN 1000000))), (wB 10 (doPick (tm 6) (tm 9) (O.c (V.b Bool.false)))), (wB 11 (doMove (tm 10))), (wG 11 true 12 (doFieldAddr 0 (tm 1))), (wG 11 true 13 (doLoad (tm 12))), (wG 11 true 14 (doFieldAddr 2 (tm 1))), (wG 11 true 15 (doLoad (tm 14))), (wG 11 true 16 (doFieldAddr 3 (tm 1))), (wG 11 true 17 (doLoad (tm 16))), (wG 11 true 18 (doBuild [(V.s 0 0), (V.b Bool.false), (V.s 0 0)] [(Pt.mk 0 1 (tm 13)), (Pt.mk 1 1 (tm 15)), (Pt.mk 2 1 (tm 17))])), (wG 11 true 19 (doCall 86 [(tm 18)])), (wB 20 (doPick (tm 11) (tm 19) (O.c (V.b Bool.false)))), (wB 2 (doMove (tm 20)))]) CC.ret)
noncomputable abbrev b63 : CC := (CC.seq (CC.region [(wB 1 (doBox 70 (tm 0))), (wB 2 (doMove (O.c (V.b Bool.false))))]) s63_0)
theorem c63 : compFn Try.prog 63 = ⟨21, b63, [(Rs.tmp (slOf 2))]⟩ := by kernel_rfl
noncomputable abbrev s87_0 : CC := (CC.seq (CC.region [(wB 10 (doFieldAddr 0 (tm 2))), (wB 11 (doLoad (tm 10))), (wB 12 (doFieldAddr 0 (tm 3))), (wB 13 (doLoad (tm 12))), (wB 14 (doSCmp ltS (tm 11) (tm 13))), (wB 4 (doMove (tm 14)))]) CC.ret)
noncomputable abbrev s87_1 : CC := (CC.cond (tm 9) s87_0 CC.skip)
noncomputable abbrev s87_2 : CC := (CC.seq (CC.region [(wB 5 (doFieldAddr 0 (tm 2))), (wB 6 (doLoad (tm 5))), (wB 7 (doFieldAddr 0 (tm 3))), (wB 8 (doLoad (tm 7))), (wB 9 (doSCmp (fun a b c d => !eqS a b c d) (tm 6) (tm 8)))]) s87_1)
noncomputable abbrev s87_3 : CC := (CC.seq (CC.region [(wB 15 (doFieldAddr 1 (tm 2))), (wB 16 (doLoad (tm 15))), (wB 17 (doFieldAddr 1 (tm 3))), (wB 18 (doLoad (tm 17))), (wB 19 (bin2 fGtr (tm 16) (tm 18))), (wB 4 (doMove (tm 19)))]) CC.ret)
noncomputable abbrev s87_4 : CC := (CC.seq s87_2 s87_3)
noncomputable abbrev b87 : CC := (CC.seq (CC.region [(wB 2 (doBox 70 (tm 0))), (wB 3 (doBox 70 (tm 1))), (wB 4 (doMove (O.c (V.b Bool.false))))]) s87_4)
theorem c87 : compFn Try.prog 87 = ⟨20, b87, [(Rs.tmp (slOf 4))]⟩ := by kernel_rfl
noncomputable abbrev s64_0 : CC := (CC.cond (tm 7) CC.skip (CC.exit 0))
noncomputable abbrev s64_1 : CC := (CC.seq (CC.region [(wB 4 (doMove (tm 3))), (wB 5 (doMove (tm 0))), (wB 6 (doLen (tm 5))), (wB 7 (bin2 fLss (tm 4) (tm 6)))]) s64_0)
noncomputable abbrev s64_2 : CC := (CC.seq (CC.region [(wB 2 (doMove (O.c (V.b Bool.false))))]) CC.ret)
noncomputable abbrev s64_3 : CC := (CC.cond (tm 20) s64_2 CC.skip)
noncomputable abbrev s64_4 : CC := (CC.seq (CC.draws [(uB 10 (doMove (tm 0))), (uB 11 (doMove (tm 3))), (uB 12 (bin2 fSub (tm 11) (oN 1))), (uB 13 (doIndexAddr 4 (tm 10) (tm 12))), (uB 14 (doLoadA 4 (tm 13))), (uB 15 (doMove (tm 0))), (uB 16 (doMove (tm 3))), (uB 17 (doIndexAddr 4 (tm 15) (tm 16))), (uB 18 (doLoadA 4 (tm 17))), (wB 19 (doCall 87 [(tm 14), (tm 18)])), (uB 20 (doNot (tm 19)))]) s64_3)
noncomputable abbrev s64_5 : CC := (CC.block 1 s64_4)
noncomputable abbrev s64_6 : CC := (CC.region [(wB 8 (doMove (tm 3))), (wB 9 (bin2 fAdd (tm 8) (oN 1))), (wB 3 (doMove (tm 9)))])
noncomputable abbrev s64_7 : CC := (CC.seq s64_5 s64_6)
noncomputable abbrev l64_0 : CC := (CC.seq s64_1 s64_7)
noncomputable abbrev s64_8 : CC := (CC.loop l64_0)
noncomputable abbrev s64_9 : CC := (CC.block 0 s64_8)
noncomputable abbrev s64_10 : CC := (CC.seq (CC.region [(wB 3 (doMove (oN 1)))]) s64_9)
noncomputable abbrev s64_11 : CC := (CC.seq (CC.region [(wB 2 (doMove (O.c (V.b Bool.true))))]) CC.ret)
noncomputable abbrev s64_12 : CC := (CC.seq s64_10 s64_11)
noncomputable abbrev b64 : CC := (CC.seq (CC.region [(wB 2 (doMove (O.c (V.b Bool.false))))]) s64_12)
theorem c64 : compFn Try.prog 64 = ⟨21, b64, [(Rs.tmp (slOf 2))]⟩ := by kernel_rfl
noncomputable abbrev s92_0 : CC := (CC.seq (CC.region [(wB 2 (doMove (O.c (V.s 0 0))))]) CC.ret)
noncomputable abbrev s92_1 : CC := (CC.cond (tm 6) s92_0 CC.skip)
noncomputable abbrev s92_2 : CC := (CC.seq (CC.region [(wB 4 (doLoadA 4 (tm 1))), (wB 5 (doCall 63 [(tm 4)])), (wB 6 (doNot (tm 5)))]) s92_1)
noncomputable abbrev s92_3 : CC := (CC.seq (CC.region [(wB 16 (doMove (tm 3))), (wB 17 (doBuildSlice 5 1 [(V.i IntKind.u8 (Int.ofNat 0))] [(Pt.mk 0 1 (O.c (V.i IntKind.u8 (Int.ofNat 1))))])), (wB 18 (doB2S (tm 17))), (wB 19 (doConcat (tm 16) (tm 18))), (wB 2 (doMove (tm 19)))]) CC.ret)
noncomputable abbrev s92_4 : CC := (CC.cond (tm 15) s92_3 CC.skip)
noncomputable abbrev s92_5 : CC := (CC.seq (CC.region [(wB 14 (doFieldAddr 2 (tm 1))), (wB 15 (doLoad (tm 14)))]) s92_4)
noncomputable abbrev s92_6 : CC := (CC.seq (CC.draws [(uB 20 (doMove (tm 3))), (uB 21 (doBuildSlice 5 1 [(V.i IntKind.u8 (Int.ofNat 0))] [(Pt.mk 0 1 (O.c (V.i IntKind.u8 (Int.ofNat 0))))])), (uB 22 (doB2S (tm 21))), (uB 23 (doConcat (tm 20) (tm 22))), (uB 24 (doFieldAddr 3 (tm 1))), (uB 25 (doLoad (tm 24))), (uB 26 (doCall 91 [(tm 25)])), (uB 27 (doConcat (tm 23) (tm 26))), (uB 2 (doMove (tm 27)))]) CC.ret)
noncomputable abbrev s92_7 : CC := (CC.seq s92_5 s92_6)
noncomputable abbrev s92_8 : CC := (CC.seq (CC.draws [(uB 7 (doFieldAddr 0 (tm 1))), (uB 8 (doLoad (tm 7))), (uB 9 (doCall 91 [(tm 8)])), (uB 10 (doFieldAddr 1 (tm 1))), (uB 11 (doLoad (tm 10))), (wB 12 (doCall 88 [(tm 11)])), (uB 13 (doConcat (tm 9) (tm 12))), (uB 3 (doMove (tm 13)))]) s92_7)
noncomputable abbrev s92_9 : CC := (CC.seq s92_2 s92_8)
noncomputable abbrev b92 : CC := (CC.seq (CC.region [(wB 1 (doBox 70 (tm 0))), (wB 2 (doMove (O.c (V.s 0 0))))]) s92_9)
theorem c92 : compFn Try.prog 92 = ⟨28, b92, [(Rs.tmp (slOf 2))]⟩ := by kernel_rfl
noncomputable abbrev s105_0 : CC := (CC.seq (CC.region [(wB 16 (doBuild [(V.s 0 0), (V.i IntKind.i64 (Int.ofNat 0)), (V.b Bool.false), (V.s 0 0)] [])), (wB 17 (doMove (tm 7))), (CO.mk G.none D.none Bool.true (CR.mk (doStore 4 (tm 2) (tm 16)))), (wB 3 (doMove (oN 0))), (wB 4 (doMove (tm 17)))]) CC.ret)
noncomputable abbrev s105_1 : CC := (CC.cond (tm 15) s105_0 CC.skip)
noncomputable abbrev s105_2 : CC := (CC.seq (CC.region [(wB 14 (doMove (tm 7))), (wB 15 (bin2 fNeq (tm 14) (oN 0)))]) s105_1)
noncomputable abbrev s105_3 : CC := (CC.seq (CC.region [(wB 21 (doBuild [(V.s 0 0), (V.i IntKind.i64 (Int.ofNat 0)), (V.b Bool.false), (V.s 0 0)] [])), (CO.mk G.none D.none Bool.true (CR.mk (doStore 4 (tm 2) (tm 21)))), (wB 3 (doMove (oN 0))), (wB 4 (doMove (oN 10)))]) CC.ret)
noncomputable abbrev s105_4 : CC := (CC.cond (tm 20) s105_3 CC.skip)
noncomputable abbrev s105_5 : CC := (CC.seq (CC.region [(wB 18 (doLoadA 4 (tm 5))), (wB 19 (doCall 63 [(tm 18)])), (wB 20 (doNot (tm 19)))]) s105_4)
noncomputable abbrev s105_6 : CC := (CC.seq (CC.region [(wB 22 (doLoadA 4 (tm 5))), (wB 23 (doMove (tm 6))), (CO.mk G.none D.none Bool.true (CR.mk (doStore 4 (tm 2) (tm 22)))), (wB 3 (doMove (tm 23))), (wB 4 (doMove (oN 0)))]) CC.ret)
noncomputable abbrev s105_7 : CC := (CC.seq s105_5 s105_6)
noncomputable abbrev s105_8 : CC := (CC.seq s105_2 s105_7)
noncomputable abbrev s105_9 : CC := (CC.seq (CC.region [(wB 9 (doMove (tm 0))), (wB 10 (doCall 118 [(tm 9)])), (wB 8 (doMove (tm 10))), (wB 11 (doExtract 0 (tm 8))), (wB 12 (doExtract 1 (tm 8))), (wB 13 (doExtract 2 (tm 8))), (wB 5 (doAlloc 70 [(V.s 0 0), (V.i IntKind.i64 (Int.ofNat 0)), (V.b Bool.false), (V.s 0 0)])), (CO.mk G.none D.none Bool.true (CR.mk (doStore 4 (tm 5) (tm 11)))), (wB 6 (doMove (tm 12))), (wB 7 (doMove (tm 13)))]) s105_8)
noncomputable abbrev b105 : CC := (CC.seq (CC.region [(wB 2 (doAlloc 70 [(V.s 0 0), (V.i IntKind.i64 (Int.ofNat 0)), (V.b Bool.false), (V.s 0 0)])), (wB 3 (doMove (oN 0))), (wB 4 (doMove (oN 0)))]) s105_9)
theorem c105 : compFn Try.prog 105 = ⟨24, b105, [(Rs.cellA (slOf 2) 4), (Rs.tmp (slOf 3)), (Rs.tmp (slOf 4))]⟩ := by kernel_rfl
noncomputable abbrev s86_0 : CC := (CC.seq (CC.region [(wB 2 (doMove (O.c (V.b Bool.false))))]) CC.ret)
noncomputable abbrev s86_1 : CC := (CC.cond (tm 12) s86_0 CC.skip)
noncomputable abbrev s86_2 : CC := (CC.seq (CC.region [(wB 3 (doFieldAddr 0 (tm 1))), (wB 4 (doLoad (tm 3))), (wB 5 (doLenS (tm 4))), (wB 6 (bin2 fLss (tm 5) (oN 1))), (wB 7 (doMove (tm 6))), (wG 7 false 8 (doFieldAddr 0 (tm 1))), (wG 7 false 9 (doLoad (tm 8))), (wG 7 false 10 (doLenS (tm 9))), (wG 7 false 11 (bin2 fGtr (tm 10) (oN 13))), (wB 12 (doPick (tm 7) (O.c (V.b Bool.true)) (tm 11)))]) s86_1)
noncomputable abbrev s86_3 : CC := (CC.seq (CC.region [(wB 15 (doFieldAddr 2 (tm 1))), (wB 16 (doLoad (tm 15))), (wB 17 (doSCmp eqS (tm 16) (O.c (V.s 0 0)))), (wB 2 (doMove (tm 17)))]) CC.ret)
noncomputable abbrev s86_4 : CC := (CC.cond (tm 14) s86_3 CC.skip)
noncomputable abbrev s86_5 : CC := (CC.seq (CC.region [(wB 13 (doFieldAddr 1 (tm 1))), (wB 14 (doLoad (tm 13)))]) s86_4)
noncomputable abbrev s86_6 : CC := (CC.seq (CC.region [(wB 18 (doFieldAddr 2 (tm 1))), (wB 19 (doLoad (tm 18))), (wB 20 (doLenS (tm 19))), (wB 21 (bin2 fLeq (tm 20) (oN 24))), (wB 2 (doMove (tm 21)))]) CC.ret)
noncomputable abbrev s86_7 : CC := (CC.seq s86_5 s86_6)
noncomputable abbrev s86_8 : CC := (CC.seq s86_2 s86_7)
noncomputable abbrev b86 : CC := (CC.seq (CC.region [(wB 1 (doBox 123 (tm 0))), (wB 2 (doMove (O.c (V.b Bool.false))))]) s86_8)
theorem c86 : compFn Try.prog 86 = ⟨22, b86, [(Rs.tmp (slOf 2))]⟩ := by kernel_rfl
noncomputable abbrev s118_0 : CC := (CC.seq (CC.region [(wB 22 (doBuild [(V.s 0 0), (V.i IntKind.i64 (Int.ofNat 0)), (V.b Bool.false), (V.s 0 0)] [])), (wB 23 (doMove (tm 7))), (CO.mk G.none D.none Bool.true (CR.mk (doStore 4 (tm 2) (tm 22)))), (wB 3 (doMove (oN 0))), (wB 4 (doMove (tm 23)))]) CC.ret)
noncomputable abbrev s118_1 : CC := (CC.cond (tm 21) s118_0 CC.skip)
noncomputable abbrev s118_2 : CC := (CC.seq (CC.region [(wB 20 (doMove (tm 7))), (wB 21 (bin2 fNeq (tm 20) (oN 0)))]) s118_1)
noncomputable abbrev s118_3 : CC := (CC.seq (CC.region [(wB 34 (doBuild [(V.s 0 0), (V.i IntKind.i64 (Int.ofNat 0)), (V.b Bool.false), (V.s 0 0)] [])), (wB 35 (doMove (tm 7))), (CO.mk G.none D.none Bool.true (CR.mk (doStore 4 (tm 2) (tm 34)))), (wB 3 (doMove (oN 0))), (wB 4 (doMove (tm 35)))]) CC.ret)
noncomputable abbrev s118_4 : CC := (CC.cond (tm 33) s118_3 CC.skip)
noncomputable abbrev s118_5 : CC := (CC.seq (CC.region [(wB 32 (doMove (tm 7))), (wB 33 (bin2 fNeq (tm 32) (oN 0)))]) s118_4)
noncomputable abbrev s118_6 : CC := (CC.seq (CC.region [(wB 43 (doBuild [(V.s 0 0), (V.i IntKind.i64 (Int.ofNat 0)), (V.b Bool.false), (V.s 0 0)] [])), (CO.mk G.none D.none Bool.true (CR.mk (doStore 4 (tm 2) (tm 43)))), (wB 3 (doMove (oN 0))), (wB 4 (doMove (oN 12)))]) CC.ret)
noncomputable abbrev s118_7 : CC := (CC.cond (tm 42) s118_6 CC.skip)
noncomputable abbrev s118_8 : CC := (CC.seq (CC.region [(wB 39 (doMove (tm 6))), (wB 40 (doMove (tm 0))), (wB 41 (doLenS (tm 40))), (wB 42 (bin2 fEql (tm 39) (tm 41)))]) s118_7)
noncomputable abbrev s118_9 : CC := (CC.seq (CC.region [(wB 63 (doBuild [(V.s 0 0), (V.i IntKind.i64 (Int.ofNat 0)), (V.b Bool.false), (V.s 0 0)] [])), (wB 64 (doMove (tm 13))), (CO.mk G.none D.none Bool.true (CR.mk (doStore 4 (tm 2) (tm 63)))), (wB 3 (doMove (oN 0))), (wB 4 (doMove (tm 64)))]) CC.ret)
noncomputable abbrev s118_10 : CC := (CC.cond (tm 62) s118_9 CC.skip)
noncomputable abbrev s118_11 : CC := (CC.seq (CC.region [(wB 61 (doMove (tm 13))), (wB 62 (bin2 fNeq (tm 61) (oN 0)))]) s118_10)
noncomputable abbrev s118_12 : CC := (CC.seq (CC.region [(wB 65 (doMove (tm 5))), (wB 66 (doMove (tm 8))), (wB 67 (doMove (tm 11))), (wB 68 (doBuild [(V.s 0 0), (V.i IntKind.i64 (Int.ofNat 0)), (V.b Bool.false), (V.s 0 0)] [(Pt.mk 0 1 (tm 65)), (Pt.mk 1 1 (tm 66)), (Pt.mk 3 1 (tm 67))])), (wB 69 (doMove (tm 6))), (wB 70 (doMove (tm 12))), (wB 71 (bin2 fAdd (tm 69) (tm 70))), (CO.mk G.none D.none Bool.true (CR.mk (doStore 4 (tm 2) (tm 68)))), (wB 3 (doMove (tm 71))), (wB 4 (doMove (oN 0)))]) CC.ret)
noncomputable abbrev s118_13 : CC := (CC.seq s118_11 s118_12)
noncomputable abbrev s118_14 : CC := (CC.seq (CC.region [(wB 54 (doMove (tm 0))), (wB 55 (doMove (tm 6))), (wB 56 (doSSlice (tm 54) (some (tm 55)) none)), (wB 57 (doCall 104 [(tm 56)])), (wB 53 (doMove (tm 57))), (wB 58 (doExtract 0 (tm 53))), (wB 59 (doExtract 1 (tm 53))), (wB 60 (doExtract 2 (tm 53))), (wB 11 (doMove (tm 58))), (wB 12 (doMove (tm 59))), (wB 13 (doMove (tm 60)))]) s118_13)
noncomputable abbrev s118_15 : CC := (CC.seq (CC.region [(wB 74 (doMove (tm 5))), (wB 75 (doMove (tm 8))), (wB 76 (doBuild [(V.s 0 0), (V.i IntKind.i64 (Int.ofNat 0)), (V.b Bool.false), (V.s 0 0)] [(Pt.mk 0 1 (tm 74)), (Pt.mk 1 1 (tm 75)), (Pt.mk 2 1 (O.c (V.b Bool.true)))])), (wB 77 (doMove (tm 6))), (CO.mk G.none D.none Bool.true (CR.mk (doStore 4 (tm 2) (tm 76)))), (wB 3 (doMove (tm 77))), (wB 4 (doMove (oN 0)))]) CC.ret)
noncomputable abbrev s118_16 : CC := (CC.seq (CC.region [(wB 50 (doBuild [(V.s 0 0), (V.i IntKind.i64 (Int.ofNat 0)), (V.b Bool.false), (V.s 0 0)] [])), (CO.mk G.none D.none Bool.true (CR.mk (doStore 4 (tm 2) (tm 50)))), (wB 3 (doMove (oN 0))), (wB 4 (doMove (oN 10)))]) CC.ret)
noncomputable abbrev s118_17 : CC := (CC.cond (tm 72) s118_15 s118_16)
noncomputable abbrev s118_18 : CC := (CC.seq (CC.region [(wB 73 (bin2 fEql (tm 49) (O.c (V.i IntKind.u8 (Int.ofNat 1))))), (wB 72 (doMove (tm 73)))]) s118_17)
noncomputable abbrev s118_19 : CC := (CC.cond (tm 51) s118_14 s118_18)
noncomputable abbrev s118_20 : CC := (CC.seq (CC.region [(wB 52 (bin2 fEql (tm 49) (O.c (V.i IntKind.u8 (Int.ofNat 0))))), (wB 51 (doMove (tm 52)))]) s118_19)
noncomputable abbrev s118_21 : CC := (CC.block 0 s118_20)
noncomputable abbrev s118_22 : CC := (CC.seq (CC.region [(wB 49 (doMove (tm 10)))]) s118_21)
noncomputable abbrev s118_23 : CC := (CC.seq (CC.region [(wB 47 (doMove (tm 6))), (wB 48 (bin2 fAdd (tm 47) (oN 1))), (wB 6 (doMove (tm 48)))]) s118_22)
noncomputable abbrev s118_24 : CC := (CC.seq (CC.region [(wB 44 (doMove (tm 0))), (wB 45 (doMove (tm 6))), (wB 46 (doSIndex (tm 44) (tm 45))), (wB 10 (doMove (tm 46)))]) s118_23)
noncomputable abbrev s118_25 : CC := (CC.seq s118_8 s118_24)
noncomputable abbrev s118_26 : CC := (CC.seq (CC.region [(wB 36 (doMove (tm 6))), (wB 37 (doMove (tm 9))), (wB 38 (bin2 fAdd (tm 36) (tm 37))), (wB 6 (doMove (tm 38)))]) s118_25)
noncomputable abbrev s118_27 : CC := (CC.seq s118_5 s118_26)
noncomputable abbrev s118_28 : CC := (CC.seq (CC.region [(wB 25 (doMove (tm 0))), (wB 26 (doMove (tm 6))), (wB 27 (doSSlice (tm 25) (some (tm 26)) none)), (wB 28 (doCall 96 [(tm 27)])), (wB 24 (doMove (tm 28))), (wB 29 (doExtract 0 (tm 24))), (wB 30 (doExtract 1 (tm 24))), (wB 31 (doExtract 2 (tm 24))), (wB 8 (doMove (tm 29))), (wB 9 (doMove (tm 30))), (wB 7 (doMove (tm 31)))]) s118_27)
noncomputable abbrev s118_29 : CC := (CC.seq s118_2 s118_28)
noncomputable abbrev s118_30 : CC := (CC.seq (CC.region [(wB 15 (doMove (tm 0))), (wB 16 (doCall 104 [(tm 15)])), (wB 14 (doMove (tm 16))), (wB 17 (doExtract 0 (tm 14))), (wB 18 (doExtract 1 (tm 14))), (wB 19 (doExtract 2 (tm 14))), (wB 5 (doMove (tm 17))), (wB 6 (doMove (tm 18))), (wB 7 (doMove (tm 19)))]) s118_29)
noncomputable abbrev b118 : CC := (CC.seq (CC.region [(wB 2 (doAlloc 70 [(V.s 0 0), (V.i IntKind.i64 (Int.ofNat 0)), (V.b Bool.false), (V.s 0 0)])), (wB 3 (doMove (oN 0))), (wB 4 (doMove (oN 0)))]) s118_30)
theorem c118 : compFn Try.prog 118 = ⟨78, b118, [(Rs.cellA (slOf 2) 4), (Rs.tmp (slOf 3)), (Rs.tmp (slOf 4))]⟩ := by kernel_rfl
end Go.Proofs.Ytjlhfoadabkahaa

set_option maxRecDepth 1000000
set_option linter.all false
namespace Go.Proofs.Ytjlhfoadabkahaa
open Go Go.Ev
noncomputable abbrev s88_0 : CC := (CC.cond (tm 7) CC.skip (CC.exit 0))
noncomputable abbrev s88_1 : CC := (CC.seq (CC.region [(wB 6 (doMove (tm 0))), (wB 7 (bin2 fGtr (tm 6) (oN 0)))]) s88_0)
noncomputable abbrev s88_2 : CC := (CC.region [(wB 12 (doMove (tm 4))), (wB 13 (doMove (tm 0))), (wB 14 (doConv IntKind.u8 (tm 13))), (wB 15 (doIndexAddrArr 9 1 (tm 3) (tm 12))), (CO.mk G.none D.none Bool.true (CR.mk (doStore 1 (tm 15) (tm 14))))])
noncomputable abbrev s88_3 : CC := (CC.seq (CC.region [(wB 10 (doMove (tm 4))), (wB 11 (bin2 fSub (tm 10) (oN 1))), (wB 4 (doMove (tm 11)))]) s88_2)
noncomputable abbrev s88_4 : CC := (CC.block 1 s88_3)
noncomputable abbrev s88_5 : CC := (CC.region [(wB 8 (doMove (tm 0))), (wB 9 (doShift shrF (tm 8) (O.c (V.i IntKind.u64 (Int.ofNat 8))))), (wB 0 (doMove (tm 9)))])
noncomputable abbrev s88_6 : CC := (CC.seq s88_4 s88_5)
noncomputable abbrev l88_0 : CC := (CC.seq s88_1 s88_6)
noncomputable abbrev s88_7 : CC := (CC.loop l88_0)
noncomputable abbrev s88_8 : CC := (CC.block 0 s88_7)
noncomputable abbrev s88_9 : CC := (CC.seq (CC.region [(wB 24 (doMove (tm 4))), (wB 25 (doSliceArr 9 1 (tm 3) (some (tm 24)) none)), (wB 26 (doB2S (tm 25))), (wB 2 (doMove (tm 26)))]) CC.ret)
noncomputable abbrev s88_10 : CC := (CC.seq (CC.region [(wB 20 (doMove (tm 4))), (wB 21 (doMove (tm 5))), (wB 22 (doConv IntKind.u8 (tm 21))), (wB 23 (doIndexAddrArr 9 1 (tm 3) (tm 20))), (CO.mk G.none D.none Bool.true (CR.mk (doStore 1 (tm 23) (tm 22))))]) s88_9)
noncomputable abbrev s88_11 : CC := (CC.seq (CC.region [(wB 18 (doMove (tm 4))), (wB 19 (bin2 fSub (tm 18) (oN 1))), (wB 4 (doMove (tm 19)))]) s88_10)
noncomputable abbrev s88_12 : CC := (CC.seq (CC.region [(wB 16 (doMove (tm 4))), (wB 17 (bin2 fSub (oN 9) (tm 16))), (wB 5 (doMove (tm 17)))]) s88_11)
noncomputable abbrev s88_13 : CC := (CC.seq s88_8 s88_12)
noncomputable abbrev s88_14 : CC := (CC.seq (CC.region [(wB 4 (doMove (oN 9)))]) s88_13)
noncomputable abbrev s88_15 : CC := (CC.seq (CC.region [(wB 3 (doAlloc 141 [(V.i IntKind.u8 (Int.ofNat 0)), (V.i IntKind.u8 (Int.ofNat 0)), (V.i IntKind.u8 (Int.ofNat 0)), (V.i IntKind.u8 (Int.ofNat 0)), (V.i IntKind.u8 (Int.ofNat 0)), (V.i IntKind.u8 (Int.ofNat 0)), (V.i IntKind.u8 (Int.ofNat 0)), (V.i IntKind.u8 (Int.ofNat 0)), (V.i IntKind.u8 (Int.ofNat 0))]))]) s88_14)
noncomputable abbrev b88 : CC := (CC.seq (CC.region [(wB 2 (doMove (O.c (V.s 0 0))))]) s88_15)
theorem c88 : compFn Try.prog 88 = ⟨27, b88, [(Rs.tmp (slOf 2))]⟩ := by kernel_rfl
noncomputable abbrev s96_0 : CC := (CC.seq (CC.region [(wB 2 (doMove (oN 0))), (wB 3 (doMove (oN 0))), (wB 4 (doMove (oN 12)))]) CC.ret)
noncomputable abbrev s96_1 : CC := (CC.cond (tm 10) s96_0 CC.skip)
noncomputable abbrev s96_2 : CC := (CC.seq (CC.region [(wB 9 (doMove (tm 0))), (wB 10 (doSCmp eqS (tm 9) (O.c (V.s 0 0))))]) s96_1)
noncomputable abbrev s96_3 : CC := (CC.seq (CC.region [(wB 2 (doMove (oN 0))), (wB 3 (doMove (oN 0))), (wB 4 (doMove (oN 10)))]) CC.ret)
noncomputable abbrev s96_4 : CC := (CC.cond (tm 15) s96_3 CC.skip)
noncomputable abbrev s96_5 : CC := (CC.seq (CC.region [(wB 14 (doMove (tm 5))), (wB 15 (bin2 fGtr (tm 14) (oN 8)))]) s96_4)
noncomputable abbrev s96_6 : CC := (CC.seq (CC.region [(wB 2 (doMove (oN 0))), (wB 3 (doMove (oN 0))), (wB 4 (doMove (oN 12)))]) CC.ret)
noncomputable abbrev s96_7 : CC := (CC.cond (tm 21) s96_6 CC.skip)
noncomputable abbrev s96_8 : CC := (CC.seq (CC.region [(wB 18 (doMove (tm 6))), (wB 19 (doMove (tm 0))), (wB 20 (doLenS (tm 19))), (wB 21 (bin2 fGtr (tm 18) (tm 20)))]) s96_7)
noncomputable abbrev s96_9 : CC := (CC.seq (CC.region [(wB 2 (doMove (oN 0))), (wB 3 (doMove (oN 0))), (wB 4 (doMove (oN 10)))]) CC.ret)
noncomputable abbrev s96_10 : CC := (CC.cond (tm 30) s96_9 CC.skip)
noncomputable abbrev s96_11 : CC := (CC.seq (CC.region [(wB 29 (doMove (tm 8))), (wB 30 (doNot (tm 29)))]) s96_10)
noncomputable abbrev s96_12 : CC := (CC.seq (CC.region [(wB 31 (doMove (tm 7))), (wB 32 (doMove (tm 6))), (wB 2 (doMove (tm 31))), (wB 3 (doMove (tm 32))), (wB 4 (doMove (oN 0)))]) CC.ret)
noncomputable abbrev s96_13 : CC := (CC.seq s96_11 s96_12)
noncomputable abbrev s96_14 : CC := (CC.seq (CC.region [(wB 23 (doMove (tm 0))), (wB 24 (doMove (tm 6))), (wB 25 (doSSlice (tm 23) (some (oN 1)) (some (tm 24)))), (wB 26 (doCall 103 [(tm 25)])), (wB 22 (doMove (tm 26))), (wB 27 (doExtract 0 (tm 22))), (wB 28 (doExtract 1 (tm 22))), (wB 7 (doMove (tm 27))), (wB 8 (doMove (tm 28)))]) s96_13)
noncomputable abbrev s96_15 : CC := (CC.seq s96_8 s96_14)
noncomputable abbrev s96_16 : CC := (CC.seq (CC.region [(wB 16 (doMove (tm 5))), (wB 17 (bin2 fAdd (oN 1) (tm 16))), (wB 6 (doMove (tm 17)))]) s96_15)
noncomputable abbrev s96_17 : CC := (CC.seq s96_5 s96_16)
noncomputable abbrev s96_18 : CC := (CC.seq (CC.region [(wB 11 (doMove (tm 0))), (wB 12 (doSIndex (tm 11) (oN 0))), (wB 13 (doConv IntKind.i64 (tm 12))), (wB 5 (doMove (tm 13)))]) s96_17)
noncomputable abbrev s96_19 : CC := (CC.seq s96_2 s96_18)
noncomputable abbrev b96 : CC := (CC.seq (CC.region [(wB 2 (doMove (oN 0))), (wB 3 (doMove (oN 0))), (wB 4 (doMove (oN 0)))]) s96_19)
theorem c96 : compFn Try.prog 96 = ⟨33, b96, [(Rs.tmp (slOf 2)), (Rs.tmp (slOf 3)), (Rs.tmp (slOf 4))]⟩ := by kernel_rfl
noncomputable abbrev s103_0 : CC := (CC.cond (tm 10) CC.skip (CC.exit 0))
noncomputable abbrev s103_1 : CC := (CC.seq (CC.region [(wB 7 (doMove (tm 5))), (wB 8 (doMove (tm 0))), (wB 9 (doLenS (tm 8))), (wB 10 (bin2 fLss (tm 7) (tm 9)))]) s103_0)
noncomputable abbrev s103_2 : CC := (CC.cond (tm 22) (CC.exit 0) CC.skip)
noncomputable abbrev s103_3 : CC := (CC.seq (CC.region [(wB 23 (doMove (tm 4))), (wB 24 (bin2 fGtr (tm 23) (oN 36028797018963967))), (wB 22 (doMove (tm 24)))]) s103_2)
noncomputable abbrev s103_4 : CC := (CC.cond (tm 15) (CC.exit 0) s103_3)
noncomputable abbrev s103_5 : CC := (CC.seq (CC.region [(wB 16 (doMove (tm 5))), (wB 17 (bin2 fEql (tm 16) (oN 0))), (wB 18 (doMove (tm 17))), (wG 18 true 19 (doMove (tm 6))), (wG 18 true 20 (bin2 fEql (tm 19) (oN 0))), (wB 21 (doPick (tm 18) (tm 20) (O.c (V.b Bool.false)))), (wB 15 (doMove (tm 21)))]) s103_4)
noncomputable abbrev s103_6 : CC := (CC.block 2 s103_5)
noncomputable abbrev s103_7 : CC := (CC.region [(wB 29 (doMove (tm 5))), (wB 30 (bin2 fAdd (tm 29) (oN 1))), (wB 5 (doMove (tm 30)))])
noncomputable abbrev s103_8 : CC := (CC.seq (CC.region [(wB 25 (doMove (tm 4))), (wB 26 (doShift shlF (tm 25) (O.c (V.i IntKind.u64 (Int.ofNat 8))))), (wB 27 (doMove (tm 6))), (wB 28 (bin2 fOr (tm 26) (tm 27))), (wB 4 (doMove (tm 28)))]) s103_7)
noncomputable abbrev s103_9 : CC := (CC.seq s103_6 s103_8)
noncomputable abbrev s103_10 : CC := (CC.seq (CC.region [(wB 11 (doMove (tm 0))), (wB 12 (doMove (tm 5))), (wB 13 (doSIndex (tm 11) (tm 12))), (wB 14 (doConv IntKind.i64 (tm 13))), (wB 6 (doMove (tm 14)))]) s103_9)
noncomputable abbrev s103_11 : CC := (CC.block 1 s103_10)
noncomputable abbrev l103_0 : CC := (CC.seq s103_1 s103_11)
noncomputable abbrev s103_12 : CC := (CC.loop l103_0)
noncomputable abbrev s103_13 : CC := (CC.block 0 s103_12)
noncomputable abbrev s103_14 : CC := (CC.seq (CC.region [(wB 2 (doMove (oN 0))), (wB 3 (doMove (O.c (V.b Bool.false))))]) CC.ret)
noncomputable abbrev s103_15 : CC := (CC.cond (tm 34) s103_14 CC.skip)
noncomputable abbrev s103_16 : CC := (CC.seq (CC.region [(wB 31 (doMove (tm 5))), (wB 32 (doMove (tm 0))), (wB 33 (doLenS (tm 32))), (wB 34 (bin2 fLss (tm 31) (tm 33)))]) s103_15)
noncomputable abbrev s103_17 : CC := (CC.seq (CC.region [(wB 35 (doMove (tm 4))), (wB 2 (doMove (tm 35))), (wB 3 (doMove (O.c (V.b Bool.true))))]) CC.ret)
noncomputable abbrev s103_18 : CC := (CC.seq s103_16 s103_17)
noncomputable abbrev s103_19 : CC := (CC.seq s103_13 s103_18)
noncomputable abbrev s103_20 : CC := (CC.seq CC.skip s103_19)
noncomputable abbrev s103_21 : CC := (CC.seq (CC.region [(wB 4 (doMove (oN 0))), (wB 5 (doMove (oN 0)))]) s103_20)
noncomputable abbrev b103 : CC := (CC.seq (CC.region [(wB 2 (doMove (oN 0))), (wB 3 (doMove (O.c (V.b Bool.false))))]) s103_21)
theorem c103 : compFn Try.prog 103 = ⟨36, b103, [(Rs.tmp (slOf 2)), (Rs.tmp (slOf 3))]⟩ := by kernel_rfl
noncomputable abbrev s69_0 : CC := (CC.cond (tm 8) CC.skip (CC.exit 0))
noncomputable abbrev s69_1 : CC := (CC.seq (CC.region [(wB 7 (doMove (tm 4))), (wB 8 (bin2 fGtr (tm 7) (oN 0)))]) s69_0)
noncomputable abbrev s69_2 : CC := (CC.region [(wB 11 (doMove (tm 4))), (wB 12 (doRem (tm 11) (oN 256))), (wB 13 (doConv IntKind.u8 (tm 12))), (wB 14 (doBuildSlice 5 1 [(V.i IntKind.u8 (Int.ofNat 0))] [(Pt.mk 0 1 (tm 13))])), (wB 15 (doB2S (tm 14))), (wB 16 (doMove (tm 3))), (wB 17 (doConcat (tm 15) (tm 16))), (wB 3 (doMove (tm 17)))])
noncomputable abbrev s69_3 : CC := (CC.block 1 s69_2)
noncomputable abbrev s69_4 : CC := (CC.region [(wB 9 (doMove (tm 4))), (wB 10 (bin2 fQuo (tm 9) (oN 256))), (wB 4 (doMove (tm 10)))])
noncomputable abbrev s69_5 : CC := (CC.seq s69_3 s69_4)
noncomputable abbrev l69_0 : CC := (CC.seq s69_1 s69_5)
noncomputable abbrev s69_6 : CC := (CC.loop l69_0)
noncomputable abbrev s69_7 : CC := (CC.block 0 s69_6)
noncomputable abbrev s69_8 : CC := (CC.seq (CC.region [(wB 5 (doMove (tm 0))), (wB 6 (doMax (oN 0) (tm 5))), (wB 4 (doMove (tm 6)))]) s69_7)
noncomputable abbrev s69_9 : CC := (CC.seq (CC.region [(wB 18 (doMove (tm 3))), (wB 19 (doLenS (tm 18))), (wB 20 (doConv IntKind.u8 (tm 19))), (wB 21 (doBuildSlice 5 1 [(V.i IntKind.u8 (Int.ofNat 0))] [(Pt.mk 0 1 (tm 20))])), (wB 22 (doB2S (tm 21))), (wB 23 (doMove (tm 3))), (wB 24 (doConcat (tm 22) (tm 23))), (wB 2 (doMove (tm 24)))]) CC.ret)
noncomputable abbrev s69_10 : CC := (CC.seq s69_8 s69_9)
noncomputable abbrev s69_11 : CC := (CC.seq (CC.region [(wB 3 (doMove (O.c (V.s 0 0))))]) s69_10)
noncomputable abbrev b69 : CC := (CC.seq (CC.region [(wB 2 (doMove (O.c (V.s 0 0))))]) s69_11)
theorem c69 : compFn Try.prog 69 = ⟨25, b69, [(Rs.tmp (slOf 2))]⟩ := by kernel_rfl
noncomputable abbrev s74_0 : CC := (CC.seq (CC.region [(wB 2 (doMove (oN 0))), (wB 3 (doMove (oN 0))), (wB 4 (doMove (oN 12)))]) CC.ret)
noncomputable abbrev s74_1 : CC := (CC.cond (tm 10) s74_0 CC.skip)
noncomputable abbrev s74_2 : CC := (CC.seq (CC.region [(wB 8 (doMove (tm 0))), (wB 9 (doLenS (tm 8))), (wB 10 (bin2 fEql (tm 9) (oN 0)))]) s74_1)
noncomputable abbrev s74_3 : CC := (CC.seq (CC.region [(wB 2 (doMove (oN 0))), (wB 3 (doMove (oN 0))), (wB 4 (doMove (oN 10)))]) CC.ret)
noncomputable abbrev s74_4 : CC := (CC.cond (tm 15) s74_3 CC.skip)
noncomputable abbrev s74_5 : CC := (CC.seq (CC.region [(wB 14 (doMove (tm 5))), (wB 15 (bin2 fGtr (tm 14) (oN 8)))]) s74_4)
noncomputable abbrev s74_6 : CC := (CC.seq (CC.region [(wB 2 (doMove (oN 0))), (wB 3 (doMove (oN 0))), (wB 4 (doMove (oN 12)))]) CC.ret)
noncomputable abbrev s74_7 : CC := (CC.cond (tm 20) s74_6 CC.skip)
noncomputable abbrev s74_8 : CC := (CC.seq (CC.region [(wB 16 (doMove (tm 0))), (wB 17 (doLenS (tm 16))), (wB 18 (doMove (tm 5))), (wB 19 (bin2 fAdd (tm 18) (oN 1))), (wB 20 (bin2 fLss (tm 17) (tm 19)))]) s74_7)
noncomputable abbrev s74_9 : CC := (CC.seq (CC.region [(wB 2 (doMove (oN 0))), (wB 3 (doMove (oN 0))), (wB 4 (doMove (oN 10)))]) CC.ret)
noncomputable abbrev s74_10 : CC := (CC.cond (tm 36) s74_9 CC.skip)
noncomputable abbrev s74_11 : CC := (CC.seq (CC.region [(wB 21 (doMove (tm 5))), (wB 22 (bin2 fGtr (tm 21) (oN 0))), (wB 23 (doMove (tm 22))), (wG 23 true 24 (doMove (tm 0))), (wG 23 true 25 (doSIndex (tm 24) (oN 1))), (wG 23 true 26 (bin2 fEql (tm 25) (O.c (V.i IntKind.u8 (Int.ofNat 0))))), (wB 27 (doPick (tm 23) (tm 26) (O.c (V.b Bool.false)))), (wB 28 (doMove (tm 27))), (wG 28 false 29 (doMove (tm 5))), (wG 28 false 30 (bin2 fEql (tm 29) (oN 8))), (wG 28 false 31 (doMove (tm 30))), (wG 31 true 32 (doMove (tm 0))), (wG 31 true 33 (doSIndex (tm 32) (oN 1))), (wG 31 true 34 (bin2 fGeq (tm 33) (O.c (V.i IntKind.u8 (Int.ofNat 128))))), (wG 28 false 35 (doPick (tm 31) (tm 34) (O.c (V.b Bool.false)))), (wB 36 (doPick (tm 28) (O.c (V.b Bool.true)) (tm 35)))]) s74_10)
noncomputable abbrev s74_12 : CC := (CC.cond (tm 39) CC.skip (CC.exit 0))
noncomputable abbrev s74_13 : CC := (CC.seq (CC.region [(wB 37 (doMove (tm 7))), (wB 38 (doMove (tm 5))), (wB 39 (bin2 fLeq (tm 37) (tm 38)))]) s74_12)
noncomputable abbrev s74_14 : CC := (CC.region [(wB 42 (doMove (tm 6))), (wB 43 (bin2 fMul (tm 42) (oN 256))), (wB 44 (doMove (tm 0))), (wB 45 (doMove (tm 7))), (wB 46 (doSIndex (tm 44) (tm 45))), (wB 47 (doConv IntKind.i64 (tm 46))), (wB 48 (bin2 fAdd (tm 43) (tm 47))), (wB 6 (doMove (tm 48)))])
noncomputable abbrev s74_15 : CC := (CC.block 1 s74_14)
noncomputable abbrev s74_16 : CC := (CC.region [(wB 40 (doMove (tm 7))), (wB 41 (bin2 fAdd (tm 40) (oN 1))), (wB 7 (doMove (tm 41)))])
noncomputable abbrev s74_17 : CC := (CC.seq s74_15 s74_16)
noncomputable abbrev l74_0 : CC := (CC.seq s74_13 s74_17)
noncomputable abbrev s74_18 : CC := (CC.loop l74_0)
noncomputable abbrev s74_19 : CC := (CC.block 0 s74_18)
noncomputable abbrev s74_20 : CC := (CC.seq (CC.region [(wB 7 (doMove (oN 1)))]) s74_19)
noncomputable abbrev s74_21 : CC := (CC.seq (CC.region [(wB 49 (doMove (tm 6))), (wB 50 (doMove (tm 5))), (wB 51 (bin2 fAdd (tm 50) (oN 1))), (wB 2 (doMove (tm 49))), (wB 3 (doMove (tm 51))), (wB 4 (doMove (oN 0)))]) CC.ret)
noncomputable abbrev s74_22 : CC := (CC.seq s74_20 s74_21)
noncomputable abbrev s74_23 : CC := (CC.seq (CC.region [(wB 6 (doMove (oN 0)))]) s74_22)
noncomputable abbrev s74_24 : CC := (CC.seq s74_11 s74_23)
noncomputable abbrev s74_25 : CC := (CC.seq s74_8 s74_24)
noncomputable abbrev s74_26 : CC := (CC.seq s74_5 s74_25)
noncomputable abbrev s74_27 : CC := (CC.seq (CC.region [(wB 11 (doMove (tm 0))), (wB 12 (doSIndex (tm 11) (oN 0))), (wB 13 (doConv IntKind.i64 (tm 12))), (wB 5 (doMove (tm 13)))]) s74_26)
noncomputable abbrev s74_28 : CC := (CC.seq s74_2 s74_27)
noncomputable abbrev b74 : CC := (CC.seq (CC.region [(wB 2 (doMove (oN 0))), (wB 3 (doMove (oN 0))), (wB 4 (doMove (oN 0)))]) s74_28)
theorem c74 : compFn Try.prog 74 = ⟨52, b74, [(Rs.tmp (slOf 2)), (Rs.tmp (slOf 3)), (Rs.tmp (slOf 4))]⟩ := by kernel_rfl
noncomputable abbrev s91_0 : CC := (CC.seq (CC.region [(wB 3 (doMove (tm 0))), (wB 4 (doLenS (tm 3))), (wB 5 (doCall 88 [(tm 4)])), (wB 6 (doMove (tm 0))), (wB 7 (doConcat (tm 5) (tm 6))), (wB 2 (doMove (tm 7)))]) CC.ret)
noncomputable abbrev b91 : CC := (CC.seq (CC.region [(wB 2 (doMove (O.c (V.s 0 0))))]) s91_0)
theorem c91 : compFn Try.prog 91 = ⟨8, b91, [(Rs.tmp (slOf 2))]⟩ := by kernel_rfl
noncomputable abbrev s104_0 : CC := (CC.seq (CC.region [(wB 17 (doMove (tm 7))), (wB 2 (doMove (O.c (V.s 0 0)))), (wB 3 (doMove (oN 0))), (wB 4 (doMove (tm 17)))]) CC.ret)
noncomputable abbrev s104_1 : CC := (CC.cond (tm 16) s104_0 CC.skip)
noncomputable abbrev s104_2 : CC := (CC.seq (CC.region [(wB 15 (doMove (tm 7))), (wB 16 (bin2 fNeq (tm 15) (oN 0)))]) s104_1)
noncomputable abbrev s104_3 : CC := (CC.seq (CC.region [(wB 2 (doMove (O.c (V.s 0 0)))), (wB 3 (doMove (oN 0))), (wB 4 (doMove (oN 12)))]) CC.ret)
noncomputable abbrev s104_4 : CC := (CC.cond (tm 24) s104_3 CC.skip)
noncomputable abbrev s104_5 : CC := (CC.seq (CC.region [(wB 21 (doMove (tm 5))), (wB 22 (doMove (tm 8))), (wB 23 (doLenS (tm 22))), (wB 24 (bin2 fGtr (tm 21) (tm 23)))]) s104_4)
noncomputable abbrev s104_6 : CC := (CC.seq (CC.region [(wB 25 (doMove (tm 8))), (wB 26 (doMove (tm 5))), (wB 27 (doSSlice (tm 25) none (some (tm 26)))), (wB 28 (doMove (tm 6))), (wB 29 (doMove (tm 5))), (wB 30 (bin2 fAdd (tm 28) (tm 29))), (wB 2 (doMove (tm 27))), (wB 3 (doMove (tm 30))), (wB 4 (doMove (oN 0)))]) CC.ret)
noncomputable abbrev s104_7 : CC := (CC.seq s104_5 s104_6)
noncomputable abbrev s104_8 : CC := (CC.seq (CC.region [(wB 18 (doMove (tm 0))), (wB 19 (doMove (tm 6))), (wB 20 (doSSlice (tm 18) (some (tm 19)) none)), (wB 8 (doMove (tm 20)))]) s104_7)
noncomputable abbrev s104_9 : CC := (CC.seq s104_2 s104_8)
noncomputable abbrev s104_10 : CC := (CC.seq (CC.region [(wB 10 (doMove (tm 0))), (wB 11 (doCall 96 [(tm 10)])), (wB 9 (doMove (tm 11))), (wB 12 (doExtract 0 (tm 9))), (wB 13 (doExtract 1 (tm 9))), (wB 14 (doExtract 2 (tm 9))), (wB 5 (doMove (tm 12))), (wB 6 (doMove (tm 13))), (wB 7 (doMove (tm 14)))]) s104_9)
noncomputable abbrev b104 : CC := (CC.seq (CC.region [(wB 2 (doMove (O.c (V.s 0 0)))), (wB 3 (doMove (oN 0))), (wB 4 (doMove (oN 0)))]) s104_10)
theorem c104 : compFn Try.prog 104 = ⟨31, b104, [(Rs.tmp (slOf 2)), (Rs.tmp (slOf 3)), (Rs.tmp (slOf 4))]⟩ := by kernel_rfl
end Go.Proofs.Ytjlhfoadabkahaa

set_option linter.all false
namespace Go.Ev
open Go
/-- the bytes of a number, the highest first, no 0 ahead -/
def digs (n : Nat) : List UInt8 := if h : n = 0 then [] else digs (n / 256) ++ [UInt8.ofNat (n % 256)]
decreasing_by omega
theorem digs_zero : digs 0 = [] := by rw [digs]; simp
theorem digs_pos {n : Nat} (h : n ≠ 0) : digs n = digs (n / 256) ++ [UInt8.ofNat (n % 256)] := by rw [digs]; simp [h]
theorem digs_len : ∀ (k n : Nat), n < 256 ^ k → (digs n).length ≤ k
  | 0, n, h => by
    have : n = 0 := by simp at h; exact h
    subst this; rw [digs_zero]; simp
  | k + 1, n, h => by
    by_cases hn : n = 0
    · subst hn; rw [digs_zero]; simp
    · rw [digs_pos hn, List.length_append]
      have := digs_len k (n / 256) (by rw [Nat.pow_succ] at h; omega)
      simp; exact this
theorem pk_digs (n : Nat) : pk (digs n) = n := by
  induction n using Nat.strongRecOn with
  | _ n ih =>
    by_cases hn : n = 0
    · subst hn; rw [digs_zero]; rfl
    · rw [digs_pos hn, pk_append, ih (n / 256) (by omega)]
      simp [pk]
      omega
theorem digs_head (n : Nat) : (digs n).head? ≠ some 0 := by
  induction n using Nat.strongRecOn with
  | _ n ih =>
    by_cases hn : n = 0
    · subst hn; rw [digs_zero]; simp
    · rw [digs_pos hn]
      by_cases h2 : n / 256 = 0
      · rw [h2, digs_zero]
        intro h
        have h3 : UInt8.ofNat (n % 256) = 0 := by simpa using h
        have h4 := congrArg UInt8.toNat h3
        simp at h4
        omega
      · have := ih (n / 256) (by omega)
        cases hd : digs (n / 256) with
        | nil =>
          have := pk_digs (n / 256)
          rw [hd] at this
          exact absurd this.symm h2
        | cons c l => rw [hd] at this; simpa using this
/-- digits that are no number -/
def badD (l : List UInt8) : Prop := l.head? = some 0 ∨ 9223372036854775808 ≤ pk l
instance (l : List UInt8) : Decidable (badD l) := by unfold badD; exact inferInstance
/-- what reading digits makes -/
def numR (l : List UInt8) : V := if badD l then .tu [.i .i64 0, .b false] else .tu [.i .i64 (pk l : Int), .b true]
theorem numR_bad {l : List UInt8} (h : badD l) : numR l = .tu [.i .i64 0, .b false] := if_pos h
theorem numR_ok {l : List UInt8} (h : ¬ badD l) : numR l = .tu [.i .i64 (pk l : Int), .b true] := if_neg h
/-- a number's cell -/
def numB (n : Nat) : List UInt8 := UInt8.ofNat (digs n).length :: digs n
def textB (l : List UInt8) : List UInt8 := numB l.length ++ l
theorem digs_len8 {n : Nat} (h : n ≤ 9223372036854775807) : (digs n).length ≤ 8 := digs_len 8 n (by omega)
theorem numB_len {n : Nat} (h : n ≤ 9223372036854775807) : (numB n).length ≤ 9 := by
  have := digs_len8 h
  show (digs n).length + 1 ≤ 9
  omega
/-- what stands at the front -/
def takeN : List UInt8 → Int × Int × Int
  | [] => (0, 0, 12)
  | w :: r => if 8 < w.toNat then (0, 0, 10) else if r.length < w.toNat then (0, 0, 12) else
    if (r.take w.toNat).head? = some 0 ∨ 9223372036854775808 ≤ pk (r.take w.toNat) then (0, 0, 10) else (((pk (r.take w.toNat) : Nat) : Int), ((w.toNat + 1 : Nat) : Int), 0)
def takeT (l : List UInt8) : List UInt8 × Int × Int :=
  if (takeN l).2.2 = 0 then
    if ((l.drop (takeN l).2.1.toNat).length : Int) < (takeN l).1 then ([], 0, 12) else ((l.drop (takeN l).2.1.toNat).take (takeN l).1.toNat, (takeN l).2.1 + (takeN l).1, 0)
  else ([], 0, (takeN l).2.2)
theorem takeN_cons (w : UInt8) (r : List UInt8) : takeN (w :: r) = if 8 < w.toNat then (0, 0, 10) else if r.length < w.toNat then (0, 0, 12) else
    if (r.take w.toNat).head? = some 0 ∨ 9223372036854775808 ≤ pk (r.take w.toNat) then (0, 0, 10) else (((pk (r.take w.toNat) : Nat) : Int), ((w.toNat + 1 : Nat) : Int), 0) := rfl
theorem takeN_big {w : UInt8} {r : List UInt8} (h : 8 < w.toNat) : takeN (w :: r) = (0, 0, 10) := by rw [takeN_cons, if_pos h]
theorem takeN_short {w : UInt8} {r : List UInt8} (h : w.toNat ≤ 8) (h1 : r.length < w.toNat) : takeN (w :: r) = (0, 0, 12) := by rw [takeN_cons, if_neg (by omega), if_pos h1]
theorem takeN_bad {w : UInt8} {r : List UInt8} (h : w.toNat ≤ 8) (h1 : w.toNat ≤ r.length) (h2 : (r.take w.toNat).head? = some 0 ∨ 9223372036854775808 ≤ pk (r.take w.toNat)) : takeN (w :: r) = (0, 0, 10) := by
  rw [takeN_cons, if_neg (by omega), if_neg (by omega), if_pos h2]
theorem takeN_ok {w : UInt8} {r : List UInt8} (h : w.toNat ≤ 8) (h1 : w.toNat ≤ r.length) (h2 : ¬ ((r.take w.toNat).head? = some 0 ∨ 9223372036854775808 ≤ pk (r.take w.toNat))) : takeN (w :: r) = (((pk (r.take w.toNat) : Nat) : Int), ((w.toNat + 1 : Nat) : Int), 0) := by
  rw [takeN_cons, if_neg (by omega), if_neg (by omega), if_neg h2]
/-- what it may be -/
theorem takeN_range (l : List UInt8) : (takeN l = (0, 0, 10) ∨ takeN l = (0, 0, 12)) ∨ ∃ n k : Nat, takeN l = ((n : Int), (k : Int), 0) ∧ n ≤ 9223372036854775807 ∧ 1 ≤ k ∧ k ≤ 9 ∧ k ≤ l.length := by
  cases l with
  | nil => exact .inl (.inr rfl)
  | cons w r =>
    by_cases h : 8 < w.toNat
    · exact .inl (.inl (takeN_big h))
    · by_cases h1 : r.length < w.toNat
      · exact .inl (.inr (takeN_short (by omega) h1))
      · by_cases h2 : (r.take w.toNat).head? = some 0 ∨ 9223372036854775808 ≤ pk (r.take w.toNat)
        · exact .inl (.inl (takeN_bad (by omega) (by omega) h2))
        · refine .inr ⟨_, _, takeN_ok (by omega) (by omega) h2, by omega, by omega, by omega, by simp; omega⟩
/-- the value of digits, byte by byte -/
theorem pk_take {l : List UInt8} {i : Nat} (h : i < l.length) : pk (l.take (i + 1)) = pk (l.take i) * 256 + (l.getD i 0).toNat := by
  have e : l.getD i 0 = l[i] := by simp [List.getD, h]
  rw [List.take_succ_eq_append_getElem h, pk_append, e]
  simp [pk]
theorem takeN_numB {n : Nat} (h : n ≤ 9223372036854775807) (more : List UInt8) : takeN (numB n ++ more) = ((n : Int), ((numB n).length : Int), 0) := by
  have hl := digs_len8 h
  have e1 : (UInt8.ofNat (digs n).length).toNat = (digs n).length := by simp; omega
  have e2 : (digs n ++ more).take (digs n).length = digs n := by simp
  have : takeN (numB n ++ more) = (((pk ((digs n ++ more).take (UInt8.ofNat (digs n).length).toNat) : Nat) : Int), (((UInt8.ofNat (digs n).length).toNat + 1 : Nat) : Int), 0) := by
    refine takeN_ok (by omega) (by rw [e1]; simp) ?_
    have e3 : (digs n).append more = digs n ++ more := rfl
    rw [e1, e3, e2, pk_digs]
    rintro (h2 | h2)
    · exact digs_head n h2
    · omega
  rw [this, e1, e2, pk_digs]
  rfl
theorem takeT_textB {l more : List UInt8} (h : l.length ≤ 9223372036854775807) : takeT (textB l ++ more) = (l, ((textB l).length : Int), 0) := by
  have e : takeN (textB l ++ more) = ((l.length : Int), ((numB l.length).length : Int), 0) := by
    unfold textB; rw [List.append_assoc]; exact takeN_numB h _
  unfold takeT
  rw [e]
  simp only [if_true]
  have e2 : (textB l ++ more).drop (((numB l.length).length : Nat) : Int).toNat = l ++ more := by
    rw [Int.toNat_natCast]; unfold textB; rw [List.append_assoc]; simp
  rw [e2, if_neg (by simp; omega)]
  rw [Int.toNat_natCast]
  unfold textB
  simp
/-- cut off bytes lack -/
theorem takeN_cut {n c : Nat} (h : n ≤ 9223372036854775807) (hc : c < (numB n).length) : takeN ((numB n).take c) = (0, 0, 12) := by
  have hl := digs_len8 h
  have e1 : (UInt8.ofNat (digs n).length).toNat = (digs n).length := by simp; omega
  cases c with
  | zero => rfl
  | succ c =>
    have : (numB n).take (c + 1) = UInt8.ofNat (digs n).length :: (digs n).take c := rfl
    rw [this]
    have hc' : c < (digs n).length := by unfold numB at hc; simp at hc; omega
    exact takeN_short (by omega) (by rw [List.length_take, e1]; omega)
theorem badD_iff {r : List UInt8} {k : Nat} (h8 : k ≤ 8) (h1 : k ≤ r.length) : badD (r.take k) ↔ (0 < k ∧ (r.getD 0 0).toNat = 0) ∨ (k = 8 ∧ 128 ≤ (r.getD 0 0).toNat) := by
  cases k with
  | zero =>
    constructor
    · rintro (h | h)
      · simp at h
      · simp [pk] at h
    · rintro (h | h) <;> omega
  | succ k =>
    cases r with
    | nil => simp at h1
    | cons c r =>
      have e : (c :: r).getD 0 0 = c := rfl
      have hl : (r.take k).length = k := by rw [List.length_take]; simp at h1; omega
      have h2 := pk_lt (r.take k)
      have ep : pk (c :: r.take k) = c.toNat * 256 ^ k + pk (r.take k) := by rw [pk, hl]
      rw [hl] at h2
      rw [e, List.take_succ_cons]
      constructor
      · rintro (h | h)
        · have : c = 0 := by simpa using h
          exact .inl ⟨by omega, by rw [this]; rfl⟩
        · rw [ep] at h
          by_cases hk : k = 7
          · subst hk; exact .inr ⟨rfl, by omega⟩
          · have h3 : 256 ^ k ≤ 256 ^ 6 := Nat.pow_le_pow_right (by omega) (by omega)
            have h4 : c.toNat * 256 ^ k ≤ 255 * 256 ^ k := Nat.mul_le_mul_right _ (by have := c.toNat_lt; omega)
            have : (256 : Nat) ^ 6 = 281474976710656 := by decide
            omega
      · rintro (h | h)
        · exact .inl (by rw [show c = 0 from UInt8.toNat_inj.1 h.2]; rfl)
        · have hk : k = 7 := by omega
          subst hk
          exact .inr (by rw [ep]; omega)
/-- three results -/
def tri (a : Int × Int × Int) : V := .tu [.i .i64 a.1, .i .i64 a.2.1, .i .i64 a.2.2]
def triT (a : List UInt8 × Int × Int) : V := .tu [sv a.1, .i .i64 a.2.1, .i .i64 a.2.2]
theorem u8_mod (n : Nat) : UInt8.ofNat (n % 256) = UInt8.ofNat n := UInt8.toNat_inj.1 (by simp)
theorem drop_set1 {α : Type} (xs : List α) (j : Nat) (y : α) (h : j < xs.length) : (xs.set j y).drop j = y :: xs.drop (j + 1) := by
  rw [List.drop_eq_getElem_cons (by rw [List.length_set]; exact h), List.drop_set_of_lt (by omega)]
  simp
end Go.Ev

set_option maxRecDepth 100000
set_option maxHeartbeats 8000000
set_option linter.all false
namespace Go.Proofs.Ytjlhfoadabkahaa
open Go Go.Ev
theorem or_add {n d : Nat} (h : d < 256) : n * 2 ^ 8 ||| d = n * 256 + d := by
  have := Nat.two_pow_add_eq_or_of_lt (i := 8) (b := d) (by omega) n
  rw [Nat.mul_comm n, ← this]
theorem pk_ge (l : List UInt8) (i : Nat) (h : i ≤ l.length) : pk (l.take i) * 256 ^ (l.length - i) ≤ pk l := by
  have e := pk_append (l.take i) (l.drop i)
  rw [List.take_append_drop, List.length_drop] at e
  omega
theorem pk_bad {l : List UInt8} {i : Nat} (h8 : l.length ≤ 8) (hi : i < l.length) (h : 36028797018963967 < pk (l.take i)) : 9223372036854775808 ≤ pk l := by
  have h1 := pk_ge l i (by omega)
  have h2 : 256 ≤ 256 ^ (l.length - i) := by
    have := Nat.pow_le_pow_right (n := 256) (by omega) (show 1 ≤ l.length - i by omega)
    simpa using this
  have h3 := Nat.mul_le_mul (show 36028797018963968 ≤ pk (l.take i) by omega) h2
  omega
theorem head_zero {l : List UInt8} (h : (l.getD 0 0).toNat = 0) (h0 : 0 < l.length) : l.head? = some 0 := by
  cases l with
  | nil => simp at h0
  | cons c r => have : c = 0 := UInt8.toNat_inj.1 h
                rw [this]; rfl
theorem head_pos {l : List UInt8} (h : ¬ (l.getD 0 0).toNat = 0) : l.head? ≠ some 0 := by
  cases l with
  | nil => simp
  | cons c r => intro h0; have : c = 0 := by simpa using h0
                subst this; exact h rfl
theorem number_ok {h : H} {l : List UInt8} (h8 : l.length ≤ 8) : FnOk Try.prog 103 [sv l] h fun y h' => y = numR l ∧ h' = h := by
  refine fn_go c103 (by intro hb; cases hb) (by simp) (by simp) fun Q hQ => ?_
  simp only [slotsF, Nat.reduceAdd]
  repeat' (first
    | refine St.h ?_
    | simp (disch := first | omega | (simp only [lnv]; omega)) only [wlk, ↓get_put', Nat.reduceEqDiff, Nat.reduceLT, ↓reduceIte, Int.reduceToNat, Nat.reducePow, Nat.min_eq_left, Nat.reduceAdd, Nat.reduceMul, Int.reduceAdd, Int.reduceSub, Int.reduceNeg, Int.reduceMul, Int.reduceEq, Int.reduceLT, Int.reduceLE, Nat.reduceSub, Int.reduceNatCast, Nat.reduceLeDiff]
    | (with_reducible (first | apply cd_split | apply gd_split)) <;> (intro hc; (try simp only [hcn] at hc); (try simp only [hc]); (try simp only [hcl] at hc); try omega))
  refine Ok.lp (fun m t g => ∃ i : Nat, i ≤ l.length ∧ m = l.length - i ∧ g = h ∧ get 0 t = sv l ∧ get 4 t = .i .i64 ((pk (l.take i) : Nat) : Int) ∧ get 5 t = .i .i64 (i : Int) ∧ (0 < i → l.head? ≠ some 0) ∧ pk (l.take i) ≤ 9223372036854775807) l.length ?_ ?_
  · simp (disch := first | omega | (simp only [lnv]; omega)) only [wlk, ↓get_put', Nat.reduceEqDiff, Nat.reduceLT, ↓reduceIte, Int.reduceToNat, Nat.reducePow, Nat.min_eq_left, Nat.reduceAdd, Nat.reduceMul, Int.reduceAdd, Int.reduceSub, Int.reduceNeg, Int.reduceMul, Int.reduceEq, Int.reduceLT, Int.reduceLE, Nat.reduceSub, Int.reduceNatCast, Nat.reduceLeDiff]
    exact ⟨0, by omega, rfl, trivial, trivial, rfl, rfl, fun h => absurd h (by omega), by simp [pk]⟩
  · rintro I hI m t g ⟨i, hi', rfl, rfl, f0, f4, f5, hF, hV⟩
    have hgd := (l.getD i 0).toNat_lt
    repeat' (first
      | refine St.h ?_
      | simp (disch := first | omega | (simp only [lnv]; omega)) only [wlk, ↓get_put', Nat.reduceEqDiff, Nat.reduceLT, ↓reduceIte, Int.reduceToNat, Nat.reducePow, Nat.min_eq_left, Nat.reduceAdd, Nat.reduceMul, Int.reduceAdd, Int.reduceSub, Int.reduceNeg, Int.reduceMul, Int.reduceEq, Int.reduceLT, Int.reduceLE, Nat.reduceSub, Int.reduceNatCast, Nat.reduceLeDiff, *]
      | (with_reducible (first | apply cd_split | apply gd_split)) <;> (intro hc; (try simp only [hcn] at hc); (try simp only [hc]); (try simp only [hcl] at hc); try omega))
    · obtain rfl : i = 0 := by omega
      exact ⟨(numR_bad (.inl (head_zero (by omega) (by omega)))).symm, trivial⟩
    · exact ⟨(numR_bad (.inr (pk_bad h8 (by omega) (by omega : 36028797018963967 < pk (l.take i))))).symm, trivial⟩
    · obtain rfl : i = 0 := by omega
      have n1 : ((pk (l.take 0) : Int) * 256).toNat ||| (l.getD 0 0).toNat = pk (l.take 1) := by
        rw [show ((pk (l.take 0) : Int) * 256).toNat = pk (l.take 0) * 2 ^ 8 by omega, or_add (by omega), pk_take (by omega)]
      have n2 : pk (l.take 1) ≤ 9223372036854775807 := by rw [pk_take (by omega)]; omega
      refine lp_next hI (l.length - (0 + 1)) (by omega) ⟨0 + 1, by omega, rfl, rfl, ?_, ?_, ?_, fun _ => head_pos (by omega), n2⟩
      · simp (disch := first | omega | (simp only [lnv]; omega)) only [wlk, ↓get_put', Nat.reduceEqDiff, Nat.reduceLT, ↓reduceIte, Int.reduceToNat, Nat.reducePow, Nat.min_eq_left, Nat.reduceAdd, Nat.reduceMul, Int.reduceAdd, Int.reduceSub, Int.reduceNeg, Int.reduceMul, Int.reduceEq, Int.reduceLT, Int.reduceLE, Nat.reduceSub, Int.reduceNatCast, Nat.reduceLeDiff, *]
      · simp (disch := first | omega | (simp only [lnv]; omega)) only [wlk, ↓get_put', Nat.reduceEqDiff, Nat.reduceLT, ↓reduceIte, Int.reduceToNat, Nat.reducePow, Nat.min_eq_left, Nat.reduceAdd, Nat.reduceMul, Int.reduceAdd, Int.reduceSub, Int.reduceNeg, Int.reduceMul, Int.reduceEq, Int.reduceLT, Int.reduceLE, Nat.reduceSub, Int.reduceNatCast, Nat.reduceLeDiff, *]
      · simp (disch := first | omega | (simp only [lnv]; omega)) only [wlk, ↓get_put', Nat.reduceEqDiff, Nat.reduceLT, ↓reduceIte, Int.reduceToNat, Nat.reducePow, Nat.min_eq_left, Nat.reduceAdd, Nat.reduceMul, Int.reduceAdd, Int.reduceSub, Int.reduceNeg, Int.reduceMul, Int.reduceEq, Int.reduceLT, Int.reduceLE, Nat.reduceSub, Int.reduceNatCast, Nat.reduceLeDiff, *]
    · exact ⟨(numR_bad (.inr (pk_bad h8 (by omega) (by omega : 36028797018963967 < pk (l.take i))))).symm, trivial⟩
    · have n1 : ((pk (l.take i) : Int) * 256).toNat ||| (l.getD i 0).toNat = pk (l.take (i + 1)) := by
        rw [show ((pk (l.take i) : Int) * 256).toNat = pk (l.take i) * 2 ^ 8 by omega, or_add (by omega), pk_take (by omega)]
      have n2 : pk (l.take (i + 1)) ≤ 9223372036854775807 := by rw [pk_take (by omega)]; omega
      refine lp_next hI (l.length - (i + 1)) (by omega) ⟨i + 1, by omega, rfl, rfl, ?_, ?_, ?_, fun _ => hF (by omega), n2⟩
      · simp (disch := first | omega | (simp only [lnv]; omega)) only [wlk, ↓get_put', Nat.reduceEqDiff, Nat.reduceLT, ↓reduceIte, Int.reduceToNat, Nat.reducePow, Nat.min_eq_left, Nat.reduceAdd, Nat.reduceMul, Int.reduceAdd, Int.reduceSub, Int.reduceNeg, Int.reduceMul, Int.reduceEq, Int.reduceLT, Int.reduceLE, Nat.reduceSub, Int.reduceNatCast, Nat.reduceLeDiff, *]
      · simp (disch := first | omega | (simp only [lnv]; omega)) only [wlk, ↓get_put', Nat.reduceEqDiff, Nat.reduceLT, ↓reduceIte, Int.reduceToNat, Nat.reducePow, Nat.min_eq_left, Nat.reduceAdd, Nat.reduceMul, Int.reduceAdd, Int.reduceSub, Int.reduceNeg, Int.reduceMul, Int.reduceEq, Int.reduceLT, Int.reduceLE, Nat.reduceSub, Int.reduceNatCast, Nat.reduceLeDiff, *]
      · simp (disch := first | omega | (simp only [lnv]; omega)) only [wlk, ↓get_put', Nat.reduceEqDiff, Nat.reduceLT, ↓reduceIte, Int.reduceToNat, Nat.reducePow, Nat.min_eq_left, Nat.reduceAdd, Nat.reduceMul, Int.reduceAdd, Int.reduceSub, Int.reduceNeg, Int.reduceMul, Int.reduceEq, Int.reduceLT, Int.reduceLE, Nat.reduceSub, Int.reduceNatCast, Nat.reduceLeDiff, *]; rfl
    · have : i = l.length := by omega
      subst this
      rw [List.take_length] at *
      refine ⟨(numR_ok ?_).symm, trivial⟩
      rintro (h1 | h1)
      · cases l with
        | nil => cases h1
        | cons c r => exact hF (by simp) h1
      · omega
theorem takeNum_ok {h : H} {l : List UInt8} (hl : l.length ≤ 1000000) : FnOk Try.prog 96 [sv l] h fun y h' => y = tri (takeN l) ∧ h' = h := by
  refine fn_go c96 (by intro hb; cases hb) (by simp) (by simp) fun Q hQ => ?_
  simp only [slotsF, Nat.reduceAdd]
  cases l with
  | nil =>
    repeat' (first
      | refine St.h ?_
      | simp (disch := first | omega | (simp only [lnv]; omega)) only [wlk, ↓get_put', Nat.reduceEqDiff, Nat.reduceLT, ↓reduceIte, Int.reduceToNat, Nat.reducePow, Nat.min_eq_left, Nat.reduceAdd, Nat.reduceMul, Int.reduceAdd, Int.reduceSub, Int.reduceNeg, Int.reduceMul, Int.reduceEq, Int.reduceLT, Int.reduceLE, Nat.reduceSub, Int.reduceNatCast, Nat.reduceLeDiff, *]
      | (with_reducible (first | apply cd_split | apply gd_split)) <;> (intro hc; (try simp only [hcn] at hc); (try simp only [hc]); (try simp only [hcl] at hc); try omega))
    exact ⟨rfl, trivial⟩
  | cons w r =>
  have hlen : (w :: r).length = r.length + 1 := rfl
  have hw := w.toNat_lt
  have hgd : (w :: r).getD 0 0 = w := rfl
  have d0 : (w :: r = []) = False := by simp
  repeat' (first
    | refine St.h ?_
    | simp (disch := first | omega | (simp only [lnv]; omega)) only [wlk, ↓get_put', Nat.reduceEqDiff, Nat.reduceLT, ↓reduceIte, Int.reduceToNat, Nat.reducePow, Nat.min_eq_left, Nat.reduceAdd, Nat.reduceMul, Int.reduceAdd, Int.reduceSub, Int.reduceNeg, Int.reduceMul, Int.reduceEq, Int.reduceLT, Int.reduceLE, Nat.reduceSub, Int.reduceNatCast, Nat.reduceLeDiff, *]
    | (with_reducible (first | apply cd_split | apply gd_split)) <;> (intro hc; (try simp only [hcn] at hc); (try simp only [hc]); (try simp only [hcl] at hc); try omega))
  · exact ⟨by rw [takeN_big (by omega)]; rfl, trivial⟩
  · exact ⟨by rw [takeN_short (by omega) (by omega)]; rfl, trivial⟩
  have hsl : ((w :: r).take (1 + (w.toNat : Int)).toNat).drop 1 = r.take w.toNat := by
    rw [show (1 + (w.toNat : Int)).toNat = w.toNat + 1 by omega]; simp
  rw [hsl]
  refine CL.mk (number_ok (by rw [List.length_take]; omega)) ?_
  rintro _ _ ⟨rfl, rfl⟩
  by_cases hb : badD (r.take w.toNat)
  · rw [numR_bad hb]
    repeat' (first
      | refine St.h ?_
      | simp (disch := first | omega | (simp only [lnv]; omega)) only [wlk, ↓get_put', Nat.reduceEqDiff, Nat.reduceLT, ↓reduceIte, Int.reduceToNat, Nat.reducePow, Nat.min_eq_left, Nat.reduceAdd, Nat.reduceMul, Int.reduceAdd, Int.reduceSub, Int.reduceNeg, Int.reduceMul, Int.reduceEq, Int.reduceLT, Int.reduceLE, Nat.reduceSub, Int.reduceNatCast, Nat.reduceLeDiff, *]
      | (with_reducible (first | apply cd_split | apply gd_split)) <;> (intro hc; (try simp only [hcn] at hc); (try simp only [hc]); (try simp only [hcl] at hc); try omega))
    exact ⟨by rw [takeN_bad (by omega) (by omega) hb]; rfl, trivial⟩
  · rw [numR_ok hb]
    repeat' (first
      | refine St.h ?_
      | simp (disch := first | omega | (simp only [lnv]; omega)) only [wlk, ↓get_put', Nat.reduceEqDiff, Nat.reduceLT, ↓reduceIte, Int.reduceToNat, Nat.reducePow, Nat.min_eq_left, Nat.reduceAdd, Nat.reduceMul, Int.reduceAdd, Int.reduceSub, Int.reduceNeg, Int.reduceMul, Int.reduceEq, Int.reduceLT, Int.reduceLE, Nat.reduceSub, Int.reduceNatCast, Nat.reduceLeDiff, *]
      | (with_reducible (first | apply cd_split | apply gd_split)) <;> (intro hc; (try simp only [hcn] at hc); (try simp only [hc]); (try simp only [hcl] at hc); try omega))
    refine ⟨?_, trivial⟩
    rw [takeN_ok (by omega) (by omega) hb, show (1 : Int) + (w.toNat : Int) = ((w.toNat + 1 : Nat) : Int) by omega]; rfl
theorem num_ok {h : H} {n : Int} (hn : n ≤ 9223372036854775807) (hf : B.val h.floor ≤ B.val h.next) : FnOk Try.prog 88 [.i .i64 n] h fun y h' => y = sv (numB n.toNat) ∧ Stay nowhere h h' := by
  refine fn_go c88 (by intro hb; cases hb) (by simp) (by simp) fun Q hQ => ?_
  simp only [slotsF, Nat.reduceAdd]
  have hN : n.toNat ≤ 9223372036854775807 := by omega
  have h8 := digs_len8 hN
  repeat' (first
    | refine St.h ?_
    | simp (disch := first | omega | (simp only [lnv]; omega)) only [wlk, ↓get_put', Nat.reduceEqDiff, Nat.reduceLT, ↓reduceIte, Int.reduceToNat, Nat.reducePow, Nat.min_eq_left, Nat.reduceAdd, Nat.reduceMul, Int.reduceAdd, Int.reduceSub, Int.reduceNeg, Int.reduceMul, Int.reduceEq, Int.reduceLT, Int.reduceLE, Nat.reduceSub, Int.reduceNatCast, Nat.reduceLeDiff]
    | (with_reducible (first | apply cd_split | apply gd_split)) <;> (intro hc; (try simp only [hcn] at hc); (try simp only [hc]); (try simp only [hcl] at hc); try omega))
  refine AL.own (by simp) hf fun h1 s1 n1 o1 => ?_
  repeat' (first
    | refine St.h ?_
    | simp (disch := first | omega | (simp only [lnv]; omega)) only [wlk, ↓get_put', Nat.reduceEqDiff, Nat.reduceLT, ↓reduceIte, Int.reduceToNat, Nat.reducePow, Nat.min_eq_left, Nat.reduceAdd, Nat.reduceMul, Int.reduceAdd, Int.reduceSub, Int.reduceNeg, Int.reduceMul, Int.reduceEq, Int.reduceLT, Int.reduceLE, Nat.reduceSub, Int.reduceNatCast, Nat.reduceLeDiff, List.length_cons, List.length_nil]
    | (with_reducible (first | apply cd_split | apply gd_split)) <;> (intro hc; (try simp only [hcn] at hc); (try simp only [hc]); (try simp only [hcl] at hc); try omega))
  refine Ok.lp (fun m t g => ∃ (z : Int) (d : List UInt8) (xs : List V), m = z.toNat ∧ z.toNat ≤ 9223372036854775807 ∧ digs z.toNat ++ d = digs n.toNat ∧ get 0 t = .i .i64 z ∧ get 3 t = .p h.next 0 0 9 ∧ get 4 t = .i .i64 ((9 - d.length : Nat) : Int) ∧ Own g h.next xs ∧ xs.length = 9 ∧ xs.drop (9 - d.length) = d.map bv ∧ Stay nowhere h g) n.toNat ?_ ?_
  · simp (disch := first | omega | (simp only [lnv]; omega)) only [wlk, ↓get_put', Nat.reduceEqDiff, Nat.reduceLT, ↓reduceIte, Int.reduceToNat, Nat.reducePow, Nat.min_eq_left, Nat.reduceAdd, Nat.reduceMul, Int.reduceAdd, Int.reduceSub, Int.reduceNeg, Int.reduceMul, Int.reduceEq, Int.reduceLT, Int.reduceLE, Nat.reduceSub, Int.reduceNatCast, Nat.reduceLeDiff]
    refine ⟨n, [], _, rfl, hN, by simp, rfl, trivial, rfl, o1, rfl, rfl, s1⟩
  rintro I hI m t g ⟨z, d, xs, rfl, hz, hD, f0, f3, f4, o, hx, hxd, st⟩
  have hdl : (digs z.toNat).length + d.length ≤ 8 := by rw [← List.length_append, hD]; exact h8
  have ea2 : (((9 - d.length : Nat) : Int) - 1) = ((8 - d.length : Nat) : Int) := by omega
  have ew : (9 : Int) - ((9 - d.length : Nat) : Int) = (d.length : Int) := by omega
  repeat' (first
    | refine St.h ?_
    | simp (disch := first | omega | (simp only [lnv]; omega)) only [wlk, ↓get_put', Nat.reduceEqDiff, Nat.reduceLT, ↓reduceIte, Int.reduceToNat, Nat.reducePow, Nat.min_eq_left, Nat.reduceAdd, Nat.reduceMul, Int.reduceAdd, Int.reduceSub, Int.reduceNeg, Int.reduceMul, Int.reduceEq, Int.reduceLT, Int.reduceLE, Nat.reduceSub, Int.reduceNatCast, Nat.reduceLeDiff, f0, f3, f4, hQ, ea2, ew, wrap_u8m]
    | (with_reducible (first | apply cd_split | apply gd_split)) <;> (intro hc; (try simp only [hcn] at hc); (try simp only [hc]); (try simp only [hcl] at hc); try omega))
  · obtain ⟨c, rfl⟩ := Int.eq_ofNat_of_zero_le (by omega : 0 ≤ z)
    rw [Int.toNat_natCast] at hD hdl hz
    have hc0 : c ≠ 0 := by omega
    have hdp := digs_pos hc0
    have hd1 : (digs c).length = (digs (c / 256)).length + 1 := by rw [hdp]; simp
    refine ST.own (y := bv (UInt8.ofNat (c % 256))) o (by rw [← bv_ofNat]; simp; rfl) rfl (by omega) (by omega) fun g' o' s' => ?_
    repeat' (first
      | refine St.h ?_
      | simp (disch := first | omega | (simp only [lnv]; omega)) only [wlk, ↓get_put', Nat.reduceEqDiff, Nat.reduceLT, ↓reduceIte, Int.reduceToNat, Nat.reducePow, Nat.min_eq_left, Nat.reduceAdd, Nat.reduceMul, Int.reduceAdd, Int.reduceSub, Int.reduceNeg, Int.reduceMul, Int.reduceEq, Int.reduceLT, Int.reduceLE, Nat.reduceSub, Int.reduceNatCast, Nat.reduceLeDiff, f0, f3, f4, ea2]
      | (with_reducible (first | apply cd_split | apply gd_split)) <;> (intro hc; (try simp only [hcn] at hc); (try simp only [hc]); (try simp only [hcl] at hc); try omega))
    have hdrop : (xs.set (8 - d.length) (bv (UInt8.ofNat (c % 256)))).drop (9 - (UInt8.ofNat (c % 256) :: d).length) = (UInt8.ofNat (c % 256) :: d).map bv := by
      rw [show 9 - (UInt8.ofNat (c % 256) :: d).length = 8 - d.length by simp only [List.length_cons]; omega, drop_set1 _ _ _ (by omega), show 8 - d.length + 1 = 9 - d.length by omega, hxd]; rfl
    refine lp_next hI (c / 256) (by omega) ⟨((c / 256 : Nat) : Int), UInt8.ofNat (c % 256) :: d, _, by rw [Int.toNat_natCast], by rw [Int.toNat_natCast]; omega, ?_, ?_, ?_, ?_, o', by rw [List.length_set]; exact hx, hdrop, st.past' s' fun i hi => by rw [hi]; exact Nat.le_refl _⟩
    · rw [Int.toNat_natCast, ← hD, hdp]; simp
    · simp (disch := first | omega | (simp only [lnv]; omega)) only [wlk, ↓get_put', Nat.reduceEqDiff, Nat.reduceLT, ↓reduceIte, Int.reduceToNat, Nat.reducePow, Nat.min_eq_left, Nat.reduceAdd, Nat.reduceMul, Int.reduceAdd, Int.reduceSub, Int.reduceNeg, Int.reduceMul, Int.reduceEq, Int.reduceLT, Int.reduceLE, Nat.reduceSub, Int.reduceNatCast, Nat.reduceLeDiff]; rfl
    · simp (disch := first | omega | (simp only [lnv]; omega)) only [wlk, ↓get_put', Nat.reduceEqDiff, Nat.reduceLT, ↓reduceIte, Int.reduceToNat, Nat.reducePow, Nat.min_eq_left, Nat.reduceAdd, Nat.reduceMul, Int.reduceAdd, Int.reduceSub, Int.reduceNeg, Int.reduceMul, Int.reduceEq, Int.reduceLT, Int.reduceLE, Nat.reduceSub, Int.reduceNatCast, Nat.reduceLeDiff, f3]
    · simp (disch := first | omega | (simp only [lnv]; omega)) only [wlk, ↓get_put', Nat.reduceEqDiff, Nat.reduceLT, ↓reduceIte, Int.reduceToNat, Nat.reducePow, Nat.min_eq_left, Nat.reduceAdd, Nat.reduceMul, Int.reduceAdd, Int.reduceSub, Int.reduceNeg, Int.reduceMul, Int.reduceEq, Int.reduceLT, Int.reduceLE, Nat.reduceSub, Int.reduceNatCast, Nat.reduceLeDiff]
      congr 1; simp only [List.length_cons]; omega
  · have hz0 : z.toNat = 0 := by omega
    rw [hz0, digs_zero, List.nil_append] at hD
    refine ST.own (y := bv (UInt8.ofNat d.length)) o (by rw [← bv_ofNat, Nat.mod_eq_of_lt (by omega)]; rfl) rfl (by omega) (by omega) fun g' o' s' => ?_
    have hlen : (xs.set (8 - d.length) (bv (UInt8.ofNat d.length))).length = 9 := by rw [List.length_set]; exact hx
    have hdrop : (xs.set (8 - d.length) (bv (UInt8.ofNat d.length))).drop (8 - d.length) = (UInt8.ofNat d.length :: d).map bv := by
      rw [drop_set1 _ _ _ (by omega), show 8 - d.length + 1 = 9 - d.length by omega, hxd]; rfl
    have hL := o'.back (a := 8 - d.length) (fin := 9) (by omega) (by omega) (some (9 - (8 - d.length)))
    rw [hdrop, hlen] at hL
    repeat' (first
      | refine St.h ?_
      | simp (disch := first | omega | (simp only [lnv]; omega)) only [wlk, ↓get_put', Nat.reduceEqDiff, Nat.reduceLT, ↓reduceIte, Int.reduceToNat, Nat.reducePow, Nat.min_eq_left, Nat.reduceAdd, Nat.reduceMul, Int.reduceAdd, Int.reduceSub, Int.reduceNeg, Int.reduceMul, Int.reduceEq, Int.reduceLT, Int.reduceLE, Nat.reduceSub, Int.reduceNatCast, Nat.reduceLeDiff, f0, f3, f4, hL.bs (by simp)]
      | (with_reducible (first | apply cd_split | apply gd_split)) <;> (intro hc; (try simp only [hcn] at hc); (try simp only [hc]); (try simp only [hcl] at hc); try omega))
    subst hQ
    exact ⟨by unfold numB; rw [← hD], st.past' s' fun i hi => by rw [hi]; exact Nat.le_refl _⟩
theorem rnum_ok {h : H} {n : Int} (hn : n ≤ 9223372036854775807) (hf : B.val h.floor ≤ B.val h.next) : FnOk Try.prog 69 [.i .i64 n] h fun y h' => y = sv (numB n.toNat) ∧ Stay nowhere h h' := by
  refine fn_go c69 (by intro hb; cases hb) (by simp) (by simp) fun Q hQ => ?_
  simp only [slotsF, Nat.reduceAdd]
  have hN : n.toNat ≤ 9223372036854775807 := by omega
  have h8 := digs_len8 hN
  repeat' (first
    | refine St.h ?_
    | simp (disch := first | omega | (simp only [lnv]; omega)) only [wlk, ↓get_put', Nat.reduceEqDiff, Nat.reduceLT, ↓reduceIte, Int.reduceToNat, Nat.reducePow, Nat.min_eq_left, Nat.reduceAdd, Nat.reduceMul, Int.reduceAdd, Int.reduceSub, Int.reduceNeg, Int.reduceMul, Int.reduceEq, Int.reduceLT, Int.reduceLE, Nat.reduceSub, Int.reduceNatCast, Nat.reduceLeDiff]
    | (with_reducible (first | apply cd_split | apply gd_split)) <;> (intro hc; (try simp only [hcn] at hc); (try simp only [hc]); (try simp only [hcl] at hc); try omega))
  refine Ok.lp (fun m t g => ∃ (c : Nat) (d : List UInt8), m = c ∧ c ≤ 9223372036854775807 ∧ digs c ++ d = digs n.toNat ∧ get 3 t = sv d ∧ get 4 t = .i .i64 (c : Int) ∧ Stay nowhere h g) n.toNat ?_ ?_
  · simp (disch := first | omega | (simp only [lnv]; omega)) only [wlk, ↓get_put', Nat.reduceEqDiff, Nat.reduceLT, ↓reduceIte, Int.reduceToNat, Nat.reducePow, Nat.min_eq_left, Nat.reduceAdd, Nat.reduceMul, Int.reduceAdd, Int.reduceSub, Int.reduceNeg, Int.reduceMul, Int.reduceEq, Int.reduceLT, Int.reduceLE, Nat.reduceSub, Int.reduceNatCast, Nat.reduceLeDiff]
    exact ⟨n.toNat, [], rfl, hN, by simp, rfl, by congr 1; omega, Stay.refl _ _⟩
  rintro I hI m t g ⟨c, d, rfl, hc1, hD, f3, f4, st⟩
  have hdl : (digs m).length + d.length ≤ 8 := by rw [← List.length_append, hD]; exact h8
  have hfg := st.fl hf
  repeat' (first
    | refine St.h ?_
    | simp (disch := first | omega | (simp only [lnv]; omega)) only [wlk, ↓get_put', Nat.reduceEqDiff, Nat.reduceLT, ↓reduceIte, Int.reduceToNat, Nat.reducePow, Nat.min_eq_left, Nat.reduceAdd, Nat.reduceMul, Int.reduceAdd, Int.reduceSub, Int.reduceNeg, Int.reduceMul, Int.reduceEq, Int.reduceLT, Int.reduceLE, Nat.reduceSub, Int.reduceNatCast, Nat.reduceLeDiff, f3, f4, wrap_u8m]
    | (with_reducible (first | apply cd_split | apply gd_split)) <;> (intro hc; (try simp only [hcn] at hc); (try simp only [hc]); (try simp only [hcl] at hc); try omega))
  · refine AL.str (bs := [UInt8.ofNat (m % 256)]) (by rw [bv_i (by omega) (by omega)]; rfl) (by simp) rfl rfl (by simp) hfg fun h' u s1 => ?_
    repeat' (first
      | refine St.h ?_
      | simp (disch := first | omega | (simp only [lnv]; omega)) only [wlk, ↓get_put', Nat.reduceEqDiff, Nat.reduceLT, ↓reduceIte, Int.reduceToNat, Nat.reducePow, Nat.min_eq_left, Nat.reduceAdd, Nat.reduceMul, Int.reduceAdd, Int.reduceSub, Int.reduceNeg, Int.reduceMul, Int.reduceEq, Int.reduceLT, Int.reduceLE, Nat.reduceSub, Int.reduceNatCast, Nat.reduceLeDiff, f3, f4]
      | (with_reducible (first | apply cd_split | apply gd_split)) <;> (intro hc; (try simp only [hcn] at hc); (try simp only [hc]); (try simp only [hcl] at hc); try omega))
    have hp := digs_pos (n := m) (by omega)
    refine lp_next hI (m / 256) (by omega) ⟨m / 256, [UInt8.ofNat (m % 256)] ++ d, rfl, by omega, by rw [← hD, hp]; simp, ?_, ?_, st.trans s1⟩
    · simp (disch := first | omega | (simp only [lnv]; omega)) only [wlk, ↓get_put', Nat.reduceEqDiff, Nat.reduceLT, ↓reduceIte, Int.reduceToNat, Nat.reducePow, Nat.min_eq_left, Nat.reduceAdd, Nat.reduceMul, Int.reduceAdd, Int.reduceSub, Int.reduceNeg, Int.reduceMul, Int.reduceEq, Int.reduceLT, Int.reduceLE, Nat.reduceSub, Int.reduceNatCast, Nat.reduceLeDiff]
    · simp (disch := first | omega | (simp only [lnv]; omega)) only [wlk, ↓get_put', Nat.reduceEqDiff, Nat.reduceLT, ↓reduceIte, Int.reduceToNat, Nat.reducePow, Nat.min_eq_left, Nat.reduceAdd, Nat.reduceMul, Int.reduceAdd, Int.reduceSub, Int.reduceNeg, Int.reduceMul, Int.reduceEq, Int.reduceLT, Int.reduceLE, Nat.reduceSub, Int.reduceNatCast, Nat.reduceLeDiff]; rfl
  · have hm : m = 0 := by omega
    subst hm
    rw [digs_zero, List.nil_append] at hD
    refine AL.str (bs := [UInt8.ofNat d.length]) (by rw [bv_i (by omega) (by omega)]; rfl) (by simp) rfl rfl (by simp) hfg fun h' u s1 => ?_
    repeat' (first
      | refine St.h ?_
      | simp (disch := first | omega | (simp only [lnv]; omega)) only [wlk, ↓get_put', Nat.reduceEqDiff, Nat.reduceLT, ↓reduceIte, Int.reduceToNat, Nat.reducePow, Nat.min_eq_left, Nat.reduceAdd, Nat.reduceMul, Int.reduceAdd, Int.reduceSub, Int.reduceNeg, Int.reduceMul, Int.reduceEq, Int.reduceLT, Int.reduceLE, Nat.reduceSub, Int.reduceNatCast, Nat.reduceLeDiff, f3, f4]
      | (with_reducible (first | apply cd_split | apply gd_split)) <;> (intro hc; (try simp only [hcn] at hc); (try simp only [hc]); (try simp only [hcl] at hc); try omega))
    subst hQ
    exact ⟨by unfold numB; rw [← hD]; rfl, st.trans s1⟩
theorem rtakeNum_ok {h : H} {l : List UInt8} (hl : l.length ≤ 1000000) : FnOk Try.prog 74 [sv l] h fun y h' => y = tri (takeN l) ∧ h' = h := by
  refine fn_go c74 (by intro hb; cases hb) (by simp) (by simp) fun Q hQ => ?_
  simp only [slotsF, Nat.reduceAdd]
  cases l with
  | nil =>
    repeat' (first
      | refine St.h ?_
      | simp (disch := first | omega | (simp only [lnv]; omega)) only [wlk, ↓get_put', Nat.reduceEqDiff, Nat.reduceLT, ↓reduceIte, Int.reduceToNat, Nat.reducePow, Nat.min_eq_left, Nat.reduceAdd, Nat.reduceMul, Int.reduceAdd, Int.reduceSub, Int.reduceNeg, Int.reduceMul, Int.reduceEq, Int.reduceLT, Int.reduceLE, Nat.reduceSub, Int.reduceNatCast, Nat.reduceLeDiff, hQ, List.length_nil]
      | (with_reducible (first | apply cd_split | apply gd_split)) <;> (intro hc; (try simp only [hcn] at hc); (try simp only [hc]); (try simp only [hcl] at hc); try omega))
    exact ⟨rfl, trivial⟩
  | cons w r =>
  have hlen : (w :: r).length = r.length + 1 := rfl
  have hw := w.toNat_lt
  have hgd : (w :: r).getD 0 0 = w := rfl
  have hgd1 : (w :: r).getD 1 0 = r.getD 0 0 := rfl
  have hc1 := (r.getD 0 0).toNat_lt
  have key : w.toNat ≤ 8 → w.toNat ≤ r.length → ¬ badD (r.take w.toNat) → ∀ t, get 0 t = sv (w :: r) → get 5 t = .i .i64 (w.toNat : Int) → get 6 t = .i .i64 0 → get 7 t = .i .i64 1 → Ok Try.prog 52 (.loop l74_0) t h fun x t' h' => x = .exit 0 ∧ h' = h ∧ get 5 t' = .i .i64 (w.toNat : Int) ∧ get 6 t' = .i .i64 ((pk (r.take w.toNat) : Nat) : Int) := by
    intro hw8 hwr hb t g0 g5 g6 g7
    have hv : pk (r.take w.toNat) ≤ 9223372036854775807 := by
      rcases Nat.lt_or_ge (pk (r.take w.toNat)) 9223372036854775808 with h1 | h1
      · omega
      · exact absurd (.inr h1) hb
    have mono : ∀ i, i ≤ w.toNat → pk (r.take i) ≤ pk (r.take w.toNat) := fun i hi => by
      have e : r.take w.toNat = r.take i ++ (r.take w.toNat).drop i := by
        conv => lhs; rw [← List.take_append_drop i (r.take w.toNat)]
        rw [List.take_take, Nat.min_eq_left hi]
      rw [e, pk_append]
      have : 1 ≤ 256 ^ ((r.take w.toNat).drop i).length := Nat.pow_pos (by omega)
      have := Nat.mul_le_mul_left (pk (r.take i)) this
      omega
    refine Ok.lp (fun m t g => ∃ i : Nat, i ≤ w.toNat ∧ m = w.toNat - i ∧ g = h ∧ get 0 t = sv (w :: r) ∧ get 5 t = .i .i64 (w.toNat : Int) ∧ get 6 t = .i .i64 ((pk (r.take i) : Nat) : Int) ∧ get 7 t = .i .i64 ((i : Int) + 1)) w.toNat ?_ ?_
    · exact ⟨0, by omega, rfl, rfl, g0, g5, g6, g7⟩
    rintro I hI m t g ⟨i, hi, rfl, rfl, f0, f5, f6, f7⟩
    have hii : (w :: r).getD ((i : Int) + 1).toNat 0 = r.getD i 0 := by rw [show ((i : Int) + 1).toNat = i + 1 by omega]; rfl
    have hci := (r.getD i 0).toNat_lt
    have ep : i < w.toNat → ((pk (r.take i) : Nat) : Int) * 256 + ((r.getD i 0).toNat : Int) = ((pk (r.take (i + 1)) : Nat) : Int) := fun h => by rw [pk_take (by omega)]; omega
    have hp : i < w.toNat → pk (r.take i) * 256 + (r.getD i 0).toNat ≤ 9223372036854775807 := fun h => by
      have := mono (i + 1) (by omega)
      rw [pk_take (by omega)] at this; omega
    by_cases hiw : i < w.toNat
    · have hp := hp hiw
      have ep := ep hiw
      clear hv mono
      repeat' (first
        | refine St.h ?_
        | simp (disch := first | omega | (simp only [lnv]; omega)) only [wlk, ↓get_put', Nat.reduceEqDiff, Nat.reduceLT, ↓reduceIte, Int.reduceToNat, Nat.reducePow, Nat.min_eq_left, Nat.reduceAdd, Nat.reduceMul, Int.reduceAdd, Int.reduceSub, Int.reduceNeg, Int.reduceMul, Int.reduceEq, Int.reduceLT, Int.reduceLE, Nat.reduceSub, Int.reduceNatCast, Nat.reduceLeDiff, f0, f5, f6, f7, hii]
        | (with_reducible (first | apply cd_split | apply gd_split)) <;> (intro hc; (try simp only [hcn] at hc); (try simp only [hc]); (try simp only [hcl] at hc); try omega))
      refine lp_next hI (w.toNat - (i + 1)) (by omega) ⟨i + 1, by omega, rfl, rfl, ?_, ?_, ?_, ?_⟩
      · simp (disch := first | omega | (simp only [lnv]; omega)) only [wlk, ↓get_put', Nat.reduceEqDiff, Nat.reduceLT, ↓reduceIte, Int.reduceToNat, Nat.reducePow, Nat.min_eq_left, Nat.reduceAdd, Nat.reduceMul, Int.reduceAdd, Int.reduceSub, Int.reduceNeg, Int.reduceMul, Int.reduceEq, Int.reduceLT, Int.reduceLE, Nat.reduceSub, Int.reduceNatCast, Nat.reduceLeDiff, f0]
      · simp (disch := first | omega | (simp only [lnv]; omega)) only [wlk, ↓get_put', Nat.reduceEqDiff, Nat.reduceLT, ↓reduceIte, Int.reduceToNat, Nat.reducePow, Nat.min_eq_left, Nat.reduceAdd, Nat.reduceMul, Int.reduceAdd, Int.reduceSub, Int.reduceNeg, Int.reduceMul, Int.reduceEq, Int.reduceLT, Int.reduceLE, Nat.reduceSub, Int.reduceNatCast, Nat.reduceLeDiff, f5]
      · simp (disch := first | omega | (simp only [lnv]; omega)) only [wlk, ↓get_put', Nat.reduceEqDiff, Nat.reduceLT, ↓reduceIte, Int.reduceToNat, Nat.reducePow, Nat.min_eq_left, Nat.reduceAdd, Nat.reduceMul, Int.reduceAdd, Int.reduceSub, Int.reduceNeg, Int.reduceMul, Int.reduceEq, Int.reduceLT, Int.reduceLE, Nat.reduceSub, Int.reduceNatCast, Nat.reduceLeDiff, ep]
      · simp (disch := first | omega | (simp only [lnv]; omega)) only [wlk, ↓get_put', Nat.reduceEqDiff, Nat.reduceLT, ↓reduceIte, Int.reduceToNat, Nat.reducePow, Nat.min_eq_left, Nat.reduceAdd, Nat.reduceMul, Int.reduceAdd, Int.reduceSub, Int.reduceNeg, Int.reduceMul, Int.reduceEq, Int.reduceLT, Int.reduceLE, Nat.reduceSub, Int.reduceNatCast, Nat.reduceLeDiff]; try rfl
    · obtain rfl : i = w.toNat := by omega
      repeat' (first
        | refine St.h ?_
        | simp (disch := first | omega | (simp only [lnv]; omega)) only [wlk, ↓get_put', Nat.reduceEqDiff, Nat.reduceLT, ↓reduceIte, Int.reduceToNat, Nat.reducePow, Nat.min_eq_left, Nat.reduceAdd, Nat.reduceMul, Int.reduceAdd, Int.reduceSub, Int.reduceNeg, Int.reduceMul, Int.reduceEq, Int.reduceLT, Int.reduceLE, Nat.reduceSub, Int.reduceNatCast, Nat.reduceLeDiff, f0, f5, f6, f7]
        | (with_reducible (first | apply cd_split | apply gd_split)) <;> (intro hc; (try simp only [hcn] at hc); (try simp only [hc]); (try simp only [hcl] at hc); try omega))
  have wrong : w.toNat ≤ 8 → w.toNat ≤ r.length → badD (r.take w.toNat) → tri (0, 0, 10) = tri (takeN (w :: r)) := fun h1 h2 hb => by rw [takeN_bad (by omega) (by omega) hb]
  have right : w.toNat ≤ 8 → w.toNat ≤ r.length → ¬ badD (r.take w.toNat) → .tu [.i .i64 ((pk (r.take w.toNat) : Nat) : Int), .i .i64 ((w.toNat : Int) + 1), .i .i64 0] = tri (takeN (w :: r)) := fun h1 h2 hb => by rw [takeN_ok (by omega) (by omega) hb]; rfl
  have hbad := fun h1 h2 => badD_iff (r := r) (k := w.toNat) h1 h2
  repeat' (first
    | refine St.h ?_
    | simp (disch := first | omega | (simp only [lnv]; omega)) only [wlk, ↓get_put', Nat.reduceEqDiff, Nat.reduceLT, ↓reduceIte, Int.reduceToNat, Nat.reducePow, Nat.min_eq_left, Nat.reduceAdd, Nat.reduceMul, Int.reduceAdd, Int.reduceSub, Int.reduceNeg, Int.reduceMul, Int.reduceEq, Int.reduceLT, Int.reduceLE, Nat.reduceSub, Int.reduceNatCast, Nat.reduceLeDiff, hgd, hgd1]
    | (with_reducible (first | apply cd_split | apply gd_split)) <;> (intro hc; (try simp only [hcn] at hc); (try simp only [hc]); (try simp only [hcl] at hc); try omega))
  all_goals subst hQ
  · exact ⟨by rw [takeN_big (by omega)]; rfl, rfl⟩
  · exact ⟨by rw [takeN_short (by omega) (by omega)]; rfl, rfl⟩
  · exact ⟨wrong (by omega) (by omega) ((hbad (by omega) (by omega)).2 (.inl ⟨by omega, by omega⟩)), rfl⟩
  · exact ⟨wrong (by omega) (by omega) ((hbad (by omega) (by omega)).2 (.inr ⟨by omega, by omega⟩)), rfl⟩
  all_goals
    have nb : ¬ badD (r.take w.toNat) := fun hb => by
      have := (hbad (by omega) (by omega)).1 hb
      omega
    refine (key (by omega) (by omega) nb _ (by simp (disch := first | omega | (simp only [lnv]; omega)) only [wlk, ↓get_put', Nat.reduceEqDiff, Nat.reduceLT, ↓reduceIte, Int.reduceToNat, Nat.reducePow, Nat.min_eq_left, Nat.reduceAdd, Nat.reduceMul, Int.reduceAdd, Int.reduceSub, Int.reduceNeg, Int.reduceMul, Int.reduceEq, Int.reduceLT, Int.reduceLE, Nat.reduceSub, Int.reduceNatCast, Nat.reduceLeDiff]) (by simp (disch := first | omega | (simp only [lnv]; omega)) only [wlk, ↓get_put', Nat.reduceEqDiff, Nat.reduceLT, ↓reduceIte, Int.reduceToNat, Nat.reducePow, Nat.min_eq_left, Nat.reduceAdd, Nat.reduceMul, Int.reduceAdd, Int.reduceSub, Int.reduceNeg, Int.reduceMul, Int.reduceEq, Int.reduceLT, Int.reduceLE, Nat.reduceSub, Int.reduceNatCast, Nat.reduceLeDiff]) (by simp (disch := first | omega | (simp only [lnv]; omega)) only [wlk, ↓get_put', Nat.reduceEqDiff, Nat.reduceLT, ↓reduceIte, Int.reduceToNat, Nat.reducePow, Nat.min_eq_left, Nat.reduceAdd, Nat.reduceMul, Int.reduceAdd, Int.reduceSub, Int.reduceNeg, Int.reduceMul, Int.reduceEq, Int.reduceLT, Int.reduceLE, Nat.reduceSub, Int.reduceNatCast, Nat.reduceLeDiff]) (by simp (disch := first | omega | (simp only [lnv]; omega)) only [wlk, ↓get_put', Nat.reduceEqDiff, Nat.reduceLT, ↓reduceIte, Int.reduceToNat, Nat.reducePow, Nat.min_eq_left, Nat.reduceAdd, Nat.reduceMul, Int.reduceAdd, Int.reduceSub, Int.reduceNeg, Int.reduceMul, Int.reduceEq, Int.reduceLT, Int.reduceLE, Nat.reduceSub, Int.reduceNatCast, Nat.reduceLeDiff])).mono ?_
    rintro x t' h' ⟨rfl, rfl, g5, g6⟩
    repeat' (first
      | refine St.h ?_
      | simp (disch := first | omega | (simp only [lnv]; omega)) only [wlk, ↓get_put', Nat.reduceEqDiff, Nat.reduceLT, ↓reduceIte, Int.reduceToNat, Nat.reducePow, Nat.min_eq_left, Nat.reduceAdd, Nat.reduceMul, Int.reduceAdd, Int.reduceSub, Int.reduceNeg, Int.reduceMul, Int.reduceEq, Int.reduceLT, Int.reduceLE, Nat.reduceSub, Int.reduceNatCast, Nat.reduceLeDiff, g5, g6]
      | (with_reducible (first | apply cd_split | apply gd_split)) <;> (intro hc; (try simp only [hcn] at hc); (try simp only [hc]); (try simp only [hcl] at hc); try omega))
    exact ⟨right (by omega) (by omega) nb, by trivial⟩
end Go.Proofs.Ytjlhfoadabkahaa

set_option maxRecDepth 100000
set_option maxHeartbeats 8000000
set_option linter.all false
namespace Go.Proofs.Ytjlhfoadabkahaa
open Go Go.Ev
theorem text_ok {h : H} {l : List UInt8} (hl : l.length ≤ 1000000) (hf : B.val h.floor ≤ B.val h.next) : FnOk Try.prog 91 [sv l] h fun y h' => y = sv (textB l) ∧ Stay nowhere h h' := by
  refine fn_go c91 (by intro hb; cases hb) (by simp) (by simp) fun Q hQ => ?_
  simp only [slotsF, Nat.reduceAdd]
  have h9 := numB_len (n := l.length) (by omega)
  repeat' (first
    | refine St.h ?_
    | simp (disch := first | omega | (simp only [lnv]; omega)) only [wlk, ↓get_put', Nat.reduceEqDiff, Nat.reduceLT, ↓reduceIte, Int.reduceToNat, Nat.reducePow, Nat.min_eq_left, Nat.reduceAdd, Nat.reduceMul, Int.reduceAdd, Int.reduceSub, Int.reduceNeg, Int.reduceMul, Int.reduceEq, Int.reduceLT, Int.reduceLE, Nat.reduceSub, Int.reduceNatCast, Nat.reduceLeDiff]
    | (with_reducible (first | apply cd_split | apply gd_split)) <;> (intro hc; (try simp only [hcn] at hc); (try simp only [hc]); (try simp only [hcl] at hc); try omega))
  refine CL.stay (num_ok (by omega) hf) fun h1 s1 => ?_
  repeat' (first
    | refine St.h ?_
    | simp (disch := first | omega | (simp only [lnv]; omega)) only [wlk, ↓get_put', Nat.reduceEqDiff, Nat.reduceLT, ↓reduceIte, Int.reduceToNat, Nat.reducePow, Nat.min_eq_left, Nat.reduceAdd, Nat.reduceMul, Int.reduceAdd, Int.reduceSub, Int.reduceNeg, Int.reduceMul, Int.reduceEq, Int.reduceLT, Int.reduceLE, Nat.reduceSub, Int.reduceNatCast, Nat.reduceLeDiff]
    | (with_reducible (first | apply cd_split | apply gd_split)) <;> (intro hc; (try simp only [hcn] at hc); (try simp only [hc]); (try simp only [hcl] at hc); try omega))
  subst hQ
  exact ⟨rfl, s1⟩
theorem takeText_ok {h : H} {l : List UInt8} (hl : l.length ≤ 1000000) : FnOk Try.prog 104 [sv l] h fun y h' => y = triT (takeT l) ∧ h' = h := by
  refine fn_go c104 (by intro hb; cases hb) (by simp) (by simp) fun Q hQ => ?_
  simp only [slotsF, Nat.reduceAdd]
  repeat' (first
    | refine St.h ?_
    | simp (disch := first | omega | (simp only [lnv]; omega)) only [wlk, ↓get_put', Nat.reduceEqDiff, Nat.reduceLT, ↓reduceIte, Int.reduceToNat, Nat.reducePow, Nat.min_eq_left, Nat.reduceAdd, Nat.reduceMul, Int.reduceAdd, Int.reduceSub, Int.reduceNeg, Int.reduceMul, Int.reduceEq, Int.reduceLT, Int.reduceLE, Nat.reduceSub, Int.reduceNatCast, Nat.reduceLeDiff]
    | (with_reducible (first | apply cd_split | apply gd_split)) <;> (intro hc; (try simp only [hcn] at hc); (try simp only [hc]); (try simp only [hcl] at hc); try omega))
  refine CL.pure (takeNum_ok hl) ?_
  rcases takeN_range l with (hc | hc) | ⟨n, k, hc, h1, h2, h3, h4⟩
  · have e : takeT l = ([], 0, 10) := by unfold takeT; rw [hc]; rfl
    rw [hc]; unfold tri
    repeat' (first
      | refine St.h ?_
      | simp (disch := first | omega | (simp only [lnv]; omega)) only [wlk, ↓get_put', Nat.reduceEqDiff, Nat.reduceLT, ↓reduceIte, Int.reduceToNat, Nat.reducePow, Nat.min_eq_left, Nat.reduceAdd, Nat.reduceMul, Int.reduceAdd, Int.reduceSub, Int.reduceNeg, Int.reduceMul, Int.reduceEq, Int.reduceLT, Int.reduceLE, Nat.reduceSub, Int.reduceNatCast, Nat.reduceLeDiff]
      | (with_reducible (first | apply cd_split | apply gd_split)) <;> (intro hc; (try simp only [hcn] at hc); (try simp only [hc]); (try simp only [hcl] at hc); try omega))
    subst hQ
    exact ⟨by rw [e]; rfl, rfl⟩
  · have e : takeT l = ([], 0, 12) := by unfold takeT; rw [hc]; rfl
    rw [hc]; unfold tri
    repeat' (first
      | refine St.h ?_
      | simp (disch := first | omega | (simp only [lnv]; omega)) only [wlk, ↓get_put', Nat.reduceEqDiff, Nat.reduceLT, ↓reduceIte, Int.reduceToNat, Nat.reducePow, Nat.min_eq_left, Nat.reduceAdd, Nat.reduceMul, Int.reduceAdd, Int.reduceSub, Int.reduceNeg, Int.reduceMul, Int.reduceEq, Int.reduceLT, Int.reduceLE, Nat.reduceSub, Int.reduceNatCast, Nat.reduceLeDiff]
      | (with_reducible (first | apply cd_split | apply gd_split)) <;> (intro hc; (try simp only [hcn] at hc); (try simp only [hc]); (try simp only [hcl] at hc); try omega))
    subst hQ
    exact ⟨by rw [e]; rfl, rfl⟩
  have e : takeT l = if ((l.drop k).length : Int) < (n : Int) then ([], 0, 12) else ((l.drop k).take n, (k : Int) + n, 0) := by
    unfold takeT; rw [hc]; simp only [if_true, Int.toNat_natCast]
  rw [hc]; unfold tri
  have hd : (l.drop k).length = l.length - k := List.length_drop
  repeat' (first
    | refine St.h ?_
    | simp (disch := first | omega | (simp only [lnv]; omega)) only [wlk, ↓get_put', Nat.reduceEqDiff, Nat.reduceLT, ↓reduceIte, Int.reduceToNat, Nat.reducePow, Nat.min_eq_left, Nat.reduceAdd, Nat.reduceMul, Int.reduceAdd, Int.reduceSub, Int.reduceNeg, Int.reduceMul, Int.reduceEq, Int.reduceLT, Int.reduceLE, Nat.reduceSub, Int.reduceNatCast, Nat.reduceLeDiff, Int.toNat_natCast]
    | (with_reducible (first | apply cd_split | apply gd_split)) <;> (intro hc; (try simp only [hcn] at hc); (try simp only [hc]); (try simp only [hcl] at hc); try omega))
  · rw [if_pos (by omega)] at e
    subst hQ
    exact ⟨by rw [e]; rfl, rfl⟩
  · rw [if_neg (by omega)] at e
    subst hQ
    exact ⟨by rw [e]; rfl, rfl⟩
theorem takeT_range (l : List UInt8) : (takeT l = ([], 0, 10) ∨ takeT l = ([], 0, 12)) ∨ ∃ (v : List UInt8) (k : Nat), takeT l = (v, (k : Int), 0) ∧ 1 ≤ k ∧ k ≤ l.length ∧ v.length ≤ k := by
  rcases takeN_range l with (hc | hc) | ⟨n, k, hc, h1, h2, h3, h4⟩
  · exact .inl (.inl (by unfold takeT; rw [hc]; rfl))
  · exact .inl (.inr (by unfold takeT; rw [hc]; rfl))
  have e : takeT l = if ((l.drop k).length : Int) < (n : Int) then ([], 0, 12) else ((l.drop k).take n, (k : Int) + n, 0) := by
    unfold takeT; rw [hc]; simp only [if_true, Int.toNat_natCast]
  have hd : (l.drop k).length = l.length - k := List.length_drop
  by_cases hn : ((l.drop k).length : Int) < (n : Int)
  · rw [if_pos hn] at e; exact .inl (.inr e)
  · rw [if_neg hn] at e
    exact .inr ⟨_, k + n, by rw [e]; rfl, by omega, by omega, by rw [List.length_take]; omega⟩
end Go.Proofs.Ytjlhfoadabkahaa

set_option linter.all false
namespace Go.Ev
open Go
section
variable {h : H}
/-- all cells of a block at once -/
theorem ST.ownAll {P : Program} {N : Nx} {id : B} {xs vs : List V} {x : V} {size fin : Nat} (o : Own h id xs) (hc : cells x = vs) (hs : vs.length = size) (h1 : allOne vs = true) (hj : vs.length ≤ fin) (hfit : vs.length < 2 ^ 37)
    (k : ∀ h', Own h' id vs → Stay (fun i => i = id) h h' → N.go P (.tu []) h') : ST P size (.p id 0 0 fin) x h N := by
  obtain ⟨blk, a1, a2, a3, a4, a5, a6, a7⟩ := o
  obtain ⟨next, floor, heap⟩ := h
  obtain ⟨cur, min, sz, cs, bel, fr⟩ := blk
  simp only at a2 a3 a4 a7
  subst a2; subst a3; subst a4
  obtain ⟨tr, t1, t2, t3⟩ := setList_fine vs 0 cs (by omega)
  obtain ⟨hp, s1, s2, s3⟩ := setK_ok id (⟨0, 0, sz, tr, bel, 0⟩ : Blk) heap
  have e1 : B.geB floor id = true := by cases floor <;> first | rfl | (show Nat.ble _ _ = true; rw [Nat.ble_eq]; exact a5)
  have e2 : Nat.ble (Nat.add 0 vs.length) fin = true := by rw [Nat.ble_eq]; show 0 + vs.length ≤ fin; omega
  have e4 : frOk 0 0 = true := rfl
  have e5 : Nat.beq 0 0 = true := rfl
  have e6 : Nat.ble 0 0 = true := rfl
  have e7 : Nat.beq vs.length size = true := by rw [hs]; simp
  have a1' : heap.get id = some ⟨0, 0, sz, cs, bel, 0⟩ := a1
  refine hm_of (v := .tu []) (h' := ⟨next, floor, hp⟩) (fun q => ?_) (k _ ⟨_, s2, rfl, rfl, rfl, a5, a6, fun i z hz => by have := t2 i z hz; rwa [Nat.zero_add] at this⟩ ⟨rfl, Nat.le_refl _, fun i _ hi => s3 i hi⟩)
  show ifK (Nat.beq (cells x).length size) (fun _ => store ⟨next, floor, heap⟩ id 0 0 fin (cells x) fun h => q (.tu []) h) = _
  rw [hc, e7, ifK_true]
  simp only [store, hK_mk, a1', optK_some, blkK_mk, e5, e6, e1, e2, h1, e4, ifK_true]
  rw [t1, s1]
end
theorem ST.all {P : Program} {h : H} {N : Nx} {id : B} {xs vs : List V} {size fin : Nat} (o : Own h id xs) (hs : vs.length = size) (h1 : allOne vs = true) (hj : vs.length ≤ fin) (hfit : vs.length < 2 ^ 37)
    (k : ∀ h', Own h' id vs → Stay (fun i => i = id) h h' → N.go P (.tu []) h') : ST P size (.p id 0 0 fin) (.a vs) h N := ST.ownAll o rfl hs h1 hj hfit k
theorem Own.ra4 {h : H} {Q : V → H → Prop} {id : B} {a b c d : V} {us : List V} (o : Own h id [a, b, c, d]) : RA Q 4 (.p id 0 0 4) us h = Q (one (.a [a, b, c, d] :: us)) h := o.ra rfl (by omega) (by omega)
theorem re_fl (h : H) : B.val (reFloor h).floor ≤ B.val (reFloor h).next := by cases h; exact Nat.le_refl _
/-- a call in a region that draws -/
theorem CL.stayU {P : Program} {f : FuncId} {vs : List V} {h : H} {e : V} {m : Nat} {l : List CO} {t : F} {K : F → H → Prop} (a : FnOk P f vs (reFloor h) fun y h' => y = e ∧ Stay nowhere (reFloor h) h')
    (k : ∀ h', Stay nowhere h h' → DO P l (put m e t) h' K) : CL P f vs (reFloor h) (.u m l t h K) := ⟨_, a, fun v h' hq => by rw [hq.1, go_u]; exact k _ hq.2.unfloor⟩
/-- a row of structs of n cells each -/
def Ss {α : Type} (n : Nat) (c : α → List V) (h : H) (v : V) (L : List α) : Prop :=
  (v = .l0 ∧ L = []) ∨ ∃ id g off fin cap, v = .l id g off L.length fin cap ∧ off + L.length * n ≤ fin ∧ B.val id < B.val h.next ∧ Row h id g off (L.flatMap c)
section
variable {α : Type} [Inhabited α] {n : Nat} {c : α → List V}
theorem fm_len (hc : ∀ e, (c e).length = n) : ∀ (L : List α), (L.flatMap c).length = L.length * n
  | [] => by simp
  | a :: L => by rw [List.flatMap_cons, List.length_append, hc, fm_len hc L, List.length_cons, Nat.add_mul]; omega
theorem fm_at (hc : ∀ e, (c e).length = n) : ∀ {L : List α} {i : Nat}, i < L.length → ((L.flatMap c).drop (i * n)).take n = c (L.getD i default)
  | [], i, h => by simp at h
  | a :: L, 0, h => by
    rw [List.flatMap_cons, Nat.zero_mul, List.drop_zero, List.take_append_of_le_length (by rw [hc]; exact Nat.le_refl _), List.take_of_length_le (by rw [hc]; exact Nat.le_refl _)]; rfl
  | a :: L, i + 1, h => by
    have e : (i + 1) * n = (c a).length + i * n := by rw [hc, Nat.add_mul]; omega
    rw [List.flatMap_cons, e, ← List.drop_drop, List.drop_left, fm_at hc (by simpa using h)]
    simp [List.getD]
theorem fm_get (hc : ∀ e, (c e).length = n) {L : List α} {i d : Nat} (hi : i < L.length) (hd : d < n) : (L.flatMap c)[i * n + d]? = some ((c (L.getD i default)).getD d .u) := by
  have e : (((L.flatMap c).drop (i * n)).take n)[d]? = (c (L.getD i default))[d]? := by rw [fm_at hc hi]
  rw [List.getElem?_take, if_pos hd, List.getElem?_drop] at e
  rw [e]
  have : d < (c (L.getD i default)).length := by rw [hc]; exact hd
  have e3 : ∀ (x : List V), d < x.length → x[d]? = some (x.getD d .u) := fun x hx => by simp [List.getD, hx]
  exact e3 _ this
theorem fm_take (hc : ∀ e, (c e).length = n) : ∀ (L : List α) (k : Nat), (L.take k).flatMap c = (L.flatMap c).take (k * n)
  | [], k => by simp
  | a :: L, 0 => by simp
  | a :: L, k + 1 => by
    have e : (k + 1) * n = (c a).length + k * n := by rw [hc, Nat.add_mul]; omega
    have e2 : ((c a) ++ L.flatMap c).take ((c a).length + k * n) = c a ++ (L.flatMap c).take (k * n) := by
      rw [List.take_append, Nat.add_sub_cancel_left, List.take_of_length_le (Nat.le_add_right _ _)]
    rw [List.take_succ_cons, List.flatMap_cons, List.flatMap_cons, fm_take hc L k, e, e2]
theorem fm_drop (hc : ∀ e, (c e).length = n) : ∀ (L : List α) (k : Nat), (L.drop k).flatMap c = (L.flatMap c).drop (k * n)
  | [], k => by simp
  | a :: L, 0 => by simp
  | a :: L, k + 1 => by
    rw [List.drop_succ_cons, List.flatMap_cons, fm_drop hc L k, show (k + 1) * n = (c a).length + k * n by rw [hc, Nat.add_mul]; omega, ← List.drop_drop, List.drop_left]
variable {P : Program} {h h' g' : H} {N : Nx} {v : V} {L : List α} {i d : Nat}
theorem Ss.ln (a : Ss n c h v L) : H1 P gLen v g' N = N.go P (.i .i64 (L.length : Int)) g' := by
  rcases a with ⟨rfl, rfl⟩ | ⟨id, g, off, fin, cap, rfl, _⟩
  · exact gLen_l0
  · exact gLen_l
theorem Ss.ix (a : Ss n c h v L) (hi : i < L.length) : IX P n v i g' N = N.go P (.p (lid v) (lg v) (loff v + i * n) (lfin v)) g' := by
  rcases a with ⟨rfl, rfl⟩ | ⟨id, g, off, fin, cap, rfl, _⟩
  · simp at hi
  · exact ix_l hi
theorem Ss.ld (a : Ss n c h v L) (hc : ∀ e, (c e).length = n) (hi : i < L.length) (hd : d < n) : L1 P (lid v) (lg v) (loff v + i * n + d) (lfin v) h N = N.go P ((c (L.getD i default)).getD d .u) h := by
  rcases a with ⟨rfl, rfl⟩ | ⟨id, g, off, fin, cap, rfl, hf, hl, r⟩
  · simp at hi
  · refine hv_of fun k => ?_
    have := r.2 (i * n + d) _ (fm_get hc hi hd)
    rw [← Nat.add_assoc] at this
    have h1 : (i + 1) * n ≤ L.length * n := Nat.mul_le_mul_right n hi
    rw [Nat.add_mul] at h1
    exact load1_cell this (by show off + i * n + d < fin; omega) k
theorem Ss.ldA (a : Ss n c h v L) (hc : ∀ e, (c e).length = n) (hn : 1 ≤ n) (hi : i < L.length) : LN P (lid v) (lg v) (loff v + i * n) (lfin v) n h N = N.go P (.a (c (L.getD i default))) h := by
  rcases a with ⟨rfl, rfl⟩ | ⟨id, g, off, fin, cap, rfl, hf, hl, r⟩
  · simp at hi
  · refine hv_of fun k => ?_
    have h1 : (i + 1) * n ≤ L.length * n := Nat.mul_le_mul_right n hi
    rw [Nat.add_mul] at h1
    have hlen := hc (L.getD i default)
    refine loadN_row (vs := c (L.getD i default)) ⟨fun _ => r.1 ?_, fun j y hy => ?_⟩ hlen (by intro e; rw [e] at hlen; simp at hlen; omega) (by show off + i * n + n ≤ fin; omega) fun vs => k (.a vs)
    · intro e
      have h2 := fm_len hc L
      rw [e] at h2
      have h3 : L.length * n = 0 := h2.symm
      omega
    · have hj : j < n := by rw [← hlen]; exact (List.getElem?_eq_some_iff.1 hy).1
      have e := fm_get hc hi hj
      rw [List.getD, hy] at e
      have := r.2 (i * n + j) _ e
      rw [← Nat.add_assoc] at this
      exact this
theorem Ss.grow (a : Ss n c h v L) (s : Stay nowhere h h') : Ss n c h' v L := by
  rcases a with ⟨rfl, rfl⟩ | ⟨id, g, off, fin, cap, rfl, hf, hl, r⟩
  · exact .inl ⟨rfl, rfl⟩
  · exact .inr ⟨id, g, off, fin, cap, rfl, hf, Nat.lt_of_lt_of_le hl s.next, r.grow s hl⟩
theorem Ss.stay {p : B → Prop} (a : Ss n c h v L) (s : Stay p h h') (hp : ∀ id, isOf v id → ¬ p id) : Ss n c h' v L := by
  rcases a with ⟨rfl, rfl⟩ | ⟨id, g, off, fin, cap, rfl, hf, hl, r⟩
  · exact .inl ⟨rfl, rfl⟩
  · exact .inr ⟨id, g, off, fin, cap, rfl, hf, Nat.lt_of_lt_of_le hl s.next, r.stay s hl (hp id ⟨_, _, _, _, _, rfl⟩)⟩
theorem Ss.nil : Ss n c h .l0 ([] : List α) := .inl ⟨rfl, rfl⟩
/-- of a literal -/
theorem Ss.lit {id : B} {xs : List V} {cap : Option Nat} {len fin : Nat} (o : Own h id xs) (e : xs = L.flatMap c) (hc : ∀ e, (c e).length = n) (hl : len = L.length) (hf : L.length * n ≤ fin) : Ss n c h (.l id 0 0 len fin cap) L := by
  subst hl; subst e
  have r := o.row
  obtain ⟨blk, h1, h2, h3, h4, h5, h6, h7⟩ := o
  exact .inr ⟨id, 0, 0, fin, cap, rfl, by omega, h6, r⟩
/-- of a row that grew -/
theorem Ss.buf {el : Nat} {xs : List V} (b : Buf h el n v xs) (e : xs = L.flatMap c) (hc : ∀ e, (c e).length = n) (hn : 1 ≤ n) : Ss n c h v L := by
  subst e
  rcases b with ⟨rfl, he⟩ | ⟨id, g, m, blk, rfl, h1, h2, h3, h4, h5, h6, h7, h8, h9, h10⟩
  · refine .inl ⟨rfl, ?_⟩
    cases L with
    | nil => rfl
    | cons a L =>
      have := fm_len hc (a :: L)
      rw [he] at this
      have h3 : (L.length + 1) * n = 0 := this.symm
      rw [Nat.add_mul] at h3; omega
  · have hm : m = L.length := by
      rw [fm_len hc] at h2
      exact (Nat.eq_of_mul_eq_mul_right (by omega) h2).symm
    subst hm
    refine .inr ⟨id, g, 0, (L.flatMap c).length, none, rfl, by rw [fm_len hc]; omega, h4, fun _ => ⟨blk, h5, h6.1⟩, fun i y hy => ?_⟩
    unfold Ev.cell cellB
    rw [h5]
    show (if blk.min ≤ g then blk.cells.getN (0 + i) else none) = _
    rw [if_pos h6.1, Nat.zero_add]
    exact h10 i y hy
/-- a slice whose end is where it should be -/
def SwN (n : Nat) (v : V) : Prop := v = .l0 ∨ ∃ id g off m fin cap, v = .l id g off m fin cap ∧ match cap with
  | some c => m ≤ c ∧ (18446744073709551616 ≤ c → m = 0)
  | none => fin = off + m * n
theorem swn_capS {n off k L : Nat} : match capS k L with
  | some c => k ≤ c ∧ (18446744073709551616 ≤ c → k = 0)
  | none => off + k * n = off + k * n := by
  cases k with
  | zero => (cases L with | zero => exact rfl | succ L => exact ⟨Nat.zero_le _, fun _ => rfl⟩)
  | succ k => exact rfl
theorem row_hi {id : B} {g off k : Nat} (hc : ∀ e, (c e).length = n) (r : Row h id g off (L.flatMap c)) : Row h id g off ((L.take k).flatMap c) := by
  rw [fm_take hc]
  refine ⟨fun hne => r.1 fun e => hne (by rw [e]; simp), fun i y hy => r.2 i y ?_⟩
  rw [List.getElem?_take] at hy
  split at hy
  · exact hy
  · cases hy
theorem row_lo {id : B} {g off k : Nat} (hc : ∀ e, (c e).length = n) (r : Row h id g off (L.flatMap c)) : Row h id g (off + k * n) ((L.drop k).flatMap c) := by
  rw [fm_drop hc]
  refine ⟨fun hne => r.1 fun e => hne (by rw [e]; simp), fun i y hy => ?_⟩
  rw [List.getElem?_drop] at hy
  have := r.2 _ y hy
  rwa [← Nat.add_assoc] at this
theorem Ss.hi {kd : IntKind} {k : Nat} (a : Ss n c h v L) (hc : ∀ e, (c e).length = n) (w : SwN n v) (hk : k ≤ L.length) : ∃ u, Ss n c h u (L.take k) ∧ SwN n u ∧ ∀ (g : H) (N : Nx), H2 P (slHiV n) v (.i kd (k : Int)) g N = N.go P u g := by
  have e0 : Nat.ble 0 k = true := by rw [Nat.ble_eq]; omega
  have hkn : k * n ≤ L.length * n := Nat.mul_le_mul_right n hk
  have htk : (L.take k).length = k := by rw [List.length_take]; omega
  rcases a with ⟨rfl, rfl⟩ | ⟨id, g, off, fin, cap, rfl, h2, h3, r⟩
  · have : k = 0 := by simpa using hk
    subst this
    exact ⟨.l0, .inl ⟨rfl, by simp⟩, .inl rfl, fun g N => hv_of fun k => rfl⟩
  rcases w with e | ⟨id', g', off', n', fin', cap', e, hw⟩
  · cases e
  cases e
  cases cap with
  | none =>
    have hw : fin = off + L.length * n := hw
    refine ⟨.l id g off k (off + k * n) (capS k L.length), .inr ⟨id, g, off, off + k * n, capS k L.length, by rw [htk], by rw [htk]; exact Nat.le_refl _, h3, row_hi hc r⟩, .inr ⟨_, _, _, _, _, _, rfl, swn_capS⟩, fun g0 N => hv_of fun q => ?_⟩
    have e1 : Nat.ble k L.length = true := by rw [Nat.ble_eq]; exact hk
    have e2 : Nat.beq fin (Nat.add off (Nat.mul L.length n)) = true := by rw [hw]; exact Nat.beq_refl _
    unfold slHiV
    simp only [vL_l, vI_i, natK_cast, e0, ifK_true]
    show sliceN n id g off L.length fin 0 k q = _
    unfold sliceN
    rw [e1, ifK_true, e2, ifK_true, fN_eq, fN_eq, fN_eq]
    show q (.l id g (off + 0 * n) (k - 0) (off + k * n) (capS k L.length)) = _
    simp
  | some cc =>
    have hw2 : 18446744073709551616 ≤ cc → L.length = 0 := hw.2
    have hw : L.length ≤ cc := hw.1
    have e1 : Nat.ble k cc = true := by rw [Nat.ble_eq]; omega
    cases hfc : flagB cc with
    | true =>
      have hcc := flagB_t hfc
      have hx := hw2 hcc
      have hk0 : k = 0 := by omega
      subst hk0
      refine ⟨.l id g off 0 off (some cc), .inr ⟨id, g, off, off, some cc, by simp, by simp, h3, row_hi hc r⟩, .inr ⟨_, _, _, _, _, _, rfl, Nat.zero_le _, fun _ => rfl⟩, fun g0 N => hv_of fun q => ?_⟩
      unfold slHiV
      simp only [vL_l, vI_i, natK_cast, e0, ifK_true]
      show boolK (flagB cc) (fun _ => ifK (Nat.beq 0 0) fun _ => q (.l id g off 0 off (some cc))) _ = _
      rw [hfc]; rfl
    | false =>
    have hcM := flagB_f hfc
    cases cc with
    | zero =>
      have hx : L.length = 0 := by omega
      have hk0 : k = 0 := by omega
      subst hk0
      refine ⟨.l id g off 0 fin (some 0), .inr ⟨id, g, off, fin, some 0, by simp, by simp; omega, h3, row_hi hc r⟩, .inr ⟨_, _, _, _, _, _, rfl, Nat.le_refl _, fun _ => rfl⟩, fun g0 N => hv_of fun q => ?_⟩
      unfold slHiV
      simp only [vL_l, vI_i, natK_cast, e0, ifK_true]
      rfl
    | succ cc =>
      refine ⟨.l id g off k fin (some (cc + 1)), .inr ⟨id, g, off, fin, some (cc + 1), by rw [htk], by rw [htk]; omega, h3, row_hi hc r⟩, .inr ⟨_, _, _, _, _, _, rfl, by show k ≤ cc + 1; omega, fun h => absurd hcM (Nat.not_lt.2 h)⟩, fun g0 N => hv_of fun q => ?_⟩
      unfold slHiV
      simp only [vL_l, vI_i, natK_cast, e0, ifK_true]
      show boolK (flagB (cc + 1)) _ (fun _ => sliceC n id g off L.length fin (cc + 1) 0 k fun v => q v) = _
      rw [hfc, boolK_false, sliceC_mid hcM (by omega) (by omega)]
      simp
theorem Ss.lo {kd : IntKind} {k : Nat} (a : Ss n c h v L) (hc : ∀ e, (c e).length = n) (w : SwN n v) (hk : k ≤ L.length) : ∃ u, Ss n c h u (L.drop k) ∧ SwN n u ∧ ∀ (g : H) (N : Nx), H2 P (slLoV n) v (.i kd (k : Int)) g N = N.go P u g := by
  have e0 : Nat.ble k L.length = true := by rw [Nat.ble_eq]; omega
  have hkn : k * n + (L.length - k) * n = L.length * n := by rw [← Nat.add_mul]; congr 1; omega
  have htk : (L.drop k).length = L.length - k := List.length_drop
  rcases a with ⟨rfl, rfl⟩ | ⟨id, g, off, fin, cap, rfl, h2, h3, r⟩
  · have : k = 0 := by simpa using hk
    subst this
    exact ⟨.l0, .inl ⟨rfl, by simp⟩, .inl rfl, fun g N => hv_of fun k => rfl⟩
  rcases w with e | ⟨id', g', off', n', fin', cap', e, hw⟩
  · cases e
  cases e
  cases cap with
  | none =>
    have hw : fin = off + L.length * n := hw
    refine ⟨.l id g (off + k * n) (L.length - k) (off + L.length * n) none, .inr ⟨id, g, off + k * n, off + L.length * n, none, by rw [htk], by rw [htk]; omega, h3, row_lo hc r⟩, .inr ⟨_, _, _, _, _, _, rfl, by show off + L.length * n = off + k * n + (L.length - k) * n; omega⟩, fun g0 N => hv_of fun q => ?_⟩
    have e1 : Nat.ble L.length L.length = true := by rw [Nat.ble_eq]; exact Nat.le_refl _
    have e2 : Nat.beq fin (Nat.add off (Nat.mul L.length n)) = true := by rw [hw]; exact Nat.beq_refl _
    unfold slLoV
    simp only [vL_l, vI_i, natK_cast, e0, ifK_true]
    show sliceN n id g off L.length fin k L.length q = _
    unfold sliceN
    rw [e1, ifK_true, e2, ifK_true, fN_eq, fN_eq, fN_eq, capS_self]
    rfl
  | some cc =>
    have hw2 : 18446744073709551616 ≤ cc → L.length = 0 := hw.2
    have hw : L.length ≤ cc := hw.1
    have e1 : Nat.ble L.length cc = true := by rw [Nat.ble_eq]; omega
    cases hfc : flagB cc with
    | true =>
      have hcc := flagB_t hfc
      have hx := hw2 hcc
      have hk0 : k = 0 := by omega
      subst hk0
      refine ⟨.l id g off 0 off (some cc), .inr ⟨id, g, off, off, some cc, by rw [htk, hx], by rw [htk, hx]; simp, h3, ?_⟩, .inr ⟨_, _, _, _, _, _, rfl, Nat.zero_le _, fun _ => rfl⟩, fun g0 N => hv_of fun q => ?_⟩
      · rw [List.drop_eq_nil_of_le (by omega)]
        exact ⟨fun hne => absurd rfl hne, fun i v hv => by simp at hv⟩
      · unfold slLoV
        simp only [vL_l, vI_i, natK_cast, e0, ifK_true]
        show boolK (flagB cc) (fun _ => ifK (Nat.beq L.length 0) fun _ => q (.l id g off 0 off (some cc))) _ = _
        rw [hfc, hx]; rfl
    | false =>
    have hcM := flagB_f hfc
    have eM : Nat.ble (Nat.succ cc) 18446744073709551616 = true := by rw [Nat.ble_eq]; exact hcM
    by_cases hkc : k = cc
    · have hx : L.length = k := by omega
      refine ⟨.l id g off 0 fin (some 0), .inr ⟨id, g, off, fin, some 0, by rw [htk, hx]; simp, by rw [htk, hx]; simp; omega, h3, ?_⟩, .inr ⟨_, _, _, _, _, _, rfl, Nat.le_refl _, fun _ => rfl⟩, fun g0 N => hv_of fun q => ?_⟩
      · rw [List.drop_eq_nil_of_le (by omega)]
        exact ⟨fun hne => absurd rfl hne, fun i v hv => by simp at hv⟩
      · unfold slLoV
        simp only [vL_l, vI_i, natK_cast, e0, ifK_true]
        show boolK (flagB cc) _ (fun _ => sliceC n id g off L.length fin cc k L.length fun v => q v) = _
        rw [hfc, boolK_false]
        unfold sliceC
        rw [eM, ifK_true]
        have e2 : Nat.beq k cc = true := by rw [hkc]; exact Nat.beq_refl _
        rw [e1, ifK_true, e2]; rfl
    · refine ⟨.l id g (off + k * n) (L.length - k) fin (some (cc - k)), .inr ⟨id, g, off + k * n, fin, some (cc - k), by rw [htk], by rw [htk]; omega, h3, row_lo hc r⟩, .inr ⟨_, _, _, _, _, _, rfl, by show L.length - k ≤ cc - k; omega, fun h => absurd hcM (by omega)⟩, fun g0 N => hv_of fun q => ?_⟩
      unfold slLoV
      simp only [vL_l, vI_i, natK_cast, e0, ifK_true]
      show boolK (flagB cc) _ (fun _ => sliceC n id g off L.length fin cc k L.length fun v => q v) = _
      rw [hfc, boolK_false, sliceC_mid hcM (by omega) (by omega)]
/-- the cells that are appended -/
theorem new_ss (a : Ss n c h v L) (hc : ∀ e, (c e).length = n) (hn : 1 ≤ n) (k : Nat → List V → Bool) : newCells n v h k = k L.length (L.flatMap c) := by
  rcases a with ⟨rfl, rfl⟩ | ⟨id, g, off, fin, cap, rfl, hf, hl, r⟩
  · rfl
  · have hlen := fm_len hc L
    cases hm : L.length with
    | zero =>
      have : L = [] := List.eq_nil_of_length_eq_zero hm
      subst this; rfl
    | succ m =>
      rw [hm] at hlen hf
      show loadN h id g off fin (Nat.mul (m + 1) n) (fun vs => k (m + 1) vs) = _
      have hne : L.flatMap c ≠ [] := by
        intro e; rw [e] at hlen
        have h3 : (m + 1) * n = 0 := hlen.symm
        rw [Nat.add_mul] at h3; omega
      rw [show Nat.mul (m + 1) n = (L.flatMap c).length by rw [hlen]; rfl, loadN_row r rfl hne (by rw [hlen]; omega)]
/-- append([]T{e}, l...) -/
theorem AP.lit {id : B} {cs : List V} {el : Nat} (o : Own h id cs) (hcs : cs.length = n) (hn : 1 ≤ n) (hc : ∀ e, (c e).length = n) (a : Ss n c h v L) (hf : B.val h.floor ≤ B.val h.next) (hb : (1 + L.length) * n ≤ 1048576)
    (k0 : L = [] → N.go P (.l id 0 0 1 n (some 1)) h)
    (k1 : ∀ v' h', L ≠ [] → Buf h' el n v' (cs ++ L.flatMap c) → Top h' v' → Stay nowhere h h' → (∀ i, isOf v' i → B.val h.next ≤ B.val i) → N.go P v' h') : AP P el n (.l id 0 0 1 n (some 1)) v h N := by
  have hlen := fm_len hc L
  cases hm : L.length with
  | zero =>
    have : L = [] := List.eq_nil_of_length_eq_zero hm
    subst this
    refine hm_of (v := .l id 0 0 1 n (some 1)) (h' := h) (fun k => ?_) (k0 rfl)
    rw [new_ss a hc hn]; rfl
  | succ m =>
    have hne : L ≠ [] := by intro e; rw [e] at hm; simp at hm
    have hb1 : 1 + L.length ≤ 1048576 := by
      have := Nat.mul_le_mul_left (1 + L.length) hn
      omega
    have hcn : (1 + L.length) * n = n + L.length * n := by rw [Nat.add_mul]; omega
    obtain ⟨h', a1, a2, a3, blk, b1, b2, b3, b4, b5, b6, b7⟩ := alloc_new el (cs ++ L.flatMap c) h (by rw [List.length_append]; omega)
    refine hm_of (v := .l h.next 0 0 (1 + L.length) ((1 + L.length) * n) none) (h' := h') (fun k => ?_) (k1 _ h' hne ?_ ?_ a2 ?_)
    · rw [new_ss a hc hn]
      show boolK (Nat.ble (Nat.add 1 L.length) 1) (fun _ => appIn id 0 0 1 n 1 n L.length (L.flatMap c) h k) (fun _ => appOut el id 0 0 1 n n L.length (L.flatMap c) h k) = _
      have e1 : Nat.ble (Nat.add 1 L.length) 1 = false := by
        cases hx : Nat.ble (Nat.add 1 L.length) 1 with
        | false => rfl
        | true => have := Nat.le_of_ble_eq_true hx; have h2 : 1 + L.length ≤ 1 := this; omega
      rw [e1]
      show appOut el id 0 0 1 n n L.length (L.flatMap c) h k = _
      unfold appOut
      have e2 : Nat.ble (Nat.add 1 L.length) 1048576 = true := by rw [Nat.ble_eq]; exact hb1
      rw [e2, ifK_true, show Nat.mul 1 n = cs.length by rw [hcs]; show 1 * n = n; omega, loadZ_pos (by omega), loadN_row o.row rfl (by intro e; rw [e] at hcs; simp at hcs; omega) (by omega), app_eq, a1, fN_eq, fN_eq]
      rfl
    · refine .inr ⟨h.next, 0, 1 + L.length, blk, by rw [List.length_append, hlen, hcs, ← hcn], by omega, by rw [List.length_append, hlen, hcs, ← hcn], by rw [a2.floor]; exact hf, by omega, b1, ⟨by omega, by omega⟩, b4, b5, b6, b7⟩
    · intro id' g off m' fin cap e
      cases e
      exact ⟨blk, b1, b3⟩
    · rintro i ⟨g, off, m', fin, cap, e⟩
      cases e; exact Nat.le_refl _
end
end Go.Ev

set_option linter.all false
namespace Go.Ev
open Go
structure Ent where
  key : List UInt8
  seq : Int
  del : Bool
  val : List UInt8
deriving DecidableEq
def entZ : Ent := ⟨[], 0, false, []⟩
instance : Inhabited Ent := ⟨entZ⟩
def entC (e : Ent) : List V := [sv e.key, .i .i64 e.seq, .b e.del, sv e.val]
theorem entC_len (e : Ent) : (entC e).length = 4 := rfl
def Es (h : H) (v : V) (L : List Ent) : Prop := Ss 4 entC h v L
section
variable {P : Program} {h h' g' : H} {N : Nx} {v : V} {L : List Ent} {i d : Nat}
theorem Es.ln (a : Es h v L) : H1 P gLen v g' N = N.go P (.i .i64 (L.length : Int)) g' := Ss.ln a
theorem Es.ix (a : Es h v L) (hi : i < L.length) : IX P 4 v i g' N = N.go P (.p (lid v) (lg v) (loff v + i * 4) (lfin v)) g' := Ss.ix a hi
theorem Es.l0 (a : Es h v L) (hi : i < L.length) : L1 P (lid v) (lg v) (loff v + i * 4) (lfin v) h N = N.go P (sv (L.getD i default).key) h := Ss.ld (d := 0) a entC_len hi (by omega)
theorem Es.l2 (a : Es h v L) (hi : i < L.length) : L1 P (lid v) (lg v) (loff v + i * 4 + 2) (lfin v) h N = N.go P (.b (L.getD i default).del) h := Ss.ld (d := 2) a entC_len hi (by omega)
theorem Es.l3 (a : Es h v L) (hi : i < L.length) : L1 P (lid v) (lg v) (loff v + i * 4 + 3) (lfin v) h N = N.go P (sv (L.getD i default).val) h := Ss.ld (d := 3) a entC_len hi (by omega)
theorem Es.la (a : Es h v L) (hi : i < L.length) : LN P (lid v) (lg v) (loff v + i * 4) (lfin v) 4 h N = N.go P (.a [sv (L.getD i default).key, .i .i64 (L.getD i default).seq, .b (L.getD i default).del, sv (L.getD i default).val]) h := Ss.ldA a entC_len (by omega) hi
theorem Es.grow (a : Es h v L) (s : Stay nowhere h h') : Es h' v L := Ss.grow a s
end
/-- of a write -/
def isW (key : List UInt8) (del : Bool) (val : List UInt8) : Bool := decide (1 ≤ key.length ∧ key.length ≤ 13 ∧ val.length ≤ 24 ∧ (del = true → val = []))
def isE (e : Ent) : Bool := decide (1 ≤ e.seq ∧ e.seq ≤ 1000000) && isW e.key e.del e.val
theorem isE_iff {e : Ent} : isE e = true ↔ (1 ≤ e.seq ∧ e.seq ≤ 1000000) ∧ 1 ≤ e.key.length ∧ e.key.length ≤ 13 ∧ e.val.length ≤ 24 ∧ (e.del = true → e.val = []) := by
  unfold isE isW; rw [Bool.and_eq_true, decide_eq_true_eq, decide_eq_true_eq]
theorem isE_in {e : Ent} (h1 : 1 ≤ e.seq) (h2 : e.seq ≤ 1000000) : isE e = isW e.key e.del e.val := by unfold isE; rw [decide_eq_true ⟨h1, h2⟩, Bool.true_and]
theorem isE_lo {e : Ent} (h1 : e.seq < 1) : isE e = false := by unfold isE; rw [decide_eq_false (by omega), Bool.false_and]
theorem isE_hi {e : Ent} (h1 : 1000000 < e.seq) : isE e = false := by unfold isE; rw [decide_eq_false (by omega), Bool.false_and]
section
variable {k v : List UInt8} {d : Bool}
theorem isW_lo (h : (k.length : Int) < 1) : isW k d v = false := by unfold isW; rw [decide_eq_false_iff_not]; rintro ⟨a, _⟩; omega
theorem isW_hi (h : 13 < (k.length : Int)) : isW k d v = false := by unfold isW; rw [decide_eq_false_iff_not]; rintro ⟨_, a, _⟩; omega
theorem isW_t (h1 : 1 ≤ (k.length : Int)) (h2 : (k.length : Int) ≤ 13) (hd : d = true) : isW k d v = decide (v = []) := by
  subst hd; unfold isW; congr 1
  refine propext ⟨fun h => h.2.2.2 rfl, fun e => ?_⟩
  subst e; exact ⟨by omega, by omega, by simp, fun _ => rfl⟩
theorem isW_f (h1 : 1 ≤ (k.length : Int)) (h2 : (k.length : Int) ≤ 13) (hd : d = false) : isW k d v = decide ((v.length : Int) ≤ 24) := by
  subst hd; unfold isW; congr 1
  exact propext ⟨fun h => by omega, fun e => ⟨by omega, by omega, by omega, fun h => by cases h⟩⟩
end
def lessE (a b : Ent) : Bool := if a.key = b.key then decide (b.seq < a.seq) else Op.bytesLess a.key b.key
/-- the first k places are in order -/
def srtU (L : List Ent) (k : Nat) : Bool := (List.range k).all fun j => lessE (L.getD j default) (L.getD (j + 1) default)
def sortedE (L : List Ent) : Bool := srtU L (L.length - 1)
theorem srtU_succ (L : List Ent) (k : Nat) : srtU L (k + 1) = (srtU L k && lessE (L.getD k default) (L.getD (k + 1) default)) := by
  unfold srtU; rw [List.range_succ, List.all_append]; simp
theorem srtU_at {L : List Ent} {j k : Nat} (h : srtU L k = true) (hj : j < k) : lessE (L.getD j default) (L.getD (j + 1) default) = true := by
  unfold srtU at h
  rw [List.all_eq_true] at h
  exact h j (by rw [List.mem_range]; exact hj)
theorem sorted_no {L : List Ent} {j : Nat} (hj : j + 1 < L.length) (h : lessE (L.getD j default) (L.getD (j + 1) default) = false) : sortedE L = false := by
  cases hs : sortedE L with
  | false => rfl
  | true => have := srtU_at (j := j) hs (by omega); rw [h] at this; cases this
theorem lessE_ne {a b : Ent} (h : ¬ a.key = b.key) : lessE a b = Op.bytesLess a.key b.key := if_neg h
theorem lessE_eq {a b : Ent} (h : a.key = b.key) : lessE a b = decide (b.seq < a.seq) := if_pos h
def tailB (e : Ent) : List UInt8 := numB e.seq.toNat ++ (if e.del then [1] else 0 :: textB e.val)
def bytesE (e : Ent) : List UInt8 := if isE e then textB e.key ++ tailB e else []
/-- what is told of an entry that was read, of n bytes -/
def chkE (x : Ent) (n : Int) : Ent × Int × Int := if isE x then (x, n, 0) else (entZ, 0, 10)
/-- what stands behind a key -/
def tailU (key s : List UInt8) : Ent × Int × Int :=
  if (takeN s).2.2 ≠ 0 then (entZ, 0, (takeN s).2.2) else
  if (takeN s).2.1.toNat = s.length then (entZ, 0, 12) else
  if s.getD (takeN s).2.1.toNat 0 = 0 then
    if (takeT (s.drop ((takeN s).2.1.toNat + 1))).2.2 ≠ 0 then (entZ, 0, (takeT (s.drop ((takeN s).2.1.toNat + 1))).2.2)
    else (⟨key, (takeN s).1, false, (takeT (s.drop ((takeN s).2.1.toNat + 1))).1⟩, (takeN s).2.1 + 1 + (takeT (s.drop ((takeN s).2.1.toNat + 1))).2.1, 0)
  else if s.getD (takeN s).2.1.toNat 0 = 1 then (⟨key, (takeN s).1, true, []⟩, (takeN s).2.1 + 1, 0) else (entZ, 0, 10)
def takeE (s : List UInt8) : Ent × Int × Int :=
  if (takeT s).2.2 ≠ 0 then (entZ, 0, (takeT s).2.2) else
  if (tailU (takeT s).1 (s.drop (takeT s).2.1.toNat)).2.2 ≠ 0 then (entZ, 0, (tailU (takeT s).1 (s.drop (takeT s).2.1.toNat)).2.2)
  else ((tailU (takeT s).1 (s.drop (takeT s).2.1.toNat)).1, (takeT s).2.1 + (tailU (takeT s).1 (s.drop (takeT s).2.1.toNat)).2.1, 0)
section
variable {s k v : List UInt8} {n m j : Nat} {q e : Int}
theorem takeE_1 (h : takeT s = ([], 0, e)) (he : e ≠ 0) : takeE s = (entZ, 0, e) := by unfold takeE; rw [h]; exact if_pos he
theorem takeE_2 (h : takeT s = (k, (n : Int), 0)) : takeE s = if (tailU k (s.drop n)).2.2 ≠ 0 then (entZ, 0, (tailU k (s.drop n)).2.2) else ((tailU k (s.drop n)).1, (n : Int) + (tailU k (s.drop n)).2.1, 0) := by
  unfold takeE; rw [h]; rfl
theorem takeE_3 (h : takeT s = (k, (n : Int), 0)) (h2 : tailU k (s.drop n) = (entZ, 0, e)) (he : e ≠ 0) : takeE s = (entZ, 0, e) := by rw [takeE_2 h, h2]; exact if_pos he
theorem takeE_4 {x : Ent} {z : Int} (h : takeT s = (k, (n : Int), 0)) (h2 : tailU k (s.drop n) = (x, z, 0)) : takeE s = (x, (n : Int) + z, 0) := by rw [takeE_2 h, h2]; rfl
theorem tailU_1 (h : takeN s = (0, 0, e)) (he : e ≠ 0) : tailU k s = (entZ, 0, e) := by unfold tailU; rw [h]; exact if_pos he
theorem tailU_2 (h : takeN s = (q, (m : Int), 0)) (hm : m = s.length) : tailU k s = (entZ, 0, 12) := by
  unfold tailU; rw [h]; simp only [Int.toNat_natCast, ne_eq, not_true_eq_false, if_false, hm, if_true]
theorem tailU_3 (h : takeN s = (q, (m : Int), 0)) (hm : m ≠ s.length) (hc : (s.getD m 0).toNat = 0) (ht : takeT (s.drop (m + 1)) = ([], 0, e)) (he : e ≠ 0) : tailU k s = (entZ, 0, e) := by
  have hc : s.getD m 0 = 0 := UInt8.toNat_inj.1 hc
  unfold tailU; rw [h]; simp only [Int.toNat_natCast, ne_eq, not_true_eq_false, if_false, hm, hc, if_true, ht, he, not_false_eq_true]
theorem tailU_4 (h : takeN s = (q, (m : Int), 0)) (hm : m ≠ s.length) (hc : (s.getD m 0).toNat = 0) (ht : takeT (s.drop (m + 1)) = (v, (j : Int), 0)) : tailU k s = (⟨k, q, false, v⟩, (m : Int) + 1 + (j : Int), 0) := by
  have hc : s.getD m 0 = 0 := UInt8.toNat_inj.1 hc
  unfold tailU; rw [h]; simp only [Int.toNat_natCast, ne_eq, not_true_eq_false, if_false, hm, hc, if_true, ht]
theorem tailU_5 (h : takeN s = (q, (m : Int), 0)) (hm : m ≠ s.length) (hc : (s.getD m 0).toNat = 1) : tailU k s = (⟨k, q, true, []⟩, (m : Int) + 1, 0) := by
  have hc : s.getD m 0 = 1 := UInt8.toNat_inj.1 hc
  unfold tailU; rw [h]; simp only [Int.toNat_natCast, ne_eq, not_true_eq_false, if_false, hm, hc, if_true]; rfl
theorem tailU_6 (h : takeN s = (q, (m : Int), 0)) (hm : m ≠ s.length) (hc : (s.getD m 0).toNat ≠ 0) (hc1 : (s.getD m 0).toNat ≠ 1) : tailU k s = (entZ, 0, 10) := by
  have hc : ¬ s.getD m 0 = 0 := fun e => hc (by rw [e]; rfl)
  have hc1 : ¬ s.getD m 0 = 1 := fun e => hc1 (by rw [e]; rfl)
  unfold tailU; rw [h]; simp only [Int.toNat_natCast, ne_eq, not_true_eq_false, if_false, hm, hc, hc1]
theorem getD_drop (n m : Nat) : (s.drop n).getD m 0 = s.getD (n + m) 0 := by simp [List.getD]
end
def chkd (r : Ent × Int × Int) : Ent × Int × Int := if r.2.2 ≠ 0 then (entZ, 0, r.2.2) else chkE r.1 r.2.1
def readE (s : List UInt8) : Ent × Int × Int := chkd (takeE s)
theorem readE_1 {s : List UInt8} (h : (takeE s).2.2 ≠ 0) : readE s = (entZ, 0, (takeE s).2.2) := if_pos h
theorem readE_2 {s : List UInt8} (h : (takeE s).2.2 = 0) (hi : isE (takeE s).1 = false) : readE s = (entZ, 0, 10) := by unfold readE chkd chkE; rw [h, hi]; rfl
theorem readE_3 {s : List UInt8} (h : (takeE s).2.2 = 0) (hi : isE (takeE s).1 = true) : readE s = ((takeE s).1, (takeE s).2.1, 0) := by unfold readE chkd chkE; rw [h, hi]; rfl
theorem readE_ref {s k : List UInt8} {n : Nat} (h : takeT s = (k, (n : Int), 0)) : readE s = if (chkd (tailU k (s.drop n))).2.2 ≠ 0 then (entZ, 0, (chkd (tailU k (s.drop n))).2.2) else ((chkd (tailU k (s.drop n))).1, (n : Int) + (chkd (tailU k (s.drop n))).2.1, 0) := by
  have e := takeE_2 h
  generalize hr : tailU k (s.drop n) = r at *
  obtain ⟨x, z, f⟩ := r
  by_cases hf : f = 0
  · subst hf
    have e : takeE s = (x, (n : Int) + z, 0) := e
    cases hi : isE x with
    | true => rw [readE_3 (by rw [e]) (by rw [e]; exact hi), e]; unfold chkd chkE; simp [hi]
    | false => rw [readE_2 (by rw [e]) (by rw [e]; exact hi)]; unfold chkd chkE; simp [hi]
  · have e : takeE s = (entZ, 0, f) := by rw [e]; exact if_pos hf
    rw [readE_1 (by rw [e]; exact hf), e]
    unfold chkd; simp [hf]
theorem chkd_ok {x : Ent} {z : Int} (hi : isE x = true) : chkd (x, z, 0) = (x, z, 0) := by unfold chkd chkE; rw [hi]; rfl
/-- what it is, as a value -/
def triE (r : Ent × Int × Int) : V := .tu [.a (entC r.1), .i .i64 r.2.1, .i .i64 r.2.2]
def okE (e : Ent) : Bool := decide (e.key.length ≤ 20) && decide (e.val.length ≤ 40)
def fewE (L : List Ent) : Bool := L.all okE && decide (L.length ≤ 60)
theorem all_at {p : Ent → Bool} {L : List Ent} {i : Nat} (hi : i < L.length) (h : p (L.getD i default) = false) : L.all p = false := by
  rw [List.all_eq_false]
  refine ⟨L[i], by simp, ?_⟩
  rw [show L.getD i default = L[i] by simp [List.getD, hi]] at h
  rw [h]; decide
theorem all_ok {p : Ent → Bool} {L : List Ent} (h : ∀ j, j < L.length → p (L.getD j default) = true) : L.all p = true := by
  rw [List.all_eq_true]
  intro y hy
  obtain ⟨j, hj, rfl⟩ := List.getElem_of_mem hy
  have := h j hj
  rwa [show L.getD j default = L[j] by simp [List.getD, hj]] at this
end Go.Ev

set_option maxRecDepth 100000
set_option maxHeartbeats 8000000
set_option linter.all false
namespace Go.Proofs.Ytjlhfoadabkahaa
open Go Go.Ev
theorem isWrite_ok {h : H} {k v : List UInt8} {d : Bool} (hf : B.val h.floor ≤ B.val h.next) : FnOk Try.prog 86 [.a [sv k, .b d, sv v]] h fun y h' => y = .b (isW k d v) ∧ Stay nowhere h h' := by
  refine fn_go c86 (by intro hb; cases hb) (by simp) (by simp) fun Q hQ => ?_
  simp only [slotsF, Nat.reduceAdd]
  repeat' (first
    | refine St.h ?_
    | simp (disch := first | omega | (simp only [lnv]; omega)) only [wlk, ↓get_put', Nat.reduceEqDiff, Nat.reduceLT, ↓reduceIte, Int.reduceToNat, Nat.reducePow, Nat.min_eq_left, Nat.reduceAdd, Nat.reduceMul, Int.reduceAdd, Int.reduceSub, Int.reduceNeg, Int.reduceMul, Int.reduceEq, Int.reduceLT, Int.reduceLE, Nat.reduceSub, Int.reduceNatCast, Nat.reduceLeDiff]
    | (with_reducible (first | apply cd_split | apply gd_split)) <;> (intro hc; (try simp only [hcn] at hc); (try simp only [hc]); (try simp only [hcl] at hc); try omega))
  refine AL.own (by simp) hf fun h1 s1 n1 o1 => ?_
  repeat' (first
    | refine St.h ?_
    | simp (disch := first | omega | (simp only [lnv]; omega)) only [wlk, ↓get_put', Nat.reduceEqDiff, Nat.reduceLT, ↓reduceIte, Int.reduceToNat, Nat.reducePow, Nat.min_eq_left, Nat.reduceAdd, Nat.reduceMul, Int.reduceAdd, Int.reduceSub, Int.reduceNeg, Int.reduceMul, Int.reduceEq, Int.reduceLT, Int.reduceLE, Nat.reduceSub, Int.reduceNatCast, Nat.reduceLeDiff, o1.row.l1]
    | (with_reducible (first | apply cd_split | apply gd_split)) <;> (intro hc; (try simp only [hcn] at hc); (try simp only [hc]); (try simp only [hcl] at hc); try omega))
  all_goals (subst hQ; refine ⟨?_, s1⟩; congr 1; symm; first | exact isW_lo (by assumption) | exact isW_hi (by assumption) | exact isW_t (by assumption) (by assumption) (by assumption) | exact isW_f (by assumption) (by assumption) (by assumption))
theorem is_ok {h : H} {e : Ent} (hf : B.val h.floor ≤ B.val h.next) : FnOk Try.prog 63 [.a [sv e.key, .i .i64 e.seq, .b e.del, sv e.val]] h fun y h' => y = .b (isE e) ∧ Stay nowhere h h' := by
  refine fn_go c63 (by intro hb; cases hb) (by simp) (by simp) fun Q hQ => ?_
  simp only [slotsF, Nat.reduceAdd]
  repeat' (first
    | refine St.h ?_
    | simp (disch := first | omega | (simp only [lnv]; omega)) only [wlk, ↓get_put', Nat.reduceEqDiff, Nat.reduceLT, ↓reduceIte, Int.reduceToNat, Nat.reducePow, Nat.min_eq_left, Nat.reduceAdd, Nat.reduceMul, Int.reduceAdd, Int.reduceSub, Int.reduceNeg, Int.reduceMul, Int.reduceEq, Int.reduceLT, Int.reduceLE, Nat.reduceSub, Int.reduceNatCast, Nat.reduceLeDiff]
    | (with_reducible (first | apply cd_split | apply gd_split)) <;> (intro hc; (try simp only [hcn] at hc); (try simp only [hc]); (try simp only [hcl] at hc); try omega))
  refine AL.own (by simp) hf fun h1 s1 n1 o1 => ?_
  repeat' (first
    | refine St.h ?_
    | simp (disch := first | omega | (simp only [lnv]; omega)) only [wlk, ↓get_put', Nat.reduceEqDiff, Nat.reduceLT, ↓reduceIte, Int.reduceToNat, Nat.reducePow, Nat.min_eq_left, Nat.reduceAdd, Nat.reduceMul, Int.reduceAdd, Int.reduceSub, Int.reduceNeg, Int.reduceMul, Int.reduceEq, Int.reduceLT, Int.reduceLE, Nat.reduceSub, Int.reduceNatCast, Nat.reduceLeDiff, o1.row.l1]
    | (with_reducible (first | apply cd_split | apply gd_split)) <;> (intro hc; (try simp only [hcn] at hc); (try simp only [hc]); (try simp only [hcl] at hc); try omega))
  · refine CL.stay (isWrite_ok (s1.fl hf)) fun h2 s2 => ?_
    repeat' (first
      | refine St.h ?_
      | simp (disch := first | omega | (simp only [lnv]; omega)) only [wlk, ↓get_put', Nat.reduceEqDiff, Nat.reduceLT, ↓reduceIte, Int.reduceToNat, Nat.reducePow, Nat.min_eq_left, Nat.reduceAdd, Nat.reduceMul, Int.reduceAdd, Int.reduceSub, Int.reduceNeg, Int.reduceMul, Int.reduceEq, Int.reduceLT, Int.reduceLE, Nat.reduceSub, Int.reduceNatCast, Nat.reduceLeDiff, o1.row.l1]
      | (with_reducible (first | apply cd_split | apply gd_split)) <;> (intro hc; (try simp only [hcn] at hc); (try simp only [hc]); (try simp only [hcl] at hc); try omega))
    subst hQ
    exact ⟨by rw [isE_in (by assumption) (by assumption)], s1.trans s2⟩
  · subst hQ
    exact ⟨by rw [isE_hi (by assumption)], s1⟩
  · subst hQ
    exact ⟨by rw [isE_lo (by assumption)], s1⟩
theorem less_ok {h : H} {a b : Ent} (hf : B.val h.floor ≤ B.val h.next) : FnOk Try.prog 87 [.a [sv a.key, .i .i64 a.seq, .b a.del, sv a.val], .a [sv b.key, .i .i64 b.seq, .b b.del, sv b.val]] h fun y h' => y = .b (lessE a b) ∧ Stay nowhere h h' := by
  refine fn_go c87 (by intro hb; cases hb) (by simp) (by simp) fun Q hQ => ?_
  simp only [slotsF, Nat.reduceAdd]
  repeat' (first
    | refine St.h ?_
    | simp (disch := first | omega | (simp only [lnv]; omega)) only [wlk, ↓get_put', Nat.reduceEqDiff, Nat.reduceLT, ↓reduceIte, Int.reduceToNat, Nat.reducePow, Nat.min_eq_left, Nat.reduceAdd, Nat.reduceMul, Int.reduceAdd, Int.reduceSub, Int.reduceNeg, Int.reduceMul, Int.reduceEq, Int.reduceLT, Int.reduceLE, Nat.reduceSub, Int.reduceNatCast, Nat.reduceLeDiff]
    | (with_reducible (first | apply cd_split | apply gd_split)) <;> (intro hc; (try simp only [hcn] at hc); (try simp only [hc]); (try simp only [hcl] at hc); try omega))
  refine AL.own (by simp) hf fun h1 s1 n1 o1 => ?_
  repeat' (first
    | refine St.h ?_
    | simp (disch := first | omega | (simp only [lnv]; omega)) only [wlk, ↓get_put', Nat.reduceEqDiff, Nat.reduceLT, ↓reduceIte, Int.reduceToNat, Nat.reducePow, Nat.min_eq_left, Nat.reduceAdd, Nat.reduceMul, Int.reduceAdd, Int.reduceSub, Int.reduceNeg, Int.reduceMul, Int.reduceEq, Int.reduceLT, Int.reduceLE, Nat.reduceSub, Int.reduceNatCast, Nat.reduceLeDiff]
    | (with_reducible (first | apply cd_split | apply gd_split)) <;> (intro hc; (try simp only [hcn] at hc); (try simp only [hc]); (try simp only [hcl] at hc); try omega))
  refine AL.own (by simp) (s1.fl hf) fun h2 s2 n2 o2 => ?_
  have o1' := o1.stay s2 fun h => h
  by_cases hk : a.key = b.key
  · repeat' (first
      | refine St.h ?_
      | simp (disch := first | omega | (simp only [lnv]; omega)) only [wlk, ↓get_put', Nat.reduceEqDiff, Nat.reduceLT, ↓reduceIte, Int.reduceToNat, Nat.reducePow, Nat.min_eq_left, Nat.reduceAdd, Nat.reduceMul, Int.reduceAdd, Int.reduceSub, Int.reduceNeg, Int.reduceMul, Int.reduceEq, Int.reduceLT, Int.reduceLE, Nat.reduceSub, Int.reduceNatCast, Nat.reduceLeDiff, o1'.row.l1, o2.row.l1, hk]
      | (with_reducible (first | apply cd_split | apply gd_split)) <;> (intro hc; (try simp only [hcn] at hc); (try simp only [hc]); (try simp only [hcl] at hc); try omega))
    subst hQ
    exact ⟨by rw [lessE_eq hk], s1.trans s2⟩
  · repeat' (first
      | refine St.h ?_
      | simp (disch := first | omega | (simp only [lnv]; omega)) only [wlk, ↓get_put', Nat.reduceEqDiff, Nat.reduceLT, ↓reduceIte, Int.reduceToNat, Nat.reducePow, Nat.min_eq_left, Nat.reduceAdd, Nat.reduceMul, Int.reduceAdd, Int.reduceSub, Int.reduceNeg, Int.reduceMul, Int.reduceEq, Int.reduceLT, Int.reduceLE, Nat.reduceSub, Int.reduceNatCast, Nat.reduceLeDiff, o1'.row.l1, o2.row.l1, hk]
      | (with_reducible (first | apply cd_split | apply gd_split)) <;> (intro hc; (try simp only [hcn] at hc); (try simp only [hc]); (try simp only [hcl] at hc); try omega))
    subst hQ
    exact ⟨by rw [lessE_ne hk], s1.trans s2⟩
theorem sorted_ok {h : H} {v : V} {L : List Ent} (hL : Es h v L) (hl : L.length ≤ 9223372036854775807) (hf : B.val h.floor ≤ B.val h.next) : FnOk Try.prog 64 [v] h fun y h' => y = .b (sortedE L) ∧ Stay nowhere h h' := by
  refine fn_go c64 (by intro hb; cases hb) (by simp) (by simp) fun Q hQ => ?_
  simp only [slotsF, Nat.reduceAdd]
  repeat' (first
    | refine St.h ?_
    | simp (disch := first | omega | (simp only [lnv]; omega)) only [wlk, ↓get_put', Nat.reduceEqDiff, Nat.reduceLT, ↓reduceIte, Int.reduceToNat, Nat.reducePow, Nat.min_eq_left, Nat.reduceAdd, Nat.reduceMul, Int.reduceAdd, Int.reduceSub, Int.reduceNeg, Int.reduceMul, Int.reduceEq, Int.reduceLT, Int.reduceLE, Nat.reduceSub, Int.reduceNatCast, Nat.reduceLeDiff]
    | (with_reducible (first | apply cd_split | apply gd_split)) <;> (intro hc; (try simp only [hcn] at hc); (try simp only [hc]); (try simp only [hcl] at hc); try omega))
  refine Ok.lp (fun m t g => ∃ j : Nat, m = L.length - j ∧ Stay nowhere h g ∧ srtU L j = true ∧ j ≤ L.length - 1 ∧ get 0 t = v ∧ get 3 t = .i .i64 ((j : Int) + 1)) L.length ?_ ?_
  · simp (disch := first | omega | (simp only [lnv]; omega)) only [wlk, ↓get_put', Nat.reduceEqDiff, Nat.reduceLT, ↓reduceIte, Int.reduceToNat, Nat.reducePow, Nat.min_eq_left, Nat.reduceAdd, Nat.reduceMul, Int.reduceAdd, Int.reduceSub, Int.reduceNeg, Int.reduceMul, Int.reduceEq, Int.reduceLT, Int.reduceLE, Nat.reduceSub, Int.reduceNatCast, Nat.reduceLeDiff]
    exact ⟨0, by omega, Stay.refl _ _, rfl, by omega, trivial, rfl⟩
  rintro I hI m t g ⟨j, rfl, st, hs, hj, f0, f3⟩
  have hL' := hL.grow st
  have ej : (j : Int) + 1 - 1 = (j : Int) := by omega
  have ek : ((j : Int) + 1).toNat = j + 1 := by omega
  repeat' (first
    | refine St.h ?_
    | simp (disch := first | omega | (simp only [lnv]; omega)) only [wlk, ↓get_put', Nat.reduceEqDiff, Nat.reduceLT, ↓reduceIte, Int.reduceToNat, Nat.reducePow, Nat.min_eq_left, Nat.reduceAdd, Nat.reduceMul, Int.reduceAdd, Int.reduceSub, Int.reduceNeg, Int.reduceMul, Int.reduceEq, Int.reduceLT, Int.reduceLE, Nat.reduceSub, Int.reduceNatCast, Nat.reduceLeDiff, f0, f3, hL.ln, hL.ix, hL'.la, ej, ek, Int.toNat_natCast]
    | (with_reducible (first | apply cd_split | apply gd_split)) <;> (intro hc; (try simp only [hcn] at hc); (try simp only [hc]); (try simp only [hcl] at hc); try omega))
  · refine CL.stay (less_ok (st.fl hf)) fun h1 s1 => ?_
    cases hb : lessE (L.getD j default) (L.getD (j + 1) default) with
    | false =>
      repeat' (first
        | refine St.h ?_
        | simp (disch := first | omega | (simp only [lnv]; omega)) only [wlk, ↓get_put', Nat.reduceEqDiff, Nat.reduceLT, ↓reduceIte, Int.reduceToNat, Nat.reducePow, Nat.min_eq_left, Nat.reduceAdd, Nat.reduceMul, Int.reduceAdd, Int.reduceSub, Int.reduceNeg, Int.reduceMul, Int.reduceEq, Int.reduceLT, Int.reduceLE, Nat.reduceSub, Int.reduceNatCast, Nat.reduceLeDiff, f0, f3]
        | (with_reducible (first | apply cd_split | apply gd_split)) <;> (intro hc; (try simp only [hcn] at hc); (try simp only [hc]); (try simp only [hcl] at hc); try omega))
      subst hQ
      exact ⟨by rw [sorted_no (by omega) hb], st.trans s1⟩
    | true =>
      repeat' (first
        | refine St.h ?_
        | simp (disch := first | omega | (simp only [lnv]; omega)) only [wlk, ↓get_put', Nat.reduceEqDiff, Nat.reduceLT, ↓reduceIte, Int.reduceToNat, Nat.reducePow, Nat.min_eq_left, Nat.reduceAdd, Nat.reduceMul, Int.reduceAdd, Int.reduceSub, Int.reduceNeg, Int.reduceMul, Int.reduceEq, Int.reduceLT, Int.reduceLE, Nat.reduceSub, Int.reduceNatCast, Nat.reduceLeDiff, f0, f3]
        | (with_reducible (first | apply cd_split | apply gd_split)) <;> (intro hc; (try simp only [hcn] at hc); (try simp only [hc]); (try simp only [hcl] at hc); try omega))
      refine lp_next hI (L.length - (j + 1)) (by omega) ⟨j + 1, rfl, st.trans s1, by rw [srtU_succ, hs, hb]; rfl, by omega, ?_, ?_⟩
      · simp (disch := first | omega | (simp only [lnv]; omega)) only [wlk, ↓get_put', Nat.reduceEqDiff, Nat.reduceLT, ↓reduceIte, Int.reduceToNat, Nat.reducePow, Nat.min_eq_left, Nat.reduceAdd, Nat.reduceMul, Int.reduceAdd, Int.reduceSub, Int.reduceNeg, Int.reduceMul, Int.reduceEq, Int.reduceLT, Int.reduceLE, Nat.reduceSub, Int.reduceNatCast, Nat.reduceLeDiff, f0]
      · simp (disch := first | omega | (simp only [lnv]; omega)) only [wlk, ↓get_put', Nat.reduceEqDiff, Nat.reduceLT, ↓reduceIte, Int.reduceToNat, Nat.reducePow, Nat.min_eq_left, Nat.reduceAdd, Nat.reduceMul, Int.reduceAdd, Int.reduceSub, Int.reduceNeg, Int.reduceMul, Int.reduceEq, Int.reduceLT, Int.reduceLE, Nat.reduceSub, Int.reduceNatCast, Nat.reduceLeDiff]; rfl
  · subst hQ
    obtain rfl : j = L.length - 1 := by omega
    exact ⟨by rw [show sortedE L = true from hs], st⟩
end Go.Proofs.Ytjlhfoadabkahaa

set_option maxRecDepth 100000
set_option maxHeartbeats 8000000
set_option linter.all false
namespace Go.Proofs.Ytjlhfoadabkahaa
open Go Go.Ev
theorem isE_len {e : Ent} (h : isE e = true) : e.key.length ≤ 13 ∧ e.val.length ≤ 24 ∧ 1 ≤ e.seq ∧ e.seq ≤ 1000000 := by
  obtain ⟨⟨h1, h2⟩, h3, h4, h5, _⟩ := isE_iff.1 h; exact ⟨h4, h5, h1, h2⟩
theorem textB_len (l : List UInt8) (h : l.length ≤ 9223372036854775807) : (textB l).length ≤ l.length + 9 := by
  unfold textB; rw [List.length_append]; have := numB_len h; omega
theorem bytes_ok {h : H} {e : Ent} (hf : B.val h.floor ≤ B.val h.next) : FnOk Try.prog 92 [.a [sv e.key, .i .i64 e.seq, .b e.del, sv e.val]] h fun y h' => y = sv (bytesE e) ∧ Stay nowhere h h' := by
  refine fn_go c92 (by intro hb; cases hb) (by simp) (by simp) fun Q hQ => ?_
  simp only [slotsF, Nat.reduceAdd]
  repeat' (first
    | refine St.h ?_
    | simp (disch := first | omega | (simp only [lnv]; omega)) only [wlk, ↓get_put', Nat.reduceEqDiff, Nat.reduceLT, ↓reduceIte, Int.reduceToNat, Nat.reducePow, Nat.min_eq_left, Nat.reduceAdd, Nat.reduceMul, Int.reduceAdd, Int.reduceSub, Int.reduceNeg, Int.reduceMul, Int.reduceEq, Int.reduceLT, Int.reduceLE, Nat.reduceSub, Int.reduceNatCast, Nat.reduceLeDiff]
    | (with_reducible (first | apply cd_split | apply gd_split)) <;> (intro hc; (try simp only [hcn] at hc); (try simp only [hc]); (try simp only [hcl] at hc); try omega))
  refine AL.own (by simp) hf fun h1 s1 n1 o1 => ?_
  have hf1 := s1.fl hf
  repeat' (first
    | refine St.h ?_
    | simp (disch := first | omega | (simp only [lnv]; omega)) only [wlk, ↓get_put', Nat.reduceEqDiff, Nat.reduceLT, ↓reduceIte, Int.reduceToNat, Nat.reducePow, Nat.min_eq_left, Nat.reduceAdd, Nat.reduceMul, Int.reduceAdd, Int.reduceSub, Int.reduceNeg, Int.reduceMul, Int.reduceEq, Int.reduceLT, Int.reduceLE, Nat.reduceSub, Int.reduceNatCast, Nat.reduceLeDiff, o1.row.l1, o1.row.ln]
    | (with_reducible (first | apply cd_split | apply gd_split)) <;> (intro hc; (try simp only [hcn] at hc); (try simp only [hc]); (try simp only [hcl] at hc); try omega))
  refine CL.stay (is_ok hf1) fun h2 s2 => ?_
  have hf2 := s2.fl hf1
  have o2 := o1.stay s2 fun h => h
  cases hi : isE e with
  | false =>
    repeat' (first
      | refine St.h ?_
      | simp (disch := first | omega | (simp only [lnv]; omega)) only [wlk, ↓get_put', Nat.reduceEqDiff, Nat.reduceLT, ↓reduceIte, Int.reduceToNat, Nat.reducePow, Nat.min_eq_left, Nat.reduceAdd, Nat.reduceMul, Int.reduceAdd, Int.reduceSub, Int.reduceNeg, Int.reduceMul, Int.reduceEq, Int.reduceLT, Int.reduceLE, Nat.reduceSub, Int.reduceNatCast, Nat.reduceLeDiff, o2.row.l1]
      | (with_reducible (first | apply cd_split | apply gd_split)) <;> (intro hc; (try simp only [hcn] at hc); (try simp only [hc]); (try simp only [hcl] at hc); try omega))
    subst hQ
    exact ⟨by unfold bytesE; rw [hi]; rfl, s1.trans s2⟩
  | true =>
  obtain ⟨k1, k2, k3, k4⟩ := isE_len hi
  have hb : bytesE e = textB e.key ++ tailB e := by unfold bytesE; rw [hi]; rfl
  have l1 := textB_len e.key (by omega)
  have l2 := textB_len e.val (by omega)
  have l3 := numB_len (n := e.seq.toNat) (by omega)
  repeat' (first
    | refine St.h ?_
    | simp (disch := first | omega | (simp only [lnv]; omega)) only [wlk, ↓get_put', Nat.reduceEqDiff, Nat.reduceLT, ↓reduceIte, Int.reduceToNat, Nat.reducePow, Nat.min_eq_left, Nat.reduceAdd, Nat.reduceMul, Int.reduceAdd, Int.reduceSub, Int.reduceNeg, Int.reduceMul, Int.reduceEq, Int.reduceLT, Int.reduceLE, Nat.reduceSub, Int.reduceNatCast, Nat.reduceLeDiff, o2.row.l1]
    | (with_reducible (first | apply cd_split | apply gd_split)) <;> (intro hc; (try simp only [hcn] at hc); (try simp only [hc]); (try simp only [hcl] at hc); try omega))
  refine CL.stayU (text_ok (by omega) (re_fl _)) fun h3 s3 => ?_
  have o3 := o2.stay s3 fun h => h
  have hf3 := s3.fl hf2
  repeat' (first
    | refine St.h ?_
    | simp (disch := first | omega | (simp only [lnv]; omega)) only [wlk, ↓get_put', Nat.reduceEqDiff, Nat.reduceLT, ↓reduceIte, Int.reduceToNat, Nat.reducePow, Nat.min_eq_left, Nat.reduceAdd, Nat.reduceMul, Int.reduceAdd, Int.reduceSub, Int.reduceNeg, Int.reduceMul, Int.reduceEq, Int.reduceLT, Int.reduceLE, Nat.reduceSub, Int.reduceNatCast, Nat.reduceLeDiff, o3.row.l1]
    | (with_reducible (first | apply cd_split | apply gd_split)) <;> (intro hc; (try simp only [hcn] at hc); (try simp only [hc]); (try simp only [hcl] at hc); try omega))
  refine CL.stay (num_ok (by omega) hf3) fun h4 s4 => ?_
  have o4 := o3.stay s4 fun h => h
  have hf4 := s4.fl hf3
  have s14 := ((s1.trans s2).trans s3).trans s4
  cases hd : e.del with
  | true =>
    repeat' (first
      | refine St.h ?_
      | simp (disch := first | omega | (simp only [lnv]; omega)) only [wlk, ↓get_put', Nat.reduceEqDiff, Nat.reduceLT, ↓reduceIte, Int.reduceToNat, Nat.reducePow, Nat.min_eq_left, Nat.reduceAdd, Nat.reduceMul, Int.reduceAdd, Int.reduceSub, Int.reduceNeg, Int.reduceMul, Int.reduceEq, Int.reduceLT, Int.reduceLE, Nat.reduceSub, Int.reduceNatCast, Nat.reduceLeDiff, o4.row.l1, hd]
      | (with_reducible (first | apply cd_split | apply gd_split)) <;> (intro hc; (try simp only [hcn] at hc); (try simp only [hc]); (try simp only [hcl] at hc); try omega))
    refine AL.str (bs := [1]) rfl (by simp) rfl rfl (by simp) hf4 fun h5 u5 s5 => ?_
    repeat' (first
      | refine St.h ?_
      | simp (disch := first | omega | (simp only [lnv]; omega)) only [wlk, ↓get_put', Nat.reduceEqDiff, Nat.reduceLT, ↓reduceIte, Int.reduceToNat, Nat.reducePow, Nat.min_eq_left, Nat.reduceAdd, Nat.reduceMul, Int.reduceAdd, Int.reduceSub, Int.reduceNeg, Int.reduceMul, Int.reduceEq, Int.reduceLT, Int.reduceLE, Nat.reduceSub, Int.reduceNatCast, Nat.reduceLeDiff]
      | (with_reducible (first | apply cd_split | apply gd_split)) <;> (intro hc; (try simp only [hcn] at hc); (try simp only [hc]); (try simp only [hcl] at hc); try omega))
    subst hQ
    exact ⟨by rw [hb]; unfold tailB; rw [hd]; simp, s14.trans s5⟩
  | false =>
    repeat' (first
      | refine St.h ?_
      | simp (disch := first | omega | (simp only [lnv]; omega)) only [wlk, ↓get_put', Nat.reduceEqDiff, Nat.reduceLT, ↓reduceIte, Int.reduceToNat, Nat.reducePow, Nat.min_eq_left, Nat.reduceAdd, Nat.reduceMul, Int.reduceAdd, Int.reduceSub, Int.reduceNeg, Int.reduceMul, Int.reduceEq, Int.reduceLT, Int.reduceLE, Nat.reduceSub, Int.reduceNatCast, Nat.reduceLeDiff, o4.row.l1, hd]
      | (with_reducible (first | apply cd_split | apply gd_split)) <;> (intro hc; (try simp only [hcn] at hc); (try simp only [hc]); (try simp only [hcl] at hc); try omega))
    refine AL.strU (bs := [0]) rfl (by simp) rfl rfl (by simp) hf4 fun h5 u5 s5 => ?_
    have o5 := o4.stay s5 fun h => h
    have hf5 := s5.fl hf4
    repeat' (first
      | refine St.h ?_
      | simp (disch := first | omega | (simp only [lnv]; omega)) only [wlk, ↓get_put', Nat.reduceEqDiff, Nat.reduceLT, ↓reduceIte, Int.reduceToNat, Nat.reducePow, Nat.min_eq_left, Nat.reduceAdd, Nat.reduceMul, Int.reduceAdd, Int.reduceSub, Int.reduceNeg, Int.reduceMul, Int.reduceEq, Int.reduceLT, Int.reduceLE, Nat.reduceSub, Int.reduceNatCast, Nat.reduceLeDiff, o5.row.l1]
      | (with_reducible (first | apply cd_split | apply gd_split)) <;> (intro hc; (try simp only [hcn] at hc); (try simp only [hc]); (try simp only [hcl] at hc); try omega))
    refine CL.stayU (text_ok (by omega) (re_fl _)) fun h6 s6 => ?_
    repeat' (first
      | refine St.h ?_
      | simp (disch := first | omega | (simp only [lnv]; omega)) only [wlk, ↓get_put', Nat.reduceEqDiff, Nat.reduceLT, ↓reduceIte, Int.reduceToNat, Nat.reducePow, Nat.min_eq_left, Nat.reduceAdd, Nat.reduceMul, Int.reduceAdd, Int.reduceSub, Int.reduceNeg, Int.reduceMul, Int.reduceEq, Int.reduceLT, Int.reduceLE, Nat.reduceSub, Int.reduceNatCast, Nat.reduceLeDiff]
      | (with_reducible (first | apply cd_split | apply gd_split)) <;> (intro hc; (try simp only [hcn] at hc); (try simp only [hc]); (try simp only [hcl] at hc); try omega))
    subst hQ
    exact ⟨by rw [hb]; unfold tailB; rw [hd]; simp, (s14.trans s5).trans s6⟩
end Go.Proofs.Ytjlhfoadabkahaa

set_option maxRecDepth 100000
set_option maxHeartbeats 8000000
set_option linter.all false
namespace Go.Proofs.Ytjlhfoadabkahaa
open Go Go.Ev
theorem take_ok {h : H} {s : List UInt8} (hs : s.length ≤ 1000000) (hf : B.val h.floor ≤ B.val h.next) : FnOk Try.prog 118 [sv s] h fun y h' => y = triE (takeE s) ∧ Stay nowhere h h' := by
  refine fn_go c118 (by intro hb; cases hb) (by simp) (by simp) fun Q hQ => ?_
  simp only [slotsF, Nat.reduceAdd]
  repeat' (first
    | refine St.h ?_
    | simp (disch := first | omega | (simp only [lnv]; omega)) only [wlk, ↓get_put', Nat.reduceEqDiff, Nat.reduceLT, ↓reduceIte, Int.reduceToNat, Nat.reducePow, Nat.min_eq_left, Nat.reduceAdd, Nat.reduceMul, Int.reduceAdd, Int.reduceSub, Int.reduceNeg, Int.reduceMul, Int.reduceEq, Int.reduceLT, Int.reduceLE, Nat.reduceSub, Int.reduceNatCast, Nat.reduceLeDiff]
    | (with_reducible (first | apply cd_split | apply gd_split)) <;> (intro hc; (try simp only [hcn] at hc); (try simp only [hc]); (try simp only [hcl] at hc); try omega))
  refine AL.own (by simp) hf fun h1 s1 n1 o1 => ?_
  repeat' (first
    | refine St.h ?_
    | simp (disch := first | omega | (simp only [lnv]; omega)) only [wlk, ↓get_put', Nat.reduceEqDiff, Nat.reduceLT, ↓reduceIte, Int.reduceToNat, Nat.reducePow, Nat.min_eq_left, Nat.reduceAdd, Nat.reduceMul, Int.reduceAdd, Int.reduceSub, Int.reduceNeg, Int.reduceMul, Int.reduceEq, Int.reduceLT, Int.reduceLE, Nat.reduceSub, Int.reduceNatCast, Nat.reduceLeDiff]
    | (with_reducible (first | apply cd_split | apply gd_split)) <;> (intro hc; (try simp only [hcn] at hc); (try simp only [hc]); (try simp only [hcl] at hc); try omega))
  refine CL.pure (takeText_ok hs) ?_
  rcases takeT_range s with (hc | hc) | ⟨k, n, hc, k1, k2, k3⟩
  · rw [hc]; unfold triT
    repeat' (first
      | refine St.h ?_
      | simp (disch := first | omega | (simp only [lnv]; omega)) only [wlk, ↓get_put', Nat.reduceEqDiff, Nat.reduceLT, ↓reduceIte, Int.reduceToNat, Nat.reducePow, Nat.min_eq_left, Nat.reduceAdd, Nat.reduceMul, Int.reduceAdd, Int.reduceSub, Int.reduceNeg, Int.reduceMul, Int.reduceEq, Int.reduceLT, Int.reduceLE, Nat.reduceSub, Int.reduceNatCast, Nat.reduceLeDiff]
      | (with_reducible (first | apply cd_split | apply gd_split)) <;> (intro hc; (try simp only [hcn] at hc); (try simp only [hc]); (try simp only [hcl] at hc); try omega))
    refine ST.all o1 rfl rfl (by simp) (by simp) fun hz oz sz => ?_
    repeat' (first
      | refine St.h ?_
      | simp (disch := first | omega | (simp only [lnv]; omega)) only [wlk, ↓get_put', Nat.reduceEqDiff, Nat.reduceLT, ↓reduceIte, Int.reduceToNat, Nat.reducePow, Nat.min_eq_left, Nat.reduceAdd, Nat.reduceMul, Int.reduceAdd, Int.reduceSub, Int.reduceNeg, Int.reduceMul, Int.reduceEq, Int.reduceLT, Int.reduceLE, Nat.reduceSub, Int.reduceNatCast, Nat.reduceLeDiff, oz.ra4]
      | (with_reducible (first | apply cd_split | apply gd_split)) <;> (intro hc; (try simp only [hcn] at hc); (try simp only [hc]); (try simp only [hcl] at hc); try omega))
    subst hQ
    exact ⟨by rw [takeE_1 hc (by omega)]; rfl, (s1).past' sz fun i hi => by rw [hi]; exact Nat.le_refl _⟩
  · rw [hc]; unfold triT
    repeat' (first
      | refine St.h ?_
      | simp (disch := first | omega | (simp only [lnv]; omega)) only [wlk, ↓get_put', Nat.reduceEqDiff, Nat.reduceLT, ↓reduceIte, Int.reduceToNat, Nat.reducePow, Nat.min_eq_left, Nat.reduceAdd, Nat.reduceMul, Int.reduceAdd, Int.reduceSub, Int.reduceNeg, Int.reduceMul, Int.reduceEq, Int.reduceLT, Int.reduceLE, Nat.reduceSub, Int.reduceNatCast, Nat.reduceLeDiff]
      | (with_reducible (first | apply cd_split | apply gd_split)) <;> (intro hc; (try simp only [hcn] at hc); (try simp only [hc]); (try simp only [hcl] at hc); try omega))
    refine ST.all o1 rfl rfl (by simp) (by simp) fun hz oz sz => ?_
    repeat' (first
      | refine St.h ?_
      | simp (disch := first | omega | (simp only [lnv]; omega)) only [wlk, ↓get_put', Nat.reduceEqDiff, Nat.reduceLT, ↓reduceIte, Int.reduceToNat, Nat.reducePow, Nat.min_eq_left, Nat.reduceAdd, Nat.reduceMul, Int.reduceAdd, Int.reduceSub, Int.reduceNeg, Int.reduceMul, Int.reduceEq, Int.reduceLT, Int.reduceLE, Nat.reduceSub, Int.reduceNatCast, Nat.reduceLeDiff, oz.ra4]
      | (with_reducible (first | apply cd_split | apply gd_split)) <;> (intro hc; (try simp only [hcn] at hc); (try simp only [hc]); (try simp only [hcl] at hc); try omega))
    subst hQ
    exact ⟨by rw [takeE_1 hc (by omega)]; rfl, (s1).past' sz fun i hi => by rw [hi]; exact Nat.le_refl _⟩
  rw [hc]; unfold triT
  repeat' (first
    | refine St.h ?_
    | simp (disch := first | omega | (simp only [lnv]; omega)) only [wlk, ↓get_put', Nat.reduceEqDiff, Nat.reduceLT, ↓reduceIte, Int.reduceToNat, Nat.reducePow, Nat.min_eq_left, Nat.reduceAdd, Nat.reduceMul, Int.reduceAdd, Int.reduceSub, Int.reduceNeg, Int.reduceMul, Int.reduceEq, Int.reduceLT, Int.reduceLE, Nat.reduceSub, Int.reduceNatCast, Nat.reduceLeDiff, Int.toNat_natCast]
    | (with_reducible (first | apply cd_split | apply gd_split)) <;> (intro hc; (try simp only [hcn] at hc); (try simp only [hc]); (try simp only [hcl] at hc); try omega))
  have hd : (s.drop n).length = s.length - n := List.length_drop
  refine CL.pure (takeNum_ok (by omega)) ?_
  rcases takeN_range (s.drop n) with (hn | hn) | ⟨q, m, hn, m1, m2, m3, m4⟩
  · rw [hn]; unfold tri
    repeat' (first
      | refine St.h ?_
      | simp (disch := first | omega | (simp only [lnv]; omega)) only [wlk, ↓get_put', Nat.reduceEqDiff, Nat.reduceLT, ↓reduceIte, Int.reduceToNat, Nat.reducePow, Nat.min_eq_left, Nat.reduceAdd, Nat.reduceMul, Int.reduceAdd, Int.reduceSub, Int.reduceNeg, Int.reduceMul, Int.reduceEq, Int.reduceLT, Int.reduceLE, Nat.reduceSub, Int.reduceNatCast, Nat.reduceLeDiff]
      | (with_reducible (first | apply cd_split | apply gd_split)) <;> (intro hc; (try simp only [hcn] at hc); (try simp only [hc]); (try simp only [hcl] at hc); try omega))
    refine ST.all o1 rfl rfl (by simp) (by simp) fun hz oz sz => ?_
    repeat' (first
      | refine St.h ?_
      | simp (disch := first | omega | (simp only [lnv]; omega)) only [wlk, ↓get_put', Nat.reduceEqDiff, Nat.reduceLT, ↓reduceIte, Int.reduceToNat, Nat.reducePow, Nat.min_eq_left, Nat.reduceAdd, Nat.reduceMul, Int.reduceAdd, Int.reduceSub, Int.reduceNeg, Int.reduceMul, Int.reduceEq, Int.reduceLT, Int.reduceLE, Nat.reduceSub, Int.reduceNatCast, Nat.reduceLeDiff, oz.ra4]
      | (with_reducible (first | apply cd_split | apply gd_split)) <;> (intro hc; (try simp only [hcn] at hc); (try simp only [hc]); (try simp only [hcl] at hc); try omega))
    subst hQ
    exact ⟨by rw [takeE_3 hc (tailU_1 hn (by omega)) (by omega)]; rfl, (s1).past' sz fun i hi => by rw [hi]; exact Nat.le_refl _⟩
  · rw [hn]; unfold tri
    repeat' (first
      | refine St.h ?_
      | simp (disch := first | omega | (simp only [lnv]; omega)) only [wlk, ↓get_put', Nat.reduceEqDiff, Nat.reduceLT, ↓reduceIte, Int.reduceToNat, Nat.reducePow, Nat.min_eq_left, Nat.reduceAdd, Nat.reduceMul, Int.reduceAdd, Int.reduceSub, Int.reduceNeg, Int.reduceMul, Int.reduceEq, Int.reduceLT, Int.reduceLE, Nat.reduceSub, Int.reduceNatCast, Nat.reduceLeDiff]
      | (with_reducible (first | apply cd_split | apply gd_split)) <;> (intro hc; (try simp only [hcn] at hc); (try simp only [hc]); (try simp only [hcl] at hc); try omega))
    refine ST.all o1 rfl rfl (by simp) (by simp) fun hz oz sz => ?_
    repeat' (first
      | refine St.h ?_
      | simp (disch := first | omega | (simp only [lnv]; omega)) only [wlk, ↓get_put', Nat.reduceEqDiff, Nat.reduceLT, ↓reduceIte, Int.reduceToNat, Nat.reducePow, Nat.min_eq_left, Nat.reduceAdd, Nat.reduceMul, Int.reduceAdd, Int.reduceSub, Int.reduceNeg, Int.reduceMul, Int.reduceEq, Int.reduceLT, Int.reduceLE, Nat.reduceSub, Int.reduceNatCast, Nat.reduceLeDiff, oz.ra4]
      | (with_reducible (first | apply cd_split | apply gd_split)) <;> (intro hc; (try simp only [hcn] at hc); (try simp only [hc]); (try simp only [hcl] at hc); try omega))
    subst hQ
    exact ⟨by rw [takeE_3 hc (tailU_1 hn (by omega)) (by omega)]; rfl, (s1).past' sz fun i hi => by rw [hi]; exact Nat.le_refl _⟩
  rw [hn]; unfold tri
  have hg := getD_drop (s := s) n m
  have hb := (s.getD (n + m) 0).toNat_lt
  have ek : ((n : Int) + (m : Int)).toNat = n + m := by omega
  have ej : ((n : Int) + (m : Int) + 1).toNat = n + m + 1 := by omega
  have hdd : (s.drop n).drop (m + 1) = s.drop (n + m + 1) := by rw [List.drop_drop]; congr 1
  have hdl : (s.drop (n + m + 1)).length = s.length - (n + m + 1) := List.length_drop
  by_cases hm : m = (s.drop n).length
  · have hq : ((n : Int) + (m : Int) = (s.length : Int)) = True := eq_true (by omega)
    repeat' (first
      | refine St.h ?_
      | simp (disch := first | omega | (simp only [lnv]; omega)) only [wlk, ↓get_put', Nat.reduceEqDiff, Nat.reduceLT, ↓reduceIte, Int.reduceToNat, Nat.reducePow, Nat.min_eq_left, Nat.reduceAdd, Nat.reduceMul, Int.reduceAdd, Int.reduceSub, Int.reduceNeg, Int.reduceMul, Int.reduceEq, Int.reduceLT, Int.reduceLE, Nat.reduceSub, Int.reduceNatCast, Nat.reduceLeDiff, ek, ej, hq]
      | (with_reducible (first | apply cd_split | apply gd_split)) <;> (intro hc; (try simp only [hcn] at hc); (try simp only [hc]); (try simp only [hcl] at hc); try omega))
    refine ST.all o1 rfl rfl (by simp) (by simp) fun hz oz sz => ?_
    repeat' (first
      | refine St.h ?_
      | simp (disch := first | omega | (simp only [lnv]; omega)) only [wlk, ↓get_put', Nat.reduceEqDiff, Nat.reduceLT, ↓reduceIte, Int.reduceToNat, Nat.reducePow, Nat.min_eq_left, Nat.reduceAdd, Nat.reduceMul, Int.reduceAdd, Int.reduceSub, Int.reduceNeg, Int.reduceMul, Int.reduceEq, Int.reduceLT, Int.reduceLE, Nat.reduceSub, Int.reduceNatCast, Nat.reduceLeDiff, oz.ra4]
      | (with_reducible (first | apply cd_split | apply gd_split)) <;> (intro hc; (try simp only [hcn] at hc); (try simp only [hc]); (try simp only [hcl] at hc); try omega))
    subst hQ
    exact ⟨by rw [takeE_3 hc (tailU_2 hn hm) (by omega)]; rfl, (s1).past' sz fun i hi => by rw [hi]; exact Nat.le_refl _⟩
  have hq : ((n : Int) + (m : Int) = (s.length : Int)) = False := eq_false (by omega)
  by_cases c0 : (s.getD (n + m) 0).toNat = 0
  · repeat' (first
      | refine St.h ?_
      | simp (disch := first | omega | (simp only [lnv]; omega)) only [wlk, ↓get_put', Nat.reduceEqDiff, Nat.reduceLT, ↓reduceIte, Int.reduceToNat, Nat.reducePow, Nat.min_eq_left, Nat.reduceAdd, Nat.reduceMul, Int.reduceAdd, Int.reduceSub, Int.reduceNeg, Int.reduceMul, Int.reduceEq, Int.reduceLT, Int.reduceLE, Nat.reduceSub, Int.reduceNatCast, Nat.reduceLeDiff, ek, ej, hq, c0]
      | (with_reducible (first | apply cd_split | apply gd_split)) <;> (intro hc; (try simp only [hcn] at hc); (try simp only [hc]); (try simp only [hcl] at hc); try omega))
    refine CL.pure (takeText_ok (by omega)) ?_
    rcases takeT_range (s.drop (n + m + 1)) with (hv | hv) | ⟨v, j, hv, j1, j2, j3⟩
    · rw [hv]; unfold triT
      repeat' (first
        | refine St.h ?_
        | simp (disch := first | omega | (simp only [lnv]; omega)) only [wlk, ↓get_put', Nat.reduceEqDiff, Nat.reduceLT, ↓reduceIte, Int.reduceToNat, Nat.reducePow, Nat.min_eq_left, Nat.reduceAdd, Nat.reduceMul, Int.reduceAdd, Int.reduceSub, Int.reduceNeg, Int.reduceMul, Int.reduceEq, Int.reduceLT, Int.reduceLE, Nat.reduceSub, Int.reduceNatCast, Nat.reduceLeDiff]
        | (with_reducible (first | apply cd_split | apply gd_split)) <;> (intro hc; (try simp only [hcn] at hc); (try simp only [hc]); (try simp only [hcl] at hc); try omega))
      refine ST.all o1 rfl rfl (by simp) (by simp) fun hz oz sz => ?_
      repeat' (first
        | refine St.h ?_
        | simp (disch := first | omega | (simp only [lnv]; omega)) only [wlk, ↓get_put', Nat.reduceEqDiff, Nat.reduceLT, ↓reduceIte, Int.reduceToNat, Nat.reducePow, Nat.min_eq_left, Nat.reduceAdd, Nat.reduceMul, Int.reduceAdd, Int.reduceSub, Int.reduceNeg, Int.reduceMul, Int.reduceEq, Int.reduceLT, Int.reduceLE, Nat.reduceSub, Int.reduceNatCast, Nat.reduceLeDiff, oz.ra4]
        | (with_reducible (first | apply cd_split | apply gd_split)) <;> (intro hc; (try simp only [hcn] at hc); (try simp only [hc]); (try simp only [hcl] at hc); try omega))
      subst hQ
      exact ⟨by rw [takeE_3 hc (tailU_3 hn hm (by rw [hg]; exact c0) (by rw [hdd]; exact hv) (by omega)) (by omega)]; rfl, (s1).past' sz fun i hi => by rw [hi]; exact Nat.le_refl _⟩
    · rw [hv]; unfold triT
      repeat' (first
        | refine St.h ?_
        | simp (disch := first | omega | (simp only [lnv]; omega)) only [wlk, ↓get_put', Nat.reduceEqDiff, Nat.reduceLT, ↓reduceIte, Int.reduceToNat, Nat.reducePow, Nat.min_eq_left, Nat.reduceAdd, Nat.reduceMul, Int.reduceAdd, Int.reduceSub, Int.reduceNeg, Int.reduceMul, Int.reduceEq, Int.reduceLT, Int.reduceLE, Nat.reduceSub, Int.reduceNatCast, Nat.reduceLeDiff]
        | (with_reducible (first | apply cd_split | apply gd_split)) <;> (intro hc; (try simp only [hcn] at hc); (try simp only [hc]); (try simp only [hcl] at hc); try omega))
      refine ST.all o1 rfl rfl (by simp) (by simp) fun hz oz sz => ?_
      repeat' (first
        | refine St.h ?_
        | simp (disch := first | omega | (simp only [lnv]; omega)) only [wlk, ↓get_put', Nat.reduceEqDiff, Nat.reduceLT, ↓reduceIte, Int.reduceToNat, Nat.reducePow, Nat.min_eq_left, Nat.reduceAdd, Nat.reduceMul, Int.reduceAdd, Int.reduceSub, Int.reduceNeg, Int.reduceMul, Int.reduceEq, Int.reduceLT, Int.reduceLE, Nat.reduceSub, Int.reduceNatCast, Nat.reduceLeDiff, oz.ra4]
        | (with_reducible (first | apply cd_split | apply gd_split)) <;> (intro hc; (try simp only [hcn] at hc); (try simp only [hc]); (try simp only [hcl] at hc); try omega))
      subst hQ
      exact ⟨by rw [takeE_3 hc (tailU_3 hn hm (by rw [hg]; exact c0) (by rw [hdd]; exact hv) (by omega)) (by omega)]; rfl, (s1).past' sz fun i hi => by rw [hi]; exact Nat.le_refl _⟩
    rw [hv]; unfold triT
    repeat' (first
      | refine St.h ?_
      | simp (disch := first | omega | (simp only [lnv]; omega)) only [wlk, ↓get_put', Nat.reduceEqDiff, Nat.reduceLT, ↓reduceIte, Int.reduceToNat, Nat.reducePow, Nat.min_eq_left, Nat.reduceAdd, Nat.reduceMul, Int.reduceAdd, Int.reduceSub, Int.reduceNeg, Int.reduceMul, Int.reduceEq, Int.reduceLT, Int.reduceLE, Nat.reduceSub, Int.reduceNatCast, Nat.reduceLeDiff]
      | (with_reducible (first | apply cd_split | apply gd_split)) <;> (intro hc; (try simp only [hcn] at hc); (try simp only [hc]); (try simp only [hcl] at hc); try omega))
    have ez : (n : Int) + ((m : Int) + 1 + (j : Int)) = (n : Int) + (m : Int) + 1 + (j : Int) := by omega
    refine ST.all o1 rfl rfl (by simp) (by simp) fun hz oz sz => ?_
    repeat' (first
      | refine St.h ?_
      | simp (disch := first | omega | (simp only [lnv]; omega)) only [wlk, ↓get_put', Nat.reduceEqDiff, Nat.reduceLT, ↓reduceIte, Int.reduceToNat, Nat.reducePow, Nat.min_eq_left, Nat.reduceAdd, Nat.reduceMul, Int.reduceAdd, Int.reduceSub, Int.reduceNeg, Int.reduceMul, Int.reduceEq, Int.reduceLT, Int.reduceLE, Nat.reduceSub, Int.reduceNatCast, Nat.reduceLeDiff, oz.ra4]
      | (with_reducible (first | apply cd_split | apply gd_split)) <;> (intro hc; (try simp only [hcn] at hc); (try simp only [hc]); (try simp only [hcl] at hc); try omega))
    subst hQ
    exact ⟨by rw [takeE_4 hc (tailU_4 hn hm (by rw [hg]; exact c0) (by rw [hdd]; exact hv)), ez]; rfl, (s1).past' sz fun i hi => by rw [hi]; exact Nat.le_refl _⟩
  have q0 : (((s.getD (n + m) 0).toNat : Int) = 0) = False := eq_false (by omega)
  by_cases c1 : (s.getD (n + m) 0).toNat = 1
  · repeat' (first
      | refine St.h ?_
      | simp (disch := first | omega | (simp only [lnv]; omega)) only [wlk, ↓get_put', Nat.reduceEqDiff, Nat.reduceLT, ↓reduceIte, Int.reduceToNat, Nat.reducePow, Nat.min_eq_left, Nat.reduceAdd, Nat.reduceMul, Int.reduceAdd, Int.reduceSub, Int.reduceNeg, Int.reduceMul, Int.reduceEq, Int.reduceLT, Int.reduceLE, Nat.reduceSub, Int.reduceNatCast, Nat.reduceLeDiff, ek, ej, hq, q0, c1]
      | (with_reducible (first | apply cd_split | apply gd_split)) <;> (intro hc; (try simp only [hcn] at hc); (try simp only [hc]); (try simp only [hcl] at hc); try omega))
    have ez : (n : Int) + ((m : Int) + 1) = (n : Int) + (m : Int) + 1 := by omega
    refine ST.all o1 rfl rfl (by simp) (by simp) fun hz oz sz => ?_
    repeat' (first
      | refine St.h ?_
      | simp (disch := first | omega | (simp only [lnv]; omega)) only [wlk, ↓get_put', Nat.reduceEqDiff, Nat.reduceLT, ↓reduceIte, Int.reduceToNat, Nat.reducePow, Nat.min_eq_left, Nat.reduceAdd, Nat.reduceMul, Int.reduceAdd, Int.reduceSub, Int.reduceNeg, Int.reduceMul, Int.reduceEq, Int.reduceLT, Int.reduceLE, Nat.reduceSub, Int.reduceNatCast, Nat.reduceLeDiff, oz.ra4]
      | (with_reducible (first | apply cd_split | apply gd_split)) <;> (intro hc; (try simp only [hcn] at hc); (try simp only [hc]); (try simp only [hcl] at hc); try omega))
    subst hQ
    exact ⟨by rw [takeE_4 hc (tailU_5 hn hm (by rw [hg]; exact c1)), ez]; rfl, (s1).past' sz fun i hi => by rw [hi]; exact Nat.le_refl _⟩
  have q1 : (((s.getD (n + m) 0).toNat : Int) = 1) = False := eq_false (by omega)
  repeat' (first
    | refine St.h ?_
    | simp (disch := first | omega | (simp only [lnv]; omega)) only [wlk, ↓get_put', Nat.reduceEqDiff, Nat.reduceLT, ↓reduceIte, Int.reduceToNat, Nat.reducePow, Nat.min_eq_left, Nat.reduceAdd, Nat.reduceMul, Int.reduceAdd, Int.reduceSub, Int.reduceNeg, Int.reduceMul, Int.reduceEq, Int.reduceLT, Int.reduceLE, Nat.reduceSub, Int.reduceNatCast, Nat.reduceLeDiff, ek, ej, hq, q0, q1]
    | (with_reducible (first | apply cd_split | apply gd_split)) <;> (intro hc; (try simp only [hcn] at hc); (try simp only [hc]); (try simp only [hcl] at hc); try omega))
  refine ST.all o1 rfl rfl (by simp) (by simp) fun hz oz sz => ?_
  repeat' (first
    | refine St.h ?_
    | simp (disch := first | omega | (simp only [lnv]; omega)) only [wlk, ↓get_put', Nat.reduceEqDiff, Nat.reduceLT, ↓reduceIte, Int.reduceToNat, Nat.reducePow, Nat.min_eq_left, Nat.reduceAdd, Nat.reduceMul, Int.reduceAdd, Int.reduceSub, Int.reduceNeg, Int.reduceMul, Int.reduceEq, Int.reduceLT, Int.reduceLE, Nat.reduceSub, Int.reduceNatCast, Nat.reduceLeDiff, oz.ra4]
    | (with_reducible (first | apply cd_split | apply gd_split)) <;> (intro hc; (try simp only [hcn] at hc); (try simp only [hc]); (try simp only [hcl] at hc); try omega))
  subst hQ
  exact ⟨by rw [takeE_3 hc (tailU_6 hn hm (by rw [hg]; exact c0) (by rw [hg]; exact c1)) (by omega)]; rfl, (s1).past' sz fun i hi => by rw [hi]; exact Nat.le_refl _⟩
end Go.Proofs.Ytjlhfoadabkahaa

set_option maxRecDepth 100000
set_option maxHeartbeats 8000000
set_option linter.all false
namespace Go.Proofs.Ytjlhfoadabkahaa
open Go Go.Ev
theorem own_lt' {h : H} {id : B} {xs : List V} (o : Own h id xs) : B.val id < B.val h.next := by obtain ⟨_, _, _, _, _, _, h6, _⟩ := o; exact h6
theorem b_ne {a b : B} (h : B.val a < B.val b) : a ≠ b := fun e => by rw [e] at h; exact absurd h (Nat.lt_irrefl _)
theorem read_ok {h : H} {s : List UInt8} (hs : s.length ≤ 1000000) (hf : B.val h.floor ≤ B.val h.next) : FnOk Try.prog 105 [sv s] h fun y h' => y = triE (readE s) ∧ Stay nowhere h h' := by
  refine fn_go c105 (by intro hb; cases hb) (by simp) (by simp) fun Q hQ => ?_
  simp only [slotsF, Nat.reduceAdd]
  repeat' (first
    | refine St.h ?_
    | simp (disch := first | omega | (simp only [lnv]; omega)) only [wlk, ↓get_put', Nat.reduceEqDiff, Nat.reduceLT, ↓reduceIte, Int.reduceToNat, Nat.reducePow, Nat.min_eq_left, Nat.reduceAdd, Nat.reduceMul, Int.reduceAdd, Int.reduceSub, Int.reduceNeg, Int.reduceMul, Int.reduceEq, Int.reduceLT, Int.reduceLE, Nat.reduceSub, Int.reduceNatCast, Nat.reduceLeDiff]
    | (with_reducible (first | apply cd_split | apply gd_split)) <;> (intro hc; (try simp only [hcn] at hc); (try simp only [hc]); (try simp only [hcl] at hc); try omega))
  refine AL.own (by simp) hf fun h1 s1 n1 o1 => ?_
  have hf1 := s1.fl hf
  repeat' (first
    | refine St.h ?_
    | simp (disch := first | omega | (simp only [lnv]; omega)) only [wlk, ↓get_put', Nat.reduceEqDiff, Nat.reduceLT, ↓reduceIte, Int.reduceToNat, Nat.reducePow, Nat.min_eq_left, Nat.reduceAdd, Nat.reduceMul, Int.reduceAdd, Int.reduceSub, Int.reduceNeg, Int.reduceMul, Int.reduceEq, Int.reduceLT, Int.reduceLE, Nat.reduceSub, Int.reduceNatCast, Nat.reduceLeDiff]
    | (with_reducible (first | apply cd_split | apply gd_split)) <;> (intro hc; (try simp only [hcn] at hc); (try simp only [hc]); (try simp only [hcl] at hc); try omega))
  refine CL.stay (take_ok hs hf1) fun h2 s2 => ?_
  have hf2 := s2.fl hf1
  have o2 := o1.stay s2 fun h => h
  generalize hr : takeE s = r
  obtain ⟨x, z, f⟩ := r
  obtain ⟨k, q, d, v⟩ := x
  unfold triE entC
  repeat' (first
    | refine St.h ?_
    | simp (disch := first | omega | (simp only [lnv]; omega)) only [wlk, ↓get_put', Nat.reduceEqDiff, Nat.reduceLT, ↓reduceIte, Int.reduceToNat, Nat.reducePow, Nat.min_eq_left, Nat.reduceAdd, Nat.reduceMul, Int.reduceAdd, Int.reduceSub, Int.reduceNeg, Int.reduceMul, Int.reduceEq, Int.reduceLT, Int.reduceLE, Nat.reduceSub, Int.reduceNatCast, Nat.reduceLeDiff]
    | (with_reducible (first | apply cd_split | apply gd_split)) <;> (intro hc; (try simp only [hcn] at hc); (try simp only [hc]); (try simp only [hcl] at hc); try omega))
  refine AL.own (by simp) hf2 fun h3 s3 n3 o3 => ?_
  have hf3 := s3.fl hf2
  have o23 := o2.stay s3 fun h => h
  repeat' (first
    | refine St.h ?_
    | simp (disch := first | omega | (simp only [lnv]; omega)) only [wlk, ↓get_put', Nat.reduceEqDiff, Nat.reduceLT, ↓reduceIte, Int.reduceToNat, Nat.reducePow, Nat.min_eq_left, Nat.reduceAdd, Nat.reduceMul, Int.reduceAdd, Int.reduceSub, Int.reduceNeg, Int.reduceMul, Int.reduceEq, Int.reduceLT, Int.reduceLE, Nat.reduceSub, Int.reduceNatCast, Nat.reduceLeDiff]
    | (with_reducible (first | apply cd_split | apply gd_split)) <;> (intro hc; (try simp only [hcn] at hc); (try simp only [hc]); (try simp only [hcl] at hc); try omega))
  refine ST.all o3 rfl rfl (by simp) (by simp) fun h4 o4 s4 => ?_
  have hlt : B.val h.next < B.val h2.next := own_lt' o2
  have o24 := o23.stay s4 (b_ne hlt)
  have s34 : Stay nowhere h2 h4 := s3.past' s4 fun i hi => by rw [hi]; exact Nat.le_refl _
  have s14 := (s1.trans s2).trans s34
  have hf4 := s34.fl hf2
  by_cases fz : f = 0
  case neg =>
    have hz' : (f = 0) = False := eq_false fz
    repeat' (first
      | refine St.h ?_
      | simp (disch := first | omega | (simp only [lnv]; omega)) only [wlk, ↓get_put', Nat.reduceEqDiff, Nat.reduceLT, ↓reduceIte, Int.reduceToNat, Nat.reducePow, Nat.min_eq_left, Nat.reduceAdd, Nat.reduceMul, Int.reduceAdd, Int.reduceSub, Int.reduceNeg, Int.reduceMul, Int.reduceEq, Int.reduceLT, Int.reduceLE, Nat.reduceSub, Int.reduceNatCast, Nat.reduceLeDiff, hz']
      | (with_reducible (first | apply cd_split | apply gd_split)) <;> (intro hc; (try simp only [hcn] at hc); (try simp only [hc]); (try simp only [hcl] at hc); try omega))
    refine ST.all o24 rfl rfl (by simp) (by simp) fun hz oz sz => ?_
    repeat' (first
      | refine St.h ?_
      | simp (disch := first | omega | (simp only [lnv]; omega)) only [wlk, ↓get_put', Nat.reduceEqDiff, Nat.reduceLT, ↓reduceIte, Int.reduceToNat, Nat.reducePow, Nat.min_eq_left, Nat.reduceAdd, Nat.reduceMul, Int.reduceAdd, Int.reduceSub, Int.reduceNeg, Int.reduceMul, Int.reduceEq, Int.reduceLT, Int.reduceLE, Nat.reduceSub, Int.reduceNatCast, Nat.reduceLeDiff, oz.ra4]
      | (with_reducible (first | apply cd_split | apply gd_split)) <;> (intro hc; (try simp only [hcn] at hc); (try simp only [hc]); (try simp only [hcl] at hc); try omega))
    subst hQ
    exact ⟨by rw [readE_1 (by rw [hr]; exact fz), hr]; rfl, (s14).past' sz fun i hi => by rw [hi]; exact Nat.le_refl _⟩

  subst fz
  repeat' (first
    | refine St.h ?_
    | simp (disch := first | omega | (simp only [lnv]; omega)) only [wlk, ↓get_put', Nat.reduceEqDiff, Nat.reduceLT, ↓reduceIte, Int.reduceToNat, Nat.reducePow, Nat.min_eq_left, Nat.reduceAdd, Nat.reduceMul, Int.reduceAdd, Int.reduceSub, Int.reduceNeg, Int.reduceMul, Int.reduceEq, Int.reduceLT, Int.reduceLE, Nat.reduceSub, Int.reduceNatCast, Nat.reduceLeDiff, o4.row.ln]
    | (with_reducible (first | apply cd_split | apply gd_split)) <;> (intro hc; (try simp only [hcn] at hc); (try simp only [hc]); (try simp only [hcl] at hc); try omega))
  refine CL.stay (is_ok (e := ⟨k, q, d, v⟩) hf4) fun h5 s5 => ?_
  have o5 := o24.stay s5 fun h => h
  have o45 := o4.stay s5 fun h => h
  cases hi : isE ⟨k, q, d, v⟩ with
  | false =>
    repeat' (first
      | refine St.h ?_
      | simp (disch := first | omega | (simp only [lnv]; omega)) only [wlk, ↓get_put', Nat.reduceEqDiff, Nat.reduceLT, ↓reduceIte, Int.reduceToNat, Nat.reducePow, Nat.min_eq_left, Nat.reduceAdd, Nat.reduceMul, Int.reduceAdd, Int.reduceSub, Int.reduceNeg, Int.reduceMul, Int.reduceEq, Int.reduceLT, Int.reduceLE, Nat.reduceSub, Int.reduceNatCast, Nat.reduceLeDiff]
      | (with_reducible (first | apply cd_split | apply gd_split)) <;> (intro hc; (try simp only [hcn] at hc); (try simp only [hc]); (try simp only [hcl] at hc); try omega))
    refine ST.all o5 rfl rfl (by simp) (by simp) fun hz oz sz => ?_
    repeat' (first
      | refine St.h ?_
      | simp (disch := first | omega | (simp only [lnv]; omega)) only [wlk, ↓get_put', Nat.reduceEqDiff, Nat.reduceLT, ↓reduceIte, Int.reduceToNat, Nat.reducePow, Nat.min_eq_left, Nat.reduceAdd, Nat.reduceMul, Int.reduceAdd, Int.reduceSub, Int.reduceNeg, Int.reduceMul, Int.reduceEq, Int.reduceLT, Int.reduceLE, Nat.reduceSub, Int.reduceNatCast, Nat.reduceLeDiff, oz.ra4]
      | (with_reducible (first | apply cd_split | apply gd_split)) <;> (intro hc; (try simp only [hcn] at hc); (try simp only [hc]); (try simp only [hcl] at hc); try omega))
    subst hQ
    exact ⟨by rw [readE_2 (by rw [hr]) (by rw [hr]; exact hi)]; rfl, (s14.trans s5).past' sz fun i hi => by rw [hi]; exact Nat.le_refl _⟩

  | true =>
    repeat' (first
      | refine St.h ?_
      | simp (disch := first | omega | (simp only [lnv]; omega)) only [wlk, ↓get_put', Nat.reduceEqDiff, Nat.reduceLT, ↓reduceIte, Int.reduceToNat, Nat.reducePow, Nat.min_eq_left, Nat.reduceAdd, Nat.reduceMul, Int.reduceAdd, Int.reduceSub, Int.reduceNeg, Int.reduceMul, Int.reduceEq, Int.reduceLT, Int.reduceLE, Nat.reduceSub, Int.reduceNatCast, Nat.reduceLeDiff, o45.row.ln]
      | (with_reducible (first | apply cd_split | apply gd_split)) <;> (intro hc; (try simp only [hcn] at hc); (try simp only [hc]); (try simp only [hcl] at hc); try omega))
    refine ST.all o5 rfl rfl (by simp) (by simp) fun hz oz sz => ?_
    repeat' (first
      | refine St.h ?_
      | simp (disch := first | omega | (simp only [lnv]; omega)) only [wlk, ↓get_put', Nat.reduceEqDiff, Nat.reduceLT, ↓reduceIte, Int.reduceToNat, Nat.reducePow, Nat.min_eq_left, Nat.reduceAdd, Nat.reduceMul, Int.reduceAdd, Int.reduceSub, Int.reduceNeg, Int.reduceMul, Int.reduceEq, Int.reduceLT, Int.reduceLE, Nat.reduceSub, Int.reduceNatCast, Nat.reduceLeDiff, oz.ra4]
      | (with_reducible (first | apply cd_split | apply gd_split)) <;> (intro hc; (try simp only [hcn] at hc); (try simp only [hc]); (try simp only [hcl] at hc); try omega))
    subst hQ
    exact ⟨by rw [readE_3 (by rw [hr]) (by rw [hr]; exact hi), hr]; rfl, (s14.trans s5).past' sz fun i hi => by rw [hi]; exact Nat.le_refl _⟩
end Go.Proofs.Ytjlhfoadabkahaa

set_option maxRecDepth 100000
set_option maxHeartbeats 8000000
set_option linter.all false
namespace Go.Proofs.Ytjlhfoadabkahaa
open Go Go.Ev
theorem tailU_range (key s : List UInt8) (h0 : (tailU key s).2.2 = 0) : ∃ z : Nat, (tailU key s).2.1 = (z : Int) ∧ 1 ≤ z ∧ z ≤ s.length := by
  rcases takeN_range s with (hn | hn) | ⟨q, m, hn, m1, m2, m3, m4⟩
  · rw [tailU_1 hn (by omega)] at h0; cases h0
  · rw [tailU_1 hn (by omega)] at h0; cases h0
  by_cases hm : m = s.length
  · rw [tailU_2 hn hm] at h0; cases h0
  have hdl : (s.drop (m + 1)).length = s.length - (m + 1) := List.length_drop
  by_cases c0 : (s.getD m 0).toNat = 0
  · rcases takeT_range (s.drop (m + 1)) with (hv | hv) | ⟨v, j, hv, j1, j2, j3⟩
    · rw [tailU_3 hn hm c0 hv (by omega)] at h0; cases h0
    · rw [tailU_3 hn hm c0 hv (by omega)] at h0; cases h0
    · rw [tailU_4 hn hm c0 hv]; exact ⟨m + 1 + j, by simp, by omega, by omega⟩
  by_cases c1 : (s.getD m 0).toNat = 1
  · rw [tailU_5 hn hm c1]; exact ⟨m + 1, by simp, by omega, by omega⟩
  · rw [tailU_6 hn hm c0 c1] at h0; cases h0
theorem chkd_range (key s : List UInt8) (h0 : (chkd (tailU key s)).2.2 = 0) : ∃ z : Nat, (chkd (tailU key s)).2.1 = (z : Int) ∧ 1 ≤ z ∧ z ≤ s.length := by
  by_cases h1 : (tailU key s).2.2 = 0
  · cases hi : isE (tailU key s).1 with
    | true =>
      have e : chkd (tailU key s) = ((tailU key s).1, (tailU key s).2.1, 0) := by unfold chkd chkE; rw [h1, hi]; rfl
      rw [e]; exact tailU_range key s h1
    | false =>
      have e : chkd (tailU key s) = (entZ, 0, 10) := by unfold chkd chkE; rw [h1, hi]; rfl
      rw [e] at h0; cases h0
  · have e : chkd (tailU key s) = (entZ, 0, (tailU key s).2.2) := if_pos h1
    rw [e] at h0; exact absurd h0 h1
end Go.Proofs.Ytjlhfoadabkahaa

set_option maxRecDepth 1000000
set_option linter.all false
namespace Go.Proofs.Ytjlhfoadabkahaa
open Go Go.Ev
noncomputable abbrev s101_0 : CC := (CC.cond (tm 9) CC.skip (CC.exit 0))
noncomputable abbrev s101_1 : CC := (CC.region [(wB 18 (doMove (tm 4))), (wB 19 (doMove (tm 3))), (wB 20 (bin2 fAdd (tm 18) (tm 19))), (wB 21 (doRem (tm 20) (O.c (V.i IntKind.u32 (Int.ofNat 65521))))), (wB 4 (doMove (tm 21)))])
noncomputable abbrev s101_2 : CC := (CC.seq (CC.region [(wB 11 (doMove (tm 3))), (wB 12 (doMove (tm 0))), (wB 13 (doMove (tm 5))), (wB 14 (doSIndex (tm 12) (tm 13))), (wB 15 (doConv IntKind.u32 (tm 14))), (wB 16 (bin2 fAdd (tm 11) (tm 15))), (wB 17 (doRem (tm 16) (O.c (V.i IntKind.u32 (Int.ofNat 65521))))), (wB 3 (doMove (tm 17)))]) s101_1)
noncomputable abbrev s101_3 : CC := (CC.seq (CC.region [(wB 10 (doMove (tm 8))), (wB 5 (doMove (tm 10)))]) s101_2)
noncomputable abbrev s101_4 : CC := (CC.block 1 s101_3)
noncomputable abbrev s101_5 : CC := (CC.region [(wB 22 (bin2 fAdd (tm 8) (oN 1))), (wB 8 (doMove (tm 22)))])
noncomputable abbrev s101_6 : CC := (CC.seq s101_4 s101_5)
noncomputable abbrev s101_7 : CC := (CC.seq s101_0 s101_6)
noncomputable abbrev l101_0 : CC := (CC.seq (CC.region [(wB 9 (bin2 fLss (tm 8) (tm 7)))]) s101_7)
noncomputable abbrev s101_8 : CC := (CC.loop l101_0)
noncomputable abbrev s101_9 : CC := (CC.block 0 s101_8)
noncomputable abbrev s101_10 : CC := (CC.seq (CC.region [(wB 6 (doMove (tm 0))), (wB 7 (doLenS (tm 6))), (wB 8 (doMove (oN 0)))]) s101_9)
noncomputable abbrev s101_11 : CC := (CC.seq (CC.region [(wB 23 (doMove (tm 4))), (wB 24 (doShift shlF (tm 23) (O.c (V.i IntKind.u64 (Int.ofNat 16))))), (wB 25 (doMove (tm 3))), (wB 26 (bin2 fOr (tm 24) (tm 25))), (wB 2 (doMove (tm 26)))]) CC.ret)
noncomputable abbrev s101_12 : CC := (CC.seq s101_10 s101_11)
noncomputable abbrev s101_13 : CC := (CC.seq (CC.region [(wB 3 (doMove (O.c (V.i IntKind.u32 (Int.ofNat 1))))), (wB 4 (doMove (O.c (V.i IntKind.u32 (Int.ofNat 0)))))]) s101_12)
noncomputable abbrev b101 : CC := (CC.seq (CC.region [(wB 2 (doMove (O.c (V.i IntKind.u32 (Int.ofNat 0)))))]) s101_13)
theorem c101 : compFn Try.prog 101 = ⟨27, b101, [(Rs.tmp (slOf 2))]⟩ := by kernel_rfl
noncomputable abbrev s89_0 : CC := (CC.seq (CC.region [(wB 6 (doMove (tm 3))), (wB 7 (doShift shrF (tm 6) (O.c (V.i IntKind.u64 (Int.ofNat 24))))), (wB 8 (doConv IntKind.u8 (tm 7))), (wB 9 (doMove (tm 3))), (wB 10 (doShift shrF (tm 9) (O.c (V.i IntKind.u64 (Int.ofNat 16))))), (wB 11 (doConv IntKind.u8 (tm 10))), (wB 12 (doMove (tm 3))), (wB 13 (doShift shrF (tm 12) (O.c (V.i IntKind.u64 (Int.ofNat 8))))), (wB 14 (doConv IntKind.u8 (tm 13))), (wB 15 (doMove (tm 3))), (wB 16 (doConv IntKind.u8 (tm 15))), (wB 17 (doBuildSlice 5 4 [(V.i IntKind.u8 (Int.ofNat 0)), (V.i IntKind.u8 (Int.ofNat 0)), (V.i IntKind.u8 (Int.ofNat 0)), (V.i IntKind.u8 (Int.ofNat 0))] [(Pt.mk 0 1 (tm 8)), (Pt.mk 1 1 (tm 11)), (Pt.mk 2 1 (tm 14)), (Pt.mk 3 1 (tm 16))])), (wB 18 (doB2S (tm 17))), (wB 2 (doMove (tm 18)))]) CC.ret)
noncomputable abbrev s89_1 : CC := (CC.seq (CC.region [(wB 4 (doMove (tm 0))), (wB 5 (doCall 101 [(tm 4)])), (wB 3 (doMove (tm 5)))]) s89_0)
noncomputable abbrev b89 : CC := (CC.seq (CC.region [(wB 2 (doMove (O.c (V.s 0 0))))]) s89_1)
theorem c89 : compFn Try.prog 89 = ⟨19, b89, [(Rs.tmp (slOf 2))]⟩ := by kernel_rfl
noncomputable abbrev s65_0 : CC := (CC.seq (CC.region [(wB 3 (doMove (tm 0))), (wB 4 (doLenS (tm 3))), (wB 5 (doCall 88 [(tm 4)])), (wB 6 (doMove (tm 0))), (wB 7 (doCall 89 [(tm 6)])), (wB 8 (doConcat (tm 5) (tm 7))), (wB 9 (doMove (tm 0))), (wB 10 (doConcat (tm 8) (tm 9))), (wB 2 (doMove (tm 10)))]) CC.ret)
noncomputable abbrev b65 : CC := (CC.seq (CC.region [(wB 2 (doMove (O.c (V.s 0 0))))]) s65_0)
theorem c65 : compFn Try.prog 65 = ⟨11, b65, [(Rs.tmp (slOf 2))]⟩ := by kernel_rfl
noncomputable abbrev s72_0 : CC := (CC.seq (CC.region [(wB 2 (doMove (O.c (V.s 0 0)))), (wB 3 (doMove (oN 0))), (wB 4 (doMove (oN 12)))]) CC.ret)
noncomputable abbrev s72_1 : CC := (CC.seq (CC.region [(wB 2 (doMove (O.c (V.s 0 0)))), (wB 3 (doMove (oN 0))), (wB 4 (doMove (oN 13)))]) CC.ret)
noncomputable abbrev s72_2 : CC := (CC.cond (tm 20) s72_0 s72_1)
noncomputable abbrev s72_3 : CC := (CC.seq (CC.region [(wB 21 (bin2 fEql (tm 17) (oN 12))), (wB 20 (doMove (tm 21)))]) s72_2)
noncomputable abbrev s72_4 : CC := (CC.cond (tm 18) CC.skip s72_3)
noncomputable abbrev s72_5 : CC := (CC.seq (CC.region [(wB 19 (bin2 fEql (tm 17) (oN 0))), (wB 18 (doMove (tm 19)))]) s72_4)
noncomputable abbrev s72_6 : CC := (CC.block 0 s72_5)
noncomputable abbrev s72_7 : CC := (CC.seq (CC.region [(wB 17 (doMove (tm 7)))]) s72_6)
noncomputable abbrev s72_8 : CC := (CC.seq (CC.region [(wB 2 (doMove (O.c (V.s 0 0)))), (wB 3 (doMove (oN 0))), (wB 4 (doMove (oN 12)))]) CC.ret)
noncomputable abbrev s72_9 : CC := (CC.cond (tm 29) s72_8 CC.skip)
noncomputable abbrev s72_10 : CC := (CC.seq (CC.region [(wB 25 (doMove (tm 5))), (wB 26 (doMove (tm 8))), (wB 27 (doLenS (tm 26))), (wB 28 (bin2 fSub (tm 27) (oN 4))), (wB 29 (bin2 fGtr (tm 25) (tm 28)))]) s72_9)
noncomputable abbrev s72_11 : CC := (CC.seq (CC.region [(wB 2 (doMove (O.c (V.s 0 0)))), (wB 3 (doMove (oN 0))), (wB 4 (doMove (oN 13)))]) CC.ret)
noncomputable abbrev s72_12 : CC := (CC.cond (tm 39) s72_11 CC.skip)
noncomputable abbrev s72_13 : CC := (CC.seq (CC.region [(wB 36 (doMove (tm 9))), (wB 37 (doMove (tm 10))), (wB 38 (doCall 89 [(tm 37)])), (wB 39 (doSCmp (fun a b c d => !eqS a b c d) (tm 36) (tm 38)))]) s72_12)
noncomputable abbrev s72_14 : CC := (CC.seq (CC.region [(wB 40 (doMove (tm 10))), (wB 41 (doMove (tm 6))), (wB 42 (bin2 fAdd (tm 41) (oN 4))), (wB 43 (doMove (tm 5))), (wB 44 (bin2 fAdd (tm 42) (tm 43))), (wB 2 (doMove (tm 40))), (wB 3 (doMove (tm 44))), (wB 4 (doMove (oN 0)))]) CC.ret)
noncomputable abbrev s72_15 : CC := (CC.seq s72_13 s72_14)
noncomputable abbrev s72_16 : CC := (CC.seq (CC.draws [(uB 30 (doMove (tm 8))), (uB 31 (doSSlice (tm 30) none (some (oN 4)))), (uB 32 (doMove (tm 8))), (uB 33 (doMove (tm 5))), (uB 34 (bin2 fAdd (oN 4) (tm 33))), (uB 35 (doSSlice (tm 32) (some (oN 4)) (some (tm 34)))), (uB 9 (doMove (tm 31))), (uB 10 (doMove (tm 35)))]) s72_15)
noncomputable abbrev s72_17 : CC := (CC.seq s72_10 s72_16)
noncomputable abbrev s72_18 : CC := (CC.seq (CC.region [(wB 22 (doMove (tm 0))), (wB 23 (doMove (tm 6))), (wB 24 (doSSlice (tm 22) (some (tm 23)) none)), (wB 8 (doMove (tm 24)))]) s72_17)
noncomputable abbrev s72_19 : CC := (CC.seq s72_7 s72_18)
noncomputable abbrev s72_20 : CC := (CC.seq (CC.region [(wB 12 (doMove (tm 0))), (wB 13 (doCall 96 [(tm 12)])), (wB 11 (doMove (tm 13))), (wB 14 (doExtract 0 (tm 11))), (wB 15 (doExtract 1 (tm 11))), (wB 16 (doExtract 2 (tm 11))), (wB 5 (doMove (tm 14))), (wB 6 (doMove (tm 15))), (wB 7 (doMove (tm 16)))]) s72_19)
noncomputable abbrev b72 : CC := (CC.seq (CC.region [(wB 2 (doMove (O.c (V.s 0 0)))), (wB 3 (doMove (oN 0))), (wB 4 (doMove (oN 0)))]) s72_20)
theorem c72 : compFn Try.prog 72 = ⟨45, b72, [(Rs.tmp (slOf 2)), (Rs.tmp (slOf 3)), (Rs.tmp (slOf 4))]⟩ := by kernel_rfl
noncomputable abbrev s78_0 : CC := (CC.cond (tm 9) CC.skip (CC.exit 0))
noncomputable abbrev s78_1 : CC := (CC.seq (CC.region [(wB 6 (doMove (tm 5))), (wB 7 (doMove (tm 0))), (wB 8 (doLenS (tm 7))), (wB 9 (bin2 fLss (tm 6) (tm 8)))]) s78_0)
noncomputable abbrev s78_2 : CC := (CC.region [(wB 19 (doMove (tm 4))), (wB 20 (doMove (tm 3))), (wB 21 (bin2 fAdd (tm 19) (tm 20))), (wB 22 (doRem (tm 21) (O.c (V.i IntKind.u32 (Int.ofNat 65521))))), (wB 4 (doMove (tm 22)))])
noncomputable abbrev s78_3 : CC := (CC.seq (CC.region [(wB 12 (doMove (tm 3))), (wB 13 (doMove (tm 0))), (wB 14 (doMove (tm 5))), (wB 15 (doSIndex (tm 13) (tm 14))), (wB 16 (doConv IntKind.u32 (tm 15))), (wB 17 (bin2 fAdd (tm 12) (tm 16))), (wB 18 (doRem (tm 17) (O.c (V.i IntKind.u32 (Int.ofNat 65521))))), (wB 3 (doMove (tm 18)))]) s78_2)
noncomputable abbrev s78_4 : CC := (CC.block 1 s78_3)
noncomputable abbrev s78_5 : CC := (CC.region [(wB 10 (doMove (tm 5))), (wB 11 (bin2 fAdd (tm 10) (oN 1))), (wB 5 (doMove (tm 11)))])
noncomputable abbrev s78_6 : CC := (CC.seq s78_4 s78_5)
noncomputable abbrev l78_0 : CC := (CC.seq s78_1 s78_6)
noncomputable abbrev s78_7 : CC := (CC.loop l78_0)
noncomputable abbrev s78_8 : CC := (CC.block 0 s78_7)
noncomputable abbrev s78_9 : CC := (CC.seq (CC.region [(wB 5 (doMove (oN 0)))]) s78_8)
noncomputable abbrev s78_10 : CC := (CC.seq (CC.region [(wB 23 (doMove (tm 4))), (wB 24 (bin2 fMul (tm 23) (O.c (V.i IntKind.u32 (Int.ofNat 65536))))), (wB 25 (doMove (tm 3))), (wB 26 (bin2 fAdd (tm 24) (tm 25))), (wB 2 (doMove (tm 26)))]) CC.ret)
noncomputable abbrev s78_11 : CC := (CC.seq s78_9 s78_10)
noncomputable abbrev s78_12 : CC := (CC.seq (CC.region [(wB 3 (doMove (O.c (V.i IntKind.u32 (Int.ofNat 1))))), (wB 4 (doMove (O.c (V.i IntKind.u32 (Int.ofNat 0)))))]) s78_11)
noncomputable abbrev b78 : CC := (CC.seq (CC.region [(wB 2 (doMove (O.c (V.i IntKind.u32 (Int.ofNat 0)))))]) s78_12)
theorem c78 : compFn Try.prog 78 = ⟨27, b78, [(Rs.tmp (slOf 2))]⟩ := by kernel_rfl
noncomputable abbrev s77_0 : CC := (CC.seq (CC.region [(wB 3 (doMove (tm 0))), (wB 4 (doShift shrF (tm 3) (O.c (V.i IntKind.u64 (Int.ofNat 24))))), (wB 5 (doConv IntKind.u8 (tm 4))), (wB 6 (doMove (tm 0))), (wB 7 (doShift shrF (tm 6) (O.c (V.i IntKind.u64 (Int.ofNat 16))))), (wB 8 (doConv IntKind.u8 (tm 7))), (wB 9 (doMove (tm 0))), (wB 10 (doShift shrF (tm 9) (O.c (V.i IntKind.u64 (Int.ofNat 8))))), (wB 11 (doConv IntKind.u8 (tm 10))), (wB 12 (doMove (tm 0))), (wB 13 (doConv IntKind.u8 (tm 12))), (wB 14 (doBuildSlice 5 4 [(V.i IntKind.u8 (Int.ofNat 0)), (V.i IntKind.u8 (Int.ofNat 0)), (V.i IntKind.u8 (Int.ofNat 0)), (V.i IntKind.u8 (Int.ofNat 0))] [(Pt.mk 0 1 (tm 5)), (Pt.mk 1 1 (tm 8)), (Pt.mk 2 1 (tm 11)), (Pt.mk 3 1 (tm 13))])), (wB 15 (doB2S (tm 14))), (wB 2 (doMove (tm 15)))]) CC.ret)
noncomputable abbrev b77 : CC := (CC.seq (CC.region [(wB 2 (doMove (O.c (V.s 0 0))))]) s77_0)
theorem c77 : compFn Try.prog 77 = ⟨16, b77, [(Rs.tmp (slOf 2))]⟩ := by kernel_rfl
noncomputable abbrev s47_0 : CC := (CC.seq (CC.region [(wB 3 (doMove (tm 0))), (wB 4 (doLenS (tm 3))), (wB 5 (doCall 69 [(tm 4)])), (wB 6 (doMove (tm 0))), (wB 7 (doCall 78 [(tm 6)])), (wB 8 (doCall 77 [(tm 7)])), (wB 9 (doConcat (tm 5) (tm 8))), (wB 10 (doMove (tm 0))), (wB 11 (doConcat (tm 9) (tm 10))), (wB 2 (doMove (tm 11)))]) CC.ret)
noncomputable abbrev b47 : CC := (CC.seq (CC.region [(wB 2 (doMove (O.c (V.s 0 0))))]) s47_0)
theorem c47 : compFn Try.prog 47 = ⟨12, b47, [(Rs.tmp (slOf 2))]⟩ := by kernel_rfl
noncomputable abbrev s46_0 : CC := (CC.seq (CC.region [(wB 2 (doMove (O.c (V.s 0 0)))), (wB 3 (doMove (oN 0))), (wB 4 (doMove (oN 12)))]) CC.ret)
noncomputable abbrev s46_1 : CC := (CC.cond (tm 16) s46_0 CC.skip)
noncomputable abbrev s46_2 : CC := (CC.seq (CC.region [(wB 15 (doMove (tm 7))), (wB 16 (bin2 fEql (tm 15) (oN 12)))]) s46_1)
noncomputable abbrev s46_3 : CC := (CC.seq (CC.region [(wB 2 (doMove (O.c (V.s 0 0)))), (wB 3 (doMove (oN 0))), (wB 4 (doMove (oN 13)))]) CC.ret)
noncomputable abbrev s46_4 : CC := (CC.cond (tm 18) s46_3 CC.skip)
noncomputable abbrev s46_5 : CC := (CC.seq (CC.region [(wB 17 (doMove (tm 7))), (wB 18 (bin2 fNeq (tm 17) (oN 0)))]) s46_4)
noncomputable abbrev s46_6 : CC := (CC.seq (CC.region [(wB 2 (doMove (O.c (V.s 0 0)))), (wB 3 (doMove (oN 0))), (wB 4 (doMove (oN 12)))]) CC.ret)
noncomputable abbrev s46_7 : CC := (CC.cond (tm 32) s46_6 CC.skip)
noncomputable abbrev s46_8 : CC := (CC.seq (CC.region [(wB 19 (doMove (tm 0))), (wB 20 (doLenS (tm 19))), (wB 21 (doMove (tm 6))), (wB 22 (bin2 fSub (tm 20) (tm 21))), (wB 23 (bin2 fLss (tm 22) (oN 4))), (wB 24 (doMove (tm 23))), (wG 24 false 25 (doMove (tm 5))), (wG 24 false 26 (doMove (tm 0))), (wG 24 false 27 (doLenS (tm 26))), (wG 24 false 28 (doMove (tm 6))), (wG 24 false 29 (bin2 fSub (tm 27) (tm 28))), (wG 24 false 30 (bin2 fSub (tm 29) (oN 4))), (wG 24 false 31 (bin2 fGtr (tm 25) (tm 30))), (wB 32 (doPick (tm 24) (O.c (V.b Bool.true)) (tm 31)))]) s46_7)
noncomputable abbrev s46_9 : CC := (CC.seq (CC.region [(wB 2 (doMove (O.c (V.s 0 0)))), (wB 3 (doMove (oN 0))), (wB 4 (doMove (oN 13)))]) CC.ret)
noncomputable abbrev s46_10 : CC := (CC.cond (tm 49) s46_9 CC.skip)
noncomputable abbrev s46_11 : CC := (CC.seq (CC.draws [(uB 41 (doMove (tm 8))), (wB 42 (doCall 78 [(tm 41)])), (wB 43 (doCall 77 [(tm 42)])), (uB 44 (doMove (tm 0))), (uB 45 (doMove (tm 6))), (uB 46 (doMove (tm 6))), (uB 47 (bin2 fAdd (tm 46) (oN 4))), (uB 48 (doSSlice (tm 44) (some (tm 45)) (some (tm 47)))), (uB 49 (doSCmp (fun a b c d => !eqS a b c d) (tm 43) (tm 48)))]) s46_10)
noncomputable abbrev s46_12 : CC := (CC.seq (CC.region [(wB 50 (doMove (tm 8))), (wB 51 (doMove (tm 6))), (wB 52 (bin2 fAdd (tm 51) (oN 4))), (wB 53 (doMove (tm 5))), (wB 54 (bin2 fAdd (tm 52) (tm 53))), (wB 2 (doMove (tm 50))), (wB 3 (doMove (tm 54))), (wB 4 (doMove (oN 0)))]) CC.ret)
noncomputable abbrev s46_13 : CC := (CC.seq s46_11 s46_12)
noncomputable abbrev s46_14 : CC := (CC.seq (CC.region [(wB 33 (doMove (tm 0))), (wB 34 (doMove (tm 6))), (wB 35 (bin2 fAdd (tm 34) (oN 4))), (wB 36 (doMove (tm 6))), (wB 37 (bin2 fAdd (tm 36) (oN 4))), (wB 38 (doMove (tm 5))), (wB 39 (bin2 fAdd (tm 37) (tm 38))), (wB 40 (doSSlice (tm 33) (some (tm 35)) (some (tm 39)))), (wB 8 (doMove (tm 40)))]) s46_13)
noncomputable abbrev s46_15 : CC := (CC.seq s46_8 s46_14)
noncomputable abbrev s46_16 : CC := (CC.seq s46_5 s46_15)
noncomputable abbrev s46_17 : CC := (CC.seq s46_2 s46_16)
noncomputable abbrev s46_18 : CC := (CC.seq (CC.region [(wB 10 (doMove (tm 0))), (wB 11 (doCall 74 [(tm 10)])), (wB 9 (doMove (tm 11))), (wB 12 (doExtract 0 (tm 9))), (wB 13 (doExtract 1 (tm 9))), (wB 14 (doExtract 2 (tm 9))), (wB 5 (doMove (tm 12))), (wB 6 (doMove (tm 13))), (wB 7 (doMove (tm 14)))]) s46_17)
noncomputable abbrev b46 : CC := (CC.seq (CC.region [(wB 2 (doMove (O.c (V.s 0 0)))), (wB 3 (doMove (oN 0))), (wB 4 (doMove (oN 0)))]) s46_18)
theorem c46 : compFn Try.prog 46 = ⟨55, b46, [(Rs.tmp (slOf 2)), (Rs.tmp (slOf 3)), (Rs.tmp (slOf 4))]⟩ := by kernel_rfl
end Go.Proofs.Ytjlhfoadabkahaa

set_option linter.all false
namespace Go.Ev
open Go
/-- the sum's two parts, one byte further -/
def adlStep (p : Nat × Nat) (c : UInt8) : Nat × Nat := ((p.1 + c.toNat) % 65521, (p.2 + (p.1 + c.toNat) % 65521) % 65521)
def adlF (p : Nat × Nat) (l : List UInt8) : Nat × Nat := l.foldl adlStep p
def adl (l : List UInt8) : Nat × Nat := adlF (1, 0) l
def sumB (l : List UInt8) : Nat := (adl l).2 * 65536 + (adl l).1
theorem adlF_append (p : Nat × Nat) (a b : List UInt8) : adlF p (a ++ b) = adlF (adlF p a) b := List.foldl_append
theorem adlF_lt {p : Nat × Nat} (h1 : p.1 < 65521) (h2 : p.2 < 65521) : ∀ l, (adlF p l).1 < 65521 ∧ (adlF p l).2 < 65521 := by
  intro l
  induction l generalizing p with
  | nil => exact ⟨h1, h2⟩
  | cons c l ih => exact ih (p := adlStep p c) (Nat.mod_lt _ (by omega)) (Nat.mod_lt _ (by omega))
theorem adl_lt (l : List UInt8) : (adl l).1 < 65521 ∧ (adl l).2 < 65521 := adlF_lt (by decide) (by decide) l
theorem sumB_lt (l : List UInt8) : sumB l < 4294967296 := by
  have := adl_lt l
  unfold sumB; omega
theorem sumB_eq (a b : List UInt8) : sumB a = sumB b ↔ adl a = adl b := by
  have h1 := adl_lt a
  have h2 := adl_lt b
  constructor
  · intro h
    unfold sumB at h
    exact Prod.ext (by omega) (by omega)
  · intro h
    unfold sumB; rw [h]
theorem sumB_snoc (l : List UInt8) (c : UInt8) : adl (l ++ [c]) = adlStep (adl l) c := by
  unfold adl; rw [adlF_append]; rfl
/-- unlike first parts stay unlike -/
theorem adlF_a {p q : Nat × Nat} (hp : p.1 < 65521) (hq : q.1 < 65521) (h : p.1 ≠ q.1) : ∀ l, (adlF p l).1 ≠ (adlF q l).1 := by
  intro l
  induction l generalizing p q with
  | nil => exact h
  | cons c l ih =>
    refine ih (p := adlStep p c) (q := adlStep q c) (Nat.mod_lt _ (by omega)) (Nat.mod_lt _ (by omega)) ?_
    have hc := c.toNat_lt
    show (p.1 + c.toNat) % 65521 ≠ (q.1 + c.toNat) % 65521
    omega
/-- one byte that is another one -/
theorem sum_one (u v : List UInt8) (c d : UInt8) : (sumB (u ++ [c] ++ v) = sumB (u ++ [d] ++ v)) ↔ c = d := by
  constructor
  · intro h
    rw [sumB_eq] at h
    unfold adl at h
    rw [adlF_append, adlF_append, adlF_append (1, 0) _ v, adlF_append (1, 0) u [d]] at h
    have hl := adlF_lt (p := (1, 0)) (by decide) (by decide) u
    generalize adlF (1, 0) u = p at *
    by_cases hc : (adlStep p c).1 = (adlStep p d).1
    · have h1 : (p.1 + c.toNat) % 65521 = (p.1 + d.toNat) % 65521 := hc
      have := c.toNat_lt
      have := d.toNat_lt
      exact UInt8.toNat_inj.1 (by omega)
    · exact absurd (congrArg Prod.fst h) (adlF_a (p := adlStep p c) (q := adlStep p d) (Nat.mod_lt _ (by omega)) (Nat.mod_lt _ (by omega)) hc v)
  · intro h; rw [h]
/-- four bytes of a number, the highest first -/
def fourB (n : Nat) : List UInt8 := [UInt8.ofNat (n / 16777216), UInt8.ofNat (n / 65536), UInt8.ofNat (n / 256), UInt8.ofNat n]
theorem fourB_len (n : Nat) : (fourB n).length = 4 := rfl
theorem pk_fourB {n : Nat} (h : n < 4294967296) : pk (fourB n) = n := by
  unfold fourB
  simp [pk]
  omega
theorem fourB_inj {a b : Nat} (ha : a < 4294967296) (hb : b < 4294967296) (h : fourB a = fourB b) : a = b := by
  have := congrArg pk h
  rwa [pk_fourB ha, pk_fourB hb] at this
def sealB (l : List UInt8) : List UInt8 := numB l.length ++ fourB (sumB l) ++ l
theorem sealB_len (l : List UInt8) : (sealB l).length = (numB l.length).length + 4 + l.length := by
  unfold sealB; rw [List.length_append, List.length_append, fourB_len]
/-- what is sealed at the front -/
def openB (l : List UInt8) : List UInt8 × Int × Int :=
  if (takeN l).2.2 = 12 then ([], 0, 12) else if (takeN l).2.2 ≠ 0 then ([], 0, 13) else
  if ((l.length : Int) - (takeN l).2.1 < 4 ∨ (l.length : Int) - (takeN l).2.1 - 4 < (takeN l).1) then ([], 0, 12) else
  if fourB (sumB ((l.drop ((takeN l).2.1.toNat + 4)).take (takeN l).1.toNat)) ≠ (l.drop (takeN l).2.1.toNat).take 4 then ([], 0, 13) else
  ((l.drop ((takeN l).2.1.toNat + 4)).take (takeN l).1.toNat, (takeN l).2.1 + 4 + (takeN l).1, 0)
/-- with a number at the front -/
theorem openB_num {l : List UInt8} {n k : Nat} (h : takeN l = ((n : Int), (k : Int), 0)) : openB l = if ((l.length : Int) - k < 4 ∨ (l.length : Int) - k - 4 < n) then ([], 0, 12) else
    if fourB (sumB ((l.drop (k + 4)).take n)) ≠ (l.drop k).take 4 then ([], 0, 13) else ((l.drop (k + 4)).take n, (k : Int) + 4 + n, 0) := by
  unfold openB
  rw [h]
  simp only [Int.toNat_natCast]
  rw [if_neg (by decide), if_neg (by simp)]
theorem openB_seal {l more : List UInt8} (h : l.length ≤ 9223372036854775807) : openB (sealB l ++ more) = (l, ((sealB l).length : Int), 0) := by
  have e : sealB l ++ more = numB l.length ++ (fourB (sumB l) ++ l ++ more) := by unfold sealB; simp
  have ht : takeN (sealB l ++ more) = ((l.length : Int), ((numB l.length).length : Int), 0) := by rw [e]; exact takeN_numB h _
  rw [openB_num ht]
  have hlen : (sealB l ++ more).length = (numB l.length).length + 4 + l.length + more.length := by rw [List.length_append, sealB_len]
  have d1 : (sealB l ++ more).drop (numB l.length).length = fourB (sumB l) ++ l ++ more := by rw [e, List.drop_left]
  have d2 : (sealB l ++ more).drop ((numB l.length).length + 4) = l ++ more := by
    rw [← List.drop_drop, d1]
    show (fourB (sumB l) ++ l ++ more).drop (fourB (sumB l)).length = _
    rw [List.append_assoc, List.drop_left]
  have d3 : (fourB (sumB l) ++ l ++ more).take 4 = fourB (sumB l) := by
    show (fourB (sumB l) ++ l ++ more).take (fourB (sumB l)).length = _
    rw [List.append_assoc, List.take_left]
  rw [if_neg (by omega), d1, d2, d3, List.take_left, if_neg (by simp), sealB_len]
  congr 1
theorem openB_cut {l : List UInt8} {c : Nat} (h : l.length ≤ 9223372036854775807) (hc : c < (sealB l).length) : openB ((sealB l).take c) = ([], 0, 12) := by
  rcases Nat.lt_or_ge c (numB l.length).length with h1 | h1
  · have e : (sealB l).take c = (numB l.length).take c := by unfold sealB; rw [List.append_assoc, List.take_append_of_le_length (by omega)]
    unfold openB
    rw [e, takeN_cut h h1]
    rfl
  · have e : (sealB l).take c = numB l.length ++ (fourB (sumB l) ++ l).take (c - (numB l.length).length) := by
      unfold sealB
      rw [List.append_assoc, List.take_append, List.take_of_length_le (by omega)]
    have ht : takeN ((sealB l).take c) = ((l.length : Int), ((numB l.length).length : Int), 0) := by rw [e]; exact takeN_numB h _
    rw [openB_num ht]
    have hl : ((sealB l).take c).length = c := by rw [List.length_take]; omega
    rw [sealB_len] at hc
    rw [hl, if_pos (by omega)]
end Go.Ev

set_option linter.all false
namespace Go.Ev
open Go
theorem adl_take {l : List UInt8} {i : Nat} (h : i < l.length) : adl (l.take (i + 1)) = adlStep (adl (l.take i)) (l.getD i 0) := by
  rw [← sumB_snoc]
  congr 1
  rw [List.take_succ_eq_append_getElem h]
  simp [List.getD, h]
theorem openB_range (l : List UInt8) : openB l = ([], 0, 12) ∨ openB l = ([], 0, 13) ∨ ∃ (x : List UInt8) (n : Nat), openB l = (x, (n : Int), 0) ∧ 5 ≤ n ∧ n ≤ l.length ∧ x.length + 5 ≤ n := by
  rcases takeN_range l with (hc | hc) | ⟨n, k, hc, h1, h2, h3, h4⟩
  · right; left; unfold openB; rw [hc]; rfl
  · left; unfold openB; rw [hc]; rfl
  · rw [openB_num hc]
    by_cases c1 : ((l.length : Int) - k < 4 ∨ (l.length : Int) - k - 4 < n)
    · rw [if_pos c1]; exact .inl rfl
    · rw [if_neg c1]
      by_cases c2 : fourB (sumB ((l.drop (k + 4)).take n)) ≠ (l.drop k).take 4
      · rw [if_pos c2]; exact .inr (.inl rfl)
      · rw [if_neg c2]
        refine .inr (.inr ⟨_, k + 4 + n, rfl, by omega, by omega, ?_⟩)
        rw [List.length_take]; omega
theorem xor_same (a b : UInt8) : a ^^^ b = a ↔ b = 0 := by
  constructor
  · intro h
    have : a ^^^ (a ^^^ b) = a ^^^ a := by rw [h]
    rw [← UInt8.xor_assoc, UInt8.xor_self, UInt8.zero_xor] at this
    exact this
  · rintro rfl; exact UInt8.xor_zero
end Go.Ev

set_option maxRecDepth 100000
set_option maxHeartbeats 8000000
set_option linter.all false
namespace Go.Proofs.Ytjlhfoadabkahaa
open Go Go.Ev
theorem sum_ok {h : H} {l : List UInt8} (hl : l.length ≤ 1000000) : FnOk Try.prog 101 [sv l] h fun y h' => y = .i .u32 (sumB l : Int) ∧ h' = h := by
  refine fn_go c101 (by intro hb; cases hb) (by simp) (by simp) fun Q hQ => ?_
  simp only [slotsF, Nat.reduceAdd]
  repeat' (first
    | refine St.h ?_
    | simp (disch := first | omega | (simp only [lnv]; omega)) only [wlk, ↓get_put', Nat.reduceEqDiff, Nat.reduceLT, ↓reduceIte, Int.reduceToNat, Nat.reducePow, Nat.min_eq_left, Nat.reduceAdd, Nat.reduceMul, Int.reduceAdd, Int.reduceSub, Int.reduceNeg, Int.reduceMul, Int.reduceEq, Int.reduceLT, Int.reduceLE, Nat.reduceSub, Int.reduceNatCast, Nat.reduceLeDiff]
    | (with_reducible (first | apply cd_split | apply gd_split)) <;> (intro hc; (try simp only [hcn] at hc); (try simp only [hc]); (try simp only [hcl] at hc); try omega))
  refine Ok.lp (fun m t g => ∃ i : Nat, i ≤ l.length ∧ m = l.length - i ∧ g = h ∧ get 0 t = sv l ∧ get 3 t = .i .u32 ((adl (l.take i)).1 : Int) ∧ get 4 t = .i .u32 ((adl (l.take i)).2 : Int) ∧ get 7 t = .i .i64 (l.length : Int) ∧ get 8 t = .i .i64 (i : Int)) l.length ?_ ?_
  · simp (disch := first | omega | (simp only [lnv]; omega)) only [wlk, ↓get_put', Nat.reduceEqDiff, Nat.reduceLT, ↓reduceIte, Int.reduceToNat, Nat.reducePow, Nat.min_eq_left, Nat.reduceAdd, Nat.reduceMul, Int.reduceAdd, Int.reduceSub, Int.reduceNeg, Int.reduceMul, Int.reduceEq, Int.reduceLT, Int.reduceLE, Nat.reduceSub, Int.reduceNatCast, Nat.reduceLeDiff]
    exact ⟨0, by omega, rfl, trivial, trivial, rfl, rfl, trivial, rfl⟩
  rintro I hI m t g ⟨i, hi, rfl, rfl, f0, f3, f4, f7, f8⟩
  have hci := (l.getD i 0).toNat_lt
  have ⟨b1, b2⟩ := adl_lt (l.take i)
  repeat' (first
    | refine St.h ?_
    | simp (disch := first | omega | (simp only [lnv]; omega)) only [wlk, ↓get_put', Nat.reduceEqDiff, Nat.reduceLT, ↓reduceIte, Int.reduceToNat, Nat.reducePow, Nat.min_eq_left, Nat.reduceAdd, Nat.reduceMul, Int.reduceAdd, Int.reduceSub, Int.reduceNeg, Int.reduceMul, Int.reduceEq, Int.reduceLT, Int.reduceLE, Nat.reduceSub, Int.reduceNatCast, Nat.reduceLeDiff, f0, f3, f4, f7, f8]
    | (with_reducible (first | apply cd_split | apply gd_split)) <;> (intro hc; (try simp only [hcn] at hc); (try simp only [hc]); (try simp only [hcl] at hc); try omega))
  · have e := adl_take (l := l) (i := i) (by omega)
    refine lp_next hI (l.length - (i + 1)) (by omega) ⟨i + 1, by omega, rfl, rfl, ?_, ?_, ?_, ?_, ?_⟩
    · simp (disch := first | omega | (simp only [lnv]; omega)) only [wlk, ↓get_put', Nat.reduceEqDiff, Nat.reduceLT, ↓reduceIte, Int.reduceToNat, Nat.reducePow, Nat.min_eq_left, Nat.reduceAdd, Nat.reduceMul, Int.reduceAdd, Int.reduceSub, Int.reduceNeg, Int.reduceMul, Int.reduceEq, Int.reduceLT, Int.reduceLE, Nat.reduceSub, Int.reduceNatCast, Nat.reduceLeDiff, f0]
    · simp (disch := first | omega | (simp only [lnv]; omega)) only [wlk, ↓get_put', Nat.reduceEqDiff, Nat.reduceLT, ↓reduceIte, Int.reduceToNat, Nat.reducePow, Nat.min_eq_left, Nat.reduceAdd, Nat.reduceMul, Int.reduceAdd, Int.reduceSub, Int.reduceNeg, Int.reduceMul, Int.reduceEq, Int.reduceLT, Int.reduceLE, Nat.reduceSub, Int.reduceNatCast, Nat.reduceLeDiff, e, adlStep]; rfl
    · simp (disch := first | omega | (simp only [lnv]; omega)) only [wlk, ↓get_put', Nat.reduceEqDiff, Nat.reduceLT, ↓reduceIte, Int.reduceToNat, Nat.reducePow, Nat.min_eq_left, Nat.reduceAdd, Nat.reduceMul, Int.reduceAdd, Int.reduceSub, Int.reduceNeg, Int.reduceMul, Int.reduceEq, Int.reduceLT, Int.reduceLE, Nat.reduceSub, Int.reduceNatCast, Nat.reduceLeDiff, e, adlStep]; rfl
    · simp (disch := first | omega | (simp only [lnv]; omega)) only [wlk, ↓get_put', Nat.reduceEqDiff, Nat.reduceLT, ↓reduceIte, Int.reduceToNat, Nat.reducePow, Nat.min_eq_left, Nat.reduceAdd, Nat.reduceMul, Int.reduceAdd, Int.reduceSub, Int.reduceNeg, Int.reduceMul, Int.reduceEq, Int.reduceLT, Int.reduceLE, Nat.reduceSub, Int.reduceNatCast, Nat.reduceLeDiff, f7]
    · simp (disch := first | omega | (simp only [lnv]; omega)) only [wlk, ↓get_put', Nat.reduceEqDiff, Nat.reduceLT, ↓reduceIte, Int.reduceToNat, Nat.reducePow, Nat.min_eq_left, Nat.reduceAdd, Nat.reduceMul, Int.reduceAdd, Int.reduceSub, Int.reduceNeg, Int.reduceMul, Int.reduceEq, Int.reduceLT, Int.reduceLE, Nat.reduceSub, Int.reduceNatCast, Nat.reduceLeDiff]; rfl
  · obtain rfl : i = l.length := by omega
    rw [List.take_length] at *
    have e : (((adl l).2 : Int) * 65536).toNat ||| (adl l).1 = sumB l := by
      rw [show (((adl l).2 : Int) * 65536).toNat = 2 ^ 16 * (adl l).2 by omega, ← Nat.two_pow_add_eq_or_of_lt (by omega)]
      unfold sumB; omega
    subst hQ
    simp (disch := first | omega | (simp only [lnv]; omega)) only [wlk, ↓get_put', Nat.reduceEqDiff, Nat.reduceLT, ↓reduceIte, Int.reduceToNat, Nat.reducePow, Nat.min_eq_left, Nat.reduceAdd, Nat.reduceMul, Int.reduceAdd, Int.reduceSub, Int.reduceNeg, Int.reduceMul, Int.reduceEq, Int.reduceLT, Int.reduceLE, Nat.reduceSub, Int.reduceNatCast, Nat.reduceLeDiff, e]
theorem rsum_ok {h : H} {l : List UInt8} (hl : l.length ≤ 1000000) : FnOk Try.prog 78 [sv l] h fun y h' => y = .i .u32 (sumB l : Int) ∧ h' = h := by
  refine fn_go c78 (by intro hb; cases hb) (by simp) (by simp) fun Q hQ => ?_
  simp only [slotsF, Nat.reduceAdd]
  repeat' (first
    | refine St.h ?_
    | simp (disch := first | omega | (simp only [lnv]; omega)) only [wlk, ↓get_put', Nat.reduceEqDiff, Nat.reduceLT, ↓reduceIte, Int.reduceToNat, Nat.reducePow, Nat.min_eq_left, Nat.reduceAdd, Nat.reduceMul, Int.reduceAdd, Int.reduceSub, Int.reduceNeg, Int.reduceMul, Int.reduceEq, Int.reduceLT, Int.reduceLE, Nat.reduceSub, Int.reduceNatCast, Nat.reduceLeDiff]
    | (with_reducible (first | apply cd_split | apply gd_split)) <;> (intro hc; (try simp only [hcn] at hc); (try simp only [hc]); (try simp only [hcl] at hc); try omega))
  refine Ok.lp (fun m t g => ∃ i : Nat, i ≤ l.length ∧ m = l.length - i ∧ g = h ∧ get 0 t = sv l ∧ get 3 t = .i .u32 ((adl (l.take i)).1 : Int) ∧ get 4 t = .i .u32 ((adl (l.take i)).2 : Int) ∧ get 5 t = .i .i64 (i : Int)) l.length ?_ ?_
  · simp (disch := first | omega | (simp only [lnv]; omega)) only [wlk, ↓get_put', Nat.reduceEqDiff, Nat.reduceLT, ↓reduceIte, Int.reduceToNat, Nat.reducePow, Nat.min_eq_left, Nat.reduceAdd, Nat.reduceMul, Int.reduceAdd, Int.reduceSub, Int.reduceNeg, Int.reduceMul, Int.reduceEq, Int.reduceLT, Int.reduceLE, Nat.reduceSub, Int.reduceNatCast, Nat.reduceLeDiff]
    exact ⟨0, by omega, rfl, trivial, trivial, rfl, rfl, rfl⟩
  rintro I hI m t g ⟨i, hi, rfl, rfl, f0, f3, f4, f8⟩
  have hci := (l.getD i 0).toNat_lt
  have ⟨b1, b2⟩ := adl_lt (l.take i)
  repeat' (first
    | refine St.h ?_
    | simp (disch := first | omega | (simp only [lnv]; omega)) only [wlk, ↓get_put', Nat.reduceEqDiff, Nat.reduceLT, ↓reduceIte, Int.reduceToNat, Nat.reducePow, Nat.min_eq_left, Nat.reduceAdd, Nat.reduceMul, Int.reduceAdd, Int.reduceSub, Int.reduceNeg, Int.reduceMul, Int.reduceEq, Int.reduceLT, Int.reduceLE, Nat.reduceSub, Int.reduceNatCast, Nat.reduceLeDiff, f0, f3, f4, f8]
    | (with_reducible (first | apply cd_split | apply gd_split)) <;> (intro hc; (try simp only [hcn] at hc); (try simp only [hc]); (try simp only [hcl] at hc); try omega))
  · have e := adl_take (l := l) (i := i) (by omega)
    refine lp_next hI (l.length - (i + 1)) (by omega) ⟨i + 1, by omega, rfl, rfl, ?_, ?_, ?_, ?_⟩
    · simp (disch := first | omega | (simp only [lnv]; omega)) only [wlk, ↓get_put', Nat.reduceEqDiff, Nat.reduceLT, ↓reduceIte, Int.reduceToNat, Nat.reducePow, Nat.min_eq_left, Nat.reduceAdd, Nat.reduceMul, Int.reduceAdd, Int.reduceSub, Int.reduceNeg, Int.reduceMul, Int.reduceEq, Int.reduceLT, Int.reduceLE, Nat.reduceSub, Int.reduceNatCast, Nat.reduceLeDiff, f0]
    · simp (disch := first | omega | (simp only [lnv]; omega)) only [wlk, ↓get_put', Nat.reduceEqDiff, Nat.reduceLT, ↓reduceIte, Int.reduceToNat, Nat.reducePow, Nat.min_eq_left, Nat.reduceAdd, Nat.reduceMul, Int.reduceAdd, Int.reduceSub, Int.reduceNeg, Int.reduceMul, Int.reduceEq, Int.reduceLT, Int.reduceLE, Nat.reduceSub, Int.reduceNatCast, Nat.reduceLeDiff, e, adlStep]; rfl
    · simp (disch := first | omega | (simp only [lnv]; omega)) only [wlk, ↓get_put', Nat.reduceEqDiff, Nat.reduceLT, ↓reduceIte, Int.reduceToNat, Nat.reducePow, Nat.min_eq_left, Nat.reduceAdd, Nat.reduceMul, Int.reduceAdd, Int.reduceSub, Int.reduceNeg, Int.reduceMul, Int.reduceEq, Int.reduceLT, Int.reduceLE, Nat.reduceSub, Int.reduceNatCast, Nat.reduceLeDiff, e, adlStep]; rfl
    · simp (disch := first | omega | (simp only [lnv]; omega)) only [wlk, ↓get_put', Nat.reduceEqDiff, Nat.reduceLT, ↓reduceIte, Int.reduceToNat, Nat.reducePow, Nat.min_eq_left, Nat.reduceAdd, Nat.reduceMul, Int.reduceAdd, Int.reduceSub, Int.reduceNeg, Int.reduceMul, Int.reduceEq, Int.reduceLT, Int.reduceLE, Nat.reduceSub, Int.reduceNatCast, Nat.reduceLeDiff]; rfl
  · obtain rfl : i = l.length := by omega
    rw [List.take_length] at *
    subst hQ
    refine ⟨?_, rfl⟩
    unfold sumB; rfl
theorem fourB_cells {n : Nat} (h : n < 4294967296) : ([V.i .u8 ((n / 16777216 : Nat) : Int), V.i .u8 ((n / 65536 % 256 : Nat) : Int), V.i .u8 ((n / 256 % 256 : Nat) : Int), V.i .u8 ((n % 256 : Nat) : Int)] : List V) = (fourB n).map bv := by
  have e1 : n / 16777216 = n / 16777216 % 256 := by omega
  rw [e1]
  simp only [bv_ofNat]
  unfold fourB
  simp [u8_mod]
theorem four_ok {h : H} {n : Nat} (hn : n < 4294967296) (hf : B.val h.floor ≤ B.val h.next) : FnOk Try.prog 77 [.i .u32 (n : Int)] h fun y h' => y = sv (fourB n) ∧ Stay nowhere h h' := by
  refine fn_go c77 (by intro hb; cases hb) (by simp) (by simp) fun Q hQ => ?_
  simp only [slotsF, Nat.reduceAdd]
  repeat' (first
    | refine St.h ?_
    | simp (disch := first | omega | (simp only [lnv]; omega)) only [wlk, ↓get_put', Nat.reduceEqDiff, Nat.reduceLT, ↓reduceIte, Int.reduceToNat, Nat.reducePow, Nat.min_eq_left, Nat.reduceAdd, Nat.reduceMul, Int.reduceAdd, Int.reduceSub, Int.reduceNeg, Int.reduceMul, Int.reduceEq, Int.reduceLT, Int.reduceLE, Nat.reduceSub, Int.reduceNatCast, Nat.reduceLeDiff, wrap_u8m]
    | (with_reducible (first | apply cd_split | apply gd_split)) <;> (intro hc; (try simp only [hcn] at hc); (try simp only [hc]); (try simp only [hcl] at hc); try omega))
  refine AL.str (bs := fourB n) (fourB_cells hn) (by simp [fourB]) rfl rfl (by simp [fourB]) hf fun h' u s1 => ?_
  repeat' (first
    | refine St.h ?_
    | simp (disch := first | omega | (simp only [lnv]; omega)) only [wlk, ↓get_put', Nat.reduceEqDiff, Nat.reduceLT, ↓reduceIte, Int.reduceToNat, Nat.reducePow, Nat.min_eq_left, Nat.reduceAdd, Nat.reduceMul, Int.reduceAdd, Int.reduceSub, Int.reduceNeg, Int.reduceMul, Int.reduceEq, Int.reduceLT, Int.reduceLE, Nat.reduceSub, Int.reduceNatCast, Nat.reduceLeDiff]
    | (with_reducible (first | apply cd_split | apply gd_split)) <;> (intro hc; (try simp only [hcn] at hc); (try simp only [hc]); (try simp only [hcl] at hc); try omega))
  subst hQ
  exact ⟨rfl, s1⟩
theorem sumBytes_ok {h : H} {l : List UInt8} (hl : l.length ≤ 1000000) (hf : B.val h.floor ≤ B.val h.next) : FnOk Try.prog 89 [sv l] h fun y h' => y = sv (fourB (sumB l)) ∧ Stay nowhere h h' := by
  refine fn_go c89 (by intro hb; cases hb) (by simp) (by simp) fun Q hQ => ?_
  simp only [slotsF, Nat.reduceAdd]
  have hn := sumB_lt l
  repeat' (first
    | refine St.h ?_
    | simp (disch := first | omega | (simp only [lnv]; omega)) only [wlk, ↓get_put', Nat.reduceEqDiff, Nat.reduceLT, ↓reduceIte, Int.reduceToNat, Nat.reducePow, Nat.min_eq_left, Nat.reduceAdd, Nat.reduceMul, Int.reduceAdd, Int.reduceSub, Int.reduceNeg, Int.reduceMul, Int.reduceEq, Int.reduceLT, Int.reduceLE, Nat.reduceSub, Int.reduceNatCast, Nat.reduceLeDiff]
    | (with_reducible (first | apply cd_split | apply gd_split)) <;> (intro hc; (try simp only [hcn] at hc); (try simp only [hc]); (try simp only [hcl] at hc); try omega))
  refine CL.pure (sum_ok hl) ?_
  repeat' (first
    | refine St.h ?_
    | simp (disch := first | omega | (simp only [lnv]; omega)) only [wlk, ↓get_put', Nat.reduceEqDiff, Nat.reduceLT, ↓reduceIte, Int.reduceToNat, Nat.reducePow, Nat.min_eq_left, Nat.reduceAdd, Nat.reduceMul, Int.reduceAdd, Int.reduceSub, Int.reduceNeg, Int.reduceMul, Int.reduceEq, Int.reduceLT, Int.reduceLE, Nat.reduceSub, Int.reduceNatCast, Nat.reduceLeDiff, wrap_u8m]
    | (with_reducible (first | apply cd_split | apply gd_split)) <;> (intro hc; (try simp only [hcn] at hc); (try simp only [hc]); (try simp only [hcl] at hc); try omega))
  refine AL.str (bs := fourB (sumB l)) (fourB_cells hn) (by simp [fourB]) rfl rfl (by simp [fourB]) hf fun h' u s1 => ?_
  repeat' (first
    | refine St.h ?_
    | simp (disch := first | omega | (simp only [lnv]; omega)) only [wlk, ↓get_put', Nat.reduceEqDiff, Nat.reduceLT, ↓reduceIte, Int.reduceToNat, Nat.reducePow, Nat.min_eq_left, Nat.reduceAdd, Nat.reduceMul, Int.reduceAdd, Int.reduceSub, Int.reduceNeg, Int.reduceMul, Int.reduceEq, Int.reduceLT, Int.reduceLE, Nat.reduceSub, Int.reduceNatCast, Nat.reduceLeDiff]
    | (with_reducible (first | apply cd_split | apply gd_split)) <;> (intro hc; (try simp only [hcn] at hc); (try simp only [hc]); (try simp only [hcl] at hc); try omega))
  subst hQ
  exact ⟨rfl, s1⟩
theorem seal_ok {h : H} {l : List UInt8} (hl : l.length ≤ 1000000) (hf : B.val h.floor ≤ B.val h.next) : FnOk Try.prog 65 [sv l] h fun y h' => y = sv (sealB l) ∧ Stay nowhere h h' := by
  refine fn_go c65 (by intro hb; cases hb) (by simp) (by simp) fun Q hQ => ?_
  simp only [slotsF, Nat.reduceAdd]
  have h9 := numB_len (n := l.length) (by omega)
  have h4 := fourB_len (sumB l)
  repeat' (first
    | refine St.h ?_
    | simp (disch := first | omega | (simp only [lnv]; omega)) only [wlk, ↓get_put', Nat.reduceEqDiff, Nat.reduceLT, ↓reduceIte, Int.reduceToNat, Nat.reducePow, Nat.min_eq_left, Nat.reduceAdd, Nat.reduceMul, Int.reduceAdd, Int.reduceSub, Int.reduceNeg, Int.reduceMul, Int.reduceEq, Int.reduceLT, Int.reduceLE, Nat.reduceSub, Int.reduceNatCast, Nat.reduceLeDiff]
    | (with_reducible (first | apply cd_split | apply gd_split)) <;> (intro hc; (try simp only [hcn] at hc); (try simp only [hc]); (try simp only [hcl] at hc); try omega))
  refine CL.stay (num_ok (by omega) hf) fun h1 s1 => ?_
  repeat' (first
    | refine St.h ?_
    | simp (disch := first | omega | (simp only [lnv]; omega)) only [wlk, ↓get_put', Nat.reduceEqDiff, Nat.reduceLT, ↓reduceIte, Int.reduceToNat, Nat.reducePow, Nat.min_eq_left, Nat.reduceAdd, Nat.reduceMul, Int.reduceAdd, Int.reduceSub, Int.reduceNeg, Int.reduceMul, Int.reduceEq, Int.reduceLT, Int.reduceLE, Nat.reduceSub, Int.reduceNatCast, Nat.reduceLeDiff]
    | (with_reducible (first | apply cd_split | apply gd_split)) <;> (intro hc; (try simp only [hcn] at hc); (try simp only [hc]); (try simp only [hcl] at hc); try omega))
  refine CL.stay (sumBytes_ok hl (s1.fl hf)) fun h2 s2 => ?_
  repeat' (first
    | refine St.h ?_
    | simp (disch := first | omega | (simp only [lnv]; omega)) only [wlk, ↓get_put', Nat.reduceEqDiff, Nat.reduceLT, ↓reduceIte, Int.reduceToNat, Nat.reducePow, Nat.min_eq_left, Nat.reduceAdd, Nat.reduceMul, Int.reduceAdd, Int.reduceSub, Int.reduceNeg, Int.reduceMul, Int.reduceEq, Int.reduceLT, Int.reduceLE, Nat.reduceSub, Int.reduceNatCast, Nat.reduceLeDiff]
    | (with_reducible (first | apply cd_split | apply gd_split)) <;> (intro hc; (try simp only [hcn] at hc); (try simp only [hc]); (try simp only [hcl] at hc); try omega))
  subst hQ
  exact ⟨rfl, s1.trans s2⟩
theorem rseal_ok {h : H} {l : List UInt8} (hl : l.length ≤ 1000000) (hf : B.val h.floor ≤ B.val h.next) : FnOk Try.prog 47 [sv l] h fun y h' => y = sv (sealB l) ∧ Stay nowhere h h' := by
  refine fn_go c47 (by intro hb; cases hb) (by simp) (by simp) fun Q hQ => ?_
  simp only [slotsF, Nat.reduceAdd]
  have h9 := numB_len (n := l.length) (by omega)
  have h4 := fourB_len (sumB l)
  repeat' (first
    | refine St.h ?_
    | simp (disch := first | omega | (simp only [lnv]; omega)) only [wlk, ↓get_put', Nat.reduceEqDiff, Nat.reduceLT, ↓reduceIte, Int.reduceToNat, Nat.reducePow, Nat.min_eq_left, Nat.reduceAdd, Nat.reduceMul, Int.reduceAdd, Int.reduceSub, Int.reduceNeg, Int.reduceMul, Int.reduceEq, Int.reduceLT, Int.reduceLE, Nat.reduceSub, Int.reduceNatCast, Nat.reduceLeDiff]
    | (with_reducible (first | apply cd_split | apply gd_split)) <;> (intro hc; (try simp only [hcn] at hc); (try simp only [hc]); (try simp only [hcl] at hc); try omega))
  refine CL.stay (rnum_ok (by omega) hf) fun h1 s1 => ?_
  repeat' (first
    | refine St.h ?_
    | simp (disch := first | omega | (simp only [lnv]; omega)) only [wlk, ↓get_put', Nat.reduceEqDiff, Nat.reduceLT, ↓reduceIte, Int.reduceToNat, Nat.reducePow, Nat.min_eq_left, Nat.reduceAdd, Nat.reduceMul, Int.reduceAdd, Int.reduceSub, Int.reduceNeg, Int.reduceMul, Int.reduceEq, Int.reduceLT, Int.reduceLE, Nat.reduceSub, Int.reduceNatCast, Nat.reduceLeDiff]
    | (with_reducible (first | apply cd_split | apply gd_split)) <;> (intro hc; (try simp only [hcn] at hc); (try simp only [hc]); (try simp only [hcl] at hc); try omega))
  refine CL.pure (rsum_ok hl) ?_
  repeat' (first
    | refine St.h ?_
    | simp (disch := first | omega | (simp only [lnv]; omega)) only [wlk, ↓get_put', Nat.reduceEqDiff, Nat.reduceLT, ↓reduceIte, Int.reduceToNat, Nat.reducePow, Nat.min_eq_left, Nat.reduceAdd, Nat.reduceMul, Int.reduceAdd, Int.reduceSub, Int.reduceNeg, Int.reduceMul, Int.reduceEq, Int.reduceLT, Int.reduceLE, Nat.reduceSub, Int.reduceNatCast, Nat.reduceLeDiff]
    | (with_reducible (first | apply cd_split | apply gd_split)) <;> (intro hc; (try simp only [hcn] at hc); (try simp only [hc]); (try simp only [hcl] at hc); try omega))
  refine CL.stay (four_ok (sumB_lt l) (s1.fl hf)) fun h2 s2 => ?_
  repeat' (first
    | refine St.h ?_
    | simp (disch := first | omega | (simp only [lnv]; omega)) only [wlk, ↓get_put', Nat.reduceEqDiff, Nat.reduceLT, ↓reduceIte, Int.reduceToNat, Nat.reducePow, Nat.min_eq_left, Nat.reduceAdd, Nat.reduceMul, Int.reduceAdd, Int.reduceSub, Int.reduceNeg, Int.reduceMul, Int.reduceEq, Int.reduceLT, Int.reduceLE, Nat.reduceSub, Int.reduceNatCast, Nat.reduceLeDiff]
    | (with_reducible (first | apply cd_split | apply gd_split)) <;> (intro hc; (try simp only [hcn] at hc); (try simp only [hc]); (try simp only [hcl] at hc); try omega))
  subst hQ
  exact ⟨rfl, s1.trans s2⟩
/-- what Open tells, as a value -/
def opn (l : List UInt8) : V := .tu [sv (openB l).1, .i .i64 (openB l).2.1, .i .i64 (openB l).2.2]
theorem open_ok {h : H} {l : List UInt8} (hl : l.length ≤ 1000000) (hf : B.val h.floor ≤ B.val h.next) : FnOk Try.prog 72 [sv l] h fun y h' => y = opn l ∧ Stay nowhere h h' := by
  refine fn_go c72 (by intro hb; cases hb) (by simp) (by simp) fun Q hQ => ?_
  simp only [slotsF, Nat.reduceAdd]
  repeat' (first
    | refine St.h ?_
    | simp (disch := first | omega | (simp only [lnv]; omega)) only [wlk, ↓get_put', Nat.reduceEqDiff, Nat.reduceLT, ↓reduceIte, Int.reduceToNat, Nat.reducePow, Nat.min_eq_left, Nat.reduceAdd, Nat.reduceMul, Int.reduceAdd, Int.reduceSub, Int.reduceNeg, Int.reduceMul, Int.reduceEq, Int.reduceLT, Int.reduceLE, Nat.reduceSub, Int.reduceNatCast, Nat.reduceLeDiff]
    | (with_reducible (first | apply cd_split | apply gd_split)) <;> (intro hc; (try simp only [hcn] at hc); (try simp only [hc]); (try simp only [hcl] at hc); try omega))
  refine CL.pure (takeNum_ok hl) ?_
  rcases takeN_range l with (hc | hc) | ⟨n, k, hc, h1, h2, h3, h4⟩
  · have e : openB l = ([], 0, 13) := by unfold openB; rw [hc]; rfl
    rw [hc]; unfold tri
    repeat' (first
      | refine St.h ?_
      | simp (disch := first | omega | (simp only [lnv]; omega)) only [wlk, ↓get_put', Nat.reduceEqDiff, Nat.reduceLT, ↓reduceIte, Int.reduceToNat, Nat.reducePow, Nat.min_eq_left, Nat.reduceAdd, Nat.reduceMul, Int.reduceAdd, Int.reduceSub, Int.reduceNeg, Int.reduceMul, Int.reduceEq, Int.reduceLT, Int.reduceLE, Nat.reduceSub, Int.reduceNatCast, Nat.reduceLeDiff]
      | (with_reducible (first | apply cd_split | apply gd_split)) <;> (intro hc; (try simp only [hcn] at hc); (try simp only [hc]); (try simp only [hcl] at hc); try omega))
    subst hQ
    exact ⟨by unfold opn; rw [e], Stay.refl _ _⟩
  · have e : openB l = ([], 0, 12) := by unfold openB; rw [hc]; rfl
    rw [hc]; unfold tri
    repeat' (first
      | refine St.h ?_
      | simp (disch := first | omega | (simp only [lnv]; omega)) only [wlk, ↓get_put', Nat.reduceEqDiff, Nat.reduceLT, ↓reduceIte, Int.reduceToNat, Nat.reducePow, Nat.min_eq_left, Nat.reduceAdd, Nat.reduceMul, Int.reduceAdd, Int.reduceSub, Int.reduceNeg, Int.reduceMul, Int.reduceEq, Int.reduceLT, Int.reduceLE, Nat.reduceSub, Int.reduceNatCast, Nat.reduceLeDiff]
      | (with_reducible (first | apply cd_split | apply gd_split)) <;> (intro hc; (try simp only [hcn] at hc); (try simp only [hc]); (try simp only [hcl] at hc); try omega))
    subst hQ
    exact ⟨by unfold opn; rw [e], Stay.refl _ _⟩
  have e := openB_num hc
  rw [hc]; unfold tri
  have hd : (l.drop k).length = l.length - k := List.length_drop
  repeat' (first
    | refine St.h ?_
    | simp (disch := first | omega | (simp only [lnv]; omega)) only [wlk, ↓get_put', Nat.reduceEqDiff, Nat.reduceLT, ↓reduceIte, Int.reduceToNat, Nat.reducePow, Nat.min_eq_left, Nat.reduceAdd, Nat.reduceMul, Int.reduceAdd, Int.reduceSub, Int.reduceNeg, Int.reduceMul, Int.reduceEq, Int.reduceLT, Int.reduceLE, Nat.reduceSub, Int.reduceNatCast, Nat.reduceLeDiff, Int.toNat_natCast]
    | (with_reducible (first | apply cd_split | apply gd_split)) <;> (intro hc; (try simp only [hcn] at hc); (try simp only [hc]); (try simp only [hcl] at hc); try omega))
  · rw [if_pos (by omega)] at e
    subst hQ
    exact ⟨by unfold opn; rw [e], Stay.refl _ _⟩
  rw [if_neg (by omega)] at e
  have ht : ((l.drop k).take (4 + (n : Int)).toNat).drop 4 = (l.drop (k + 4)).take n := by
    rw [show (4 + (n : Int)).toNat = 4 + n by omega, List.drop_take, List.drop_drop]
    congr 1; omega
  rw [ht]
  have htl : ((l.drop (k + 4)).take n).length ≤ 1000000 := by rw [List.length_take, List.length_drop]; omega
  refine CL.stay (sumBytes_ok htl hf) fun h1' s1 => ?_
  repeat' (first
    | refine St.h ?_
    | simp (disch := first | omega | (simp only [lnv]; omega)) only [wlk, ↓get_put', Nat.reduceEqDiff, Nat.reduceLT, ↓reduceIte, Int.reduceToNat, Nat.reducePow, Nat.min_eq_left, Nat.reduceAdd, Nat.reduceMul, Int.reduceAdd, Int.reduceSub, Int.reduceNeg, Int.reduceMul, Int.reduceEq, Int.reduceLT, Int.reduceLE, Nat.reduceSub, Int.reduceNatCast, Nat.reduceLeDiff]
    | (with_reducible (first | apply cd_split | apply gd_split)) <;> (intro hc; (try simp only [hcn] at hc); (try simp only [hc]); (try simp only [hcl] at hc); try omega))
  all_goals subst hQ
  · rw [if_pos (fun e' => hc e'.symm)] at e
    exact ⟨by unfold opn; rw [e], s1⟩
  · rw [if_neg (by intro e'; exact e' hc.symm)] at e
    exact ⟨by unfold opn; rw [e], s1⟩
theorem ropen_ok {h : H} {l : List UInt8} (hl : l.length ≤ 1000000) (hf : B.val h.floor ≤ B.val h.next) : FnOk Try.prog 46 [sv l] h fun y h' => y = opn l ∧ Stay nowhere h h' := by
  refine fn_go c46 (by intro hb; cases hb) (by simp) (by simp) fun Q hQ => ?_
  simp only [slotsF, Nat.reduceAdd]
  repeat' (first
    | refine St.h ?_
    | simp (disch := first | omega | (simp only [lnv]; omega)) only [wlk, ↓get_put', Nat.reduceEqDiff, Nat.reduceLT, ↓reduceIte, Int.reduceToNat, Nat.reducePow, Nat.min_eq_left, Nat.reduceAdd, Nat.reduceMul, Int.reduceAdd, Int.reduceSub, Int.reduceNeg, Int.reduceMul, Int.reduceEq, Int.reduceLT, Int.reduceLE, Nat.reduceSub, Int.reduceNatCast, Nat.reduceLeDiff]
    | (with_reducible (first | apply cd_split | apply gd_split)) <;> (intro hc; (try simp only [hcn] at hc); (try simp only [hc]); (try simp only [hcl] at hc); try omega))
  refine CL.pure (rtakeNum_ok hl) ?_
  rcases takeN_range l with (hc | hc) | ⟨n, k, hc, h1, h2, h3, h4⟩
  · have e : openB l = ([], 0, 13) := by unfold openB; rw [hc]; rfl
    rw [hc]; unfold tri
    repeat' (first
      | refine St.h ?_
      | simp (disch := first | omega | (simp only [lnv]; omega)) only [wlk, ↓get_put', Nat.reduceEqDiff, Nat.reduceLT, ↓reduceIte, Int.reduceToNat, Nat.reducePow, Nat.min_eq_left, Nat.reduceAdd, Nat.reduceMul, Int.reduceAdd, Int.reduceSub, Int.reduceNeg, Int.reduceMul, Int.reduceEq, Int.reduceLT, Int.reduceLE, Nat.reduceSub, Int.reduceNatCast, Nat.reduceLeDiff]
      | (with_reducible (first | apply cd_split | apply gd_split)) <;> (intro hc; (try simp only [hcn] at hc); (try simp only [hc]); (try simp only [hcl] at hc); try omega))
    subst hQ
    exact ⟨by unfold opn; rw [e], Stay.refl _ _⟩
  · have e : openB l = ([], 0, 12) := by unfold openB; rw [hc]; rfl
    rw [hc]; unfold tri
    repeat' (first
      | refine St.h ?_
      | simp (disch := first | omega | (simp only [lnv]; omega)) only [wlk, ↓get_put', Nat.reduceEqDiff, Nat.reduceLT, ↓reduceIte, Int.reduceToNat, Nat.reducePow, Nat.min_eq_left, Nat.reduceAdd, Nat.reduceMul, Int.reduceAdd, Int.reduceSub, Int.reduceNeg, Int.reduceMul, Int.reduceEq, Int.reduceLT, Int.reduceLE, Nat.reduceSub, Int.reduceNatCast, Nat.reduceLeDiff]
      | (with_reducible (first | apply cd_split | apply gd_split)) <;> (intro hc; (try simp only [hcn] at hc); (try simp only [hc]); (try simp only [hcl] at hc); try omega))
    subst hQ
    exact ⟨by unfold opn; rw [e], Stay.refl _ _⟩
  have e := openB_num hc
  rw [hc]; unfold tri
  repeat' (first
    | refine St.h ?_
    | simp (disch := first | omega | (simp only [lnv]; omega)) only [wlk, ↓get_put', Nat.reduceEqDiff, Nat.reduceLT, ↓reduceIte, Int.reduceToNat, Nat.reducePow, Nat.min_eq_left, Nat.reduceAdd, Nat.reduceMul, Int.reduceAdd, Int.reduceSub, Int.reduceNeg, Int.reduceMul, Int.reduceEq, Int.reduceLT, Int.reduceLE, Nat.reduceSub, Int.reduceNatCast, Nat.reduceLeDiff, Int.toNat_natCast]
    | (with_reducible (first | apply cd_split | apply gd_split)) <;> (intro hc; (try simp only [hcn] at hc); (try simp only [hc]); (try simp only [hcl] at hc); try omega))
  · rw [if_pos (by omega)] at e
    subst hQ
    exact ⟨by unfold opn; rw [e], Stay.refl _ _⟩
  · rw [if_pos (by omega)] at e
    subst hQ
    exact ⟨by unfold opn; rw [e], Stay.refl _ _⟩
  rw [if_neg (by omega)] at e
  have ht : (l.take ((k : Int) + 4 + n).toNat).drop ((k : Int) + 4).toNat = (l.drop (k + 4)).take n := by
    rw [show ((k : Int) + 4 + n).toNat = (k + 4) + n by omega, show ((k : Int) + 4).toNat = k + 4 by omega, List.drop_take]
    congr 1; omega
  have ht2 : (l.take ((k : Int) + 4).toNat).drop k = (l.drop k).take 4 := by
    rw [show ((k : Int) + 4).toNat = k + 4 by omega, List.drop_take]
    congr 1; omega
  rw [ht]
  have htl : ((l.drop (k + 4)).take n).length ≤ 1000000 := by rw [List.length_take, List.length_drop]; omega
  refine CL.pure (rsum_ok htl) ?_
  repeat' (first
    | refine St.h ?_
    | simp (disch := first | omega | (simp only [lnv]; omega)) only [wlk, ↓get_put', Nat.reduceEqDiff, Nat.reduceLT, ↓reduceIte, Int.reduceToNat, Nat.reducePow, Nat.min_eq_left, Nat.reduceAdd, Nat.reduceMul, Int.reduceAdd, Int.reduceSub, Int.reduceNeg, Int.reduceMul, Int.reduceEq, Int.reduceLT, Int.reduceLE, Nat.reduceSub, Int.reduceNatCast, Nat.reduceLeDiff]
    | (with_reducible (first | apply cd_split | apply gd_split)) <;> (intro hc; (try simp only [hcn] at hc); (try simp only [hc]); (try simp only [hcl] at hc); try omega))
  refine CL.stay (four_ok (sumB_lt _) hf) fun h1 s1 => ?_
  repeat' (first
    | refine St.h ?_
    | simp (disch := first | omega | (simp only [lnv]; omega)) only [wlk, ↓get_put', Nat.reduceEqDiff, Nat.reduceLT, ↓reduceIte, Int.reduceToNat, Nat.reducePow, Nat.min_eq_left, Nat.reduceAdd, Nat.reduceMul, Int.reduceAdd, Int.reduceSub, Int.reduceNeg, Int.reduceMul, Int.reduceEq, Int.reduceLT, Int.reduceLE, Nat.reduceSub, Int.reduceNatCast, Nat.reduceLeDiff, Int.toNat_natCast, ht2]
    | (with_reducible (first | apply cd_split | apply gd_split)) <;> (intro hc; (try simp only [hcn] at hc); (try simp only [hc]); (try simp only [hcl] at hc); try omega))
  all_goals subst hQ
  · rw [if_pos hc] at e
    exact ⟨by unfold opn; rw [e], s1⟩
  · rw [if_neg (by intro e'; exact e' hc)] at e
    exact ⟨by unfold opn; rw [e], s1⟩
end Go.Proofs.Ytjlhfoadabkahaa

set_option linter.all false
namespace Go.Ev
open Go
/-- how far two keys are alike -/
def sharedB : List UInt8 → List UInt8 → Nat
  | x :: a, y :: b => if x = y then sharedB a b + 1 else 0
  | _, _ => 0
theorem sharedB_le : ∀ (a b : List UInt8), sharedB a b ≤ a.length ∧ sharedB a b ≤ b.length
  | x :: a, y :: b => by
    have ih := sharedB_le a b
    unfold sharedB
    split <;> simp <;> omega
  | [], _ => by simp [sharedB]
  | _ :: _, [] => by simp [sharedB]
theorem sharedB_at : ∀ {a b : List UInt8} {n : Nat}, n ≤ a.length → n ≤ b.length → (∀ i, i < n → a.getD i 0 = b.getD i 0) → (n = a.length ∨ n = b.length ∨ a.getD n 0 ≠ b.getD n 0) → sharedB a b = n
  | [], b, n, h1, _, _, _ => by simp at h1; subst h1; rfl
  | x :: a, [], n, _, h2, _, _ => by simp at h2; subst h2; rfl
  | x :: a, y :: b, 0, _, _, _, h => by
    have : x ≠ y := by
      rcases h with h | h | h
      · simp at h
      · simp at h
      · exact h
    unfold sharedB; rw [if_neg this]
  | x :: a, y :: b, n + 1, h1, h2, he, h => by
    have e0 : x = y := he 0 (by omega)
    have ih := sharedB_at (a := a) (b := b) (n := n) (by simpa using h1) (by simpa using h2) (fun i hi => he (i + 1) (by omega)) (by
      rcases h with h | h | h
      · exact .inl (by simpa using h)
      · exact .inr (.inl (by simpa using h))
      · exact .inr (.inr h))
    unfold sharedB; rw [if_pos e0, ih]
theorem sharedB_comm : ∀ a b : List UInt8, sharedB a b = sharedB b a
  | [], [] => rfl
  | [], _ :: _ => rfl
  | _ :: _, [] => rfl
  | x :: a, y :: b => by
    unfold sharedB
    by_cases e : x = y
    · rw [if_pos e, if_pos e.symm, sharedB_comm a b]
    · rw [if_neg e, if_neg (fun h => e h.symm)]
theorem sharedB_take : ∀ a b : List UInt8, a.take (sharedB a b) = b.take (sharedB a b)
  | [], [] => rfl
  | [], _ :: _ => rfl
  | _ :: _, [] => rfl
  | x :: a, y :: b => by
    unfold sharedB
    by_cases e : x = y
    · rw [if_pos e, List.take_succ_cons, List.take_succ_cons, sharedB_take a b, e]
    · rw [if_neg e]; rfl
/-- an entry behind a key -/
def oneB (p : List UInt8) (e : Ent) : List UInt8 := numB (sharedB e.key p) ++ textB (e.key.drop (sharedB e.key p)) ++ tailB e
def bodyB : List UInt8 → List Ent → List UInt8
  | _, [] => []
  | p, e :: L => oneB p e ++ bodyB e.key L
def blkE (L : List Ent) : List UInt8 × Int := if L.all isE = false ∨ L = [] then ([], 10) else if sortedE L = false then ([], 16) else (sealB (bodyB [] L), 0)
theorem blkE_bad {L : List Ent} (h : L.all isE = false) : blkE L = ([], 10) := if_pos (.inl h)
theorem blkE_nil : blkE [] = ([], 10) := if_pos (.inr rfl)
theorem blkE_un {L : List Ent} (h : L.all isE = true) (hn : L ≠ []) (hs : sortedE L = false) : blkE L = ([], 16) := by
  unfold blkE; rw [if_neg (fun e => e.elim (fun e => by rw [h] at e; cases e) hn), if_pos hs]
theorem blkE_ok {L : List Ent} (h : L.all isE = true) (hn : L ≠ []) (hs : sortedE L = true) : blkE L = (sealB (bodyB [] L), 0) := by
  unfold blkE; rw [if_neg (fun e => e.elim (fun e => by rw [h] at e; cases e) hn), if_neg (by rw [hs]; decide)]
theorem tailB_len {e : Ent} (h : isE e = true) : (tailB e).length ≤ 43 := by
  obtain ⟨⟨s1, s2⟩, k1, k2, k3, k4⟩ := isE_iff.1 h
  have l3 := numB_len (n := e.seq.toNat) (by omega)
  have l4 := numB_len (n := e.val.length) (by omega)
  unfold tailB textB
  rw [List.length_append]
  split <;> simp <;> omega
theorem oneB_len {p : List UInt8} {e : Ent} (h : isE e = true) : (oneB p e).length ≤ 80 := by
  have h1 := tailB_len h
  obtain ⟨_, k1, k2, _⟩ := isE_iff.1 h
  have hs := sharedB_le e.key p
  have l3 := numB_len (n := sharedB e.key p) (by omega)
  have l4 := numB_len (n := (e.key.drop (sharedB e.key p)).length) (by rw [List.length_drop]; omega)
  unfold oneB textB
  simp only [List.length_append, List.length_drop] at *
  omega
theorem bodyB_len : ∀ {L : List Ent} {p : List UInt8}, L.all isE = true → (bodyB p L).length ≤ 80 * L.length
  | [], _, _ => by simp [bodyB]
  | e :: L, p, h => by
    rw [List.all_cons, Bool.and_eq_true] at h
    have h1 := oneB_len (p := p) h.1
    have h2 := bodyB_len (p := e.key) h.2
    have e1 : bodyB p (e :: L) = oneB p e ++ bodyB e.key L := rfl
    rw [e1, List.length_append, List.length_cons]; omega
/-- one step of reading: the entry, how many bytes -/
def stepE (p r : List UInt8) : Option (Ent × Nat) :=
  if (takeN r).2.2 ≠ 0 ∨ (p.length : Int) < (takeN r).1 then none else
  if (takeT (r.drop (takeN r).2.1.toNat)).2.2 ≠ 0 then none else
  if (chkd (tailU (p.take (takeN r).1.toNat ++ (takeT (r.drop (takeN r).2.1.toNat)).1) (r.drop ((takeN r).2.1.toNat + (takeT (r.drop (takeN r).2.1.toNat)).2.1.toNat)))).2.2 ≠ 0 then none else
  some ((chkd (tailU (p.take (takeN r).1.toNat ++ (takeT (r.drop (takeN r).2.1.toNat)).1) (r.drop ((takeN r).2.1.toNat + (takeT (r.drop (takeN r).2.1.toNat)).2.1.toNat)))).1,
    (takeN r).2.1.toNat + (takeT (r.drop (takeN r).2.1.toNat)).2.1.toNat + (chkd (tailU (p.take (takeN r).1.toNat ++ (takeT (r.drop (takeN r).2.1.toNat)).1) (r.drop ((takeN r).2.1.toNat + (takeT (r.drop (takeN r).2.1.toNat)).2.1.toNat)))).2.1.toNat)
section
variable {p r t : List UInt8} {k i j m : Nat} {e : Int} {x : Ent}
theorem stepE_3 (h : takeN r = ((k : Int), (i : Int), 0)) (hk : k ≤ p.length) (h2 : takeT (r.drop i) = ([], 0, e)) (he : e ≠ 0) : stepE p r = none := by
  unfold stepE; rw [h]; simp only [Int.toNat_natCast]
  rw [if_neg (by rintro (h | h) <;> omega), h2]; exact if_pos he
theorem stepE_5 (h : takeN r = ((k : Int), (i : Int), 0)) (hk : k ≤ p.length) (h2 : takeT (r.drop i) = (t, (j : Int), 0)) (h3 : chkd (tailU (p.take k ++ t) (r.drop (i + j))) = (x, (m : Int), 0)) : stepE p r = some (x, i + j + m) := by
  unfold stepE; rw [h]; simp only [Int.toNat_natCast]
  rw [if_neg (by rintro (h | h) <;> omega), h2]; simp only [Int.toNat_natCast]
  rw [if_neg (by simp), h3]; simp only [Int.toNat_natCast]
  rw [if_neg (by simp)]
end
/-- the entries of bytes, behind a key; the first number is how many steps at most -/
def prsE : Nat → List UInt8 → List UInt8 → Option (List Ent)
  | 0, _, r => if r = [] then some [] else none
  | f + 1, p, r => if r = [] then some [] else match stepE p r with
    | none => none
    | some (x, n) => (prsE f x.key (r.drop n)).map (x :: ·)
theorem prsE_nil (f : Nat) (p : List UInt8) : prsE f p [] = some [] := by cases f <;> rfl
theorem prsE_some {f : Nat} {p r : List UInt8} {x : Ent} {n : Nat} (hr : r ≠ []) (h : stepE p r = some (x, n)) : prsE (f + 1) p r = (prsE f x.key (r.drop n)).map (x :: ·) := by
  rw [prsE, if_neg hr, h]
def readB (s : List UInt8) : List Ent × Int :=
  if (openB s).2.2 ≠ 0 then ([], (openB s).2.2) else if (openB s).2.1 ≠ (s.length : Int) then ([], 13) else
  match prsE (openB s).1.length [] (openB s).1 with
  | none => ([], 10)
  | some L => if (blkE L).2 = 0 ∧ (blkE L).1 = s then (L, 0) else ([], 10)
section
variable {s b : List UInt8} {n : Nat} {e : Int} {L : List Ent}
theorem readB_1 (h : openB s = ([], 0, e)) (he : e ≠ 0) : readB s = ([], e) := by unfold readB; rw [h]; exact if_pos he
theorem readB_2 (h : openB s = (b, (n : Int), 0)) (hn : n ≠ s.length) : readB s = ([], 13) := by
  unfold readB; rw [h]; simp only; rw [if_neg (by simp), if_pos (by omega)]
theorem readB_3 (h : openB s = (b, (n : Int), 0)) (hn : n = s.length) (h2 : prsE b.length [] b = none) : readB s = ([], 10) := by
  unfold readB; rw [h]; simp only; rw [if_neg (by simp), if_neg (by simp; omega), h2]
theorem readB_4 (h : openB s = (b, (n : Int), 0)) (hn : n = s.length) (h2 : prsE b.length [] b = some L) : readB s = if (blkE L).2 = 0 ∧ (blkE L).1 = s then (L, 0) else ([], 10) := by
  unfold readB; rw [h]; simp only; rw [if_neg (by simp), if_neg (by simp; omega), h2]
end
theorem prsE_len : ∀ {f : Nat} {p r : List UInt8} {L : List Ent}, prsE f p r = some L → L.length ≤ f
  | 0, p, r, L, h => by
    unfold prsE at h
    split at h
    · cases h; exact Nat.le_refl _
    · cases h
  | f + 1, p, r, L, h => by
    unfold prsE at h
    split at h
    · cases h; simp
    · split at h
      · cases h
      · rename_i x n _
        cases hp : prsE f x.key (r.drop n) with
        | none => rw [hp] at h; cases h
        | some M => rw [hp] at h; cases h; have := prsE_len hp; simp; omega
theorem openB_le (s : List UInt8) : (openB s).1.length ≤ s.length := by
  rcases openB_range s with h | h | ⟨x, n, h, _, h2, h3⟩ <;> rw [h] <;> simp <;> omega
theorem readB_len (s : List UInt8) : (readB s).1.length ≤ s.length := by
  have h0 := openB_le s
  unfold readB
  split
  · simp
  · split
    · simp
    · split
      · simp
      · rename_i L hp
        have := prsE_len hp
        split
        · exact Nat.le_trans this h0
        · simp
end Go.Ev

set_option maxRecDepth 100000
set_option maxHeartbeats 8000000
set_option linter.all false
namespace Go.Proofs.Ytjlhfoadabkahaa
open Go Go.Ev
theorem rshared_ok {h : H} {a b : List UInt8} (ha : a.length ≤ 1000000) (hb : b.length ≤ 1000000) : FnOk Try.prog 45 [sv a, sv b] h fun y h' => y = .i .i64 (sharedB a b : Int) ∧ h' = h := by
  refine fn_go c45 (by intro hb; cases hb) (by simp) (by simp) fun Q hQ => ?_
  simp only [slotsF, Nat.reduceAdd]
  repeat' (first
    | refine St.h ?_
    | simp (disch := first | omega | (simp only [lnv]; omega)) only [wlk, ↓get_put', Nat.reduceEqDiff, Nat.reduceLT, ↓reduceIte, Int.reduceToNat, Nat.reducePow, Nat.min_eq_left, Nat.reduceAdd, Nat.reduceMul, Int.reduceAdd, Int.reduceSub, Int.reduceNeg, Int.reduceMul, Int.reduceEq, Int.reduceLT, Int.reduceLE, Nat.reduceSub, Int.reduceNatCast, Nat.reduceLeDiff]
    | (with_reducible (first | apply cd_split | apply gd_split)) <;> (intro hc; (try simp only [hcn] at hc); (try simp only [hc]); (try simp only [hcl] at hc); try omega))
  refine Ok.lp (fun m t g => ∃ n : Nat, m = a.length - n ∧ h = g ∧ n ≤ a.length ∧ n ≤ b.length ∧ (∀ i, i < n → a.getD i 0 = b.getD i 0) ∧ get 0 t = sv a ∧ get 1 t = sv b ∧ get 5 t = .i .i64 (n : Int)) a.length ?_ ?_
  · simp (disch := first | omega | (simp only [lnv]; omega)) only [wlk, ↓get_put', Nat.reduceEqDiff, Nat.reduceLT, ↓reduceIte, Int.reduceToNat, Nat.reducePow, Nat.min_eq_left, Nat.reduceAdd, Nat.reduceMul, Int.reduceAdd, Int.reduceSub, Int.reduceNeg, Int.reduceMul, Int.reduceEq, Int.reduceLT, Int.reduceLE, Nat.reduceSub, Int.reduceNatCast, Nat.reduceLeDiff]
    refine ⟨0, by omega, trivial, by omega, by omega, fun i hi => by omega, ?_⟩
    repeat' (first | trivial | rfl | refine And.intro ?_ ?_)
  rintro I hI m t g ⟨n, rfl, rfl, h1, h2, he, f0, f1, f5⟩
  have da : n < a.length → (a.getD n 0).toNat < 256 := fun _ => (a.getD n 0).toNat_lt
  have fin : (n = a.length ∨ n = b.length ∨ a.getD n 0 ≠ b.getD n 0) → sharedB a b = n := sharedB_at h1 h2 he
  repeat' (first
    | refine St.h ?_
    | simp (disch := first | omega | (simp only [lnv]; omega)) only [wlk, ↓get_put', Nat.reduceEqDiff, Nat.reduceLT, ↓reduceIte, Int.reduceToNat, Nat.reducePow, Nat.min_eq_left, Nat.reduceAdd, Nat.reduceMul, Int.reduceAdd, Int.reduceSub, Int.reduceNeg, Int.reduceMul, Int.reduceEq, Int.reduceLT, Int.reduceLE, Nat.reduceSub, Int.reduceNatCast, Nat.reduceLeDiff, f0, f1, f5, Int.toNat_natCast]
    | (with_reducible (first | apply cd_split | apply gd_split)) <;> (intro hc; (try simp only [hcn] at hc); (try simp only [hc]); (try simp only [hcl] at hc); try omega))
  · refine lp_next hI (a.length - (n + 1)) (by omega) ⟨n + 1, rfl, rfl, by omega, by omega, fun i hi => ?_, ?_, ?_, ?_⟩
    · by_cases e : i = n
      · subst e; exact UInt8.toNat_inj.1 (by omega)
      · exact he i (by omega)
    · simp (disch := first | omega | (simp only [lnv]; omega)) only [wlk, ↓get_put', Nat.reduceEqDiff, Nat.reduceLT, ↓reduceIte, Int.reduceToNat, Nat.reducePow, Nat.min_eq_left, Nat.reduceAdd, Nat.reduceMul, Int.reduceAdd, Int.reduceSub, Int.reduceNeg, Int.reduceMul, Int.reduceEq, Int.reduceLT, Int.reduceLE, Nat.reduceSub, Int.reduceNatCast, Nat.reduceLeDiff, f0]
    · simp (disch := first | omega | (simp only [lnv]; omega)) only [wlk, ↓get_put', Nat.reduceEqDiff, Nat.reduceLT, ↓reduceIte, Int.reduceToNat, Nat.reducePow, Nat.min_eq_left, Nat.reduceAdd, Nat.reduceMul, Int.reduceAdd, Int.reduceSub, Int.reduceNeg, Int.reduceMul, Int.reduceEq, Int.reduceLT, Int.reduceLE, Nat.reduceSub, Int.reduceNatCast, Nat.reduceLeDiff, f1]
    · simp (disch := first | omega | (simp only [lnv]; omega)) only [wlk, ↓get_put', Nat.reduceEqDiff, Nat.reduceLT, ↓reduceIte, Int.reduceToNat, Nat.reducePow, Nat.min_eq_left, Nat.reduceAdd, Nat.reduceMul, Int.reduceAdd, Int.reduceSub, Int.reduceNeg, Int.reduceMul, Int.reduceEq, Int.reduceLT, Int.reduceLE, Nat.reduceSub, Int.reduceNatCast, Nat.reduceLeDiff]; rfl
  · subst hQ
    exact ⟨by rw [fin (.inr (.inr fun e => by have := congrArg UInt8.toNat e; omega))], rfl⟩
  · subst hQ
    exact ⟨by rw [fin (.inr (.inl (by omega)))], rfl⟩
  · subst hQ
    exact ⟨by rw [fin (.inl (by omega))], rfl⟩
theorem ent_ext {a b : Ent} (h : a.key = b.key ∧ a.seq = b.seq ∧ a.del = b.del ∧ a.val = b.val) : a = b := by
  obtain ⟨k1, q1, d1, v1⟩ := a
  obtain ⟨k2, q2, d2, v2⟩ := b
  obtain ⟨rfl, rfl, rfl, rfl⟩ := h
  rfl
theorem rsame_ok {h : H} {v w : V} {L M : List Ent} (hL : Es h v L) (hM : Es h w M) (hl : L.length ≤ 9223372036854775807) : FnOk Try.prog 43 [v, w] h fun y h' => y = .b (decide (L = M)) ∧ h' = h := by
  refine fn_go c43 (by intro hb; cases hb) (by simp) (by simp) fun Q hQ => ?_
  simp only [slotsF, Nat.reduceAdd]
  by_cases hlen : L.length = M.length
  case neg =>
    have hd : ((L.length : Int) = (M.length : Int)) = False := eq_false (by omega)
    repeat' (first
      | refine St.h ?_
      | simp (disch := first | omega | (simp only [lnv]; omega)) only [wlk, ↓get_put', Nat.reduceEqDiff, Nat.reduceLT, ↓reduceIte, Int.reduceToNat, Nat.reducePow, Nat.min_eq_left, Nat.reduceAdd, Nat.reduceMul, Int.reduceAdd, Int.reduceSub, Int.reduceNeg, Int.reduceMul, Int.reduceEq, Int.reduceLT, Int.reduceLE, Nat.reduceSub, Int.reduceNatCast, Nat.reduceLeDiff, hL.ln, hM.ln, hd]
      | (with_reducible (first | apply cd_split | apply gd_split)) <;> (intro hc; (try simp only [hcn] at hc); (try simp only [hc]); (try simp only [hcl] at hc); try omega))
    subst hQ
    exact ⟨by rw [decide_eq_false (fun e => hlen (by rw [e]))], rfl⟩
  have hd : ((L.length : Int) = (M.length : Int)) = True := eq_true (by omega)
  repeat' (first
    | refine St.h ?_
    | simp (disch := first | omega | (simp only [lnv]; omega)) only [wlk, ↓get_put', Nat.reduceEqDiff, Nat.reduceLT, ↓reduceIte, Int.reduceToNat, Nat.reducePow, Nat.min_eq_left, Nat.reduceAdd, Nat.reduceMul, Int.reduceAdd, Int.reduceSub, Int.reduceNeg, Int.reduceMul, Int.reduceEq, Int.reduceLT, Int.reduceLE, Nat.reduceSub, Int.reduceNatCast, Nat.reduceLeDiff, hL.ln, hM.ln, hd]
    | (with_reducible (first | apply cd_split | apply gd_split)) <;> (intro hc; (try simp only [hcn] at hc); (try simp only [hc]); (try simp only [hcl] at hc); try omega))
  refine Ok.lp (fun m t g => ∃ j : Nat, m = L.length - j ∧ h = g ∧ (∀ i, i < j → L.getD i default = M.getD i default) ∧ j ≤ L.length ∧ get 0 t = v ∧ get 1 t = w ∧ get 5 t = .i .i64 (j : Int)) L.length ?_ ?_
  · simp (disch := first | omega | (simp only [lnv]; omega)) only [wlk, ↓get_put', Nat.reduceEqDiff, Nat.reduceLT, ↓reduceIte, Int.reduceToNat, Nat.reducePow, Nat.min_eq_left, Nat.reduceAdd, Nat.reduceMul, Int.reduceAdd, Int.reduceSub, Int.reduceNeg, Int.reduceMul, Int.reduceEq, Int.reduceLT, Int.reduceLE, Nat.reduceSub, Int.reduceNatCast, Nat.reduceLeDiff]
    refine ⟨0, by omega, trivial, fun i hi => by omega, by omega, ?_⟩
    repeat' (first | trivial | rfl | refine And.intro ?_ ?_)
  rintro I hI m t g ⟨j, rfl, rfl, he, hj, f0, f1, f5⟩
  by_cases hje : L.getD j default = M.getD j default
  · have hd2 : (M.getD j default).key = (M.getD j default).key ∧ (M.getD j default).seq = (M.getD j default).seq ∧ (M.getD j default).del = (M.getD j default).del ∧ (M.getD j default).val = (M.getD j default).val := ⟨rfl, rfl, rfl, rfl⟩
    repeat' (first
      | refine St.h ?_
      | simp (disch := first | omega | (simp only [lnv]; omega)) only [wlk, ↓get_put', Nat.reduceEqDiff, Nat.reduceLT, ↓reduceIte, Int.reduceToNat, Nat.reducePow, Nat.min_eq_left, Nat.reduceAdd, Nat.reduceMul, Int.reduceAdd, Int.reduceSub, Int.reduceNeg, Int.reduceMul, Int.reduceEq, Int.reduceLT, Int.reduceLE, Nat.reduceSub, Int.reduceNatCast, Nat.reduceLeDiff, f0, f1, f5, hL.ln, hL.ix, hM.ix, hL.la, hM.la, hje, Int.toNat_natCast]
      | (with_reducible (first | apply cd_split | apply gd_split)) <;> (intro hc; (try simp only [hcn] at hc); (try simp only [hc]); (try simp only [hcl] at hc); try omega))
    · refine lp_next hI (L.length - (j + 1)) (by omega) ⟨j + 1, rfl, rfl, fun i hi => ?_, by omega, ?_, ?_, ?_⟩
      · by_cases e : i = j
        · subst e; exact hje
        · exact he i (by omega)
      · simp (disch := first | omega | (simp only [lnv]; omega)) only [wlk, ↓get_put', Nat.reduceEqDiff, Nat.reduceLT, ↓reduceIte, Int.reduceToNat, Nat.reducePow, Nat.min_eq_left, Nat.reduceAdd, Nat.reduceMul, Int.reduceAdd, Int.reduceSub, Int.reduceNeg, Int.reduceMul, Int.reduceEq, Int.reduceLT, Int.reduceLE, Nat.reduceSub, Int.reduceNatCast, Nat.reduceLeDiff, f0]
      · simp (disch := first | omega | (simp only [lnv]; omega)) only [wlk, ↓get_put', Nat.reduceEqDiff, Nat.reduceLT, ↓reduceIte, Int.reduceToNat, Nat.reducePow, Nat.min_eq_left, Nat.reduceAdd, Nat.reduceMul, Int.reduceAdd, Int.reduceSub, Int.reduceNeg, Int.reduceMul, Int.reduceEq, Int.reduceLT, Int.reduceLE, Nat.reduceSub, Int.reduceNatCast, Nat.reduceLeDiff, f1]
      · simp (disch := first | omega | (simp only [lnv]; omega)) only [wlk, ↓get_put', Nat.reduceEqDiff, Nat.reduceLT, ↓reduceIte, Int.reduceToNat, Nat.reducePow, Nat.min_eq_left, Nat.reduceAdd, Nat.reduceMul, Int.reduceAdd, Int.reduceSub, Int.reduceNeg, Int.reduceMul, Int.reduceEq, Int.reduceLT, Int.reduceLE, Nat.reduceSub, Int.reduceNatCast, Nat.reduceLeDiff]; rfl
    · obtain rfl : j = L.length := by omega
      subst hQ
      refine ⟨?_, rfl⟩
      rw [decide_eq_true]
      refine List.ext_getElem hlen fun i h1 h2 => ?_
      have := he i h1
      simpa [List.getD, h1, h2] using this
  · have hd2 : decide ((L.getD j default).key = (M.getD j default).key ∧ (L.getD j default).seq = (M.getD j default).seq ∧ (L.getD j default).del = (M.getD j default).del ∧ (L.getD j default).val = (M.getD j default).val) = false := decide_eq_false fun e => hje (ent_ext e)
    repeat' (first
      | refine St.h ?_
      | simp (disch := first | omega | (simp only [lnv]; omega)) only [wlk, ↓get_put', Nat.reduceEqDiff, Nat.reduceLT, ↓reduceIte, Int.reduceToNat, Nat.reducePow, Nat.min_eq_left, Nat.reduceAdd, Nat.reduceMul, Int.reduceAdd, Int.reduceSub, Int.reduceNeg, Int.reduceMul, Int.reduceEq, Int.reduceLT, Int.reduceLE, Nat.reduceSub, Int.reduceNatCast, Nat.reduceLeDiff, f0, f1, f5, hL.ln, hL.ix, hM.ix, hL.la, hM.la, hd2, Int.toNat_natCast]
      | (with_reducible (first | apply cd_split | apply gd_split)) <;> (intro hc; (try simp only [hcn] at hc); (try simp only [hc]); (try simp only [hcl] at hc); try omega))
    · subst hQ
      exact ⟨by rw [decide_eq_false (fun e => hje (by rw [e]))], rfl⟩
    · obtain rfl : j = L.length := by omega
      exact absurd (by simp [List.getD, ← hlen]) hje
theorem getD_all {p : Ent → Bool} {L : List Ent} (h : L.all p = true) {i : Nat} (hi : i < L.length) : p (L.getD i default) = true := by
  rw [show L.getD i default = L[i] by simp [List.getD, hi]]
  exact (List.all_eq_true.1 h) _ (by simp)
theorem drop_ent {L : List Ent} {i : Nat} (hi : i < L.length) : L.drop i = L.getD i default :: L.drop (i + 1) := by
  rw [List.drop_eq_getElem_cons hi]; simp [List.getD, hi]
end Go.Proofs.Ytjlhfoadabkahaa

set_option maxRecDepth 100000
set_option maxHeartbeats 8000000
set_option linter.all false
namespace Go.Proofs.Ytjlhfoadabkahaa
open Go Go.Ev
theorem chkd_isE {r : Ent × Int × Int} {x : Ent} {z : Int} (h : chkd r = (x, z, 0)) : isE x = true := by
  unfold chkd at h
  split at h
  · rename_i hr
    exact absurd (Prod.mk.inj (Prod.mk.inj h).2).2 hr
  · unfold chkE at h
    split at h
    · rename_i hi; rw [← (Prod.mk.inj h).1]; exact hi
    · have := (Prod.mk.inj (Prod.mk.inj h).2).2; cases this
end Go.Proofs.Ytjlhfoadabkahaa

set_option maxRecDepth 100000
set_option maxHeartbeats 8000000
set_option linter.all false
namespace Go.Proofs.Ytjlhfoadabkahaa
open Go Go.Ev
theorem bytesE_len {e : Ent} : (bytesE e).length ≤ 200 := by
  unfold bytesE
  split
  · rename_i hi
    obtain ⟨k1, k2, k3, k4⟩ := isE_len hi
    have l1 := textB_len e.key (by omega)
    have l2 := textB_len e.val (by omega)
    have l3 := numB_len (n := e.seq.toNat) (by omega)
    rw [List.length_append]
    unfold tailB; rw [List.length_append]; split <;> simp <;> omega
  · simp
theorem numB_pos (n : Nat) : 1 ≤ (numB n).length := by unfold numB; simp
theorem tail_back {e : Ent} (hi : isE e = true) (more : List UInt8) : tailU e.key (tailB e ++ more) = (e, ((tailB e).length : Int), 0) := by
  obtain ⟨⟨s1, s2⟩, k1, k2, k3, k4⟩ := isE_iff.1 hi
  obtain ⟨key, seq, del, val⟩ := e
  simp only at s1 s2 k1 k2 k3 k4 ⊢
  have hq : ((seq.toNat : Nat) : Int) = seq := by omega
  cases del with
  | true =>
    obtain rfl := k4 rfl
    have e1 : tailB ⟨key, seq, true, []⟩ ++ more = numB seq.toNat ++ (1 :: more) := by unfold tailB; simp
    have e2 : ((tailB ⟨key, seq, true, []⟩).length : Int) = ((numB seq.toNat).length : Int) + 1 := by unfold tailB; simp
    have hn : takeN (numB seq.toNat ++ (1 :: more)) = ((seq.toNat : Int), ((numB seq.toNat).length : Int), 0) := takeN_numB (by omega) _
    rw [e1, tailU_5 hn (by simp) (by simp [List.getD]), hq, e2]
  | false =>
    have e1 : tailB ⟨key, seq, false, val⟩ ++ more = numB seq.toNat ++ (0 :: (textB val ++ more)) := by unfold tailB; simp
    have e2 : ((tailB ⟨key, seq, false, val⟩).length : Int) = ((numB seq.toNat).length : Int) + 1 + ((textB val).length : Int) := by unfold tailB; simp; omega
    have hn : takeN (numB seq.toNat ++ (0 :: (textB val ++ more))) = ((seq.toNat : Int), ((numB seq.toNat).length : Int), 0) := takeN_numB (by omega) _
    have hd : (numB seq.toNat ++ (0 :: (textB val ++ more))).drop ((numB seq.toNat).length + 1) = textB val ++ more := by
      rw [← List.drop_drop, List.drop_left]; rfl
    rw [e1, tailU_4 hn (by simp) (by simp [List.getD]) (by rw [hd]; exact takeT_textB (by omega)), hq, e2]
theorem take_back {e : Ent} (hi : isE e = true) (more : List UInt8) : takeE (bytesE e ++ more) = (e, ((bytesE e).length : Int), 0) := by
  obtain ⟨k1, k2, k3, k4⟩ := isE_len hi
  have hb : bytesE e = textB e.key ++ tailB e := by unfold bytesE; rw [hi]; rfl
  have hc : takeT (textB e.key ++ (tailB e ++ more)) = (e.key, ((textB e.key).length : Int), 0) := takeT_textB (by omega)
  have hd : (textB e.key ++ (tailB e ++ more)).drop (textB e.key).length = tailB e ++ more := List.drop_left
  rw [hb, List.append_assoc, takeE_4 hc (by rw [hd]; exact tail_back hi more), List.length_append]
  simp
theorem read_back {e : Ent} (hi : isE e = true) (more : List UInt8) : readE (bytesE e ++ more) = (e, ((bytesE e).length : Int), 0) := by
  have h := take_back hi more
  rw [readE_3 (by rw [h]) (by rw [h]; exact hi), h]
end Go.Proofs.Ytjlhfoadabkahaa

set_option linter.all false
namespace Go.Proofs.Ytjlhfoadabkahaa
open Go Go.Ev
theorem step_back {p : List UInt8} {e : Ent} (hi : isE e = true) (more : List UInt8) : stepE p (oneB p e ++ more) = some (e, (oneB p e).length) := by
  obtain ⟨k1, k2, k3, k4⟩ := isE_len hi
  have hs := sharedB_le e.key p
  have htk := sharedB_take e.key p
  have hone : oneB p e = numB (sharedB e.key p) ++ textB (e.key.drop (sharedB e.key p)) ++ tailB e := rfl
  generalize sharedB e.key p = n at *
  have e1 : oneB p e ++ more = numB n ++ (textB (e.key.drop n) ++ (tailB e ++ more)) := by rw [hone]; simp [List.append_assoc]
  have hN : takeN (oneB p e ++ more) = ((n : Int), ((numB n).length : Int), 0) := by rw [e1]; exact takeN_numB (by omega) _
  have hd1 : (oneB p e ++ more).drop (numB n).length = textB (e.key.drop n) ++ (tailB e ++ more) := by rw [e1, List.drop_left]
  have hT : takeT ((oneB p e ++ more).drop (numB n).length) = (e.key.drop n, ((textB (e.key.drop n)).length : Int), 0) := by
    rw [hd1]; exact takeT_textB (by rw [List.length_drop]; omega)
  have hd2 : (oneB p e ++ more).drop ((numB n).length + (textB (e.key.drop n)).length) = tailB e ++ more := by rw [← List.drop_drop, hd1, List.drop_left]
  have hk : p.take n ++ e.key.drop n = e.key := by rw [← htk, List.take_append_drop]
  have hc : chkd (tailU (p.take n ++ e.key.drop n) ((oneB p e ++ more).drop ((numB n).length + (textB (e.key.drop n)).length))) = (e, ((tailB e).length : Int), 0) := by
    rw [hk, hd2, tail_back hi more]; exact chkd_ok hi
  rw [stepE_5 hN hs.2 hT hc, hone, List.length_append, List.length_append]
theorem one_ne (p : List UInt8) (e : Ent) : oneB p e ≠ [] := by unfold oneB numB; simp
theorem one_pos (p : List UInt8) (e : Ent) : 1 ≤ (oneB p e).length := by
  have h := one_ne p e
  cases hx : oneB p e with
  | nil => exact absurd hx h
  | cons c l => simp
theorem prs_back : ∀ {L : List Ent} {p : List UInt8} {f : Nat}, L.all isE = true → (bodyB p L).length ≤ f → prsE f p (bodyB p L) = some L
  | [], p, f, _, _ => prsE_nil f p
  | e :: L, p, f, h, hf => by
    rw [List.all_cons, Bool.and_eq_true] at h
    have e1 : bodyB p (e :: L) = oneB p e ++ bodyB e.key L := rfl
    have h1 := one_pos p e
    rw [e1, List.length_append] at hf
    obtain ⟨f, rfl⟩ : ∃ g, f = g + 1 := ⟨f - 1, by omega⟩
    rw [e1, prsE_some (by intro h; exact one_ne p e (List.append_eq_nil_iff.1 h).1) (step_back h.1 _), List.drop_left, prs_back h.2 (by omega)]
    rfl
theorem readB_back {L : List Ent} (h : L.all isE = true) (hn : L ≠ []) (hs : sortedE L = true) (hl : L.length ≤ 10000) : readB (sealB (bodyB [] L)) = (L, 0) := by
  have hb := bodyB_len (p := []) h
  have hO : openB (sealB (bodyB [] L)) = (bodyB [] L, ((sealB (bodyB [] L)).length : Int), 0) := by
    have := openB_seal (l := bodyB [] L) (more := []) (by omega)
    rwa [List.append_nil] at this
  rw [readB_4 hO rfl (prs_back h (Nat.le_refl _)), blkE_ok h hn hs]
  simp
theorem readB_cut {b : List UInt8} {c : Nat} (h : b.length ≤ 9223372036854775807) (hc : c < (sealB b).length) : readB ((sealB b).take c) = ([], 12) := readB_1 (openB_cut h hc) (by omega)
/-- what is read is what is made of it -/
theorem readB_made {s : List UInt8} (h : (readB s).2 = 0) : blkE (readB s).1 = (s, 0) := by
  unfold readB at h ⊢
  split at h
  · rename_i h1; exact absurd h h1
  · rename_i h1
    rw [if_neg h1] at *
    split at h
    · cases h
    · rename_i h2
      rw [if_neg h2]
      split at h
      · cases h
      · rename_i L hp
        split at h
        · rename_i h3; rw [if_pos h3]; exact Prod.ext h3.2 h3.1
        · cases h
theorem readB_none {s : List UInt8} (h : (readB s).2 ≠ 0) : (readB s).1 = [] := by
  unfold readB at h ⊢
  split
  · rfl
  · split
    · rfl
    · split
      · rfl
      · split
        · rename_i h1 h2 _ L hp h3
          rw [if_neg h1, if_neg h2, hp] at h
          simp only [h3, and_self, if_true] at h
          exact absurd rfl h
        · rfl
theorem digs_mono : ∀ {a b : Nat}, a ≤ b → (digs a).length ≤ (digs b).length := by
  intro a
  induction a using Nat.strongRecOn with
  | _ a ih =>
    intro b hab
    by_cases ha : a = 0
    · subst ha; rw [digs_zero]; simp
    · rw [digs_pos ha, digs_pos (show b ≠ 0 by omega), List.length_append, List.length_append]
      have := ih (a / 256) (by omega) (b := b / 256) (Nat.div_le_div_right hab)
      simpa using this
theorem numB_mono {a b : Nat} (h : a ≤ b) : (numB a).length ≤ (numB b).length := by
  have := digs_mono h
  show (digs a).length + 1 ≤ (digs b).length + 1
  omega
theorem take_set' {l : List UInt8} {k m : Nat} {y : UInt8} (h : m ≤ k) : (l.set k y).take m = l.take m := by
  refine List.ext_getElem? fun i => ?_
  rw [List.getElem?_take, List.getElem?_take]
  split
  · rw [List.getElem?_set_ne (by omega)]
  · rfl
/-- sealed bytes of which one is another one aren't sealed bytes -/
theorem seal_one {x b : List UInt8} {k : Nat} {y : UInt8} (hk : k < (sealB b).length) (h : sealB x = (sealB b).set k y) : y = (sealB b).getD k 0 := by
  have hty : (sealB x)[k]? = some y := by rw [h]; simp [hk]
  have hbk : (sealB b)[k]? = some ((sealB b).getD k 0) := by simp [List.getD, hk]
  generalize (sealB b).getD k 0 = o at *
  have hlx := sealB_len x
  have hlb := sealB_len b
  have hll : (sealB x).length = (sealB b).length := by rw [h, List.length_set]
  have hxb : x.length = b.length := by
    rcases Nat.lt_trichotomy x.length b.length with h1 | h1 | h1
    · have := numB_mono (Nat.le_of_lt h1); omega
    · exact h1
    · have := numB_mono (Nat.le_of_lt h1); omega
  have hN : numB x.length = numB b.length := by rw [hxb]
  have ex : sealB x = numB b.length ++ fourB (sumB x) ++ x := by unfold sealB; rw [hN]
  have eb : sealB b = numB b.length ++ fourB (sumB b) ++ b := rfl
  have f4x : (numB b.length ++ fourB (sumB x)).length = (numB b.length).length + 4 := by rw [List.length_append]; rfl
  have f4b : (numB b.length ++ fourB (sumB b)).length = (numB b.length).length + 4 := by rw [List.length_append]; rfl
  have dx : (sealB x).drop ((numB b.length).length + 4) = x := by rw [ex, ← f4x, List.drop_left]
  have db : (sealB b).drop ((numB b.length).length + 4) = b := by rw [eb, ← f4b, List.drop_left]
  have tx : (sealB x).take ((numB b.length).length + 4) = numB b.length ++ fourB (sumB x) := by rw [ex, ← f4x, List.take_left]
  have tb : (sealB b).take ((numB b.length).length + 4) = numB b.length ++ fourB (sumB b) := by rw [eb, ← f4b, List.take_left]
  by_cases k1 : k < (numB b.length).length
  · have h1 : (numB b.length)[k]? = some y := by
      rw [ex, List.append_assoc, List.getElem?_append_left k1] at hty; exact hty
    have h2 : (numB b.length)[k]? = some o := by
      rw [eb, List.append_assoc, List.getElem?_append_left k1] at hbk; exact hbk
    rw [h1] at h2
    exact Option.some.inj h2
  · by_cases k2 : k < (numB b.length).length + 4
    · have hd : x = b := by rw [← dx, h, List.drop_set_of_lt k2, db]
      subst hd
      rw [hbk] at hty
      exact (Option.some.inj hty).symm
    · have hs4 : fourB (sumB x) = fourB (sumB b) := by
        have e : (sealB x).take ((numB b.length).length + 4) = (sealB b).take ((numB b.length).length + 4) := by rw [h, take_set' (by omega)]
        rw [tx, tb] at e
        exact List.append_cancel_left e
      have hsum := fourB_inj (sumB_lt x) (sumB_lt b) hs4
      obtain ⟨j, rfl⟩ : ∃ j, k = (numB b.length).length + 4 + j := ⟨k - ((numB b.length).length + 4), by omega⟩
      have hj : j < b.length := by omega
      have hbj : b[j]? = some o := by
        rw [← db, List.getElem?_drop]; exact hbk
      have hxs : x = b.set j y := by
        rw [← dx, h, List.drop_set, if_neg (by omega), db]; congr 1; omega
      have hc : b = b.take j ++ [o] ++ b.drop (j + 1) := by
        have e1 : b[j] = o := by rw [List.getElem?_eq_getElem hj] at hbj; exact Option.some.inj hbj
        rw [← e1]; simp
      have hx2 : x = b.take j ++ [y] ++ b.drop (j + 1) := by
        rw [hxs, List.set_eq_take_append_cons_drop, if_pos hj]; simp
      have := (sum_one (b.take j) (b.drop (j + 1)) y o).1 (by rw [← hx2, ← hc]; exact hsum)
      exact this
theorem readB_turned {b : List UInt8} {k : Nat} {y : UInt8} {L : List Ent} (hb : readB (sealB b) = (L, 0)) (hk : k < (sealB b).length) : (readB ((sealB b).set k y)).2 = 0 ↔ y = (sealB b).getD k 0 := by
  constructor
  · intro h0
    have hm := readB_made h0
    generalize hR : (readB ((sealB b).set k y)).1 = R at *
    unfold blkE at hm
    split at hm
    · cases (Prod.mk.inj hm).2
    · split at hm
      · cases (Prod.mk.inj hm).2
      · exact seal_one hk (Prod.mk.inj hm).1
  · intro e
    have : (sealB b).set k y = sealB b := by
      rw [e]
      refine List.ext_getElem? fun i => ?_
      by_cases hi : i = k
      · subst hi; simp [List.getD, hk]
      · rw [List.getElem?_set_ne (fun h => hi h.symm)]
    rw [this, hb]
end Go.Proofs.Ytjlhfoadabkahaa
