/- The law ChooseSpread, part 5: what its proof uses, closely written. No condition. -/
import Derived.Test.YtobfgempjekjpaaMnChooseSpread4
noncomputable section
set_option maxRecDepth 1000000
set_option linter.all false
namespace Go.Proofs.Ytobfgempjekjpaa
open Go Go.Ev
abbrev wS:CC:=(CC.seq (CC.region [(wB 8 (AA (O.c (V.b Bool.false))))]) CC.ret)
abbrev vJ:CC:=(CC.cond (tm 17) wS CC.skip)
abbrev vf:CC:=(CC.seq (CC.region [(wB 16 (AW 15 [])),(wB 17 (Cc (tm 16)))]) vJ)
abbrev vH:CC:=(CC.seq (CC.region [(wB 8 (AA (O.c (V.b Bool.true))))]) CC.ret)
abbrev wP:CC:=(CC.cond (tm 35) vH CC.skip)
abbrev u7:CC:=(CC.seq (CC.region [(wB 18 (AA (tm 0))),(wB 19 (AW 16 [(tm 18)])),(wB 20 (Cc (tm 19))),(wB 21 (AA (tm 20))),(wG 21 false 22 (AA (tm 1))),(wG 21 false 23 (DX (tm 22))),(wG 21 false 24 (AM D9 (tm 23) (oN 20))),(wB 25 (Az (tm 21) (O.c (V.b Bool.true)) (tm 24))),(wB 26 (AA (tm 25))),(wG 26 false 27 (AA (tm 2))),(wG 26 false 28 (DX (tm 27))),(wG 26 false 29 (AM D9 (tm 28) (oN 20))),(wB 30 (Az (tm 26) (O.c (V.b Bool.true)) (tm 29))),(wB 31 (AA (tm 30))),(wG 31 false 32 (AA (tm 3))),(wG 31 false 33 (DX (tm 32))),(wG 31 false 34 (AM D9 (tm 33) (oN 20))),(wB 35 (Az (tm 31) (O.c (V.b Bool.true)) (tm 34)))]) wP)
abbrev vK:CC:=(CC.cond (tm 41) CC.skip (CC.exit 0))
abbrev vt:CC:=(CC.seq (CC.region [(wB 38 (AA (tm 11))),(wB 39 (AA (tm 0))),(wB 40 (Ba (tm 39))),(wB 41 (AM Bu (tm 38) (tm 40)))]) vK)
abbrev wA:CC:=(CC.region [(wB 50 (AA (tm 10))),(wB 51 (AA (tm 0))),(wB 52 (AA (tm 11))),(wB 53 (AF 4 (tm 51) (tm 52))),(wB 54 (AU 4 (tm 53))),(wB 55 (AW 12 [(tm 50),(tm 54)]))])
abbrev wN:CC:=(CC.seq (CC.region [(wB 44 (AA (tm 9))),(wB 45 (AA (tm 0))),(wB 46 (AA (tm 11))),(wB 47 (AF 4 (tm 45) (tm 46))),(wB 48 (AU 4 (tm 47))),(wB 49 (AW 18 [(tm 44),(tm 48)]))]) wA)
abbrev qG:CC:=(CC.block 1 wN)
abbrev fL:CC:=(CC.region [(wB 42 (AA (tm 11))),(wB 43 (AM BA (tm 42) (oN 1))),(wB 11 (AA (tm 43)))])
abbrev rh:CC:=(CC.seq qG fL)
abbrev uU:CC:=(CC.seq vt rh)
abbrev sm:CC:=(CC.loop uU)
abbrev mz:CC:=(CC.block 0 sm)
abbrev jc:CC:=(CC.seq (CC.region [(wB 11 (AA (oN 0)))]) mz)
abbrev jV:CC:=(CC.seq (CC.region [(wB 66 (AA (tm 12))),(wB 67 (AA (tm 14))),(wB 68 (AW 21 [(tm 66),(tm 67)])),(wB 69 (AA (tm 68))),(wG 69 true 70 (AA (tm 13))),(wG 69 true 71 (AA (tm 15))),(wG 69 true 72 (Fi Bool.false (tm 70) (tm 71))),(wB 73 (Az (tm 69) (tm 72) (O.c (V.b Bool.false)))),(wB 74 (AA (tm 73))),(wG 74 true 75 (AA (tm 9))),(wG 74 true 76 (AA (tm 1))),(wG 74 true 77 (AW 22 [(tm 75),(tm 76)])),(wG 74 true 78 (AA (tm 10))),(wG 74 true 79 (AA (tm 1))),(wG 74 true 80 (AW 23 [(tm 78),(tm 79),(O.c (V.s 0 0)),(O.c (V.b Bool.true))])),(wG 74 true 81 (AW 21 [(tm 77),(tm 80)])),(wB 82 (Az (tm 74) (tm 81) (O.c (V.b Bool.false)))),(wB 83 (AA (tm 82))),(wG 83 true 84 (AA (tm 9))),(wG 83 true 85 (AA (tm 2))),(wG 83 true 86 (AA (tm 3))),(wG 83 true 87 (AW 24 [(tm 84),(tm 85),(tm 86)])),(wG 83 true 88 (AA (tm 10))),(wG 83 true 89 (AA (tm 2))),(wG 83 true 90 (AA (tm 3))),(wG 83 true 91 (AW 23 [(tm 88),(tm 89),(tm 90),(O.c (V.b Bool.false))])),(wG 83 true 92 (AW 21 [(tm 87),(tm 91)])),(wB 93 (Az (tm 83) (tm 92) (O.c (V.b Bool.false)))),(wB 8 (AA (tm 93)))]) CC.ret)
abbrev mj:CC:=(CC.seq (CC.region [(wB 62 (AA (tm 10))),(wB 63 (AW 20 [(tm 62)])),(wB 61 (AA (tm 63))),(wB 64 (Ax 0 (tm 61))),(wB 65 (Ax 1 (tm 61))),(wB 14 (AA (tm 64))),(wB 15 (AA (tm 65)))]) jV)
abbrev nz:CC:=(CC.seq (CC.region [(wB 57 (AA (tm 9))),(wB 58 (AW 19 [(tm 57)])),(wB 56 (AA (tm 58))),(wB 59 (Ax 0 (tm 56))),(wB 60 (Ax 1 (tm 56))),(wB 12 (AA (tm 59))),(wB 13 (AA (tm 60)))]) mj)
abbrev oT:CC:=(CC.seq jc nz)
abbrev mD:CC:=(CC.seq (CC.region [(wB 36 (AW 17 [])),(wB 37 (AW 9 [])),(wB 9 (AA (tm 36))),(wB 10 (AA (tm 37)))]) oT)
abbrev fJ:CC:=(CC.seq u7 mD)
abbrev sl:CC:=(CC.seq vf fJ)
abbrev b4:CC:=(CC.seq (CC.region [(wB 8 (AA (O.c (V.b Bool.false))))]) sl)
theorem c4:AV Try.prog 4=⟨94,b4,[(Rs.tmp (AR 8))]⟩:=by kernel_rfl
abbrev vX:CC:=(CC.seq (CC.region [(wB 2 (AA (O.c (V.b Bool.false))))]) CC.ret)
abbrev vZ:CC:=(CC.cond (tm 14) vX CC.skip)
abbrev v5:CC:=(CC.seq (CC.region [(wB 13 (AW 15 [])),(wB 14 (Cc (tm 13)))]) vZ)
abbrev uq:CC:=(CC.seq (CC.region [(wB 2 (AA (O.c (V.b Bool.true))))]) CC.ret)
abbrev u5:CC:=(CC.cond (tm 17) uq CC.skip)
abbrev vz:CC:=(CC.seq (CC.region [(wB 15 (AA (tm 0))),(wB 16 (AW 16 [(tm 15)])),(wB 17 (Cc (tm 16)))]) u5)
abbrev vr:CC:=(CC.cond (tm 22) CC.skip (CC.exit 0))
abbrev uj:CC:=(CC.seq (CC.region [(wB 19 (AA (tm 4))),(wB 20 (AA (tm 0))),(wB 21 (Ba (tm 20))),(wB 22 (AM Bu (tm 19) (tm 21)))]) vr)
abbrev uv:CC:=(CC.region [(wB 25 (AA (tm 3))),(wB 26 (AA (tm 0))),(wB 27 (AA (tm 4))),(wB 28 (AF 4 (tm 26) (tm 27))),(wB 29 (AU 4 (tm 28))),(wB 30 (AW 18 [(tm 25),(tm 29)]))])
abbrev uy:CC:=(CC.block 1 uv)
abbrev oB:CC:=(CC.region [(wB 23 (AA (tm 4))),(wB 24 (AM BA (tm 23) (oN 1))),(wB 4 (AA (tm 24)))])
abbrev tI:CC:=(CC.seq uy oB)
abbrev vn:CC:=(CC.seq uj tI)
abbrev l9:CC:=(CC.loop vn)
abbrev rp:CC:=(CC.block 0 l9)
abbrev lI:CC:=(CC.seq (CC.region [(wB 4 (AA (oN 0)))]) rp)
abbrev gN:CC:=(CC.seq (CC.region [(wB 38 (AA (tm 5))),(wB 39 (Ba (tm 38))),(wB 40 (AM En (tm 39) (oN 0))),(wB 41 (AA (tm 40))),(wG 41 true 42 (AA (tm 3))),(wG 41 true 43 (AW 25 [(tm 42),(oN 0)])),(wG 41 true 44 (Ba (tm 43))),(wG 41 true 45 (AM Bu (tm 44) (oN 2))),(wB 46 (Az (tm 41) (tm 45) (O.c (V.b Bool.false)))),(wB 2 (AA (tm 46)))]) CC.ret)
abbrev nr:CC:=(CC.cond (tm 37) gN CC.skip)
abbrev jJ:CC:=(CC.seq (CC.region [(wB 36 (AA (tm 6))),(wB 37 (Cc (tm 36)))]) nr)
abbrev rI:CC:=(CC.cond (tm 50) CC.skip (CC.exit 2))
abbrev qb:CC:=(CC.seq (CC.region [(wB 47 (AA (tm 10))),(wB 48 (AA (tm 5))),(wB 49 (Ba (tm 48))),(wB 50 (AM Bu (tm 47) (tm 49)))]) rI)
abbrev fh:CC:=(CC.region [(wB 78 (AA (tm 5))),(wB 79 (AA (tm 10))),(wB 80 (AF 5 (tm 78) (tm 79))),(wB 81 (AH 2 (tm 80))),(wB 82 (AY (tm 81))),(wB 8 (AA (tm 82)))])
abbrev lS:CC:=(CC.cond (tm 77) fh CC.skip)
abbrev sC:CC:=(CC.seq (CC.region [(wB 67 (AA (tm 8))),(wB 68 (CV Fy (tm 67) (O.c (V.s 0 0)))),(wB 69 (AA (tm 68))),(wG 69 false 70 (AA (tm 5))),(wG 69 false 71 (AA (tm 10))),(wG 69 false 72 (AF 5 (tm 70) (tm 71))),(wG 69 false 73 (AH 2 (tm 72))),(wG 69 false 74 (AY (tm 73))),(wG 69 false 75 (AA (tm 8))),(wG 69 false 76 (CV Fj (tm 74) (tm 75))),(wB 77 (Az (tm 69) (O.c (V.b Bool.true)) (tm 76)))]) lS)
abbrev jO:CC:=(CC.region [(wB 83 (AA (tm 9))),(wB 84 (AA (tm 5))),(wB 85 (AA (tm 10))),(wB 86 (AF 5 (tm 84) (tm 85))),(wB 87 (AH 3 (tm 86))),(wB 88 (AY (tm 87))),(wB 89 (G3 (fun a b c d=>!Fj a b c d) (tm 83) (tm 88))),(wB 9 (AA (tm 89)))])
abbrev jQ:CC:=(CC.seq sC jO)
abbrev pj:CC:=(CC.cond (tm 66) jQ CC.skip)
abbrev sA:CC:=(CC.seq (CC.region [(wB 61 (AA (tm 5))),(wB 62 (AA (tm 10))),(wB 63 (AF 5 (tm 61) (tm 62))),(wB 64 (AH 1 (tm 63))),(wB 65 (AY (tm 64))),(wB 66 (AM En (tm 65) (oN 0)))]) pj)
abbrev gA:CC:=(CC.seq (CC.region [(wB 53 (AA (tm 7))),(wB 54 (AA (tm 5))),(wB 55 (AA (tm 10))),(wB 56 (AF 5 (tm 54) (tm 55))),(wB 57 (AH 0 (tm 56))),(wB 58 (AY (tm 57))),(wB 59 (Aw 3 1 [(V.i IntKind.i64 (Int.ofNat 0))] [(Pt.mk 0 1 (tm 58))])),(wB 60 (Bk 3 1 (tm 53) (tm 59))),(wB 7 (AA (tm 60)))]) sA)
abbrev ie:CC:=(CC.block 3 gA)
abbrev rN:CC:=(CC.region [(wB 51 (AA (tm 10))),(wB 52 (AM BA (tm 51) (oN 1))),(wB 10 (AA (tm 52)))])
abbrev n8:CC:=(CC.seq ie rN)
abbrev uw:CC:=(CC.seq qb n8)
abbrev tF:CC:=(CC.loop uw)
abbrev qp:CC:=(CC.block 2 tF)
abbrev nB:CC:=(CC.seq (CC.region [(wB 10 (AA (oN 0)))]) qp)
abbrev ru:CC:=(CC.seq (CC.region [(wB 2 (AA (O.c (V.b Bool.false))))]) CC.ret)
abbrev fp:CC:=(CC.cond (tm 100) ru CC.skip)
abbrev lC:CC:=(CC.seq (CC.region [(wB 90 (AA (tm 3))),(wB 91 (AA (tm 7))),(wB 92 (Cq [V.l0,V.l0,(V.i IntKind.i64 (Int.ofNat 0)),(V.i IntKind.i64 (Int.ofNat 0))] [(Pt.mk 0 1 (tm 91))])),(wB 93 (AW 18 [(tm 90),(tm 92)])),(wB 94 (AM JQ (tm 93) (oN 0))),(wB 95 (AA (tm 94))),(wG 95 false 96 (AA (tm 3))),(wG 95 false 97 (AW 25 [(tm 96),(oN 0)])),(wG 95 false 98 (Ba (tm 97))),(wG 95 false 99 (AM JQ (tm 98) (oN 0))),(wB 100 (Az (tm 95) (O.c (V.b Bool.true)) (tm 99)))]) fp)
abbrev qH:CC:=(CC.cond (tm 106) CC.skip (CC.exit 4))
abbrev lk:CC:=(CC.seq (CC.region [(wB 103 (AA (tm 12))),(wB 104 (AA (tm 11))),(wB 105 (Ba (tm 104))),(wB 106 (AM Bu (tm 103) (tm 105)))]) qH)
abbrev ji:CC:=(CC.seq (CC.region [(wB 2 (AA (O.c (V.b Bool.false))))]) CC.ret)
abbrev fZ:CC:=(CC.cond (tm 124) ji CC.skip)
abbrev rq:CC:=(CC.seq (CC.region [(wB 109 (AA (tm 11))),(wB 110 (AA (tm 12))),(wB 111 (AF 5 (tm 109) (tm 110))),(wB 112 (AH 2 (tm 111))),(wB 113 (AY (tm 112))),(wB 114 (AA (tm 9))),(wB 115 (CV (fun a b c d=>Fj a b c d||Fy a b c d) (tm 113) (tm 114))),(wB 116 (AA (tm 115))),(wG 116 true 117 (AA (tm 8))),(wG 116 true 118 (AA (tm 11))),(wG 116 true 119 (AA (tm 12))),(wG 116 true 120 (AF 5 (tm 118) (tm 119))),(wG 116 true 121 (AH 3 (tm 120))),(wG 116 true 122 (AY (tm 121))),(wG 116 true 123 (CV (fun a b c d=>Fj a b c d||Fy a b c d) (tm 117) (tm 122))),(wB 124 (Az (tm 116) (tm 123) (O.c (V.b Bool.false))))]) fZ)
abbrev nW:CC:=(CC.block 5 rq)
abbrev fK:CC:=(CC.region [(wB 107 (AA (tm 12))),(wB 108 (AM BA (tm 107) (oN 1))),(wB 12 (AA (tm 108)))])
abbrev iW:CC:=(CC.seq nW fK)
abbrev wH:CC:=(CC.seq lk iW)
abbrev fE:CC:=(CC.loop wH)
abbrev kR:CC:=(CC.block 4 fE)
abbrev rR:CC:=(CC.seq (CC.region [(wB 12 (AA (oN 0)))]) kR)
abbrev eX:CC:=(CC.seq (CC.region [(wB 2 (AA (O.c (V.b Bool.true))))]) CC.ret)
abbrev qS:CC:=(CC.seq rR eX)
abbrev ph:CC:=(CC.seq (CC.region [(wB 101 (AA (tm 3))),(wB 102 (AW 26 [(tm 101)])),(wB 11 (AA (tm 102)))]) qS)
abbrev eT:CC:=(CC.seq lC ph)
abbrev gJ:CC:=(CC.seq nB eT)
abbrev ku:CC:=(CC.seq (CC.region [(wB 8 (AA (O.c (V.s 0 0)))),(wB 9 (AA (O.c (V.s 0 0))))]) gJ)
abbrev kO:CC:=(CC.seq (CC.region [(wB 7 (AA (O.c V.l0)))]) ku)
abbrev fY:CC:=(CC.seq jJ kO)
abbrev gT:CC:=(CC.seq (CC.region [(wB 32 (AA (tm 3))),(wB 33 (AW 19 [(tm 32)])),(wB 31 (AA (tm 33))),(wB 34 (Ax 0 (tm 31))),(wB 35 (Ax 1 (tm 31))),(wB 5 (AA (tm 34))),(wB 6 (AA (tm 35)))]) fY)
abbrev oY:CC:=(CC.seq lI gT)
abbrev mE:CC:=(CC.seq (CC.region [(wB 18 (AW 17 [])),(wB 3 (AA (tm 18)))]) oY)
abbrev jj:CC:=(CC.seq vz mE)
abbrev kF:CC:=(CC.seq v5 jj)
abbrev b5:CC:=(CC.seq (CC.region [(wB 2 (AA (O.c (V.b Bool.false))))]) kF)
theorem c5:AV Try.prog 5=⟨125,b5,[(Rs.tmp (AR 2))]⟩:=by kernel_rfl
abbrev uM:CC:=(CC.seq (CC.region [(wB 8 (AA (O.c (V.b Bool.false))))]) CC.ret)
abbrev vh:CC:=(CC.cond (tm 30) uM CC.skip)
abbrev vU:CC:=(CC.seq (CC.region [(wB 29 (AW 15 [])),(wB 30 (Cc (tm 29)))]) vh)
abbrev uu:CC:=(CC.cond (tm 33) CC.skip (CC.exit 0))
abbrev wQ:CC:=(CC.seq (CC.region [(wB 32 (AA (tm 11))),(wB 33 (AM Bu (tm 32) (oN 6)))]) uu)
abbrev wR:CC:=(CC.region [(wB 36 (AA (tm 10))),(wB 37 (AA (tm 11))),(wB 38 (AM BA (tm 37) (oN 1))),(wB 39 (AA (tm 11))),(wB 40 (AM HL (oN 3) (tm 39))),(wB 41 (AM BA (oN 97) (tm 40))),(wB 42 (Bc IntKind.u8 (tm 41))),(wB 43 (Aw 5 1 [(V.i IntKind.u8 (Int.ofNat 0))] [(Pt.mk 0 1 (tm 42))])),(wB 44 (EV (tm 43))),(wB 45 (AA (tm 11))),(wB 46 (AM HL (oN 3) (tm 45))),(wB 47 (AM BA (oN 98) (tm 46))),(wB 48 (Bc IntKind.u8 (tm 47))),(wB 49 (Aw 5 1 [(V.i IntKind.u8 (Int.ofNat 0))] [(Pt.mk 0 1 (tm 48))])),(wB 50 (EV (tm 49))),(wB 51 (Cq [(V.i IntKind.i64 (Int.ofNat 0)),(V.i IntKind.i64 (Int.ofNat 0)),(V.s 0 0),(V.s 0 0),(V.i IntKind.i64 (Int.ofNat 0))] [(Pt.mk 0 1 (tm 38)),(Pt.mk 1 1 (oN 1)),(Pt.mk 2 1 (tm 44)),(Pt.mk 3 1 (tm 50)),(Pt.mk 4 1 (oN 1))])),(wB 52 (Aw 57 1 [(V.i IntKind.i64 (Int.ofNat 0)),(V.i IntKind.i64 (Int.ofNat 0)),(V.s 0 0),(V.s 0 0),(V.i IntKind.i64 (Int.ofNat 0))] [(Pt.mk 0 5 (tm 51))])),(wB 53 (Bk 57 5 (tm 36) (tm 52))),(wB 10 (AA (tm 53)))])
abbrev vp:CC:=(CC.block 1 wR)
abbrev wE:CC:=(CC.region [(wB 34 (AA (tm 11))),(wB 35 (AM BA (tm 34) (oN 1))),(wB 11 (AA (tm 35)))])
abbrev wF:CC:=(CC.seq vp wE)
abbrev uO:CC:=(CC.seq wQ wF)
abbrev vq:CC:=(CC.loop uO)
abbrev n7:CC:=(CC.block 0 vq)
abbrev mw:CC:=(CC.seq (CC.region [(wB 11 (AA (oN 0)))]) n7)
abbrev oZ:CC:=(CC.seq (CC.region [(wB 8 (AA (O.c (V.b Bool.false))))]) CC.ret)
abbrev gH:CC:=(CC.cond (tm 58) oZ CC.skip)
abbrev kD:CC:=(CC.seq (CC.region [(wB 54 (AA (tm 9))),(wB 55 (AA (tm 10))),(wB 56 (Cq [V.l0,V.l0,(V.i IntKind.i64 (Int.ofNat 0)),(V.i IntKind.i64 (Int.ofNat 0))] [(Pt.mk 1 1 (tm 55))])),(wB 57 (AW 18 [(tm 54),(tm 56)])),(wB 58 (AM JQ (tm 57) (oN 0)))]) gH)
abbrev kW:CC:=(CC.seq (CC.region [(wB 8 (AA (O.c (V.b Bool.false))))]) CC.ret)
abbrev fX:CC:=(CC.cond (tm 108) kW CC.skip)
abbrev mf:CC:=(CC.seq (CC.region [(wB 100 (AA (tm 17))),(wB 101 (AA (tm 100))),(wG 101 false 102 (AA (tm 9))),(wG 101 false 103 (AU 5 (tm 14))),(wG 101 false 104 (Aw 57 1 [(V.i IntKind.i64 (Int.ofNat 0)),(V.i IntKind.i64 (Int.ofNat 0)),(V.s 0 0),(V.s 0 0),(V.i IntKind.i64 (Int.ofNat 0))] [(Pt.mk 0 5 (tm 103))])),(wG 101 false 105 (Cq [V.l0,V.l0,(V.i IntKind.i64 (Int.ofNat 0)),(V.i IntKind.i64 (Int.ofNat 0))] [(Pt.mk 1 1 (tm 104))])),(wG 101 false 106 (AW 18 [(tm 102),(tm 105)])),(wG 101 false 107 (AM JQ (tm 106) (oN 0))),(wB 108 (Az (tm 101) (O.c (V.b Bool.true)) (tm 107)))]) fX)
abbrev lQ:CC:=(CC.seq (CC.region [(wB 8 (AA (O.c (V.b Bool.false))))]) CC.ret)
abbrev rU:CC:=(CC.cond (tm 122) lQ CC.skip)
abbrev qW:CC:=(CC.seq (CC.region [(wB 114 (AA (tm 19))),(wB 115 (AA (tm 114))),(wG 115 false 116 (AA (tm 9))),(wG 115 false 117 (AU 5 (tm 15))),(wG 115 false 118 (Aw 57 1 [(V.i IntKind.i64 (Int.ofNat 0)),(V.i IntKind.i64 (Int.ofNat 0)),(V.s 0 0),(V.s 0 0),(V.i IntKind.i64 (Int.ofNat 0))] [(Pt.mk 0 5 (tm 117))])),(wG 115 false 119 (Cq [V.l0,V.l0,(V.i IntKind.i64 (Int.ofNat 0)),(V.i IntKind.i64 (Int.ofNat 0))] [(Pt.mk 1 1 (tm 118))])),(wG 115 false 120 (AW 18 [(tm 116),(tm 119)])),(wG 115 false 121 (AM JQ (tm 120) (oN 0))),(wB 122 (Az (tm 115) (O.c (V.b Bool.true)) (tm 121)))]) rU)
abbrev pT:CC:=(CC.cond (tm 143) CC.skip (CC.exit 2))
abbrev nF:CC:=(CC.seq (CC.region [(wB 142 (AA (tm 25))),(wB 143 (AM Bu (tm 142) (oN 6)))]) pT)
abbrev fq:CC:=(CC.region [(wB 157 (AA (tm 24))),(wB 158 (AM BA (tm 157) (oN 1))),(wB 24 (AA (tm 158)))])
abbrev rT:CC:=(CC.cond (tm 156) fq CC.skip)
abbrev jn:CC:=(CC.seq (CC.region [(wB 146 (AA (tm 25))),(wB 147 (AM HL (oN 3) (tm 146))),(wB 148 (AA (tm 23))),(wB 149 (AM E8 (tm 147) (tm 148))),(wB 150 (AA (tm 149))),(wG 150 true 151 (AA (tm 22))),(wG 150 true 152 (AA (tm 25))),(wG 150 true 153 (AM HL (oN 3) (tm 152))),(wG 150 true 154 (AM BA (tm 153) (oN 1))),(wG 150 true 155 (AM E8 (tm 151) (tm 154))),(wB 156 (Az (tm 150) (tm 155) (O.c (V.b Bool.false))))]) rT)
abbrev sQ:CC:=(CC.block 3 jn)
abbrev lX:CC:=(CC.region [(wB 144 (AA (tm 25))),(wB 145 (AM BA (tm 144) (oN 1))),(wB 25 (AA (tm 145)))])
abbrev mX:CC:=(CC.seq sQ lX)
abbrev u9:CC:=(CC.seq nF mX)
abbrev rF:CC:=(CC.loop u9)
abbrev lP:CC:=(CC.block 2 rF)
abbrev j0:CC:=(CC.seq (CC.region [(wB 25 (AA (oN 0)))]) lP)
abbrev fe:CC:=(CC.cond (tm 165) CC.skip (CC.exit 4))
abbrev jv:CC:=(CC.seq (CC.region [(wB 164 (AA (tm 28))),(wB 165 (AM Bu (tm 164) (oN 6)))]) fe)
abbrev qU:CC:=(CC.region [(wB 179 (AA (tm 27))),(wB 180 (AM BA (tm 179) (oN 1))),(wB 27 (AA (tm 180)))])
abbrev jA:CC:=(CC.cond (tm 178) qU CC.skip)
abbrev jk:CC:=(CC.seq (CC.region [(wB 168 (AA (tm 28))),(wB 169 (AM HL (oN 3) (tm 168))),(wB 170 (AA (tm 12))),(wB 171 (AM E8 (tm 169) (tm 170))),(wB 172 (AA (tm 171))),(wG 172 true 173 (AA (tm 12))),(wG 172 true 174 (AA (tm 28))),(wG 172 true 175 (AM HL (oN 3) (tm 174))),(wG 172 true 176 (AM BA (tm 175) (oN 1))),(wG 172 true 177 (AM E8 (tm 173) (tm 176))),(wB 178 (Az (tm 172) (tm 177) (O.c (V.b Bool.false))))]) jA)
abbrev pG:CC:=(CC.block 5 jk)
abbrev pg:CC:=(CC.region [(wB 166 (AA (tm 28))),(wB 167 (AM BA (tm 166) (oN 1))),(wB 28 (AA (tm 167)))])
abbrev rO:CC:=(CC.seq pG pg)
abbrev uz:CC:=(CC.seq jv rO)
abbrev j7:CC:=(CC.loop uz)
abbrev gw:CC:=(CC.block 4 j7)
abbrev nv:CC:=(CC.seq (CC.region [(wB 28 (AA (oN 0)))]) gw)
abbrev pL:CC:=(CC.region [(wB 193 (AA (tm 27))),(wB 194 (AM BA (tm 193) (oN 1))),(wB 27 (AA (tm 194)))])
abbrev rG:CC:=(CC.cond (tm 192) pL CC.skip)
abbrev pn:CC:=(CC.seq (CC.region [(wB 181 (AA (tm 13))),(wB 182 (AA (tm 12))),(wB 183 (AM E8 (tm 181) (tm 182))),(wB 184 (AA (tm 183))),(wG 184 true 185 (AA (tm 12))),(wG 184 true 186 (AA (tm 13))),(wG 184 true 187 (AA (tm 3))),(wG 184 true 188 (EW (tm 187) (O.c (V.i IntKind.u8 (Int.ofNat 4))))),(wG 184 true 189 (Bc IntKind.i64 (tm 188))),(wG 184 true 190 (AM BA (tm 186) (tm 189))),(wG 184 true 191 (AM E8 (tm 185) (tm 190))),(wB 192 (Az (tm 184) (tm 191) (O.c (V.b Bool.false))))]) rG)
abbrev p6:CC:=(CC.seq (CC.region [(wB 195 (AA (tm 21))),(wB 196 (AA (tm 195))),(wG 196 true 197 (AA (tm 20))),(wG 196 true 198 (Ba (tm 197))),(wG 196 true 199 (AA (tm 24))),(wG 196 true 200 (AM En (tm 198) (tm 199))),(wB 201 (Az (tm 196) (tm 200) (O.c (V.b Bool.false)))),(wB 202 (AA (tm 201))),(wG 202 true 203 (AA (tm 20))),(wG 202 true 204 (AF 5 (tm 203) (oN 0))),(wG 202 true 205 (AH 0 (tm 204))),(wG 202 true 206 (AY (tm 205))),(wG 202 true 207 (AM En (tm 206) (oN 8))),(wB 208 (Az (tm 202) (tm 207) (O.c (V.b Bool.false)))),(wB 209 (AA (tm 208))),(wG 209 true 210 (AA (tm 20))),(wG 209 true 211 (AF 5 (tm 210) (oN 1))),(wG 209 true 212 (AH 0 (tm 211))),(wG 209 true 213 (AY (tm 212))),(wG 209 true 214 (AM En (tm 213) (oN 7))),(wB 215 (Az (tm 209) (tm 214) (O.c (V.b Bool.false)))),(wB 216 (AA (tm 215))),(wG 216 true 217 (AA (tm 9))),(wG 216 true 218 (AA (tm 26))),(wG 216 true 219 (AW 22 [(tm 217),(tm 218)])),(wG 216 true 220 (Ba (tm 219))),(wG 216 true 221 (AA (tm 27))),(wG 216 true 222 (AM BA (tm 221) (oN 1))),(wG 216 true 223 (AM En (tm 220) (tm 222))),(wB 224 (Az (tm 216) (tm 223) (O.c (V.b Bool.false)))),(wB 8 (AA (tm 224)))]) CC.ret)
abbrev lL:CC:=(CC.seq pn p6)
abbrev tP:CC:=(CC.seq nv lL)
abbrev eO:CC:=(CC.seq (CC.region [(wB 27 (AA (oN 0)))]) tP)
abbrev jP:CC:=(CC.seq (CC.region [(wB 159 (AA (tm 12))),(wB 160 (AM BA (oN 97) (tm 159))),(wB 161 (Bc IntKind.u8 (tm 160))),(wB 162 (Aw 5 1 [(V.i IntKind.u8 (Int.ofNat 0))] [(Pt.mk 0 1 (tm 161))])),(wB 163 (EV (tm 162))),(wB 26 (AA (tm 163)))]) eO)
abbrev lU:CC:=(CC.seq j0 jP)
abbrev pX:CC:=(CC.seq (CC.region [(wB 24 (AA (oN 2)))]) lU)
abbrev tL:CC:=(CC.seq (CC.region [(wB 128 (AA (tm 12))),(wB 129 (AA (tm 13))),(wB 130 (Iv (tm 128) (tm 129))),(wB 131 (AA (tm 12))),(wB 132 (AA (tm 1))),(wB 133 (EW (tm 132) (O.c (V.i IntKind.u8 (Int.ofNat 4))))),(wB 134 (Bc IntKind.i64 (tm 133))),(wB 135 (AM BA (tm 131) (tm 134))),(wB 136 (AA (tm 13))),(wB 137 (AA (tm 3))),(wB 138 (EW (tm 137) (O.c (V.i IntKind.u8 (Int.ofNat 4))))),(wB 139 (Bc IntKind.i64 (tm 138))),(wB 140 (AM BA (tm 136) (tm 139))),(wB 141 (Fs (tm 135) (tm 140))),(wB 22 (AA (tm 130))),(wB 23 (AA (tm 141)))]) pX)
abbrev lH:CC:=(CC.seq (CC.region [(wB 124 (AA (tm 9))),(wB 125 (AW 19 [(tm 124)])),(wB 123 (AA (tm 125))),(wB 126 (Ax 0 (tm 123))),(wB 127 (Ax 1 (tm 123))),(wB 20 (AA (tm 126))),(wB 21 (AA (tm 127)))]) tL)
abbrev iA:CC:=(CC.seq qW lH)
abbrev qD:CC:=(CC.seq (CC.region [(wB 110 (AA (tm 9))),(wB 111 (AW 19 [(tm 110)])),(wB 109 (AA (tm 111))),(wB 112 (Ax 0 (tm 109))),(wB 113 (Ax 1 (tm 109))),(wB 18 (AA (tm 112))),(wB 19 (AA (tm 113)))]) iA)
abbrev mJ:CC:=(CC.seq mf qD)
abbrev jG:CC:=(CC.seq (CC.region [(wB 96 (AA (tm 9))),(wB 97 (AW 19 [(tm 96)])),(wB 95 (AA (tm 97))),(wB 98 (Ax 0 (tm 95))),(wB 99 (Ax 1 (tm 95))),(wB 16 (AA (tm 98))),(wB 17 (AA (tm 99)))]) mJ)
abbrev rS:CC:=(CC.seq (CC.region [(wB 80 (AA (tm 13))),(wB 81 (AM BA (oN 97) (tm 80))),(wB 82 (Bc IntKind.u8 (tm 81))),(wB 83 (Aw 5 1 [(V.i IntKind.u8 (Int.ofNat 0))] [(Pt.mk 0 1 (tm 82))])),(wB 84 (EV (tm 83))),(wB 85 (AA (tm 13))),(wB 86 (AM BA (oN 97) (tm 85))),(wB 87 (AA (tm 3))),(wB 88 (EW (tm 87) (O.c (V.i IntKind.u8 (Int.ofNat 4))))),(wB 89 (Bc IntKind.i64 (tm 88))),(wB 90 (AM BA (tm 86) (tm 89))),(wB 91 (Bc IntKind.u8 (tm 90))),(wB 92 (Aw 5 1 [(V.i IntKind.u8 (Int.ofNat 0))] [(Pt.mk 0 1 (tm 91))])),(wB 93 (EV (tm 92))),(wB 94 (Cq [(V.i IntKind.i64 (Int.ofNat 0)),(V.i IntKind.i64 (Int.ofNat 0)),(V.s 0 0),(V.s 0 0),(V.i IntKind.i64 (Int.ofNat 0))] [(Pt.mk 0 1 (oN 8)),(Pt.mk 2 1 (tm 84)),(Pt.mk 3 1 (tm 93)),(Pt.mk 4 1 (oN 1))])),(wB 15 (CA 57 [(V.i IntKind.i64 (Int.ofNat 0)),(V.i IntKind.i64 (Int.ofNat 0)),(V.s 0 0),(V.s 0 0),(V.i IntKind.i64 (Int.ofNat 0))])),(CO.mk G.none D.none Bool.true (CR.mk (Ae 5 (tm 15) (tm 94))))]) jG)
abbrev kE:CC:=(CC.seq (CC.region [(wB 65 (AA (tm 12))),(wB 66 (AM BA (oN 97) (tm 65))),(wB 67 (Bc IntKind.u8 (tm 66))),(wB 68 (Aw 5 1 [(V.i IntKind.u8 (Int.ofNat 0))] [(Pt.mk 0 1 (tm 67))])),(wB 69 (EV (tm 68))),(wB 70 (AA (tm 12))),(wB 71 (AM BA (oN 97) (tm 70))),(wB 72 (AA (tm 1))),(wB 73 (EW (tm 72) (O.c (V.i IntKind.u8 (Int.ofNat 4))))),(wB 74 (Bc IntKind.i64 (tm 73))),(wB 75 (AM BA (tm 71) (tm 74))),(wB 76 (Bc IntKind.u8 (tm 75))),(wB 77 (Aw 5 1 [(V.i IntKind.u8 (Int.ofNat 0))] [(Pt.mk 0 1 (tm 76))])),(wB 78 (EV (tm 77))),(wB 79 (Cq [(V.i IntKind.i64 (Int.ofNat 0)),(V.i IntKind.i64 (Int.ofNat 0)),(V.s 0 0),(V.s 0 0),(V.i IntKind.i64 (Int.ofNat 0))] [(Pt.mk 0 1 (oN 7)),(Pt.mk 2 1 (tm 69)),(Pt.mk 3 1 (tm 78)),(Pt.mk 4 1 (oN 1))])),(wB 14 (CA 57 [(V.i IntKind.i64 (Int.ofNat 0)),(V.i IntKind.i64 (Int.ofNat 0)),(V.s 0 0),(V.s 0 0),(V.i IntKind.i64 (Int.ofNat 0))])),(CO.mk G.none D.none Bool.true (CR.mk (Ae 5 (tm 14) (tm 79))))]) rS)
abbrev fV:CC:=(CC.seq (CC.region [(wB 59 (AA (tm 0))),(wB 60 (EW (tm 59) (O.c (V.i IntKind.u8 (Int.ofNat 18))))),(wB 61 (Bc IntKind.i64 (tm 60))),(wB 62 (AA (tm 2))),(wB 63 (EW (tm 62) (O.c (V.i IntKind.u8 (Int.ofNat 18))))),(wB 64 (Bc IntKind.i64 (tm 63))),(wB 12 (AA (tm 61))),(wB 13 (AA (tm 64)))]) kE)
abbrev eU:CC:=(CC.seq kD fV)
abbrev sX:CC:=(CC.seq mw eU)
abbrev mO:CC:=(CC.seq (CC.region [(wB 10 (AA (O.c V.l0)))]) sX)
abbrev jI:CC:=(CC.seq (CC.region [(wB 31 (AW 17 [])),(wB 9 (AA (tm 31)))]) mO)
abbrev mT:CC:=(CC.seq vU jI)
abbrev b6:CC:=(CC.seq (CC.region [(wB 8 (AA (O.c (V.b Bool.false))))]) mT)
theorem c6:AV Try.prog 6=⟨225,b6,[(Rs.tmp (AR 8))]⟩:=by kernel_rfl
end Go.Proofs.Ytobfgempjekjpaa
set_option maxRecDepth 1000000
namespace Go.Proofs.Ytobfgempjekjpaa.ravelinlaw14
open Go.Ev
theorem PV:Sz qw Try.prog 1000 15 []=true:=by kernel_rfl
theorem Ni:DU Try.prog 15:=Tk (Tj _) (Checked.mixed Try.checked) PV
end Go.Proofs.Ytobfgempjekjpaa.ravelinlaw14
set_option maxRecDepth 100000
set_option maxHeartbeats 8000000
namespace Go.Proofs.Ytobfgempjekjpaa
open Go Go.Ev
theorem VM {h:H}:BN Try.prog 15 [] h fun y h'=>y=.b true/\h'=h:=BN.VI ravelinlaw14.Ni h
end Go.Proofs.Ytobfgempjekjpaa
namespace Go.Ev
open Go
def K0 (t:BU):Jk:=⟨[],[t],0,0⟩
theorem R8 {t:BU} (h:Fe t=true):KP (K0 t)=true:=by
 refine GV.2 ⟨by simp[K0],by simp[K0],?_,by simp[K0],by simp[K0],by simp[K0],by simp[K0]⟩
 show IT [t] 1=true
 rw[Ii]
 show(true&&NJ [t] 0)=true
 unfold NJ
 show(true&&(Fe t&&(decide (0=0)||_)))=true
 rw[h];rfl
theorem iL {u t:BU} (ht:t.BI=0):D1 u t=false:=by
 unfold D1;exact decide_eq_false fun h=>by omega
theorem Hl (L:List BU):B1 L []=L:=List.filter_eq_self.2 fun _ _=>rfl
end Go.Ev
namespace Go.Ev
open Go
def E2 (n:Nat):UInt8:=UInt8.ofNat (97+n)
theorem He {n:Nat} (h:n<=100):(E2 n).toNat=97+n:=by unfold E2;rw[UInt8.toNat_ofNat',Nat.mod_eq_of_lt (by omega)]
theorem KF {n m:Nat} (h:n<=100) (h2:m<=100):Op.bytesLess [E2 n] [E2 m]=decide (n<m):=by
 have e:(E2 n<E2 m)=(n<m):=propext (by rw[UInt8.lt_iff_toNat_lt,He h,He h2];omega)
 have e2:(E2 m<E2 n)=(m<n):=propext (by rw[UInt8.lt_iff_toNat_lt,He h,He h2];omega)
 unfold Op.bytesLess
 simp only[e,e2]
 by_cases h1:n<m
 ·simp[h1]
 ·simp[h1];intro _;rfl
def tR (i t:Int) (x y:Nat):BU:=⟨i,t,[E2 x],[E2 y],1⟩
theorem Vn {i t:Int} {x y:Nat} (h1:1<=i) (h2:i<=1000000) (ht:t=0\/t=1) (h:x<=y) (hy:y<=100):Fe (tR i t x y)=true:=by
 refine D6.2 ⟨h1,h2,ht,by simp[tR],by simp[tR],?_,by simp[tR]⟩
 show Op.bytesLess [E2 y] [E2 x]=false
 rw[KF hy (by omega)];exact decide_eq_false (by omega)
/--an edit that brings one -/
theorem Qr {S:IM} {g:List Int} {t:BU} (ht:Fe t=true) (hg:g.length<=40) (hh:P4 S.L g=true) (hp:S.next<=t.id) (hl:(B1 S.L g).length<40) (h0:0<=S.log) (h1:0<=S.seq):
 LH S ⟨g,[t],0,0⟩=if (B1 S.L g).any (fun u=>D1 u t)then (16,S)else (0,⟨IC (B1 S.L g) t,S.log,S.seq,t.id+1⟩):=by
 have he:KP ⟨g,[t],0,0⟩=true:=GV.2 ⟨hg,by simp,(GV.1 (R8 ht)).up,by simp,by simp,by simp,by simp⟩
 have hpa:Fv S ⟨g,[t],0,0⟩=false:=by
  unfold Fv
  show(decide (0<1)&&decide (t.id<S.next)||(decide ((0:Int)<0)&&_)||(decide ((0:Int)<0)&&_))=false
  rw[decide_eq_false (p:=t.id<S.next) (by omega)];rfl
 have hc:F4 (B1 S.L (Jk.mk g [t] 0 0).gone) (Jk.mk g [t] 0 0).Al=if (B1 S.L g).any (fun u=>D1 u t)then none else some (IC (B1 S.L g) t):=rfl
 unfold LH
 rw[if_neg (by rw[he];simp),if_neg (by show ¬P4 S.L g=false;rw[hh];simp),if_neg (by rw[hpa];simp),hc]
 cases hm:(B1 S.L g).any (fun u=>D1 u t)with
 |true=>rw[if_pos rfl,if_pos rfl]
 |false=>
  rw[if_neg (by simp),if_neg (by simp)]
  show(if 40<(IC (B1 S.L g) t).length then (25,S)else (0,U8 S ⟨g,[t],0,0⟩ (IC (B1 S.L g) t)))=_
  rw[(Hv (B1 S.L g) t).length_eq,List.length_cons,if_neg (by omega)]
  show(0,IM.mk _ (max S.log 0) (max S.seq 0) (t.id+1))=_
  rw[Int.max_eq_left h0,Int.max_eq_left h1]
end Go.Ev
namespace Go.Ev
open Go
def tC (i:Nat):BU:=tR ((i:Int)+1) 1 (3*i) (3*i+1)
def MZ (n:Nat):List BU:=(List.range n).map tC
theorem Sj (n:Nat):MZ (n+1)=MZ n++[tC n]:=by unfold MZ;rw[List.range_succ,List.map_append];rfl
def TE:List BU:=[tC 0,tC 1,tC 2,tC 3,tC 4,tC 5]
theorem NY:MZ 6=TE:=rfl
def e6:Jk:=⟨[],TE,0,0⟩
def eJ:IM:=⟨TE,1,0,7⟩
def tU (x p:Nat):BU:=tR 7 0 x (x+p)
def tV (y q:Nat):BU:=tR 8 0 y (y+q)
def eL (x p:Nat):IM:=⟨tU x p::TE,1,0,8⟩
def O2 (x p y q:Nat):IM:=⟨tV y q::tU x p::TE,1,0,9⟩
theorem ux:LH cQ e6=(0,eJ):=by rfl
theorem Ms {L:List BU} {t:BU} (h:t.BI=0):¬(B1 L []).any (fun u=>D1 u t)=true:=by
 rw[Bool.not_eq_true];exact List.any_eq_false.2 fun u _=>by rw[iL h];simp
theorem vi {x p:Nat} (hx:x+p<=100):LH eJ (K0 (tU x p))=(0,eL x p):=by
 have:=Qr (S:=eJ) (g:=[]) (t:=tU x p) (Vn (by omega) (by omega) (.inl rfl) (by omega) hx) (by simp) rfl (by show(7:Int)<=7;omega) (by rw[Hl];show 6<40;omega) (by show(0:Int)<=1;omega) (by show(0:Int)<=0;omega)
 rw[if_neg (Ms rfl),Hl]at this
 exact this
theorem ub {x p y q:Nat} (hy:y+q<=100):LH (eL x p) (K0 (tV y q))=(0,O2 x p y q):=by
 have:=Qr (S:=eL x p) (g:=[]) (t:=tV y q) (Vn (by omega) (by omega) (.inl rfl) (by omega) hy) (by simp) rfl (by show(8:Int)<=8;omega) (by rw[Hl];show 7<40;omega) (by show(0:Int)<=1;omega) (by show(0:Int)<=0;omega)
 rw[if_neg (Ms rfl),Hl]at this
 exact this
theorem cG:Ku eJ.L=false:=rfl
theorem dX {x p:Nat}:Ku (eL x p).L=false:=rfl
theorem bp {x p y q:Nat}:Ku (O2 x p y q).L=true:=rfl
theorem v9 {x y:Nat} (hx:x<=100) (hy:y<=100):tZ [E2 y] [E2 x]=[E2 (min x y)]:=by
 unfold tZ
 rw[R9,KF hx hy]
 by_cases h:x<y
 ·rw[decide_eq_true h,Nat.min_eq_left (by omega)];rfl
 ·rw[decide_eq_false h,Nat.min_eq_right (by omega)];rfl
theorem wO {x y:Nat} (hx:x<=100) (hy:y<=100):uD [E2 y] [E2 x]=[E2 (max x y)]:=by
 unfold uD
 rw[KF hy hx]
 by_cases h:y<x
 ·rw[decide_eq_true h,Nat.max_eq_left (by omega)];rfl
 ·rw[decide_eq_false h,Nat.max_eq_right (by omega)];rfl
theorem Qi {l k x y:Nat} {i t:Int} (hl:l<=100) (hk:k<=100) (hx:x<=100) (hy:y<=100):Gn [E2 l] [E2 k] (tR i t x y)=decide (x<=k/\l<=y):=by
 unfold Gn
 show(!Op.bytesLess [E2 y] [E2 l]&&!Op.bytesLess [E2 k] [E2 x])=_
 rw[KF hy hl,KF hk hx,<-decide_not,<-decide_not,<-Bool.decide_and]
 exact decide_eq_decide.2 (by omega)
def Ix (l k n:Nat):Nat:=((List.range n).filter fun i=>decide (3*i<=k/\l<=3*i+1)).length
theorem Nq (l k n:Nat):Ix l k (n+1)=Ix l k n+if 3*n<=k/\l<=3*n+1 then 1 else 0:=by
 unfold Ix
 rw[List.range_succ,List.filter_append,List.length_append]
 by_cases h:3*n<=k/\l<=3*n+1
 ·rw[if_pos h,List.filter_cons,decide_eq_true h];rfl
 ·rw[if_neg h,List.filter_cons,decide_eq_false h];rfl
theorem JB (l k n:Nat):Ix l k n<=n:=by
 unfold Ix
 have:=List.length_filter_le (fun i=>decide (3*i<=k/\l<=3*i+1)) (List.range n)
 rwa [List.length_range]at this
theorem Lz {l k:Nat} (hl:l<=100) (hk:k<=100):∀ n,n<=6->((MZ n).filter (Gn [E2 l] [E2 k])).length=Ix l k n
 |0,_=>rfl
 |n+1,h=>by
  rw[Sj,List.filter_append,List.length_append,Lz hl hk n (by omega),Nq,List.filter_cons]
  unfold tC
  rw[Qi hl hk (by omega) (by omega)]
  by_cases h:3*n<=k/\l<=3*n+1
  ·rw[decide_eq_true h,if_pos h];rfl
  ·rw[decide_eq_false h,if_neg h];rfl
theorem LM {x p y q:Nat} (hx:x+p<=100) (hy:y+q<=100):GK (O2 x p y q).L=tV y q::tU x p::TE.filter (Gn [E2 (min x y)] [E2 (max (x+p) (y+q))]):=by
 have h0:D8 0 (O2 x p y q).L=[tV y q,tU x p]:=rfl
 have h1:D8 1 (O2 x p y q).L=TE:=rfl
 unfold GK OK
 rw[h0,h1,if_neg (show ¬[tV y q,tU x p].length<2 from Nat.lt_irrefl 2)]
 have hl:uF [tV y q,tU x p]=[E2 (min x y)]:=v9 (by omega) (by omega)
 have hh:tq [tV y q,tU x p]=[E2 (max (x+p) (y+q))]:=wO hx hy
 rw[hl,hh];rfl
theorem Pb {x p y q:Nat} (hx:x+p<=100) (hy:y+q<=100):(GK (O2 x p y q).L).length=2+Ix (min x y) (max (x+p) (y+q)) 6:=by
 rw[LM hx hy,List.length_cons,List.length_cons,<-NY,Lz (by omega) (by omega) 6 (by omega)];omega
theorem Us {x p y q:Nat} (hx:x+p<=100) (hy:y+q<=100):((GK (O2 x p y q).L).getD 0 default).id=8:=by rw[LM hx hy];rfl
theorem UO {x p y q:Nat} (hx:x+p<=100) (hy:y+q<=100):((GK (O2 x p y q).L).getD 1 default).id=7:=by rw[LM hx hy];rfl
theorem RO {x p y q:Nat} (hx:x+p<=100) (hy:y+q<=100):((O2 x p y q).L.filter (Gn [E2 x] [E2 x])).length=Ix x x 6+(if y<=x/\x<=y+q then 1 else 0)+1:=by
 show((tV y q::tU x p::TE).filter _).length=_
 unfold tV tU
 rw[List.filter_cons,List.filter_cons,Qi (by omega) (by omega) (by omega) hy,Qi (by omega) (by omega) (by omega) hx,decide_eq_true (show x<=x/\x<=x+p by omega),if_pos rfl,<-NY]
 have:=Lz (l:=x) (k:=x) (by omega) (by omega) 6 (by omega)
 by_cases h:y<=x/\x<=y+q
 ·rw[decide_eq_true h,if_pos rfl,if_pos h,List.length_cons,List.length_cons,this]
 ·rw[decide_eq_false h,if_neg (by simp),if_neg h,List.length_cons,this]
end Go.Ev
set_option maxRecDepth 100000
set_option maxHeartbeats 8000000
namespace Go.Ev
open Go
theorem Eu.xQ {P:Program} {h g':H} {N:Nx} {v:V} {L:List BU} (a:Eu h v L) (hi:1<L.length):IX P 5 v 1 g' N=N.go P (.p (FV v) (lg v) (Ce v+5) (Cf v)) g':=by have:=a.ix (P:=P) (N:=N) (g':=g') hi;rwa [Nat.one_mul]at this
theorem Eu.ym {P:Program} {h:H} {N:Nx} {v:V} {L:List BU} (a:Eu h v L) (hi:1<L.length):L1 P (FV v) (lg v) (Ce v+5) (Cf v) h N=N.go P (.i .i64 (L.getD 1 default).id) h:=by have:=a.l0 (P:=P) (N:=N) hi;rwa [Nat.one_mul]at this
theorem Nf {n:Nat} {i:Int} (h:n<=100) (hi:i=97+(n:Int)):([.i .u8 i]:List V)=[E2 n].map bv:=by
 show _=[V.i .u8 ((E2 n).toNat:Int)]
 rw[He h,hi];rfl
end Go.Ev
namespace Go.Proofs.Ytobfgempjekjpaa
open Go Go.Ev
theorem U9 {h:H} {id:B} {t:BU} (o:Ev.C7 h id (HW t)):Eu h (.l id 0 0 1 5 (some 1)) [t]:=by
 refine .inr ⟨id,0,0,5,some 1,rfl,by simp,?_,?_⟩
 ·obtain⟨_,_,_,_,_,_,h6,_⟩:=o;exact h6
 ·show Row h id 0 0 ([t].flatMap HW)
  rw[List.flatMap_cons,List.flatMap_nil,List.append_nil];exact o.row
theorem OO {h:H} {id:B} {t:BU} (o:Ev.C7 h id (HW t)):TB h .l0 (.l id 0 0 1 5 (some 1)) (K0 t):=⟨.inl ⟨rfl,rfl⟩,U9 o⟩
theorem Iz {h:H} {a b c d:UInt8} (hf:B.val h.floor<=B.val h.next):BN Try.prog 6 [.i .u8 (a.toNat:Int),.i .u8 (b.toNat:Int),.i .u8 (c.toNat:Int),.i .u8 (d.toNat:Int)] h fun y h'=>y=.b true:=by
 obtain⟨X,hX⟩:∃ X,X=a.toNat%18:=⟨_,rfl⟩
 obtain⟨Y,hY⟩:∃ X,X=c.toNat%18:=⟨_,rfl⟩
 obtain⟨P,hP⟩:∃ X,X=b.toNat%4:=⟨_,rfl⟩
 obtain⟨D,hD⟩:∃ X,X=d.toNat%4:=⟨_,rfl⟩
 have iX:(a.toNat:Int)%18=(X:Int):=by omega
 have iY:(c.toNat:Int)%18=(Y:Int):=by omega
 have iP:(b.toNat:Int)%4=(P:Int):=by omega
 have iD:(d.toNat:Int)%4=(D:Int):=by omega
 have bX:X<18:=by omega
 have bY:Y<18:=by omega
 have bP:P<4:=by omega
 have bD:D<4:=by omega
 refine BJ c6 (by intro hb;cases hb) (by simp) (by simp) fun Q hQ=>?_
 simp only[Av,Nat.reduceAdd]
 repeat' (first
  |refine St.h ?_
  |simp(disch:=first|omega|(simp only[AJ];omega))only[AI,↓AB,↓reduceIte,seval]
  |(with_reducible (first|apply AE|apply AD))<;>(intro hc;(try simp only[Ab]at hc);(try simp only[hc]);(try simp only[Aa]at hc);try omega))
 refine CL.pure VM ?_
 repeat' (first
  |refine St.h ?_
  |simp(disch:=first|omega|(simp only[AJ];omega))only[AI,↓AB,↓reduceIte,seval]
  |(with_reducible (first|apply AE|apply AD))<;>(intro hc;(try simp only[Ab]at hc);(try simp only[hc]);(try simp only[Aa]at hc);try omega))
 refine CL.mk (Uh hf) ?_
 rintro _ h1 ⟨rfl,a1,n1,s1⟩
 have hf1:=s1.fl hf
 repeat' (first
  |refine St.h ?_
  |simp(disch:=first|omega|(simp only[AJ];omega))only[AI,↓AB,↓reduceIte,seval]
  |(with_reducible (first|apply AE|apply AD))<;>(intro hc;(try simp only[Ab]at hc);(try simp only[hc]);(try simp only[Aa]at hc);try omega))
 refine Ok.lp (fun m t g=>∃ (i:Nat) (w:V),m=6-i/\i<=6/\get 0 t=.i .u8 (a.toNat:Int)/\get 1 t=.i .u8 (b.toNat:Int)/\get 2 t=.i .u8 (c.toNat:Int)/\get 3 t=.i .u8 (d.toNat:Int)/\get 9 t=.p h.next 0 0 4/\get 10 t=w/\get 11 t=.i .i64 (i:Int)/\Rt g w (MZ i)/\(∀ q,Ao w q->B.val h1.next<=B.val q)/\AT AQ h1 g) 6 ?_ ?_
 ·simp(disch:=first|omega|(simp only[AJ];omega))only[AI,↓AB,↓reduceIte,seval]
  refine⟨0,.l0,by omega,by omega,?_⟩
  refine⟨?_,?_,?_,?_,?_,?_,?_,Gr.nil,?_,AT.refl _ _⟩
  rotate_right
  ·rintro i ⟨_,_,_,_,_,e⟩;cases e
  all_goals first|trivial|rfl
 rintro I hI m t g ⟨i,w,rfl,hi,f0,f1,f2,f3,f9,f10,f11,bu,own,st⟩
 have hfg:=st.fl hf1
 by_cases hil:i<6
 ·have d1:((i:Int)<6)=True:=eq_true (by omega)
  have hlen:(MZ i).length<=10000:=by unfold MZ;rw[List.length_map,List.length_range];omega
  repeat' (first
   |refine St.h ?_
   |simp(disch:=first|omega|(simp only[AJ];omega))only[AI,↓AB,↓reduceIte,seval,f0,f1,f2,f3,f9,f10,f11,d1]
   |(with_reducible (first|apply AE|apply AD))<;>(intro hc;(try simp only[Ab]at hc);(try simp only[hc]);(try simp only[Aa]at hc);try omega))
  refine AL.str (bs:=[E2 (3*i)]) (Nf (by omega) (by omega)) (by simp) rfl rfl (by simp) hfg fun g1 u1 t1=>?_
  have hg1:=t1.fl hfg
  repeat' (first
   |refine St.h ?_
   |simp(disch:=first|omega|(simp only[AJ];omega))only[AI,↓AB,↓reduceIte,seval,f0,f1,f2,f3,f9,f10,f11]
   |(with_reducible (first|apply AE|apply AD))<;>(intro hc;(try simp only[Ab]at hc);(try simp only[hc]);(try simp only[Aa]at hc);try omega))
  refine AL.str (bs:=[E2 (3*i+1)]) (Nf (by omega) (by omega)) (by simp) rfl rfl (by simp) hg1 fun g2 u2 t2=>?_
  have hg2:=t2.fl hg1
  repeat' (first
   |refine St.h ?_
   |simp(disch:=first|omega|(simp only[AJ];omega))only[AI,↓AB,↓reduceIte,seval,f0,f1,f2,f3,f9,f10,f11]
   |(with_reducible (first|apply AE|apply AD))<;>(intro hc;(try simp only[Ab]at hc);(try simp only[hc]);(try simp only[Aa]at hc);try omega))
  refine AL.own (by simp) hg2 fun g3 t3 _ o3=>?_
  have o3:Ev.C7 g3 g2.next (HW (tC i)):=o3
  have hg3:=t3.fl hg2
  have t13:=(t1.trans t2).trans t3
  repeat' (first
   |refine St.h ?_
   |simp(disch:=first|omega|(simp only[AJ];omega))only[AI,↓AB,↓reduceIte,seval,f0,f1,f2,f3,f9,f10,f11]
   |(with_reducible (first|apply AE|apply AD))<;>(intro hc;(try simp only[Ab]at hc);(try simp only[hc]);(try simp only[Aa]at hc);try omega))
  refine LG (x:=tC i) (bu.grow t13) o3 hlen hg3 fun w4 g4 b4 t4 own4=>?_
  repeat' (first
   |refine St.h ?_
   |simp(disch:=first|omega|(simp only[AJ];omega))only[AI,↓AB,↓reduceIte,seval,f0,f1,f2,f3,f9,f10,f11]
   |(with_reducible (first|apply AE|apply AD))<;>(intro hc;(try simp only[Ab]at hc);(try simp only[hc]);(try simp only[Aa]at hc);try omega))
  refine A4 hI (6-(i+1)) (by omega) ⟨i+1,w4,rfl,by omega,by simp(disch:=first|omega|(simp only[AJ];omega))only[AI,↓AB,↓reduceIte,seval,f0],by simp(disch:=first|omega|(simp only[AJ];omega))only[AI,↓AB,↓reduceIte,seval,f1],by simp(disch:=first|omega|(simp only[AJ];omega))only[AI,↓AB,↓reduceIte,seval,f2],by simp(disch:=first|omega|(simp only[AJ];omega))only[AI,↓AB,↓reduceIte,seval,f3],by simp(disch:=first|omega|(simp only[AJ];omega))only[AI,↓AB,↓reduceIte,seval,f9],by simp(disch:=first|omega|(simp only[AJ];omega))only[AI,↓AB,↓reduceIte,seval],by simp(disch:=first|omega|(simp only[AJ];omega))only[AI,↓AB,↓reduceIte,seval,f11];rfl,by rw[Sj];exact b4,fun q hq=>?_,(st.trans t13).CU t4 fun q hq=>own q hq⟩
  rcases own4 q hq with h5|h5
  ·exact own q h5
  ·exact Nat.le_trans (st.trans t13).next h5
 obtain rfl:i=6:=by omega
 have d1:((6:Int)<(6:Int))=False:=eq_false (by omega)
 rw[NY]at bu
 have sp0:=a1.grow st
 have st0:AT AQ h g:=s1.trans st
 repeat' (first
  |refine St.h ?_
  |simp(disch:=first|omega|(simp only[AJ];omega))only[AI,↓AB,↓reduceIte,seval,f0,f1,f2,f3,f9,f10,f11,d1,Zn bu.DR]
  |(with_reducible (first|apply AE|apply AD))<;>(intro hc;(try simp only[Ab]at hc);(try simp only[hc]);(try simp only[Aa]at hc);try omega))
 refine CL.mk (Sf (e:=e6) sp0 wY ⟨.inl ⟨rfl,rfl⟩,bu.DR⟩ (by simp[e6]) (by simp[e6,TE]) (by simp[e6,TE,tC,tR]) hfg ?_) ?_
 ·intro q hq e
  have:=own q hq
  rw[e]at this;omega
 have wf6:=SQ (e:=e6) wY
 rw[ux]at wf6⊢
 rintro _ g6 ⟨rfl,u6,sp6,_,t6⟩
 have sp6:KT g6 h.next u6 eJ:=sp6
 have wf6:Wf eJ:=wf6
 have st6:AT AQ h g6:=st0.CU t6 fun q e=>by rw[e];exact Nat.le_refl _
 have hf6:=st6.fl hf
 have z6:((0:Int)=0)=True:=eq_true rfl
 repeat' (first
  |refine St.h ?_
  |simp(disch:=first|omega|(simp only[AJ];omega))only[AI,↓AB,↓reduceIte,seval,f0,f1,f2,f3,f9,iX,iY,iP,iD]
  |(with_reducible (first|apply AE|apply AD))<;>(intro hc;(try simp only[Ab]at hc);(try simp only[hc]);(try simp only[Aa]at hc);try omega))
 refine AL.str (bs:=[E2 X]) (Nf (by omega) (by omega)) (by simp) rfl rfl (by simp) hf6 fun g7 v7 t7=>?_
 have hf7:=t7.fl hf6
 repeat' (first
  |refine St.h ?_
  |simp(disch:=first|omega|(simp only[AJ];omega))only[AI,↓AB,↓reduceIte,seval,f0,f1,f2,f3,f9,iX,iY,iP,iD]
  |(with_reducible (first|apply AE|apply AD))<;>(intro hc;(try simp only[Ab]at hc);(try simp only[hc]);(try simp only[Aa]at hc);try omega))
 refine AL.str (bs:=[E2 (X+P)]) (Nf (by omega) (by omega)) (by simp) rfl rfl (by simp) hf7 fun g8 v8 t8=>?_
 have hf8:=t8.fl hf7
 repeat' (first
  |refine St.h ?_
  |simp(disch:=first|omega|(simp only[AJ];omega))only[AI,↓AB,↓reduceIte,seval,f0,f1,f2,f3,f9,iX,iY,iP,iD]
  |(with_reducible (first|apply AE|apply AD))<;>(intro hc;(try simp only[Ab]at hc);(try simp only[hc]);(try simp only[Aa]at hc);try omega))
 refine AL.own (by simp) hf8 fun g9 t9 n9 o9=>?_
 have hf9:=t9.fl hf8
 repeat' (first
  |refine St.h ?_
  |simp(disch:=first|omega|(simp only[AJ];omega))only[AI,↓AB,↓reduceIte,seval,f0,f1,f2,f3,f9,iX,iY,iP,iD]
  |(with_reducible (first|apply AE|apply AD))<;>(intro hc;(try simp only[Ab]at hc);(try simp only[hc]);(try simp only[Aa]at hc);try omega))
 refine ST.all o9 rfl rfl (by simp) (by simp) fun ga oa ta=>?_
 have t9a:AT AQ g8 ga:=t9.CU ta fun q e=>by rw[e];exact Nat.le_refl _
 have hfa:=t9a.fl hf8
 repeat' (first
  |refine St.h ?_
  |simp(disch:=first|omega|(simp only[AJ];omega))only[AI,↓AB,↓reduceIte,seval,f0,f1,f2,f3,f9,iX,iY,iP,iD]
  |(with_reducible (first|apply AE|apply AD))<;>(intro hc;(try simp only[Ab]at hc);(try simp only[hc]);(try simp only[Aa]at hc);try omega))
 refine AL.str (bs:=[E2 Y]) (Nf (by omega) (by omega)) (by simp) rfl rfl (by simp) hfa fun gb vb tb=>?_
 have hfb:=tb.fl hfa
 repeat' (first
  |refine St.h ?_
  |simp(disch:=first|omega|(simp only[AJ];omega))only[AI,↓AB,↓reduceIte,seval,f0,f1,f2,f3,f9,iX,iY,iP,iD]
  |(with_reducible (first|apply AE|apply AD))<;>(intro hc;(try simp only[Ab]at hc);(try simp only[hc]);(try simp only[Aa]at hc);try omega))
 refine AL.str (bs:=[E2 (Y+D)]) (Nf (by omega) (by omega)) (by simp) rfl rfl (by simp) hfb fun gc vc tc=>?_
 have hfc:=tc.fl hfb
 repeat' (first
  |refine St.h ?_
  |simp(disch:=first|omega|(simp only[AJ];omega))only[AI,↓AB,↓reduceIte,seval,f0,f1,f2,f3,f9,iX,iY,iP,iD]
  |(with_reducible (first|apply AE|apply AD))<;>(intro hc;(try simp only[Ab]at hc);(try simp only[hc]);(try simp only[Aa]at hc);try omega))
 refine AL.own (by simp) hfc fun gd td nd od=>?_
 have hfd:=td.fl hfc
 repeat' (first
  |refine St.h ?_
  |simp(disch:=first|omega|(simp only[AJ];omega))only[AI,↓AB,↓reduceIte,seval,f0,f1,f2,f3,f9,iX,iY,iP,iD]
  |(with_reducible (first|apply AE|apply AD))<;>(intro hc;(try simp only[Ab]at hc);(try simp only[hc]);(try simp only[Aa]at hc);try omega))
 refine ST.all od rfl rfl (by simp) (by simp) fun ge oe te=>?_
 have tde:AT AQ gc ge:=td.CU te fun q e=>by rw[e];exact Nat.le_refl _
 have hfe:=tde.fl hfc
 have tae:AT AQ ga ge:=(tb.trans tc).trans tde
 have t6e:AT AQ g6 ge:=((t7.trans t8).trans t9a).trans tae
 have o9e:=oa.stay tae fun e=>e
 have spe:=sp6.grow t6e
 have ste:=st6.trans t6e
 repeat' (first
  |refine St.h ?_
  |simp(disch:=first|omega|(simp only[AJ];omega))only[AI,↓AB,↓reduceIte,seval,f0,f1,f2,f3,f9,iX,iY,iP,iD]
  |(with_reducible (first|apply AE|apply AD))<;>(intro hc;(try simp only[Ab]at hc);(try simp only[hc]);(try simp only[Aa]at hc);try omega))
 refine CL.mk (Hm spe (by show 6<=1000;omega) hfe) ?_
 rintro _ gf ⟨p1,rfl,_,tf⟩
 have hff:=tf.fl hfe
 have spf:=spe.grow tf
 have r9:=(o9e.stay tf fun e=>e).row
 have bl:=spf.lt.1
 repeat' (first
  |refine St.h ?_
  |simp(disch:=first|omega|(simp only[AJ];omega))only[AI,↓AB,↓reduceIte,seval,f0,f1,f2,f3,f9,iX,iY,iP,iD,cG,r9.ln]
  |(with_reducible (first|apply AE|apply AD))<;>(intro hc;(try simp only[Ab]at hc);(try simp only[hc]);(try simp only[Aa]at hc);try omega))
 refine AL.own (by simp) hff fun gg tg ng og=>?_
 have og:Ev.C7 gg gf.next (HW (tU X P)):=og
 have hfg2:=tg.fl hff
 repeat' (first
  |refine St.h ?_
  |simp(disch:=first|omega|(simp only[AJ];omega))only[AI,↓AB,↓reduceIte,seval,f0,f1,f2,f3,f9,iX,iY,iP,iD]
  |(with_reducible (first|apply AE|apply AD))<;>(intro hc;(try simp only[Ab]at hc);(try simp only[hc]);(try simp only[Aa]at hc);try omega))
 refine CL.mk (Sf (e:=K0 (tU X P)) (spf.grow tg) wf6 (OO og) (by simp[K0]) (by simp[K0]) (by simp[K0,tU,tR]) hfg2 ?_) ?_
 ·rintro q ⟨_,_,_,_,_,e⟩ e2
  cases e
  rw[e2]at bl;omega
 have wf7:=SQ (e:=K0 (tU X P)) wf6
 rw[vi (by omega)]at wf7⊢
 rintro _ gh ⟨rfl,uh,sph,_,th⟩
 have sph:KT gh h.next uh (eL X P):=sph
 have wf7:Wf (eL X P):=wf7
 have steg:AT AQ h gg:=(ste.trans tf).trans tg
 have sth:AT AQ h gh:=steg.CU th fun q e=>by rw[e];exact Nat.le_refl _
 have hfh:=sth.fl hf
 have ned:gc.next≠h.next:=fun e=>by have e2:B.val gc.next=B.val h.next:=(by rw[e]);have:=st.next;have:=t6.next;have:=((t7.trans t8).trans t9a).next;have:=(tb.trans tc).next;have:=n1;omega
 have odh:=((oe.stay tf fun e=>e).stay tg fun e=>e).stay th ned
 repeat' (first
  |refine St.h ?_
  |simp(disch:=first|omega|(simp only[AJ];omega))only[AI,↓AB,↓reduceIte,seval,f0,f1,f2,f3,f9,iX,iY,iP,iD]
  |(with_reducible (first|apply AE|apply AD))<;>(intro hc;(try simp only[Ab]at hc);(try simp only[hc]);(try simp only[Aa]at hc);try omega))
 refine CL.mk (Hm sph (by show 7<=1000;omega) hfh) ?_
 rintro _ gi ⟨p2,rfl,_,ti⟩
 have hfi:=ti.fl hfh
 have spi:=sph.grow ti
 have rd:=(odh.stay ti fun e=>e).row
 have bl2:=spi.lt.1
 repeat' (first
  |refine St.h ?_
  |simp(disch:=first|omega|(simp only[AJ];omega))only[AI,↓AB,↓reduceIte,seval,f0,f1,f2,f3,f9,iX,iY,iP,iD,dX,rd.ln]
  |(with_reducible (first|apply AE|apply AD))<;>(intro hc;(try simp only[Ab]at hc);(try simp only[hc]);(try simp only[Aa]at hc);try omega))
 refine AL.own (by simp) hfi fun gj tj nj oj=>?_
 have oj:Ev.C7 gj gi.next (HW (tV Y D)):=oj
 have hfj:=tj.fl hfi
 repeat' (first
  |refine St.h ?_
  |simp(disch:=first|omega|(simp only[AJ];omega))only[AI,↓AB,↓reduceIte,seval,f0,f1,f2,f3,f9,iX,iY,iP,iD]
  |(with_reducible (first|apply AE|apply AD))<;>(intro hc;(try simp only[Ab]at hc);(try simp only[hc]);(try simp only[Aa]at hc);try omega))
 refine CL.mk (Sf (e:=K0 (tV Y D)) (spi.grow tj) wf7 (OO oj) (by simp[K0]) (by simp[K0]) (by simp[K0,tV,tR]) hfj ?_) ?_
 ·rintro q ⟨_,_,_,_,_,e⟩ e2
  cases e
  rw[e2]at bl2;omega
 have wf8:=SQ (e:=K0 (tV Y D)) wf7
 rw[ub (by omega)]at wf8⊢
 rintro _ gk ⟨rfl,uk,spk,_,tk⟩
 have spk:KT gk h.next uk (O2 X P Y D):=spk
 have stk:AT AQ h gk:=((sth.trans ti).trans tj).CU tk fun q e=>by rw[e];exact Nat.le_refl _
 have hfk:=stk.fl hf
 repeat' (first
  |refine St.h ?_
  |simp(disch:=first|omega|(simp only[AJ];omega))only[AI,↓AB,↓reduceIte,seval,f0,f1,f2,f3,f9,iX,iY,iP,iD]
  |(with_reducible (first|apply AE|apply AD))<;>(intro hc;(try simp only[Ab]at hc);(try simp only[hc]);(try simp only[Aa]at hc);try omega))
 refine CL.mk (Hm spk (by show 8<=1000;omega) hfk) ?_
 rintro _ gl ⟨p3,rfl,tp3,tl⟩
 have hfl:=tl.fl hfk
 have spl:=spk.grow tl
 have mnE:min (X:Int) (Y:Int)=((min X Y:Nat):Int):=by omega
 have mxE:max ((X:Int)+(P:Int)) ((Y:Int)+(D:Int))=((max (X+P) (Y+D):Nat):Int):=by omega
 obtain⟨lo,hlo⟩:∃ l,l=min X Y:=⟨_,rfl⟩
 obtain⟨hi2,hhi⟩:∃ l,l=max (X+P) (Y+D):=⟨_,rfl⟩
 rw[<-hlo]at mnE
 rw[<-hhi]at mxE
 repeat' (first
  |refine St.h ?_
  |simp(disch:=first|omega|(simp only[AJ];omega))only[AI,↓AB,↓reduceIte,seval,f0,f1,f2,f3,f9,iX,iY,iP,iD,mnE,mxE,bp]
  |(with_reducible (first|apply AE|apply AD))<;>(intro hc;(try simp only[Ab]at hc);(try simp only[hc]);(try simp only[Aa]at hc);try omega))
 refine Ok.lp (fun m t g=>∃ i:Nat,m=6-i/\i<=6/\gl=g/\get 3 t=.i .u8 (d.toNat:Int)/\get 9 t=.p h.next 0 0 4/\get 12 t=.i .i64 (X:Int)/\get 13 t=.i .i64 (Y:Int)/\get 20 t=p3/\get 21 t=.b true/\get 22 t=.i .i64 (lo:Int)/\get 23 t=.i .i64 (hi2:Int)/\get 24 t=.i .i64 ((2+Ix lo hi2 i:Nat):Int)/\get 25 t=.i .i64 (i:Int)) 6 ?_ ?_
 ·simp(disch:=first|omega|(simp only[AJ];omega))only[AI,↓AB,↓reduceIte,seval,f0,f1,f2,f3,f9]
  refine⟨0,by omega,by omega,?_⟩
  refine⟨?_,?_,?_,?_,?_,?_,?_,?_,?_,?_,?_⟩
  all_goals first|trivial|rfl
 clear f0 f1 f2 f3 f9 f10 f11
 rintro I2 hI2 m t _ ⟨i,rfl,hi,rfl,f3,f9,f12,f13,f20,f21,f22,f23,f24,f25⟩
 by_cases hil:i<6
 ·have d1:((i:Int)<6)=True:=eq_true (by omega)
  have cs:=Nq lo hi2 i
  have cl:=JB lo hi2 i
  by_cases c1:3*(i:Int)<=(hi2:Int)<;>by_cases c2:(lo:Int)<=3*(i:Int)+1
  all_goals try (exfalso;omega)
  all_goals
   first
    |rw[if_pos (by omega)]at cs
    |rw[if_neg (by omega)]at cs
   repeat' (first
    |refine St.h ?_
    |simp(disch:=first|omega|(simp only[AJ];omega))only[AI,↓AB,↓reduceIte,seval,f3,f9,f12,f13,f20,f21,f22,f23,f24,f25,d1,c1,c2]
    |(with_reducible (first|apply AE|apply AD))<;>(intro hc;(try simp only[Ab]at hc);(try simp only[hc]);(try simp only[Aa]at hc);try omega))
   exact A4 hI2 (6-(i+1)) (by omega) ⟨i+1,rfl,by omega,rfl,by simp(disch:=first|omega|(simp only[AJ];omega))only[AI,↓AB,↓reduceIte,seval,f3],by simp(disch:=first|omega|(simp only[AJ];omega))only[AI,↓AB,↓reduceIte,seval,f9],by simp(disch:=first|omega|(simp only[AJ];omega))only[AI,↓AB,↓reduceIte,seval,f12],by simp(disch:=first|omega|(simp only[AJ];omega))only[AI,↓AB,↓reduceIte,seval,f13],by simp(disch:=first|omega|(simp only[AJ];omega))only[AI,↓AB,↓reduceIte,seval,f20],by simp(disch:=first|omega|(simp only[AJ];omega))only[AI,↓AB,↓reduceIte,seval,f21],by simp(disch:=first|omega|(simp only[AJ];omega))only[AI,↓AB,↓reduceIte,seval,f22],by simp(disch:=first|omega|(simp only[AJ];omega))only[AI,↓AB,↓reduceIte,seval,f23],by simp(disch:=first|omega|(simp only[AJ];omega))only[AI,↓AB,↓reduceIte,seval,f24];rw[cs];rfl,by simp(disch:=first|omega|(simp only[AJ];omega))only[AI,↓AB,↓reduceIte,seval,f25];rfl⟩
 obtain rfl:i=6:=by omega
 have d1:((6:Int)<(6:Int))=False:=eq_false (by omega)
 repeat' (first
  |refine St.h ?_
  |simp(disch:=first|omega|(simp only[AJ];omega))only[AI,↓AB,↓reduceIte,seval,f3,f9,f12,f13,f20,f21,f22,f23,f24,f25,d1]
  |(with_reducible (first|apply AE|apply AD))<;>(intro hc;(try simp only[Ab]at hc);(try simp only[hc]);(try simp only[Aa]at hc);try omega))
 refine AL.str (bs:=[E2 X]) (Nf (by omega) (by omega)) (by simp) rfl rfl (by simp) hfl fun gm vm tm'=>?_
 have hfm:=tm'.fl hfl
 have spm:=spl.grow tm'
 have tp4:=tp3.grow tm'
 repeat' (first
  |refine St.h ?_
  |simp(disch:=first|omega|(simp only[AJ];omega))only[AI,↓AB,↓reduceIte,seval,f3,f9,f12,f13,f20,f21,f24]
  |(with_reducible (first|apply AE|apply AD))<;>(intro hc;(try simp only[Ab]at hc);(try simp only[hc]);(try simp only[Aa]at hc);try omega))
 refine Ok.lp (fun m t g=>∃ i:Nat,m=6-i/\i<=6/\gm=g/\get 3 t=.i .u8 (d.toNat:Int)/\get 9 t=.p h.next 0 0 4/\get 12 t=.i .i64 (X:Int)/\get 13 t=.i .i64 (Y:Int)/\get 20 t=p3/\get 21 t=.b true/\get 24 t=.i .i64 ((2+Ix lo hi2 6:Nat):Int)/\get 26 t=sv [E2 X]/\get 27 t=.i .i64 ((Ix X X i:Nat):Int)/\get 28 t=.i .i64 (i:Int)) 6 ?_ ?_
 ·simp(disch:=first|omega|(simp only[AJ];omega))only[AI,↓AB,↓reduceIte,seval,f3,f9,f12,f13,f20,f21,f24]
  refine⟨0,by omega,by omega,?_⟩
  refine⟨?_,?_,?_,?_,?_,?_,?_,?_,?_,?_,?_⟩
  all_goals first|trivial|rfl
 clear f3 f9 f12 f13 f20 f21 f22 f23 f24 f25
 rintro I3 hI3 m t _ ⟨i,rfl,hi,rfl,f3,f9,f12,f13,f20,f21,f24,f26,f27,f28⟩
 by_cases hil:i<6
 ·have d1:((i:Int)<6)=True:=eq_true (by omega)
  have cs:=Nq X X i
  have cl:=JB X X i
  by_cases c1:3*(i:Int)<=(X:Int)<;>by_cases c2:(X:Int)<=3*(i:Int)+1
  all_goals try (exfalso;omega)
  all_goals
   first
    |rw[if_pos (by omega)]at cs
    |rw[if_neg (by omega)]at cs
   repeat' (first
    |refine St.h ?_
    |simp(disch:=first|omega|(simp only[AJ];omega))only[AI,↓AB,↓reduceIte,seval,f3,f9,f12,f13,f20,f21,f24,f26,f27,f28,d1,c1,c2]
    |(with_reducible (first|apply AE|apply AD))<;>(intro hc;(try simp only[Ab]at hc);(try simp only[hc]);(try simp only[Aa]at hc);try omega))
   exact A4 hI3 (6-(i+1)) (by omega) ⟨i+1,rfl,by omega,rfl,by simp(disch:=first|omega|(simp only[AJ];omega))only[AI,↓AB,↓reduceIte,seval,f3],by simp(disch:=first|omega|(simp only[AJ];omega))only[AI,↓AB,↓reduceIte,seval,f9],by simp(disch:=first|omega|(simp only[AJ];omega))only[AI,↓AB,↓reduceIte,seval,f12],by simp(disch:=first|omega|(simp only[AJ];omega))only[AI,↓AB,↓reduceIte,seval,f13],by simp(disch:=first|omega|(simp only[AJ];omega))only[AI,↓AB,↓reduceIte,seval,f20],by simp(disch:=first|omega|(simp only[AJ];omega))only[AI,↓AB,↓reduceIte,seval,f21],by simp(disch:=first|omega|(simp only[AJ];omega))only[AI,↓AB,↓reduceIte,seval,f24],by simp(disch:=first|omega|(simp only[AJ];omega))only[AI,↓AB,↓reduceIte,seval,f26],by simp(disch:=first|omega|(simp only[AJ];omega))only[AI,↓AB,↓reduceIte,seval,f27];rw[cs];rfl,by simp(disch:=first|omega|(simp only[AJ];omega))only[AI,↓AB,↓reduceIte,seval,f28];rfl⟩
 obtain rfl:i=6:=by omega
 have d1:((6:Int)<(6:Int))=False:=eq_false (by omega)
 have cl:=JB X X 6
 have cl2:=JB lo hi2 6
 have pl:=Pb (x:=X) (p:=P) (y:=Y) (q:=D) (by omega) (by omega)
 rw[<-hlo,<-hhi]at pl
 have p0:=Us (x:=X) (p:=P) (y:=Y) (q:=D) (by omega) (by omega)
 have p1':=UO (x:=X) (p:=P) (y:=Y) (q:=D) (by omega) (by omega)
 have cv:=RO (x:=X) (p:=P) (y:=Y) (q:=D) (by omega) (by omega)
 have plI:((GK (O2 X P Y D).L).length:Int)=((2+Ix lo hi2 6:Nat):Int):=by rw[pl]
 have lt0:0<(GK (O2 X P Y D).L).length:=by omega
 have lt1:1<(GK (O2 X P Y D).L).length:=by omega
 by_cases c1:(Y:Int)<=(X:Int)<;>by_cases c2:(X:Int)<=(Y:Int)+(D:Int)
 all_goals try (exfalso;omega)
 all_goals
  first
   |rw[if_pos (by omega)]at cv
   |rw[if_neg (by omega)]at cv
  repeat' (first
   |refine St.h ?_
   |simp(disch:=first|omega|(simp only[AJ];omega))only[AI,↓AB,↓reduceIte,seval,f3,f9,f12,f13,f20,f21,f24,f26,f27,f28,d1,c1,c2,iD,tp4.ln,plI,tp4.vQ,tp4.wT,p0,tp4.xQ,tp4.ym,p1']
   |(with_reducible (first|apply AE|apply AD))<;>(intro hc;(try simp only[Ab]at hc);(try simp only[hc]);(try simp only[Aa]at hc);try omega))
  refine CL.mk (R7 spm (by show 8<=1000;omega) hfm) ?_
  rintro c1' gn ⟨tn,_⟩
  have cvI:(((O2 X P Y D).L.filter (Gn [E2 X] [E2 X])).length:Int)=_:=congrArg Int.ofNat cv
  repeat' (first
   |refine St.h ?_
   |simp(disch:=first|omega|(simp only[AJ];omega))only[AI,↓AB,↓reduceIte,seval,f3,f9,f12,f13,f20,f21,f24,f26,f27,f28,tn.ln]
   |(with_reducible (first|apply AE|apply AD))<;>(intro hc;(try simp only[Ab]at hc);(try simp only[hc]);(try simp only[Aa]at hc);try omega))
  subst hQ
  rw[cv]
  simp
end Go.Proofs.Ytobfgempjekjpaa
namespace Go.Proofs.Ytobfgempjekjpaa.chooseSpread
open Go Go.Ev Go.ChangeShapes Go.WideShapes Go.ChangeAt Go.RowKit Go.ChangeMaps
theorem own:ownKnob Try.prog.godebug=none:=by kernel_rfl
theorem laid:laidOutB Try.prog=true:=by kernel_rfl
theorem fx {W:World} (h:W.ShapedOpen Try.prog):0<W.heap.size:=by
 obtain⟨o,_,h1,_⟩:=h.2 Try.prog.globals.size (Nat.le_refl _) (of_decide_eq_true (by kernel_rfl))
 exact Nat.lt_of_le_of_lt (Nat.zero_le _) (Array.getElem?_eq_some_iff.1 h1).1
set_option maxRecDepth 100000 in
theorem run {H:Type} {enc:TypeId×Value->H} (W:World) (base:Nat) (args:Array Value) (ds:List (DataW H)) (p:List MemPlace) (hval:∀ (j:Nat) t v,Try.f6.params[j]? =some t->args[j]? =some v->Value.okWide Try.prog W .any base t v) (hopen:W.ShapedOpen Try.prog)
 (hA:DataW.TrodAll enc Try.prog W 0 (fun _=>true) true Try.f6.params.toList args.toList ds p):Calls Try.prog 6 args W fun e w'=>e=.returned (.bool true)/\Below W.heap.size W w':=by
 rw[Try.params6]at hA hval
 obtain⟨v0,vs0,d0,ds0,p0,q0,hargs,rfl,rfl,h0,r0⟩:=trodAll_cons hA
 obtain⟨v1,vs1,d1,ds1,p1,q1,rfl,rfl,rfl,h1,r1⟩:=trodAll_cons r0
 obtain⟨v2,vs2,d2,ds2,p2,q2,rfl,rfl,rfl,h2,r2⟩:=trodAll_cons r1
 obtain⟨v3,vs3,d3,ds3,p3,q3,rfl,rfl,rfl,h3,r3⟩:=trodAll_cons r2
 obtain⟨rfl,rfl,rfl⟩:=trodAll_nil r3
 obtain rfl:args=#[v0,v1,v2,v3]:=by cases args;simp_all
 obtain⟨h,s1,s2⟩:=Go.Ev.start W
 have s:Go.Ev.Start W h:=⟨s1,s2⟩
 obtain⟨a0,rfl,rfl,rfl,w0⟩:=open_int Try.underlying5 (hval 0 5 v0 rfl rfl) h0
 obtain⟨n0,rfl⟩:=JE w0
 obtain⟨a1,rfl,rfl,rfl,w1⟩:=open_int Try.underlying5 (hval 1 5 v1 rfl rfl) h1
 obtain⟨n1,rfl⟩:=JE w1
 obtain⟨a2,rfl,rfl,rfl,w2⟩:=open_int Try.underlying5 (hval 2 5 v2 rfl rfl) h2
 obtain⟨n2,rfl⟩:=JE w2
 obtain⟨a3,rfl,rfl,rfl,w3⟩:=open_int Try.underlying5 (hval 3 5 v3 rfl rfl) h3
 obtain⟨n3,rfl⟩:=JE w3
 exact OD s (vs:=[.i .u8 (n0.toNat:Int),.i .u8 (n1.toNat:Int),.i .u8 (n2.toNat:Int),.i .u8 (n3.toNat:Int)]) ⟨rfl,rfl,rfl,rfl,trivial⟩ (Iz s1.KX)
set_option maxRecDepth 100000 in
theorem lifted (os:Os) (started:os.Started) (H:Type) (enc:TypeId×Value->H):
 ReturnsInHanded {} Try.checked os 6 .any (Rows.chooseSpreadSpec.pre6 enc Try.prog Try.f6 Rows.chooseSpreadRow.domain false) (Rows.chooseSpreadSpec.post enc Try.prog Try.f6 false true false false):=
 Nc (C:=Try.checked) own started (by kernel_rfl) Try.func6
  (ChangeSpec.witness6 (enc:=enc) (C:=Try.checked) false ⟨#[],#[.int .u8 0,.int .u8 0,.int .u8 0,.int .u8 0],[]⟩ 8 (by kernel_rfl) (by kernel_rfl) (by kernel_rfl) (by kernel_rfl))
  rfl (fun ds hd=>by rw[Try.params6]at hd;match ds,hd with|[d1,d2,d3,d4],_=>rfl) laid (by kernel_rfl) (by kernel_rfl) Try.underlying4 (fun W base args ds p hv ho hA=>run W base args ds p hv ho hA)
theorem UR:Rows.chooseSpreadRow.holds Try.pinned (OpenSpec.ofChange Rows.chooseSpreadSpec):=
 OpenClaim.holds_of_wide 6 Try.f6 rfl rfl rfl rfl rfl rfl rfl ⟨rfl,rfl,rfl,rfl,rfl⟩ rfl rfl rfl rfl rfl (by kernel_rfl) Try.func6 (by kernel_rfl)
  (of_decide_eq_true (by kernel_rfl)) (by unfold Func.isWrapper;first|(rw[if_pos (by decide+kernel)];kernel_rfl)|(rw[if_neg (by decide+kernel)];exact⟨rfl,rfl⟩))
  (fun os started H enc _=>lifted os started H enc)
/--THE STATEMENT -/
theorem proved:Rows.ChooseSpreadSaid:=
 UR
end Go.Proofs.Ytobfgempjekjpaa.chooseSpread
end
