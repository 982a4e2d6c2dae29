/- The law ChooseTells, part 5: what its proof uses, closely written. No condition. -/
import Derived.Test.YtobfgempjekjpaaMnChooseTells4
import Derived.ChangeMaps5
noncomputable section
set_option maxRecDepth 1000000
set_option linter.all false
namespace Go.Proofs.Ytobfgempjekjpaa
open Go Go.Ev
abbrev ABT:CC:=(CC.seq (CC.region [(wB 1 (Cx [V.l0,(V.i IntKind.i64 (Int.ofNat 0)),(V.i IntKind.i64 (Int.ofNat 0)),(V.i IntKind.i64 (Int.ofNat 0))] [(Pt.mk 1 1 (oN 1)),(Pt.mk 3 1 (oN 1))])),(wB 2 (Cf 38 (tm 1))),(wB 0 (AA (tm 2)))]) CC.ret)
abbrev b9:CC:=(CC.seq (CC.region [(wB 0 (AA (O.c V.p0)))]) ABT)
theorem c9:AY Try.prog 9=⟨3,b9,[(Rs.tmp (AT 0))]⟩:=by kernel_rfl
abbrev sZ:CC:=(CC.seq (CC.region [(wB 3 (AF 0 (tm 1))),(wB 4 (AK (tm 3))),(wB 5 (AM Dc (tm 4) (oN 1))),(wB 6 (AA (tm 5))),(wG 6 true 7 (AF 0 (tm 1))),(wG 6 true 8 (AK (tm 7))),(wG 6 true 9 (AM Ds (tm 8) (oN 1000000))),(wB 10 (Ag (tm 6) (tm 9) (O.c (V.b Bool.false)))),(wB 11 (AA (tm 10))),(wG 11 true 12 (AF 1 (tm 1))),(wG 11 true 13 (AK (tm 12))),(wG 11 true 14 (AM DR (tm 13) (oN 0))),(wG 11 true 15 (AA (tm 14))),(wG 15 false 16 (AF 1 (tm 1))),(wG 15 false 17 (AK (tm 16))),(wG 15 false 18 (AM DR (tm 17) (oN 1))),(wG 11 true 19 (Ag (tm 15) (O.c (V.b Bool.true)) (tm 18))),(wB 20 (Ag (tm 11) (tm 19) (O.c (V.b Bool.false)))),(wB 21 (AA (tm 20))),(wG 21 true 22 (AF 2 (tm 1))),(wG 21 true 23 (AK (tm 22))),(wG 21 true 24 (CY (tm 23))),(wG 21 true 25 (AM Dc (tm 24) (oN 1))),(wB 26 (Ag (tm 21) (tm 25) (O.c (V.b Bool.false)))),(wB 27 (AA (tm 26))),(wG 27 true 28 (AF 2 (tm 1))),(wG 27 true 29 (AK (tm 28))),(wG 27 true 30 (CY (tm 29))),(wG 27 true 31 (AM Ds (tm 30) (oN 13))),(wB 32 (Ag (tm 27) (tm 31) (O.c (V.b Bool.false)))),(wB 33 (AA (tm 32))),(wG 33 true 34 (AF 3 (tm 1))),(wG 33 true 35 (AK (tm 34))),(wG 33 true 36 (CY (tm 35))),(wG 33 true 37 (AM Dc (tm 36) (oN 1))),(wB 38 (Ag (tm 33) (tm 37) (O.c (V.b Bool.false)))),(wB 39 (AA (tm 38))),(wG 39 true 40 (AF 3 (tm 1))),(wG 39 true 41 (AK (tm 40))),(wG 39 true 42 (CY (tm 41))),(wG 39 true 43 (AM Ds (tm 42) (oN 13))),(wB 44 (Ag (tm 39) (tm 43) (O.c (V.b Bool.false)))),(wB 45 (AA (tm 44))),(wG 45 true 46 (AF 2 (tm 1))),(wG 45 true 47 (AK (tm 46))),(wG 45 true 48 (AF 3 (tm 1))),(wG 45 true 49 (AK (tm 48))),(wG 45 true 50 (BZ (fun a b c d=>EF a b c d||EX a b c d) (tm 47) (tm 49))),(wB 51 (Ag (tm 45) (tm 50) (O.c (V.b Bool.false)))),(wB 52 (AA (tm 51))),(wG 52 true 53 (AF 4 (tm 1))),(wG 52 true 54 (AK (tm 53))),(wG 52 true 55 (AM Dc (tm 54) (oN 1))),(wB 56 (Ag (tm 52) (tm 55) (O.c (V.b Bool.false)))),(wB 2 (AA (tm 56)))]) CC.ret)
abbrev b37:CC:=(CC.seq (CC.region [(wB 1 (Cf 57 (tm 0))),(wB 2 (AA (O.c (V.b Bool.false))))]) sZ)
theorem c37:AY Try.prog 37=⟨57,b37,[(Rs.tmp (AT 2))]⟩:=by kernel_rfl
abbrev kH:CC:=(CC.seq (CC.region [(wB 2 (AA (O.c (V.b Bool.false))))]) CC.ret)
abbrev sE:CC:=(CC.cond (tm 13) kH CC.skip)
abbrev yc:CC:=(CC.seq (CC.region [(wB 4 (AF 0 (tm 1))),(wB 5 (AK (tm 4))),(wB 6 (A9 (tm 5))),(wB 7 (AM Cj (tm 6) (oN 40))),(wB 8 (AA (tm 7))),(wG 8 false 9 (AF 1 (tm 1))),(wG 8 false 10 (AK (tm 9))),(wG 8 false 11 (A9 (tm 10))),(wG 8 false 12 (AM Cj (tm 11) (oN 40))),(wB 13 (Ag (tm 8) (O.c (V.b Bool.true)) (tm 12)))]) sE)
abbrev yz:CC:=(CC.cond (tm 18) CC.skip (CC.exit 0))
abbrev zE:CC:=(CC.seq (CC.region [(wB 14 (AA (tm 3))),(wB 15 (AF 1 (tm 1))),(wB 16 (AK (tm 15))),(wB 17 (A9 (tm 16))),(wB 18 (AM BV (tm 14) (tm 17)))]) yz)
abbrev xP:CC:=(CC.seq (CC.region [(wB 2 (AA (O.c (V.b Bool.false))))]) CC.ret)
abbrev yq:CC:=(CC.cond (tm 47) xP CC.skip)
abbrev yw:CC:=(CC.seq (CC.Az [(uB 21 (AF 1 (tm 1))),(wB 22 (AK (tm 21))),(uB 23 (AA (tm 3))),(uB 24 (AG 5 (tm 22) (tm 23))),(wB 25 (AR 5 (tm 24))),(wB 26 (Ab 37 [(tm 25)])),(uB 27 (Bz (tm 26))),(uB 28 (AA (tm 27))),(uG 28 false 29 (AA (tm 3))),(uG 28 false 30 (AM Cj (tm 29) (oN 0))),(uG 28 false 31 (AA (tm 30))),(uG 31 true 32 (AF 1 (tm 1))),(uG 31 true 33 (AK (tm 32))),(uG 31 true 34 (AA (tm 3))),(uG 31 true 35 (AG 5 (tm 33) (tm 34))),(uG 31 true 36 (AF 0 (tm 35))),(uG 31 true 37 (AK (tm 36))),(uG 31 true 38 (AF 1 (tm 1))),(uG 31 true 39 (AK (tm 38))),(uG 31 true 40 (AA (tm 3))),(uG 31 true 41 (AM Bp (tm 40) (oN 1))),(uG 31 true 42 (AG 5 (tm 39) (tm 41))),(uG 31 true 43 (AF 0 (tm 42))),(uG 31 true 44 (AK (tm 43))),(uG 31 true 45 (AM Ds (tm 37) (tm 44))),(uG 28 false 46 (Ag (tm 31) (tm 45) (O.c (V.b Bool.false)))),(uB 47 (Ag (tm 28) (O.c (V.b Bool.true)) (tm 46)))] none) yq)
abbrev kl:CC:=(CC.block 1 yw)
abbrev qp:CC:=(CC.region [(wB 19 (AA (tm 3))),(wB 20 (AM A4 (tm 19) (oN 1))),(wB 3 (AA (tm 20)))])
abbrev Yu:CC:=(CC.seq kl qp)
abbrev kg:CC:=(CC.seq zE Yu)
abbrev jD:CC:=(CC.loop kg)
abbrev bS:CC:=(CC.block 0 jD)
abbrev aB:CC:=(CC.seq (CC.region [(wB 3 (AA (oN 0)))]) bS)
abbrev jL:CC:=(CC.seq (CC.region [(wB 48 (AF 2 (tm 1))),(wB 49 (AK (tm 48))),(wB 50 (AM Dc (tm 49) (oN 0))),(wB 51 (AA (tm 50))),(wG 51 true 52 (AF 2 (tm 1))),(wG 51 true 53 (AK (tm 52))),(wG 51 true 54 (AM Ds (tm 53) (oN 1000000))),(wB 55 (Ag (tm 51) (tm 54) (O.c (V.b Bool.false)))),(wB 56 (AA (tm 55))),(wG 56 true 57 (AF 3 (tm 1))),(wG 56 true 58 (AK (tm 57))),(wG 56 true 59 (AM Dc (tm 58) (oN 0))),(wB 60 (Ag (tm 56) (tm 59) (O.c (V.b Bool.false)))),(wB 61 (AA (tm 60))),(wG 61 true 62 (AF 3 (tm 1))),(wG 61 true 63 (AK (tm 62))),(wG 61 true 64 (AM Ds (tm 63) (oN 1000000))),(wB 65 (Ag (tm 61) (tm 64) (O.c (V.b Bool.false)))),(wB 2 (AA (tm 65)))]) CC.ret)
abbrev Wl:CC:=(CC.seq aB jL)
abbrev Yz:CC:=(CC.seq yc Wl)
abbrev b11:CC:=(CC.seq (CC.region [(wB 1 (Cf 35 (tm 0))),(wB 2 (AA (O.c (V.b Bool.false))))]) Yz)
theorem c11:AY Try.prog 11=⟨66,b11,[(Rs.tmp (AT 2))]⟩:=by kernel_rfl
abbrev tI:CC:=(CC.seq (CC.region [(wB 10 (AF 1 (tm 2))),(wB 11 (AK (tm 10))),(wB 12 (AF 1 (tm 3))),(wB 13 (AK (tm 12))),(wB 14 (AM BV (tm 11) (tm 13))),(wB 4 (AA (tm 14)))]) CC.ret)
abbrev xZ:CC:=(CC.cond (tm 9) tI CC.skip)
abbrev uC:CC:=(CC.seq (CC.region [(wB 5 (AF 1 (tm 2))),(wB 6 (AK (tm 5))),(wB 7 (AF 1 (tm 3))),(wB 8 (AK (tm 7))),(wB 9 (AM Ip (tm 6) (tm 8)))]) xZ)
abbrev we:CC:=(CC.seq (CC.region [(wB 18 (AF 0 (tm 2))),(wB 19 (AK (tm 18))),(wB 20 (AF 0 (tm 3))),(wB 21 (AK (tm 20))),(wB 22 (AM Cj (tm 19) (tm 21))),(wB 4 (AA (tm 22)))]) CC.ret)
abbrev xm:CC:=(CC.cond (tm 17) we CC.skip)
abbrev qG:CC:=(CC.seq (CC.region [(wB 15 (AF 1 (tm 2))),(wB 16 (AK (tm 15))),(wB 17 (AM DR (tm 16) (oN 0)))]) xm)
abbrev j9:CC:=(CC.seq (CC.region [(wB 23 (AF 2 (tm 2))),(wB 24 (AK (tm 23))),(wB 25 (AF 2 (tm 3))),(wB 26 (AK (tm 25))),(wB 27 (BZ EF (tm 24) (tm 26))),(wB 4 (AA (tm 27)))]) CC.ret)
abbrev yV:CC:=(CC.seq qG j9)
abbrev xJ:CC:=(CC.seq uC yV)
abbrev b54:CC:=(CC.seq (CC.region [(wB 2 (Cf 57 (tm 0))),(wB 3 (Cf 57 (tm 1))),(wB 4 (AA (O.c (V.b Bool.false))))]) xJ)
theorem c54:AY Try.prog 54=⟨28,b54,[(Rs.tmp (AT 4))]⟩:=by kernel_rfl
abbrev kZ:CC:=(CC.cond (tm 11) CC.skip (CC.exit 0))
abbrev lV:CC:=(CC.seq (CC.region [(wB 8 (AA (tm 7))),(wB 9 (AA (tm 0))),(wB 10 (A9 (tm 9))),(wB 11 (AM BV (tm 8) (tm 10)))]) kZ)
abbrev yt:CC:=(CC.seq (CC.region [(wB 24 (AA (tm 5))),(wB 25 (AR 5 (tm 3))),(wB 26 (Aj 57 1 [(V.i IntKind.i64 (Int.ofNat 0)),(V.i IntKind.i64 (Int.ofNat 0)),(V.s 0 0),(V.s 0 0),(V.i IntKind.i64 (Int.ofNat 0))] [(Pt.mk 0 5 (tm 25))])),(wB 27 (BL 57 5 (tm 24) (tm 26))),(wB 5 (AA (tm 27)))]) (CC.region [(wB 6 (AA (O.c (V.b Bool.true))))]))
abbrev yX:CC:=(CC.cond (tm 23) yt CC.skip)
abbrev ll:CC:=(CC.seq (CC.Az [(uB 14 (AA (tm 6))),(uB 15 (Bz (tm 14))),(uB 16 (AA (tm 15))),(uG 16 true 17 (AR 5 (tm 3))),(uG 16 true 18 (AA (tm 0))),(uG 16 true 19 (AA (tm 7))),(uG 16 true 20 (AG 5 (tm 18) (tm 19))),(uG 16 true 21 (AR 5 (tm 20))),(wG 16 true 22 (Ab 54 [(tm 17),(tm 21)])),(uB 23 (Ag (tm 16) (tm 22) (O.c (V.b Bool.false))))] none) yX)
abbrev yM:CC:=(CC.region [(wB 28 (AA (tm 5))),(wB 29 (AA (tm 0))),(wB 30 (AA (tm 7))),(wB 31 (AG 5 (tm 29) (tm 30))),(wB 32 (AR 5 (tm 31))),(wB 33 (Aj 57 1 [(V.i IntKind.i64 (Int.ofNat 0)),(V.i IntKind.i64 (Int.ofNat 0)),(V.s 0 0),(V.s 0 0),(V.i IntKind.i64 (Int.ofNat 0))] [(Pt.mk 0 5 (tm 32))])),(wB 34 (BL 57 5 (tm 28) (tm 33))),(wB 5 (AA (tm 34)))])
abbrev lP:CC:=(CC.seq ll yM)
abbrev kf:CC:=(CC.block 1 lP)
abbrev wC:CC:=(CC.region [(wB 12 (AA (tm 7))),(wB 13 (AM A4 (tm 12) (oN 1))),(wB 7 (AA (tm 13)))])
abbrev vu:CC:=(CC.seq kf wC)
abbrev w5:CC:=(CC.seq lV vu)
abbrev Wp:CC:=(CC.loop w5)
abbrev cW:CC:=(CC.block 0 Wp)
abbrev cu:CC:=(CC.seq (CC.region [(wB 7 (AA (oN 0)))]) cW)
abbrev Ym:CC:=(CC.region [(wB 37 (AA (tm 5))),(wB 38 (AR 5 (tm 3))),(wB 39 (Aj 57 1 [(V.i IntKind.i64 (Int.ofNat 0)),(V.i IntKind.i64 (Int.ofNat 0)),(V.s 0 0),(V.s 0 0),(V.i IntKind.i64 (Int.ofNat 0))] [(Pt.mk 0 5 (tm 38))])),(wB 40 (BL 57 5 (tm 37) (tm 39))),(wB 5 (AA (tm 40)))])
abbrev Ya:CC:=(CC.cond (tm 36) Ym CC.skip)
abbrev jV:CC:=(CC.seq (CC.region [(wB 35 (AA (tm 6))),(wB 36 (Bz (tm 35)))]) Ya)
abbrev eN:CC:=(CC.seq (CC.region [(wB 41 (AA (tm 5))),(wB 4 (AA (tm 41)))]) CC.ret)
abbrev dh:CC:=(CC.seq jV eN)
abbrev gT:CC:=(CC.seq cu dh)
abbrev Xu:CC:=(CC.seq (CC.region [(wB 6 (AA (O.c (V.b Bool.false))))]) gT)
abbrev ee:CC:=(CC.seq (CC.region [(wB 5 (AA (O.c V.l0)))]) Xu)
abbrev b39:CC:=(CC.seq (CC.region [(wB 3 (Cf 57 (tm 1))),(wB 4 (AA (O.c V.l0)))]) ee)
theorem c39:AY Try.prog 39=⟨42,b39,[(Rs.tmp (AT 4))]⟩:=by kernel_rfl
abbrev xl:CC:=(CC.cond (tm 9) CC.skip (CC.exit 0))
abbrev n8:CC:=(CC.seq (CC.region [(wB 6 (AA (tm 5))),(wB 7 (AA (tm 0))),(wB 8 (A9 (tm 7))),(wB 9 (AM BV (tm 6) (tm 8)))]) xl)
abbrev kQ:CC:=(CC.seq (CC.region [(wB 4 (AA (O.c (V.b Bool.true))))]) CC.ret)
abbrev uH:CC:=(CC.cond (tm 17) kQ CC.skip)
abbrev zb:CC:=(CC.seq (CC.region [(wB 12 (AA (tm 0))),(wB 13 (AA (tm 5))),(wB 14 (AG 1 (tm 12) (tm 13))),(wB 15 (AK (tm 14))),(wB 16 (AA (tm 1))),(wB 17 (AM DR (tm 15) (tm 16)))]) uH)
abbrev rp:CC:=(CC.block 1 zb)
abbrev pg:CC:=(CC.region [(wB 10 (AA (tm 5))),(wB 11 (AM A4 (tm 10) (oN 1))),(wB 5 (AA (tm 11)))])
abbrev zV:CC:=(CC.seq rp pg)
abbrev re:CC:=(CC.seq n8 zV)
abbrev wg:CC:=(CC.loop re)
abbrev rJ:CC:=(CC.block 0 wg)
abbrev Wr:CC:=(CC.seq (CC.region [(wB 5 (AA (oN 0)))]) rJ)
abbrev ZA:CC:=(CC.seq (CC.region [(wB 4 (AA (O.c (V.b Bool.false))))]) CC.ret)
abbrev cO:CC:=(CC.seq Wr ZA)
abbrev b38:CC:=(CC.seq (CC.region [(wB 4 (AA (O.c (V.b Bool.false))))]) cO)
theorem c38:AY Try.prog 38=⟨18,b38,[(Rs.tmp (AT 4))]⟩:=by kernel_rfl
abbrev yJ:CC:=(CC.seq (CC.region [(wB 4 (AA (oN 10)))]) CC.ret)
abbrev j0:CC:=(CC.cond (tm 14) yJ CC.skip)
abbrev lv:CC:=(CC.seq (CC.region [(wB 12 (AR 4 (tm 3))),(wB 13 (Ab 11 [(tm 12)])),(wB 14 (Bz (tm 13)))]) j0)
abbrev l9:CC:=(CC.cond (tm 21) CC.skip (CC.exit 0))
abbrev uJ:CC:=(CC.seq (CC.region [(wB 15 (AA (tm 6))),(wB 16 (AA (tm 0))),(wB 17 (AZ (tm 16))),(wB 18 (AF 0 (tm 17))),(wB 19 (AK (tm 18))),(wB 20 (A9 (tm 19))),(wB 21 (AM BV (tm 15) (tm 20)))]) l9)
abbrev ry:CC:=(CC.region [(wB 36 (AA (tm 5))),(wB 37 (AA (tm 0))),(wB 38 (AZ (tm 37))),(wB 39 (AF 0 (tm 38))),(wB 40 (AK (tm 39))),(wB 41 (AA (tm 6))),(wB 42 (AG 5 (tm 40) (tm 41))),(wB 43 (AR 5 (tm 42))),(wB 44 (Aj 57 1 [(V.i IntKind.i64 (Int.ofNat 0)),(V.i IntKind.i64 (Int.ofNat 0)),(V.s 0 0),(V.s 0 0),(V.i IntKind.i64 (Int.ofNat 0))] [(Pt.mk 0 5 (tm 43))])),(wB 45 (BL 57 5 (tm 36) (tm 44))),(wB 5 (AA (tm 45)))])
abbrev qx:CC:=(CC.cond (tm 35) ry CC.skip)
abbrev vt:CC:=(CC.seq (CC.Az [(uB 24 (AF 0 (tm 3))),(uB 25 (AK (tm 24))),(uB 26 (AA (tm 0))),(uB 27 (AZ (tm 26))),(uB 28 (AF 0 (tm 27))),(uB 29 (AK (tm 28))),(uB 30 (AA (tm 6))),(uB 31 (AG 5 (tm 29) (tm 30))),(uB 32 (AF 0 (tm 31))),(uB 33 (AK (tm 32))),(wB 34 (Ab 38 [(tm 25),(tm 33)])),(uB 35 (Bz (tm 34)))] none) qx)
abbrev zq:CC:=(CC.block 1 vt)
abbrev qN:CC:=(CC.region [(wB 22 (AA (tm 6))),(wB 23 (AM A4 (tm 22) (oN 1))),(wB 6 (AA (tm 23)))])
abbrev bj:CC:=(CC.seq zq qN)
abbrev zW:CC:=(CC.seq uJ bj)
abbrev aY:CC:=(CC.loop zW)
abbrev iO:CC:=(CC.block 0 aY)
abbrev XA:CC:=(CC.seq (CC.region [(wB 6 (AA (oN 0)))]) iO)
abbrev WY:CC:=(CC.cond (tm 50) CC.skip (CC.exit 2))
abbrev Yy:CC:=(CC.seq (CC.region [(wB 46 (AA (tm 7))),(wB 47 (AF 0 (tm 3))),(wB 48 (AK (tm 47))),(wB 49 (A9 (tm 48))),(wB 50 (AM BV (tm 46) (tm 49)))]) WY)
abbrev Wi:CC:=(CC.cond (tm 59) CC.skip (CC.exit 4))
abbrev gq:CC:=(CC.seq (CC.region [(wB 53 (AA (tm 9))),(wB 54 (AA (tm 0))),(wB 55 (AZ (tm 54))),(wB 56 (AF 0 (tm 55))),(wB 57 (AK (tm 56))),(wB 58 (A9 (tm 57))),(wB 59 (AM BV (tm 53) (tm 58)))]) Wi)
abbrev Wa:CC:=(CC.Az [(uB 62 (AA (tm 8))),(uB 63 (AA (tm 62))),(uG 63 false 64 (AA (tm 0))),(uG 63 false 65 (AZ (tm 64))),(uG 63 false 66 (AF 0 (tm 65))),(uG 63 false 67 (AK (tm 66))),(uG 63 false 68 (AA (tm 9))),(uG 63 false 69 (AG 5 (tm 67) (tm 68))),(uG 63 false 70 (AF 0 (tm 69))),(uG 63 false 71 (AK (tm 70))),(uG 63 false 72 (AF 0 (tm 3))),(uG 63 false 73 (AK (tm 72))),(uG 63 false 74 (AA (tm 7))),(uG 63 false 75 (AG 1 (tm 73) (tm 74))),(uG 63 false 76 (AK (tm 75))),(uG 63 false 77 (AM DR (tm 71) (tm 76))),(uB 78 (Ag (tm 63) (O.c (V.b Bool.true)) (tm 77))),(uB 8 (AA (tm 78)))] none)
abbrev dj:CC:=(CC.block 5 Wa)
abbrev fm:CC:=(CC.region [(wB 60 (AA (tm 9))),(wB 61 (AM A4 (tm 60) (oN 1))),(wB 9 (AA (tm 61)))])
abbrev Zp:CC:=(CC.seq dj fm)
abbrev te:CC:=(CC.seq gq Zp)
abbrev iV:CC:=(CC.loop te)
abbrev Z7:CC:=(CC.block 4 iV)
abbrev fF:CC:=(CC.seq (CC.region [(wB 9 (AA (oN 0)))]) Z7)
abbrev Z9:CC:=(CC.seq (CC.region [(wB 4 (AA (oN 18)))]) CC.ret)
abbrev Zk:CC:=(CC.cond (tm 80) Z9 CC.skip)
abbrev Ws:CC:=(CC.seq (CC.region [(wB 79 (AA (tm 8))),(wB 80 (Bz (tm 79)))]) Zk)
abbrev cg:CC:=(CC.seq fF Ws)
abbrev Y0:CC:=(CC.seq (CC.region [(wB 8 (AA (O.c (V.b Bool.false))))]) cg)
abbrev YQ:CC:=(CC.block 3 Y0)
abbrev dc:CC:=(CC.region [(wB 51 (AA (tm 7))),(wB 52 (AM A4 (tm 51) (oN 1))),(wB 7 (AA (tm 52)))])
abbrev gN:CC:=(CC.seq YQ dc)
abbrev lF:CC:=(CC.seq Yy gN)
abbrev aJ:CC:=(CC.loop lF)
abbrev fv:CC:=(CC.block 2 aJ)
abbrev Yk:CC:=(CC.seq (CC.region [(wB 7 (AA (oN 0)))]) fv)
abbrev bU:CC:=(CC.seq (CC.region [(wB 4 (AA (oN 16)))]) CC.ret)
abbrev gw:CC:=(CC.cond (tm 124) bU CC.skip)
abbrev gh:CC:=(CC.seq (CC.Az [(uB 81 (AF 1 (tm 3))),(wB 82 (AK (tm 81))),(uB 83 (A9 (tm 82))),(uB 84 (AM Cj (tm 83) (oN 0))),(uB 85 (AA (tm 84))),(uG 85 true 86 (AF 1 (tm 3))),(uG 85 true 87 (AK (tm 86))),(uG 85 true 88 (AG 5 (tm 87) (oN 0))),(uG 85 true 89 (AF 0 (tm 88))),(uG 85 true 90 (AK (tm 89))),(uG 85 true 91 (AA (tm 0))),(uG 85 true 92 (AZ (tm 91))),(uG 85 true 93 (AF 3 (tm 92))),(uG 85 true 94 (AK (tm 93))),(uG 85 true 95 (AM BV (tm 90) (tm 94))),(uB 96 (Ag (tm 85) (tm 95) (O.c (V.b Bool.false)))),(uB 97 (AA (tm 96))),(uG 97 false 98 (AF 2 (tm 3))),(wG 97 false 99 (AK (tm 98))),(uG 97 false 100 (AM Cj (tm 99) (oN 0))),(uG 97 false 101 (AA (tm 100))),(uG 101 true 102 (AF 2 (tm 3))),(uG 101 true 103 (AK (tm 102))),(uG 101 true 104 (AA (tm 0))),(uG 101 true 105 (AZ (tm 104))),(uG 101 true 106 (AF 1 (tm 105))),(uG 101 true 107 (AK (tm 106))),(uG 101 true 108 (AM BV (tm 103) (tm 107))),(uG 97 false 109 (Ag (tm 101) (tm 108) (O.c (V.b Bool.false)))),(uB 110 (Ag (tm 97) (O.c (V.b Bool.true)) (tm 109))),(uB 111 (AA (tm 110))),(uG 111 false 112 (AF 3 (tm 3))),(wG 111 false 113 (AK (tm 112))),(uG 111 false 114 (AM Cj (tm 113) (oN 0))),(uG 111 false 115 (AA (tm 114))),(uG 115 true 116 (AF 3 (tm 3))),(uG 115 true 117 (AK (tm 116))),(uG 115 true 118 (AA (tm 0))),(uG 115 true 119 (AZ (tm 118))),(uG 115 true 120 (AF 2 (tm 119))),(uG 115 true 121 (AK (tm 120))),(uG 115 true 122 (AM BV (tm 117) (tm 121))),(uG 111 false 123 (Ag (tm 115) (tm 122) (O.c (V.b Bool.false)))),(uB 124 (Ag (tm 111) (O.c (V.b Bool.true)) (tm 123)))] none) gw)
abbrev XC:CC:=(CC.cond (tm 129) CC.skip (CC.exit 6))
abbrev ff:CC:=(CC.seq (CC.region [(wB 125 (AA (tm 10))),(wB 126 (AF 1 (tm 3))),(wB 127 (AK (tm 126))),(wB 128 (A9 (tm 127))),(wB 129 (AM BV (tm 125) (tm 128)))]) XC)
abbrev af:CC:=(CC.cond (tm 135) CC.skip (CC.exit 8))
abbrev ae:CC:=(CC.seq (CC.region [(wB 132 (AA (tm 11))),(wB 133 (AA (tm 5))),(wB 134 (A9 (tm 133))),(wB 135 (AM BV (tm 132) (tm 134)))]) af)
abbrev bE:CC:=(CC.seq (CC.region [(wB 4 (AA (oN 16)))]) CC.ret)
abbrev Ze:CC:=(CC.cond (tm 180) bE CC.skip)
abbrev bw:CC:=(CC.seq (CC.Az [(uB 138 (AA (tm 5))),(uB 139 (AA (tm 11))),(uB 140 (AG 5 (tm 138) (tm 139))),(uB 141 (AF 1 (tm 140))),(wB 142 (AK (tm 141))),(uB 143 (AM DR (tm 142) (oN 1))),(uB 144 (AA (tm 143))),(uG 144 true 145 (AF 1 (tm 3))),(wG 144 true 146 (AK (tm 145))),(uG 144 true 147 (AA (tm 10))),(uG 144 true 148 (AG 5 (tm 146) (tm 147))),(uG 144 true 149 (AF 1 (tm 148))),(wG 144 true 150 (AK (tm 149))),(uG 144 true 151 (AM DR (tm 150) (oN 1))),(uB 152 (Ag (tm 144) (tm 151) (O.c (V.b Bool.false)))),(uB 153 (AA (tm 152))),(uG 153 true 154 (AA (tm 5))),(uG 153 true 155 (AA (tm 11))),(uG 153 true 156 (AG 5 (tm 154) (tm 155))),(uG 153 true 157 (AF 2 (tm 156))),(uG 153 true 158 (AK (tm 157))),(uG 153 true 159 (AF 1 (tm 3))),(uG 153 true 160 (AK (tm 159))),(uG 153 true 161 (AA (tm 10))),(uG 153 true 162 (AG 5 (tm 160) (tm 161))),(uG 153 true 163 (AF 3 (tm 162))),(uG 153 true 164 (AK (tm 163))),(uG 153 true 165 (BZ (fun a b c d=>EF a b c d||EX a b c d) (tm 158) (tm 164))),(uB 166 (Ag (tm 153) (tm 165) (O.c (V.b Bool.false)))),(uB 167 (AA (tm 166))),(uG 167 true 168 (AF 1 (tm 3))),(uG 167 true 169 (AK (tm 168))),(uG 167 true 170 (AA (tm 10))),(uG 167 true 171 (AG 5 (tm 169) (tm 170))),(uG 167 true 172 (AF 2 (tm 171))),(uG 167 true 173 (AK (tm 172))),(uG 167 true 174 (AA (tm 5))),(uG 167 true 175 (AA (tm 11))),(uG 167 true 176 (AG 5 (tm 174) (tm 175))),(uG 167 true 177 (AF 3 (tm 176))),(uG 167 true 178 (AK (tm 177))),(uG 167 true 179 (BZ (fun a b c d=>EF a b c d||EX a b c d) (tm 173) (tm 178))),(uB 180 (Ag (tm 167) (tm 179) (O.c (V.b Bool.false))))] none) Ze)
abbrev jO:CC:=(CC.block 9 bw)
abbrev dQ:CC:=(CC.region [(wB 136 (AA (tm 11))),(wB 137 (AM A4 (tm 136) (oN 1))),(wB 11 (AA (tm 137)))])
abbrev iI:CC:=(CC.seq jO dQ)
abbrev mT:CC:=(CC.seq ae iI)
abbrev gG:CC:=(CC.loop mT)
abbrev YI:CC:=(CC.block 8 gG)
abbrev ay:CC:=(CC.seq (CC.region [(wB 11 (AA (oN 0)))]) YI)
abbrev W8:CC:=(CC.region [(wB 181 (AA (tm 5))),(wB 182 (AF 1 (tm 3))),(wB 183 (AK (tm 182))),(wB 184 (AA (tm 10))),(wB 185 (AG 5 (tm 183) (tm 184))),(wB 186 (AR 5 (tm 185))),(wB 187 (Ab 39 [(tm 181),(tm 186)])),(wB 5 (AA (tm 187)))])
abbrev XR:CC:=(CC.seq ay W8)
abbrev iw:CC:=(CC.block 7 XR)
abbrev gH:CC:=(CC.region [(wB 130 (AA (tm 10))),(wB 131 (AM A4 (tm 130) (oN 1))),(wB 10 (AA (tm 131)))])
abbrev cZ:CC:=(CC.seq iw gH)
abbrev se:CC:=(CC.seq ff cZ)
abbrev Wb:CC:=(CC.loop se)
abbrev gn:CC:=(CC.block 6 Wb)
abbrev eF:CC:=(CC.seq (CC.region [(wB 10 (AA (oN 0)))]) gn)
abbrev cn:CC:=(CC.seq (CC.region [(wB 4 (AA (oN 25)))]) CC.ret)
abbrev X8:CC:=(CC.cond (tm 190) cn CC.skip)
abbrev ZB:CC:=(CC.seq (CC.region [(wB 188 (AA (tm 5))),(wB 189 (A9 (tm 188))),(wB 190 (AM Cj (tm 189) (oN 40)))]) X8)
abbrev gd:CC:=(CC.region [(wB 219 (AA (tm 0))),(wB 220 (AF 1 (tm 3))),(wB 221 (AK (tm 220))),(wB 222 (AF 1 (tm 3))),(wB 223 (AK (tm 222))),(wB 224 (A9 (tm 223))),(wB 225 (AM Bp (tm 224) (oN 1))),(wB 226 (AG 5 (tm 221) (tm 225))),(wB 227 (AF 0 (tm 226))),(wB 228 (AK (tm 227))),(wB 229 (AM A4 (tm 228) (oN 1))),(wB 230 (AZ (tm 219))),(wB 231 (AF 3 (tm 230))),(CO.mk G.none D.none Bool.true (CR.mk (Af 1 (tm 231) (tm 229))))])
abbrev gz:CC:=(CC.cond (tm 218) gd CC.skip)
abbrev jA:CC:=(CC.seq (CC.region [(wB 215 (AF 1 (tm 3))),(wB 216 (AK (tm 215))),(wB 217 (A9 (tm 216))),(wB 218 (AM Cj (tm 217) (oN 0)))]) gz)
abbrev Z5:CC:=(CC.seq (CC.region [(wB 4 (AA (oN 0)))]) CC.ret)
abbrev cX:CC:=(CC.seq jA Z5)
abbrev Z0:CC:=(CC.seq (CC.Az [(uB 195 (AA (tm 0))),(uB 196 (AA (tm 0))),(uB 197 (AA (tm 0))),(uB 198 (AZ (tm 197))),(uB 199 (AF 1 (tm 198))),(uB 200 (AK (tm 199))),(uB 201 (AF 2 (tm 3))),(uB 202 (AK (tm 201))),(uB 203 (ES (tm 200) (tm 202))),(uB 204 (AA (tm 0))),(uB 205 (AZ (tm 204))),(uB 206 (AF 2 (tm 205))),(uB 207 (AK (tm 206))),(uB 208 (AF 3 (tm 3))),(uB 209 (AK (tm 208))),(uB 210 (ES (tm 207) (tm 209))),(uB 211 (AZ (tm 195))),(uB 212 (AF 1 (tm 211))),(CO.mk G.none D.none Bool.false (CR.mk (Af 1 (tm 212) (tm 203)))),(wB 213 (AZ (tm 196))),(uB 214 (AF 2 (tm 213))),(CO.mk G.none D.none Bool.true (CR.mk (Af 1 (tm 214) (tm 210))))] (some ([18,21],[(3,[0]),(5,[0]),(7,[0]),(10,[0]),(12,[0]),(14,[0,19]),(16,[0]),(19,[19])]))) cX)
abbrev iT:CC:=(CC.seq (CC.region [(wB 191 (AA (tm 0))),(wB 192 (AA (tm 5))),(wB 193 (AZ (tm 191))),(wB 194 (AF 0 (tm 193))),(CO.mk G.none D.none Bool.true (CR.mk (Af 1 (tm 194) (tm 192))))]) Z0)
abbrev We:CC:=(CC.seq ZB iT)
abbrev bz:CC:=(CC.seq eF We)
abbrev R7:CC:=(CC.seq gh bz)
abbrev Zr:CC:=(CC.seq Yk R7)
abbrev aq:CC:=(CC.seq XA Zr)
abbrev ZG:CC:=(CC.seq (CC.region [(wB 5 (AA (O.c V.l0)))]) aq)
abbrev Wo:CC:=(CC.seq lv ZG)
abbrev b12:CC:=(CC.seq (CC.region [(wB 3 (Cf 35 (tm 1))),(wB 4 (AA (oN 0)))]) Wo)
theorem c12:AY Try.prog 12=⟨232,b12,[(Rs.tmp (AT 4))]⟩:=by kernel_rfl
abbrev nN:CC:=(CC.cond (tm 13) CC.skip (CC.exit 0))
abbrev wY:CC:=(CC.seq (CC.region [(wB 7 (AA (tm 6))),(wB 8 (AA (tm 0))),(wB 9 (AZ (tm 8))),(wB 10 (AF 0 (tm 9))),(wB 11 (AK (tm 10))),(wB 12 (A9 (tm 11))),(wB 13 (AM BV (tm 7) (tm 12)))]) nN)
abbrev wj:CC:=(CC.region [(wB 26 (AA (tm 5))),(wB 27 (AA (tm 0))),(wB 28 (AZ (tm 27))),(wB 29 (AF 0 (tm 28))),(wB 30 (AK (tm 29))),(wB 31 (AA (tm 6))),(wB 32 (AG 5 (tm 30) (tm 31))),(wB 33 (AR 5 (tm 32))),(wB 34 (Aj 57 1 [(V.i IntKind.i64 (Int.ofNat 0)),(V.i IntKind.i64 (Int.ofNat 0)),(V.s 0 0),(V.s 0 0),(V.i IntKind.i64 (Int.ofNat 0))] [(Pt.mk 0 5 (tm 33))])),(wB 35 (BL 57 5 (tm 26) (tm 34))),(wB 5 (AA (tm 35)))])
abbrev ve:CC:=(CC.cond (tm 25) wj CC.skip)
abbrev tl:CC:=(CC.seq (CC.region [(wB 16 (AA (tm 0))),(wB 17 (AZ (tm 16))),(wB 18 (AF 0 (tm 17))),(wB 19 (AK (tm 18))),(wB 20 (AA (tm 6))),(wB 21 (AG 5 (tm 19) (tm 20))),(wB 22 (AF 1 (tm 21))),(wB 23 (AK (tm 22))),(wB 24 (AA (tm 1))),(wB 25 (AM DR (tm 23) (tm 24)))]) ve)
abbrev vw:CC:=(CC.block 1 tl)
abbrev yx:CC:=(CC.region [(wB 14 (AA (tm 6))),(wB 15 (AM A4 (tm 14) (oN 1))),(wB 6 (AA (tm 15)))])
abbrev zX:CC:=(CC.seq vw yx)
abbrev mf:CC:=(CC.seq wY zX)
abbrev jq:CC:=(CC.loop mf)
abbrev kC:CC:=(CC.block 0 jq)
abbrev di:CC:=(CC.seq (CC.region [(wB 6 (AA (oN 0)))]) kC)
abbrev ai:CC:=(CC.seq (CC.region [(wB 36 (AA (tm 5))),(wB 4 (AA (tm 36)))]) CC.ret)
abbrev fh:CC:=(CC.seq di ai)
abbrev YE:CC:=(CC.seq (CC.region [(wB 5 (AA (O.c V.l0)))]) fh)
abbrev b41:CC:=(CC.seq (CC.region [(wB 4 (AA (O.c V.l0)))]) YE)
theorem c41:AY Try.prog 41=⟨37,b41,[(Rs.tmp (AT 4))]⟩:=by kernel_rfl
abbrev rH:CC:=(CC.seq (CC.region [(wB 4 (AA (O.c (V.b Bool.false))))]) CC.ret)
abbrev tR:CC:=(CC.cond (tm 10) rH CC.skip)
abbrev pU:CC:=(CC.seq (CC.region [(wB 6 (AA (tm 0))),(wB 7 (A9 (tm 6))),(wB 8 (AA (tm 1))),(wB 9 (A9 (tm 8))),(wB 10 (AM Ip (tm 7) (tm 9)))]) tR)
abbrev tV:CC:=(CC.cond (tm 14) CC.skip (CC.exit 0))
abbrev vO:CC:=(CC.seq (CC.region [(wB 11 (AA (tm 5))),(wB 12 (AA (tm 0))),(wB 13 (A9 (tm 12))),(wB 14 (AM BV (tm 11) (tm 13)))]) tV)
abbrev xy:CC:=(CC.seq (CC.region [(wB 4 (AA (O.c (V.b Bool.false))))]) CC.ret)
abbrev nS:CC:=(CC.cond (tm 25) xy CC.skip)
abbrev y5:CC:=(CC.seq (CC.Az [(uB 17 (AA (tm 0))),(uB 18 (AA (tm 5))),(uB 19 (AG 5 (tm 17) (tm 18))),(uB 20 (AR 5 (tm 19))),(uB 21 (AA (tm 1))),(uB 22 (AA (tm 5))),(uB 23 (AG 5 (tm 21) (tm 22))),(uB 24 (AR 5 (tm 23))),(uB 25 (Iy [KD.i,KD.i,KD.s,KD.s,KD.i] Bool.true (tm 20) (tm 24)))] none) nS)
abbrev qH:CC:=(CC.block 1 y5)
abbrev tg:CC:=(CC.region [(wB 15 (AA (tm 5))),(wB 16 (AM A4 (tm 15) (oN 1))),(wB 5 (AA (tm 16)))])
abbrev cz:CC:=(CC.seq qH tg)
abbrev vd:CC:=(CC.seq vO cz)
abbrev ZM:CC:=(CC.loop vd)
abbrev Yp:CC:=(CC.block 0 ZM)
abbrev fy:CC:=(CC.seq (CC.region [(wB 5 (AA (oN 0)))]) Yp)
abbrev iX:CC:=(CC.seq (CC.region [(wB 4 (AA (O.c (V.b Bool.true))))]) CC.ret)
abbrev Yg:CC:=(CC.seq fy iX)
abbrev bN:CC:=(CC.seq pU Yg)
abbrev b21:CC:=(CC.seq (CC.region [(wB 4 (AA (O.c (V.b Bool.false))))]) bN)
theorem c21:AY Try.prog 21=⟨26,b21,[(Rs.tmp (AT 4))]⟩:=by kernel_rfl
end Go.Proofs.Ytobfgempjekjpaa
set_option maxRecDepth 100000
set_option maxHeartbeats 8000000
namespace Go.Proofs.Ytobfgempjekjpaa
open Go Go.Ev
theorem MH {h:H} {x y:V} {M:List BU} (a:Dr h x M) (b:Dr h y M) (hl:M.length<=1000):BF Try.prog 21 [x,y] h fun y h'=>y=.b true/\h'=h:=by
 refine BB c21 (by intro hb;cases hb) (by simp) (by simp) fun Q hQ=>?_
 simp only[Ap,Nat.reduceAdd]
 repeat' (first
  |refine St.h ?_
  |simp(disch:=first|omega|(simp only[AI];omega))only[AJ,↓AB,↓reduceIte,seval,a.ln,b.ln]
  |(with_reducible (first|apply AE|apply AD))<;>(intro hc;(try simp only[AX]at hc);(try simp only[hc]);(try simp only[AV]at hc);try omega))
 refine Ok.lp (fun m t g=>∃ i:Nat,m=M.length-i/\i<=M.length/\h=g/\get 0 t=x/\get 1 t=y/\get 5 t=.i .i64 (i:Int)) M.length ?_ ?_
 ·simp(disch:=first|omega|(simp only[AI];omega))only[AJ,↓AB,↓reduceIte,seval]
  refine⟨0,by omega,by omega,?_⟩
  refine⟨?_,?_,?_,?_⟩
  all_goals first|trivial|rfl
 rintro I hI m t g ⟨i,rfl,hi,rfl,f0,f1,f5⟩
 by_cases hil:i<M.length
 case neg=>
  obtain rfl:i=M.length:=by omega
  have d1:((M.length:Int)<(M.length:Int))=False:=eq_false (by omega)
  repeat' (first
   |refine St.h ?_
   |simp(disch:=first|omega|(simp only[AI];omega))only[AJ,↓AB,↓reduceIte,seval,f0,f1,f5,d1,a.ln]
   |(with_reducible (first|apply AE|apply AD))<;>(intro hc;(try simp only[AX]at hc);(try simp only[hc]);(try simp only[AV]at hc);try omega))
  subst hQ
  exact⟨rfl,rfl⟩
 have d1:((i:Int)<(M.length:Int))=True:=eq_true (by omega)
 repeat' (first
  |refine St.h ?_
  |simp(disch:=first|omega|(simp only[AI];omega))only[AJ,↓AB,↓reduceIte,seval,f0,f1,f5,d1,a.ln,b.ln,a.ix,a.la,b.ix,b.la,Int.toNat_natCast,mu,and_self,decide_true,Bool.xor_true,Bool.not_true]
  |(with_reducible (first|apply AE|apply AD))<;>(intro hc;(try simp only[AX]at hc);(try simp only[hc]);(try simp only[AV]at hc);try omega))
 exact Ah hI (M.length-(i+1)) (by omega) ⟨i+1,rfl,by omega,rfl,by simp(disch:=first|omega|(simp only[AI];omega))only[AJ,↓AB,↓reduceIte,seval,f0],by simp(disch:=first|omega|(simp only[AI];omega))only[AJ,↓AB,↓reduceIte,seval,f1],by simp(disch:=first|omega|(simp only[AI];omega))only[AJ,↓AB,↓reduceIte,seval,f5];rfl⟩
end Go.Proofs.Ytobfgempjekjpaa
set_option maxRecDepth 100000
set_option maxHeartbeats 8000000
namespace Go.Proofs.Ytobfgempjekjpaa
open Go Go.Ev
theorem Ke.own {h:H} {v:V} {K:List Ek} {i:Nat} (a:Ke h v K) (hi:i<K.length):∀ q,Al (K.getD i default).cv q->B.val q<B.val h.next:=by
 have:=(a.at hi).2
 rcases this with⟨e,_⟩|⟨id,g,off,fin,cap,e,_,hl,_⟩
 ·rintro q ⟨_,_,_,_,_,e2⟩;rw[e]at e2;cases e2
 ·rintro q ⟨_,_,_,_,_,e2⟩;rw[e]at e2;cases e2;exact hl
theorem Yn {k:Ek} (f:X7 k):∀ t∈k.e.Aa,t.fst.length<=1000000/\t.CT.length<=1000000:=fun t ht=>by
 obtain⟨j,hj,rfl⟩:=Fz ht
 have:=f.2.2 j hj;omega
end Go.Proofs.Ytobfgempjekjpaa
namespace Go.Proofs.Ytobfgempjekjpaa
open Go Go.Ev Go.RowKit Go.WideShapes Go.ChangeShapes Go.ChangeAt Go.Deep
/--an edit's type -/
structure EdF (P:Program) (t:TypeId) (fs:Array Field):Prop where
 ut:P.underlying t=some (.struct fs)
 sz:P.cellsOf t=4
 f0:∃ f,fs.toList[0]? =some f/\f.offset=0/\P.cellsOf f.type=1/\∃ e,P.underlying f.type=some (.slice e)/\P.cellsOf e=1/\P.underlying e=some (.int .i64)
 f1:∃ f,fs.toList[1]? =some f/\f.offset=1/\P.cellsOf f.type=1/\∃ e gs,P.underlying f.type=some (.slice e)/\RL P e gs [.i .i64,.i .i64,.s,.s,.i .i64]
 f2:∃ f,fs.toList[2]? =some f/\f.offset=2/\P.cellsOf f.type=1/\P.underlying f.type=some (.int .i64)
 f3:∃ f,fs.toList[3]? =some f/\f.offset=3/\P.cellsOf f.type=1/\P.underlying f.type=some (.int .i64)
section
variable {H':Type} {enc:TypeId×Value->H'} {P:Program} {W:World}
theorem S4 {t:TypeId} {fs:Array Field} {fuel:Nat} {cs:List Value} {x:DataW H'×List MemPlace} (ut:P.underlying t=some (.struct fs)) (hd:DataW.trod enc P W 0 (fun _=>true) true fuel t cs=some x):
 cs.length=P.cellsOf t/\∀ (i:Nat) f,fs.toList[i]? =some f->∃ n y,DataW.trod enc P W 0 (fun _=>true) true n f.type ((cs.drop f.offset).take (P.cellsOf f.type))=some y:=by
 cases fuel with
 |zero=>simp[DataW.trod]at hd
 |succ n=>
  unfold DataW.trod at hd
  rw[ut]at hd
  simp only at hd
  split at hd
  ·rename_i hl
   refine⟨hl,fun i f hf=>?_⟩
   rw[Option.map_eq_some_iff]at hd
   obtain⟨xs,hx,_⟩:=hd
   have:=mapM_some_get hx i f hf
   have hlen:=mapM_some_length hx
   have hi:i<xs.length:=by rw[hlen];exact(List.getElem?_eq_some_iff.1 hf).1
   exact⟨n,xs[i],by rw[this];simp⟩
  ·cases hd
/--a row of tables -/
theorem nV {h:H} (s:Go.Ev.Start W h) (h0:0<W.heap.size) {t e:TypeId} {fs:Array Field} {fuel:Nat} {cs:List Value} {x:DataW H'×List MemPlace} (ht:P.underlying t=some (.slice e)) (F:RL P e fs [.i .i64,.i .i64,.s,.s,.i .i64])
 (hd:DataW.trod enc P W 0 (fun _=>true) true fuel t cs=some x):∃ sv L,cs=[sv]/\Dr h (Cs W sv) L/\L.length<=9223372036854775807/\∀ a∈L,True:=
 O1 (c:=Lm) (Pr:=fun _=>True) Ba (by omega) s h0 ht F.sz (fun fuel cs x h=>by
  obtain⟨_,_,rfl,⟨a,rfl,_⟩,_,_,rfl,⟨b,rfl,_⟩,_,_,rfl,⟨c,rfl,_⟩,_,_,rfl,⟨d,rfl,_⟩,_,_,rfl,⟨e,rfl,_⟩,rfl⟩:=Ph F h
  refine⟨⟨a,b,c.data.toList,d.data.toList,e⟩,?_,trivial⟩
  simp only[List.map_cons,List.map_nil,Mc,H7]
  rfl) hd
/--a row of edits -/
theorem iS {h:H} (s:Go.Ev.Start W h) (h0:0<W.heap.size) {t e:TypeId} {fs:Array Field} {fuel:Nat} {cs:List Value} {x:DataW H'×List MemPlace} (ht:P.underlying t=some (.slice e)) (F:EdF P e fs)
 (hd:DataW.trod enc P W 0 (fun _=>true) true fuel t cs=some x):∃ sv K,cs=[sv]/\Ke h (Cs W sv) K/\K.length<=9223372036854775807/\∀ a∈K,True:=by
 obtain⟨sv,K,e1,e2,e3,e4⟩:=O1 (α:=Ek) (c:=ekC) (n:=4) (Pr:=fun k=>Qe h k.gv k.cv k.e) JQ (by omega) s h0 ht F.sz (fun fuel cs x hx=>by
  obtain⟨hl,hf⟩:=S4 F.ut hx
  rw[F.sz]at hl
  obtain⟨c0,c1,c2,c3,rfl⟩:∃ c0 c1 c2 c3,cs=[c0,c1,c2,c3]:=by
   match cs,hl with
   |[a,b,c,d],_=>exact⟨a,b,c,d,rfl⟩
  obtain⟨f0,g0,o0,z0,t0,u0,v0,w0⟩:=F.f0
  obtain⟨f1,g1,o1,z1,t1,gs,u1,F1⟩:=F.f1
  obtain⟨f2,g2,o2,z2,u2⟩:=F.f2
  obtain⟨f3,g3,o3,z3,u3⟩:=F.f3
  obtain⟨n0,y0,k0⟩:=hf 0 f0 g0
  obtain⟨n1,y1,k1⟩:=hf 1 f1 g1
  obtain⟨n2,y2,k2⟩:=hf 2 f2 g2
  obtain⟨n3,y3,k3⟩:=hf 3 f3 g3
  rw[o0,z0]at k0
  rw[o1,z1]at k1
  rw[o2,z2]at k2
  rw[o3,z3]at k3
  obtain⟨x0,xs,e0,m0,_⟩:=mz s h0 u0 v0 w0 k0
  obtain⟨x1,L,e1,m1,_⟩:=nV s h0 u1 F1 k1
  obtain⟨a,e2,_⟩:=DataW.trod_int u2 k2
  obtain⟨b,e3,_⟩:=DataW.trod_int u3 k3
  obtain rfl:=(List.cons.inj (show[c0]=[x0]from e0)).1
  obtain rfl:=(List.cons.inj (show[c1]=[x1]from e1)).1
  obtain rfl:=(List.cons.inj (show[c2]=[_]from e2)).1
  obtain rfl:=(List.cons.inj (show[c3]=[_]from e3)).1
  refine⟨⟨Cs W c0,Cs W c1,⟨xs,L,a,b⟩⟩,?_,m0,m1⟩
  simp only[List.map_cons,List.map_nil,Mc]
  rfl) hd
 exact⟨sv,K,e1,⟨e2,e4⟩,e3,fun _ _=>trivial⟩
end
end Go.Proofs.Ytobfgempjekjpaa
set_option maxRecDepth 1000000
namespace Go.Proofs.Ytobfgempjekjpaa
open Go Go.Ev
abbrev sV:CC:=(CC.seq (CC.region [(wB 2 (AA (O.c V.l0))),(wB 3 (AA (O.c (V.b Bool.false))))]) CC.ret)
abbrev oq:CC:=(CC.cond (tm 11) sV CC.skip)
abbrev yK:CC:=(CC.seq (CC.region [(wB 9 (AA (tm 4))),(wB 10 (A9 (tm 9))),(wB 11 (AM BV (tm 10) (oN 2)))]) oq)
abbrev sK:CC:=(CC.seq (CC.region [(wB 17 (AA (tm 4))),(wB 18 (AA (tm 0))),(wB 19 (Ab 25 [(tm 18),(oN 1)])),(wB 20 (AA (tm 5))),(wB 21 (AA (tm 6))),(wB 22 (Ab 47 [(tm 19),(tm 20),(tm 21)])),(wB 23 (BL 57 5 (tm 17) (tm 22))),(wB 2 (AA (tm 23))),(wB 3 (AA (O.c (V.b Bool.true))))]) CC.ret)
abbrev rI:CC:=(CC.seq (CC.region [(wB 13 (AA (tm 4))),(wB 14 (Ab 46 [(tm 13)])),(wB 12 (AA (tm 14))),(wB 15 (A2 0 (tm 12))),(wB 16 (A2 1 (tm 12))),(wB 5 (AA (tm 15))),(wB 6 (AA (tm 16)))]) sK)
abbrev nk:CC:=(CC.seq yK rI)
abbrev sD:CC:=(CC.seq (CC.region [(wB 7 (AA (tm 0))),(wB 8 (Ab 25 [(tm 7),(oN 0)])),(wB 4 (AA (tm 8)))]) nk)
abbrev b19:CC:=(CC.seq (CC.region [(wB 2 (AA (O.c V.l0))),(wB 3 (AA (O.c (V.b Bool.false))))]) sD)
theorem c19:AY Try.prog 19=⟨24,b19,[(Rs.tmp (AT 2)),(Rs.tmp (AT 3))]⟩:=by kernel_rfl
abbrev yY:CC:=(CC.seq (CC.region [(wB 5 (AA (tm 0))),(wB 6 (Ab 26 [(tm 5)])),(wB 7 (AA (tm 1))),(wB 8 (AA (tm 1))),(wB 9 (Ab 47 [(tm 6),(tm 7),(tm 8)])),(wB 4 (AA (tm 9)))]) CC.ret)
abbrev b22:CC:=(CC.seq (CC.region [(wB 4 (AA (O.c V.l0)))]) yY)
theorem c22:AY Try.prog 22=⟨10,b22,[(Rs.tmp (AT 4))]⟩:=by kernel_rfl
abbrev qK:CC:=(CC.cond (tm 14) CC.skip (CC.exit 0))
abbrev tA:CC:=(CC.cond (tm 22) (CC.exit 1) CC.skip)
abbrev qY:CC:=(CC.seq (CC.region [(wB 23 (AA (tm 2))),(wB 24 (BZ (fun a b c d=>!EX a b c d) (tm 23) (O.c (V.s 0 0)))),(wB 25 (AA (tm 24))),(wG 25 true 26 (AF 2 (tm 9))),(wG 25 true 27 (AK (tm 26))),(wG 25 true 28 (AA (tm 2))),(wG 25 true 29 (BZ (fun a b c d=>!EF a b c d) (tm 27) (tm 28))),(wB 30 (Ag (tm 25) (tm 29) (O.c (V.b Bool.false)))),(wB 22 (AA (tm 30)))]) tA)
abbrev uX:CC:=(CC.cond (tm 17) (CC.exit 1) qY)
abbrev nA:CC:=(CC.seq (CC.region [(wB 18 (AF 3 (tm 9))),(wB 19 (AK (tm 18))),(wB 20 (AA (tm 1))),(wB 21 (BZ EF (tm 19) (tm 20))),(wB 17 (AA (tm 21)))]) uX)
abbrev mj:CC:=(CC.block 2 nA)
abbrev zD:CC:=(CC.region [(wB 31 (AA (tm 7))),(wB 32 (AR 5 (tm 9))),(wB 33 (Aj 57 1 [(V.i IntKind.i64 (Int.ofNat 0)),(V.i IntKind.i64 (Int.ofNat 0)),(V.s 0 0),(V.s 0 0),(V.i IntKind.i64 (Int.ofNat 0))] [(Pt.mk 0 5 (tm 32))])),(wB 34 (BL 57 5 (tm 31) (tm 33))),(wB 7 (AA (tm 34)))])
abbrev tF:CC:=(CC.seq mj zD)
abbrev pz:CC:=(CC.seq (CC.region [(wB 15 (AG 5 (tm 11) (tm 13))),(wB 16 (AR 5 (tm 15))),(wB 9 (Bw 57 [(V.i IntKind.i64 (Int.ofNat 0)),(V.i IntKind.i64 (Int.ofNat 0)),(V.s 0 0),(V.s 0 0),(V.i IntKind.i64 (Int.ofNat 0))])),(CO.mk G.none D.none Bool.true (CR.mk (Af 5 (tm 9) (tm 16))))]) tF)
abbrev qu:CC:=(CC.block 1 pz)
abbrev dE:CC:=(CC.region [(wB 35 (AM A4 (tm 13) (oN 1))),(wB 13 (AA (tm 35)))])
abbrev cR:CC:=(CC.seq qu dE)
abbrev iB:CC:=(CC.seq qK cR)
abbrev vV:CC:=(CC.seq (CC.region [(wB 14 (AM BV (tm 13) (tm 12)))]) iB)
abbrev Zo:CC:=(CC.loop vV)
abbrev YR:CC:=(CC.block 0 Zo)
abbrev fk:CC:=(CC.seq (CC.region [(wB 10 (AA (tm 0))),(wB 11 (Ab 26 [(tm 10)])),(wB 12 (A9 (tm 11))),(wB 13 (AA (oN 0)))]) YR)
abbrev bH:CC:=(CC.seq (CC.region [(wB 36 (AA (tm 7))),(wB 6 (AA (tm 36)))]) CC.ret)
abbrev XJ:CC:=(CC.seq fk bH)
abbrev Xp:CC:=(CC.seq CC.skip XJ)
abbrev aW:CC:=(CC.seq (CC.region [(wB 7 (AA (O.c V.l0)))]) Xp)
abbrev b24:CC:=(CC.seq (CC.region [(wB 6 (AA (O.c V.l0)))]) aW)
theorem c24:AY Try.prog 24=⟨37,b24,[(Rs.tmp (AT 6))]⟩:=by kernel_rfl
abbrev nq:CC:=(CC.cond (tm 20) CC.skip (CC.exit 0))
abbrev tw:CC:=(CC.Az [(uB 23 (AA (tm 4))),(uB 24 (AF 2 (tm 7))),(uB 25 (AK (tm 24))),(uB 26 (GF (fun a b c d=>EF a b c d||EX a b c d) (tm 23) (tm 25))),(uB 27 (AA (tm 5))),(uB 28 (AF 3 (tm 7))),(uB 29 (AK (tm 28))),(uB 30 (GF (fun a b c d=>!EF a b c d) (tm 27) (tm 29))),(uB 4 (AA (tm 26))),(uB 5 (AA (tm 30)))] none)
abbrev rk:CC:=(CC.seq (CC.region [(wB 21 (AG 5 (tm 17) (tm 19))),(wB 22 (AR 5 (tm 21))),(wB 7 (Bw 57 [(V.i IntKind.i64 (Int.ofNat 0)),(V.i IntKind.i64 (Int.ofNat 0)),(V.s 0 0),(V.s 0 0),(V.i IntKind.i64 (Int.ofNat 0))])),(CO.mk G.none D.none Bool.true (CR.mk (Af 5 (tm 7) (tm 22))))]) tw)
abbrev nY:CC:=(CC.block 1 rk)
abbrev tn:CC:=(CC.region [(wB 31 (AM A4 (tm 19) (oN 1))),(wB 19 (AA (tm 31)))])
abbrev pt:CC:=(CC.seq nY tn)
abbrev vZ:CC:=(CC.seq nq pt)
abbrev yZ:CC:=(CC.seq (CC.region [(wB 20 (AM BV (tm 19) (tm 18)))]) vZ)
abbrev qv:CC:=(CC.loop yZ)
abbrev rn:CC:=(CC.block 0 qv)
abbrev oT:CC:=(CC.seq (CC.region [(wB 16 (AA (tm 0))),(wB 17 (B2 5 (tm 16) (some (oN 1)) none)),(wB 18 (A9 (tm 17))),(wB 19 (AA (oN 0)))]) rn)
abbrev aw:CC:=(CC.seq (CC.region [(wB 32 (AA (tm 4))),(wB 33 (AA (tm 5))),(wB 2 (AA (tm 32))),(wB 3 (AA (tm 33)))]) CC.ret)
abbrev jI:CC:=(CC.seq oT aw)
abbrev YW:CC:=(CC.seq (CC.Az [(uB 8 (AA (tm 0))),(uB 9 (AG 5 (tm 8) (oN 0))),(uB 10 (AF 2 (tm 9))),(uB 11 (AK (tm 10))),(uB 12 (AA (tm 0))),(uB 13 (AG 5 (tm 12) (oN 0))),(uB 14 (AF 3 (tm 13))),(uB 15 (AK (tm 14))),(uB 4 (AA (tm 11))),(uB 5 (AA (tm 15)))] none) jI)
abbrev b46:CC:=(CC.seq (CC.region [(wB 2 (AA (O.c (V.s 0 0)))),(wB 3 (AA (O.c (V.s 0 0))))]) YW)
theorem c46:AY Try.prog 46=⟨34,b46,[(Rs.tmp (AT 2)),(Rs.tmp (AT 3))]⟩:=by kernel_rfl
abbrev mJ:CC:=(CC.cond (tm 13) CC.skip (CC.exit 0))
abbrev kT:CC:=(CC.cond (tm 21) (CC.exit 1) CC.skip)
abbrev rQ:CC:=(CC.seq (CC.region [(wB 22 (AF 2 (tm 9))),(wB 23 (AK (tm 22))),(wB 24 (AA (tm 2))),(wB 25 (BZ (fun a b c d=>! (EF a b c d||EX a b c d)) (tm 23) (tm 24))),(wB 21 (AA (tm 25)))]) kT)
abbrev qS:CC:=(CC.cond (tm 16) (CC.exit 1) rQ)
abbrev uu:CC:=(CC.seq (CC.region [(wB 17 (AF 3 (tm 9))),(wB 18 (AK (tm 17))),(wB 19 (AA (tm 1))),(wB 20 (BZ EF (tm 18) (tm 19))),(wB 16 (AA (tm 20)))]) qS)
abbrev lQ:CC:=(CC.block 2 uu)
abbrev yo:CC:=(CC.region [(wB 26 (AA (tm 7))),(wB 27 (AR 5 (tm 9))),(wB 28 (Aj 57 1 [(V.i IntKind.i64 (Int.ofNat 0)),(V.i IntKind.i64 (Int.ofNat 0)),(V.s 0 0),(V.s 0 0),(V.i IntKind.i64 (Int.ofNat 0))] [(Pt.mk 0 5 (tm 27))])),(wB 29 (BL 57 5 (tm 26) (tm 28))),(wB 7 (AA (tm 29)))])
abbrev nh:CC:=(CC.seq lQ yo)
abbrev nT:CC:=(CC.seq (CC.region [(wB 14 (AG 5 (tm 10) (tm 12))),(wB 15 (AR 5 (tm 14))),(wB 9 (Bw 57 [(V.i IntKind.i64 (Int.ofNat 0)),(V.i IntKind.i64 (Int.ofNat 0)),(V.s 0 0),(V.s 0 0),(V.i IntKind.i64 (Int.ofNat 0))])),(CO.mk G.none D.none Bool.true (CR.mk (Af 5 (tm 9) (tm 15))))]) nh)
abbrev mw:CC:=(CC.block 1 nT)
abbrev Zs:CC:=(CC.region [(wB 30 (AM A4 (tm 12) (oN 1))),(wB 12 (AA (tm 30)))])
abbrev gE:CC:=(CC.seq mw Zs)
abbrev ew:CC:=(CC.seq mJ gE)
abbrev wI:CC:=(CC.seq (CC.region [(wB 13 (AM BV (tm 12) (tm 11)))]) ew)
abbrev Xk:CC:=(CC.loop wI)
abbrev XS:CC:=(CC.block 0 Xk)
abbrev fw:CC:=(CC.seq (CC.region [(wB 10 (AA (tm 0))),(wB 11 (A9 (tm 10))),(wB 12 (AA (oN 0)))]) XS)
abbrev iu:CC:=(CC.seq (CC.region [(wB 31 (AA (tm 7))),(wB 6 (AA (tm 31)))]) CC.ret)
abbrev hO:CC:=(CC.seq fw iu)
abbrev X4:CC:=(CC.seq CC.skip hO)
abbrev dz:CC:=(CC.seq (CC.region [(wB 7 (AA (O.c V.l0)))]) X4)
abbrev b47:CC:=(CC.seq (CC.region [(wB 6 (AA (O.c V.l0)))]) dz)
theorem c47:AY Try.prog 47=⟨32,b47,[(Rs.tmp (AT 6))]⟩:=by kernel_rfl
abbrev tY:CC:=(CC.seq (CC.region [(wB 2 (AA (O.c V.l0))),(wB 3 (AA (O.c (V.b Bool.false))))]) CC.ret)
abbrev ny:CC:=(CC.cond (tm 15) tY CC.skip)
abbrev lI:CC:=(CC.seq (CC.region [(wB 13 (AA (tm 4))),(wB 14 (A9 (tm 13))),(wB 15 (AM BV (tm 14) (oN 2)))]) ny)
abbrev wS:CC:=(CC.cond (tm 27) CC.skip (CC.exit 0))
abbrev zT:CC:=(CC.seq (CC.region [(wB 24 (AA (tm 7))),(wB 25 (AA (tm 4))),(wB 26 (A9 (tm 25))),(wB 27 (AM BV (tm 24) (tm 26)))]) wS)
abbrev nK:CC:=(CC.Az [(uB 30 (AA (tm 5))),(uB 31 (AA (tm 4))),(uB 32 (AA (tm 7))),(uB 33 (AG 5 (tm 31) (tm 32))),(uB 34 (AF 2 (tm 33))),(uB 35 (AK (tm 34))),(uB 36 (GF (fun a b c d=>EF a b c d||EX a b c d) (tm 30) (tm 35))),(uB 37 (AA (tm 6))),(uB 38 (AA (tm 4))),(uB 39 (AA (tm 7))),(uB 40 (AG 5 (tm 38) (tm 39))),(uB 41 (AF 3 (tm 40))),(uB 42 (AK (tm 41))),(uB 43 (GF (fun a b c d=>!EF a b c d) (tm 37) (tm 42))),(uB 5 (AA (tm 36))),(uB 6 (AA (tm 43)))] none)
abbrev yu:CC:=(CC.block 1 nK)
abbrev qI:CC:=(CC.region [(wB 28 (AA (tm 7))),(wB 29 (AM A4 (tm 28) (oN 1))),(wB 7 (AA (tm 29)))])
abbrev kN:CC:=(CC.seq yu qI)
abbrev pH:CC:=(CC.seq zT kN)
abbrev mK:CC:=(CC.loop pH)
abbrev XG:CC:=(CC.block 0 mK)
abbrev XQ:CC:=(CC.seq (CC.region [(wB 7 (AA (oN 1)))]) XG)
abbrev gY:CC:=(CC.cond (tm 50) CC.skip (CC.exit 2))
abbrev aS:CC:=(CC.seq (CC.region [(wB 47 (AA (tm 10))),(wB 48 (AA (tm 9))),(wB 49 (A9 (tm 48))),(wB 50 (AM BV (tm 47) (tm 49)))]) gY)
abbrev aT:CC:=(CC.Az [(uB 69 (AA (tm 8))),(uB 70 (BL 57 5 (O.c V.l0) (tm 69))),(uB 71 (AA (tm 9))),(uB 72 (AA (tm 10))),(uB 73 (AG 5 (tm 71) (tm 72))),(uB 74 (AR 5 (tm 73))),(uB 75 (Aj 57 1 [(V.i IntKind.i64 (Int.ofNat 0)),(V.i IntKind.i64 (Int.ofNat 0)),(V.s 0 0),(V.s 0 0),(V.i IntKind.i64 (Int.ofNat 0))] [(Pt.mk 0 5 (tm 74))])),(wB 76 (BL 57 5 (tm 70) (tm 75))),(uB 8 (AA (tm 76)))] none)
abbrev dP:CC:=(CC.cond (tm 68) aT CC.skip)
abbrev jP:CC:=(CC.seq (CC.region [(wB 53 (AA (tm 9))),(wB 54 (AA (tm 10))),(wB 55 (AG 5 (tm 53) (tm 54))),(wB 56 (AF 2 (tm 55))),(wB 57 (AK (tm 56))),(wB 58 (AA (tm 6))),(wB 59 (BZ (fun a b c d=>EF a b c d||EX a b c d) (tm 57) (tm 58))),(wB 60 (AA (tm 59))),(wG 60 true 61 (AA (tm 5))),(wG 60 true 62 (AA (tm 9))),(wG 60 true 63 (AA (tm 10))),(wG 60 true 64 (AG 5 (tm 62) (tm 63))),(wG 60 true 65 (AF 3 (tm 64))),(wG 60 true 66 (AK (tm 65))),(wG 60 true 67 (BZ (fun a b c d=>EF a b c d||EX a b c d) (tm 61) (tm 66))),(wB 68 (Ag (tm 60) (tm 67) (O.c (V.b Bool.false))))]) dP)
abbrev W9:CC:=(CC.block 3 jP)
abbrev ir:CC:=(CC.region [(wB 51 (AA (tm 10))),(wB 52 (AM A4 (tm 51) (oN 1))),(wB 10 (AA (tm 52)))])
abbrev cE:CC:=(CC.seq W9 ir)
abbrev vQ:CC:=(CC.seq aS cE)
abbrev XO:CC:=(CC.loop vQ)
abbrev Ys:CC:=(CC.block 2 XO)
abbrev eJ:CC:=(CC.seq (CC.region [(wB 10 (AA (oN 0)))]) Ys)
abbrev Yl:CC:=(CC.seq (CC.region [(wB 77 (AA (tm 8))),(wB 2 (AA (tm 77))),(wB 3 (AA (O.c (V.b Bool.true))))]) CC.ret)
abbrev dN:CC:=(CC.seq eJ Yl)
abbrev Wg:CC:=(CC.seq (CC.region [(wB 45 (AA (tm 0))),(wB 46 (Ab 41 [(tm 45),(oN 1)])),(wB 9 (AA (tm 46)))]) dN)
abbrev bO:CC:=(CC.seq (CC.region [(wB 44 (AA (tm 4))),(wB 8 (AA (tm 44)))]) Wg)
abbrev jU:CC:=(CC.seq XQ bO)
abbrev cD:CC:=(CC.seq (CC.Az [(uB 16 (AA (tm 4))),(uB 17 (AG 5 (tm 16) (oN 0))),(uB 18 (AF 2 (tm 17))),(uB 19 (AK (tm 18))),(uB 20 (AA (tm 4))),(uB 21 (AG 5 (tm 20) (oN 0))),(uB 22 (AF 3 (tm 21))),(uB 23 (AK (tm 22))),(uB 5 (AA (tm 19))),(uB 6 (AA (tm 23)))] none) jU)
abbrev Yq:CC:=(CC.seq lI cD)
abbrev il:CC:=(CC.seq (CC.region [(wB 11 (AA (tm 0))),(wB 12 (Ab 41 [(tm 11),(oN 0)])),(wB 4 (AA (tm 12)))]) Yq)
abbrev b20:CC:=(CC.seq (CC.region [(wB 2 (AA (O.c V.l0))),(wB 3 (AA (O.c (V.b Bool.false))))]) il)
theorem c20:AY Try.prog 20=⟨78,b20,[(Rs.tmp (AT 2)),(Rs.tmp (AT 3))]⟩:=by kernel_rfl
abbrev yB:CC:=(CC.cond (tm 18) CC.skip (CC.exit 0))
abbrev n4:CC:=(CC.seq (CC.region [(wB 12 (AA (tm 10))),(wB 13 (AA (tm 0))),(wB 14 (AZ (tm 13))),(wB 15 (AF 0 (tm 14))),(wB 16 (AK (tm 15))),(wB 17 (A9 (tm 16))),(wB 18 (AM BV (tm 12) (tm 17)))]) yB)
abbrev xF:CC:=(CC.region [(wB 61 (AA (tm 9))),(wB 62 (AR 5 (tm 11))),(wB 63 (Aj 57 1 [(V.i IntKind.i64 (Int.ofNat 0)),(V.i IntKind.i64 (Int.ofNat 0)),(V.s 0 0),(V.s 0 0),(V.i IntKind.i64 (Int.ofNat 0))] [(Pt.mk 0 5 (tm 62))])),(wB 64 (BL 57 5 (tm 61) (tm 63))),(wB 9 (AA (tm 64)))])
abbrev uQ:CC:=(CC.cond (tm 60) xF CC.skip)
abbrev ql:CC:=(CC.seq (CC.region [(wB 28 (AA (tm 3))),(wB 29 (AA (tm 28))),(wG 29 true 30 (AF 2 (tm 11))),(wG 29 true 31 (AK (tm 30))),(wG 29 true 32 (AA (tm 1))),(wG 29 true 33 (BZ (fun a b c d=>EF a b c d||EX a b c d) (tm 31) (tm 32))),(wB 34 (Ag (tm 29) (tm 33) (O.c (V.b Bool.false)))),(wB 35 (AA (tm 34))),(wG 35 true 36 (AA (tm 1))),(wG 35 true 37 (AF 3 (tm 11))),(wG 35 true 38 (AK (tm 37))),(wG 35 true 39 (BZ (fun a b c d=>EF a b c d||EX a b c d) (tm 36) (tm 38))),(wB 40 (Ag (tm 35) (tm 39) (O.c (V.b Bool.false)))),(wB 41 (AA (tm 40))),(wG 41 false 42 (AA (tm 3))),(wG 41 false 43 (Bz (tm 42))),(wG 41 false 44 (AA (tm 43))),(wG 44 true 45 (AA (tm 1))),(wG 44 true 46 (AF 3 (tm 11))),(wG 44 true 47 (AK (tm 46))),(wG 44 true 48 (BZ (fun a b c d=>EF a b c d||EX a b c d) (tm 45) (tm 47))),(wG 41 false 49 (Ag (tm 44) (tm 48) (O.c (V.b Bool.false)))),(wG 41 false 50 (AA (tm 49))),(wG 50 true 51 (AA (tm 2))),(wG 50 true 52 (BZ EX (tm 51) (O.c (V.s 0 0)))),(wG 50 true 53 (AA (tm 52))),(wG 53 false 54 (AF 2 (tm 11))),(wG 53 false 55 (AK (tm 54))),(wG 53 false 56 (AA (tm 2))),(wG 53 false 57 (BZ EF (tm 55) (tm 56))),(wG 50 true 58 (Ag (tm 53) (O.c (V.b Bool.true)) (tm 57))),(wG 41 false 59 (Ag (tm 50) (tm 58) (O.c (V.b Bool.false)))),(wB 60 (Ag (tm 41) (O.c (V.b Bool.true)) (tm 59)))]) uQ)
abbrev xi:CC:=(CC.seq (CC.region [(wB 21 (AA (tm 0))),(wB 22 (AZ (tm 21))),(wB 23 (AF 0 (tm 22))),(wB 24 (AK (tm 23))),(wB 25 (AA (tm 10))),(wB 26 (AG 5 (tm 24) (tm 25))),(wB 27 (AR 5 (tm 26))),(wB 11 (Bw 57 [(V.i IntKind.i64 (Int.ofNat 0)),(V.i IntKind.i64 (Int.ofNat 0)),(V.s 0 0),(V.s 0 0),(V.i IntKind.i64 (Int.ofNat 0))])),(CO.mk G.none D.none Bool.true (CR.mk (Af 5 (tm 11) (tm 27))))]) ql)
abbrev p8:CC:=(CC.block 1 xi)
abbrev pZ:CC:=(CC.region [(wB 19 (AA (tm 10))),(wB 20 (AM A4 (tm 19) (oN 1))),(wB 10 (AA (tm 20)))])
abbrev xY:CC:=(CC.seq p8 pZ)
abbrev zr:CC:=(CC.seq n4 xY)
abbrev sl:CC:=(CC.loop zr)
abbrev gZ:CC:=(CC.block 0 sl)
abbrev bh:CC:=(CC.seq (CC.region [(wB 10 (AA (oN 0)))]) gZ)
abbrev ZI:CC:=(CC.seq (CC.region [(wB 65 (AA (tm 9))),(wB 8 (AA (tm 65)))]) CC.ret)
abbrev eL:CC:=(CC.seq bh ZI)
abbrev XW:CC:=(CC.seq (CC.region [(wB 9 (AA (O.c V.l0)))]) eL)
abbrev b23:CC:=(CC.seq (CC.region [(wB 8 (AA (O.c V.l0)))]) XW)
theorem c23:AY Try.prog 23=⟨66,b23,[(Rs.tmp (AT 8))]⟩:=by kernel_rfl
end Go.Proofs.Ytobfgempjekjpaa
namespace Go.Ev
open Go
def jh (a b:List UInt8):List UInt8:=bif Op.bytesLess a b||decide (a=b)then a else b
def ji (a b:List UInt8):List UInt8:=bif Op.bytesLess a b then b else a
def XE (L:List BU) (i:Nat):List UInt8:=((L.drop 1).take i).foldl (fun a t=>jh a t.fst) (L.getD 0 default).fst
def Lo (L:List BU) (i:Nat):List UInt8:=((L.drop 1).take i).foldl (fun a t=>ji a t.CT) (L.getD 0 default).CT
def Na (L:List BU):List UInt8:=XE L (L.length-1)
def NZ (L:List BU):List UInt8:=Lo L (L.length-1)
theorem Rg {L:List BU} {i:Nat} (h:i<L.length):L.take (i+1)=L.take i++[L.getD i default]:=by rw[List.take_succ];simp[List.getD,h]
theorem MQ {L:List BU} {i:Nat}:(L.drop 1).getD i default=L.getD (i+1) default:=by simp[List.getD,Nat.add_comm]
theorem WA {L:List BU} {i:Nat} (h:i+1<L.length):XE L (i+1)=jh (XE L i) (L.getD (i+1) default).fst:=by
 unfold XE;rw[Rg (by rw[List.length_drop];omega),List.foldl_append,MQ];rfl
theorem WI {L:List BU} {i:Nat} (h:i+1<L.length):Lo L (i+1)=ji (Lo L i) (L.getD (i+1) default).CT:=by
 unfold Lo;rw[Rg (by rw[List.length_drop];omega),List.foldl_append,MQ];rfl
/--what may have a key from a on up to b -/
def E6 (a b:List UInt8) (t:BU):Bool:=!Op.bytesLess t.CT a&&!Op.bytesLess b t.fst
/--what may have one from a on,below b -/
def FX (a b:List UInt8) (t:BU):Bool:=!Op.bytesLess t.CT a&&(decide (b=[])||Op.bytesLess t.fst b)
def CQ (k:Int) (L:List BU):List BU:=L.filter fun t=>decide (t.A7=k)
def MZ (L:List BU):List BU:=(CQ 1 L).filter (E6 (Na (CQ 0 L)) (NZ (CQ 0 L)))
def I6 (L:List BU):List BU:=if (CQ 0 L).length<2 then []else CQ 0 L++MZ L
def K5 (L:List BU):Bool:=!decide ((CQ 0 L).length<2)
theorem HU (k:Int) (L:List BU):(CQ k L).length<=L.length:=List.length_filter_le _ _
theorem LH:∀ L:List BU,(CQ 0 L).length+(CQ 1 L).length<=L.length
 |[]=>Nat.le_refl _
 |t::L=>by
  have ih:=LH L
  unfold CQ at*
  rw[List.filter_cons,List.filter_cons]
  by_cases h0:t.A7=0
  ·rw[if_pos (by simpa using h0),if_neg (by simp;omega)];simp;omega
  ·rw[if_neg (by simpa using h0)]
   by_cases h1:t.A7=1
   ·rw[if_pos (by simpa using h1)];simp;omega
   ·rw[if_neg (by simpa using h1)];simp;omega
theorem TT (L:List BU):(I6 L).length<=L.length:=by
 unfold I6 MZ
 have:=LH L
 have:=List.length_filter_le (E6 (Na (CQ 0 L)) (NZ (CQ 0 L))) (CQ 1 L)
 split
 ·simp
 ·rw[List.length_append];omega
end Go.Ev
set_option maxRecDepth 100000
set_option maxHeartbeats 8000000
namespace Go.Proofs.Ytobfgempjekjpaa
open Go Go.Ev
theorem Uu {h:H} {t:BU} (hf:B.val h.floor<=B.val h.next):BF Try.prog 37 [.a [.i .i64 t.id,.i .i64 t.A7,sv t.fst,sv t.CT,.i .i64 t.ED]] h fun y h'=>y=.b (GG t)/\AU AO h h':=by
 refine BB c37 (by intro hb;cases hb) (by simp) (by simp) fun Q hQ=>?_
 simp only[Ap,Nat.reduceAdd]
 repeat' (first
  |refine St.h ?_
  |simp(disch:=first|omega|(simp only[AI];omega))only[AJ,↓AB,↓reduceIte,seval]
  |(with_reducible (first|apply AE|apply AD))<;>(intro hc;(try simp only[AX]at hc);(try simp only[hc]);(try simp only[AV]at hc);try omega))
 refine AL.own (by simp) hf fun h1 s1 n1 o1=>?_
 have r1:=o1.row
 have hle:=Jt (a:=t.fst) (b:=t.CT)
 cases hb:Op.bytesLess t.CT t.fst
 all_goals
  rw[hb]at hle
  simp only[Bool.not_false,Bool.not_true]at hle
  repeat' (first
   |refine St.h ?_
   |simp(disch:=first|omega|(simp only[AI];omega))only[AJ,↓AB,↓reduceIte,seval,r1.l1,hle]
   |(with_reducible (first|apply AE|apply AD))<;>(intro hc;(try simp only[AX]at hc);(try simp only[hc]);(try simp only[AV]at hc);try omega))
  all_goals
   subst hQ
   refine⟨congrArg V.b ?_,s1⟩
   rw[Bool.eq_iff_iff,DH,hb]
   simp only[decide_eq_true_eq,Bool.false_eq_true,Bool.true_eq_false,false_and,and_false,iff_false,false_iff,true_and,not_false_eq_true]
   try omega
theorem Ns {h:H} {a b:BU} (hf:B.val h.floor<=B.val h.next):BF Try.prog 54 [.a [.i .i64 a.id,.i .i64 a.A7,sv a.fst,sv a.CT,.i .i64 a.ED],.a [.i .i64 b.id,.i .i64 b.A7,sv b.fst,sv b.CT,.i .i64 b.ED]] h fun y h'=>y=.b (GI a b)/\AU AO h h':=by
 refine BB c54 (by intro hb;cases hb) (by simp) (by simp) fun Q hQ=>?_
 simp only[Ap,Nat.reduceAdd]
 repeat' (first
  |refine St.h ?_
  |simp(disch:=first|omega|(simp only[AI];omega))only[AJ,↓AB,↓reduceIte,seval]
  |(with_reducible (first|apply AE|apply AD))<;>(intro hc;(try simp only[AX]at hc);(try simp only[hc]);(try simp only[AV]at hc);try omega))
 refine AL.own (by simp) hf fun h1 s1 n1 o1=>?_
 have hf1:=s1.fl hf
 repeat' (first
  |refine St.h ?_
  |simp(disch:=first|omega|(simp only[AI];omega))only[AJ,↓AB,↓reduceIte,seval]
  |(with_reducible (first|apply AE|apply AD))<;>(intro hc;(try simp only[AX]at hc);(try simp only[hc]);(try simp only[AV]at hc);try omega))
 refine AL.own (by simp) hf1 fun h2 s2 n2 o2=>?_
 have r1:=(o1.stay s2 fun e=>e).row
 have r2:=o2.row
 unfold GI at*
 by_cases e:a.A7=b.A7
 ·have d1:=eq_true e
  by_cases e0:a.A7=0
  ·have d2:=eq_true e0
   repeat' (first
    |refine St.h ?_
    |simp(disch:=first|omega|(simp only[AI];omega))only[AJ,↓AB,↓reduceIte,seval,r1.l1,r2.l1,d1,d2]
    |(with_reducible (first|apply AE|apply AD))<;>(intro hc;(try simp only[AX]at hc);(try simp only[hc]);(try simp only[AV]at hc);try omega))
   subst hQ
   refine⟨congrArg V.b ?_,s1.trans s2⟩
   rw[if_pos e,if_pos e0]
  ·have d2:=eq_false e0
   repeat' (first
    |refine St.h ?_
    |simp(disch:=first|omega|(simp only[AI];omega))only[AJ,↓AB,↓reduceIte,seval,r1.l1,r2.l1,d1,d2]
    |(with_reducible (first|apply AE|apply AD))<;>(intro hc;(try simp only[AX]at hc);(try simp only[hc]);(try simp only[AV]at hc);try omega))
   subst hQ
   refine⟨congrArg V.b ?_,s1.trans s2⟩
   rw[if_pos e,if_neg e0]
 ·have d1:=eq_false e
  repeat' (first
   |refine St.h ?_
   |simp(disch:=first|omega|(simp only[AI];omega))only[AJ,↓AB,↓reduceIte,seval,r1.l1,r2.l1,d1]
   |(with_reducible (first|apply AE|apply AD))<;>(intro hc;(try simp only[AX]at hc);(try simp only[hc]);(try simp only[AV]at hc);try omega))
  subst hQ
  refine⟨congrArg V.b ?_,s1.trans s2⟩
  rw[if_neg e]
theorem Sf {h:H} {v:V} {xs:List Int} {x:Int} (hL:Il h v xs) (hl:xs.length<=1000):BF Try.prog 38 [v,.i .i64 x] h fun y h'=>y=.b (HZ xs x)/\h'=h:=by
 refine BB c38 (by intro hb;cases hb) (by simp) (by simp) fun Q hQ=>?_
 simp only[Ap,Nat.reduceAdd]
 repeat' (first
  |refine St.h ?_
  |simp(disch:=first|omega|(simp only[AI];omega))only[AJ,↓AB,↓reduceIte,seval]
  |(with_reducible (first|apply AE|apply AD))<;>(intro hc;(try simp only[AX]at hc);(try simp only[hc]);(try simp only[AV]at hc);try omega))
 refine Ok.lp (fun m t g=>∃ i:Nat,m=xs.length-i/\i<=xs.length/\h=g/\get 0 t=v/\get 1 t=.i .i64 x/\get 5 t=.i .i64 (i:Int)/\(∀ k,k<i->xs.getD k 0≠x)) xs.length ?_ ?_
 ·simp(disch:=first|omega|(simp only[AI];omega))only[AJ,↓AB,↓reduceIte,seval]
  refine⟨0,by omega,by omega,?_⟩
  refine⟨?_,?_,?_,?_,fun k hk=>by omega⟩
  all_goals first|trivial|rfl
 rintro I hI m t g ⟨i,rfl,hi,rfl,f0,f1,f5,hno⟩
 by_cases hil:i<xs.length
 case neg=>
  obtain rfl:i=xs.length:=by omega
  have d1:((xs.length:Int)<(xs.length:Int))=False:=eq_false (by omega)
  repeat' (first
   |refine St.h ?_
   |simp(disch:=first|omega|(simp only[AI];omega))only[AJ,↓AB,↓reduceIte,seval,f0,f1,f5,d1,hL.ln]
   |(with_reducible (first|apply AE|apply AD))<;>(intro hc;(try simp only[AX]at hc);(try simp only[hc]);(try simp only[AV]at hc);try omega))
  subst hQ
  refine⟨congrArg V.b (Eq.symm (List.any_eq_false.2 fun y hy=>?_)),rfl⟩
  obtain⟨k,hk,rfl⟩:=List.mem_iff_getElem.1 hy
  have:=hno k hk
  simp[List.getD,hk]at this
  simpa using this
 have d1:((i:Int)<(xs.length:Int))=True:=eq_true (by omega)
 by_cases hx:xs.getD i 0=x
 ·have d2:=eq_true hx
  repeat' (first
   |refine St.h ?_
   |simp(disch:=first|omega|(simp only[AI];omega))only[AJ,↓AB,↓reduceIte,seval,f0,f1,f5,d1,d2,hL.ln,hL.ix,hL.ld,Int.toNat_natCast]
   |(with_reducible (first|apply AE|apply AD))<;>(intro hc;(try simp only[AX]at hc);(try simp only[hc]);(try simp only[AV]at hc);try omega))
  subst hQ
  refine⟨congrArg V.b (Eq.symm (List.any_eq_true.2 ⟨xs.getD i 0,?_,by simpa using hx⟩)),rfl⟩
  simp[List.getD,hil]
 ·have d2:=eq_false hx
  repeat' (first
   |refine St.h ?_
   |simp(disch:=first|omega|(simp only[AI];omega))only[AJ,↓AB,↓reduceIte,seval,f0,f1,f5,d1,d2,hL.ln,hL.ix,hL.ld,Int.toNat_natCast]
   |(with_reducible (first|apply AE|apply AD))<;>(intro hc;(try simp only[AX]at hc);(try simp only[hc]);(try simp only[AV]at hc);try omega))
  refine Ah hI (xs.length-(i+1)) (by omega) ⟨i+1,rfl,by omega,rfl,by simp(disch:=first|omega|(simp only[AI];omega))only[AJ,↓AB,↓reduceIte,seval,f0],by simp(disch:=first|omega|(simp only[AI];omega))only[AJ,↓AB,↓reduceIte,seval,f1],by simp(disch:=first|omega|(simp only[AI];omega))only[AJ,↓AB,↓reduceIte,seval,f5];rfl,fun k k1=>?_⟩
  by_cases e:k=i
  ·rw[e];exact hx
  ·exact hno k (by omega)
/--put -/
theorem UL {h:H} {v:V} {L:List BU} {x:BU} (hL:Dr h v L) (hl:L.length<=1000) (hf:B.val h.floor<=B.val h.next):BF Try.prog 39 [v,.a [.i .i64 x.id,.i .i64 x.A7,sv x.fst,sv x.CT,.i .i64 x.ED]] h fun y h'=>Rt h' y (G4 L x)/\(∀ q,Al y q->B.val h.next<=B.val q)/\AU AO h h':=by
 refine BB c39 (by intro hb;cases hb) (by simp) (by simp) fun Q hQ=>?_
 simp only[Ap,Nat.reduceAdd]
 repeat' (first
  |refine St.h ?_
  |simp(disch:=first|omega|(simp only[AI];omega))only[AJ,↓AB,↓reduceIte,seval]
  |(with_reducible (first|apply AE|apply AD))<;>(intro hc;(try simp only[AX]at hc);(try simp only[hc]);(try simp only[AV]at hc);try omega))
 refine AL.own (by simp) hf fun h1 s1 n1 o1=>?_
 have hf1:=s1.fl hf
 repeat' (first
  |refine St.h ?_
  |simp(disch:=first|omega|(simp only[AI];omega))only[AJ,↓AB,↓reduceIte,seval]
  |(with_reducible (first|apply AE|apply AD))<;>(intro hc;(try simp only[AX]at hc);(try simp only[hc]);(try simp only[AV]at hc);try omega))
 refine Ok.lp (fun m t g=>∃ (i:Nat) (u:V) (f:Bool) (A:List BU),m=L.length-i/\i<=L.length/\get 0 t=v/\get 3 t=.p h.next 0 0 5/\get 5 t=u/\get 6 t=.b f/\get 7 t=.i .i64 (i:Int)/\Rt g u A/\(A.length<=i+1/\(f=false->A.length<=i))/\(∀ q,Al u q->B.val h1.next<=B.val q)/\G4 L x=A++(if f then L.drop i else G4 (L.drop i) x)/\AU AO h1 g) L.length ?_ ?_
 ·simp(disch:=first|omega|(simp only[AI];omega))only[AJ,↓AB,↓reduceIte,seval]
  refine⟨0,.l0,false,[],by omega,by omega,?_⟩
  refine⟨?_,?_,?_,?_,?_,Gr.nil,⟨by simp,by simp⟩,?_,by simp,AU.refl _ _⟩
  rotate_right
  ·rintro i ⟨_,_,_,_,_,e⟩;cases e
  all_goals first|trivial|rfl
 rintro I hI m t g ⟨i,u,f,A,rfl,hi,f0,f3,f5,f6,f7,bu,⟨la,lb⟩,own,eq,st⟩
 have hfg:=st.fl hf1
 have Lg:=hL.grow (s1.trans st)
 have og:=o1.stay st fun e=>e
 have rg:Row g h.next 0 0 [.i .i64 x.id,.i .i64 x.A7,sv x.fst,sv x.CT,.i .i64 x.ED]:=og.row
 by_cases hil:i<L.length
 case neg=>
  obtain rfl:i=L.length:=by omega
  have d1:((L.length:Int)<(L.length:Int))=False:=eq_false (by omega)
  rw[List.drop_length]at eq
  cases f with
  |true=>
   rw[if_pos rfl,List.append_nil]at eq
   repeat' (first
    |refine St.h ?_
    |simp(disch:=first|omega|(simp only[AI];omega))only[AJ,↓AB,↓reduceIte,seval,f0,f3,f5,f6,f7,d1,hL.ln]
    |(with_reducible (first|apply AE|apply AD))<;>(intro hc;(try simp only[AX]at hc);(try simp only[hc]);(try simp only[AV]at hc);try omega))
   subst hQ
   rw[eq]
   exact⟨bu,fun q hq=>Nat.le_trans s1.next (own q hq),s1.trans st⟩
  |false=>
   rw[if_neg (by simp)]at eq
   repeat' (first
    |refine St.h ?_
    |simp(disch:=first|omega|(simp only[AI];omega))only[AJ,↓AB,↓reduceIte,seval,f0,f3,f5,f6,f7,d1,hL.ln,rg.ln]
    |(with_reducible (first|apply AE|apply AD))<;>(intro hc;(try simp only[AX]at hc);(try simp only[hc]);(try simp only[AV]at hc);try omega))
   refine AL.own (by simp) hfg fun g3 t3 _ o3=>?_
   repeat' (first
    |refine St.h ?_
    |simp(disch:=first|omega|(simp only[AI];omega))only[AJ,↓AB,↓reduceIte,seval,f0,f3,f5,f6,f7]
    |(with_reducible (first|apply AE|apply AD))<;>(intro hc;(try simp only[AX]at hc);(try simp only[hc]);(try simp only[AV]at hc);try omega))
   refine Df (x:=x) (bu.grow t3) o3 (by omega) (t3.fl hfg) fun u4 g4 b4 t4 own4=>?_
   repeat' (first
    |refine St.h ?_
    |simp(disch:=first|omega|(simp only[AI];omega))only[AJ,↓AB,↓reduceIte,seval,f0,f3,f5,f6,f7]
    |(with_reducible (first|apply AE|apply AD))<;>(intro hc;(try simp only[AX]at hc);(try simp only[hc]);(try simp only[AV]at hc);try omega))
   subst hQ
   rw[eq]
   have st3:=st.trans t3
   refine⟨b4,fun q hq=>?_,s1.trans (st3.Br t4 fun q hq=>own q hq)⟩
   rcases own4 q hq with h5|h5
   ·exact Nat.le_trans s1.next (own q h5)
   ·exact Nat.le_trans (s1.trans st3).next h5
 have d1:((i:Int)<(L.length:Int))=True:=eq_true (by omega)
 have hdrop:L.drop i=L.getD i default::L.drop (i+1):=by
  rw[List.drop_eq_getElem_cons hil,List.getD_eq_getElem?_getD,List.getElem?_eq_getElem hil];rfl
 cases f with
 |true=>
  rw[if_pos rfl,hdrop]at eq
  repeat' (first
   |refine St.h ?_
   |simp(disch:=first|omega|(simp only[AI];omega))only[AJ,↓AB,↓reduceIte,seval,f0,f3,f5,f6,f7,d1,hL.ln,Lg.ix,Lg.la,Int.toNat_natCast]
   |(with_reducible (first|apply AE|apply AD))<;>(intro hc;(try simp only[AX]at hc);(try simp only[hc]);(try simp only[AV]at hc);try omega))
  refine AL.own (by simp) hfg fun g3 t3 _ o3=>?_
  repeat' (first
   |refine St.h ?_
   |simp(disch:=first|omega|(simp only[AI];omega))only[AJ,↓AB,↓reduceIte,seval,f0,f3,f5,f6,f7]
   |(with_reducible (first|apply AE|apply AD))<;>(intro hc;(try simp only[AX]at hc);(try simp only[hc]);(try simp only[AV]at hc);try omega))
  refine Df (x:=L.getD i default) (bu.grow t3) o3 (by omega) (t3.fl hfg) fun u4 g4 b4 t4 own4=>?_
  repeat' (first
   |refine St.h ?_
   |simp(disch:=first|omega|(simp only[AI];omega))only[AJ,↓AB,↓reduceIte,seval,f0,f3,f5,f6,f7]
   |(with_reducible (first|apply AE|apply AD))<;>(intro hc;(try simp only[AX]at hc);(try simp only[hc]);(try simp only[AV]at hc);try omega))
  have st3:=st.trans t3
  refine Ah hI (L.length-(i+1)) (by omega) ⟨i+1,u4,true,A++[L.getD i default],rfl,by omega,by simp(disch:=first|omega|(simp only[AI];omega))only[AJ,↓AB,↓reduceIte,seval,f0],by simp(disch:=first|omega|(simp only[AI];omega))only[AJ,↓AB,↓reduceIte,seval,f3],by simp(disch:=first|omega|(simp only[AI];omega))only[AJ,↓AB,↓reduceIte,seval],by simp(disch:=first|omega|(simp only[AI];omega))only[AJ,↓AB,↓reduceIte,seval,f6],by simp(disch:=first|omega|(simp only[AI];omega))only[AJ,↓AB,↓reduceIte,seval,f7];rfl,b4,⟨by rw[List.length_append];simp;omega,fun h=>by cases h⟩,fun q hq=>?_,by rw[eq];simp,st3.Br t4 fun q hq=>own q hq⟩
  rcases own4 q hq with h5|h5
  ·exact own q h5
  ·exact Nat.le_trans st3.next h5
 |false=>
  rw[if_neg (by simp),hdrop]at eq
  have eq:G4 L x=A++(if GI x (L.getD i default)then x::L.getD i default::L.drop (i+1)else L.getD i default::G4 (L.drop (i+1)) x):=eq
  repeat' (first
   |refine St.h ?_
   |simp(disch:=first|omega|(simp only[AI];omega))only[AJ,↓AB,↓reduceIte,seval,f0,f3,f5,f6,f7,d1,hL.ln,Lg.ix,Lg.la,Int.toNat_natCast,rg.ln]
   |(with_reducible (first|apply AE|apply AD))<;>(intro hc;(try simp only[AX]at hc);(try simp only[hc]);(try simp only[AV]at hc);try omega))
  refine CL.stay (Ns hfg) fun g2 s2=>?_
  have st2:=st.trans s2
  have hf2:=st2.fl hf1
  have L2:=hL.grow (s1.trans st2)
  have r2:Row g2 h.next 0 0 [.i .i64 x.id,.i .i64 x.A7,sv x.fst,sv x.CT,.i .i64 x.ED]:=(o1.stay st2 fun e=>e).row
  cases hb:GI x (L.getD i default)with
  |true=>
   rw[hb,if_pos rfl]at eq
   repeat' (first
    |refine St.h ?_
    |simp(disch:=first|omega|(simp only[AI];omega))only[AJ,↓AB,↓reduceIte,seval,f0,f3,f5,f6,f7,r2.ln]
    |(with_reducible (first|apply AE|apply AD))<;>(intro hc;(try simp only[AX]at hc);(try simp only[hc]);(try simp only[AV]at hc);try omega))
   refine AL.own (by simp) hf2 fun g3 t3 _ o3=>?_
   repeat' (first
    |refine St.h ?_
    |simp(disch:=first|omega|(simp only[AI];omega))only[AJ,↓AB,↓reduceIte,seval,f0,f3,f5,f6,f7]
    |(with_reducible (first|apply AE|apply AD))<;>(intro hc;(try simp only[AX]at hc);(try simp only[hc]);(try simp only[AV]at hc);try omega))
   refine Df (x:=x) ((bu.grow s2).grow t3) o3 (by omega) (t3.fl hf2) fun u4 g4 b4 t4 own4=>?_
   have st3:=st2.trans t3
   have st4:AU AO h1 g4:=st3.Br t4 fun q hq=>own q hq
   have hf4:=st4.fl hf1
   have L4:=hL.grow (s1.trans st4)
   have own5:∀ q,Al u4 q->B.val h1.next<=B.val q:=fun q hq=>by
    rcases own4 q hq with h5|h5
    ·exact own q h5
    ·exact Nat.le_trans st3.next h5
   repeat' (first
    |refine St.h ?_
    |simp(disch:=first|omega|(simp only[AI];omega))only[AJ,↓AB,↓reduceIte,seval,f0,f3,f5,f6,f7,L4.ix,L4.la,Int.toNat_natCast]
    |(with_reducible (first|apply AE|apply AD))<;>(intro hc;(try simp only[AX]at hc);(try simp only[hc]);(try simp only[AV]at hc);try omega))
   refine AL.own (by simp) hf4 fun g5 t5 _ o5=>?_
   repeat' (first
    |refine St.h ?_
    |simp(disch:=first|omega|(simp only[AI];omega))only[AJ,↓AB,↓reduceIte,seval,f0,f3,f5,f6,f7]
    |(with_reducible (first|apply AE|apply AD))<;>(intro hc;(try simp only[AX]at hc);(try simp only[hc]);(try simp only[AV]at hc);try omega))
   refine Df (x:=L.getD i default) (b4.grow t5) o5 (by rw[List.length_append];simp;omega) (t5.fl hf4) fun u6 g6 b6 t6 own6=>?_
   repeat' (first
    |refine St.h ?_
    |simp(disch:=first|omega|(simp only[AI];omega))only[AJ,↓AB,↓reduceIte,seval,f0,f3,f5,f6,f7]
    |(with_reducible (first|apply AE|apply AD))<;>(intro hc;(try simp only[AX]at hc);(try simp only[hc]);(try simp only[AV]at hc);try omega))
   have st5:=st4.trans t5
   refine Ah hI (L.length-(i+1)) (by omega) ⟨i+1,u6,true,(A++[x])++[L.getD i default],rfl,by omega,by simp(disch:=first|omega|(simp only[AI];omega))only[AJ,↓AB,↓reduceIte,seval,f0],by simp(disch:=first|omega|(simp only[AI];omega))only[AJ,↓AB,↓reduceIte,seval,f3],by simp(disch:=first|omega|(simp only[AI];omega))only[AJ,↓AB,↓reduceIte,seval],by simp(disch:=first|omega|(simp only[AI];omega))only[AJ,↓AB,↓reduceIte,seval],by simp(disch:=first|omega|(simp only[AI];omega))only[AJ,↓AB,↓reduceIte,seval,f7];rfl,b6,⟨by rw[List.length_append,List.length_append];simp;have:=lb rfl;omega,fun h=>by cases h⟩,fun q hq=>?_,by rw[eq];simp,st5.Br t6 fun q hq=>own5 q hq⟩
   rcases own6 q hq with h5|h5
   ·exact own5 q h5
   ·exact Nat.le_trans st5.next h5
  |false=>
   rw[hb,if_neg (by simp)]at eq
   repeat' (first
    |refine St.h ?_
    |simp(disch:=first|omega|(simp only[AI];omega))only[AJ,↓AB,↓reduceIte,seval,f0,f3,f5,f6,f7,L2.ix,L2.la,Int.toNat_natCast]
    |(with_reducible (first|apply AE|apply AD))<;>(intro hc;(try simp only[AX]at hc);(try simp only[hc]);(try simp only[AV]at hc);try omega))
   refine AL.own (by simp) hf2 fun g3 t3 _ o3=>?_
   repeat' (first
    |refine St.h ?_
    |simp(disch:=first|omega|(simp only[AI];omega))only[AJ,↓AB,↓reduceIte,seval,f0,f3,f5,f6,f7]
    |(with_reducible (first|apply AE|apply AD))<;>(intro hc;(try simp only[AX]at hc);(try simp only[hc]);(try simp only[AV]at hc);try omega))
   refine Df (x:=L.getD i default) ((bu.grow s2).grow t3) o3 (by omega) (t3.fl hf2) fun u4 g4 b4 t4 own4=>?_
   repeat' (first
    |refine St.h ?_
    |simp(disch:=first|omega|(simp only[AI];omega))only[AJ,↓AB,↓reduceIte,seval,f0,f3,f5,f6,f7]
    |(with_reducible (first|apply AE|apply AD))<;>(intro hc;(try simp only[AX]at hc);(try simp only[hc]);(try simp only[AV]at hc);try omega))
   have st3:=st2.trans t3
   refine Ah hI (L.length-(i+1)) (by omega) ⟨i+1,u4,false,A++[L.getD i default],rfl,by omega,by simp(disch:=first|omega|(simp only[AI];omega))only[AJ,↓AB,↓reduceIte,seval,f0],by simp(disch:=first|omega|(simp only[AI];omega))only[AJ,↓AB,↓reduceIte,seval,f3],by simp(disch:=first|omega|(simp only[AI];omega))only[AJ,↓AB,↓reduceIte,seval],by simp(disch:=first|omega|(simp only[AI];omega))only[AJ,↓AB,↓reduceIte,seval,f6],by simp(disch:=first|omega|(simp only[AI];omega))only[AJ,↓AB,↓reduceIte,seval,f7];rfl,b4,⟨by rw[List.length_append];simp;omega,fun _=>by rw[List.length_append];simp;have:=lb rfl;omega⟩,fun q hq=>?_,by rw[eq];simp,st3.Br t4 fun q hq=>own q hq⟩
   rcases own4 q hq with h5|h5
   ·exact own q h5
   ·exact Nat.le_trans st3.next h5
end Go.Proofs.Ytobfgempjekjpaa
set_option maxRecDepth 100000
set_option maxHeartbeats 8000000
namespace Go.Proofs.Ytobfgempjekjpaa
open Go Go.Ev
theorem Ue {h:H} (hf:B.val h.floor<=B.val h.next):BF Try.prog 9 [] h fun y h'=>y=.p h.next 0 0 4/\IC h' h.next .l0 VB/\B.val h'.next=B.val h.next+1/\AU AO h h':=by
 refine BB c9 (by intro hb;cases hb) (by simp) (by simp) fun Q hQ=>?_
 simp only[Ap,Nat.reduceAdd]
 repeat' (first
  |refine St.h ?_
  |simp(disch:=first|omega|(simp only[AI];omega))only[AJ,↓AB,↓reduceIte,seval]
  |(with_reducible (first|apply AE|apply AD))<;>(intro hc;(try simp only[AX]at hc);(try simp only[hc]);(try simp only[AV]at hc);try omega))
 refine AL.own (by simp) hf fun h1 s1 n1 o1=>?_
 repeat' (first
  |refine St.h ?_
  |simp(disch:=first|omega|(simp only[AI];omega))only[AJ,↓AB,↓reduceIte,seval]
  |(with_reducible (first|apply AE|apply AD))<;>(intro hc;(try simp only[AX]at hc);(try simp only[hc]);(try simp only[AV]at hc);try omega))
 subst hQ
 exact⟨rfl,⟨o1,Ss.nil,by rintro q ⟨_,_,_,_,_,e⟩;cases e⟩,n1,s1⟩
theorem Qh {h:H} {g c:V} {e:Ki} (a:Qe h g c e) (hl:e.gone.length<=100000) (hl2:e.Aa.length<=100000) (hf:B.val h.floor<=B.val h.next):BF Try.prog 11 [.a [g,c,.i .i64 e.log,.i .i64 e.seq]] h fun y h'=>y=.b (JH e)/\AU AO h h':=by
 refine BB c11 (by intro hb;cases hb) (by simp) (by simp) fun Q hQ=>?_
 simp only[Ap,Nat.reduceAdd]
 repeat' (first
  |refine St.h ?_
  |simp(disch:=first|omega|(simp only[AI];omega))only[AJ,↓AB,↓reduceIte,seval]
  |(with_reducible (first|apply AE|apply AD))<;>(intro hc;(try simp only[AX]at hc);(try simp only[hc]);(try simp only[AV]at hc);try omega))
 refine AL.own (by simp) hf fun h1 s1 n1 o1=>?_
 have r1:=o1.row
 have a1:=a.grow s1
 by_cases hg:e.gone.length<=40
 case neg=>
  have d1:((40:Int)<(e.gone.length:Int))=True:=eq_true (by omega)
  repeat' (first
   |refine St.h ?_
   |simp(disch:=first|omega|(simp only[AI];omega))only[AJ,↓AB,↓reduceIte,seval,r1.l1,a1.1.ln,d1]
   |(with_reducible (first|apply AE|apply AD))<;>(intro hc;(try simp only[AX]at hc);(try simp only[hc]);(try simp only[AV]at hc);try omega))
  subst hQ
  exact⟨congrArg V.b (by rw[JU,decide_eq_false hg];rfl),s1⟩
 have d1:((40:Int)<(e.gone.length:Int))=False:=eq_false (by omega)
 by_cases hc:e.Aa.length<=40
 case neg=>
  have d2:((40:Int)<(e.Aa.length:Int))=True:=eq_true (by omega)
  repeat' (first
   |refine St.h ?_
   |simp(disch:=first|omega|(simp only[AI];omega))only[AJ,↓AB,↓reduceIte,seval,r1.l1,a1.1.ln,a1.2.ln,d1,d2]
   |(with_reducible (first|apply AE|apply AD))<;>(intro hc;(try simp only[AX]at hc);(try simp only[hc]);(try simp only[AV]at hc);try omega))
  subst hQ
  exact⟨congrArg V.b (by rw[JU,decide_eq_true hg,decide_eq_false hc];rfl),s1⟩
 have d2:((40:Int)<(e.Aa.length:Int))=False:=eq_false (by omega)
 have hE:JH e=(H9 e.Aa e.Aa.length&&(decide (0<=e.log/\e.log<=1000000)&&decide (0<=e.seq/\e.seq<=1000000))):=by rw[JU,decide_eq_true hg,decide_eq_true hc];rfl
 repeat' (first
  |refine St.h ?_
  |simp(disch:=first|omega|(simp only[AI];omega))only[AJ,↓AB,↓reduceIte,seval,r1.l1,a1.1.ln,a1.2.ln,d1,d2]
  |(with_reducible (first|apply AE|apply AD))<;>(intro hc;(try simp only[AX]at hc);(try simp only[hc]);(try simp only[AV]at hc);try omega))
 refine Ok.lp (fun m t g=>∃ i:Nat,m=e.Aa.length-i/\i<=e.Aa.length/\get 1 t=.p h.next 0 0 4/\get 3 t=.i .i64 (i:Int)/\H9 e.Aa i=true/\AU AO h1 g) e.Aa.length ?_ ?_
 ·simp(disch:=first|omega|(simp only[AI];omega))only[AJ,↓AB,↓reduceIte,seval]
  refine⟨0,by omega,by omega,?_⟩
  refine⟨?_,?_,rfl,AU.refl _ _⟩
  all_goals first|trivial|rfl
 rintro I hI m t g2 ⟨i,rfl,hi,f1,f3,hup,st⟩
 have r2:=(o1.stay st fun e=>e).row
 have a2:=a1.grow st
 have hf2:=st.fl (s1.fl hf)
 by_cases hil:i<e.Aa.length
 case neg=>
  obtain rfl:i=e.Aa.length:=by omega
  have d3:((e.Aa.length:Int)<(e.Aa.length:Int))=False:=eq_false (by omega)
  rw[hup,Bool.true_and]at hE
  repeat' (first
   |refine St.h ?_
   |simp(disch:=first|omega|(simp only[AI];omega))only[AJ,↓AB,↓reduceIte,seval,f1,f3,d3,r2.l1,a2.2.ln]
   |(with_reducible (first|apply AE|apply AD))<;>(intro hc;(try simp only[AX]at hc);(try simp only[hc]);(try simp only[AV]at hc);try omega))
  all_goals
   subst hQ
   refine⟨congrArg V.b ?_,s1.trans st⟩
   rw[Bool.eq_iff_iff,hE]
   simp only[Bool.and_eq_true,decide_eq_true_eq,Bool.false_eq_true,false_iff]
   omega
 have d3:((i:Int)<(e.Aa.length:Int))=True:=eq_true (by omega)
 have no:Kc e.Aa i=false->JH e=false:=fun hx=>by rw[hE,Oo hil hx];rfl
 repeat' (first
  |refine St.h ?_
  |simp(disch:=first|omega|(simp only[AI];omega))only[AJ,↓AB,↓reduceIte,seval,f1,f3,d3,r2.l1,a2.2.ln,a2.2.ix,a2.2.la,Int.toNat_natCast]
  |(with_reducible (first|apply AE|apply AD))<;>(intro hc;(try simp only[AX]at hc);(try simp only[hc]);(try simp only[AV]at hc);try omega))
 refine CL.stay (Uu hf2) fun g5 s5=>?_
 have st5:=st.trans s5
 have r5:=(o1.stay st5 fun e=>e).row
 have a5:=a1.grow st5
 cases hb:GG (e.Aa.getD i default)with
 |false=>
  repeat' (first
   |refine St.h ?_
   |simp(disch:=first|omega|(simp only[AI];omega))only[AJ,↓AB,↓reduceIte,seval,f1,f3]
   |(with_reducible (first|apply AE|apply AD))<;>(intro hc;(try simp only[AX]at hc);(try simp only[hc]);(try simp only[AV]at hc);try omega))
  subst hQ
  exact⟨congrArg V.b (no (by unfold Kc;rw[hb];rfl)).symm,s1.trans st5⟩
 |true=>
 by_cases h0:i=0
 ·have hu:Kc e.Aa i=true:=by unfold Kc;rw[hb,decide_eq_true h0];rfl
  have d4:((0:Int)<(i:Int))=False:=eq_false (by omega)
  repeat' (first
   |refine St.h ?_
   |simp(disch:=first|omega|(simp only[AI];omega))only[AJ,↓AB,↓reduceIte,seval,f1,f3,d4]
   |(with_reducible (first|apply AE|apply AD))<;>(intro hc;(try simp only[AX]at hc);(try simp only[hc]);(try simp only[AV]at hc);try omega))
  exact Ah hI (e.Aa.length-(i+1)) (by omega) ⟨i+1,rfl,by omega,by simp(disch:=first|omega|(simp only[AI];omega))only[AJ,↓AB,↓reduceIte,seval,f1],by simp(disch:=first|omega|(simp only[AI];omega))only[AJ,↓AB,↓reduceIte,seval,f3];rfl,by rw[Gu,hup,hu];rfl,st5⟩
 ·have d4:((0:Int)<(i:Int))=True:=eq_true (by omega)
  have ei:((i:Int)-1).toNat=i-1:=by omega
  by_cases hlt:(e.Aa.getD (i-1) default).id<(e.Aa.getD i default).id
  ·have hu:Kc e.Aa i=true:=by unfold Kc;rw[hb,decide_eq_true hlt,Bool.or_true];rfl
   have d5:((e.Aa.getD i default).id<=(e.Aa.getD (i-1) default).id)=False:=eq_false (by omega)
   repeat' (first
    |refine St.h ?_
    |simp(disch:=first|omega|(simp only[AI];omega))only[AJ,↓AB,↓reduceIte,seval,f1,f3,d4,d5,ei,r5.l1,a5.2.ix,a5.2.l0,Int.toNat_natCast]
    |(with_reducible (first|apply AE|apply AD))<;>(intro hc;(try simp only[AX]at hc);(try simp only[hc]);(try simp only[AV]at hc);try omega))
   exact Ah hI (e.Aa.length-(i+1)) (by omega) ⟨i+1,rfl,by omega,by simp(disch:=first|omega|(simp only[AI];omega))only[AJ,↓AB,↓reduceIte,seval,f1],by simp(disch:=first|omega|(simp only[AI];omega))only[AJ,↓AB,↓reduceIte,seval,f3];rfl,by rw[Gu,hup,hu];rfl,st5⟩
  ·have hu:Kc e.Aa i=false:=by unfold Kc;rw[hb,decide_eq_false hlt,decide_eq_false h0];rfl
   have d5:((e.Aa.getD i default).id<=(e.Aa.getD (i-1) default).id)=True:=eq_true (by omega)
   repeat' (first
    |refine St.h ?_
    |simp(disch:=first|omega|(simp only[AI];omega))only[AJ,↓AB,↓reduceIte,seval,f1,f3,d4,d5,ei,r5.l1,a5.2.ix,a5.2.l0,Int.toNat_natCast]
    |(with_reducible (first|apply AE|apply AD))<;>(intro hc;(try simp only[AX]at hc);(try simp only[hc]);(try simp only[AV]at hc);try omega))
   subst hQ
   exact⟨congrArg V.b (no hu).symm,s1.trans st5⟩
theorem Ef {L:List BU} {p:BU->Bool} {j:Nat} (hj:j<L.length):(L.take (j+1)).filter p=(L.take j).filter p++(if p (L.getD j default)then [L.getD j default]else []):=by
 have:L.take (j+1)=L.take j++[L.getD j default]:=by rw[List.take_succ];simp[List.getD,hj]
 rw[this,List.filter_append]
 cases hb:p (L.getD j default)with
 |true=>rw[List.filter_cons,if_pos hb];rfl
 |false=>rw[List.filter_cons,if_neg (by rw[hb];simp)];rfl
theorem Mf {h:H} {b:B} {v:V} {S:JC} {k:Int} (a:IC h b v S) (hl:S.L.length<=1000) (hf:B.val h.floor<=B.val h.next):BF Try.prog 41 [.p b 0 0 4,.i .i64 k] h fun y h'=>Dr h' y (S.L.filter fun t=>decide (t.A7=k))/\AU AO h h':=by
 refine BB c41 (by intro hb;cases hb) (by simp) (by simp) fun Q hQ=>?_
 simp only[Ap,Nat.reduceAdd]
 repeat' (first
  |refine St.h ?_
  |simp(disch:=first|omega|(simp only[AI];omega))only[AJ,↓AB,↓reduceIte,seval]
  |(with_reducible (first|apply AE|apply AD))<;>(intro hc;(try simp only[AX]at hc);(try simp only[hc]);(try simp only[AV]at hc);try omega))
 refine Ok.lp (fun m t g=>∃ (i:Nat) (u:V),m=S.L.length-i/\i<=S.L.length/\get 0 t=.p b 0 0 4/\get 1 t=.i .i64 k/\get 5 t=u/\get 6 t=.i .i64 (i:Int)/\Rt g u ((S.L.take i).filter fun t=>decide (t.A7=k))/\(∀ q,Al u q->B.val h.next<=B.val q)/\AU AO h g) S.L.length ?_ ?_
 ·simp(disch:=first|omega|(simp only[AI];omega))only[AJ,↓AB,↓reduceIte,seval]
  refine⟨0,.l0,by omega,by omega,?_⟩
  refine⟨?_,?_,?_,?_,Gr.nil,?_,AU.refl _ _⟩
  rotate_right
  ·rintro i ⟨_,_,_,_,_,e⟩;cases e
  all_goals first|trivial|rfl
 rintro I hI m t g ⟨i,u,rfl,hi,f0,f1,f5,f6,bu,own,st⟩
 have hfg:=st.fl hf
 have ag:=a.grow st
 have rg:=ag.1.row
 have Lg:=ag.2.1
 by_cases hil:i<S.L.length
 case neg=>
  obtain rfl:i=S.L.length:=by omega
  rw[List.take_length]at bu
  have d1:((S.L.length:Int)<(S.L.length:Int))=False:=eq_false (by omega)
  repeat' (first
   |refine St.h ?_
   |simp(disch:=first|omega|(simp only[AI];omega))only[AJ,↓AB,↓reduceIte,seval,f0,f1,f5,f6,d1,rg.l1,Lg.ln]
   |(with_reducible (first|apply AE|apply AD))<;>(intro hc;(try simp only[AX]at hc);(try simp only[hc]);(try simp only[AV]at hc);try omega))
  subst hQ
  exact⟨bu.DF,st⟩
 have d1:((i:Int)<(S.L.length:Int))=True:=eq_true (by omega)
 have hlen:((S.L.take i).filter fun t=>decide (t.A7=k)).length<=1000:=by
  have:=List.length_filter_le (fun t:BU=>decide (t.A7=k)) (S.L.take i)
  rw[List.length_take]at this;omega
 have filt:=Ef (p:=fun t=>decide (t.A7=k)) hil
 by_cases hk:(S.L.getD i default).A7=k
 ·have d2:=eq_true hk
  rw[decide_eq_true hk,if_pos rfl]at filt
  repeat' (first
   |refine St.h ?_
   |simp(disch:=first|omega|(simp only[AI];omega))only[AJ,↓AB,↓reduceIte,seval,f0,f1,f5,f6,d1,d2,rg.l1,Lg.ln,Lg.ix,Lg.l1,Lg.la,Int.toNat_natCast]
   |(with_reducible (first|apply AE|apply AD))<;>(intro hc;(try simp only[AX]at hc);(try simp only[hc]);(try simp only[AV]at hc);try omega))
  refine AL.own (by simp) hfg fun g3 t3 _ o3=>?_
  repeat' (first
   |refine St.h ?_
   |simp(disch:=first|omega|(simp only[AI];omega))only[AJ,↓AB,↓reduceIte,seval,f0,f1,f5,f6]
   |(with_reducible (first|apply AE|apply AD))<;>(intro hc;(try simp only[AX]at hc);(try simp only[hc]);(try simp only[AV]at hc);try omega))
  refine Df (x:=S.L.getD i default) (bu.grow t3) o3 (by omega) (t3.fl hfg) fun u4 g4 b4 t4 own4=>?_
  repeat' (first
   |refine St.h ?_
   |simp(disch:=first|omega|(simp only[AI];omega))only[AJ,↓AB,↓reduceIte,seval,f0,f1,f5,f6]
   |(with_reducible (first|apply AE|apply AD))<;>(intro hc;(try simp only[AX]at hc);(try simp only[hc]);(try simp only[AV]at hc);try omega))
  have st3:=st.trans t3
  refine Ah hI (S.L.length-(i+1)) (by omega) ⟨i+1,u4,rfl,by omega,by simp(disch:=first|omega|(simp only[AI];omega))only[AJ,↓AB,↓reduceIte,seval,f0],by simp(disch:=first|omega|(simp only[AI];omega))only[AJ,↓AB,↓reduceIte,seval,f1],by simp(disch:=first|omega|(simp only[AI];omega))only[AJ,↓AB,↓reduceIte,seval],by simp(disch:=first|omega|(simp only[AI];omega))only[AJ,↓AB,↓reduceIte,seval,f6];rfl,by rw[filt];exact b4,fun q hq=>?_,st3.Br t4 fun q hq=>own q hq⟩
  rcases own4 q hq with h5|h5
  ·exact own q h5
  ·exact Nat.le_trans st3.next h5
 ·have d2:=eq_false hk
  rw[decide_eq_false hk,if_neg (by simp),List.append_nil]at filt
  repeat' (first
   |refine St.h ?_
   |simp(disch:=first|omega|(simp only[AI];omega))only[AJ,↓AB,↓reduceIte,seval,f0,f1,f5,f6,d1,d2,rg.l1,Lg.ln,Lg.ix,Lg.l1,Lg.la,Int.toNat_natCast]
   |(with_reducible (first|apply AE|apply AD))<;>(intro hc;(try simp only[AX]at hc);(try simp only[hc]);(try simp only[AV]at hc);try omega))
  exact Ah hI (S.L.length-(i+1)) (by omega) ⟨i+1,u,rfl,by omega,by simp(disch:=first|omega|(simp only[AI];omega))only[AJ,↓AB,↓reduceIte,seval,f0],by simp(disch:=first|omega|(simp only[AI];omega))only[AJ,↓AB,↓reduceIte,seval,f1],by simp(disch:=first|omega|(simp only[AI];omega))only[AJ,↓AB,↓reduceIte,seval,f5],by simp(disch:=first|omega|(simp only[AI];omega))only[AJ,↓AB,↓reduceIte,seval,f6];rfl,by rw[filt];exact bu,own,st⟩
end Go.Proofs.Ytobfgempjekjpaa
set_option maxRecDepth 100000
set_option maxHeartbeats 8000000
namespace Go.Ev
open Go
theorem Gr.sw {α:Type} [Inhabited α] {n el:Nat} {c:α->List V} {h:H} {v:V} {L:List α} (a:Gr el n c h v L):WH n v:=by
 rcases a with⟨rfl,rfl⟩|⟨id,g,off,fin,rfl,rfl,h1,h2⟩|⟨id,g,cap,Ao,rfl,a1,a2,_⟩
 ·exact .inl rfl
 ·exact .inr ⟨_,_,_,_,_,_,rfl,by show 0<=0/\_;exact⟨Nat.le_refl _,fun h=>absurd h (by decide)⟩⟩
 ·rcases a2 with⟨h1,rfl⟩|⟨h0,rfl⟩
  ·exact .inr ⟨_,_,_,_,_,_,rfl,by show _=_;omega⟩
  ·exact .inr ⟨_,_,_,_,_,_,rfl,by show _/\_;exact⟨by omega,fun _=>h0⟩⟩
theorem Dr.l20 {P:Program} {h:H} {N:Nx} {v:V} {L:List BU} (a:Dr h v L) (hi:0<L.length):L1 P (Ft v) (lg v) (Ci v+2) (Cm v) h N=N.go P (sv (L.getD 0 default).fst) h:=by have:=a.l2 (P:=P) (N:=N) hi;rwa [Nat.zero_mul,Nat.add_zero]at this
theorem Dr.l30 {P:Program} {h:H} {N:Nx} {v:V} {L:List BU} (a:Dr h v L) (hi:0<L.length):L1 P (Ft v) (lg v) (Ci v+3) (Cm v) h N=N.go P (sv (L.getD 0 default).CT) h:=by have:=a.l3 (P:=P) (N:=N) hi;rwa [Nat.zero_mul,Nat.add_zero]at this
end Go.Ev
namespace Go.Proofs.Ytobfgempjekjpaa
open Go Go.Ev
theorem Ui {h:H} {v:V} {L:List BU} (hL:Dr h v L) (w:WH 5 v) (h1:1<=L.length) (hl:L.length<=1000) (hf:B.val h.floor<=B.val h.next):BF Try.prog 46 [v] h fun y h'=>y=.tu [sv (Na L),sv (NZ L)]/\AU AO h h':=by
 obtain⟨u,hu,wu,eu⟩:=Ss.lo (P:=Try.prog) (kd:=.i64) (k:=1) hL Ba w h1
 have hu:Dr h u (L.drop 1):=hu
 have eu:∀ (g:H) (N:Nx),H2 Try.prog (FB 5) v (.i .i64 1) g N=N.go Try.prog u g:=eu
 have ln:=List.length_drop (i:=1) (l:=L)
 refine BB c46 (by intro hb;cases hb) (by simp) (by simp) fun Q hQ=>?_
 simp only[Ap,Nat.reduceAdd]
 repeat' (first
  |refine St.h ?_
  |simp(disch:=first|omega|(simp only[AI];omega))only[AJ,↓AB,↓reduceIte,seval,hL.kR,hL.l20,hL.l30,eu,hu.ln]
  |(with_reducible (first|apply AE|apply AD))<;>(intro hc;(try simp only[AX]at hc);(try simp only[hc]);(try simp only[AV]at hc);try omega))
 refine Ok.lp (fun m t g=>∃ i:Nat,m=L.length-1-i/\i<=L.length-1/\get 4 t=sv (XE L i)/\get 5 t=sv (Lo L i)/\get 17 t=u/\get 18 t=.i .i64 ((L.drop 1).length:Int)/\get 19 t=.i .i64 (i:Int)/\AU AO h g) (L.length-1) ?_ ?_
 ·simp(disch:=first|omega|(simp only[AI];omega))only[AJ,↓AB,↓reduceIte,seval]
  refine⟨0,by omega,by omega,?_⟩
  refine⟨?_,?_,?_,?_,?_,AU.refl _ _⟩
  all_goals first|trivial|rfl
 rintro I hI m t g ⟨i,rfl,hi,f4,f5,f17,f18,f19,st⟩
 have hfg:=st.fl hf
 have Lg:=hu.grow st
 by_cases hil:i<L.length-1
 case neg=>
  obtain rfl:i=L.length-1:=by omega
  have d1:(((L.length-1:Nat):Int)<((L.drop 1).length:Int))=False:=eq_false (by omega)
  repeat' (first
   |refine St.h ?_
   |simp(disch:=first|omega|(simp only[AI];omega))only[AJ,↓AB,↓reduceIte,seval,f4,f5,f17,f18,f19,d1]
   |(with_reducible (first|apply AE|apply AD))<;>(intro hc;(try simp only[AX]at hc);(try simp only[hc]);(try simp only[AV]at hc);try omega))
  subst hQ
  exact⟨rfl,st⟩
 have d1:((i:Int)<((L.drop 1).length:Int))=True:=eq_true (by omega)
 have hi2:i<(L.drop 1).length:=by omega
 repeat' (first
  |refine St.h ?_
  |simp(disch:=first|omega|(simp only[AI];omega))only[AJ,↓AB,↓reduceIte,seval,f4,f5,f17,f18,f19,d1,Lg.ix,Lg.la,Int.toNat_natCast]
  |(with_reducible (first|apply AE|apply AD))<;>(intro hc;(try simp only[AX]at hc);(try simp only[hc]);(try simp only[AV]at hc);try omega))
 refine AL.own (by simp) hfg fun g1 t1 _ o1=>?_
 repeat' (first
  |refine St.h ?_
  |simp(disch:=first|omega|(simp only[AI];omega))only[AJ,↓AB,↓reduceIte,seval,f4,f5,f17,f18,f19]
  |(with_reducible (first|apply AE|apply AD))<;>(intro hc;(try simp only[AX]at hc);(try simp only[hc]);(try simp only[AV]at hc);try omega))
 refine ST.all o1 rfl rfl (by simp) (by simp) fun g2 o2 t2=>?_
 have tt:AU AO g g2:=t1.Br t2 fun q hq=>by rw[hq];exact Nat.le_refl _
 have r2:=o2.row
 repeat' (first
  |refine St.h ?_
  |simp(disch:=first|omega|(simp only[AI];omega))only[AJ,↓AB,↓reduceIte,seval,f4,f5,f17,f18,f19,r2.l1]
  |(with_reducible (first|apply AE|apply AD))<;>(intro hc;(try simp only[AX]at hc);(try simp only[hc]);(try simp only[AV]at hc);try omega))
 exact Ah hI (L.length-1-(i+1)) (by omega) ⟨i+1,rfl,by omega,by simp(disch:=first|omega|(simp only[AI];omega))only[AJ,↓AB,↓reduceIte,seval];rw[WA (by omega),<-MQ];rfl,by simp(disch:=first|omega|(simp only[AI];omega))only[AJ,↓AB,↓reduceIte,seval];rw[WI (by omega),<-MQ];rfl,by simp(disch:=first|omega|(simp only[AI];omega))only[AJ,↓AB,↓reduceIte,seval,f17],by simp(disch:=first|omega|(simp only[AI];omega))only[AJ,↓AB,↓reduceIte,seval,f18],by simp(disch:=first|omega|(simp only[AI];omega))only[AJ,↓AB,↓reduceIte,seval,f19];rfl,st.trans tt⟩
theorem eQ {a b:List UInt8} {t:BU}:E6 a b t=(!Op.bytesLess t.CT a&&(Op.bytesLess t.fst b||decide (t.fst=b))):=by unfold E6;rw[Jt]
theorem J6 {h:H} {v:V} {L:List BU} {a b:List UInt8} (hL:Dr h v L) (hl:L.length<=1000) (hf:B.val h.floor<=B.val h.next):BF Try.prog 47 [v,sv a,sv b] h fun y h'=>Rt h' y (L.filter (E6 a b))/\(∀ q,Al y q->B.val h.next<=B.val q)/\AU AO h h':=by
 refine BB c47 (by intro hb;cases hb) (by simp) (by simp) fun Q hQ=>?_
 simp only[Ap,Nat.reduceAdd]
 repeat' (first
  |refine St.h ?_
  |simp(disch:=first|omega|(simp only[AI];omega))only[AJ,↓AB,↓reduceIte,seval,hL.ln]
  |(with_reducible (first|apply AE|apply AD))<;>(intro hc;(try simp only[AX]at hc);(try simp only[hc]);(try simp only[AV]at hc);try omega))
 refine Ok.lp (fun m t g=>∃ (i:Nat) (u:V),m=L.length-i/\i<=L.length/\get 1 t=sv a/\get 2 t=sv b/\get 7 t=u/\get 10 t=v/\get 11 t=.i .i64 (L.length:Int)/\get 12 t=.i .i64 (i:Int)/\Rt g u ((L.take i).filter (E6 a b))/\(∀ q,Al u q->B.val h.next<=B.val q)/\AU AO h g) L.length ?_ ?_
 ·simp(disch:=first|omega|(simp only[AI];omega))only[AJ,↓AB,↓reduceIte,seval]
  refine⟨0,.l0,by omega,by omega,?_⟩
  refine⟨?_,?_,?_,?_,?_,?_,Gr.nil,?_,AU.refl _ _⟩
  rotate_right
  ·rintro i ⟨_,_,_,_,_,e⟩;cases e
  all_goals first|trivial|rfl
 rintro I hI m t g ⟨i,u,rfl,hi,f1,f2,f7,f10,f11,f12,bu,own,st⟩
 have hfg:=st.fl hf
 have Lg:=hL.grow st
 by_cases hil:i<L.length
 case neg=>
  obtain rfl:i=L.length:=by omega
  rw[List.take_length]at bu
  have d1:((L.length:Int)<(L.length:Int))=False:=eq_false (by omega)
  repeat' (first
   |refine St.h ?_
   |simp(disch:=first|omega|(simp only[AI];omega))only[AJ,↓AB,↓reduceIte,seval,f1,f2,f7,f10,f11,f12,d1]
   |(with_reducible (first|apply AE|apply AD))<;>(intro hc;(try simp only[AX]at hc);(try simp only[hc]);(try simp only[AV]at hc);try omega))
  subst hQ
  exact⟨bu,own,st⟩
 have d1:((i:Int)<(L.length:Int))=True:=eq_true (by omega)
 have tp:=Ef (p:=E6 a b) hil
 have hlen:((L.take i).filter (E6 a b)).length<=1000:=by
  have:=List.length_filter_le (E6 a b) (L.take i)
  rw[List.length_take]at this;omega
 repeat' (first
  |refine St.h ?_
  |simp(disch:=first|omega|(simp only[AI];omega))only[AJ,↓AB,↓reduceIte,seval,f1,f2,f7,f10,f11,f12,d1,Lg.ix,Lg.la,Int.toNat_natCast]
  |(with_reducible (first|apply AE|apply AD))<;>(intro hc;(try simp only[AX]at hc);(try simp only[hc]);(try simp only[AV]at hc);try omega))
 refine AL.own (by simp) hfg fun g1 t1 _ o1=>?_
 repeat' (first
  |refine St.h ?_
  |simp(disch:=first|omega|(simp only[AI];omega))only[AJ,↓AB,↓reduceIte,seval,f1,f2,f7,f10,f11,f12]
  |(with_reducible (first|apply AE|apply AD))<;>(intro hc;(try simp only[AX]at hc);(try simp only[hc]);(try simp only[AV]at hc);try omega))
 refine ST.all o1 rfl rfl (by simp) (by simp) fun g2 o2 t2=>?_
 have tt:AU AO g g2:=t1.Br t2 fun q hq=>by rw[hq];exact Nat.le_refl _
 have hf2:=tt.fl hfg
 have b2:=bu.grow tt
 have r2:=o2.row
 have mt:=eQ (a:=a) (b:=b) (t:=L.getD i default)
 cases c1:Op.bytesLess (L.getD i default).CT a with
 |true=>
  rw[c1]at mt
  rw[mt]at tp
  repeat' (first
   |refine St.h ?_
   |simp(disch:=first|omega|(simp only[AI];omega))only[AJ,↓AB,↓reduceIte,seval,f1,f2,f7,f10,f11,f12,r2.l1,c1]
   |(with_reducible (first|apply AE|apply AD))<;>(intro hc;(try simp only[AX]at hc);(try simp only[hc]);(try simp only[AV]at hc);try omega))
  exact Ah hI (L.length-(i+1)) (by omega) ⟨i+1,u,rfl,by omega,by simp(disch:=first|omega|(simp only[AI];omega))only[AJ,↓AB,↓reduceIte,seval,f1],by simp(disch:=first|omega|(simp only[AI];omega))only[AJ,↓AB,↓reduceIte,seval,f2],by simp(disch:=first|omega|(simp only[AI];omega))only[AJ,↓AB,↓reduceIte,seval,f7],by simp(disch:=first|omega|(simp only[AI];omega))only[AJ,↓AB,↓reduceIte,seval,f10],by simp(disch:=first|omega|(simp only[AI];omega))only[AJ,↓AB,↓reduceIte,seval,f11],by simp(disch:=first|omega|(simp only[AI];omega))only[AJ,↓AB,↓reduceIte,seval,f12];rfl,by rw[tp];simpa using b2,own,st.trans tt⟩
 |false=>
 cases c2:(Op.bytesLess (L.getD i default).fst b||decide ((L.getD i default).fst=b))with
 |false=>
  rw[c1,c2]at mt
  rw[mt]at tp
  repeat' (first
   |refine St.h ?_
   |simp(disch:=first|omega|(simp only[AI];omega))only[AJ,↓AB,↓reduceIte,seval,f1,f2,f7,f10,f11,f12,r2.l1,c1,c2]
   |(with_reducible (first|apply AE|apply AD))<;>(intro hc;(try simp only[AX]at hc);(try simp only[hc]);(try simp only[AV]at hc);try omega))
  exact Ah hI (L.length-(i+1)) (by omega) ⟨i+1,u,rfl,by omega,by simp(disch:=first|omega|(simp only[AI];omega))only[AJ,↓AB,↓reduceIte,seval,f1],by simp(disch:=first|omega|(simp only[AI];omega))only[AJ,↓AB,↓reduceIte,seval,f2],by simp(disch:=first|omega|(simp only[AI];omega))only[AJ,↓AB,↓reduceIte,seval,f7],by simp(disch:=first|omega|(simp only[AI];omega))only[AJ,↓AB,↓reduceIte,seval,f10],by simp(disch:=first|omega|(simp only[AI];omega))only[AJ,↓AB,↓reduceIte,seval,f11],by simp(disch:=first|omega|(simp only[AI];omega))only[AJ,↓AB,↓reduceIte,seval,f12];rfl,by rw[tp];simpa using b2,own,st.trans tt⟩
 |true=>
  rw[c1,c2]at mt
  rw[mt]at tp
  repeat' (first
   |refine St.h ?_
   |simp(disch:=first|omega|(simp only[AI];omega))only[AJ,↓AB,↓reduceIte,seval,f1,f2,f7,f10,f11,f12,r2.l1,r2.ln,c1,c2]
   |(with_reducible (first|apply AE|apply AD))<;>(intro hc;(try simp only[AX]at hc);(try simp only[hc]);(try simp only[AV]at hc);try omega))
  refine AL.own (by simp) hf2 fun g3 t3 _ o3=>?_
  repeat' (first
   |refine St.h ?_
   |simp(disch:=first|omega|(simp only[AI];omega))only[AJ,↓AB,↓reduceIte,seval,f1,f2,f7,f10,f11,f12]
   |(with_reducible (first|apply AE|apply AD))<;>(intro hc;(try simp only[AX]at hc);(try simp only[hc]);(try simp only[AV]at hc);try omega))
  refine Df (x:=L.getD i default) (b2.grow t3) o3 (by omega) (t3.fl hf2) fun u4 g4 b4 t4 own4=>?_
  repeat' (first
   |refine St.h ?_
   |simp(disch:=first|omega|(simp only[AI];omega))only[AJ,↓AB,↓reduceIte,seval,f1,f2,f7,f10,f11,f12]
   |(with_reducible (first|apply AE|apply AD))<;>(intro hc;(try simp only[AX]at hc);(try simp only[hc]);(try simp only[AV]at hc);try omega))
  refine Ah hI (L.length-(i+1)) (by omega) ⟨i+1,u4,rfl,by omega,by simp(disch:=first|omega|(simp only[AI];omega))only[AJ,↓AB,↓reduceIte,seval,f1],by simp(disch:=first|omega|(simp only[AI];omega))only[AJ,↓AB,↓reduceIte,seval,f2],by simp(disch:=first|omega|(simp only[AI];omega))only[AJ,↓AB,↓reduceIte,seval],by simp(disch:=first|omega|(simp only[AI];omega))only[AJ,↓AB,↓reduceIte,seval,f10],by simp(disch:=first|omega|(simp only[AI];omega))only[AJ,↓AB,↓reduceIte,seval,f11],by simp(disch:=first|omega|(simp only[AI];omega))only[AJ,↓AB,↓reduceIte,seval,f12];rfl,by rw[tp];exact b4,fun q hq=>?_,(st.trans (tt.trans t3)).Br t4 fun q hq=>own q hq⟩
  rcases own4 q hq with h5|h5
  ·exact own q h5
  ·exact Nat.le_trans (st.trans (tt.trans t3)).next h5
section
variable {h:H} {b:B} {v:V} {S:JC}
theorem L8 (a:IC h b v S) (hl:S.L.length<=1000) (hf:B.val h.floor<=B.val h.next):BF Try.prog 19 [.p b 0 0 4] h fun y h'=>∃ u,y=.tu [u,.b (K5 S.L)]/\Dr h' u (I6 S.L)/\AU AO h h':=by
 have hz:=HU 0 S.L
 have ho:=HU 1 S.L
 refine BB c19 (by intro hb;cases hb) (by simp) (by simp) fun Q hQ=>?_
 simp only[Ap,Nat.reduceAdd]
 repeat' (first
  |refine St.h ?_
  |simp(disch:=first|omega|(simp only[AI];omega))only[AJ,↓AB,↓reduceIte,seval]
  |(with_reducible (first|apply AE|apply AD))<;>(intro hc;(try simp only[AX]at hc);(try simp only[hc]);(try simp only[AV]at hc);try omega))
 refine CL.mk (LM a hl hf) ?_
 rintro z g1 ⟨rz,oz,s1⟩
 have rz:Rt g1 z (CQ 0 S.L):=rz
 have tz:=rz.DF
 have hf1:=s1.fl hf
 by_cases h2:(CQ 0 S.L).length<2
 ·have d1:(((CQ 0 S.L).length:Int)<2)=True:=eq_true (by omega)
  repeat' (first
   |refine St.h ?_
   |simp(disch:=first|omega|(simp only[AI];omega))only[AJ,↓AB,↓reduceIte,seval,tz.ln,d1]
   |(with_reducible (first|apply AE|apply AD))<;>(intro hc;(try simp only[AX]at hc);(try simp only[hc]);(try simp only[AV]at hc);try omega))
  subst hQ
  exact⟨.l0,by unfold K5;rw[decide_eq_true h2];rfl,by unfold I6;rw[if_pos h2];exact Ss.nil,s1⟩
 have d1:(((CQ 0 S.L).length:Int)<2)=False:=eq_false (by omega)
 repeat' (first
  |refine St.h ?_
  |simp(disch:=first|omega|(simp only[AI];omega))only[AJ,↓AB,↓reduceIte,seval,tz.ln,d1]
  |(with_reducible (first|apply AE|apply AD))<;>(intro hc;(try simp only[AX]at hc);(try simp only[hc]);(try simp only[AV]at hc);try omega))
 refine CL.stay (Ui tz rz.sw (by omega) (by omega) hf1) fun g2 s2=>?_
 have s12:=s1.trans s2
 have hf2:=s12.fl hf
 repeat' (first
  |refine St.h ?_
  |simp(disch:=first|omega|(simp only[AI];omega))only[AJ,↓AB,↓reduceIte,seval]
  |(with_reducible (first|apply AE|apply AD))<;>(intro hc;(try simp only[AX]at hc);(try simp only[hc]);(try simp only[AV]at hc);try omega))
 refine CL.mk (LM (a.grow s12) hl hf2) ?_
 rintro o g3 ⟨ro,_,s3⟩
 have to:Dr g3 o (CQ 1 S.L):=ro.DF
 have s13:=s12.trans s3
 have hf3:=s13.fl hf
 repeat' (first
  |refine St.h ?_
  |simp(disch:=first|omega|(simp only[AI];omega))only[AJ,↓AB,↓reduceIte,seval]
  |(with_reducible (first|apply AE|apply AD))<;>(intro hc;(try simp only[AX]at hc);(try simp only[hc]);(try simp only[AV]at hc);try omega))
 refine CL.mk (J6 to (by omega) hf3) ?_
 rintro m g4 ⟨rm,_,s4⟩
 have s14:=s13.trans s4
 have hf4:=s14.fl hf
 have hm:=List.length_filter_le (E6 (Na (CQ 0 S.L)) (NZ (CQ 0 S.L))) (CQ 1 S.L)
 repeat' (first
  |refine St.h ?_
  |simp(disch:=first|omega|(simp only[AI];omega))only[AJ,↓AB,↓reduceIte,seval]
  |(with_reducible (first|apply AE|apply AD))<;>(intro hc;(try simp only[AX]at hc);(try simp only[hc]);(try simp only[AV]at hc);try omega))
 refine AP.gr (X:=MZ S.L) (rz.grow ((s2.trans s3).trans s4)) Ba (by omega) (KF rm.DF Ba (by omega)) (Q8 _) (by omega) (by have:(MZ S.L).length<=1000:=Nat.le_trans hm (by omega);omega) hf4 fun w g5 rw' s5 _=>?_
 repeat' (first
  |refine St.h ?_
  |simp(disch:=first|omega|(simp only[AI];omega))only[AJ,↓AB,↓reduceIte,seval]
  |(with_reducible (first|apply AE|apply AD))<;>(intro hc;(try simp only[AX]at hc);(try simp only[hc]);(try simp only[AV]at hc);try omega))
 subst hQ
 exact⟨w,by unfold K5;rw[decide_eq_false h2];rfl,by unfold I6;rw[if_neg h2];exact Gr.ss rw',s14.Br s5 fun q hq=>oz q hq⟩
theorem Ry {k:List UInt8} (a:IC h b v S) (hl:S.L.length<=1000) (hf:B.val h.floor<=B.val h.next):BF Try.prog 22 [.p b 0 0 4,sv k] h fun y h'=>Dr h' y (S.L.filter (E6 k k))/\AU AO h h':=by
 refine BB c22 (by intro hb;cases hb) (by simp) (by simp) fun Q hQ=>?_
 simp only[Ap,Nat.reduceAdd]
 repeat' (first
  |refine St.h ?_
  |simp(disch:=first|omega|(simp only[AI];omega))only[AJ,↓AB,↓reduceIte,seval]
  |(with_reducible (first|apply AE|apply AD))<;>(intro hc;(try simp only[AX]at hc);(try simp only[hc]);(try simp only[AV]at hc);try omega))
 refine CL.mk (J7 a hl hf) ?_
 rintro z g1 ⟨rz,_,s1⟩
 have hf1:=s1.fl hf
 repeat' (first
  |refine St.h ?_
  |simp(disch:=first|omega|(simp only[AI];omega))only[AJ,↓AB,↓reduceIte,seval]
  |(with_reducible (first|apply AE|apply AD))<;>(intro hc;(try simp only[AX]at hc);(try simp only[hc]);(try simp only[AV]at hc);try omega))
 refine CL.mk (J6 rz.DF hl hf1) ?_
 rintro m g2 ⟨rm,_,s2⟩
 repeat' (first
  |refine St.h ?_
  |simp(disch:=first|omega|(simp only[AI];omega))only[AJ,↓AB,↓reduceIte,seval]
  |(with_reducible (first|apply AE|apply AD))<;>(intro hc;(try simp only[AX]at hc);(try simp only[hc]);(try simp only[AV]at hc);try omega))
 subst hQ
 exact⟨rm.DF,s1.trans s2⟩
theorem Nb {x y:List UInt8} (a:IC h b v S) (hl:S.L.length<=1000) (hf:B.val h.floor<=B.val h.next):BF Try.prog 24 [.p b 0 0 4,sv x,sv y] h fun y' h'=>Dr h' y' (S.L.filter (FX x y))/\AU AO h h':=by
 refine BB c24 (by intro hb;cases hb) (by simp) (by simp) fun Q hQ=>?_
 simp only[Ap,Nat.reduceAdd]
 repeat' (first
  |refine St.h ?_
  |simp(disch:=first|omega|(simp only[AI];omega))only[AJ,↓AB,↓reduceIte,seval]
  |(with_reducible (first|apply AE|apply AD))<;>(intro hc;(try simp only[AX]at hc);(try simp only[hc]);(try simp only[AV]at hc);try omega))
 refine CL.mk (J7 a hl hf) ?_
 rintro z g0 ⟨rz,_,s0⟩
 have hL:=rz.DF
 have hf0:=s0.fl hf
 repeat' (first
  |refine St.h ?_
  |simp(disch:=first|omega|(simp only[AI];omega))only[AJ,↓AB,↓reduceIte,seval,hL.ln]
  |(with_reducible (first|apply AE|apply AD))<;>(intro hc;(try simp only[AX]at hc);(try simp only[hc]);(try simp only[AV]at hc);try omega))
 refine Ok.lp (fun m t g=>∃ (i:Nat) (u:V),m=S.L.length-i/\i<=S.L.length/\get 1 t=sv x/\get 2 t=sv y/\get 7 t=u/\get 11 t=z/\get 12 t=.i .i64 (S.L.length:Int)/\get 13 t=.i .i64 (i:Int)/\Rt g u ((S.L.take i).filter (FX x y))/\(∀ q,Al u q->B.val g0.next<=B.val q)/\AU AO g0 g) S.L.length ?_ ?_
 ·simp(disch:=first|omega|(simp only[AI];omega))only[AJ,↓AB,↓reduceIte,seval]
  refine⟨0,.l0,by omega,by omega,?_⟩
  refine⟨?_,?_,?_,?_,?_,?_,Gr.nil,?_,AU.refl _ _⟩
  rotate_right
  ·rintro i ⟨_,_,_,_,_,e⟩;cases e
  all_goals first|trivial|rfl
 rintro I hI m t g ⟨i,u,rfl,hi,f1,f2,f7,f11,f12,f13,bu,own,st⟩
 have hfg:=st.fl hf0
 have Lg:=hL.grow st
 by_cases hil:i<S.L.length
 case neg=>
  obtain rfl:i=S.L.length:=by omega
  rw[List.take_length]at bu
  have d1:((S.L.length:Int)<(S.L.length:Int))=False:=eq_false (by omega)
  repeat' (first
   |refine St.h ?_
   |simp(disch:=first|omega|(simp only[AI];omega))only[AJ,↓AB,↓reduceIte,seval,f1,f2,f7,f11,f12,f13,d1]
   |(with_reducible (first|apply AE|apply AD))<;>(intro hc;(try simp only[AX]at hc);(try simp only[hc]);(try simp only[AV]at hc);try omega))
  subst hQ
  exact⟨bu.DF,s0.trans st⟩
 have d1:((i:Int)<(S.L.length:Int))=True:=eq_true (by omega)
 have tp:=Ef (p:=FX x y) hil
 have hlen:((S.L.take i).filter (FX x y)).length<=1000:=by
  have:=List.length_filter_le (FX x y) (S.L.take i)
  rw[List.length_take]at this;omega
 repeat' (first
  |refine St.h ?_
  |simp(disch:=first|omega|(simp only[AI];omega))only[AJ,↓AB,↓reduceIte,seval,f1,f2,f7,f11,f12,f13,d1,Lg.ix,Lg.la,Int.toNat_natCast]
  |(with_reducible (first|apply AE|apply AD))<;>(intro hc;(try simp only[AX]at hc);(try simp only[hc]);(try simp only[AV]at hc);try omega))
 refine AL.own (by simp) hfg fun g1 t1 _ o1=>?_
 repeat' (first
  |refine St.h ?_
  |simp(disch:=first|omega|(simp only[AI];omega))only[AJ,↓AB,↓reduceIte,seval,f1,f2,f7,f11,f12,f13]
  |(with_reducible (first|apply AE|apply AD))<;>(intro hc;(try simp only[AX]at hc);(try simp only[hc]);(try simp only[AV]at hc);try omega))
 refine ST.all o1 rfl rfl (by simp) (by simp) fun g2 o2 t2=>?_
 have tt:AU AO g g2:=t1.Br t2 fun q hq=>by rw[hq];exact Nat.le_refl _
 have hf2:=tt.fl hfg
 have b2:=bu.grow tt
 have r2:=o2.row
 have skip:FX x y (S.L.getD i default)=false->Rt g2 u ((S.L.take (i+1)).filter (FX x y)):=fun e=>by rw[tp,e];simpa using b2
 have keep:FX x y (S.L.getD i default)=true->(S.L.take (i+1)).filter (FX x y)=(S.L.take i).filter (FX x y)++[S.L.getD i default]:=fun e=>by rw[tp,e];rfl
 cases c1:Op.bytesLess (S.L.getD i default).CT x with
 |true=>
  repeat' (first
   |refine St.h ?_
   |simp(disch:=first|omega|(simp only[AI];omega))only[AJ,↓AB,↓reduceIte,seval,f1,f2,f7,f11,f12,f13,r2.l1,c1]
   |(with_reducible (first|apply AE|apply AD))<;>(intro hc;(try simp only[AX]at hc);(try simp only[hc]);(try simp only[AV]at hc);try omega))
  exact Ah hI (S.L.length-(i+1)) (by omega) ⟨i+1,u,rfl,by omega,by simp(disch:=first|omega|(simp only[AI];omega))only[AJ,↓AB,↓reduceIte,seval,f1],by simp(disch:=first|omega|(simp only[AI];omega))only[AJ,↓AB,↓reduceIte,seval,f2],by simp(disch:=first|omega|(simp only[AI];omega))only[AJ,↓AB,↓reduceIte,seval,f7],by simp(disch:=first|omega|(simp only[AI];omega))only[AJ,↓AB,↓reduceIte,seval,f11],by simp(disch:=first|omega|(simp only[AI];omega))only[AJ,↓AB,↓reduceIte,seval,f12],by simp(disch:=first|omega|(simp only[AI];omega))only[AJ,↓AB,↓reduceIte,seval,f13];rfl,skip (by unfold FX;rw[c1];rfl),own,st.trans tt⟩
 |false=>
 cases c3:decide (y=[])with
 |true=>
  have c3':sv y=.s 0 0:=by rw[of_decide_eq_true c3];rfl
  repeat' (first
   |refine St.h ?_
   |simp(disch:=first|omega|(simp only[AI];omega))only[AJ,↓AB,↓reduceIte,seval,f1,f2,f7,f11,f12,f13,r2.l1,r2.ln,c1,c3]
   |(with_reducible (first|apply AE|apply AD))<;>(intro hc;(try simp only[AX]at hc);(try simp only[hc]);(try simp only[AV]at hc);try omega))
  refine AL.own (by simp) hf2 fun g3 t3 _ o3=>?_
  repeat' (first
   |refine St.h ?_
   |simp(disch:=first|omega|(simp only[AI];omega))only[AJ,↓AB,↓reduceIte,seval,f1,f2,f7,f11,f12,f13]
   |(with_reducible (first|apply AE|apply AD))<;>(intro hc;(try simp only[AX]at hc);(try simp only[hc]);(try simp only[AV]at hc);try omega))
  refine Df (x:=S.L.getD i default) (b2.grow t3) o3 (by omega) (t3.fl hf2) fun u4 g4 b4 t4 own4=>?_
  repeat' (first
   |refine St.h ?_
   |simp(disch:=first|omega|(simp only[AI];omega))only[AJ,↓AB,↓reduceIte,seval,f1,f2,f7,f11,f12,f13]
   |(with_reducible (first|apply AE|apply AD))<;>(intro hc;(try simp only[AX]at hc);(try simp only[hc]);(try simp only[AV]at hc);try omega))
  refine Ah hI (S.L.length-(i+1)) (by omega) ⟨i+1,u4,rfl,by omega,by simp(disch:=first|omega|(simp only[AI];omega))only[AJ,↓AB,↓reduceIte,seval,f1],by simp(disch:=first|omega|(simp only[AI];omega))only[AJ,↓AB,↓reduceIte,seval,f2],by simp(disch:=first|omega|(simp only[AI];omega))only[AJ,↓AB,↓reduceIte,seval],by simp(disch:=first|omega|(simp only[AI];omega))only[AJ,↓AB,↓reduceIte,seval,f11],by simp(disch:=first|omega|(simp only[AI];omega))only[AJ,↓AB,↓reduceIte,seval,f12],by simp(disch:=first|omega|(simp only[AI];omega))only[AJ,↓AB,↓reduceIte,seval,f13];rfl,by rw[keep (by unfold FX;rw[c1,c3];rfl)];exact b4,fun q hq=>?_,(st.trans (tt.trans t3)).Br t4 fun q hq=>own q hq⟩
  rcases own4 q hq with h5|h5
  ·exact own q h5
  ·exact Nat.le_trans (st.trans (tt.trans t3)).next h5
 |false=>
 cases c2:Op.bytesLess (S.L.getD i default).fst y with
 |false=>
  repeat' (first
   |refine St.h ?_
   |simp(disch:=first|omega|(simp only[AI];omega))only[AJ,↓AB,↓reduceIte,seval,f1,f2,f7,f11,f12,f13,r2.l1,c1,c3,c2]
   |(with_reducible (first|apply AE|apply AD))<;>(intro hc;(try simp only[AX]at hc);(try simp only[hc]);(try simp only[AV]at hc);try omega))
  exact Ah hI (S.L.length-(i+1)) (by omega) ⟨i+1,u,rfl,by omega,by simp(disch:=first|omega|(simp only[AI];omega))only[AJ,↓AB,↓reduceIte,seval,f1],by simp(disch:=first|omega|(simp only[AI];omega))only[AJ,↓AB,↓reduceIte,seval,f2],by simp(disch:=first|omega|(simp only[AI];omega))only[AJ,↓AB,↓reduceIte,seval,f7],by simp(disch:=first|omega|(simp only[AI];omega))only[AJ,↓AB,↓reduceIte,seval,f11],by simp(disch:=first|omega|(simp only[AI];omega))only[AJ,↓AB,↓reduceIte,seval,f12],by simp(disch:=first|omega|(simp only[AI];omega))only[AJ,↓AB,↓reduceIte,seval,f13];rfl,skip (by unfold FX;rw[c1,c3,c2];rfl),own,st.trans tt⟩
 |true=>
  repeat' (first
   |refine St.h ?_
   |simp(disch:=first|omega|(simp only[AI];omega))only[AJ,↓AB,↓reduceIte,seval,f1,f2,f7,f11,f12,f13,r2.l1,r2.ln,c1,c3,c2]
   |(with_reducible (first|apply AE|apply AD))<;>(intro hc;(try simp only[AX]at hc);(try simp only[hc]);(try simp only[AV]at hc);try omega))
  refine AL.own (by simp) hf2 fun g3 t3 _ o3=>?_
  repeat' (first
   |refine St.h ?_
   |simp(disch:=first|omega|(simp only[AI];omega))only[AJ,↓AB,↓reduceIte,seval,f1,f2,f7,f11,f12,f13]
   |(with_reducible (first|apply AE|apply AD))<;>(intro hc;(try simp only[AX]at hc);(try simp only[hc]);(try simp only[AV]at hc);try omega))
  refine Df (x:=S.L.getD i default) (b2.grow t3) o3 (by omega) (t3.fl hf2) fun u4 g4 b4 t4 own4=>?_
  repeat' (first
   |refine St.h ?_
   |simp(disch:=first|omega|(simp only[AI];omega))only[AJ,↓AB,↓reduceIte,seval,f1,f2,f7,f11,f12,f13]
   |(with_reducible (first|apply AE|apply AD))<;>(intro hc;(try simp only[AX]at hc);(try simp only[hc]);(try simp only[AV]at hc);try omega))
  refine Ah hI (S.L.length-(i+1)) (by omega) ⟨i+1,u4,rfl,by omega,by simp(disch:=first|omega|(simp only[AI];omega))only[AJ,↓AB,↓reduceIte,seval,f1],by simp(disch:=first|omega|(simp only[AI];omega))only[AJ,↓AB,↓reduceIte,seval,f2],by simp(disch:=first|omega|(simp only[AI];omega))only[AJ,↓AB,↓reduceIte,seval],by simp(disch:=first|omega|(simp only[AI];omega))only[AJ,↓AB,↓reduceIte,seval,f11],by simp(disch:=first|omega|(simp only[AI];omega))only[AJ,↓AB,↓reduceIte,seval,f12],by simp(disch:=first|omega|(simp only[AI];omega))only[AJ,↓AB,↓reduceIte,seval,f13];rfl,by rw[keep (by unfold FX;rw[c1,c3,c2];rfl)];exact b4,fun q hq=>?_,(st.trans (tt.trans t3)).Br t4 fun q hq=>own q hq⟩
  rcases own4 q hq with h5|h5
  ·exact own q h5
  ·exact Nat.le_trans (st.trans (tt.trans t3)).next h5
end
end Go.Proofs.Ytobfgempjekjpaa
set_option maxRecDepth 100000
set_option maxHeartbeats 8000000
namespace Go.Proofs.Ytobfgempjekjpaa
open Go Go.Ev
def rj (Mid:F->H->Prop):Ev.X->F->H->Prop
 |.normal,t,h=>Mid t h
 |_,_,_=>False
theorem dT {Mid:F->H->Prop} {t:F} {h:H}:rj Mid .normal t h=Mid t h:=rfl
theorem Ve {P:Program} {nt:Nat} {a b:CC} {t:F} {h:H} {K:Ev.X->F->H->Prop} (Mid:F->H->Prop) (p:Ok P nt a t h (rj Mid)) (k:∀ t g,Mid t g->Ok P nt b t g K):Ok P nt (.seq a b) t h K:=
 Ok.sq (p.mono fun x t g m=>by cases x with
  |normal=>exact k t g m
  |ret=>exact m.elim
  |exit id=>exact m.elim)
theorem any_push {L:List BU} {p:BU->Bool} {j:Nat} (hj:j<L.length):(L.take (j+1)).any p=((L.take j).any p||p (L.getD j default)):=by
 have:L.take (j+1)=L.take j++[L.getD j default]:=by rw[List.take_succ];simp[List.getD,hj]
 rw[this,List.any_append];simp
theorem T9 {L:List BU} {g:List Int} {k:Nat} (hk:k<g.length) (h:L.any (fun t=>decide (t.id=g.getD k 0))=false):QP L g=false:=by
 refine List.all_eq_false.2 ⟨g.getD k 0,?_,by rw[h];simp⟩
 simp[List.getD,hk]
theorem Qr {L:List BU} {g:List Int} (h:∀ k,k<g.length->L.any (fun t=>decide (t.id=g.getD k 0))=true):QP L g=true:=by
 refine List.all_eq_true.2 fun x hx=>?_
 obtain⟨k,hk,rfl⟩:=List.mem_iff_getElem.1 hx
 have:=h k hk
 rwa [List.getD_eq_getElem?_getD,List.getElem?_eq_getElem hk]at this
theorem VS (L:List BU) (t:BU):(G4 L t).length=L.length+1:=(Hz L t).length_eq
theorem cG {h:H} {b:B} {v g c:V} {S:JC} {e:Ki} (a:IC h b v S) (hl:S.L.length<=100) (m:Qe h g c e) (hgl:e.gone.length<=100) (hcm:e.Aa.length<=100) (hf:B.val h.floor<=B.val h.next) (hcb:∀ q,Al c q->q≠b):
 BF Try.prog 12 [.p b 0 0 4,.a [g,c,.i .i64 e.log,.i .i64 e.seq]] h fun y h'=>y=.i .i64 (IL S e).1/\∃ v',IC h' b v' (IL S e).2/\(∀ q,Al v' q->Al v q\/B.val h.next<=B.val q)/\AU (fun q=>q=b) h h':=by
 refine BB c12 (by intro hb;cases hb) (by simp) (by simp) fun Q hQ=>?_
 simp only[Ap,Nat.reduceAdd]
 repeat' (first
  |refine St.h ?_
  |simp(disch:=first|omega|(simp only[AI];omega))only[AJ,↓AB,↓reduceIte,seval]
  |(with_reducible (first|apply AE|apply AD))<;>(intro hc;(try simp only[AX]at hc);(try simp only[hc]);(try simp only[AV]at hc);try omega))
 refine AL.own (by simp) hf fun h1 s1 n1 o1=>?_
 have hf1:=s1.fl hf
 have r1:=o1.row
 repeat' (first
  |refine St.h ?_
  |simp(disch:=first|omega|(simp only[AI];omega))only[AJ,↓AB,↓reduceIte,seval,r1.ln]
  |(with_reducible (first|apply AE|apply AD))<;>(intro hc;(try simp only[AX]at hc);(try simp only[hc]);(try simp only[AV]at hc);try omega))
 refine CL.stay (Qh (m.grow s1) (by omega) (by omega) hf1) fun h2 s2=>?_
 have s12:=s1.trans s2
 have hf2:=s12.fl hf
 have up:∀ {h'},AU AO h h'->AU (fun q=>q=b) h h':=fun s=>s.mono fun _ _ e=>e.elim
 cases he:JH e with
 |false=>
  have ed:IL S e=(10,S):=by unfold IL;rw[if_pos he]
  repeat' (first
   |refine St.h ?_
   |simp(disch:=first|omega|(simp only[AI];omega))only[AJ,↓AB,↓reduceIte,seval]
   |(with_reducible (first|apply AE|apply AD))<;>(intro hc;(try simp only[AX]at hc);(try simp only[hc]);(try simp only[AV]at hc);try omega))
  subst hQ
  rw[ed]
  exact⟨rfl,v,a.grow s12,fun q hq=>.inl hq,up s12⟩
 |true=>
 have IE:=Jg.1 he
 repeat' (first
  |refine St.h ?_
  |simp(disch:=first|omega|(simp only[AI];omega))only[AJ,↓AB,↓reduceIte,seval]
  |(with_reducible (first|apply AE|apply AD))<;>(intro hc;(try simp only[AX]at hc);(try simp only[hc]);(try simp only[AV]at hc);try omega))
 --what is left
 refine Ok.lp (fun m t g'=>∃ (i:Nat) (u:V),m=S.L.length-i/\i<=S.L.length/\get 0 t=.p b 0 0 4/\get 3 t=.p h.next 0 0 4/\get 5 t=u/\get 6 t=.i .i64 (i:Int)/\Rt g' u (CH (S.L.take i) e.gone)/\(∀ q,Al u q->B.val h1.next<=B.val q)/\AU AO h1 g') S.L.length ?_ ?_
 ·simp(disch:=first|omega|(simp only[AI];omega))only[AJ,↓AB,↓reduceIte,seval]
  refine⟨0,.l0,by omega,by omega,?_⟩
  refine⟨?_,?_,?_,?_,Gr.nil,?_,s2⟩
  rotate_right
  ·rintro i ⟨_,_,_,_,_,e⟩;cases e
  all_goals first|trivial|rfl
 rintro I hI mm t g1 ⟨i,u,rfl,hi,f0,f3,f5,f6,bu,own,st⟩
 have ag:=a.grow (s1.trans st)
 have mg:=m.grow (s1.trans st)
 have rg:=ag.1.row
 have Lg:=ag.2.1
 have rb:=(o1.stay st fun e=>e).row
 have hfg:=st.fl hf1
 by_cases hil:i<S.L.length
 ·have d1:((i:Int)<(S.L.length:Int))=True:=eq_true (by omega)
  have hlen:(CH (S.L.take i) e.gone).length<=1000:=by
   have:=List.length_filter_le (fun t:BU=>!HZ e.gone t.id) (S.L.take i)
   rw[List.length_take]at this;show(List.filter _ _).length<=_;omega
  have filt:CH (S.L.take (i+1)) e.gone=CH (S.L.take i) e.gone++_:=Ef (p:=fun t=>!HZ e.gone t.id) hil
  repeat' (first
   |refine St.h ?_
   |simp(disch:=first|omega|(simp only[AI];omega))only[AJ,↓AB,↓reduceIte,seval,f0,f3,f5,f6,d1,rg.l1,rb.l1,Lg.ln,Lg.ix,Lg.l0,Int.toNat_natCast]
   |(with_reducible (first|apply AE|apply AD))<;>(intro hc;(try simp only[AX]at hc);(try simp only[hc]);(try simp only[AV]at hc);try omega))
  refine CL.pure (Sf mg.1 (by omega)) ?_
  cases hb:HZ e.gone (S.L.getD i default).id with
  |true=>
   rw[hb,if_neg (by simp),List.append_nil]at filt
   repeat' (first
    |refine St.h ?_
    |simp(disch:=first|omega|(simp only[AI];omega))only[AJ,↓AB,↓reduceIte,seval,f0,f3,f5,f6]
    |(with_reducible (first|apply AE|apply AD))<;>(intro hc;(try simp only[AX]at hc);(try simp only[hc]);(try simp only[AV]at hc);try omega))
   exact Ah hI (S.L.length-(i+1)) (by omega) ⟨i+1,u,rfl,by omega,by simp(disch:=first|omega|(simp only[AI];omega))only[AJ,↓AB,↓reduceIte,seval,f0],by simp(disch:=first|omega|(simp only[AI];omega))only[AJ,↓AB,↓reduceIte,seval,f3],by simp(disch:=first|omega|(simp only[AI];omega))only[AJ,↓AB,↓reduceIte,seval,f5],by simp(disch:=first|omega|(simp only[AI];omega))only[AJ,↓AB,↓reduceIte,seval,f6];rfl,by rw[filt];exact bu,own,st⟩
  |false=>
   rw[hb,if_pos (by simp)]at filt
   repeat' (first
    |refine St.h ?_
    |simp(disch:=first|omega|(simp only[AI];omega))only[AJ,↓AB,↓reduceIte,seval,f0,f3,f5,f6,rg.l1,Lg.ix,Lg.la,Int.toNat_natCast]
    |(with_reducible (first|apply AE|apply AD))<;>(intro hc;(try simp only[AX]at hc);(try simp only[hc]);(try simp only[AV]at hc);try omega))
   refine AL.own (by simp) hfg fun g3 t3 _ o3=>?_
   repeat' (first
    |refine St.h ?_
    |simp(disch:=first|omega|(simp only[AI];omega))only[AJ,↓AB,↓reduceIte,seval,f0,f3,f5,f6]
    |(with_reducible (first|apply AE|apply AD))<;>(intro hc;(try simp only[AX]at hc);(try simp only[hc]);(try simp only[AV]at hc);try omega))
   refine Df (x:=S.L.getD i default) (bu.grow t3) o3 (by omega) (t3.fl hfg) fun u4 g4 b4 t4 own4=>?_
   repeat' (first
    |refine St.h ?_
    |simp(disch:=first|omega|(simp only[AI];omega))only[AJ,↓AB,↓reduceIte,seval,f0,f3,f5,f6]
    |(with_reducible (first|apply AE|apply AD))<;>(intro hc;(try simp only[AX]at hc);(try simp only[hc]);(try simp only[AV]at hc);try omega))
   have st3:=st.trans t3
   refine Ah hI (S.L.length-(i+1)) (by omega) ⟨i+1,u4,rfl,by omega,by simp(disch:=first|omega|(simp only[AI];omega))only[AJ,↓AB,↓reduceIte,seval,f0],by simp(disch:=first|omega|(simp only[AI];omega))only[AJ,↓AB,↓reduceIte,seval,f3],by simp(disch:=first|omega|(simp only[AI];omega))only[AJ,↓AB,↓reduceIte,seval],by simp(disch:=first|omega|(simp only[AI];omega))only[AJ,↓AB,↓reduceIte,seval,f6];rfl,by rw[filt];exact b4,fun q hq=>?_,st3.Br t4 fun q hq=>own q hq⟩
   rcases own4 q hq with h5|h5
   ·exact own q h5
   ·exact Nat.le_trans st3.next h5
 obtain rfl:i=S.L.length:=by omega
 rw[List.take_length]at bu
 have d1:((S.L.length:Int)<(S.L.length:Int))=False:=eq_false (by omega)
 repeat' (first
  |refine St.h ?_
  |simp(disch:=first|omega|(simp only[AI];omega))only[AJ,↓AB,↓reduceIte,seval,f0,f3,f5,f6,d1,rg.l1,Lg.ln]
  |(with_reducible (first|apply AE|apply AD))<;>(intro hc;(try simp only[AX]at hc);(try simp only[hc]);(try simp only[AV]at hc);try omega))
 --whether all that go are there
 refine Ok.lp (fun m t g'=>∃ k:Nat,m=e.gone.length-k/\k<=e.gone.length/\get 0 t=.p b 0 0 4/\get 3 t=.p h.next 0 0 4/\get 5 t=u/\g1=g'/\get 7 t=.i .i64 (k:Int)/\(∀ x,x<k->S.L.any (fun t=>decide (t.id=e.gone.getD x 0))=true)) e.gone.length ?_ ?_
 ·simp(disch:=first|omega|(simp only[AI];omega))only[AJ,↓AB,↓reduceIte,seval,f0,f3,f5]
  refine⟨0,by omega,by omega,?_⟩
  refine⟨?_,?_,?_,?_,?_,fun x hx=>by omega⟩
  all_goals first|trivial|rfl
 rintro J hJ mm t _ ⟨k,rfl,hk,f0,f3,f5,rfl,f7,hall⟩
 by_cases hkl:k<e.gone.length
 ·have d2:((k:Int)<(e.gone.length:Int))=True:=eq_true (by omega)
  repeat' (first
   |refine St.h ?_
   |simp(disch:=first|omega|(simp only[AI];omega))only[AJ,↓AB,↓reduceIte,seval,f0,f3,f5,f7,d2,rb.l1,mg.1.ln]
   |(with_reducible (first|apply AE|apply AD))<;>(intro hc;(try simp only[AX]at hc);(try simp only[hc]);(try simp only[AV]at hc);try omega))
  refine Ok.lp (fun m t g'=>∃ j:Nat,m=S.L.length-j/\j<=S.L.length/\get 0 t=.p b 0 0 4/\get 3 t=.p h.next 0 0 4/\get 5 t=u/\g1=g'/\get 7 t=.i .i64 (k:Int)/\get 8 t=.b ((S.L.take j).any fun t=>decide (t.id=e.gone.getD k 0))/\get 9 t=.i .i64 (j:Int)) S.L.length ?_ ?_
  ·simp(disch:=first|omega|(simp only[AI];omega))only[AJ,↓AB,↓reduceIte,seval,f0,f3,f5,f7]
   refine⟨0,by omega,by omega,?_⟩
   refine⟨?_,?_,?_,?_,?_,?_⟩
   all_goals first|trivial|rfl
  rintro J2 hJ2 mm t _ ⟨j,rfl,hj,f0,f3,f5,rfl,f7,f8,f9⟩
  by_cases hjl:j<S.L.length
  ·have d3:((j:Int)<(S.L.length:Int))=True:=eq_true (by omega)
   have ap:=any_push (p:=fun t=>decide (t.id=e.gone.getD k 0)) hjl
   cases h8:(S.L.take j).any fun t=>decide (t.id=e.gone.getD k 0)with
   |true=>
    rw[h8]at f8 ap
    repeat' (first
     |refine St.h ?_
     |simp(disch:=first|omega|(simp only[AI];omega))only[AJ,↓AB,↓reduceIte,seval,f0,f3,f5,f7,f8,f9,d3,rg.l1,Lg.ln]
     |(with_reducible (first|apply AE|apply AD))<;>(intro hc;(try simp only[AX]at hc);(try simp only[hc]);(try simp only[AV]at hc);try omega))
    exact Ah hJ2 (S.L.length-(j+1)) (by omega) ⟨j+1,rfl,by omega,by simp(disch:=first|omega|(simp only[AI];omega))only[AJ,↓AB,↓reduceIte,seval,f0],by simp(disch:=first|omega|(simp only[AI];omega))only[AJ,↓AB,↓reduceIte,seval,f3],by simp(disch:=first|omega|(simp only[AI];omega))only[AJ,↓AB,↓reduceIte,seval,f5],rfl,by simp(disch:=first|omega|(simp only[AI];omega))only[AJ,↓AB,↓reduceIte,seval,f7],by rw[ap];simp(disch:=first|omega|(simp only[AI];omega))only[AJ,↓AB,↓reduceIte,seval];rfl,by simp(disch:=first|omega|(simp only[AI];omega))only[AJ,↓AB,↓reduceIte,seval,f9];rfl⟩
   |false=>
    rw[h8,Bool.false_or]at ap
    rw[h8]at f8
    repeat' (first
     |refine St.h ?_
     |simp(disch:=first|omega|(simp only[AI];omega))only[AJ,↓AB,↓reduceIte,seval,f0,f3,f5,f7,f8,f9,d3,rg.l1,rb.l1,Lg.ln,Lg.ix,Lg.l0,mg.1.ix,mg.1.ld,Int.toNat_natCast]
     |(with_reducible (first|apply AE|apply AD))<;>(intro hc;(try simp only[AX]at hc);(try simp only[hc]);(try simp only[AV]at hc);try omega))
    exact Ah hJ2 (S.L.length-(j+1)) (by omega) ⟨j+1,rfl,by omega,by simp(disch:=first|omega|(simp only[AI];omega))only[AJ,↓AB,↓reduceIte,seval,f0],by simp(disch:=first|omega|(simp only[AI];omega))only[AJ,↓AB,↓reduceIte,seval,f3],by simp(disch:=first|omega|(simp only[AI];omega))only[AJ,↓AB,↓reduceIte,seval,f5],rfl,by simp(disch:=first|omega|(simp only[AI];omega))only[AJ,↓AB,↓reduceIte,seval,f7],by rw[ap];simp(disch:=first|omega|(simp only[AI];omega))only[AJ,↓AB,↓reduceIte,seval],by simp(disch:=first|omega|(simp only[AI];omega))only[AJ,↓AB,↓reduceIte,seval,f9];rfl⟩
  obtain rfl:j=S.L.length:=by omega
  rw[List.take_length]at f8
  have d3:((S.L.length:Int)<(S.L.length:Int))=False:=eq_false (by omega)
  cases h8:S.L.any fun t=>decide (t.id=e.gone.getD k 0)with
  |true=>
   rw[h8]at f8
   repeat' (first
    |refine St.h ?_
    |simp(disch:=first|omega|(simp only[AI];omega))only[AJ,↓AB,↓reduceIte,seval,f0,f3,f5,f7,f8,f9,d3,rg.l1,Lg.ln]
    |(with_reducible (first|apply AE|apply AD))<;>(intro hc;(try simp only[AX]at hc);(try simp only[hc]);(try simp only[AV]at hc);try omega))
   refine Ah hJ (e.gone.length-(k+1)) (by omega) ⟨k+1,rfl,by omega,by simp(disch:=first|omega|(simp only[AI];omega))only[AJ,↓AB,↓reduceIte,seval,f0],by simp(disch:=first|omega|(simp only[AI];omega))only[AJ,↓AB,↓reduceIte,seval,f3],by simp(disch:=first|omega|(simp only[AI];omega))only[AJ,↓AB,↓reduceIte,seval,f5],rfl,by simp(disch:=first|omega|(simp only[AI];omega))only[AJ,↓AB,↓reduceIte,seval,f7];rfl,fun x hx=>?_⟩
   by_cases e:x=k
   ·rw[e];exact h8
   ·exact hall x (by omega)
  |false=>
   rw[h8]at f8
   have ed:IL S e=(18,S):=by unfold IL;rw[if_neg (by rw[he];simp),if_pos (T9 hkl h8)]
   repeat' (first
    |refine St.h ?_
    |simp(disch:=first|omega|(simp only[AI];omega))only[AJ,↓AB,↓reduceIte,seval,f0,f3,f5,f7,f8,f9,d3,rg.l1,Lg.ln]
    |(with_reducible (first|apply AE|apply AD))<;>(intro hc;(try simp only[AX]at hc);(try simp only[hc]);(try simp only[AV]at hc);try omega))
   subst hQ
   rw[ed]
   exact⟨rfl,v,ag,fun q hq=>.inl hq,up (s1.trans st)⟩
 obtain rfl:k=e.gone.length:=by omega
 have hh:=Qr hall
 have d2:((e.gone.length:Int)<(e.gone.length:Int))=False:=eq_false (by omega)
 have hp:FT S e=true↔((0<e.Aa.length/\(e.Aa.getD 0 default).id<S.next)\/(0<e.log/\e.log<S.log)\/(0<e.seq/\e.seq<S.seq)):=by
  unfold FT;rw[Bool.or_eq_true,Bool.or_eq_true,Bool.and_eq_true,Bool.and_eq_true,Bool.and_eq_true];simp only[decide_eq_true_eq];omega
 have k0:((0:Int)<(e.Aa.length:Int))=(0<e.Aa.length):=propext (by omega)
 cases hpa:FT S e with
 |true=>
  have ed:IL S e=(16,S):=by unfold IL;rw[if_neg (by rw[he];simp),if_neg (by rw[hh];simp),if_pos hpa]
  have hp:=hp.1 hpa
  repeat' (first
   |refine St.h ?_
   |simp(disch:=first|omega|(simp only[AI];omega))only[AJ,↓AB,↓reduceIte,seval,f0,f3,f5,f7,d2,rb.l1,rg.l1,mg.1.ln,mg.2.ln,k0,mg.2.kR,mg.2.l00]
   |(with_reducible (first|apply AE|apply AD))<;>(intro hc;(try simp only[AX]at hc);(try simp only[hc]);(try simp only[AV]at hc);try omega))
  all_goals first
   |(exfalso;omega)
   |(subst hQ
     rw[ed]
     exact⟨rfl,v,ag,fun q hq=>.inl hq,up (s1.trans st)⟩)
 |false=>
 have hp:¬((0<e.Aa.length/\(e.Aa.getD 0 default).id<S.next)\/(0<e.log/\e.log<S.log)\/(0<e.seq/\e.seq<S.seq)):=fun h=>by rw[hp.2 h]at hpa;cases hpa
 obtain⟨Mid,hMid⟩:∃ M:F->H->Prop,M=fun t g'=>get 0 t=.p b 0 0 4/\get 3 t=.p h.next 0 0 4/\get 5 t=u/\g1=g':=⟨_,rfl⟩
 repeat' (first
  |((with_reducible refine(show Ok Try.prog 232 R7 _ _ _ from ?_));refine Ve Mid ?_ ?_)
  |refine St.h ?_
  |simp(disch:=first|omega|(simp only[AI];omega))only[AJ,↓AB,↓reduceIte,seval,f0,f3,f5,f7,d2,rb.l1,rg.l1,mg.1.ln,mg.2.ln,k0,mg.2.kR,mg.2.l00,dT]
  |(with_reducible (first|apply AE|apply AD))<;>(intro hc;(try simp only[AX]at hc);(try simp only[hc]);(try simp only[AV]at hc);try omega))
 rotate_right
 all_goals try (first|(exfalso;omega)|(rw[hMid];exact⟨by simp(disch:=first|omega|(simp only[AI];omega))only[AJ,↓AB,↓reduceIte,seval,f0],by simp(disch:=first|omega|(simp only[AI];omega))only[AJ,↓AB,↓reduceIte,seval,f3],by simp(disch:=first|omega|(simp only[AI];omega))only[AJ,↓AB,↓reduceIte,seval,f5],rfl⟩))
 clear f0 f3 f5 f7
 rw[hMid]
 rintro t _ ⟨f0,f3,f5,rfl⟩
 have hll:(CH S.L e.gone).length<=100:=Nat.le_trans (List.length_filter_le _ _) hl
 have e0:IL S e=match Du (CH S.L e.gone) e.Aa with|none=>(16,S)|some M=>if 40<M.length then (25,S)else (0,TQ S e M):=by unfold IL;rw[if_neg (by rw[he];simp),if_neg (by rw[hh];simp),if_neg (by rw[hpa];simp)]<;>cases Du (CH S.L e.gone) e.Aa<;>rfl
 repeat' (first
  |refine St.h ?_
  |simp(disch:=first|omega|(simp only[AI];omega))only[AJ,↓AB,↓reduceIte,seval,f0,f3,f5]
  |(with_reducible (first|apply AE|apply AD))<;>(intro hc;(try simp only[AX]at hc);(try simp only[hc]);(try simp only[AV]at hc);try omega))
 --one after the other put in
 refine Ok.lp (fun m t g'=>∃ (k:Nat) (u:V) (A:List BU),m=e.Aa.length-k/\k<=e.Aa.length/\get 0 t=.p b 0 0 4/\get 3 t=.p h.next 0 0 4/\get 5 t=u/\get 10 t=.i .i64 (k:Int)/\Rt g' u A/\A.length<=100+k/\(∀ q,Al u q->B.val h1.next<=B.val q)/\Du (CH S.L e.gone) e.Aa=Du A (e.Aa.drop k)/\AU AO h1 g') e.Aa.length ?_ ?_
 ·simp(disch:=first|omega|(simp only[AI];omega))only[AJ,↓AB,↓reduceIte,seval,f0,f3,f5]
  refine⟨0,u,CH S.L e.gone,by omega,by omega,?_⟩
  refine⟨?_,?_,?_,?_,bu,by omega,own,by rw[List.drop_zero],st⟩
  all_goals first|trivial|rfl
 clear f0 f3 f5 hMid rg rb ag mg Lg hfg
 rintro I4 hI4 mm t g2 ⟨k,u,A,rfl,hk,f0,f3,f5,f10,bA,hA,own,eq,st⟩
 have ag:=a.grow (s1.trans st)
 have mg:=m.grow (s1.trans st)
 have rg:=ag.1.row
 have rb:=(o1.stay st fun e=>e).row
 have hfg:=st.fl hf1
 have TA:=bA.DF
 by_cases hkl:k<e.Aa.length
 ·have d2:((k:Int)<(e.Aa.length:Int))=True:=eq_true (by omega)
  have hdrop:e.Aa.drop k=e.Aa.getD k default::e.Aa.drop (k+1):=by
   rw[List.drop_eq_getElem_cons hkl,List.getD_eq_getElem?_getD,List.getElem?_eq_getElem hkl];rfl
  rw[hdrop]at eq
  have eq:Du (CH S.L e.gone) e.Aa=if A.any (fun u=>Dt u (e.Aa.getD k default))then none else Du (G4 A (e.Aa.getD k default)) (e.Aa.drop (k+1)):=eq
  repeat' (first
   |refine St.h ?_
   |simp(disch:=first|omega|(simp only[AI];omega))only[AJ,↓AB,↓reduceIte,seval,f0,f3,f5,f10,d2,rb.l1,mg.2.ln]
   |(with_reducible (first|apply AE|apply AD))<;>(intro hc;(try simp only[AX]at hc);(try simp only[hc]);(try simp only[AV]at hc);try omega))
  refine Ok.lp (fun m t g'=>∃ j:Nat,m=A.length-j/\j<=A.length/\get 0 t=.p b 0 0 4/\get 3 t=.p h.next 0 0 4/\get 5 t=u/\g2=g'/\get 10 t=.i .i64 (k:Int)/\get 11 t=.i .i64 (j:Int)/\∀ p,p<j->Dt (A.getD p default) (e.Aa.getD k default)=false) A.length ?_ ?_
  ·simp(disch:=first|omega|(simp only[AI];omega))only[AJ,↓AB,↓reduceIte,seval,f0,f3,f5,f10]
   refine⟨0,by omega,by omega,?_⟩
   refine⟨?_,?_,?_,?_,?_,?_,fun x hx=>by omega⟩
   all_goals first|trivial|rfl
  rintro J2 hJ2 mm t _ ⟨j,rfl,hj,f0,f3,f5,rfl,f10,f11,hno⟩
  by_cases hjl:j<A.length
  ·have d3:((j:Int)<(A.length:Int))=True:=eq_true (by omega)
   have l3:=Jt (a:=(A.getD j default).fst) (b:=(e.Aa.getD k default).CT)
   have l4:=Jt (a:=(e.Aa.getD k default).fst) (b:=(A.getD j default).CT)
   have stop:Dt (A.getD j default) (e.Aa.getD k default)=true->IL S e=(16,S):=fun hm=>by
    rw[if_pos (List.any_eq_true.2 ⟨_,DP hjl,hm⟩)]at eq
    rw[eq]at e0;exact e0
   have go:Dt (A.getD j default) (e.Aa.getD k default)=false->∀ p,p<j+1->Dt (A.getD p default) (e.Aa.getD k default)=false:=fun hm p hp=>by
    by_cases e:p=j
    ·rw[e];exact hm
    ·exact hno p (by omega)
   have mt:Dt (A.getD j default) (e.Aa.getD k default)=true↔((A.getD j default).A7=1/\(e.Aa.getD k default).A7=1/\Op.bytesLess (e.Aa.getD k default).CT (A.getD j default).fst=false/\Op.bytesLess (A.getD j default).CT (e.Aa.getD k default).fst=false):=by unfold Dt;exact decide_eq_true_iff
   cases h3:Op.bytesLess (e.Aa.getD k default).CT (A.getD j default).fst<;>cases h4:Op.bytesLess (A.getD j default).CT (e.Aa.getD k default).fst
   all_goals
    rw[h3]at l3
    rw[h4]at l4
    simp only[Bool.not_false,Bool.not_true]at l3 l4
    repeat' (first
     |refine St.h ?_
     |simp(disch:=first|omega|(simp only[AI];omega))only[AJ,↓AB,↓reduceIte,seval,f0,f3,f5,f10,f11,d3,rb.l1,mg.2.ln,TA.ln,TA.ix,TA.l1,TA.l2,TA.l3,mg.2.ix,mg.2.l1,mg.2.l2,mg.2.l3,l3,l4,Int.toNat_natCast]
     |(with_reducible (first|apply AE|apply AD))<;>(intro hc;(try simp only[AX]at hc);(try simp only[hc]);(try simp only[AV]at hc);try omega))
    all_goals first
     |(subst hQ
       rw[stop (mt.2 ⟨by assumption,by assumption,h3,h4⟩)]
       exact⟨rfl,v,ag,fun q hq=>.inl hq,up (s1.trans st)⟩)
     |exact Ah hJ2 (A.length-(j+1)) (by omega) ⟨j+1,rfl,by omega,by simp(disch:=first|omega|(simp only[AI];omega))only[AJ,↓AB,↓reduceIte,seval,f0],by simp(disch:=first|omega|(simp only[AI];omega))only[AJ,↓AB,↓reduceIte,seval,f3],by simp(disch:=first|omega|(simp only[AI];omega))only[AJ,↓AB,↓reduceIte,seval,f5],rfl,by simp(disch:=first|omega|(simp only[AI];omega))only[AJ,↓AB,↓reduceIte,seval,f10],by simp(disch:=first|omega|(simp only[AI];omega))only[AJ,↓AB,↓reduceIte,seval,f11];rfl,go (by
       rw[<-Bool.not_eq_true,mt]
       rintro⟨x1,x2,x3,x4⟩
       first|contradiction|(rw[h3]at x3;cases x3;done)|(rw[h4]at x4;cases x4;done))⟩
  obtain rfl:j=A.length:=by omega
  have d3:((A.length:Int)<(A.length:Int))=False:=eq_false (by omega)
  rw[if_neg (by
   rw[Bool.not_eq_true]
   refine List.any_eq_false.2 fun u hu=>?_
   obtain⟨p,hp,rfl⟩:=Fz hu
   rw[hno p hp];simp)]at eq
  repeat' (first
   |refine St.h ?_
   |simp(disch:=first|omega|(simp only[AI];omega))only[AJ,↓AB,↓reduceIte,seval,f0,f3,f5,f10,f11,d3,rb.l1,TA.ln,mg.2.ix,mg.2.la,Int.toNat_natCast]
   |(with_reducible (first|apply AE|apply AD))<;>(intro hc;(try simp only[AX]at hc);(try simp only[hc]);(try simp only[AV]at hc);try omega))
  refine CL.mk (UL TA (by omega) hfg) ?_
  rintro u4 g4 ⟨b4,own4,s4⟩
  repeat' (first
   |refine St.h ?_
   |simp(disch:=first|omega|(simp only[AI];omega))only[AJ,↓AB,↓reduceIte,seval,f0,f3,f5,f10,f11]
   |(with_reducible (first|apply AE|apply AD))<;>(intro hc;(try simp only[AX]at hc);(try simp only[hc]);(try simp only[AV]at hc);try omega))
  exact Ah hI4 (e.Aa.length-(k+1)) (by omega) ⟨k+1,u4,_,rfl,by omega,by simp(disch:=first|omega|(simp only[AI];omega))only[AJ,↓AB,↓reduceIte,seval,f0],by simp(disch:=first|omega|(simp only[AI];omega))only[AJ,↓AB,↓reduceIte,seval,f3],by simp(disch:=first|omega|(simp only[AI];omega))only[AJ,↓AB,↓reduceIte,seval],by simp(disch:=first|omega|(simp only[AI];omega))only[AJ,↓AB,↓reduceIte,seval,f10];rfl,b4,by rw[VS];omega,fun q hq=>Nat.le_trans st.next (own4 q hq),eq,st.trans s4⟩
 obtain rfl:k=e.Aa.length:=by omega
 rw[List.drop_length]at eq
 have eq:Du (CH S.L e.gone) e.Aa=some A:=eq
 rw[eq]at e0
 have d2:((e.Aa.length:Int)<(e.Aa.length:Int))=False:=eq_false (by omega)
 have s1g:=s1.trans st
 by_cases h40:40<A.length
 ·have d40:((40:Int)<(A.length:Int))=True:=eq_true (by omega)
  have ed:IL S e=(25,S):=e0.trans (if_pos h40)
  repeat' (first
   |refine St.h ?_
   |simp(disch:=first|omega|(simp only[AI];omega))only[AJ,↓AB,↓reduceIte,seval,f0,f3,f5,f10,d2,rb.l1,mg.2.ln,TA.ln,d40]
   |(with_reducible (first|apply AE|apply AD))<;>(intro hc;(try simp only[AX]at hc);(try simp only[hc]);(try simp only[AV]at hc);try omega))
  subst hQ
  rw[ed]
  exact⟨rfl,v,ag,fun q hq=>.inl hq,up s1g⟩
 have d40:((40:Int)<(A.length:Int))=False:=eq_false (by omega)
 have ed:IL S e=(0,TQ S e A):=e0.trans (if_neg h40)
 repeat' (first
  |refine St.h ?_
  |simp(disch:=first|omega|(simp only[AI];omega))only[AJ,↓AB,↓reduceIte,seval,f0,f3,f5,f10,d2,rb.l1,mg.2.ln,TA.ln,d40]
  |(with_reducible (first|apply AE|apply AD))<;>(intro hc;(try simp only[AX]at hc);(try simp only[hc]);(try simp only[AV]at hc);try omega))
 refine ST.own ag.1 (IA bA).1 (IA bA).2 (by omega) (by omega) fun h7 o7 s7=>?_
 have o7:Ev.DA h7 b [u,.i .i64 S.log,.i .i64 S.seq,.i .i64 S.next]:=o7
 have hne:h.next≠b:=fun e=>by have:=a.lt.1;rw[<-e]at this;omega
 have ob7:=(o1.stay st fun e=>e).stay s7 fun e=>hne e
 have q7:=ob7.row
 have w7:=o7.row
 repeat' (first
  |with_reducible refine TJ ?_
  |refine St.h ?_
  |simp(disch:=first|omega|(simp only[AI];omega))only[AJ,↓AB,↓reduceIte,seval,f0,f3,f5,f10,w7.l1,q7.l1]
  |(with_reducible (first|apply AE|apply AD))<;>(intro hc;(try simp only[AX]at hc);(try simp only[hc]);(try simp only[AV]at hc);try omega))
 refine Ok.R4 eT (L1:=[.mk .none (.some (AT 195)) .false (.mk (AA (tm 0))),.mk .none (.some (AT 196)) .false (.mk (AA (tm 0))),.mk .none (.some (AT 197)) .false (.mk (AA (tm 0))),.mk .none (.some (AT 198)) .false (.mk (AZ (tm 197))),.mk .none (.some (AT 199)) .false (.mk (AF 1 (tm 198))),.mk .none (.some (AT 200)) .false (.mk (AK (tm 199))),.mk .none (.some (AT 201)) .false (.mk (AF 2 (tm 3))),.mk .none (.some (AT 202)) .false (.mk (AK (tm 201))),.mk .none (.some (AT 203)) .false (.mk (ES (tm 200) (tm 202))),.mk .none (.some (AT 204)) .false (.mk (AA (tm 0))),.mk .none (.some (AT 205)) .false (.mk (AZ (tm 204))),.mk .none (.some (AT 206)) .false (.mk (AF 2 (tm 205))),.mk .none (.some (AT 207)) .false (.mk (AK (tm 206))),.mk .none (.some (AT 208)) .false (.mk (AF 3 (tm 3)))]) (L2:=[.mk .none (.some (AT 210)) .false (.mk (ES (tm 207) (tm 209))),.mk .none (.some (AT 211)) .false (.mk (AZ (tm 195))),.mk .none (.some (AT 212)) .false (.mk (AF 1 (tm 211)))]) (L3:=[.mk .none (.some (AT 213)) .true (.mk (AZ (tm 196))),.mk .none (.some (AT 214)) .false (.mk (AF 2 (tm 213)))]) (n:=209) (rl:=AK (tm 208)) (rA:=Af 1 (tm 212) (tm 203)) (rB:=Af 1 (tm 214) (tm 210)) rfl rfl rfl rfl (by decide) ?_
 repeat' (first
  |refine St.h ?_
  |simp(disch:=first|omega|(simp only[AI];omega))only[AJ,↓AB,↓reduceIte,seval,f0,f3,f5,f10,w7.l1,q7.l1]
  |(with_reducible (first|apply AE|apply AD))<;>(intro hc;(try simp only[AX]at hc);(try simp only[hc]);(try simp only[AV]at hc);try omega))
 refine⟨.i .i64 e.seq,?_⟩
 repeat' (first
  |refine St.h ?_
  |simp(disch:=first|omega|(simp only[AI];omega))only[AJ,↓AB,↓reduceIte,seval,f0,f3,f5,f10,w7.l1,q7.l1]
  |(with_reducible (first|apply AE|apply AD))<;>(intro hc;(try simp only[AX]at hc);(try simp only[hc]);(try simp only[AV]at hc);try omega))
 refine⟨trivial,?_⟩
 refine ST.own o7 rfl rfl (by omega) (by omega) fun h8 o8 s8=>?_
 have o8:Ev.DA h8 b [u,.i .i64 (max S.log e.log),.i .i64 S.seq,.i .i64 S.next]:=o8
 have ob8:=ob7.stay s8 fun e=>hne e
 have q8:=ob8.row
 have w8:=o8.row
 repeat' (first
  |refine St.h ?_
  |simp(disch:=first|omega|(simp only[AI];omega))only[AJ,↓AB,↓reduceIte,seval,f0,f3,f5,f10,w8.l1,q8.l1]
  |(with_reducible (first|apply AE|apply AD))<;>(intro hc;(try simp only[AX]at hc);(try simp only[hc]);(try simp only[AV]at hc);try omega))
 refine⟨trivial,?_⟩
 repeat' (first
  |refine St.h ?_
  |simp(disch:=first|omega|(simp only[AI];omega))only[AJ,↓AB,↓reduceIte,seval,f0,f3,f5,f10,w8.l1,q8.l1]
  |(with_reducible (first|apply AE|apply AD))<;>(intro hc;(try simp only[AX]at hc);(try simp only[hc]);(try simp only[AV]at hc);try omega))
 refine ST.own o8 rfl rfl (by omega) (by omega) fun h9 o9 s9=>?_
 have o9:Ev.DA h9 b [u,.i .i64 (max S.log e.log),.i .i64 (max S.seq e.seq),.i .i64 S.next]:=o9
 have q9:=(ob8.stay s9 fun e=>hne e).row
 have w9:=o9.row
 have s69:AU (fun q=>q=b) h h9:=(((up s1g).trans s7).trans s8).trans s9
 have nb:∀ q,Al u q->q≠b:=fun q hq e=>by have h1:=own q hq;have:=s1.next;have:=a.lt.1;rw[e]at h1;omega
 have b9:Rt h9 u A:=((bA.stay s7 nb).stay s8 nb).stay s9 nb
 have ow:∀ q,Al u q->Al v q\/B.val h.next<=B.val q:=fun q hq=>.inr (Nat.le_trans s1.next (own q hq))
 have c9:Dr h9 c e.Aa:=Ss.stay m.2 s69 hcb
 by_cases h0:0<e.Aa.length
 ·have d1:((0:Int)<(e.Aa.length:Int))=True:=eq_true (by omega)
  have ei:((e.Aa.length:Int)-1).toNat=e.Aa.length-1:=by omega
  have hi:e.Aa.length-1<e.Aa.length:=by omega
  obtain⟨i1,i2,_⟩:=DH.1 (IE.tb _ (DP hi))
  repeat' (first
   |refine St.h ?_
   |simp(disch:=first|omega|(simp only[AI];omega))only[AJ,↓AB,↓reduceIte,seval,f0,f3,f5,f10,w9.l1,q9.l1,c9.ln,d1,ei,c9.ix,c9.l0]
   |(with_reducible (first|apply AE|apply AD))<;>(intro hc;(try simp only[AX]at hc);(try simp only[hc]);(try simp only[AV]at hc);try omega))
  refine ST.own o9 rfl rfl (by omega) (by omega) fun ha oa sa=>?_
  have oa:Ev.DA ha b [u,.i .i64 (max S.log e.log),.i .i64 (max S.seq e.seq),.i .i64 ((e.Aa.getD (e.Aa.length-1) default).id+1)]:=oa
  repeat' (first
   |refine St.h ?_
   |simp(disch:=first|omega|(simp only[AI];omega))only[AJ,↓AB,↓reduceIte,seval]
   |(with_reducible (first|apply AE|apply AD))<;>(intro hc;(try simp only[AX]at hc);(try simp only[hc]);(try simp only[AV]at hc);try omega))
  subst hQ
  rw[ed]
  refine⟨rfl,u,⟨?_,Gr.ss (b9.stay sa nb),nb⟩,ow,s69.trans sa⟩
  show Ev.DA ha b [u,.i .i64 (max S.log e.log),.i .i64 (max S.seq e.seq),.i .i64 (if 0<e.Aa.length then (e.Aa.getD (e.Aa.length-1) default).id+1 else S.next)]
  rw[if_pos h0];exact oa
 ·have d1:((0:Int)<(e.Aa.length:Int))=False:=eq_false (by omega)
  repeat' (first
   |refine St.h ?_
   |simp(disch:=first|omega|(simp only[AI];omega))only[AJ,↓AB,↓reduceIte,seval,f0,f3,f5,f10,w9.l1,q9.l1,c9.ln,d1]
   |(with_reducible (first|apply AE|apply AD))<;>(intro hc;(try simp only[AX]at hc);(try simp only[hc]);(try simp only[AV]at hc);try omega))
  subst hQ
  rw[ed]
  refine⟨rfl,u,⟨?_,b9.DF,nb⟩,ow,s69⟩
  show Ev.DA h9 b [u,.i .i64 (max S.log e.log),.i .i64 (max S.seq e.seq),.i .i64 (if 0<e.Aa.length then (e.Aa.getD (e.Aa.length-1) default).id+1 else S.next)]
  rw[if_neg h0];exact o9
end Go.Proofs.Ytobfgempjekjpaa
set_option maxRecDepth 100000
set_option maxHeartbeats 8000000
namespace Go.Proofs.Ytobfgempjekjpaa
open Go Go.Ev
theorem br {h:H} {v:V} {L:List BU} (a:Dr h v L):Dr (Av h) v L:=by cases h;exact a
theorem dJ (h:H):(Av h).next=h.next:=by cases h;rfl
section
variable {h:H} {b:B} {v:V} {S:JC}
end
end Go.Proofs.Ytobfgempjekjpaa
set_option maxRecDepth 100000
set_option maxHeartbeats 8000000
namespace Go.Proofs.Ytobfgempjekjpaa
open Go Go.Ev
theorem Oa {a b:List UInt8} {t:BU}:E6 a b t=((Op.bytesLess t.fst b||decide (t.fst=b))&&(Op.bytesLess a t.CT||decide (a=t.CT))):=by unfold E6;rw[Jt,Jt,Bool.and_comm]
theorem fE {a b:List UInt8} {t:BU}:FX a b t=((Op.bytesLess a t.CT||decide (a=t.CT))&&(decide (b=[])||Op.bytesLess t.fst b)):=by unfold FX;rw[Jt]
theorem O7 {q:B} (h:Al .l0 q):False:=by obtain⟨_,_,_,_,_,e⟩:=h;cases e
theorem Rt.un {h h1:H} {v:V} {L:List BU} (a:Rt h1 v L) (s:AU AO (Av h) h1) (hf:B.val h.floor<=B.val h.next):Rt (Bx h h1) v L:=by
 have e:=s.floor
 obtain⟨n,f,hp⟩:=h
 obtain⟨n1,f1,hp1⟩:=h1
 have e:f1=n:=e
 rcases a with h|h|⟨id,g,cap,Ao,a0,a1,a2,a3,a4⟩
 ·exact .inl h
 ·exact .inr (.inl h)
 ·have a3:B.val f1<=B.val id:=a3
  rw[e]at a3
  exact .inr (.inr ⟨id,g,cap,Ao,a0,a1,a2,Nat.le_trans hf a3,a4⟩)
/--append(nil,s...) in a region that Az -/
theorem AP.ABF {h:H} {u:V} {X:List BU} {l:List CO} {t:F} {K:F->H->Prop} {m:Nat} (a:Dr h u X) (h1:1<=X.length) (hl:X.length<=10000) (hf:B.val h.floor<=B.val h.next)
 (k:∀ v' h',Rt h' v' X->(∀ q,Al v' q->B.val h.next<=B.val q)->AU AO h h'->DO Try.prog l (put m v' t) h' K):AP Try.prog 57 5 .l0 u (Av h) (.u m l t h K):=by
 refine AP.gr (X:=X) Gr.nil Ba (by omega) (KF (br a) Ba (by omega)) (Q8 _) (by rw[List.length_nil];omega) (by rw[List.length_nil];omega) (Qn _) fun v' h' r s ow=>?_
 rw[Ng]
 have s':AU AO (Av h) h':=s.mono fun q hq e=>(O7 e).elim
 exact k v' _ (Rt.un r s' hf) (fun q hq=>by
  rcases ow q hq with h|h
  ·exact(O7 h).elim
  ·rwa [dJ]at h) s'.F3
section
variable {h:H} {b:B} {v:V} {S:JC}
def rP (a b:List UInt8) (q:Bool):BU->Bool:=if q then E6 a a else FX a b
theorem Iw {x y:List UInt8} {q:Bool} (a:IC h b v S) (hl:S.L.length<=1000) (hf:B.val h.floor<=B.val h.next):BF Try.prog 23 [.p b 0 0 4,sv x,sv y,.b q] h fun y' h'=>Dr h' y' (S.L.filter (rP x y q))/\AU AO h h':=by
 have hL:=a.2.1
 have r0:=a.1.row
 refine BB c23 (by intro hb;cases hb) (by simp) (by simp) fun Q hQ=>?_
 simp only[Ap,Nat.reduceAdd]
 repeat' (first
  |refine St.h ?_
  |simp(disch:=first|omega|(simp only[AI];omega))only[AJ,↓AB,↓reduceIte,seval]
  |(with_reducible (first|apply AE|apply AD))<;>(intro hc;(try simp only[AX]at hc);(try simp only[hc]);(try simp only[AV]at hc);try omega))
 refine Ok.lp (fun m t g=>∃ (i:Nat) (u:V),m=S.L.length-i/\i<=S.L.length/\get 0 t=.p b 0 0 4/\get 1 t=sv x/\get 2 t=sv y/\get 3 t=.b q/\get 9 t=u/\get 10 t=.i .i64 (i:Int)/\Rt g u ((S.L.take i).filter (rP x y q))/\(∀ q,Al u q->B.val h.next<=B.val q)/\AU AO h g) S.L.length ?_ ?_
 ·simp(disch:=first|omega|(simp only[AI];omega))only[AJ,↓AB,↓reduceIte,seval]
  refine⟨0,.l0,by omega,by omega,?_⟩
  refine⟨?_,?_,?_,?_,?_,?_,Gr.nil,?_,AU.refl _ _⟩
  rotate_right
  ·rintro i ⟨_,_,_,_,_,e⟩;cases e
  all_goals first|trivial|rfl
 rintro I hI m t g ⟨i,u,rfl,hi,f0,f1,f2,f3,f9,f10,bu,own,st⟩
 have hfg:=st.fl hf
 have Lg:=hL.grow st
 have rg:=(a.1.stay st fun e=>e).row
 by_cases hil:i<S.L.length
 case neg=>
  obtain rfl:i=S.L.length:=by omega
  rw[List.take_length]at bu
  have d1:((S.L.length:Int)<(S.L.length:Int))=False:=eq_false (by omega)
  repeat' (first
   |refine St.h ?_
   |simp(disch:=first|omega|(simp only[AI];omega))only[AJ,↓AB,↓reduceIte,seval,f0,f1,f2,f3,f9,f10,d1,rg.l1,Lg.ln]
   |(with_reducible (first|apply AE|apply AD))<;>(intro hc;(try simp only[AX]at hc);(try simp only[hc]);(try simp only[AV]at hc);try omega))
  subst hQ
  exact⟨bu.DF,st⟩
 have d1:((i:Int)<(S.L.length:Int))=True:=eq_true (by omega)
 have tp:=Ef (p:=rP x y q) hil
 have hlen:((S.L.take i).filter (rP x y q)).length<=1000:=by
  have:=List.length_filter_le (rP x y q) (S.L.take i)
  rw[List.length_take]at this;omega
 repeat' (first
  |refine St.h ?_
  |simp(disch:=first|omega|(simp only[AI];omega))only[AJ,↓AB,↓reduceIte,seval,f0,f1,f2,f3,f9,f10,d1,rg.l1,Lg.ln,Lg.ix,Lg.la,Int.toNat_natCast]
  |(with_reducible (first|apply AE|apply AD))<;>(intro hc;(try simp only[AX]at hc);(try simp only[hc]);(try simp only[AV]at hc);try omega))
 refine AL.own (by simp) hfg fun g1 t1 _ o1=>?_
 repeat' (first
  |refine St.h ?_
  |simp(disch:=first|omega|(simp only[AI];omega))only[AJ,↓AB,↓reduceIte,seval,f0,f1,f2,f3,f9,f10]
  |(with_reducible (first|apply AE|apply AD))<;>(intro hc;(try simp only[AX]at hc);(try simp only[hc]);(try simp only[AV]at hc);try omega))
 refine ST.all o1 rfl rfl (by simp) (by simp) fun g2 o2 t2=>?_
 have tt:AU AO g g2:=t1.Br t2 fun q hq=>by rw[hq];exact Nat.le_refl _
 have hf2:=tt.fl hfg
 have b2:=bu.grow tt
 have r2:=o2.row
 have skip:rP x y q (S.L.getD i default)=false->Rt g2 u ((S.L.take (i+1)).filter (rP x y q)):=fun e=>by rw[tp,e];simpa using b2
 have keep:rP x y q (S.L.getD i default)=true->(S.L.take (i+1)).filter (rP x y q)=(S.L.take i).filter (rP x y q)++[S.L.getD i default]:=fun e=>by rw[tp,e];rfl
 have m1:=Oa (a:=x) (b:=x) (t:=S.L.getD i default)
 have m2:=fE (a:=x) (b:=y) (t:=S.L.getD i default)
 have hr:rP x y q (S.L.getD i default)=if q then E6 x x (S.L.getD i default)else FX x y (S.L.getD i default):=by unfold rP;cases q<;>rfl
 rw[m1,m2]at hr
 cases c1:(Op.bytesLess (S.L.getD i default).fst x||decide ((S.L.getD i default).fst=x))<;>cases c2:(Op.bytesLess x (S.L.getD i default).CT||decide (x=(S.L.getD i default).CT))<;>cases c3:decide (y=[])<;>cases c4:Op.bytesLess (S.L.getD i default).fst y<;>cases q
 all_goals
  rw[c1,c2,c3,c4]at hr
  simp only[Bool.and_true,Bool.true_and,Bool.and_false,Bool.false_and,Bool.or_true,Bool.true_or,Bool.or_false,Bool.false_or,if_true,if_false,Bool.false_eq_true,↓reduceIte]at hr
  repeat' (first
   |refine St.h ?_
   |simp(disch:=first|omega|(simp only[AI];omega))only[AJ,↓AB,↓reduceIte,seval,f0,f1,f2,f3,f9,f10,r2.l1,r2.ln,c1,c2,c3,c4]
   |(with_reducible (first|apply AE|apply AD))<;>(intro hc;(try simp only[AX]at hc);(try simp only[hc]);(try simp only[AV]at hc);try omega))
  first
   |exact Ah hI (S.L.length-(i+1)) (by omega) ⟨i+1,u,rfl,by omega,by simp(disch:=first|omega|(simp only[AI];omega))only[AJ,↓AB,↓reduceIte,seval,f0],by simp(disch:=first|omega|(simp only[AI];omega))only[AJ,↓AB,↓reduceIte,seval,f1],by simp(disch:=first|omega|(simp only[AI];omega))only[AJ,↓AB,↓reduceIte,seval,f2],by simp(disch:=first|omega|(simp only[AI];omega))only[AJ,↓AB,↓reduceIte,seval,f3],by simp(disch:=first|omega|(simp only[AI];omega))only[AJ,↓AB,↓reduceIte,seval,f9],by simp(disch:=first|omega|(simp only[AI];omega))only[AJ,↓AB,↓reduceIte,seval,f10];rfl,skip hr,own,st.trans tt⟩
   |(refine AL.own (by simp) hf2 fun g3 t3 _ o3=>?_
     repeat' (first
      |refine St.h ?_
      |simp(disch:=first|omega|(simp only[AI];omega))only[AJ,↓AB,↓reduceIte,seval,f0,f1,f2,f3,f9,f10]
      |(with_reducible (first|apply AE|apply AD))<;>(intro hc;(try simp only[AX]at hc);(try simp only[hc]);(try simp only[AV]at hc);try omega))
     refine Df (x:=S.L.getD i default) (b2.grow t3) o3 (by omega) (t3.fl hf2) fun u4 g4 b4 t4 own4=>?_
     repeat' (first
      |refine St.h ?_
      |simp(disch:=first|omega|(simp only[AI];omega))only[AJ,↓AB,↓reduceIte,seval,f0,f1,f2,f3,f9,f10]
      |(with_reducible (first|apply AE|apply AD))<;>(intro hc;(try simp only[AX]at hc);(try simp only[hc]);(try simp only[AV]at hc);try omega))
     refine Ah hI (S.L.length-(i+1)) (by omega) ⟨i+1,u4,rfl,by omega,by simp(disch:=first|omega|(simp only[AI];omega))only[AJ,↓AB,↓reduceIte,seval,f0],by simp(disch:=first|omega|(simp only[AI];omega))only[AJ,↓AB,↓reduceIte,seval,f1],by simp(disch:=first|omega|(simp only[AI];omega))only[AJ,↓AB,↓reduceIte,seval,f2],by simp(disch:=first|omega|(simp only[AI];omega))only[AJ,↓AB,↓reduceIte,seval,f3],by simp(disch:=first|omega|(simp only[AI];omega))only[AJ,↓AB,↓reduceIte,seval],by simp(disch:=first|omega|(simp only[AI];omega))only[AJ,↓AB,↓reduceIte,seval,f10];rfl,by rw[keep hr];exact b4,fun q hq=>?_,(st.trans (tt.trans t3)).Br t4 fun q hq=>own q hq⟩
     rcases own4 q hq with h5|h5
     ·exact own q h5
     ·exact Nat.le_trans (st.trans (tt.trans t3)).next h5)
theorem Q0 (a:IC h b v S) (hl:S.L.length<=1000) (hf:B.val h.floor<=B.val h.next):BF Try.prog 20 [.p b 0 0 4] h fun y h'=>∃ u,y=.tu [u,.b (K5 S.L)]/\Dr h' u (I6 S.L)/\AU AO h h':=by
 have hz:=HU 0 S.L
 have ho:=HU 1 S.L
 refine BB c20 (by intro hb;cases hb) (by simp) (by simp) fun Q hQ=>?_
 simp only[Ap,Nat.reduceAdd]
 repeat' (first
  |refine St.h ?_
  |simp(disch:=first|omega|(simp only[AI];omega))only[AJ,↓AB,↓reduceIte,seval]
  |(with_reducible (first|apply AE|apply AD))<;>(intro hc;(try simp only[AX]at hc);(try simp only[hc]);(try simp only[AV]at hc);try omega))
 refine CL.mk (Mf a hl hf) ?_
 rintro z g1 ⟨tz,s1⟩
 have tz:Dr g1 z (CQ 0 S.L):=tz
 have hf1:=s1.fl hf
 by_cases h2:(CQ 0 S.L).length<2
 ·have d1:(((CQ 0 S.L).length:Int)<2)=True:=eq_true (by omega)
  repeat' (first
   |refine St.h ?_
   |simp(disch:=first|omega|(simp only[AI];omega))only[AJ,↓AB,↓reduceIte,seval,tz.ln,d1]
   |(with_reducible (first|apply AE|apply AD))<;>(intro hc;(try simp only[AX]at hc);(try simp only[hc]);(try simp only[AV]at hc);try omega))
  subst hQ
  exact⟨.l0,by unfold K5;rw[decide_eq_true h2];rfl,by unfold I6;rw[if_pos h2];exact Ss.nil,s1⟩
 have d1:(((CQ 0 S.L).length:Int)<2)=False:=eq_false (by omega)
 have hz0:0<(CQ 0 S.L).length:=by omega
 repeat' (first
  |refine St.h ?_
  |simp(disch:=first|omega|(simp only[AI];omega))only[AJ,↓AB,↓reduceIte,seval,tz.ln,d1,tz.kR,tz.l20,tz.l30]
  |(with_reducible (first|apply AE|apply AD))<;>(intro hc;(try simp only[AX]at hc);(try simp only[hc]);(try simp only[AV]at hc);try omega))
 obtain⟨Z,hZ⟩:∃ Z,Z=CQ 0 S.L:=⟨_,rfl⟩
 rw[<-hZ]at hz tz h2 d1 hz0
 refine Ok.lp (fun m t g=>∃ i:Nat,m=Z.length-1-i/\i+1<=Z.length/\g1=g/\get 0 t=.p b 0 0 4/\get 4 t=z/\get 5 t=sv (XE Z i)/\get 6 t=sv (Lo Z i)/\get 7 t=.i .i64 ((i+1:Nat):Int)) (Z.length-1) ?_ ?_
 ·simp(disch:=first|omega|(simp only[AI];omega))only[AJ,↓AB,↓reduceIte,seval]
  refine⟨0,by omega,by omega,?_⟩
  rw[hZ]
  refine⟨?_,?_,?_,?_,?_⟩
  all_goals first|trivial|rfl
 rintro I hI m t _ ⟨i,rfl,hi,rfl,f0,f4,f5,f6,f7⟩
 by_cases hil:i+1<Z.length
 ·have d2:(((i+1:Nat):Int)<(Z.length:Int))=True:=eq_true (by omega)
  repeat' (first
   |refine St.h ?_
   |simp(disch:=first|omega|(simp only[AI];omega))only[AJ,↓AB,↓reduceIte,seval,f0,f4,f5,f6,f7,d2,tz.ln,tz.ix,tz.l2,tz.l3,Int.toNat_natCast]
   |(with_reducible (first|apply AE|apply AD))<;>(intro hc;(try simp only[AX]at hc);(try simp only[hc]);(try simp only[AV]at hc);try omega))
  exact Ah hI (Z.length-1-(i+1)) (by omega) ⟨i+1,rfl,by omega,rfl,by simp(disch:=first|omega|(simp only[AI];omega))only[AJ,↓AB,↓reduceIte,seval,f0],by simp(disch:=first|omega|(simp only[AI];omega))only[AJ,↓AB,↓reduceIte,seval,f4],by simp(disch:=first|omega|(simp only[AI];omega))only[AJ,↓AB,↓reduceIte,seval];rw[WA (by omega)];rfl,by simp(disch:=first|omega|(simp only[AI];omega))only[AJ,↓AB,↓reduceIte,seval];rw[WI (by omega)];rfl,by simp(disch:=first|omega|(simp only[AI];omega))only[AJ,↓AB,↓reduceIte,seval,f7];rfl⟩
 have d2:(((i+1:Nat):Int)<(Z.length:Int))=False:=eq_false (by omega)
 obtain rfl:i=Z.length-1:=by omega
 have f5:get 5 t=sv (Na Z):=f5
 have f6:get 6 t=sv (NZ Z):=f6
 repeat' (first
  |refine St.h ?_
  |simp(disch:=first|omega|(simp only[AI];omega))only[AJ,↓AB,↓reduceIte,seval,f0,f4,f5,f6,f7,d2,tz.ln]
  |(with_reducible (first|apply AE|apply AD))<;>(intro hc;(try simp only[AX]at hc);(try simp only[hc]);(try simp only[AV]at hc);try omega))
 refine CL.mk (Mf (a.grow s1) hl hf1) ?_
 rintro o g2 ⟨to,s2⟩
 have to:Dr g2 o (CQ 1 S.L):=to
 obtain⟨W,hW⟩:∃ W,W=CQ 1 S.L:=⟨_,rfl⟩
 rw[<-hW]at ho to
 have s12:=s1.trans s2
 have hf2:=s12.fl hf
 have tz2:=tz.grow s2
 repeat' (first
  |refine St.h ?_
  |simp(disch:=first|omega|(simp only[AI];omega))only[AJ,↓AB,↓reduceIte,seval,f0,f4,f5,f6]
  |(with_reducible (first|apply AE|apply AD))<;>(intro hc;(try simp only[AX]at hc);(try simp only[hc]);(try simp only[AV]at hc);try omega))
 refine Ok.lp (fun m t g=>∃ (i:Nat) (u:V),m=W.length-i/\i<=W.length/\get 5 t=sv (Na Z)/\get 6 t=sv (NZ Z)/\get 8 t=u/\get 9 t=o/\get 10 t=.i .i64 (i:Int)/\Dr g u (Z++(W.take i).filter (E6 (Na Z) (NZ Z)))/\AU AO g2 g) W.length ?_ ?_
 ·simp(disch:=first|omega|(simp only[AI];omega))only[AJ,↓AB,↓reduceIte,seval,f4,f5,f6]
  refine⟨0,z,by omega,by omega,?_⟩
  refine⟨?_,?_,?_,?_,?_,by rw[List.take_zero,List.filter_nil,List.append_nil];exact tz2,AU.refl _ _⟩
  all_goals first|trivial|rfl
 clear f0 f4 f5 f6 f7
 rintro I2 hI2 m t g ⟨i,u,rfl,hi,f5,f6,f8,f9,f10,bu,st⟩
 have hfg:=st.fl hf2
 have Lg:=to.grow st
 by_cases hil:i<W.length
 case neg=>
  obtain rfl:i=W.length:=by omega
  rw[List.take_length]at bu
  have d3:((W.length:Int)<(W.length:Int))=False:=eq_false (by omega)
  repeat' (first
   |refine St.h ?_
   |simp(disch:=first|omega|(simp only[AI];omega))only[AJ,↓AB,↓reduceIte,seval,f5,f6,f8,f9,f10,d3,Lg.ln]
   |(with_reducible (first|apply AE|apply AD))<;>(intro hc;(try simp only[AX]at hc);(try simp only[hc]);(try simp only[AV]at hc);try omega))
  subst hQ
  refine⟨u,by unfold K5;rw[<-hZ,decide_eq_false h2];rfl,?_,s12.trans st⟩
  unfold I6 MZ
  rw[<-hZ,<-hW,if_neg h2];exact bu
 have d3:((i:Int)<(W.length:Int))=True:=eq_true (by omega)
 have tp:=Ef (p:=E6 (Na Z) (NZ Z)) hil
 have hlen:((W.take i).filter (E6 (Na Z) (NZ Z))).length<=1000:=by
  have:=List.length_filter_le (E6 (Na Z) (NZ Z)) (W.take i)
  rw[List.length_take]at this;omega
 have m1:=Oa (a:=Na Z) (b:=NZ Z) (t:=W.getD i default)
 cases c1:(Op.bytesLess (W.getD i default).fst (NZ Z)||decide ((W.getD i default).fst=NZ Z))<;>cases c2:(Op.bytesLess (Na Z) (W.getD i default).CT||decide (Na Z=(W.getD i default).CT))
 all_goals
  rw[c1,c2]at m1
  rw[m1]at tp
  repeat' (first
   |refine St.h ?_
   |simp(disch:=first|omega|(simp only[AI];omega))only[AJ,↓AB,↓reduceIte,seval,f5,f6,f8,f9,f10,d3,Lg.ln,Lg.ix,Lg.l2,Lg.l3,Lg.la,c1,c2,Int.toNat_natCast]
   |(with_reducible (first|apply AE|apply AD))<;>(intro hc;(try simp only[AX]at hc);(try simp only[hc]);(try simp only[AV]at hc);try omega))
  try exact Ah hI2 (W.length-(i+1)) (by omega) ⟨i+1,u,rfl,by omega,by simp(disch:=first|omega|(simp only[AI];omega))only[AJ,↓AB,↓reduceIte,seval,f5],by simp(disch:=first|omega|(simp only[AI];omega))only[AJ,↓AB,↓reduceIte,seval,f6],by simp(disch:=first|omega|(simp only[AI];omega))only[AJ,↓AB,↓reduceIte,seval,f8],by simp(disch:=first|omega|(simp only[AI];omega))only[AJ,↓AB,↓reduceIte,seval,f9],by simp(disch:=first|omega|(simp only[AI];omega))only[AJ,↓AB,↓reduceIte,seval,f10];rfl,by rw[tp];simpa using bu,st⟩
 have hap:(Z++(W.take i).filter (E6 (Na Z) (NZ Z))).length<=2000:=by rw[List.length_append];omega
 refine AP.ABF bu (by rw[List.length_append];omega) (by omega) hfg fun w4 g4 b4 ow4 t4=>?_
 have hf4:=t4.fl hfg
 have L4:=Lg.grow t4
 repeat' (first
  |refine St.h ?_
  |simp(disch:=first|omega|(simp only[AI];omega))only[AJ,↓AB,↓reduceIte,seval,f5,f6,f8,f9,f10,L4.ix,L4.la,Int.toNat_natCast]
  |(with_reducible (first|apply AE|apply AD))<;>(intro hc;(try simp only[AX]at hc);(try simp only[hc]);(try simp only[AV]at hc);try omega))
 refine AL.AAK (by simp) hf4 fun g5 t5 o5=>?_
 have hf5:=t5.fl hf4
 repeat' (first
  |refine St.h ?_
  |simp(disch:=first|omega|(simp only[AI];omega))only[AJ,↓AB,↓reduceIte,seval,f5,f6,f8,f9,f10]
  |(with_reducible (first|apply AE|apply AD))<;>(intro hc;(try simp only[AX]at hc);(try simp only[hc]);(try simp only[AV]at hc);try omega))
 refine Df (x:=W.getD i default) (b4.grow t5) o5 (by omega) hf5 fun w6 g6 b6 t6 own6=>?_
 repeat' (first
  |refine St.h ?_
  |simp(disch:=first|omega|(simp only[AI];omega))only[AJ,↓AB,↓reduceIte,seval,f5,f6,f8,f9,f10]
  |(with_reducible (first|apply AE|apply AD))<;>(intro hc;(try simp only[AX]at hc);(try simp only[hc]);(try simp only[AV]at hc);try omega))
 refine Ah hI2 (W.length-(i+1)) (by omega) ⟨i+1,w6,rfl,by omega,by simp(disch:=first|omega|(simp only[AI];omega))only[AJ,↓AB,↓reduceIte,seval,f5],by simp(disch:=first|omega|(simp only[AI];omega))only[AJ,↓AB,↓reduceIte,seval,f6],by simp(disch:=first|omega|(simp only[AI];omega))only[AJ,↓AB,↓reduceIte,seval],by simp(disch:=first|omega|(simp only[AI];omega))only[AJ,↓AB,↓reduceIte,seval,f9],by simp(disch:=first|omega|(simp only[AI];omega))only[AJ,↓AB,↓reduceIte,seval,f10];rfl,by rw[tp,<-List.append_assoc];exact b6.DF,(st.trans (t4.trans t5)).Br t6 fun q hq=>Nat.le_trans st.next (ow4 q hq)⟩
end
end Go.Proofs.Ytobfgempjekjpaa
set_option maxRecDepth 1000000
namespace Go.Proofs.Ytobfgempjekjpaa
open Go Go.Ev
abbrev pF:CC:=(CC.cond (tm 8) CC.skip (CC.exit 0))
abbrev sT:CC:=(CC.seq (CC.region [(wB 5 (AA (tm 3))),(wB 6 (AA (tm 0))),(wB 7 (A9 (tm 6))),(wB 8 (AM BV (tm 5) (tm 7)))]) pF)
abbrev uw:CC:=(CC.seq (CC.region [(wB 2 (AA (O.c (V.b Bool.false))))]) CC.ret)
abbrev qV:CC:=(CC.cond (tm 26) uw CC.skip)
abbrev qD:CC:=(CC.seq (CC.region [(wB 11 (AA (tm 0))),(wB 12 (AA (tm 3))),(wB 13 (AG 4 (tm 11) (tm 12))),(wB 14 (AF 0 (tm 13))),(wB 15 (AK (tm 14))),(wB 16 (A9 (tm 15))),(wB 17 (AM Cj (tm 16) (oN 60))),(wB 18 (AA (tm 17))),(wG 18 false 19 (AA (tm 0))),(wG 18 false 20 (AA (tm 3))),(wG 18 false 21 (AG 4 (tm 19) (tm 20))),(wG 18 false 22 (AF 1 (tm 21))),(wG 18 false 23 (AK (tm 22))),(wG 18 false 24 (A9 (tm 23))),(wG 18 false 25 (AM Cj (tm 24) (oN 60))),(wB 26 (Ag (tm 18) (O.c (V.b Bool.true)) (tm 25)))]) qV)
abbrev lB:CC:=(CC.cond (tm 34) CC.skip (CC.exit 2))
abbrev yl:CC:=(CC.seq (CC.region [(wB 27 (AA (tm 4))),(wB 28 (AA (tm 0))),(wB 29 (AA (tm 3))),(wB 30 (AG 4 (tm 28) (tm 29))),(wB 31 (AF 1 (tm 30))),(wB 32 (AK (tm 31))),(wB 33 (A9 (tm 32))),(wB 34 (AM BV (tm 27) (tm 33)))]) lB)
abbrev oO:CC:=(CC.seq (CC.region [(wB 2 (AA (O.c (V.b Bool.false))))]) CC.ret)
abbrev kS:CC:=(CC.cond (tm 60) oO CC.skip)
abbrev vR:CC:=(CC.seq (CC.region [(wB 37 (AA (tm 0))),(wB 38 (AA (tm 3))),(wB 39 (AG 4 (tm 37) (tm 38))),(wB 40 (AF 1 (tm 39))),(wB 41 (AK (tm 40))),(wB 42 (AA (tm 4))),(wB 43 (AG 5 (tm 41) (tm 42))),(wB 44 (AF 2 (tm 43))),(wB 45 (AK (tm 44))),(wB 46 (CY (tm 45))),(wB 47 (AM Cj (tm 46) (oN 20))),(wB 48 (AA (tm 47))),(wG 48 false 49 (AA (tm 0))),(wG 48 false 50 (AA (tm 3))),(wG 48 false 51 (AG 4 (tm 49) (tm 50))),(wG 48 false 52 (AF 1 (tm 51))),(wG 48 false 53 (AK (tm 52))),(wG 48 false 54 (AA (tm 4))),(wG 48 false 55 (AG 5 (tm 53) (tm 54))),(wG 48 false 56 (AF 3 (tm 55))),(wG 48 false 57 (AK (tm 56))),(wG 48 false 58 (CY (tm 57))),(wG 48 false 59 (AM Cj (tm 58) (oN 20))),(wB 60 (Ag (tm 48) (O.c (V.b Bool.true)) (tm 59)))]) kS)
abbrev dO:CC:=(CC.block 3 vR)
abbrev fA:CC:=(CC.region [(wB 35 (AA (tm 4))),(wB 36 (AM A4 (tm 35) (oN 1))),(wB 4 (AA (tm 36)))])
abbrev Y5:CC:=(CC.seq dO fA)
abbrev wv:CC:=(CC.seq yl Y5)
abbrev X2:CC:=(CC.loop wv)
abbrev eh:CC:=(CC.block 2 X2)
abbrev Zl:CC:=(CC.seq (CC.region [(wB 4 (AA (oN 0)))]) eh)
abbrev cU:CC:=(CC.seq qD Zl)
abbrev Xt:CC:=(CC.block 1 cU)
abbrev Yi:CC:=(CC.region [(wB 9 (AA (tm 3))),(wB 10 (AM A4 (tm 9) (oN 1))),(wB 3 (AA (tm 10)))])
abbrev bK:CC:=(CC.seq Xt Yi)
abbrev qC:CC:=(CC.seq sT bK)
abbrev bn:CC:=(CC.loop qC)
abbrev eD:CC:=(CC.block 0 bn)
abbrev XN:CC:=(CC.seq (CC.region [(wB 3 (AA (oN 0)))]) eD)
abbrev iZ:CC:=(CC.seq (CC.region [(wB 61 (AA (tm 0))),(wB 62 (A9 (tm 61))),(wB 63 (AM Ds (tm 62) (oN 20))),(wB 2 (AA (tm 63)))]) CC.ret)
abbrev aL:CC:=(CC.seq XN iZ)
abbrev b16:CC:=(CC.seq (CC.region [(wB 2 (AA (O.c (V.b Bool.false))))]) aL)
theorem c16:AY Try.prog 16=⟨64,b16,[(Rs.tmp (AT 2))]⟩:=by kernel_rfl
abbrev ABK:CC:=(CC.seq (CC.region [(wB 8 (AA (O.c (V.b Bool.false))))]) CC.ret)
abbrev AAP:CC:=(CC.cond (tm 17) ABK CC.skip)
abbrev AAL:CC:=(CC.seq (CC.region [(wB 16 (Ab 15 [])),(wB 17 (Bz (tm 16)))]) AAP)
abbrev AAb:CC:=(CC.seq (CC.region [(wB 8 (AA (O.c (V.b Bool.true))))]) CC.ret)
abbrev AAN:CC:=(CC.cond (tm 35) AAb CC.skip)
abbrev ABb:CC:=(CC.seq (CC.region [(wB 18 (AA (tm 0))),(wB 19 (Ab 16 [(tm 18)])),(wB 20 (Bz (tm 19))),(wB 21 (AA (tm 20))),(wG 21 false 22 (AA (tm 1))),(wG 21 false 23 (CY (tm 22))),(wG 21 false 24 (AM Cj (tm 23) (oN 20))),(wB 25 (Ag (tm 21) (O.c (V.b Bool.true)) (tm 24))),(wB 26 (AA (tm 25))),(wG 26 false 27 (AA (tm 2))),(wG 26 false 28 (CY (tm 27))),(wG 26 false 29 (AM Cj (tm 28) (oN 20))),(wB 30 (Ag (tm 26) (O.c (V.b Bool.true)) (tm 29))),(wB 31 (AA (tm 30))),(wG 31 false 32 (AA (tm 3))),(wG 31 false 33 (CY (tm 32))),(wG 31 false 34 (AM Cj (tm 33) (oN 20))),(wB 35 (Ag (tm 31) (O.c (V.b Bool.true)) (tm 34)))]) AAN)
abbrev AAk:CC:=(CC.cond (tm 41) CC.skip (CC.exit 0))
abbrev AAe:CC:=(CC.seq (CC.region [(wB 38 (AA (tm 11))),(wB 39 (AA (tm 0))),(wB 40 (A9 (tm 39))),(wB 41 (AM BV (tm 38) (tm 40)))]) AAk)
abbrev AAy:CC:=(CC.region [(wB 50 (AA (tm 10))),(wB 51 (AA (tm 0))),(wB 52 (AA (tm 11))),(wB 53 (AG 4 (tm 51) (tm 52))),(wB 54 (AR 4 (tm 53))),(wB 55 (Ab 12 [(tm 50),(tm 54)]))])
abbrev ABa:CC:=(CC.seq (CC.region [(wB 44 (AA (tm 9))),(wB 45 (AA (tm 0))),(wB 46 (AA (tm 11))),(wB 47 (AG 4 (tm 45) (tm 46))),(wB 48 (AR 4 (tm 47))),(wB 49 (Ab 18 [(tm 44),(tm 48)]))]) AAy)
abbrev qO:CC:=(CC.block 1 ABa)
abbrev wk:CC:=(CC.region [(wB 42 (AA (tm 11))),(wB 43 (AM A4 (tm 42) (oN 1))),(wB 11 (AA (tm 43)))])
abbrev lj:CC:=(CC.seq qO wk)
abbrev AA5:CC:=(CC.seq AAe lj)
abbrev ml:CC:=(CC.loop AA5)
abbrev xd:CC:=(CC.block 0 ml)
abbrev yn:CC:=(CC.seq (CC.region [(wB 11 (AA (oN 0)))]) xd)
abbrev xC:CC:=(CC.seq (CC.region [(wB 66 (AA (tm 12))),(wB 67 (AA (tm 14))),(wB 68 (Ab 21 [(tm 66),(tm 67)])),(wB 69 (AA (tm 68))),(wG 69 true 70 (AA (tm 13))),(wG 69 true 71 (AA (tm 15))),(wG 69 true 72 (F4 Bool.false (tm 70) (tm 71))),(wB 73 (Ag (tm 69) (tm 72) (O.c (V.b Bool.false)))),(wB 74 (AA (tm 73))),(wG 74 true 75 (AA (tm 9))),(wG 74 true 76 (AA (tm 1))),(wG 74 true 77 (Ab 22 [(tm 75),(tm 76)])),(wG 74 true 78 (AA (tm 10))),(wG 74 true 79 (AA (tm 1))),(wG 74 true 80 (Ab 23 [(tm 78),(tm 79),(O.c (V.s 0 0)),(O.c (V.b Bool.true))])),(wG 74 true 81 (Ab 21 [(tm 77),(tm 80)])),(wB 82 (Ag (tm 74) (tm 81) (O.c (V.b Bool.false)))),(wB 83 (AA (tm 82))),(wG 83 true 84 (AA (tm 9))),(wG 83 true 85 (AA (tm 2))),(wG 83 true 86 (AA (tm 3))),(wG 83 true 87 (Ab 24 [(tm 84),(tm 85),(tm 86)])),(wG 83 true 88 (AA (tm 10))),(wG 83 true 89 (AA (tm 2))),(wG 83 true 90 (AA (tm 3))),(wG 83 true 91 (Ab 23 [(tm 88),(tm 89),(tm 90),(O.c (V.b Bool.false))])),(wG 83 true 92 (Ab 21 [(tm 87),(tm 91)])),(wB 93 (Ag (tm 83) (tm 92) (O.c (V.b Bool.false)))),(wB 8 (AA (tm 93)))]) CC.ret)
abbrev nr:CC:=(CC.seq (CC.region [(wB 62 (AA (tm 10))),(wB 63 (Ab 20 [(tm 62)])),(wB 61 (AA (tm 63))),(wB 64 (A2 0 (tm 61))),(wB 65 (A2 1 (tm 61))),(wB 14 (AA (tm 64))),(wB 15 (AA (tm 65)))]) xC)
abbrev tD:CC:=(CC.seq (CC.region [(wB 57 (AA (tm 9))),(wB 58 (Ab 19 [(tm 57)])),(wB 56 (AA (tm 58))),(wB 59 (A2 0 (tm 56))),(wB 60 (A2 1 (tm 56))),(wB 12 (AA (tm 59))),(wB 13 (AA (tm 60)))]) nr)
abbrev lf:CC:=(CC.seq yn tD)
abbrev xa:CC:=(CC.seq (CC.region [(wB 36 (Ab 17 [])),(wB 37 (Ab 9 [])),(wB 9 (AA (tm 36))),(wB 10 (AA (tm 37)))]) lf)
abbrev yy:CC:=(CC.seq ABb xa)
abbrev xu:CC:=(CC.seq AAL yy)
abbrev b4:CC:=(CC.seq (CC.region [(wB 8 (AA (O.c (V.b Bool.false))))]) xu)
theorem c4:AY Try.prog 4=⟨94,b4,[(Rs.tmp (AT 8))]⟩:=by kernel_rfl
abbrev z8:CC:=(CC.seq (CC.region [(wB 2 (AA (O.c (V.b Bool.false))))]) CC.ret)
abbrev AA7:CC:=(CC.cond (tm 14) z8 CC.skip)
abbrev AA6:CC:=(CC.seq (CC.region [(wB 13 (Ab 15 [])),(wB 14 (Bz (tm 13)))]) AA7)
abbrev AAv:CC:=(CC.seq (CC.region [(wB 2 (AA (O.c (V.b Bool.true))))]) CC.ret)
abbrev AAa:CC:=(CC.cond (tm 17) AAv CC.skip)
abbrev AAc:CC:=(CC.seq (CC.region [(wB 15 (AA (tm 0))),(wB 16 (Ab 16 [(tm 15)])),(wB 17 (Bz (tm 16)))]) AAa)
abbrev AAp:CC:=(CC.cond (tm 22) CC.skip (CC.exit 0))
abbrev ABL:CC:=(CC.seq (CC.region [(wB 19 (AA (tm 4))),(wB 20 (AA (tm 0))),(wB 21 (A9 (tm 20))),(wB 22 (AM BV (tm 19) (tm 21)))]) AAp)
abbrev AAW:CC:=(CC.region [(wB 25 (AA (tm 3))),(wB 26 (AA (tm 0))),(wB 27 (AA (tm 4))),(wB 28 (AG 4 (tm 26) (tm 27))),(wB 29 (AR 4 (tm 28))),(wB 30 (Ab 18 [(tm 25),(tm 29)]))])
abbrev AAl:CC:=(CC.block 1 AAW)
abbrev sW:CC:=(CC.region [(wB 23 (AA (tm 4))),(wB 24 (AM A4 (tm 23) (oN 1))),(wB 4 (AA (tm 24)))])
abbrev za:CC:=(CC.seq AAl sW)
abbrev AA8:CC:=(CC.seq ABL za)
abbrev qM:CC:=(CC.loop AA8)
abbrev yp:CC:=(CC.block 0 qM)
abbrev lX:CC:=(CC.seq (CC.region [(wB 4 (AA (oN 0)))]) yp)
abbrev tX:CC:=(CC.seq (CC.region [(wB 38 (AA (tm 5))),(wB 39 (A9 (tm 38))),(wB 40 (AM DR (tm 39) (oN 0))),(wB 41 (AA (tm 40))),(wG 41 true 42 (AA (tm 3))),(wG 41 true 43 (Ab 25 [(tm 42),(oN 0)])),(wG 41 true 44 (A9 (tm 43))),(wG 41 true 45 (AM BV (tm 44) (oN 2))),(wB 46 (Ag (tm 41) (tm 45) (O.c (V.b Bool.false)))),(wB 2 (AA (tm 46)))]) CC.ret)
abbrev rE:CC:=(CC.cond (tm 37) tX CC.skip)
abbrev nf:CC:=(CC.seq (CC.region [(wB 36 (AA (tm 6))),(wB 37 (Bz (tm 36)))]) rE)
abbrev xn:CC:=(CC.cond (tm 50) CC.skip (CC.exit 2))
abbrev mh:CC:=(CC.seq (CC.region [(wB 47 (AA (tm 10))),(wB 48 (AA (tm 5))),(wB 49 (A9 (tm 48))),(wB 50 (AM BV (tm 47) (tm 49)))]) xn)
abbrev yg:CC:=(CC.region [(wB 78 (AA (tm 5))),(wB 79 (AA (tm 10))),(wB 80 (AG 5 (tm 78) (tm 79))),(wB 81 (AF 2 (tm 80))),(wB 82 (AK (tm 81))),(wB 8 (AA (tm 82)))])
abbrev ov:CC:=(CC.cond (tm 77) yg CC.skip)
abbrev uy:CC:=(CC.seq (CC.region [(wB 67 (AA (tm 8))),(wB 68 (BZ EX (tm 67) (O.c (V.s 0 0)))),(wB 69 (AA (tm 68))),(wG 69 false 70 (AA (tm 5))),(wG 69 false 71 (AA (tm 10))),(wG 69 false 72 (AG 5 (tm 70) (tm 71))),(wG 69 false 73 (AF 2 (tm 72))),(wG 69 false 74 (AK (tm 73))),(wG 69 false 75 (AA (tm 8))),(wG 69 false 76 (BZ EF (tm 74) (tm 75))),(wB 77 (Ag (tm 69) (O.c (V.b Bool.true)) (tm 76)))]) ov)
abbrev pR:CC:=(CC.region [(wB 83 (AA (tm 9))),(wB 84 (AA (tm 5))),(wB 85 (AA (tm 10))),(wB 86 (AG 5 (tm 84) (tm 85))),(wB 87 (AF 3 (tm 86))),(wB 88 (AK (tm 87))),(wB 89 (GF (fun a b c d=>!EF a b c d) (tm 83) (tm 88))),(wB 9 (AA (tm 89)))])
abbrev pd:CC:=(CC.seq uy pR)
abbrev sF:CC:=(CC.cond (tm 66) pd CC.skip)
abbrev rM:CC:=(CC.seq (CC.region [(wB 61 (AA (tm 5))),(wB 62 (AA (tm 10))),(wB 63 (AG 5 (tm 61) (tm 62))),(wB 64 (AF 1 (tm 63))),(wB 65 (AK (tm 64))),(wB 66 (AM DR (tm 65) (oN 0)))]) sF)
abbrev tC:CC:=(CC.seq (CC.region [(wB 53 (AA (tm 7))),(wB 54 (AA (tm 5))),(wB 55 (AA (tm 10))),(wB 56 (AG 5 (tm 54) (tm 55))),(wB 57 (AF 0 (tm 56))),(wB 58 (AK (tm 57))),(wB 59 (Aj 3 1 [(V.i IntKind.i64 (Int.ofNat 0))] [(Pt.mk 0 1 (tm 58))])),(wB 60 (BL 3 1 (tm 53) (tm 59))),(wB 7 (AA (tm 60)))]) rM)
abbrev p7:CC:=(CC.block 3 tC)
abbrev vC:CC:=(CC.region [(wB 51 (AA (tm 10))),(wB 52 (AM A4 (tm 51) (oN 1))),(wB 10 (AA (tm 52)))])
abbrev sh:CC:=(CC.seq p7 vC)
abbrev AAD:CC:=(CC.seq mh sh)
abbrev ua:CC:=(CC.loop AAD)
abbrev rv:CC:=(CC.block 2 ua)
abbrev oA:CC:=(CC.seq (CC.region [(wB 10 (AA (oN 0)))]) rv)
abbrev lY:CC:=(CC.seq (CC.region [(wB 2 (AA (O.c (V.b Bool.false))))]) CC.ret)
abbrev tU:CC:=(CC.cond (tm 100) lY CC.skip)
abbrev uL:CC:=(CC.seq (CC.region [(wB 90 (AA (tm 3))),(wB 91 (AA (tm 7))),(wB 92 (Cx [V.l0,V.l0,(V.i IntKind.i64 (Int.ofNat 0)),(V.i IntKind.i64 (Int.ofNat 0))] [(Pt.mk 0 1 (tm 91))])),(wB 93 (Ab 18 [(tm 90),(tm 92)])),(wB 94 (AM Ip (tm 93) (oN 0))),(wB 95 (AA (tm 94))),(wG 95 false 96 (AA (tm 3))),(wG 95 false 97 (Ab 25 [(tm 96),(oN 0)])),(wG 95 false 98 (A9 (tm 97))),(wG 95 false 99 (AM Ip (tm 98) (oN 0))),(wB 100 (Ag (tm 95) (O.c (V.b Bool.true)) (tm 99)))]) tU)
abbrev nC:CC:=(CC.cond (tm 106) CC.skip (CC.exit 4))
abbrev x7:CC:=(CC.seq (CC.region [(wB 103 (AA (tm 12))),(wB 104 (AA (tm 11))),(wB 105 (A9 (tm 104))),(wB 106 (AM BV (tm 103) (tm 105)))]) nC)
abbrev lN:CC:=(CC.seq (CC.region [(wB 2 (AA (O.c (V.b Bool.false))))]) CC.ret)
abbrev pq:CC:=(CC.cond (tm 124) lN CC.skip)
abbrev qB:CC:=(CC.seq (CC.region [(wB 109 (AA (tm 11))),(wB 110 (AA (tm 12))),(wB 111 (AG 5 (tm 109) (tm 110))),(wB 112 (AF 2 (tm 111))),(wB 113 (AK (tm 112))),(wB 114 (AA (tm 9))),(wB 115 (BZ (fun a b c d=>EF a b c d||EX a b c d) (tm 113) (tm 114))),(wB 116 (AA (tm 115))),(wG 116 true 117 (AA (tm 8))),(wG 116 true 118 (AA (tm 11))),(wG 116 true 119 (AA (tm 12))),(wG 116 true 120 (AG 5 (tm 118) (tm 119))),(wG 116 true 121 (AF 3 (tm 120))),(wG 116 true 122 (AK (tm 121))),(wG 116 true 123 (BZ (fun a b c d=>EF a b c d||EX a b c d) (tm 117) (tm 122))),(wB 124 (Ag (tm 116) (tm 123) (O.c (V.b Bool.false))))]) pq)
abbrev xB:CC:=(CC.block 5 qB)
abbrev y7:CC:=(CC.region [(wB 107 (AA (tm 12))),(wB 108 (AM A4 (tm 107) (oN 1))),(wB 12 (AA (tm 108)))])
abbrev ye:CC:=(CC.seq xB y7)
abbrev AAE:CC:=(CC.seq x7 ye)
abbrev pe:CC:=(CC.loop AAE)
abbrev uO:CC:=(CC.block 4 pe)
abbrev mS:CC:=(CC.seq (CC.region [(wB 12 (AA (oN 0)))]) uO)
abbrev oY:CC:=(CC.seq (CC.region [(wB 2 (AA (O.c (V.b Bool.true))))]) CC.ret)
abbrev qc:CC:=(CC.seq mS oY)
abbrev qT:CC:=(CC.seq (CC.region [(wB 101 (AA (tm 3))),(wB 102 (Ab 26 [(tm 101)])),(wB 11 (AA (tm 102)))]) qc)
abbrev nQ:CC:=(CC.seq uL qT)
abbrev v8:CC:=(CC.seq oA nQ)
abbrev oB:CC:=(CC.seq (CC.region [(wB 8 (AA (O.c (V.s 0 0)))),(wB 9 (AA (O.c (V.s 0 0))))]) v8)
abbrev mU:CC:=(CC.seq (CC.region [(wB 7 (AA (O.c V.l0)))]) oB)
abbrev uW:CC:=(CC.seq nf mU)
abbrev xQ:CC:=(CC.seq (CC.region [(wB 32 (AA (tm 3))),(wB 33 (Ab 19 [(tm 32)])),(wB 31 (AA (tm 33))),(wB 34 (A2 0 (tm 31))),(wB 35 (A2 1 (tm 31))),(wB 5 (AA (tm 34))),(wB 6 (AA (tm 35)))]) uW)
abbrev qF:CC:=(CC.seq lX xQ)
abbrev mV:CC:=(CC.seq (CC.region [(wB 18 (Ab 17 [])),(wB 3 (AA (tm 18)))]) qF)
abbrev uf:CC:=(CC.seq AAc mV)
abbrev lA:CC:=(CC.seq AA6 uf)
abbrev b5:CC:=(CC.seq (CC.region [(wB 2 (AA (O.c (V.b Bool.false))))]) lA)
theorem c5:AY Try.prog 5=⟨125,b5,[(Rs.tmp (AT 2))]⟩:=by kernel_rfl
abbrev ABD:CC:=(CC.seq (CC.region [(wB 8 (AA (O.c (V.b Bool.false))))]) CC.ret)
abbrev AAq:CC:=(CC.cond (tm 30) ABD CC.skip)
abbrev AAF:CC:=(CC.seq (CC.region [(wB 29 (Ab 15 [])),(wB 30 (Bz (tm 29)))]) AAq)
abbrev AAt:CC:=(CC.cond (tm 33) CC.skip (CC.exit 0))
abbrev AAx:CC:=(CC.seq (CC.region [(wB 32 (AA (tm 11))),(wB 33 (AM BV (tm 32) (oN 6)))]) AAt)
abbrev ABY:CC:=(CC.region [(wB 36 (AA (tm 10))),(wB 37 (AA (tm 11))),(wB 38 (AM A4 (tm 37) (oN 1))),(wB 39 (AA (tm 11))),(wB 40 (AM HP (oN 3) (tm 39))),(wB 41 (AM A4 (oN 97) (tm 40))),(wB 42 (Be IntKind.u8 (tm 41))),(wB 43 (Aj 5 1 [(V.i IntKind.u8 (Int.ofNat 0))] [(Pt.mk 0 1 (tm 42))])),(wB 44 (E7 (tm 43))),(wB 45 (AA (tm 11))),(wB 46 (AM HP (oN 3) (tm 45))),(wB 47 (AM A4 (oN 98) (tm 46))),(wB 48 (Be IntKind.u8 (tm 47))),(wB 49 (Aj 5 1 [(V.i IntKind.u8 (Int.ofNat 0))] [(Pt.mk 0 1 (tm 48))])),(wB 50 (E7 (tm 49))),(wB 51 (Cx [(V.i IntKind.i64 (Int.ofNat 0)),(V.i IntKind.i64 (Int.ofNat 0)),(V.s 0 0),(V.s 0 0),(V.i IntKind.i64 (Int.ofNat 0))] [(Pt.mk 0 1 (tm 38)),(Pt.mk 1 1 (oN 1)),(Pt.mk 2 1 (tm 44)),(Pt.mk 3 1 (tm 50)),(Pt.mk 4 1 (oN 1))])),(wB 52 (Aj 57 1 [(V.i IntKind.i64 (Int.ofNat 0)),(V.i IntKind.i64 (Int.ofNat 0)),(V.s 0 0),(V.s 0 0),(V.i IntKind.i64 (Int.ofNat 0))] [(Pt.mk 0 5 (tm 51))])),(wB 53 (BL 57 5 (tm 36) (tm 52))),(wB 10 (AA (tm 53)))])
abbrev ABN:CC:=(CC.block 1 ABY)
abbrev ABV:CC:=(CC.region [(wB 34 (AA (tm 11))),(wB 35 (AM A4 (tm 34) (oN 1))),(wB 11 (AA (tm 35)))])
abbrev AA2:CC:=(CC.seq ABN ABV)
abbrev ABO:CC:=(CC.seq AAx AA2)
abbrev AAH:CC:=(CC.loop ABO)
abbrev su:CC:=(CC.block 0 AAH)
abbrev oZ:CC:=(CC.seq (CC.region [(wB 11 (AA (oN 0)))]) su)
abbrev yN:CC:=(CC.seq (CC.region [(wB 8 (AA (O.c (V.b Bool.false))))]) CC.ret)
abbrev nU:CC:=(CC.cond (tm 58) yN CC.skip)
abbrev ya:CC:=(CC.seq (CC.region [(wB 54 (AA (tm 9))),(wB 55 (AA (tm 10))),(wB 56 (Cx [V.l0,V.l0,(V.i IntKind.i64 (Int.ofNat 0)),(V.i IntKind.i64 (Int.ofNat 0))] [(Pt.mk 1 1 (tm 55))])),(wB 57 (Ab 18 [(tm 54),(tm 56)])),(wB 58 (AM Ip (tm 57) (oN 0)))]) nU)
abbrev lM:CC:=(CC.seq (CC.region [(wB 8 (AA (O.c (V.b Bool.false))))]) CC.ret)
abbrev rG:CC:=(CC.cond (tm 108) lM CC.skip)
abbrev vU:CC:=(CC.seq (CC.region [(wB 100 (AA (tm 17))),(wB 101 (AA (tm 100))),(wG 101 false 102 (AA (tm 9))),(wG 101 false 103 (AR 5 (tm 14))),(wG 101 false 104 (Aj 57 1 [(V.i IntKind.i64 (Int.ofNat 0)),(V.i IntKind.i64 (Int.ofNat 0)),(V.s 0 0),(V.s 0 0),(V.i IntKind.i64 (Int.ofNat 0))] [(Pt.mk 0 5 (tm 103))])),(wG 101 false 105 (Cx [V.l0,V.l0,(V.i IntKind.i64 (Int.ofNat 0)),(V.i IntKind.i64 (Int.ofNat 0))] [(Pt.mk 1 1 (tm 104))])),(wG 101 false 106 (Ab 18 [(tm 102),(tm 105)])),(wG 101 false 107 (AM Ip (tm 106) (oN 0))),(wB 108 (Ag (tm 101) (O.c (V.b Bool.true)) (tm 107)))]) rG)
abbrev rY:CC:=(CC.seq (CC.region [(wB 8 (AA (O.c (V.b Bool.false))))]) CC.ret)
abbrev yD:CC:=(CC.cond (tm 122) rY CC.skip)
abbrev xI:CC:=(CC.seq (CC.region [(wB 114 (AA (tm 19))),(wB 115 (AA (tm 114))),(wG 115 false 116 (AA (tm 9))),(wG 115 false 117 (AR 5 (tm 15))),(wG 115 false 118 (Aj 57 1 [(V.i IntKind.i64 (Int.ofNat 0)),(V.i IntKind.i64 (Int.ofNat 0)),(V.s 0 0),(V.s 0 0),(V.i IntKind.i64 (Int.ofNat 0))] [(Pt.mk 0 5 (tm 117))])),(wG 115 false 119 (Cx [V.l0,V.l0,(V.i IntKind.i64 (Int.ofNat 0)),(V.i IntKind.i64 (Int.ofNat 0))] [(Pt.mk 1 1 (tm 118))])),(wG 115 false 120 (Ab 18 [(tm 116),(tm 119)])),(wG 115 false 121 (AM Ip (tm 120) (oN 0))),(wB 122 (Ag (tm 115) (O.c (V.b Bool.true)) (tm 121)))]) yD)
abbrev jo:CC:=(CC.cond (tm 143) CC.skip (CC.exit 2))
abbrev zY:CC:=(CC.seq (CC.region [(wB 142 (AA (tm 25))),(wB 143 (AM BV (tm 142) (oN 6)))]) jo)
abbrev vb:CC:=(CC.region [(wB 157 (AA (tm 24))),(wB 158 (AM A4 (tm 157) (oN 1))),(wB 24 (AA (tm 158)))])
abbrev tS:CC:=(CC.cond (tm 156) vb CC.skip)
abbrev nL:CC:=(CC.seq (CC.region [(wB 146 (AA (tm 25))),(wB 147 (AM HP (oN 3) (tm 146))),(wB 148 (AA (tm 23))),(wB 149 (AM Ds (tm 147) (tm 148))),(wB 150 (AA (tm 149))),(wG 150 true 151 (AA (tm 22))),(wG 150 true 152 (AA (tm 25))),(wG 150 true 153 (AM HP (oN 3) (tm 152))),(wG 150 true 154 (AM A4 (tm 153) (oN 1))),(wG 150 true 155 (AM Ds (tm 151) (tm 154))),(wB 156 (Ag (tm 150) (tm 155) (O.c (V.b Bool.false))))]) tS)
abbrev si:CC:=(CC.block 3 nL)
abbrev pD:CC:=(CC.region [(wB 144 (AA (tm 25))),(wB 145 (AM A4 (tm 144) (oN 1))),(wB 25 (AA (tm 145)))])
abbrev vN:CC:=(CC.seq si pD)
abbrev AAr:CC:=(CC.seq zY vN)
abbrev lR:CC:=(CC.loop AAr)
abbrev sC:CC:=(CC.block 2 lR)
abbrev r9:CC:=(CC.seq (CC.region [(wB 25 (AA (oN 0)))]) sC)
abbrev tT:CC:=(CC.cond (tm 165) CC.skip (CC.exit 4))
abbrev nG:CC:=(CC.seq (CC.region [(wB 164 (AA (tm 28))),(wB 165 (AM BV (tm 164) (oN 6)))]) tT)
abbrev zj:CC:=(CC.region [(wB 179 (AA (tm 27))),(wB 180 (AM A4 (tm 179) (oN 1))),(wB 27 (AA (tm 180)))])
abbrev oU:CC:=(CC.cond (tm 178) zj CC.skip)
abbrev qQ:CC:=(CC.seq (CC.region [(wB 168 (AA (tm 28))),(wB 169 (AM HP (oN 3) (tm 168))),(wB 170 (AA (tm 12))),(wB 171 (AM Ds (tm 169) (tm 170))),(wB 172 (AA (tm 171))),(wG 172 true 173 (AA (tm 12))),(wG 172 true 174 (AA (tm 28))),(wG 172 true 175 (AM HP (oN 3) (tm 174))),(wG 172 true 176 (AM A4 (tm 175) (oN 1))),(wG 172 true 177 (AM Ds (tm 173) (tm 176))),(wB 178 (Ag (tm 172) (tm 177) (O.c (V.b Bool.false))))]) oU)
abbrev yO:CC:=(CC.block 5 qQ)
abbrev j6:CC:=(CC.region [(wB 166 (AA (tm 28))),(wB 167 (AM A4 (tm 166) (oN 1))),(wB 28 (AA (tm 167)))])
abbrev lT:CC:=(CC.seq yO j6)
abbrev ABR:CC:=(CC.seq nG lT)
abbrev sj:CC:=(CC.loop ABR)
abbrev sY:CC:=(CC.block 4 sj)
abbrev ot:CC:=(CC.seq (CC.region [(wB 28 (AA (oN 0)))]) sY)
abbrev vX:CC:=(CC.region [(wB 193 (AA (tm 27))),(wB 194 (AM A4 (tm 193) (oN 1))),(wB 27 (AA (tm 194)))])
abbrev zf:CC:=(CC.cond (tm 192) vX CC.skip)
abbrev kU:CC:=(CC.seq (CC.region [(wB 181 (AA (tm 13))),(wB 182 (AA (tm 12))),(wB 183 (AM Ds (tm 181) (tm 182))),(wB 184 (AA (tm 183))),(wG 184 true 185 (AA (tm 12))),(wG 184 true 186 (AA (tm 13))),(wG 184 true 187 (AA (tm 3))),(wG 184 true 188 (E2 (tm 187) (O.c (V.i IntKind.u8 (Int.ofNat 4))))),(wG 184 true 189 (Be IntKind.i64 (tm 188))),(wG 184 true 190 (AM A4 (tm 186) (tm 189))),(wG 184 true 191 (AM Ds (tm 185) (tm 190))),(wB 192 (Ag (tm 184) (tm 191) (O.c (V.b Bool.false))))]) zf)
abbrev sN:CC:=(CC.seq (CC.region [(wB 195 (AA (tm 21))),(wB 196 (AA (tm 195))),(wG 196 true 197 (AA (tm 20))),(wG 196 true 198 (A9 (tm 197))),(wG 196 true 199 (AA (tm 24))),(wG 196 true 200 (AM DR (tm 198) (tm 199))),(wB 201 (Ag (tm 196) (tm 200) (O.c (V.b Bool.false)))),(wB 202 (AA (tm 201))),(wG 202 true 203 (AA (tm 20))),(wG 202 true 204 (AG 5 (tm 203) (oN 0))),(wG 202 true 205 (AF 0 (tm 204))),(wG 202 true 206 (AK (tm 205))),(wG 202 true 207 (AM DR (tm 206) (oN 8))),(wB 208 (Ag (tm 202) (tm 207) (O.c (V.b Bool.false)))),(wB 209 (AA (tm 208))),(wG 209 true 210 (AA (tm 20))),(wG 209 true 211 (AG 5 (tm 210) (oN 1))),(wG 209 true 212 (AF 0 (tm 211))),(wG 209 true 213 (AK (tm 212))),(wG 209 true 214 (AM DR (tm 213) (oN 7))),(wB 215 (Ag (tm 209) (tm 214) (O.c (V.b Bool.false)))),(wB 216 (AA (tm 215))),(wG 216 true 217 (AA (tm 9))),(wG 216 true 218 (AA (tm 26))),(wG 216 true 219 (Ab 22 [(tm 217),(tm 218)])),(wG 216 true 220 (A9 (tm 219))),(wG 216 true 221 (AA (tm 27))),(wG 216 true 222 (AM A4 (tm 221) (oN 1))),(wG 216 true 223 (AM DR (tm 220) (tm 222))),(wB 224 (Ag (tm 216) (tm 223) (O.c (V.b Bool.false)))),(wB 8 (AA (tm 224)))]) CC.ret)
abbrev vh:CC:=(CC.seq kU sN)
abbrev mG:CC:=(CC.seq ot vh)
abbrev sG:CC:=(CC.seq (CC.region [(wB 27 (AA (oN 0)))]) mG)
abbrev wh:CC:=(CC.seq (CC.region [(wB 159 (AA (tm 12))),(wB 160 (AM A4 (oN 97) (tm 159))),(wB 161 (Be IntKind.u8 (tm 160))),(wB 162 (Aj 5 1 [(V.i IntKind.u8 (Int.ofNat 0))] [(Pt.mk 0 1 (tm 161))])),(wB 163 (E7 (tm 162))),(wB 26 (AA (tm 163)))]) sG)
abbrev p9:CC:=(CC.seq r9 wh)
abbrev vJ:CC:=(CC.seq (CC.region [(wB 24 (AA (oN 2)))]) p9)
abbrev vr:CC:=(CC.seq (CC.region [(wB 128 (AA (tm 12))),(wB 129 (AA (tm 13))),(wB 130 (Iu (tm 128) (tm 129))),(wB 131 (AA (tm 12))),(wB 132 (AA (tm 1))),(wB 133 (E2 (tm 132) (O.c (V.i IntKind.u8 (Int.ofNat 4))))),(wB 134 (Be IntKind.i64 (tm 133))),(wB 135 (AM A4 (tm 131) (tm 134))),(wB 136 (AA (tm 13))),(wB 137 (AA (tm 3))),(wB 138 (E2 (tm 137) (O.c (V.i IntKind.u8 (Int.ofNat 4))))),(wB 139 (Be IntKind.i64 (tm 138))),(wB 140 (AM A4 (tm 136) (tm 139))),(wB 141 (ES (tm 135) (tm 140))),(wB 22 (AA (tm 130))),(wB 23 (AA (tm 141)))]) vJ)
abbrev qh:CC:=(CC.seq (CC.region [(wB 124 (AA (tm 9))),(wB 125 (Ab 19 [(tm 124)])),(wB 123 (AA (tm 125))),(wB 126 (A2 0 (tm 123))),(wB 127 (A2 1 (tm 123))),(wB 20 (AA (tm 126))),(wB 21 (AA (tm 127)))]) vr)
abbrev qw:CC:=(CC.seq xI qh)
abbrev mO:CC:=(CC.seq (CC.region [(wB 110 (AA (tm 9))),(wB 111 (Ab 19 [(tm 110)])),(wB 109 (AA (tm 111))),(wB 112 (A2 0 (tm 109))),(wB 113 (A2 1 (tm 109))),(wB 18 (AA (tm 112))),(wB 19 (AA (tm 113)))]) qw)
abbrev tE:CC:=(CC.seq vU mO)
abbrev vm:CC:=(CC.seq (CC.region [(wB 96 (AA (tm 9))),(wB 97 (Ab 19 [(tm 96)])),(wB 95 (AA (tm 97))),(wB 98 (A2 0 (tm 95))),(wB 99 (A2 1 (tm 95))),(wB 16 (AA (tm 98))),(wB 17 (AA (tm 99)))]) tE)
abbrev ki:CC:=(CC.seq (CC.region [(wB 80 (AA (tm 13))),(wB 81 (AM A4 (oN 97) (tm 80))),(wB 82 (Be IntKind.u8 (tm 81))),(wB 83 (Aj 5 1 [(V.i IntKind.u8 (Int.ofNat 0))] [(Pt.mk 0 1 (tm 82))])),(wB 84 (E7 (tm 83))),(wB 85 (AA (tm 13))),(wB 86 (AM A4 (oN 97) (tm 85))),(wB 87 (AA (tm 3))),(wB 88 (E2 (tm 87) (O.c (V.i IntKind.u8 (Int.ofNat 4))))),(wB 89 (Be IntKind.i64 (tm 88))),(wB 90 (AM A4 (tm 86) (tm 89))),(wB 91 (Be IntKind.u8 (tm 90))),(wB 92 (Aj 5 1 [(V.i IntKind.u8 (Int.ofNat 0))] [(Pt.mk 0 1 (tm 91))])),(wB 93 (E7 (tm 92))),(wB 94 (Cx [(V.i IntKind.i64 (Int.ofNat 0)),(V.i IntKind.i64 (Int.ofNat 0)),(V.s 0 0),(V.s 0 0),(V.i IntKind.i64 (Int.ofNat 0))] [(Pt.mk 0 1 (oN 8)),(Pt.mk 2 1 (tm 84)),(Pt.mk 3 1 (tm 93)),(Pt.mk 4 1 (oN 1))])),(wB 15 (Bw 57 [(V.i IntKind.i64 (Int.ofNat 0)),(V.i IntKind.i64 (Int.ofNat 0)),(V.s 0 0),(V.s 0 0),(V.i IntKind.i64 (Int.ofNat 0))])),(CO.mk G.none D.none Bool.true (CR.mk (Af 5 (tm 15) (tm 94))))]) vm)
abbrev nB:CC:=(CC.seq (CC.region [(wB 65 (AA (tm 12))),(wB 66 (AM A4 (oN 97) (tm 65))),(wB 67 (Be IntKind.u8 (tm 66))),(wB 68 (Aj 5 1 [(V.i IntKind.u8 (Int.ofNat 0))] [(Pt.mk 0 1 (tm 67))])),(wB 69 (E7 (tm 68))),(wB 70 (AA (tm 12))),(wB 71 (AM A4 (oN 97) (tm 70))),(wB 72 (AA (tm 1))),(wB 73 (E2 (tm 72) (O.c (V.i IntKind.u8 (Int.ofNat 4))))),(wB 74 (Be IntKind.i64 (tm 73))),(wB 75 (AM A4 (tm 71) (tm 74))),(wB 76 (Be IntKind.u8 (tm 75))),(wB 77 (Aj 5 1 [(V.i IntKind.u8 (Int.ofNat 0))] [(Pt.mk 0 1 (tm 76))])),(wB 78 (E7 (tm 77))),(wB 79 (Cx [(V.i IntKind.i64 (Int.ofNat 0)),(V.i IntKind.i64 (Int.ofNat 0)),(V.s 0 0),(V.s 0 0),(V.i IntKind.i64 (Int.ofNat 0))] [(Pt.mk 0 1 (oN 7)),(Pt.mk 2 1 (tm 69)),(Pt.mk 3 1 (tm 78)),(Pt.mk 4 1 (oN 1))])),(wB 14 (Bw 57 [(V.i IntKind.i64 (Int.ofNat 0)),(V.i IntKind.i64 (Int.ofNat 0)),(V.s 0 0),(V.s 0 0),(V.i IntKind.i64 (Int.ofNat 0))])),(CO.mk G.none D.none Bool.true (CR.mk (Af 5 (tm 14) (tm 79))))]) ki)
abbrev wN:CC:=(CC.seq (CC.region [(wB 59 (AA (tm 0))),(wB 60 (E2 (tm 59) (O.c (V.i IntKind.u8 (Int.ofNat 18))))),(wB 61 (Be IntKind.i64 (tm 60))),(wB 62 (AA (tm 2))),(wB 63 (E2 (tm 62) (O.c (V.i IntKind.u8 (Int.ofNat 18))))),(wB 64 (Be IntKind.i64 (tm 63))),(wB 12 (AA (tm 61))),(wB 13 (AA (tm 64)))]) nB)
abbrev kL:CC:=(CC.seq ya wN)
abbrev qg:CC:=(CC.seq oZ kL)
abbrev zJ:CC:=(CC.seq (CC.region [(wB 10 (AA (O.c V.l0)))]) qg)
abbrev nP:CC:=(CC.seq (CC.region [(wB 31 (Ab 17 [])),(wB 9 (AA (tm 31)))]) zJ)
abbrev zH:CC:=(CC.seq AAF nP)
abbrev b6:CC:=(CC.seq (CC.region [(wB 8 (AA (O.c (V.b Bool.false))))]) zH)
theorem c6:AY Try.prog 6=⟨225,b6,[(Rs.tmp (AT 8))]⟩:=by kernel_rfl
end Go.Proofs.Ytobfgempjekjpaa
set_option maxRecDepth 1000000
namespace Go.Proofs.Ytobfgempjekjpaa.ravelinlaw14
open Go.Ev
theorem QO:Q5 yE Try.prog 1000 15 []=true:=by kernel_rfl
theorem OI:Dh Try.prog 15:=T5 (UF _) (Checked.mixed Try.checked) QO
end Go.Proofs.Ytobfgempjekjpaa.ravelinlaw14
set_option maxRecDepth 100000
set_option maxHeartbeats 8000000
namespace Go.Proofs.Ytobfgempjekjpaa
open Go Go.Ev
theorem VU {h:H}:BF Try.prog 15 [] h fun y h'=>y=.b true/\h'=h:=BF.UI ravelinlaw14.OI h
theorem R6 {h:H} {v:V} {K:List Ek} (a:Ke h v K) (hl:K.length<=9223372036854775807):BF Try.prog 16 [v] h fun y h'=>∃ r,y=.b r/\(r=true->AAh K)/\h=h':=by
 refine BB c16 (by intro hb;cases hb) (by simp) (by simp) fun Q hQ=>?_
 simp only[Ap,Nat.reduceAdd]
 repeat' (first
  |refine St.h ?_
  |simp(disch:=first|omega|(simp only[AI];omega))only[AJ,↓AB,↓reduceIte,seval,a.ln]
  |(with_reducible (first|apply AE|apply AD))<;>(intro hc;(try simp only[AX]at hc);(try simp only[hc]);(try simp only[AV]at hc);try omega))
 refine Ok.lp (fun m t g=>∃ i:Nat,m=K.length-i/\i<=K.length/\h=g/\get 0 t=v/\get 3 t=.i .i64 (i:Int)/\∀ p,p<i->X7 (K.getD p default)) K.length ?_ ?_
 ·simp(disch:=first|omega|(simp only[AI];omega))only[AJ,↓AB,↓reduceIte,seval]
  refine⟨0,by omega,by omega,?_⟩
  refine⟨?_,?_,?_,fun p hp=>by omega⟩
  all_goals first|trivial|rfl
 rintro I hI m t g ⟨i,rfl,hi,rfl,f0,f3,hall⟩
 by_cases hil:i<K.length
 case neg=>
  obtain rfl:i=K.length:=by omega
  have d1:((K.length:Int)<(K.length:Int))=False:=eq_false (by omega)
  repeat' (first
   |refine St.h ?_
   |simp(disch:=first|omega|(simp only[AI];omega))only[AJ,↓AB,↓reduceIte,seval,f0,f3,d1,a.ln]
   |(with_reducible (first|apply AE|apply AD))<;>(intro hc;(try simp only[AX]at hc);(try simp only[hc]);(try simp only[AV]at hc);try omega))
  subst hQ
  exact⟨_,rfl,fun hr=>⟨by have:=of_decide_eq_true hr;omega,hall⟩,rfl⟩
 have d1:((i:Int)<(K.length:Int))=True:=eq_true (by omega)
 have m1:=a.at hil
 by_cases hg:60<(K.getD i default).e.gone.length
 ·have d2:((60:Int)<((K.getD i default).e.gone.length:Int))=True:=eq_true (by omega)
  repeat' (first
   |refine St.h ?_
   |simp(disch:=first|omega|(simp only[AI];omega))only[AJ,↓AB,↓reduceIte,seval,f0,f3,d1,d2,a.ln,a.ix,a.l0,m1.1.ln,Int.toNat_natCast]
   |(with_reducible (first|apply AE|apply AD))<;>(intro hc;(try simp only[AX]at hc);(try simp only[hc]);(try simp only[AV]at hc);try omega))
  subst hQ
  exact⟨_,rfl,fun hr=>(by cases hr),rfl⟩
 have d2:((60:Int)<((K.getD i default).e.gone.length:Int))=False:=eq_false (by omega)
 by_cases hc:60<(K.getD i default).e.Aa.length
 ·have d3:((60:Int)<((K.getD i default).e.Aa.length:Int))=True:=eq_true (by omega)
  repeat' (first
   |refine St.h ?_
   |simp(disch:=first|omega|(simp only[AI];omega))only[AJ,↓AB,↓reduceIte,seval,f0,f3,d1,d2,d3,a.ln,a.ix,a.l0,a.l1,m1.1.ln,m1.2.ln,Int.toNat_natCast]
   |(with_reducible (first|apply AE|apply AD))<;>(intro hc;(try simp only[AX]at hc);(try simp only[hc]);(try simp only[AV]at hc);try omega))
  subst hQ
  exact⟨_,rfl,fun hr=>(by cases hr),rfl⟩
 have d3:((60:Int)<((K.getD i default).e.Aa.length:Int))=False:=eq_false (by omega)
 repeat' (first
  |refine St.h ?_
  |simp(disch:=first|omega|(simp only[AI];omega))only[AJ,↓AB,↓reduceIte,seval,f0,f3,d1,d2,d3,a.ln,a.ix,a.l0,a.l1,m1.1.ln,m1.2.ln,Int.toNat_natCast]
  |(with_reducible (first|apply AE|apply AD))<;>(intro hc;(try simp only[AX]at hc);(try simp only[hc]);(try simp only[AV]at hc);try omega))
 refine Ok.lp (fun m t g=>∃ j:Nat,m=(K.getD i default).e.Aa.length-j/\j<=(K.getD i default).e.Aa.length/\h=g/\get 0 t=v/\get 3 t=.i .i64 (i:Int)/\get 4 t=.i .i64 (j:Int)/\∀ p,p<j->((K.getD i default).e.Aa.getD p default).fst.length<=20/\((K.getD i default).e.Aa.getD p default).CT.length<=20) (K.getD i default).e.Aa.length ?_ ?_
 ·simp(disch:=first|omega|(simp only[AI];omega))only[AJ,↓AB,↓reduceIte,seval,f0,f3]
  refine⟨0,by omega,by omega,?_⟩
  refine⟨?_,?_,?_,?_,fun p hp=>by omega⟩
  all_goals first|trivial|rfl
 rintro I2 hI2 m2 t2 g2 ⟨j,rfl,hj,rfl,f0,f3,f4,hin⟩
 by_cases hjl:j<(K.getD i default).e.Aa.length
 case neg=>
  obtain rfl:j=(K.getD i default).e.Aa.length:=by omega
  have d4:(((K.getD i default).e.Aa.length:Int)<((K.getD i default).e.Aa.length:Int))=False:=eq_false (by omega)
  repeat' (first
   |refine St.h ?_
   |simp(disch:=first|omega|(simp only[AI];omega))only[AJ,↓AB,↓reduceIte,seval,f0,f3,f4,d4,a.ln,a.ix,a.l0,a.l1,m1.1.ln,m1.2.ln,Int.toNat_natCast]
   |(with_reducible (first|apply AE|apply AD))<;>(intro hc;(try simp only[AX]at hc);(try simp only[hc]);(try simp only[AV]at hc);try omega))
  refine Ah hI (K.length-(i+1)) (by omega) ⟨i+1,rfl,by omega,rfl,by simp(disch:=first|omega|(simp only[AI];omega))only[AJ,↓AB,↓reduceIte,seval,f0],by simp(disch:=first|omega|(simp only[AI];omega))only[AJ,↓AB,↓reduceIte,seval,f3];rfl,fun p hp=>?_⟩
  by_cases e:p=i
  ·rw[e];exact⟨by omega,by omega,hin⟩
  ·exact hall p (by omega)
 have d4:((j:Int)<((K.getD i default).e.Aa.length:Int))=True:=eq_true (by omega)
 by_cases hx:20<((K.getD i default).e.Aa.getD j default).fst.length
 ·have d5:((20:Int)<(((K.getD i default).e.Aa.getD j default).fst.length:Int))=True:=eq_true (by omega)
  repeat' (first
   |refine St.h ?_
   |simp(disch:=first|omega|(simp only[AI];omega))only[AJ,↓AB,↓reduceIte,seval,f0,f3,f4,d4,d5,a.ln,a.ix,a.l0,a.l1,m1.1.ln,m1.2.ln,m1.2.ix,m1.2.l2,Int.toNat_natCast]
   |(with_reducible (first|apply AE|apply AD))<;>(intro hc;(try simp only[AX]at hc);(try simp only[hc]);(try simp only[AV]at hc);try omega))
  subst hQ
  exact⟨_,rfl,fun hr=>(by cases hr),rfl⟩
 have d5:((20:Int)<(((K.getD i default).e.Aa.getD j default).fst.length:Int))=False:=eq_false (by omega)
 by_cases hy:20<((K.getD i default).e.Aa.getD j default).CT.length
 ·have d6:((20:Int)<(((K.getD i default).e.Aa.getD j default).CT.length:Int))=True:=eq_true (by omega)
  repeat' (first
   |refine St.h ?_
   |simp(disch:=first|omega|(simp only[AI];omega))only[AJ,↓AB,↓reduceIte,seval,f0,f3,f4,d4,d5,d6,a.ln,a.ix,a.l0,a.l1,m1.1.ln,m1.2.ln,m1.2.ix,m1.2.l2,m1.2.l3,Int.toNat_natCast]
   |(with_reducible (first|apply AE|apply AD))<;>(intro hc;(try simp only[AX]at hc);(try simp only[hc]);(try simp only[AV]at hc);try omega))
  subst hQ
  exact⟨_,rfl,fun hr=>(by cases hr),rfl⟩
 have d6:((20:Int)<(((K.getD i default).e.Aa.getD j default).CT.length:Int))=False:=eq_false (by omega)
 repeat' (first
  |refine St.h ?_
  |simp(disch:=first|omega|(simp only[AI];omega))only[AJ,↓AB,↓reduceIte,seval,f0,f3,f4,d4,d5,d6,a.ln,a.ix,a.l0,a.l1,m1.1.ln,m1.2.ln,m1.2.ix,m1.2.l2,m1.2.l3,Int.toNat_natCast]
  |(with_reducible (first|apply AE|apply AD))<;>(intro hc;(try simp only[AX]at hc);(try simp only[hc]);(try simp only[AV]at hc);try omega))
 refine Ah hI2 ((K.getD i default).e.Aa.length-(j+1)) (by omega) ⟨j+1,rfl,by omega,rfl,by simp(disch:=first|omega|(simp only[AI];omega))only[AJ,↓AB,↓reduceIte,seval,f0],by simp(disch:=first|omega|(simp only[AI];omega))only[AJ,↓AB,↓reduceIte,seval,f3],by simp(disch:=first|omega|(simp only[AI];omega))only[AJ,↓AB,↓reduceIte,seval,f4];rfl,fun p hp=>?_⟩
 by_cases e:p=j
 ·rw[e];exact⟨by omega,by omega⟩
 ·exact hin p (by omega)
theorem Jx {h:H} {v:V} {K:List Ek} {k x y:List UInt8} (a:Ke h v K) (hl:K.length<=9223372036854775807) (hf:B.val h.floor<=B.val h.next):BF Try.prog 4 [v,sv k,sv x,sv y] h fun y h'=>y=.b true:=by
 refine BB c4 (by intro hb;cases hb) (by simp) (by simp) fun Q hQ=>?_
 simp only[Ap,Nat.reduceAdd]
 repeat' (first
  |refine St.h ?_
  |simp(disch:=first|omega|(simp only[AI];omega))only[AJ,↓AB,↓reduceIte,seval]
  |(with_reducible (first|apply AE|apply AD))<;>(intro hc;(try simp only[AX]at hc);(try simp only[hc]);(try simp only[AV]at hc);try omega))
 refine CL.pure VU ?_
 repeat' (first
  |refine St.h ?_
  |simp(disch:=first|omega|(simp only[AI];omega))only[AJ,↓AB,↓reduceIte,seval]
  |(with_reducible (first|apply AE|apply AD))<;>(intro hc;(try simp only[AX]at hc);(try simp only[hc]);(try simp only[AV]at hc);try omega))
 refine CL.mk (R6 a hl) ?_
 rintro _ _ ⟨r,rfl,hr,rfl⟩
 cases r with
 |false=>
  repeat' (first
   |refine St.h ?_
   |simp(disch:=first|omega|(simp only[AI];omega))only[AJ,↓AB,↓reduceIte,seval]
   |(with_reducible (first|apply AE|apply AD))<;>(intro hc;(try simp only[AX]at hc);(try simp only[hc]);(try simp only[AV]at hc);try omega))
  subst hQ
  rfl
 |true=>
 have Fw:=hr rfl
 by_cases hk:20<k.length
 ·have d1:((20:Int)<(k.length:Int))=True:=eq_true (by omega)
  repeat' (first
   |refine St.h ?_
   |simp(disch:=first|omega|(simp only[AI];omega))only[AJ,↓AB,↓reduceIte,seval,d1]
   |(with_reducible (first|apply AE|apply AD))<;>(intro hc;(try simp only[AX]at hc);(try simp only[hc]);(try simp only[AV]at hc);try omega))
  subst hQ
  rfl
 have dk:((20:Int)<(k.length:Int))=False:=eq_false (by omega)
 by_cases hx:20<x.length
 ·have d1:((20:Int)<(x.length:Int))=True:=eq_true (by omega)
  repeat' (first
   |refine St.h ?_
   |simp(disch:=first|omega|(simp only[AI];omega))only[AJ,↓AB,↓reduceIte,seval,dk,d1]
   |(with_reducible (first|apply AE|apply AD))<;>(intro hc;(try simp only[AX]at hc);(try simp only[hc]);(try simp only[AV]at hc);try omega))
  subst hQ
  rfl
 have dx:((20:Int)<(x.length:Int))=False:=eq_false (by omega)
 by_cases hy:20<y.length
 ·have d1:((20:Int)<(y.length:Int))=True:=eq_true (by omega)
  repeat' (first
   |refine St.h ?_
   |simp(disch:=first|omega|(simp only[AI];omega))only[AJ,↓AB,↓reduceIte,seval,dk,dx,d1]
   |(with_reducible (first|apply AE|apply AD))<;>(intro hc;(try simp only[AX]at hc);(try simp only[hc]);(try simp only[AV]at hc);try omega))
  subst hQ
  rfl
 have dy:((20:Int)<(y.length:Int))=False:=eq_false (by omega)
 repeat' (first
  |refine St.h ?_
  |simp(disch:=first|omega|(simp only[AI];omega))only[AJ,↓AB,↓reduceIte,seval,dk,dx,dy]
  |(with_reducible (first|apply AE|apply AD))<;>(intro hc;(try simp only[AX]at hc);(try simp only[hc]);(try simp only[AV]at hc);try omega))
 refine CL.mk (T7 hf) ?_
 rintro _ h1 ⟨rfl,a1,n1,s1⟩
 repeat' (first
  |refine St.h ?_
  |simp(disch:=first|omega|(simp only[AI];omega))only[AJ,↓AB,↓reduceIte,seval]
  |(with_reducible (first|apply AE|apply AD))<;>(intro hc;(try simp only[AX]at hc);(try simp only[hc]);(try simp only[AV]at hc);try omega))
 refine CL.mk (Ue (s1.fl hf)) ?_
 rintro _ h2 ⟨rfl,a2,n2,s2⟩
 repeat' (first
  |refine St.h ?_
  |simp(disch:=first|omega|(simp only[AI];omega))only[AJ,↓AB,↓reduceIte,seval]
  |(with_reducible (first|apply AE|apply AD))<;>(intro hc;(try simp only[AX]at hc);(try simp only[hc]);(try simp only[AV]at hc);try omega))
 refine Ok.lp (fun m t g=>∃ (i:Nat) (b r:B) (u w:V) (S:JC),m=K.length-i/\i<=K.length/\get 0 t=v/\get 1 t=sv k/\get 2 t=sv x/\get 3 t=sv y/\get 9 t=.p b 0 0 4/\get 10 t=.p r 0 0 4/\get 11 t=.i .i64 (i:Int)/\IC g b u S/\IC g r w S/\Wf S/\b≠r/\(∀ q,Al u q->q≠r)/\(∀ q,Al w q->q≠b)/\B.val h.next<=B.val b/\B.val h.next<=B.val r/\AU AO h g) K.length ?_ ?_
 ·simp(disch:=first|omega|(simp only[AI];omega))only[AJ,↓AB,↓reduceIte,seval]
  refine⟨0,h.next,h1.next,.l0,.l0,VB,by omega,by omega,?_⟩
  refine⟨?_,?_,?_,?_,?_,?_,?_,a1.grow s2,a2,wfZ,fun e=>by rw[<-e]at n1;omega,?_,?_,Nat.le_refl _,s1.next,s1.trans s2⟩
  rotate_right
  ·rintro q ⟨_,_,_,_,_,e⟩;cases e
  rotate_right
  ·rintro q ⟨_,_,_,_,_,e⟩;cases e
  all_goals first|trivial|rfl
 rintro I hI m t g ⟨i,b,r,u,w,S,rfl,hi,f0,f1,f2,f3,f9,f10,f11,sp,sr,wf,hbr,hur,hwb,hb,hrr,st⟩
 have ag:=a.grow st
 have hfg:=st.fl hf
 have hls:=wf.len
 by_cases hil:i<K.length
 case neg=>
  obtain rfl:i=K.length:=by omega
  have d1:((K.length:Int)<(K.length:Int))=False:=eq_false (by omega)
  have hpl:=TT S.L
  repeat' (first
   |refine St.h ?_
   |simp(disch:=first|omega|(simp only[AI];omega))only[AJ,↓AB,↓reduceIte,seval,f0,f1,f2,f3,f9,f10,f11,d1,a.ln]
   |(with_reducible (first|apply AE|apply AD))<;>(intro hc;(try simp only[AX]at hc);(try simp only[hc]);(try simp only[AV]at hc);try omega))
  refine CL.mk (L8 sp (by omega) hfg) ?_
  rintro _ g1 ⟨p1,rfl,tp1,t1⟩
  have hf1:=t1.fl hfg
  repeat' (first
   |refine St.h ?_
   |simp(disch:=first|omega|(simp only[AI];omega))only[AJ,↓AB,↓reduceIte,seval,f0,f1,f2,f3,f9,f10,f11]
   |(with_reducible (first|apply AE|apply AD))<;>(intro hc;(try simp only[AX]at hc);(try simp only[hc]);(try simp only[AV]at hc);try omega))
  refine CL.mk (Q0 (sr.grow t1) (by omega) hf1) ?_
  rintro _ g2 ⟨p2,rfl,tp2,t2⟩
  have hf2:=t2.fl hf1
  have t12:=t1.trans t2
  repeat' (first
   |refine St.h ?_
   |simp(disch:=first|omega|(simp only[AI];omega))only[AJ,↓AB,↓reduceIte,seval,f0,f1,f2,f3,f9,f10,f11]
   |(with_reducible (first|apply AE|apply AD))<;>(intro hc;(try simp only[AX]at hc);(try simp only[hc]);(try simp only[AV]at hc);try omega))
  refine CL.pure (MH (tp1.grow t2) tp2 (by omega)) ?_
  repeat' (first
   |refine St.h ?_
   |simp(disch:=first|omega|(simp only[AI];omega))only[AJ,↓AB,↓reduceIte,seval,f0,f1,f2,f3,f9,f10,f11]
   |(with_reducible (first|apply AE|apply AD))<;>(intro hc;(try simp only[AX]at hc);(try simp only[hc]);(try simp only[AV]at hc);try omega))
  refine CL.mk (Ry (sp.grow t12) (by omega) hf2) ?_
  rintro c1 g3 ⟨tc1,t3⟩
  have hf3:=t3.fl hf2
  have t13:=t12.trans t3
  repeat' (first
   |refine St.h ?_
   |simp(disch:=first|omega|(simp only[AI];omega))only[AJ,↓AB,↓reduceIte,seval,f0,f1,f2,f3,f9,f10,f11]
   |(with_reducible (first|apply AE|apply AD))<;>(intro hc;(try simp only[AX]at hc);(try simp only[hc]);(try simp only[AV]at hc);try omega))
  refine CL.mk (Iw (y:=[]) (q:=true) (sr.grow t13) (by omega) hf3) ?_
  rintro c2 g4 ⟨tc2,t4⟩
  have hf4:=t4.fl hf3
  have t14:=t13.trans t4
  have l1:=List.length_filter_le (E6 k k) S.L
  have l2:=List.length_filter_le (FX x y) S.L
  repeat' (first
   |refine St.h ?_
   |simp(disch:=first|omega|(simp only[AI];omega))only[AJ,↓AB,↓reduceIte,seval,f0,f1,f2,f3,f9,f10,f11]
   |(with_reducible (first|apply AE|apply AD))<;>(intro hc;(try simp only[AX]at hc);(try simp only[hc]);(try simp only[AV]at hc);try omega))
  refine CL.pure (MH (tc1.grow t4) (show Dr g4 c2 (S.L.filter (E6 k k))from tc2) (by omega)) ?_
  repeat' (first
   |refine St.h ?_
   |simp(disch:=first|omega|(simp only[AI];omega))only[AJ,↓AB,↓reduceIte,seval,f0,f1,f2,f3,f9,f10,f11]
   |(with_reducible (first|apply AE|apply AD))<;>(intro hc;(try simp only[AX]at hc);(try simp only[hc]);(try simp only[AV]at hc);try omega))
  refine CL.mk (Nb (sp.grow t14) (by omega) hf4) ?_
  rintro c3 g5 ⟨tc3,t5⟩
  have hf5:=t5.fl hf4
  have t15:=t14.trans t5
  repeat' (first
   |refine St.h ?_
   |simp(disch:=first|omega|(simp only[AI];omega))only[AJ,↓AB,↓reduceIte,seval,f0,f1,f2,f3,f9,f10,f11]
   |(with_reducible (first|apply AE|apply AD))<;>(intro hc;(try simp only[AX]at hc);(try simp only[hc]);(try simp only[AV]at hc);try omega))
  refine CL.mk (Iw (q:=false) (sr.grow t15) (by omega) hf5) ?_
  rintro c4 g6 ⟨tc4,t6⟩
  repeat' (first
   |refine St.h ?_
   |simp(disch:=first|omega|(simp only[AI];omega))only[AJ,↓AB,↓reduceIte,seval,f0,f1,f2,f3,f9,f10,f11]
   |(with_reducible (first|apply AE|apply AD))<;>(intro hc;(try simp only[AX]at hc);(try simp only[hc]);(try simp only[AV]at hc);try omega))
  refine CL.pure (MH (tc3.grow t6) (show Dr g6 c4 (S.L.filter (FX x y))from tc4) (by omega)) ?_
  repeat' (first
   |refine St.h ?_
   |simp(disch:=first|omega|(simp only[AI];omega))only[AJ,↓AB,↓reduceIte,seval,f0,f1,f2,f3,f9,f10,f11]
   |(with_reducible (first|apply AE|apply AD))<;>(intro hc;(try simp only[AX]at hc);(try simp only[hc]);(try simp only[AV]at hc);try omega))
  subst hQ
  rfl
 have d1:((i:Int)<(K.length:Int))=True:=eq_true (by omega)
 have f1':=Fw.2 i hil
 have ca:∀ q,Al (K.getD i default).cv q->B.val q<B.val h.next:=Ke.own a hil
 repeat' (first
  |refine St.h ?_
  |simp(disch:=first|omega|(simp only[AI];omega))only[AJ,↓AB,↓reduceIte,seval,f0,f1,f2,f3,f9,f10,f11,d1,a.ln,ag.ix,ag.la,Int.toNat_natCast]
  |(with_reducible (first|apply AE|apply AD))<;>(intro hc;(try simp only[AX]at hc);(try simp only[hc]);(try simp only[AV]at hc);try omega))
 refine CL.mk (jy sp wf (ag.at hil) (by have:=f1'.1;omega) (by have:=f1'.2.1;omega) (Yn f1') hfg fun q hq e=>by have h1:=ca q hq;rw[e]at h1;omega) ?_
 rintro y1 g5 ⟨rfl,u5,sp5,ow5,t5⟩
 have st5:AU AO h g5:=st.Br t5 fun q e=>by rw[e];exact hb
 have hf5:=st5.fl hf
 have ag5:=a.grow st5
 have n5:=t5.next
 have bl:=sp.lt.1
 have rl:=sr.lt.1
 have sr5:IC g5 r w S:=sr.stay t5 (fun e=>hbr e.symm) hwb
 repeat' (first
  |refine St.h ?_
  |simp(disch:=first|omega|(simp only[AI];omega))only[AJ,↓AB,↓reduceIte,seval,f0,f1,f2,f3,f9,f10,f11,ag5.ix,ag5.la,Int.toNat_natCast]
  |(with_reducible (first|apply AE|apply AD))<;>(intro hc;(try simp only[AX]at hc);(try simp only[hc]);(try simp only[AV]at hc);try omega))
 refine CL.mk (cG sr5 (by omega) (ag5.at hil) (by have:=f1'.1;omega) (by have:=f1'.2.1;omega) hf5 fun q hq e=>by have h1:=ca q hq;rw[e]at h1;omega) ?_
 rintro y2 g6 ⟨rfl,w6,sr6,ow6,t6⟩
 have st6:AU AO h g6:=st5.Br t6 fun q e=>by rw[e];exact hrr
 have u5r:∀ q,Al u5 q->q≠r:=fun q hq e=>by
  rcases ow5 q hq with h1|h1
  ·exact hur q h1 e
  ·rw[e]at h1;omega
 have w6b:∀ q,Al w6 q->q≠b:=fun q hq e=>by
  rcases ow6 q hq with h1|h1
  ·exact hwb q h1 e
  ·rw[e]at h1;omega
 have sp6:=sp5.stay t6 hbr u5r
 have wf6:=qA (e:=(K.getD i default).e) wf
 repeat' (first
  |refine St.h ?_
  |simp(disch:=first|omega|(simp only[AI];omega))only[AJ,↓AB,↓reduceIte,seval,f0,f1,f2,f3,f9,f10,f11]
  |(with_reducible (first|apply AE|apply AD))<;>(intro hc;(try simp only[AX]at hc);(try simp only[hc]);(try simp only[AV]at hc);try omega))
 exact Ah hI (K.length-(i+1)) (by omega) ⟨i+1,b,r,u5,w6,_,rfl,by omega,by simp(disch:=first|omega|(simp only[AI];omega))only[AJ,↓AB,↓reduceIte,seval,f0],by simp(disch:=first|omega|(simp only[AI];omega))only[AJ,↓AB,↓reduceIte,seval,f1],by simp(disch:=first|omega|(simp only[AI];omega))only[AJ,↓AB,↓reduceIte,seval,f2],by simp(disch:=first|omega|(simp only[AI];omega))only[AJ,↓AB,↓reduceIte,seval,f3],by simp(disch:=first|omega|(simp only[AI];omega))only[AJ,↓AB,↓reduceIte,seval,f9],by simp(disch:=first|omega|(simp only[AI];omega))only[AJ,↓AB,↓reduceIte,seval,f10],by simp(disch:=first|omega|(simp only[AI];omega))only[AJ,↓AB,↓reduceIte,seval,f11];rfl,sp6,sr6,wf6,hbr,u5r,w6b,hb,hrr,st6⟩
end Go.Proofs.Ytobfgempjekjpaa
namespace Go.Ev
open Go
def U9 (a:List UInt8) (t:BU):List UInt8:=if t.A7=0 then (bif decide (a=[])||Op.bytesLess t.fst a then t.fst else a)else a
def Ti (a:List UInt8) (t:BU):List UInt8:=if t.A7=0 then ji a t.CT else a
theorem WR:∀ (M:List BU) (a:List UInt8),(∀ t∈M,t.A7=1)->M.foldl U9 a=a
 |[],_,_=>rfl
 |t::M,a,h=>by
  rw[List.foldl_cons,show U9 a t=a by unfold U9;rw[if_neg (by have:=h t List.mem_cons_self;omega)]]
  exact WR M a fun u hu=>h u (List.mem_cons_of_mem _ hu)
theorem V7:∀ (M:List BU) (a:List UInt8),(∀ t∈M,t.A7=1)->M.foldl Ti a=a
 |[],_,_=>rfl
 |t::M,a,h=>by
  rw[List.foldl_cons,show Ti a t=a by unfold Ti;rw[if_neg (by have:=h t List.mem_cons_self;omega)]]
  exact V7 M a fun u hu=>h u (List.mem_cons_of_mem _ hu)
theorem Vt:∀ (Z:List BU) (a:List UInt8),a≠[]->(∀ t∈Z,t.A7=0/\t.fst≠[])->Z.foldl U9 a=Z.foldl (fun a t=>jh a t.fst) a
 |[],_,_,_=>rfl
 |t::Z,a,ha,h=>by
  obtain⟨h1,h2⟩:=h t List.mem_cons_self
  have e:U9 a t=jh a t.fst:=by
   unfold U9 jh
   rw[if_pos h1,Jt,decide_eq_false ha,Bool.false_or]
   cases Op.bytesLess t.fst a<;>rfl
  rw[List.foldl_cons,List.foldl_cons,e]
  refine Vt Z _ ?_ fun u hu=>h u (List.mem_cons_of_mem _ hu)
  unfold jh
  cases Op.bytesLess a t.fst||decide (a=t.fst)
  ·exact h2
  ·exact ha
theorem WL:∀ (Z:List BU) (a:List UInt8),(∀ t∈Z,t.A7=0)->Z.foldl Ti a=Z.foldl (fun a t=>ji a t.CT) a
 |[],_,_=>rfl
 |t::Z,a,h=>by
  have e:Ti a t=ji a t.CT:=by unfold Ti;rw[if_pos (h t List.mem_cons_self)]
  rw[List.foldl_cons,List.foldl_cons,e]
  exact WL Z _ fun u hu=>h u (List.mem_cons_of_mem _ hu)
theorem ab {l:List UInt8} (h:l≠[]):Op.bytesLess [] l=true:=by
 cases l with
 |nil=>exact absurd rfl h
 |cons a l=>rfl
theorem bounds {Z M:List BU} (h1:1<=Z.length) (hz:∀ t∈Z,t.A7=0/\GG t=true) (hm:∀ t∈M,t.A7=1):(Z++M).foldl U9 []=Na Z/\(Z++M).foldl Ti []=NZ Z:=by
 cases Z with
 |nil=>simp at h1
 |cons z Z=>
  have ne:∀ t∈z::Z,t.fst≠[]/\t.CT≠[]:=fun t ht=>by
   have:=DH.1 (hz t ht).2
   exact⟨fun e=>by rw[e]at this;simp at this,fun e=>by rw[e]at this;simp at this⟩
  have z0:=hz z List.mem_cons_self
  have zn:=ne z List.mem_cons_self
  have e1:U9 [] z=z.fst:=by unfold U9;rw[if_pos z0.1];rfl
  have e2:Ti [] z=z.CT:=by unfold Ti ji;rw[if_pos z0.1,ab zn.2];rfl
  have tk:((z::Z).drop 1).take ((z::Z).length-1)=Z:=by
   show Z.take (Z.length+1-1)=Z
   rw[Nat.add_sub_cancel,List.take_length]
  constructor
  ·rw[List.foldl_append,WR _ _ hm,List.foldl_cons,e1,Vt Z _ zn.1 fun t ht=>⟨(hz t (List.mem_cons_of_mem _ ht)).1,(ne t (List.mem_cons_of_mem _ ht)).1⟩]
   unfold Na XE;rw[tk];rfl
  ·rw[List.foldl_append,V7 _ _ hm,List.foldl_cons,e2,WL Z _ fun t ht=>(hz t (List.mem_cons_of_mem _ ht)).1]
   unfold NZ Lo;rw[tk];rfl
end Go.Ev
namespace Go.Proofs.Ytobfgempjekjpaa
open Go Go.Ev
theorem Kh {h:H} {v:V} {K:List Ek} {k x y:List UInt8} (a:Ke h v K) (hl:K.length<=9223372036854775807) (hk:k.length<=9223372036854775807) (hx:x.length<=9223372036854775807) (hy:y.length<=9223372036854775807) (hf:B.val h.floor<=B.val h.next):BF Try.prog 4 [v,sv k,sv x,sv y] h fun y h'=>y=.b true:=Jx a hl hf
end Go.Proofs.Ytobfgempjekjpaa
namespace Go.Proofs.Ytobfgempjekjpaa.chooseTells
open Go Go.Ev Go.ChangeShapes Go.WideShapes Go.ChangeAt Go.RowKit Go.ChangeMaps
theorem own:ownKnob Try.prog.godebug=none:=by kernel_rfl
theorem laid:laidOutB Try.prog=true:=by kernel_rfl
theorem Sp {W:World} (h:W.ShapedOpen Try.prog):0<W.heap.size:=by
 obtain⟨o,_,h1,_⟩:=h.2 Try.prog.globals.size (Nat.le_refl _) (of_decide_eq_true (by kernel_rfl))
 exact Nat.lt_of_le_of_lt (Nat.zero_le _) (Array.getElem?_eq_some_iff.1 h1).1
set_option maxRecDepth 100000 in
theorem AA0:∃ fs,EdF Try.prog 35 fs:=⟨_,⟨Try.underlying35,by kernel_rfl,⟨_,rfl,rfl,by kernel_rfl,_,Try.underlying28,by kernel_rfl,Try.underlying3⟩,⟨_,rfl,rfl,by kernel_rfl,_,_,Try.underlying33,⟨Try.underlying57,by kernel_rfl,⟨⟨_,rfl,rfl,by kernel_rfl,Try.underlying3⟩,⟨_,rfl,rfl,by kernel_rfl,Try.underlying3⟩,⟨_,rfl,rfl,by kernel_rfl,Try.underlying9⟩,⟨_,rfl,rfl,by kernel_rfl,Try.underlying9⟩,⟨_,rfl,rfl,by kernel_rfl,Try.underlying3⟩,trivial⟩⟩⟩,⟨_,rfl,rfl,by kernel_rfl,Try.underlying3⟩,⟨_,rfl,rfl,by kernel_rfl,Try.underlying3⟩⟩⟩
set_option maxRecDepth 100000 in
theorem run {H:Type} {enc:TypeId×Value->H} (W:World) (base:Nat) (args:Array Value) (ds:List (DataW H)) (p:List MemPlace) (hval:∀ (j:Nat) t v,Try.f4.params[j]? =some t->args[j]? =some v->Value.okWide Try.prog W .any base t v) (hopen:W.ShapedOpen Try.prog)
 (hA:DataW.TrodAll enc Try.prog W 0 (fun _=>true) true Try.f4.params.toList args.toList ds p):Calls Try.prog 4 args W fun e w'=>e=.returned (.bool true)/\Below W.heap.size W w':=by
 rw[Try.params4]at hA hval
 obtain⟨v0,vs0,d0,ds0,p0,q0,hargs,rfl,rfl,h0,r0⟩:=trodAll_cons hA
 obtain⟨v1,vs1,d1,ds1,p1,q1,rfl,rfl,rfl,h1,r1⟩:=trodAll_cons r0
 obtain⟨v2,vs2,d2,ds2,p2,q2,rfl,rfl,rfl,h2,r2⟩:=trodAll_cons r1
 obtain⟨v3,vs3,d3,ds3,p3,q3,rfl,rfl,rfl,h3,r3⟩:=trodAll_cons r2
 obtain⟨rfl,rfl,rfl⟩:=trodAll_nil r3
 obtain rfl:args=#[v0,v1,v2,v3]:=by cases args;simp_all
 obtain⟨h,s1,s2⟩:=Go.Ev.start W
 have s:Go.Ev.Start W h:=⟨s1,s2⟩
 obtain⟨x0,y0,z0,rfl⟩:=okWide_slice Try.underlying22 (hval 0 22 v0 rfl rfl)
 obtain⟨fu0,hfu0⟩:=h0
 obtain⟨fs0,F0⟩:=AA0
 obtain⟨u0,L0,e0,m0,l0,k0⟩:=iS s (Sp hopen) Try.underlying22 F0 hfu0
 obtain rfl:=(List.cons.inj (show[Value.slice x0 y0 z0]=[u0]from e0)).1
 obtain⟨a1,rfl,rfl,rfl,w1⟩:=open_string Try.underlying9 (hval 1 9 v1 rfl rfl) h1
 obtain⟨a2,rfl,rfl,rfl,w2⟩:=open_string Try.underlying9 (hval 2 9 v2 rfl rfl) h2
 obtain⟨a3,rfl,rfl,rfl,w3⟩:=open_string Try.underlying9 (hval 3 9 v3 rfl rfl) h3
 exact N2 s (vs:=[Cs W (.slice x0 y0 z0),sv a1.data.toList,sv a2.data.toList,sv a3.data.toList]) ⟨Ge W _,(by rw[<-H7 W];exact Ge W _),(by rw[<-H7 W];exact Ge W _),(by rw[<-H7 W];exact Ge W _),trivial⟩ (Kh m0 l0 (Lu w1) (Lu w2) (Lu w3) s1.Kw)
set_option maxRecDepth 100000 in
theorem lifted (os:Os) (started:os.Started) (H:Type) (enc:TypeId×Value->H):
 ReturnsInHanded {} Try.checked os 4 .any (Rows.chooseTellsSpec.pre6 enc Try.prog Try.f4 Rows.chooseTellsRow.domain false) (Rows.chooseTellsSpec.post enc Try.prog Try.f4 false true false false):=
 OH (C:=Try.checked) own started (by kernel_rfl) Try.func4
  (ChangeSpec.witness6 (enc:=enc) (C:=Try.checked) false ⟨#[],#[.slice none 0 0,.string ⟨#[]⟩,.string ⟨#[]⟩,.string ⟨#[]⟩],[]⟩ 8 (by kernel_rfl) (by kernel_rfl) (by kernel_rfl) (by kernel_rfl))
  rfl (fun ds hd=>by rw[Try.params4]at hd;match ds,hd with|[d1,d2,d3,d4],_=>rfl) laid (by kernel_rfl) (by kernel_rfl) Try.underlying4 (fun W base args ds p hv ho hA=>run W base args ds p hv ho hA)
theorem UX:Rows.chooseTellsRow.holds Try.pinned (OpenSpec.ofChange Rows.chooseTellsSpec):=
 OpenClaim.holds_of_wide 4 Try.f4 rfl rfl rfl rfl rfl rfl rfl ⟨rfl,rfl,rfl,rfl,rfl⟩ rfl rfl rfl rfl rfl (by kernel_rfl) Try.func4 (by kernel_rfl)
  (of_decide_eq_true (by kernel_rfl)) (by unfold Func.isWrapper;first|(rw[if_pos (by decide+kernel)];kernel_rfl)|(rw[if_neg (by decide+kernel)];exact⟨rfl,rfl⟩))
  (fun os started H enc _=>lifted os started H enc)
/--THE STATEMENT -/
theorem proved:Rows.ChooseTellsSaid:=
 UX
end Go.Proofs.Ytobfgempjekjpaa.chooseTells
end
