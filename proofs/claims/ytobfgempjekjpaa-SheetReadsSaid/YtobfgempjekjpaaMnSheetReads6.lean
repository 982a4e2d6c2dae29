/- The law SheetReads, part 6: what its proof uses, closely written. No condition. -/
import Derived.Test.YtobfgempjekjpaaMnSheetReads5
noncomputable section
set_option maxRecDepth 1000000
set_option linter.all false
namespace Go.Proofs.Ytobfgempjekjpaa
open Go Go.Ev
abbrev ADO:CC:=(CC.seq (CC.region [(wB 4 (AB (O.c (V.b Bool.false))))]) CC.ret)
abbrev ACs:CC:=(CC.cond (tm 19) ADO CC.skip)
abbrev AC7:CC:=(CC.seq (CC.region [(wB 18 (AY 7 [])),(wB 19 (CS (tm 18)))]) ACs)
abbrev ADU:CC:=(CC.seq (CC.region [(wB 4 (AB (O.c (V.b Bool.true))))]) CC.ret)
abbrev ACj:CC:=(CC.cond (tm 22) ADU CC.skip)
abbrev AC6:CC:=(CC.seq (CC.region [(wB 20 (AB (tm 0))),(wB 21 (AY 8 [(tm 20)])),(wB 22 (CS (tm 21)))]) ACj)
abbrev ADK:CC:=(CC.cond (tm 27) CC.skip (CC.exit 0))
abbrev ADY:CC:=(CC.seq (CC.region [(wB 24 (AB (tm 9))),(wB 25 (AB (tm 0))),(wB 26 (BN (tm 25))),(wB 27 (AM Bg (tm 24) (tm 26)))]) ADK)
abbrev ADM:CC:=(CC.seq (CC.region [(wB 4 (AB (O.c (V.b Bool.false))))]) CC.ret)
abbrev AC9:CC:=(CC.cond (tm 57) ADM CC.skip)
abbrev vj:CC:=(CC.seq (CC.region [(wB 38 (AB (tm 11))),(wB 39 (AM Cl (tm 38) (oN 0))),(wB 40 (AB (tm 0))),(wB 41 (AB (tm 9))),(wB 42 (AG 4 (tm 40) (tm 41))),(wB 43 (Aa 4 (tm 42))),(wB 44 (AY 11 [(tm 43)])),(wB 45 (GA Bool.true (tm 39) (tm 44))),(wB 46 (AB (tm 45))),(wG 46 false 47 (AB (tm 11))),(wG 46 false 48 (AM H6 (tm 47) (oN 0))),(wG 46 false 49 (AB (tm 48))),(wG 49 true 50 (AB (tm 11))),(wG 49 true 51 (AM H6 (tm 50) (oN 10))),(wG 49 true 52 (AB (tm 51))),(wG 52 false 53 (AB (tm 10))),(wG 52 false 54 (CZ (fun a b c d=>!F6 a b c d) (tm 53) (O.c (V.s 0 0)))),(wG 49 true 55 (Al (tm 52) (O.c (V.b Bool.true)) (tm 54))),(wG 46 false 56 (Al (tm 49) (tm 55) (O.c (V.b Bool.false)))),(wB 57 (Al (tm 46) (O.c (V.b Bool.true)) (tm 56)))]) AC9)
abbrev xG:CC:=(CC.cond (tm 70) (CC.exit 1) CC.skip)
abbrev ACD:CC:=(CC.seq (CC.region [(wB 61 (AB (tm 11))),(wB 62 (AM H6 (tm 61) (oN 0))),(wB 63 (AB (tm 62))),(wG 63 false 64 (AB (tm 0))),(wG 63 false 65 (AB (tm 9))),(wG 63 false 66 (AG 4 (tm 64) (tm 65))),(wG 63 false 67 (Aa 4 (tm 66))),(wG 63 false 68 (AY 12 [(tm 12),(tm 67)])),(wG 63 false 69 (AM H6 (tm 68) (oN 0))),(wB 70 (Al (tm 63) (O.c (V.b Bool.true)) (tm 69)))]) xG)
abbrev zd:CC:=(CC.seq (CC.region [(wB 4 (AB (O.c (V.b Bool.false))))]) CC.ret)
abbrev ACB:CC:=(CC.cond (tm 78) zd CC.skip)
abbrev vu:CC:=(CC.seq (CC.region [(wB 71 (AB (tm 10))),(wB 72 (Bp (tm 71))),(wB 73 (AM Cs (tm 72) (oN 8000))),(wB 74 (AB (tm 73))),(wG 74 false 75 (AB (tm 10))),(wG 74 false 76 (Bp (tm 75))),(wG 74 false 77 (AM Cl (tm 76) (oN 0))),(wB 78 (Al (tm 74) (O.c (V.b Bool.true)) (tm 77)))]) ACB)
abbrev ABA:CC:=(CC.region [(wB 82 (AB (tm 7))),(wB 83 (AB (tm 5))),(wB 84 (Bp (tm 83))),(wB 85 (A8 3 1 [(V.i IntKind.i64 (Int.ofNat 0))] [(Pt.mk 0 1 (tm 84))])),(wB 86 (BZ 3 1 (tm 82) (tm 85))),(wB 87 (AB (tm 8))),(wB 88 (AB (tm 6))),(wB 89 (A8 26 1 [V.p0] [(Pt.mk 0 1 (tm 88))])),(wB 90 (BZ 26 1 (tm 87) (tm 89))),(wB 7 (AB (tm 86))),(wB 8 (AB (tm 90)))])
abbrev ACa:CC:=(CC.seq (CC.region [(wB 79 (AB (tm 5))),(wB 80 (AB (tm 10))),(wB 81 (CQ (tm 79) (tm 80))),(wB 5 (AB (tm 81)))]) ABA)
abbrev AAc:CC:=(CC.seq (CC.region [(wB 6 (AB (tm 12)))]) ACa)
abbrev qF:CC:=(CC.seq vu AAc)
abbrev uw:CC:=(CC.seq ACD qF)
abbrev ux:CC:=(CC.seq (CC.region [(wB 58 (AB (tm 6))),(wB 59 (AO (tm 58))),(wB 60 (Aa 4 (tm 59))),(wB 12 (Bj 38 [V.l0,(V.i IntKind.i64 (Int.ofNat 0)),(V.i IntKind.i64 (Int.ofNat 0)),(V.i IntKind.i64 (Int.ofNat 0))])),(CO.mk G.none D.none Bool.true (CR.mk (Ad 4 (tm 12) (tm 60))))]) uw)
abbrev qx:CC:=(CC.seq vj ux)
abbrev tw:CC:=(CC.seq (CC.region [(wB 31 (AB (tm 0))),(wB 32 (AB (tm 9))),(wB 33 (AG 4 (tm 31) (tm 32))),(wB 34 (Aa 4 (tm 33))),(wB 35 (AY 10 [(tm 34)])),(wB 30 (AB (tm 35))),(wB 36 (Am 0 (tm 30))),(wB 37 (Am 1 (tm 30))),(wB 10 (AB (tm 36))),(wB 11 (AB (tm 37)))]) qx)
abbrev ry:CC:=(CC.block 1 tw)
abbrev oJ:CC:=(CC.region [(wB 28 (AB (tm 9))),(wB 29 (AM BE (tm 28) (oN 1))),(wB 9 (AB (tm 29)))])
abbrev rf:CC:=(CC.seq ry oJ)
abbrev ACn:CC:=(CC.seq ADY rf)
abbrev zi:CC:=(CC.loop ACn)
abbrev AAn:CC:=(CC.block 0 zi)
abbrev uL:CC:=(CC.seq (CC.region [(wB 9 (AB (oN 0)))]) AAn)
abbrev ABK:CC:=(CC.region [(wB 94 (AB (tm 1))),(wB 95 (CB IntKind.i64 (tm 94))),(wB 96 (AB (tm 5))),(wB 97 (Bp (tm 96))),(wB 98 (AM BE (tm 97) (oN 1))),(wB 99 (Gp (tm 95) (tm 98))),(wB 13 (AB (tm 99)))])
abbrev AAm:CC:=(CC.cond (tm 93) ABK CC.skip)
abbrev zy:CC:=(CC.seq (CC.region [(wB 91 (AB (tm 5))),(wB 92 (Bp (tm 91))),(wB 93 (AM Cs (tm 92) (oN 0)))]) AAm)
abbrev we:CC:=(CC.cond (tm 111) CC.skip (CC.exit 2))
abbrev ABs:CC:=(CC.seq (CC.region [(wB 100 (AB (tm 14))),(wB 101 (AB (tm 7))),(wB 102 (BN (tm 101))),(wB 103 (AM Bg (tm 100) (tm 102))),(wB 104 (AB (tm 103))),(wG 104 true 105 (AB (tm 7))),(wG 104 true 106 (AB (tm 14))),(wG 104 true 107 (AG 1 (tm 105) (tm 106))),(wG 104 true 108 (AK (tm 107))),(wG 104 true 109 (AB (tm 13))),(wG 104 true 110 (AM FO (tm 108) (tm 109))),(wB 111 (Al (tm 104) (tm 110) (O.c (V.b Bool.false))))]) we)
abbrev ym:CC:=(CC.region [(wB 112 (AB (tm 14))),(wB 113 (AM BE (tm 112) (oN 1))),(wB 14 (AB (tm 113)))])
abbrev ABu:CC:=(CC.block 3 ym)
abbrev ACu:CC:=(CC.seq ABs ABu)
abbrev wi:CC:=(CC.loop ACu)
abbrev xg:CC:=(CC.block 2 wi)
abbrev AAP:CC:=(CC.seq (CC.region [(wB 124 (AB (tm 17))),(wB 125 (AM Cl (tm 124) (oN 10))),(wB 126 (AB (tm 125))),(wG 126 true 127 (AB (tm 16))),(wG 126 true 128 (AM Cl (tm 127) (oN 0))),(wB 129 (Al (tm 126) (tm 128) (O.c (V.b Bool.false)))),(wB 130 (AB (tm 129))),(wG 130 true 131 (AB (tm 15))),(wG 130 true 132 (AY 9 [])),(wG 130 true 133 (AY 14 [(tm 131),(tm 132)])),(wB 134 (Al (tm 130) (tm 133) (O.c (V.b Bool.false)))),(wB 4 (AB (tm 134)))]) CC.ret)
abbrev tH:CC:=(CC.cond (tm 123) AAP CC.skip)
abbrev qC:CC:=(CC.seq (CC.region [(wB 122 (AB (tm 14))),(wB 123 (AM Cl (tm 122) (oN 0)))]) tH)
abbrev tf:CC:=(CC.seq (CC.region [(wB 135 (AB (tm 17))),(wB 136 (AM Cl (tm 135) (oN 0))),(wB 137 (AB (tm 136))),(wG 137 true 138 (AB (tm 16))),(wG 137 true 139 (AB (tm 7))),(wG 137 true 140 (AB (tm 14))),(wG 137 true 141 (AM Bi (tm 140) (oN 1))),(wG 137 true 142 (AG 1 (tm 139) (tm 141))),(wG 137 true 143 (AK (tm 142))),(wG 137 true 144 (AM Cl (tm 138) (tm 143))),(wB 145 (Al (tm 137) (tm 144) (O.c (V.b Bool.false)))),(wB 146 (AB (tm 145))),(wG 146 true 147 (AB (tm 15))),(wG 146 true 148 (AB (tm 8))),(wG 146 true 149 (AB (tm 14))),(wG 146 true 150 (AM Bi (tm 149) (oN 1))),(wG 146 true 151 (AG 1 (tm 148) (tm 150))),(wG 146 true 152 (AK (tm 151))),(wG 146 true 153 (AY 14 [(tm 147),(tm 152)])),(wB 154 (Al (tm 146) (tm 153) (O.c (V.b Bool.false)))),(wB 4 (AB (tm 154)))]) CC.ret)
abbrev AA2:CC:=(CC.seq qC tf)
abbrev xF:CC:=(CC.seq (CC.region [(wB 115 (AB (tm 5))),(wB 116 (AB (tm 13))),(wB 117 (BV (tm 115) none (some (tm 116)))),(wB 118 (AY 13 [(tm 117)])),(wB 114 (AB (tm 118))),(wB 119 (Am 0 (tm 114))),(wB 120 (Am 1 (tm 114))),(wB 121 (Am 2 (tm 114))),(wB 15 (AB (tm 119))),(wB 16 (AB (tm 120))),(wB 17 (AB (tm 121)))]) AA2)
abbrev wo:CC:=(CC.seq xg xF)
abbrev va:CC:=(CC.seq (CC.region [(wB 14 (AB (oN 0)))]) wo)
abbrev Yr:CC:=(CC.seq zy va)
abbrev AB9:CC:=(CC.seq (CC.region [(wB 13 (AB (oN 0)))]) Yr)
abbrev pS:CC:=(CC.seq uL AB9)
abbrev vd:CC:=(CC.seq (CC.region [(wB 8 (AB (O.c V.l0)))]) pS)
abbrev pb:CC:=(CC.seq (CC.region [(wB 7 (AB (O.c V.l0)))]) vd)
abbrev te:CC:=(CC.seq (CC.region [(wB 23 (AY 9 [])),(wB 6 (AB (tm 23)))]) pb)
abbrev vi:CC:=(CC.seq (CC.region [(wB 5 (AB (O.c (V.s 0 0))))]) te)
abbrev ABv:CC:=(CC.seq AC6 vi)
abbrev ov:CC:=(CC.seq AC7 ABv)
abbrev b3:CC:=(CC.seq (CC.region [(wB 4 (AB (O.c (V.b Bool.false))))]) ov)
theorem c3:AZ Try.prog 3=⟨155,b3,[(Rs.tmp (AX 4))]⟩:=by kernel_rfl
end Go.Proofs.Ytobfgempjekjpaa
set_option maxRecDepth 100000
set_option maxHeartbeats 8000000
namespace Go.Ev
open Go
theorem QQ {e:D4} (IE:Sk e) (fit:Fit e):(Cg e).length<=4000:=by
 have WA:=IE.WA
 have RR:=IE.RR
 have ll:=Gs fit.g
 have cl:=Fl fun t ht=>⟨IE.tb t ht,fit.c t ht⟩
 have q1:=BJ (n:=e.gone.length) (by omega)
 have q2:=BJ (n:=e.AU.length) (by omega)
 have q3:=BJ (n:=e.log.toNat) (by have:=IE.l1;omega)
 have q4:=BJ (n:=e.seq.toNat) (by have:=IE.s1;omega)
 unfold Cg;simp only[List.length_append];omega
theorem Iv {e:D4} (IE:Sk e) (fit:Fit e):4<=(Ba (Cg e)).length/\(Ba (Cg e)).length<=4013:=by
 have h1:=QQ IE fit
 have h2:=BJ (n:=(Cg e).length) (by omega)
 rw[F4];omega
theorem cz {S:Iy} {e:D4} (w:Wf S) (h:(Gh S e).1=0):G2 e=true/\∀ x∈e.gone,0<=x:=by
 unfold Gh at h
 by_cases h1:G2 e=false
 ·rw[if_pos h1]at h;cases h
 rw[if_neg h1]at h
 by_cases h2:Oo S.L e.gone=false
 ·rw[if_pos h2]at h;cases h
 refine⟨by simpa using h1,fun x hx=>?_⟩
 have h3:Oo S.L e.gone=true:=by simpa using h2
 obtain⟨t,ht,e1⟩:=List.any_eq_true.1 (List.all_eq_true.1 h3 x hx)
 have:=(CU.1 (w.tb t ht)).1
 have:=of_decide_eq_true e1
 omega
theorem V9.take {es:List D4} (a:V9 es) (j:Nat):V9 (es.take j):=⟨fun e h=>a.is e (List.mem_of_mem_take h),fun e h=>a.fit e (List.mem_of_mem_take h),fun e h=>a.pos e (List.mem_of_mem_take h),fun i hi=>by
 rw[List.length_take]at hi
 have:=a.ok i (by omega)
 rw[List.take_take,show min i j=i by omega]
 rw[List.getD_eq_getElem?_getD,List.getElem?_take,if_pos (by omega),<-List.getD_eq_getElem?_getD];exact this⟩
theorem V9.snoc {es:List D4} (a:V9 es) {e:D4} (h:(Gh (M7 es) e).1=0) (f:Fit e):V9 (es++[e]):=by
 obtain⟨h1,h2⟩:=cz (wfE es) h
 refine⟨fun x hx=>?_,fun x hx=>?_,fun x hx=>?_,fun i hi=>?_⟩
 ·rcases List.mem_append.1 hx with hx|hx
  ·exact a.is x hx
  ·rw[List.mem_singleton.1 hx];exact E9.1 h1
 ·rcases List.mem_append.1 hx with hx|hx
  ·exact a.fit x hx
  ·rw[List.mem_singleton.1 hx];exact f
 ·rcases List.mem_append.1 hx with hx|hx
  ·exact a.pos x hx
  ·rw[List.mem_singleton.1 hx];exact h2
 ·rw[List.length_append,List.length_singleton]at hi
  by_cases e1:i=es.length
  ·subst e1
   rw[List.take_left,List.getD_eq_getElem?_getD,List.getElem?_append_right (Nat.le_refl _),Nat.sub_self];exact h
  ·have:=a.ok i (by omega)
   rw[List.take_append_of_le_length (by omega),List.getD_eq_getElem?_getD,List.getElem?_append_left (by omega),<-List.getD_eq_getElem?_getD];exact this
def C4 (es:List D4) (j:Nat):Nat:=(Bh (es.take j)).length
theorem HG {es:List D4} {j:Nat} (hj:j<es.length):C4 es (j+1)=C4 es j+(Ba (Cg (es.getD j default))).length:=by unfold C4;rw[VO hj,IF,Kc,List.length_append]
theorem K0 (es:List D4):C4 es es.length=(Bh es).length:=by unfold C4;rw[List.take_length]
theorem UX {es:List D4} {e:D4} {j:Nat} (hj:j<=es.length):C4 (es++[e]) j=C4 es j:=by unfold C4;rw[List.take_append_of_le_length hj]
theorem Qn {es:List D4} (ok:V9 es):(Bh es).length<=es.length*4013:=by
 have:∀ j,j<=es.length->C4 es j<=j*4013:=by
  intro j
  induction j with
  |zero=>intro _;simp[C4,Bh]
  |succ j ih=>
   intro hj
   have h1:=ih (by omega)
   have h2:=(Iv (ok.is _ (Bd (L:=es) (i:=j) (by omega))) (ok.fit _ (Bd (by omega)))).2
   rw[HG (by omega)];omega
 have:=this es.length (Nat.le_refl _)
 rwa [K0]at this
theorem mq {es:List D4} (ok:V9 es) {c j:Nat} (hc:c<=(Bh es).length) (hj:j<=es.length) (h1:C4 es j<=c) (h2:j<es.length->c<C4 es (j+1)):∃ tail,(Bh es).take c=Bh (es.take j)++tail/\(EX tail).2.2≠0:=by
 have hcut:=OA es j
 by_cases hjl:j<es.length
 ·have h3:=h2 hjl
  rw[HG hjl]at h3
  have hpl:=QQ (ok.is _ (Bd hjl)) (ok.fit _ (Bd hjl))
  refine⟨(Ba (Cg (es.getD j default))).take (c-C4 es j),?_,?_⟩
  ·rw[hcut,UH hjl,show c=(Bh (es.take j)).length+(c-C4 es j)by unfold C4 at*;omega,List.take_length_add_append]
   congr 1
   show(Ba (Cg (es.getD j default))++Bh (es.drop (j+1))).take _=_
   rw[List.take_append_of_le_length (by unfold C4 at*;omega),show(Bh (es.take j)).length+(c-C4 es j)-C4 es j=c-C4 es j by unfold C4;omega]
  ·rw[R5 (by omega) (by omega)];decide
 ·obtain rfl:j=es.length:=by omega
  refine⟨[],?_,?_⟩
  ·rw[K0]at h1
   rw[List.take_length,List.append_nil,List.take_of_length_le (by omega)]
  ·have:EX []=([],0,12):=by unfold EX;rfl
   rw[this];decide
end Go.Ev
set_option maxRecDepth 100000
set_option maxHeartbeats 8000000
namespace Go.Proofs.Ytobfgempjekjpaa
open Go Go.Ev
/--a row of pointers of one's own -/
def Xd (b:B):List V:=[.p b 0 0 4]
theorem OT (b:B):(Xd b).length=1:=rfl
instance:Inhabited B:=⟨B.h⟩
def Rp (h:H) (v:V) (ps:List B):Prop:=Gr 26 1 Xd h v ps
theorem ADW (ps:List B):Bk (ps.flatMap Xd)=true:=by
 induction ps with
 |nil=>rfl
 |cons x ps ih=>rw[List.flatMap_cons];show Bk (.p x 0 0 4::ps.flatMap Xd)=true;exact ih
theorem iU {h:H} {u:V} {M:List B} {x:B} {id:B} {N:Nx} (rb:Rp h u M) (o:Ev.CE h id [.p x 0 0 4]) (hl:M.length<=10000) (hf:B.val h.floor<=B.val h.next)
 (k:∀ u' h',Rp h' u' (M++[x])->AW (Af u) h h'->(∀ i,Af u' i->Af u i\/B.val h.next<=B.val i)->N.go Try.prog u' h'):AP Try.prog 26 1 u (.l id 0 0 1 1 (some 1)) h N:=
 AP.gr (X:=[x]) rb OT (by omega) (fun k=>by
  have:=J6 (size:=1) (DN:=1) (fin:=1) (cap:=some 1) o.row rfl (Nat.le_refl _) (by omega) (by show 1<=1;omega) k
  rw[this];rfl) (ADW _) (by simp) (by simp;omega) hf k
theorem Rp.ix {P:Program} {h g:H} {N:Nx} {v:V} {ps:List B} {i:Nat} (a:Rp h v ps) (hi:i<ps.length):IX P 1 v i g N=N.go P (.p (GV v) (lg v) (Ct v+i) (Cv v)) g:=by
 have:=Ss.ix (P:=P) (N:=N) (g':=g) (Gr.ss a) hi
 rwa [Nat.mul_one]at this
theorem Rp.ld {P:Program} {h:H} {N:Nx} {v:V} {ps:List B} {i:Nat} (a:Rp h v ps) (hi:i<ps.length):L1 P (GV v) (lg v) (Ct v+i) (Cv v) h N=N.go P (.p (ps.getD i default) 0 0 4) h:=by
 have:=Ss.ld (P:=P) (N:=N) (d:=0) (Gr.ss a) OT hi (by omega)
 rwa [Nat.mul_one,Nat.add_zero]at this
/--a sheet in memory,and what it takes -/
def SF (h:H) (F:B->Prop) (b:B) (S:Iy):Prop:=∃ v,Hu h b v S/\F b/\∀ q,Af v q->F q
theorem SF.stay {h h':H} {p F G:B->Prop} {b:B} {S:Iy} (a:SF h F b S) (s:AW p h h') (hp:∀ q,F q->¬p q) (hg:∀ q,F q->G q):SF h' G b S:=by
 obtain⟨v,a1,a2,a3⟩:=a
 exact⟨v,a1.stay s (hp _ a2) fun q hq=>hp q (a3 q hq),hg _ a2,fun q hq=>hg q (a3 q hq)⟩
/--what was made so far -/
structure Ol (h0 h:H) (F:B->Prop) (es:List D4) (r:B) (w7 w8:V) (rs:List B):Prop where
 ok:V9 es
 ref:SF h F r (M7 es)
 ends:Ri h w7 ((List.range es.length).map fun j=>(C4 es (j+1):Int))
 refs:Rp h w8 rs
 rl:rs.length=es.length
 at_:∀ j,j<es.length->SF h F (rs.getD j default) (M7 (es.take (j+1)))
 f7:∀ q,F q->¬Af w7 q
 f8:∀ q,F q->¬Af w8 q
 d78:∀ q,Af w7 q->¬Af w8 q
 lt:∀ q,F q->B.val q<B.val h.next
 n7:∀ q,Af w7 q->B.val h0.next<=B.val q
 n8:∀ q,Af w8 q->B.val h0.next<=B.val q
theorem Ol.grow {h0 h h':H} {F:B->Prop} {es:List D4} {r:B} {w7 w8:V} {rs:List B} (a:Ol h0 h F es r w7 w8 rs) (s:AW AN h h'):Ol h0 h' F es r w7 w8 rs:=
 ⟨a.ok,a.ref.stay s (fun _ _ e=>e) fun _ e=>e,Gr.grow a.ends s,Gr.grow a.refs s,a.rl,fun j hj=>(a.at_ j hj).stay s (fun _ _ e=>e) fun _ e=>e,a.f7,a.f8,a.d78,fun q hq=>Nat.lt_of_lt_of_le (a.lt q hq) s.next,a.n7,a.n8⟩
theorem VG {h:H} {v:V} {L:List Bq} (a:FQ h v L) (x y z:Int):Bk [v,.i .i64 x,.i .i64 y,.i .i64 z]=true:=by
 rcases a with⟨rfl,_⟩|⟨_,_,_,_,_,rfl,_⟩<;>rfl
theorem Lc {h:H} {v:V} {K:List Ek} {n:Nat} (a:LW h v K) (hl:K.length<=9223372036854775807) (hfit:∀ k∈K,Fit k.e) (hn:n<=65535) (hf:B.val h.floor<=B.val h.next):A3 Try.prog 3 [v,.i .u16 (n:Int)] h fun y h'=>y=.b true:=by
 refine Aw c3 (by intro hb;cases hb) (by simp) (by simp) fun Q hQ=>?_
 simp only[Ah,Nat.reduceAdd]
 repeat' (first
  |refine St.h ?_
  |simp(disch:=first|omega|(simp only[AI];omega))only[AJ,↓AA,↓reduceIte,seval]
  |(with_reducible (first|apply AD|apply AE))<;>(intro hc;(try simp only[AT]at hc);(try simp only[hc]);(try simp only[AR]at hc);try omega))
 refine CL.pure Wy ?_
 repeat' (first
  |refine St.h ?_
  |simp(disch:=first|omega|(simp only[AI];omega))only[AJ,↓AA,↓reduceIte,seval]
  |(with_reducible (first|apply AD|apply AE))<;>(intro hc;(try simp only[AT]at hc);(try simp only[hc]);(try simp only[AR]at hc);try omega))
 refine CL.mk (bL a hl) ?_
 rintro _ _ ⟨x,rfl,hr,rfl⟩
 cases x with
 |false=>
  repeat' (first
   |refine St.h ?_
   |simp(disch:=first|omega|(simp only[AI];omega))only[AJ,↓AA,↓reduceIte,seval]
   |(with_reducible (first|apply AD|apply AE))<;>(intro hc;(try simp only[AT]at hc);(try simp only[hc]);(try simp only[AR]at hc);try omega))
  subst hQ
  rfl
 |true=>
 have Fw:=hr rfl
 repeat' (first
  |refine St.h ?_
  |simp(disch:=first|omega|(simp only[AI];omega))only[AJ,↓AA,↓reduceIte,seval]
  |(with_reducible (first|apply AD|apply AE))<;>(intro hc;(try simp only[AT]at hc);(try simp only[hc]);(try simp only[AR]at hc);try omega))
 refine CL.mk (MX hf) ?_
 rintro _ h1 ⟨rfl,a1,n1,s1⟩
 repeat' (first
  |refine St.h ?_
  |simp(disch:=first|omega|(simp only[AI];omega))only[AJ,↓AA,↓reduceIte,seval]
  |(with_reducible (first|apply AD|apply AE))<;>(intro hc;(try simp only[AT]at hc);(try simp only[hc]);(try simp only[AR]at hc);try omega))
 refine Ok.lp (fun m t g=>∃ (i:Nat) (es:List D4) (r:B) (w7 w8:V) (rs:List B) (F:B->Prop),m=K.length-i/\i<=K.length/\get 0 t=v/\get 1 t=.i .u16 (n:Int)/\get 5 t=sv (Bh es)/\get 6 t=.p r 0 0 4/\get 7 t=w7/\get 8 t=w8/\get 9 t=.i .i64 (i:Int)/\es.length<=i/\Ol h g F es r w7 w8 rs/\AW AN h g) K.length ?_ ?_
 ·simp(disch:=first|omega|(simp only[AI];omega))only[AJ,↓AA,↓reduceIte,seval]
  refine⟨0,[],h.next,.l0,.l0,[],fun q=>q=h.next,by omega,by omega,?_⟩
  have nl:∀ q,¬Af .l0 q:=by rintro q ⟨_,_,_,_,_,e⟩;cases e
  refine⟨?_,?_,?_,?_,?_,?_,?_,by simp,⟨⟨by simp,by simp,by simp,by simp⟩,⟨.l0,a1,rfl,fun q hq=>absurd hq (nl q)⟩,Gr.nil,Gr.nil,rfl,by simp,fun q _=>nl q,fun q _=>nl q,fun q hq=>absurd hq (nl q),fun q e=>by rw[e];omega,fun q hq=>absurd hq (nl q),fun q hq=>absurd hq (nl q)⟩,s1⟩
  all_goals first|trivial|rfl
 rintro I hI mm t g ⟨i,es,r,w7,w8,rs,F,rfl,hi,f0,f1,f5,f6,f7,f8,f9,hes,M,st⟩
 have ag:=a.grow st
 have hfg:=st.fl hf
 have hK:=Fw.1
 have hlog:=Qn M.ok
 by_cases hil:i<K.length
 ·have d1:((i:Int)<(K.length:Int))=True:=eq_true (by omega)
  have fw:=Fw.2 i hil
  have ft:=hfit _ (Bd hil)
  have hg100:=fw.1
  have hc100:=fw.2.1
  repeat' (first
   |refine St.h ?_
   |simp(disch:=first|omega|(simp only[AI];omega))only[AJ,↓AA,↓reduceIte,seval,f0,f1,f5,f6,f7,f8,f9,d1,a.ln,ag.ix,ag.la,Int.toNat_natCast]
   |(with_reducible (first|apply AD|apply AE))<;>(intro hc;(try simp only[AT]at hc);(try simp only[hc]);(try simp only[AR]at hc);try omega))
  refine CL.stay (Lp (ag.at hil) ft (by omega) (by omega) hfg) fun g1 t1=>?_
  have ag1:=ag.grow t1
  have hf1:=t1.fl hfg
  repeat' (first
   |refine St.h ?_
   |simp(disch:=first|omega|(simp only[AI];omega))only[AJ,↓AA,↓reduceIte,seval,f0,f1,f5,f6,f7,f8,f9,ag1.ix,ag1.la,Int.toNat_natCast]
   |(with_reducible (first|apply AD|apply AE))<;>(intro hc;(try simp only[AT]at hc);(try simp only[hc]);(try simp only[AR]at hc);try omega))
  refine CL.stay (N3 (ag1.at hil) (by omega) (by omega) hf1) fun g2 t2=>?_
  have t12:=t1.trans t2
  have M2:=M.grow t12
  have hf2:=t12.fl hfg
  have st2:=st.trans t12
  obtain⟨wr,sr,fr,fwr⟩:=M2.ref
  have rr:Row g2 r 0 0 [wr,.i .i64 (M7 es).log,.i .i64 (M7 es).seq,.i .i64 (M7 es).next]:=sr.1.row
  cases he:G2 (K.getD i default).e with
  |false=>
   have heb:Sm (K.getD i default).e=([],10):=by unfold Sm;rw[he];rfl
   rw[heb]
   have e0:(([]:List UInt8)=[])=True:=eq_true rfl
   repeat' (first
    |refine St.h ?_
    |simp(disch:=first|omega|(simp only[AI];omega))only[AJ,↓AA,↓reduceIte,seval,f0,f1,f5,f6,f7,f8,f9,e0,rr.ln]
    |(with_reducible (first|apply AD|apply AE))<;>(intro hc;(try simp only[AT]at hc);(try simp only[hc]);(try simp only[AR]at hc);try omega))
   refine AL.own (by simp) hf2 fun g3 t3 n3 o3=>?_
   repeat' (first
    |refine St.h ?_
    |simp(disch:=first|omega|(simp only[AI];omega))only[AJ,↓AA,↓reduceIte,seval,f0,f1,f5,f6,f7,f8,f9]
    |(with_reducible (first|apply AD|apply AE))<;>(intro hc;(try simp only[AT]at hc);(try simp only[hc]);(try simp only[AR]at hc);try omega))
   refine ST.all o3 rfl (VG sr.2.1 _ _ _) (by simp) (by simp) fun g4 o4 t4=>?_
   have t34:AW AN g2 g4:=t3.BI t4 fun q e=>by rw[e];exact Nat.le_refl _
   have M4:=M2.grow t34
   have st4:=st2.trans t34
   repeat' (first
    |refine St.h ?_
    |simp(disch:=first|omega|(simp only[AI];omega))only[AJ,↓AA,↓reduceIte,seval,f0,f1,f5,f6,f7,f8,f9]
    |(with_reducible (first|apply AD|apply AE))<;>(intro hc;(try simp only[AT]at hc);(try simp only[hc]);(try simp only[AR]at hc);try omega))
   exact Ai hI (K.length-(i+1)) (by omega) ⟨i+1,es,r,w7,w8,rs,F,rfl,by omega,by simp(disch:=first|omega|(simp only[AI];omega))only[AJ,↓AA,↓reduceIte,seval,f0],by simp(disch:=first|omega|(simp only[AI];omega))only[AJ,↓AA,↓reduceIte,seval,f1],by simp(disch:=first|omega|(simp only[AI];omega))only[AJ,↓AA,↓reduceIte,seval,f5],by simp(disch:=first|omega|(simp only[AI];omega))only[AJ,↓AA,↓reduceIte,seval,f6],by simp(disch:=first|omega|(simp only[AI];omega))only[AJ,↓AA,↓reduceIte,seval,f7],by simp(disch:=first|omega|(simp only[AI];omega))only[AJ,↓AA,↓reduceIte,seval,f8],by simp(disch:=first|omega|(simp only[AI];omega))only[AJ,↓AA,↓reduceIte,seval,f9];rfl,by omega,M4,st4⟩
  |true=>
   have heb:Sm (K.getD i default).e=(Ba (Cg (K.getD i default).e),0):=by unfold Sm;rw[he];rfl
   rw[heb]
   have IE:=E9.1 he
   have sl:=Iv IE ft
   repeat' (first
    |refine St.h ?_
    |simp(disch:=first|omega|(simp only[AI];omega))only[AJ,↓AA,↓reduceIte,seval,f0,f1,f5,f6,f7,f8,f9,rr.ln]
    |(with_reducible (first|apply AD|apply AE))<;>(intro hc;(try simp only[AT]at hc);(try simp only[hc]);(try simp only[AR]at hc);try omega))
   refine AL.own (by simp) hf2 fun g3 t3 n3 o3=>?_
   repeat' (first
    |refine St.h ?_
    |simp(disch:=first|omega|(simp only[AI];omega))only[AJ,↓AA,↓reduceIte,seval,f0,f1,f5,f6,f7,f8,f9]
    |(with_reducible (first|apply AD|apply AE))<;>(intro hc;(try simp only[AT]at hc);(try simp only[hc]);(try simp only[AR]at hc);try omega))
   refine ST.all o3 rfl (VG sr.2.1 _ _ _) (by simp) (by simp) fun g4 o4 t4=>?_
   have t34:AW AN g2 g4:=t3.BI t4 fun q e=>by rw[e];exact Nat.le_refl _
   have M4:=M2.grow t34
   have st4:=st2.trans t34
   have ag4:=a.grow st4
   have hf4:=st4.fl hf
   have sr4:=sr.grow t34
   have lw:=sr.lt.2
   have nn:∀ q,Af wr q->q≠g2.next:=fun q hq e=>by have:=lw q hq;rw[e]at this;omega
   have sp4:Hu g4 g2.next wr (M7 es):=⟨o4,sr4.2.1,nn⟩
   have h2n:=st2.next
   repeat' (first
    |refine St.h ?_
    |simp(disch:=first|omega|(simp only[AI];omega))only[AJ,↓AA,↓reduceIte,seval,f0,f1,f5,f6,f7,f8,f9,ag4.ix,ag4.la,Int.toNat_natCast]
    |(with_reducible (first|apply AD|apply AE))<;>(intro hc;(try simp only[AT]at hc);(try simp only[hc]);(try simp only[AR]at hc);try omega))
   refine CL.mk (lh sp4 (by have:=(wfE es).len;omega) (ag4.at hil) (by omega) (by omega) hf4 fun q hq e=>by have h1:=LW.own a hil q hq;rw[e]at h1;omega) ?_
   rintro _ g5 ⟨rfl,w5,sp5,ow5,t5⟩
   have t35:AW AN g2 g5:=t34.BI t5 fun q e=>by rw[e];exact Nat.le_refl _
   have M5:=M2.grow t35
   have st5:=st2.trans t35
   by_cases hz:(Gh (M7 es) (K.getD i default).e).1=0
   case neg=>
    have d2:=eq_false hz
    repeat' (first
     |refine St.h ?_
     |simp(disch:=first|omega|(simp only[AI];omega))only[AJ,↓AA,↓reduceIte,seval,f0,f1,f5,f6,f7,f8,f9,d2]
     |(with_reducible (first|apply AD|apply AE))<;>(intro hc;(try simp only[AT]at hc);(try simp only[hc]);(try simp only[AR]at hc);try omega))
    exact Ai hI (K.length-(i+1)) (by omega) ⟨i+1,es,r,w7,w8,rs,F,rfl,by omega,by simp(disch:=first|omega|(simp only[AI];omega))only[AJ,↓AA,↓reduceIte,seval,f0],by simp(disch:=first|omega|(simp only[AI];omega))only[AJ,↓AA,↓reduceIte,seval,f1],by simp(disch:=first|omega|(simp only[AI];omega))only[AJ,↓AA,↓reduceIte,seval,f5],by simp(disch:=first|omega|(simp only[AI];omega))only[AJ,↓AA,↓reduceIte,seval,f6],by simp(disch:=first|omega|(simp only[AI];omega))only[AJ,↓AA,↓reduceIte,seval,f7],by simp(disch:=first|omega|(simp only[AI];omega))only[AJ,↓AA,↓reduceIte,seval,f8],by simp(disch:=first|omega|(simp only[AI];omega))only[AJ,↓AA,↓reduceIte,seval,f9];rfl,by omega,M5,st5⟩
   have d2:=eq_true hz
   have d3:((8000:Int)<((Ba (Cg (K.getD i default).e)).length:Int))=False:=eq_false (by omega)
   have d4:(((Ba (Cg (K.getD i default).e)).length:Int)=0)=False:=eq_false (by omega)
   have hf5:=st5.fl hf
   have elog:Bh es++Ba (Cg (K.getD i default).e)=Bh (es++[(K.getD i default).e]):=by rw[IF,Kc]
   have ok':=M.ok.snoc hz ft
   have est:(Gh (M7 es) (K.getD i default).e).2=M7 (es++[(K.getD i default).e]):=(OJ _ _).symm
   rw[est]at sp5
   have hends:((List.range (es++[(K.getD i default).e]).length).map fun j=>(C4 (es++[(K.getD i default).e]) (j+1):Int))=((List.range es.length).map fun j=>(C4 es (j+1):Int))++[((Bh (es++[(K.getD i default).e])).length:Int)]:=by
    rw[List.length_append,List.length_singleton,List.range_succ,List.map_append,List.map_singleton]
    congr 1
    ·exact List.map_congr_left fun j hj=>by rw[UX (by have:=List.mem_range.1 hj;omega)]
    ·have:=K0 (es++[(K.getD i default).e]);rw[List.length_append,List.length_singleton]at this;rw[this]
   generalize hes':es++[(K.getD i default).e]=es' at*
   have hl':es'.length=es.length+1:=by rw[<-hes'];simp
   have hlog':=Qn ok'
   repeat' (first
    |refine St.h ?_
    |simp(disch:=first|omega|(simp only[AI];omega))only[AJ,↓AA,↓reduceIte,seval,f0,f1,f5,f6,f7,f8,f9,d2,d3,d4,elog]
    |(with_reducible (first|apply AD|apply AE))<;>(intro hc;(try simp only[AT]at hc);(try simp only[hc]);(try simp only[AR]at hc);try omega))
   refine AL.own (by simp) hf5 fun g6 t6 n6 o6=>?_
   have hf6:=t6.fl hf5
   repeat' (first
    |refine St.h ?_
    |simp(disch:=first|omega|(simp only[AI];omega))only[AJ,↓AA,↓reduceIte,seval,f0,f1,f5,f6,f7,f8,f9]
    |(with_reducible (first|apply AD|apply AE))<;>(intro hc;(try simp only[AT]at hc);(try simp only[hc]);(try simp only[AR]at hc);try omega))
   refine S3 (Gr.grow M5.ends t6) o6 (by simp;omega) hf6 fun w7' g7 b7 t7 own7=>?_
   have hf7:=t7.fl hf6
   repeat' (first
    |refine St.h ?_
    |simp(disch:=first|omega|(simp only[AI];omega))only[AJ,↓AA,↓reduceIte,seval,f0,f1,f5,f6,f7,f8,f9]
    |(with_reducible (first|apply AD|apply AE))<;>(intro hc;(try simp only[AT]at hc);(try simp only[hc]);(try simp only[AR]at hc);try omega))
   refine AL.own (by simp) hf7 fun g8 t8 n8 o8=>?_
   have hf8:=t8.fl hf7
   repeat' (first
    |refine St.h ?_
    |simp(disch:=first|omega|(simp only[AI];omega))only[AJ,↓AA,↓reduceIte,seval,f0,f1,f5,f6,f7,f8,f9]
    |(with_reducible (first|apply AD|apply AE))<;>(intro hc;(try simp only[AT]at hc);(try simp only[hc]);(try simp only[AR]at hc);try omega))
   have R8:Rp g8 w8 rs:=Gr.grow (Gr.stay (Gr.grow M5.refs t6) t7 fun q h1 h2=>M5.d78 q h2 h1) t8
   refine iU R8 o8 (by rw[M5.rl];omega) hf8 fun w8' g9 b9 t9 own9=>?_
   repeat' (first
    |refine St.h ?_
    |simp(disch:=first|omega|(simp only[AI];omega))only[AJ,↓AA,↓reduceIte,seval,f0,f1,f5,f6,f7,f8,f9]
    |(with_reducible (first|apply AD|apply AE))<;>(intro hc;(try simp only[AT]at hc);(try simp only[hc]);(try simp only[AR]at hc);try omega))
   have N2:=t34.next
   have N4:=t4.next
   have N5:=t5.next
   have N6:=t6.next
   have N7:=t7.next
   have N8:=t8.next
   have N9:=t9.next
   have L7:=Gr.lt M2.ends
   have L8:=Gr.lt M2.refs
   have T59:AW (fun q=>Af w7 q\/Af w8 q) g5 g9:=(((t6.mono fun _ _ e=>e.elim).trans (t7.mono fun _ _ e=>.inl e)).trans (t8.mono fun _ _ e=>e.elim)).trans (t9.mono fun _ _ e=>.inr e)
   obtain⟨F',hF'⟩:∃ F':B->Prop,F'=fun q=>F q\/q=g2.next\/Af w5 q:=⟨_,rfl⟩
   have cls:∀ q,F' q->(F q/\B.val q<B.val g2.next)\/(B.val g2.next<=B.val q/\B.val q<B.val g5.next):=fun q hq=>by
    rw[hF']at hq
    rcases hq with h1|h1|h1
    ·exact .inl ⟨h1,M2.lt q h1⟩
    ·exact .inr (by rw[h1];exact⟨Nat.le_refl _,by omega⟩)
    ·rcases ow5 q h1 with h2|h2
     ·exact .inl ⟨fwr q h2,lw q h2⟩
     ·exact .inr ⟨by omega,sp5.lt.2 q h1⟩
   have no7:∀ q,F' q->¬Af w7 q:=fun q hq h1=>by
    rcases cls q hq with⟨h2,_⟩|⟨h2,_⟩
    ·exact M2.f7 q h2 h1
    ·have:=L7 q h1;omega
   have no8:∀ q,F' q->¬Af w8 q:=fun q hq h1=>by
    rcases cls q hq with⟨h2,_⟩|⟨h2,_⟩
    ·exact M2.f8 q h2 h1
    ·have:=L8 q h1;omega
   have lt5:∀ q,F' q->B.val q<B.val g5.next:=fun q hq=>by
    rcases cls q hq with⟨_,h2⟩|⟨_,h2⟩<;>omega
   have no:∀ q,F' q->¬(Af w7 q\/Af w8 q):=fun q hq h1=>h1.elim (no7 q hq) (no8 q hq)
   have S5:SF g5 F' g2.next (M7 es'):=⟨w5,sp5,by rw[hF'];exact .inr (.inl rfl),fun q hq=>by rw[hF'];exact .inr (.inr hq)⟩
   have up:∀ q,F q->F' q:=fun q hq=>by rw[hF'];exact .inl hq
   have M9:Ol h g9 F' es' g2.next w7' w8' (rs++[g2.next]):=by
    refine⟨ok',S5.stay T59 no fun _ e=>e,?_,b9,by rw[List.length_append,M5.rl,hl'];rfl,fun j hj=>?_,fun q hq h1=>?_,fun q hq h1=>?_,fun q h1 h2=>?_,fun q hq=>by have:=lt5 q hq;omega,fun q hq=>?_,fun q hq=>?_⟩
    ·rw[hends]
     refine Gr.stay (Gr.grow b7 t8) t9 fun q h1 h2=>?_
     rcases own7 q h1 with h3|h3
     ·exact M5.d78 q h3 h2
     ·have:=L8 q h2;omega
    ·by_cases hj':j<es.length
     ·have:=(M5.at_ j hj').stay T59 (fun q hq=>no q (up q hq)) up
      rw[List.getD_eq_getElem?_getD,List.getElem?_append_left (by rw[M5.rl];exact hj'),<-List.getD_eq_getElem?_getD,<-hes',List.take_append_of_le_length (by omega)]
      exact this
     ·obtain rfl:j=es.length:=by omega
      have:=S5.stay T59 no fun _ e=>e
      rw[List.getD_eq_getElem?_getD,List.getElem?_append_right (by rw[M5.rl];exact Nat.le_refl _),M5.rl,Nat.sub_self,<-hl',List.take_length]
      exact this
    ·rcases own7 q h1 with h3|h3
     ·exact no7 q hq h3
     ·have:=lt5 q hq;omega
    ·rcases own9 q h1 with h3|h3
     ·exact no8 q hq h3
     ·have:=lt5 q hq;omega
    ·rcases own7 q h1 with h3|h3<;>rcases own9 q h2 with h4|h4
     ·exact M5.d78 q h3 h4
     ·have:=L7 q h3;omega
     ·have:=L8 q h4;omega
     ·have h5:=Gr.lt b7 q h1
      omega
    ·rcases own7 q hq with h3|h3
     ·exact M5.n7 q h3
     ·omega
    ·rcases own9 q hq with h3|h3
     ·exact M5.n8 q h3
     ·omega
   have st9:AW AN h g9:=st5.BI T59 fun q hq=>hq.elim (M5.n7 q) (M5.n8 q)
   exact Ai hI (K.length-(i+1)) (by omega) ⟨i+1,es',g2.next,w7',w8',rs++[g2.next],F',rfl,by omega,by simp(disch:=first|omega|(simp only[AI];omega))only[AJ,↓AA,↓reduceIte,seval,f0],by simp(disch:=first|omega|(simp only[AI];omega))only[AJ,↓AA,↓reduceIte,seval,f1],by simp(disch:=first|omega|(simp only[AI];omega))only[AJ,↓AA,↓reduceIte,seval],by simp(disch:=first|omega|(simp only[AI];omega))only[AJ,↓AA,↓reduceIte,seval],by simp(disch:=first|omega|(simp only[AI];omega))only[AJ,↓AA,↓reduceIte,seval],by simp(disch:=first|omega|(simp only[AI];omega))only[AJ,↓AA,↓reduceIte,seval],by simp(disch:=first|omega|(simp only[AI];omega))only[AJ,↓AA,↓reduceIte,seval,f9];rfl,by omega,M9,st9⟩
 obtain rfl:i=K.length:=by omega
 have d1:((K.length:Int)<(K.length:Int))=False:=eq_false (by omega)
 have hes20:es.length<=20:=by omega
 obtain⟨Mid,hMid⟩:∃ Q:Go.Ev.F->H->Prop,Q=fun t g'=>∃ c:Nat,c<=(Bh es).length/\get 5 t=sv (Bh es)/\get 7 t=w7/\get 8 t=w8/\get 13 t=.i .i64 (c:Int)/\g=g':=⟨_,rfl⟩
 have hcc:(n:Int)%(((Bh es).length:Int)+1)=((n%((Bh es).length+1):Nat):Int):=by rw[Int.natCast_emod];rfl
 have AR:n%((Bh es).length+1)<=(Bh es).length:=by have:=Nat.mod_lt n (show 0<(Bh es).length+1 by omega);omega
 repeat' (first
  |((with_reducible refine(show Ok Try.prog 155 Yr _ _ _ from ?_));refine Qa Mid ?_ ?_)
  |refine St.h ?_
  |simp(disch:=first|omega|(simp only[AI];omega))only[AJ,↓AA,↓reduceIte,seval,f0,f1,f5,f6,f7,f8,f9,d1,a.ln,TK,hcc]
  |(with_reducible (first|apply AD|apply AE))<;>(intro hc;(try simp only[AT]at hc);(try simp only[hc]);(try simp only[AR]at hc);try omega))
 rotate_right
 all_goals try (rw[hMid];first|(refine⟨_,AR,by simp(disch:=first|omega|(simp only[AI];omega))only[AJ,↓AA,↓reduceIte,seval,f5],by simp(disch:=first|omega|(simp only[AI];omega))only[AJ,↓AA,↓reduceIte,seval,f7],by simp(disch:=first|omega|(simp only[AI];omega))only[AJ,↓AA,↓reduceIte,seval,f8],?_,rfl⟩;simp(disch:=first|omega|(simp only[AI];omega))only[AJ,↓AA,↓reduceIte,seval];done)|(refine⟨0,Nat.zero_le _,by simp(disch:=first|omega|(simp only[AI];omega))only[AJ,↓AA,↓reduceIte,seval,f5],by simp(disch:=first|omega|(simp only[AI];omega))only[AJ,↓AA,↓reduceIte,seval,f7],by simp(disch:=first|omega|(simp only[AI];omega))only[AJ,↓AA,↓reduceIte,seval,f8],?_,rfl⟩;(simp(disch:=first|omega|(simp only[AI];omega))only[AJ,↓AA,↓reduceIte,seval])<;>rfl))
 clear f0 f1 f5 f6 f7 f8 f9
 rw[hMid]
 rintro t _ ⟨c,hc,f5,f7,f8,f13,rfl⟩
 have E7:=Ri.il M.ends
 have hel:((List.range es.length).map fun j=>(C4 es (j+1):Int)).length=es.length:=by simp
 have heg:∀ j,j<es.length->((List.range es.length).map fun j=>(C4 es (j+1):Int)).getD j 0=(C4 es (j+1):Int):=fun j hj=>by simp[List.getD,hj]
 repeat' (first
  |refine St.h ?_
  |simp(disch:=first|omega|(simp only[AI];omega))only[AJ,↓AA,↓reduceIte,seval,f5,f7,f8,f13]
  |(with_reducible (first|apply AD|apply AE))<;>(intro hc;(try simp only[AT]at hc);(try simp only[hc]);(try simp only[AR]at hc);try omega))
 refine Ok.lp (fun m t g'=>∃ j:Nat,m=es.length-j/\j<=es.length/\get 5 t=sv (Bh es)/\get 7 t=w7/\get 8 t=w8/\get 13 t=.i .i64 (c:Int)/\g=g'/\get 14 t=.i .i64 (j:Int)/\C4 es j<=c) es.length ?_ ?_
 ·simp(disch:=first|omega|(simp only[AI];omega))only[AJ,↓AA,↓reduceIte,seval,f5,f7,f8,f13]
  refine⟨0,by omega,by omega,?_⟩
  refine⟨?_,?_,?_,?_,?_,?_,by simp[C4,Bh]⟩
  all_goals first|trivial|rfl
 rintro J hJ m2 t _ ⟨j,rfl,hj,f5,f7,f8,f13,rfl,f14,hjc⟩
 by_cases hnx:j<es.length/\C4 es (j+1)<=c
 ·obtain⟨hjl,hjc2⟩:=hnx
  have d2:((j:Int)<(es.length:Int))=True:=eq_true (by omega)
  have d3:((C4 es (j+1):Int)<=(c:Int))=True:=eq_true (by omega)
  have hx:j<((List.range es.length).map fun j=>(C4 es (j+1):Int)).length:=by rw[hel];exact hjl
  have e3:=heg j hjl
  repeat' (first
   |refine St.h ?_
   |simp(disch:=first|omega|(simp only[AI];omega))only[AJ,↓AA,↓reduceIte,seval,f5,f7,f8,f13,f14,E7.ln,hel,d2,d3,E7.ix,E7.ld,e3,Int.toNat_natCast]
   |(with_reducible (first|apply AD|apply AE))<;>(intro hc;(try simp only[AT]at hc);(try simp only[hc]);(try simp only[AR]at hc);try omega))
  exact Ai hJ (es.length-(j+1)) (by omega) ⟨j+1,rfl,by omega,by simp(disch:=first|omega|(simp only[AI];omega))only[AJ,↓AA,↓reduceIte,seval,f5],by simp(disch:=first|omega|(simp only[AI];omega))only[AJ,↓AA,↓reduceIte,seval,f7],by simp(disch:=first|omega|(simp only[AI];omega))only[AJ,↓AA,↓reduceIte,seval,f8],by simp(disch:=first|omega|(simp only[AI];omega))only[AJ,↓AA,↓reduceIte,seval,f13],rfl,by simp(disch:=first|omega|(simp only[AI];omega))only[AJ,↓AA,↓reduceIte,seval,f14];rfl,hjc2⟩
 obtain⟨tail,ht1,ht2⟩:=mq M.ok hc hj hjc fun h=>by omega
 have okj:=M.ok.take j
 have hlj:(Bh (es.take j)++tail).length<=1000000:=by rw[<-ht1,List.length_take];omega
 have hle:(Bh es).length<=1000000:=by omega
 by_cases hjl:j<es.length
 ·have d2:((j:Int)<(es.length:Int))=True:=eq_true (by omega)
  have d3:((C4 es (j+1):Int)<=(c:Int))=False:=eq_false (by omega)
  have hx:j<((List.range es.length).map fun j=>(C4 es (j+1):Int)).length:=by rw[hel];exact hjl
  have e3:=heg j hjl
  repeat' (first
   |refine St.h ?_
   |simp(disch:=first|omega|(simp only[AI];omega))only[AJ,↓AA,↓reduceIte,seval,f5,f7,f8,f13,f14,E7.ln,hel,d2,d3,E7.ix,E7.ld,e3,Int.toNat_natCast,ht1]
   |(with_reducible (first|apply AD|apply AE))<;>(intro hc;(try simp only[AT]at hc);(try simp only[hc]);(try simp only[AR]at hc);try omega))
  refine CL.mk (On okj ht2 hlj hfg) ?_
  rintro _ g1 ⟨b,u,rfl,sb,t1⟩
  have M1:=M.grow t1
  have hf1:=t1.fl hfg
  have wj:=wfE (es.take j)
  by_cases h0:j=0
  ·have d4:((j:Int)=0)=True:=eq_true (by omega)
   subst h0
   have l0:(Bh (es.take 0)).length=0:=rfl
   rw[l0,if_pos rfl]
   repeat' (first
    |refine St.h ?_
    |simp(disch:=first|omega|(simp only[AI];omega))only[AJ,↓AA,↓reduceIte,seval,f5,f7,f8,f13,f14,d4]
    |(with_reducible (first|apply AD|apply AE))<;>(intro hc;(try simp only[AT]at hc);(try simp only[hc]);(try simp only[AR]at hc);try omega))
   refine CL.mk (MX hf1) ?_
   rintro _ g2 ⟨rfl,sr,n2,t2⟩
   repeat' (first
    |refine St.h ?_
    |simp(disch:=first|omega|(simp only[AI];omega))only[AJ,↓AA,↓reduceIte,seval,f5,f7,f8,f13,f14]
    |(with_reducible (first|apply AD|apply AE))<;>(intro hc;(try simp only[AT]at hc);(try simp only[hc]);(try simp only[AR]at hc);try omega))
   refine CL.stay (Ir (sb.grow t2) sr wj (t2.fl hf1)) fun g3 t3=>?_
   repeat' (first
    |refine St.h ?_
    |simp(disch:=first|omega|(simp only[AI];omega))only[AJ,↓AA,↓reduceIte,seval]
    |(with_reducible (first|apply AD|apply AE))<;>(intro hc;(try simp only[AT]at hc);(try simp only[hc]);(try simp only[AR]at hc);try omega))
   subst hQ
   rfl
  ·have d4:((j:Int)=0)=False:=eq_false (by omega)
   have hj1:j-1<es.length:=by omega
   have ee:C4 es (j-1+1)=(Bh (es.take j)).length:=by rw[show j-1+1=j by omega];rfl
   have e4:=heg (j-1) hj1
   rw[ee]at e4
   have pos:0<(Bh (es.take j)).length:=by
    have h1:=HG hj1
    have h2:=(Iv (M.ok.is _ (Bd hj1)) (M.ok.fit _ (Bd hj1))).1
    rw[ee]at h1;omega
   have ej:((j:Int)-1).toNat=j-1:=by omega
   have hx1:j-1<((List.range es.length).map fun j=>(C4 es (j+1):Int)).length:=by rw[hel];exact hj1
   have hx2:j-1<rs.length:=by rw[M.rl];exact hj1
   have E1:=Ri.il M1.ends
   rw[if_neg (by omega)]
   obtain⟨w,sw,_,_⟩:=M1.at_ (j-1) hj1
   rw[show j-1+1=j by omega]at sw
   repeat' (first
    |refine St.h ?_
    |simp(disch:=first|omega|(simp only[AI];omega))only[AJ,↓AA,↓reduceIte,seval,f5,f7,f8,f13,f14,d4,ej,E1.ix,E1.ld,e4,M1.refs.ix,M1.refs.ld]
    |(with_reducible (first|apply AD|apply AE))<;>(intro hc;(try simp only[AT]at hc);(try simp only[hc]);(try simp only[AR]at hc);try omega))
   refine CL.stay (Ir sb sw wj hf1) fun g3 t3=>?_
   repeat' (first
    |refine St.h ?_
    |simp(disch:=first|omega|(simp only[AI];omega))only[AJ,↓AA,↓reduceIte,seval]
    |(with_reducible (first|apply AD|apply AE))<;>(intro hc;(try simp only[AT]at hc);(try simp only[hc]);(try simp only[AR]at hc);try omega))
   subst hQ
   rfl
 ·have d2:((j:Int)<(es.length:Int))=False:=eq_false (by omega)
  repeat' (first
   |refine St.h ?_
   |simp(disch:=first|omega|(simp only[AI];omega))only[AJ,↓AA,↓reduceIte,seval,f5,f7,f8,f13,f14,E7.ln,hel,d2,Int.toNat_natCast,ht1]
   |(with_reducible (first|apply AD|apply AE))<;>(intro hc;(try simp only[AT]at hc);(try simp only[hc]);(try simp only[AR]at hc);try omega))
  refine CL.mk (On okj ht2 hlj hfg) ?_
  rintro _ g1 ⟨b,u,rfl,sb,t1⟩
  have M1:=M.grow t1
  have hf1:=t1.fl hfg
  have wj:=wfE (es.take j)
  by_cases h0:j=0
  ·have d4:((j:Int)=0)=True:=eq_true (by omega)
   subst h0
   have l0:(Bh (es.take 0)).length=0:=rfl
   rw[l0,if_pos rfl]
   repeat' (first
    |refine St.h ?_
    |simp(disch:=first|omega|(simp only[AI];omega))only[AJ,↓AA,↓reduceIte,seval,f5,f7,f8,f13,f14,d4]
    |(with_reducible (first|apply AD|apply AE))<;>(intro hc;(try simp only[AT]at hc);(try simp only[hc]);(try simp only[AR]at hc);try omega))
   refine CL.mk (MX hf1) ?_
   rintro _ g2 ⟨rfl,sr,n2,t2⟩
   repeat' (first
    |refine St.h ?_
    |simp(disch:=first|omega|(simp only[AI];omega))only[AJ,↓AA,↓reduceIte,seval,f5,f7,f8,f13,f14]
    |(with_reducible (first|apply AD|apply AE))<;>(intro hc;(try simp only[AT]at hc);(try simp only[hc]);(try simp only[AR]at hc);try omega))
   refine CL.stay (Ir (sb.grow t2) sr wj (t2.fl hf1)) fun g3 t3=>?_
   repeat' (first
    |refine St.h ?_
    |simp(disch:=first|omega|(simp only[AI];omega))only[AJ,↓AA,↓reduceIte,seval]
    |(with_reducible (first|apply AD|apply AE))<;>(intro hc;(try simp only[AT]at hc);(try simp only[hc]);(try simp only[AR]at hc);try omega))
   subst hQ
   rfl
  ·have d4:((j:Int)=0)=False:=eq_false (by omega)
   have hj1:j-1<es.length:=by omega
   have ee:C4 es (j-1+1)=(Bh (es.take j)).length:=by rw[show j-1+1=j by omega];rfl
   have e4:=heg (j-1) hj1
   rw[ee]at e4
   have pos:0<(Bh (es.take j)).length:=by
    have h1:=HG hj1
    have h2:=(Iv (M.ok.is _ (Bd hj1)) (M.ok.fit _ (Bd hj1))).1
    rw[ee]at h1;omega
   have ej:((j:Int)-1).toNat=j-1:=by omega
   have hx1:j-1<((List.range es.length).map fun j=>(C4 es (j+1):Int)).length:=by rw[hel];exact hj1
   have hx2:j-1<rs.length:=by rw[M.rl];exact hj1
   have E1:=Ri.il M1.ends
   rw[if_neg (by omega)]
   obtain⟨w,sw,_,_⟩:=M1.at_ (j-1) hj1
   rw[show j-1+1=j by omega]at sw
   repeat' (first
    |refine St.h ?_
    |simp(disch:=first|omega|(simp only[AI];omega))only[AJ,↓AA,↓reduceIte,seval,f5,f7,f8,f13,f14,d4,ej,E1.ix,E1.ld,e4,M1.refs.ix,M1.refs.ld]
    |(with_reducible (first|apply AD|apply AE))<;>(intro hc;(try simp only[AT]at hc);(try simp only[hc]);(try simp only[AR]at hc);try omega))
   refine CL.stay (Ir sb sw wj hf1) fun g3 t3=>?_
   repeat' (first
    |refine St.h ?_
    |simp(disch:=first|omega|(simp only[AI];omega))only[AJ,↓AA,↓reduceIte,seval]
    |(with_reducible (first|apply AD|apply AE))<;>(intro hc;(try simp only[AT]at hc);(try simp only[hc]);(try simp only[AR]at hc);try omega))
   subst hQ
   rfl
end Go.Proofs.Ytobfgempjekjpaa
namespace Go.Proofs.Ytobfgempjekjpaa
open Go Go.Ev Go.RowKit Go.WideShapes Go.ChangeShapes Go.ChangeAt Go.Deep
section
variable {H':Type} {enc:TypeId×Value->H'} {P:Program} {W:World}
/--a row of tables -/
theorem aq {h:H} (s:Go.Ev.Start W h) (h0:0<W.heap.size) {t e:TypeId} {fs:Array Field} {fuel:Nat} {cs:List Value} {x:DataW H'×List MemPlace} (ht:P.underlying t=some (.slice e)) (F:Uc P e fs [.i .i64,.i .i64,.s,.s,.i .i64])
 (hd:DataW.trod enc P W 0 (fun _=>true) true fuel t cs=some x):∃ sv L,cs=[sv]/\FQ h (C6 W sv) L/\L.length<=9223372036854775807/\∀ a∈L,a.DN<=9223372036854775807:=
 QM (c:=LZ) (Pr:=fun a=>a.DN<=9223372036854775807) CI (by omega) s h0 ht F.sz (fun fuel cs x h=>by
  obtain⟨_,_,rfl,⟨a,rfl,_⟩,_,_,rfl,⟨b,rfl,_⟩,_,_,rfl,⟨c,rfl,_⟩,_,_,rfl,⟨d,rfl,_⟩,_,_,rfl,⟨e,rfl,he⟩,rfl⟩:=R9 F h
  refine⟨⟨a,b,c.data.toList,d.data.toList,e⟩,?_,(wf_i64 he).2⟩
  simp only[List.map_cons,List.map_nil,OQ,TT]
  rfl) hd
/--a row of edits -/
theorem WW {h:H} (s:Go.Ev.Start W h) (h0:0<W.heap.size) {t e:TypeId} {fs:Array Field} {fuel:Nat} {cs:List Value} {x:DataW H'×List MemPlace} (ht:P.underlying t=some (.slice e)) (F:EdF P e fs)
 (hd:DataW.trod enc P W 0 (fun _=>true) true fuel t cs=some x):∃ sv K,cs=[sv]/\LW h (C6 W sv) K/\K.length<=9223372036854775807/\∀ a∈K,Fit a.e:=by
 obtain⟨sv,K,e1,e2,e3,e4⟩:=QM (α:=Ek) (c:=ekC) (n:=4) (Pr:=fun k=>Oz h k.gv k.cv k.e/\Fit k.e) KF (by omega) s h0 ht F.sz (fun fuel cs x hx=>by
  obtain⟨hl,hf⟩:=T8 F.ut hx
  rw[F.sz]at hl
  obtain⟨c0,c1,c2,c3,rfl⟩:∃ c0 c1 c2 c3,cs=[c0,c1,c2,c3]:=by
   match cs,hl with
   |[a,b,c,d],_=>exact⟨a,b,c,d,rfl⟩
  obtain⟨f0,g0,o0,z0,t0,u0,v0,w0⟩:=F.f0
  obtain⟨f1,g1,o1,z1,t1,gs,u1,F1⟩:=F.f1
  obtain⟨f2,g2,o2,z2,u2⟩:=F.f2
  obtain⟨f3,g3,o3,z3,u3⟩:=F.f3
  obtain⟨n0,y0,k0⟩:=hf 0 f0 g0
  obtain⟨n1,y1,k1⟩:=hf 1 f1 g1
  obtain⟨n2,y2,k2⟩:=hf 2 f2 g2
  obtain⟨n3,y3,k3⟩:=hf 3 f3 g3
  rw[o0,z0]at k0
  rw[o1,z1]at k1
  rw[o2,z2]at k2
  rw[o3,z3]at k3
  obtain⟨x0,xs,e0,m0,_,b0⟩:=xz s h0 u0 v0 w0 k0
  obtain⟨x1,L,e1,m1,_,b1⟩:=aq s h0 u1 F1 k1
  obtain⟨a,e2,_⟩:=DataW.trod_int u2 k2
  obtain⟨b,e3,_⟩:=DataW.trod_int u3 k3
  obtain rfl:=(List.cons.inj (show[c0]=[x0]from e0)).1
  obtain rfl:=(List.cons.inj (show[c1]=[x1]from e1)).1
  obtain rfl:=(List.cons.inj (show[c2]=[_]from e2)).1
  obtain rfl:=(List.cons.inj (show[c3]=[_]from e3)).1
  refine⟨⟨C6 W c0,C6 W c1,⟨xs,L,a,b⟩⟩,?_,⟨m0,m1⟩,⟨fun x hx=>(wf_i64 (b0 x hx)).2,b1⟩⟩
  simp only[List.map_cons,List.map_nil,OQ]
  rfl) hd
 exact⟨sv,K,e1,⟨e2,fun k hk=>(e4 k hk).1⟩,e3,fun k hk=>(e4 k hk).2⟩
end
theorem NB {h:H} {v:V} {K:List Ek} {n:Nat} (a:LW h v K) (hl:K.length<=9223372036854775807) (hfit:∀ k∈K,Fit k.e) (hn:n<=65535) (hf:B.val h.floor<=B.val h.next):A3 Try.prog 3 [v,.i .u16 (n:Int)] h fun y h'=>y=.b true:=Lc a hl hfit hn hf
end Go.Proofs.Ytobfgempjekjpaa
namespace Go.Proofs.Ytobfgempjekjpaa.sheetReads
open Go Go.Ev Go.ChangeShapes Go.WideShapes Go.ChangeAt Go.RowKit Go.ChangeMaps
theorem own:ownKnob Try.prog.godebug=none:=by kernel_rfl
theorem laid:laidOutB Try.prog=true:=by kernel_rfl
theorem Ve {W:World} (h:W.ShapedOpen Try.prog):0<W.heap.size:=by
 obtain⟨o,_,h1,_⟩:=h.2 Try.prog.globals.size (Nat.le_refl _) (of_decide_eq_true (by kernel_rfl))
 exact Nat.lt_of_le_of_lt (Nat.zero_le _) (Array.getElem?_eq_some_iff.1 h1).1
set_option maxRecDepth 100000 in
theorem ADE:∃ fs,EdF Try.prog 35 fs:=⟨_,⟨Try.underlying35,by kernel_rfl,⟨_,rfl,rfl,by kernel_rfl,_,Try.underlying28,by kernel_rfl,Try.underlying3⟩,⟨_,rfl,rfl,by kernel_rfl,_,_,Try.underlying33,⟨Try.underlying57,by kernel_rfl,⟨⟨_,rfl,rfl,by kernel_rfl,Try.underlying3⟩,⟨_,rfl,rfl,by kernel_rfl,Try.underlying3⟩,⟨_,rfl,rfl,by kernel_rfl,Try.underlying9⟩,⟨_,rfl,rfl,by kernel_rfl,Try.underlying9⟩,⟨_,rfl,rfl,by kernel_rfl,Try.underlying3⟩,trivial⟩⟩⟩,⟨_,rfl,rfl,by kernel_rfl,Try.underlying3⟩,⟨_,rfl,rfl,by kernel_rfl,Try.underlying3⟩⟩⟩
set_option maxRecDepth 100000 in
theorem run {H:Type} {enc:TypeId×Value->H} (W:World) (base:Nat) (args:Array Value) (ds:List (DataW H)) (p:List MemPlace) (hval:∀ (j:Nat) t v,Try.f3.params[j]? =some t->args[j]? =some v->Value.okWide Try.prog W .any base t v) (hopen:W.ShapedOpen Try.prog)
 (hA:DataW.TrodAll enc Try.prog W 0 (fun _=>true) true Try.f3.params.toList args.toList ds p):Calls Try.prog 3 args W fun e w'=>e=.returned (.bool true)/\Below W.heap.size W w':=by
 rw[Try.params3]at hA hval
 obtain⟨v0,vs0,d0,ds0,p0,q0,hargs,rfl,rfl,h0,r0⟩:=trodAll_cons hA
 obtain⟨v1,vs1,d1,ds1,p1,q1,rfl,rfl,rfl,h1,r1⟩:=trodAll_cons r0
 obtain⟨rfl,rfl,rfl⟩:=trodAll_nil r1
 obtain rfl:args=#[v0,v1]:=by cases args;simp_all
 obtain⟨h,s1,s2⟩:=Go.Ev.start W
 have s:Go.Ev.Start W h:=⟨s1,s2⟩
 obtain⟨x0,y0,z0,rfl⟩:=okWide_slice Try.underlying22 (hval 0 22 v0 rfl rfl)
 obtain⟨fu0,hfu0⟩:=h0
 obtain⟨fs0,F0⟩:=ADE
 obtain⟨u0,L0,e0,m0,l0,k0⟩:=WW s (Ve hopen) Try.underlying22 F0 hfu0
 obtain rfl:=(List.cons.inj (show[Value.slice x0 y0 z0]=[u0]from e0)).1
 obtain⟨a1,rfl,rfl,rfl,w1⟩:=open_int Try.underlying23 (hval 1 23 v1 rfl rfl) h1
 obtain⟨n1,b1,rfl⟩:=YQ w1
 exact Pe s (vs:=[C6 W (.slice x0 y0 z0),.i .u16 (n1:Int)]) ⟨OO W _,rfl,trivial⟩ (NB m0 l0 k0 b1 s1.MM)
set_option maxRecDepth 100000 in
theorem lifted (os:Os) (started:os.Started) (H:Type) (enc:TypeId×Value->H):
 ReturnsInHanded {} Try.checked os 3 .any (Rows.sheetReadsSpec.pre6 enc Try.prog Try.f3 Rows.sheetReadsRow.domain false) (Rows.sheetReadsSpec.post enc Try.prog Try.f3 false true false false):=
 PO (C:=Try.checked) own started (by kernel_rfl) Try.func3
  (ChangeSpec.witness6 (enc:=enc) (C:=Try.checked) false ⟨#[],#[.slice none 0 0,.int .u16 0],[]⟩ 8 (by kernel_rfl) (by kernel_rfl) (by kernel_rfl) (by kernel_rfl))
  rfl (fun ds hd=>by rw[Try.params3]at hd;match ds,hd with|[d1,d2],_=>rfl) laid (by kernel_rfl) (by kernel_rfl) Try.underlying4 (fun W base args ds p hv ho hA=>run W base args ds p hv ho hA)
theorem Xo:Rows.sheetReadsRow.holds Try.pinned (OpenSpec.ofChange Rows.sheetReadsSpec):=
 OpenClaim.holds_of_wide 3 Try.f3 rfl rfl rfl rfl rfl rfl rfl ⟨rfl,rfl,rfl,rfl,rfl⟩ rfl rfl rfl rfl rfl (by kernel_rfl) Try.func3 (by kernel_rfl)
  (of_decide_eq_true (by kernel_rfl)) (by unfold Func.isWrapper;first|(rw[if_pos (by decide+kernel)];kernel_rfl)|(rw[if_neg (by decide+kernel)];exact⟨rfl,rfl⟩))
  (fun os started H enc _=>lifted os started H enc)
/--THE STATEMENT -/
theorem proved:Rows.SheetReadsSaid:=
 Xo
end Go.Proofs.Ytobfgempjekjpaa.sheetReads
end
