/- The law ChooseWhole, part 5: what its proof uses, closely written. No condition. -/
import Derived.Test.YtobfgempjekjpaaMnChooseWhole4
noncomputable section
set_option linter.all false
namespace Go.Proofs.Ytobfgempjekjpaa
open Go Go.Ev
theorem Uk {h:H} {v:V} {L:List BN} (hL:E9 h v L) (w:V5 5 v) (h1:1<=L.length) (hl:L.length<=1000) (hf:B.val h.floor<=B.val h.next):BO Try.prog 46 [v] h fun y h'=>y=.tu [sv (TQ L),sv (QT L)]/\AU AQ h h':=by
 obtain⟨u,hu,wu,eu⟩:=Ss.lo (P:=Try.prog) (kd:=.i64) (k:=1) hL Be w h1
 have hu:E9 h u (L.drop 1):=hu
 have eu:∀ (g:H) (N:Nx),H2 Try.prog (E3 5) v (.i .i64 1) g N=N.go Try.prog u g:=eu
 have ln:=List.length_drop (i:=1) (l:=L)
 refine BK xT (by intro hb;cases hb) (by simp) (by simp) fun Q hQ=>?_
 simp only[Av,Nat.reduceAdd]
 repeat' (first
  |refine St.h ?_
  |simp(disch:=first|omega|(simp only[AJ];omega))only[AI,↓AB,↓reduceIte,seval,hL.wZ,hL.ya,hL.xN,eu,hu.ln]
  |(with_reducible (first|apply AD|apply AE))<;>(intro hc;(try simp only[Ab]at hc);(try simp only[hc]);(try simp only[Aa]at hc);try omega))
 refine Ok.lp (fun m t g=>∃ i:Nat,m=L.length-1-i/\i<=L.length-1/\get 4 t=sv (fO L i)/\get 5 t=sv (MB L i)/\get 17 t=u/\get 18 t=.i .i64 ((L.drop 1).length:Int)/\get 19 t=.i .i64 (i:Int)/\AU AQ h g) (L.length-1) ?_ ?_
 ·simp(disch:=first|omega|(simp only[AJ];omega))only[AI,↓AB,↓reduceIte,seval]
  refine⟨0,by omega,by omega,?_⟩
  refine⟨?_,?_,?_,?_,?_,AU.refl _ _⟩
  all_goals first|trivial|rfl
 rintro I hI m t g ⟨i,rfl,hi,f4,f5,f17,f18,f19,st⟩
 have hfg:=st.fl hf
 have Lg:=hu.grow st
 by_cases hil:i<L.length-1
 case neg=>
  obtain rfl:i=L.length-1:=by omega
  have d1:(((L.length-1:Nat):Int)<((L.drop 1).length:Int))=False:=eq_false (by omega)
  repeat' (first
   |refine St.h ?_
   |simp(disch:=first|omega|(simp only[AJ];omega))only[AI,↓AB,↓reduceIte,seval,f4,f5,f17,f18,f19,d1]
   |(with_reducible (first|apply AD|apply AE))<;>(intro hc;(try simp only[Ab]at hc);(try simp only[hc]);(try simp only[Aa]at hc);try omega))
  subst hQ
  exact⟨rfl,st⟩
 have d1:((i:Int)<((L.drop 1).length:Int))=True:=eq_true (by omega)
 have hi2:i<(L.drop 1).length:=by omega
 repeat' (first
  |refine St.h ?_
  |simp(disch:=first|omega|(simp only[AJ];omega))only[AI,↓AB,↓reduceIte,seval,f4,f5,f17,f18,f19,d1,Lg.ix,Lg.la,Int.toNat_natCast]
  |(with_reducible (first|apply AD|apply AE))<;>(intro hc;(try simp only[Ab]at hc);(try simp only[hc]);(try simp only[Aa]at hc);try omega))
 refine AL.own (by simp) hfg fun g1 t1 _ o1=>?_
 repeat' (first
  |refine St.h ?_
  |simp(disch:=first|omega|(simp only[AJ];omega))only[AI,↓AB,↓reduceIte,seval,f4,f5,f17,f18,f19]
  |(with_reducible (first|apply AD|apply AE))<;>(intro hc;(try simp only[Ab]at hc);(try simp only[hc]);(try simp only[Aa]at hc);try omega))
 refine ST.all o1 rfl rfl (by simp) (by simp) fun g2 o2 t2=>?_
 have tt:AU AQ g g2:=t1.Cv t2 fun q hq=>by rw[hq];exact Nat.le_refl _
 have r2:=o2.row
 repeat' (first
  |refine St.h ?_
  |simp(disch:=first|omega|(simp only[AJ];omega))only[AI,↓AB,↓reduceIte,seval,f4,f5,f17,f18,f19,r2.l1]
  |(with_reducible (first|apply AD|apply AE))<;>(intro hc;(try simp only[Ab]at hc);(try simp only[hc]);(try simp only[Aa]at hc);try omega))
 exact Aw hI (L.length-1-(i+1)) (by omega) ⟨i+1,rfl,by omega,by simp(disch:=first|omega|(simp only[AJ];omega))only[AI,↓AB,↓reduceIte,seval];rw[mP (by omega),<-Lo];rfl,by simp(disch:=first|omega|(simp only[AJ];omega))only[AI,↓AB,↓reduceIte,seval];rw[mS (by omega),<-Lo];rfl,by simp(disch:=first|omega|(simp only[AJ];omega))only[AI,↓AB,↓reduceIte,seval,f17],by simp(disch:=first|omega|(simp only[AJ];omega))only[AI,↓AB,↓reduceIte,seval,f18],by simp(disch:=first|omega|(simp only[AJ];omega))only[AI,↓AB,↓reduceIte,seval,f19];rfl,st.trans tt⟩
theorem aG {a b:List UInt8} {t:BN}:Hb a b t=(!Op.bytesLess t.Da a&&(Op.bytesLess t.fst b||decide (t.fst=b))):=by unfold Hb;rw[Na]
theorem OB {h:H} {v:V} {L:List BN} {a b:List UInt8} (hL:E9 h v L) (hl:L.length<=1000) (hf:B.val h.floor<=B.val h.next):BO Try.prog 47 [v,sv a,sv b] h fun y h'=>Rt h' y (L.filter (Hb a b))/\(∀ q,Am y q->B.val h.next<=B.val q)/\AU AQ h h':=by
 refine BK yM (by intro hb;cases hb) (by simp) (by simp) fun Q hQ=>?_
 simp only[Av,Nat.reduceAdd]
 repeat' (first
  |refine St.h ?_
  |simp(disch:=first|omega|(simp only[AJ];omega))only[AI,↓AB,↓reduceIte,seval,hL.ln]
  |(with_reducible (first|apply AD|apply AE))<;>(intro hc;(try simp only[Ab]at hc);(try simp only[hc]);(try simp only[Aa]at hc);try omega))
 refine Ok.lp (fun m t g=>∃ (i:Nat) (u:V),m=L.length-i/\i<=L.length/\get 1 t=sv a/\get 2 t=sv b/\get 7 t=u/\get 10 t=v/\get 11 t=.i .i64 (L.length:Int)/\get 12 t=.i .i64 (i:Int)/\Rt g u ((L.take i).filter (Hb a b))/\(∀ q,Am u q->B.val h.next<=B.val q)/\AU AQ h g) L.length ?_ ?_
 ·simp(disch:=first|omega|(simp only[AJ];omega))only[AI,↓AB,↓reduceIte,seval]
  refine⟨0,.l0,by omega,by omega,?_⟩
  refine⟨?_,?_,?_,?_,?_,?_,Gr.nil,?_,AU.refl _ _⟩
  rotate_right
  ·rintro i ⟨_,_,_,_,_,e⟩;cases e
  all_goals first|trivial|rfl
 rintro I hI m t g ⟨i,u,rfl,hi,f1,f2,f7,f10,f11,f12,bu,own,st⟩
 have hfg:=st.fl hf
 have Lg:=hL.grow st
 by_cases hil:i<L.length
 case neg=>
  obtain rfl:i=L.length:=by omega
  rw[List.take_length]at bu
  have d1:((L.length:Int)<(L.length:Int))=False:=eq_false (by omega)
  repeat' (first
   |refine St.h ?_
   |simp(disch:=first|omega|(simp only[AJ];omega))only[AI,↓AB,↓reduceIte,seval,f1,f2,f7,f10,f11,f12,d1]
   |(with_reducible (first|apply AD|apply AE))<;>(intro hc;(try simp only[Ab]at hc);(try simp only[hc]);(try simp only[Aa]at hc);try omega))
  subst hQ
  exact⟨bu,own,st⟩
 have d1:((i:Int)<(L.length:Int))=True:=eq_true (by omega)
 have tp:=Pe (p:=Hb a b) hil
 have hlen:((L.take i).filter (Hb a b)).length<=1000:=by
  have:=List.length_filter_le (Hb a b) (L.take i)
  rw[List.length_take]at this;omega
 repeat' (first
  |refine St.h ?_
  |simp(disch:=first|omega|(simp only[AJ];omega))only[AI,↓AB,↓reduceIte,seval,f1,f2,f7,f10,f11,f12,d1,Lg.ix,Lg.la,Int.toNat_natCast]
  |(with_reducible (first|apply AD|apply AE))<;>(intro hc;(try simp only[Ab]at hc);(try simp only[hc]);(try simp only[Aa]at hc);try omega))
 refine AL.own (by simp) hfg fun g1 t1 _ o1=>?_
 repeat' (first
  |refine St.h ?_
  |simp(disch:=first|omega|(simp only[AJ];omega))only[AI,↓AB,↓reduceIte,seval,f1,f2,f7,f10,f11,f12]
  |(with_reducible (first|apply AD|apply AE))<;>(intro hc;(try simp only[Ab]at hc);(try simp only[hc]);(try simp only[Aa]at hc);try omega))
 refine ST.all o1 rfl rfl (by simp) (by simp) fun g2 o2 t2=>?_
 have tt:AU AQ g g2:=t1.Cv t2 fun q hq=>by rw[hq];exact Nat.le_refl _
 have hf2:=tt.fl hfg
 have b2:=bu.grow tt
 have r2:=o2.row
 have mt:=aG (a:=a) (b:=b) (t:=L.getD i default)
 cases c1:Op.bytesLess (L.getD i default).Da a with
 |true=>
  rw[c1]at mt
  rw[mt]at tp
  repeat' (first
   |refine St.h ?_
   |simp(disch:=first|omega|(simp only[AJ];omega))only[AI,↓AB,↓reduceIte,seval,f1,f2,f7,f10,f11,f12,r2.l1,c1]
   |(with_reducible (first|apply AD|apply AE))<;>(intro hc;(try simp only[Ab]at hc);(try simp only[hc]);(try simp only[Aa]at hc);try omega))
  exact Aw hI (L.length-(i+1)) (by omega) ⟨i+1,u,rfl,by omega,by simp(disch:=first|omega|(simp only[AJ];omega))only[AI,↓AB,↓reduceIte,seval,f1],by simp(disch:=first|omega|(simp only[AJ];omega))only[AI,↓AB,↓reduceIte,seval,f2],by simp(disch:=first|omega|(simp only[AJ];omega))only[AI,↓AB,↓reduceIte,seval,f7],by simp(disch:=first|omega|(simp only[AJ];omega))only[AI,↓AB,↓reduceIte,seval,f10],by simp(disch:=first|omega|(simp only[AJ];omega))only[AI,↓AB,↓reduceIte,seval,f11],by simp(disch:=first|omega|(simp only[AJ];omega))only[AI,↓AB,↓reduceIte,seval,f12];rfl,by rw[tp];simpa using b2,own,st.trans tt⟩
 |false=>
 cases c2:(Op.bytesLess (L.getD i default).fst b||decide ((L.getD i default).fst=b))with
 |false=>
  rw[c1,c2]at mt
  rw[mt]at tp
  repeat' (first
   |refine St.h ?_
   |simp(disch:=first|omega|(simp only[AJ];omega))only[AI,↓AB,↓reduceIte,seval,f1,f2,f7,f10,f11,f12,r2.l1,c1,c2]
   |(with_reducible (first|apply AD|apply AE))<;>(intro hc;(try simp only[Ab]at hc);(try simp only[hc]);(try simp only[Aa]at hc);try omega))
  exact Aw hI (L.length-(i+1)) (by omega) ⟨i+1,u,rfl,by omega,by simp(disch:=first|omega|(simp only[AJ];omega))only[AI,↓AB,↓reduceIte,seval,f1],by simp(disch:=first|omega|(simp only[AJ];omega))only[AI,↓AB,↓reduceIte,seval,f2],by simp(disch:=first|omega|(simp only[AJ];omega))only[AI,↓AB,↓reduceIte,seval,f7],by simp(disch:=first|omega|(simp only[AJ];omega))only[AI,↓AB,↓reduceIte,seval,f10],by simp(disch:=first|omega|(simp only[AJ];omega))only[AI,↓AB,↓reduceIte,seval,f11],by simp(disch:=first|omega|(simp only[AJ];omega))only[AI,↓AB,↓reduceIte,seval,f12];rfl,by rw[tp];simpa using b2,own,st.trans tt⟩
 |true=>
  rw[c1,c2]at mt
  rw[mt]at tp
  repeat' (first
   |refine St.h ?_
   |simp(disch:=first|omega|(simp only[AJ];omega))only[AI,↓AB,↓reduceIte,seval,f1,f2,f7,f10,f11,f12,r2.l1,r2.ln,c1,c2]
   |(with_reducible (first|apply AD|apply AE))<;>(intro hc;(try simp only[Ab]at hc);(try simp only[hc]);(try simp only[Aa]at hc);try omega))
  refine AL.own (by simp) hf2 fun g3 t3 _ o3=>?_
  repeat' (first
   |refine St.h ?_
   |simp(disch:=first|omega|(simp only[AJ];omega))only[AI,↓AB,↓reduceIte,seval,f1,f2,f7,f10,f11,f12]
   |(with_reducible (first|apply AD|apply AE))<;>(intro hc;(try simp only[Ab]at hc);(try simp only[hc]);(try simp only[Aa]at hc);try omega))
  refine NT (x:=L.getD i default) (b2.grow t3) o3 (by omega) (t3.fl hf2) fun u4 g4 b4 t4 own4=>?_
  repeat' (first
   |refine St.h ?_
   |simp(disch:=first|omega|(simp only[AJ];omega))only[AI,↓AB,↓reduceIte,seval,f1,f2,f7,f10,f11,f12]
   |(with_reducible (first|apply AD|apply AE))<;>(intro hc;(try simp only[Ab]at hc);(try simp only[hc]);(try simp only[Aa]at hc);try omega))
  refine Aw hI (L.length-(i+1)) (by omega) ⟨i+1,u4,rfl,by omega,by simp(disch:=first|omega|(simp only[AJ];omega))only[AI,↓AB,↓reduceIte,seval,f1],by simp(disch:=first|omega|(simp only[AJ];omega))only[AI,↓AB,↓reduceIte,seval,f2],by simp(disch:=first|omega|(simp only[AJ];omega))only[AI,↓AB,↓reduceIte,seval],by simp(disch:=first|omega|(simp only[AJ];omega))only[AI,↓AB,↓reduceIte,seval,f10],by simp(disch:=first|omega|(simp only[AJ];omega))only[AI,↓AB,↓reduceIte,seval,f11],by simp(disch:=first|omega|(simp only[AJ];omega))only[AI,↓AB,↓reduceIte,seval,f12];rfl,by rw[tp];exact b4,fun q hq=>?_,(st.trans (tt.trans t3)).Cv t4 fun q hq=>own q hq⟩
  rcases own4 q hq with h5|h5
  ·exact own q h5
  ·exact Nat.le_trans (st.trans (tt.trans t3)).next h5
section
variable {h:H} {b:B} {v:V} {S:Ix}
theorem Lx (a:KP h b v S) (hl:S.L.length<=1000) (hf:B.val h.floor<=B.val h.next):BO Try.prog 19 [.p b 0 0 4] h fun y h'=>∃ u,y=.tu [u,.b (JO S.L)]/\E9 h' u (BJ S.L)/\AU AQ h h':=by
 have hz:=Mq 0 S.L
 have ho:=Mq 1 S.L
 refine BK yt (by intro hb;cases hb) (by simp) (by simp) fun Q hQ=>?_
 simp only[Av,Nat.reduceAdd]
 repeat' (first
  |refine St.h ?_
  |simp(disch:=first|omega|(simp only[AJ];omega))only[AI,↓AB,↓reduceIte,seval]
  |(with_reducible (first|apply AD|apply AE))<;>(intro hc;(try simp only[Ab]at hc);(try simp only[hc]);(try simp only[Aa]at hc);try omega))
 refine CL.mk (IL a hl hf) ?_
 rintro z g1 ⟨rz,oz,s1⟩
 have rz:Rt g1 z (Bm 0 S.L):=rz
 have tz:=rz.DY
 have hf1:=s1.fl hf
 by_cases h2:(Bm 0 S.L).length<2
 ·have d1:(((Bm 0 S.L).length:Int)<2)=True:=eq_true (by omega)
  repeat' (first
   |refine St.h ?_
   |simp(disch:=first|omega|(simp only[AJ];omega))only[AI,↓AB,↓reduceIte,seval,tz.ln,d1]
   |(with_reducible (first|apply AD|apply AE))<;>(intro hc;(try simp only[Ab]at hc);(try simp only[hc]);(try simp only[Aa]at hc);try omega))
  subst hQ
  exact⟨.l0,by unfold JO;rw[decide_eq_true h2];rfl,by unfold BJ;rw[if_pos h2];exact Ss.nil,s1⟩
 have d1:(((Bm 0 S.L).length:Int)<2)=False:=eq_false (by omega)
 repeat' (first
  |refine St.h ?_
  |simp(disch:=first|omega|(simp only[AJ];omega))only[AI,↓AB,↓reduceIte,seval,tz.ln,d1]
  |(with_reducible (first|apply AD|apply AE))<;>(intro hc;(try simp only[Ab]at hc);(try simp only[hc]);(try simp only[Aa]at hc);try omega))
 refine CL.stay (Uk tz rz.sw (by omega) (by omega) hf1) fun g2 s2=>?_
 have s12:=s1.trans s2
 have hf2:=s12.fl hf
 repeat' (first
  |refine St.h ?_
  |simp(disch:=first|omega|(simp only[AJ];omega))only[AI,↓AB,↓reduceIte,seval]
  |(with_reducible (first|apply AD|apply AE))<;>(intro hc;(try simp only[Ab]at hc);(try simp only[hc]);(try simp only[Aa]at hc);try omega))
 refine CL.mk (IL (a.grow s12) hl hf2) ?_
 rintro o g3 ⟨ro,_,s3⟩
 have to:E9 g3 o (Bm 1 S.L):=ro.DY
 have s13:=s12.trans s3
 have hf3:=s13.fl hf
 repeat' (first
  |refine St.h ?_
  |simp(disch:=first|omega|(simp only[AJ];omega))only[AI,↓AB,↓reduceIte,seval]
  |(with_reducible (first|apply AD|apply AE))<;>(intro hc;(try simp only[Ab]at hc);(try simp only[hc]);(try simp only[Aa]at hc);try omega))
 refine CL.mk (OB to (by omega) hf3) ?_
 rintro m g4 ⟨rm,_,s4⟩
 have s14:=s13.trans s4
 have hf4:=s14.fl hf
 have hm:=List.length_filter_le (Hb (TQ (Bm 0 S.L)) (QT (Bm 0 S.L))) (Bm 1 S.L)
 repeat' (first
  |refine St.h ?_
  |simp(disch:=first|omega|(simp only[AJ];omega))only[AI,↓AB,↓reduceIte,seval]
  |(with_reducible (first|apply AD|apply AE))<;>(intro hc;(try simp only[Ab]at hc);(try simp only[hc]);(try simp only[Aa]at hc);try omega))
 refine AP.gr (X:=Of S.L) (rz.grow ((s2.trans s3).trans s4)) Be (by omega) (Ls rm.DY Be (by omega)) (Tw _) (by omega) (by have:(Of S.L).length<=1000:=Nat.le_trans hm (by omega);omega) hf4 fun w g5 rw' s5 _=>?_
 repeat' (first
  |refine St.h ?_
  |simp(disch:=first|omega|(simp only[AJ];omega))only[AI,↓AB,↓reduceIte,seval]
  |(with_reducible (first|apply AD|apply AE))<;>(intro hc;(try simp only[Ab]at hc);(try simp only[hc]);(try simp only[Aa]at hc);try omega))
 subst hQ
 exact⟨w,by unfold JO;rw[decide_eq_false h2];rfl,by unfold BJ;rw[if_neg h2];exact Gr.ss rw',s14.Cv s5 fun q hq=>oz q hq⟩
end
end Go.Proofs.Ytobfgempjekjpaa
set_option maxRecDepth 100000
set_option maxHeartbeats 8000000
set_option linter.all false
namespace Go.Proofs.Ytobfgempjekjpaa
open Go Go.Ev
theorem VU {a b:List UInt8} {t:BN}:Hb a b t=((Op.bytesLess t.fst b||decide (t.fst=b))&&(Op.bytesLess a t.Da||decide (a=t.Da))):=by unfold Hb;rw[Na,Na,Bool.and_comm]
section
variable {h:H} {b:B} {v:V} {S:Ix}
end
end Go.Proofs.Ytobfgempjekjpaa
set_option maxRecDepth 1000000
namespace Go.Proofs.Ytobfgempjekjpaa
open Go Go.Ev
abbrev rM:CC:=(CC.cond (tm 8) CC.skip (CC.exit 0))
abbrev iL:CC:=(CC.seq (CC.region [(wB 5 (AA (tm 3))),(wB 6 (AA (tm 0))),(wB 7 (BW (tm 6))),(wB 8 (AM Bt (tm 5) (tm 7)))]) rM)
abbrev rG:CC:=(CC.seq (CC.region [(wB 2 (AA (O.c (V.b Bool.false))))]) CC.ret)
abbrev oX:CC:=(CC.cond (tm 26) rG CC.skip)
abbrev lN:CC:=(CC.seq (CC.region [(wB 11 (AA (tm 0))),(wB 12 (AA (tm 3))),(wB 13 (AF 4 (tm 11) (tm 12))),(wB 14 (AH 0 (tm 13))),(wB 15 (AW (tm 14))),(wB 16 (BW (tm 15))),(wB 17 (AM Dc (tm 16) (oN 60))),(wB 18 (AA (tm 17))),(wG 18 false 19 (AA (tm 0))),(wG 18 false 20 (AA (tm 3))),(wG 18 false 21 (AF 4 (tm 19) (tm 20))),(wG 18 false 22 (AH 1 (tm 21))),(wG 18 false 23 (AW (tm 22))),(wG 18 false 24 (BW (tm 23))),(wG 18 false 25 (AM Dc (tm 24) (oN 60))),(wB 26 (Ay (tm 18) (O.c (V.b Bool.true)) (tm 25)))]) oX)
abbrev jo:CC:=(CC.cond (tm 34) CC.skip (CC.exit 2))
abbrev nX:CC:=(CC.seq (CC.region [(wB 27 (AA (tm 4))),(wB 28 (AA (tm 0))),(wB 29 (AA (tm 3))),(wB 30 (AF 4 (tm 28) (tm 29))),(wB 31 (AH 1 (tm 30))),(wB 32 (AW (tm 31))),(wB 33 (BW (tm 32))),(wB 34 (AM Bt (tm 27) (tm 33)))]) jo)
abbrev tw:CC:=(CC.seq (CC.region [(wB 2 (AA (O.c (V.b Bool.false))))]) CC.ret)
abbrev jj:CC:=(CC.cond (tm 60) tw CC.skip)
abbrev oW:CC:=(CC.seq (CC.region [(wB 37 (AA (tm 0))),(wB 38 (AA (tm 3))),(wB 39 (AF 4 (tm 37) (tm 38))),(wB 40 (AH 1 (tm 39))),(wB 41 (AW (tm 40))),(wB 42 (AA (tm 4))),(wB 43 (AF 5 (tm 41) (tm 42))),(wB 44 (AH 2 (tm 43))),(wB 45 (AW (tm 44))),(wB 46 (DA (tm 45))),(wB 47 (AM Dc (tm 46) (oN 20))),(wB 48 (AA (tm 47))),(wG 48 false 49 (AA (tm 0))),(wG 48 false 50 (AA (tm 3))),(wG 48 false 51 (AF 4 (tm 49) (tm 50))),(wG 48 false 52 (AH 1 (tm 51))),(wG 48 false 53 (AW (tm 52))),(wG 48 false 54 (AA (tm 4))),(wG 48 false 55 (AF 5 (tm 53) (tm 54))),(wG 48 false 56 (AH 3 (tm 55))),(wG 48 false 57 (AW (tm 56))),(wG 48 false 58 (DA (tm 57))),(wG 48 false 59 (AM Dc (tm 58) (oN 20))),(wB 60 (Ay (tm 48) (O.c (V.b Bool.true)) (tm 59)))]) jj)
abbrev c8:CC:=(CC.block 3 oW)
abbrev XI:CC:=(CC.region [(wB 35 (AA (tm 4))),(wB 36 (AM BB (tm 35) (oN 1))),(wB 4 (AA (tm 36)))])
abbrev XA:CC:=(CC.seq c8 XI)
abbrev ll:CC:=(CC.seq nX XA)
abbrev Wb:CC:=(CC.loop ll)
abbrev Xk:CC:=(CC.block 2 Wb)
abbrev cm:CC:=(CC.seq (CC.region [(wB 4 (AA (oN 0)))]) Xk)
abbrev WW:CC:=(CC.seq lN cm)
abbrev aw:CC:=(CC.block 1 WW)
abbrev Y7:CC:=(CC.region [(wB 9 (AA (tm 3))),(wB 10 (AM BB (tm 9) (oN 1))),(wB 3 (AA (tm 10)))])
abbrev eH:CC:=(CC.seq aw Y7)
abbrev kM:CC:=(CC.seq iL eH)
abbrev ZM:CC:=(CC.loop kM)
abbrev Zf:CC:=(CC.block 0 ZM)
abbrev fJ:CC:=(CC.seq (CC.region [(wB 3 (AA (oN 0)))]) Zf)
abbrev eI:CC:=(CC.seq (CC.region [(wB 61 (AA (tm 0))),(wB 62 (BW (tm 61))),(wB 63 (AM Ew (tm 62) (oN 20))),(wB 2 (AA (tm 63)))]) CC.ret)
abbrev dG:CC:=(CC.seq fJ eI)
abbrev xd:CC:=(CC.seq (CC.region [(wB 2 (AA (O.c (V.b Bool.false))))]) dG)
theorem yf:AV Try.prog 16=⟨64,xd,[(Rs.tmp (AR 2))]⟩:=by kernel_rfl
abbrev wM:CC:=(CC.seq (CC.region [(wB 8 (AA (O.c (V.b Bool.false))))]) CC.ret)
abbrev ub:CC:=(CC.cond (tm 17) wM CC.skip)
abbrev vk:CC:=(CC.seq (CC.region [(wB 16 (AY 15 [])),(wB 17 (Cc (tm 16)))]) ub)
abbrev u7:CC:=(CC.seq (CC.region [(wB 8 (AA (O.c (V.b Bool.true))))]) CC.ret)
abbrev vD:CC:=(CC.cond (tm 35) u7 CC.skip)
abbrev uw:CC:=(CC.seq (CC.region [(wB 18 (AA (tm 0))),(wB 19 (AY 16 [(tm 18)])),(wB 20 (Cc (tm 19))),(wB 21 (AA (tm 20))),(wG 21 false 22 (AA (tm 1))),(wG 21 false 23 (DA (tm 22))),(wG 21 false 24 (AM Dc (tm 23) (oN 20))),(wB 25 (Ay (tm 21) (O.c (V.b Bool.true)) (tm 24))),(wB 26 (AA (tm 25))),(wG 26 false 27 (AA (tm 2))),(wG 26 false 28 (DA (tm 27))),(wG 26 false 29 (AM Dc (tm 28) (oN 20))),(wB 30 (Ay (tm 26) (O.c (V.b Bool.true)) (tm 29))),(wB 31 (AA (tm 30))),(wG 31 false 32 (AA (tm 3))),(wG 31 false 33 (DA (tm 32))),(wG 31 false 34 (AM Dc (tm 33) (oN 20))),(wB 35 (Ay (tm 31) (O.c (V.b Bool.true)) (tm 34)))]) vD)
abbrev ve:CC:=(CC.cond (tm 41) CC.skip (CC.exit 0))
abbrev wC:CC:=(CC.seq (CC.region [(wB 38 (AA (tm 11))),(wB 39 (AA (tm 0))),(wB 40 (BW (tm 39))),(wB 41 (AM Bt (tm 38) (tm 40)))]) ve)
abbrev vY:CC:=(CC.region [(wB 50 (AA (tm 10))),(wB 51 (AA (tm 0))),(wB 52 (AA (tm 11))),(wB 53 (AF 4 (tm 51) (tm 52))),(wB 54 (AT 4 (tm 53))),(wB 55 (AY 12 [(tm 50),(tm 54)]))])
abbrev vW:CC:=(CC.seq (CC.region [(wB 44 (AA (tm 9))),(wB 45 (AA (tm 0))),(wB 46 (AA (tm 11))),(wB 47 (AF 4 (tm 45) (tm 46))),(wB 48 (AT 4 (tm 47))),(wB 49 (AY 18 [(tm 44),(tm 48)]))]) vY)
abbrev lA:CC:=(CC.block 1 vW)
abbrev qO:CC:=(CC.region [(wB 42 (AA (tm 11))),(wB 43 (AM BB (tm 42) (oN 1))),(wB 11 (AA (tm 43)))])
abbrev iN:CC:=(CC.seq lA qO)
abbrev vK:CC:=(CC.seq wC iN)
abbrev rF:CC:=(CC.loop vK)
abbrev fj:CC:=(CC.block 0 rF)
abbrev qk:CC:=(CC.seq (CC.region [(wB 11 (AA (oN 0)))]) fj)
abbrev sj:CC:=(CC.seq (CC.region [(wB 66 (AA (tm 12))),(wB 67 (AA (tm 14))),(wB 68 (AY 21 [(tm 66),(tm 67)])),(wB 69 (AA (tm 68))),(wG 69 true 70 (AA (tm 13))),(wG 69 true 71 (AA (tm 15))),(wG 69 true 72 (Fm Bool.false (tm 70) (tm 71))),(wB 73 (Ay (tm 69) (tm 72) (O.c (V.b Bool.false)))),(wB 74 (AA (tm 73))),(wG 74 true 75 (AA (tm 9))),(wG 74 true 76 (AA (tm 1))),(wG 74 true 77 (AY 22 [(tm 75),(tm 76)])),(wG 74 true 78 (AA (tm 10))),(wG 74 true 79 (AA (tm 1))),(wG 74 true 80 (AY 23 [(tm 78),(tm 79),(O.c (V.s 0 0)),(O.c (V.b Bool.true))])),(wG 74 true 81 (AY 21 [(tm 77),(tm 80)])),(wB 82 (Ay (tm 74) (tm 81) (O.c (V.b Bool.false)))),(wB 83 (AA (tm 82))),(wG 83 true 84 (AA (tm 9))),(wG 83 true 85 (AA (tm 2))),(wG 83 true 86 (AA (tm 3))),(wG 83 true 87 (AY 24 [(tm 84),(tm 85),(tm 86)])),(wG 83 true 88 (AA (tm 10))),(wG 83 true 89 (AA (tm 2))),(wG 83 true 90 (AA (tm 3))),(wG 83 true 91 (AY 23 [(tm 88),(tm 89),(tm 90),(O.c (V.b Bool.false))])),(wG 83 true 92 (AY 21 [(tm 87),(tm 91)])),(wB 93 (Ay (tm 83) (tm 92) (O.c (V.b Bool.false)))),(wB 8 (AA (tm 93)))]) CC.ret)
abbrev hP:CC:=(CC.seq (CC.region [(wB 62 (AA (tm 10))),(wB 63 (AY 20 [(tm 62)])),(wB 61 (AA (tm 63))),(wB 64 (Az 0 (tm 61))),(wB 65 (Az 1 (tm 61))),(wB 14 (AA (tm 64))),(wB 15 (AA (tm 65)))]) sj)
abbrev sV:CC:=(CC.seq (CC.region [(wB 57 (AA (tm 9))),(wB 58 (AY 19 [(tm 57)])),(wB 56 (AA (tm 58))),(wB 59 (Az 0 (tm 56))),(wB 60 (Az 1 (tm 56))),(wB 12 (AA (tm 59))),(wB 13 (AA (tm 60)))]) hP)
abbrev sh:CC:=(CC.seq qk sV)
abbrev hU:CC:=(CC.seq (CC.region [(wB 36 (AY 17 [])),(wB 37 (AY 9 [])),(wB 9 (AA (tm 36))),(wB 10 (AA (tm 37)))]) sh)
abbrev kN:CC:=(CC.seq uw hU)
abbrev po:CC:=(CC.seq vk kN)
abbrev b4:CC:=(CC.seq (CC.region [(wB 8 (AA (O.c (V.b Bool.false))))]) po)
theorem c4:AV Try.prog 4=⟨94,b4,[(Rs.tmp (AR 8))]⟩:=by kernel_rfl
abbrev vR:CC:=(CC.seq (CC.region [(wB 2 (AA (O.c (V.b Bool.false))))]) CC.ret)
abbrev wF:CC:=(CC.cond (tm 14) vR CC.skip)
abbrev vl:CC:=(CC.seq (CC.region [(wB 13 (AY 15 [])),(wB 14 (Cc (tm 13)))]) wF)
abbrev vp:CC:=(CC.seq (CC.region [(wB 2 (AA (O.c (V.b Bool.true))))]) CC.ret)
abbrev u5:CC:=(CC.cond (tm 17) vp CC.skip)
abbrev uy:CC:=(CC.seq (CC.region [(wB 15 (AA (tm 0))),(wB 16 (AY 16 [(tm 15)])),(wB 17 (Cc (tm 16)))]) u5)
abbrev vJ:CC:=(CC.cond (tm 22) CC.skip (CC.exit 0))
abbrev uv:CC:=(CC.seq (CC.region [(wB 19 (AA (tm 4))),(wB 20 (AA (tm 0))),(wB 21 (BW (tm 20))),(wB 22 (AM Bt (tm 19) (tm 21)))]) vJ)
abbrev um:CC:=(CC.region [(wB 25 (AA (tm 3))),(wB 26 (AA (tm 0))),(wB 27 (AA (tm 4))),(wB 28 (AF 4 (tm 26) (tm 27))),(wB 29 (AT 4 (tm 28))),(wB 30 (AY 18 [(tm 25),(tm 29)]))])
abbrev vr:CC:=(CC.block 1 um)
abbrev ng:CC:=(CC.region [(wB 23 (AA (tm 4))),(wB 24 (AM BB (tm 23) (oN 1))),(wB 4 (AA (tm 24)))])
abbrev tK:CC:=(CC.seq vr ng)
abbrev uk:CC:=(CC.seq uv tK)
abbrev kX:CC:=(CC.loop uk)
abbrev iJ:CC:=(CC.block 0 kX)
abbrev qA:CC:=(CC.seq (CC.region [(wB 4 (AA (oN 0)))]) iJ)
abbrev kA:CC:=(CC.seq (CC.region [(wB 38 (AA (tm 5))),(wB 39 (BW (tm 38))),(wB 40 (AM Ec (tm 39) (oN 0))),(wB 41 (AA (tm 40))),(wG 41 true 42 (AA (tm 3))),(wG 41 true 43 (AY 25 [(tm 42),(oN 0)])),(wG 41 true 44 (BW (tm 43))),(wG 41 true 45 (AM Bt (tm 44) (oN 2))),(wB 46 (Ay (tm 41) (tm 45) (O.c (V.b Bool.false)))),(wB 2 (AA (tm 46)))]) CC.ret)
abbrev pE:CC:=(CC.cond (tm 37) kA CC.skip)
abbrev rE:CC:=(CC.seq (CC.region [(wB 36 (AA (tm 6))),(wB 37 (Cc (tm 36)))]) pE)
abbrev tB:CC:=(CC.cond (tm 50) CC.skip (CC.exit 2))
abbrev gu:CC:=(CC.seq (CC.region [(wB 47 (AA (tm 10))),(wB 48 (AA (tm 5))),(wB 49 (BW (tm 48))),(wB 50 (AM Bt (tm 47) (tm 49)))]) tB)
abbrev lB:CC:=(CC.region [(wB 78 (AA (tm 5))),(wB 79 (AA (tm 10))),(wB 80 (AF 5 (tm 78) (tm 79))),(wB 81 (AH 2 (tm 80))),(wB 82 (AW (tm 81))),(wB 8 (AA (tm 82)))])
abbrev nk:CC:=(CC.cond (tm 77) lB CC.skip)
abbrev gV:CC:=(CC.seq (CC.region [(wB 67 (AA (tm 8))),(wB 68 (CX F3 (tm 67) (O.c (V.s 0 0)))),(wB 69 (AA (tm 68))),(wG 69 false 70 (AA (tm 5))),(wG 69 false 71 (AA (tm 10))),(wG 69 false 72 (AF 5 (tm 70) (tm 71))),(wG 69 false 73 (AH 2 (tm 72))),(wG 69 false 74 (AW (tm 73))),(wG 69 false 75 (AA (tm 8))),(wG 69 false 76 (CX Fi (tm 74) (tm 75))),(wB 77 (Ay (tm 69) (O.c (V.b Bool.true)) (tm 76)))]) nk)
abbrev qp:CC:=(CC.region [(wB 83 (AA (tm 9))),(wB 84 (AA (tm 5))),(wB 85 (AA (tm 10))),(wB 86 (AF 5 (tm 84) (tm 85))),(wB 87 (AH 3 (tm 86))),(wB 88 (AW (tm 87))),(wB 89 (G0 (fun a b c d=>!Fi a b c d) (tm 83) (tm 88))),(wB 9 (AA (tm 89)))])
abbrev mX:CC:=(CC.seq gV qp)
abbrev hS:CC:=(CC.cond (tm 66) mX CC.skip)
abbrev oM:CC:=(CC.seq (CC.region [(wB 61 (AA (tm 5))),(wB 62 (AA (tm 10))),(wB 63 (AF 5 (tm 61) (tm 62))),(wB 64 (AH 1 (tm 63))),(wB 65 (AW (tm 64))),(wB 66 (AM Ec (tm 65) (oN 0)))]) hS)
abbrev kR:CC:=(CC.seq (CC.region [(wB 53 (AA (tm 7))),(wB 54 (AA (tm 5))),(wB 55 (AA (tm 10))),(wB 56 (AF 5 (tm 54) (tm 55))),(wB 57 (AH 0 (tm 56))),(wB 58 (AW (tm 57))),(wB 59 (Ax 3 1 [(V.i IntKind.i64 (Int.ofNat 0))] [(Pt.mk 0 1 (tm 58))])),(wB 60 (Bn 3 1 (tm 53) (tm 59))),(wB 7 (AA (tm 60)))]) oM)
abbrev qW:CC:=(CC.block 3 kR)
abbrev nV:CC:=(CC.region [(wB 51 (AA (tm 10))),(wB 52 (AM BB (tm 51) (oN 1))),(wB 10 (AA (tm 52)))])
abbrev kT:CC:=(CC.seq qW nV)
abbrev vc:CC:=(CC.seq gu kT)
abbrev gI:CC:=(CC.loop vc)
abbrev qJ:CC:=(CC.block 2 gI)
abbrev gT:CC:=(CC.seq (CC.region [(wB 10 (AA (oN 0)))]) qJ)
abbrev jS:CC:=(CC.seq (CC.region [(wB 2 (AA (O.c (V.b Bool.false))))]) CC.ret)
abbrev lG:CC:=(CC.cond (tm 100) jS CC.skip)
abbrev m8:CC:=(CC.seq (CC.region [(wB 90 (AA (tm 3))),(wB 91 (AA (tm 7))),(wB 92 (Ct [V.l0,V.l0,(V.i IntKind.i64 (Int.ofNat 0)),(V.i IntKind.i64 (Int.ofNat 0))] [(Pt.mk 0 1 (tm 91))])),(wB 93 (AY 18 [(tm 90),(tm 92)])),(wB 94 (AM J6 (tm 93) (oN 0))),(wB 95 (AA (tm 94))),(wG 95 false 96 (AA (tm 3))),(wG 95 false 97 (AY 25 [(tm 96),(oN 0)])),(wG 95 false 98 (BW (tm 97))),(wG 95 false 99 (AM J6 (tm 98) (oN 0))),(wB 100 (Ay (tm 95) (O.c (V.b Bool.true)) (tm 99)))]) lG)
abbrev oD:CC:=(CC.cond (tm 106) CC.skip (CC.exit 4))
abbrev pK:CC:=(CC.seq (CC.region [(wB 103 (AA (tm 12))),(wB 104 (AA (tm 11))),(wB 105 (BW (tm 104))),(wB 106 (AM Bt (tm 103) (tm 105)))]) oD)
abbrev qY:CC:=(CC.seq (CC.region [(wB 2 (AA (O.c (V.b Bool.false))))]) CC.ret)
abbrev mM:CC:=(CC.cond (tm 124) qY CC.skip)
abbrev j0:CC:=(CC.seq (CC.region [(wB 109 (AA (tm 11))),(wB 110 (AA (tm 12))),(wB 111 (AF 5 (tm 109) (tm 110))),(wB 112 (AH 2 (tm 111))),(wB 113 (AW (tm 112))),(wB 114 (AA (tm 9))),(wB 115 (CX (fun a b c d=>Fi a b c d||F3 a b c d) (tm 113) (tm 114))),(wB 116 (AA (tm 115))),(wG 116 true 117 (AA (tm 8))),(wG 116 true 118 (AA (tm 11))),(wG 116 true 119 (AA (tm 12))),(wG 116 true 120 (AF 5 (tm 118) (tm 119))),(wG 116 true 121 (AH 3 (tm 120))),(wG 116 true 122 (AW (tm 121))),(wG 116 true 123 (CX (fun a b c d=>Fi a b c d||F3 a b c d) (tm 117) (tm 122))),(wB 124 (Ay (tm 116) (tm 123) (O.c (V.b Bool.false))))]) mM)
abbrev jt:CC:=(CC.block 5 j0)
abbrev gh:CC:=(CC.region [(wB 107 (AA (tm 12))),(wB 108 (AM BB (tm 107) (oN 1))),(wB 12 (AA (tm 108)))])
abbrev nA:CC:=(CC.seq jt gh)
abbrev v7:CC:=(CC.seq pK nA)
abbrev gC:CC:=(CC.loop v7)
abbrev gQ:CC:=(CC.block 4 gC)
abbrev qZ:CC:=(CC.seq (CC.region [(wB 12 (AA (oN 0)))]) gQ)
abbrev pF:CC:=(CC.seq (CC.region [(wB 2 (AA (O.c (V.b Bool.true))))]) CC.ret)
abbrev nf:CC:=(CC.seq qZ pF)
abbrev fq:CC:=(CC.seq (CC.region [(wB 101 (AA (tm 3))),(wB 102 (AY 26 [(tm 101)])),(wB 11 (AA (tm 102)))]) nf)
abbrev qE:CC:=(CC.seq m8 fq)
abbrev kq:CC:=(CC.seq gT qE)
abbrev qS:CC:=(CC.seq (CC.region [(wB 8 (AA (O.c (V.s 0 0)))),(wB 9 (AA (O.c (V.s 0 0))))]) kq)
abbrev rf:CC:=(CC.seq (CC.region [(wB 7 (AA (O.c V.l0)))]) qS)
abbrev pc:CC:=(CC.seq rE rf)
abbrev ta:CC:=(CC.seq (CC.region [(wB 32 (AA (tm 3))),(wB 33 (AY 19 [(tm 32)])),(wB 31 (AA (tm 33))),(wB 34 (Az 0 (tm 31))),(wB 35 (Az 1 (tm 31))),(wB 5 (AA (tm 34))),(wB 6 (AA (tm 35)))]) pc)
abbrev ik:CC:=(CC.seq qA ta)
abbrev nB:CC:=(CC.seq (CC.region [(wB 18 (AY 17 [])),(wB 3 (AA (tm 18)))]) ik)
abbrev mR:CC:=(CC.seq uy nB)
abbrev pB:CC:=(CC.seq vl mR)
abbrev b5:CC:=(CC.seq (CC.region [(wB 2 (AA (O.c (V.b Bool.false))))]) pB)
theorem c5:AV Try.prog 5=⟨125,b5,[(Rs.tmp (AR 2))]⟩:=by kernel_rfl
abbrev wK:CC:=(CC.seq (CC.region [(wB 8 (AA (O.c (V.b Bool.false))))]) CC.ret)
abbrev uW:CC:=(CC.cond (tm 30) wK CC.skip)
abbrev uq:CC:=(CC.seq (CC.region [(wB 29 (AY 15 [])),(wB 30 (Cc (tm 29)))]) uW)
abbrev ux:CC:=(CC.cond (tm 33) CC.skip (CC.exit 0))
abbrev wA:CC:=(CC.seq (CC.region [(wB 32 (AA (tm 11))),(wB 33 (AM Bt (tm 32) (oN 6)))]) ux)
abbrev v3:CC:=(CC.region [(wB 36 (AA (tm 10))),(wB 37 (AA (tm 11))),(wB 38 (AM BB (tm 37) (oN 1))),(wB 39 (AA (tm 11))),(wB 40 (AM HB (oN 3) (tm 39))),(wB 41 (AM BB (oN 97) (tm 40))),(wB 42 (Bd IntKind.u8 (tm 41))),(wB 43 (Ax 5 1 [(V.i IntKind.u8 (Int.ofNat 0))] [(Pt.mk 0 1 (tm 42))])),(wB 44 (E2 (tm 43))),(wB 45 (AA (tm 11))),(wB 46 (AM HB (oN 3) (tm 45))),(wB 47 (AM BB (oN 98) (tm 46))),(wB 48 (Bd IntKind.u8 (tm 47))),(wB 49 (Ax 5 1 [(V.i IntKind.u8 (Int.ofNat 0))] [(Pt.mk 0 1 (tm 48))])),(wB 50 (E2 (tm 49))),(wB 51 (Ct [(V.i IntKind.i64 (Int.ofNat 0)),(V.i IntKind.i64 (Int.ofNat 0)),(V.s 0 0),(V.s 0 0),(V.i IntKind.i64 (Int.ofNat 0))] [(Pt.mk 0 1 (tm 38)),(Pt.mk 1 1 (oN 1)),(Pt.mk 2 1 (tm 44)),(Pt.mk 3 1 (tm 50)),(Pt.mk 4 1 (oN 1))])),(wB 52 (Ax 57 1 [(V.i IntKind.i64 (Int.ofNat 0)),(V.i IntKind.i64 (Int.ofNat 0)),(V.s 0 0),(V.s 0 0),(V.i IntKind.i64 (Int.ofNat 0))] [(Pt.mk 0 5 (tm 51))])),(wB 53 (Bn 57 5 (tm 36) (tm 52))),(wB 10 (AA (tm 53)))])
abbrev uu:CC:=(CC.block 1 v3)
abbrev uY:CC:=(CC.region [(wB 34 (AA (tm 11))),(wB 35 (AM BB (tm 34) (oN 1))),(wB 11 (AA (tm 35)))])
abbrev uz:CC:=(CC.seq uu uY)
abbrev u9:CC:=(CC.seq wA uz)
abbrev vb:CC:=(CC.loop u9)
abbrev jG:CC:=(CC.block 0 vb)
abbrev iV:CC:=(CC.seq (CC.region [(wB 11 (AA (oN 0)))]) jG)
abbrev pz:CC:=(CC.seq (CC.region [(wB 8 (AA (O.c (V.b Bool.false))))]) CC.ret)
abbrev sc:CC:=(CC.cond (tm 58) pz CC.skip)
abbrev hZ:CC:=(CC.seq (CC.region [(wB 54 (AA (tm 9))),(wB 55 (AA (tm 10))),(wB 56 (Ct [V.l0,V.l0,(V.i IntKind.i64 (Int.ofNat 0)),(V.i IntKind.i64 (Int.ofNat 0))] [(Pt.mk 1 1 (tm 55))])),(wB 57 (AY 18 [(tm 54),(tm 56)])),(wB 58 (AM J6 (tm 57) (oN 0)))]) sc)
abbrev kB:CC:=(CC.seq (CC.region [(wB 8 (AA (O.c (V.b Bool.false))))]) CC.ret)
abbrev gZ:CC:=(CC.cond (tm 108) kB CC.skip)
abbrev ma:CC:=(CC.seq (CC.region [(wB 100 (AA (tm 17))),(wB 101 (AA (tm 100))),(wG 101 false 102 (AA (tm 9))),(wG 101 false 103 (AT 5 (tm 14))),(wG 101 false 104 (Ax 57 1 [(V.i IntKind.i64 (Int.ofNat 0)),(V.i IntKind.i64 (Int.ofNat 0)),(V.s 0 0),(V.s 0 0),(V.i IntKind.i64 (Int.ofNat 0))] [(Pt.mk 0 5 (tm 103))])),(wG 101 false 105 (Ct [V.l0,V.l0,(V.i IntKind.i64 (Int.ofNat 0)),(V.i IntKind.i64 (Int.ofNat 0))] [(Pt.mk 1 1 (tm 104))])),(wG 101 false 106 (AY 18 [(tm 102),(tm 105)])),(wG 101 false 107 (AM J6 (tm 106) (oN 0))),(wB 108 (Ay (tm 101) (O.c (V.b Bool.true)) (tm 107)))]) gZ)
abbrev gR:CC:=(CC.seq (CC.region [(wB 8 (AA (O.c (V.b Bool.false))))]) CC.ret)
abbrev pb:CC:=(CC.cond (tm 122) gR CC.skip)
abbrev iI:CC:=(CC.seq (CC.region [(wB 114 (AA (tm 19))),(wB 115 (AA (tm 114))),(wG 115 false 116 (AA (tm 9))),(wG 115 false 117 (AT 5 (tm 15))),(wG 115 false 118 (Ax 57 1 [(V.i IntKind.i64 (Int.ofNat 0)),(V.i IntKind.i64 (Int.ofNat 0)),(V.s 0 0),(V.s 0 0),(V.i IntKind.i64 (Int.ofNat 0))] [(Pt.mk 0 5 (tm 117))])),(wG 115 false 119 (Ct [V.l0,V.l0,(V.i IntKind.i64 (Int.ofNat 0)),(V.i IntKind.i64 (Int.ofNat 0))] [(Pt.mk 1 1 (tm 118))])),(wG 115 false 120 (AY 18 [(tm 116),(tm 119)])),(wG 115 false 121 (AM J6 (tm 120) (oN 0))),(wB 122 (Ay (tm 115) (O.c (V.b Bool.true)) (tm 121)))]) pb)
abbrev rq:CC:=(CC.cond (tm 143) CC.skip (CC.exit 2))
abbrev tP:CC:=(CC.seq (CC.region [(wB 142 (AA (tm 25))),(wB 143 (AM Bt (tm 142) (oN 6)))]) rq)
abbrev pn:CC:=(CC.region [(wB 157 (AA (tm 24))),(wB 158 (AM BB (tm 157) (oN 1))),(wB 24 (AA (tm 158)))])
abbrev kE:CC:=(CC.cond (tm 156) pn CC.skip)
abbrev sD:CC:=(CC.seq (CC.region [(wB 146 (AA (tm 25))),(wB 147 (AM HB (oN 3) (tm 146))),(wB 148 (AA (tm 23))),(wB 149 (AM Ew (tm 147) (tm 148))),(wB 150 (AA (tm 149))),(wG 150 true 151 (AA (tm 22))),(wG 150 true 152 (AA (tm 25))),(wG 150 true 153 (AM HB (oN 3) (tm 152))),(wG 150 true 154 (AM BB (tm 153) (oN 1))),(wG 150 true 155 (AM Ew (tm 151) (tm 154))),(wB 156 (Ay (tm 150) (tm 155) (O.c (V.b Bool.false))))]) kE)
abbrev mE:CC:=(CC.block 3 sD)
abbrev ij:CC:=(CC.region [(wB 144 (AA (tm 25))),(wB 145 (AM BB (tm 144) (oN 1))),(wB 25 (AA (tm 145)))])
abbrev gk:CC:=(CC.seq mE ij)
abbrev vC:CC:=(CC.seq tP gk)
abbrev tA:CC:=(CC.loop vC)
abbrev tc:CC:=(CC.block 2 tA)
abbrev jU:CC:=(CC.seq (CC.region [(wB 25 (AA (oN 0)))]) tc)
abbrev oP:CC:=(CC.cond (tm 165) CC.skip (CC.exit 4))
abbrev fV:CC:=(CC.seq (CC.region [(wB 164 (AA (tm 28))),(wB 165 (AM Bt (tm 164) (oN 6)))]) oP)
abbrev tf:CC:=(CC.region [(wB 179 (AA (tm 27))),(wB 180 (AM BB (tm 179) (oN 1))),(wB 27 (AA (tm 180)))])
abbrev ml:CC:=(CC.cond (tm 178) tf CC.skip)
abbrev fi:CC:=(CC.seq (CC.region [(wB 168 (AA (tm 28))),(wB 169 (AM HB (oN 3) (tm 168))),(wB 170 (AA (tm 12))),(wB 171 (AM Ew (tm 169) (tm 170))),(wB 172 (AA (tm 171))),(wG 172 true 173 (AA (tm 12))),(wG 172 true 174 (AA (tm 28))),(wG 172 true 175 (AM HB (oN 3) (tm 174))),(wG 172 true 176 (AM BB (tm 175) (oN 1))),(wG 172 true 177 (AM Ew (tm 173) (tm 176))),(wB 178 (Ay (tm 172) (tm 177) (O.c (V.b Bool.false))))]) ml)
abbrev fp:CC:=(CC.block 5 fi)
abbrev nN:CC:=(CC.region [(wB 166 (AA (tm 28))),(wB 167 (AM BB (tm 166) (oN 1))),(wB 28 (AA (tm 167)))])
abbrev iX:CC:=(CC.seq fp nN)
abbrev wO:CC:=(CC.seq fV iX)
abbrev fh:CC:=(CC.loop wO)
abbrev qy:CC:=(CC.block 4 fh)
abbrev mD:CC:=(CC.seq (CC.region [(wB 28 (AA (oN 0)))]) qy)
abbrev ot:CC:=(CC.region [(wB 193 (AA (tm 27))),(wB 194 (AM BB (tm 193) (oN 1))),(wB 27 (AA (tm 194)))])
abbrev ny:CC:=(CC.cond (tm 192) ot CC.skip)
abbrev lE:CC:=(CC.seq (CC.region [(wB 181 (AA (tm 13))),(wB 182 (AA (tm 12))),(wB 183 (AM Ew (tm 181) (tm 182))),(wB 184 (AA (tm 183))),(wG 184 true 185 (AA (tm 12))),(wG 184 true 186 (AA (tm 13))),(wG 184 true 187 (AA (tm 3))),(wG 184 true 188 (Eu (tm 187) (O.c (V.i IntKind.u8 (Int.ofNat 4))))),(wG 184 true 189 (Bd IntKind.i64 (tm 188))),(wG 184 true 190 (AM BB (tm 186) (tm 189))),(wG 184 true 191 (AM Ew (tm 185) (tm 190))),(wB 192 (Ay (tm 184) (tm 191) (O.c (V.b Bool.false))))]) ny)
abbrev oJ:CC:=(CC.seq (CC.region [(wB 195 (AA (tm 21))),(wB 196 (AA (tm 195))),(wG 196 true 197 (AA (tm 20))),(wG 196 true 198 (BW (tm 197))),(wG 196 true 199 (AA (tm 24))),(wG 196 true 200 (AM Ec (tm 198) (tm 199))),(wB 201 (Ay (tm 196) (tm 200) (O.c (V.b Bool.false)))),(wB 202 (AA (tm 201))),(wG 202 true 203 (AA (tm 20))),(wG 202 true 204 (AF 5 (tm 203) (oN 0))),(wG 202 true 205 (AH 0 (tm 204))),(wG 202 true 206 (AW (tm 205))),(wG 202 true 207 (AM Ec (tm 206) (oN 8))),(wB 208 (Ay (tm 202) (tm 207) (O.c (V.b Bool.false)))),(wB 209 (AA (tm 208))),(wG 209 true 210 (AA (tm 20))),(wG 209 true 211 (AF 5 (tm 210) (oN 1))),(wG 209 true 212 (AH 0 (tm 211))),(wG 209 true 213 (AW (tm 212))),(wG 209 true 214 (AM Ec (tm 213) (oN 7))),(wB 215 (Ay (tm 209) (tm 214) (O.c (V.b Bool.false)))),(wB 216 (AA (tm 215))),(wG 216 true 217 (AA (tm 9))),(wG 216 true 218 (AA (tm 26))),(wG 216 true 219 (AY 22 [(tm 217),(tm 218)])),(wG 216 true 220 (BW (tm 219))),(wG 216 true 221 (AA (tm 27))),(wG 216 true 222 (AM BB (tm 221) (oN 1))),(wG 216 true 223 (AM Ec (tm 220) (tm 222))),(wB 224 (Ay (tm 216) (tm 223) (O.c (V.b Bool.false)))),(wB 8 (AA (tm 224)))]) CC.ret)
abbrev pH:CC:=(CC.seq lE oJ)
abbrev rk:CC:=(CC.seq mD pH)
abbrev oF:CC:=(CC.seq (CC.region [(wB 27 (AA (oN 0)))]) rk)
abbrev ru:CC:=(CC.seq (CC.region [(wB 159 (AA (tm 12))),(wB 160 (AM BB (oN 97) (tm 159))),(wB 161 (Bd IntKind.u8 (tm 160))),(wB 162 (Ax 5 1 [(V.i IntKind.u8 (Int.ofNat 0))] [(Pt.mk 0 1 (tm 161))])),(wB 163 (E2 (tm 162))),(wB 26 (AA (tm 163)))]) oF)
abbrev mr:CC:=(CC.seq jU ru)
abbrev qI:CC:=(CC.seq (CC.region [(wB 24 (AA (oN 2)))]) mr)
abbrev n4:CC:=(CC.seq (CC.region [(wB 128 (AA (tm 12))),(wB 129 (AA (tm 13))),(wB 130 (Ii (tm 128) (tm 129))),(wB 131 (AA (tm 12))),(wB 132 (AA (tm 1))),(wB 133 (Eu (tm 132) (O.c (V.i IntKind.u8 (Int.ofNat 4))))),(wB 134 (Bd IntKind.i64 (tm 133))),(wB 135 (AM BB (tm 131) (tm 134))),(wB 136 (AA (tm 13))),(wB 137 (AA (tm 3))),(wB 138 (Eu (tm 137) (O.c (V.i IntKind.u8 (Int.ofNat 4))))),(wB 139 (Bd IntKind.i64 (tm 138))),(wB 140 (AM BB (tm 136) (tm 139))),(wB 141 (Fx (tm 135) (tm 140))),(wB 22 (AA (tm 130))),(wB 23 (AA (tm 141)))]) qI)
abbrev mK:CC:=(CC.seq (CC.region [(wB 124 (AA (tm 9))),(wB 125 (AY 19 [(tm 124)])),(wB 123 (AA (tm 125))),(wB 126 (Az 0 (tm 123))),(wB 127 (Az 1 (tm 123))),(wB 20 (AA (tm 126))),(wB 21 (AA (tm 127)))]) n4)
abbrev fo:CC:=(CC.seq iI mK)
abbrev lF:CC:=(CC.seq (CC.region [(wB 110 (AA (tm 9))),(wB 111 (AY 19 [(tm 110)])),(wB 109 (AA (tm 111))),(wB 112 (Az 0 (tm 109))),(wB 113 (Az 1 (tm 109))),(wB 18 (AA (tm 112))),(wB 19 (AA (tm 113)))]) fo)
abbrev rT:CC:=(CC.seq ma lF)
abbrev r8:CC:=(CC.seq (CC.region [(wB 96 (AA (tm 9))),(wB 97 (AY 19 [(tm 96)])),(wB 95 (AA (tm 97))),(wB 98 (Az 0 (tm 95))),(wB 99 (Az 1 (tm 95))),(wB 16 (AA (tm 98))),(wB 17 (AA (tm 99)))]) rT)
abbrev kP:CC:=(CC.seq (CC.region [(wB 80 (AA (tm 13))),(wB 81 (AM BB (oN 97) (tm 80))),(wB 82 (Bd IntKind.u8 (tm 81))),(wB 83 (Ax 5 1 [(V.i IntKind.u8 (Int.ofNat 0))] [(Pt.mk 0 1 (tm 82))])),(wB 84 (E2 (tm 83))),(wB 85 (AA (tm 13))),(wB 86 (AM BB (oN 97) (tm 85))),(wB 87 (AA (tm 3))),(wB 88 (Eu (tm 87) (O.c (V.i IntKind.u8 (Int.ofNat 4))))),(wB 89 (Bd IntKind.i64 (tm 88))),(wB 90 (AM BB (tm 86) (tm 89))),(wB 91 (Bd IntKind.u8 (tm 90))),(wB 92 (Ax 5 1 [(V.i IntKind.u8 (Int.ofNat 0))] [(Pt.mk 0 1 (tm 91))])),(wB 93 (E2 (tm 92))),(wB 94 (Ct [(V.i IntKind.i64 (Int.ofNat 0)),(V.i IntKind.i64 (Int.ofNat 0)),(V.s 0 0),(V.s 0 0),(V.i IntKind.i64 (Int.ofNat 0))] [(Pt.mk 0 1 (oN 8)),(Pt.mk 2 1 (tm 84)),(Pt.mk 3 1 (tm 93)),(Pt.mk 4 1 (oN 1))])),(wB 15 (CB 57 [(V.i IntKind.i64 (Int.ofNat 0)),(V.i IntKind.i64 (Int.ofNat 0)),(V.s 0 0),(V.s 0 0),(V.i IntKind.i64 (Int.ofNat 0))])),(CO.mk G.none D.none Bool.true (CR.mk (Ae 5 (tm 15) (tm 94))))]) r8)
abbrev iE:CC:=(CC.seq (CC.region [(wB 65 (AA (tm 12))),(wB 66 (AM BB (oN 97) (tm 65))),(wB 67 (Bd IntKind.u8 (tm 66))),(wB 68 (Ax 5 1 [(V.i IntKind.u8 (Int.ofNat 0))] [(Pt.mk 0 1 (tm 67))])),(wB 69 (E2 (tm 68))),(wB 70 (AA (tm 12))),(wB 71 (AM BB (oN 97) (tm 70))),(wB 72 (AA (tm 1))),(wB 73 (Eu (tm 72) (O.c (V.i IntKind.u8 (Int.ofNat 4))))),(wB 74 (Bd IntKind.i64 (tm 73))),(wB 75 (AM BB (tm 71) (tm 74))),(wB 76 (Bd IntKind.u8 (tm 75))),(wB 77 (Ax 5 1 [(V.i IntKind.u8 (Int.ofNat 0))] [(Pt.mk 0 1 (tm 76))])),(wB 78 (E2 (tm 77))),(wB 79 (Ct [(V.i IntKind.i64 (Int.ofNat 0)),(V.i IntKind.i64 (Int.ofNat 0)),(V.s 0 0),(V.s 0 0),(V.i IntKind.i64 (Int.ofNat 0))] [(Pt.mk 0 1 (oN 7)),(Pt.mk 2 1 (tm 69)),(Pt.mk 3 1 (tm 78)),(Pt.mk 4 1 (oN 1))])),(wB 14 (CB 57 [(V.i IntKind.i64 (Int.ofNat 0)),(V.i IntKind.i64 (Int.ofNat 0)),(V.s 0 0),(V.s 0 0),(V.i IntKind.i64 (Int.ofNat 0))])),(CO.mk G.none D.none Bool.true (CR.mk (Ae 5 (tm 14) (tm 79))))]) kP)
abbrev nh:CC:=(CC.seq (CC.region [(wB 59 (AA (tm 0))),(wB 60 (Eu (tm 59) (O.c (V.i IntKind.u8 (Int.ofNat 18))))),(wB 61 (Bd IntKind.i64 (tm 60))),(wB 62 (AA (tm 2))),(wB 63 (Eu (tm 62) (O.c (V.i IntKind.u8 (Int.ofNat 18))))),(wB 64 (Bd IntKind.i64 (tm 63))),(wB 12 (AA (tm 61))),(wB 13 (AA (tm 64)))]) iE)
abbrev lk:CC:=(CC.seq hZ nh)
abbrev jx:CC:=(CC.seq iV lk)
abbrev jF:CC:=(CC.seq (CC.region [(wB 10 (AA (O.c V.l0)))]) jx)
abbrev pV:CC:=(CC.seq (CC.region [(wB 31 (AY 17 [])),(wB 9 (AA (tm 31)))]) jF)
abbrev tL:CC:=(CC.seq uq pV)
abbrev b6:CC:=(CC.seq (CC.region [(wB 8 (AA (O.c (V.b Bool.false))))]) tL)
theorem c6:AV Try.prog 6=⟨225,b6,[(Rs.tmp (AR 8))]⟩:=by kernel_rfl
end Go.Proofs.Ytobfgempjekjpaa
set_option maxRecDepth 1000000
namespace Go.Proofs.Ytobfgempjekjpaa.ravelinlaw14
open Go.Ev
theorem Pb:Qk gO Try.prog 1000 15 []=true:=by kernel_rfl
theorem No:Dg Try.prog 15:=UY (UJ _) (Checked.mixed Try.checked) Pb
end Go.Proofs.Ytobfgempjekjpaa.ravelinlaw14
set_option maxRecDepth 100000
set_option maxHeartbeats 8000000
namespace Go.Proofs.Ytobfgempjekjpaa
open Go Go.Ev
theorem Un {h:H}:BO Try.prog 15 [] h fun y h'=>y=.b true/\h'=h:=BO.UF ravelinlaw14.No h
theorem Sk {h:H} {v:V} {K:List Ek} (a:KG h v K) (hl:K.length<=9223372036854775807):BO Try.prog 16 [v] h fun y h'=>∃ r,y=.b r/\(r=true->uc K)/\h=h':=by
 refine BK yf (by intro hb;cases hb) (by simp) (by simp) fun Q hQ=>?_
 simp only[Av,Nat.reduceAdd]
 repeat' (first
  |refine St.h ?_
  |simp(disch:=first|omega|(simp only[AJ];omega))only[AI,↓AB,↓reduceIte,seval,a.ln]
  |(with_reducible (first|apply AD|apply AE))<;>(intro hc;(try simp only[Ab]at hc);(try simp only[hc]);(try simp only[Aa]at hc);try omega))
 refine Ok.lp (fun m t g=>∃ i:Nat,m=K.length-i/\i<=K.length/\h=g/\get 0 t=v/\get 3 t=.i .i64 (i:Int)/\∀ p,p<i->WM (K.getD p default)) K.length ?_ ?_
 ·simp(disch:=first|omega|(simp only[AJ];omega))only[AI,↓AB,↓reduceIte,seval]
  refine⟨0,by omega,by omega,?_⟩
  refine⟨?_,?_,?_,fun p hp=>by omega⟩
  all_goals first|trivial|rfl
 rintro I hI m t g ⟨i,rfl,hi,rfl,f0,f3,hall⟩
 by_cases hil:i<K.length
 case neg=>
  obtain rfl:i=K.length:=by omega
  have d1:((K.length:Int)<(K.length:Int))=False:=eq_false (by omega)
  repeat' (first
   |refine St.h ?_
   |simp(disch:=first|omega|(simp only[AJ];omega))only[AI,↓AB,↓reduceIte,seval,f0,f3,d1,a.ln]
   |(with_reducible (first|apply AD|apply AE))<;>(intro hc;(try simp only[Ab]at hc);(try simp only[hc]);(try simp only[Aa]at hc);try omega))
  subst hQ
  exact⟨_,rfl,fun hr=>⟨by have:=of_decide_eq_true hr;omega,hall⟩,rfl⟩
 have d1:((i:Int)<(K.length:Int))=True:=eq_true (by omega)
 have m1:=a.at hil
 by_cases hg:60<(K.getD i default).e.gone.length
 ·have d2:((60:Int)<((K.getD i default).e.gone.length:Int))=True:=eq_true (by omega)
  repeat' (first
   |refine St.h ?_
   |simp(disch:=first|omega|(simp only[AJ];omega))only[AI,↓AB,↓reduceIte,seval,f0,f3,d1,d2,a.ln,a.ix,a.l0,m1.1.ln,Int.toNat_natCast]
   |(with_reducible (first|apply AD|apply AE))<;>(intro hc;(try simp only[Ab]at hc);(try simp only[hc]);(try simp only[Aa]at hc);try omega))
  subst hQ
  exact⟨_,rfl,fun hr=>(by cases hr),rfl⟩
 have d2:((60:Int)<((K.getD i default).e.gone.length:Int))=False:=eq_false (by omega)
 by_cases hc:60<(K.getD i default).e.Af.length
 ·have d3:((60:Int)<((K.getD i default).e.Af.length:Int))=True:=eq_true (by omega)
  repeat' (first
   |refine St.h ?_
   |simp(disch:=first|omega|(simp only[AJ];omega))only[AI,↓AB,↓reduceIte,seval,f0,f3,d1,d2,d3,a.ln,a.ix,a.l0,a.l1,m1.1.ln,m1.2.ln,Int.toNat_natCast]
   |(with_reducible (first|apply AD|apply AE))<;>(intro hc;(try simp only[Ab]at hc);(try simp only[hc]);(try simp only[Aa]at hc);try omega))
  subst hQ
  exact⟨_,rfl,fun hr=>(by cases hr),rfl⟩
 have d3:((60:Int)<((K.getD i default).e.Af.length:Int))=False:=eq_false (by omega)
 repeat' (first
  |refine St.h ?_
  |simp(disch:=first|omega|(simp only[AJ];omega))only[AI,↓AB,↓reduceIte,seval,f0,f3,d1,d2,d3,a.ln,a.ix,a.l0,a.l1,m1.1.ln,m1.2.ln,Int.toNat_natCast]
  |(with_reducible (first|apply AD|apply AE))<;>(intro hc;(try simp only[Ab]at hc);(try simp only[hc]);(try simp only[Aa]at hc);try omega))
 refine Ok.lp (fun m t g=>∃ j:Nat,m=(K.getD i default).e.Af.length-j/\j<=(K.getD i default).e.Af.length/\h=g/\get 0 t=v/\get 3 t=.i .i64 (i:Int)/\get 4 t=.i .i64 (j:Int)/\∀ p,p<j->((K.getD i default).e.Af.getD p default).fst.length<=20/\((K.getD i default).e.Af.getD p default).Da.length<=20) (K.getD i default).e.Af.length ?_ ?_
 ·simp(disch:=first|omega|(simp only[AJ];omega))only[AI,↓AB,↓reduceIte,seval,f0,f3]
  refine⟨0,by omega,by omega,?_⟩
  refine⟨?_,?_,?_,?_,fun p hp=>by omega⟩
  all_goals first|trivial|rfl
 rintro I2 hI2 m2 t2 g2 ⟨j,rfl,hj,rfl,f0,f3,f4,hin⟩
 by_cases hjl:j<(K.getD i default).e.Af.length
 case neg=>
  obtain rfl:j=(K.getD i default).e.Af.length:=by omega
  have d4:(((K.getD i default).e.Af.length:Int)<((K.getD i default).e.Af.length:Int))=False:=eq_false (by omega)
  repeat' (first
   |refine St.h ?_
   |simp(disch:=first|omega|(simp only[AJ];omega))only[AI,↓AB,↓reduceIte,seval,f0,f3,f4,d4,a.ln,a.ix,a.l0,a.l1,m1.1.ln,m1.2.ln,Int.toNat_natCast]
   |(with_reducible (first|apply AD|apply AE))<;>(intro hc;(try simp only[Ab]at hc);(try simp only[hc]);(try simp only[Aa]at hc);try omega))
  refine Aw hI (K.length-(i+1)) (by omega) ⟨i+1,rfl,by omega,rfl,by simp(disch:=first|omega|(simp only[AJ];omega))only[AI,↓AB,↓reduceIte,seval,f0],by simp(disch:=first|omega|(simp only[AJ];omega))only[AI,↓AB,↓reduceIte,seval,f3];rfl,fun p hp=>?_⟩
  by_cases e:p=i
  ·rw[e];exact⟨by omega,by omega,hin⟩
  ·exact hall p (by omega)
 have d4:((j:Int)<((K.getD i default).e.Af.length:Int))=True:=eq_true (by omega)
 by_cases hx:20<((K.getD i default).e.Af.getD j default).fst.length
 ·have d5:((20:Int)<(((K.getD i default).e.Af.getD j default).fst.length:Int))=True:=eq_true (by omega)
  repeat' (first
   |refine St.h ?_
   |simp(disch:=first|omega|(simp only[AJ];omega))only[AI,↓AB,↓reduceIte,seval,f0,f3,f4,d4,d5,a.ln,a.ix,a.l0,a.l1,m1.1.ln,m1.2.ln,m1.2.ix,m1.2.l2,Int.toNat_natCast]
   |(with_reducible (first|apply AD|apply AE))<;>(intro hc;(try simp only[Ab]at hc);(try simp only[hc]);(try simp only[Aa]at hc);try omega))
  subst hQ
  exact⟨_,rfl,fun hr=>(by cases hr),rfl⟩
 have d5:((20:Int)<(((K.getD i default).e.Af.getD j default).fst.length:Int))=False:=eq_false (by omega)
 by_cases hy:20<((K.getD i default).e.Af.getD j default).Da.length
 ·have d6:((20:Int)<(((K.getD i default).e.Af.getD j default).Da.length:Int))=True:=eq_true (by omega)
  repeat' (first
   |refine St.h ?_
   |simp(disch:=first|omega|(simp only[AJ];omega))only[AI,↓AB,↓reduceIte,seval,f0,f3,f4,d4,d5,d6,a.ln,a.ix,a.l0,a.l1,m1.1.ln,m1.2.ln,m1.2.ix,m1.2.l2,m1.2.l3,Int.toNat_natCast]
   |(with_reducible (first|apply AD|apply AE))<;>(intro hc;(try simp only[Ab]at hc);(try simp only[hc]);(try simp only[Aa]at hc);try omega))
  subst hQ
  exact⟨_,rfl,fun hr=>(by cases hr),rfl⟩
 have d6:((20:Int)<(((K.getD i default).e.Af.getD j default).Da.length:Int))=False:=eq_false (by omega)
 repeat' (first
  |refine St.h ?_
  |simp(disch:=first|omega|(simp only[AJ];omega))only[AI,↓AB,↓reduceIte,seval,f0,f3,f4,d4,d5,d6,a.ln,a.ix,a.l0,a.l1,m1.1.ln,m1.2.ln,m1.2.ix,m1.2.l2,m1.2.l3,Int.toNat_natCast]
  |(with_reducible (first|apply AD|apply AE))<;>(intro hc;(try simp only[Ab]at hc);(try simp only[hc]);(try simp only[Aa]at hc);try omega))
 refine Aw hI2 ((K.getD i default).e.Af.length-(j+1)) (by omega) ⟨j+1,rfl,by omega,rfl,by simp(disch:=first|omega|(simp only[AJ];omega))only[AI,↓AB,↓reduceIte,seval,f0],by simp(disch:=first|omega|(simp only[AJ];omega))only[AI,↓AB,↓reduceIte,seval,f3],by simp(disch:=first|omega|(simp only[AJ];omega))only[AI,↓AB,↓reduceIte,seval,f4];rfl,fun p hp=>?_⟩
 by_cases e:p=j
 ·rw[e];exact⟨by omega,by omega⟩
 ·exact hin p (by omega)
end Go.Proofs.Ytobfgempjekjpaa
namespace Go.Ev
open Go
def KI (p:List BN):Kc:=⟨p.map BN.id,[],0,0⟩
theorem Tr {S:Ix} {p:List BN} (w:Wf S) (hp:∀ t∈p,t∈S.L) (hl:p.length<=40):NO S (KI p)=(0,P7 S (KI p) (CG S.L (p.map BN.id))):=by
 have he:Ln (KI p)=true:=KC.2 ⟨by simpa[KI]using hl,by simp[KI],rfl,by simp[KI],by simp[KI],by simp[KI],by simp[KI]⟩
 have hh:SD S.L (KI p).gone=true:=by
  refine List.all_eq_true.2 fun x hx=>?_
  obtain⟨t,ht,rfl⟩:=List.mem_map.1 hx
  exact List.any_eq_true.2 ⟨t,hp t ht,by simp⟩
 have hpa:GC S (KI p)=false:=rfl
 have hc:Fz (CG S.L (KI p).gone) (KI p).Af=some (CG S.L (p.map BN.id)):=rfl
 have hle:(CG S.L (p.map BN.id)).length<=40:=Nat.le_trans (List.length_filter_le _ _) w.len
 unfold NO
 rw[if_neg (by rw[he];simp),if_neg (by rw[hh];simp),if_neg (by rw[hpa];simp),hc]
 show(if 40<(CG S.L (p.map BN.id)).length then (25,S)else (0,P7 S (KI p) (CG S.L (p.map BN.id))))=_
 rw[if_neg (by omega)]
theorem Sh {L:List BN} {t:BN} (h:t∈BJ L):t∈L:=by
 unfold BJ at h
 split at h
 ·cases h
 ·rcases List.mem_append.1 h with h|h
  ·exact(List.mem_filter.1 h).1
  ·exact(List.mem_filter.1 (List.mem_filter.1 h).1).1
theorem S4 {L p:List BN} {t:BN} (h:t∈CG L (p.map BN.id)):t∈L/\t∉p:=by
 obtain⟨h1,h2⟩:=List.mem_filter.1 h
 refine⟨h1,fun hp=>?_⟩
 have:KW (p.map BN.id) t.id=true:=List.any_eq_true.2 ⟨t.id,List.mem_map.2 ⟨t,hp,rfl⟩,by simp⟩
 rw[this]at h2;cases h2
theorem Mw {L:List BN} {t:BN} (w:∀ t∈L,FW t=true) (h2:¬(Bm 0 L).length<2) (h:t∈CG L ((BJ L).map BN.id)):t.A8=1/\Hb (TQ (Bm 0 L)) (QT (Bm 0 L)) t=false:=by
 obtain⟨h1,hn⟩:=S4 h
 have ht:=(Dd.1 (w t h1)).2.2.1
 unfold BJ at hn
 rw[if_neg h2]at hn
 have h0:t.A8≠0:=fun e=>hn (List.mem_append.2 (.inl (List.mem_filter.2 ⟨h1,by simpa using e⟩)))
 have e1:t.A8=1:=by omega
 refine⟨e1,?_⟩
 cases hm:Hb (TQ (Bm 0 L)) (QT (Bm 0 L)) t with
 |false=>rfl
 |true=>exact absurd (List.mem_append.2 (.inr (List.mem_filter.2 ⟨List.mem_filter.2 ⟨h1,by simpa using e1⟩,hm⟩))) hn
theorem NS {L:List BN} (w:∀ t∈L,FW t=true) (h2:¬(Bm 0 L).length<2):(CG L ((BJ L).map BN.id)).filter (fun t=>decide (t.A8=0))=[]:=by
 refine List.filter_eq_nil_iff.2 fun t ht=>?_
 have:=(Mw w h2 ht).1
 simp;omega
def Kq (a:List UInt8) (t:BN):List UInt8:=if t.A8=0 then (bif decide (a=[])||Op.bytesLess t.fst a then t.fst else a)else a
def Ml (a:List UInt8) (t:BN):List UInt8:=if t.A8=0 then da a t.Da else a
theorem Vi:∀ (M:List BN) (a:List UInt8),(∀ t∈M,t.A8=1)->M.foldl Kq a=a
 |[],_,_=>rfl
 |t::M,a,h=>by
  rw[List.foldl_cons,show Kq a t=a by unfold Kq;rw[if_neg (by have:=h t List.mem_cons_self;omega)]]
  exact Vi M a fun u hu=>h u (List.mem_cons_of_mem _ hu)
theorem Vt:∀ (M:List BN) (a:List UInt8),(∀ t∈M,t.A8=1)->M.foldl Ml a=a
 |[],_,_=>rfl
 |t::M,a,h=>by
  rw[List.foldl_cons,show Ml a t=a by unfold Ml;rw[if_neg (by have:=h t List.mem_cons_self;omega)]]
  exact Vt M a fun u hu=>h u (List.mem_cons_of_mem _ hu)
theorem Vj:∀ (Z:List BN) (a:List UInt8),a≠[]->(∀ t∈Z,t.A8=0/\t.fst≠[])->Z.foldl Kq a=Z.foldl (fun a t=>fP a t.fst) a
 |[],_,_,_=>rfl
 |t::Z,a,ha,h=>by
  obtain⟨h1,h2⟩:=h t List.mem_cons_self
  have e:Kq a t=fP a t.fst:=by
   unfold Kq fP
   rw[if_pos h1,Na,decide_eq_false ha,Bool.false_or]
   cases Op.bytesLess t.fst a<;>rfl
  rw[List.foldl_cons,List.foldl_cons,e]
  refine Vj Z _ ?_ fun u hu=>h u (List.mem_cons_of_mem _ hu)
  unfold fP
  cases Op.bytesLess a t.fst||decide (a=t.fst)
  ·exact h2
  ·exact ha
theorem Vp:∀ (Z:List BN) (a:List UInt8),(∀ t∈Z,t.A8=0)->Z.foldl Ml a=Z.foldl (fun a t=>da a t.Da) a
 |[],_,_=>rfl
 |t::Z,a,h=>by
  have e:Ml a t=da a t.Da:=by unfold Ml;rw[if_pos (h t List.mem_cons_self)]
  rw[List.foldl_cons,List.foldl_cons,e]
  exact Vp Z _ fun u hu=>h u (List.mem_cons_of_mem _ hu)
theorem WZ {l:List UInt8} (h:l≠[]):Op.bytesLess [] l=true:=by
 cases l with
 |nil=>exact absurd rfl h
 |cons a l=>rfl
theorem bounds {Z M:List BN} (h1:1<=Z.length) (hz:∀ t∈Z,t.A8=0/\FW t=true) (hm:∀ t∈M,t.A8=1):(Z++M).foldl Kq []=TQ Z/\(Z++M).foldl Ml []=QT Z:=by
 cases Z with
 |nil=>simp at h1
 |cons z Z=>
  have ne:∀ t∈z::Z,t.fst≠[]/\t.Da≠[]:=fun t ht=>by
   have:=Dd.1 (hz t ht).2
   exact⟨fun e=>by rw[e]at this;simp at this,fun e=>by rw[e]at this;simp at this⟩
  have z0:=hz z List.mem_cons_self
  have zn:=ne z List.mem_cons_self
  have e1:Kq [] z=z.fst:=by unfold Kq;rw[if_pos z0.1];rfl
  have e2:Ml [] z=z.Da:=by unfold Ml da;rw[if_pos z0.1,WZ zn.2];rfl
  have tk:((z::Z).drop 1).take ((z::Z).length-1)=Z:=by
   show Z.take (Z.length+1-1)=Z
   rw[Nat.add_sub_cancel,List.take_length]
  constructor
  ·rw[List.foldl_append,Vi _ _ hm,List.foldl_cons,e1,Vj Z _ zn.1 fun t ht=>⟨(hz t (List.mem_cons_of_mem _ ht)).1,(ne t (List.mem_cons_of_mem _ ht)).1⟩]
   unfold TQ fO;rw[tk];rfl
  ·rw[List.foldl_append,Vt _ _ hm,List.foldl_cons,e2,Vp Z _ fun t ht=>(hz t (List.mem_cons_of_mem _ ht)).1]
   unfold QT MB;rw[tk];rfl
theorem Ma {L:List BN} (w:∀ t∈L,FW t=true) (h2:¬(Bm 0 L).length<2):(BJ L).foldl Kq []=TQ (Bm 0 L)/\(BJ L).foldl Ml []=QT (Bm 0 L):=by
 unfold BJ
 rw[if_neg h2]
 refine bounds (by omega) (fun t ht=>?_) fun t ht=>?_
 ·obtain⟨h3,h4⟩:=List.mem_filter.1 ht
  exact⟨by simpa using h4,w t h3⟩
 ·have:=(List.mem_filter.1 (List.mem_filter.1 ht).1).2
  simpa using this
end Go.Ev
set_option maxRecDepth 100000
set_option maxHeartbeats 8000000
namespace Go.Proofs.Ytobfgempjekjpaa
open Go Go.Ev
/--a row of numbers of one's own -/
def Sd (x:Int):List V:=[.i .i64 x]
theorem RI (x:Int):(Sd x).length=1:=rfl
def Ri (h:H) (v:V) (xs:List Int):Prop:=Gr 3 1 Sd h v xs
theorem Ur (xs:List Int):xs.flatMap Sd=xs.map (V.i .i64):=by
 induction xs with
 |nil=>rfl
 |cons x xs ih=>rw[List.flatMap_cons,ih];rfl
theorem Ri.il {h:H} {v:V} {xs:List Int} (a:Ri h v xs):Il h v xs:=by
 rcases Gr.ss a with⟨rfl,rfl⟩|⟨id,g,off,fin,cap,rfl,h1,h2,h3⟩
 ·exact .inl ⟨rfl,rfl⟩
 ·rw[Ur]at h3
  exact .inr ⟨id,g,off,fin,cap,by rw[List.length_map],by rw[List.length_map];omega,h2,h3⟩
theorem allI (xs:List Int):Bx (xs.flatMap Sd)=true:=by
 induction xs with
 |nil=>rfl
 |cons x xs ih=>rw[List.flatMap_cons];show Bx (.i .i64 x::xs.flatMap Sd)=true;exact ih
theorem eJ {h:H} {u:V} {M:List Int} {x:Int} {id:B} {N:Nx} (rb:Ri h u M) (o:Ev.DM h id [.i .i64 x]) (hl:M.length<=10000) (hf:B.val h.floor<=B.val h.next)
 (k:∀ u' h',Ri h' u' (M++[x])->AU (Am u) h h'->(∀ i,Am u' i->Am u i\/B.val h.next<=B.val i)->N.go Try.prog u' h'):AP Try.prog 3 1 u (.l id 0 0 1 1 (some 1)) h N:=
 AP.gr (X:=[x]) rb RI (by omega) (fun k=>by
  have:=Li (size:=1) (ER:=1) (fin:=1) (cap:=some 1) o.row rfl (Nat.le_refl _) (by omega) (by show 1<=1;omega) k
  rw[this];rfl) (allI _) (by simp) (by simp;omega) hf k
end Go.Proofs.Ytobfgempjekjpaa
set_option maxRecDepth 100000
set_option maxHeartbeats 8000000
namespace Go.Proofs.Ytobfgempjekjpaa
open Go Go.Ev
theorem iG {P:Program} {h h0:H} {ps:List Pt} {t:F} {z:List V} {e:Option (Nat×Nat)} {off:Nat} {N:Nx} {v:V} {xs:List Int} (a:Il h0 v xs):FP P off 1 v ps t z e h N=if off+1<=z.length then FL P ps t (z.take off++(v::z.drop (off+1))) e h N else VR P off 1 v ps t z e h N:=by
 rcases a with⟨rfl,_⟩|⟨id,g,off',fin,cap,rfl,_⟩
 ·exact Vo
 ·exact gJ
theorem TE {α β:Type} [Inhabited β] (f:α->β->α) (a:α) {L:List β} {i:Nat} (h:i<L.length):(L.take (i+1)).foldl f a=f ((L.take i).foldl f a) (L.getD i default):=by
 have:L.take (i+1)=L.take i++[L.getD i default]:=by rw[List.take_succ];simp[List.getD,h]
 rw[this,List.foldl_append];rfl
theorem sU {L:List BN} {i:Nat} (h:i<L.length):(L.take (i+1)).map BN.id=(L.take i).map BN.id++[(L.getD i default).id]:=by rw[N9 h,List.map_append];rfl
theorem JR {h:H} {v:V} {K:List Ek} (a:KG h v K) (hl:K.length<=9223372036854775807) (hf:B.val h.floor<=B.val h.next):BO Try.prog 5 [v] h fun y h'=>y=.b true:=by
 refine BK c5 (by intro hb;cases hb) (by simp) (by simp) fun Q hQ=>?_
 simp only[Av,Nat.reduceAdd]
 repeat' (first
  |refine St.h ?_
  |simp(disch:=first|omega|(simp only[AJ];omega))only[AI,↓AB,↓reduceIte,seval]
  |(with_reducible (first|apply AD|apply AE))<;>(intro hc;(try simp only[Ab]at hc);(try simp only[hc]);(try simp only[Aa]at hc);try omega))
 refine CL.pure Un ?_
 repeat' (first
  |refine St.h ?_
  |simp(disch:=first|omega|(simp only[AJ];omega))only[AI,↓AB,↓reduceIte,seval]
  |(with_reducible (first|apply AD|apply AE))<;>(intro hc;(try simp only[Ab]at hc);(try simp only[hc]);(try simp only[Aa]at hc);try omega))
 refine CL.mk (Sk a hl) ?_
 rintro _ _ ⟨r,rfl,hr,rfl⟩
 cases r with
 |false=>
  repeat' (first
   |refine St.h ?_
   |simp(disch:=first|omega|(simp only[AJ];omega))only[AI,↓AB,↓reduceIte,seval]
   |(with_reducible (first|apply AD|apply AE))<;>(intro hc;(try simp only[Ab]at hc);(try simp only[hc]);(try simp only[Aa]at hc);try omega))
  subst hQ
  rfl
 |true=>
 have Fw:=hr rfl
 repeat' (first
  |refine St.h ?_
  |simp(disch:=first|omega|(simp only[AJ];omega))only[AI,↓AB,↓reduceIte,seval]
  |(with_reducible (first|apply AD|apply AE))<;>(intro hc;(try simp only[Ab]at hc);(try simp only[hc]);(try simp only[Aa]at hc);try omega))
 refine CL.mk (Tn hf) ?_
 rintro _ h1 ⟨rfl,a1,n1,s1⟩
 repeat' (first
  |refine St.h ?_
  |simp(disch:=first|omega|(simp only[AJ];omega))only[AI,↓AB,↓reduceIte,seval]
  |(with_reducible (first|apply AD|apply AE))<;>(intro hc;(try simp only[Ab]at hc);(try simp only[hc]);(try simp only[Aa]at hc);try omega))
 refine Ok.lp (fun m t g=>∃ (i:Nat) (u:V) (S:Ix),m=K.length-i/\i<=K.length/\get 0 t=v/\get 3 t=.p h.next 0 0 4/\get 4 t=.i .i64 (i:Int)/\KP g h.next u S/\Wf S/\AU AQ h g) K.length ?_ ?_
 ·simp(disch:=first|omega|(simp only[AJ];omega))only[AI,↓AB,↓reduceIte,seval]
  refine⟨0,.l0,ZZ,by omega,by omega,?_⟩
  refine⟨?_,?_,?_,a1,ym,s1⟩
  all_goals first|trivial|rfl
 rintro I hI m t g ⟨i,u,S,rfl,hi,f0,f3,f4,sp,wf,st⟩
 have ag:=a.grow st
 have hfg:=st.fl hf
 have hls:=wf.len
 by_cases hil:i<K.length
 ·have d1:((i:Int)<(K.length:Int))=True:=eq_true (by omega)
  have f1':=Fw.2 i hil
  repeat' (first
   |refine St.h ?_
   |simp(disch:=first|omega|(simp only[AJ];omega))only[AI,↓AB,↓reduceIte,seval,f0,f3,f4,d1,a.ln,ag.ix,ag.la,Int.toNat_natCast]
   |(with_reducible (first|apply AD|apply AE))<;>(intro hc;(try simp only[Ab]at hc);(try simp only[hc]);(try simp only[Aa]at hc);try omega))
  refine CL.mk (Vx sp wf (ag.at hil) (by have:=f1'.1;omega) (by have:=f1'.2.1;omega) (bJ f1') hfg fun q hq e=>by have:=KG.own a hil q hq;rw[e]at this;omega) ?_
  rintro _ g3 ⟨rfl,u3,sp3,ow3,s3⟩
  repeat' (first
   |refine St.h ?_
   |simp(disch:=first|omega|(simp only[AJ];omega))only[AI,↓AB,↓reduceIte,seval,f0,f3,f4]
   |(with_reducible (first|apply AD|apply AE))<;>(intro hc;(try simp only[Ab]at hc);(try simp only[hc]);(try simp only[Aa]at hc);try omega))
  exact Aw hI (K.length-(i+1)) (by omega) ⟨i+1,u3,_,rfl,by omega,by simp(disch:=first|omega|(simp only[AJ];omega))only[AI,↓AB,↓reduceIte,seval,f0],by simp(disch:=first|omega|(simp only[AJ];omega))only[AI,↓AB,↓reduceIte,seval,f3],by simp(disch:=first|omega|(simp only[AJ];omega))only[AI,↓AB,↓reduceIte,seval,f4];rfl,sp3,V6 wf,st.Cv s3 fun q e=>by rw[e];exact Nat.le_refl _⟩
 obtain rfl:i=K.length:=by omega
 have d1:((K.length:Int)<(K.length:Int))=False:=eq_false (by omega)
 have hpl:=Qt S.L
 repeat' (first
  |refine St.h ?_
  |simp(disch:=first|omega|(simp only[AJ];omega))only[AI,↓AB,↓reduceIte,seval,f0,f3,f4,d1,a.ln]
  |(with_reducible (first|apply AD|apply AE))<;>(intro hc;(try simp only[Ab]at hc);(try simp only[hc]);(try simp only[Aa]at hc);try omega))
 refine CL.mk (Lx sp (by omega) hfg) ?_
 rintro _ g1 ⟨p,rfl,tp,t1⟩
 have hf1:=t1.fl hfg
 have sp1:=sp.grow t1
 by_cases h2:(Bm 0 S.L).length<2
 ·have eb:JO S.L=false:=by unfold JO;rw[decide_eq_true h2];rfl
  have ep:(BJ S.L).length=0:=by unfold BJ;rw[if_pos h2];rfl
  have d2:(((Bm 0 S.L).length:Int)<2)=True:=eq_true (by omega)
  repeat' (first
   |refine St.h ?_
   |simp(disch:=first|omega|(simp only[AJ];omega))only[AI,↓AB,↓reduceIte,seval,f0,f3,f4,eb,tp.ln,ep]
   |(with_reducible (first|apply AD|apply AE))<;>(intro hc;(try simp only[Ab]at hc);(try simp only[hc]);(try simp only[Aa]at hc);try omega))
  refine CL.mk (MF sp1 (by omega) hf1) ?_
  rintro z g2 ⟨tz,t2⟩
  have tz:E9 g2 z (Bm 0 S.L):=tz
  repeat' (first
   |refine St.h ?_
   |simp(disch:=first|omega|(simp only[AJ];omega))only[AI,↓AB,↓reduceIte,seval,f0,f3,f4,eb,tz.ln,d2]
   |(with_reducible (first|apply AD|apply AE))<;>(intro hc;(try simp only[Ab]at hc);(try simp only[hc]);(try simp only[Aa]at hc);try omega))
  subst hQ
  rfl
 have eb:JO S.L=true:=by unfold JO;rw[decide_eq_false h2];rfl
 repeat' (first
  |refine St.h ?_
  |simp(disch:=first|omega|(simp only[AJ];omega))only[AI,↓AB,↓reduceIte,seval,f0,f3,f4,eb]
  |(with_reducible (first|apply AD|apply AE))<;>(intro hc;(try simp only[Ab]at hc);(try simp only[hc]);(try simp only[Aa]at hc);try omega))
 refine Ok.lp (fun m t g=>∃ (i:Nat) (w:V),m=(BJ S.L).length-i/\i<=(BJ S.L).length/\get 3 t=.p h.next 0 0 4/\get 5 t=p/\get 7 t=w/\get 8 t=sv (((BJ S.L).take i).foldl Kq [])/\get 9 t=sv (((BJ S.L).take i).foldl Ml [])/\get 10 t=.i .i64 (i:Int)/\Ri g w (((BJ S.L).take i).map BN.id)/\(∀ q,Am w q->B.val g1.next<=B.val q)/\AU AQ g1 g) (BJ S.L).length ?_ ?_
 ·simp(disch:=first|omega|(simp only[AJ];omega))only[AI,↓AB,↓reduceIte,seval,f3]
  refine⟨0,.l0,by omega,by omega,?_⟩
  refine⟨?_,?_,?_,?_,?_,?_,Gr.nil,?_,AU.refl _ _⟩
  rotate_right
  ·rintro i ⟨_,_,_,_,_,e⟩;cases e
  all_goals first|trivial|rfl
 clear f0 f3 f4 d1
 rintro I2 hI2 m t g2 ⟨i,w,rfl,hi,f3,f5,f7,f8,f9,f10,bu,own,st2⟩
 have hf2:=st2.fl hf1
 have Lg:=tp.grow st2
 by_cases hil:i<(BJ S.L).length
 ·have d1:((i:Int)<((BJ S.L).length:Int))=True:=eq_true (by omega)
  have e8:=TE Kq [] hil
  have e9:=TE Ml [] hil
  have e7:=sU hil
  have hlen:(((BJ S.L).take i).map BN.id).length<=10000:=by rw[List.length_map,List.length_take];omega
  repeat' (first
   |refine St.h ?_
   |simp(disch:=first|omega|(simp only[AJ];omega))only[AI,↓AB,↓reduceIte,seval,f3,f5,f7,f8,f9,f10,d1,Lg.ln,Lg.ix,Lg.l0,Int.toNat_natCast]
   |(with_reducible (first|apply AD|apply AE))<;>(intro hc;(try simp only[Ab]at hc);(try simp only[hc]);(try simp only[Aa]at hc);try omega))
  refine AL.own (by simp) hf2 fun g3 t3 _ o3=>?_
  have L3:=Lg.grow t3
  repeat' (first
   |refine St.h ?_
   |simp(disch:=first|omega|(simp only[AJ];omega))only[AI,↓AB,↓reduceIte,seval,f3,f5,f7,f8,f9,f10]
   |(with_reducible (first|apply AD|apply AE))<;>(intro hc;(try simp only[Ab]at hc);(try simp only[hc]);(try simp only[Aa]at hc);try omega))
  refine eJ (x:=((BJ S.L).getD i default).id) (bu.grow t3) o3 hlen (t3.fl hf2) fun w4 g4 b4 t4 own4=>?_
  have st4:AU AQ g1 g4:=(st2.trans t3).Cv t4 fun q hq=>own q hq
  have L4:=tp.grow st4
  have ow4:∀ q,Am w4 q->B.val g1.next<=B.val q:=fun q hq=>by
   rcases own4 q hq with h5|h5
   ·exact own q h5
   ·exact Nat.le_trans (st2.trans t3).next h5
  by_cases ht:((BJ S.L).getD i default).A8=0
  ·have d2:=eq_true ht
   have e9:(List.take (i+1) (BJ S.L)).foldl Ml []=da (((BJ S.L).take i).foldl Ml []) ((BJ S.L).getD i default).Da:=by rw[e9];unfold Ml;rw[if_pos ht]
   have e8:(List.take (i+1) (BJ S.L)).foldl Kq []=bif decide ((((BJ S.L).take i).foldl Kq [])=[])||Op.bytesLess ((BJ S.L).getD i default).fst (((BJ S.L).take i).foldl Kq [])then ((BJ S.L).getD i default).fst else (((BJ S.L).take i).foldl Kq []):=by rw[e8];show(if _ then _ else _)=_;rw[if_pos ht]
   cases c1:decide ((((BJ S.L).take i).foldl Kq [])=[])<;>cases c2:Op.bytesLess ((BJ S.L).getD i default).fst (((BJ S.L).take i).foldl Kq [])
   all_goals
    rw[c1,c2]at e8
    repeat' (first
     |refine St.h ?_
     |simp(disch:=first|omega|(simp only[AJ];omega))only[AI,↓AB,↓reduceIte,seval,f3,f5,f7,f8,f9,f10,d2,L4.ln,L4.ix,L4.l1,L4.l2,L4.l3,c1,c2,Int.toNat_natCast]
     |(with_reducible (first|apply AD|apply AE))<;>(intro hc;(try simp only[Ab]at hc);(try simp only[hc]);(try simp only[Aa]at hc);try omega))
    exact Aw hI2 ((BJ S.L).length-(i+1)) (by omega) ⟨i+1,w4,rfl,by omega,by simp(disch:=first|omega|(simp only[AJ];omega))only[AI,↓AB,↓reduceIte,seval,f3],by simp(disch:=first|omega|(simp only[AJ];omega))only[AI,↓AB,↓reduceIte,seval,f5],by simp(disch:=first|omega|(simp only[AJ];omega))only[AI,↓AB,↓reduceIte,seval],by simp(disch:=first|omega|(simp only[AJ];omega))only[AI,↓AB,↓reduceIte,seval,f8];rw[e8];rfl,by simp(disch:=first|omega|(simp only[AJ];omega))only[AI,↓AB,↓reduceIte,seval];rw[e9];rfl,by simp(disch:=first|omega|(simp only[AJ];omega))only[AI,↓AB,↓reduceIte,seval,f10];rfl,by rw[e7];exact b4,ow4,st4⟩
  ·have d2:=eq_false ht
   have e8:(List.take (i+1) (BJ S.L)).foldl Kq []=((BJ S.L).take i).foldl Kq []:=by rw[e8];show(if _ then _ else _)=_;rw[if_neg ht]
   have e9:(List.take (i+1) (BJ S.L)).foldl Ml []=((BJ S.L).take i).foldl Ml []:=by rw[e9];show(if _ then _ else _)=_;rw[if_neg ht]
   repeat' (first
    |refine St.h ?_
    |simp(disch:=first|omega|(simp only[AJ];omega))only[AI,↓AB,↓reduceIte,seval,f3,f5,f7,f8,f9,f10,d2,L4.ln,L4.ix,L4.l1,Int.toNat_natCast]
    |(with_reducible (first|apply AD|apply AE))<;>(intro hc;(try simp only[Ab]at hc);(try simp only[hc]);(try simp only[Aa]at hc);try omega))
   exact Aw hI2 ((BJ S.L).length-(i+1)) (by omega) ⟨i+1,w4,rfl,by omega,by simp(disch:=first|omega|(simp only[AJ];omega))only[AI,↓AB,↓reduceIte,seval,f3],by simp(disch:=first|omega|(simp only[AJ];omega))only[AI,↓AB,↓reduceIte,seval,f5],by simp(disch:=first|omega|(simp only[AJ];omega))only[AI,↓AB,↓reduceIte,seval],by simp(disch:=first|omega|(simp only[AJ];omega))only[AI,↓AB,↓reduceIte,seval,f8];rw[e8],by simp(disch:=first|omega|(simp only[AJ];omega))only[AI,↓AB,↓reduceIte,seval,f9];rw[e9],by simp(disch:=first|omega|(simp only[AJ];omega))only[AI,↓AB,↓reduceIte,seval,f10];rfl,by rw[e7];exact b4,ow4,st4⟩
 obtain rfl:i=(BJ S.L).length:=by omega
 obtain⟨b1,b2⟩:=Ma wf.tb h2
 rw[List.take_length,b1]at f8
 rw[List.take_length,b2]at f9
 rw[List.take_length]at bu
 have d1:(((BJ S.L).length:Int)<((BJ S.L).length:Int))=False:=eq_false (by omega)
 have sp2:=sp1.grow st2
 have st02:=(st.trans t1).trans st2
 have edm:SF g2 w .l0 (KI (BJ S.L)):=⟨bu.il,Ss.nil⟩
 have dg:=Tr (S:=S) (p:=BJ S.L) wf (fun t ht=>Sh ht) (by omega)
 repeat' (first
  |refine St.h ?_
  |simp(disch:=first|omega|(simp only[AJ];omega))only[AI,↓AB,↓reduceIte,seval,f3,f5,f7,f8,f9,f10,d1,Lg.ln,iG bu.il]
  |(with_reducible (first|apply AD|apply AE))<;>(intro hc;(try simp only[Ab]at hc);(try simp only[hc]);(try simp only[Aa]at hc);try omega))
 refine CL.mk (Vx (e:=KI (BJ S.L)) sp2 wf edm (by simp[KI];omega) (by simp[KI]) (by simp[KI]) hf2 ?_) ?_
 ·rintro q ⟨_,_,_,_,_,e⟩ e2;cases e
 have wf3:=V6 (e:=KI (BJ S.L)) wf
 rw[dg]at wf3⊢
 obtain⟨S3,hS3⟩:∃ S3,S3=P7 S (KI (BJ S.L)) (CG S.L ((BJ S.L).map BN.id)):=⟨_,rfl⟩
 have hL3:S3.L=CG S.L ((BJ S.L).map BN.id):=by rw[hS3];rfl
 rw[<-hS3]at wf3⊢
 rintro _ g3 ⟨rfl,u3,sp3,_,s3⟩
 have sp3:KP g3 h.next u3 S3:=sp3
 have wf3:Wf S3:=wf3
 have st3:AU AQ h g3:=st02.Cv s3 fun q e=>by rw[e];exact Nat.le_refl _
 have hf3:=st3.fl hf
 have hl3:=wf3.len
 repeat' (first
  |refine St.h ?_
  |simp(disch:=first|omega|(simp only[AJ];omega))only[AI,↓AB,↓reduceIte,seval,f3,f5,f7,f8,f9,f10]
  |(with_reducible (first|apply AD|apply AE))<;>(intro hc;(try simp only[Ab]at hc);(try simp only[hc]);(try simp only[Aa]at hc);try omega))
 refine CL.mk (MF sp3 (by omega) hf3) ?_
 rintro z g4 ⟨tz,t4⟩
 have hz0:(S3.L.filter fun t=>decide (t.A8=0)).length=0:=by rw[hL3,NS wf.tb h2];rfl
 repeat' (first
  |refine St.h ?_
  |simp(disch:=first|omega|(simp only[AJ];omega))only[AI,↓AB,↓reduceIte,seval,f3,f5,f7,f8,f9,f10,tz.ln,hz0]
  |(with_reducible (first|apply AD|apply AE))<;>(intro hc;(try simp only[Ab]at hc);(try simp only[hc]);(try simp only[Aa]at hc);try omega))
 refine CL.mk (M7 (sp3.grow t4) (by omega) (t4.fl hf3)) ?_
 rintro y g5 ⟨ty,_,t5⟩
 have T5:=ty.DY
 repeat' (first
  |refine St.h ?_
  |simp(disch:=first|omega|(simp only[AJ];omega))only[AI,↓AB,↓reduceIte,seval,f3,f5,f7,f8,f9,f10]
  |(with_reducible (first|apply AD|apply AE))<;>(intro hc;(try simp only[Ab]at hc);(try simp only[hc]);(try simp only[Aa]at hc);try omega))
 refine Ok.lp (fun m t g=>∃ i:Nat,m=S3.L.length-i/\i<=S3.L.length/\g5=g/\get 8 t=sv (TQ (Bm 0 S.L))/\get 9 t=sv (QT (Bm 0 S.L))/\get 11 t=y/\get 12 t=.i .i64 (i:Int)) S3.L.length ?_ ?_
 ·simp(disch:=first|omega|(simp only[AJ];omega))only[AI,↓AB,↓reduceIte,seval,f8,f9]
  refine⟨0,by omega,by omega,?_⟩
  refine⟨?_,?_,?_,?_,?_⟩
  all_goals first|trivial|rfl
 clear f3 f5 f7 f8 f9 f10 d1
 rintro I3 hI3 m t _ ⟨i,rfl,hi,rfl,f8,f9,f11,f12⟩
 by_cases hil:i<S3.L.length
 ·have d1:((i:Int)<(S3.L.length:Int))=True:=eq_true (by omega)
  have hm:=(Mw wf.tb h2 (by rw[<-hL3];exact Db hil)).2
  rw[VU]at hm
  cases c1:(Op.bytesLess (S3.L.getD i default).fst (QT (Bm 0 S.L))||decide ((S3.L.getD i default).fst=QT (Bm 0 S.L)))with
  |false=>
   repeat' (first
    |refine St.h ?_
    |simp(disch:=first|omega|(simp only[AJ];omega))only[AI,↓AB,↓reduceIte,seval,f8,f9,f11,f12,d1,T5.ln,T5.ix,T5.l2,T5.l3,c1,Int.toNat_natCast]
    |(with_reducible (first|apply AD|apply AE))<;>(intro hc;(try simp only[Ab]at hc);(try simp only[hc]);(try simp only[Aa]at hc);try omega))
   exact Aw hI3 (S3.L.length-(i+1)) (by omega) ⟨i+1,rfl,by omega,rfl,by simp(disch:=first|omega|(simp only[AJ];omega))only[AI,↓AB,↓reduceIte,seval,f8],by simp(disch:=first|omega|(simp only[AJ];omega))only[AI,↓AB,↓reduceIte,seval,f9],by simp(disch:=first|omega|(simp only[AJ];omega))only[AI,↓AB,↓reduceIte,seval,f11],by simp(disch:=first|omega|(simp only[AJ];omega))only[AI,↓AB,↓reduceIte,seval,f12];rfl⟩
  |true=>
   rw[c1,Bool.true_and]at hm
   repeat' (first
    |refine St.h ?_
    |simp(disch:=first|omega|(simp only[AJ];omega))only[AI,↓AB,↓reduceIte,seval,f8,f9,f11,f12,d1,T5.ln,T5.ix,T5.l2,T5.l3,c1,hm,Int.toNat_natCast]
    |(with_reducible (first|apply AD|apply AE))<;>(intro hc;(try simp only[Ab]at hc);(try simp only[hc]);(try simp only[Aa]at hc);try omega))
   exact Aw hI3 (S3.L.length-(i+1)) (by omega) ⟨i+1,rfl,by omega,rfl,by simp(disch:=first|omega|(simp only[AJ];omega))only[AI,↓AB,↓reduceIte,seval,f8],by simp(disch:=first|omega|(simp only[AJ];omega))only[AI,↓AB,↓reduceIte,seval,f9],by simp(disch:=first|omega|(simp only[AJ];omega))only[AI,↓AB,↓reduceIte,seval,f11],by simp(disch:=first|omega|(simp only[AJ];omega))only[AI,↓AB,↓reduceIte,seval,f12];rfl⟩
 obtain rfl:i=S3.L.length:=by omega
 have d1:((S3.L.length:Int)<(S3.L.length:Int))=False:=eq_false (by omega)
 repeat' (first
  |refine St.h ?_
  |simp(disch:=first|omega|(simp only[AJ];omega))only[AI,↓AB,↓reduceIte,seval,f8,f9,f11,f12,d1,T5.ln]
  |(with_reducible (first|apply AD|apply AE))<;>(intro hc;(try simp only[Ab]at hc);(try simp only[hc]);(try simp only[Aa]at hc);try omega))
 subst hQ
 rfl
end Go.Proofs.Ytobfgempjekjpaa
namespace Go.Proofs.Ytobfgempjekjpaa.chooseWhole
open Go Go.Ev Go.ChangeShapes Go.WideShapes Go.ChangeAt Go.RowKit Go.ChangeMaps
theorem own:ownKnob Try.prog.godebug=none:=by kernel_rfl
theorem laid:laidOutB Try.prog=true:=by kernel_rfl
theorem SU {W:World} (h:W.ShapedOpen Try.prog):0<W.heap.size:=by
 obtain⟨o,_,h1,_⟩:=h.2 Try.prog.globals.size (Nat.le_refl _) (of_decide_eq_true (by kernel_rfl))
 exact Nat.lt_of_le_of_lt (Nat.zero_le _) (Array.getElem?_eq_some_iff.1 h1).1
set_option maxRecDepth 100000 in
theorem uo:∃ fs,wV Try.prog 35 fs:=⟨_,⟨Try.underlying35,by kernel_rfl,⟨_,rfl,rfl,by kernel_rfl,_,Try.underlying28,by kernel_rfl,Try.underlying3⟩,⟨_,rfl,rfl,by kernel_rfl,_,_,Try.underlying33,⟨Try.underlying57,by kernel_rfl,⟨⟨_,rfl,rfl,by kernel_rfl,Try.underlying3⟩,⟨_,rfl,rfl,by kernel_rfl,Try.underlying3⟩,⟨_,rfl,rfl,by kernel_rfl,Try.underlying9⟩,⟨_,rfl,rfl,by kernel_rfl,Try.underlying9⟩,⟨_,rfl,rfl,by kernel_rfl,Try.underlying3⟩,trivial⟩⟩⟩,⟨_,rfl,rfl,by kernel_rfl,Try.underlying3⟩,⟨_,rfl,rfl,by kernel_rfl,Try.underlying3⟩⟩⟩
set_option maxRecDepth 100000 in
theorem run {H:Type} {enc:TypeId×Value->H} (W:World) (base:Nat) (args:Array Value) (ds:List (DataW H)) (p:List MemPlace) (hval:∀ (j:Nat) t v,Try.f5.params[j]? =some t->args[j]? =some v->Value.okWide Try.prog W .any base t v) (hopen:W.ShapedOpen Try.prog)
 (hA:DataW.TrodAll enc Try.prog W 0 (fun _=>true) true Try.f5.params.toList args.toList ds p):Calls Try.prog 5 args W fun e w'=>e=.returned (.bool true)/\Below W.heap.size W w':=by
 rw[Try.params5]at hA hval
 obtain⟨v0,vs0,d0,ds0,p0,q0,hargs,rfl,rfl,h0,r0⟩:=trodAll_cons hA
 obtain⟨rfl,rfl,rfl⟩:=trodAll_nil r0
 obtain rfl:args=#[v0]:=by cases args;simp_all
 obtain⟨h,s1,s2⟩:=Go.Ev.start W
 have s:Go.Ev.Start W h:=⟨s1,s2⟩
 obtain⟨x0,y0,z0,rfl⟩:=okWide_slice Try.underlying22 (hval 0 22 v0 rfl rfl)
 obtain⟨fu0,hfu0⟩:=h0
 obtain⟨fs0,F0⟩:=uo
 obtain⟨u0,L0,e0,m0,l0,k0⟩:=Yy s (SU hopen) Try.underlying22 F0 hfu0
 obtain rfl:=(List.cons.inj (show[Value.slice x0 y0 z0]=[u0]from e0)).1
 exact Nh s (vs:=[Cp W (.slice x0 y0 z0)]) ⟨Mr W _,trivial⟩ (JR m0 l0 s1.Kp)
set_option maxRecDepth 100000 in
theorem lifted (os:Os) (started:os.Started) (H:Type) (enc:TypeId×Value->H):
 ReturnsInHanded {} Try.checked os 5 .any (Rows.chooseWholeSpec.pre6 enc Try.prog Try.f5 Rows.chooseWholeRow.domain false) (Rows.chooseWholeSpec.post enc Try.prog Try.f5 false true false false):=
 Nz (C:=Try.checked) own started (by kernel_rfl) Try.func5
  (ChangeSpec.witness6 (enc:=enc) (C:=Try.checked) false ⟨#[],#[.slice none 0 0],[]⟩ 8 (by kernel_rfl) (by kernel_rfl) (by kernel_rfl) (by kernel_rfl))
  rfl (fun ds hd=>by rw[Try.params5]at hd;match ds,hd with|[d1],_=>rfl) laid (by kernel_rfl) (by kernel_rfl) Try.underlying4 (fun W base args ds p hv ho hA=>run W base args ds p hv ho hA)
theorem Tu:Rows.chooseWholeRow.holds Try.pinned (OpenSpec.ofChange Rows.chooseWholeSpec):=
 OpenClaim.holds_of_wide 5 Try.f5 rfl rfl rfl rfl rfl rfl rfl ⟨rfl,rfl,rfl,rfl,rfl⟩ rfl rfl rfl rfl rfl (by kernel_rfl) Try.func5 (by kernel_rfl)
  (of_decide_eq_true (by kernel_rfl)) (by unfold Func.isWrapper;first|(rw[if_pos (by decide+kernel)];kernel_rfl)|(rw[if_neg (by decide+kernel)];exact⟨rfl,rfl⟩))
  (fun os started H enc _=>lifted os started H enc)
/--THE STATEMENT -/
theorem proved:Rows.ChooseWholeSaid:=
 Tu
end Go.Proofs.Ytobfgempjekjpaa.chooseWhole
end
