/- The law ItemTells, part 5: what its proof uses, closely written. No condition. -/
import Derived.Test.YtmlcddeikgechaaMnItemTells4
noncomputable section
set_option linter.all false
namespace Go.Proofs.Ytmlcddeikgechaa
open Go Go.Ev
theorem X5 {P:Program} {h h0:H} {ps:List Pt} {t:F} {z:List V} {e:Option (Nat×Nat)} {off:Nat} {N:Nx} {v:V} {L:List Bs} (a:Ws h0 v L):FP P off 1 v ps t z e h N=if off+1<=z.length then FL P ps t (z.take off++(v::z.drop (off+1))) e h N else XK P off 1 v ps t z e h N:=by
 rcases a with⟨rfl,_⟩|⟨id,g,off',fin,cap,rfl,_⟩
 ·exact Xx
 ·exact lC
theorem GW {h:H} {v:V} {L:List Bs} (a:Ws h v L):cells v=[v]/\ES v=true:=by
 rcases a with⟨rfl,_⟩|⟨id,g',off',fin',cap',rfl,_⟩<;>exact⟨rfl,rfl⟩
theorem Ft {u:V} (h:ES u=true) (x y z:Int) (q:Bool):CB [.i .i64 x,.i .i64 y,.i .i64 z,.b q,u]=true:=by
 unfold CB;simp[h];rfl
def gM (u:V) (r:Em×Int×Int):V:=.tu [.a [.i .i64 r.1.lv,.i .i64 r.1.n,.i .i64 r.1.tn,.b r.1.sh,u],.i .i64 r.2.1,.i .i64 r.2.2]
theorem Ol {h:H} {s:List UInt8} (hs:s.length<=1000000) (hf:B.val h.floor<=B.val h.next):BZ Try.prog 12 [sv s] h fun y h'=>
 ∃ u,y=gM u (An s)/\Ws h' u (An s).1.ws/\(∀ q,BT u q->B.val h.next<=B.val q)/\AZ AM h h':=by
 refine BP ye (by intro hb;cases hb) (by simp) (by simp) fun Q hQ=>?_
 simp only[Ay,Nat.reduceAdd]
 repeat' (first
  |refine St.h ?_
  |simp(disch:=first|omega|(simp only[AJ];omega))only[AK,↓AB,↓reduceIte,seval]
  |(with_reducible (first|apply AD|apply AE))<;>(intro hc;(try simp only[AR]at hc);(try simp only[hc]);(try simp only[AQ]at hc);try omega))
 refine AL.own (by simp) hf fun h1 s1 n1 o1=>?_
 have hf1:=s1.fl hf
 repeat' (first
  |refine St.h ?_
  |simp(disch:=first|omega|(simp only[AJ];omega))only[AK,↓AB,↓reduceIte,seval]
  |(with_reducible (first|apply AD|apply AE))<;>(intro hc;(try simp only[AR]at hc);(try simp only[hc]);(try simp only[AQ]at hc);try omega))
 refine CL.stay (Sj hs hf1) fun h2 s2=>?_
 have hf2:=s2.fl hf1
 have s02:=s1.trans s2
 have o2:=o1.stay s2 fun e=>e
 have none_ok:∀ {g:H} (e:Int),AZ AM h g->An s=(C7,0,e)->∃ u,V.tu [.a [.i .i64 0,.i .i64 0,.i .i64 0,.b false,.l0],.i .i64 0,.i .i64 e]=gM u (An s)/\Ws g u (An s).1.ws/\(∀ q,BT u q->B.val h.next<=B.val q)/\AZ AM h g:=fun {g} e st e1=>by
  rw[e1]
  refine⟨.l0,rfl,Ss.nil,?_,st⟩
  rintro i ⟨_,_,_,_,_,e⟩;cases e
 rcases Fg s with e|e|⟨b,n,e,m1,m2,m3⟩
 ·have e0:An s=(C7,0,12):=by unfold An;rw[e];rfl
  repeat' (first
   |refine St.h ?_
   |simp(disch:=first|omega|(simp only[AJ];omega))only[AK,↓AB,↓reduceIte,seval,opn,e]
   |(with_reducible (first|apply AD|apply AE))<;>(intro hc;(try simp only[AR]at hc);(try simp only[hc]);(try simp only[AQ]at hc);try omega))
  refine ST.all o2 rfl rfl (by simp) (by simp) fun h3 o3 s3=>?_
  have st:AZ AM h h3:=s02.B3 s3 fun i e=>by rw[e];exact Nat.le_refl _
  repeat' (first
   |refine St.h ?_
   |simp(disch:=first|omega|(simp only[AJ];omega))only[AK,↓AB,↓reduceIte,seval,o3.Mz]
   |(with_reducible (first|apply AD|apply AE))<;>(intro hc;(try simp only[AR]at hc);(try simp only[hc]);(try simp only[AQ]at hc);try omega))
  subst hQ
  exact none_ok 12 st e0
 ·have e0:An s=(C7,0,13):=by unfold An;rw[e];rfl
  repeat' (first
   |refine St.h ?_
   |simp(disch:=first|omega|(simp only[AJ];omega))only[AK,↓AB,↓reduceIte,seval,opn,e]
   |(with_reducible (first|apply AD|apply AE))<;>(intro hc;(try simp only[AR]at hc);(try simp only[hc]);(try simp only[AQ]at hc);try omega))
  refine ST.all o2 rfl rfl (by simp) (by simp) fun h3 o3 s3=>?_
  have st:AZ AM h h3:=s02.B3 s3 fun i e=>by rw[e];exact Nat.le_refl _
  repeat' (first
   |refine St.h ?_
   |simp(disch:=first|omega|(simp only[AJ];omega))only[AK,↓AB,↓reduceIte,seval,o3.Mz]
   |(with_reducible (first|apply AD|apply AE))<;>(intro hc;(try simp only[AR]at hc);(try simp only[hc]);(try simp only[AQ]at hc);try omega))
  subst hQ
  exact none_ok 13 st e0
 have hRd:An s=match Ek b with|none=>(C7,0,10)|some x=>if F7 x=true/\FY x=s.take n then (x,(n:Int),0)else (C7,0,10):=by
  unfold An;rw[e];rfl
 repeat' (first
  |refine St.h ?_
  |simp(disch:=first|omega|(simp only[AJ];omega))only[AK,↓AB,↓reduceIte,seval,opn,e]
  |(with_reducible (first|apply AD|apply AE))<;>(intro hc;(try simp only[AR]at hc);(try simp only[hc]);(try simp only[AQ]at hc);try omega))
 refine AL.own (by simp) hf2 fun h3 s3 n3 q3=>?_
 have hf3:=s3.fl hf2
 have s03:=s02.trans s3
 have o3:=o2.stay s3 fun e=>e
 repeat' (first
  |refine St.h ?_
  |simp(disch:=first|omega|(simp only[AJ];omega))only[AK,↓AB,↓reduceIte,seval]
  |(with_reducible (first|apply AD|apply AE))<;>(intro hc;(try simp only[AR]at hc);(try simp only[hc]);(try simp only[AQ]at hc);try omega))
 refine Ok.lp (fun m t g=>∃ (i p:Nat) (xs:List V),m=3-i/\YP b p xs i/\p<=b.length/\AZ AM h g/\Ev.Own g h.next [.i .i64 0,.i .i64 0,.i .i64 0,.b false,.l0]/\Ev.Own g h2.next xs/\get 0 t=sv s/\get 2 t=.p h.next 0 0 5/\get 5 t=sv b/\get 6 t=.i .i64 (n:Int)/\get 8 t=.p h2.next 0 0 3/\get 9 t=.i .i64 (p:Int)/\get 10 t=.i .i64 (i:Int)) 3 ?_ ?_
 ·simp(disch:=first|omega|(simp only[AJ];omega))only[AK,↓AB,↓reduceIte,seval]
  refine⟨0,0,_,by omega,.inl ⟨rfl,rfl,SG b⟩,by omega,s03,o3,q3,?_⟩
  repeat' (first|trivial|rfl|refine And.intro ?_ ?_)
 rintro I hI m t g ⟨i,p,xs,rfl,hA,hp,st,og,qg,f0,f2,f5,f6,f8,f9,f10⟩
 have hfg:=st.fl hf
 obtain⟨hxl,hi3⟩:=hA.len
 by_cases hil:i<3
 ·have ep:((p:Int)).toNat=p:=by omega
  have hz0:((10:Int)=0)=False:=eq_false (by decide)
  have hz1:((12:Int)=0)=False:=eq_false (by decide)
  repeat' (first
   |refine St.h ?_
   |simp(disch:=first|omega|(simp only[AJ];omega))only[AK,↓AB,↓reduceIte,seval,f0,f2,f5,f6,f8,f9,f10,ep]
   |(with_reducible (first|apply AD|apply AE))<;>(intro hc;(try simp only[AR]at hc);(try simp only[hc]);(try simp only[AQ]at hc);try omega))
  refine CL.pure (Fh (by rw[List.length_drop];omega)) ?_
  have nx2:=s2.next
  have ho:∀ (g2:H),AZ (fun i=>i=h.next) g g2->AZ AM h g2:=fun g2 t=>st.B3 t fun i e=>by rw[e];exact Nat.le_refl _
  rcases Bi (b.drop p)with(e1|e1)|⟨q,k,e1,q1,k1,k2,k3⟩
  ·have e0:An s=(C7,0,10):=by rw[hRd,hA.no hil (by rw[e1];decide)]
   repeat' (first
    |refine St.h ?_
    |simp(disch:=first|omega|(simp only[AJ];omega))only[AK,↓AB,↓reduceIte,seval,f0,f2,f5,f6,f8,f9,f10,e1,Hf,hz0]
    |(with_reducible (first|apply AD|apply AE))<;>(intro hc;(try simp only[AR]at hc);(try simp only[hc]);(try simp only[AQ]at hc);try omega))
   refine ST.all og rfl rfl (by simp) (by simp) fun g2 o4 t2=>?_
   repeat' (first
    |refine St.h ?_
    |simp(disch:=first|omega|(simp only[AJ];omega))only[AK,↓AB,↓reduceIte,seval,f2,o4.Mz]
    |(with_reducible (first|apply AD|apply AE))<;>(intro hc;(try simp only[AR]at hc);(try simp only[hc]);(try simp only[AQ]at hc);try omega))
   subst hQ
   exact none_ok 10 (ho g2 t2) e0
  ·have e0:An s=(C7,0,10):=by rw[hRd,hA.no hil (by rw[e1];decide)]
   repeat' (first
    |refine St.h ?_
    |simp(disch:=first|omega|(simp only[AJ];omega))only[AK,↓AB,↓reduceIte,seval,f0,f2,f5,f6,f8,f9,f10,e1,Hf,hz1]
    |(with_reducible (first|apply AD|apply AE))<;>(intro hc;(try simp only[AR]at hc);(try simp only[hc]);(try simp only[AQ]at hc);try omega))
   refine ST.all og rfl rfl (by simp) (by simp) fun g2 o4 t2=>?_
   repeat' (first
    |refine St.h ?_
    |simp(disch:=first|omega|(simp only[AJ];omega))only[AK,↓AB,↓reduceIte,seval,f2,o4.Mz]
    |(with_reducible (first|apply AD|apply AE))<;>(intro hc;(try simp only[AR]at hc);(try simp only[hc]);(try simp only[AQ]at hc);try omega))
   subst hQ
   exact none_ok 10 (ho g2 t2) e0
  ·rw[List.length_drop]at k3
   have hA2:=hA.next hil e1
   have hz2:((0:Int)=0)=True:=eq_true rfl
   have ei:((i:Int)).toNat=i:=by omega
   repeat' (first
    |refine St.h ?_
    |simp(disch:=first|omega|(simp only[AJ];omega))only[AK,↓AB,↓reduceIte,seval,f0,f2,f5,f6,f8,f9,f10,e1,Hf,ei]
    |(with_reducible (first|apply AD|apply AE))<;>(intro hc;(try simp only[AR]at hc);(try simp only[hc]);(try simp only[AQ]at hc);try omega))
   refine ST.own (y:=.i .i64 (q:Int)) qg rfl rfl (by omega) (by omega) fun g2 q4 t2=>?_
   have st2:AZ AM h g2:=st.B3 t2 fun i e=>by have:=s02.next;rw[e];omega
   have o4:=og.stay t2 fun e=>by have:=congrArg B.val e;have:=s2.next;omega
   repeat' (first
    |refine St.h ?_
    |simp(disch:=first|omega|(simp only[AJ];omega))only[AK,↓AB,↓reduceIte,seval,f0,f2,f5,f6,f8,f9,f10]
    |(with_reducible (first|apply AD|apply AE))<;>(intro hc;(try simp only[AR]at hc);(try simp only[hc]);(try simp only[AQ]at hc);try omega))
   refine Bq hI (3-(i+1)) (by omega) ⟨i+1,p+k,_,rfl,hA2,by omega,st2,o4,q4,?_⟩
   repeat' (first|trivial|rfl|(simp(disch:=first|omega|(simp only[AJ];omega))only[AK,↓AB,↓reduceIte,seval,f0,f2,f5,f6,f8,f9,f10])|refine And.intro ?_ ?_)
 obtain rfl:i=3:=by omega
 obtain⟨x,y,z,rfl,e3⟩:∃ x y z,xs=[.i .i64 x,.i .i64 y,.i .i64 z]/\Ek b=Rx b p x y z:=by
  rcases hA with⟨e,_⟩|⟨_,e,_⟩|⟨_,_,e,_⟩|⟨x,y,z,_,e1,e2⟩
  ·omega
  ·omega
  ·omega
  ·exact⟨x,y,z,e1,e2⟩
 have ho:∀ (g2:H),AZ (fun i=>i=h.next) g g2->AZ AM h g2:=fun g2 t=>st.B3 t fun i e=>by rw[e];exact Nat.le_refl _
 repeat' (first
  |refine St.h ?_
  |simp(disch:=first|omega|(simp only[AJ];omega))only[AK,↓AB,↓reduceIte,seval,f0,f2,f5,f6,f8,f9,f10]
  |(with_reducible (first|apply AD|apply AE))<;>(intro hc;(try simp only[AR]at hc);(try simp only[hc]);(try simp only[AQ]at hc);try omega))
 ·have e4:Ek b=none:=by
   rw[e3];unfold Rx
   rw[List.drop_eq_nil_of_le (by omega)]
  have e0:An s=(C7,0,10):=by rw[hRd,e4]
  refine ST.all og rfl rfl (by simp) (by simp) fun g2 o4 t2=>?_
  repeat' (first
   |refine St.h ?_
   |simp(disch:=first|omega|(simp only[AJ];omega))only[AK,↓AB,↓reduceIte,seval,f2,o4.Mz]
   |(with_reducible (first|apply AD|apply AE))<;>(intro hc;(try simp only[AR]at hc);(try simp only[hc]);(try simp only[AQ]at hc);try omega))
  subst hQ
  exact none_ok 10 (ho g2 t2) e0
 have hpl:p<b.length:=by omega
 have ed:b.drop p=b.getD p 0::b.drop (p+1):=by
  rw[List.drop_eq_getElem_cons hpl];simp[List.getD,hpl]
 have e4:Ek b=(Br (b.drop (p+1))).map fun w=>⟨x,y,z,decide (b.getD p 0=1),w⟩:=by
  rw[e3];unfold Rx;rw[ed]
 have ep:((p:Int)+1).toNat=p+1:=by omega
 rw[ep]
 refine CL.mk (Nj (by rw[List.length_drop];omega) hfg) ?_
 have hwl:((Br (b.drop (p+1))).getD []).length<=10000:=by have:=RE (s:=b.drop (p+1));omega
 rintro _ g2 ⟨u,m9,rfl,hu,uown,s9⟩
 obtain⟨W,hW⟩:∃ W,(Br (b.drop (p+1))).getD []=W:=⟨_,rfl⟩
 obtain⟨S,hS⟩:∃ S,(Br (b.drop (p+1))).isSome=S:=⟨_,rfl⟩
 rw[hW]at hu hwl
 rw[hS]
 have o5:=og.stay s9 fun e=>e
 have q5:=qg.stay s9 fun e=>e
 have r5:=q5.row
 have hf5:=s9.fl hfg
 have st5:=st.trans s9
 repeat' (first
  |with_reducible refine HW ?_
  |refine St.h ?_
  |simp(disch:=first|omega|(simp only[AJ];omega))only[AK,↓AB,↓reduceIte,seval,f0,f2,f5,f6,f8,f9,f10]
  |(with_reducible (first|apply AD|apply AE))<;>(intro hc;(try simp only[AR]at hc);(try simp only[hc]);(try simp only[AQ]at hc);try omega))
 refine Ok.JU Pa [1,3,5] 13 (fun g=>Row g h2.next 0 0 [.i .i64 x,.i .i64 y,.i .i64 z]) (by decide) (by decide) r5 ?_
 refine Ao (by decide) ?_
 repeat' (first
  |refine St.h ?_
  |simp(disch:=first|omega|(simp only[AJ];omega))only[AK,↓AB,↓reduceIte,seval,f0,f2,f5,f6,f8,f9,f10]
  |(with_reducible (first|apply AD|apply AE))<;>(intro hc;(try simp only[AR]at hc);(try simp only[hc]);(try simp only[AQ]at hc);try omega))
 refine⟨fun _=>r5,?_⟩
 refine D1 (.i .i64 x) r5 (fun g hg=>by simp(disch:=first|omega|(simp only[AJ];omega))only[AK,↓AB,↓reduceIte,seval,f0,f2,f5,f6,f8,f9,f10,hg.l1]) ?_
 refine Ao (by decide) ?_
 repeat' (first
  |refine St.h ?_
  |simp(disch:=first|omega|(simp only[AJ];omega))only[AK,↓AB,↓reduceIte,seval,f0,f2,f5,f6,f8,f9,f10]
  |(with_reducible (first|apply AD|apply AE))<;>(intro hc;(try simp only[AR]at hc);(try simp only[hc]);(try simp only[AQ]at hc);try omega))
 refine⟨fun _=>r5,?_⟩
 refine D1 (.i .i64 y) r5 (fun g hg=>by simp(disch:=first|omega|(simp only[AJ];omega))only[AK,↓AB,↓reduceIte,seval,f0,f2,f5,f6,f8,f9,f10,hg.l1]) ?_
 refine Ao (by decide) ?_
 repeat' (first
  |refine St.h ?_
  |simp(disch:=first|omega|(simp only[AJ];omega))only[AK,↓AB,↓reduceIte,seval,f0,f2,f5,f6,f8,f9,f10]
  |(with_reducible (first|apply AD|apply AE))<;>(intro hc;(try simp only[AR]at hc);(try simp only[hc]);(try simp only[AQ]at hc);try omega))
 refine⟨fun _=>r5,?_⟩
 refine D1 (.i .i64 z) r5 (fun g hg=>by simp(disch:=first|omega|(simp only[AJ];omega))only[AK,↓AB,↓reduceIte,seval,f0,f2,f5,f6,f8,f9,f10,hg.l1]) ?_
 have ep2:((p:Int)).toNat=p:=by omega
 refine Ao (by decide) ?_
 repeat' (first
  |refine St.h ?_
  |simp(disch:=first|omega|(simp only[AJ];omega))only[AK,↓AB,↓reduceIte,seval,f0,f2,f5,f6,f8,f9,f10,ep2]
  |(with_reducible (first|apply AD|apply AE))<;>(intro hc;(try simp only[AR]at hc);(try simp only[hc]);(try simp only[AQ]at hc);try omega))
 refine⟨fun _=>r5,?_⟩
 refine Ao (by decide) ?_
 repeat' (first
  |refine St.h ?_
  |simp(disch:=first|omega|(simp only[AJ];omega))only[AK,↓AB,↓reduceIte,seval,f0,f2,f5,f6,f8,f9,f10,ep2]
  |(with_reducible (first|apply AD|apply AE))<;>(intro hc;(try simp only[AR]at hc);(try simp only[hc]);(try simp only[AQ]at hc);try omega))
 refine⟨fun _=>r5,?_⟩
 refine Ao (by decide) ?_
 repeat' (first
  |refine St.h ?_
  |simp(disch:=first|omega|(simp only[AJ];omega))only[AK,↓AB,↓reduceIte,seval,f0,f2,f5,f6,f8,f9,f10,ep2]
  |(with_reducible (first|apply AD|apply AE))<;>(intro hc;(try simp only[AR]at hc);(try simp only[hc]);(try simp only[AQ]at hc);try omega))
 refine⟨fun _=>r5,?_⟩
 refine Ao (by decide) ?_
 repeat' (first
  |refine St.h ?_
  |simp(disch:=first|omega|(simp only[AJ];omega))only[AK,↓AB,↓reduceIte,seval,f0,f2,f5,f6,f8,f9,f10,ep2]
  |(with_reducible (first|apply AD|apply AE))<;>(intro hc;(try simp only[AR]at hc);(try simp only[hc]);(try simp only[AQ]at hc);try omega))
 refine⟨fun _=>r5,?_⟩
 refine Ao (by decide) ?_
 repeat' (first
  |refine St.h ?_
  |simp(disch:=first|omega|(simp only[AJ];omega))only[AK,↓AB,↓reduceIte,seval,f0,f2,f5,f6,f8,f9,f10,ep2]
  |(with_reducible (first|apply AD|apply AE))<;>(intro hc;(try simp only[AR]at hc);(try simp only[hc]);(try simp only[AQ]at hc);try omega))
 refine⟨fun _=>r5,?_⟩
 refine Ao (by decide) ?_
 have u1:=GW hu
 repeat' (first
  |refine St.h ?_
  |simp(disch:=first|omega|(simp only[AJ];omega))only[AK,↓AB,↓reduceIte,seval,f0,f2,f5,f6,f8,f9,f10,ep2,X5 hu]
  |(with_reducible (first|apply AD|apply AE))<;>(intro hc;(try simp only[AR]at hc);(try simp only[hc]);(try simp only[AQ]at hc);try omega))
 refine⟨fun _=>r5,?_⟩
 refine Ao (by decide) ?_
 repeat' (first
  |refine St.h ?_
  |simp(disch:=first|omega|(simp only[AJ];omega))only[AK,↓AB,↓reduceIte,seval,f0,f2,f5,f6,f8,f9,f10,ep2]
  |(with_reducible (first|apply AD|apply AE))<;>(intro hc;(try simp only[AR]at hc);(try simp only[hc]);(try simp only[AQ]at hc);try omega))
 refine AL.own (by simp) hf5 fun g3 s10 n10 o10=>?_
 have r6:=(q5.stay s10 fun e=>e).row
 have o6:=o5.stay s10 fun e=>e
 have hu3:=hu.grow s10
 have hf6:=s10.fl hf5
 repeat' (first
  |refine St.h ?_
  |simp(disch:=first|omega|(simp only[AJ];omega))only[AK,↓AB,↓reduceIte,seval,f0,f2,f5,f6,f8,f9,f10,ep2]
  |(with_reducible (first|apply AD|apply AE))<;>(intro hc;(try simp only[AR]at hc);(try simp only[hc]);(try simp only[AQ]at hc);try omega))
 refine⟨fun _=>r6,?_⟩
 refine Xr (by decide) ?_
 repeat' (first
  |refine St.h ?_
  |simp(disch:=first|omega|(simp only[AJ];omega))only[AK,↓AB,↓reduceIte,seval,f0,f2,f5,f6,f8,f9,f10,ep2]
  |(with_reducible (first|apply AD|apply AE))<;>(intro hc;(try simp only[AR]at hc);(try simp only[hc]);(try simp only[AQ]at hc);try omega))
 refine ST.all o10 rfl (Ft u1.2 x y z _) (by simp) (by simp) fun g4 o11 s11=>?_
 have s5g:AZ AM g2 g4:=s10.B3 s11 fun i e=>by rw[e];exact Nat.le_refl _
 have st6:=st5.trans s5g
 have hu4:=hu.grow s5g
 have o12:=o6.stay s11 fun e=>by have:=C4 o5;have:=congrArg B.val e;omega
 have hf7:=s5g.fl hf5
 have r11:=o11.row
 repeat' (first
  |refine St.h ?_
  |simp(disch:=first|omega|(simp only[AJ];omega))only[AK,↓AB,↓reduceIte,seval,f0,f2,f5,f6,f8,f9,f10,ep2]
  |(with_reducible (first|apply AD|apply AE))<;>(intro hc;(try simp only[AR]at hc);(try simp only[hc]);(try simp only[AQ]at hc);try omega))
 refine⟨fun h=>absurd h (by decide),?_⟩
 refine Lg ?_
 have ebt:decide (((b.getD p 0).toNat:Int)=1)=decide (b.getD p 0=1):=decide_eq_decide.2 ⟨fun h=>UInt8.toNat_inj.1 (by show _=1;omega),fun h=>by rw[h];rfl⟩
 repeat' (first
  |refine St.h ?_
  |simp(disch:=first|omega|(simp only[AJ];omega))only[AK,↓AB,↓reduceIte,seval,f0,f2,f5,f6,f8,f9,f10,ep2,r11.l1,r11.ln]
  |(with_reducible (first|apply AD|apply AE))<;>(intro hc;(try simp only[AR]at hc);(try simp only[hc]);(try simp only[AQ]at hc);try omega))
 refine CL.stay (Ji hu4 hwl hf7) fun g5 s12=>?_
 have o13:=o12.stay s12 fun e=>e
 have r13:=(o11.stay s12 fun e=>e).row
 have st7:=st6.trans s12
 have hu5:=hu4.grow s12
 have ho2:∀ (g6:H),AZ (fun i=>i=h.next) g5 g6->AZ AM h g6:=fun g6 t=>st7.B3 t fun i e=>by rw[e];exact Nat.le_refl _
 cases S with
 |false=>
  have hR:Br (b.drop (p+1))=none:=by cases hr:Br (b.drop (p+1))with
   |none=>rfl
   |some w=>rw[hr]at hS;cases hS
  have e0:An s=(C7,0,10):=by rw[hRd,e4,hR];rfl
  repeat' (first
   |refine St.h ?_
   |simp(disch:=first|omega|(simp only[AJ];omega))only[AK,↓AB,↓reduceIte,seval,f0,f2,f5,f6,f8,f9,f10,ep2]
   |(with_reducible (first|apply AD|apply AE))<;>(intro hc;(try simp only[AR]at hc);(try simp only[hc]);(try simp only[AQ]at hc);try omega))
  refine ST.all o13 rfl rfl (by simp) (by simp) fun g6 o14 t2=>?_
  repeat' (first
   |refine St.h ?_
   |simp(disch:=first|omega|(simp only[AJ];omega))only[AK,↓AB,↓reduceIte,seval,f2,o14.Mz]
   |(with_reducible (first|apply AD|apply AE))<;>(intro hc;(try simp only[AR]at hc);(try simp only[hc]);(try simp only[AQ]at hc);try omega))
  subst hQ
  exact none_ok 10 (ho2 g6 t2) e0
 |true=>
 have hR:Br (b.drop (p+1))=some W:=by cases hr:Br (b.drop (p+1))with
  |none=>rw[hr]at hS;cases hS
  |some w=>rw[hr]at hW;rw[<-hW];rfl
 have e5:An s=if F7 ⟨x,y,z,decide (b.getD p 0=1),W⟩=true/\FY ⟨x,y,z,decide (b.getD p 0=1),W⟩=s.take n then (⟨x,y,z,decide (b.getD p 0=1),W⟩,(n:Int),0)else (C7,0,10):=by rw[hRd,e4,hR];rfl
 rw[ebt]
 have en:((n:Int)).toNat=n:=by omega
 cases hI1:F7 ⟨x,y,z,decide (b.getD p 0=1),W⟩with
 |false=>
  have e0:An s=(C7,0,10):=by rw[e5,hI1];rfl
  have eb:Ec ⟨x,y,z,decide (b.getD p 0=1),W⟩=([],false):=by unfold Ec;rw[hI1];rfl
  rw[eb]
  repeat' (first
   |refine St.h ?_
   |simp(disch:=first|omega|(simp only[AJ];omega))only[AK,↓AB,↓reduceIte,seval,f0,f2,f5,f6,f8,f9,f10,ep2]
   |(with_reducible (first|apply AD|apply AE))<;>(intro hc;(try simp only[AR]at hc);(try simp only[hc]);(try simp only[AQ]at hc);try omega))
  refine ST.all o13 rfl rfl (by simp) (by simp) fun g6 o14 t2=>?_
  repeat' (first
   |refine St.h ?_
   |simp(disch:=first|omega|(simp only[AJ];omega))only[AK,↓AB,↓reduceIte,seval,f2,o14.Mz]
   |(with_reducible (first|apply AD|apply AE))<;>(intro hc;(try simp only[AR]at hc);(try simp only[hc]);(try simp only[AQ]at hc);try omega))
  subst hQ
  exact none_ok 10 (ho2 g6 t2) e0
 |true=>
  have eb:Ec ⟨x,y,z,decide (b.getD p 0=1),W⟩=(FY ⟨x,y,z,decide (b.getD p 0=1),W⟩,true):=by unfold Ec;rw[hI1];rfl
  rw[eb]
  by_cases hc9:FY ⟨x,y,z,decide (b.getD p 0=1),W⟩=s.take n
  ·have e0:An s=(⟨x,y,z,decide (b.getD p 0=1),W⟩,(n:Int),0):=by rw[e5,if_pos ⟨hI1,hc9⟩]
   rw[ebt]at r13
   repeat' (first
    |refine St.h ?_
    |simp(disch:=first|omega|(simp only[AJ];omega))only[AK,↓AB,↓reduceIte,seval,f0,f2,f5,f6,f8,f9,f10,ep2,en,hc9,r13.l1,r13.ln]
    |(with_reducible (first|apply AD|apply AE))<;>(intro hc;(try simp only[AR]at hc);(try simp only[hc]);(try simp only[AQ]at hc);try omega))
   refine ST.all o13 rfl (Ft u1.2 x y z _) (by simp) (by simp) fun g6 o14 t2=>?_
   have hne:∀ q,BT u q->¬q=h.next:=fun q hq e=>by
    have h1:=uown q hq
    have h2:=C4 og
    rw[e]at h1
    omega
   have hu6:Ws g6 u W:=Ss.stay hu5 t2 hne
   repeat' (first
    |refine St.h ?_
    |simp(disch:=first|omega|(simp only[AJ];omega))only[AK,↓AB,↓reduceIte,seval,f0,f2,f5,f6,f8,f9,f10,o14.Mz]
    |(with_reducible (first|apply AD|apply AE))<;>(intro hc;(try simp only[AR]at hc);(try simp only[hc]);(try simp only[AQ]at hc);try omega))
   subst hQ
   exact⟨u,by rw[e0];rfl,by rw[e0];exact hu6,fun q hq=>Nat.le_trans st.next (uown q hq),ho2 g6 t2⟩
  ·have e0:An s=(C7,0,10):=by rw[e5,if_neg (fun e=>hc9 e.2)]
   repeat' (first
    |refine St.h ?_
    |simp(disch:=first|omega|(simp only[AJ];omega))only[AK,↓AB,↓reduceIte,seval,f0,f2,f5,f6,f8,f9,f10,ep2,en,hc9]
    |(with_reducible (first|apply AD|apply AE))<;>(intro hc;(try simp only[AR]at hc);(try simp only[hc]);(try simp only[AQ]at hc);try omega))
   refine ST.all o13 rfl rfl (by simp) (by simp) fun g6 o14 t2=>?_
   repeat' (first
    |refine St.h ?_
    |simp(disch:=first|omega|(simp only[AJ];omega))only[AK,↓AB,↓reduceIte,seval,f2,o14.Mz]
    |(with_reducible (first|apply AD|apply AE))<;>(intro hc;(try simp only[AR]at hc);(try simp only[hc]);(try simp only[AQ]at hc);try omega))
   subst hQ
   exact none_ok 10 (ho2 g6 t2) e0
end Go.Proofs.Ytmlcddeikgechaa
namespace Go.Ev
open Go
/--less of a block's cells -/
theorem Own.pre {h:H} {id:B} {xs ys:List V} (o:Own h id (xs++ys)):Own h id xs:=by
 obtain⟨Af,h1,h2,h3,h4,h5,h6,h7⟩:=o
 refine⟨Af,h1,h2,h3,h4,h5,h6,fun i y hy=>h7 i y ?_⟩
 have hi:=(List.getElem?_eq_some_iff.1 hy).1
 rw[List.getElem?_append_left hi];exact hy
theorem Own.none {h:H} {id:B} {xs:List V} (o:Own h id xs):Own h id []:=Own.pre (xs:=[]) (ys:=xs) o
/--cells stored behind those that are known -/
theorem Rr {h:H} {id:B} {xs vs:List V} {fin:Nat} (o:Own h id xs) (hj:xs.length+vs.length<=fin) (hfit:fin<2 ^ 37) (h1:CB vs=true):∃ h',(∀ k,store h id 0 xs.length fin vs k=k h')/\Own h' id (xs++vs)/\AZ (fun i=>i=id) h h':=by
 obtain⟨Af,a1,a2,a3,a4,a5,a6,a7⟩:=o
 obtain⟨next,floor,heap⟩:=h
 obtain⟨cur,min,sz,cells,bel,fr⟩:=Af
 simp only at a2 a3 a4 a7
 subst a2;subst a3;subst a4
 obtain⟨tr,t1,t2,t3⟩:=Bv vs xs.length cells (by omega)
 obtain⟨hp,s1,s2,s3⟩:=Bp id (⟨0,0,sz,tr,bel,0⟩:E0) heap
 have e1:B.Js floor id=true:=by cases floor<;>first|rfl|(show Nat.ble _ _=true;rw[Nat.ble_eq];exact a5)
 have e2:Nat.ble (Nat.add xs.length vs.length) fin=true:=by rw[Nat.ble_eq];exact hj
 have e4:Hl 0 xs.length=true:=rfl
 have e5:Nat.beq 0 0=true:=rfl
 have e6:Nat.ble 0 0=true:=rfl
 have a1':heap.get id=some ⟨0,0,sz,cells,bel,0⟩:=a1
 refine⟨⟨next,floor,hp⟩,fun k=>?_,⟨_,s2,rfl,rfl,rfl,a5,a6,fun i z hz=>?_⟩,⟨rfl,Nat.le_refl _,fun i _ hi=>s3 i hi⟩⟩
 ·simp only[store,B6,a1',Ad,BC,e5,e6,e1,e2,h1,e4,AF]
  rw[t1,s1]
 ·show tr.BU i=some z
  by_cases hi:i<xs.length
  ·rw[List.getElem?_append_left hi]at hz
   rw[t3 i (by omega)];exact a7 i z hz
  ·rw[List.getElem?_append_right (by omega)]at hz
   have:=t2 _ z hz
   rwa [show xs.length+(i-xs.length)=i by omega]at this
section
variable {P:Program} {h:H} {N:Nx} {id:B} {el size cnt len c:Nat} {x:V} {xs vs:List V}
/--in place:there is room -/
theorem AP.made (o:Own h id xs) (hlen:xs.length=len*size) (hx:∀ k:Nat->List V->Bool,DL size x h k=k cnt vs) (hn:vs.length=cnt*size) (h1:CB vs=true) (hc:len+cnt<=c) (hfit:c*size<2 ^ 37) (hcb:c<18446744073709551616)
 (k:∀ h',Own h' id (xs++vs)->AZ (fun i=>i=id) h h'->N.go P (.l id 0 0 (len+cnt) (c*size) (some c)) h'):AP P el size (.l id 0 0 len (c*size) (some c)) x h N:=by
 have hle:Nat.ble (Nat.add len cnt) c=true:=by rw[Nat.ble_eq];exact hc
 have hmul:=Nat.mul_le_mul_right size hc
 rw[Nat.add_mul]at hmul
 cases cnt with
 |zero=>
  have hv:vs=[]:=List.eq_nil_of_length_eq_zero (by rw[hn,Nat.zero_mul])
  subst hv
  refine Dc (v:=.l id 0 0 (len+0) (c*size) (some c)) (h':=h) (fun q=>?_) (k h (by rw[List.append_nil];exact o) ⟨rfl,Nat.le_refl _,fun _ _ _=>rfl⟩)
  rw[hx]
  show A5 (BY c) _ (fun _=>A5 (Nat.ble (Nat.add len 0) c) (fun _=>Gn id 0 0 len (c*size) c size 0 [] h q) _)=_
  rw[GC hcb,BL,hle];rfl
 |succ m=>
  obtain⟨h',a1,a2,a3⟩:=Rr o (vs:=vs) (fin:=c*size) (by omega) hfit h1
  refine Dc (v:=.l id 0 0 (len+(m+1)) (c*size) (some c)) (h':=h') (fun q=>?_) (k h' a2 a3)
  rw[hx]
  show A5 (BY c) _ (fun _=>A5 (Nat.ble (Nat.add len (m+1)) c) (fun _=>Gn id 0 0 len (c*size) c size (m+1) vs h q) _)=_
  rw[GC hcb,BL,hle]
  show store h id 0 (Nat.add 0 (Nat.mul len size)) (c*size) vs (fun h=>fN (Nat.add len (m+1)) fun l'=>q (.l id 0 0 l' (c*size) (some c)) h)=_
  rw[show Nat.add 0 (Nat.mul len size)=xs.length by rw[hlen];show 0+len*size=_;omega,a1,A8]
  rfl
/--append(S{},s...):a new block,or the empty one -/
theorem AP.e1 {g off fin:Nat} (hx:∀ k:Nat->List V->Bool,DL size x h k=k cnt vs) (hf:B.val h.floor<=B.val h.next) (hn:vs.length=cnt*size) (hl:cnt<=1048576) (hl2:vs.length<2 ^ 38)
 (k0:cnt=0->N.go P (.l id g off 0 fin (some 0)) h)
 (k:∀ h',1<=cnt->AZ AM h h'->B.val h'.next=B.val h.next+1->EY h' el size (.l h.next 0 0 cnt vs.length none) vs->Og h' (.l h.next 0 0 cnt vs.length none)->N.go P (.l h.next 0 0 cnt vs.length none) h'):AP P el size (.l id g off 0 fin (some 0)) x h N:=by
 cases cnt with
 |zero=>
  have hv:vs=[]:=List.eq_nil_of_length_eq_zero (by rw[hn,Nat.zero_mul])
  subst hv
  exact Dc (v:=.l id g off 0 fin (some 0)) (h':=h) (fun q=>by rw[hx];rfl) (k0 rfl)
 |succ m=>
 obtain⟨h',a1,a2,a3,Af,b1,b2,b3,b4,b5,b6,b7⟩:=Dk el vs h hl2
 have hble:Nat.ble (Nat.add 0 (m+1)) 1048576=true:=by rw[Nat.ble_eq];show 0+(m+1)<=_;omega
 have hno:Nat.ble (Nat.add 0 (m+1)) 0=false:=by
  cases hx:Nat.ble (Nat.add 0 (m+1)) 0 with
  |false=>rfl
  |true=>have:=Nat.le_of_ble_eq_true hx;have h2:0+(m+1)<=0:=this;omega
 refine Dc (v:=.l h.next 0 0 (m+1) vs.length none) (h':=h') (fun q=>?_) (k h' (by omega) a2 a3 (.inr ⟨h.next,0,m+1,Af,rfl,by omega,hn,by rw[a2.floor];exact hf,by omega,b1,⟨by omega,by omega⟩,b4,b5,b6,b7⟩) ?_)
 ·rw[hx]
  show A5 (BY 0) (fun _=>Cg (Wy (Nat.ble 1 0) (Nat.beq 0 (Nat.add 18446744073709551615 size))) el id g off 0 fin size (m+1) vs h q) (fun _=>A5 (Nat.ble (Nat.add 0 (m+1)) 0) (fun _=>Gn id g off 0 fin 0 size (m+1) vs h q) fun _=>EK el id g off 0 fin size (m+1) vs h q)=_
  rw[GC (by omega),BL,hno,BL]
  unfold EK
  rw[hble,AF]
  show alloc el (app [] vs) h (fun id h=>fN (Nat.add 0 (m+1)) fun l'=>fN (Nat.mul l' size) fun fin'=>q (.l id 0 0 l' fin' none) h)=_
  rw[EI,List.nil_append,a1,A8,A8]
  show q (.l h.next 0 0 (0+(m+1)) ((0+(m+1))*size) none) h'=_
  rw[Nat.zero_add,<-hn]
 ·intro id' g off n fin cap e
  cases e
  exact⟨Af,b1,b3⟩
end
end Go.Ev
set_option maxRecDepth 100000
set_option maxHeartbeats 8000000
namespace Go.Ev
open Go
def yY (h:H) (el n:Nat) (v:V) (m:Nat) (xs:List V):Prop:=∃ id g cap Af,v=.l id g 0 m (m*n) cap/\xs.length=m*n/\((1<=m/\cap=none)\/(m=0/\cap=some (18446744073709551615+n)))/\
 B.val h.floor<=B.val id/\B.val id<B.val h.next/\h.heap.get id=some Af/\Af.min<=g/\Af.cur=g/\m*n<=Af.size/\Af.el=el/\Af.fr=0/\∀ i y,xs[i]? =some y->Af.cells.BU i=some y
/--a row of one's own that is the newest of its block;or nothing -/
def Gr {α:Type} (el n:Nat) (c:α->List V) (h:H) (v:V) (L:List α):Prop:=
 (v=.l0/\L=[])\/(∃ id g off fin,v=.l id g off 0 fin (some 0)/\L=[]/\off<=fin/\B.val id<B.val h.next)\/yY h el n v L.length (L.flatMap c)
section
variable {P:Program} {α:Type} [Inhabited α] {n el:Nat} {c:α->List V} {h h':H} {N:Nx} {v x:V} {L X:List α} {j k cnt:Nat} {vs:List V}
theorem Gr.nil:Gr el n c h .l0 ([]:List α):=.inl ⟨rfl,rfl⟩
theorem Gr.buf (b:EY h el n v (L.flatMap c)) (tp:Og h v) (hc:∀ e,(c e).length=n) (hn:1<=n):Gr el n c h v L:=by
 rcases b with⟨rfl,e⟩|⟨id,g,m,Af,rfl,b1,b2,b3,b4,b5,b6,b7,b8,b9,PI⟩
 ·refine .inl ⟨rfl,?_⟩
  cases L with
  |nil=>rfl
  |cons a L=>have:=EB hc (a::L);rw[e]at this;have h3:(L.length+1)*n=0:=this.symm;rw[Nat.add_mul]at h3;omega
 ·obtain⟨blk',b5',hcur⟩:=tp id g 0 m _ none rfl
  have hbb:blk'=Af:=by rw[b5]at b5';exact(Option.some.inj b5').symm
  subst hbb
  have hm:m=L.length:=by
   rw[EB hc]at b2
   exact(Nat.eq_of_mul_eq_mul_right (by omega) b2).symm
  subst hm
  exact .inr (.inr ⟨id,g,none,blk',by rw[b2],b2,.inl ⟨b1,rfl⟩,b3,b4,b5,b6.1,hcur,by omega,b8,b9,PI⟩)
theorem Gr.ss (a:Gr el n c h v L):Ss n c h v L:=by
 rcases a with⟨rfl,rfl⟩|⟨id,g,off,fin,rfl,rfl,h1,h2⟩|⟨id,g,cap,Af,rfl,a1,a2,a3,a4,a5,a6,a7,a8,a9,a10,a11⟩
 ·exact .inl ⟨rfl,rfl⟩
 ·exact .inr ⟨id,g,off,fin,_,rfl,by simpa using h1,h2,fun e=>absurd rfl e,fun i y hy=>by simp at hy⟩
 ·refine .inr ⟨id,g,0,_,cap,rfl,by omega,a4,fun _=>⟨Af,a5,a6⟩,fun i y hy=>?_⟩
  unfold Ev.cell Gp
  rw[a5]
  show(if Af.min<=g then Af.cells.BU (0+i)else none)=_
  rw[if_pos a6,Nat.zero_add]
  exact a11 i y hy
theorem Gr.lt (a:Gr el n c h v L):∀ q,BT v q->B.val q<B.val h.next:=by
 rcases a with⟨rfl,rfl⟩|⟨id,g,off,fin,rfl,rfl,h1,h2⟩|⟨id,g,cap,Af,rfl,a1,a2,a3,a4,_⟩
 ·rintro q ⟨_,_,_,_,_,e⟩;cases e
 ·rintro q ⟨_,_,_,_,_,e⟩;cases e;exact h2
 ·rintro q ⟨_,_,_,_,_,e⟩;cases e;exact a4
theorem Gr.stay {p:B->Prop} (a:Gr el n c h v L) (s:AZ p h h') (hp:∀ q,BT v q->¬p q):Gr el n c h' v L:=by
 rcases a with⟨rfl,rfl⟩|⟨id,g,off,fin,rfl,rfl,h1,h2⟩|⟨id,g,cap,Af,rfl,a1,a2,a3,a4,a5,a6⟩
 ·exact .inl ⟨rfl,rfl⟩
 ·exact .inr (.inl ⟨id,g,off,fin,rfl,rfl,h1,Nat.lt_of_lt_of_le h2 s.next⟩)
 ·exact .inr (.inr ⟨id,g,cap,Af,rfl,a1,a2,by rw[s.floor];exact a3,Nat.lt_of_lt_of_le a4 s.next,(s.get id a4 (hp id ⟨_,_,_,_,_,rfl⟩)).trans a5,a6⟩)
theorem Gr.grow (a:Gr el n c h v L) (s:AZ AM h h'):Gr el n c h' v L:=a.stay s fun _ _ e=>e
/--a store into a block -/
theorem SF {id:B} {g off fin:Nat} {Af:E0} (h0:h.heap.get id=some Af) (h1:Af.cur=g) (h2:Af.min<=g) (h3:Af.fr=0) (h4:B.val h.floor<=B.val id) (hj:off+vs.length<=fin) (hfit:off+vs.length<2 ^ 37) (ho:CB vs=true):
 ∃ h' tr,(∀ k,store h id g off fin vs k=k h')/\h'.heap.get id=some ⟨g,g,Af.size,tr,Af.el,0⟩/\(∀ i y,vs[i]? =some y->tr.BU (off+i)=some y)/\(∀ i,i<off\/off+vs.length<=i->tr.BU i=Af.cells.BU i)/\AZ (fun q=>q=id) h h'/\h'.next=h.next:=by
 obtain⟨next,floor,heap⟩:=h
 obtain⟨cur,min,sz,cells,bel,fr⟩:=Af
 simp only at h1 h2 h3 h4
 subst h1;subst h3
 obtain⟨tr,t1,t2,t3⟩:=Bv vs off cells (by omega)
 obtain⟨hp,s1,s2,s3⟩:=Bp id (⟨cur,cur,sz,tr,bel,0⟩:E0) heap
 have e1:B.Js floor id=true:=by cases floor<;>first|rfl|(show Nat.ble _ _=true;rw[Nat.ble_eq];exact h4)
 have e2:Nat.ble (Nat.add off vs.length) fin=true:=by rw[Nat.ble_eq];exact hj
 have e4:Hl 0 off=true:=rfl
 have e5:Nat.beq cur cur=true:=Nat.beq_refl cur
 have e6:Nat.ble min cur=true:=by rw[Nat.ble_eq];exact h2
 have h0':heap.get id=some ⟨cur,min,sz,cells,bel,0⟩:=h0
 refine⟨⟨next,floor,hp⟩,tr,fun k=>?_,s2,t2,fun i hi=>t3 i hi,⟨rfl,Nat.le_refl _,fun q _ hq=>s3 q hq⟩,rfl⟩
 simp only[store,B6,h0',Ad,BC,e5,e6,e1,e2,ho,e4,AF]
 rw[t1,s1]
/--append -/
theorem AP.gr (a:Gr el n c h v L) (hc:∀ e,(c e).length=n) (hn:1<=n) (hx:∀ k:Nat->List V->Bool,DL n x h k=k X.length (X.flatMap c)) (h1:CB (X.flatMap c)=true) (hpos:1<=L.length+X.length) (hb:(L.length+X.length)*n<=1048576) (hf:B.val h.floor<=B.val h.next)
 (k:∀ v' h',Gr el n c h' v' (L++X)->AZ (BT v) h h'->(∀ i,BT v' i->BT v i\/B.val h.next<=B.val i)->N.go P v' h'):AP P el n v x h N:=by
 have hXl:(X.flatMap c).length=X.length*n:=EB hc X
 rw[Nat.add_mul]at hb
 have hXle:X.length<=X.length*n:=Nat.le_mul_of_pos_right _ hn
 have hLle:L.length<=L.length*n:=Nat.le_mul_of_pos_right _ hn
 rcases a with⟨rfl,rfl⟩|⟨id,g,off,fin,rfl,rfl,h2,h3⟩|⟨id,g,cap,Af,rfl,a1,a2,a3,a4,a5,a6,a7,a8,a9,a10,a11⟩
 ·refine AP.buf (vs:=X.flatMap c) (cnt:=X.length) (EY.nil h el n) hx hf hn hXl h1 (by rw[hXl,List.length_nil];omega) fun v' h' b s hv tp=>k v' h' (Gr.buf (by simpa using b) tp hc hn) s hv
 ·refine AP.e1 hx hf hXl (by omega) (by omega) (fun e=>by rw[List.length_nil]at hpos;omega) fun h' _ s nx b tp=>k _ h' (Gr.buf (by simpa using b) tp hc hn) (s.mono fun _ _ e=>e.elim) fun i hi=>?_
  obtain⟨_,_,_,_,_,e⟩:=hi;cases e;exact .inr (Nat.le_refl _)
 ·obtain⟨next,floor,heap⟩:=h
  obtain⟨cur,min,sz,cells,bel,fr⟩:=Af
  simp only at a6 a7 a8 a9 a10
  subst a7;subst a10;subst a9
  obtain⟨tr,t1,t2,t3⟩:=Bv (X.flatMap c) (L.length*n) cells (by omega)
  obtain⟨min',hmin⟩:∃ m',Sa (Nat.beq (L.length*n) sz) min (Nat.succ cur)=m':=⟨_,rfl⟩
  have hmin2:min'<=cur+1:=by
   rw[<-hmin]
   cases Nat.beq (L.length*n) sz with
   |true=>show min<=cur+1;omega
   |false=>exact Nat.le_refl _
  obtain⟨hp,s1,s2,s3⟩:=Bp id (⟨Nat.succ cur,min',Nat.add (L.length*n) (Nat.mul X.length n),tr,bel,0⟩:E0) heap
  have e1:Nat.ble min cur=true:=by rw[Nat.ble_eq];exact a6
  have e2:B.Js floor id=true:=by cases floor<;>first|rfl|(show Nat.ble _ _=true;rw[Nat.ble_eq];exact a3)
  have e3:Nat.add 0 (Nat.mul L.length n)=L.length*n:=by show 0+L.length*n=_;omega
  have e3':Nat.ble (L.length*n) sz=true:=by rw[Nat.ble_eq];exact a8
  have e4:Nat.beq (L.length*n) (L.length*n)=true:=Nat.beq_refl _
  have e6:Nat.ble (Nat.add L.length X.length) 1048576=true:=by rw[Nat.ble_eq];show L.length+X.length<=1048576;omega
  have e7:Hl 0 (L.length*n)=true:=rfl
  have e8:Nat.beq bel bel=true:=Nat.beq_refl _
  have e9:Ma n (Nat.add L.length X.length)=none:=KH (by show 1<=L.length+X.length;omega)
  have b5':heap.get id=some ⟨cur,min,sz,cells,bel,0⟩:=a5
  have go:∀ z,z=true->∀ k,Cg z bel id cur 0 L.length (L.length*n) n X.length (X.flatMap c) ⟨next,floor,heap⟩ k=k (.l id (Nat.succ cur) 0 (L.length+X.length) (L.length*n+X.length*n) none) ⟨next,floor,hp⟩:=fun z hz k=>by
   subst hz
   simp only[Cg,B6,b5',Ad,BC,A8,e3,e1,e2,e3',e4,e6,h1,e7,e8,e9,AF,hmin]
   rw[t1,s1];rfl
  have go2:∀ q,Cc bel n (.l id cur 0 L.length (L.length*n) cap) X.length (X.flatMap c) ⟨next,floor,heap⟩ q=q (.l id (Nat.succ cur) 0 (L.length+X.length) (L.length*n+X.length*n) none) ⟨next,floor,hp⟩:=fun q=>by
   rcases a2 with⟨a2,rfl⟩|⟨a2,rfl⟩
   ·exact go _ (by rw[Nat.ble_eq];exact a2) q
   ·show A5 (BY (18446744073709551615+n)) (fun _=>Cg (Wy (Nat.ble 1 L.length) (Nat.beq (18446744073709551615+n) (Nat.add 18446744073709551615 n))) bel id cur 0 L.length (L.length*n) n X.length (X.flatMap c) ⟨next,floor,heap⟩ q) _=_
    have hfl:BY (18446744073709551615+n)=true:=by show Nat.ble _ _=true;rw[Nat.ble_eq];omega
    rw[hfl,Df]
    refine go _ ?_ q
    rw[show Nat.beq (18446744073709551615+n) (Nat.add 18446744073709551615 n)=true from Nat.beq_refl _]
    cases Nat.ble 1 L.length<;>rfl
  refine Dc (v:=.l id (Nat.succ cur) 0 (L.length+X.length) (L.length*n+X.length*n) none) (h':=⟨next,floor,hp⟩) (fun q=>by rw[hx,go2]) (k _ _ (.inr (.inr ⟨id,cur+1,none,_,?_,?_,.inl ⟨by rw[List.length_append];omega,rfl⟩,a3,a4,s2,hmin2,rfl,?_,rfl,rfl,fun i y hy=>?_⟩)) ⟨rfl,Nat.le_refl _,fun q _ hq=>s3 q fun e=>hq (by rw[e];exact⟨_,_,_,_,_,rfl⟩)⟩ fun i hi=>?_)
  ·rw[List.length_append,Nat.add_mul]
  ·rw[List.flatMap_append,List.length_append,List.length_append,a1,hXl,Nat.add_mul]
  ·show(L++X).length*n<=L.length*n+X.length*n
   rw[List.length_append,Nat.add_mul];exact Nat.le_refl _
  ·show tr.BU i=some y
   rw[List.flatMap_append]at hy
   by_cases hi:i<L.length*n
   ·rw[t3 i (.inl hi)]
    refine a11 i y ?_
    rwa [List.getElem?_append_left (by rw[a1];exact hi)]at hy
   ·rw[List.getElem?_append_right (by rw[a1];omega),a1]at hy
    have:=t2 (i-L.length*n) y hy
    rwa [show L.length*n+(i-L.length*n)=i by omega]at this
  ·obtain⟨_,_,_,_,_,e⟩:=hi;cases e;exact .inl ⟨_,_,_,_,_,rfl⟩
/--v[:k] -/
theorem Gr.hi (a:Gr el n c h v L) (hc:∀ e,(c e).length=n) (hk:k<=L.length) (hL:1<=L.length):∃ u,Gr el n c h u (L.take k)/\(∀ q,BT u q->BT v q)/\∀ (g:H) (N:Nx),H2 P (GK n) v (.i .i64 (k:Int)) g N=N.go P u g:=by
 rcases a with⟨rfl,rfl⟩|⟨id,g,off,fin,rfl,rfl,_⟩|⟨id,g,cap,Af,rfl,a1,a2,a3,a4,a5,a6,a7,a8,a9,a10,a11⟩
 ·simp at hL
 ·simp at hL
 obtain⟨_,rfl⟩:1<=L.length/\cap=none:=by
  rcases a2 with h|h
  ·exact h
  ·omega
 have htk:(L.take k).length=k:=by rw[List.length_take];omega
 have hkn:k*n<=L.length*n:=Nat.mul_le_mul_right n hk
 refine⟨.l id g 0 k (k*n) (HH n k L.length),.inr (.inr ⟨id,g,HH n k L.length,Af,by rw[htk],by rw[EB hc],?_,a3,a4,a5,a6,a7,by rw[htk];omega,a9,a10,fun i y hy=>a11 i y ?_⟩),?_,fun g0 N=>Ai fun q=>?_⟩
 ·rw[htk]
  cases k with
  |zero=>
   right
   refine⟨rfl,?_⟩
   obtain⟨m,hm⟩:∃ m,L.length=m+1:=⟨L.length-1,by omega⟩
   rw[hm];rfl
  |succ k=>left;exact⟨by omega,rfl⟩
 ·rw[Mi hc,List.getElem?_take]at hy
  split at hy
  ·exact hy
  ·cases hy
 ·rintro q ⟨_,_,_,_,_,e⟩;cases e;exact⟨_,_,_,_,_,rfl⟩
 ·have e0:Nat.ble 0 k=true:=by rw[Nat.ble_eq];omega
  have e1:Nat.ble k L.length=true:=by rw[Nat.ble_eq];exact hk
  have e2:Nat.beq (L.length*n) (Nat.add 0 (Nat.mul L.length n))=true:=by
   rw[show Nat.add 0 (Nat.mul L.length n)=L.length*n by show 0+L.length*n=_;omega];exact Nat.beq_refl _
  unfold GK
  simp only[DQ,Ct,Bj,e0,AF]
  show Dx n id g 0 L.length (L.length*n) 0 k q=_
  unfold Dx
  rw[e1,AF,e2,AF,A8,A8,A8]
  show q (.l id g (0+0*n) (k-0) (0+k*n) (HH n k L.length))=_
  simp
end
end Go.Ev
set_option maxRecDepth 100000
set_option maxHeartbeats 8000000
namespace Go.Ev
open Go
theorem rz {α:Type} [Inhabited α] {n el:Nat} {c:α->List V} {h:H} {v:V} {L:List α} (a:Gr el n c h v L):LS n v:=by
 rcases a with⟨rfl,rfl⟩|⟨id,g,off,fin,rfl,rfl,h1,h2⟩|⟨id,g,cap,Af,rfl,a1,a2,_⟩
 ·exact .inl rfl
 ·exact .inr ⟨_,_,_,_,_,_,rfl,by show 0<=0/\_;exact⟨Nat.le_refl _,fun h=>absurd h (by decide)⟩⟩
 ·rcases a2 with⟨h1,rfl⟩|⟨h0,rfl⟩
  ·exact .inr ⟨_,_,_,_,_,_,rfl,by show _=_;omega⟩
  ·exact .inr ⟨_,_,_,_,_,_,rfl,by show _/\_;exact⟨by omega,fun _=>h0⟩⟩
theorem Nk:∀ L:List Bs,CB (L.flatMap Fu)=true
 |[]=>rfl
 |w::L=>by
  have h:=Nk L
  show CB (sv w.key::.b w.del::sv w.val::L.flatMap Fu)=true
  unfold CB at h⊢
  exact h
/--one cell stored into a row of one's own -/
theorem ST.wk {P:Program} {α:Type} [Inhabited α] {el n j:Nat} {c:α->List V} {h:H} {N:Nx} {v x y:V} {L:List α} (a:Gr el n c h v L) (hc:∀ e,(c e).length=n) (hn:1<=n) (hj:j<L.length*n) (hl:L.length*n<2 ^ 36) (hx:cells x=[y]) (h1:ES y=true)
 (k:∀ h',AZ (BT v) h h'->N.go P (.tu []) h'):ST P 1 (.p (I4 v) (lg v) (EH v+j) (EW v)) x h N:=by
 rcases a with⟨rfl,rfl⟩|⟨id,g,off,fin,rfl,rfl,_⟩|⟨id,g,cap,Af,rfl,a1,a2,a3,a4,a5,a6,a7,a8,a9,a10,a11⟩
 ·simp at hj
 ·simp at hj
 obtain⟨h',tr,b1,b2,b3,b4,b5,b6⟩:=SF (off:=j) (fin:=L.length*n) (vs:=[y]) a5 a7 a6 a10 a3 (by simp;omega) (by simp;omega) (by unfold CB;simp[h1])
 refine Dc (v:=.tu []) (h':=h') (fun k=>?_) (k h' (b5.mono fun q _ e=>by rw[e];exact⟨_,_,_,_,_,rfl⟩))
 show Ap (Nat.beq (cells x).length 1) (fun _=>Ev.store h _ _ _ _ (cells x) fun h=>k (.tu []) h)=_
 rw[hx,show Nat.beq [y].length 1=true from rfl,AF]
 show Ev.store h id g (0+j) (L.length*n) [y] (fun h=>k (.tu []) h)=_
 rw[Nat.zero_add,b1]
theorem AP.qv {P:Program} {el:Nat} {h:H} {N:Nx} {u:V} {X:List Bs} (a:Ws h u X) (hl:X.length<=10000) (hf:B.val h.floor<=B.val h.next)
 (k:∀ v' h',Gr el 3 Fu h' v' X->(∀ q,BT v' q->B.val h.next<=B.val q)->AZ AM h h'->N.go P v' h'):AP P el 3 .l0 u h N:=by
 cases X with
 |nil=>
  refine Dc (v:=.l0) (h':=h) (fun k=>?_) (k .l0 h Gr.nil (fun q hq=>by obtain⟨_,_,_,_,_,e⟩:=hq;cases e) (AZ.refl _ _))
  show(DL 3 u h fun n vs=>Cc el 3 .l0 n vs h k)=_
  rw[MQ a Cs (by omega)];rfl
 |cons x X=>
  refine AP.gr (X:=x::X) Gr.nil Cs (by omega) (MQ a Cs (by omega)) (Nk _) (by simp) (by simp only[List.length_nil,List.length_cons]at hl⊢;omega) hf fun v' h' r s ow=>?_
  refine k v' h' r (fun q hq=>?_) (s.mono fun q hq e=>by obtain⟨_,_,_,_,_,e⟩:=e;cases e)
  rcases ow q hq with e|e
  ·obtain⟨_,_,_,_,_,e⟩:=e;cases e
  ·exact e
/--append(nil,s...) -/
theorem AP.vE {P:Program} {el:Nat} {h:H} {N:Nx} {u:V} {X:List Bs} (a:Ws h u X) (hl:X.length<=10000) (hf:B.val h.floor<=B.val h.next)
 (k:∀ v' h',Ws h' v' X->LS 3 v'->(∀ q,BT v' q->B.val h.next<=B.val q)->AZ AM h h'->N.go P v' h'):AP P el 3 .l0 u h N:=
 AP.qv a hl hf fun v' h' r ow s=>k v' h' r.ss (rz r) ow s
end Go.Ev
namespace Go.Proofs.Ytmlcddeikgechaa
open Go Go.Ev
theorem Qs {h:H} {w:Bs} (hf:B.val h.floor<=B.val h.next):BZ Try.prog 32 [.a (Fu w)] h fun y h'=>y=.b (decide (12<w.key.length))/\AZ AM h h':=by
 obtain⟨k,d,v⟩:=w
 unfold Fu
 refine BP yc (by intro hb;cases hb) (by simp) (by simp) fun Q hQ=>?_
 simp only[Ay,Nat.reduceAdd]
 repeat' (first
  |refine St.h ?_
  |simp(disch:=first|omega|(simp only[AJ];omega))only[AK,↓AB,↓reduceIte,seval]
  |(with_reducible (first|apply AD|apply AE))<;>(intro hc;(try simp only[AR]at hc);(try simp only[hc]);(try simp only[AQ]at hc);try omega))
 refine AL.own (by simp) hf fun h1 s1 n1 o1=>?_
 repeat' (first
  |refine St.h ?_
  |simp(disch:=first|omega|(simp only[AJ];omega))only[AK,↓AB,↓reduceIte,seval,o1.row.l1]
  |(with_reducible (first|apply AD|apply AE))<;>(intro hc;(try simp only[AR]at hc);(try simp only[hc]);(try simp only[AQ]at hc);try omega))
 all_goals
  subst hQ
  exact⟨congrArg V.b (decide_eq_decide.2 (by show(12<(k.length:Int))↔12<k.length;omega)),s1⟩
theorem ND {h:H} {v:V} {L:List Bs} (hL:Ws h v L) (hl:L.length<=10000) (hf:B.val h.floor<=B.val h.next):BZ Try.prog 45 [v,.f 32 []] h fun y h'=>
 ∃ k:Int,y=.i .i64 k/\ -1<=k/\k<=L.length/\(0<=k↔EC L=false)/\AZ AM h h':=by
 refine BP xW (by intro hb;cases hb) (by simp) (by simp) fun Q hQ=>?_
 simp only[Ay,Nat.reduceAdd]
 repeat' (first
  |refine St.h ?_
  |simp(disch:=first|omega|(simp only[AJ];omega))only[AK,↓AB,↓reduceIte,seval,hL.ln]
  |(with_reducible (first|apply AD|apply AE))<;>(intro hc;(try simp only[AR]at hc);(try simp only[hc]);(try simp only[AQ]at hc);try omega))
 refine Ok.lp (fun m t g=>∃ i:Nat,m=L.length-i/\i<=L.length/\get 0 t=v/\get 1 t=.f 32 []/\get 7 t=.i .i64 (L.length:Int)/\get 8 t=.i .i64 (i:Int)/\(∀ q,q<i->(L.getD q default).key.length<=12)/\AZ AM h g) L.length ?_ ?_
 ·simp(disch:=first|omega|(simp only[AJ];omega))only[AK,↓AB,↓reduceIte,seval]
  refine⟨0,by omega,by omega,?_⟩
  refine⟨?_,?_,?_,?_,fun q hq=>by omega,AZ.refl _ _⟩
  all_goals first|trivial|rfl
 rintro I hI m t g ⟨i,rfl,hi,f0,f1,f7,f8,hno,st⟩
 have hfg:=st.fl hf
 have hLg:=hL.grow st
 by_cases hil:i<L.length
 case neg=>
  obtain rfl:i=L.length:=by omega
  repeat' (first
   |refine St.h ?_
   |simp(disch:=first|omega|(simp only[AJ];omega))only[AK,↓AB,↓reduceIte,seval,f0,f1,f7,f8]
   |(with_reducible (first|apply AD|apply AE))<;>(intro hc;(try simp only[AR]at hc);(try simp only[hc]);(try simp only[AQ]at hc);try omega))
  subst hQ
  exact⟨_,rfl,by omega,by omega,by rw[KE hno];simp,st⟩
 repeat' (first
  |refine St.h ?_
  |simp(disch:=first|omega|(simp only[AJ];omega))only[AK,↓AB,↓reduceIte,seval,f0,f1,f7,f8,hL.ix,hLg.la,Int.toNat_natCast]
  |(with_reducible (first|apply AD|apply AE))<;>(intro hc;(try simp only[AR]at hc);(try simp only[hc]);(try simp only[AQ]at hc);try omega))
 refine CL.stay (Qs (w:=L.getD i default) hfg) fun g1 t1=>?_
 by_cases hb:12<(L.getD i default).key.length
 ·have hd:decide (12<(L.getD i default).key.length)=true:=decide_eq_true hb
  rw[hd]
  repeat' (first
   |refine St.h ?_
   |simp(disch:=first|omega|(simp only[AJ];omega))only[AK,↓AB,↓reduceIte,seval,f0,f1,f7,f8]
   |(with_reducible (first|apply AD|apply AE))<;>(intro hc;(try simp only[AR]at hc);(try simp only[hc]);(try simp only[AQ]at hc);try omega))
  subst hQ
  exact⟨_,rfl,by omega,by omega,by rw[Lv hil hb];simp,st.trans t1⟩
 ·have hd:decide (12<(L.getD i default).key.length)=false:=decide_eq_false hb
  rw[hd]
  repeat' (first
   |refine St.h ?_
   |simp(disch:=first|omega|(simp only[AJ];omega))only[AK,↓AB,↓reduceIte,seval,f0,f1,f7,f8]
   |(with_reducible (first|apply AD|apply AE))<;>(intro hc;(try simp only[AR]at hc);(try simp only[hc]);(try simp only[AQ]at hc);try omega))
  refine Bq hI (L.length-(i+1)) (by omega) ⟨i+1,rfl,by omega,by simp(disch:=first|omega|(simp only[AJ];omega))only[AK,↓AB,↓reduceIte,seval,f0],by simp(disch:=first|omega|(simp only[AJ];omega))only[AK,↓AB,↓reduceIte,seval,f1],by simp(disch:=first|omega|(simp only[AJ];omega))only[AK,↓AB,↓reduceIte,seval,f7],by simp(disch:=first|omega|(simp only[AJ];omega))only[AK,↓AB,↓reduceIte,seval,f8];rfl,fun q hq=>?_,st.trans t1⟩
  by_cases e:q=i
  ·subst e;omega
  ·exact hno q (by omega)
theorem Pq {h:H} {v:V} {L:List Bs} (hL:Ws h v L) (hl:L.length<=10000) (hf:B.val h.floor<=B.val h.next):BZ Try.prog 31 [v,.f 32 []] h fun y h'=>y=.b (!EC L)/\AZ AM h h':=by
 refine BP wy (by intro hb;cases hb) (by simp) (by simp) fun Q hQ=>?_
 simp only[Ay,Nat.reduceAdd]
 repeat' (first
  |refine St.h ?_
  |simp(disch:=first|omega|(simp only[AJ];omega))only[AK,↓AB,↓reduceIte,seval]
  |(with_reducible (first|apply AD|apply AE))<;>(intro hc;(try simp only[AR]at hc);(try simp only[hc]);(try simp only[AQ]at hc);try omega))
 refine CL.mk (ND hL hl hf) ?_
 rintro _ h1 ⟨k,rfl,k1,k2,k3,s1⟩
 have hk:decide (0<=k)=!EC L:=by
  cases hh:EC L with
  |false=>exact decide_eq_true (k3.2 hh)
  |true=>exact decide_eq_false fun h=>by rw[k3.1 h]at hh;cases hh
 repeat' (first
  |refine St.h ?_
  |simp(disch:=first|omega|(simp only[AJ];omega))only[AK,↓AB,↓reduceIte,seval]
  |(with_reducible (first|apply AD|apply AE))<;>(intro hc;(try simp only[AR]at hc);(try simp only[hc]);(try simp only[AQ]at hc);try omega))
 subst hQ
 exact⟨by rw[hk],s1⟩
theorem RP {h:H} {v w:V} {L M:List Bs} (hL:Ws h v L) (hM:Ws h w M) (hl:L.length<=100000) (hm:M.length<=100000):BZ Try.prog 34 [v,w] h fun y h'=>y=.b (decide (L=M))/\h'=h:=by
 refine BP w7 (by intro hb;cases hb) (by simp) (by simp) fun Q hQ=>?_
 simp only[Ay,Nat.reduceAdd]
 by_cases hlen:L.length=M.length
 case neg=>
  have hd:((L.length:Int)=(M.length:Int))=False:=eq_false (by omega)
  repeat' (first
   |refine St.h ?_
   |simp(disch:=first|omega|(simp only[AJ];omega))only[AK,↓AB,↓reduceIte,seval,hL.ln,hM.ln,hd]
   |(with_reducible (first|apply AD|apply AE))<;>(intro hc;(try simp only[AR]at hc);(try simp only[hc]);(try simp only[AQ]at hc);try omega))
  subst hQ
  exact⟨by rw[decide_eq_false (fun e=>hlen (by rw[e]))],rfl⟩
 have hd:((L.length:Int)=(M.length:Int))=True:=eq_true (by omega)
 repeat' (first
  |refine St.h ?_
  |simp(disch:=first|omega|(simp only[AJ];omega))only[AK,↓AB,↓reduceIte,seval,hL.ln,hM.ln,hd]
  |(with_reducible (first|apply AD|apply AE))<;>(intro hc;(try simp only[AR]at hc);(try simp only[hc]);(try simp only[AQ]at hc);try omega))
 refine Ok.lp (fun m t g=>∃ j:Nat,m=L.length-j/\h=g/\(∀ i,i<j->L.getD i default=M.getD i default)/\j<=L.length/\get 0 t=v/\get 1 t=w/\get 12 t=.i .i64 (L.length:Int)/\get 13 t=.i .i64 (j:Int)) L.length ?_ ?_
 ·simp(disch:=first|omega|(simp only[AJ];omega))only[AK,↓AB,↓reduceIte,seval]
  refine⟨0,by omega,trivial,fun i hi=>by omega,by omega,?_⟩
  repeat' (first|trivial|rfl|refine And.intro ?_ ?_)
 rintro I hI m t g ⟨j,rfl,rfl,he,hj,f0,f1,f12,f13⟩
 by_cases hje:L.getD j default=M.getD j default
 ·have SY:(M.getD j default).key=(M.getD j default).key/\(M.getD j default).del=(M.getD j default).del/\(M.getD j default).val=(M.getD j default).val:=⟨rfl,rfl,rfl⟩
  repeat' (first
   |refine St.h ?_
   |simp(disch:=first|omega|(simp only[AJ];omega))only[AK,↓AB,↓reduceIte,seval,f0,f1,f12,f13,hL.ln,hL.ix,hM.ix,hL.la,hM.la,hje,Int.toNat_natCast]
   |(with_reducible (first|apply AD|apply AE))<;>(intro hc;(try simp only[AR]at hc);(try simp only[hc]);(try simp only[AQ]at hc);try omega))
  ·refine Bq hI (L.length-(j+1)) (by omega) ⟨j+1,rfl,rfl,fun i hi=>?_,by omega,?_,?_,?_,?_⟩
   ·by_cases e:i=j
    ·subst e;exact hje
    ·exact he i (by omega)
   ·simp(disch:=first|omega|(simp only[AJ];omega))only[AK,↓AB,↓reduceIte,seval,f0]
   ·simp(disch:=first|omega|(simp only[AJ];omega))only[AK,↓AB,↓reduceIte,seval,f1]
   ·simp(disch:=first|omega|(simp only[AJ];omega))only[AK,↓AB,↓reduceIte,seval,f12]
   ·simp(disch:=first|omega|(simp only[AJ];omega))only[AK,↓AB,↓reduceIte,seval,f13];rfl
  ·obtain rfl:j=L.length:=by omega
   subst hQ
   refine⟨?_,rfl⟩
   rw[decide_eq_true]
   refine List.ext_getElem hlen fun i h1 h2=>?_
   have:=he i h1
   simpa[List.getD,h1,h2]using this
 ·have SY:decide ((L.getD j default).key=(M.getD j default).key/\(L.getD j default).del=(M.getD j default).del/\(L.getD j default).val=(M.getD j default).val)=false:=decide_eq_false fun e=>hje (QK e)
  repeat' (first
   |refine St.h ?_
   |simp(disch:=first|omega|(simp only[AJ];omega))only[AK,↓AB,↓reduceIte,seval,f0,f1,f12,f13,hL.ln,hL.ix,hM.ix,hL.la,hM.la,SY,Int.toNat_natCast]
   |(with_reducible (first|apply AD|apply AE))<;>(intro hc;(try simp only[AR]at hc);(try simp only[hc]);(try simp only[AQ]at hc);try omega))
  ·subst hQ
   exact⟨by rw[decide_eq_false (fun e=>hje (by rw[e]))],rfl⟩
  ·obtain rfl:j=L.length:=by omega
   exact absurd (by simp[List.getD,<-hlen]) hje
theorem QX {h:H} {v:V} {lv n tn:Int} {sh:Bool} {ws:List Bs} (hL:Ws h v ws) (hl:ws.length<=10000) (hf:B.val h.floor<=B.val h.next):BZ Try.prog 15 [.a [.i .i64 lv,.i .i64 n,.i .i64 tn,.b sh,v]] h fun y h'=>y=.b (F7 ⟨lv,n,tn,sh,ws⟩)/\AZ AM h h':=by
 refine BP xN (by intro hb;cases hb) (by simp) (by simp) fun Q hQ=>?_
 simp only[Ay,Nat.reduceAdd]
 repeat' (first
  |refine St.h ?_
  |simp(disch:=first|omega|(simp only[AJ];omega))only[AK,↓AB,↓reduceIte,seval]
  |(with_reducible (first|apply AD|apply AE))<;>(intro hc;(try simp only[AR]at hc);(try simp only[hc]);(try simp only[AQ]at hc);try omega))
 refine AL.own (by simp) hf fun h1 s1 n1 o1=>?_
 have hf1:=s1.fl hf
 have hL1:=hL.grow s1
 have r1:=o1.row
 by_cases hN:0<=lv/\lv<6/\1<=n/\n<=1000000/\0<=tn/\tn<=1000000
 case neg=>
  have hno:=S6 (x:=⟨lv,n,tn,sh,ws⟩) hN
  repeat' (first
   |refine St.h ?_
   |simp(disch:=first|omega|(simp only[AJ];omega))only[AK,↓AB,↓reduceIte,seval,r1.l1,r1.ln]
   |(with_reducible (first|apply AD|apply AE))<;>(intro hc;(try simp only[AR]at hc);(try simp only[hc]);(try simp only[AQ]at hc);try omega))
  all_goals first|(exfalso;omega)|(subst hQ;exact⟨by rw[hno],s1⟩)
 obtain⟨c1,c2,c3,c4,c5,c6⟩:=hN
 have hnm:=Tv (x:=⟨lv,n,tn,sh,ws⟩) ⟨c1,c2,c3,c4,c5,c6⟩
 cases sh with
 |true=>
  repeat' (first
   |refine St.h ?_
   |simp(disch:=first|omega|(simp only[AJ];omega))only[AK,↓AB,↓reduceIte,seval,r1.l1,r1.ln,hL1.ln]
   |(with_reducible (first|apply AD|apply AE))<;>(intro hc;(try simp only[AR]at hc);(try simp only[hc]);(try simp only[AQ]at hc);try omega))
  subst hQ
  refine⟨?_,s1⟩
  rw[hnm,QG rfl]
  show V.b (decide ((ws.length:Int)=0))=V.b (EC ws&&decide (ws=[]))
  cases ws with
  |nil=>rfl
  |cons w r=>rw[decide_eq_false (by rw[List.length_cons];omega),decide_eq_false (by simp),Bool.and_false]
 |false=>
 by_cases hz:ws=[]
 ·subst hz
  have r0:F7 ⟨lv,n,tn,false,[]⟩=false:=by rw[hnm,MJ rfl];rfl
  repeat' (first
   |refine St.h ?_
   |simp(disch:=first|omega|(simp only[AJ];omega))only[AK,↓AB,↓reduceIte,seval,r1.l1,r1.ln,hL1.ln]
   |(with_reducible (first|apply AD|apply AE))<;>(intro hc;(try simp only[AR]at hc);(try simp only[hc]);(try simp only[AQ]at hc);try omega))
  ·exact absurd hc (by simp)
  ·subst hQ
   exact⟨by rw[r0],s1⟩
 have hpos:0<ws.length:=List.length_pos_iff.2 hz
 have r0:F7 ⟨lv,n,tn,false,ws⟩=(EC ws&&Ho ws):=by rw[hnm,MJ rfl];simp[hz]
 repeat' (first
  |refine St.h ?_
  |simp(disch:=first|omega|(simp only[AJ];omega))only[AK,↓AB,↓reduceIte,seval,r1.l1,r1.ln,hL1.ln]
  |(with_reducible (first|apply AD|apply AE))<;>(intro hc;(try simp only[AR]at hc);(try simp only[hc]);(try simp only[AQ]at hc);try omega))
 refine CL.stay (UO hL1 hl hf1) fun h2 s2=>?_
 have hf2:=s2.fl hf1
 have hL2:=hL1.grow s2
 have r2:=(o1.stay s2 fun e=>e).row
 cases hB:Ho ws with
 |false=>
  repeat' (first
   |refine St.h ?_
   |simp(disch:=first|omega|(simp only[AJ];omega))only[AK,↓AB,↓reduceIte,seval,r2.l1,r2.ln]
   |(with_reducible (first|apply AD|apply AE))<;>(intro hc;(try simp only[AR]at hc);(try simp only[hc]);(try simp only[AQ]at hc);try omega))
  subst hQ
  exact⟨by rw[r0,hB,Bool.and_false],s1.trans s2⟩
 |true=>
  repeat' (first
   |refine St.h ?_
   |simp(disch:=first|omega|(simp only[AJ];omega))only[AK,↓AB,↓reduceIte,seval,r2.l1,r2.ln]
   |(with_reducible (first|apply AD|apply AE))<;>(intro hc;(try simp only[AR]at hc);(try simp only[hc]);(try simp only[AQ]at hc);try omega))
  refine CL.stay (Pq hL2 hl hf2) fun h3 s3=>?_
  repeat' (first
   |refine St.h ?_
   |simp(disch:=first|omega|(simp only[AJ];omega))only[AK,↓AB,↓reduceIte,seval]
   |(with_reducible (first|apply AD|apply AE))<;>(intro hc;(try simp only[AR]at hc);(try simp only[hc]);(try simp only[AQ]at hc);try omega))
  subst hQ
  exact⟨by rw[r0,hB];simp,(s1.trans s2).trans s3⟩
theorem VY {h:H} {v:V} {lv n tn:Int} {sh:Bool} {ws:List Bs} (hL:Ws h v ws) (_:LS 3 v) (hl:ws.length<=10000) (hf:B.val h.floor<=B.val h.next):BZ Try.prog 15 [.a [.i .i64 lv,.i .i64 n,.i .i64 tn,.b sh,v]] h fun y h'=>y=.b (F7 ⟨lv,n,tn,sh,ws⟩)/\AZ AM h h':=QX hL hl hf
theorem OZ {h:H} {v w:V} {lv n tn lv2 m2 tn2:Int} {sh sh2:Bool} {L M:List Bs} (hL:Ws h v L) (hM:Ws h w M) (hl:L.length<=10000) (hm:M.length<=10000) (hf:B.val h.floor<=B.val h.next):
 BZ Try.prog 17 [.a [.i .i64 lv,.i .i64 n,.i .i64 tn,.b sh,v],.a [.i .i64 lv2,.i .i64 m2,.i .i64 tn2,.b sh2,w]] h fun y h'=>y=.b (decide ((⟨lv,n,tn,sh,L⟩:Em)=⟨lv2,m2,tn2,sh2,M⟩))/\AZ AM h h':=by
 refine BP xq (by intro hb;cases hb) (by simp) (by simp) fun Q hQ=>?_
 simp only[Ay,Nat.reduceAdd]
 repeat' (first
  |refine St.h ?_
  |simp(disch:=first|omega|(simp only[AJ];omega))only[AK,↓AB,↓reduceIte,seval]
  |(with_reducible (first|apply AD|apply AE))<;>(intro hc;(try simp only[AR]at hc);(try simp only[hc]);(try simp only[AQ]at hc);try omega))
 refine AL.own (by simp) hf fun h1 s1 n1 o1=>?_
 have hf1:=s1.fl hf
 repeat' (first
  |refine St.h ?_
  |simp(disch:=first|omega|(simp only[AJ];omega))only[AK,↓AB,↓reduceIte,seval]
  |(with_reducible (first|apply AD|apply AE))<;>(intro hc;(try simp only[AR]at hc);(try simp only[hc]);(try simp only[AQ]at hc);try omega))
 refine AL.own (by simp) hf1 fun h2 s2 n2 p2=>?_
 have o2:=o1.stay s2 fun e=>e
 have r1:=o2.row
 have r2:=p2.row
 have hL2:=(hL.grow s1).grow s2
 have hM2:=(hM.grow s1).grow s2
 have st:=s1.trans s2
 repeat' (first
  |refine St.h ?_
  |simp(disch:=first|omega|(simp only[AJ];omega))only[AK,↓AB,↓reduceIte,seval,r1.l1,r2.l1]
  |(with_reducible (first|apply AD|apply AE))<;>(intro hc;(try simp only[AR]at hc);(try simp only[hc]);(try simp only[AQ]at hc);try omega))
 ·refine CL.pure (RP hL2 hM2 (by omega) (by omega)) ?_
  have e1:lv=lv2:=by assumption
  have e2:n=m2:=by assumption
  have e3:tn=tn2:=by assumption
  have e4:sh=sh2:=by simpa using hc
  repeat' (first
   |refine St.h ?_
   |simp(disch:=first|omega|(simp only[AJ];omega))only[AK,↓AB,↓reduceIte,seval]
   |(with_reducible (first|apply AD|apply AE))<;>(intro hc;(try simp only[AR]at hc);(try simp only[hc]);(try simp only[AQ]at hc);try omega))
  subst hQ e1 e2 e3 e4
  exact⟨congrArg V.b (decide_eq_decide.2 ⟨fun e=>by rw[e],fun e=>by injection e⟩),st⟩
 all_goals
  subst hQ
  exact⟨by rw[decide_eq_false (fun e=>by cases e;first|exact hc rfl|simp at hc)],st⟩
theorem UF {h:H} {v:V} {lv n tn:Int} {sh:Bool} {ws:List Bs} (hL:Ws h v ws) (hw:LS 3 v) (hl:ws.length<=10000) (hf:B.val h.floor<=B.val h.next):BZ Try.prog 13 [.a [.i .i64 lv,.i .i64 n,.i .i64 tn,.b sh,v]] h fun y h'=>
 ∃ u,y=.a [.i .i64 lv,.i .i64 n,.i .i64 tn,.b sh,u]/\Gr 39 3 Fu h' u ws/\(∀ q,BT u q->B.val h.next<=B.val q)/\AZ AM h h':=by
 refine BP xu (by intro hb;cases hb) (by simp) (by simp) fun Q hQ=>?_
 simp only[Ay,Nat.reduceAdd]
 repeat' (first
  |refine St.h ?_
  |simp(disch:=first|omega|(simp only[AJ];omega))only[AK,↓AB,↓reduceIte,seval]
  |(with_reducible (first|apply AD|apply AE))<;>(intro hc;(try simp only[AR]at hc);(try simp only[hc]);(try simp only[AQ]at hc);try omega))
 refine AL.own (by simp) hf fun h1 s1 n1 o1=>?_
 have hf1:=s1.fl hf
 repeat' (first
  |refine St.h ?_
  |simp(disch:=first|omega|(simp only[AJ];omega))only[AK,↓AB,↓reduceIte,seval]
  |(with_reducible (first|apply AD|apply AE))<;>(intro hc;(try simp only[AR]at hc);(try simp only[hc]);(try simp only[AQ]at hc);try omega))
 refine AL.own (by simp) hf1 fun h2 s2 n2 o2=>?_
 have hf2:=s2.fl hf1
 have hL2:=(hL.grow s1).grow s2
 have p2:=o1.stay s2 fun e=>e
 repeat' (first
  |refine St.h ?_
  |simp(disch:=first|omega|(simp only[AJ];omega))only[AK,↓AB,↓reduceIte,seval,p2.row.l1,p2.row.ln]
  |(with_reducible (first|apply AD|apply AE))<;>(intro hc;(try simp only[AR]at hc);(try simp only[hc]);(try simp only[AQ]at hc);try omega))
 refine AP.qv hL2 hl hf2 fun u h3 gr ow s3=>?_
 have p3:=p2.stay s3 fun e=>e
 have o3:=o2.stay s3 fun e=>e
 have w1:=GW gr.ss
 repeat' (first
  |refine St.h ?_
  |simp(disch:=first|omega|(simp only[AJ];omega))only[AK,↓AB,↓reduceIte,seval]
  |(with_reducible (first|apply AD|apply AE))<;>(intro hc;(try simp only[AR]at hc);(try simp only[hc]);(try simp only[AQ]at hc);try omega))
 refine ST.own (y:=u) p3 w1.1 w1.2 (by omega) (by omega) fun h4 p4 s4=>?_
 have o4:=o3.stay s4 fun e=>by have:=congrArg B.val e;have:=s1.next;have:=C4 o1;omega
 repeat' (first
  |refine St.h ?_
  |simp(disch:=first|omega|(simp only[AJ];omega))only[AK,↓AB,↓reduceIte,seval,p4.row.l1,p4.row.ln]
  |(with_reducible (first|apply AD|apply AE))<;>(intro hc;(try simp only[AR]at hc);(try simp only[hc]);(try simp only[AQ]at hc);try omega))
 refine ST.all o4 rfl (Ft w1.2 _ _ _ _) (by simp) (by simp) fun h5 o5 s5=>?_
 have nx1:=s1.next
 have nx2:=s2.next
 have l1:=C4 o1
 have l2:=C4 o2
 have g4:Gr 39 3 Fu h4 u ws:=gr.stay s4 fun q hq e=>by have:=ow q hq;rw[e]at this;omega
 have g5:Gr 39 3 Fu h5 u ws:=g4.stay s5 fun q hq e=>by have:=ow q hq;rw[e]at this;omega
 have st3:=(s1.trans s2).trans s3
 have st4:AZ AM h h4:=st3.B3 s4 fun i e=>by rw[e];exact Nat.le_refl _
 have st5:AZ AM h h5:=st4.B3 s5 fun i e=>by rw[e];omega
 repeat' (first
  |refine St.h ?_
  |simp(disch:=first|omega|(simp only[AJ];omega))only[AK,↓AB,↓reduceIte,seval,o5.Mz]
  |(with_reducible (first|apply AD|apply AE))<;>(intro hc;(try simp only[AR]at hc);(try simp only[hc]);(try simp only[AQ]at hc);try omega))
 subst hQ
 exact⟨u,rfl,g5,fun q hq=>by have:=ow q hq;omega,st5⟩
end Go.Proofs.Ytmlcddeikgechaa
set_option maxRecDepth 100000
set_option maxHeartbeats 8000000
namespace Go.Proofs.Ytmlcddeikgechaa
open Go Go.Ev
theorem Q0 {h:H} {p r:List UInt8} (hs:p.length+r.length<=9223372036854775807):BZ Try.prog 56 [sv (p++r),sv p] h fun y h'=>y=.b true/\h'=h:=by
 have e1:((p.length:Int)<=((p++r).length:Int))=True:=eq_true (by rw[List.length_append];omega)
 have e2:(p++r).take p.length=p:=List.take_left
 have e3:(p++r).length<=9223372036854775807:=by rw[List.length_append];omega
 refine BP xS (by intro hb;cases hb) (by simp) (by simp) fun Q hQ=>?_
 simp only[Ay,Nat.reduceAdd]
 repeat' (first
  |refine St.h ?_
  |simp(disch:=first|omega|(simp only[AJ];omega))only[AK,↓AB,↓reduceIte,seval,Int.toNat_natCast,e1,e2]
  |(with_reducible (first|apply AD|apply AE))<;>(intro hc;(try simp only[AR]at hc);(try simp only[hc]);(try simp only[AQ]at hc);try omega))
 subst hQ
 exact⟨rfl,rfl⟩
theorem Sn {h:H} {p r:List UInt8} (hs:p.length+r.length<=9223372036854775807):BZ Try.prog 51 [sv (p++r),sv p] h fun y h'=>y=sv r/\h'=h:=by
 have e2:(p++r).drop p.length=r:=List.drop_left
 have e3:(p++r).length<=9223372036854775807:=by rw[List.length_append];omega
 have e4:p.length<=(p++r).length:=by rw[List.length_append];omega
 refine BP yW (by intro hb;cases hb) (by simp) (by simp) fun Q hQ=>?_
 simp only[Ay,Nat.reduceAdd]
 repeat' (first
  |refine St.h ?_
  |simp(disch:=first|omega|(simp only[AJ];omega))only[AK,↓AB,↓reduceIte,seval]
  |(with_reducible (first|apply AD|apply AE))<;>(intro hc;(try simp only[AR]at hc);(try simp only[hc]);(try simp only[AQ]at hc);try omega))
 refine CL.pure (Q0 hs) ?_
 repeat' (first
  |refine St.h ?_
  |simp(disch:=first|omega|(simp only[AJ];omega))only[AK,↓AB,↓reduceIte,seval,Int.toNat_natCast,e2]
  |(with_reducible (first|apply AD|apply AE))<;>(intro hc;(try simp only[AR]at hc);(try simp only[hc]);(try simp only[AQ]at hc);try omega))
 subst hQ
 exact⟨rfl,rfl⟩
theorem XW {h:H} {p r:List UInt8} (hs:p.length+r.length<=9223372036854775807):BZ Try.prog 37 [sv (p++r),sv p] h fun y h'=>y=sv r/\h'=h:=by
 refine BP yH (by intro hb;cases hb) (by simp) (by simp) fun Q hQ=>?_
 simp only[Ay,Nat.reduceAdd]
 repeat' (first
  |refine St.h ?_
  |simp(disch:=first|omega|(simp only[AJ];omega))only[AK,↓AB,↓reduceIte,seval]
  |(with_reducible (first|apply AD|apply AE))<;>(intro hc;(try simp only[AR]at hc);(try simp only[hc]);(try simp only[AQ]at hc);try omega))
 refine CL.pure (Sn hs) ?_
 repeat' (first
  |refine St.h ?_
  |simp(disch:=first|omega|(simp only[AJ];omega))only[AK,↓AB,↓reduceIte,seval]
  |(with_reducible (first|apply AD|apply AE))<;>(intro hc;(try simp only[AR]at hc);(try simp only[hc]);(try simp only[AQ]at hc);try omega))
 subst hQ
 exact⟨rfl,rfl⟩
theorem Qg {h:H} {v:V} {L:List Bs} (hL:Ws h v L) (hB:Ho L=true) (hf:B.val h.floor<=B.val h.next):BZ Try.prog 20 [v] h fun y h'=>y=sv (Bf L)/\AZ AM h h':=by
 have hl:=Gc hB
 have hr:=D4 hB
 have h1:=BO (n:=1) (by omega)
 have hln:(A7 1++Bf L).length<=1000:=by rw[List.length_append];omega
 have hln2:=BO (n:=(A7 1++Bf L).length) (by omega)
 have ho:Eg ((1:Nat):Int) L=true:=E5.2 ⟨hB,by omega,by omega⟩
 have eb:Du 1 L=(B7 (A7 1++Bf L),0):=by
  unfold Du;rw[show Eg 1 L=true from ho];rfl
 have eo:CV (B7 (A7 1++Bf L))=(A7 1++Bf L,((B7 (A7 1++Bf L)).length:Int),0):=by
  have:=C9 (l:=A7 1++Bf L) (more:=[]) (by omega)
  rwa [List.append_nil]at this
 have e1:((1:Int)).toNat=1:=rfl
 refine BP xc (by intro hb;cases hb) (by simp) (by simp) fun Q hQ=>?_
 simp only[Ay,Nat.reduceAdd]
 repeat' (first
  |refine St.h ?_
  |simp(disch:=first|omega|(simp only[AJ];omega))only[AK,↓AB,↓reduceIte,seval]
  |(with_reducible (first|apply AD|apply AE))<;>(intro hc;(try simp only[AR]at hc);(try simp only[hc]);(try simp only[AQ]at hc);try omega))
 refine CL.stay (L8 (seq:=1) hL (by omega) (by omega) (by omega) hf) fun h1 s1=>?_
 have hf1:=s1.fl hf
 repeat' (first
  |refine St.h ?_
  |simp(disch:=first|omega|(simp only[AJ];omega))only[AK,↓AB,↓reduceIte,seval,eb]
  |(with_reducible (first|apply AD|apply AE))<;>(intro hc;(try simp only[AR]at hc);(try simp only[hc]);(try simp only[AQ]at hc);try omega))
 refine CL.stay (Mk (by rw[Dm];omega) hf1) fun h2 s2=>?_
 have hf2:=s2.fl hf1
 repeat' (first
  |refine St.h ?_
  |simp(disch:=first|omega|(simp only[AJ];omega))only[AK,↓AB,↓reduceIte,seval,opn,eo]
  |(with_reducible (first|apply AD|apply AE))<;>(intro hc;(try simp only[AR]at hc);(try simp only[hc]);(try simp only[AQ]at hc);try omega))
 refine CL.stay (Ed (by omega) hf2) fun h3 s3=>?_
 rw[e1]
 repeat' (first
  |refine St.h ?_
  |simp(disch:=first|omega|(simp only[AJ];omega))only[AK,↓AB,↓reduceIte,seval]
  |(with_reducible (first|apply AD|apply AE))<;>(intro hc;(try simp only[AR]at hc);(try simp only[hc]);(try simp only[AQ]at hc);try omega))
 refine CL.pure (XW (by omega)) ?_
 repeat' (first
  |refine St.h ?_
  |simp(disch:=first|omega|(simp only[AJ];omega))only[AK,↓AB,↓reduceIte,seval]
  |(with_reducible (first|apply AD|apply AE))<;>(intro hc;(try simp only[AR]at hc);(try simp only[hc]);(try simp only[AQ]at hc);try omega))
 subst hQ
 exact⟨rfl,(s1.trans s2).trans s3⟩
theorem Ua {h:H} {b:List UInt8} (hb:b.length<=150000) (hf:B.val h.floor<=B.val h.next):BZ Try.prog 42 [sv b] h fun y h'=>Ws h' y (Xs b)/\(∀ q,BT y q->B.val h.next<=B.val q)/\AZ AM h h':=by
 have h1:=BO (n:=1) (by omega)
 have hln:(A7 1++b).length<=160000:=by rw[List.length_append];omega
 have hln2:=BO (n:=(A7 1++b).length) (by omega)
 have e1:((1:Int)).toNat=1:=rfl
 refine BP yO (by intro hb;cases hb) (by simp) (by simp) fun Q hQ=>?_
 simp only[Ay,Nat.reduceAdd]
 repeat' (first
  |refine St.h ?_
  |simp(disch:=first|omega|(simp only[AJ];omega))only[AK,↓AB,↓reduceIte,seval]
  |(with_reducible (first|apply AD|apply AE))<;>(intro hc;(try simp only[AR]at hc);(try simp only[hc]);(try simp only[AQ]at hc);try omega))
 refine CL.stay (Ed (by omega) hf) fun h1 s1=>?_
 have hf1:=s1.fl hf
 rw[e1]
 repeat' (first
  |refine St.h ?_
  |simp(disch:=first|omega|(simp only[AJ];omega))only[AK,↓AB,↓reduceIte,seval]
  |(with_reducible (first|apply AD|apply AE))<;>(intro hc;(try simp only[AR]at hc);(try simp only[hc]);(try simp only[AQ]at hc);try omega))
 refine CL.stay (J9 (by omega) hf1) fun h2 s2=>?_
 have hf2:=s2.fl hf1
 repeat' (first
  |refine St.h ?_
  |simp(disch:=first|omega|(simp only[AJ];omega))only[AK,↓AB,↓reduceIte,seval]
  |(with_reducible (first|apply AD|apply AE))<;>(intro hc;(try simp only[AR]at hc);(try simp only[hc]);(try simp only[AQ]at hc);try omega))
 refine CL.mk (PB (by rw[Dm];omega) hf2) ?_
 rintro _ h3 ⟨u,rfl,hu,uo,s3⟩
 repeat' (first
  |refine St.h ?_
  |simp(disch:=first|omega|(simp only[AJ];omega))only[AK,↓AB,↓reduceIte,seval,vv]
  |(with_reducible (first|apply AD|apply AE))<;>(intro hc;(try simp only[AR]at hc);(try simp only[hc]);(try simp only[AQ]at hc);try omega))
 subst hQ
 exact⟨hu,fun q hq=>Nat.le_trans (s1.trans s2).next (uo q hq),(s1.trans s2).trans s3⟩
theorem Kw {h:H} {v:V} {lv n tn:Int} {sh:Bool} {ws:List Bs} (hL:Ws h v ws) (hl:ws.length<=10000) (hf:B.val h.floor<=B.val h.next):BZ Try.prog 9 [.a [.i .i64 lv,.i .i64 n,.i .i64 tn,.b sh,v]] h fun y h'=>
 y=.tu [sv (Ec ⟨lv,n,tn,sh,ws⟩).1,.i .i64 (if F7 ⟨lv,n,tn,sh,ws⟩then 0 else 10)]/\AZ AM h h':=by
 refine BP c9 (by intro hb;cases hb) (by simp) (by simp) fun Q hQ=>?_
 simp only[Ay,Nat.reduceAdd]
 repeat' (first
  |refine St.h ?_
  |simp(disch:=first|omega|(simp only[AJ];omega))only[AK,↓AB,↓reduceIte,seval]
  |(with_reducible (first|apply AD|apply AE))<;>(intro hc;(try simp only[AR]at hc);(try simp only[hc]);(try simp only[AQ]at hc);try omega))
 refine AL.own (by simp) hf fun h1 s1 n1 o1=>?_
 have hf1:=s1.fl hf
 have hL1:=hL.grow s1
 have r1:=o1.row
 repeat' (first
  |refine St.h ?_
  |simp(disch:=first|omega|(simp only[AJ];omega))only[AK,↓AB,↓reduceIte,seval,r1.l1,r1.ln]
  |(with_reducible (first|apply AD|apply AE))<;>(intro hc;(try simp only[AR]at hc);(try simp only[hc]);(try simp only[AQ]at hc);try omega))
 refine CL.stay (QX hL1 hl hf1) fun h2 s2=>?_
 have o2:=o1.stay s2 fun e=>e
 have r2:=o2.row
 have hL2:=hL1.grow s2
 have hf2:=s2.fl hf1
 have s02:=s1.trans s2
 cases hi:F7 ⟨lv,n,tn,sh,ws⟩with
 |false=>
  repeat' (first
   |refine St.h ?_
   |simp(disch:=first|omega|(simp only[AJ];omega))only[AK,↓AB,↓reduceIte,seval]
   |(with_reducible (first|apply AD|apply AE))<;>(intro hc;(try simp only[AR]at hc);(try simp only[hc]);(try simp only[AQ]at hc);try omega))
  subst hQ
  unfold Ec
  rw[hi]
  exact⟨rfl,s02⟩
 |true=>
 obtain⟨g1,g2,g3,g4,g5,g6⟩:0<=lv/\lv<6/\1<=n/\n<=1000000/\0<=tn/\tn<=1000000:=HD hi
 have hB:Ho ws=true:=Hh hi
 have q1:=BO (n:=lv.toNat) (by omega)
 have q2:=BO (n:=n.toNat) (by omega)
 have q3:=BO (n:=tn.toNat) (by omega)
 have q4:=D4 hB
 have hbl:=HR hi
 cases sh with
 |false=>
  have hbd:DG ⟨lv,n,tn,false,ws⟩=A7 lv.toNat++A7 n.toNat++A7 tn.toNat++[0]++Bf ws:=by unfold DG EV;simp
  have hbx:=hbl
  rw[hbd]at hbx
  simp only[List.length_append,List.length_cons,List.length_nil]at hbx
  repeat' (first
   |refine St.h ?_
   |simp(disch:=first|omega|(simp only[AJ];omega))only[AK,↓AB,↓reduceIte,seval,r2.l1,r2.ln]
   |(with_reducible (first|apply AD|apply AE))<;>(intro hc;(try simp only[AR]at hc);(try simp only[hc]);(try simp only[AQ]at hc);try omega))
  refine CL.IV (Ed (by omega) (IT _)) fun h3 s3=>?_
  have o3:=o2.stay s3 fun h=>h
  have hf3:=s3.fl hf2
  repeat' (first
   |refine St.h ?_
   |simp(disch:=first|omega|(simp only[AJ];omega))only[AK,↓AB,↓reduceIte,seval,o3.row.l1]
   |(with_reducible (first|apply AD|apply AE))<;>(intro hc;(try simp only[AR]at hc);(try simp only[hc]);(try simp only[AQ]at hc);try omega))
  refine CL.IV (Ed (by omega) (IT _)) fun h4 s4=>?_
  have o4:=o3.stay s4 fun h=>h
  have hf4:=s4.fl hf3
  repeat' (first
   |refine St.h ?_
   |simp(disch:=first|omega|(simp only[AJ];omega))only[AK,↓AB,↓reduceIte,seval,o4.row.l1]
   |(with_reducible (first|apply AD|apply AE))<;>(intro hc;(try simp only[AR]at hc);(try simp only[hc]);(try simp only[AQ]at hc);try omega))
  refine CL.IV (Ed (by omega) (IT _)) fun h5 s5=>?_
  have o5:=o4.stay s5 fun h=>h
  have hf5:=s5.fl hf4
  repeat' (first
   |refine St.h ?_
   |simp(disch:=first|omega|(simp only[AJ];omega))only[AK,↓AB,↓reduceIte,seval,o5.row.l1]
   |(with_reducible (first|apply AD|apply AE))<;>(intro hc;(try simp only[AR]at hc);(try simp only[hc]);(try simp only[AQ]at hc);try omega))
  refine AL.Wr (bs:=[0]) rfl (by simp) rfl rfl (by simp) hf5 fun h6 u6 s6=>?_
  have o6:=o5.stay s6 fun h=>h
  have hf6:=s6.fl hf5
  have s26:=((s3.trans s4).trans s5).trans s6
  have hL6:=hL2.grow s26
  repeat' (first
   |refine St.h ?_
   |simp(disch:=first|omega|(simp only[AJ];omega))only[AK,↓AB,↓reduceIte,seval,o6.row.l1]
   |(with_reducible (first|apply AD|apply AE))<;>(intro hc;(try simp only[AR]at hc);(try simp only[hc]);(try simp only[AQ]at hc);try omega))
  refine CL.stay (Qg hL6 hB hf6) fun h7 s7=>?_
  have hf7:=s7.fl hf6
  repeat' (first
   |refine St.h ?_
   |simp(disch:=first|omega|(simp only[AJ];omega))only[AK,↓AB,↓reduceIte,seval]
   |(with_reducible (first|apply AD|apply AE))<;>(intro hc;(try simp only[AR]at hc);(try simp only[hc]);(try simp only[AQ]at hc);try omega))
  refine CL.stay (J9 (by simp only[List.length_append,List.length_cons,List.length_nil];omega) hf7) fun h8 s8=>?_
  repeat' (first
   |refine St.h ?_
   |simp(disch:=first|omega|(simp only[AJ];omega))only[AK,↓AB,↓reduceIte,seval]
   |(with_reducible (first|apply AD|apply AE))<;>(intro hc;(try simp only[AR]at hc);(try simp only[hc]);(try simp only[AQ]at hc);try omega))
  subst hQ
  refine⟨?_,s02.trans ((s26.trans s7).trans s8)⟩
  unfold Ec FY
  rw[hi,hbd]
  rfl
 |true=>
  have hbd:DG ⟨lv,n,tn,true,ws⟩=A7 lv.toNat++A7 n.toNat++A7 tn.toNat++[1]++Bf ws:=by unfold DG EV;simp
  have hbx:=hbl
  rw[hbd]at hbx
  simp only[List.length_append,List.length_cons,List.length_nil]at hbx
  repeat' (first
   |refine St.h ?_
   |simp(disch:=first|omega|(simp only[AJ];omega))only[AK,↓AB,↓reduceIte,seval,r2.l1,r2.ln]
   |(with_reducible (first|apply AD|apply AE))<;>(intro hc;(try simp only[AR]at hc);(try simp only[hc]);(try simp only[AQ]at hc);try omega))
  refine CL.IV (Ed (by omega) (IT _)) fun h3 s3=>?_
  have o3:=o2.stay s3 fun h=>h
  have hf3:=s3.fl hf2
  repeat' (first
   |refine St.h ?_
   |simp(disch:=first|omega|(simp only[AJ];omega))only[AK,↓AB,↓reduceIte,seval,o3.row.l1]
   |(with_reducible (first|apply AD|apply AE))<;>(intro hc;(try simp only[AR]at hc);(try simp only[hc]);(try simp only[AQ]at hc);try omega))
  refine CL.IV (Ed (by omega) (IT _)) fun h4 s4=>?_
  have o4:=o3.stay s4 fun h=>h
  have hf4:=s4.fl hf3
  repeat' (first
   |refine St.h ?_
   |simp(disch:=first|omega|(simp only[AJ];omega))only[AK,↓AB,↓reduceIte,seval,o4.row.l1]
   |(with_reducible (first|apply AD|apply AE))<;>(intro hc;(try simp only[AR]at hc);(try simp only[hc]);(try simp only[AQ]at hc);try omega))
  refine CL.IV (Ed (by omega) (IT _)) fun h5 s5=>?_
  have o5:=o4.stay s5 fun h=>h
  have hf5:=s5.fl hf4
  repeat' (first
   |refine St.h ?_
   |simp(disch:=first|omega|(simp only[AJ];omega))only[AK,↓AB,↓reduceIte,seval,o5.row.l1]
   |(with_reducible (first|apply AD|apply AE))<;>(intro hc;(try simp only[AR]at hc);(try simp only[hc]);(try simp only[AQ]at hc);try omega))
  refine AL.Wr (bs:=[1]) rfl (by simp) rfl rfl (by simp) hf5 fun h6 u6 s6=>?_
  have o6:=o5.stay s6 fun h=>h
  have hf6:=s6.fl hf5
  have s26:=((s3.trans s4).trans s5).trans s6
  have hL6:=hL2.grow s26
  repeat' (first
   |refine St.h ?_
   |simp(disch:=first|omega|(simp only[AJ];omega))only[AK,↓AB,↓reduceIte,seval,o6.row.l1]
   |(with_reducible (first|apply AD|apply AE))<;>(intro hc;(try simp only[AR]at hc);(try simp only[hc]);(try simp only[AQ]at hc);try omega))
  refine CL.stay (Qg hL6 hB hf6) fun h7 s7=>?_
  have hf7:=s7.fl hf6
  repeat' (first
   |refine St.h ?_
   |simp(disch:=first|omega|(simp only[AJ];omega))only[AK,↓AB,↓reduceIte,seval]
   |(with_reducible (first|apply AD|apply AE))<;>(intro hc;(try simp only[AR]at hc);(try simp only[hc]);(try simp only[AQ]at hc);try omega))
  refine CL.stay (J9 (by simp only[List.length_append,List.length_cons,List.length_nil];omega) hf7) fun h8 s8=>?_
  repeat' (first
   |refine St.h ?_
   |simp(disch:=first|omega|(simp only[AJ];omega))only[AK,↓AB,↓reduceIte,seval]
   |(with_reducible (first|apply AD|apply AE))<;>(intro hc;(try simp only[AR]at hc);(try simp only[hc]);(try simp only[AQ]at hc);try omega))
  subst hQ
  refine⟨?_,s02.trans ((s26.trans s7).trans s8)⟩
  unfold Ec FY
  rw[hi,hbd]
  rfl
theorem Rk {h:H} {v:V} {lv n tn:Int} {sh:Bool} {ws:List Bs} (hL:Ws h v ws) (_:LS 3 v) (hl:ws.length<=10000) (hf:B.val h.floor<=B.val h.next):BZ Try.prog 9 [.a [.i .i64 lv,.i .i64 n,.i .i64 tn,.b sh,v]] h fun y h'=>
 y=.tu [sv (Ec ⟨lv,n,tn,sh,ws⟩).1,.i .i64 (if F7 ⟨lv,n,tn,sh,ws⟩then 0 else 10)]/\AZ AM h h':=Kw hL hl hf
def vH (u:V) (x:Em):V:=.a [.i .i64 x.lv,.i .i64 x.n,.i .i64 x.tn,.b x.sh,u]
theorem UL {h:H} {b:List UInt8} (hb:b.length<=150000) (hf:B.val h.floor<=B.val h.next):BZ Try.prog 25 [sv b] h fun y h'=>∃ u,y=vH u (GL b)/\Ws h' u (GL b).ws/\(∀ q,BT u q->B.val h.next<=B.val q)/\AZ AM h h':=by
 refine BP xV (by intro hb;cases hb) (by simp) (by simp) fun Q hQ=>?_
 simp only[Ay,Nat.reduceAdd]
 repeat' (first
  |refine St.h ?_
  |simp(disch:=first|omega|(simp only[AJ];omega))only[AK,↓AB,↓reduceIte,seval]
  |(with_reducible (first|apply AD|apply AE))<;>(intro hc;(try simp only[AR]at hc);(try simp only[hc]);(try simp only[AQ]at hc);try omega))
 refine AL.own (by simp) hf fun h1 s1 n1 o1=>?_
 have hf1:=s1.fl hf
 repeat' (first
  |refine St.h ?_
  |simp(disch:=first|omega|(simp only[AJ];omega))only[AK,↓AB,↓reduceIte,seval]
  |(with_reducible (first|apply AD|apply AE))<;>(intro hc;(try simp only[AR]at hc);(try simp only[hc]);(try simp only[AQ]at hc);try omega))
 refine AL.own (by simp) hf1 fun h2 s2 n2 q2=>?_
 have hf2:=s2.fl hf1
 have s02:=s1.trans s2
 have o2:=o1.stay s2 fun e=>e
 have none_ok:∀ {g:H},AZ AM h g->GL b=C7->∃ u,V.a [.i .i64 0,.i .i64 0,.i .i64 0,.b false,.l0]=vH u (GL b)/\Ws g u (GL b).ws/\(∀ q,BT u q->B.val h.next<=B.val q)/\AZ AM h g:=fun {g} st e1=>by
  rw[e1]
  refine⟨.l0,rfl,Ss.nil,?_,st⟩
  rintro i ⟨_,_,_,_,_,e⟩;cases e
 repeat' (first
  |refine St.h ?_
  |simp(disch:=first|omega|(simp only[AJ];omega))only[AK,↓AB,↓reduceIte,seval]
  |(with_reducible (first|apply AD|apply AE))<;>(intro hc;(try simp only[AR]at hc);(try simp only[hc]);(try simp only[AQ]at hc);try omega))
 refine Ok.lp (fun m t g=>∃ (i p:Nat) (xs:List V),m=3-i/\X8 b p xs i/\p<=b.length/\AZ AM h g/\Ev.Own g h.next [.i .i64 0,.i .i64 0,.i .i64 0,.b false,.l0]/\Ev.Own g h1.next xs/\get 0 t=sv b/\get 2 t=.p h.next 0 0 5/\get 3 t=.p h1.next 0 0 3/\get 4 t=.i .i64 (p:Int)/\get 5 t=.i .i64 (i:Int)) 3 ?_ ?_
 ·simp(disch:=first|omega|(simp only[AJ];omega))only[AK,↓AB,↓reduceIte,seval]
  refine⟨0,0,_,by omega,.inl ⟨rfl,rfl,rfl⟩,by omega,s02,o2,q2,?_⟩
  repeat' (first|trivial|rfl|refine And.intro ?_ ?_)
 rintro I hI m t g ⟨i,p,xs,rfl,hA,hp,st,og,qg,f0,f2,f3,f4,f5⟩
 have hfg:=st.fl hf
 obtain⟨hxl,hi3⟩:=hA.len
 have ho:∀ (g2:H),AZ (fun i=>i=h.next) g g2->AZ AM h g2:=fun g2 t=>st.B3 t fun i e=>by rw[e];exact Nat.le_refl _
 by_cases hil:i<3
 ·have ep:((p:Int)).toNat=p:=by omega
  have hz0:((10:Int)=0)=False:=eq_false (by decide)
  have hz1:((12:Int)=0)=False:=eq_false (by decide)
  have d3:((i:Int)<3)=True:=eq_true (by omega)
  repeat' (first
   |refine St.h ?_
   |simp(disch:=first|omega|(simp only[AJ];omega))only[AK,↓AB,↓reduceIte,seval,f0,f2,f3,f4,f5,ep,d3]
   |(with_reducible (first|apply AD|apply AE))<;>(intro hc;(try simp only[AR]at hc);(try simp only[hc]);(try simp only[AQ]at hc);try omega))
  refine CL.pure (FT (by rw[List.length_drop];omega)) ?_
  rcases Bi (b.drop p)with(e1|e1)|⟨q,k,e1,z1,k1,k2,k3⟩
  ·have e0:GL b=C7:=hA.no hil (by rw[e1];decide)
   repeat' (first
    |refine St.h ?_
    |simp(disch:=first|omega|(simp only[AJ];omega))only[AK,↓AB,↓reduceIte,seval,f0,f2,f3,f4,f5,e1,Hf,hz0,d3]
    |(with_reducible (first|apply AD|apply AE))<;>(intro hc;(try simp only[AR]at hc);(try simp only[hc]);(try simp only[AQ]at hc);try omega))
   refine ST.all og rfl rfl (by simp) (by simp) fun g2 o4 t2=>?_
   repeat' (first
    |refine St.h ?_
    |simp(disch:=first|omega|(simp only[AJ];omega))only[AK,↓AB,↓reduceIte,seval,f2,o4.Mz]
    |(with_reducible (first|apply AD|apply AE))<;>(intro hc;(try simp only[AR]at hc);(try simp only[hc]);(try simp only[AQ]at hc);try omega))
   subst hQ
   exact none_ok (ho g2 t2) e0
  ·have e0:GL b=C7:=hA.no hil (by rw[e1];decide)
   repeat' (first
    |refine St.h ?_
    |simp(disch:=first|omega|(simp only[AJ];omega))only[AK,↓AB,↓reduceIte,seval,f0,f2,f3,f4,f5,e1,Hf,hz1,d3]
    |(with_reducible (first|apply AD|apply AE))<;>(intro hc;(try simp only[AR]at hc);(try simp only[hc]);(try simp only[AQ]at hc);try omega))
   refine ST.all og rfl rfl (by simp) (by simp) fun g2 o4 t2=>?_
   repeat' (first
    |refine St.h ?_
    |simp(disch:=first|omega|(simp only[AJ];omega))only[AK,↓AB,↓reduceIte,seval,f2,o4.Mz]
    |(with_reducible (first|apply AD|apply AE))<;>(intro hc;(try simp only[AR]at hc);(try simp only[hc]);(try simp only[AQ]at hc);try omega))
   subst hQ
   exact none_ok (ho g2 t2) e0
  ·rw[List.length_drop]at k3
   have hA2:=hA.next hil e1
   have ei:((i:Int)).toNat=i:=by omega
   repeat' (first
    |refine St.h ?_
    |simp(disch:=first|omega|(simp only[AJ];omega))only[AK,↓AB,↓reduceIte,seval,f0,f2,f3,f4,f5,e1,Hf,ei]
    |(with_reducible (first|apply AD|apply AE))<;>(intro hc;(try simp only[AR]at hc);(try simp only[hc]);(try simp only[AQ]at hc);try omega))
   refine ST.own (y:=.i .i64 (q:Int)) qg rfl rfl (by omega) (by omega) fun g2 q4 t2=>?_
   have nx1:=s1.next
   have l1:=C4 o1
   have st2:AZ AM h g2:=st.B3 t2 fun i e=>by rw[e];omega
   have o4:=og.stay t2 fun e=>by have:=congrArg B.val e;omega
   repeat' (first
    |refine St.h ?_
    |simp(disch:=first|omega|(simp only[AJ];omega))only[AK,↓AB,↓reduceIte,seval,f0,f2,f3,f4,f5]
    |(with_reducible (first|apply AD|apply AE))<;>(intro hc;(try simp only[AR]at hc);(try simp only[hc]);(try simp only[AQ]at hc);try omega))
   refine Bq hI (3-(i+1)) (by omega) ⟨i+1,p+k,_,rfl,hA2,by omega,st2,o4,q4,?_⟩
   repeat' (first|trivial|rfl|(simp(disch:=first|omega|(simp only[AJ];omega))only[AK,↓AB,↓reduceIte,seval,f0,f2,f3,f4,f5])|refine And.intro ?_ ?_)
 obtain rfl:i=3:=by omega
 obtain⟨x,y,z,rfl,e3⟩:∃ x y z,xs=[.i .i64 x,.i .i64 y,.i .i64 z]/\GL b=Xt b p x y z:=by
  rcases hA with⟨e,_⟩|⟨_,e,_⟩|⟨_,_,e,_⟩|⟨x,y,z,_,e1,e2⟩
  ·omega
  ·omega
  ·omega
  ·exact⟨x,y,z,e1,e2⟩
 by_cases hpe:p=b.length
 ·have e0:GL b=C7:=by
   rw[e3];unfold Xt
   rw[List.drop_eq_nil_of_le (by omega)]
  have d4:((p:Int)=(b.length:Int))=True:=eq_true (by omega)
  repeat' (first
   |refine St.h ?_
   |simp(disch:=first|omega|(simp only[AJ];omega))only[AK,↓AB,↓reduceIte,seval,f0,f2,f3,f4,f5,d4]
   |(with_reducible (first|apply AD|apply AE))<;>(intro hc;(try simp only[AR]at hc);(try simp only[hc]);(try simp only[AQ]at hc);try omega))
  refine ST.all og rfl rfl (by simp) (by simp) fun g2 o4 t2=>?_
  repeat' (first
   |refine St.h ?_
   |simp(disch:=first|omega|(simp only[AJ];omega))only[AK,↓AB,↓reduceIte,seval,f2,o4.Mz]
   |(with_reducible (first|apply AD|apply AE))<;>(intro hc;(try simp only[AR]at hc);(try simp only[hc]);(try simp only[AQ]at hc);try omega))
  subst hQ
  exact none_ok (ho g2 t2) e0
 have hpl:p<b.length:=by omega
 have d4:((p:Int)=(b.length:Int))=False:=eq_false (by omega)
 have ed:b.drop p=b.getD p 0::b.drop (p+1):=by
  rw[List.drop_eq_getElem_cons hpl];simp[List.getD,hpl]
 have e4:GL b=⟨x,y,z,decide (b.getD p 0=1),Xs (b.drop (p+1))⟩:=by
  rw[e3];unfold Xt;rw[ed]
 have ep2:((p:Int)).toNat=p:=by omega
 have ep:((p:Int)+1).toNat=p+1:=by omega
 have r5:=qg.row
 repeat' (first
  |with_reducible refine HW ?_
  |refine St.h ?_
  |simp(disch:=first|omega|(simp only[AJ];omega))only[AK,↓AB,↓reduceIte,seval,f0,f2,f3,f4,f5,d4]
  |(with_reducible (first|apply AD|apply AE))<;>(intro hc;(try simp only[AR]at hc);(try simp only[hc]);(try simp only[AQ]at hc);try omega))
 refine Ok.JU Pa [1,3,5] 15 (fun g=>Row g h1.next 0 0 [.i .i64 x,.i .i64 y,.i .i64 z]) (by decide) (by decide) r5 ?_
 refine Ao (by decide) ?_
 repeat' (first
  |refine St.h ?_
  |simp(disch:=first|omega|(simp only[AJ];omega))only[AK,↓AB,↓reduceIte,seval,f0,f2,f3,f4,f5]
  |(with_reducible (first|apply AD|apply AE))<;>(intro hc;(try simp only[AR]at hc);(try simp only[hc]);(try simp only[AQ]at hc);try omega))
 refine⟨fun _=>r5,?_⟩
 refine D1 (.i .i64 x) r5 (fun g hg=>by simp(disch:=first|omega|(simp only[AJ];omega))only[AK,↓AB,↓reduceIte,seval,f0,f2,f3,f4,f5,hg.l1]) ?_
 refine Ao (by decide) ?_
 repeat' (first
  |refine St.h ?_
  |simp(disch:=first|omega|(simp only[AJ];omega))only[AK,↓AB,↓reduceIte,seval,f0,f2,f3,f4,f5]
  |(with_reducible (first|apply AD|apply AE))<;>(intro hc;(try simp only[AR]at hc);(try simp only[hc]);(try simp only[AQ]at hc);try omega))
 refine⟨fun _=>r5,?_⟩
 refine D1 (.i .i64 y) r5 (fun g hg=>by simp(disch:=first|omega|(simp only[AJ];omega))only[AK,↓AB,↓reduceIte,seval,f0,f2,f3,f4,f5,hg.l1]) ?_
 refine Ao (by decide) ?_
 repeat' (first
  |refine St.h ?_
  |simp(disch:=first|omega|(simp only[AJ];omega))only[AK,↓AB,↓reduceIte,seval,f0,f2,f3,f4,f5]
  |(with_reducible (first|apply AD|apply AE))<;>(intro hc;(try simp only[AR]at hc);(try simp only[hc]);(try simp only[AQ]at hc);try omega))
 refine⟨fun _=>r5,?_⟩
 refine D1 (.i .i64 z) r5 (fun g hg=>by simp(disch:=first|omega|(simp only[AJ];omega))only[AK,↓AB,↓reduceIte,seval,f0,f2,f3,f4,f5,hg.l1]) ?_
 refine Ao (by decide) ?_
 repeat' (first
  |refine St.h ?_
  |simp(disch:=first|omega|(simp only[AJ];omega))only[AK,↓AB,↓reduceIte,seval,f0,f2,f3,f4,f5,ep,ep2]
  |(with_reducible (first|apply AD|apply AE))<;>(intro hc;(try simp only[AR]at hc);(try simp only[hc]);(try simp only[AQ]at hc);try omega))
 refine⟨fun _=>r5,?_⟩
 refine Ao (by decide) ?_
 repeat' (first
  |refine St.h ?_
  |simp(disch:=first|omega|(simp only[AJ];omega))only[AK,↓AB,↓reduceIte,seval,f0,f2,f3,f4,f5,ep,ep2]
  |(with_reducible (first|apply AD|apply AE))<;>(intro hc;(try simp only[AR]at hc);(try simp only[hc]);(try simp only[AQ]at hc);try omega))
 refine⟨fun _=>r5,?_⟩
 refine Ao (by decide) ?_
 repeat' (first
  |refine St.h ?_
  |simp(disch:=first|omega|(simp only[AJ];omega))only[AK,↓AB,↓reduceIte,seval,f0,f2,f3,f4,f5,ep,ep2]
  |(with_reducible (first|apply AD|apply AE))<;>(intro hc;(try simp only[AR]at hc);(try simp only[hc]);(try simp only[AQ]at hc);try omega))
 refine⟨fun _=>r5,?_⟩
 refine Ao (by decide) ?_
 repeat' (first
  |refine St.h ?_
  |simp(disch:=first|omega|(simp only[AJ];omega))only[AK,↓AB,↓reduceIte,seval,f0,f2,f3,f4,f5,ep,ep2]
  |(with_reducible (first|apply AD|apply AE))<;>(intro hc;(try simp only[AR]at hc);(try simp only[hc]);(try simp only[AQ]at hc);try omega))
 refine⟨fun _=>r5,?_⟩
 refine Ao (by decide) ?_
 repeat' (first
  |refine St.h ?_
  |simp(disch:=first|omega|(simp only[AJ];omega))only[AK,↓AB,↓reduceIte,seval,f0,f2,f3,f4,f5,ep,ep2]
  |(with_reducible (first|apply AD|apply AE))<;>(intro hc;(try simp only[AR]at hc);(try simp only[hc]);(try simp only[AQ]at hc);try omega))
 refine⟨fun _=>r5,?_⟩
 refine Ao (by decide) ?_
 repeat' (first
  |refine St.h ?_
  |simp(disch:=first|omega|(simp only[AJ];omega))only[AK,↓AB,↓reduceIte,seval,f0,f2,f3,f4,f5,ep,ep2]
  |(with_reducible (first|apply AD|apply AE))<;>(intro hc;(try simp only[AR]at hc);(try simp only[hc]);(try simp only[AQ]at hc);try omega))
 refine⟨fun _=>r5,?_⟩
 refine Ao (by decide) ?_
 repeat' (first
  |refine St.h ?_
  |simp(disch:=first|omega|(simp only[AJ];omega))only[AK,↓AB,↓reduceIte,seval,f0,f2,f3,f4,f5,ep,ep2]
  |(with_reducible (first|apply AD|apply AE))<;>(intro hc;(try simp only[AR]at hc);(try simp only[hc]);(try simp only[AQ]at hc);try omega))
 refine⟨fun _=>r5,?_⟩
 refine Ao (by decide) ?_
 repeat' (first
  |refine St.h ?_
  |simp(disch:=first|omega|(simp only[AJ];omega))only[AK,↓AB,↓reduceIte,seval,f0,f2,f3,f4,f5,ep,ep2]
  |(with_reducible (first|apply AD|apply AE))<;>(intro hc;(try simp only[AR]at hc);(try simp only[hc]);(try simp only[AQ]at hc);try omega))
 refine⟨fun _=>r5,?_⟩
 refine Ao (by decide) ?_
 repeat' (first
  |refine St.h ?_
  |simp(disch:=first|omega|(simp only[AJ];omega))only[AK,↓AB,↓reduceIte,seval,f0,f2,f3,f4,f5,ep,ep2]
  |(with_reducible (first|apply AD|apply AE))<;>(intro hc;(try simp only[AR]at hc);(try simp only[hc]);(try simp only[AQ]at hc);try omega))
 refine CL.mk (Ua (b:=b.drop (p+1)) (by rw[List.length_drop];omega) hfg) ?_
 rintro u g2 ⟨hu,uo,s9⟩
 have og2:=og.stay s9 fun e=>e
 have r6:=(qg.stay s9 fun e=>e).row
 have u1:=GW hu
 have lt0:=C4 og
 repeat' (first
  |refine St.h ?_
  |simp(disch:=first|omega|(simp only[AJ];omega))only[AK,↓AB,↓reduceIte,seval,f0,f2,f3,f4,f5,ep,ep2]
  |(with_reducible (first|apply AD|apply AE))<;>(intro hc;(try simp only[AR]at hc);(try simp only[hc]);(try simp only[AQ]at hc);try omega))
 refine⟨fun _=>r6,?_⟩
 refine Ao (by decide) ?_
 repeat' (first
  |refine St.h ?_
  |simp(disch:=first|omega|(simp only[AJ];omega))only[AK,↓AB,↓reduceIte,seval,f0,f2,f3,f4,f5,ep,ep2,X5 hu]
  |(with_reducible (first|apply AD|apply AE))<;>(intro hc;(try simp only[AR]at hc);(try simp only[hc]);(try simp only[AQ]at hc);try omega))
 refine⟨fun _=>r6,?_⟩
 refine Xr (by decide) ?_
 have ebt:decide (((b.getD p 0).toNat:Int)=1)=decide (b.getD p 0=1):=decide_eq_decide.2 ⟨fun h=>UInt8.toNat_inj.1 (by show _=1;omega),fun h=>by rw[h];rfl⟩
 repeat' (first
  |refine St.h ?_
  |simp(disch:=first|omega|(simp only[AJ];omega))only[AK,↓AB,↓reduceIte,seval,f0,f2,f3,f4,f5,ep,ep2]
  |(with_reducible (first|apply AD|apply AE))<;>(intro hc;(try simp only[AR]at hc);(try simp only[hc]);(try simp only[AQ]at hc);try omega))
 refine ST.all og2 rfl (Ft u1.2 x y z _) (by simp) (by simp) fun g4 o11 s11=>?_
 have hu4:Ws g4 u (Xs (b.drop (p+1))):=Ss.stay hu s11 fun q hq e=>by have:=uo q hq;rw[e]at this;omega
 have st4:AZ AM h g4:=(st.trans s9).B3 s11 fun i e=>by rw[e];exact Nat.le_refl _
 repeat' (first
  |refine St.h ?_
  |simp(disch:=first|omega|(simp only[AJ];omega))only[AK,↓AB,↓reduceIte,seval,f0,f2,f3,f4,f5,ep,ep2]
  |(with_reducible (first|apply AD|apply AE))<;>(intro hc;(try simp only[AR]at hc);(try simp only[hc]);(try simp only[AQ]at hc);try omega))
 refine⟨fun h=>absurd h (by decide),?_⟩
 refine Lg ?_
 repeat' (first
  |refine St.h ?_
  |simp(disch:=first|omega|(simp only[AJ];omega))only[AK,↓AB,↓reduceIte,seval,f2,o11.Mz]
  |(with_reducible (first|apply AD|apply AE))<;>(intro hc;(try simp only[AR]at hc);(try simp only[hc]);(try simp only[AQ]at hc);try omega))
 subst hQ
 rw[ebt]
 exact⟨u,by rw[e4];rfl,by rw[e4];exact hu4,fun q hq=>Nat.le_trans st.next (uo q hq),st4⟩
theorem Ti {h:H} {s:List UInt8} (hs:s.length<=100000) (hf:B.val h.floor<=B.val h.next):BZ Try.prog 11 [sv s] h fun y h'=>
 ∃ u,y=gM u (An s)/\Ws h' u (An s).1.ws/\(∀ q,BT u q->B.val h.next<=B.val q)/\AZ AM h h':=by
 refine BP xI (by intro hb;cases hb) (by simp) (by simp) fun Q hQ=>?_
 simp only[Ay,Nat.reduceAdd]
 repeat' (first
  |refine St.h ?_
  |simp(disch:=first|omega|(simp only[AJ];omega))only[AK,↓AB,↓reduceIte,seval]
  |(with_reducible (first|apply AD|apply AE))<;>(intro hc;(try simp only[AR]at hc);(try simp only[hc]);(try simp only[AQ]at hc);try omega))
 refine AL.own (by simp) hf fun h1 s1 n1 o1=>?_
 have hf1:=s1.fl hf
 have lt1:=C4 o1
 repeat' (first
  |refine St.h ?_
  |simp(disch:=first|omega|(simp only[AJ];omega))only[AK,↓AB,↓reduceIte,seval]
  |(with_reducible (first|apply AD|apply AE))<;>(intro hc;(try simp only[AR]at hc);(try simp only[hc]);(try simp only[AQ]at hc);try omega))
 refine CL.stay (Mk (by omega) hf1) fun h2 s2=>?_
 have hf2:=s2.fl hf1
 have s02:=s1.trans s2
 have o2:=o1.stay s2 fun e=>e
 have none_ok:∀ {g:H} (e:Int),AZ AM h g->An s=(C7,0,e)->∃ u,V.tu [.a [.i .i64 0,.i .i64 0,.i .i64 0,.b false,.l0],.i .i64 0,.i .i64 e]=gM u (An s)/\Ws g u (An s).1.ws/\(∀ q,BT u q->B.val h.next<=B.val q)/\AZ AM h g:=fun {g} e st e1=>by
  rw[e1]
  refine⟨.l0,rfl,Ss.nil,?_,st⟩
  rintro i ⟨_,_,_,_,_,e⟩;cases e
 have hz1:((12:Int)=0)=False:=eq_false (by decide)
 have hz2:((13:Int)=0)=False:=eq_false (by decide)
 rcases Fg s with e|e|⟨b,n,e,m1,m2,m3⟩
 ·have e0:An s=(C7,0,12):=by unfold An;rw[e];rfl
  repeat' (first
   |refine St.h ?_
   |simp(disch:=first|omega|(simp only[AJ];omega))only[AK,↓AB,↓reduceIte,seval,opn,e,hz1]
   |(with_reducible (first|apply AD|apply AE))<;>(intro hc;(try simp only[AR]at hc);(try simp only[hc]);(try simp only[AQ]at hc);try omega))
  refine ST.all o2 rfl rfl (by simp) (by simp) fun h3 o3 s3=>?_
  have st:AZ AM h h3:=s02.B3 s3 fun i e=>by rw[e];exact Nat.le_refl _
  repeat' (first
   |refine St.h ?_
   |simp(disch:=first|omega|(simp only[AJ];omega))only[AK,↓AB,↓reduceIte,seval,o3.Mz]
   |(with_reducible (first|apply AD|apply AE))<;>(intro hc;(try simp only[AR]at hc);(try simp only[hc]);(try simp only[AQ]at hc);try omega))
  subst hQ
  exact none_ok 12 st e0
 ·have e0:An s=(C7,0,13):=by unfold An;rw[e];rfl
  repeat' (first
   |refine St.h ?_
   |simp(disch:=first|omega|(simp only[AJ];omega))only[AK,↓AB,↓reduceIte,seval,opn,e,hz2]
   |(with_reducible (first|apply AD|apply AE))<;>(intro hc;(try simp only[AR]at hc);(try simp only[hc]);(try simp only[AQ]at hc);try omega))
  refine ST.all o2 rfl rfl (by simp) (by simp) fun h3 o3 s3=>?_
  have st:AZ AM h h3:=s02.B3 s3 fun i e=>by rw[e];exact Nat.le_refl _
  repeat' (first
   |refine St.h ?_
   |simp(disch:=first|omega|(simp only[AJ];omega))only[AK,↓AB,↓reduceIte,seval,o3.Mz]
   |(with_reducible (first|apply AD|apply AE))<;>(intro hc;(try simp only[AR]at hc);(try simp only[hc]);(try simp only[AQ]at hc);try omega))
  subst hQ
  exact none_ok 13 st e0
 have hR:=hY (by omega) e
 have nx2:=s2.next
 repeat' (first
  |refine St.h ?_
  |simp(disch:=first|omega|(simp only[AJ];omega))only[AK,↓AB,↓reduceIte,seval,opn,e]
  |(with_reducible (first|apply AD|apply AE))<;>(intro hc;(try simp only[AR]at hc);(try simp only[hc]);(try simp only[AQ]at hc);try omega))
 refine CL.mk (UL (b:=b) (by omega) hf2) ?_
 rintro _ h3 ⟨u,rfl,hu,uo,s3⟩
 have hf3:=s3.fl hf2
 have u1:=GW hu
 unfold vH
 repeat' (first
  |refine St.h ?_
  |simp(disch:=first|omega|(simp only[AJ];omega))only[AK,↓AB,↓reduceIte,seval]
  |(with_reducible (first|apply AD|apply AE))<;>(intro hc;(try simp only[AR]at hc);(try simp only[hc]);(try simp only[AQ]at hc);try omega))
 refine AL.own (by simp) hf3 fun h4 s4 n4 o4=>?_
 repeat' (first
  |refine St.h ?_
  |simp(disch:=first|omega|(simp only[AJ];omega))only[AK,↓AB,↓reduceIte,seval]
  |(with_reducible (first|apply AD|apply AE))<;>(intro hc;(try simp only[AR]at hc);(try simp only[hc]);(try simp only[AQ]at hc);try omega))
 refine ST.all o4 rfl (Ft u1.2 _ _ _ _) (by simp) (by simp) fun h5 o5 s5=>?_
 have s35:AZ AM h3 h5:=s4.B3 s5 fun i e=>by rw[e];exact Nat.le_refl _
 have hf5:=s35.fl hf3
 have hu5:=hu.grow s35
 have r5:=o5.row
 have hwl:=WQ b (by omega)
 repeat' (first
  |refine St.h ?_
  |simp(disch:=first|omega|(simp only[AJ];omega))only[AK,↓AB,↓reduceIte,seval,r5.l1,r5.ln]
  |(with_reducible (first|apply AD|apply AE))<;>(intro hc;(try simp only[AR]at hc);(try simp only[hc]);(try simp only[AQ]at hc);try omega))
 refine CL.stay (Kw (ws:=(GL b).ws) hu5 (by omega) hf5) fun h6 s6=>?_
 have o6:=o5.stay s6 fun e=>e
 have r6:=o6.row
 have s26:=(s3.trans s35).trans s6
 have st6:=s02.trans s26
 have q6:=o2.stay s26 fun e=>e
 have hu6:=hu5.grow s6
 have en:((n:Int)).toNat=n:=by omega
 have hI:(⟨(GL b).lv,(GL b).n,(GL b).tn,(GL b).sh,(GL b).ws⟩:Em)=GL b:=rfl
 rw[hI]
 have ho2:∀ (g6:H),AZ (fun i=>i=h.next) h6 g6->AZ AM h g6:=fun g6 t=>st6.B3 t fun i e=>by rw[e];exact Nat.le_refl _
 cases hI1:F7 (GL b)with
 |false=>
  have e0:An s=(C7,0,10):=by rw[hR,hI1];rfl
  have eb:Ec (GL b)=([],false):=by unfold Ec;rw[hI1];rfl
  have hne:¬([]:List UInt8)=s.take n:=fun e=>by
   have:=congrArg List.length e
   rw[List.length_take,List.length_nil]at this;omega
  rw[eb]
  repeat' (first
   |refine St.h ?_
   |simp(disch:=first|omega|(simp only[AJ];omega))only[AK,↓AB,↓reduceIte,seval,en,hne]
   |(with_reducible (first|apply AD|apply AE))<;>(intro hc;(try simp only[AR]at hc);(try simp only[hc]);(try simp only[AQ]at hc);try omega))
  refine ST.all q6 rfl rfl (by simp) (by simp) fun g6 o14 t2=>?_
  repeat' (first
   |refine St.h ?_
   |simp(disch:=first|omega|(simp only[AJ];omega))only[AK,↓AB,↓reduceIte,seval,o14.Mz]
   |(with_reducible (first|apply AD|apply AE))<;>(intro hc;(try simp only[AR]at hc);(try simp only[hc]);(try simp only[AQ]at hc);try omega))
  subst hQ
  exact none_ok 10 (ho2 g6 t2) e0
 |true=>
  have eb:Ec (GL b)=(FY (GL b),true):=by unfold Ec;rw[hI1];rfl
  rw[eb]
  by_cases hc9:FY (GL b)=s.take n
  ·have e0:An s=(GL b,(n:Int),0):=by rw[hR,if_pos ⟨hI1,hc9⟩]
   repeat' (first
    |refine St.h ?_
    |simp(disch:=first|omega|(simp only[AJ];omega))only[AK,↓AB,↓reduceIte,seval,en,hc9,r6.l1,r6.ln]
    |(with_reducible (first|apply AD|apply AE))<;>(intro hc;(try simp only[AR]at hc);(try simp only[hc]);(try simp only[AQ]at hc);try omega))
   refine ST.all q6 rfl (Ft u1.2 _ _ _ _) (by simp) (by simp) fun g6 o14 t2=>?_
   have hu7:Ws g6 u (GL b).ws:=Ss.stay hu6 t2 fun q hq e=>by have:=uo q hq;rw[e]at this;omega
   repeat' (first
    |refine St.h ?_
    |simp(disch:=first|omega|(simp only[AJ];omega))only[AK,↓AB,↓reduceIte,seval,o14.Mz]
    |(with_reducible (first|apply AD|apply AE))<;>(intro hc;(try simp only[AR]at hc);(try simp only[hc]);(try simp only[AQ]at hc);try omega))
   subst hQ
   exact⟨u,by rw[e0];rfl,by rw[e0];exact hu7,fun q hq=>Nat.le_trans s02.next (uo q hq),ho2 g6 t2⟩
  ·have e0:An s=(C7,0,10):=by rw[hR,if_neg (fun e=>hc9 e.2)]
   repeat' (first
    |refine St.h ?_
    |simp(disch:=first|omega|(simp only[AJ];omega))only[AK,↓AB,↓reduceIte,seval,en,hc9]
    |(with_reducible (first|apply AD|apply AE))<;>(intro hc;(try simp only[AR]at hc);(try simp only[hc]);(try simp only[AQ]at hc);try omega))
   refine ST.all q6 rfl rfl (by simp) (by simp) fun g6 o14 t2=>?_
   repeat' (first
    |refine St.h ?_
    |simp(disch:=first|omega|(simp only[AJ];omega))only[AK,↓AB,↓reduceIte,seval,o14.Mz]
    |(with_reducible (first|apply AD|apply AE))<;>(intro hc;(try simp only[AR]at hc);(try simp only[hc]);(try simp only[AQ]at hc);try omega))
   subst hQ
   exact none_ok 10 (ho2 g6 t2) e0
end Go.Proofs.Ytmlcddeikgechaa
set_option maxRecDepth 1000000
namespace Go.Proofs.Ytmlcddeikgechaa.ravelinlaw18
open Go.Ev
theorem RT:TI l9 Try.prog 1000 7 []=true:=by kernel_rfl
theorem Om:Kb Try.prog 7:=Vz (WX _) (Checked.mixed Try.checked) RT
end Go.Proofs.Ytmlcddeikgechaa.ravelinlaw18
namespace Go.Proofs.Ytmlcddeikgechaa
open Go Go.Ev
theorem Wg {h:H}:BZ Try.prog 7 [] h fun y h'=>y=.b true/\h'=h:=BZ.W8 ravelinlaw18.Om h
end Go.Proofs.Ytmlcddeikgechaa
set_option maxRecDepth 1000000
namespace Go.Proofs.Ytmlcddeikgechaa
open Go Go.Ev
abbrev vo:CC:=(CC.seq (CC.region [(wB 6 (AA (O.c (V.b Bool.false))))]) CC.ret)
abbrev vn:CC:=(CC.cond (tm 20) vo CC.skip)
abbrev v7:CC:=(CC.seq (CC.region [(wB 19 (AW 7 [])),(wB 20 (CN (tm 19)))]) vn)
abbrev v3:CC:=(CC.seq (CC.region [(wB 6 (AA (O.c (V.b Bool.true))))]) CC.ret)
abbrev uj:CC:=(CC.cond (tm 33) v3 CC.skip)
abbrev tz:CC:=(CC.seq (CC.region [(wB 21 (Ah 5 (tm 3))),(wB 22 (AW 8 [(tm 21)])),(wB 23 (CN (tm 22))),(wB 24 (AA (tm 23))),(wG 24 false 25 (Ah 5 (tm 4))),(wG 24 false 26 (AW 8 [(tm 25)])),(wG 24 false 27 (CN (tm 26))),(wB 28 (Ac (tm 24) (O.c (V.b Bool.true)) (tm 27))),(wB 29 (AA (tm 28))),(wG 29 false 30 (AA (tm 2))),(wG 29 false 31 (BH (tm 30))),(wG 29 false 32 (AX C6 (tm 31) (oN 600))),(wB 33 (Ac (tm 29) (O.c (V.b Bool.true)) (tm 32)))]) uj)
abbrev vp:CC:=(CC.seq (CC.region [(wB 6 (AA (O.c (V.b Bool.false))))]) CC.ret)
abbrev uU:CC:=(CC.cond (tm 66) vp CC.skip)
abbrev uQ:CC:=(CC.seq (CC.region [(wB 63 (Ah 5 (tm 18))),(wB 64 (Ah 5 (tm 3))),(wB 65 (AW 14 [(tm 63),(tm 64)])),(wB 66 (CN (tm 65)))]) uU)
abbrev wJ:CC:=(CC.region [(wB 71 (AG 4 (tm 18))),(wB 72 (Aa (tm 71))),(wB 73 (As 3 (tm 72) (oN 0))),(wB 74 (AG 0 (tm 73))),(CO.mk G.none D.none Bool.true (CR.mk (Aq 1 (tm 74) (O.c (V.s 5 478694368626)))))])
abbrev pt:CC:=(CC.cond (tm 70) wJ CC.skip)
abbrev mf:CC:=(CC.seq (CC.region [(wB 67 (AG 4 (tm 18))),(wB 68 (Aa (tm 67))),(wB 69 (CG (tm 68))),(wB 70 (AX C6 (tm 69) (oN 0)))]) pt)
abbrev UX:CC:=(CC.seq (CC.Bg [(uB 75 (Ah 5 (tm 3))),(uB 76 (AW 15 [(tm 75)])),(uB 77 (Ah 5 (tm 3))),(wB 78 (AW 16 [(tm 77)])),(uB 79 (DF Bool.false (tm 76) (tm 78))),(uB 80 (AA (tm 79))),(uG 80 true 81 (Ah 5 (tm 3))),(uG 80 true 82 (Ah 5 (tm 4))),(uG 80 true 83 (AW 17 [(tm 81),(tm 82)])),(uG 80 true 84 (Ah 5 (tm 3))),(uG 80 true 85 (Ah 5 (tm 4))),(wG 80 true 86 (AW 14 [(tm 84),(tm 85)])),(uG 80 true 87 (DF Bool.false (tm 83) (tm 86))),(uB 88 (Ac (tm 80) (tm 87) (O.c (V.b Bool.false)))),(uB 89 (AA (tm 88))),(uG 89 true 90 (AA (tm 7))),(uG 89 true 91 (AA (tm 9))),(uG 89 true 92 (CM Fw (tm 90) (tm 91))),(uB 93 (Ac (tm 89) (tm 92) (O.c (V.b Bool.false)))),(uB 94 (AA (tm 93))),(uG 94 true 95 (AA (tm 8))),(uG 94 true 96 (AX CY (tm 95) (oN 0))),(uG 94 true 97 (AA (tm 10))),(uG 94 true 98 (DF Bool.false (tm 96) (tm 97))),(uB 99 (Ac (tm 94) (tm 98) (O.c (V.b Bool.false)))),(uB 100 (AA (tm 99))),(uG 100 true 101 (AA (tm 8))),(uG 100 true 102 (AX CY (tm 101) (oN 0))),(uG 100 true 103 (AA (tm 102))),(uG 103 false 104 (AA (tm 8))),(uG 103 false 105 (AX CY (tm 104) (oN 10))),(uG 100 true 106 (Ac (tm 103) (O.c (V.b Bool.true)) (tm 105))),(uB 107 (Ac (tm 100) (tm 106) (O.c (V.b Bool.false)))),(uB 108 (AA (tm 107))),(uG 108 true 109 (Ah 5 (tm 11))),(uG 108 true 110 (Ah 5 (tm 14))),(wG 108 true 111 (AW 14 [(tm 109),(tm 110)])),(uB 112 (Ac (tm 108) (tm 111) (O.c (V.b Bool.false)))),(uB 113 (AA (tm 112))),(uG 113 true 114 (AA (tm 12))),(uG 113 true 115 (AA (tm 15))),(uG 113 true 116 (AX CY (tm 114) (tm 115))),(uB 117 (Ac (tm 113) (tm 116) (O.c (V.b Bool.false)))),(uB 118 (AA (tm 117))),(uG 118 true 119 (AA (tm 13))),(uG 118 true 120 (AA (tm 16))),(uG 118 true 121 (AX CY (tm 119) (tm 120))),(uB 122 (Ac (tm 118) (tm 121) (O.c (V.b Bool.false)))),(uB 123 (AA (tm 122))),(uG 123 true 124 (Ah 5 (tm 17))),(uG 123 true 125 (Ah 5 (tm 3))),(wG 123 true 126 (AW 14 [(tm 124),(tm 125)])),(uB 127 (Ac (tm 123) (tm 126) (O.c (V.b Bool.false)))),(uB 6 (AA (tm 127)))] (some ([1,3,8,11,36,51],[(0,[0]),(2,[0,2]),(6,[4]),(7,[4]),(9,[4,9]),(10,[4,9]),(34,[12]),(35,[12]),(49,[37]),(50,[37])]))) CC.ret)
abbrev gT:CC:=(CC.seq mf UX)
abbrev pw:CC:=(CC.seq uQ gT)
abbrev oM:CC:=(CC.seq (CC.region [(wB 61 (Ah 5 (tm 17))),(wB 62 (AW 13 [(tm 61)])),(wB 18 (BN 24 [(V.i IntKind.i64 (Int.ofNat 0)),(V.i IntKind.i64 (Int.ofNat 0)),(V.i IntKind.i64 (Int.ofNat 0)),(V.b Bool.false),V.l0])),(CO.mk G.none D.none Bool.true (CR.mk (Aq 5 (tm 18) (tm 62))))]) pw)
abbrev lG:CC:=(CC.seq (CC.region [(wB 57 (AG 4 (tm 3))),(wB 58 (Aa (tm 57))),(wB 59 (CE 39 3 (O.c V.l0) (tm 58))),(wB 60 (AG 4 (tm 17))),(CO.mk G.none D.none Bool.true (CR.mk (Aq 1 (tm 60) (tm 59))))]) oM)
abbrev pE:CC:=(CC.seq (CC.region [(wB 56 (Ah 5 (tm 3))),(wB 17 (BN 24 [(V.i IntKind.i64 (Int.ofNat 0)),(V.i IntKind.i64 (Int.ofNat 0)),(V.i IntKind.i64 (Int.ofNat 0)),(V.b Bool.false),V.l0])),(CO.mk G.none D.none Bool.true (CR.mk (Aq 5 (tm 17) (tm 56))))]) lG)
abbrev pQ:CC:=(CC.seq (CC.region [(wB 51 (AA (tm 2))),(wB 52 (AW 12 [(tm 51)])),(wB 50 (AA (tm 52))),(wB 53 (AH 0 (tm 50))),(wB 54 (AH 1 (tm 50))),(wB 55 (AH 2 (tm 50))),(wB 14 (BN 24 [(V.i IntKind.i64 (Int.ofNat 0)),(V.i IntKind.i64 (Int.ofNat 0)),(V.i IntKind.i64 (Int.ofNat 0)),(V.b Bool.false),V.l0])),(CO.mk G.none D.none Bool.true (CR.mk (Aq 5 (tm 14) (tm 53)))),(wB 15 (AA (tm 54))),(wB 16 (AA (tm 55)))]) pE)
abbrev n9:CC:=(CC.seq (CC.region [(wB 45 (AA (tm 2))),(wB 46 (AW 11 [(tm 45)])),(wB 44 (AA (tm 46))),(wB 47 (AH 0 (tm 44))),(wB 48 (AH 1 (tm 44))),(wB 49 (AH 2 (tm 44))),(wB 11 (BN 24 [(V.i IntKind.i64 (Int.ofNat 0)),(V.i IntKind.i64 (Int.ofNat 0)),(V.i IntKind.i64 (Int.ofNat 0)),(V.b Bool.false),V.l0])),(CO.mk G.none D.none Bool.true (CR.mk (Aq 5 (tm 11) (tm 47)))),(wB 12 (AA (tm 48))),(wB 13 (AA (tm 49)))]) pQ)
abbrev jM:CC:=(CC.seq (CC.region [(wB 40 (Ah 5 (tm 3))),(wB 41 (AW 10 [(tm 40)])),(wB 39 (AA (tm 41))),(wB 42 (AH 0 (tm 39))),(wB 43 (AH 1 (tm 39))),(wB 9 (AA (tm 42))),(wB 10 (AA (tm 43)))]) n9)
abbrev nz:CC:=(CC.seq (CC.region [(wB 35 (Ah 5 (tm 3))),(wB 36 (AW 9 [(tm 35)])),(wB 34 (AA (tm 36))),(wB 37 (AH 0 (tm 34))),(wB 38 (AH 1 (tm 34))),(wB 7 (AA (tm 37))),(wB 8 (AA (tm 38)))]) jM)
abbrev jZ:CC:=(CC.seq tz nz)
abbrev mV:CC:=(CC.seq v7 jZ)
abbrev b3:CC:=(CC.seq (CC.region [(wB 3 (Cn 24 (tm 0))),(wB 4 (Cn 24 (tm 1))),(wB 6 (AA (O.c (V.b Bool.false))))]) mV)
theorem c3:AY Try.prog 3=⟨128,b3,[(Rs.tmp (AV 6))]⟩:=by kernel_rfl
abbrev ta:CC:=(CC.seq (CC.region [(wB 8 (AA (O.c (V.b Bool.false))))]) CC.ret)
abbrev uM:CC:=(CC.cond (tm 23) ta CC.skip)
abbrev uK:CC:=(CC.seq (CC.region [(wB 22 (AW 7 [])),(wB 23 (CN (tm 22)))]) uM)
abbrev wD:CC:=(CC.seq (CC.region [(wB 8 (AA (O.c (V.b Bool.true))))]) CC.ret)
abbrev uF:CC:=(CC.cond (tm 36) wD CC.skip)
abbrev vq:CC:=(CC.seq (CC.region [(wB 24 (Ah 5 (tm 4))),(wB 25 (AW 8 [(tm 24)])),(wB 26 (CN (tm 25))),(wB 27 (AA (tm 26))),(wG 27 false 28 (Ah 5 (tm 4))),(wG 27 false 29 (AW 15 [(tm 28)])),(wG 27 false 30 (CN (tm 29))),(wB 31 (Ac (tm 27) (O.c (V.b Bool.true)) (tm 30))),(wB 32 (AA (tm 31))),(wG 32 false 33 (AA (tm 1))),(wG 32 false 34 (BH (tm 33))),(wG 32 false 35 (AX C6 (tm 34) (oN 200))),(wB 36 (Ac (tm 32) (O.c (V.b Bool.true)) (tm 35)))]) uF)
abbrev vu:CC:=(CC.seq (CC.region [(wB 8 (AA (O.c (V.b Bool.false))))]) CC.ret)
abbrev v8:CC:=(CC.cond (tm 72) vu CC.skip)
abbrev uz:CC:=(CC.seq (CC.region [(wB 50 (AA (tm 10))),(wB 51 (AX FI (tm 50) (oN 0))),(wB 52 (AA (tm 51))),(wG 52 false 53 (AA (tm 13))),(wG 52 false 54 (AX FI (tm 53) (oN 0))),(wB 55 (Ac (tm 52) (O.c (V.b Bool.true)) (tm 54))),(wB 56 (AA (tm 55))),(wG 56 false 57 (AA (tm 12))),(wG 56 false 58 (AA (tm 9))),(wG 56 false 59 (BH (tm 58))),(wG 56 false 60 (AX FI (tm 57) (tm 59))),(wB 61 (Ac (tm 56) (O.c (V.b Bool.true)) (tm 60))),(wB 62 (AA (tm 61))),(wG 62 false 63 (Ah 5 (tm 4))),(wG 62 false 64 (Ah 5 (tm 11))),(wG 62 false 65 (AW 17 [(tm 63),(tm 64)])),(wG 62 false 66 (CN (tm 65))),(wB 67 (Ac (tm 62) (O.c (V.b Bool.true)) (tm 66))),(wB 68 (AA (tm 67))),(wG 68 false 69 (AA (tm 9))),(wG 68 false 70 (BH (tm 69))),(wG 68 false 71 (AX CY (tm 70) (oN 0))),(wB 72 (Ac (tm 68) (O.c (V.b Bool.true)) (tm 71)))]) v8)
abbrev v9:CC:=(CC.seq (CC.region [(wB 104 (AA (tm 18))),(wB 105 (AX CY (tm 104) (oN 0))),(wB 106 (AA (tm 105))),(wG 106 true 107 (Ah 5 (tm 4))),(wG 106 true 108 (Ah 5 (tm 16))),(wG 106 true 109 (AW 17 [(tm 107),(tm 108)])),(wB 110 (Ac (tm 106) (tm 109) (O.c (V.b Bool.false)))),(wB 111 (AA (tm 3))),(wB 112 (AX CY (tm 111) (O.c (V.i IntKind.u8 (Int.ofNat 0))))),(wB 113 (DF Bool.false (tm 110) (tm 112))),(wB 114 (AA (tm 113))),(wG 114 true 115 (AA (tm 21))),(wG 114 true 116 (AX CY (tm 115) (oN 12))),(wB 117 (Ac (tm 114) (tm 116) (O.c (V.b Bool.false)))),(wB 8 (AA (tm 117)))]) CC.ret)
abbrev pf:CC:=(CC.seq (CC.region [(wB 97 (AA (tm 9))),(wB 98 (AA (tm 15))),(wB 99 (Az (tm 97) none (some (tm 98)))),(wB 100 (AW 11 [(tm 99)])),(wB 96 (AA (tm 100))),(wB 101 (AH 0 (tm 96))),(wB 102 (AH 1 (tm 96))),(wB 103 (AH 2 (tm 96))),(wB 19 (BN 24 [(V.i IntKind.i64 (Int.ofNat 0)),(V.i IntKind.i64 (Int.ofNat 0)),(V.i IntKind.i64 (Int.ofNat 0)),(V.b Bool.false),V.l0])),(CO.mk G.none D.none Bool.true (CR.mk (Aq 5 (tm 19) (tm 101)))),(wB 20 (AA (tm 102))),(wB 21 (AA (tm 103)))]) v9)
abbrev kx:CC:=(CC.seq (CC.region [(wB 90 (AA (tm 14))),(wB 91 (Dl (tm 90))),(wB 92 (AW 11 [(tm 91)])),(wB 89 (AA (tm 92))),(wB 93 (AH 0 (tm 89))),(wB 94 (AH 1 (tm 89))),(wB 95 (AH 2 (tm 89))),(wB 16 (BN 24 [(V.i IntKind.i64 (Int.ofNat 0)),(V.i IntKind.i64 (Int.ofNat 0)),(V.i IntKind.i64 (Int.ofNat 0)),(V.b Bool.false),V.l0])),(CO.mk G.none D.none Bool.true (CR.mk (Aq 5 (tm 16) (tm 93)))),(wB 17 (AA (tm 94))),(wB 18 (AA (tm 95)))]) pf)
abbrev iU:CC:=(CC.seq (CC.region [(wB 80 (AA (tm 14))),(wB 81 (AA (tm 15))),(wB 82 (AA (tm 14))),(wB 83 (AA (tm 15))),(wB 84 (As 1 (tm 82) (tm 83))),(wB 85 (Aa (tm 84))),(wB 86 (AA (tm 3))),(wB 87 (AX Nv (tm 85) (tm 86))),(wB 88 (As 1 (tm 80) (tm 81))),(CO.mk G.none D.none Bool.true (CR.mk (Aq 1 (tm 88) (tm 87))))]) kx)
abbrev qD:CC:=(CC.seq (CC.region [(wB 75 (AA (tm 2))),(wB 76 (Bn IntKind.i64 (tm 75))),(wB 77 (AA (tm 14))),(wB 78 (CG (tm 77))),(wB 79 (EP (tm 76) (tm 78))),(wB 15 (AA (tm 79)))]) iU)
abbrev l8:CC:=(CC.seq (CC.region [(wB 73 (AA (tm 9))),(wB 74 (Hq 5 (tm 73))),(wB 14 (AA (tm 74)))]) qD)
abbrev jH:CC:=(CC.seq uz l8)
abbrev kB:CC:=(CC.seq (CC.region [(wB 43 (AA (tm 9))),(wB 44 (AA (tm 1))),(wB 45 (BE (tm 43) (tm 44))),(wB 46 (AW 11 [(tm 45)])),(wB 42 (AA (tm 46))),(wB 47 (AH 0 (tm 42))),(wB 48 (AH 1 (tm 42))),(wB 49 (AH 2 (tm 42))),(wB 11 (BN 24 [(V.i IntKind.i64 (Int.ofNat 0)),(V.i IntKind.i64 (Int.ofNat 0)),(V.i IntKind.i64 (Int.ofNat 0)),(V.b Bool.false),V.l0])),(CO.mk G.none D.none Bool.true (CR.mk (Aq 5 (tm 11) (tm 47)))),(wB 12 (AA (tm 48))),(wB 13 (AA (tm 49)))]) jH)
abbrev ox:CC:=(CC.seq (CC.region [(wB 38 (Ah 5 (tm 4))),(wB 39 (AW 9 [(tm 38)])),(wB 37 (AA (tm 39))),(wB 40 (AH 0 (tm 37))),(wB 41 (AH 1 (tm 37))),(wB 9 (AA (tm 40))),(wB 10 (AA (tm 41)))]) kB)
abbrev lk:CC:=(CC.seq vq ox)
abbrev rH:CC:=(CC.seq uK lk)
abbrev b4:CC:=(CC.seq (CC.region [(wB 4 (Cn 24 (tm 0))),(wB 8 (AA (O.c (V.b Bool.false))))]) rH)
theorem c4:AY Try.prog 4=⟨118,b4,[(Rs.tmp (AV 8))]⟩:=by kernel_rfl
abbrev vc:CC:=(CC.seq (CC.region [(wB 12 (AA (O.c (V.b Bool.false))))]) CC.ret)
abbrev vj:CC:=(CC.cond (tm 23) vc CC.skip)
abbrev te:CC:=(CC.seq (CC.region [(wB 22 (AW 7 [])),(wB 23 (CN (tm 22)))]) vj)
abbrev tk:CC:=(CC.cond (tm 34) CC.skip (CC.exit 0))
abbrev v5:CC:=(CC.seq (CC.region [(wB 32 (AA (tm 15))),(wB 33 (AA (tm 14))),(wB 34 (AX Cr (tm 32) (tm 33)))]) tk)
abbrev wC:CC:=(CC.region [(wB 37 (AG 4 (tm 13))),(wB 38 (Aa (tm 37))),(wB 39 (AA (tm 15))),(wB 40 (AX By (oN 97) (tm 39))),(wB 41 (Bn IntKind.u8 (tm 40))),(wB 42 (A9 5 1 [(V.i IntKind.u8 (Int.ofNat 0))] [(Pt.mk 0 1 (tm 41))])),(wB 43 (Dl (tm 42))),(wB 44 (B1 [(V.s 0 0),(V.b Bool.false),(V.s 0 0)] [(Pt.mk 0 1 (tm 43)),(Pt.mk 2 1 (O.c (V.s 1 118)))])),(wB 45 (A9 39 1 [(V.s 0 0),(V.b Bool.false),(V.s 0 0)] [(Pt.mk 0 3 (tm 44))])),(wB 46 (CE 39 3 (tm 38) (tm 45))),(wB 47 (AG 4 (tm 13))),(CO.mk G.none D.none Bool.true (CR.mk (Aq 1 (tm 47) (tm 46))))])
abbrev ua:CC:=(CC.block 1 wC)
abbrev wE:CC:=(CC.region [(wB 35 (AA (tm 15))),(wB 36 (AX By (tm 35) (oN 1))),(wB 15 (AA (tm 36)))])
abbrev vm:CC:=(CC.seq ua wE)
abbrev uA:CC:=(CC.seq v5 vm)
abbrev uD:CC:=(CC.loop uA)
abbrev lj:CC:=(CC.block 0 uD)
abbrev iz:CC:=(CC.seq (CC.region [(wB 15 (AA (oN 0)))]) lj)
abbrev nV:CC:=(CC.seq (CC.region [(wB 137 (Ah 5 (tm 13))),(wB 138 (AW 15 [(tm 137)])),(wB 139 (AA (tm 16))),(wB 140 (DF Bool.false (tm 138) (tm 139))),(wB 141 (AA (tm 140))),(wG 141 true 142 (AA (tm 21))),(wG 141 true 143 (AX CY (tm 142) (oN 0))),(wG 141 true 144 (AA (tm 16))),(wG 141 true 145 (DF Bool.false (tm 143) (tm 144))),(wB 146 (Ac (tm 141) (tm 145) (O.c (V.b Bool.false)))),(wB 147 (AA (tm 146))),(wG 147 true 148 (Ah 5 (tm 17))),(wG 147 true 149 (AW 15 [(tm 148)])),(wG 147 true 150 (AA (tm 19))),(wG 147 true 151 (DF Bool.false (tm 149) (tm 150))),(wB 152 (Ac (tm 147) (tm 151) (O.c (V.b Bool.false)))),(wB 12 (AA (tm 152)))]) CC.ret)
abbrev iu:CC:=(CC.seq (CC.region [(wB 133 (Ah 5 (tm 13))),(wB 134 (AW 9 [(tm 133)])),(wB 132 (AA (tm 134))),(wB 135 (AH 0 (tm 132))),(wB 136 (AH 1 (tm 132))),(wB 20 (AA (tm 135))),(wB 21 (AA (tm 136)))]) nV)
abbrev jc:CC:=(CC.seq (CC.region [(wB 102 (AA (tm 0))),(wB 103 (AX Gt (tm 102) (oN 0))),(wB 104 (AA (tm 103))),(wG 104 true 105 (AA (tm 0))),(wG 104 true 106 (AX Cr (tm 105) (oN 6))),(wB 107 (Ac (tm 104) (tm 106) (O.c (V.b Bool.false)))),(wB 108 (AA (tm 107))),(wG 108 true 109 (AA (tm 1))),(wG 108 true 110 (AX Gt (tm 109) (oN 1))),(wB 111 (Ac (tm 108) (tm 110) (O.c (V.b Bool.false)))),(wB 112 (AA (tm 111))),(wG 112 true 113 (AA (tm 1))),(wG 112 true 114 (AX Hn (tm 113) (oN 1000000))),(wB 115 (Ac (tm 112) (tm 114) (O.c (V.b Bool.false)))),(wB 116 (AA (tm 115))),(wG 116 true 117 (AA (tm 2))),(wG 116 true 118 (AX Gt (tm 117) (oN 0))),(wB 119 (Ac (tm 116) (tm 118) (O.c (V.b Bool.false)))),(wB 120 (AA (tm 119))),(wG 120 true 121 (AA (tm 2))),(wG 120 true 122 (AX Hn (tm 121) (oN 1000000))),(wB 123 (Ac (tm 120) (tm 122) (O.c (V.b Bool.false)))),(wB 124 (AA (tm 123))),(wG 124 true 125 (AA (tm 18))),(wG 124 true 126 (AX Gt (tm 125) (oN 1))),(wB 127 (Ac (tm 124) (tm 126) (O.c (V.b Bool.false)))),(wB 128 (AA (tm 127))),(wG 128 true 129 (AA (tm 18))),(wG 128 true 130 (AX Hn (tm 129) (oN 12))),(wB 131 (Ac (tm 128) (tm 130) (O.c (V.b Bool.false)))),(wB 19 (AA (tm 131)))]) iu)
abbrev rl:CC:=(CC.seq (CC.region [(wB 99 (AA (tm 5))),(wB 100 (EP (tm 99) (O.c (V.i IntKind.u8 (Int.ofNat 16))))),(wB 101 (Bn IntKind.i64 (tm 100))),(wB 18 (AA (tm 101)))]) jc)
abbrev sl:CC:=(CC.seq (CC.region [(wB 98 (AG 3 (tm 17))),(CO.mk G.none D.none Bool.true (CR.mk (Aq 1 (tm 98) (O.c (V.b Bool.false)))))]) rl)
abbrev jS:CC:=(CC.seq (CC.region [(wB 90 (AA (tm 5))),(wB 91 (EP (tm 90) (O.c (V.i IntKind.u8 (Int.ofNat 16))))),(wB 92 (Bn IntKind.i64 (tm 91))),(wB 93 (Dp 5 [(V.i IntKind.u8 (Int.ofNat 0))] (tm 92) (tm 92))),(wB 94 (Dl (tm 93))),(wB 95 (B1 [(V.s 0 0),(V.b Bool.false),(V.s 0 0)] [(Pt.mk 0 1 (tm 94))])),(wB 96 (A9 39 1 [(V.s 0 0),(V.b Bool.false),(V.s 0 0)] [(Pt.mk 0 3 (tm 95))])),(wB 97 (AG 4 (tm 17))),(CO.mk G.none D.none Bool.true (CR.mk (Aq 1 (tm 97) (tm 96))))]) sl)
abbrev nq:CC:=(CC.seq (CC.region [(wB 89 (Ah 5 (tm 13))),(wB 17 (BN 24 [(V.i IntKind.i64 (Int.ofNat 0)),(V.i IntKind.i64 (Int.ofNat 0)),(V.i IntKind.i64 (Int.ofNat 0)),(V.b Bool.false),V.l0])),(CO.mk G.none D.none Bool.true (CR.mk (Aq 5 (tm 17) (tm 89))))]) jS)
abbrev jj:CC:=(CC.seq (CC.region [(wB 48 (AA (tm 0))),(wB 49 (AX Gt (tm 48) (oN 0))),(wB 50 (AA (tm 49))),(wG 50 true 51 (AA (tm 0))),(wG 50 true 52 (AX Cr (tm 51) (oN 6))),(wB 53 (Ac (tm 50) (tm 52) (O.c (V.b Bool.false)))),(wB 54 (AA (tm 53))),(wG 54 true 55 (AA (tm 1))),(wG 54 true 56 (AX Gt (tm 55) (oN 1))),(wB 57 (Ac (tm 54) (tm 56) (O.c (V.b Bool.false)))),(wB 58 (AA (tm 57))),(wG 58 true 59 (AA (tm 1))),(wG 58 true 60 (AX Hn (tm 59) (oN 1000000))),(wB 61 (Ac (tm 58) (tm 60) (O.c (V.b Bool.false)))),(wB 62 (AA (tm 61))),(wG 62 true 63 (AA (tm 2))),(wG 62 true 64 (AX Gt (tm 63) (oN 0))),(wB 65 (Ac (tm 62) (tm 64) (O.c (V.b Bool.false)))),(wB 66 (AA (tm 65))),(wG 66 true 67 (AA (tm 2))),(wG 66 true 68 (AX Hn (tm 67) (oN 1000000))),(wB 69 (Ac (tm 66) (tm 68) (O.c (V.b Bool.false)))),(wB 70 (AA (tm 69))),(wG 70 true 71 (AA (tm 3))),(wG 70 true 72 (AA (tm 71))),(wG 72 true 73 (AA (tm 14))),(wG 72 true 74 (AX CY (tm 73) (oN 0))),(wG 70 true 75 (Ac (tm 72) (tm 74) (O.c (V.b Bool.false)))),(wG 70 true 76 (AA (tm 75))),(wG 76 false 77 (AA (tm 3))),(wG 76 false 78 (CN (tm 77))),(wG 76 false 79 (AA (tm 78))),(wG 79 true 80 (AA (tm 14))),(wG 79 true 81 (AX Gt (tm 80) (oN 1))),(wG 76 false 82 (Ac (tm 79) (tm 81) (O.c (V.b Bool.false)))),(wG 76 false 83 (AA (tm 82))),(wG 83 true 84 (AA (tm 14))),(wG 83 true 85 (AX Hn (tm 84) (oN 8))),(wG 76 false 86 (Ac (tm 83) (tm 85) (O.c (V.b Bool.false)))),(wG 70 true 87 (Ac (tm 76) (O.c (V.b Bool.true)) (tm 86))),(wB 88 (Ac (tm 70) (tm 87) (O.c (V.b Bool.false)))),(wB 16 (AA (tm 88)))]) nq)
abbrev pq:CC:=(CC.seq iz jj)
abbrev ri:CC:=(CC.seq (CC.region [(wB 29 (AA (tm 4))),(wB 30 (EP (tm 29) (O.c (V.i IntKind.u8 (Int.ofNat 11))))),(wB 31 (Bn IntKind.i64 (tm 30))),(wB 14 (AA (tm 31)))]) pq)
abbrev rv:CC:=(CC.seq (CC.region [(wB 24 (AA (tm 0))),(wB 25 (AA (tm 1))),(wB 26 (AA (tm 2))),(wB 27 (AA (tm 3))),(wB 28 (B1 [(V.i IntKind.i64 (Int.ofNat 0)),(V.i IntKind.i64 (Int.ofNat 0)),(V.i IntKind.i64 (Int.ofNat 0)),(V.b Bool.false),V.l0] [(Pt.mk 0 1 (tm 24)),(Pt.mk 1 1 (tm 25)),(Pt.mk 2 1 (tm 26)),(Pt.mk 3 1 (tm 27))])),(wB 13 (BN 24 [(V.i IntKind.i64 (Int.ofNat 0)),(V.i IntKind.i64 (Int.ofNat 0)),(V.i IntKind.i64 (Int.ofNat 0)),(V.b Bool.false),V.l0])),(CO.mk G.none D.none Bool.true (CR.mk (Aq 5 (tm 13) (tm 28))))]) ri)
abbrev jv:CC:=(CC.seq te rv)
abbrev b5:CC:=(CC.seq (CC.region [(wB 12 (AA (O.c (V.b Bool.false))))]) jv)
theorem c5:AY Try.prog 5=⟨153,b5,[(Rs.tmp (AV 12))]⟩:=by kernel_rfl
abbrev uT:CC:=(CC.seq (CC.region [(wB 2 (AA (O.c (V.b Bool.false))))]) CC.ret)
abbrev tv:CC:=(CC.cond (tm 17) uT CC.skip)
abbrev td:CC:=(CC.seq (CC.region [(wB 16 (AW 7 [])),(wB 17 (CN (tm 16)))]) tv)
abbrev vR:CC:=(CC.seq (CC.region [(wB 2 (AA (O.c (V.b Bool.true))))]) CC.ret)
abbrev uC:CC:=(CC.cond (tm 20) vR CC.skip)
abbrev uL:CC:=(CC.seq (CC.region [(wB 18 (AA (tm 0))),(wB 19 (CG (tm 18))),(wB 20 (AX C6 (tm 19) (oN 12)))]) uC)
abbrev tc:CC:=(CC.cond (tm 24) CC.skip (CC.exit 0))
abbrev vZ:CC:=(CC.seq (CC.region [(wB 21 (AA (tm 5))),(wB 22 (AA (tm 0))),(wB 23 (CG (tm 22))),(wB 24 (AX Cr (tm 21) (tm 23)))]) tc)
abbrev vf:CC:=(CC.seq (CC.region [(wB 2 (AA (O.c (V.b Bool.true))))]) CC.ret)
abbrev vi:CC:=(CC.cond (tm 32) vf CC.skip)
abbrev ir:CC:=(CC.seq (CC.region [(wB 27 (AA (tm 0))),(wB 28 (AA (tm 5))),(wB 29 (As 5 (tm 27) (tm 28))),(wB 30 (Ah 5 (tm 29))),(wB 31 (AW 8 [(tm 30)])),(wB 32 (CN (tm 31)))]) vi)
abbrev pT:CC:=(CC.region [(wB 46 (AA (tm 4))),(wB 47 (AA (tm 0))),(wB 48 (AA (tm 5))),(wB 49 (As 5 (tm 47) (tm 48))),(wB 50 (Ah 5 (tm 49))),(wB 51 (A9 24 1 [(V.i IntKind.i64 (Int.ofNat 0)),(V.i IntKind.i64 (Int.ofNat 0)),(V.i IntKind.i64 (Int.ofNat 0)),(V.b Bool.false),V.l0] [(Pt.mk 0 5 (tm 50))])),(wB 52 (CE 24 5 (tm 46) (tm 51))),(wB 4 (AA (tm 52)))])
abbrev nF:CC:=(CC.seq (CC.region [(wB 43 (AA (tm 3))),(wB 44 (AA (tm 6))),(wB 45 (BE (tm 43) (tm 44))),(wB 3 (AA (tm 45)))]) pT)
abbrev sR:CC:=(CC.cond (tm 42) nF CC.skip)
abbrev sB:CC:=(CC.seq (CC.region [(wB 41 (AA (tm 7))),(wB 42 (AX CY (tm 41) (oN 0)))]) sR)
abbrev pZ:CC:=(CC.seq (CC.region [(wB 34 (AA (tm 0))),(wB 35 (AA (tm 5))),(wB 36 (As 5 (tm 34) (tm 35))),(wB 37 (Ah 5 (tm 36))),(wB 38 (AW 9 [(tm 37)])),(wB 33 (AA (tm 38))),(wB 39 (AH 0 (tm 33))),(wB 40 (AH 1 (tm 33))),(wB 6 (AA (tm 39))),(wB 7 (AA (tm 40)))]) sB)
abbrev tT:CC:=(CC.seq ir pZ)
abbrev lX:CC:=(CC.block 1 tT)
abbrev mI:CC:=(CC.region [(wB 25 (AA (tm 5))),(wB 26 (AX By (tm 25) (oN 1))),(wB 5 (AA (tm 26)))])
abbrev nA:CC:=(CC.seq lX mI)
abbrev wL:CC:=(CC.seq vZ nA)
abbrev rf:CC:=(CC.loop wL)
abbrev pC:CC:=(CC.block 0 rf)
abbrev ky:CC:=(CC.seq (CC.region [(wB 5 (AA (oN 0)))]) pC)
abbrev il:CC:=(CC.cond (tm 56) CC.skip (CC.exit 2))
abbrev p7:CC:=(CC.seq (CC.region [(wB 53 (AA (tm 9))),(wB 54 (AA (tm 4))),(wB 55 (CG (tm 54))),(wB 56 (AX Cr (tm 53) (tm 55)))]) il)
abbrev oD:CC:=(CC.seq (CC.region [(wB 2 (AA (O.c (V.b Bool.false))))]) CC.ret)
abbrev gk:CC:=(CC.cond (tm 81) oD CC.skip)
abbrev iK:CC:=(CC.seq (CC.Bg [(uB 67 (AA (tm 12))),(uB 68 (AX FI (tm 67) (oN 0))),(uB 69 (AA (tm 68))),(uG 69 false 70 (AA (tm 11))),(uG 69 false 71 (AX Cr (tm 70) (oN 1))),(uB 72 (Ac (tm 69) (O.c (V.b Bool.true)) (tm 71))),(uB 73 (AA (tm 72))),(uG 73 false 74 (Ah 5 (tm 10))),(uG 73 false 75 (AA (tm 4))),(uG 73 false 76 (AA (tm 9))),(uG 73 false 77 (As 5 (tm 75) (tm 76))),(uG 73 false 78 (Ah 5 (tm 77))),(wG 73 false 79 (AW 17 [(tm 74),(tm 78)])),(uG 73 false 80 (CN (tm 79))),(uB 81 (Ac (tm 73) (O.c (V.b Bool.true)) (tm 80)))] none) gk)
abbrev jO:CC:=(CC.region [(wB 82 (AA (tm 8))),(wB 83 (AA (tm 11))),(wB 84 (AX By (tm 82) (tm 83))),(wB 8 (AA (tm 84)))])
abbrev k8:CC:=(CC.seq iK jO)
abbrev gd:CC:=(CC.seq (CC.region [(wB 60 (AA (tm 3))),(wB 61 (AA (tm 8))),(wB 62 (Az (tm 60) (some (tm 61)) none)),(wB 63 (AW 11 [(tm 62)])),(wB 59 (AA (tm 63))),(wB 64 (AH 0 (tm 59))),(wB 65 (AH 1 (tm 59))),(wB 66 (AH 2 (tm 59))),(wB 10 (BN 24 [(V.i IntKind.i64 (Int.ofNat 0)),(V.i IntKind.i64 (Int.ofNat 0)),(V.i IntKind.i64 (Int.ofNat 0)),(V.b Bool.false),V.l0])),(CO.mk G.none D.none Bool.true (CR.mk (Aq 5 (tm 10) (tm 64)))),(wB 11 (AA (tm 65))),(wB 12 (AA (tm 66)))]) k8)
abbrev nM:CC:=(CC.block 3 gd)
abbrev pD:CC:=(CC.region [(wB 57 (AA (tm 9))),(wB 58 (AX By (tm 57) (oN 1))),(wB 9 (AA (tm 58)))])
abbrev p8:CC:=(CC.seq nM pD)
abbrev wM:CC:=(CC.seq p7 p8)
abbrev mQ:CC:=(CC.loop wM)
abbrev n0:CC:=(CC.block 2 mQ)
abbrev lI:CC:=(CC.seq (CC.region [(wB 9 (AA (oN 0)))]) n0)
abbrev oh:CC:=(CC.seq (CC.region [(wB 93 (AA (tm 8))),(wB 94 (AA (tm 3))),(wB 95 (BH (tm 94))),(wB 96 (AX CY (tm 93) (tm 95))),(wB 97 (AA (tm 96))),(wG 97 true 98 (AA (tm 15))),(wG 97 true 99 (AX CY (tm 98) (oN 12))),(wB 100 (Ac (tm 97) (tm 99) (O.c (V.b Bool.false)))),(wB 2 (AA (tm 100)))]) CC.ret)
abbrev tC:CC:=(CC.seq (CC.region [(wB 86 (AA (tm 3))),(wB 87 (AA (tm 8))),(wB 88 (Az (tm 86) (some (tm 87)) none)),(wB 89 (AW 11 [(tm 88)])),(wB 85 (AA (tm 89))),(wB 90 (AH 0 (tm 85))),(wB 91 (AH 1 (tm 85))),(wB 92 (AH 2 (tm 85))),(wB 13 (BN 24 [(V.i IntKind.i64 (Int.ofNat 0)),(V.i IntKind.i64 (Int.ofNat 0)),(V.i IntKind.i64 (Int.ofNat 0)),(V.b Bool.false),V.l0])),(CO.mk G.none D.none Bool.true (CR.mk (Aq 5 (tm 13) (tm 90)))),(wB 14 (AA (tm 91))),(wB 15 (AA (tm 92)))]) oh)
abbrev tR:CC:=(CC.seq lI tC)
abbrev nu:CC:=(CC.seq (CC.region [(wB 8 (AA (oN 0)))]) tR)
abbrev pb:CC:=(CC.seq ky nu)
abbrev sD:CC:=(CC.seq (CC.region [(wB 4 (AA (O.c V.l0)))]) pb)
abbrev iT:CC:=(CC.seq (CC.region [(wB 3 (AA (O.c (V.s 0 0))))]) sD)
abbrev qI:CC:=(CC.seq uL iT)
abbrev qA:CC:=(CC.seq td qI)
abbrev b6:CC:=(CC.seq (CC.region [(wB 2 (AA (O.c (V.b Bool.false))))]) qA)
theorem c6:AY Try.prog 6=⟨101,b6,[(Rs.tmp (AV 2))]⟩:=by kernel_rfl
end Go.Proofs.Ytmlcddeikgechaa
set_option maxRecDepth 100000
set_option maxHeartbeats 8000000
namespace Go.Proofs.Ytmlcddeikgechaa
open Go Go.Ev
theorem Nw {x:Em} (h:OI x=true):x.ws.length<=12:=by
 unfold OI at h;rw[Bool.and_eq_true]at h;exact of_decide_eq_true h.2
theorem RM (s:List UInt8):(An s).1.ws.length<=8:=by
 rcases OX s with⟨e,e1,_⟩|⟨z,n,e1,e2,_⟩
 ·rw[e1];exact Nat.zero_le _
 ·rw[e1];exact Gc (Hh e2)
end Go.Proofs.Ytmlcddeikgechaa
set_option maxRecDepth 100000
set_option maxHeartbeats 8000000
namespace Go.Proofs.Ytmlcddeikgechaa
open Go Go.Ev
theorem mY {h:H} {v:V} {L:List Bs} (a:Ws h v L):∀ q,BT v q->B.val q<B.val h.next:=by
 intro q hq
 obtain⟨g,off,m,fin,cap,rfl⟩:=hq
 rcases a with⟨e,_⟩|⟨id,g',off',fin',cap',e,_,hl,_⟩
 ·cases e
 ·cases e;exact hl
/--five boxes -/
def Jn (b3 b4 Oo PQ PC:B) (A B P Q W:List V) (g:H):Prop:=Ev.Own g b3 A/\Ev.Own g b4 B/\Ev.Own g Oo P/\Ev.Own g PQ Q/\Ev.Own g PC W
theorem Jn.stay {b3 b4 Oo PQ PC:B} {A B P Q W:List V} {g g':H} (a:Jn b3 b4 Oo PQ PC A B P Q W g) (s:AZ AM g g'):Jn b3 b4 Oo PQ PC A B P Q W g':=
 ⟨a.1.stay s fun e=>e,a.2.1.stay s fun e=>e,a.2.2.1.stay s fun e=>e,a.2.2.2.1.stay s fun e=>e,a.2.2.2.2.stay s fun e=>e⟩
theorem Jn.nJ {b3 b4 Oo PQ PC:B} {x3 x4 x11 x14 x17:List V} {h g g':H} {c:V} (a0:Jn b3 b4 Oo PQ PC x3 x4 x11 x14 x17 h) (a:Jn b3 b4 Oo PQ PC x3 x4 x11 x14 x17 g) (s:AZ (BT c) g g') (co:∀ q,BT c q->B.val h.next<=B.val q):Jn b3 b4 Oo PQ PC x3 x4 x11 x14 x17 g':=
 ⟨a.1.stay s fun e=>Nat.not_lt.2 (co _ e) (C4 a0.1),a.2.1.stay s fun e=>Nat.not_lt.2 (co _ e) (C4 a0.2.1),a.2.2.1.stay s fun e=>Nat.not_lt.2 (co _ e) (C4 a0.2.2.1),a.2.2.2.1.stay s fun e=>Nat.not_lt.2 (co _ e) (C4 a0.2.2.2.1),a.2.2.2.2.stay s fun e=>Nat.not_lt.2 (co _ e) (C4 a0.2.2.2.2)⟩
theorem TT {T:F} {g0:H} {b3 b4 Oo PQ PC:B} {v v2 u1 u2 w:V} {lv n tn lv2 m2 tn2:Int} {sh sh2:Bool} {ws ws2:List Bs} {s:List UInt8} {Q:V->H->Prop}
 (R0:Jn b3 b4 Oo PQ PC [.i .i64 lv,.i .i64 n,.i .i64 tn,.b sh,v] [.i .i64 lv2,.i .i64 m2,.i .i64 tn2,.b sh2,v2] [.i .i64 (An s).1.lv,.i .i64 (An s).1.n,.i .i64 (An s).1.tn,.b (An s).1.sh,u1] [.i .i64 (An s).1.lv,.i .i64 (An s).1.n,.i .i64 (An s).1.tn,.b (An s).1.sh,u2] [.i .i64 lv,.i .i64 n,.i .i64 tn,.b sh,w] g0)
 (hA0:Ws g0 v ws) (sw:LS 3 v) (hB0:Ws g0 v2 ws2) (hp0:Ws g0 u1 (An s).1.ws) (hq0:Ws g0 u2 (An s).1.ws) (hw0:Ws g0 w ws) (hl1:ws.length<=12) (hl2:ws2.length<=12) (hf0:B.val g0.floor<=B.val g0.next)
 (f3:get 3 T=.p b3 0 0 5) (f4:get 4 T=.p b4 0 0 5) (f7:get 7 T=sv (Ec ⟨lv,n,tn,sh,ws⟩).1) (f8:get 8 T=.i .i64 (if F7 ⟨lv,n,tn,sh,ws⟩then 0 else 10)) (f9:get 9 T=sv (Ec ⟨lv,n,tn,sh,ws⟩).1) (f10:get 10 T=.b (F7 ⟨lv,n,tn,sh,ws⟩))
 (f11:get 11 T=.p Oo 0 0 5) (f12:get 12 T=.i .i64 (An s).2.1) (f13:get 13 T=.i .i64 (An s).2.2) (f14:get 14 T=.p PQ 0 0 5) (f15:get 15 T=.i .i64 (An s).2.1) (f16:get 16 T=.i .i64 (An s).2.2) (f17:get 17 T=.p PC 0 0 5)
 (hQ:Q=fun r _=>r=.b true):Ok Try.prog 128 UX T g0 (PM [Rs.tmp (AV 6)] Q):=by
 have h8:=RM s
 obtain⟨D,hD⟩:∃ D,decide ((⟨lv,n,tn,sh,ws⟩:Em)=⟨lv2,m2,tn2,sh2,ws2⟩)=D:=⟨_,rfl⟩
 cases hI:F7 ⟨lv,n,tn,sh,ws⟩with
 |true=>
  rw[hI]at f8 f10
  simp only[if_true,Bool.false_eq_true,if_false]at f8
  repeat' (first
   |with_reducible refine HW ?_
   |refine St.h ?_
   |simp(disch:=first|omega|(simp only[AJ];omega))only[AK,↓AB,↓reduceIte,seval,f3,f4,f7,f8,f9,f10,f11,f12,f13,f14,f15,f16,f17]
   |(with_reducible (first|apply AD|apply AE))<;>(intro hc;(try simp only[AR]at hc);(try simp only[hc]);(try simp only[AQ]at hc);try omega))
  refine Ok.JU Pa [0,2,6,7,9,10,34,35,49,50] 37 (Jn b3 b4 Oo PQ PC _ _ _ _ _) (by decide) (by decide) R0 ?_
  refine D1 (.a [.i .i64 lv,.i .i64 n,.i .i64 tn,.b sh,v]) R0 (fun g hg=>by simp(disch:=first|omega|(simp only[AJ];omega))only[AK,↓AB,↓reduceIte,seval,f3,f4,f7,f8,f9,f10,f11,f12,f13,f14,f15,f16,f17,hg.1.row.l1,hg.1.row.ln]) ?_
  refine Ao (by decide) ?_
  repeat' (first
   |refine St.h ?_
   |simp(disch:=first|omega|(simp only[AJ];omega))only[AK,↓AB,↓reduceIte,seval,f3,f4,f7,f8,f9,f10,f11,f12,f13,f14,f15,f16,f17,Bool.xor_self,Bool.false_xor]
   |(with_reducible (first|apply AD|apply AE))<;>(intro hc;(try simp only[AR]at hc);(try simp only[hc]);(try simp only[AQ]at hc);try omega))
  refine CL.stay (VY hA0 sw (by omega) hf0) fun g1 s1=>?_
  rw[hI]
  have R1:=R0.stay s1
  have hf1:=s1.fl hf0
  have hA1:=hA0.grow s1
  have hB1:=hB0.grow s1
  have hp1:=hp0.grow s1
  have hq1:=hq0.grow s1
  have hw1:=hw0.grow s1
  repeat' (first
   |refine St.h ?_
   |simp(disch:=first|omega|(simp only[AJ];omega))only[AK,↓AB,↓reduceIte,seval,f3,f4,f7,f8,f9,f10,f11,f12,f13,f14,f15,f16,f17,Bool.xor_self,Bool.false_xor]
   |(with_reducible (first|apply AD|apply AE))<;>(intro hc;(try simp only[AR]at hc);(try simp only[hc]);(try simp only[AQ]at hc);try omega))
  refine⟨fun _=>R1,?_⟩
  refine D1 (.a [.i .i64 lv,.i .i64 n,.i .i64 tn,.b sh,v]) R1 (fun g hg=>by simp(disch:=first|omega|(simp only[AJ];omega))only[AK,↓AB,↓reduceIte,seval,f3,f4,f7,f8,f9,f10,f11,f12,f13,f14,f15,f16,f17,hg.1.row.l1,hg.1.row.ln]) ?_
  refine Ao (by decide) ?_
  repeat' (first
   |refine St.h ?_
   |simp(disch:=first|omega|(simp only[AJ];omega))only[AK,↓AB,↓reduceIte,seval,f3,f4,f7,f8,f9,f10,f11,f12,f13,f14,f15,f16,f17,Bool.xor_self,Bool.false_xor]
   |(with_reducible (first|apply AD|apply AE))<;>(intro hc;(try simp only[AR]at hc);(try simp only[hc]);(try simp only[AQ]at hc);try omega))
  refine CL.stay (Kn hA1 (by omega) hf1) fun g2 s2=>?_
  rw[hI]
  have R2:=R1.stay s2
  have hf2:=s2.fl hf1
  have hA2:=hA1.grow s2
  have hB2:=hB1.grow s2
  have hp2:=hp1.grow s2
  have hq2:=hq1.grow s2
  have hw2:=hw1.grow s2
  repeat' (first
   |refine St.h ?_
   |simp(disch:=first|omega|(simp only[AJ];omega))only[AK,↓AB,↓reduceIte,seval,f3,f4,f7,f8,f9,f10,f11,f12,f13,f14,f15,f16,f17,Bool.xor_self,Bool.false_xor]
   |(with_reducible (first|apply AD|apply AE))<;>(intro hc;(try simp only[AR]at hc);(try simp only[hc]);(try simp only[AQ]at hc);try omega))
  refine⟨fun _=>R2,?_⟩
  refine Ao (by decide) ?_
  repeat' (first
   |refine St.h ?_
   |simp(disch:=first|omega|(simp only[AJ];omega))only[AK,↓AB,↓reduceIte,seval,f3,f4,f7,f8,f9,f10,f11,f12,f13,f14,f15,f16,f17,Bool.xor_self,Bool.false_xor]
   |(with_reducible (first|apply AD|apply AE))<;>(intro hc;(try simp only[AR]at hc);(try simp only[hc]);(try simp only[AQ]at hc);try omega))
  refine⟨fun _=>R2,?_⟩
  refine Ao (by decide) ?_
  repeat' (first
   |refine St.h ?_
   |simp(disch:=first|omega|(simp only[AJ];omega))only[AK,↓AB,↓reduceIte,seval,f3,f4,f7,f8,f9,f10,f11,f12,f13,f14,f15,f16,f17,Bool.xor_self,Bool.false_xor]
   |(with_reducible (first|apply AD|apply AE))<;>(intro hc;(try simp only[AR]at hc);(try simp only[hc]);(try simp only[AQ]at hc);try omega))
  refine⟨fun _=>R2,?_⟩
  refine DV (.a [.i .i64 lv,.i .i64 n,.i .i64 tn,.b sh,v]) (by simp(disch:=first|omega|(simp only[AJ];omega))only[AK,↓AB,↓reduceIte,seval,f3,f4,f7,f8,f9,f10,f11,f12,f13,f14,f15,f16,f17]) R2 (fun g hg=>by simp(disch:=first|omega|(simp only[AJ];omega))only[AK,↓AB,↓reduceIte,seval,f3,f4,f7,f8,f9,f10,f11,f12,f13,f14,f15,f16,f17,hg.1.row.l1,hg.1.row.ln]) ?_
  refine DV (.a [.i .i64 lv2,.i .i64 m2,.i .i64 tn2,.b sh2,v2]) (by simp(disch:=first|omega|(simp only[AJ];omega))only[AK,↓AB,↓reduceIte,seval,f3,f4,f7,f8,f9,f10,f11,f12,f13,f14,f15,f16,f17]) R2 (fun g hg=>by simp(disch:=first|omega|(simp only[AJ];omega))only[AK,↓AB,↓reduceIte,seval,f3,f4,f7,f8,f9,f10,f11,f12,f13,f14,f15,f16,f17,hg.2.1.row.l1,hg.2.1.row.ln]) ?_
  refine Ba (by decide) ?_
  repeat' (first
   |refine St.h ?_
   |simp(disch:=first|omega|(simp only[AJ];omega))only[AK,↓AB,↓reduceIte,seval,f3,f4,f7,f8,f9,f10,f11,f12,f13,f14,f15,f16,f17,Bool.xor_self,Bool.false_xor]
   |(with_reducible (first|apply AD|apply AE))<;>(intro hc;(try simp only[AR]at hc);(try simp only[hc]);(try simp only[AQ]at hc);try omega))
  refine CL.stay (OZ hA2 hB2 (by omega) (by omega) hf2) fun g3 s3=>?_
  rw[hD]
  have R3:=R2.stay s3
  have hf3:=s3.fl hf2
  have hA3:=hA2.grow s3
  have hB3:=hB2.grow s3
  have hp3:=hp2.grow s3
  have hq3:=hq2.grow s3
  have hw3:=hw2.grow s3
  repeat' (first
   |refine St.h ?_
   |simp(disch:=first|omega|(simp only[AJ];omega))only[AK,↓AB,↓reduceIte,seval,f3,f4,f7,f8,f9,f10,f11,f12,f13,f14,f15,f16,f17,Bool.xor_self,Bool.false_xor]
   |(with_reducible (first|apply AD|apply AE))<;>(intro hc;(try simp only[AR]at hc);(try simp only[hc]);(try simp only[AQ]at hc);try omega))
  refine⟨fun _=>R3,?_⟩
  refine DV (.a [.i .i64 lv,.i .i64 n,.i .i64 tn,.b sh,v]) (by simp(disch:=first|omega|(simp only[AJ];omega))only[AK,↓AB,↓reduceIte,seval,f3,f4,f7,f8,f9,f10,f11,f12,f13,f14,f15,f16,f17]) R3 (fun g hg=>by simp(disch:=first|omega|(simp only[AJ];omega))only[AK,↓AB,↓reduceIte,seval,f3,f4,f7,f8,f9,f10,f11,f12,f13,f14,f15,f16,f17,hg.1.row.l1,hg.1.row.ln]) ?_
  refine DV (.a [.i .i64 lv2,.i .i64 m2,.i .i64 tn2,.b sh2,v2]) (by simp(disch:=first|omega|(simp only[AJ];omega))only[AK,↓AB,↓reduceIte,seval,f3,f4,f7,f8,f9,f10,f11,f12,f13,f14,f15,f16,f17]) R3 (fun g hg=>by simp(disch:=first|omega|(simp only[AJ];omega))only[AK,↓AB,↓reduceIte,seval,f3,f4,f7,f8,f9,f10,f11,f12,f13,f14,f15,f16,f17,hg.2.1.row.l1,hg.2.1.row.ln]) ?_
  refine Ba (by decide) ?_
  repeat' (first
   |refine St.h ?_
   |simp(disch:=first|omega|(simp only[AJ];omega))only[AK,↓AB,↓reduceIte,seval,f3,f4,f7,f8,f9,f10,f11,f12,f13,f14,f15,f16,f17,Bool.xor_self,Bool.false_xor]
   |(with_reducible (first|apply AD|apply AE))<;>(intro hc;(try simp only[AR]at hc);(try simp only[hc]);(try simp only[AQ]at hc);try omega))
  refine CL.stay (Dg hA3 hB3 (by omega) (by omega) hf3) fun g4 s4=>?_
  rw[hD]
  have R4:=R3.stay s4
  have hf4:=s4.fl hf3
  have hA4:=hA3.grow s4
  have hB4:=hB3.grow s4
  have hp4:=hp3.grow s4
  have hq4:=hq3.grow s4
  have hw4:=hw3.grow s4
  repeat' (first
   |refine St.h ?_
   |simp(disch:=first|omega|(simp only[AJ];omega))only[AK,↓AB,↓reduceIte,seval,f3,f4,f7,f8,f9,f10,f11,f12,f13,f14,f15,f16,f17,Bool.xor_self,Bool.false_xor]
   |(with_reducible (first|apply AD|apply AE))<;>(intro hc;(try simp only[AR]at hc);(try simp only[hc]);(try simp only[AQ]at hc);try omega))
  refine⟨fun _=>R4,?_⟩
  refine Ba (by decide) ?_
  repeat' (first
   |refine St.h ?_
   |simp(disch:=first|omega|(simp only[AJ];omega))only[AK,↓AB,↓reduceIte,seval,f3,f4,f7,f8,f9,f10,f11,f12,f13,f14,f15,f16,f17,Bool.xor_self,Bool.false_xor]
   |(with_reducible (first|apply AD|apply AE))<;>(intro hc;(try simp only[AR]at hc);(try simp only[hc]);(try simp only[AQ]at hc);try omega))
  refine⟨fun _=>R4,?_⟩
  refine Ao (by decide) ?_
  repeat' (first
   |refine St.h ?_
   |simp(disch:=first|omega|(simp only[AJ];omega))only[AK,↓AB,↓reduceIte,seval,f3,f4,f7,f8,f9,f10,f11,f12,f13,f14,f15,f16,f17,Bool.xor_self,Bool.false_xor]
   |(with_reducible (first|apply AD|apply AE))<;>(intro hc;(try simp only[AR]at hc);(try simp only[hc]);(try simp only[AQ]at hc);try omega))
  refine⟨fun _=>R4,?_⟩
  refine Ao (by decide) ?_
  repeat' (first
   |refine St.h ?_
   |simp(disch:=first|omega|(simp only[AJ];omega))only[AK,↓AB,↓reduceIte,seval,f3,f4,f7,f8,f9,f10,f11,f12,f13,f14,f15,f16,f17,Bool.xor_self,Bool.false_xor]
   |(with_reducible (first|apply AD|apply AE))<;>(intro hc;(try simp only[AR]at hc);(try simp only[hc]);(try simp only[AQ]at hc);try omega))
  refine⟨fun _=>R4,?_⟩
  refine Ba (by decide) ?_
  repeat' (first
   |refine St.h ?_
   |simp(disch:=first|omega|(simp only[AJ];omega))only[AK,↓AB,↓reduceIte,seval,f3,f4,f7,f8,f9,f10,f11,f12,f13,f14,f15,f16,f17,Bool.xor_self,Bool.false_xor]
   |(with_reducible (first|apply AD|apply AE))<;>(intro hc;(try simp only[AR]at hc);(try simp only[hc]);(try simp only[AQ]at hc);try omega))
  refine⟨fun _=>R4,?_⟩
  refine Ba (by decide) ?_
  repeat' (first
   |refine St.h ?_
   |simp(disch:=first|omega|(simp only[AJ];omega))only[AK,↓AB,↓reduceIte,seval,f3,f4,f7,f8,f9,f10,f11,f12,f13,f14,f15,f16,f17,Bool.xor_self,Bool.false_xor]
   |(with_reducible (first|apply AD|apply AE))<;>(intro hc;(try simp only[AR]at hc);(try simp only[hc]);(try simp only[AQ]at hc);try omega))
  refine⟨fun _=>R4,?_⟩
  refine Ba (by decide) ?_
  repeat' (first
   |refine St.h ?_
   |simp(disch:=first|omega|(simp only[AJ];omega))only[AK,↓AB,↓reduceIte,seval,f3,f4,f7,f8,f9,f10,f11,f12,f13,f14,f15,f16,f17,Bool.xor_self,Bool.false_xor]
   |(with_reducible (first|apply AD|apply AE))<;>(intro hc;(try simp only[AR]at hc);(try simp only[hc]);(try simp only[AQ]at hc);try omega))
  refine⟨fun _=>R4,?_⟩
  refine Ao (by decide) ?_
  repeat' (first
   |refine St.h ?_
   |simp(disch:=first|omega|(simp only[AJ];omega))only[AK,↓AB,↓reduceIte,seval,f3,f4,f7,f8,f9,f10,f11,f12,f13,f14,f15,f16,f17,Bool.xor_self,Bool.false_xor]
   |(with_reducible (first|apply AD|apply AE))<;>(intro hc;(try simp only[AR]at hc);(try simp only[hc]);(try simp only[AQ]at hc);try omega))
  refine⟨fun _=>R4,?_⟩
  refine Ao (by decide) ?_
  repeat' (first
   |refine St.h ?_
   |simp(disch:=first|omega|(simp only[AJ];omega))only[AK,↓AB,↓reduceIte,seval,f3,f4,f7,f8,f9,f10,f11,f12,f13,f14,f15,f16,f17,Bool.xor_self,Bool.false_xor]
   |(with_reducible (first|apply AD|apply AE))<;>(intro hc;(try simp only[AR]at hc);(try simp only[hc]);(try simp only[AQ]at hc);try omega))
  refine⟨fun _=>R4,?_⟩
  refine Ba (by decide) ?_
  repeat' (first
   |refine St.h ?_
   |simp(disch:=first|omega|(simp only[AJ];omega))only[AK,↓AB,↓reduceIte,seval,f3,f4,f7,f8,f9,f10,f11,f12,f13,f14,f15,f16,f17,Bool.xor_self,Bool.false_xor]
   |(with_reducible (first|apply AD|apply AE))<;>(intro hc;(try simp only[AR]at hc);(try simp only[hc]);(try simp only[AQ]at hc);try omega))
  refine⟨fun _=>R4,?_⟩
  refine Ba (by decide) ?_
  repeat' (first
   |refine St.h ?_
   |simp(disch:=first|omega|(simp only[AJ];omega))only[AK,↓AB,↓reduceIte,seval,f3,f4,f7,f8,f9,f10,f11,f12,f13,f14,f15,f16,f17,Bool.xor_self,Bool.false_xor]
   |(with_reducible (first|apply AD|apply AE))<;>(intro hc;(try simp only[AR]at hc);(try simp only[hc]);(try simp only[AQ]at hc);try omega))
  refine⟨fun _=>R4,?_⟩
  refine Ba (by decide) ?_
  repeat' (first
   |refine St.h ?_
   |simp(disch:=first|omega|(simp only[AJ];omega))only[AK,↓AB,↓reduceIte,seval,f3,f4,f7,f8,f9,f10,f11,f12,f13,f14,f15,f16,f17,Bool.xor_self,Bool.false_xor]
   |(with_reducible (first|apply AD|apply AE))<;>(intro hc;(try simp only[AR]at hc);(try simp only[hc]);(try simp only[AQ]at hc);try omega))
  refine⟨fun _=>R4,?_⟩
  refine Ba (by decide) ?_
  repeat' (first
   |refine St.h ?_
   |simp(disch:=first|omega|(simp only[AJ];omega))only[AK,↓AB,↓reduceIte,seval,f3,f4,f7,f8,f9,f10,f11,f12,f13,f14,f15,f16,f17,Bool.xor_self,Bool.false_xor]
   |(with_reducible (first|apply AD|apply AE))<;>(intro hc;(try simp only[AR]at hc);(try simp only[hc]);(try simp only[AQ]at hc);try omega))
  refine⟨fun _=>R4,?_⟩
  refine Ao (by decide) ?_
  repeat' (first
   |refine St.h ?_
   |simp(disch:=first|omega|(simp only[AJ];omega))only[AK,↓AB,↓reduceIte,seval,f3,f4,f7,f8,f9,f10,f11,f12,f13,f14,f15,f16,f17,Bool.xor_self,Bool.false_xor]
   |(with_reducible (first|apply AD|apply AE))<;>(intro hc;(try simp only[AR]at hc);(try simp only[hc]);(try simp only[AQ]at hc);try omega))
  refine⟨fun _=>R4,?_⟩
  refine Ao (by decide) ?_
  repeat' (first
   |refine St.h ?_
   |simp(disch:=first|omega|(simp only[AJ];omega))only[AK,↓AB,↓reduceIte,seval,f3,f4,f7,f8,f9,f10,f11,f12,f13,f14,f15,f16,f17,Bool.xor_self,Bool.false_xor]
   |(with_reducible (first|apply AD|apply AE))<;>(intro hc;(try simp only[AR]at hc);(try simp only[hc]);(try simp only[AQ]at hc);try omega))
  refine⟨fun _=>R4,?_⟩
  refine Ba (by decide) ?_
  repeat' (first
   |refine St.h ?_
   |simp(disch:=first|omega|(simp only[AJ];omega))only[AK,↓AB,↓reduceIte,seval,f3,f4,f7,f8,f9,f10,f11,f12,f13,f14,f15,f16,f17,Bool.xor_self,Bool.false_xor]
   |(with_reducible (first|apply AD|apply AE))<;>(intro hc;(try simp only[AR]at hc);(try simp only[hc]);(try simp only[AQ]at hc);try omega))
  refine⟨fun _=>R4,?_⟩
  refine Ba (by decide) ?_
  repeat' (first
   |refine St.h ?_
   |simp(disch:=first|omega|(simp only[AJ];omega))only[AK,↓AB,↓reduceIte,seval,f3,f4,f7,f8,f9,f10,f11,f12,f13,f14,f15,f16,f17,Bool.xor_self,Bool.false_xor]
   |(with_reducible (first|apply AD|apply AE))<;>(intro hc;(try simp only[AR]at hc);(try simp only[hc]);(try simp only[AQ]at hc);try omega))
  refine⟨fun _=>R4,?_⟩
  refine Ba (by decide) ?_
  repeat' (first
   |refine St.h ?_
   |simp(disch:=first|omega|(simp only[AJ];omega))only[AK,↓AB,↓reduceIte,seval,f3,f4,f7,f8,f9,f10,f11,f12,f13,f14,f15,f16,f17,Bool.xor_self,Bool.false_xor]
   |(with_reducible (first|apply AD|apply AE))<;>(intro hc;(try simp only[AR]at hc);(try simp only[hc]);(try simp only[AQ]at hc);try omega))
  refine⟨fun _=>R4,?_⟩
  refine Ba (by decide) ?_
  repeat' (first
   |refine St.h ?_
   |simp(disch:=first|omega|(simp only[AJ];omega))only[AK,↓AB,↓reduceIte,seval,f3,f4,f7,f8,f9,f10,f11,f12,f13,f14,f15,f16,f17,Bool.xor_self,Bool.false_xor]
   |(with_reducible (first|apply AD|apply AE))<;>(intro hc;(try simp only[AR]at hc);(try simp only[hc]);(try simp only[AQ]at hc);try omega))
  refine⟨fun _=>R4,?_⟩
  refine Ba (by decide) ?_
  repeat' (first
   |refine St.h ?_
   |simp(disch:=first|omega|(simp only[AJ];omega))only[AK,↓AB,↓reduceIte,seval,f3,f4,f7,f8,f9,f10,f11,f12,f13,f14,f15,f16,f17,Bool.xor_self,Bool.false_xor]
   |(with_reducible (first|apply AD|apply AE))<;>(intro hc;(try simp only[AR]at hc);(try simp only[hc]);(try simp only[AQ]at hc);try omega))
  refine⟨fun _=>R4,?_⟩
  refine Ba (by decide) ?_
  repeat' (first
   |refine St.h ?_
   |simp(disch:=first|omega|(simp only[AJ];omega))only[AK,↓AB,↓reduceIte,seval,f3,f4,f7,f8,f9,f10,f11,f12,f13,f14,f15,f16,f17,Bool.xor_self,Bool.false_xor]
   |(with_reducible (first|apply AD|apply AE))<;>(intro hc;(try simp only[AR]at hc);(try simp only[hc]);(try simp only[AQ]at hc);try omega))
  refine⟨fun _=>R4,?_⟩
  refine Ao (by decide) ?_
  repeat' (first
   |refine St.h ?_
   |simp(disch:=first|omega|(simp only[AJ];omega))only[AK,↓AB,↓reduceIte,seval,f3,f4,f7,f8,f9,f10,f11,f12,f13,f14,f15,f16,f17,Bool.xor_self,Bool.false_xor]
   |(with_reducible (first|apply AD|apply AE))<;>(intro hc;(try simp only[AR]at hc);(try simp only[hc]);(try simp only[AQ]at hc);try omega))
  refine⟨fun _=>R4,?_⟩
  refine Ao (by decide) ?_
  repeat' (first
   |refine St.h ?_
   |simp(disch:=first|omega|(simp only[AJ];omega))only[AK,↓AB,↓reduceIte,seval,f3,f4,f7,f8,f9,f10,f11,f12,f13,f14,f15,f16,f17,Bool.xor_self,Bool.false_xor]
   |(with_reducible (first|apply AD|apply AE))<;>(intro hc;(try simp only[AR]at hc);(try simp only[hc]);(try simp only[AQ]at hc);try omega))
  refine⟨fun _=>R4,?_⟩
  refine DV (.a [.i .i64 (An s).1.lv,.i .i64 (An s).1.n,.i .i64 (An s).1.tn,.b (An s).1.sh,u1]) (by simp(disch:=first|omega|(simp only[AJ];omega))only[AK,↓AB,↓reduceIte,seval,f3,f4,f7,f8,f9,f10,f11,f12,f13,f14,f15,f16,f17]) R4 (fun g hg=>by simp(disch:=first|omega|(simp only[AJ];omega))only[AK,↓AB,↓reduceIte,seval,f3,f4,f7,f8,f9,f10,f11,f12,f13,f14,f15,f16,f17,hg.2.2.1.row.l1,hg.2.2.1.row.ln]) ?_
  refine DV (.a [.i .i64 (An s).1.lv,.i .i64 (An s).1.n,.i .i64 (An s).1.tn,.b (An s).1.sh,u2]) (by simp(disch:=first|omega|(simp only[AJ];omega))only[AK,↓AB,↓reduceIte,seval,f3,f4,f7,f8,f9,f10,f11,f12,f13,f14,f15,f16,f17]) R4 (fun g hg=>by simp(disch:=first|omega|(simp only[AJ];omega))only[AK,↓AB,↓reduceIte,seval,f3,f4,f7,f8,f9,f10,f11,f12,f13,f14,f15,f16,f17,hg.2.2.2.1.row.l1,hg.2.2.2.1.row.ln]) ?_
  refine Ba (by decide) ?_
  repeat' (first
   |refine St.h ?_
   |simp(disch:=first|omega|(simp only[AJ];omega))only[AK,↓AB,↓reduceIte,seval,f3,f4,f7,f8,f9,f10,f11,f12,f13,f14,f15,f16,f17,Bool.xor_self,Bool.false_xor]
   |(with_reducible (first|apply AD|apply AE))<;>(intro hc;(try simp only[AR]at hc);(try simp only[hc]);(try simp only[AQ]at hc);try omega))
  refine CL.stay (Dg hp4 hq4 (by omega) (by omega) hf4) fun g5 s5=>?_
  rw[show decide ((⟨(An s).1.lv,(An s).1.n,(An s).1.tn,(An s).1.sh,(An s).1.ws⟩:Em)=⟨(An s).1.lv,(An s).1.n,(An s).1.tn,(An s).1.sh,(An s).1.ws⟩)=true from decide_eq_true rfl]
  have R5:=R4.stay s5
  have hf5:=s5.fl hf4
  have hA5:=hA4.grow s5
  have hB5:=hB4.grow s5
  have hp5:=hp4.grow s5
  have hq5:=hq4.grow s5
  have hw5:=hw4.grow s5
  repeat' (first
   |refine St.h ?_
   |simp(disch:=first|omega|(simp only[AJ];omega))only[AK,↓AB,↓reduceIte,seval,f3,f4,f7,f8,f9,f10,f11,f12,f13,f14,f15,f16,f17,Bool.xor_self,Bool.false_xor]
   |(with_reducible (first|apply AD|apply AE))<;>(intro hc;(try simp only[AR]at hc);(try simp only[hc]);(try simp only[AQ]at hc);try omega))
  refine⟨fun _=>R5,?_⟩
  refine Ao (by decide) ?_
  repeat' (first
   |refine St.h ?_
   |simp(disch:=first|omega|(simp only[AJ];omega))only[AK,↓AB,↓reduceIte,seval,f3,f4,f7,f8,f9,f10,f11,f12,f13,f14,f15,f16,f17,Bool.xor_self,Bool.false_xor]
   |(with_reducible (first|apply AD|apply AE))<;>(intro hc;(try simp only[AR]at hc);(try simp only[hc]);(try simp only[AQ]at hc);try omega))
  refine⟨fun _=>R5,?_⟩
  refine Ao (by decide) ?_
  repeat' (first
   |refine St.h ?_
   |simp(disch:=first|omega|(simp only[AJ];omega))only[AK,↓AB,↓reduceIte,seval,f3,f4,f7,f8,f9,f10,f11,f12,f13,f14,f15,f16,f17,Bool.xor_self,Bool.false_xor]
   |(with_reducible (first|apply AD|apply AE))<;>(intro hc;(try simp only[AR]at hc);(try simp only[hc]);(try simp only[AQ]at hc);try omega))
  refine⟨fun _=>R5,?_⟩
  refine Ba (by decide) ?_
  repeat' (first
   |refine St.h ?_
   |simp(disch:=first|omega|(simp only[AJ];omega))only[AK,↓AB,↓reduceIte,seval,f3,f4,f7,f8,f9,f10,f11,f12,f13,f14,f15,f16,f17,Bool.xor_self,Bool.false_xor]
   |(with_reducible (first|apply AD|apply AE))<;>(intro hc;(try simp only[AR]at hc);(try simp only[hc]);(try simp only[AQ]at hc);try omega))
  refine⟨fun _=>R5,?_⟩
  refine Ba (by decide) ?_
  repeat' (first
   |refine St.h ?_
   |simp(disch:=first|omega|(simp only[AJ];omega))only[AK,↓AB,↓reduceIte,seval,f3,f4,f7,f8,f9,f10,f11,f12,f13,f14,f15,f16,f17,Bool.xor_self,Bool.false_xor]
   |(with_reducible (first|apply AD|apply AE))<;>(intro hc;(try simp only[AR]at hc);(try simp only[hc]);(try simp only[AQ]at hc);try omega))
  refine⟨fun _=>R5,?_⟩
  refine Ba (by decide) ?_
  repeat' (first
   |refine St.h ?_
   |simp(disch:=first|omega|(simp only[AJ];omega))only[AK,↓AB,↓reduceIte,seval,f3,f4,f7,f8,f9,f10,f11,f12,f13,f14,f15,f16,f17,Bool.xor_self,Bool.false_xor]
   |(with_reducible (first|apply AD|apply AE))<;>(intro hc;(try simp only[AR]at hc);(try simp only[hc]);(try simp only[AQ]at hc);try omega))
  refine⟨fun _=>R5,?_⟩
  refine Ao (by decide) ?_
  repeat' (first
   |refine St.h ?_
   |simp(disch:=first|omega|(simp only[AJ];omega))only[AK,↓AB,↓reduceIte,seval,f3,f4,f7,f8,f9,f10,f11,f12,f13,f14,f15,f16,f17,Bool.xor_self,Bool.false_xor]
   |(with_reducible (first|apply AD|apply AE))<;>(intro hc;(try simp only[AR]at hc);(try simp only[hc]);(try simp only[AQ]at hc);try omega))
  refine⟨fun _=>R5,?_⟩
  refine Ao (by decide) ?_
  repeat' (first
   |refine St.h ?_
   |simp(disch:=first|omega|(simp only[AJ];omega))only[AK,↓AB,↓reduceIte,seval,f3,f4,f7,f8,f9,f10,f11,f12,f13,f14,f15,f16,f17,Bool.xor_self,Bool.false_xor]
   |(with_reducible (first|apply AD|apply AE))<;>(intro hc;(try simp only[AR]at hc);(try simp only[hc]);(try simp only[AQ]at hc);try omega))
  refine⟨fun _=>R5,?_⟩
  refine Ba (by decide) ?_
  repeat' (first
   |refine St.h ?_
   |simp(disch:=first|omega|(simp only[AJ];omega))only[AK,↓AB,↓reduceIte,seval,f3,f4,f7,f8,f9,f10,f11,f12,f13,f14,f15,f16,f17,Bool.xor_self,Bool.false_xor]
   |(with_reducible (first|apply AD|apply AE))<;>(intro hc;(try simp only[AR]at hc);(try simp only[hc]);(try simp only[AQ]at hc);try omega))
  refine⟨fun _=>R5,?_⟩
  refine Ba (by decide) ?_
  repeat' (first
   |refine St.h ?_
   |simp(disch:=first|omega|(simp only[AJ];omega))only[AK,↓AB,↓reduceIte,seval,f3,f4,f7,f8,f9,f10,f11,f12,f13,f14,f15,f16,f17,Bool.xor_self,Bool.false_xor]
   |(with_reducible (first|apply AD|apply AE))<;>(intro hc;(try simp only[AR]at hc);(try simp only[hc]);(try simp only[AQ]at hc);try omega))
  refine⟨fun _=>R5,?_⟩
  refine Ba (by decide) ?_
  repeat' (first
   |refine St.h ?_
   |simp(disch:=first|omega|(simp only[AJ];omega))only[AK,↓AB,↓reduceIte,seval,f3,f4,f7,f8,f9,f10,f11,f12,f13,f14,f15,f16,f17,Bool.xor_self,Bool.false_xor]
   |(with_reducible (first|apply AD|apply AE))<;>(intro hc;(try simp only[AR]at hc);(try simp only[hc]);(try simp only[AQ]at hc);try omega))
  refine⟨fun _=>R5,?_⟩
  refine Ao (by decide) ?_
  repeat' (first
   |refine St.h ?_
   |simp(disch:=first|omega|(simp only[AJ];omega))only[AK,↓AB,↓reduceIte,seval,f3,f4,f7,f8,f9,f10,f11,f12,f13,f14,f15,f16,f17,Bool.xor_self,Bool.false_xor]
   |(with_reducible (first|apply AD|apply AE))<;>(intro hc;(try simp only[AR]at hc);(try simp only[hc]);(try simp only[AQ]at hc);try omega))
  refine⟨fun _=>R5,?_⟩
  refine Ao (by decide) ?_
  repeat' (first
   |refine St.h ?_
   |simp(disch:=first|omega|(simp only[AJ];omega))only[AK,↓AB,↓reduceIte,seval,f3,f4,f7,f8,f9,f10,f11,f12,f13,f14,f15,f16,f17,Bool.xor_self,Bool.false_xor]
   |(with_reducible (first|apply AD|apply AE))<;>(intro hc;(try simp only[AR]at hc);(try simp only[hc]);(try simp only[AQ]at hc);try omega))
  refine⟨fun _=>R5,?_⟩
  refine DV (.a [.i .i64 lv,.i .i64 n,.i .i64 tn,.b sh,w]) (by simp(disch:=first|omega|(simp only[AJ];omega))only[AK,↓AB,↓reduceIte,seval,f3,f4,f7,f8,f9,f10,f11,f12,f13,f14,f15,f16,f17]) R5 (fun g hg=>by simp(disch:=first|omega|(simp only[AJ];omega))only[AK,↓AB,↓reduceIte,seval,f3,f4,f7,f8,f9,f10,f11,f12,f13,f14,f15,f16,f17,hg.2.2.2.2.row.l1,hg.2.2.2.2.row.ln]) ?_
  refine DV (.a [.i .i64 lv,.i .i64 n,.i .i64 tn,.b sh,v]) (by simp(disch:=first|omega|(simp only[AJ];omega))only[AK,↓AB,↓reduceIte,seval,f3,f4,f7,f8,f9,f10,f11,f12,f13,f14,f15,f16,f17]) R5 (fun g hg=>by simp(disch:=first|omega|(simp only[AJ];omega))only[AK,↓AB,↓reduceIte,seval,f3,f4,f7,f8,f9,f10,f11,f12,f13,f14,f15,f16,f17,hg.1.row.l1,hg.1.row.ln]) ?_
  refine Ba (by decide) ?_
  repeat' (first
   |refine St.h ?_
   |simp(disch:=first|omega|(simp only[AJ];omega))only[AK,↓AB,↓reduceIte,seval,f3,f4,f7,f8,f9,f10,f11,f12,f13,f14,f15,f16,f17,Bool.xor_self,Bool.false_xor]
   |(with_reducible (first|apply AD|apply AE))<;>(intro hc;(try simp only[AR]at hc);(try simp only[hc]);(try simp only[AQ]at hc);try omega))
  refine CL.stay (Dg hw5 hA5 (by omega) (by omega) hf5) fun g6 s6=>?_
  rw[show decide ((⟨lv,n,tn,sh,ws⟩:Em)=⟨lv,n,tn,sh,ws⟩)=true from decide_eq_true rfl]
  have R6:=R5.stay s6
  have hf6:=s6.fl hf5
  have hA6:=hA5.grow s6
  have hB6:=hB5.grow s6
  have hp6:=hp5.grow s6
  have hq6:=hq5.grow s6
  have hw6:=hw5.grow s6
  repeat' (first
   |refine St.h ?_
   |simp(disch:=first|omega|(simp only[AJ];omega))only[AK,↓AB,↓reduceIte,seval,f3,f4,f7,f8,f9,f10,f11,f12,f13,f14,f15,f16,f17,Bool.xor_self,Bool.false_xor]
   |(with_reducible (first|apply AD|apply AE))<;>(intro hc;(try simp only[AR]at hc);(try simp only[hc]);(try simp only[AQ]at hc);try omega))
  refine⟨fun _=>R6,?_⟩
  refine Ao (by decide) ?_
  repeat' (first
   |refine St.h ?_
   |simp(disch:=first|omega|(simp only[AJ];omega))only[AK,↓AB,↓reduceIte,seval,f3,f4,f7,f8,f9,f10,f11,f12,f13,f14,f15,f16,f17,Bool.xor_self,Bool.false_xor]
   |(with_reducible (first|apply AD|apply AE))<;>(intro hc;(try simp only[AR]at hc);(try simp only[hc]);(try simp only[AQ]at hc);try omega))
  refine⟨fun _=>R6,?_⟩
  refine Ao (by decide) ?_
  repeat' (first
   |refine St.h ?_
   |simp(disch:=first|omega|(simp only[AJ];omega))only[AK,↓AB,↓reduceIte,seval,f3,f4,f7,f8,f9,f10,f11,f12,f13,f14,f15,f16,f17,Bool.xor_self,Bool.false_xor]
   |(with_reducible (first|apply AD|apply AE))<;>(intro hc;(try simp only[AR]at hc);(try simp only[hc]);(try simp only[AQ]at hc);try omega))
  refine⟨fun _=>R6,?_⟩
  refine Lg ?_
  repeat' (first
   |refine St.h ?_
   |simp(disch:=first|omega|(simp only[AJ];omega))only[AK,↓AB,↓reduceIte,seval,f3,f4,f7,f8,f9,f10,f11,f12,f13,f14,f15,f16,f17]
   |(with_reducible (first|apply AD|apply AE))<;>(intro hc;(try simp only[AR]at hc);(try simp only[hc]);(try simp only[AQ]at hc);try omega))
  subst hQ
  rfl
 |false=>
  rw[hI]at f8 f10
  simp only[if_true,Bool.false_eq_true,if_false]at f8
  repeat' (first
   |with_reducible refine HW ?_
   |refine St.h ?_
   |simp(disch:=first|omega|(simp only[AJ];omega))only[AK,↓AB,↓reduceIte,seval,f3,f4,f7,f8,f9,f10,f11,f12,f13,f14,f15,f16,f17]
   |(with_reducible (first|apply AD|apply AE))<;>(intro hc;(try simp only[AR]at hc);(try simp only[hc]);(try simp only[AQ]at hc);try omega))
  refine Ok.JU Pa [0,2,6,7,9,10,34,35,49,50] 37 (Jn b3 b4 Oo PQ PC _ _ _ _ _) (by decide) (by decide) R0 ?_
  refine D1 (.a [.i .i64 lv,.i .i64 n,.i .i64 tn,.b sh,v]) R0 (fun g hg=>by simp(disch:=first|omega|(simp only[AJ];omega))only[AK,↓AB,↓reduceIte,seval,f3,f4,f7,f8,f9,f10,f11,f12,f13,f14,f15,f16,f17,hg.1.row.l1,hg.1.row.ln]) ?_
  refine Ao (by decide) ?_
  repeat' (first
   |refine St.h ?_
   |simp(disch:=first|omega|(simp only[AJ];omega))only[AK,↓AB,↓reduceIte,seval,f3,f4,f7,f8,f9,f10,f11,f12,f13,f14,f15,f16,f17,Bool.xor_self,Bool.false_xor]
   |(with_reducible (first|apply AD|apply AE))<;>(intro hc;(try simp only[AR]at hc);(try simp only[hc]);(try simp only[AQ]at hc);try omega))
  refine CL.stay (VY hA0 sw (by omega) hf0) fun g1 s1=>?_
  rw[hI]
  have R1:=R0.stay s1
  have hf1:=s1.fl hf0
  have hA1:=hA0.grow s1
  have hB1:=hB0.grow s1
  have hp1:=hp0.grow s1
  have hq1:=hq0.grow s1
  have hw1:=hw0.grow s1
  repeat' (first
   |refine St.h ?_
   |simp(disch:=first|omega|(simp only[AJ];omega))only[AK,↓AB,↓reduceIte,seval,f3,f4,f7,f8,f9,f10,f11,f12,f13,f14,f15,f16,f17,Bool.xor_self,Bool.false_xor]
   |(with_reducible (first|apply AD|apply AE))<;>(intro hc;(try simp only[AR]at hc);(try simp only[hc]);(try simp only[AQ]at hc);try omega))
  refine⟨fun _=>R1,?_⟩
  refine D1 (.a [.i .i64 lv,.i .i64 n,.i .i64 tn,.b sh,v]) R1 (fun g hg=>by simp(disch:=first|omega|(simp only[AJ];omega))only[AK,↓AB,↓reduceIte,seval,f3,f4,f7,f8,f9,f10,f11,f12,f13,f14,f15,f16,f17,hg.1.row.l1,hg.1.row.ln]) ?_
  refine Ao (by decide) ?_
  repeat' (first
   |refine St.h ?_
   |simp(disch:=first|omega|(simp only[AJ];omega))only[AK,↓AB,↓reduceIte,seval,f3,f4,f7,f8,f9,f10,f11,f12,f13,f14,f15,f16,f17,Bool.xor_self,Bool.false_xor]
   |(with_reducible (first|apply AD|apply AE))<;>(intro hc;(try simp only[AR]at hc);(try simp only[hc]);(try simp only[AQ]at hc);try omega))
  refine CL.stay (Kn hA1 (by omega) hf1) fun g2 s2=>?_
  rw[hI]
  have R2:=R1.stay s2
  have hf2:=s2.fl hf1
  have hA2:=hA1.grow s2
  have hB2:=hB1.grow s2
  have hp2:=hp1.grow s2
  have hq2:=hq1.grow s2
  have hw2:=hw1.grow s2
  repeat' (first
   |refine St.h ?_
   |simp(disch:=first|omega|(simp only[AJ];omega))only[AK,↓AB,↓reduceIte,seval,f3,f4,f7,f8,f9,f10,f11,f12,f13,f14,f15,f16,f17,Bool.xor_self,Bool.false_xor]
   |(with_reducible (first|apply AD|apply AE))<;>(intro hc;(try simp only[AR]at hc);(try simp only[hc]);(try simp only[AQ]at hc);try omega))
  refine⟨fun _=>R2,?_⟩
  refine Ao (by decide) ?_
  repeat' (first
   |refine St.h ?_
   |simp(disch:=first|omega|(simp only[AJ];omega))only[AK,↓AB,↓reduceIte,seval,f3,f4,f7,f8,f9,f10,f11,f12,f13,f14,f15,f16,f17,Bool.xor_self,Bool.false_xor]
   |(with_reducible (first|apply AD|apply AE))<;>(intro hc;(try simp only[AR]at hc);(try simp only[hc]);(try simp only[AQ]at hc);try omega))
  refine⟨fun _=>R2,?_⟩
  refine Ao (by decide) ?_
  repeat' (first
   |refine St.h ?_
   |simp(disch:=first|omega|(simp only[AJ];omega))only[AK,↓AB,↓reduceIte,seval,f3,f4,f7,f8,f9,f10,f11,f12,f13,f14,f15,f16,f17,Bool.xor_self,Bool.false_xor]
   |(with_reducible (first|apply AD|apply AE))<;>(intro hc;(try simp only[AR]at hc);(try simp only[hc]);(try simp only[AQ]at hc);try omega))
  refine⟨fun _=>R2,?_⟩
  refine DV (.a [.i .i64 lv,.i .i64 n,.i .i64 tn,.b sh,v]) (by simp(disch:=first|omega|(simp only[AJ];omega))only[AK,↓AB,↓reduceIte,seval,f3,f4,f7,f8,f9,f10,f11,f12,f13,f14,f15,f16,f17]) R2 (fun g hg=>by simp(disch:=first|omega|(simp only[AJ];omega))only[AK,↓AB,↓reduceIte,seval,f3,f4,f7,f8,f9,f10,f11,f12,f13,f14,f15,f16,f17,hg.1.row.l1,hg.1.row.ln]) ?_
  refine DV (.a [.i .i64 lv2,.i .i64 m2,.i .i64 tn2,.b sh2,v2]) (by simp(disch:=first|omega|(simp only[AJ];omega))only[AK,↓AB,↓reduceIte,seval,f3,f4,f7,f8,f9,f10,f11,f12,f13,f14,f15,f16,f17]) R2 (fun g hg=>by simp(disch:=first|omega|(simp only[AJ];omega))only[AK,↓AB,↓reduceIte,seval,f3,f4,f7,f8,f9,f10,f11,f12,f13,f14,f15,f16,f17,hg.2.1.row.l1,hg.2.1.row.ln]) ?_
  refine Ba (by decide) ?_
  repeat' (first
   |refine St.h ?_
   |simp(disch:=first|omega|(simp only[AJ];omega))only[AK,↓AB,↓reduceIte,seval,f3,f4,f7,f8,f9,f10,f11,f12,f13,f14,f15,f16,f17,Bool.xor_self,Bool.false_xor]
   |(with_reducible (first|apply AD|apply AE))<;>(intro hc;(try simp only[AR]at hc);(try simp only[hc]);(try simp only[AQ]at hc);try omega))
  refine CL.stay (OZ hA2 hB2 (by omega) (by omega) hf2) fun g3 s3=>?_
  rw[hD]
  have R3:=R2.stay s3
  have hf3:=s3.fl hf2
  have hA3:=hA2.grow s3
  have hB3:=hB2.grow s3
  have hp3:=hp2.grow s3
  have hq3:=hq2.grow s3
  have hw3:=hw2.grow s3
  repeat' (first
   |refine St.h ?_
   |simp(disch:=first|omega|(simp only[AJ];omega))only[AK,↓AB,↓reduceIte,seval,f3,f4,f7,f8,f9,f10,f11,f12,f13,f14,f15,f16,f17,Bool.xor_self,Bool.false_xor]
   |(with_reducible (first|apply AD|apply AE))<;>(intro hc;(try simp only[AR]at hc);(try simp only[hc]);(try simp only[AQ]at hc);try omega))
  refine⟨fun _=>R3,?_⟩
  refine DV (.a [.i .i64 lv,.i .i64 n,.i .i64 tn,.b sh,v]) (by simp(disch:=first|omega|(simp only[AJ];omega))only[AK,↓AB,↓reduceIte,seval,f3,f4,f7,f8,f9,f10,f11,f12,f13,f14,f15,f16,f17]) R3 (fun g hg=>by simp(disch:=first|omega|(simp only[AJ];omega))only[AK,↓AB,↓reduceIte,seval,f3,f4,f7,f8,f9,f10,f11,f12,f13,f14,f15,f16,f17,hg.1.row.l1,hg.1.row.ln]) ?_
  refine DV (.a [.i .i64 lv2,.i .i64 m2,.i .i64 tn2,.b sh2,v2]) (by simp(disch:=first|omega|(simp only[AJ];omega))only[AK,↓AB,↓reduceIte,seval,f3,f4,f7,f8,f9,f10,f11,f12,f13,f14,f15,f16,f17]) R3 (fun g hg=>by simp(disch:=first|omega|(simp only[AJ];omega))only[AK,↓AB,↓reduceIte,seval,f3,f4,f7,f8,f9,f10,f11,f12,f13,f14,f15,f16,f17,hg.2.1.row.l1,hg.2.1.row.ln]) ?_
  refine Ba (by decide) ?_
  repeat' (first
   |refine St.h ?_
   |simp(disch:=first|omega|(simp only[AJ];omega))only[AK,↓AB,↓reduceIte,seval,f3,f4,f7,f8,f9,f10,f11,f12,f13,f14,f15,f16,f17,Bool.xor_self,Bool.false_xor]
   |(with_reducible (first|apply AD|apply AE))<;>(intro hc;(try simp only[AR]at hc);(try simp only[hc]);(try simp only[AQ]at hc);try omega))
  refine CL.stay (Dg hA3 hB3 (by omega) (by omega) hf3) fun g4 s4=>?_
  rw[hD]
  have R4:=R3.stay s4
  have hf4:=s4.fl hf3
  have hA4:=hA3.grow s4
  have hB4:=hB3.grow s4
  have hp4:=hp3.grow s4
  have hq4:=hq3.grow s4
  have hw4:=hw3.grow s4
  repeat' (first
   |refine St.h ?_
   |simp(disch:=first|omega|(simp only[AJ];omega))only[AK,↓AB,↓reduceIte,seval,f3,f4,f7,f8,f9,f10,f11,f12,f13,f14,f15,f16,f17,Bool.xor_self,Bool.false_xor]
   |(with_reducible (first|apply AD|apply AE))<;>(intro hc;(try simp only[AR]at hc);(try simp only[hc]);(try simp only[AQ]at hc);try omega))
  refine⟨fun _=>R4,?_⟩
  refine Ba (by decide) ?_
  repeat' (first
   |refine St.h ?_
   |simp(disch:=first|omega|(simp only[AJ];omega))only[AK,↓AB,↓reduceIte,seval,f3,f4,f7,f8,f9,f10,f11,f12,f13,f14,f15,f16,f17,Bool.xor_self,Bool.false_xor]
   |(with_reducible (first|apply AD|apply AE))<;>(intro hc;(try simp only[AR]at hc);(try simp only[hc]);(try simp only[AQ]at hc);try omega))
  refine⟨fun _=>R4,?_⟩
  refine Ao (by decide) ?_
  repeat' (first
   |refine St.h ?_
   |simp(disch:=first|omega|(simp only[AJ];omega))only[AK,↓AB,↓reduceIte,seval,f3,f4,f7,f8,f9,f10,f11,f12,f13,f14,f15,f16,f17,Bool.xor_self,Bool.false_xor]
   |(with_reducible (first|apply AD|apply AE))<;>(intro hc;(try simp only[AR]at hc);(try simp only[hc]);(try simp only[AQ]at hc);try omega))
  refine⟨fun _=>R4,?_⟩
  refine Ao (by decide) ?_
  repeat' (first
   |refine St.h ?_
   |simp(disch:=first|omega|(simp only[AJ];omega))only[AK,↓AB,↓reduceIte,seval,f3,f4,f7,f8,f9,f10,f11,f12,f13,f14,f15,f16,f17,Bool.xor_self,Bool.false_xor]
   |(with_reducible (first|apply AD|apply AE))<;>(intro hc;(try simp only[AR]at hc);(try simp only[hc]);(try simp only[AQ]at hc);try omega))
  refine⟨fun _=>R4,?_⟩
  refine Ba (by decide) ?_
  repeat' (first
   |refine St.h ?_
   |simp(disch:=first|omega|(simp only[AJ];omega))only[AK,↓AB,↓reduceIte,seval,f3,f4,f7,f8,f9,f10,f11,f12,f13,f14,f15,f16,f17,Bool.xor_self,Bool.false_xor]
   |(with_reducible (first|apply AD|apply AE))<;>(intro hc;(try simp only[AR]at hc);(try simp only[hc]);(try simp only[AQ]at hc);try omega))
  refine⟨fun _=>R4,?_⟩
  refine Ba (by decide) ?_
  repeat' (first
   |refine St.h ?_
   |simp(disch:=first|omega|(simp only[AJ];omega))only[AK,↓AB,↓reduceIte,seval,f3,f4,f7,f8,f9,f10,f11,f12,f13,f14,f15,f16,f17,Bool.xor_self,Bool.false_xor]
   |(with_reducible (first|apply AD|apply AE))<;>(intro hc;(try simp only[AR]at hc);(try simp only[hc]);(try simp only[AQ]at hc);try omega))
  refine⟨fun _=>R4,?_⟩
  refine Ba (by decide) ?_
  repeat' (first
   |refine St.h ?_
   |simp(disch:=first|omega|(simp only[AJ];omega))only[AK,↓AB,↓reduceIte,seval,f3,f4,f7,f8,f9,f10,f11,f12,f13,f14,f15,f16,f17,Bool.xor_self,Bool.false_xor]
   |(with_reducible (first|apply AD|apply AE))<;>(intro hc;(try simp only[AR]at hc);(try simp only[hc]);(try simp only[AQ]at hc);try omega))
  refine⟨fun _=>R4,?_⟩
  refine Ao (by decide) ?_
  repeat' (first
   |refine St.h ?_
   |simp(disch:=first|omega|(simp only[AJ];omega))only[AK,↓AB,↓reduceIte,seval,f3,f4,f7,f8,f9,f10,f11,f12,f13,f14,f15,f16,f17,Bool.xor_self,Bool.false_xor]
   |(with_reducible (first|apply AD|apply AE))<;>(intro hc;(try simp only[AR]at hc);(try simp only[hc]);(try simp only[AQ]at hc);try omega))
  refine⟨fun _=>R4,?_⟩
  refine Ao (by decide) ?_
  repeat' (first
   |refine St.h ?_
   |simp(disch:=first|omega|(simp only[AJ];omega))only[AK,↓AB,↓reduceIte,seval,f3,f4,f7,f8,f9,f10,f11,f12,f13,f14,f15,f16,f17,Bool.xor_self,Bool.false_xor]
   |(with_reducible (first|apply AD|apply AE))<;>(intro hc;(try simp only[AR]at hc);(try simp only[hc]);(try simp only[AQ]at hc);try omega))
  refine⟨fun _=>R4,?_⟩
  refine Ba (by decide) ?_
  repeat' (first
   |refine St.h ?_
   |simp(disch:=first|omega|(simp only[AJ];omega))only[AK,↓AB,↓reduceIte,seval,f3,f4,f7,f8,f9,f10,f11,f12,f13,f14,f15,f16,f17,Bool.xor_self,Bool.false_xor]
   |(with_reducible (first|apply AD|apply AE))<;>(intro hc;(try simp only[AR]at hc);(try simp only[hc]);(try simp only[AQ]at hc);try omega))
  refine⟨fun _=>R4,?_⟩
  refine Ba (by decide) ?_
  repeat' (first
   |refine St.h ?_
   |simp(disch:=first|omega|(simp only[AJ];omega))only[AK,↓AB,↓reduceIte,seval,f3,f4,f7,f8,f9,f10,f11,f12,f13,f14,f15,f16,f17,Bool.xor_self,Bool.false_xor]
   |(with_reducible (first|apply AD|apply AE))<;>(intro hc;(try simp only[AR]at hc);(try simp only[hc]);(try simp only[AQ]at hc);try omega))
  refine⟨fun _=>R4,?_⟩
  refine Ba (by decide) ?_
  repeat' (first
   |refine St.h ?_
   |simp(disch:=first|omega|(simp only[AJ];omega))only[AK,↓AB,↓reduceIte,seval,f3,f4,f7,f8,f9,f10,f11,f12,f13,f14,f15,f16,f17,Bool.xor_self,Bool.false_xor]
   |(with_reducible (first|apply AD|apply AE))<;>(intro hc;(try simp only[AR]at hc);(try simp only[hc]);(try simp only[AQ]at hc);try omega))
  refine⟨fun _=>R4,?_⟩
  refine Ba (by decide) ?_
  repeat' (first
   |refine St.h ?_
   |simp(disch:=first|omega|(simp only[AJ];omega))only[AK,↓AB,↓reduceIte,seval,f3,f4,f7,f8,f9,f10,f11,f12,f13,f14,f15,f16,f17,Bool.xor_self,Bool.false_xor]
   |(with_reducible (first|apply AD|apply AE))<;>(intro hc;(try simp only[AR]at hc);(try simp only[hc]);(try simp only[AQ]at hc);try omega))
  refine⟨fun _=>R4,?_⟩
  refine Ao (by decide) ?_
  repeat' (first
   |refine St.h ?_
   |simp(disch:=first|omega|(simp only[AJ];omega))only[AK,↓AB,↓reduceIte,seval,f3,f4,f7,f8,f9,f10,f11,f12,f13,f14,f15,f16,f17,Bool.xor_self,Bool.false_xor]
   |(with_reducible (first|apply AD|apply AE))<;>(intro hc;(try simp only[AR]at hc);(try simp only[hc]);(try simp only[AQ]at hc);try omega))
  refine⟨fun _=>R4,?_⟩
  refine Ao (by decide) ?_
  repeat' (first
   |refine St.h ?_
   |simp(disch:=first|omega|(simp only[AJ];omega))only[AK,↓AB,↓reduceIte,seval,f3,f4,f7,f8,f9,f10,f11,f12,f13,f14,f15,f16,f17,Bool.xor_self,Bool.false_xor]
   |(with_reducible (first|apply AD|apply AE))<;>(intro hc;(try simp only[AR]at hc);(try simp only[hc]);(try simp only[AQ]at hc);try omega))
  refine⟨fun _=>R4,?_⟩
  refine Ba (by decide) ?_
  repeat' (first
   |refine St.h ?_
   |simp(disch:=first|omega|(simp only[AJ];omega))only[AK,↓AB,↓reduceIte,seval,f3,f4,f7,f8,f9,f10,f11,f12,f13,f14,f15,f16,f17,Bool.xor_self,Bool.false_xor]
   |(with_reducible (first|apply AD|apply AE))<;>(intro hc;(try simp only[AR]at hc);(try simp only[hc]);(try simp only[AQ]at hc);try omega))
  refine⟨fun _=>R4,?_⟩
  refine Ba (by decide) ?_
  repeat' (first
   |refine St.h ?_
   |simp(disch:=first|omega|(simp only[AJ];omega))only[AK,↓AB,↓reduceIte,seval,f3,f4,f7,f8,f9,f10,f11,f12,f13,f14,f15,f16,f17,Bool.xor_self,Bool.false_xor]
   |(with_reducible (first|apply AD|apply AE))<;>(intro hc;(try simp only[AR]at hc);(try simp only[hc]);(try simp only[AQ]at hc);try omega))
  refine⟨fun _=>R4,?_⟩
  refine Ba (by decide) ?_
  repeat' (first
   |refine St.h ?_
   |simp(disch:=first|omega|(simp only[AJ];omega))only[AK,↓AB,↓reduceIte,seval,f3,f4,f7,f8,f9,f10,f11,f12,f13,f14,f15,f16,f17,Bool.xor_self,Bool.false_xor]
   |(with_reducible (first|apply AD|apply AE))<;>(intro hc;(try simp only[AR]at hc);(try simp only[hc]);(try simp only[AQ]at hc);try omega))
  refine⟨fun _=>R4,?_⟩
  refine Ba (by decide) ?_
  repeat' (first
   |refine St.h ?_
   |simp(disch:=first|omega|(simp only[AJ];omega))only[AK,↓AB,↓reduceIte,seval,f3,f4,f7,f8,f9,f10,f11,f12,f13,f14,f15,f16,f17,Bool.xor_self,Bool.false_xor]
   |(with_reducible (first|apply AD|apply AE))<;>(intro hc;(try simp only[AR]at hc);(try simp only[hc]);(try simp only[AQ]at hc);try omega))
  refine⟨fun _=>R4,?_⟩
  refine Ba (by decide) ?_
  repeat' (first
   |refine St.h ?_
   |simp(disch:=first|omega|(simp only[AJ];omega))only[AK,↓AB,↓reduceIte,seval,f3,f4,f7,f8,f9,f10,f11,f12,f13,f14,f15,f16,f17,Bool.xor_self,Bool.false_xor]
   |(with_reducible (first|apply AD|apply AE))<;>(intro hc;(try simp only[AR]at hc);(try simp only[hc]);(try simp only[AQ]at hc);try omega))
  refine⟨fun _=>R4,?_⟩
  refine Ba (by decide) ?_
  repeat' (first
   |refine St.h ?_
   |simp(disch:=first|omega|(simp only[AJ];omega))only[AK,↓AB,↓reduceIte,seval,f3,f4,f7,f8,f9,f10,f11,f12,f13,f14,f15,f16,f17,Bool.xor_self,Bool.false_xor]
   |(with_reducible (first|apply AD|apply AE))<;>(intro hc;(try simp only[AR]at hc);(try simp only[hc]);(try simp only[AQ]at hc);try omega))
  refine⟨fun _=>R4,?_⟩
  refine Ao (by decide) ?_
  repeat' (first
   |refine St.h ?_
   |simp(disch:=first|omega|(simp only[AJ];omega))only[AK,↓AB,↓reduceIte,seval,f3,f4,f7,f8,f9,f10,f11,f12,f13,f14,f15,f16,f17,Bool.xor_self,Bool.false_xor]
   |(with_reducible (first|apply AD|apply AE))<;>(intro hc;(try simp only[AR]at hc);(try simp only[hc]);(try simp only[AQ]at hc);try omega))
  refine⟨fun _=>R4,?_⟩
  refine Ao (by decide) ?_
  repeat' (first
   |refine St.h ?_
   |simp(disch:=first|omega|(simp only[AJ];omega))only[AK,↓AB,↓reduceIte,seval,f3,f4,f7,f8,f9,f10,f11,f12,f13,f14,f15,f16,f17,Bool.xor_self,Bool.false_xor]
   |(with_reducible (first|apply AD|apply AE))<;>(intro hc;(try simp only[AR]at hc);(try simp only[hc]);(try simp only[AQ]at hc);try omega))
  refine⟨fun _=>R4,?_⟩
  refine DV (.a [.i .i64 (An s).1.lv,.i .i64 (An s).1.n,.i .i64 (An s).1.tn,.b (An s).1.sh,u1]) (by simp(disch:=first|omega|(simp only[AJ];omega))only[AK,↓AB,↓reduceIte,seval,f3,f4,f7,f8,f9,f10,f11,f12,f13,f14,f15,f16,f17]) R4 (fun g hg=>by simp(disch:=first|omega|(simp only[AJ];omega))only[AK,↓AB,↓reduceIte,seval,f3,f4,f7,f8,f9,f10,f11,f12,f13,f14,f15,f16,f17,hg.2.2.1.row.l1,hg.2.2.1.row.ln]) ?_
  refine DV (.a [.i .i64 (An s).1.lv,.i .i64 (An s).1.n,.i .i64 (An s).1.tn,.b (An s).1.sh,u2]) (by simp(disch:=first|omega|(simp only[AJ];omega))only[AK,↓AB,↓reduceIte,seval,f3,f4,f7,f8,f9,f10,f11,f12,f13,f14,f15,f16,f17]) R4 (fun g hg=>by simp(disch:=first|omega|(simp only[AJ];omega))only[AK,↓AB,↓reduceIte,seval,f3,f4,f7,f8,f9,f10,f11,f12,f13,f14,f15,f16,f17,hg.2.2.2.1.row.l1,hg.2.2.2.1.row.ln]) ?_
  refine Ba (by decide) ?_
  repeat' (first
   |refine St.h ?_
   |simp(disch:=first|omega|(simp only[AJ];omega))only[AK,↓AB,↓reduceIte,seval,f3,f4,f7,f8,f9,f10,f11,f12,f13,f14,f15,f16,f17,Bool.xor_self,Bool.false_xor]
   |(with_reducible (first|apply AD|apply AE))<;>(intro hc;(try simp only[AR]at hc);(try simp only[hc]);(try simp only[AQ]at hc);try omega))
  refine CL.stay (Dg hp4 hq4 (by omega) (by omega) hf4) fun g5 s5=>?_
  rw[show decide ((⟨(An s).1.lv,(An s).1.n,(An s).1.tn,(An s).1.sh,(An s).1.ws⟩:Em)=⟨(An s).1.lv,(An s).1.n,(An s).1.tn,(An s).1.sh,(An s).1.ws⟩)=true from decide_eq_true rfl]
  have R5:=R4.stay s5
  have hf5:=s5.fl hf4
  have hA5:=hA4.grow s5
  have hB5:=hB4.grow s5
  have hp5:=hp4.grow s5
  have hq5:=hq4.grow s5
  have hw5:=hw4.grow s5
  repeat' (first
   |refine St.h ?_
   |simp(disch:=first|omega|(simp only[AJ];omega))only[AK,↓AB,↓reduceIte,seval,f3,f4,f7,f8,f9,f10,f11,f12,f13,f14,f15,f16,f17,Bool.xor_self,Bool.false_xor]
   |(with_reducible (first|apply AD|apply AE))<;>(intro hc;(try simp only[AR]at hc);(try simp only[hc]);(try simp only[AQ]at hc);try omega))
  refine⟨fun _=>R5,?_⟩
  refine Ao (by decide) ?_
  repeat' (first
   |refine St.h ?_
   |simp(disch:=first|omega|(simp only[AJ];omega))only[AK,↓AB,↓reduceIte,seval,f3,f4,f7,f8,f9,f10,f11,f12,f13,f14,f15,f16,f17,Bool.xor_self,Bool.false_xor]
   |(with_reducible (first|apply AD|apply AE))<;>(intro hc;(try simp only[AR]at hc);(try simp only[hc]);(try simp only[AQ]at hc);try omega))
  refine⟨fun _=>R5,?_⟩
  refine Ao (by decide) ?_
  repeat' (first
   |refine St.h ?_
   |simp(disch:=first|omega|(simp only[AJ];omega))only[AK,↓AB,↓reduceIte,seval,f3,f4,f7,f8,f9,f10,f11,f12,f13,f14,f15,f16,f17,Bool.xor_self,Bool.false_xor]
   |(with_reducible (first|apply AD|apply AE))<;>(intro hc;(try simp only[AR]at hc);(try simp only[hc]);(try simp only[AQ]at hc);try omega))
  refine⟨fun _=>R5,?_⟩
  refine Ba (by decide) ?_
  repeat' (first
   |refine St.h ?_
   |simp(disch:=first|omega|(simp only[AJ];omega))only[AK,↓AB,↓reduceIte,seval,f3,f4,f7,f8,f9,f10,f11,f12,f13,f14,f15,f16,f17,Bool.xor_self,Bool.false_xor]
   |(with_reducible (first|apply AD|apply AE))<;>(intro hc;(try simp only[AR]at hc);(try simp only[hc]);(try simp only[AQ]at hc);try omega))
  refine⟨fun _=>R5,?_⟩
  refine Ba (by decide) ?_
  repeat' (first
   |refine St.h ?_
   |simp(disch:=first|omega|(simp only[AJ];omega))only[AK,↓AB,↓reduceIte,seval,f3,f4,f7,f8,f9,f10,f11,f12,f13,f14,f15,f16,f17,Bool.xor_self,Bool.false_xor]
   |(with_reducible (first|apply AD|apply AE))<;>(intro hc;(try simp only[AR]at hc);(try simp only[hc]);(try simp only[AQ]at hc);try omega))
  refine⟨fun _=>R5,?_⟩
  refine Ba (by decide) ?_
  repeat' (first
   |refine St.h ?_
   |simp(disch:=first|omega|(simp only[AJ];omega))only[AK,↓AB,↓reduceIte,seval,f3,f4,f7,f8,f9,f10,f11,f12,f13,f14,f15,f16,f17,Bool.xor_self,Bool.false_xor]
   |(with_reducible (first|apply AD|apply AE))<;>(intro hc;(try simp only[AR]at hc);(try simp only[hc]);(try simp only[AQ]at hc);try omega))
  refine⟨fun _=>R5,?_⟩
  refine Ao (by decide) ?_
  repeat' (first
   |refine St.h ?_
   |simp(disch:=first|omega|(simp only[AJ];omega))only[AK,↓AB,↓reduceIte,seval,f3,f4,f7,f8,f9,f10,f11,f12,f13,f14,f15,f16,f17,Bool.xor_self,Bool.false_xor]
   |(with_reducible (first|apply AD|apply AE))<;>(intro hc;(try simp only[AR]at hc);(try simp only[hc]);(try simp only[AQ]at hc);try omega))
  refine⟨fun _=>R5,?_⟩
  refine Ao (by decide) ?_
  repeat' (first
   |refine St.h ?_
   |simp(disch:=first|omega|(simp only[AJ];omega))only[AK,↓AB,↓reduceIte,seval,f3,f4,f7,f8,f9,f10,f11,f12,f13,f14,f15,f16,f17,Bool.xor_self,Bool.false_xor]
   |(with_reducible (first|apply AD|apply AE))<;>(intro hc;(try simp only[AR]at hc);(try simp only[hc]);(try simp only[AQ]at hc);try omega))
  refine⟨fun _=>R5,?_⟩
  refine Ba (by decide) ?_
  repeat' (first
   |refine St.h ?_
   |simp(disch:=first|omega|(simp only[AJ];omega))only[AK,↓AB,↓reduceIte,seval,f3,f4,f7,f8,f9,f10,f11,f12,f13,f14,f15,f16,f17,Bool.xor_self,Bool.false_xor]
   |(with_reducible (first|apply AD|apply AE))<;>(intro hc;(try simp only[AR]at hc);(try simp only[hc]);(try simp only[AQ]at hc);try omega))
  refine⟨fun _=>R5,?_⟩
  refine Ba (by decide) ?_
  repeat' (first
   |refine St.h ?_
   |simp(disch:=first|omega|(simp only[AJ];omega))only[AK,↓AB,↓reduceIte,seval,f3,f4,f7,f8,f9,f10,f11,f12,f13,f14,f15,f16,f17,Bool.xor_self,Bool.false_xor]
   |(with_reducible (first|apply AD|apply AE))<;>(intro hc;(try simp only[AR]at hc);(try simp only[hc]);(try simp only[AQ]at hc);try omega))
  refine⟨fun _=>R5,?_⟩
  refine Ba (by decide) ?_
  repeat' (first
   |refine St.h ?_
   |simp(disch:=first|omega|(simp only[AJ];omega))only[AK,↓AB,↓reduceIte,seval,f3,f4,f7,f8,f9,f10,f11,f12,f13,f14,f15,f16,f17,Bool.xor_self,Bool.false_xor]
   |(with_reducible (first|apply AD|apply AE))<;>(intro hc;(try simp only[AR]at hc);(try simp only[hc]);(try simp only[AQ]at hc);try omega))
  refine⟨fun _=>R5,?_⟩
  refine Ao (by decide) ?_
  repeat' (first
   |refine St.h ?_
   |simp(disch:=first|omega|(simp only[AJ];omega))only[AK,↓AB,↓reduceIte,seval,f3,f4,f7,f8,f9,f10,f11,f12,f13,f14,f15,f16,f17,Bool.xor_self,Bool.false_xor]
   |(with_reducible (first|apply AD|apply AE))<;>(intro hc;(try simp only[AR]at hc);(try simp only[hc]);(try simp only[AQ]at hc);try omega))
  refine⟨fun _=>R5,?_⟩
  refine Ao (by decide) ?_
  repeat' (first
   |refine St.h ?_
   |simp(disch:=first|omega|(simp only[AJ];omega))only[AK,↓AB,↓reduceIte,seval,f3,f4,f7,f8,f9,f10,f11,f12,f13,f14,f15,f16,f17,Bool.xor_self,Bool.false_xor]
   |(with_reducible (first|apply AD|apply AE))<;>(intro hc;(try simp only[AR]at hc);(try simp only[hc]);(try simp only[AQ]at hc);try omega))
  refine⟨fun _=>R5,?_⟩
  refine DV (.a [.i .i64 lv,.i .i64 n,.i .i64 tn,.b sh,w]) (by simp(disch:=first|omega|(simp only[AJ];omega))only[AK,↓AB,↓reduceIte,seval,f3,f4,f7,f8,f9,f10,f11,f12,f13,f14,f15,f16,f17]) R5 (fun g hg=>by simp(disch:=first|omega|(simp only[AJ];omega))only[AK,↓AB,↓reduceIte,seval,f3,f4,f7,f8,f9,f10,f11,f12,f13,f14,f15,f16,f17,hg.2.2.2.2.row.l1,hg.2.2.2.2.row.ln]) ?_
  refine DV (.a [.i .i64 lv,.i .i64 n,.i .i64 tn,.b sh,v]) (by simp(disch:=first|omega|(simp only[AJ];omega))only[AK,↓AB,↓reduceIte,seval,f3,f4,f7,f8,f9,f10,f11,f12,f13,f14,f15,f16,f17]) R5 (fun g hg=>by simp(disch:=first|omega|(simp only[AJ];omega))only[AK,↓AB,↓reduceIte,seval,f3,f4,f7,f8,f9,f10,f11,f12,f13,f14,f15,f16,f17,hg.1.row.l1,hg.1.row.ln]) ?_
  refine Ba (by decide) ?_
  repeat' (first
   |refine St.h ?_
   |simp(disch:=first|omega|(simp only[AJ];omega))only[AK,↓AB,↓reduceIte,seval,f3,f4,f7,f8,f9,f10,f11,f12,f13,f14,f15,f16,f17,Bool.xor_self,Bool.false_xor]
   |(with_reducible (first|apply AD|apply AE))<;>(intro hc;(try simp only[AR]at hc);(try simp only[hc]);(try simp only[AQ]at hc);try omega))
  refine CL.stay (Dg hw5 hA5 (by omega) (by omega) hf5) fun g6 s6=>?_
  rw[show decide ((⟨lv,n,tn,sh,ws⟩:Em)=⟨lv,n,tn,sh,ws⟩)=true from decide_eq_true rfl]
  have R6:=R5.stay s6
  have hf6:=s6.fl hf5
  have hA6:=hA5.grow s6
  have hB6:=hB5.grow s6
  have hp6:=hp5.grow s6
  have hq6:=hq5.grow s6
  have hw6:=hw5.grow s6
  repeat' (first
   |refine St.h ?_
   |simp(disch:=first|omega|(simp only[AJ];omega))only[AK,↓AB,↓reduceIte,seval,f3,f4,f7,f8,f9,f10,f11,f12,f13,f14,f15,f16,f17,Bool.xor_self,Bool.false_xor]
   |(with_reducible (first|apply AD|apply AE))<;>(intro hc;(try simp only[AR]at hc);(try simp only[hc]);(try simp only[AQ]at hc);try omega))
  refine⟨fun _=>R6,?_⟩
  refine Ao (by decide) ?_
  repeat' (first
   |refine St.h ?_
   |simp(disch:=first|omega|(simp only[AJ];omega))only[AK,↓AB,↓reduceIte,seval,f3,f4,f7,f8,f9,f10,f11,f12,f13,f14,f15,f16,f17,Bool.xor_self,Bool.false_xor]
   |(with_reducible (first|apply AD|apply AE))<;>(intro hc;(try simp only[AR]at hc);(try simp only[hc]);(try simp only[AQ]at hc);try omega))
  refine⟨fun _=>R6,?_⟩
  refine Ao (by decide) ?_
  repeat' (first
   |refine St.h ?_
   |simp(disch:=first|omega|(simp only[AJ];omega))only[AK,↓AB,↓reduceIte,seval,f3,f4,f7,f8,f9,f10,f11,f12,f13,f14,f15,f16,f17,Bool.xor_self,Bool.false_xor]
   |(with_reducible (first|apply AD|apply AE))<;>(intro hc;(try simp only[AR]at hc);(try simp only[hc]);(try simp only[AQ]at hc);try omega))
  refine⟨fun _=>R6,?_⟩
  refine Lg ?_
  repeat' (first
   |refine St.h ?_
   |simp(disch:=first|omega|(simp only[AJ];omega))only[AK,↓AB,↓reduceIte,seval,f3,f4,f7,f8,f9,f10,f11,f12,f13,f14,f15,f16,f17]
   |(with_reducible (first|apply AD|apply AE))<;>(intro hc;(try simp only[AR]at hc);(try simp only[hc]);(try simp only[AQ]at hc);try omega))
  subst hQ
  rfl
theorem MU {h:H} {v v2:V} {lv n tn lv2 m2 tn2:Int} {sh sh2:Bool} {ws ws2:List Bs} {s:List UInt8} (hL:Ws h v ws) (hw:LS 3 v) (fit:RZ ⟨lv,n,tn,sh,ws⟩) (hM:Ws h v2 ws2) (hw2:LS 3 v2) (fit2:RZ ⟨lv2,m2,tn2,sh2,ws2⟩) (hs:s.length<=9223372036854775807) (hf:B.val h.floor<=B.val h.next):
 BZ Try.prog 3 [.a [.i .i64 lv,.i .i64 n,.i .i64 tn,.b sh,v],.a [.i .i64 lv2,.i .i64 m2,.i .i64 tn2,.b sh2,v2],sv s] h fun r h'=>r=.b true:=by
 have hwl:ws.length<=9223372036854775807:=fit.2.2.2
 have hwl2:ws2.length<=9223372036854775807:=fit2.2.2.2
 refine BP c3 (by intro hb;cases hb) (by simp) (by simp) fun Q hQ=>?_
 simp only[Ay,Nat.reduceAdd]
 repeat' (first
  |refine St.h ?_
  |simp(disch:=first|omega|(simp only[AJ];omega))only[AK,↓AB,↓reduceIte,seval]
  |(with_reducible (first|apply AD|apply AE))<;>(intro hc;(try simp only[AR]at hc);(try simp only[hc]);(try simp only[AQ]at hc);try omega))
 refine AL.own (by simp) hf fun h1 s1 n1 o1=>?_
 have hf1:=s1.fl hf
 repeat' (first
  |refine St.h ?_
  |simp(disch:=first|omega|(simp only[AJ];omega))only[AK,↓AB,↓reduceIte,seval]
  |(with_reducible (first|apply AD|apply AE))<;>(intro hc;(try simp only[AR]at hc);(try simp only[hc]);(try simp only[AQ]at hc);try omega))
 refine AL.own (by simp) hf1 fun h2 s2 n2 p1=>?_
 have hf2:=s2.fl hf1
 have s02:=s1.trans s2
 have hL2:=hL.grow s02
 have hM2:=hM.grow s02
 have o2:=o1.stay s2 fun e=>e
 have r2:=o2.row
 have q2:=p1.row
 repeat' (first
  |refine St.h ?_
  |simp(disch:=first|omega|(simp only[AJ];omega))only[AK,↓AB,↓reduceIte,seval]
  |(with_reducible (first|apply AD|apply AE))<;>(intro hc;(try simp only[AR]at hc);(try simp only[hc]);(try simp only[AQ]at hc);try omega))
 refine CL.pure Wg ?_
 repeat' (first
  |refine St.h ?_
  |simp(disch:=first|omega|(simp only[AJ];omega))only[AK,↓AB,↓reduceIte,seval,r2.l1,r2.ln]
  |(with_reducible (first|apply AD|apply AE))<;>(intro hc;(try simp only[AR]at hc);(try simp only[hc]);(try simp only[AQ]at hc);try omega))
 refine CL.stay (Nd hL2 hwl hf2) fun h3 s3=>?_
 have hf3:=s3.fl hf2
 have o3:=o2.stay s3 fun e=>e
 have p3:=p1.stay s3 fun e=>e
 have r3:=o3.row
 have q3:=p3.row
 have hM3:=hM2.grow s3
 cases hfw:OI ⟨lv,n,tn,sh,ws⟩with
 |false=>
  repeat' (first
   |refine St.h ?_
   |simp(disch:=first|omega|(simp only[AJ];omega))only[AK,↓AB,↓reduceIte,seval,r3.l1,r3.ln,q3.l1,q3.ln]
   |(with_reducible (first|apply AD|apply AE))<;>(intro hc;(try simp only[AR]at hc);(try simp only[hc]);(try simp only[AQ]at hc);try omega))
  subst hQ;rfl
 |true=>
 have l12:ws.length<=12:=Nw hfw
 repeat' (first
  |refine St.h ?_
  |simp(disch:=first|omega|(simp only[AJ];omega))only[AK,↓AB,↓reduceIte,seval,r3.l1,r3.ln,q3.l1,q3.ln]
  |(with_reducible (first|apply AD|apply AE))<;>(intro hc;(try simp only[AR]at hc);(try simp only[hc]);(try simp only[AQ]at hc);try omega))
 refine CL.stay (Nd hM3 hwl2 hf3) fun h4 s4=>?_
 have hf4:=s4.fl hf3
 have s24:=s3.trans s4
 have o4:=o3.stay s4 fun e=>e
 have p4:=p3.stay s4 fun e=>e
 have r4:=o4.row
 have q4:=p4.row
 have hL4:=hL2.grow s24
 have hM4:=hM2.grow s24
 cases hfw2:OI ⟨lv2,m2,tn2,sh2,ws2⟩with
 |false=>
  repeat' (first
   |refine St.h ?_
   |simp(disch:=first|omega|(simp only[AJ];omega))only[AK,↓AB,↓reduceIte,seval,r4.l1,r4.ln,q4.l1,q4.ln]
   |(with_reducible (first|apply AD|apply AE))<;>(intro hc;(try simp only[AR]at hc);(try simp only[hc]);(try simp only[AQ]at hc);try omega))
  subst hQ;rfl
 |true=>
 have l13:ws2.length<=12:=Nw hfw2
 repeat' (first
  |refine St.h ?_
  |simp(disch:=first|omega|(simp only[AJ];omega))only[AK,↓AB,↓reduceIte,seval,r4.l1,r4.ln,q4.l1,q4.ln]
  |(with_reducible (first|apply AD|apply AE))<;>(intro hc;(try simp only[AR]at hc);(try simp only[hc]);(try simp only[AQ]at hc);try omega))
 ·subst hQ;rfl
 refine CL.stay (Rk hL4 hw (by omega) hf4) fun h5 s5=>?_
 have hf5:=s5.fl hf4
 have o5:=o4.stay s5 fun e=>e
 have r5:=o5.row
 have hL5:=hL4.grow s5
 repeat' (first
  |refine St.h ?_
  |simp(disch:=first|omega|(simp only[AJ];omega))only[AK,↓AB,↓reduceIte,seval,r5.l1,r5.ln]
  |(with_reducible (first|apply AD|apply AE))<;>(intro hc;(try simp only[AR]at hc);(try simp only[hc]);(try simp only[AQ]at hc);try omega))
 refine CL.stay (Ji hL5 (by omega) hf5) fun h6 s6=>?_
 have hf6:=s6.fl hf5
 repeat' (first
  |refine St.h ?_
  |simp(disch:=first|omega|(simp only[AJ];omega))only[AK,↓AB,↓reduceIte,seval]
  |(with_reducible (first|apply AD|apply AE))<;>(intro hc;(try simp only[AR]at hc);(try simp only[hc]);(try simp only[AQ]at hc);try omega))
 refine CL.mk (Ti (s:=s) (by omega) hf6) ?_
 rintro _ h7 ⟨u1,rfl,hu1,uo1,s7⟩
 have hf7:=s7.fl hf6
 have u11:=GW hu1
 repeat' (first
  |refine St.h ?_
  |simp(disch:=first|omega|(simp only[AJ];omega))only[AK,↓AB,↓reduceIte,seval,gM]
  |(with_reducible (first|apply AD|apply AE))<;>(intro hc;(try simp only[AR]at hc);(try simp only[hc]);(try simp only[AQ]at hc);try omega))
 refine AL.own (by simp) hf7 fun h8 s8 n8 o8=>?_
 repeat' (first
  |refine St.h ?_
  |simp(disch:=first|omega|(simp only[AJ];omega))only[AK,↓AB,↓reduceIte,seval]
  |(with_reducible (first|apply AD|apply AE))<;>(intro hc;(try simp only[AR]at hc);(try simp only[hc]);(try simp only[AQ]at hc);try omega))
 refine ST.all o8 rfl (Ft u11.2 _ _ _ _) (by simp) (by simp) fun h9 o9 s9=>?_
 have s79:AZ AM h7 h9:=s8.B3 s9 fun i e=>by rw[e];exact Nat.le_refl _
 have hf9:=s79.fl hf7
 repeat' (first
  |refine St.h ?_
  |simp(disch:=first|omega|(simp only[AJ];omega))only[AK,↓AB,↓reduceIte,seval]
  |(with_reducible (first|apply AD|apply AE))<;>(intro hc;(try simp only[AR]at hc);(try simp only[hc]);(try simp only[AQ]at hc);try omega))
 refine CL.mk (Ol (s:=s) (by omega) hf9) ?_
 rintro _ h10 ⟨u2,rfl,hu2,uo2,s10⟩
 have hf10:=s10.fl hf9
 have u21:=GW hu2
 repeat' (first
  |refine St.h ?_
  |simp(disch:=first|omega|(simp only[AJ];omega))only[AK,↓AB,↓reduceIte,seval,gM]
  |(with_reducible (first|apply AD|apply AE))<;>(intro hc;(try simp only[AR]at hc);(try simp only[hc]);(try simp only[AQ]at hc);try omega))
 refine AL.own (by simp) hf10 fun h11 s11 n11 o11=>?_
 repeat' (first
  |refine St.h ?_
  |simp(disch:=first|omega|(simp only[AJ];omega))only[AK,↓AB,↓reduceIte,seval]
  |(with_reducible (first|apply AD|apply AE))<;>(intro hc;(try simp only[AR]at hc);(try simp only[hc]);(try simp only[AQ]at hc);try omega))
 refine ST.all o11 rfl (Ft u21.2 _ _ _ _) (by simp) (by simp) fun h12 o12 s12=>?_
 have s1012:AZ AM h10 h12:=s11.B3 s12 fun i e=>by rw[e];exact Nat.le_refl _
 have hf12:=s1012.fl hf10
 have s512:=((s6.trans s7).trans s79).trans (s10.trans s1012)
 have r12:=(o5.stay s512 fun e=>e).row
 have hL12:=hL5.grow s512
 repeat' (first
  |refine St.h ?_
  |simp(disch:=first|omega|(simp only[AJ];omega))only[AK,↓AB,↓reduceIte,seval,r12.l1,r12.ln]
  |(with_reducible (first|apply AD|apply AE))<;>(intro hc;(try simp only[AR]at hc);(try simp only[hc]);(try simp only[AQ]at hc);try omega))
 have v1:=GW hL12
 refine AL.own (by simp) hf12 fun h13 s13 n13 o13=>?_
 repeat' (first
  |refine St.h ?_
  |simp(disch:=first|omega|(simp only[AJ];omega))only[AK,↓AB,↓reduceIte,seval]
  |(with_reducible (first|apply AD|apply AE))<;>(intro hc;(try simp only[AR]at hc);(try simp only[hc]);(try simp only[AQ]at hc);try omega))
 refine ST.all o13 rfl (Ft v1.2 _ _ _ _) (by simp) (by simp) fun h14 o14 s14=>?_
 have s1214:AZ AM h12 h14:=s13.B3 s14 fun i e=>by rw[e];exact Nat.le_refl _
 have hf14:=s1214.fl hf12
 have hL14:=hL12.grow s1214
 have s514:=s512.trans s1214
 have o5e:=o5.stay s514 fun e=>e
 have r14:=o5e.row
 repeat' (first
  |refine St.h ?_
  |simp(disch:=first|omega|(simp only[AJ];omega))only[AK,↓AB,↓reduceIte,seval,r14.l1,r14.ln]
  |(with_reducible (first|apply AD|apply AE))<;>(intro hc;(try simp only[AR]at hc);(try simp only[hc]);(try simp only[AQ]at hc);try omega))
 refine AP.vE hL14 (by omega) hf14 fun w h15 hw15 sw15 ow15 s15=>?_
 have hf15:=s15.fl hf14
 have o15:=o14.stay s15 fun e=>e
 have w1:=GW hw15
 repeat' (first
  |refine St.h ?_
  |simp(disch:=first|omega|(simp only[AJ];omega))only[AK,↓AB,↓reduceIte,seval]
  |(with_reducible (first|apply AD|apply AE))<;>(intro hc;(try simp only[AR]at hc);(try simp only[hc]);(try simp only[AQ]at hc);try omega))
 refine ST.own (y:=w) o15 w1.1 w1.2 (by omega) (by omega) fun h16 o16 s16=>?_
 have s1216:AZ AM h12 h16:=(s1214.trans s15).B3 s16 fun i e=>by rw[e];exact Nat.le_refl _
 have o16':Ev.Own h16 h12.next [.i .i64 lv,.i .i64 n,.i .i64 tn,.b sh,w]:=o16
 have lt14:=C4 o14
 have hw16:Ws h16 w ws:=Ss.stay hw15 s16 fun q hq e=>by have:=ow15 q hq;rw[e]at this;omega
 have hf16:=s16.fl hf15
 have r16:=o16'.row
 repeat' (first
  |refine St.h ?_
  |simp(disch:=first|omega|(simp only[AJ];omega))only[AK,↓AB,↓reduceIte,seval,r16.l1,r16.ln]
  |(with_reducible (first|apply AD|apply AE))<;>(intro hc;(try simp only[AR]at hc);(try simp only[hc]);(try simp only[AQ]at hc);try omega))
 refine CL.mk (UF hw16 sw15 (by omega) hf16) ?_
 rintro _ h17 ⟨c,rfl,hcb,co,s17⟩
 have hf17:=s17.fl hf16
 have hcw:Ws h17 c ws:=by
  exact hcb.ss
 have c1:=GW hcw
 repeat' (first
  |refine St.h ?_
  |simp(disch:=first|omega|(simp only[AJ];omega))only[AK,↓AB,↓reduceIte,seval]
  |(with_reducible (first|apply AD|apply AE))<;>(intro hc;(try simp only[AR]at hc);(try simp only[hc]);(try simp only[AQ]at hc);try omega))
 refine AL.own (by simp) hf17 fun h18 s18 n18 o18=>?_
 repeat' (first
  |refine St.h ?_
  |simp(disch:=first|omega|(simp only[AJ];omega))only[AK,↓AB,↓reduceIte,seval]
  |(with_reducible (first|apply AD|apply AE))<;>(intro hc;(try simp only[AR]at hc);(try simp only[hc]);(try simp only[AQ]at hc);try omega))
 refine ST.all o18 rfl (Ft c1.2 _ _ _ _) (by simp) (by simp) fun h19 o19 s19=>?_
 have s1719:AZ AM h17 h19:=s18.B3 s19 fun i e=>by rw[e];exact Nat.le_refl _
 have hf19:=s1719.fl hf17
 have r19:=o19.row
 have hc19:=hcw.grow s1719
 have s1219:=s1216.trans (s17.trans s1719)
 have hL19:=hL12.grow s1219
 have s519:=s512.trans s1219
 have a19:=(o5.stay s519 fun e=>e).row
 repeat' (first
  |refine St.h ?_
  |simp(disch:=first|omega|(simp only[AJ];omega))only[AK,↓AB,↓reduceIte,seval,r19.l1,r19.ln,a19.l1,a19.ln]
  |(with_reducible (first|apply AD|apply AE))<;>(intro hc;(try simp only[AR]at hc);(try simp only[hc]);(try simp only[AQ]at hc);try omega))
 refine CL.stay (Dg hc19 hL19 (by omega) (by omega) hf19) fun h20 s20=>?_
 rw[show decide ((⟨lv,n,tn,sh,ws⟩:Em)=⟨lv,n,tn,sh,ws⟩)=true from decide_eq_true rfl]
 have hf20:=s20.fl hf19
 have o20:=o19.stay s20 fun e=>e
 have r20:=o20.row
 have hc20:=hc19.grow s20
 have s1620:=(s17.trans s1719).trans s20
 have s1220:=s1216.trans s1620
 have s912:=s10.trans s1012
 have s520:=s512.trans s1220
 have R16:Jn h.next h1.next h7.next h10.next h12.next _ _ _ _ _ h16:=⟨o5.stay (s512.trans s1216) fun e=>e,p4.stay (s5.trans (s512.trans s1216)) fun e=>e,o9.stay (s912.trans s1216) fun e=>e,o12.stay s1216 fun e=>e,o16'⟩
 have R20:=R16.stay s1620
 have k1:=hL12.grow s1216
 have k2:=hM4.grow (s5.trans (s512.trans s1216))
 have k3:=hu1.grow ((s79.trans s912).trans s1216)
 have k4:=hu2.grow (s1012.trans s1216)
 have he8:(if F7 ⟨lv,n,tn,sh,ws⟩then (0:Int)else 10)=if F7 ⟨lv,n,tn,sh,ws⟩then (0:Int)else 10:=rfl
 have eb2:(Ec ⟨lv,n,tn,sh,ws⟩).2=F7 ⟨lv,n,tn,sh,ws⟩:=by unfold Ec;cases F7 ⟨lv,n,tn,sh,ws⟩<;>rfl
 have rest:∀ (T:F) (g:H),Jn h.next h1.next h7.next h10.next h12.next _ _ _ _ _ g->Ws g v ws->Ws g v2 ws2->Ws g u1 (An s).1.ws->Ws g u2 (An s).1.ws->Ws g w ws->B.val g.floor<=B.val g.next->get 3 T=.p h.next 0 0 5->get 4 T=.p h1.next 0 0 5->get 7 T=sv (Ec ⟨lv,n,tn,sh,ws⟩).1->get 8 T=.i .i64 (if F7 ⟨lv,n,tn,sh,ws⟩then 0 else 10)->get 9 T=sv (Ec ⟨lv,n,tn,sh,ws⟩).1->get 10 T=.b (Ec ⟨lv,n,tn,sh,ws⟩).2->
  get 11 T=.p h7.next 0 0 5->get 12 T=.i .i64 (An s).2.1->get 13 T=.i .i64 (An s).2.2->get 14 T=.p h10.next 0 0 5->get 15 T=.i .i64 (An s).2.1->get 16 T=.i .i64 (An s).2.2->get 17 T=.p h12.next 0 0 5->Ok Try.prog 128 UX T g (PM [Rs.tmp (AV 6)] Q):=
  fun T g a0 a1 a2 a3 a4 a5 hf f3 f4 f7 f8 f9 f10 f11 f12 f13 f14 f15 f16 f17=>TT (lv2:=lv2) (m2:=m2) (tn2:=tn2) (sh2:=sh2) a0 a1 hw a2 a3 a4 a5 l12 l13 hf f3 f4 f7 f8 f9 (f10.trans (by rw[eb2])) f11 f12 f13 f14 f15 f16 f17 hQ
 repeat' (first
  |(refine rest _ _ ?_ ?_ ?_ ?_ ?_ ?_ ?_ ?_ ?_ ?_ ?_ ?_ ?_ ?_ ?_ ?_ ?_ ?_ ?_ ?_)
  |refine St.h ?_
  |simp(disch:=first|omega|(simp only[AJ];omega))only[AK,↓AB,↓reduceIte,seval,r20.l1,r20.ln,hc20.ln,hc20.ix]
  |(with_reducible (first|apply AD|apply AE))<;>(intro hc;(try simp only[AR]at hc);(try simp only[hc]);(try simp only[AQ]at hc);try omega))
 ·have hpos:0<ws.length:=by omega
  have hb20:=hcb.grow (s1719.trans s20)
  refine ST.wk (j:=0) hb20 Cs (by omega) (by omega) (by omega) rfl rfl fun h21 s21=>?_
  have st:∀ {x:V} {L:List Bs} (a:Ws h16 x L),Ws h21 x L:=fun a=>Ss.stay (a.grow s1620) s21 fun q hq e=>Nat.not_lt.2 (co q e) (mY a q hq)
  repeat' (first
   |(refine rest _ _ ?_ ?_ ?_ ?_ ?_ ?_ ?_ ?_ ?_ ?_ ?_ ?_ ?_ ?_ ?_ ?_ ?_ ?_ ?_ ?_)
   |refine St.h ?_
   |simp(disch:=first|omega|(simp only[AJ];omega))only[AK,↓AB,↓reduceIte,seval]
   |(with_reducible (first|apply AD|apply AE))<;>(intro hc;(try simp only[AR]at hc);(try simp only[hc]);(try simp only[AQ]at hc);try omega))
  ·exact R16.nJ R20 s21 co
  ·exact st k1
  ·exact st k2
  ·exact st k3
  ·exact st k4
  ·exact st hw16
  ·exact s21.fl hf20
 ·exact R20
 ·exact k1.grow s1620
 ·exact k2.grow s1620
 ·exact k3.grow s1620
 ·exact k4.grow s1620
 ·exact hw16.grow s1620
 ·exact hf20
end Go.Proofs.Ytmlcddeikgechaa
namespace Go.Proofs.Ytmlcddeikgechaa.itemTells
open Go Go.Ev Go.ChangeShapes Go.WideShapes Go.ChangeAt Go.RowKit Go.ChangeMaps
theorem own:ownKnob Try.prog.godebug=none:=by kernel_rfl
theorem laid:laidOutB Try.prog=true:=by kernel_rfl
theorem Ob {W:World} (h:W.ShapedOpen Try.prog):0<W.heap.size:=by
 obtain⟨o,_,h1,_⟩:=h.2 Try.prog.globals.size (Nat.le_refl _) (of_decide_eq_true (by kernel_rfl))
 exact Nat.lt_of_le_of_lt (Nat.zero_le _) (Array.getElem?_eq_some_iff.1 h1).1
set_option maxRecDepth 100000 in
theorem uN:∃ fs,Xk Try.prog 24 fs:=⟨_,⟨Try.underlying24,by kernel_rfl,⟨_,rfl,rfl,by kernel_rfl,Try.underlying3⟩,⟨_,rfl,rfl,by kernel_rfl,Try.underlying3⟩,⟨_,rfl,rfl,by kernel_rfl,Try.underlying3⟩,⟨_,rfl,rfl,by kernel_rfl,Try.underlying4⟩,⟨_,rfl,rfl,by kernel_rfl,_,_,Try.underlying22,⟨Try.underlying39,by kernel_rfl,⟨⟨_,rfl,rfl,by kernel_rfl,Try.underlying9⟩,⟨_,rfl,rfl,by kernel_rfl,Try.underlying4⟩,⟨_,rfl,rfl,by kernel_rfl,Try.underlying9⟩,trivial⟩⟩⟩⟩⟩
set_option maxRecDepth 100000 in
theorem uW:∃ fs,Xk Try.prog 24 fs:=⟨_,⟨Try.underlying24,by kernel_rfl,⟨_,rfl,rfl,by kernel_rfl,Try.underlying3⟩,⟨_,rfl,rfl,by kernel_rfl,Try.underlying3⟩,⟨_,rfl,rfl,by kernel_rfl,Try.underlying3⟩,⟨_,rfl,rfl,by kernel_rfl,Try.underlying4⟩,⟨_,rfl,rfl,by kernel_rfl,_,_,Try.underlying22,⟨Try.underlying39,by kernel_rfl,⟨⟨_,rfl,rfl,by kernel_rfl,Try.underlying9⟩,⟨_,rfl,rfl,by kernel_rfl,Try.underlying4⟩,⟨_,rfl,rfl,by kernel_rfl,Try.underlying9⟩,trivial⟩⟩⟩⟩⟩
set_option maxRecDepth 100000 in
theorem run {H:Type} {enc:TypeId×Value->H} (W:World) (base:Nat) (args:Array Value) (ds:List (DataW H)) (p:List MemPlace) (hval:∀ (j:Nat) t v,Try.f3.params[j]? =some t->args[j]? =some v->Value.okWide Try.prog W .any base t v) (hopen:W.ShapedOpen Try.prog)
 (hA:DataW.TrodAll enc Try.prog W 0 (fun _=>true) true Try.f3.params.toList args.toList ds p):Calls Try.prog 3 args W fun e w'=>e=.returned (.bool true)/\Below W.heap.size W w':=by
 rw[Try.params3]at hA hval
 obtain⟨v0,vs0,d0,ds0,p0,q0,hargs,rfl,rfl,h0,r0⟩:=trodAll_cons hA
 obtain⟨v1,vs1,d1,ds1,p1,q1,rfl,rfl,rfl,h1,r1⟩:=trodAll_cons r0
 obtain⟨v2,vs2,d2,ds2,p2,q2,rfl,rfl,rfl,h2,r2⟩:=trodAll_cons r1
 obtain⟨rfl,rfl,rfl⟩:=trodAll_nil r2
 obtain rfl:args=#[v0,v1,v2]:=by cases args;simp_all
 obtain⟨h,s1,s2⟩:=Go.Ev.start W
 have s:Go.Ev.Start W h:=⟨s1,s2⟩
 obtain⟨fs0,F0⟩:=uN
 obtain⟨ia0,ib0,ic0,iq0,iw0,iL0,rfl,im0,is0,if0⟩:=YI s (Ob hopen) F0 (hval 0 24 v0 rfl rfl) h0
 obtain⟨fs1,F1⟩:=uW
 obtain⟨ia1,ib1,ic1,iq1,iw1,iL1,rfl,im1,is1,if1⟩:=YI s (Ob hopen) F1 (hval 1 24 v1 rfl rfl) h1
 obtain⟨a2,rfl,rfl,rfl,w2⟩:=open_string Try.underlying9 (hval 2 9 v2 rfl rfl) h2
 exact O4 s (vs:=[.a [.i .i64 ia0,.i .i64 ib0,.i .i64 ic0,.b iq0,Db W iw0],.a [.i .i64 ia1,.i .i64 ib1,.i .i64 ic1,.b iq1,Db W iw1],sv a2.data.toList]) ⟨VQ ia0 ib0 ic0 iq0 iw0,VQ ia1 ib1 ic1 iq1 iw1,(by rw[<-Nr W];exact Kf W _),trivial⟩ (MU im0 is0 if0 im1 is1 if1 (V8 w2) s1.Kg)
set_option maxRecDepth 100000 in
theorem lifted (os:Os) (started:os.Started) (H:Type) (enc:TypeId×Value->H):
 ReturnsInHanded {} Try.checked os 3 .any (Rows.itemTellsSpec.pre6 enc Try.prog Try.f3 Rows.itemTellsRow.domain false) (Rows.itemTellsSpec.post enc Try.prog Try.f3 false true false false):=
 PS (C:=Try.checked) own started (by kernel_rfl) Try.func3
  (ChangeSpec.witness6 (enc:=enc) (C:=Try.checked) false ⟨#[],#[.agg #[.int .i64 0,.int .i64 0,.int .i64 0,.bool false,.slice none 0 0],.agg #[.int .i64 0,.int .i64 0,.int .i64 0,.bool false,.slice none 0 0],.string ⟨#[]⟩],[]⟩ 8 (by kernel_rfl) (by kernel_rfl) (by kernel_rfl) (by kernel_rfl))
  rfl (fun ds hd=>by rw[Try.params3]at hd;match ds,hd with|[d1,d2,d3],_=>rfl) laid (by kernel_rfl) (by kernel_rfl) Try.underlying4 (fun W base args ds p hv ho hA=>run W base args ds p hv ho hA)
theorem Wq:Rows.itemTellsRow.holds Try.pinned (OpenSpec.ofChange Rows.itemTellsSpec):=
 OpenClaim.holds_of_wide 3 Try.f3 rfl rfl rfl rfl rfl rfl rfl ⟨rfl,rfl,rfl,rfl,rfl⟩ rfl rfl rfl rfl rfl (by kernel_rfl) Try.func3 (by kernel_rfl)
  (of_decide_eq_true (by kernel_rfl)) (by unfold Func.isWrapper;first|(rw[if_pos (by decide+kernel)];kernel_rfl)|(rw[if_neg (by decide+kernel)];exact⟨rfl,rfl⟩))
  (fun os started H enc _=>lifted os started H enc)
/--THE STATEMENT -/
theorem proved:Rows.ItemTellsSaid:=
 Wq
end Go.Proofs.Ytmlcddeikgechaa.itemTells
end
