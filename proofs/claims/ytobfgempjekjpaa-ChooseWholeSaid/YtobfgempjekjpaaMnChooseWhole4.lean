/- The law ChooseWhole, part 4: what its proof uses, closely written. No condition. -/
import Derived.Test.YtobfgempjekjpaaMnChooseWhole3
import Derived.Test.YtobfgempjekjpaaRows
import Derived.ChangeMaps5
noncomputable section
set_option maxRecDepth 100000
set_option maxHeartbeats 8000000
set_option linter.all false
namespace Go.Proofs.Ytobfgempjekjpaa
open Go Go.Ev
section
variable {L:List BN} {N:Nat}
theorem OM {h:H} {v:V} {p:Nat->Nat} {lo hi a:Nat} (hb:Rt h v (Bj L p N)) (hN:N<=1000) (h1:a+hi<=N) (h2:lo<=1000) (hh:TP (Cb L) p a (lo+1) hi) (hf:B.val h.floor<=B.val h.next):BO Try.prog 93 [v,.i .i64 (lo:Int),.i .i64 (hi:Int),.i .i64 (a:Int),.f 64 []] h fun y h'=>
 ∃ q,Dn a (a+hi) p q/\TP (Cb L) q a lo hi/\Rt h' v (Bj L q N)/\AU (Am v) h h':=by
 refine BK yS (by intro hb;cases hb) (by simp) (by simp) fun Q hQ=>?_
 simp only[Av,Nat.reduceAdd]
 repeat' (first
  |refine St.h ?_
  |simp(disch:=first|omega|(simp only[AJ];omega))only[AI,↓AB,↓reduceIte,seval]
  |(with_reducible (first|apply AD|apply AE))<;>(intro hc;(try simp only[Ab]at hc);(try simp only[hc]);(try simp only[Aa]at hc);try omega))
 refine Ok.lp (fun m t g=>∃ (r:Nat) (q:Nat->Nat),m=1000-r/\lo<=r/\r<=1000/\get 0 t=v/\get 2 t=.i .i64 (hi:Int)/\get 3 t=.i .i64 (a:Int)/\get 4 t=.f 64 []/\get 10 t=.i .i64 (r:Int)/\Qg (Cb L) q a lo hi r/\Dn a (a+hi) p q/\Rt g v (Bj L q N)/\AU (Am v) h g) (1000-lo) ?_ ?_
 ·simp(disch:=first|omega|(simp only[AJ];omega))only[AI,↓AB,↓reduceIte,seval]
  refine⟨lo,p,by omega,by omega,by omega,?_⟩
  refine⟨?_,?_,?_,?_,?_,U6 hh,.refl _,hb,⟨rfl,Nat.le_refl _,fun _ _ _=>rfl⟩⟩
  all_goals first|trivial|rfl
 rintro I hI m t g ⟨r,q,rfl,hr1,hr2,f0,f2,f3,f4,f10,hx,sw,rb,st⟩
 have hfg:=st.fl hf
 have ech:2*(r:Int)+1=((2*r+1:Nat):Int):=by omega
 by_cases hc:2*r+1<hi
 case neg=>
  have d1:((hi:Int)<=((2*r+1:Nat):Int))=True:=eq_true (by omega)
  repeat' (first
   |refine St.h ?_
   |simp(disch:=first|omega|(simp only[AJ];omega))only[AI,↓AB,↓reduceIte,seval,f0,f2,f3,f4,f10,ech,d1]
   |(with_reducible (first|apply AD|apply AE))<;>(intro hc;(try simp only[Ab]at hc);(try simp only[hc]);(try simp only[Aa]at hc);try omega))
  subst hQ
  exact⟨q,sw,MW hx fun c h1 h2=>by omega,rb,st⟩
 obtain⟨ch,hch⟩:∃ ch,ch=2*r+1:=⟨_,rfl⟩
 rw[<-hch]at ech hc
 have d1:((hi:Int)<=(ch:Int))=False:=eq_false (by omega)
 have e2:(ch:Int)+1=((ch+1:Nat):Int):=by omega
 have W1:=rb.DY
 have ln:(Bj L q N).length=N:=CJ
 have i1:((a:Int)+(ch:Int)).toNat=a+ch:=by omega
 have i2:((a:Int)+(ch:Int)+1).toNat=a+ch+1:=by omega
 have i3:((a:Int)+(r:Int)).toNat=a+r:=by omega
 have gx:∀ j,j<N->(Bj L q N).getD j default=L.getD (q j) default:=fun j hj=>By hj
 have g1:(Bj L q N).getD (a+ch) default=L.getD (q (a+ch)) default:=gx _ (by omega)
 have g3:(Bj L q N).getD (a+r) default=L.getD (q (a+r)) default:=gx _ (by omega)
 --the greater child
 obtain⟨c,hc1,hc2,hmax,hcase⟩:∃ c,(c=2*r+1\/c=2*r+2)/\c<hi/\(∀ d,(d=2*r+1\/d=2*r+2)->d<hi->Cb L (q (a+c)) (q (a+d))=false)/\
  ((ch+1<hi/\Cb L (q (a+ch)) (q (a+ch+1))=true/\c=ch+1)\/(ch+1<hi/\Cb L (q (a+ch)) (q (a+ch+1))=false/\c=ch)\/(¬ch+1<hi/\c=ch)):=by
  have UW:∀ {x},Cb L x x=false:=(Dk L).UW
  by_cases h3:ch+1<hi
  ·cases hk:Cb L (q (a+ch)) (q (a+ch+1))with
   |true=>
    refine⟨ch+1,by omega,h3,fun d hd hd2=>?_,.inl ⟨h3,rfl,rfl⟩⟩
    rcases hd with e|e
    ·rw[show d=ch by omega];exact(Dk L).M6 hk
    ·rw[show d=ch+1 by omega];exact UW
   |false=>
    refine⟨ch,by omega,by omega,fun d hd hd2=>?_,.inr (.inl ⟨h3,rfl,rfl⟩)⟩
    rcases hd with e|e
    ·rw[show d=ch by omega];exact UW
    ·rw[show d=ch+1 by omega];exact hk
  ·refine⟨ch,by omega,by omega,fun d hd hd2=>?_,.inr (.inr ⟨h3,rfl⟩)⟩
   rw[show d=ch by omega];exact UW
 have gc:(Bj L q N).getD (a+c) default=L.getD (q (a+c)) default:=gx _ (by omega)
 have ic:((a:Int)+(c:Int)).toNat=a+c:=by omega
 --what follows,from the child on
 have fin:∀ (K:X->F->H->Prop) (t:F) (g:H),get 0 t=v->get 2 t=.i .i64 (hi:Int)->get 3 t=.i .i64 (a:Int)->get 4 t=.f 64 []->get 10 t=.i .i64 (r:Int)->get 11 t=.i .i64 (c:Int)->Rt g v (Bj L q N)->AU (Am v) h g->
  (∀ t g,Cb L (q (a+r)) (q (a+c))=false->Rt g v (Bj L q N)->AU (Am v) h g->K .ret t g)->
  (∀ t g,Cb L (q (a+r)) (q (a+c))=true->get 0 t=v->get 2 t=.i .i64 (hi:Int)->get 3 t=.i .i64 (a:Int)->get 4 t=.f 64 []->get 10 t=.i .i64 (c:Int)->Rt g v (Bj L (Gt q (a+r) (a+c)) N)->AU (Am v) h g->K .normal t g)->Ok Try.prog 82 Vs t g K:=fun K t g f0 f2 f3 f4 f10 f11 rb st k1 k2=>by
  have hfg:=st.fl hf
  have W1:=rb.DY
  repeat' (first
   |refine St.h ?_
   |simp(disch:=first|omega|(simp only[AJ];omega))only[AI,↓AB,↓reduceIte,seval,f0,f2,f3,f4,f10,f11,i3,ic,g3,gc,W1.ix,W1.la]
   |(with_reducible (first|apply AD|apply AE))<;>(intro hc;(try simp only[Ab]at hc);(try simp only[hc]);(try simp only[Aa]at hc);try omega))
  refine CL.stay (Bp (a:=L.getD (q (a+r)) default) (b:=L.getD (q (a+c)) default) hfg) fun g4 s4=>?_
  have rb4:=rb.grow s4
  have st4:=st.trans (Bh s4)
  have W4:=rb4.DY
  cases hk:Cb L (q (a+r)) (q (a+c))with
  |false=>
   have d2:=D3 hk
   repeat' (first
    |refine St.h ?_
    |simp(disch:=first|omega|(simp only[AJ];omega))only[AI,↓AB,↓reduceIte,seval,f0,f2,f3,f4,f10,f11,d2]
    |(with_reducible (first|apply AD|apply AE))<;>(intro hc;(try simp only[Ab]at hc);(try simp only[hc]);(try simp only[Aa]at hc);try omega))
   exact k1 _ _ hk rb4 st4
  |true=>
   have d2:=Ds hk
   repeat' (first
    |refine St.h ?_
    |simp(disch:=first|omega|(simp only[AJ];omega))only[AI,↓AB,↓reduceIte,seval,f0,f2,f3,f4,f10,f11,d2,i3,ic,g3,gc,W4.ix,W4.la]
    |(with_reducible (first|apply AD|apply AE))<;>(intro hc;(try simp only[Ab]at hc);(try simp only[hc]);(try simp only[Aa]at hc);try omega))
   refine ST.MC rb4 hN (by omega) fun h5 B5 s5=>?_
   have W5:=B5.DY
   repeat' (first
    |refine St.h ?_
    |simp(disch:=first|omega|(simp only[AJ];omega))only[AI,↓AB,↓reduceIte,seval,f0,f2,f3,f4,f10,f11,i3,ic,W5.ix]
    |(with_reducible (first|apply AD|apply AE))<;>(intro hc;(try simp only[Ab]at hc);(try simp only[hc]);(try simp only[Aa]at hc);try omega))
   refine ST.G2 B5 hN (by omega) fun h6 B6 s6=>?_
   repeat' (first
    |refine St.h ?_
    |simp(disch:=first|omega|(simp only[AJ];omega))only[AI,↓AB,↓reduceIte,seval,f0,f2,f3,f4,f10,f11]
    |(with_reducible (first|apply AD|apply AE))<;>(intro hc;(try simp only[Ab]at hc);(try simp only[hc]);(try simp only[Aa]at hc);try omega))
   exact k2 _ _ hk (by simp(disch:=first|omega|(simp only[AJ];omega))only[AI,↓AB,↓reduceIte,seval,f0]) (by simp(disch:=first|omega|(simp only[AJ];omega))only[AI,↓AB,↓reduceIte,seval,f2]) (by simp(disch:=first|omega|(simp only[AJ];omega))only[AI,↓AB,↓reduceIte,seval,f3]) (by simp(disch:=first|omega|(simp only[AJ];omega))only[AI,↓AB,↓reduceIte,seval,f4]) (by simp(disch:=first|omega|(simp only[AJ];omega))only[AI,↓AB,↓reduceIte,seval,f11]) B6 (st4.trans (s5.trans s6))
 have fin1:∀ g,Cb L (q (a+r)) (q (a+c))=false->Rt g v (Bj L q N)->AU (Am v) h g->∃ q,Dn a (a+hi) p q/\TP (Cb L) q a lo hi/\Rt g v (Bj L q N)/\AU (Am v) h g:=fun g hk rb st=>by
  refine⟨q,sw,MW hx fun d hd hd2=>?_,rb,st⟩
  exact(Dk L).nt hk (hmax d hd hd2)
 have fin2:∀ t g,Cb L (q (a+r)) (q (a+c))=true->get 0 t=v->get 2 t=.i .i64 (hi:Int)->get 3 t=.i .i64 (a:Int)->get 4 t=.f 64 []->get 10 t=.i .i64 (c:Int)->Rt g v (Bj L (Gt q (a+r) (a+c)) N)->AU (Am v) h g->Zg I (1000-r) t g:=fun t g hk f0 f2 f3 f4 f10 rb st=>
  Aw hI (1000-c) (by omega) ⟨c,_,rfl,by omega,by omega,f0,f2,f3,f4,f10,Sn (Dk L) hx hr1 hc1 hc2 hmax hk,sw.trans (.one (by omega) (by omega) (by omega) (by omega)),rb,st⟩
 rcases hcase with⟨h3,hk,rfl⟩|⟨h3,hk,rfl⟩|⟨h3,rfl⟩
 ·have d2:(((ch+1:Nat):Int)<(hi:Int))=True:=eq_true (by omega)
  have g2:(Bj L q N).getD (a+ch+1) default=L.getD (q (a+ch+1)) default:=gx _ (by omega)
  repeat' (first
   |refine St.h ?_
   |simp(disch:=first|omega|(simp only[AJ];omega))only[AI,↓AB,↓reduceIte,seval,f0,f2,f3,f4,f10,ech,d1,e2,d2,i1,i2,g1,g2,W1.ix,W1.la]
   |(with_reducible (first|apply AD|apply AE))<;>(intro hc;(try simp only[Ab]at hc);(try simp only[hc]);(try simp only[Aa]at hc);try omega))
  refine CL.stay (Bp (a:=L.getD (q (a+ch)) default) (b:=L.getD (q (a+ch+1)) default) hfg) fun g4 s4=>?_
  have d3:=Ds hk
  repeat' (first
   |refine fin _ _ _ ?_ ?_ ?_ ?_ ?_ ?_ (rb.grow s4) (st.trans (Bh s4)) (fun t g hk rb st=>?_) (fun t g hk f0 f2 f3 f4 f10 rb st=>?_)
   |refine St.h ?_
   |simp(disch:=first|omega|(simp only[AJ];omega))only[AI,↓AB,↓reduceIte,seval,f0,f2,f3,f4,f10,ech,e2,d3]
   |(with_reducible (first|apply AD|apply AE))<;>(intro hc;(try simp only[Ab]at hc);(try simp only[hc]);(try simp only[Aa]at hc);try omega))
  ·subst hQ
   exact fin1 g hk rb st
  ·exact fin2 t g hk f0 f2 f3 f4 f10 rb st
 ·have d2:(((c+1:Nat):Int)<(hi:Int))=True:=eq_true (by omega)
  have g2:(Bj L q N).getD (a+c+1) default=L.getD (q (a+c+1)) default:=gx _ (by omega)
  repeat' (first
   |refine St.h ?_
   |simp(disch:=first|omega|(simp only[AJ];omega))only[AI,↓AB,↓reduceIte,seval,f0,f2,f3,f4,f10,ech,d1,e2,d2,i1,i2,g1,g2,W1.ix,W1.la]
   |(with_reducible (first|apply AD|apply AE))<;>(intro hc;(try simp only[Ab]at hc);(try simp only[hc]);(try simp only[Aa]at hc);try omega))
  refine CL.stay (Bp (a:=L.getD (q (a+c)) default) (b:=L.getD (q (a+c+1)) default) hfg) fun g4 s4=>?_
  have d3:=D3 hk
  repeat' (first
   |refine fin _ _ _ ?_ ?_ ?_ ?_ ?_ ?_ (rb.grow s4) (st.trans (Bh s4)) (fun t g hk rb st=>?_) (fun t g hk f0 f2 f3 f4 f10 rb st=>?_)
   |refine St.h ?_
   |simp(disch:=first|omega|(simp only[AJ];omega))only[AI,↓AB,↓reduceIte,seval,f0,f2,f3,f4,f10,ech,e2,d3]
   |(with_reducible (first|apply AD|apply AE))<;>(intro hc;(try simp only[Ab]at hc);(try simp only[hc]);(try simp only[Aa]at hc);try omega))
  ·subst hQ
   exact fin1 g hk rb st
  ·exact fin2 t g hk f0 f2 f3 f4 f10 rb st
 ·have d2:(((c+1:Nat):Int)<(hi:Int))=False:=eq_false (by omega)
  repeat' (first
   |refine fin _ _ _ ?_ ?_ ?_ ?_ ?_ ?_ rb st (fun t g hk rb st=>?_) (fun t g hk f0 f2 f3 f4 f10 rb st=>?_)
   |refine St.h ?_
   |simp(disch:=first|omega|(simp only[AJ];omega))only[AI,↓AB,↓reduceIte,seval,f0,f2,f3,f4,f10,ech,d1,e2,d2]
   |(with_reducible (first|apply AD|apply AE))<;>(intro hc;(try simp only[Ab]at hc);(try simp only[hc]);(try simp only[Aa]at hc);try omega))
  ·subst hQ
   exact fin1 g hk rb st
  ·exact fin2 t g hk f0 f2 f3 f4 f10 rb st
theorem Tg {h:H} {v:V} {p:Nat->Nat} {a b:Nat} (hb:Rt h v (Bj L p N)) (hN:N<=1000) (h1:a<b) (h2:b<=N) (hf:B.val h.floor<=B.val h.next):BO Try.prog 82 [v,.i .i64 (a:Int),.i .i64 (b:Int),.f 64 []] h fun y h'=>
 ∃ q,Dn a b p q/\Gq (Cb L) q a b/\Rt h' v (Bj L q N)/\AU (Am v) h h':=by
 obtain⟨n,rfl⟩:∃ n,b=a+n:=⟨b-a,by omega⟩
 have en:((a+n:Nat):Int)-(a:Int)=(n:Int):=by omega
 have ei:((n:Int)-1).toNat/2=(n+1)/2-1:=by omega
 have ei2:((n:Int)-1)/2=(((n+1)/2-1:Nat):Int):=by omega
 refine BK xc (by intro hb;cases hb) (by simp) (by simp) fun Q hQ=>?_
 simp only[Av,Nat.reduceAdd]
 repeat' (first
  |refine St.h ?_
  |simp(disch:=first|omega|(simp only[AJ];omega))only[AI,↓AB,↓reduceIte,seval,en,ei,ei2]
  |(with_reducible (first|apply AD|apply AE))<;>(intro hc;(try simp only[Ab]at hc);(try simp only[hc]);(try simp only[Aa]at hc);try omega))
 --the heap is built
 refine Ok.lp (fun m t g=>∃ (i:Nat) (q:Nat->Nat),m=i/\i<=n/\get 0 t=v/\get 3 t=.f 64 []/\get 8 t=.i .i64 (a:Int)/\get 9 t=.i .i64 0/\get 10 t=.i .i64 (n:Int)/\get 11 t=.i .i64 ((i:Int)-1)/\TP (Cb L) q a i n/\Dn a (a+n) p q/\Rt g v (Bj L q N)/\AU (Am v) h g) ((n+1)/2) ?_ ?_
 ·simp(disch:=first|omega|(simp only[AJ];omega))only[AI,↓AB,↓reduceIte,seval,en,ei,ei2]
  refine⟨(n+1)/2,p,rfl,by omega,?_⟩
  refine⟨?_,?_,?_,?_,?_,?_,Td (by omega),.refl _,hb,⟨rfl,Nat.le_refl _,fun _ _ _=>rfl⟩⟩
  all_goals first|trivial|rfl|(simp only[V.i.injEq,true_and];omega)
 rintro I hI m t g ⟨i,q,rfl,hi,f0,f3,f8,f9,f10,f11,hh,sw,rb,st⟩
 have hfg:=st.fl hf
 by_cases h0:m=0
 case neg=>
  obtain⟨j,rfl⟩:∃ j,m=j+1:=⟨m-1,by omega⟩
  have ej:((j+1:Nat):Int)-1=(j:Int):=by omega
  rw[ej]at f11
  have d1:((0:Int)<=(j:Int))=True:=eq_true (by omega)
  repeat' (first
   |refine St.h ?_
   |simp(disch:=first|omega|(simp only[AJ];omega))only[AI,↓AB,↓reduceIte,seval,f0,f3,f8,f9,f10,f11,d1]
   |(with_reducible (first|apply AD|apply AE))<;>(intro hc;(try simp only[Ab]at hc);(try simp only[hc]);(try simp only[Aa]at hc);try omega))
  refine CL.mk (OM (lo:=j) (hi:=n) (a:=a) rb hN h2 (by omega) hh hfg) ?_
  rintro y g2 ⟨q2,G2,hh2,rb2,s2⟩
  repeat' (first
   |refine St.h ?_
   |simp(disch:=first|omega|(simp only[AJ];omega))only[AI,↓AB,↓reduceIte,seval,f0,f3,f8,f9,f10,f11]
   |(with_reducible (first|apply AD|apply AE))<;>(intro hc;(try simp only[Ab]at hc);(try simp only[hc]);(try simp only[Aa]at hc);try omega))
  exact Aw hI j (by omega) ⟨j,q2,rfl,by omega,by simp(disch:=first|omega|(simp only[AJ];omega))only[AI,↓AB,↓reduceIte,seval,f0],by simp(disch:=first|omega|(simp only[AJ];omega))only[AI,↓AB,↓reduceIte,seval,f3],by simp(disch:=first|omega|(simp only[AJ];omega))only[AI,↓AB,↓reduceIte,seval,f8],by simp(disch:=first|omega|(simp only[AJ];omega))only[AI,↓AB,↓reduceIte,seval,f9],by simp(disch:=first|omega|(simp only[AJ];omega))only[AI,↓AB,↓reduceIte,seval,f10],by simp(disch:=first|omega|(simp only[AJ];omega))only[AI,↓AB,↓reduceIte,seval,f11],hh2,sw.trans G2,rb2,st.trans s2⟩
 subst h0
 have d1:((0:Int)<=((0:Nat):Int)-1)=False:=eq_false (by omega)
 repeat' (first
  |refine St.h ?_
  |simp(disch:=first|omega|(simp only[AJ];omega))only[AI,↓AB,↓reduceIte,seval,f0,f3,f8,f9,f10,f11,d1]
  |(with_reducible (first|apply AD|apply AE))<;>(intro hc;(try simp only[Ab]at hc);(try simp only[hc]);(try simp only[Aa]at hc);try omega))
 --the greatest goes to the end
 refine Ok.lp (fun m t g=>∃ (i:Nat) (q:Nat->Nat),m=i/\i<=n/\get 0 t=v/\get 3 t=.f 64 []/\get 8 t=.i .i64 (a:Int)/\get 9 t=.i .i64 0/\get 12 t=.i .i64 ((i:Int)-1)/\TP (Cb L) q a 0 i/\Gq (Cb L) q (a+i) (a+n)/\(∀ x y,a<=x->x<a+i->a+i<=y->y<a+n->Cb L (q y) (q x)=false)/\Dn a (a+n) p q/\Rt g v (Bj L q N)/\AU (Am v) h g) n ?_ ?_
 ·simp(disch:=first|omega|(simp only[AJ];omega))only[AI,↓AB,↓reduceIte,seval,f0,f3,f8,f9,f10]
  refine⟨n,q,rfl,Nat.le_refl _,?_⟩
  refine⟨?_,?_,?_,?_,?_,hh,fun i j h1 h2 h3=>by omega,fun x y h1 h2 h3 h4=>by omega,sw,rb,st⟩
  all_goals first|trivial|rfl
 rintro I2 hI2 m2 t2 g2 ⟨i,q2,rfl,hi2,e0,e3,e8,e9,e12,hh2,hs2,hc2,G2,rb2,st2⟩
 have hfg2:=st2.fl hf
 by_cases h0:m2=0
 case pos=>
  subst h0
  repeat' (first
   |refine St.h ?_
   |simp(disch:=first|omega|(simp only[AJ];omega))only[AI,↓AB,↓reduceIte,seval,e0,e3,e8,e9,e12,d1]
   |(with_reducible (first|apply AD|apply AE))<;>(intro hc;(try simp only[Ab]at hc);(try simp only[hc]);(try simp only[Aa]at hc);try omega))
  subst hQ
  exact⟨q2,G2,hs2,rb2,st2⟩
 obtain⟨j,rfl⟩:∃ j,m2=j+1:=⟨m2-1,by omega⟩
 have ej:((j+1:Nat):Int)-1=(j:Int):=by omega
 rw[ej]at e12
 have d2:((0:Int)<=(j:Int))=True:=eq_true (by omega)
 have W2:=rb2.DY
 have ln:(Bj L q2 N).length=N:=CJ
 have i1:((a:Int)+(j:Int)).toNat=a+j:=by omega
 have ga:(Bj L q2 N).getD (a+j) default=L.getD (q2 (a+j)) default:=By (by omega)
 have gb:(Bj L q2 N).getD a default=L.getD (q2 a) default:=By (by omega)
 repeat' (first
  |refine St.h ?_
  |simp(disch:=first|omega|(simp only[AJ];omega))only[AI,↓AB,↓reduceIte,seval,e0,e3,e8,e9,e12,d2,i1,ga,gb,W2.ix,W2.la,Int.toNat_natCast]
  |(with_reducible (first|apply AD|apply AE))<;>(intro hc;(try simp only[Ab]at hc);(try simp only[hc]);(try simp only[Aa]at hc);try omega))
 refine ST.MC rb2 hN (by omega) fun h3 B3 s3=>?_
 have W3:=B3.DY
 repeat' (first
  |refine St.h ?_
  |simp(disch:=first|omega|(simp only[AJ];omega))only[AI,↓AB,↓reduceIte,seval,e0,e3,e8,e9,e12,i1,W3.ix]
  |(with_reducible (first|apply AD|apply AE))<;>(intro hc;(try simp only[Ab]at hc);(try simp only[hc]);(try simp only[Aa]at hc);try omega))
 refine ST.G2 B3 hN (by omega) fun h4 B4 s4=>?_
 have st4:=st2.trans (s3.trans s4)
 --the row,with both in each other's place
 have o:=Dk L
 have hmx:=UO o hh2
 obtain⟨q3,hq3⟩:∃ q3,q3=Gt q2 a (a+j):=⟨_,rfl⟩
 rw[<-hq3]at B4
 have x1:q3 (a+j)=q2 a:=by rw[hq3];exact Nl
 have x2:∀ k,k≠a->k≠a+j->q3 k=q2 k:=fun k k1 k2=>by rw[hq3];exact EL k1 k2
 have sw3:Dn a (a+j+1) q2 q3:=by rw[hq3];exact .one (by omega) (by omega) (by omega) (by omega)
 have hlow:∀ k,a<=k->k<a+j+1->Cb L (q2 a) (q3 k)=false:=sw3.all (P:=fun x=>Cb L (q2 a) x=false) fun k k1 k2=>by
  obtain⟨d,rfl⟩:∃ d,k=a+d:=⟨k-a,by omega⟩
  exact hmx d (by omega)
 have hh3:TP (Cb L) q3 a 1 j:=fun k c k1 k2 k3=>by
  rw[x2 (a+k) (by omega) (by omega),x2 (a+c) (by omega) (by omega)]
  exact hh2 k c (by omega) k2 (by omega)
 repeat' (first
  |refine St.h ?_
  |simp(disch:=first|omega|(simp only[AJ];omega))only[AI,↓AB,↓reduceIte,seval,e0,e3,e8,e9,e12]
  |(with_reducible (first|apply AD|apply AE))<;>(intro hc;(try simp only[Ab]at hc);(try simp only[hc]);(try simp only[Aa]at hc);try omega))
 refine CL.mk (OM (lo:=0) (hi:=j) (a:=a) B4 hN (by omega) (by omega) hh3 (st4.fl hf)) ?_
 rintro y g5 ⟨q5,sw5,hh5,rb5,s5⟩
 have o5:∀ k,a+j<=k->q5 k=q3 k:=fun k hk=>sw5.out (.inr hk)
 repeat' (first
  |refine St.h ?_
  |simp(disch:=first|omega|(simp only[AJ];omega))only[AI,↓AB,↓reduceIte,seval,e0,e3,e8,e9,e12]
  |(with_reducible (first|apply AD|apply AE))<;>(intro hc;(try simp only[Ab]at hc);(try simp only[hc]);(try simp only[Aa]at hc);try omega))
 refine Aw hI2 j (by omega) ⟨j,q5,rfl,by omega,by simp(disch:=first|omega|(simp only[AJ];omega))only[AI,↓AB,↓reduceIte,seval,e0],by simp(disch:=first|omega|(simp only[AJ];omega))only[AI,↓AB,↓reduceIte,seval,e3],by simp(disch:=first|omega|(simp only[AJ];omega))only[AI,↓AB,↓reduceIte,seval,e8],by simp(disch:=first|omega|(simp only[AJ];omega))only[AI,↓AB,↓reduceIte,seval,e9],by simp(disch:=first|omega|(simp only[AJ];omega))only[AI,↓AB,↓reduceIte,seval,e12],hh5,?_,?_,G2.trans ((sw3.wide (Nat.le_refl _) (by omega)).trans (sw5.wide (Nat.le_refl _) (by omega))),rb5,st4.trans s5⟩
 ·intro x y hx hxy hy
  rw[o5 x hx,o5 y (by omega),x2 y (by omega) (by omega)]
  by_cases e:x=a+j
  ·rw[e,x1];exact hc2 a y (by omega) (by omega) (by omega) hy
  ·rw[x2 x (by omega) e];exact hs2 x y (by omega) hxy hy
 ·intro x y hx hx2 hy hy2
  have hxx:Cb L (q2 a) (q5 x)=false:=sw5.all (P:=fun z=>Cb L (q2 a) z=false) (fun k k1 k2=>hlow k k1 (by omega)) x hx hx2
  rw[o5 y hy]
  by_cases e:y=a+j
  ·rw[e,x1];exact hxx
  ·rw[x2 y (by omega) e]
   exact o.nt (hc2 a y (by omega) (by omega) (by omega) hy2) hxx
theorem cw {h:H} {v c:V} {p:Nat->Nat} {a b:Nat} (hb:Rt h v (Bj L p N)) (hN:N<=1000) (h1:a<=b) (h2:b<=N) (hf:B.val h.floor<=B.val h.next):BO Try.prog 85 [v,.i .i64 (a:Int),.i .i64 (b:Int),c] h fun y h'=>
 ∃ q,Dn a b p q/\Rt h' v (Bj L q N)/\AU (Am v) h h':=by
 refine BK xk (by intro hb;cases hb) (by simp) (by simp) fun Q hQ=>?_
 simp only[Av,Nat.reduceAdd]
 repeat' (first
  |refine St.h ?_
  |simp(disch:=first|omega|(simp only[AJ];omega))only[AI,↓AB,↓reduceIte,seval]
  |(with_reducible (first|apply AD|apply AE))<;>(intro hc;(try simp only[Ab]at hc);(try simp only[hc]);(try simp only[Aa]at hc);try omega))
 refine Ok.lp (fun m t g=>∃ (i j:Nat) (q:Nat->Nat),m=j-i/\a<=i/\j<=b/\get 0 t=v/\get 8 t=.i .i64 (i:Int)/\get 9 t=.i .i64 ((j:Int)-1)/\Dn a b p q/\Rt g v (Bj L q N)/\AU (Am v) h g) (b-a) ?_ ?_
 ·simp(disch:=first|omega|(simp only[AJ];omega))only[AI,↓AB,↓reduceIte,seval]
  refine⟨a,b,p,rfl,Nat.le_refl _,Nat.le_refl _,?_⟩
  refine⟨?_,?_,?_,.refl _,hb,⟨rfl,Nat.le_refl _,fun _ _ _=>rfl⟩⟩
  all_goals first|trivial|rfl
 rintro I hI m t g ⟨i,j,q,rfl,hi,hj,f0,f8,f9,sw,rb,st⟩
 by_cases hij:i+1<j
 case neg=>
  have d1:((i:Int)<(j:Int)-1)=False:=eq_false (by omega)
  repeat' (first
   |refine St.h ?_
   |simp(disch:=first|omega|(simp only[AJ];omega))only[AI,↓AB,↓reduceIte,seval,f0,f8,f9,d1]
   |(with_reducible (first|apply AD|apply AE))<;>(intro hc;(try simp only[Ab]at hc);(try simp only[hc]);(try simp only[Aa]at hc);try omega))
  subst hQ
  exact⟨q,sw,rb,st⟩
 obtain⟨k,rfl⟩:∃ k,j=k+1:=⟨j-1,by omega⟩
 have ek:((k+1:Nat):Int)-1=(k:Int):=by omega
 rw[ek]at f9
 have d1:((i:Int)<(k:Int))=True:=eq_true (by omega)
 have W1:=rb.DY
 have ln:(Bj L q N).length=N:=CJ
 have ga:(Bj L q N).getD i default=L.getD (q i) default:=By (by omega)
 have gb:(Bj L q N).getD k default=L.getD (q k) default:=By (by omega)
 repeat' (first
  |refine St.h ?_
  |simp(disch:=first|omega|(simp only[AJ];omega))only[AI,↓AB,↓reduceIte,seval,f0,f8,f9,d1,ga,gb,W1.ix,W1.la,Int.toNat_natCast]
  |(with_reducible (first|apply AD|apply AE))<;>(intro hc;(try simp only[Ab]at hc);(try simp only[hc]);(try simp only[Aa]at hc);try omega))
 refine ST.MC rb hN (by omega) fun h3 B3 s3=>?_
 have W3:=B3.DY
 repeat' (first
  |refine St.h ?_
  |simp(disch:=first|omega|(simp only[AJ];omega))only[AI,↓AB,↓reduceIte,seval,f0,f8,f9,W3.ix,Int.toNat_natCast]
  |(with_reducible (first|apply AD|apply AE))<;>(intro hc;(try simp only[Ab]at hc);(try simp only[hc]);(try simp only[Aa]at hc);try omega))
 refine ST.G2 B3 hN (by omega) fun h4 B4 s4=>?_
 repeat' (first
  |refine St.h ?_
  |simp(disch:=first|omega|(simp only[AJ];omega))only[AI,↓AB,↓reduceIte,seval,f0,f8,f9]
  |(with_reducible (first|apply AD|apply AE))<;>(intro hc;(try simp only[Ab]at hc);(try simp only[hc]);(try simp only[Aa]at hc);try omega))
 refine Aw hI (k-(i+1)) (by omega) ⟨i+1,k,_,rfl,by omega,by omega,by simp(disch:=first|omega|(simp only[AJ];omega))only[AI,↓AB,↓reduceIte,seval,f0],by simp(disch:=first|omega|(simp only[AJ];omega))only[AI,↓AB,↓reduceIte,seval,f8];rfl,by simp(disch:=first|omega|(simp only[AJ];omega))only[AI,↓AB,↓reduceIte,seval,f9],sw.trans (.one (by omega) (by omega) (by omega) (by omega)),B4,st.trans (s3.trans s4)⟩
end
end Go.Proofs.Ytobfgempjekjpaa
set_option maxRecDepth 100000
set_option maxHeartbeats 8000000
namespace Go.Proofs.Ytobfgempjekjpaa
open Go Go.Ev
def TV:List UInt8:=[0,1,2,2,3,3,3,3]++List.replicate 8 4++List.replicate 16 5++List.replicate 32 6++List.replicate 64 7++List.replicate 128 8
theorem Rf:TV.length=256:=by decide
theorem X2:V.s 256 496986003408712215933005303621146343841837811690876167382323004466384420695090407243345123874780946046625255262057845613767806773758184921447759720770971536008171983842311960805720366577116933250839345203839274948261284255908394484732272583221484877694546905335834403051067785895034095251181560891789708940188598129052595634438001880866652824740680664595948164050600812232986714152902334120417949232733424961741260388658846598210939813666227264727603044226856020347194099943897342244906131705541414413428559898943151040826816076322978570758226444464494629814583418847495712557856038296917933182380796641777551368=sv TV:=by rfl
/--how many bits a number has -/
def Dp (n:Nat):Nat:=(TV.getD n 0).toNat
theorem P0:∀ n,n<256->1<=n->2 ^ Dp n<=2*n/\1<=2 ^ Dp n/\Dp n<=8:=by decide
theorem HY:∀ n,n<256->Dp n<=8:=by decide
theorem Tj {P:Program} {h:H} {N:Nx} {kd:IntKind} {x:Int} (h0:0<=x) (h1:x<256):H2 P LZ (sv TV) (.i kd x) h N=N.go P (.i .u8 (min 8 (Dp x.toNat):Nat)) h:=by
 rw[KX h0 (by rw[Rf];exact h1)]
 have:Dp x.toNat<=8:=HY _ (by omega)
 rw[Nat.min_eq_right this];rfl
theorem QP {h:H} {n:Nat} (hn:n<256):BO Try.prog 90 [.i .u64 (n:Int)] h fun y h'=>y=.i .i64 (Dp n:Int)/\h'=h:=by
 have hb:=HY n hn
 refine BK yK (by intro hb;cases hb) (by simp) (by simp) fun Q hQ=>?_
 simp only[Av,Nat.reduceAdd]
 repeat' (first
  |refine St.h ?_
  |simp(disch:=first|omega|(simp only[AJ];omega))only[AI,↓AB,↓reduceIte,seval,Int.toNat_natCast,X2,Tj]
  |(with_reducible (first|apply AD|apply AE))<;>(intro hc;(try simp only[Ab]at hc);(try simp only[hc]);(try simp only[Aa]at hc);try omega))
 subst hQ
 exact⟨congrArg (V.i .i64) (by omega),rfl⟩
theorem Oi {h:H} {n:Nat} (hn:n<256):BO Try.prog 76 [.i .u64 (n:Int)] h fun y h'=>y=.i .i64 (Dp n:Int)/\h'=h:=by
 refine BK xh (by intro hb;cases hb) (by simp) (by simp) fun Q hQ=>?_
 simp only[Av,Nat.reduceAdd]
 repeat' (first
  |refine St.h ?_
  |simp(disch:=first|omega|(simp only[AJ];omega))only[AI,↓AB,↓reduceIte,seval]
  |(with_reducible (first|apply AD|apply AE))<;>(intro hc;(try simp only[Ab]at hc);(try simp only[hc]);(try simp only[Aa]at hc);try omega))
 refine CL.pure (QP hn) ?_
 repeat' (first
  |refine St.h ?_
  |simp(disch:=first|omega|(simp only[AJ];omega))only[AI,↓AB,↓reduceIte,seval]
  |(with_reducible (first|apply AD|apply AE))<;>(intro hc;(try simp only[Ab]at hc);(try simp only[hc]);(try simp only[Aa]at hc);try omega))
 subst hQ
 exact⟨rfl,rfl⟩
theorem IV {n:Nat}:IntKind.u64.wrap (n:Int)=((n%18446744073709551616:Nat):Int):=by
 have:IntKind.u64.wrap (n:Int)=(n:Int)%18446744073709551616:=by simp only[IntKind.wrap,IntKind.bits,IntKind.signed];simp
 rw[this];omega
theorem UU {h:H} {n:Nat} (hn:n<256):BO Try.prog 94 [.i .i64 (n:Int)] h fun y h'=>y=.i .u64 ((2 ^ Dp n:Nat):Int)/\h'=h:=by
 have hb:=HY n hn
 have hp:2 ^ Dp n<=2 ^ 8:=Nat.pow_le_pow_right (by omega) hb
 have e1:min (Dp n) IntKind.u64.bits=Dp n:=Nat.min_eq_left (by show Dp n<=64;omega)
 refine BK yL (by intro hb;cases hb) (by simp) (by simp) fun Q hQ=>?_
 simp only[Av,Nat.reduceAdd]
 repeat' (first
  |refine St.h ?_
  |simp(disch:=first|omega|(simp only[AJ];omega))only[AI,↓AB,↓reduceIte,seval,Int.toNat_natCast]
  |(with_reducible (first|apply AD|apply AE))<;>(intro hc;(try simp only[Ab]at hc);(try simp only[hc]);(try simp only[Aa]at hc);try omega))
 refine CL.pure (Oi hn) ?_
 repeat' (first
  |refine St.h ?_
  |simp(disch:=first|omega|(simp only[AJ];omega))only[AI,↓AB,↓reduceIte,seval,e1,Int.toNat_natCast]
  |(with_reducible (first|apply AD|apply AE))<;>(intro hc;(try simp only[Ab]at hc);(try simp only[hc]);(try simp only[Aa]at hc);try omega))
 subst hQ
 refine⟨congrArg (V.i .u64) ?_,rfl⟩
 rw[Int.one_mul,IV,Nat.mod_eq_of_lt (by omega)]
theorem VP {h:H} {s:B} {n:Nat} (o:Ev.DM h s [.i .u64 (n:Int)]) (hn:n<18446744073709551616) (hf:B.val h.floor<=B.val h.next):BO Try.prog 95 [.p s 0 0 1] h fun y h'=>∃ k:Nat,k<18446744073709551616/\y=.i .u64 (k:Int)/\Ev.DM h' s [.i .u64 (k:Int)]/\AU (fun i=>i=s) h h':=by
 have e1:∀ m:Nat,IntKind.u64.wrap ((m:Int)*8192)=((m*8192%18446744073709551616:Nat):Int):=fun m=>by
  have:=IV (n:=m*8192)
  rw[<-this];congr 1
 have e2:∀ m:Nat,(m:Int)/128=((m/128:Nat):Int):=fun m=>by omega
 have e3:∀ m:Nat,IntKind.u64.wrap ((m:Int)*131072)=((m*131072%18446744073709551616:Nat):Int):=fun m=>by
  have:=IV (n:=m*131072)
  rw[<-this];congr 1
 have hr:=o.row
 refine BK xg (by intro hb;cases hb) (by simp) (by simp) fun Q hQ=>?_
 simp only[Av,Nat.reduceAdd]
 repeat' (first
  |refine St.h ?_
  |simp(disch:=first|omega|(simp only[AJ];omega))only[AI,↓AB,↓reduceIte,seval,hr.l1,e1,Int.toNat_natCast]
  |(with_reducible (first|apply AD|apply AE))<;>(intro hc;(try simp only[Ab]at hc);(try simp only[hc]);(try simp only[Aa]at hc);try omega))
 obtain⟨n1,hn1⟩:∃ n1,n1=(n ^^^ (n*8192%18446744073709551616)):=⟨_,rfl⟩
 have b1:n1<18446744073709551616:=by rw[hn1];exact Nat.xor_lt_two_pow (n:=64) (by omega) (by omega)
 rw[<-hn1]
 refine ST.own o rfl rfl (by omega) (by omega) fun h1 o1 s1=>?_
 have r1:=o1.row
 repeat' (first
  |refine St.h ?_
  |simp(disch:=first|omega|(simp only[AJ];omega))only[AI,↓AB,↓reduceIte,seval,r1.l1,e2,Int.toNat_natCast]
  |(with_reducible (first|apply AD|apply AE))<;>(intro hc;(try simp only[Ab]at hc);(try simp only[hc]);(try simp only[Aa]at hc);try omega))
 obtain⟨n2,hn2⟩:∃ n2,n2=(n1 ^^^ (n1/128)):=⟨_,rfl⟩
 have b2:n2<18446744073709551616:=by rw[hn2];exact Nat.xor_lt_two_pow (n:=64) (by omega) (by omega)
 rw[<-hn2]
 refine ST.own o1 rfl rfl (by omega) (by omega) fun h2 o2 s2=>?_
 have r2:=o2.row
 repeat' (first
  |refine St.h ?_
  |simp(disch:=first|omega|(simp only[AJ];omega))only[AI,↓AB,↓reduceIte,seval,r2.l1,e3,Int.toNat_natCast]
  |(with_reducible (first|apply AD|apply AE))<;>(intro hc;(try simp only[Ab]at hc);(try simp only[hc]);(try simp only[Aa]at hc);try omega))
 obtain⟨n3,hn3⟩:∃ n3,n3=(n2 ^^^ (n2*131072%18446744073709551616)):=⟨_,rfl⟩
 have b3:n3<18446744073709551616:=by rw[hn3];exact Nat.xor_lt_two_pow (n:=64) (by omega) (by omega)
 rw[<-hn3]
 refine ST.own o2 rfl rfl (by omega) (by omega) fun h3 o3 s3=>?_
 have r3:=o3.row
 repeat' (first
  |refine St.h ?_
  |simp(disch:=first|omega|(simp only[AJ];omega))only[AI,↓AB,↓reduceIte,seval,r3.l1]
  |(with_reducible (first|apply AD|apply AE))<;>(intro hc;(try simp only[Ab]at hc);(try simp only[hc]);(try simp only[Aa]at hc);try omega))
 subst hQ
 exact⟨n3,b3,rfl,o3,s1.trans (s2.trans s3)⟩
section
variable {L:List BN} {N:Nat}
theorem H0 {h:H} {v:V} {p:Nat->Nat} {x y k:Nat} {s:B} (rb:Rt h v (Bj L p N)) (hx:x<N) (hy:y<N) (hN:N<=1000) (o:Ev.DM h s [.i .i64 (k:Int)]) (hk:k<=1000) (hf:B.val h.floor<=B.val h.next):BO Try.prog 99 [v,.i .i64 (x:Int),.i .i64 (y:Int),.p s 0 0 1,.f 64 []] h fun r h'=>
 ∃ x' y' k':Nat,r=.tu [.i .i64 (x':Int),.i .i64 (y':Int)]/\((x'=x/\y'=y)\/(x'=y/\y'=x))/\k'<=k+1/\Ev.DM h' s [.i .i64 (k':Int)]/\AU (fun i=>i=s) h h':=by
 have W1:=rb.DY
 have ln:(Bj L p N).length=N:=CJ
 refine BK wq (by intro hb;cases hb) (by simp) (by simp) fun Q hQ=>?_
 simp only[Av,Nat.reduceAdd]
 repeat' (first
  |refine St.h ?_
  |simp(disch:=first|omega|(simp only[AJ];omega))only[AI,↓AB,↓reduceIte,seval,W1.ix,W1.la,Int.toNat_natCast]
  |(with_reducible (first|apply AD|apply AE))<;>(intro hc;(try simp only[Ab]at hc);(try simp only[hc]);(try simp only[Aa]at hc);try omega))
 refine CL.stay (Bp (a:=(Bj L p N).getD y default) (b:=(Bj L p N).getD x default) hf) fun h1 s1=>?_
 have o1:=o.stay s1 fun e=>e
 have r1:=o1.row
 by_cases hc:Ji ((Bj L p N).getD y default) ((Bj L p N).getD x default)<0
 ·have d1:=eq_true hc
  repeat' (first
   |refine St.h ?_
   |simp(disch:=first|omega|(simp only[AJ];omega))only[AI,↓AB,↓reduceIte,seval,d1,r1.l1]
   |(with_reducible (first|apply AD|apply AE))<;>(intro hc;(try simp only[Ab]at hc);(try simp only[hc]);(try simp only[Aa]at hc);try omega))
  refine ST.own o1 rfl rfl (by omega) (by omega) fun h2 o2 s2=>?_
  repeat' (first
   |refine St.h ?_
   |simp(disch:=first|omega|(simp only[AJ];omega))only[AI,↓AB,↓reduceIte,seval]
   |(with_reducible (first|apply AD|apply AE))<;>(intro hc;(try simp only[Ab]at hc);(try simp only[hc]);(try simp only[Aa]at hc);try omega))
  subst hQ
  exact⟨y,x,k+1,rfl,.inr ⟨rfl,rfl⟩,Nat.le_refl _,o2,(Bh s1).trans s2⟩
 ·have d1:=eq_false hc
  repeat' (first
   |refine St.h ?_
   |simp(disch:=first|omega|(simp only[AJ];omega))only[AI,↓AB,↓reduceIte,seval,d1]
   |(with_reducible (first|apply AD|apply AE))<;>(intro hc;(try simp only[Ab]at hc);(try simp only[hc]);(try simp only[Aa]at hc);try omega))
  subst hQ
  exact⟨x,y,k,rfl,.inl ⟨rfl,rfl⟩,by omega,o1,Bh s1⟩
theorem H6 {h:H} {v:V} {p:Nat->Nat} {x y z k:Nat} {s:B} (rb:Rt h v (Bj L p N)) (hx:x<N) (hy:y<N) (hz:z<N) (hN:N<=1000) (o:Ev.DM h s [.i .i64 (k:Int)]) (hk:k<=900) (hs:∀ q,Am v q->¬q=s) (hf:B.val h.floor<=B.val h.next):BO Try.prog 97 [v,.i .i64 (x:Int),.i .i64 (y:Int),.i .i64 (z:Int),.p s 0 0 1,.f 64 []] h fun r h'=>
 ∃ m k':Nat,r=.i .i64 (m:Int)/\(m=x\/m=y\/m=z)/\k'<=k+3/\Ev.DM h' s [.i .i64 (k':Int)]/\AU (fun i=>i=s) h h':=by
 refine BK yU (by intro hb;cases hb) (by simp) (by simp) fun Q hQ=>?_
 simp only[Av,Nat.reduceAdd]
 repeat' (first
  |refine St.h ?_
  |simp(disch:=first|omega|(simp only[AJ];omega))only[AI,↓AB,↓reduceIte,seval]
  |(with_reducible (first|apply AD|apply AE))<;>(intro hc;(try simp only[Ab]at hc);(try simp only[hc]);(try simp only[Aa]at hc);try omega))
 refine CL.mk (H0 rb hx hy hN o (by omega) hf) ?_
 rintro _ h1 ⟨x1,y1,k1,rfl,e1,hk1,o1,s1⟩
 repeat' (first
  |refine St.h ?_
  |simp(disch:=first|omega|(simp only[AJ];omega))only[AI,↓AB,↓reduceIte,seval]
  |(with_reducible (first|apply AD|apply AE))<;>(intro hc;(try simp only[Ab]at hc);(try simp only[hc]);(try simp only[Aa]at hc);try omega))
 refine CL.mk (H0 (x:=y1) (y:=z) (Gr.stay rb s1 hs) (by omega) hz hN o1 (by omega) (s1.fl hf)) ?_
 rintro _ h2 ⟨y2,z2,k2,rfl,e2,hk2,o2,s2⟩
 have s12:=s1.trans s2
 repeat' (first
  |refine St.h ?_
  |simp(disch:=first|omega|(simp only[AJ];omega))only[AI,↓AB,↓reduceIte,seval]
  |(with_reducible (first|apply AD|apply AE))<;>(intro hc;(try simp only[Ab]at hc);(try simp only[hc]);(try simp only[Aa]at hc);try omega))
 refine CL.mk (H0 (x:=x1) (y:=y2) (Gr.stay rb s12 hs) (by omega) (by omega) hN o2 (by omega) (s12.fl hf)) ?_
 rintro _ h3 ⟨x3,y3,k3,rfl,e3,hk3,o3,s3⟩
 repeat' (first
  |refine St.h ?_
  |simp(disch:=first|omega|(simp only[AJ];omega))only[AI,↓AB,↓reduceIte,seval]
  |(with_reducible (first|apply AD|apply AE))<;>(intro hc;(try simp only[Ab]at hc);(try simp only[hc]);(try simp only[Aa]at hc);try omega))
 subst hQ
 exact⟨y3,k3,rfl,by omega,by omega,o3,s12.trans s3⟩
theorem IW {h:H} {v:V} {p:Nat->Nat} {x k:Nat} {s:B} (rb:Rt h v (Bj L p N)) (hx:1<=x) (hx2:x+1<N) (hN:N<=1000) (o:Ev.DM h s [.i .i64 (k:Int)]) (hk:k<=900) (hs:∀ q,Am v q->¬q=s) (hf:B.val h.floor<=B.val h.next):BO Try.prog 96 [v,.i .i64 (x:Int),.p s 0 0 1,.f 64 []] h fun r h'=>
 ∃ m k':Nat,r=.i .i64 (m:Int)/\(x<=m+1/\m<=x+1)/\k'<=k+3/\Ev.DM h' s [.i .i64 (k':Int)]/\AU (fun i=>i=s) h h':=by
 have e1:(x:Int)-1=((x-1:Nat):Int):=by omega
 have e2:(x:Int)+1=((x+1:Nat):Int):=by omega
 refine BK w3 (by intro hb;cases hb) (by simp) (by simp) fun Q hQ=>?_
 simp only[Av,Nat.reduceAdd]
 repeat' (first
  |refine St.h ?_
  |simp(disch:=first|omega|(simp only[AJ];omega))only[AI,↓AB,↓reduceIte,seval,e1,e2]
  |(with_reducible (first|apply AD|apply AE))<;>(intro hc;(try simp only[Ab]at hc);(try simp only[hc]);(try simp only[Aa]at hc);try omega))
 refine CL.mk (H6 (x:=x-1) (y:=x) (z:=x+1) rb (by omega) (by omega) (by omega) hN o hk hs hf) ?_
 rintro _ h1 ⟨m,k1,rfl,e1,hk1,o1,s1⟩
 repeat' (first
  |refine St.h ?_
  |simp(disch:=first|omega|(simp only[AJ];omega))only[AI,↓AB,↓reduceIte,seval]
  |(with_reducible (first|apply AD|apply AE))<;>(intro hc;(try simp only[Ab]at hc);(try simp only[hc]);(try simp only[Aa]at hc);try omega))
 subst hQ
 exact⟨m,k1,rfl,by omega,hk1,o1,s1⟩
theorem PY {h:H} {v:V} {p:Nat->Nat} {a b:Nat} (rb:Rt h v (Bj L p N)) (h1:a+12<b) (h2:b<=N) (hN:N<=1000) (hf:B.val h.floor<=B.val h.next):BO Try.prog 84 [v,.i .i64 (a:Int),.i .i64 (b:Int),.f 64 []] h fun r h'=>
 ∃ (m:Nat) (z:Int),r=.tu [.i .i64 (m:Int),.i .i64 z]/\a<=m/\m<b/\AU AQ h h':=by
 obtain⟨n,rfl⟩:∃ n,b=a+n:=⟨b-a,by omega⟩
 obtain⟨d,hd⟩:∃ d,d=n/4:=⟨_,rfl⟩
 have en:((a+n:Nat):Int)-(a:Int)=(n:Int):=by omega
 have ed:(n:Int)/4=(d:Int):=by omega
 have ed2:n/4=d:=hd.symm
 have e1:(a:Int)+(d:Int)*1=((a+d:Nat):Int):=by omega
 have e1':(a:Int)+(d:Int)=((a+d:Nat):Int):=by omega
 have e2:(a:Int)+(d:Int)*2=((a+2*d:Nat):Int):=by omega
 have e3:(a:Int)+(d:Int)*3=((a+3*d:Nat):Int):=by omega
 have d8:((8:Int)<=(n:Int))=True:=eq_true (by omega)
 refine BK yv (by intro hb;cases hb) (by simp) (by simp) fun Q hQ=>?_
 simp only[Av,Nat.reduceAdd]
 repeat' (first
  |refine St.h ?_
  |simp(disch:=first|omega|(simp only[AJ];omega))only[AI,↓AB,↓reduceIte,seval,en]
  |(with_reducible (first|apply AD|apply AE))<;>(intro hc;(try simp only[Ab]at hc);(try simp only[hc]);(try simp only[Aa]at hc);try omega))
 refine AL.own (by simp) hf fun g1 s1 n1 o1=>?_
 have hf1:=s1.fl hf
 have rb1:=rb.grow s1
 have hs:∀ q,Am v q->¬q=h.next:=fun q hq e=>by have:=Gr.lt rb q hq;rw[e]at this;omega
 have fin:∀ (m k:Nat) g,a<=m->m<a+n->AU AQ h g->Q (.tu [.i .i64 (m:Int),.i .i64 0]) g/\Q (.tu [.i .i64 (m:Int),.i .i64 1]) g/\Q (.tu [.i .i64 (m:Int),.i .i64 2]) g:=fun m k g h1 h2 s=>by
  subst hQ
  exact⟨⟨m,0,rfl,h1,h2,s⟩,⟨m,1,rfl,h1,h2,s⟩,⟨m,2,rfl,h1,h2,s⟩⟩
 have Ht:B.val h.next<B.val g1.next:=by rw[n1];omega
 by_cases h50:50<=n
 ·have d50:((50:Int)<=(n:Int))=True:=eq_true (by omega)
  repeat' (first
   |refine St.h ?_
   |simp(disch:=first|omega|(simp only[AJ];omega))only[AI,↓AB,↓reduceIte,seval,en,ed,ed2,e1,e1',e2,e3,d8,d50,Int.toNat_natCast]
   |(with_reducible (first|apply AD|apply AE))<;>(intro hc;(try simp only[Ab]at hc);(try simp only[hc]);(try simp only[Aa]at hc);try omega))
  refine CL.mk (IW (x:=a+d) (k:=0) rb1 (by omega) (by omega) hN o1 (by omega) hs hf1) ?_
  rintro _ g2 ⟨m1,k1,rfl,c1,hk1,o2,s2⟩
  have rb2:=Gr.stay rb1 s2 hs
  have hf2:=s2.fl hf1
  repeat' (first
   |refine St.h ?_
   |simp(disch:=first|omega|(simp only[AJ];omega))only[AI,↓AB,↓reduceIte,seval,en,ed,ed2,e1,e1',e2,e3,d8,d50,Int.toNat_natCast]
   |(with_reducible (first|apply AD|apply AE))<;>(intro hc;(try simp only[Ab]at hc);(try simp only[hc]);(try simp only[Aa]at hc);try omega))
  refine CL.mk (IW (x:=a+2*d) rb2 (by omega) (by omega) hN o2 (by omega) hs hf2) ?_
  rintro _ g3 ⟨m2,k2,rfl,c2,hk2,o3,s3⟩
  have rb3:=Gr.stay rb2 s3 hs
  have hf3:=s3.fl hf2
  repeat' (first
   |refine St.h ?_
   |simp(disch:=first|omega|(simp only[AJ];omega))only[AI,↓AB,↓reduceIte,seval,en,ed,ed2,e1,e1',e2,e3,d8,d50,Int.toNat_natCast]
   |(with_reducible (first|apply AD|apply AE))<;>(intro hc;(try simp only[Ab]at hc);(try simp only[hc]);(try simp only[Aa]at hc);try omega))
  refine CL.mk (IW (x:=a+3*d) rb3 (by omega) (by omega) hN o3 (by omega) hs hf3) ?_
  rintro _ g4 ⟨m3,k3,rfl,c3,hk3,o4,s4⟩
  have rb4:=Gr.stay rb3 s4 hs
  have hf4:=s4.fl hf3
  repeat' (first
   |refine St.h ?_
   |simp(disch:=first|omega|(simp only[AJ];omega))only[AI,↓AB,↓reduceIte,seval,en,ed,ed2,e1,e1',e2,e3,d8,d50,Int.toNat_natCast]
   |(with_reducible (first|apply AD|apply AE))<;>(intro hc;(try simp only[Ab]at hc);(try simp only[hc]);(try simp only[Aa]at hc);try omega))
  refine CL.mk (H6 (x:=m1) (y:=m2) (z:=m3) rb4 (by omega) (by omega) (by omega) hN o4 (by omega) hs hf4) ?_
  rintro _ g5 ⟨m,k4,rfl,c4,hk4,o5,s5⟩
  have r5:=o5.row
  have st:AU AQ h g5:=s1.Cv (s2.trans (s3.trans (s4.trans s5))) fun i e=>by rw[e];exact Nat.le_refl _
  obtain⟨F0,F1,F2⟩:=fin m k4 g5 (by omega) (by omega) st
  repeat' (first
   |refine St.h ?_
   |simp(disch:=first|omega|(simp only[AJ];omega))only[AI,↓AB,↓reduceIte,seval,r5.l1]
   |(with_reducible (first|apply AD|apply AE))<;>(intro hc;(try simp only[Ab]at hc);(try simp only[hc]);(try simp only[Aa]at hc);try omega))
  all_goals first|exact F0|exact F1|exact F2
 ·have d50:((50:Int)<=(n:Int))=False:=eq_false (by omega)
  repeat' (first
   |refine St.h ?_
   |simp(disch:=first|omega|(simp only[AJ];omega))only[AI,↓AB,↓reduceIte,seval,en,ed,ed2,e1,e1',e2,e3,d8,d50,Int.toNat_natCast]
   |(with_reducible (first|apply AD|apply AE))<;>(intro hc;(try simp only[Ab]at hc);(try simp only[hc]);(try simp only[Aa]at hc);try omega))
  refine CL.mk (H6 (x:=a+d) (y:=a+2*d) (z:=a+3*d) (k:=0) rb1 (by omega) (by omega) (by omega) hN o1 (by omega) hs hf1) ?_
  rintro _ g5 ⟨m,k4,rfl,c4,hk4,o5,s5⟩
  have r5:=o5.row
  have st:AU AQ h g5:=s1.Cv s5 fun i e=>by rw[e];exact Nat.le_refl _
  obtain⟨F0,F1,F2⟩:=fin m k4 g5 (by omega) (by omega) st
  repeat' (first
   |refine St.h ?_
   |simp(disch:=first|omega|(simp only[AJ];omega))only[AI,↓AB,↓reduceIte,seval,r5.l1]
   |(with_reducible (first|apply AD|apply AE))<;>(intro hc;(try simp only[Ab]at hc);(try simp only[hc]);(try simp only[Aa]at hc);try omega))
  all_goals first|exact F0|exact F1|exact F2
theorem RL {h:H} {v c:V} {p:Nat->Nat} {a b:Nat} (rb:Rt h v (Bj L p N)) (h1:a+12<b) (h2:b<=N) (hN:N<=200) (hf:B.val h.floor<=B.val h.next):BO Try.prog 83 [v,.i .i64 (a:Int),.i .i64 (b:Int),c] h fun r h'=>
 ∃ q,Dn a b p q/\Rt h' v (Bj L q N)/\AU (Am v) h h':=by
 obtain⟨n,rfl⟩:∃ n,b=a+n:=⟨b-a,by omega⟩
 obtain⟨d,hd⟩:∃ d,d=n/4:=⟨_,rfl⟩
 obtain⟨bp1,bp2,bp3⟩:=P0 n (by omega) (by omega)
 have en:((a+n:Nat):Int)-(a:Int)=(n:Int):=by omega
 have ed:(n:Int)/4=(d:Int):=by omega
 have ed2:n/4=d:=hd.symm
 have d8:((8:Int)<=(n:Int))=True:=eq_true (by omega)
 have e1:(a:Int)+(d:Int)*2-1=((a+2*d-1:Nat):Int):=by omega
 have e2:(a:Int)+(d:Int)*2+1=((a+2*d+1:Nat):Int):=by omega
 have em:((2 ^ Dp n:Nat):Int)-1=((2 ^ Dp n-1:Nat):Int):=by omega
 have hpw:2 ^ Dp n<=400:=by omega
 refine BK yT (by intro hb;cases hb) (by simp) (by simp) fun Q hQ=>?_
 simp only[Av,Nat.reduceAdd]
 repeat' (first
  |refine St.h ?_
  |simp(disch:=first|omega|(simp only[AJ];omega))only[AI,↓AB,↓reduceIte,seval,en,d8,Int.toNat_natCast]
  |(with_reducible (first|apply AD|apply AE))<;>(intro hc;(try simp only[Ab]at hc);(try simp only[hc]);(try simp only[Aa]at hc);try omega))
 refine AL.own (by simp) hf fun g1 s1 n1 o1=>?_
 have hf1:=s1.fl hf
 have rb1:=rb.grow s1
 have hs:∀ q,Am v q->¬q=h.next:=fun q hq e=>by have:=Gr.lt rb q hq;rw[e]at this;omega
 repeat' (first
  |refine St.h ?_
  |simp(disch:=first|omega|(simp only[AJ];omega))only[AI,↓AB,↓reduceIte,seval,en,d8,Int.toNat_natCast]
  |(with_reducible (first|apply AD|apply AE))<;>(intro hc;(try simp only[Ab]at hc);(try simp only[hc]);(try simp only[Aa]at hc);try omega))
 refine ST.own o1 rfl rfl (by omega) (by omega) fun g2 o2 s2=>?_
 have rb2:=Gr.stay rb1 s2 hs
 have hf2:=s2.fl hf1
 repeat' (first
  |refine St.h ?_
  |simp(disch:=first|omega|(simp only[AJ];omega))only[AI,↓AB,↓reduceIte,seval,en,d8,Int.toNat_natCast]
  |(with_reducible (first|apply AD|apply AE))<;>(intro hc;(try simp only[Ab]at hc);(try simp only[hc]);(try simp only[Aa]at hc);try omega))
 refine CL.pure (UU (n:=n) (by omega)) ?_
 repeat' (first
  |refine St.h ?_
  |simp(disch:=first|omega|(simp only[AJ];omega))only[AI,↓AB,↓reduceIte,seval,en,d8,ed,ed2,e1,Int.toNat_natCast]
  |(with_reducible (first|apply AD|apply AE))<;>(intro hc;(try simp only[Ab]at hc);(try simp only[hc]);(try simp only[Aa]at hc);try omega))
 generalize hM:2 ^ Dp n=M at*
 refine Ok.lp (fun m t g=>∃ (i k:Nat) (q:Nat->Nat),m=a+2*d+2-i/\a+2*d<=i+1/\i<=a+2*d+2/\k<18446744073709551616/\get 0 t=v/\get 1 t=.i .i64 (a:Int)/\get 8 t=.i .i64 (n:Int)/\get 9 t=.p h.next 0 0 1/\get 10 t=.i .u64 (M:Int)/\get 11 t=.i .i64 (i:Int)/\Ev.DM g h.next [.i .u64 (k:Int)]/\Dn a (a+n) p q/\Rt g v (Bj L q N)/\AU (fun x=>Am v x\/x=h.next) g2 g) (a+2*d+2-(a+2*d-1)) ?_ ?_
 ·simp(disch:=first|omega|(simp only[AJ];omega))only[AI,↓AB,↓reduceIte,seval,e1]
  refine⟨a+2*d-1,n,p,rfl,by omega,by omega,by omega,?_⟩
  refine⟨?_,?_,?_,?_,?_,?_,o2,.refl _,rb2,⟨rfl,Nat.le_refl _,fun _ _ _=>rfl⟩⟩
  all_goals first|trivial|rfl
 rintro I hI m t g ⟨i,k,q,rfl,hi1,hi2,hk,f0,f1,f8,f9,f10,f11,o3,sw,rb3,st⟩
 have hfg:=st.fl hf2
 have big:AU (Am v) h g:=by
  have x:AU (fun x=>Am v x\/x=h.next) g1 g:=(s2.mono fun i _ e=>.inr e).trans st
  refine⟨x.floor.trans s1.floor,Nat.le_trans s1.next x.next,fun id i1 i2=>?_⟩
  rw[x.get id (Nat.lt_of_lt_of_le i1 s1.next) fun e=>by
   rcases e with e|e
   ·exact i2 e
   ·rw[e]at i1;omega]
  exact s1.get id i1 fun e=>e
 by_cases hil:i<=a+2*d+1
 case neg=>
  have d1:((i:Int)<=((a+2*d+1:Nat):Int))=False:=eq_false (by omega)
  repeat' (first
   |refine St.h ?_
   |simp(disch:=first|omega|(simp only[AJ];omega))only[AI,↓AB,↓reduceIte,seval,f0,f1,f8,f9,f10,f11,ed,ed2,e2,d1,Int.toNat_natCast]
   |(with_reducible (first|apply AD|apply AE))<;>(intro hc;(try simp only[Ab]at hc);(try simp only[hc]);(try simp only[Aa]at hc);try omega))
  subst hQ
  exact⟨q,sw,rb3,big⟩
 have d1:((i:Int)<=((a+2*d+1:Nat):Int))=True:=eq_true (by omega)
 repeat' (first
  |refine St.h ?_
  |simp(disch:=first|omega|(simp only[AJ];omega))only[AI,↓AB,↓reduceIte,seval,f0,f1,f8,f9,f10,f11,ed,ed2,e2,d1,Int.toNat_natCast]
  |(with_reducible (first|apply AD|apply AE))<;>(intro hc;(try simp only[Ab]at hc);(try simp only[hc]);(try simp only[Aa]at hc);try omega))
 refine CL.mk (VP o3 hk hfg) ?_
 rintro _ g4 ⟨k4,hk4,rfl,o4,s4⟩
 have rb4:Rt g4 v (Bj L q N):=Gr.stay rb3 s4 hs
 obtain⟨u,hu⟩:∃ u,u=k4&&&(M-1):=⟨_,rfl⟩
 have hu2:u<=M-1:=by rw[hu];exact Nat.and_le_right
 have W4:=rb4.DY
 have ln:(Bj L q N).length=N:=CJ
 have gx:∀ j,j<N->(Bj L q N).getD j default=L.getD (q j) default:=fun j hj=>By hj
 have gi:=gx i (by omega)
 have st4:AU (fun x=>Am v x\/x=h.next) g2 g4:=st.trans (s4.mono fun _ _ e=>.inr e)
 by_cases hun:n<=u
 ·have d2:((n:Int)<=(u:Int))=True:=eq_true (by omega)
  have eu:(u:Int)-(n:Int)=((u-n:Nat):Int):=by omega
  have i1:((a:Int)+((u-n:Nat):Int)).toNat=a+(u-n):=by omega
  have g1':=gx (a+(u-n)) (by omega)
  repeat' (first
   |refine St.h ?_
   |simp(disch:=first|omega|(simp only[AJ];omega))only[AI,↓AB,↓reduceIte,seval,f0,f1,f8,f9,f10,f11,em,<-hu,d2,eu,i1,gi,g1',W4.ix,W4.la,Int.toNat_natCast]
   |(with_reducible (first|apply AD|apply AE))<;>(intro hc;(try simp only[Ab]at hc);(try simp only[hc]);(try simp only[Aa]at hc);try omega))
  refine ST.MC rb4 (by omega) (by omega) fun g5 B5 s5=>?_
  have W5:=B5.DY
  repeat' (first
   |refine St.h ?_
   |simp(disch:=first|omega|(simp only[AJ];omega))only[AI,↓AB,↓reduceIte,seval,f0,f1,f8,f9,f10,f11,eu,i1,W5.ix]
   |(with_reducible (first|apply AD|apply AE))<;>(intro hc;(try simp only[Ab]at hc);(try simp only[hc]);(try simp only[Aa]at hc);try omega))
  refine ST.G2 B5 (by omega) (by omega) fun g6 B6 s6=>?_
  have s56:=s5.trans s6
  repeat' (first
   |refine St.h ?_
   |simp(disch:=first|omega|(simp only[AJ];omega))only[AI,↓AB,↓reduceIte,seval,f0,f1,f8,f9,f10,f11]
   |(with_reducible (first|apply AD|apply AE))<;>(intro hc;(try simp only[Ab]at hc);(try simp only[hc]);(try simp only[Aa]at hc);try omega))
  refine Aw hI (a+2*d+2-(i+1)) (by omega) ⟨i+1,k4,_,rfl,by omega,by omega,hk4,by simp(disch:=first|omega|(simp only[AJ];omega))only[AI,↓AB,↓reduceIte,seval,f0],by simp(disch:=first|omega|(simp only[AJ];omega))only[AI,↓AB,↓reduceIte,seval,f1],by simp(disch:=first|omega|(simp only[AJ];omega))only[AI,↓AB,↓reduceIte,seval,f8],by simp(disch:=first|omega|(simp only[AJ];omega))only[AI,↓AB,↓reduceIte,seval,f9],by simp(disch:=first|omega|(simp only[AJ];omega))only[AI,↓AB,↓reduceIte,seval,f10],by simp(disch:=first|omega|(simp only[AJ];omega))only[AI,↓AB,↓reduceIte,seval,f11];rfl,o4.stay s56 fun e=>hs _ e rfl,sw.trans (.one (by omega) (by omega) (by omega) (by omega)),B6,st4.trans (s56.mono fun _ _ e=>.inl e)⟩
 ·have d2:((n:Int)<=(u:Int))=False:=eq_false (by omega)
  have i1:((a:Int)+(u:Int)).toNat=a+u:=by omega
  have g1':=gx (a+u) (by omega)
  repeat' (first
   |refine St.h ?_
   |simp(disch:=first|omega|(simp only[AJ];omega))only[AI,↓AB,↓reduceIte,seval,f0,f1,f8,f9,f10,f11,em,<-hu,d2,i1,gi,g1',W4.ix,W4.la,Int.toNat_natCast]
   |(with_reducible (first|apply AD|apply AE))<;>(intro hc;(try simp only[Ab]at hc);(try simp only[hc]);(try simp only[Aa]at hc);try omega))
  refine ST.MC rb4 (by omega) (by omega) fun g5 B5 s5=>?_
  have W5:=B5.DY
  repeat' (first
   |refine St.h ?_
   |simp(disch:=first|omega|(simp only[AJ];omega))only[AI,↓AB,↓reduceIte,seval,f0,f1,f8,f9,f10,f11,i1,W5.ix]
   |(with_reducible (first|apply AD|apply AE))<;>(intro hc;(try simp only[Ab]at hc);(try simp only[hc]);(try simp only[Aa]at hc);try omega))
  refine ST.G2 B5 (by omega) (by omega) fun g6 B6 s6=>?_
  have s56:=s5.trans s6
  repeat' (first
   |refine St.h ?_
   |simp(disch:=first|omega|(simp only[AJ];omega))only[AI,↓AB,↓reduceIte,seval,f0,f1,f8,f9,f10,f11]
   |(with_reducible (first|apply AD|apply AE))<;>(intro hc;(try simp only[Ab]at hc);(try simp only[hc]);(try simp only[Aa]at hc);try omega))
  refine Aw hI (a+2*d+2-(i+1)) (by omega) ⟨i+1,k4,_,rfl,by omega,by omega,hk4,by simp(disch:=first|omega|(simp only[AJ];omega))only[AI,↓AB,↓reduceIte,seval,f0],by simp(disch:=first|omega|(simp only[AJ];omega))only[AI,↓AB,↓reduceIte,seval,f1],by simp(disch:=first|omega|(simp only[AJ];omega))only[AI,↓AB,↓reduceIte,seval,f8],by simp(disch:=first|omega|(simp only[AJ];omega))only[AI,↓AB,↓reduceIte,seval,f9],by simp(disch:=first|omega|(simp only[AJ];omega))only[AI,↓AB,↓reduceIte,seval,f10],by simp(disch:=first|omega|(simp only[AJ];omega))only[AI,↓AB,↓reduceIte,seval,f11];rfl,o4.stay s56 fun e=>hs _ e rfl,sw.trans (.one (by omega) (by omega) (by omega) (by omega)),B6,st4.trans (s56.mono fun _ _ e=>.inl e)⟩
end
end Go.Proofs.Ytobfgempjekjpaa
set_option maxRecDepth 100000
set_option maxHeartbeats 8000000
namespace Go.Proofs.Ytobfgempjekjpaa
open Go Go.Ev
section
variable {L:List BN} {N:Nat}
theorem QK {h:H} {v:V} {p:Nat->Nat} {a b c:Nat} (rb0:Rt h v (Bj L p N)) (h1:a<=c) (h2:c<b) (h3:b<=N) (hN:N<=1000) (hf:B.val h.floor<=B.val h.next):BO Try.prog 87 [v,.i .i64 (a:Int),.i .i64 (b:Int),.i .i64 (c:Int),.f 64 []] h fun r h'=>
 ∃ (m:Nat) (q:Nat->Nat),r=.i .i64 (m:Int)/\a<m/\m<=b/\Dn a b p q/\(∀ k,a<=k->k<m->Cb L (p c) (q k)=false)/\(∀ k,m<=k->k<b->Cb L (p c) (q k)=true)/\Rt h' v (Bj L q N)/\AU (Am v) h h':=by
 have ln:∀ q:Nat->Nat,(Bj L q N).length=N:=fun q=>CJ
 have gx:∀ (q:Nat->Nat) j,j<N->(Bj L q N).getD j default=L.getD (q j) default:=fun q j hj=>By hj
 have UW:∀ {x},Cb L x x=false:=(Dk L).UW
 have W0:=rb0.DY
 have l0:=ln p
 have ga:=gx p a (by omega)
 have gc:=gx p c (by omega)
 refine BK xB (by intro hb;cases hb) (by simp) (by simp) fun Q hQ=>?_
 simp only[Av,Nat.reduceAdd]
 repeat' (first
  |refine St.h ?_
  |simp(disch:=first|omega|(simp only[AJ];omega))only[AI,↓AB,↓reduceIte,seval,ga,gc,W0.ix,W0.la,Int.toNat_natCast]
  |(with_reducible (first|apply AD|apply AE))<;>(intro hc;(try simp only[Ab]at hc);(try simp only[hc]);(try simp only[Aa]at hc);try omega))
 refine ST.MC rb0 hN (by omega) fun h5 B5 s5=>?_
 have W5:=B5.DY
 repeat' (first
  |refine St.h ?_
  |simp(disch:=first|omega|(simp only[AJ];omega))only[AI,↓AB,↓reduceIte,seval,W5.ix,Int.toNat_natCast]
  |(with_reducible (first|apply AD|apply AE))<;>(intro hc;(try simp only[Ab]at hc);(try simp only[hc]);(try simp only[Aa]at hc);try omega))
 refine ST.G2 B5 hN (by omega) fun h6 B6 s6=>?_
 have st6:=s5.trans s6
 have hea:Gt p a c a=p c:=Iq
 generalize he:p c=e at*
 repeat' (first
  |refine St.h ?_
  |simp(disch:=first|omega|(simp only[AJ];omega))only[AI,↓AB,↓reduceIte,seval]
  |(with_reducible (first|apply AD|apply AE))<;>(intro hc;(try simp only[Ab]at hc);(try simp only[hc]);(try simp only[Aa]at hc);try omega))
 refine Ok.lp (fun m t g=>∃ (i j:Nat) (q:Nat->Nat),m=j-i/\a+1<=i/\i<=j/\j<=b/\get 0 t=v/\get 1 t=.i .i64 (a:Int)/\get 4 t=.f 64 []/\get 11 t=.i .i64 (i:Int)/\get 12 t=.i .i64 ((j:Int)-1)/\q a=e/\(∀ k,a<=k->k<i->Cb L e (q k)=false)/\(∀ k,j<=k->k<b->Cb L e (q k)=true)/\Dn a b p q/\Rt g v (Bj L q N)/\AU (Am v) h g) (b-(a+1)) ?_ ?_
 ·simp(disch:=first|omega|(simp only[AJ];omega))only[AI,↓AB,↓reduceIte,seval]
  refine⟨a+1,b,Gt p a c,rfl,by omega,by omega,by omega,?_⟩
  refine⟨?_,?_,?_,?_,?_,hea,fun k k1 k2=>?_,fun k k1 k2=>by omega,.one (by omega) (by omega) (by omega) (by omega),B6,st6⟩
  rotate_right
  ·rw[show k=a by omega,hea];exact UW
  all_goals first|trivial|rfl
 rintro I hI m t g ⟨i,j,q,rfl,hi,hij,hj,f0,f1,f4,f11,f12,hqa,hlo,hhi,sw,rb,st⟩
 repeat' (first
  |refine St.h ?_
  |simp(disch:=first|omega|(simp only[AJ];omega))only[AI,↓AB,↓reduceIte,seval,f0,f1,f4,f11,f12]
  |(with_reducible (first|apply AD|apply AE))<;>(intro hc;(try simp only[Ab]at hc);(try simp only[hc]);(try simp only[Aa]at hc);try omega))
 --from below
 refine Ok.lp (fun m t g=>∃ (i':Nat),m=j-i'/\i<=i'/\i'<=j/\get 0 t=v/\get 1 t=.i .i64 (a:Int)/\get 4 t=.f 64 []/\get 11 t=.i .i64 (i':Int)/\get 12 t=.i .i64 ((j:Int)-1)/\(∀ k,a<=k->k<i'->Cb L e (q k)=false)/\Rt g v (Bj L q N)/\AU (Am v) h g) (j-i) ?_ ?_
 ·simp(disch:=first|omega|(simp only[AJ];omega))only[AI,↓AB,↓reduceIte,seval,f0,f1,f4,f11,f12]
  refine⟨i,rfl,by omega,by omega,?_⟩
  refine⟨?_,?_,?_,?_,?_,hlo,rb,st⟩
  all_goals first|trivial|rfl
 rintro I1 hI1 m1 t1 g1 ⟨i',rfl,hi',hij',f0,f1,f4,f11,f12,hlo',rb,st⟩
 have hfg:=st.fl hf
 have W1:=rb.DY
 have l1:=ln q
 have g1a:=gx q a (by omega)
 by_cases hl:i'<j
 case neg=>
  obtain rfl:i'=j:=by omega
  have d1:((i':Int)<=(i':Int)-1)=False:=eq_false (by omega)
  repeat' (first
   |refine St.h ?_
   |simp(disch:=first|omega|(simp only[AJ];omega))only[AI,↓AB,↓reduceIte,seval,f0,f1,f4,f11,f12,d1]
   |(with_reducible (first|apply AD|apply AE))<;>(intro hc;(try simp only[Ab]at hc);(try simp only[hc]);(try simp only[Aa]at hc);try omega))
  refine Ok.lp (fun m t g=>m=0/\get 11 t=.i .i64 (i':Int)/\get 12 t=.i .i64 ((i':Int)-1)/\Rt g v (Bj L q N)/\AU (Am v) h g) 0 ?_ ?_
  ·simp(disch:=first|omega|(simp only[AJ];omega))only[AI,↓AB,↓reduceIte,seval,f0,f1,f4,f11,f12]
   refine⟨?_,?_,?_,rb,st⟩
   all_goals first|trivial|rfl
  rintro I2 hI2 m2 t2 g2 ⟨rfl,f11,f12,rb,st⟩
  have d2:((i':Int)-1<(i':Int))=True:=eq_true (by omega)
  repeat' (first
   |refine St.h ?_
   |simp(disch:=first|omega|(simp only[AJ];omega))only[AI,↓AB,↓reduceIte,seval,f11,f12,d1,d2]
   |(with_reducible (first|apply AD|apply AE))<;>(intro hc;(try simp only[Ab]at hc);(try simp only[hc]);(try simp only[Aa]at hc);try omega))
  subst hQ
  exact⟨i',q,rfl,by omega,by omega,sw,hlo',hhi,rb,st⟩
 have g1i:=gx q i' (by omega)
 have d1:((i':Int)<=(j:Int)-1)=True:=eq_true (by omega)
 repeat' (first
  |refine St.h ?_
  |simp(disch:=first|omega|(simp only[AJ];omega))only[AI,↓AB,↓reduceIte,seval,f0,f1,f4,f11,f12,d1,g1a,g1i,hqa,W1.ix,W1.la,Int.toNat_natCast]
  |(with_reducible (first|apply AD|apply AE))<;>(intro hc;(try simp only[Ab]at hc);(try simp only[hc]);(try simp only[Aa]at hc);try omega))
 refine CL.stay (Bp (a:=L.getD e default) (b:=L.getD (q i') default) hfg) fun g2 s2=>?_
 have rb2:=rb.grow s2
 have st2:=st.trans (Bh s2)
 cases hk:Cb L e (q i')with
 |false=>
  have d2:=D3 hk
  repeat' (first
   |refine St.h ?_
   |simp(disch:=first|omega|(simp only[AJ];omega))only[AI,↓AB,↓reduceIte,seval,f0,f1,f4,f11,f12,d2]
   |(with_reducible (first|apply AD|apply AE))<;>(intro hc;(try simp only[Ab]at hc);(try simp only[hc]);(try simp only[Aa]at hc);try omega))
  refine Aw hI1 (j-(i'+1)) (by omega) ⟨i'+1,rfl,by omega,by omega,by simp(disch:=first|omega|(simp only[AJ];omega))only[AI,↓AB,↓reduceIte,seval,f0],by simp(disch:=first|omega|(simp only[AJ];omega))only[AI,↓AB,↓reduceIte,seval,f1],by simp(disch:=first|omega|(simp only[AJ];omega))only[AI,↓AB,↓reduceIte,seval,f4],by simp(disch:=first|omega|(simp only[AJ];omega))only[AI,↓AB,↓reduceIte,seval,f11];rfl,by simp(disch:=first|omega|(simp only[AJ];omega))only[AI,↓AB,↓reduceIte,seval,f12],fun k k1 k2=>?_,rb2,st2⟩
  by_cases ek:k=i'
  ·rw[ek];exact hk
  ·exact hlo' k k1 (by omega)
 |true=>
 have d2:=Ds hk
 repeat' (first
  |refine St.h ?_
  |simp(disch:=first|omega|(simp only[AJ];omega))only[AI,↓AB,↓reduceIte,seval,f0,f1,f4,f11,f12,d2]
  |(with_reducible (first|apply AD|apply AE))<;>(intro hc;(try simp only[Ab]at hc);(try simp only[hc]);(try simp only[Aa]at hc);try omega))
 --from above
 refine Ok.lp (fun m t g=>∃ (j':Nat),m=j'-i'/\i'<=j'/\j'<=j/\get 0 t=v/\get 1 t=.i .i64 (a:Int)/\get 4 t=.f 64 []/\get 11 t=.i .i64 (i':Int)/\get 12 t=.i .i64 ((j':Int)-1)/\(∀ k,j'<=k->k<b->Cb L e (q k)=true)/\Rt g v (Bj L q N)/\AU (Am v) h g) (j-i') ?_ ?_
 ·simp(disch:=first|omega|(simp only[AJ];omega))only[AI,↓AB,↓reduceIte,seval,f0,f1,f4,f11,f12]
  refine⟨j,rfl,by omega,by omega,?_⟩
  refine⟨?_,?_,?_,?_,?_,hhi,rb2,st2⟩
  all_goals first|trivial|rfl
 rintro I3 hI3 m3 t3 g3 ⟨j',rfl,hj1,hj2,e0,e1,e4,e11,e12,hhi',rb3,st3⟩
 have hf3:=st3.fl hf
 have W3:=rb3.DY
 by_cases hl2:i'<j'
 case neg=>
  obtain rfl:j'=i':=by omega
  have d3:((j':Int)<=(j':Int)-1)=False:=eq_false (by omega)
  have d4:((j':Int)-1<(j':Int))=True:=eq_true (by omega)
  repeat' (first
   |refine St.h ?_
   |simp(disch:=first|omega|(simp only[AJ];omega))only[AI,↓AB,↓reduceIte,seval,e0,e1,e4,e11,e12,d3,d4]
   |(with_reducible (first|apply AD|apply AE))<;>(intro hc;(try simp only[Ab]at hc);(try simp only[hc]);(try simp only[Aa]at hc);try omega))
  subst hQ
  exact⟨j',q,rfl,by omega,by omega,sw,hlo',hhi',rb3,st3⟩
 obtain⟨u,rfl⟩:∃ u,j'=u+1:=⟨j'-1,by omega⟩
 have eu:((u+1:Nat):Int)-1=(u:Int):=by omega
 rw[eu]at e12
 have g3u:=gx q u (by omega)
 have d3:((i':Int)<=(u:Int))=True:=eq_true (by omega)
 repeat' (first
  |refine St.h ?_
  |simp(disch:=first|omega|(simp only[AJ];omega))only[AI,↓AB,↓reduceIte,seval,e0,e1,e4,e11,e12,d3,g1a,g3u,hqa,W3.ix,W3.la,Int.toNat_natCast]
  |(with_reducible (first|apply AD|apply AE))<;>(intro hc;(try simp only[Ab]at hc);(try simp only[hc]);(try simp only[Aa]at hc);try omega))
 refine CL.stay (Bp (a:=L.getD e default) (b:=L.getD (q u) default) hf3) fun g4 s4=>?_
 have rb4:=rb3.grow s4
 have st4:=st3.trans (Bh s4)
 have W4:=rb4.DY
 cases hk2:Cb L e (q u)with
 |true=>
  have d4:=Ds hk2
  repeat' (first
   |refine St.h ?_
   |simp(disch:=first|omega|(simp only[AJ];omega))only[AI,↓AB,↓reduceIte,seval,e0,e1,e4,e11,e12,d4]
   |(with_reducible (first|apply AD|apply AE))<;>(intro hc;(try simp only[Ab]at hc);(try simp only[hc]);(try simp only[Aa]at hc);try omega))
  refine Aw hI3 (u-i') (by omega) ⟨u,rfl,by omega,by omega,by simp(disch:=first|omega|(simp only[AJ];omega))only[AI,↓AB,↓reduceIte,seval,e0],by simp(disch:=first|omega|(simp only[AJ];omega))only[AI,↓AB,↓reduceIte,seval,e1],by simp(disch:=first|omega|(simp only[AJ];omega))only[AI,↓AB,↓reduceIte,seval,e4],by simp(disch:=first|omega|(simp only[AJ];omega))only[AI,↓AB,↓reduceIte,seval,e11],by simp(disch:=first|omega|(simp only[AJ];omega))only[AI,↓AB,↓reduceIte,seval,e12],fun k k1 k2=>?_,rb4,st4⟩
  by_cases ek:k=u
  ·rw[ek];exact hk2
  ·exact hhi' k (by omega) k2
 |false=>
  have d4:=D3 hk2
  have hne:u≠i':=fun e=>by rw[e,hk]at hk2;cases hk2
  have g4u:=gx q u (by omega)
  have d5:((u:Int)<(i':Int))=False:=eq_false (by omega)
  repeat' (first
   |refine St.h ?_
   |simp(disch:=first|omega|(simp only[AJ];omega))only[AI,↓AB,↓reduceIte,seval,e0,e1,e4,e11,e12,d4,d5,g1i,g4u,W4.ix,W4.la,Int.toNat_natCast]
   |(with_reducible (first|apply AD|apply AE))<;>(intro hc;(try simp only[Ab]at hc);(try simp only[hc]);(try simp only[Aa]at hc);try omega))
  refine ST.MC rb4 hN (by omega) fun g5 B5 s5=>?_
  have W5:=B5.DY
  repeat' (first
   |refine St.h ?_
   |simp(disch:=first|omega|(simp only[AJ];omega))only[AI,↓AB,↓reduceIte,seval,e0,e1,e4,e11,e12,W5.ix,Int.toNat_natCast]
   |(with_reducible (first|apply AD|apply AE))<;>(intro hc;(try simp only[Ab]at hc);(try simp only[hc]);(try simp only[Aa]at hc);try omega))
  refine ST.G2 B5 hN (by omega) fun g6 B6 s6=>?_
  repeat' (first
   |refine St.h ?_
   |simp(disch:=first|omega|(simp only[AJ];omega))only[AI,↓AB,↓reduceIte,seval,e0,e1,e4,e11,e12]
   |(with_reducible (first|apply AD|apply AE))<;>(intro hc;(try simp only[Ab]at hc);(try simp only[hc]);(try simp only[Aa]at hc);try omega))
  refine Aw hI (u-(i'+1)) (by omega) ⟨i'+1,u,Gt q i' u,rfl,by omega,by omega,by omega,by simp(disch:=first|omega|(simp only[AJ];omega))only[AI,↓AB,↓reduceIte,seval,e0],by simp(disch:=first|omega|(simp only[AJ];omega))only[AI,↓AB,↓reduceIte,seval,e1],by simp(disch:=first|omega|(simp only[AJ];omega))only[AI,↓AB,↓reduceIte,seval,e4],by simp(disch:=first|omega|(simp only[AJ];omega))only[AI,↓AB,↓reduceIte,seval,e11];rfl,by simp(disch:=first|omega|(simp only[AJ];omega))only[AI,↓AB,↓reduceIte,seval,e12],by rw[EL (by omega) (by omega)];exact hqa,fun k k1 k2=>?_,fun k k1 k2=>?_,sw.trans (.one (by omega) (by omega) (by omega) (by omega)),B6,st4.trans (s5.trans s6)⟩
  ·by_cases ek:k=i'
   ·rw[ek,Iq];exact hk2
   ·rw[EL ek (by omega)];exact hlo' k k1 (by omega)
  ·by_cases ek:k=u
   ·rw[ek,Nl];exact hk
   ·rw[EL (by omega) ek];exact hhi' k (by omega) k2
end
end Go.Proofs.Ytobfgempjekjpaa
set_option maxRecDepth 100000
set_option maxHeartbeats 8000000
namespace Go.Proofs.Ytobfgempjekjpaa
open Go Go.Ev
section
variable {L:List BN} {N:Nat}
/--the pivot goes to its place -/
theorem Ho {R:Nat->Nat->Bool} {q:Nat->Nat} {a b i e:Nat} (o:Ord R) (hi:a+1<=i) (hb:i<=b) (hqa:q a=e) (hlo:∀ k,a+1<=k->k<i->R (q k) e=true) (hhi:∀ k,i<=k->k<b->R (q k) e=false):QS R (Gt q (i-1) a) a b (i-1):=by
 have h0:Gt q (i-1) a (i-1)=e:=by rw[Iq];exact hqa
 refine⟨by omega,by omega,fun k k1 k2=>?_,fun k k1 k2=>?_⟩
 ·rw[h0]
  by_cases ek:k=a
  ·rw[ek,Nl];exact hlo (i-1) (by omega) (by omega)
  ·rw[EL (by omega) ek];exact hlo k (by omega) (by omega)
 ·rw[h0,EL (by omega) (by omega)]
  exact hhi k (by omega) k2
theorem U7 {h:H} {v:V} {p:Nat->Nat} {a b c:Nat} (rb0:Rt h v (Bj L p N)) (h1:a<=c) (h2:c<b) (h3:b<=N) (hN:N<=1000) (hf:B.val h.floor<=B.val h.next):BO Try.prog 88 [v,.i .i64 (a:Int),.i .i64 (b:Int),.i .i64 (c:Int),.f 64 []] h fun r h'=>
 ∃ (m:Nat) (z:Bool) (q:Nat->Nat),r=.tu [.i .i64 (m:Int),.b z]/\QS (Cb L) q a b m/\Dn a b p q/\Rt h' v (Bj L q N)/\AU (Am v) h h':=by
 have ln:∀ q:Nat->Nat,(Bj L q N).length=N:=fun q=>CJ
 have gx:∀ (q:Nat->Nat) j,j<N->(Bj L q N).getD j default=L.getD (q j) default:=fun q j hj=>By hj
 have o:=Dk L
 have W0:=rb0.DY
 have l0:=ln p
 have ga:=gx p a (by omega)
 have gc:=gx p c (by omega)
 refine BK yH (by intro hb;cases hb) (by simp) (by simp) fun Q hQ=>?_
 simp only[Av,Nat.reduceAdd]
 repeat' (first
  |refine St.h ?_
  |simp(disch:=first|omega|(simp only[AJ];omega))only[AI,↓AB,↓reduceIte,seval,ga,gc,W0.ix,W0.la,Int.toNat_natCast]
  |(with_reducible (first|apply AD|apply AE))<;>(intro hc;(try simp only[Ab]at hc);(try simp only[hc]);(try simp only[Aa]at hc);try omega))
 refine ST.MC rb0 hN (by omega) fun h5 B5 s5=>?_
 have W5:=B5.DY
 repeat' (first
  |refine St.h ?_
  |simp(disch:=first|omega|(simp only[AJ];omega))only[AI,↓AB,↓reduceIte,seval,W5.ix,Int.toNat_natCast]
  |(with_reducible (first|apply AD|apply AE))<;>(intro hc;(try simp only[Ab]at hc);(try simp only[hc]);(try simp only[Aa]at hc);try omega))
 refine ST.G2 B5 hN (by omega) fun h6 B6 s6=>?_
 have st6:=s5.trans s6
 have hea:Gt p a c a=p c:=Iq
 have sw0:Dn a b p (Gt p a c):=.one (by omega) (by omega) (by omega) (by omega)
 generalize he:p c=e at*
 generalize hp0:Gt p a c=p0 at*
 repeat' (first
  |refine St.h ?_
  |simp(disch:=first|omega|(simp only[AJ];omega))only[AI,↓AB,↓reduceIte,seval]
  |(with_reducible (first|apply AD|apply AE))<;>(intro hc;(try simp only[Ab]at hc);(try simp only[hc]);(try simp only[Aa]at hc);try omega))
 --from below
 refine Ok.lp (fun m t g=>∃ (i:Nat),m=b-i/\a+1<=i/\i<=b/\get 0 t=v/\get 1 t=.i .i64 (a:Int)/\get 4 t=.f 64 []/\get 12 t=.i .i64 (i:Int)/\get 13 t=.i .i64 ((b:Int)-1)/\(∀ k,a+1<=k->k<i->Cb L (p0 k) e=true)/\Rt g v (Bj L p0 N)/\AU (Am v) h g) (b-(a+1)) ?_ ?_
 ·simp(disch:=first|omega|(simp only[AJ];omega))only[AI,↓AB,↓reduceIte,seval]
  refine⟨a+1,rfl,by omega,by omega,?_⟩
  refine⟨?_,?_,?_,?_,?_,fun k k1 k2=>by omega,B6,st6⟩
  all_goals first|trivial|rfl
 rintro I1 hI1 m1 t1 g1 ⟨i,rfl,hi,hib,f0,f1,f4,f12,f13,hlo,rb,st⟩
 have hfg:=st.fl hf
 have W1:=rb.DY
 have l1:=ln p0
 have g1a:=gx p0 a (by omega)
 by_cases hl:i<b
 case neg=>
  obtain rfl:i=b:=by omega
  have d1:((i:Int)<=(i:Int)-1)=False:=eq_false (by omega)
  repeat' (first
   |refine St.h ?_
   |simp(disch:=first|omega|(simp only[AJ];omega))only[AI,↓AB,↓reduceIte,seval,f0,f1,f4,f12,f13,d1]
   |(with_reducible (first|apply AD|apply AE))<;>(intro hc;(try simp only[Ab]at hc);(try simp only[hc]);(try simp only[Aa]at hc);try omega))
  refine Ok.lp (fun m t g=>m=0/\get 0 t=v/\get 1 t=.i .i64 (a:Int)/\get 12 t=.i .i64 (i:Int)/\get 13 t=.i .i64 ((i:Int)-1)/\Rt g v (Bj L p0 N)/\AU (Am v) h g) 0 ?_ ?_
  ·simp(disch:=first|omega|(simp only[AJ];omega))only[AI,↓AB,↓reduceIte,seval,f0,f1,f4,f12,f13]
   refine⟨?_,?_,?_,?_,?_,rb,st⟩
   all_goals first|trivial|rfl
  rintro I2 hI2 m2 t2 g2 ⟨rfl,f0,f1,f12,f13,rb,st⟩
  have d2:((i:Int)-1<(i:Int))=True:=eq_true (by omega)
  have ei:(i:Int)-1=((i-1:Nat):Int):=by omega
  rw[ei]at f13 d1 d2
  have W2:=rb.DY
  have gj:=gx p0 (i-1) (by omega)
  repeat' (first
   |refine St.h ?_
   |simp(disch:=first|omega|(simp only[AJ];omega))only[AI,↓AB,↓reduceIte,seval,f0,f1,f12,f13,d1,d2,g1a,gj,W2.ix,W2.la,Int.toNat_natCast]
   |(with_reducible (first|apply AD|apply AE))<;>(intro hc;(try simp only[Ab]at hc);(try simp only[hc]);(try simp only[Aa]at hc);try omega))
  refine ST.MC rb hN (by omega) fun h7 B7 s7=>?_
  have W7:=B7.DY
  repeat' (first
   |refine St.h ?_
   |simp(disch:=first|omega|(simp only[AJ];omega))only[AI,↓AB,↓reduceIte,seval,f0,f1,f12,f13,W7.ix,Int.toNat_natCast]
   |(with_reducible (first|apply AD|apply AE))<;>(intro hc;(try simp only[Ab]at hc);(try simp only[hc]);(try simp only[Aa]at hc);try omega))
  refine ST.G2 B7 hN (by omega) fun h8 B8 s8=>?_
  repeat' (first
   |refine St.h ?_
   |simp(disch:=first|omega|(simp only[AJ];omega))only[AI,↓AB,↓reduceIte,seval,f0,f1,f12,f13]
   |(with_reducible (first|apply AD|apply AE))<;>(intro hc;(try simp only[Ab]at hc);(try simp only[hc]);(try simp only[Aa]at hc);try omega))
  subst hQ
  exact⟨i-1,true,_,rfl,Ho o hi (Nat.le_refl _) hea hlo fun k k1 k2=>by omega,sw0.trans (.one (by omega) (by omega) (by omega) (by omega)),B8,st.trans (s7.trans s8)⟩
 have g1i:=gx p0 i (by omega)
 have d1:((i:Int)<=(b:Int)-1)=True:=eq_true (by omega)
 repeat' (first
  |refine St.h ?_
  |simp(disch:=first|omega|(simp only[AJ];omega))only[AI,↓AB,↓reduceIte,seval,f0,f1,f4,f12,f13,d1,g1a,g1i,hea,W1.ix,W1.la,Int.toNat_natCast]
  |(with_reducible (first|apply AD|apply AE))<;>(intro hc;(try simp only[Ab]at hc);(try simp only[hc]);(try simp only[Aa]at hc);try omega))
 refine CL.stay (Bp (a:=L.getD (p0 i) default) (b:=L.getD e default) hfg) fun g2 s2=>?_
 have rb2:=rb.grow s2
 have st2:=st.trans (Bh s2)
 cases hk:Cb L (p0 i) e with
 |true=>
  have d2:=Ds hk
  repeat' (first
   |refine St.h ?_
   |simp(disch:=first|omega|(simp only[AJ];omega))only[AI,↓AB,↓reduceIte,seval,f0,f1,f4,f12,f13,d2]
   |(with_reducible (first|apply AD|apply AE))<;>(intro hc;(try simp only[Ab]at hc);(try simp only[hc]);(try simp only[Aa]at hc);try omega))
  refine Aw hI1 (b-(i+1)) (by omega) ⟨i+1,rfl,by omega,by omega,by simp(disch:=first|omega|(simp only[AJ];omega))only[AI,↓AB,↓reduceIte,seval,f0],by simp(disch:=first|omega|(simp only[AJ];omega))only[AI,↓AB,↓reduceIte,seval,f1],by simp(disch:=first|omega|(simp only[AJ];omega))only[AI,↓AB,↓reduceIte,seval,f4],by simp(disch:=first|omega|(simp only[AJ];omega))only[AI,↓AB,↓reduceIte,seval,f12];rfl,by simp(disch:=first|omega|(simp only[AJ];omega))only[AI,↓AB,↓reduceIte,seval,f13],fun k k1 k2=>?_,rb2,st2⟩
  by_cases ek:k=i
  ·rw[ek];exact hk
  ·exact hlo k k1 (by omega)
 |false=>
 have d2:=D3 hk
 repeat' (first
  |refine St.h ?_
  |simp(disch:=first|omega|(simp only[AJ];omega))only[AI,↓AB,↓reduceIte,seval,f0,f1,f4,f12,f13,d2]
  |(with_reducible (first|apply AD|apply AE))<;>(intro hc;(try simp only[Ab]at hc);(try simp only[hc]);(try simp only[Aa]at hc);try omega))
 --from above
 refine Ok.lp (fun m t g=>∃ (j:Nat),m=j-i/\i<=j/\j<=b/\get 0 t=v/\get 1 t=.i .i64 (a:Int)/\get 4 t=.f 64 []/\get 12 t=.i .i64 (i:Int)/\get 13 t=.i .i64 ((j:Int)-1)/\(∀ k,j<=k->k<b->Cb L (p0 k) e=false)/\Rt g v (Bj L p0 N)/\AU (Am v) h g) (b-i) ?_ ?_
 ·simp(disch:=first|omega|(simp only[AJ];omega))only[AI,↓AB,↓reduceIte,seval,f0,f1,f4,f12,f13]
  refine⟨b,rfl,by omega,by omega,?_⟩
  refine⟨?_,?_,?_,?_,?_,fun k k1 k2=>by omega,rb2,st2⟩
  all_goals first|trivial|rfl
 rintro I3 hI3 m3 t3 g3 ⟨j,rfl,hij,hjb,e0,e1,e4,e12,e13,hhi,rb3,st3⟩
 have hf3:=st3.fl hf
 have W3:=rb3.DY
 by_cases hl2:i<j
 case neg=>
  obtain rfl:j=i:=by omega
  have d3:((j:Int)<=(j:Int)-1)=False:=eq_false (by omega)
  have d4:((j:Int)-1<(j:Int))=True:=eq_true (by omega)
  have ei:(j:Int)-1=((j-1:Nat):Int):=by omega
  rw[ei]at e13 d3 d4
  have gj:=gx p0 (j-1) (by omega)
  repeat' (first
   |refine St.h ?_
   |simp(disch:=first|omega|(simp only[AJ];omega))only[AI,↓AB,↓reduceIte,seval,e0,e1,e4,e12,e13,d3,d4,g1a,gj,W3.ix,W3.la,Int.toNat_natCast]
   |(with_reducible (first|apply AD|apply AE))<;>(intro hc;(try simp only[Ab]at hc);(try simp only[hc]);(try simp only[Aa]at hc);try omega))
  refine ST.MC rb3 hN (by omega) fun h7 B7 s7=>?_
  have W7:=B7.DY
  repeat' (first
   |refine St.h ?_
   |simp(disch:=first|omega|(simp only[AJ];omega))only[AI,↓AB,↓reduceIte,seval,e0,e1,e12,e13,W7.ix,Int.toNat_natCast]
   |(with_reducible (first|apply AD|apply AE))<;>(intro hc;(try simp only[Ab]at hc);(try simp only[hc]);(try simp only[Aa]at hc);try omega))
  refine ST.G2 B7 hN (by omega) fun h8 B8 s8=>?_
  repeat' (first
   |refine St.h ?_
   |simp(disch:=first|omega|(simp only[AJ];omega))only[AI,↓AB,↓reduceIte,seval,e0,e1,e12,e13]
   |(with_reducible (first|apply AD|apply AE))<;>(intro hc;(try simp only[Ab]at hc);(try simp only[hc]);(try simp only[Aa]at hc);try omega))
  subst hQ
  exact⟨j-1,true,_,rfl,Ho o hi (by omega) hea hlo hhi,sw0.trans (.one (by omega) (by omega) (by omega) (by omega)),B8,st3.trans (s7.trans s8)⟩
 obtain⟨u,rfl⟩:∃ u,j=u+1:=⟨j-1,by omega⟩
 have eu:((u+1:Nat):Int)-1=(u:Int):=by omega
 rw[eu]at e13
 have g3u:=gx p0 u (by omega)
 have d3:((i:Int)<=(u:Int))=True:=eq_true (by omega)
 repeat' (first
  |refine St.h ?_
  |simp(disch:=first|omega|(simp only[AJ];omega))only[AI,↓AB,↓reduceIte,seval,e0,e1,e4,e12,e13,d3,g1a,g3u,hea,W3.ix,W3.la,Int.toNat_natCast]
  |(with_reducible (first|apply AD|apply AE))<;>(intro hc;(try simp only[Ab]at hc);(try simp only[hc]);(try simp only[Aa]at hc);try omega))
 refine CL.stay (Bp (a:=L.getD (p0 u) default) (b:=L.getD e default) hf3) fun g4 s4=>?_
 have rb4:=rb3.grow s4
 have st4:=st3.trans (Bh s4)
 have W4:=rb4.DY
 cases hk2:Cb L (p0 u) e with
 |false=>
  have d4:=D3 hk2
  repeat' (first
   |refine St.h ?_
   |simp(disch:=first|omega|(simp only[AJ];omega))only[AI,↓AB,↓reduceIte,seval,e0,e1,e4,e12,e13,d4]
   |(with_reducible (first|apply AD|apply AE))<;>(intro hc;(try simp only[Ab]at hc);(try simp only[hc]);(try simp only[Aa]at hc);try omega))
  refine Aw hI3 (u-i) (by omega) ⟨u,rfl,by omega,by omega,by simp(disch:=first|omega|(simp only[AJ];omega))only[AI,↓AB,↓reduceIte,seval,e0],by simp(disch:=first|omega|(simp only[AJ];omega))only[AI,↓AB,↓reduceIte,seval,e1],by simp(disch:=first|omega|(simp only[AJ];omega))only[AI,↓AB,↓reduceIte,seval,e4],by simp(disch:=first|omega|(simp only[AJ];omega))only[AI,↓AB,↓reduceIte,seval,e12],by simp(disch:=first|omega|(simp only[AJ];omega))only[AI,↓AB,↓reduceIte,seval,e13],fun k k1 k2=>?_,rb4,st4⟩
  by_cases ek:k=u
  ·rw[ek];exact hk2
  ·exact hhi k (by omega) k2
 |true=>
 have d4:=Ds hk2
 have hne:u≠i:=fun e=>by rw[e,hk]at hk2;cases hk2
 have d5:((u:Int)<(i:Int))=False:=eq_false (by omega)
 repeat' (first
  |refine St.h ?_
  |simp(disch:=first|omega|(simp only[AJ];omega))only[AI,↓AB,↓reduceIte,seval,e0,e1,e4,e12,e13,d4,d5,g1i,g3u,W4.ix,W4.la,Int.toNat_natCast]
  |(with_reducible (first|apply AD|apply AE))<;>(intro hc;(try simp only[Ab]at hc);(try simp only[hc]);(try simp only[Aa]at hc);try omega))
 refine ST.MC rb4 hN (by omega) fun g5 B5 s5=>?_
 have W5:=B5.DY
 repeat' (first
  |refine St.h ?_
  |simp(disch:=first|omega|(simp only[AJ];omega))only[AI,↓AB,↓reduceIte,seval,e0,e1,e4,e12,e13,W5.ix,Int.toNat_natCast]
  |(with_reducible (first|apply AD|apply AE))<;>(intro hc;(try simp only[Ab]at hc);(try simp only[hc]);(try simp only[Aa]at hc);try omega))
 refine ST.G2 B5 hN (by omega) fun g6 B6 s6=>?_
 have st7:=st4.trans (s5.trans s6)
 repeat' (first
  |refine St.h ?_
  |simp(disch:=first|omega|(simp only[AJ];omega))only[AI,↓AB,↓reduceIte,seval,e0,e1,e4,e12,e13]
  |(with_reducible (first|apply AD|apply AE))<;>(intro hc;(try simp only[Ab]at hc);(try simp only[hc]);(try simp only[Aa]at hc);try omega))
 --both ends close in
 refine Ok.lp (fun m t g=>∃ (i j:Nat) (q:Nat->Nat),m=j-i/\a+1<=i/\i<=j/\j<=b/\get 0 t=v/\get 1 t=.i .i64 (a:Int)/\get 4 t=.f 64 []/\get 12 t=.i .i64 (i:Int)/\get 13 t=.i .i64 ((j:Int)-1)/\q a=e/\(∀ k,a+1<=k->k<i->Cb L (q k) e=true)/\(∀ k,j<=k->k<b->Cb L (q k) e=false)/\Dn a b p q/\Rt g v (Bj L q N)/\AU (Am v) h g) (u-(i+1)) ?_ ?_
 ·simp(disch:=first|omega|(simp only[AJ];omega))only[AI,↓AB,↓reduceIte,seval,e0,e1,e4,e12,e13]
  refine⟨i+1,u,Gt p0 i u,rfl,by omega,by omega,by omega,?_⟩
  refine⟨?_,?_,?_,?_,?_,by rw[EL (by omega) (by omega)];exact hea,fun k k1 k2=>?_,fun k k1 k2=>?_,sw0.trans (.one (by omega) (by omega) (by omega) (by omega)),B6,st7⟩
  rotate_right
  ·by_cases ek:k=u
   ·rw[ek,Nl];exact hk
   ·rw[EL (by omega) ek];exact hhi k (by omega) k2
  rotate_right
  ·by_cases ek:k=i
   ·rw[ek,Iq];exact hk2
   ·rw[EL ek (by omega)];exact hlo k k1 (by omega)
  all_goals first|trivial|rfl
 clear hlo hhi hk hk2 g1a g1i g3u W1 W3 W4 W5 rb rb2 rb3 rb4 B5 B6 hI1 hI3 f0 f1 f4 f12 f13 e0 e1 e4 e12 e13
 rintro I hI m t g ⟨i,j,q,rfl,hi,hij,hj,f0,f1,f4,f12,f13,hqa,hlo,hhi,sw,rb,st⟩
 have g1a:=gx q a (by omega)
 have lq:=ln q
 repeat' (first
  |refine St.h ?_
  |simp(disch:=first|omega|(simp only[AJ];omega))only[AI,↓AB,↓reduceIte,seval,f0,f1,f4,f12,f13]
  |(with_reducible (first|apply AD|apply AE))<;>(intro hc;(try simp only[Ab]at hc);(try simp only[hc]);(try simp only[Aa]at hc);try omega))
 refine Ok.lp (fun m t g=>∃ (i':Nat),m=j-i'/\i<=i'/\i'<=j/\get 0 t=v/\get 1 t=.i .i64 (a:Int)/\get 4 t=.f 64 []/\get 12 t=.i .i64 (i':Int)/\get 13 t=.i .i64 ((j:Int)-1)/\(∀ k,a+1<=k->k<i'->Cb L (q k) e=true)/\Rt g v (Bj L q N)/\AU (Am v) h g) (j-i) ?_ ?_
 ·simp(disch:=first|omega|(simp only[AJ];omega))only[AI,↓AB,↓reduceIte,seval,f0,f1,f4,f12,f13]
  refine⟨i,rfl,by omega,by omega,?_⟩
  refine⟨?_,?_,?_,?_,?_,hlo,rb,st⟩
  all_goals first|trivial|rfl
 rintro I1 hI1 m1 t1 g1 ⟨i',rfl,hi',hij',f0,f1,f4,f12,f13,hlo',rb,st⟩
 have hfg:=st.fl hf
 have W1:=rb.DY
 by_cases hl:i'<j
 case neg=>
  obtain rfl:i'=j:=by omega
  have d1:((i':Int)<=(i':Int)-1)=False:=eq_false (by omega)
  repeat' (first
   |refine St.h ?_
   |simp(disch:=first|omega|(simp only[AJ];omega))only[AI,↓AB,↓reduceIte,seval,f0,f1,f4,f12,f13,d1]
   |(with_reducible (first|apply AD|apply AE))<;>(intro hc;(try simp only[Ab]at hc);(try simp only[hc]);(try simp only[Aa]at hc);try omega))
  refine Ok.lp (fun m t g=>m=0/\get 0 t=v/\get 1 t=.i .i64 (a:Int)/\get 12 t=.i .i64 (i':Int)/\get 13 t=.i .i64 ((i':Int)-1)/\Rt g v (Bj L q N)/\AU (Am v) h g) 0 ?_ ?_
  ·simp(disch:=first|omega|(simp only[AJ];omega))only[AI,↓AB,↓reduceIte,seval,f0,f1,f4,f12,f13]
   refine⟨?_,?_,?_,?_,?_,rb,st⟩
   all_goals first|trivial|rfl
  rintro I2 hI2 m2 t2 g2 ⟨rfl,f0,f1,f12,f13,rb,st⟩
  have d2:((i':Int)-1<(i':Int))=True:=eq_true (by omega)
  have ei:(i':Int)-1=((i'-1:Nat):Int):=by omega
  rw[ei]at f13 d1 d2
  have W2:=rb.DY
  have gj:=gx q (i'-1) (by omega)
  repeat' (first
   |refine St.h ?_
   |simp(disch:=first|omega|(simp only[AJ];omega))only[AI,↓AB,↓reduceIte,seval,f0,f1,f12,f13,d1,d2,g1a,gj,W2.ix,W2.la,Int.toNat_natCast]
   |(with_reducible (first|apply AD|apply AE))<;>(intro hc;(try simp only[Ab]at hc);(try simp only[hc]);(try simp only[Aa]at hc);try omega))
  refine ST.MC rb hN (by omega) fun h7 B7 s7=>?_
  have W7:=B7.DY
  repeat' (first
   |refine St.h ?_
   |simp(disch:=first|omega|(simp only[AJ];omega))only[AI,↓AB,↓reduceIte,seval,f0,f1,f12,f13,W7.ix,Int.toNat_natCast]
   |(with_reducible (first|apply AD|apply AE))<;>(intro hc;(try simp only[Ab]at hc);(try simp only[hc]);(try simp only[Aa]at hc);try omega))
  refine ST.G2 B7 hN (by omega) fun h8 B8 s8=>?_
  repeat' (first
   |refine St.h ?_
   |simp(disch:=first|omega|(simp only[AJ];omega))only[AI,↓AB,↓reduceIte,seval,f0,f1,f12,f13]
   |(with_reducible (first|apply AD|apply AE))<;>(intro hc;(try simp only[Ab]at hc);(try simp only[hc]);(try simp only[Aa]at hc);try omega))
  subst hQ
  exact⟨i'-1,false,_,rfl,Ho o (by omega) hj hqa hlo' hhi,sw.trans (.one (by omega) (by omega) (by omega) (by omega)),B8,st.trans (s7.trans s8)⟩
 have g1i:=gx q i' (by omega)
 have d1:((i':Int)<=(j:Int)-1)=True:=eq_true (by omega)
 repeat' (first
  |refine St.h ?_
  |simp(disch:=first|omega|(simp only[AJ];omega))only[AI,↓AB,↓reduceIte,seval,f0,f1,f4,f12,f13,d1,g1a,g1i,hqa,W1.ix,W1.la,Int.toNat_natCast]
  |(with_reducible (first|apply AD|apply AE))<;>(intro hc;(try simp only[Ab]at hc);(try simp only[hc]);(try simp only[Aa]at hc);try omega))
 refine CL.stay (Bp (a:=L.getD (q i') default) (b:=L.getD e default) hfg) fun g2 s2=>?_
 have rb2:=rb.grow s2
 have st2:=st.trans (Bh s2)
 cases hk:Cb L (q i') e with
 |true=>
  have d2:=Ds hk
  repeat' (first
   |refine St.h ?_
   |simp(disch:=first|omega|(simp only[AJ];omega))only[AI,↓AB,↓reduceIte,seval,f0,f1,f4,f12,f13,d2]
   |(with_reducible (first|apply AD|apply AE))<;>(intro hc;(try simp only[Ab]at hc);(try simp only[hc]);(try simp only[Aa]at hc);try omega))
  refine Aw hI1 (j-(i'+1)) (by omega) ⟨i'+1,rfl,by omega,by omega,by simp(disch:=first|omega|(simp only[AJ];omega))only[AI,↓AB,↓reduceIte,seval,f0],by simp(disch:=first|omega|(simp only[AJ];omega))only[AI,↓AB,↓reduceIte,seval,f1],by simp(disch:=first|omega|(simp only[AJ];omega))only[AI,↓AB,↓reduceIte,seval,f4],by simp(disch:=first|omega|(simp only[AJ];omega))only[AI,↓AB,↓reduceIte,seval,f12];rfl,by simp(disch:=first|omega|(simp only[AJ];omega))only[AI,↓AB,↓reduceIte,seval,f13],fun k k1 k2=>?_,rb2,st2⟩
  by_cases ek:k=i'
  ·rw[ek];exact hk
  ·exact hlo' k k1 (by omega)
 |false=>
 have d2:=D3 hk
 repeat' (first
  |refine St.h ?_
  |simp(disch:=first|omega|(simp only[AJ];omega))only[AI,↓AB,↓reduceIte,seval,f0,f1,f4,f12,f13,d2]
  |(with_reducible (first|apply AD|apply AE))<;>(intro hc;(try simp only[Ab]at hc);(try simp only[hc]);(try simp only[Aa]at hc);try omega))
 refine Ok.lp (fun m t g=>∃ (j':Nat),m=j'-i'/\i'<=j'/\j'<=j/\get 0 t=v/\get 1 t=.i .i64 (a:Int)/\get 4 t=.f 64 []/\get 12 t=.i .i64 (i':Int)/\get 13 t=.i .i64 ((j':Int)-1)/\(∀ k,j'<=k->k<b->Cb L (q k) e=false)/\Rt g v (Bj L q N)/\AU (Am v) h g) (j-i') ?_ ?_
 ·simp(disch:=first|omega|(simp only[AJ];omega))only[AI,↓AB,↓reduceIte,seval,f0,f1,f4,f12,f13]
  refine⟨j,rfl,by omega,by omega,?_⟩
  refine⟨?_,?_,?_,?_,?_,hhi,rb2,st2⟩
  all_goals first|trivial|rfl
 rintro I3 hI3 m3 t3 g3 ⟨j',rfl,hj1,hj2,e0,e1,e4,e12,e13,hhi',rb3,st3⟩
 have hf3:=st3.fl hf
 have W3:=rb3.DY
 by_cases hl2:i'<j'
 case neg=>
  obtain rfl:j'=i':=by omega
  have d3:((j':Int)<=(j':Int)-1)=False:=eq_false (by omega)
  have d4:((j':Int)-1<(j':Int))=True:=eq_true (by omega)
  have ei:(j':Int)-1=((j'-1:Nat):Int):=by omega
  rw[ei]at e13 d3 d4
  have gj:=gx q (j'-1) (by omega)
  repeat' (first
   |refine St.h ?_
   |simp(disch:=first|omega|(simp only[AJ];omega))only[AI,↓AB,↓reduceIte,seval,e0,e1,e4,e12,e13,d3,d4,g1a,gj,W3.ix,W3.la,Int.toNat_natCast]
   |(with_reducible (first|apply AD|apply AE))<;>(intro hc;(try simp only[Ab]at hc);(try simp only[hc]);(try simp only[Aa]at hc);try omega))
  refine ST.MC rb3 hN (by omega) fun h7 B7 s7=>?_
  have W7:=B7.DY
  repeat' (first
   |refine St.h ?_
   |simp(disch:=first|omega|(simp only[AJ];omega))only[AI,↓AB,↓reduceIte,seval,e0,e1,e12,e13,W7.ix,Int.toNat_natCast]
   |(with_reducible (first|apply AD|apply AE))<;>(intro hc;(try simp only[Ab]at hc);(try simp only[hc]);(try simp only[Aa]at hc);try omega))
  refine ST.G2 B7 hN (by omega) fun h8 B8 s8=>?_
  repeat' (first
   |refine St.h ?_
   |simp(disch:=first|omega|(simp only[AJ];omega))only[AI,↓AB,↓reduceIte,seval,e0,e1,e12,e13]
   |(with_reducible (first|apply AD|apply AE))<;>(intro hc;(try simp only[Ab]at hc);(try simp only[hc]);(try simp only[Aa]at hc);try omega))
  subst hQ
  exact⟨j'-1,false,_,rfl,Ho o (by omega) (by omega) hqa hlo' hhi',sw.trans (.one (by omega) (by omega) (by omega) (by omega)),B8,st3.trans (s7.trans s8)⟩
 obtain⟨u,rfl⟩:∃ u,j'=u+1:=⟨j'-1,by omega⟩
 have eu:((u+1:Nat):Int)-1=(u:Int):=by omega
 rw[eu]at e13
 have g3u:=gx q u (by omega)
 have d3:((i':Int)<=(u:Int))=True:=eq_true (by omega)
 repeat' (first
  |refine St.h ?_
  |simp(disch:=first|omega|(simp only[AJ];omega))only[AI,↓AB,↓reduceIte,seval,e0,e1,e4,e12,e13,d3,g1a,g3u,hqa,W3.ix,W3.la,Int.toNat_natCast]
  |(with_reducible (first|apply AD|apply AE))<;>(intro hc;(try simp only[Ab]at hc);(try simp only[hc]);(try simp only[Aa]at hc);try omega))
 refine CL.stay (Bp (a:=L.getD (q u) default) (b:=L.getD e default) hf3) fun g4 s4=>?_
 have rb4:=rb3.grow s4
 have st4:=st3.trans (Bh s4)
 have W4:=rb4.DY
 cases hk2:Cb L (q u) e with
 |false=>
  have d4:=D3 hk2
  repeat' (first
   |refine St.h ?_
   |simp(disch:=first|omega|(simp only[AJ];omega))only[AI,↓AB,↓reduceIte,seval,e0,e1,e4,e12,e13,d4]
   |(with_reducible (first|apply AD|apply AE))<;>(intro hc;(try simp only[Ab]at hc);(try simp only[hc]);(try simp only[Aa]at hc);try omega))
  refine Aw hI3 (u-i') (by omega) ⟨u,rfl,by omega,by omega,by simp(disch:=first|omega|(simp only[AJ];omega))only[AI,↓AB,↓reduceIte,seval,e0],by simp(disch:=first|omega|(simp only[AJ];omega))only[AI,↓AB,↓reduceIte,seval,e1],by simp(disch:=first|omega|(simp only[AJ];omega))only[AI,↓AB,↓reduceIte,seval,e4],by simp(disch:=first|omega|(simp only[AJ];omega))only[AI,↓AB,↓reduceIte,seval,e12],by simp(disch:=first|omega|(simp only[AJ];omega))only[AI,↓AB,↓reduceIte,seval,e13],fun k k1 k2=>?_,rb4,st4⟩
  by_cases ek:k=u
  ·rw[ek];exact hk2
  ·exact hhi' k (by omega) k2
 |true=>
  have d4:=Ds hk2
  have hne:u≠i':=fun e=>by rw[e,hk]at hk2;cases hk2
  have d5:((u:Int)<(i':Int))=False:=eq_false (by omega)
  repeat' (first
   |refine St.h ?_
   |simp(disch:=first|omega|(simp only[AJ];omega))only[AI,↓AB,↓reduceIte,seval,e0,e1,e4,e12,e13,d4,d5,g1i,g3u,W4.ix,W4.la,Int.toNat_natCast]
   |(with_reducible (first|apply AD|apply AE))<;>(intro hc;(try simp only[Ab]at hc);(try simp only[hc]);(try simp only[Aa]at hc);try omega))
  refine ST.MC rb4 hN (by omega) fun g5 B5 s5=>?_
  have W5:=B5.DY
  repeat' (first
   |refine St.h ?_
   |simp(disch:=first|omega|(simp only[AJ];omega))only[AI,↓AB,↓reduceIte,seval,e0,e1,e4,e12,e13,W5.ix,Int.toNat_natCast]
   |(with_reducible (first|apply AD|apply AE))<;>(intro hc;(try simp only[Ab]at hc);(try simp only[hc]);(try simp only[Aa]at hc);try omega))
  refine ST.G2 B5 hN (by omega) fun g6 B6 s6=>?_
  repeat' (first
   |refine St.h ?_
   |simp(disch:=first|omega|(simp only[AJ];omega))only[AI,↓AB,↓reduceIte,seval,e0,e1,e4,e12,e13]
   |(with_reducible (first|apply AD|apply AE))<;>(intro hc;(try simp only[Ab]at hc);(try simp only[hc]);(try simp only[Aa]at hc);try omega))
  refine Aw hI (u-(i'+1)) (by omega) ⟨i'+1,u,Gt q i' u,rfl,by omega,by omega,by omega,by simp(disch:=first|omega|(simp only[AJ];omega))only[AI,↓AB,↓reduceIte,seval,e0],by simp(disch:=first|omega|(simp only[AJ];omega))only[AI,↓AB,↓reduceIte,seval,e1],by simp(disch:=first|omega|(simp only[AJ];omega))only[AI,↓AB,↓reduceIte,seval,e4],by simp(disch:=first|omega|(simp only[AJ];omega))only[AI,↓AB,↓reduceIte,seval,e12];rfl,by simp(disch:=first|omega|(simp only[AJ];omega))only[AI,↓AB,↓reduceIte,seval,e13],by rw[EL (by omega) (by omega)];exact hqa,fun k k1 k2=>?_,fun k k1 k2=>?_,sw.trans (.one (by omega) (by omega) (by omega) (by omega)),B6,st4.trans (s5.trans s6)⟩
  ·by_cases ek:k=i'
   ·rw[ek,Iq];exact hk2
   ·rw[EL ek (by omega)];exact hlo' k k1 (by omega)
  ·by_cases ek:k=u
   ·rw[ek,Nl];exact hk
   ·rw[EL (by omega) ek];exact hhi' k (by omega) k2
end
end Go.Proofs.Ytobfgempjekjpaa
set_option maxRecDepth 100000
set_option maxHeartbeats 8000000
namespace Go.Proofs.Ytobfgempjekjpaa
open Go Go.Ev
section
variable {L:List BN} {N:Nat}
theorem U8 {R:Nat->Nat->Bool} {q:Nat->Nat} {a i:Nat} (o:Ord R) (h:Gq R q a i) (hi:a+1<=i) (hk:R (q i) (q (i-1))=false):Gq R q a (i+1):=fun x y h1 h2 h3=>by
 by_cases e:y=i
 ·subst e
  by_cases e2:x=y-1
  ·rw[e2];exact hk
  ·exact o.nt hk (h x (y-1) h1 (by omega) (by omega))
 ·exact h x y h1 h2 (by omega)
theorem S0 {h:H} {v:V} {p:Nat->Nat} {a b:Nat} (rb0:Rt h v (Bj L p N)) (h1:a<b) (h2:b<=N) (hN:N<=1000) (hlow:O9 (Cb L) p a b) (hf:B.val h.floor<=B.val h.next):BO Try.prog 86 [v,.i .i64 (a:Int),.i .i64 (b:Int),.f 64 []] h fun r h'=>
 ∃ (z:Bool) (q:Nat->Nat),r=.b z/\(z=true->Gq (Cb L) q a b)/\Dn a b p q/\Rt h' v (Bj L q N)/\AU (Am v) h h':=by
 have ln:∀ q:Nat->Nat,(Bj L q N).length=N:=fun q=>CJ
 have gx:∀ (q:Nat->Nat) j,j<N->(Bj L q N).getD j default=L.getD (q j) default:=fun q j hj=>By hj
 have o:=Dk L
 refine BK xn (by intro hb;cases hb) (by simp) (by simp) fun Q hQ=>?_
 simp only[Av,Nat.reduceAdd]
 --the greater one goes up
 have right:∀ (K:X->F->H->Prop) (t:F) (g:H) (i n:Nat) (q:Nat->Nat),a+1<=i->i<b->get 0 t=v->get 1 t=.i .i64 (a:Int)->get 2 t=.i .i64 (b:Int)->get 3 t=.f 64 []->get 9 t=.i .i64 (i:Int)->get 10 t=.i .i64 (n:Int)->Gq (Cb L) q a i->Dn a b p q->Rt g v (Bj L q N)->AU (Am v) h g->
  (∀ t g (q:Nat->Nat),get 0 t=v->get 1 t=.i .i64 (a:Int)->get 2 t=.i .i64 (b:Int)->get 3 t=.f 64 []->get 9 t=.i .i64 (i:Int)->get 10 t=.i .i64 (n:Int)->Gq (Cb L) q a i->Dn a b p q->Rt g v (Bj L q N)->AU (Am v) h g->K .normal t g)->Ok Try.prog 141 Rh t g K:=fun K t g i n q hi hib f0 f1 f2 f3 f9 f10 hs sw rb st kk=>by
  by_cases hd:i+2<=b
  case neg=>
   have d1:((2:Int)<=(b:Int)-(i:Int))=False:=eq_false (by omega)
   repeat' (first
    |refine St.h ?_
    |simp(disch:=first|omega|(simp only[AJ];omega))only[AI,↓AB,↓reduceIte,seval,f0,f1,f2,f3,f9,f10,d1]
    |(with_reducible (first|apply AD|apply AE))<;>(intro hc;(try simp only[Ab]at hc);(try simp only[hc]);(try simp only[Aa]at hc);try omega))
   exact kk _ g q (by simp(disch:=first|omega|(simp only[AJ];omega))only[AI,↓AB,↓reduceIte,seval,f0]) (by simp(disch:=first|omega|(simp only[AJ];omega))only[AI,↓AB,↓reduceIte,seval,f1]) (by simp(disch:=first|omega|(simp only[AJ];omega))only[AI,↓AB,↓reduceIte,seval,f2]) (by simp(disch:=first|omega|(simp only[AJ];omega))only[AI,↓AB,↓reduceIte,seval,f3]) (by simp(disch:=first|omega|(simp only[AJ];omega))only[AI,↓AB,↓reduceIte,seval,f9]) (by simp(disch:=first|omega|(simp only[AJ];omega))only[AI,↓AB,↓reduceIte,seval,f10]) hs sw rb st
  have d1:((2:Int)<=(b:Int)-(i:Int))=True:=eq_true (by omega)
  repeat' (first
   |refine St.h ?_
   |simp(disch:=first|omega|(simp only[AJ];omega))only[AI,↓AB,↓reduceIte,seval,f0,f1,f2,f3,f9,f10,d1]
   |(with_reducible (first|apply AD|apply AE))<;>(intro hc;(try simp only[Ab]at hc);(try simp only[hc]);(try simp only[Aa]at hc);try omega))
  refine Ok.lp (fun m t g=>∃ (j:Nat) (q:Nat->Nat),m=b-j/\i+1<=j/\j<=b/\get 0 t=v/\get 1 t=.i .i64 (a:Int)/\get 2 t=.i .i64 (b:Int)/\get 3 t=.f 64 []/\get 9 t=.i .i64 (i:Int)/\get 10 t=.i .i64 (n:Int)/\get 12 t=.i .i64 (j:Int)/\Gq (Cb L) q a i/\Dn a b p q/\Rt g v (Bj L q N)/\AU (Am v) h g) (b-(i+1)) ?_ ?_
  ·simp(disch:=first|omega|(simp only[AJ];omega))only[AI,↓AB,↓reduceIte,seval,f0,f1,f2,f3,f9,f10]
   refine⟨i+1,q,rfl,by omega,by omega,?_⟩
   refine⟨?_,?_,?_,?_,?_,?_,?_,hs,sw,rb,st⟩
   all_goals first|trivial|rfl
  rintro I hI m t g ⟨j,q,rfl,hj,hjb,f0,f1,f2,f3,f9,f10,f12,hs,sw,rb,st⟩
  have hfg:=st.fl hf
  have W1:=rb.DY
  have l1:=ln q
  by_cases hl:j<b
  case neg=>
   have d2:((j:Int)<(b:Int))=False:=eq_false (by omega)
   repeat' (first
    |refine St.h ?_
    |simp(disch:=first|omega|(simp only[AJ];omega))only[AI,↓AB,↓reduceIte,seval,f0,f1,f2,f3,f9,f10,f12,d2]
    |(with_reducible (first|apply AD|apply AE))<;>(intro hc;(try simp only[Ab]at hc);(try simp only[hc]);(try simp only[Aa]at hc);try omega))
   exact kk _ g q (by simp(disch:=first|omega|(simp only[AJ];omega))only[AI,↓AB,↓reduceIte,seval,f0]) (by simp(disch:=first|omega|(simp only[AJ];omega))only[AI,↓AB,↓reduceIte,seval,f1]) (by simp(disch:=first|omega|(simp only[AJ];omega))only[AI,↓AB,↓reduceIte,seval,f2]) (by simp(disch:=first|omega|(simp only[AJ];omega))only[AI,↓AB,↓reduceIte,seval,f3]) (by simp(disch:=first|omega|(simp only[AJ];omega))only[AI,↓AB,↓reduceIte,seval,f9]) (by simp(disch:=first|omega|(simp only[AJ];omega))only[AI,↓AB,↓reduceIte,seval,f10]) hs sw rb st
  have d2:((j:Int)<(b:Int))=True:=eq_true (by omega)
  have ej:((j:Int)-1).toNat=j-1:=by omega
  have ga:=gx q j (by omega)
  have gb:=gx q (j-1) (by omega)
  repeat' (first
   |refine St.h ?_
   |simp(disch:=first|omega|(simp only[AJ];omega))only[AI,↓AB,↓reduceIte,seval,f0,f1,f2,f3,f9,f10,f12,d2,ej,ga,gb,W1.ix,W1.la,Int.toNat_natCast]
   |(with_reducible (first|apply AD|apply AE))<;>(intro hc;(try simp only[Ab]at hc);(try simp only[hc]);(try simp only[Aa]at hc);try omega))
  refine CL.stay (Bp (a:=L.getD (q j) default) (b:=L.getD (q (j-1)) default) hfg) fun g2 s2=>?_
  have rb2:=rb.grow s2
  have st2:=st.trans (Bh s2)
  have W2:=rb2.DY
  cases hk:Cb L (q j) (q (j-1))with
  |false=>
   have d3:=D3 hk
   repeat' (first
    |refine St.h ?_
    |simp(disch:=first|omega|(simp only[AJ];omega))only[AI,↓AB,↓reduceIte,seval,f0,f1,f2,f3,f9,f10,f12,d3]
    |(with_reducible (first|apply AD|apply AE))<;>(intro hc;(try simp only[Ab]at hc);(try simp only[hc]);(try simp only[Aa]at hc);try omega))
   exact kk _ _ q (by simp(disch:=first|omega|(simp only[AJ];omega))only[AI,↓AB,↓reduceIte,seval,f0]) (by simp(disch:=first|omega|(simp only[AJ];omega))only[AI,↓AB,↓reduceIte,seval,f1]) (by simp(disch:=first|omega|(simp only[AJ];omega))only[AI,↓AB,↓reduceIte,seval,f2]) (by simp(disch:=first|omega|(simp only[AJ];omega))only[AI,↓AB,↓reduceIte,seval,f3]) (by simp(disch:=first|omega|(simp only[AJ];omega))only[AI,↓AB,↓reduceIte,seval,f9]) (by simp(disch:=first|omega|(simp only[AJ];omega))only[AI,↓AB,↓reduceIte,seval,f10]) hs sw rb2 st2
  |true=>
   have d3:=Ds hk
   repeat' (first
    |refine St.h ?_
    |simp(disch:=first|omega|(simp only[AJ];omega))only[AI,↓AB,↓reduceIte,seval,f0,f1,f2,f3,f9,f10,f12,d3,ej,ga,gb,W2.ix,W2.la,Int.toNat_natCast]
    |(with_reducible (first|apply AD|apply AE))<;>(intro hc;(try simp only[Ab]at hc);(try simp only[hc]);(try simp only[Aa]at hc);try omega))
   refine ST.MC rb2 hN (by omega) fun h3 B3 s3=>?_
   have W3:=B3.DY
   repeat' (first
    |refine St.h ?_
    |simp(disch:=first|omega|(simp only[AJ];omega))only[AI,↓AB,↓reduceIte,seval,f0,f1,f2,f3,f9,f10,f12,ej,W3.ix]
    |(with_reducible (first|apply AD|apply AE))<;>(intro hc;(try simp only[Ab]at hc);(try simp only[hc]);(try simp only[Aa]at hc);try omega))
   refine ST.G2 B3 hN (by omega) fun h4 B4 s4=>?_
   repeat' (first
    |refine St.h ?_
    |simp(disch:=first|omega|(simp only[AJ];omega))only[AI,↓AB,↓reduceIte,seval,f0,f1,f2,f3,f9,f10,f12]
    |(with_reducible (first|apply AD|apply AE))<;>(intro hc;(try simp only[Ab]at hc);(try simp only[hc]);(try simp only[Aa]at hc);try omega))
   refine Aw hI (b-(j+1)) (by omega) ⟨j+1,Gt q j (j-1),rfl,by omega,by omega,by simp(disch:=first|omega|(simp only[AJ];omega))only[AI,↓AB,↓reduceIte,seval,f0],by simp(disch:=first|omega|(simp only[AJ];omega))only[AI,↓AB,↓reduceIte,seval,f1],by simp(disch:=first|omega|(simp only[AJ];omega))only[AI,↓AB,↓reduceIte,seval,f2],by simp(disch:=first|omega|(simp only[AJ];omega))only[AI,↓AB,↓reduceIte,seval,f3],by simp(disch:=first|omega|(simp only[AJ];omega))only[AI,↓AB,↓reduceIte,seval,f9],by simp(disch:=first|omega|(simp only[AJ];omega))only[AI,↓AB,↓reduceIte,seval,f10],by simp(disch:=first|omega|(simp only[AJ];omega))only[AI,↓AB,↓reduceIte,seval,f12];rfl,LQ hs fun k k1 k2=>EL (by omega) (by omega),sw.trans (.one (by omega) (by omega) (by omega) (by omega)),B4,st2.trans (s3.trans s4)⟩
 repeat' (first
  |refine St.h ?_
  |simp(disch:=first|omega|(simp only[AJ];omega))only[AI,↓AB,↓reduceIte,seval]
  |(with_reducible (first|apply AD|apply AE))<;>(intro hc;(try simp only[Ab]at hc);(try simp only[hc]);(try simp only[Aa]at hc);try omega))
 refine Ok.lp (fun m t g=>∃ (n i:Nat) (q:Nat->Nat),m=5-n/\n<=5/\a+1<=i/\i<=b/\get 0 t=v/\get 1 t=.i .i64 (a:Int)/\get 2 t=.i .i64 (b:Int)/\get 3 t=.f 64 []/\get 9 t=.i .i64 (i:Int)/\get 10 t=.i .i64 (n:Int)/\Gq (Cb L) q a i/\Dn a b p q/\Rt g v (Bj L q N)/\AU (Am v) h g) 5 ?_ ?_
 ·simp(disch:=first|omega|(simp only[AJ];omega))only[AI,↓AB,↓reduceIte,seval]
  refine⟨0,a+1,p,rfl,by omega,by omega,by omega,?_⟩
  refine⟨?_,?_,?_,?_,?_,?_,fun i j h1 h2 h3=>by omega,.refl _,rb0,⟨rfl,Nat.le_refl _,fun _ _ _=>rfl⟩⟩
  all_goals first|trivial|rfl
 rintro I0 hI0 m0 t0 g0 ⟨n,i0,q,rfl,hn,hi0,hib0,f0,f1,f2,f3,f9,f10,hs,sw,rb,st⟩
 by_cases hn5:n<5
 case neg=>
  have d1:((n:Int)<5)=False:=eq_false (by omega)
  repeat' (first
   |refine St.h ?_
   |simp(disch:=first|omega|(simp only[AJ];omega))only[AI,↓AB,↓reduceIte,seval,f0,f1,f2,f3,f9,f10,d1]
   |(with_reducible (first|apply AD|apply AE))<;>(intro hc;(try simp only[Ab]at hc);(try simp only[hc]);(try simp only[Aa]at hc);try omega))
  subst hQ
  exact⟨false,q,rfl,(fun e=>by cases e),sw,rb,st⟩
 have d1:((n:Int)<5)=True:=eq_true (by omega)
 repeat' (first
  |refine St.h ?_
  |simp(disch:=first|omega|(simp only[AJ];omega))only[AI,↓AB,↓reduceIte,seval,f0,f1,f2,f3,f9,f10,d1]
  |(with_reducible (first|apply AD|apply AE))<;>(intro hc;(try simp only[Ab]at hc);(try simp only[hc]);(try simp only[Aa]at hc);try omega))
 --as far as it is in order
 refine Ok.lp (fun m t g=>∃ (i:Nat),m=b-i/\a+1<=i/\i<=b/\get 0 t=v/\get 1 t=.i .i64 (a:Int)/\get 2 t=.i .i64 (b:Int)/\get 3 t=.f 64 []/\get 9 t=.i .i64 (i:Int)/\get 10 t=.i .i64 (n:Int)/\Gq (Cb L) q a i/\Rt g v (Bj L q N)/\AU (Am v) h g) (b-i0) ?_ ?_
 ·simp(disch:=first|omega|(simp only[AJ];omega))only[AI,↓AB,↓reduceIte,seval,f0,f1,f2,f3,f9,f10]
  refine⟨i0,rfl,by omega,by omega,?_⟩
  refine⟨?_,?_,?_,?_,?_,?_,hs,rb,st⟩
  all_goals first|trivial|rfl
 rintro I1 hI1 m1 t1 g1 ⟨i,rfl,hi,hib,f0,f1,f2,f3,f9,f10,hs,rb,st⟩
 have hfg:=st.fl hf
 have W1:=rb.DY
 have l1:=ln q
 by_cases hl:i<b
 case neg=>
  obtain rfl:i=b:=by omega
  have d2:((i:Int)<(i:Int))=False:=eq_false (by omega)
  repeat' (first
   |refine St.h ?_
   |simp(disch:=first|omega|(simp only[AJ];omega))only[AI,↓AB,↓reduceIte,seval,f0,f1,f2,f3,f9,f10,d2]
   |(with_reducible (first|apply AD|apply AE))<;>(intro hc;(try simp only[Ab]at hc);(try simp only[hc]);(try simp only[Aa]at hc);try omega))
  subst hQ
  exact⟨true,q,rfl,fun _=>hs,sw,rb,st⟩
 have d2:((i:Int)<(b:Int))=True:=eq_true (by omega)
 have ei:((i:Int)-1).toNat=i-1:=by omega
 have ei2:(i:Int)-1=((i-1:Nat):Int):=by omega
 have ga:=gx q i (by omega)
 have gb:=gx q (i-1) (by omega)
 repeat' (first
  |refine St.h ?_
  |simp(disch:=first|omega|(simp only[AJ];omega))only[AI,↓AB,↓reduceIte,seval,f0,f1,f2,f3,f9,f10,d2,ei,ga,gb,W1.ix,W1.la,Int.toNat_natCast]
  |(with_reducible (first|apply AD|apply AE))<;>(intro hc;(try simp only[Ab]at hc);(try simp only[hc]);(try simp only[Aa]at hc);try omega))
 refine CL.stay (Bp (a:=L.getD (q i) default) (b:=L.getD (q (i-1)) default) hfg) fun g2 s2=>?_
 have rb2:=rb.grow s2
 have st2:=st.trans (Bh s2)
 have W2:=rb2.DY
 cases hk:Cb L (q i) (q (i-1))with
 |false=>
  have d3:=D3 hk
  repeat' (first
   |refine St.h ?_
   |simp(disch:=first|omega|(simp only[AJ];omega))only[AI,↓AB,↓reduceIte,seval,f0,f1,f2,f3,f9,f10,d3]
   |(with_reducible (first|apply AD|apply AE))<;>(intro hc;(try simp only[Ab]at hc);(try simp only[hc]);(try simp only[Aa]at hc);try omega))
  exact Aw hI1 (b-(i+1)) (by omega) ⟨i+1,rfl,by omega,by omega,by simp(disch:=first|omega|(simp only[AJ];omega))only[AI,↓AB,↓reduceIte,seval,f0],by simp(disch:=first|omega|(simp only[AJ];omega))only[AI,↓AB,↓reduceIte,seval,f1],by simp(disch:=first|omega|(simp only[AJ];omega))only[AI,↓AB,↓reduceIte,seval,f2],by simp(disch:=first|omega|(simp only[AJ];omega))only[AI,↓AB,↓reduceIte,seval,f3],by simp(disch:=first|omega|(simp only[AJ];omega))only[AI,↓AB,↓reduceIte,seval,f9];rfl,by simp(disch:=first|omega|(simp only[AJ];omega))only[AI,↓AB,↓reduceIte,seval,f10],U8 o hs hi hk,rb2,st2⟩
 |true=>
 have d3:=Ds hk
 have d4:((i:Int)=(b:Int))=False:=eq_false (by omega)
 by_cases h50:50<=b-a
 case neg=>
  have d5:((b:Int)-(a:Int)<50)=True:=eq_true (by omega)
  repeat' (first
   |refine St.h ?_
   |simp(disch:=first|omega|(simp only[AJ];omega))only[AI,↓AB,↓reduceIte,seval,f0,f1,f2,f3,f9,f10,d3,d4,d5]
   |(with_reducible (first|apply AD|apply AE))<;>(intro hc;(try simp only[Ab]at hc);(try simp only[hc]);(try simp only[Aa]at hc);try omega))
  subst hQ
  exact⟨false,q,rfl,(fun e=>by cases e),sw,rb2,st2⟩
 have d5:((b:Int)-(a:Int)<50)=False:=eq_false (by omega)
 repeat' (first
  |refine St.h ?_
  |simp(disch:=first|omega|(simp only[AJ];omega))only[AI,↓AB,↓reduceIte,seval,f0,f1,f2,f3,f9,f10,d3,d4,d5,ei,ga,gb,W2.ix,W2.la,Int.toNat_natCast]
  |(with_reducible (first|apply AD|apply AE))<;>(intro hc;(try simp only[Ab]at hc);(try simp only[hc]);(try simp only[Aa]at hc);try omega))
 refine ST.MC rb2 hN (by omega) fun h3 B3 s3=>?_
 have W3:=B3.DY
 repeat' (first
  |refine St.h ?_
  |simp(disch:=first|omega|(simp only[AJ];omega))only[AI,↓AB,↓reduceIte,seval,f0,f1,f2,f3,f9,f10,ei,W3.ix]
  |(with_reducible (first|apply AD|apply AE))<;>(intro hc;(try simp only[Ab]at hc);(try simp only[hc]);(try simp only[Aa]at hc);try omega))
 refine ST.G2 B3 hN (by omega) fun h4 B4 s4=>?_
 have st4:=st2.trans (s3.trans s4)
 have sw4:Dn a b p (Gt q i (i-1)):=sw.trans (.one (by omega) (by omega) (by omega) (by omega))
 have hs4:Gq (Cb L) (Gt q i (i-1)) a (i-1):=fun x y x1 x2 x3=>by
  rw[EL (by omega) (by omega),EL (by omega) (by omega)];exact hs x y x1 x2 (by omega)
 generalize hq4:Gt q i (i-1)=q4 at*
 have next:∀ t g (q:Nat->Nat),get 0 t=v->get 1 t=.i .i64 (a:Int)->get 2 t=.i .i64 (b:Int)->get 3 t=.f 64 []->get 9 t=.i .i64 (i:Int)->get 10 t=.i .i64 ((n+1:Nat):Int)->Gq (Cb L) q a i->Dn a b p q->Rt g v (Bj L q N)->AU (Am v) h g->Zg I0 (5-n) t g:=fun t g q x0 x1 x2 x3 x9 x10 hs sw rb st=>
  Aw hI0 (5-(n+1)) (by omega) ⟨n+1,i,q,rfl,by omega,hi,hib,x0,x1,x2,x3,x9,x10,hs,sw,rb,st⟩
 by_cases hd:a+2<=i
 case neg=>
  have d6:((2:Int)<=(i:Int)-(a:Int))=False:=eq_false (by omega)
  repeat' (first
   |refine right _ _ _ i n q4 hi hl ?_ ?_ ?_ ?_ ?_ ?_ (fun x y x1 x2 x3=>by omega) sw4 B4 st4 (fun t g q x0 x1 x2 x3 x9 x10 hs sw rb st=>?_)
   |refine St.h ?_
   |simp(disch:=first|omega|(simp only[AJ];omega))only[AI,↓AB,↓reduceIte,seval,f0,f1,f2,f3,f9,f10,d6]
   |(with_reducible (first|apply AD|apply AE))<;>(intro hc;(try simp only[Ab]at hc);(try simp only[hc]);(try simp only[Aa]at hc);try omega))
  repeat' (first
   |refine St.h ?_
   |simp(disch:=first|omega|(simp only[AJ];omega))only[AI,↓AB,↓reduceIte,seval,x0,x1,x2,x3,x9,x10]
   |(with_reducible (first|apply AD|apply AE))<;>(intro hc;(try simp only[Ab]at hc);(try simp only[hc]);(try simp only[Aa]at hc);try omega))
  refine next _ _ q ?_ ?_ ?_ ?_ ?_ ?_ hs sw rb st
  all_goals first|(simp(disch:=first|omega|(simp only[AJ];omega))only[AI,↓AB,↓reduceIte,seval,x0];done)|(simp(disch:=first|omega|(simp only[AJ];omega))only[AI,↓AB,↓reduceIte,seval,x1];done)|(simp(disch:=first|omega|(simp only[AJ];omega))only[AI,↓AB,↓reduceIte,seval,x2];done)|(simp(disch:=first|omega|(simp only[AJ];omega))only[AI,↓AB,↓reduceIte,seval,x3];done)|(simp(disch:=first|omega|(simp only[AJ];omega))only[AI,↓AB,↓reduceIte,seval,x9];done)|(simp(disch:=first|omega|(simp only[AJ];omega))only[AI,↓AB,↓reduceIte,seval,x10];rfl)
 have d6:((2:Int)<=(i:Int)-(a:Int))=True:=eq_true (by omega)
 repeat' (first
  |refine St.h ?_
  |simp(disch:=first|omega|(simp only[AJ];omega))only[AI,↓AB,↓reduceIte,seval,f0,f1,f2,f3,f9,f10,d6,ei2]
  |(with_reducible (first|apply AD|apply AE))<;>(intro hc;(try simp only[Ab]at hc);(try simp only[hc]);(try simp only[Aa]at hc);try omega))
 --the lesser one goes down
 refine Ok.lp (fun m t g=>∃ (j:Nat) (q:Nat->Nat),m=j/\a<=j/\j<=i-1/\get 0 t=v/\get 1 t=.i .i64 (a:Int)/\get 2 t=.i .i64 (b:Int)/\get 3 t=.f 64 []/\get 9 t=.i .i64 (i:Int)/\get 10 t=.i .i64 (n:Int)/\get 11 t=.i .i64 (j:Int)/\Ps (Cb L) q a (i-1) j/\Dn a b p q/\Rt g v (Bj L q N)/\AU (Am v) h g) (i-1) ?_ ?_
 ·simp(disch:=first|omega|(simp only[AJ];omega))only[AI,↓AB,↓reduceIte,seval,f0,f1,f2,f3,f9,f10,ei2]
  refine⟨i-1,q4,rfl,by omega,by omega,?_⟩
  refine⟨?_,?_,?_,?_,?_,?_,?_,Ov hs4,sw4,B4,st4⟩
  all_goals first|trivial|rfl
 clear W1 W2 W3 rb rb2 B3 B4 hs f0 f1 f2 f3 f9 f10 ga gb
 rintro I5 hI5 m5 t5 g5 ⟨j,q5,rfl,hj,hji,f0,f1,f2,f3,f9,f10,f11,hM,sw5,rb5,st5⟩
 have hf5:=st5.fl hf
 have W5:=rb5.DY
 have l5:=ln q5
 by_cases h0:m5=0
 case pos=>
  subst h0
  have d7:((1:Int)<=((0:Nat):Int))=False:=eq_false (by omega)
  have hsd:Gq (Cb L) q5 a i:=by
   have:=JF o hM (Nat.zero_le _) (.inl (by omega)) hj
   rwa [show i-1+1=i by omega]at this
  repeat' (first
   |refine right _ _ _ i n q5 hi hl ?_ ?_ ?_ ?_ ?_ ?_ hsd sw5 rb5 st5 (fun t g q x0 x1 x2 x3 x9 x10 hs sw rb st=>?_)
   |refine St.h ?_
   |simp(disch:=first|omega|(simp only[AJ];omega))only[AI,↓AB,↓reduceIte,seval,f0,f1,f2,f3,f9,f10,f11,d7]
   |(with_reducible (first|apply AD|apply AE))<;>(intro hc;(try simp only[Ab]at hc);(try simp only[hc]);(try simp only[Aa]at hc);try omega))
  repeat' (first
   |refine St.h ?_
   |simp(disch:=first|omega|(simp only[AJ];omega))only[AI,↓AB,↓reduceIte,seval,x0,x1,x2,x3,x9,x10]
   |(with_reducible (first|apply AD|apply AE))<;>(intro hc;(try simp only[Ab]at hc);(try simp only[hc]);(try simp only[Aa]at hc);try omega))
  refine next _ _ q ?_ ?_ ?_ ?_ ?_ ?_ hs sw rb st
  all_goals first|(simp(disch:=first|omega|(simp only[AJ];omega))only[AI,↓AB,↓reduceIte,seval,x0];done)|(simp(disch:=first|omega|(simp only[AJ];omega))only[AI,↓AB,↓reduceIte,seval,x1];done)|(simp(disch:=first|omega|(simp only[AJ];omega))only[AI,↓AB,↓reduceIte,seval,x2];done)|(simp(disch:=first|omega|(simp only[AJ];omega))only[AI,↓AB,↓reduceIte,seval,x3];done)|(simp(disch:=first|omega|(simp only[AJ];omega))only[AI,↓AB,↓reduceIte,seval,x9];done)|(simp(disch:=first|omega|(simp only[AJ];omega))only[AI,↓AB,↓reduceIte,seval,x10];rfl)
 obtain⟨u,rfl⟩:∃ u,m5=u+1:=⟨m5-1,by omega⟩
 have d7:((1:Int)<=((u+1:Nat):Int))=True:=eq_true (by omega)
 have eu:(((u+1:Nat):Int)-1).toNat=u:=by omega
 have eu2:((u+1:Nat):Int)-1=(u:Int):=by omega
 have ga:=gx q5 (u+1) (by omega)
 have gb:=gx q5 u (by omega)
 repeat' (first
  |refine St.h ?_
  |simp(disch:=first|omega|(simp only[AJ];omega))only[AI,↓AB,↓reduceIte,seval,f0,f1,f2,f3,f9,f10,f11,d7,eu,ga,gb,W5.ix,W5.la,Int.toNat_natCast]
  |(with_reducible (first|apply AD|apply AE))<;>(intro hc;(try simp only[Ab]at hc);(try simp only[hc]);(try simp only[Aa]at hc);try omega))
 refine CL.stay (Bp (a:=L.getD (q5 (u+1)) default) (b:=L.getD (q5 u) default) hf5) fun g6 s6=>?_
 have rb6:=rb5.grow s6
 have st6:=st5.trans (Bh s6)
 have W6:=rb6.DY
 cases hk5:Cb L (q5 (u+1)) (q5 u)with
 |false=>
  have d8:=D3 hk5
  have hsd:Gq (Cb L) q5 a i:=by
   have:=JF o hM hji (.inr hk5) hj
   rwa [show i-1+1=i by omega]at this
  repeat' (first
   |refine right _ _ _ i n q5 hi hl ?_ ?_ ?_ ?_ ?_ ?_ hsd sw5 rb6 st6 (fun t g q x0 x1 x2 x3 x9 x10 hs sw rb st=>?_)
   |refine St.h ?_
   |simp(disch:=first|omega|(simp only[AJ];omega))only[AI,↓AB,↓reduceIte,seval,f0,f1,f2,f3,f9,f10,f11,d8]
   |(with_reducible (first|apply AD|apply AE))<;>(intro hc;(try simp only[Ab]at hc);(try simp only[hc]);(try simp only[Aa]at hc);try omega))
  repeat' (first
   |refine St.h ?_
   |simp(disch:=first|omega|(simp only[AJ];omega))only[AI,↓AB,↓reduceIte,seval,x0,x1,x2,x3,x9,x10]
   |(with_reducible (first|apply AD|apply AE))<;>(intro hc;(try simp only[Ab]at hc);(try simp only[hc]);(try simp only[Aa]at hc);try omega))
  refine next _ _ q ?_ ?_ ?_ ?_ ?_ ?_ hs sw rb st
  all_goals first|(simp(disch:=first|omega|(simp only[AJ];omega))only[AI,↓AB,↓reduceIte,seval,x0];done)|(simp(disch:=first|omega|(simp only[AJ];omega))only[AI,↓AB,↓reduceIte,seval,x1];done)|(simp(disch:=first|omega|(simp only[AJ];omega))only[AI,↓AB,↓reduceIte,seval,x2];done)|(simp(disch:=first|omega|(simp only[AJ];omega))only[AI,↓AB,↓reduceIte,seval,x3];done)|(simp(disch:=first|omega|(simp only[AJ];omega))only[AI,↓AB,↓reduceIte,seval,x9];done)|(simp(disch:=first|omega|(simp only[AJ];omega))only[AI,↓AB,↓reduceIte,seval,x10];rfl)
 |true=>
  have d8:=Ds hk5
  have hau:a<=u:=Nat.le_of_not_lt fun hlt=>by
   have:=hlow.sw sw5 u (u+1) hlt hj (by omega)
   rw[hk5]at this;cases this
  repeat' (first
   |refine St.h ?_
   |simp(disch:=first|omega|(simp only[AJ];omega))only[AI,↓AB,↓reduceIte,seval,f0,f1,f2,f3,f9,f10,f11,d8,eu,ga,gb,W6.ix,W6.la,Int.toNat_natCast]
   |(with_reducible (first|apply AD|apply AE))<;>(intro hc;(try simp only[Ab]at hc);(try simp only[hc]);(try simp only[Aa]at hc);try omega))
  refine ST.MC rb6 hN (by omega) fun h7 B7 s7=>?_
  have W7:=B7.DY
  repeat' (first
   |refine St.h ?_
   |simp(disch:=first|omega|(simp only[AJ];omega))only[AI,↓AB,↓reduceIte,seval,f0,f1,f2,f3,f9,f10,f11,eu,W7.ix]
   |(with_reducible (first|apply AD|apply AE))<;>(intro hc;(try simp only[Ab]at hc);(try simp only[hc]);(try simp only[Aa]at hc);try omega))
  refine ST.G2 B7 hN (by omega) fun h8 B8 s8=>?_
  repeat' (first
   |refine St.h ?_
   |simp(disch:=first|omega|(simp only[AJ];omega))only[AI,↓AB,↓reduceIte,seval,f0,f1,f2,f3,f9,f10,f11]
   |(with_reducible (first|apply AD|apply AE))<;>(intro hc;(try simp only[Ab]at hc);(try simp only[hc]);(try simp only[Aa]at hc);try omega))
  exact Aw hI5 u (by omega) ⟨u,Gt q5 (u+1) u,rfl,hau,by omega,by simp(disch:=first|omega|(simp only[AJ];omega))only[AI,↓AB,↓reduceIte,seval,f0],by simp(disch:=first|omega|(simp only[AJ];omega))only[AI,↓AB,↓reduceIte,seval,f1],by simp(disch:=first|omega|(simp only[AJ];omega))only[AI,↓AB,↓reduceIte,seval,f2],by simp(disch:=first|omega|(simp only[AJ];omega))only[AI,↓AB,↓reduceIte,seval,f3],by simp(disch:=first|omega|(simp only[AJ];omega))only[AI,↓AB,↓reduceIte,seval,f9],by simp(disch:=first|omega|(simp only[AJ];omega))only[AI,↓AB,↓reduceIte,seval,f10],by simp(disch:=first|omega|(simp only[AJ];omega))only[AI,↓AB,↓reduceIte,seval,eu2,f11],OZ o hM hau hji hk5,sw5.trans (.one (by omega) (by omega) (by omega) (by omega)),B8,st6.trans (s7.trans s8)⟩
end
end Go.Proofs.Ytobfgempjekjpaa
set_option maxRecDepth 100000
set_option maxHeartbeats 8000000
namespace Go.Proofs.Ytobfgempjekjpaa
open Go Go.Ev
/--rows shorter than K are sorted -/
def aR (L:List BN) (N K:Nat):Prop:=∀ {h:H} {v:V} {p:Nat->Nat} {a b lim:Nat},b-a<K->lim<=1000->Rt h v (Bj L p N)->a<=b->b<=N->O9 (Cb L) p a b->B.val h.floor<=B.val h.next->
 BO Try.prog 75 [v,.i .i64 (a:Int),.i .i64 (b:Int),.i .i64 (lim:Int),.f 64 []] h fun y h'=>∃ q,Dn a b p q/\Gq (Cb L) q a b/\Rt h' v (Bj L q N)/\AU (Am v) h h'
section
variable {L:List BN} {N:Nat}
theorem Vc {K:Nat} (hN:N<=200) (ih:aR L N K):aR L N (K+1):=by
 intro h v p a0 b0 lim0 hK hlim0 rb0 hab hbN hlow0 hf
 have ln:∀ q:Nat->Nat,(Bj L q N).length=N:=fun q=>CJ
 have gx:∀ (q:Nat->Nat) j,j<N->(Bj L q N).getD j default=L.getD (q j) default:=fun q j hj=>By hj
 have o:=Dk L
 refine BK xC (by intro hb;cases hb) (by simp) (by simp) fun Q hQ=>?_
 simp only[Av,Nat.reduceAdd]
 --what the loop keeps
 let Inv:Nat->Nat->(Nat->Nat)->H->Prop:=fun a b q g=>a0<=a/\a<=b/\b<=b0/\O9 (Cb L) q a b/\Fin (Cb L) q a0 b0 a b/\Dn a0 b0 p q/\Rt g v (Bj L q N)/\AU (Am v) h g
 let Fr:Nat->Nat->Nat->Bool->Bool->F->Prop:=fun a b lim b1 b2 t=>get 0 t=v/\get 1 t=.i .i64 (a:Int)/\get 2 t=.i .i64 (b:Int)/\get 3 t=.i .i64 (lim:Int)/\get 4 t=.f 64 []/\get 10 t=.b b1/\get 11 t=.b b2
 have last:∀ {a b:Nat} {q q':Nat->Nat} {g g':H},Inv a b q g->Dn a b q q'->Gq (Cb L) q' a b->Rt g' v (Bj L q' N)->AU (Am v) g g'->∃ q,Dn a0 b0 p q/\Gq (Cb L) q a0 b0/\Rt g' v (Bj L q N)/\AU (Am v) h g':=fun {a b q q' g g'} ⟨i1,i2,i3,i4,i5,i6,i7,i8⟩ s hs r st=>
  ⟨q',i6.trans (s.wide i1 i3),i5 q' s hs,r,i8.trans st⟩
 have move:∀ {a b:Nat} {q q':Nat->Nat} {g g':H},Inv a b q g->Dn a b q q'->Rt g' v (Bj L q' N)->AU (Am v) g g'->Inv a b q' g':=fun {a b q q' g g'} ⟨i1,i2,i3,i4,i5,i6,i7,i8⟩ s r st=>
  ⟨i1,i2,i3,i4.sw s,Ja i5 s,i6.trans (s.wide i1 i3),r,i8.trans st⟩
 --parted around the pivot,both parts sorted
 have S33:∀ (KK:X->F->H->Prop) (t:F) (g:H) (a b lim c:Nat) (b1 b2:Bool) (q:Nat->Nat),a+12<b/\lim<=1000->a<=c->c<b->Fr a b lim b1 b2 t->get 12 t=.i .i64 ((b-a:Nat):Int)->get 13 t=.i .i64 (c:Int)->Inv a b q g->
  (∀ t g a' b' b1 b2 q,b'-a'<b-a->Fr a' b' lim b1 b2 t->Inv a' b' q g->KK .normal t g)->Ok Try.prog 148 Sy t g KK:=fun KK t g a b lim c b1 b2 q ⟨hl,hlim⟩ hc1 hc2 ⟨f0,f1,f2,f3,f4,f10,f11⟩ f12 f13 ⟨i1,i2,i3,i4,i5,i6,i7,i8⟩ kk=>by
  have hfg:=i8.fl hf
  repeat' (first
   |refine St.h ?_
   |simp(disch:=first|omega|(simp only[AJ];omega))only[AI,↓AB,↓reduceIte,seval,f0,f1,f2,f3,f4,f10,f11,f12,f13]
   |(with_reducible (first|apply AD|apply AE))<;>(intro hc;(try simp only[Ab]at hc);(try simp only[hc]);(try simp only[Aa]at hc);try omega))
  refine CL.mk (U7 i7 hc1 hc2 (by omega) (by omega) hfg) ?_
  rintro _ g2 ⟨m,z,q2,rfl,P,sw,rb2,s2⟩
  have hm1:=P.am
  have hm2:=P.mb
  have low2:=i4.sw sw
  have fin2:=Ja i5 sw
  have sw02:=i6.trans (sw.wide i1 i3)
  have st2:=i8.trans s2
  have hf2:=st2.fl hf
  have e1:(m:Int)-(a:Int)=((m-a:Nat):Int):=by omega
  have e2:(b:Int)-(m:Int)=((b-m:Nat):Int):=by omega
  have e3:((b-a:Nat):Int)/8=(((b-a)/8:Nat):Int):=by omega
  have e4:(m:Int)+1=((m+1:Nat):Int):=by omega
  by_cases hlt:m-a<b-m
  ·have d1:(((m-a:Nat):Int)<((b-m:Nat):Int))=True:=eq_true (by omega)
   repeat' (first
    |refine St.h ?_
    |simp(disch:=first|omega|(simp only[AJ];omega))only[AI,↓AB,↓reduceIte,seval,f0,f1,f2,f3,f4,f10,f11,f12,f13,e1,e2,e3,d1,Int.toNat_natCast]
    |(with_reducible (first|apply AD|apply AE))<;>(intro hc;(try simp only[Ab]at hc);(try simp only[hc]);(try simp only[Aa]at hc);try omega))
   refine CL.mk (ih (p:=q2) (a:=a) (b:=m) (lim:=lim) (by omega) hlim rb2 hm1 (by omega) (MV low2 (by omega)) hf2) ?_
   rintro _ g3 ⟨q3,sw3,hs3,rb3,s3⟩
   have P3:=P.left sw3
   have low3:O9 (Cb L) q3 a b:=low2.sw (sw3.wide (Nat.le_refl _) (by omega))
   repeat' (first
    |refine St.h ?_
    |simp(disch:=first|omega|(simp only[AJ];omega))only[AI,↓AB,↓reduceIte,seval,f0,f1,f2,f3,f4,f10,f11,f12,f13,e4]
    |(with_reducible (first|apply AD|apply AE))<;>(intro hc;(try simp only[Ab]at hc);(try simp only[hc]);(try simp only[Aa]at hc);try omega))
   refine kk _ _ (m+1) b _ z q3 (by omega) ⟨by simp(disch:=first|omega|(simp only[AJ];omega))only[AI,↓AB,↓reduceIte,seval,f0],by simp(disch:=first|omega|(simp only[AJ];omega))only[AI,↓AB,↓reduceIte,seval,e4],by simp(disch:=first|omega|(simp only[AJ];omega))only[AI,↓AB,↓reduceIte,seval,f2],by simp(disch:=first|omega|(simp only[AJ];omega))only[AI,↓AB,↓reduceIte,seval,f3],by simp(disch:=first|omega|(simp only[AJ];omega))only[AI,↓AB,↓reduceIte,seval,f4],by simp(disch:=first|omega|(simp only[AJ];omega))only[AI,↓AB,↓reduceIte,seval];rfl,by simp(disch:=first|omega|(simp only[AJ];omega))only[AI,↓AB,↓reduceIte,seval]⟩ ⟨by omega,by omega,i3,Kv o low3 P3,Px o (Ja fin2 (sw3.wide (Nat.le_refl _) (by omega))) P3 hs3,sw02.trans (sw3.wide i1 (by omega)),rb3,st2.trans s3⟩
  ·have d1:(((m-a:Nat):Int)<((b-m:Nat):Int))=False:=eq_false (by omega)
   repeat' (first
    |refine St.h ?_
    |simp(disch:=first|omega|(simp only[AJ];omega))only[AI,↓AB,↓reduceIte,seval,f0,f1,f2,f3,f4,f10,f11,f12,f13,e1,e2,e3,e4,d1,Int.toNat_natCast]
    |(with_reducible (first|apply AD|apply AE))<;>(intro hc;(try simp only[Ab]at hc);(try simp only[hc]);(try simp only[Aa]at hc);try omega))
   refine CL.mk (ih (p:=q2) (a:=m+1) (b:=b) (lim:=lim) (by omega) hlim rb2 (by omega) (by omega) (Kv o low2 P) hf2) ?_
   rintro _ g3 ⟨q3,sw3,hs3,rb3,s3⟩
   have P3:=P.right sw3
   have low3:O9 (Cb L) q3 a b:=low2.sw (sw3.wide (by omega) (Nat.le_refl _))
   repeat' (first
    |refine St.h ?_
    |simp(disch:=first|omega|(simp only[AJ];omega))only[AI,↓AB,↓reduceIte,seval,f0,f1,f2,f3,f4,f10,f11,f12,f13]
    |(with_reducible (first|apply AD|apply AE))<;>(intro hc;(try simp only[Ab]at hc);(try simp only[hc]);(try simp only[Aa]at hc);try omega))
   refine kk _ _ a m _ z q3 (by omega) ⟨by simp(disch:=first|omega|(simp only[AJ];omega))only[AI,↓AB,↓reduceIte,seval,f0],by simp(disch:=first|omega|(simp only[AJ];omega))only[AI,↓AB,↓reduceIte,seval,f1],by simp(disch:=first|omega|(simp only[AJ];omega))only[AI,↓AB,↓reduceIte,seval],by simp(disch:=first|omega|(simp only[AJ];omega))only[AI,↓AB,↓reduceIte,seval,f3],by simp(disch:=first|omega|(simp only[AJ];omega))only[AI,↓AB,↓reduceIte,seval,f4],by simp(disch:=first|omega|(simp only[AJ];omega))only[AI,↓AB,↓reduceIte,seval];rfl,by simp(disch:=first|omega|(simp only[AJ];omega))only[AI,↓AB,↓reduceIte,seval]⟩ ⟨i1,hm1,by omega,MV low3 (by omega),Qd o (Ja fin2 (sw3.wide (by omega) (Nat.le_refl _))) P3 hs3,sw02.trans (sw3.wide (by omega) i3),rb3,st2.trans s3⟩
 --as many as the pivot
 have S34:∀ (KK:X->F->H->Prop) (t:F) (g:H) (a b lim c:Nat) (b1 b2:Bool) (q:Nat->Nat),a+12<b/\lim<=1000->a<=c->c<b->Fr a b lim b1 b2 t->get 12 t=.i .i64 ((b-a:Nat):Int)->get 13 t=.i .i64 (c:Int)->Inv a b q g->
  (∀ t g a' b' b1 b2 q,b'-a'<b-a->Fr a' b' lim b1 b2 t->Inv a' b' q g->KK .normal t g)->(∀ t g a' b' b1 b2 q,b'-a'<b-a->Fr a' b' lim b1 b2 t->Inv a' b' q g->KK (.exit 1) t g)->Ok Try.prog 148 TH t g KK:=fun KK t g a b lim c b1 b2 q ⟨hl,hlim⟩ hc1 hc2 ⟨f0,f1,f2,f3,f4,f10,f11⟩ f12 f13 hI kk kx=>by
  obtain⟨i1,i2,i3,i4,i5,i6,i7,i8⟩:=hI
  have hfg:=i8.fl hf
  have W1:=i7.DY
  have l1:=ln q
  by_cases ha:a=0
  ·subst ha
   have d1:((0:Int)<((0:Nat):Int))=False:=eq_false (by omega)
   repeat' (first
    |refine S33 _ _ _ 0 b lim c b1 b2 q ⟨hl,hlim⟩ hc1 hc2 ⟨?_,?_,?_,?_,?_,?_,?_⟩ ?_ ?_ ⟨i1,i2,i3,i4,i5,i6,i7,i8⟩ ?_
    |refine St.h ?_
    |simp(disch:=first|omega|(simp only[AJ];omega))only[AI,↓AB,↓reduceIte,seval,f0,f1,f2,f3,f4,f10,f11,f12,f13,d1]
    |(with_reducible (first|apply AD|apply AE))<;>(intro hc;(try simp only[Ab]at hc);(try simp only[hc]);(try simp only[Aa]at hc);try omega))
   exact kk
  obtain⟨u,rfl⟩:∃ u,a=u+1:=⟨a-1,by omega⟩
  have d1:((0:Int)<((u+1:Nat):Int))=True:=eq_true (by omega)
  have eu:(((u+1:Nat):Int)-1).toNat=u:=by omega
  have ga:=gx q u (by omega)
  have gc:=gx q c (by omega)
  repeat' (first
   |refine St.h ?_
   |simp(disch:=first|omega|(simp only[AJ];omega))only[AI,↓AB,↓reduceIte,seval,f0,f1,f2,f3,f4,f10,f11,f12,f13,d1,eu,ga,gc,W1.ix,W1.la,Int.toNat_natCast]
   |(with_reducible (first|apply AD|apply AE))<;>(intro hc;(try simp only[Ab]at hc);(try simp only[hc]);(try simp only[Aa]at hc);try omega))
  refine CL.stay (Bp (a:=L.getD (q u) default) (b:=L.getD (q c) default) hfg) fun g2 s2=>?_
  have rb2:=i7.grow s2
  have st2:=i8.trans (Bh s2)
  cases hk:Cb L (q u) (q c)with
  |true=>
   have d2:=Ds hk
   repeat' (first
    |refine S33 _ _ _ (u+1) b lim c b1 b2 q ⟨hl,hlim⟩ hc1 hc2 ⟨?_,?_,?_,?_,?_,?_,?_⟩ ?_ ?_ ⟨i1,i2,i3,i4,i5,i6,rb2,st2⟩ ?_
    |refine St.h ?_
    |simp(disch:=first|omega|(simp only[AJ];omega))only[AI,↓AB,↓reduceIte,seval,f0,f1,f2,f3,f4,f10,f11,f12,f13,d2]
    |(with_reducible (first|apply AD|apply AE))<;>(intro hc;(try simp only[Ab]at hc);(try simp only[hc]);(try simp only[Aa]at hc);try omega))
   exact kk
  |false=>
   have d2:=D3 hk
   repeat' (first
    |refine St.h ?_
    |simp(disch:=first|omega|(simp only[AJ];omega))only[AI,↓AB,↓reduceIte,seval,f0,f1,f2,f3,f4,f10,f11,f12,f13,d2]
    |(with_reducible (first|apply AD|apply AE))<;>(intro hc;(try simp only[Ab]at hc);(try simp only[hc]);(try simp only[Aa]at hc);try omega))
   refine CL.mk (QK rb2 hc1 hc2 (by omega) (by omega) (st2.fl hf)) ?_
   rintro _ g3 ⟨m,q3,rfl,hm1,hm2,sw3,hlo,hhi,rb3,s3⟩
   have ge3:∀ k,u+1<=k->k<b->Cb L (q3 k) (q c)=false:=sw3.all (P:=fun x=>Cb L x (q c)=false) fun k k1 k2=>o.nt (i4 u k (by omega) k1 k2) hk
   have low3:=i4.sw sw3
   have fin3:=Ja i5 sw3
   repeat' (first
    |refine St.h ?_
    |simp(disch:=first|omega|(simp only[AJ];omega))only[AI,↓AB,↓reduceIte,seval,f0,f1,f2,f3,f4,f10,f11,f12,f13]
    |(with_reducible (first|apply AD|apply AE))<;>(intro hc;(try simp only[Ab]at hc);(try simp only[hc]);(try simp only[Aa]at hc);try omega))
   refine kx _ _ m b b1 b2 q3 (by omega) ⟨by simp(disch:=first|omega|(simp only[AJ];omega))only[AI,↓AB,↓reduceIte,seval,f0],by simp(disch:=first|omega|(simp only[AJ];omega))only[AI,↓AB,↓reduceIte,seval],by simp(disch:=first|omega|(simp only[AJ];omega))only[AI,↓AB,↓reduceIte,seval,f2],by simp(disch:=first|omega|(simp only[AJ];omega))only[AI,↓AB,↓reduceIte,seval,f3],by simp(disch:=first|omega|(simp only[AJ];omega))only[AI,↓AB,↓reduceIte,seval,f4],by simp(disch:=first|omega|(simp only[AJ];omega))only[AI,↓AB,↓reduceIte,seval,f10],by simp(disch:=first|omega|(simp only[AJ];omega))only[AI,↓AB,↓reduceIte,seval,f11]⟩ ⟨by omega,hm2,i3,aD o low3 (by omega) hlo hhi,bD o fin3 (by omega) hm2 ge3 hlo,i6.trans (sw3.wide i1 i3),rb3,st2.trans s3⟩
 --nearly in order
 have S35:∀ (KK:X->F->H->Prop) (t:F) (g:H) (a b lim c:Nat) (z:Int) (b1 b2:Bool) (q:Nat->Nat),a+12<b/\lim<=1000->a<=c->c<b->Fr a b lim b1 b2 t->get 12 t=.i .i64 ((b-a:Nat):Int)->get 13 t=.i .i64 (c:Int)->get 14 t=.i .i64 z->Inv a b q g->
  (∀ t g a' b' b1 b2 q,b'-a'<b-a->Fr a' b' lim b1 b2 t->Inv a' b' q g->KK .normal t g)->(∀ t g a' b' b1 b2 q,b'-a'<b-a->Fr a' b' lim b1 b2 t->Inv a' b' q g->KK (.exit 1) t g)->(∀ t g,(∃ q,Dn a0 b0 p q/\Gq (Cb L) q a0 b0/\Rt g v (Bj L q N)/\AU (Am v) h g)->KK .ret t g)->
  Ok Try.prog 148 Sv t g KK:=fun KK t g a b lim c z b1 b2 q ⟨hl,hlim⟩ hc1 hc2 ⟨f0,f1,f2,f3,f4,f10,f11⟩ f12 f13 f14 hI kk kx kr=>by
  have hI':=hI
  obtain⟨i1,i2,i3,i4,i5,i6,i7,i8⟩:=hI'
  have hfg:=i8.fl hf
  by_cases hall:b1=true/\b2=true/\z=1
  case pos=>
   obtain⟨rfl,rfl,rfl⟩:=hall
   repeat' (first
    |refine St.h ?_
    |simp(disch:=first|omega|(simp only[AJ];omega))only[AI,↓AB,↓reduceIte,seval,f0,f1,f2,f3,f4,f10,f11,f12,f13,f14]
    |(with_reducible (first|apply AD|apply AE))<;>(intro hc;(try simp only[Ab]at hc);(try simp only[hc]);(try simp only[Aa]at hc);try omega))
   refine CL.mk (S0 i7 (by omega) (by omega) (by omega) i4 hfg) ?_
   rintro _ g2 ⟨r,q2,rfl,hr,G2,rb2,s2⟩
   cases r with
   |true=>
    repeat' (first
     |refine St.h ?_
     |simp(disch:=first|omega|(simp only[AJ];omega))only[AI,↓AB,↓reduceIte,seval,f0,f1,f2,f3,f4,f10,f11,f12,f13,f14]
     |(with_reducible (first|apply AD|apply AE))<;>(intro hc;(try simp only[Ab]at hc);(try simp only[hc]);(try simp only[Aa]at hc);try omega))
    exact kr _ _ (last hI G2 (hr rfl) rb2 s2)
   |false=>
    repeat' (first
     |refine S34 _ _ _ a b lim c true true q2 ⟨hl,hlim⟩ hc1 hc2 ⟨?_,?_,?_,?_,?_,?_,?_⟩ ?_ ?_ (move hI G2 rb2 s2) ?_ ?_
     |refine St.h ?_
     |simp(disch:=first|omega|(simp only[AJ];omega))only[AI,↓AB,↓reduceIte,seval,f0,f1,f2,f3,f4,f10,f11,f12,f13,f14]
     |(with_reducible (first|apply AD|apply AE))<;>(intro hc;(try simp only[Ab]at hc);(try simp only[hc]);(try simp only[Aa]at hc);try omega))
    ·exact kk
    ·exact kx
  cases b1 with
  |false=>
   repeat' (first
    |refine S34 _ _ _ a b lim c false b2 q ⟨hl,hlim⟩ hc1 hc2 ⟨?_,?_,?_,?_,?_,?_,?_⟩ ?_ ?_ hI ?_ ?_
    |refine St.h ?_
    |simp(disch:=first|omega|(simp only[AJ];omega))only[AI,↓AB,↓reduceIte,seval,f0,f1,f2,f3,f4,f10,f11,f12,f13,f14]
    |(with_reducible (first|apply AD|apply AE))<;>(intro hc;(try simp only[Ab]at hc);(try simp only[hc]);(try simp only[Aa]at hc);try omega))
   ·exact kk
   ·exact kx
  |true=>
   cases b2 with
   |false=>
    repeat' (first
     |refine S34 _ _ _ a b lim c true false q ⟨hl,hlim⟩ hc1 hc2 ⟨?_,?_,?_,?_,?_,?_,?_⟩ ?_ ?_ hI ?_ ?_
     |refine St.h ?_
     |simp(disch:=first|omega|(simp only[AJ];omega))only[AI,↓AB,↓reduceIte,seval,f0,f1,f2,f3,f4,f10,f11,f12,f13,f14]
     |(with_reducible (first|apply AD|apply AE))<;>(intro hc;(try simp only[Ab]at hc);(try simp only[hc]);(try simp only[Aa]at hc);try omega))
    ·exact kk
    ·exact kx
   |true=>
    have d1:(z=1)=False:=eq_false fun e=>hall ⟨rfl,rfl,e⟩
    repeat' (first
     |refine S34 _ _ _ a b lim c true true q ⟨hl,hlim⟩ hc1 hc2 ⟨?_,?_,?_,?_,?_,?_,?_⟩ ?_ ?_ hI ?_ ?_
     |refine St.h ?_
     |simp(disch:=first|omega|(simp only[AJ];omega))only[AI,↓AB,↓reduceIte,seval,f0,f1,f2,f3,f4,f10,f11,f12,f13,f14,d1]
     |(with_reducible (first|apply AD|apply AE))<;>(intro hc;(try simp only[Ab]at hc);(try simp only[hc]);(try simp only[Aa]at hc);try omega))
    ·exact kk
    ·exact kx
 --the pivot
 have S37:∀ (KK:X->F->H->Prop) (t:F) (g:H) (a b lim:Nat) (b1 b2:Bool) (q:Nat->Nat),a+12<b/\lim<=1000->Fr a b lim b1 b2 t->get 12 t=.i .i64 ((b-a:Nat):Int)->Inv a b q g->
  (∀ t g a' b' b1 b2 q,b'-a'<b-a->Fr a' b' lim b1 b2 t->Inv a' b' q g->KK .normal t g)->(∀ t g a' b' b1 b2 q,b'-a'<b-a->Fr a' b' lim b1 b2 t->Inv a' b' q g->KK (.exit 1) t g)->(∀ t g,(∃ q,Dn a0 b0 p q/\Gq (Cb L) q a0 b0/\Rt g v (Bj L q N)/\AU (Am v) h g)->KK .ret t g)->
  Ok Try.prog 148 Sz t g KK:=fun KK t g a b lim b1 b2 q ⟨hl,hlim⟩ ⟨f0,f1,f2,f3,f4,f10,f11⟩ f12 hI kk kx kr=>by
  have hI':=hI
  obtain⟨i1,i2,i3,i4,i5,i6,i7,i8⟩:=hI'
  have hfg:=i8.fl hf
  repeat' (first
   |refine St.h ?_
   |simp(disch:=first|omega|(simp only[AJ];omega))only[AI,↓AB,↓reduceIte,seval,f0,f1,f2,f3,f4,f10,f11,f12]
   |(with_reducible (first|apply AD|apply AE))<;>(intro hc;(try simp only[Ab]at hc);(try simp only[hc]);(try simp only[Aa]at hc);try omega))
  refine CL.mk (PY i7 hl (by omega) (by omega) hfg) ?_
  rintro _ g2 ⟨m,z,rfl,hm1,hm2,s2⟩
  have rb2:=i7.grow s2
  have hI2:Inv a b q g2:=⟨i1,i2,i3,i4,i5,i6,rb2,i8.trans (Bh s2)⟩
  by_cases hz:z=2
  ·subst hz
   have e1:(b:Int)-1-((m:Int)-(a:Int))=((b-1-(m-a):Nat):Int):=by omega
   repeat' (first
    |refine St.h ?_
    |simp(disch:=first|omega|(simp only[AJ];omega))only[AI,↓AB,↓reduceIte,seval,f0,f1,f2,f3,f4,f10,f11,f12]
    |(with_reducible (first|apply AD|apply AE))<;>(intro hc;(try simp only[Ab]at hc);(try simp only[hc]);(try simp only[Aa]at hc);try omega))
   refine CL.mk (cw rb2 (by omega) i2 (by omega) (s2.fl hfg)) ?_
   rintro _ g3 ⟨q3,sw3,rb3,s3⟩
   repeat' (first
    |refine S35 _ _ _ a b lim (b-1-(m-a)) 1 b1 b2 q3 ⟨hl,hlim⟩ (by omega) (by omega) ⟨?_,?_,?_,?_,?_,?_,?_⟩ ?_ ?_ ?_ (move hI2 sw3 rb3 s3) ?_ ?_ ?_
    |refine St.h ?_
    |simp(disch:=first|omega|(simp only[AJ];omega))only[AI,↓AB,↓reduceIte,seval,f0,f1,f2,f3,f4,f10,f11,f12,e1]
    |(with_reducible (first|apply AD|apply AE))<;>(intro hc;(try simp only[Ab]at hc);(try simp only[hc]);(try simp only[Aa]at hc);try omega))
   ·exact kk
   ·exact kx
   ·exact kr
  ·have d1:(z=2)=False:=eq_false hz
   repeat' (first
    |refine S35 _ _ _ a b lim m z b1 b2 q ⟨hl,hlim⟩ hm1 hm2 ⟨?_,?_,?_,?_,?_,?_,?_⟩ ?_ ?_ ?_ hI2 ?_ ?_ ?_
    |refine St.h ?_
    |simp(disch:=first|omega|(simp only[AJ];omega))only[AI,↓AB,↓reduceIte,seval,f0,f1,f2,f3,f4,f10,f11,f12,d1]
    |(with_reducible (first|apply AD|apply AE))<;>(intro hc;(try simp only[Ab]at hc);(try simp only[hc]);(try simp only[Aa]at hc);try omega))
   ·exact kk
   ·exact kx
   ·exact kr
 repeat' (first
  |refine St.h ?_
  |simp(disch:=first|omega|(simp only[AJ];omega))only[AI,↓AB,↓reduceIte,seval]
  |(with_reducible (first|apply AD|apply AE))<;>(intro hc;(try simp only[Ab]at hc);(try simp only[hc]);(try simp only[Aa]at hc);try omega))
 refine Ok.lp (fun m t g=>∃ (a b lim:Nat) (b1 b2:Bool) (q:Nat->Nat),m=b-a/\lim<=1000/\Fr a b lim b1 b2 t/\Inv a b q g) (b0-a0) ?_ ?_
 ·refine⟨a0,b0,lim0,true,true,p,rfl,hlim0,⟨?_,?_,?_,?_,?_,?_,?_⟩,Nat.le_refl _,hab,Nat.le_refl _,hlow0,fun q _ h=>h,.refl _,rb0,⟨rfl,Nat.le_refl _,fun _ _ _=>rfl⟩⟩
  all_goals first|trivial|rfl|(simp(disch:=first|omega|(simp only[AJ];omega))only[AI,↓AB,↓reduceIte,seval];done)
 rintro I hI m t g ⟨a,b,lim,b1,b2,q,rfl,hlim,hF,hInv⟩
 have hF':=hF
 obtain⟨f0,f1,f2,f3,f4,f10,f11⟩:=hF'
 have hInv':=hInv
 obtain⟨i1,i2,i3,i4,i5,i6,i7,i8⟩:=hInv'
 have hfg:=i8.fl hf
 have en:(b:Int)-(a:Int)=((b-a:Nat):Int):=by omega
 have kn:∀ (lim:Nat) t g (a' b':Nat) b1 b2 q,lim<=1000->b'-a'<b-a->Fr a' b' lim b1 b2 t->Inv a' b' q g->Zg I (b-a) t g:=fun lim t g a' b' b1 b2 q hlm hlt hF hV=>Aw hI (b'-a') hlt ⟨a',b',lim,b1,b2,q,rfl,hlm,hF,hV⟩
 have kr:∀ g,(∃ q,Dn a0 b0 p q/\Gq (Cb L) q a0 b0/\Rt g v (Bj L q N)/\AU (Am v) h g)->Q (.tu []) g:=fun g hx=>by subst hQ;exact hx
 by_cases hl:a+12<b
 case neg=>
  have d1:(((b-a:Nat):Int)<=12)=True:=eq_true (by omega)
  repeat' (first
   |refine St.h ?_
   |simp(disch:=first|omega|(simp only[AJ];omega))only[AI,↓AB,↓reduceIte,seval,f0,f1,f2,f3,f4,f10,f11,en,d1]
   |(with_reducible (first|apply AD|apply AE))<;>(intro hc;(try simp only[Ab]at hc);(try simp only[hc]);(try simp only[Aa]at hc);try omega))
  refine CL.mk (Pz i7 (by omega) i2 (by omega) hfg) ?_
  rintro _ g2 ⟨q2,G2,hs2,rb2,s2⟩
  repeat' (first
   |refine St.h ?_
   |simp(disch:=first|omega|(simp only[AJ];omega))only[AI,↓AB,↓reduceIte,seval]
   |(with_reducible (first|apply AD|apply AE))<;>(intro hc;(try simp only[Ab]at hc);(try simp only[hc]);(try simp only[Aa]at hc);try omega))
  exact kr _ (last hInv G2 hs2 rb2 s2)
 have d1:(((b-a:Nat):Int)<=12)=False:=eq_false (by omega)
 by_cases h0:lim=0
 case pos=>
  subst h0
  repeat' (first
   |refine St.h ?_
   |simp(disch:=first|omega|(simp only[AJ];omega))only[AI,↓AB,↓reduceIte,seval,f0,f1,f2,f3,f4,f10,f11,en,d1]
   |(with_reducible (first|apply AD|apply AE))<;>(intro hc;(try simp only[Ab]at hc);(try simp only[hc]);(try simp only[Aa]at hc);try omega))
  refine CL.mk (Tg i7 (by omega) (by omega) (by omega) hfg) ?_
  rintro _ g2 ⟨q2,G2,hs2,rb2,s2⟩
  repeat' (first
   |refine St.h ?_
   |simp(disch:=first|omega|(simp only[AJ];omega))only[AI,↓AB,↓reduceIte,seval]
   |(with_reducible (first|apply AD|apply AE))<;>(intro hc;(try simp only[Ab]at hc);(try simp only[hc]);(try simp only[Aa]at hc);try omega))
  exact kr _ (last hInv G2 hs2 rb2 s2)
 have d2:((lim:Int)=0)=False:=eq_false (by omega)
 cases b1 with
 |true=>
  repeat' (first
   |refine S37 _ _ _ a b lim true b2 q ⟨hl,hlim⟩ ⟨?_,?_,?_,?_,?_,?_,?_⟩ ?_ hInv (fun t g a' b' b1 b2 q x1 x2 x3=>?_) (fun t g a' b' b1 b2 q x1 x2 x3=>?_) (fun t g x1=>?_)
   |refine St.h ?_
   |simp(disch:=first|omega|(simp only[AJ];omega))only[AI,↓AB,↓reduceIte,seval,f0,f1,f2,f3,f4,f10,f11,en,d1,d2]
   |(with_reducible (first|apply AD|apply AE))<;>(intro hc;(try simp only[Ab]at hc);(try simp only[hc]);(try simp only[Aa]at hc);try omega))
  ·exact kn _ _ _ _ _ _ _ _ (by omega) x1 x2 x3
  ·exact kn _ _ _ _ _ _ _ _ (by omega) x1 x2 x3
  ·exact kr _ x1
 |false=>
  have el:(lim:Int)-1=((lim-1:Nat):Int):=by omega
  repeat' (first
   |refine St.h ?_
   |simp(disch:=first|omega|(simp only[AJ];omega))only[AI,↓AB,↓reduceIte,seval,f0,f1,f2,f3,f4,f10,f11,en,d1,d2]
   |(with_reducible (first|apply AD|apply AE))<;>(intro hc;(try simp only[Ab]at hc);(try simp only[hc]);(try simp only[Aa]at hc);try omega))
  refine CL.mk (RL i7 hl (by omega) hN hfg) ?_
  rintro _ g2 ⟨q2,G2,rb2,s2⟩
  repeat' (first
   |refine S37 _ _ _ a b (lim-1) false b2 q2 ⟨hl,by omega⟩ ⟨?_,?_,?_,?_,?_,?_,?_⟩ ?_ (move hInv G2 rb2 s2) (fun t g a' b' b1 b2 q x1 x2 x3=>?_) (fun t g a' b' b1 b2 q x1 x2 x3=>?_) (fun t g x1=>?_)
   |refine St.h ?_
   |simp(disch:=first|omega|(simp only[AJ];omega))only[AI,↓AB,↓reduceIte,seval,f0,f1,f2,f3,f4,f10,f11,en,d1,d2,el]
   |(with_reducible (first|apply AD|apply AE))<;>(intro hc;(try simp only[Ab]at hc);(try simp only[hc]);(try simp only[Aa]at hc);try omega))
  ·exact kn _ _ _ _ _ _ _ _ (by omega) x1 x2 x3
  ·exact kn _ _ _ _ _ _ _ _ (by omega) x1 x2 x3
  ·exact kr _ x1
theorem QX (hN:N<=200):∀ K,aR L N K
 |0=>fun hK=>absurd hK (Nat.not_lt_zero _)
 |K+1=>Vc hN (QX hN K)
/--slices.SortFunc(l,byTier) -/
theorem RJ {h:H} {v:V} (rb:Rt h v L) (hN:L.length<=200) (hf:B.val h.floor<=B.val h.next):BO Try.prog 63 [v,.f 64 []] h fun y h'=>
 ∃ M:List BN,M.Perm L/\(∀ i j,i<j->j<M.length->Gx (M.getD j default) (M.getD i default)=false)/\Rt h' v M/\AU (Am v) h h':=by
 have hv:=rb.DY
 have rid:Rt h v (Bj L (fun i=>i) L.length):=by rw[RD];exact rb
 refine BK x6 (by intro hb;cases hb) (by simp) (by simp) fun Q hQ=>?_
 simp only[Av,Nat.reduceAdd]
 repeat' (first
  |refine St.h ?_
  |simp(disch:=first|omega|(simp only[AJ];omega))only[AI,↓AB,↓reduceIte,seval,hv.ln,Int.toNat_natCast]
  |(with_reducible (first|apply AD|apply AE))<;>(intro hc;(try simp only[Ab]at hc);(try simp only[hc]);(try simp only[Aa]at hc);try omega))
 refine CL.pure (Oi (n:=L.length) (by omega)) ?_
 repeat' (first
  |refine St.h ?_
  |simp(disch:=first|omega|(simp only[AJ];omega))only[AI,↓AB,↓reduceIte,seval]
  |(with_reducible (first|apply AD|apply AE))<;>(intro hc;(try simp only[Ab]at hc);(try simp only[hc]);(try simp only[Aa]at hc);try omega))
 refine CL.mk (QX hN (L.length+1) (p:=fun i=>i) (a:=0) (b:=L.length) (lim:=Dp L.length) (by omega) (by have:=HY L.length (by omega);omega) rid (Nat.zero_le _) (Nat.le_refl _) (fun i j h1=>by omega) hf) ?_
 rintro _ g2 ⟨q,sw,hs,rb2,s2⟩
 repeat' (first
  |refine St.h ?_
  |simp(disch:=first|omega|(simp only[AJ];omega))only[AI,↓AB,↓reduceIte,seval]
  |(with_reducible (first|apply AD|apply AE))<;>(intro hc;(try simp only[Ab]at hc);(try simp only[hc]);(try simp only[Aa]at hc);try omega))
 subst hQ
 refine⟨Bj L q L.length,?_,fun i j h1 h2=>?_,rb2,s2⟩
 ·have:=sw.perm (L:=L) (Nat.le_refl L.length)
  rwa [RD]at this
 ·rw[CJ]at h2
  rw[By h2,By (by omega)]
  exact hs i j (Nat.zero_le _) h1 h2
end
end Go.Proofs.Ytobfgempjekjpaa
namespace Go.Ev
open Go
structure Kc where
 gone:List Int
 Af:List BN
 log:Int
 seq:Int
instance:Inhabited Kc:=⟨⟨[],[],0,0⟩⟩
structure Ix where
 L:List BN
 log:Int
 seq:Int
 next:Int
def ZZ:Ix:=⟨[],1,0,1⟩
def FW (t:BN):Bool:=decide (1<=t.id/\t.id<=1000000/\(t.A8=0\/t.A8=1)/\(1<=t.fst.length/\t.fst.length<=13)/\(1<=t.Da.length/\t.Da.length<=13)/\Op.bytesLess t.Da t.fst=false/\1<=t.ER)
theorem Dd {t:BN}:FW t=true↔(1<=t.id/\t.id<=1000000/\(t.A8=0\/t.A8=1)/\(1<=t.fst.length/\t.fst.length<=13)/\(1<=t.Da.length/\t.Da.length<=13)/\Op.bytesLess t.Da t.fst=false/\1<=t.ER):=by unfold FW;exact decide_eq_true_iff
theorem Na {a b:List UInt8}:(Op.bytesLess a b||decide (a=b))=!Op.bytesLess b a:=by
 by_cases e:a=b
 ·rw[e,JQ];simp
 ·rw[decide_eq_false e,Bool.or_false]
  rcases HT e with h|h
  ·rw[h,LS h];rfl
  ·rw[h,LS h];rfl
/--the i-th one is a table,its number above the one ahead -/
def Ot (L:List BN) (i:Nat):Bool:=FW (L.getD i default)&&(decide (i=0)||decide ((L.getD (i-1) default).id<(L.getD i default).id))
def Ir (L:List BN) (i:Nat):Bool:=(List.range i).all (Ot L)
theorem Kg (L:List BN) (i:Nat):Ir L (i+1)=(Ir L i&&Ot L i):=by unfold Ir;rw[List.range_succ,List.all_append];simp
theorem On {L:List BN} {i:Nat} (h:Ir L i=true) {j:Nat} (hj:j<i):Ot L j=true:=(List.all_eq_true.1 h) j (List.mem_range.2 hj)
theorem Ua {L:List BN} {i n:Nat} (hi:i<n) (h:Ot L i=false):Ir L n=false:=List.all_eq_false.2 ⟨i,List.mem_range.2 hi,by rw[h];simp⟩
def Ln (e:Kc):Bool:=decide (e.gone.length<=40)&&decide (e.Af.length<=40)&&Ir e.Af e.Af.length&&decide (0<=e.log/\e.log<=1000000)&&decide (0<=e.seq/\e.seq<=1000000)
structure dc (e:Kc):Prop where
 wy:e.gone.length<=40
 wz:e.Af.length<=40
 up:Ir e.Af e.Af.length=true
 l0:0<=e.log
 l1:e.log<=1000000
 s0:0<=e.seq
 s1:e.seq<=1000000
theorem KC {e:Kc}:Ln e=true↔dc e:=by
 unfold Ln
 simp only[Bool.and_eq_true,decide_eq_true_eq]
 exact⟨fun⟨⟨⟨⟨a,b⟩,c⟩,d⟩,f⟩=>⟨a,b,c,d.1,d.2,f.1,f.2⟩,fun h=>⟨⟨⟨⟨h.wy,h.wz⟩,h.up⟩,h.l0,h.l1⟩,h.s0,h.s1⟩⟩
theorem Db {α:Type} [Inhabited α] {L:List α} {i:Nat} (h:i<L.length):L.getD i default∈L:=by
 rw[List.getD_eq_getElem?_getD,List.getElem?_eq_getElem h];exact List.getElem_mem h
theorem Gk {α:Type} [Inhabited α] {L:List α} {x:α} (h:x∈L):∃ i,i<L.length/\L.getD i default=x:=by
 obtain⟨i,hi,e⟩:=List.mem_iff_getElem.1 h
 exact⟨i,hi,by rw[List.getD_eq_getElem?_getD,List.getElem?_eq_getElem hi];exact e⟩
theorem dc.tb {e:Kc} (h:dc e):∀ t∈e.Af,FW t=true:=fun t ht=>by
 obtain⟨i,hi,rfl⟩:=Gk ht
 have:=On h.up hi
 unfold Ot at this;rw[Bool.and_eq_true]at this;exact this.1
theorem dc.lt {e:Kc} (h:dc e):∀ j i,i<j->j<e.Af.length->(e.Af.getD i default).id<(e.Af.getD j default).id:=by
 intro j
 induction j with
 |zero=>intro i hi;omega
 |succ j ih=>
  intro i hi hj
  have:=On h.up hj
  unfold Ot at this
  rw[Bool.and_eq_true,Bool.or_eq_true]at this
  have h2:(e.Af.getD j default).id<(e.Af.getD (j+1) default).id:=by
   rcases this.2 with h|h
   ·simp at h
   ·simpa using h
  by_cases e1:i=j
  ·rw[e1];exact h2
  ·have:=ih i (by omega) (by omega);omega
def GM (a b:BN):Bool:=decide (a.A8=1/\b.A8=1/\Op.bytesLess b.Da a.fst=false/\Op.bytesLess a.Da b.fst=false)
theorem G8 {a b:BN}:GM a b=GM b a:=by
 unfold GM
 apply decide_eq_decide.2
 exact⟨fun⟨a,b,c,d⟩=>⟨b,a,d,c⟩,fun⟨a,b,c,d⟩=>⟨b,a,d,c⟩⟩
def De (L:List BN):Prop:=L.Pairwise fun a b=>GM a b=false
theorem De.perm {L M:List BN} (p:L.Perm M):De L↔De M:=p.pairwise_iff fun h=>by rw[G8];exact h
/--in order,no two alike -/
def Vw (L:List BN):Prop:=L.Pairwise fun a b=>Gx a b=true
theorem SE:∀ {L M:List BN},Vw L->Vw M->L.Perm M->L=M
 |[],M,_,_,p=>(List.Perm.nil_eq p)
 |a::L,[],_,_,p=>absurd p.length_eq (by simp)
 |a::L,b::M,hL,hM,p=>by
  have hL':=List.pairwise_cons.1 hL
  have hM':=List.pairwise_cons.1 hM
  have e:a=b:=by
   rcases List.mem_cons.1 (p.mem_iff.1 (List.mem_cons_self))with h|h
   ·exact h
   ·rcases List.mem_cons.1 (p.mem_iff.2 (List.mem_cons_self))with h2|h2
    ·exact h2.symm
    ·have h3:=hM'.1 a h
     have h4:=hL'.1 b h2
     rw[HN h3]at h4;cases h4
  subst e
  rw[SE hL'.2 hM'.2 (List.Perm.cons_inv p)]
def KW (g:List Int) (id:Int):Bool:=g.any fun x=>decide (x=id)
def CG (L:List BN) (g:List Int):List BN:=L.filter fun t=>!KW g t.id
def SD (L:List BN) (g:List Int):Bool:=g.all fun id=>L.any fun t=>decide (t.id=id)
def GC (S:Ix) (e:Kc):Bool:=(decide (0<e.Af.length)&&decide ((e.Af.getD 0 default).id<S.next))||(decide (0<e.log)&&decide (e.log<S.log))||(decide (0<e.seq)&&decide (e.seq<S.seq))
def LU:List BN->BN->List BN
 |[],t=>[t]
 |u::L,t=>if Gx t u then t::u::L else u::LU L t
def Fz:List BN->List BN->Option (List BN)
 |L,[]=>some L
 |L,t::C=>if L.any (fun u=>GM u t)then none else Fz (LU L t) C
def P7 (S:Ix) (e:Kc) (M:List BN):Ix:=⟨M,max S.log e.log,max S.seq e.seq,if 0<e.Af.length then (e.Af.getD (e.Af.length-1) default).id+1 else S.next⟩
/--what the document asks -/
def NO (S:Ix) (e:Kc):Int×Ix:=
 if Ln e=false then (10,S)else if SD S.L e.gone=false then (18,S)else if GC S e=true then (16,S)else
 match Fz (CG S.L e.gone) e.Af with
 |none=>(16,S)
 |some M=>if 40<M.length then (25,S)else (0,P7 S e M)
/--what a sheet is -/
structure Wf (S:Ix):Prop where
 tb:∀ t∈S.L,FW t=true
 wj:Vw S.L
 nm:De S.L
 nx:∀ t∈S.L,t.id<S.next
 n1:1<=S.next/\S.next<=1000001
 lg:0<=S.log/\S.log<=1000000
 sq:0<=S.seq/\S.seq<=1000000
 len:S.L.length<=40
theorem ym:Wf ZZ:=⟨(fun t h=>by cases h),List.Pairwise.nil,List.Pairwise.nil,(fun t h=>by cases h),by decide,by decide,by decide,by decide⟩
theorem Jq:∀ (L:List BN) (t:BN),(LU L t).Perm (t::L)
 |[],t=>List.Perm.refl _
 |u::L,t=>by
  unfold LU
  split
  ·exact List.Perm.refl _
  ·exact((Jq L t).cons u).trans (List.Perm.swap t u L)
theorem OV:∀ {L:List BN} {t:BN},Vw L->(∀ u∈L,Gx t u=true\/Gx u t=true)->Vw (LU L t)
 |[],t,_,_=>List.pairwise_singleton _ _
 |u::L,t,h,ht=>by
  have h':=List.pairwise_cons.1 h
  unfold LU
  split
  ·rename_i hb
   refine List.pairwise_cons.2 ⟨fun x hx=>?_,h⟩
   rcases List.mem_cons.1 hx with rfl|hx
   ·exact hb
   ·have h1:=h'.1 x hx
    cases h2:Gx t x with
    |true=>rfl
    |false=>
     rcases ht x (List.mem_cons_of_mem _ hx)with h3|h3
     ·rw[h3]at h2;cases h2
     ·have:=SK (HN hb) (HN h3)
      rw[h1]at this;cases this
  ·rename_i hb
   refine List.pairwise_cons.2 ⟨fun x hx=>?_,OV h'.2 fun v hv=>ht v (List.mem_cons_of_mem _ hv)⟩
   rcases List.mem_cons.1 ((Jq L t).mem_iff.1 hx)with rfl|hx
   ·rcases ht u List.mem_cons_self with h3|h3
    ·exact absurd h3 hb
    ·exact h3
   ·exact h'.1 x hx
/--two that don't meet are in order,this way or that -/
theorem lW {a b:BN} (ha:FW a=true) (hb:FW b=true) (hn:GM a b=false) (hi:a.id≠b.id):Gx a b=true\/Gx b a=true:=by
 have ha:=Dd.1 ha
 have hb:=Dd.1 hb
 unfold Gx
 by_cases e:a.A8=b.A8
 ·rw[if_pos e,if_pos e.symm]
  by_cases e0:a.A8=0
  ·rw[if_pos e0,if_pos (by omega)];simp;omega
  ·rw[if_neg e0,if_neg (by omega)]
   by_cases ef:a.fst=b.fst
   ·exfalso
    unfold GM at hn
    have h1:=ha.2.2.2.2.2.1
    have h2:=hb.2.2.2.2.2.1
    rw[decide_eq_false_iff_not]at hn
    exact hn ⟨by omega,by omega,by rw[ef];exact h2,by rw[<-ef];exact h1⟩
   ·exact HT ef
 ·rw[if_neg e,if_neg (Ne.symm e)];simp;omega
theorem HW {L:List BN} {g:List Int} {t:BN} (h:t∈CG L g):t∈L:=(List.mem_filter.1 h).1
theorem LP:∀ {C L:List BN},Vw L->De L->(∀ t∈L,FW t=true)->(∀ t∈C,FW t=true)->(∀ t∈L,∀ u∈C,t.id≠u.id)->(C.Pairwise fun a b=>a.id≠b.id)->
 (Fz L C=none/\¬De (L++C))\/∃ M,Fz L C=some M/\M.Perm (L++C)/\Vw M/\De M
 |[],L,ha,hn,_,_,_,_=>.inr ⟨L,rfl,by rw[List.append_nil],ha,hn⟩
 |t::C,L,ha,hn,hL,hC,hd,hc=>by
  have hc':=List.pairwise_cons.1 hc
  unfold Fz
  cases hm:L.any (fun u=>GM u t)with
  |true=>
   left
   refine⟨by rw[if_pos rfl],fun h=>?_⟩
   obtain⟨u,hu,hut⟩:=List.any_eq_true.1 hm
   have:=(List.pairwise_append.1 h).2.2 u hu t List.mem_cons_self
   rw[hut]at this;cases this
  |false=>
   rw[if_neg (by simp)]
   have hmt:∀ u∈L,GM u t=false:=fun u hu=>by
    have:=List.any_eq_false.1 hm u hu
    simpa using this
   have hp:=Jq L t
   have hmem:∀ x,x∈LU L t↔x=t\/x∈L:=fun x=>by rw[hp.mem_iff,List.mem_cons]
   have hpp:(LU L t++C).Perm (L++t::C):=(hp.append_right C).trans (List.perm_middle).symm
   have ih:=LP (C:=C) (L:=LU L t) (OV ha fun u hu=>(lW (hC t List.mem_cons_self) (hL u hu) (by rw[G8];exact hmt u hu) fun e=>hd u hu t List.mem_cons_self e.symm))
    ((De.perm hp).2 (List.pairwise_cons.2 ⟨fun u hu=>by rw[G8];exact hmt u hu,hn⟩))
    (fun x hx=>by rcases(hmem x).1 hx with rfl|h;exact hC _ List.mem_cons_self;exact hL x h)
    (fun x hx=>hC x (List.mem_cons_of_mem _ hx))
    (fun x hx u hu=>by rcases(hmem x).1 hx with rfl|h;exact hc'.1 u hu;exact hd x h u (List.mem_cons_of_mem _ hu)) hc'.2
   rcases ih with⟨h1,h2⟩|⟨M,h1,h2,h3,h4⟩
   ·exact .inl ⟨h1,fun h=>h2 ((De.perm hpp).2 h)⟩
   ·exact .inr ⟨M,h1,h2.trans hpp,h3,h4⟩
/--two of a row that is in order meet,one behind the other -/
def Gu (M:List BN) (i:Nat):Bool:=decide (0<i)&&(decide ((M.getD (i-1) default).A8=1)&&!Op.bytesLess (M.getD (i-1) default).Da (M.getD i default).fst)
def F7 (M:List BN):Bool:=(List.range M.length).any (Gu M)
theorem Ox {a b:BN} (h:Gx b a=false):a.A8<=b.A8:=by
 unfold Gx at h
 by_cases e:b.A8=a.A8
 ·omega
 ·rw[if_neg e]at h;simp at h;exact h
theorem PT {M:List BN} (hs:∀ i j,i<j->j<M.length->Gx (M.getD j default) (M.getD i default)=false) (ht:∀ t∈M,FW t=true):F7 M=false↔De M:=by
 have tb:∀ i,i<M.length->(1<=(M.getD i default).id/\(M.getD i default).id<=1000000/\((M.getD i default).A8=0\/(M.getD i default).A8=1)/\_):=fun i hi=>Dd.1 (ht _ (Db hi))
 constructor
 ·intro h
  refine List.pairwise_iff_getElem.2 fun i j hi hj hij=>?_
  have gi:M[i]=M.getD i default:=by rw[List.getD_eq_getElem?_getD,List.getElem?_eq_getElem hi];rfl
  have gj:M[j]=M.getD j default:=by rw[List.getD_eq_getElem?_getD,List.getElem?_eq_getElem hj];rfl
  rw[gi,gj]
  cases hm:GM (M.getD i default) (M.getD j default)with
  |false=>rfl
  |true=>
   exfalso
   obtain⟨m1,m2,m3,m4⟩:=of_decide_eq_true hm
   have h1:Gu M (i+1)=true:=by
    unfold Gu
    have ti:(M.getD (i+1) default).A8=1:=by
     have:=Ox (hs i (i+1) (by omega) (by omega))
     have:=(tb (i+1) (by omega)).2.2.1
     omega
    have hf:Op.bytesLess (M.getD j default).fst (M.getD (i+1) default).fst=false:=by
     by_cases e:j=i+1
     ·rw[e];exact JQ _
     ·have:=hs (i+1) j (by omega) hj
      unfold Gx at this
      rw[if_pos (by omega),if_neg (by omega)]at this
      exact this
    rw[Nat.add_sub_cancel,decide_eq_true (Nat.succ_pos i),decide_eq_true m1,Re m4 hf];rfl
   have:=List.any_eq_false.1 h (i+1) (List.mem_range.2 (by omega))
   exact this h1
 ·intro h
  cases hm:F7 M with
  |false=>rfl
  |true=>
   exfalso
   obtain⟨j,hj,ha⟩:=List.any_eq_true.1 hm
   have hj:=List.mem_range.1 hj
   unfold Gu at ha
   simp only[Bool.and_eq_true,decide_eq_true_eq,Bool.not_eq_true']at ha
   obtain⟨h0,h1,h2⟩:=ha
   have h3:=List.pairwise_iff_getElem.1 h (j-1) j (by omega) hj (by omega)
   have gi:M[j-1]=M.getD (j-1) default:=by rw[List.getD_eq_getElem?_getD,List.getElem?_eq_getElem (by omega)];rfl
   have gj:M[j]=M.getD j default:=by rw[List.getD_eq_getElem?_getD,List.getElem?_eq_getElem hj];rfl
   rw[gi,gj]at h3
   have hlt:=hs (j-1) j (by omega) hj
   have t1:=Ox hlt
   have tj:=(tb j hj).2.2.1
   have hff:Op.bytesLess (M.getD j default).fst (M.getD (j-1) default).fst=false:=by
    unfold Gx at hlt
    rw[if_pos (by omega),if_neg (by omega)]at hlt
    exact hlt
   have hl:=(Dd.1 (ht _ (Db hj))).2.2.2.2.2.1
   unfold GM at h3
   rw[decide_eq_false_iff_not]at h3
   exact h3 ⟨h1,by omega,Re hl hff,h2⟩
theorem MQ {S:Ix} {e:Kc} (w:Wf S) (he:dc e) (hp:GC S e=false):(∀ t∈CG S.L e.gone,∀ u∈e.Af,t.id≠u.id)/\(e.Af.Pairwise fun a b=>a.id≠b.id)/\∀ u∈e.Af,S.next<=u.id:=by
 have h0:∀ u∈e.Af,S.next<=u.id:=fun u hu=>by
  obtain⟨i,hi,rfl⟩:=Gk hu
  unfold GC at hp
  simp only[Bool.or_eq_false_iff,Bool.and_eq_false_iff,decide_eq_false_iff_not]at hp
  have h1:S.next<=(e.Af.getD 0 default).id:=by
   rcases hp.1.1 with h|h
   ·omega
   ·omega
  by_cases e1:i=0
  ·rw[e1];exact h1
  ·have:=he.lt i 0 (by omega) hi;omega
 refine⟨fun t ht u hu e1=>?_,List.pairwise_iff_getElem.2 fun i j hi hj hij=>?_,h0⟩
 ·have:=w.nx t (HW ht)
  have:=h0 u hu;omega
 ·have:=he.lt j i hij hj
  rw[List.getD_eq_getElem?_getD,List.getElem?_eq_getElem hi,List.getD_eq_getElem?_getD,List.getElem?_eq_getElem hj]at this
  exact Int.ne_of_lt this
theorem Oy {S:Ix} (w:Wf S) (g:List Int):Vw (CG S.L g)/\De (CG S.L g)/\∀ t∈CG S.L g,FW t=true:=⟨w.wj.filter _,w.nm.filter _,fun t ht=>w.tb t (HW ht)⟩
/--what the program makes of it:all there are then,in order -/
theorem n8 {S:Ix} {e:Kc} (w:Wf S) (he:dc e) (hp:GC S e=false) {M:List BN} (pm:M.Perm (CG S.L e.gone++e.Af)) (hs:∀ i j,i<j->j<M.length->Gx (M.getD j default) (M.getD i default)=false):
 (F7 M=true/\Fz (CG S.L e.gone) e.Af=none)\/(F7 M=false/\Fz (CG S.L e.gone) e.Af=some M):=by
 obtain⟨i1,i2,i3⟩:=MQ w he hp
 obtain⟨l1,l2,l3⟩:=Oy w e.gone
 have tM:∀ t∈M,FW t=true:=fun t ht=>by
  rcases List.mem_append.1 (pm.mem_iff.1 ht)with h|h
  ·exact l3 t h
  ·exact he.tb t h
 have hm:=PT hs tM
 rcases LP l1 l2 l3 he.tb i1 i2 with⟨h1,h2⟩|⟨M',h1,h2,h3,h4⟩
 ·left
  refine⟨?_,h1⟩
  cases hb:F7 M with
  |true=>rfl
  |false=>exact absurd ((De.perm pm).1 (hm.1 hb)) h2
 ·right
  have hMM:M.Perm M':=pm.trans h2.symm
  have nmM:De M:=(De.perm hMM).2 h4
  have e1:M=M':=by
   refine SE (List.pairwise_iff_getElem.2 fun i j hi hj hij=>?_) h3 hMM
   --of two that are in order and don't meet the first one is less
   have n1:=List.pairwise_iff_getElem.1 nmM i j hi hj hij
   have gi:M[i]=M.getD i default:=by rw[List.getD_eq_getElem?_getD,List.getElem?_eq_getElem hi];rfl
   have gj:M[j]=M.getD j default:=by rw[List.getD_eq_getElem?_getD,List.getElem?_eq_getElem hj];rfl
   have idn:(M'.Pairwise fun a b=>Gx a b=true\/Gx b a=true):=h3.imp fun h=>.inl h
   have idM:=(hMM.pairwise_iff (R:=fun a b=>Gx a b=true\/Gx b a=true) fun h=>h.symm).2 idn
   have o:=List.pairwise_iff_getElem.1 idM i j hi hj hij
   rcases o with o|o
   ·exact o
   ·have:=hs i j hij hj
    rw[gi,gj]at o
    rw[o]at this;cases this
  rw[e1]
  exact⟨by rw[<-e1];exact hm.2 nmM,h1⟩
theorem V6 {S:Ix} {e:Kc} (w:Wf S):Wf (NO S e).2:=by
 unfold NO
 by_cases h1:Ln e=false
 ·rw[if_pos h1];exact w
 rw[if_neg h1]
 by_cases h2:SD S.L e.gone=false
 ·rw[if_pos h2];exact w
 rw[if_neg h2]
 by_cases h3:GC S e=true
 ·rw[if_pos h3];exact w
 rw[if_neg h3]
 have he:=KC.1 (by simpa using h1)
 have hp:GC S e=false:=by simpa using h3
 obtain⟨i1,i2,i3⟩:=MQ w he hp
 obtain⟨l1,l2,l3⟩:=Oy w e.gone
 rcases LP l1 l2 l3 he.tb i1 i2 with⟨h4,_⟩|⟨M,h4,h5,h6,h7⟩
 ·rw[h4];exact w
 ·rw[h4]
  by_cases h8:40<M.length
  ·show Wf (if 40<M.length then _ else _:Int×Ix).2;rw[if_pos h8];exact w
  ·show Wf (if 40<M.length then _ else _:Int×Ix).2
   rw[if_neg h8]
   have hmem:∀ t∈M,t∈CG S.L e.gone\/t∈e.Af:=fun t ht=>List.mem_append.1 (h5.mem_iff.1 ht)
   have hn:=w.n1
   refine⟨fun t ht=>?_,h6,h7,fun t ht=>?_,?_,?_,?_,by show M.length<=40;omega⟩
   ·rcases hmem t ht with h|h
    ·exact l3 t h
    ·exact he.tb t h
   ·show t.id<(if 0<e.Af.length then _ else S.next)
    by_cases hc:0<e.Af.length
    ·rw[if_pos hc]
     have hlast:=Db (L:=e.Af) (i:=e.Af.length-1) (by omega)
     rcases hmem t ht with h|h
     ·have:=w.nx t (HW h)
      have:=i3 _ hlast;omega
     ·obtain⟨i,hi,rfl⟩:=Gk h
      by_cases e1:i=e.Af.length-1
      ·rw[e1];omega
      ·have:=he.lt (e.Af.length-1) i (by omega) (by omega);omega
    ·rw[if_neg hc]
     rcases hmem t ht with h|h
     ·exact w.nx t (HW h)
     ·have:=List.length_pos_of_mem h;omega
   ·show 1<=(if 0<e.Af.length then _ else S.next)/\(if 0<e.Af.length then _ else S.next)<=1000001
    by_cases hc:0<e.Af.length
    ·rw[if_pos hc]
     have:=Dd.1 (he.tb _ (Db (L:=e.Af) (i:=e.Af.length-1) (by omega)))
     omega
    ·rw[if_neg hc];exact hn
   ·show 0<=max S.log e.log/\max S.log e.log<=1000000
    have:=w.lg;have:=he.l0;have:=he.l1;omega
   ·show 0<=max S.seq e.seq/\max S.seq e.seq<=1000000
    have:=w.sq;have:=he.s0;have:=he.s1;omega
end Go.Ev
namespace Go.Ev
open Go
theorem uO.own {P:Program} {h:H} {N:Nx} {id:B} {el fin:Nat} {xs:List V} {s:List UInt8} {cap:Option Nat} (o:Is h id el xs) (hne:1<=s.length) (hj:s.length<=fin) (hfit:s.length<2 ^ 37)
 (k:∀ h',Is h' id el (s.map bv)->AU (fun i=>i=id) h h'->N.go P (.i .i64 (s.length:Int)) h'):uO P (.l id 0 0 s.length fin cap) (sv s) h N:=by
 obtain⟨Ak,a1,a2,a3,a4,aE,a5,a6,a7⟩:=o
 obtain⟨next,floor,heap⟩:=h
 obtain⟨cur,min,sz,cs,bel,fr⟩:=Ak
 simp only at a2 a3 a4 aE a7
 subst a2;subst a3;subst a4;subst aE
 have hvl:(s.map bv).length=s.length:=List.length_map _
 obtain⟨tr,t1,t2,t3⟩:=Br (s.map bv) 0 cs (by omega)
 obtain⟨hp,s1,s2,s3⟩:=Bv id (⟨0,0,sz,tr,bel,0⟩:Gn) heap
 have e1:B.KF floor id=true:=by cases floor<;>first|rfl|(show Nat.ble _ _=true;rw[Nat.ble_eq];exact a5)
 have e2:Nat.ble (Nat.add 0 (s.map bv).length) fin=true:=by rw[Nat.ble_eq];show 0+(s.map bv).length<=fin;omega
 have e4:HF 0 0=true:=rfl
 have e5:Nat.beq 0 0=true:=rfl
 have e6:Nat.ble 0 0=true:=rfl
 have a1':heap.get id=some ⟨0,0,sz,cs,bel,0⟩:=a1
 refine DQ (v:=.i .i64 (s.length:Int)) (h':=⟨next,floor,hp⟩) (fun q=>?_) (k _ ⟨_,s2,rfl,rfl,rfl,rfl,a5,a6,fun i z hz=>by have:=t2 i z hz;rwa [Nat.zero_add]at this⟩ ⟨rfl,Nat.le_refl _,fun i _ hi=>s3 i hi⟩)
 show HH s.length (fun _=>false) (fun _=>GZ (sv s) ⟨next,floor,heap⟩ q id 0 0 s.length fin)=_
 obtain⟨m,hm⟩:∃ m,s.length=m+1:=⟨s.length-1,by omega⟩
 have hc:∀ (z:Unit->Bool) (f:Nat->Bool),HH s.length z f=f (m+1):=fun z f=>by rw[hm];rfl
 rw[hc]
 unfold GZ
 show J9 s.length (pk s) [] (fun vs=>Ap (Nat.beq s.length s.length) fun _=>store ⟨next,floor,heap⟩ id 0 0 fin vs fun h=>q (.i .i64 (.ofNat s.length)) h)=_
 rw[Ju _ _ _ _ rfl,List.append_nil,Nat.beq_refl,AG]
 simp only[store,CI,a1',Al,BD,e5,e6,e1,e2,IJ,e4,AG]
 rw[t1,s1];rfl
theorem US.own {P:Program} {h:H} {N:Nx} {id:B} {el fin:Nat} {a:List UInt8} (o:Is h id el (a.map bv)) (hne:1<=a.length) (hj:a.length<=fin) (hl:a.length<=1048576)
 (k:∀ h',AU (fun i=>i=id) h h'->N.go P (sv a) h'):US P el (.p id 0 0 fin) (.i .i64 (a.length:Int)) h N:=by
 have hrow:Row h id 0 0 (a.map bv):=o.own.row
 obtain⟨Ak,a1,a2,a3,a4,aE,a5,a6,a7⟩:=o
 have hld:∀ k,Bo h id 0 0 fin a.length k=k (a.map bv):=fun k=>by
  have:=C8 (n:=(a.map bv).length) (fin:=fin) hrow rfl (by intro h0;have:=congrArg List.length h0;simp at this;subst this;simp at hne) (by rw[List.length_map];omega) k
  rwa [List.length_map]at this
 obtain⟨next,floor,heap⟩:=h
 obtain⟨cur,min,sz,cells,bel,fr⟩:=Ak
 simp only at a2 a3 a4 aE a7
 subst a2;subst a3;subst a4;subst aE
 obtain⟨hp,s1,s2,s3⟩:=Bv id (⟨0,0,sz,cells,bel,a.length+2⟩:Gn) heap
 have a1':heap.get id=some ⟨0,0,sz,cells,bel,0⟩:=a1
 have g2:Nat.beq bel bel=true:=Nat.beq_refl bel
 have g3:B.KF floor id=true:=by cases floor<;>first|rfl|(show Nat.ble _ _=true;rw[Nat.ble_eq];exact a5)
 have g4:Nat.ble 1 a.length=true:=by rw[Nat.ble_eq];exact hne
 have g5:Nat.ble a.length 1048576=true:=by rw[Nat.ble_eq];exact hl
 have g6:Nat.beq 0 0=true:=rfl
 have g7:Nat.ble 0 0=true:=rfl
 refine US.of (v:=sv a) (h':=⟨next,floor,hp⟩) (fun q=>?_) (k _ ⟨rfl,Nat.le_refl _,fun i _ hi=>s3 i hi⟩)
 simp only[Cw,BT,AG,Ba,MP]
 unfold Ka
 rw[g6,AG,g4,AG,g5,AG]
 simp only[Vu,CI,a1',Al,BD,g7,g2,AG]
 rw[hld,LR]
 have e0:0*256 ^ a.length+pk a=pk a:=by rw[Nat.zero_mul,Nat.zero_add]
 rw[e0]
 simp only[Hd,CI,a1',Al,BD,g3,AG]
 show fN (Nat.add a.length 2) (fun fr'=>T.HJ id ⟨0,0,sz,cells,bel,fr'⟩ heap fun heap=>q (.s a.length (pk a)) ⟨next,floor,heap⟩)=_
 rw[A2]
 exact s1 _
end Go.Ev
set_option maxRecDepth 100000
set_option maxHeartbeats 8000000
namespace Go.Proofs.Ytobfgempjekjpaa
open Go Go.Ev
theorem Tw:∀ L:List BN,Bx (L.flatMap Lb)=true
 |[]=>rfl
 |a::L=>by
  rw[List.flatMap_cons]
  show Bx (.i .i64 a.id::.i .i64 a.A8::sv a.fst::sv a.Da::.i .i64 a.ER::L.flatMap Lb)=true
  exact Tw L
theorem OK {h:H}:BO Try.prog 48 [.l0] h fun y h'=>y=.l0/\h'=h:=by
 refine BK wW (by intro hb;cases hb) (by simp) (by simp) fun Q hQ=>?_
 simp only[Av,Nat.reduceAdd]
 repeat' (first
  |refine St.h ?_
  |simp(disch:=first|omega|(simp only[AJ];omega))only[AI,↓AB,↓reduceIte,seval]
  |(with_reducible (first|apply AD|apply AE))<;>(intro hc;(try simp only[Ab]at hc);(try simp only[hc]);(try simp only[Aa]at hc);try omega))
 subst hQ
 exact⟨rfl,rfl⟩
theorem Nb {h:H} {id:B} {gg off len fin:Nat} {cap:Option Nat} {L:List BN} (hL:E9 h (.l id gg off len fin cap) L) (hl:L.length<=1000) (hf:B.val h.floor<=B.val h.next):BO Try.prog 48 [.l id gg off len fin cap] h fun y h'=>Rt h' y L/\(∀ q,Am y q->B.val h.next<=B.val q)/\AU AQ h h':=by
 refine BK wW (by intro hb;cases hb) (by simp) (by simp) fun Q hQ=>?_
 simp only[Av,Nat.reduceAdd]
 repeat' (first
  |refine St.h ?_
  |simp(disch:=first|omega|(simp only[AJ];omega))only[AI,↓AB,↓reduceIte,seval]
  |(with_reducible (first|apply AD|apply AE))<;>(intro hc;(try simp only[Ab]at hc);(try simp only[hc]);(try simp only[Aa]at hc);try omega))
 refine AL.own (by simp) hf fun h1 s1 n1 o1=>?_
 have hf1:=s1.fl hf
 repeat' (first
  |refine St.h ?_
  |simp(disch:=first|omega|(simp only[AJ];omega))only[AI,↓AB,↓reduceIte,seval]
  |(with_reducible (first|apply AD|apply AE))<;>(intro hc;(try simp only[Ab]at hc);(try simp only[hc]);(try simp only[Aa]at hc);try omega))
 refine AP.e1 (Ls (hL.grow s1) Be (by omega)) hf1 (Cn Be L) (by omega) (by rw[Cn Be L];omega) (fun e=>?_) fun h2 e s2 n2 b2 tp2=>?_
 ·have:L=[]:=List.eq_nil_of_length_eq_zero e
  subst this
  repeat' (first
   |refine St.h ?_
   |simp(disch:=first|omega|(simp only[AJ];omega))only[AI,↓AB,↓reduceIte,seval]
   |(with_reducible (first|apply AD|apply AE))<;>(intro hc;(try simp only[Ab]at hc);(try simp only[hc]);(try simp only[Aa]at hc);try omega))
  subst hQ
  refine⟨Gr.v5 (by omega) (by rw[n1];omega),?_,s1⟩
  rintro q ⟨_,_,_,_,_,e⟩
  cases e;exact Nat.le_refl _
 ·repeat' (first
   |refine St.h ?_
   |simp(disch:=first|omega|(simp only[AJ];omega))only[AI,↓AB,↓reduceIte,seval]
   |(with_reducible (first|apply AD|apply AE))<;>(intro hc;(try simp only[Ab]at hc);(try simp only[hc]);(try simp only[Aa]at hc);try omega))
  subst hQ
  refine⟨Gr.buf b2 tp2 Be (by omega),?_,s1.trans s2⟩
  rintro q ⟨_,_,_,_,_,e⟩
  cases e;exact s1.next
theorem Pa {h:H} {v:V} {L:List BN} (hL:E9 h v L) (hl:L.length<=1000) (hf:B.val h.floor<=B.val h.next):BO Try.prog 48 [v] h fun y h'=>Rt h' y L/\(∀ q,Am y q->B.val h.next<=B.val q)/\AU AQ h h':=by
 have hL0:=hL
 rcases hL with⟨rfl,rfl⟩|⟨id,gg,off,fin,cap,rfl,hh⟩
 ·exact OK.mono fun y h' ⟨a,b⟩=>by
   rw[a,b]
   refine⟨Gr.nil,?_,AU.refl _ _⟩
   rintro q ⟨_,_,_,_,_,e⟩;cases e
 ·exact Nb hL0 hl hf
theorem Tz (n:Nat):DX [V.i .u8 0] n=(List.replicate n (0:UInt8)).map bv:=by
 rw[MY,List.map_replicate];rfl
theorem Np {h:H} {s:List UInt8} (hs:s.length<=1000000) (hf:B.val h.floor<=B.val h.next):BO Try.prog 74 [sv s] h fun y h'=>y=sv s/\AU AQ h h':=by
 refine BK xU (by intro hb;cases hb) (by simp) (by simp) fun Q hQ=>?_
 simp only[Av,Nat.reduceAdd]
 repeat' (first
  |refine St.h ?_
  |simp(disch:=first|omega|(simp only[AJ];omega))only[AI,↓AB,↓reduceIte,seval,Int.toNat_natCast]
  |(with_reducible (first|apply AD|apply AE))<;>(intro hc;(try simp only[Ab]at hc);(try simp only[hc]);(try simp only[Aa]at hc);try omega))
 ·subst hQ
  have:s=[]:=List.eq_nil_of_length_eq_zero (by omega)
  subst this
  exact⟨rfl,AU.refl _ _⟩
 refine AL.v9 (by rw[Tz];simp;omega) hf fun h1 s1 n1 o1=>?_
 have hf1:=s1.fl hf
 repeat' (first
  |refine St.h ?_
  |simp(disch:=first|omega|(simp only[AJ];omega))only[AI,↓AB,↓reduceIte,seval,Int.toNat_natCast]
  |(with_reducible (first|apply AD|apply AE))<;>(intro hc;(try simp only[Ab]at hc);(try simp only[hc]);(try simp only[Aa]at hc);try omega))
 refine uO.own o1 (by omega) (by omega) (by omega) fun h2 o2 s2=>?_
 repeat' (first
  |refine St.h ?_
  |simp(disch:=first|omega|(simp only[AJ];omega))only[AI,↓AB,↓reduceIte,seval,Int.toNat_natCast,TS]
  |(with_reducible (first|apply AD|apply AE))<;>(intro hc;(try simp only[Ab]at hc);(try simp only[hc]);(try simp only[Aa]at hc);try omega))
 refine US.own o2 (by omega) (by omega) (by omega) fun h3 s3=>?_
 repeat' (first
  |refine St.h ?_
  |simp(disch:=first|omega|(simp only[AJ];omega))only[AI,↓AB,↓reduceIte,seval]
  |(with_reducible (first|apply AD|apply AE))<;>(intro hc;(try simp only[Ab]at hc);(try simp only[hc]);(try simp only[Aa]at hc);try omega))
 subst hQ
 exact⟨rfl,(s1.Cv s2 fun i hi=>by rw[hi];exact Nat.le_refl _).Cv s3 fun i hi=>by rw[hi];exact Nat.le_refl _⟩
theorem Jk {h:H} {s:List UInt8} (hs:s.length<=1000000) (hf:B.val h.floor<=B.val h.next):BO Try.prog 62 [sv s] h fun y h'=>y=sv s/\AU AQ h h':=by
 refine BK xJ (by intro hb;cases hb) (by simp) (by simp) fun Q hQ=>?_
 simp only[Av,Nat.reduceAdd]
 repeat' (first
  |refine St.h ?_
  |simp(disch:=first|omega|(simp only[AJ];omega))only[AI,↓AB,↓reduceIte,seval]
  |(with_reducible (first|apply AD|apply AE))<;>(intro hc;(try simp only[Ab]at hc);(try simp only[hc]);(try simp only[Aa]at hc);try omega))
 refine CL.stay (Np hs hf) fun h1 s1=>?_
 repeat' (first
  |refine St.h ?_
  |simp(disch:=first|omega|(simp only[AJ];omega))only[AI,↓AB,↓reduceIte,seval]
  |(with_reducible (first|apply AD|apply AE))<;>(intro hc;(try simp only[Ab]at hc);(try simp only[hc]);(try simp only[Aa]at hc);try omega))
 subst hQ
 exact⟨rfl,s1⟩
theorem Oh {h:H} {v:V} {L:List BN} {fn:FuncId} {cs:List V} {P:BN->Bool} (hL:E9 h v L) (hl:L.length<=1000) (hf:B.val h.floor<=B.val h.next)
 (hF:∀ g t,AU AQ h g->t∈L->BO Try.prog fn (.a [.i .i64 t.id,.i .i64 t.A8,sv t.fst,sv t.Da,.i .i64 t.ER]::cs) g fun y g'=>y=.b (P t)/\AU AQ g g'):
 BO Try.prog 72 [v,.f fn cs] h fun y h'=>∃ r:Int,y=.i .i64 r/\((r= -1/\∀ t∈L,P t=false)\/∃ i:Nat,r=(i:Int)/\i<L.length/\P (L.getD i default)=true/\∀ k,k<i->P (L.getD k default)=false)/\AU AQ h h':=by
 refine BK yG (by intro hb;cases hb) (by simp) (by simp) fun Q hQ=>?_
 simp only[Av,Nat.reduceAdd]
 repeat' (first
  |refine St.h ?_
  |simp(disch:=first|omega|(simp only[AJ];omega))only[AI,↓AB,↓reduceIte,seval,hL.ln]
  |(with_reducible (first|apply AD|apply AE))<;>(intro hc;(try simp only[Ab]at hc);(try simp only[hc]);(try simp only[Aa]at hc);try omega))
 refine Ok.lp (fun m t g=>∃ i:Nat,m=L.length-i/\i<=L.length/\get 0 t=v/\get 1 t=.f fn cs/\get 7 t=.i .i64 (L.length:Int)/\get 8 t=.i .i64 (i:Int)/\(∀ k,k<i->P (L.getD k default)=false)/\AU AQ h g) L.length ?_ ?_
 ·simp(disch:=first|omega|(simp only[AJ];omega))only[AI,↓AB,↓reduceIte,seval,hL.ln]
  refine⟨0,by omega,by omega,?_⟩
  refine⟨?_,?_,?_,?_,fun k hk=>by omega,AU.refl _ _⟩
  all_goals first|trivial|rfl
 rintro I hI m t g ⟨i,rfl,hi,f0,f1,f7,f8,hno,st⟩
 have hLg:=hL.grow st
 have hfg:=st.fl hf
 by_cases hil:i<L.length
 case neg=>
  obtain rfl:i=L.length:=by omega
  have d1:((L.length:Int)<(L.length:Int))=False:=eq_false (by omega)
  repeat' (first
   |refine St.h ?_
   |simp(disch:=first|omega|(simp only[AJ];omega))only[AI,↓AB,↓reduceIte,seval,f0,f1,f7,f8,d1]
   |(with_reducible (first|apply AD|apply AE))<;>(intro hc;(try simp only[Ab]at hc);(try simp only[hc]);(try simp only[Aa]at hc);try omega))
  subst hQ
  refine⟨-1,rfl,.inl ⟨rfl,fun t ht=>?_⟩,st⟩
  obtain⟨k,hk,rfl⟩:=Gk ht
  exact hno k hk
 have d1:((i:Int)<(L.length:Int))=True:=eq_true (by omega)
 repeat' (first
  |refine St.h ?_
  |simp(disch:=first|omega|(simp only[AJ];omega))only[AI,↓AB,↓reduceIte,seval,f0,f1,f7,f8,d1,hLg.ix,hLg.la,Int.toNat_natCast]
  |(with_reducible (first|apply AD|apply AE))<;>(intro hc;(try simp only[Ab]at hc);(try simp only[hc]);(try simp only[Aa]at hc);try omega))
 refine CL.stay (hF g _ st (Db hil)) fun g2 s2=>?_
 have st2:=st.trans s2
 cases hk:P (L.getD i default)with
 |true=>
  repeat' (first
   |refine St.h ?_
   |simp(disch:=first|omega|(simp only[AJ];omega))only[AI,↓AB,↓reduceIte,seval,f0,f1,f7,f8]
   |(with_reducible (first|apply AD|apply AE))<;>(intro hc;(try simp only[Ab]at hc);(try simp only[hc]);(try simp only[Aa]at hc);try omega))
  subst hQ
  exact⟨i,rfl,.inr ⟨i,rfl,hil,hk,hno⟩,st2⟩
 |false=>
  repeat' (first
   |refine St.h ?_
   |simp(disch:=first|omega|(simp only[AJ];omega))only[AI,↓AB,↓reduceIte,seval,f0,f1,f7,f8]
   |(with_reducible (first|apply AD|apply AE))<;>(intro hc;(try simp only[Ab]at hc);(try simp only[hc]);(try simp only[Aa]at hc);try omega))
  refine Aw hI (L.length-(i+1)) (by omega) ⟨i+1,rfl,by omega,by simp(disch:=first|omega|(simp only[AJ];omega))only[AI,↓AB,↓reduceIte,seval,f0],by simp(disch:=first|omega|(simp only[AJ];omega))only[AI,↓AB,↓reduceIte,seval,f1],by simp(disch:=first|omega|(simp only[AJ];omega))only[AI,↓AB,↓reduceIte,seval,f7],by simp(disch:=first|omega|(simp only[AJ];omega))only[AI,↓AB,↓reduceIte,seval,f8];rfl,fun k k1=>?_,st2⟩
  by_cases e:k=i
  ·rw[e];exact hk
  ·exact hno k (by omega)
theorem TF {h:H} {v:V} {L:List BN} {fn:FuncId} {cs:List V} {P:BN->Bool} (hL:E9 h v L) (hl:L.length<=1000) (hf:B.val h.floor<=B.val h.next)
 (hF:∀ g t,AU AQ h g->t∈L->BO Try.prog fn (.a [.i .i64 t.id,.i .i64 t.A8,sv t.fst,sv t.Da,.i .i64 t.ER]::cs) g fun y g'=>y=.b (P t)/\AU AQ g g'):
 BO Try.prog 57 [v,.f fn cs] h fun y h'=>y=.b (L.any P)/\AU AQ h h':=by
 refine BK yk (by intro hb;cases hb) (by simp) (by simp) fun Q hQ=>?_
 simp only[Av,Nat.reduceAdd]
 repeat' (first
  |refine St.h ?_
  |simp(disch:=first|omega|(simp only[AJ];omega))only[AI,↓AB,↓reduceIte,seval]
  |(with_reducible (first|apply AD|apply AE))<;>(intro hc;(try simp only[Ab]at hc);(try simp only[hc]);(try simp only[Aa]at hc);try omega))
 refine CL.mk (Oh hL hl hf hF) ?_
 rintro _ g ⟨r,rfl,hr,s⟩
 repeat' (first
  |refine St.h ?_
  |simp(disch:=first|omega|(simp only[AJ];omega))only[AI,↓AB,↓reduceIte,seval]
  |(with_reducible (first|apply AD|apply AE))<;>(intro hc;(try simp only[Ab]at hc);(try simp only[hc]);(try simp only[Aa]at hc);try omega))
 subst hQ
 refine⟨congrArg V.b ?_,s⟩
 rcases hr with⟨rfl,hno⟩|⟨i,rfl,hi,hp,_⟩
 ·rw[List.any_eq_false.2 fun t ht=>by rw[hno t ht];simp];rfl
 ·rw[List.any_eq_true.2 ⟨_,Db hi,hp⟩];simp
theorem Uf {h:H} {v:V} {L:List BN} {fn:FuncId} {cs:List V} {P:BN->Bool} (rb:Rt h v L) (hl:L.length<=1000) (hf:B.val h.floor<=B.val h.next)
 (hF:∀ g t,AU (Am v) h g->t∈L->BO Try.prog fn (.a [.i .i64 t.id,.i .i64 t.A8,sv t.fst,sv t.Da,.i .i64 t.ER]::cs) g fun y g'=>y=.b (P t)/\AU AQ g g'):
 BO Try.prog 59 [v,.f fn cs] h fun y h'=>Rt h' y (L.filter fun t=>!P t)/\(∀ q,Am y q->Am v q)/\AU (Am v) h h':=by
 have hL:=rb.DY
 refine BK yn (by intro hb;cases hb) (by simp) (by simp) fun Q hQ=>?_
 simp only[Av,Nat.reduceAdd]
 repeat' (first
  |refine St.h ?_
  |simp(disch:=first|omega|(simp only[AJ];omega))only[AI,↓AB,↓reduceIte,seval]
  |(with_reducible (first|apply AD|apply AE))<;>(intro hc;(try simp only[Ab]at hc);(try simp only[hc]);(try simp only[Aa]at hc);try omega))
 refine CL.mk (Oh hL hl hf fun g t s ht=>hF g t (Bh s) ht) ?_
 rintro _ g ⟨r,rfl,hr,s⟩
 rcases hr with⟨rfl,hno⟩|⟨i0,rfl,hi0,hp0,hno⟩
 ·repeat' (first
   |refine St.h ?_
   |simp(disch:=first|omega|(simp only[AJ];omega))only[AI,↓AB,↓reduceIte,seval]
   |(with_reducible (first|apply AD|apply AE))<;>(intro hc;(try simp only[Ab]at hc);(try simp only[hc]);(try simp only[Aa]at hc);try omega))
  subst hQ
  rw[List.filter_eq_self.2 fun t ht=>by rw[hno t ht];rfl]
  exact⟨rb.grow s,fun q hq=>hq,Bh s⟩
 have dm:((i0:Int)= -1)=False:=eq_false (by omega)
 repeat' (first
  |refine St.h ?_
  |simp(disch:=first|omega|(simp only[AJ];omega))only[AI,↓AB,↓reduceIte,seval,dm]
  |(with_reducible (first|apply AD|apply AE))<;>(intro hc;(try simp only[Ab]at hc);(try simp only[hc]);(try simp only[Aa]at hc);try omega))
 have filt:∀ j,j<L.length->(L.take (j+1)).filter (fun t=>!P t)=(L.take j).filter (fun t=>!P t)++(if P (L.getD j default)then []else [L.getD j default]):=fun j hj=>by
  have:L.take (j+1)=L.take j++[L.getD j default]:=by rw[List.take_succ];simp[List.getD,hj]
  rw[this,List.filter_append]
  cases hb:P (L.getD j default)with
  |true=>rw[List.filter_cons,hb];rfl
  |false=>rw[List.filter_cons,hb];rfl
 refine Ok.lp (fun m t g=>∃ (i j:Nat) (M:List BN),m=L.length-j/\i<j/\j<=L.length/\get 0 t=v/\get 1 t=.f fn cs/\get 5 t=.i .i64 (i:Int)/\get 6 t=.i .i64 (j:Int)/\M.length=L.length/\M.take i=(L.take j).filter (fun t=>!P t)/\M.drop j=L.drop j/\Rt g v M/\AU (Am v) h g) (L.length-(i0+1)) ?_ ?_
 ·simp(disch:=first|omega|(simp only[AJ];omega))only[AI,↓AB,↓reduceIte,seval]
  refine⟨i0,i0+1,L,rfl,by omega,by omega,?_⟩
  refine⟨?_,?_,?_,?_,rfl,?_,rfl,rb.grow s,Bh s⟩
  rotate_right
  ·rw[filt i0 hi0,hp0,if_pos rfl,List.append_nil]
   refine(List.filter_eq_self.2 fun t ht=>?_).symm
   obtain⟨k,hk,rfl⟩:=Gk ht
   rw[List.length_take]at hk
   have:(L.take i0).getD k default=L.getD k default:=by rw[List.getD_eq_getElem?_getD,List.getElem?_take,if_pos (by omega),<-List.getD_eq_getElem?_getD]
   rw[this,hno k (by omega)];rfl
  all_goals first|trivial|rfl
 rintro I hI m t g2 ⟨i,j,M,rfl,hij,hj,f0,f1,f5,f6,hM,hMi,hMj,rb2,st⟩
 have hfg:=st.fl hf
 have hL2:=rb2.DY
 by_cases hjl:j<L.length
 case neg=>
  obtain rfl:j=L.length:=by omega
  rw[List.take_length]at hMi
  have d1:((L.length:Int)<(L.length:Int))=False:=eq_false (by omega)
  obtain⟨u,hu,hclr⟩:=Gr.xp (P:=Try.prog) (z:=ZE) rb2 Be (by omega) (show i<M.length by omega) (by omega) (fun m=>by rw[II];exact Tw _)
  repeat' (first
   |refine St.h ?_
   |simp(disch:=first|omega|(simp only[AJ];omega))only[AI,↓AB,↓reduceIte,seval,f0,f1,f5,f6,hL2.ln,hM,d1,RO,hu]
   |(with_reducible (first|apply AD|apply AE))<;>(intro hc;(try simp only[Ab]at hc);(try simp only[hc]);(try simp only[Aa]at hc);try omega))
  refine hclr _ fun g3 rb3 s3=>?_
  have hlen:(M.take i).length=i:=by rw[List.length_take];omega
  obtain⟨w,hw1,hw2,hw3⟩:=Gr.hi (P:=Try.prog) (k:=i) rb3 Be (by simp;omega) (by simp;omega)
  repeat' (first
   |refine St.h ?_
   |simp(disch:=first|omega|(simp only[AJ];omega))only[AI,↓AB,↓reduceIte,seval,f0,f1,f5,f6,hw3]
   |(with_reducible (first|apply AD|apply AE))<;>(intro hc;(try simp only[Ab]at hc);(try simp only[hc]);(try simp only[Aa]at hc);try omega))
  subst hQ
  refine⟨?_,hw2,st.trans s3⟩
  have e:(M.take i++List.replicate (M.length-i) ZE).take i=L.filter fun t=>!P t:=by
   rw[List.take_append_of_le_length (by omega),List.take_of_length_le (by omega)];exact hMi
  rw[e]at hw1
  exact hw1
 have d1:((j:Int)<(L.length:Int))=True:=eq_true (by omega)
 have gj:M.getD j default=L.getD j default:=by
  have:=congrArg (fun l=>l[0]?) hMj
  simp only[List.getElem?_drop,Nat.add_zero]at this
  rw[List.getD_eq_getElem?_getD,this,<-List.getD_eq_getElem?_getD]
 repeat' (first
  |refine St.h ?_
  |simp(disch:=first|omega|(simp only[AJ];omega))only[AI,↓AB,↓reduceIte,seval,f0,f1,f5,f6,hL2.ln,hL2.ix,hL2.la,hM,gj,d1,Int.toNat_natCast]
  |(with_reducible (first|apply AD|apply AE))<;>(intro hc;(try simp only[Ab]at hc);(try simp only[hc]);(try simp only[Aa]at hc);try omega))
 refine AL.own (by simp) hfg fun g3 s3 n3 o3=>?_
 repeat' (first
  |refine St.h ?_
  |simp(disch:=first|omega|(simp only[AJ];omega))only[AI,↓AB,↓reduceIte,seval,f0,f1,f5,f6]
  |(with_reducible (first|apply AD|apply AE))<;>(intro hc;(try simp only[Ab]at hc);(try simp only[hc]);(try simp only[Aa]at hc);try omega))
 refine ST.all o3 rfl rfl (by simp) (by simp) fun g4 o4 s4=>?_
 have s34:AU AQ g2 g4:=s3.Cv s4 fun q e=>by rw[e];exact Nat.le_refl _
 have rb4:=rb2.grow s34
 have st4:=st.trans (Bh s34)
 have r4:=o4.row
 repeat' (first
  |refine St.h ?_
  |simp(disch:=first|omega|(simp only[AJ];omega))only[AI,↓AB,↓reduceIte,seval,f0,f1,f5,f6,r4.ln]
  |(with_reducible (first|apply AD|apply AE))<;>(intro hc;(try simp only[Ab]at hc);(try simp only[hc]);(try simp only[Aa]at hc);try omega))
 refine CL.stay (hF g4 _ st4 (Db hjl)) fun g5 s5=>?_
 have rb5:=rb4.grow s5
 have st5:=st4.trans (Bh s5)
 have o5:=o4.stay s5 fun e=>e
 have r5:=o5.row
 have hL5:=rb5.DY
 have hMj2:∀ M':List BN,(∀ k,j<k->M'[k]? =M[k]?)->M'.drop (j+1)=L.drop (j+1):=fun M' hk=>by
  refine List.ext_getElem? fun k=>?_
  rw[List.getElem?_drop,hk _ (by omega),List.getElem?_drop]
  have:=congrArg (fun l=>l[k+1]?) hMj
  simp only[List.getElem?_drop]at this
  rw[show j+1+k=j+(k+1)by omega];exact this
 cases hk:P (L.getD j default)with
 |true=>
  repeat' (first
   |refine St.h ?_
   |simp(disch:=first|omega|(simp only[AJ];omega))only[AI,↓AB,↓reduceIte,seval,f0,f1,f5,f6]
   |(with_reducible (first|apply AD|apply AE))<;>(intro hc;(try simp only[Ab]at hc);(try simp only[hc]);(try simp only[Aa]at hc);try omega))
  refine Aw hI (L.length-(j+1)) (by omega) ⟨i,j+1,M,rfl,by omega,by omega,by simp(disch:=first|omega|(simp only[AJ];omega))only[AI,↓AB,↓reduceIte,seval,f0],by simp(disch:=first|omega|(simp only[AJ];omega))only[AI,↓AB,↓reduceIte,seval,f1],by simp(disch:=first|omega|(simp only[AJ];omega))only[AI,↓AB,↓reduceIte,seval,f5],by simp(disch:=first|omega|(simp only[AJ];omega))only[AI,↓AB,↓reduceIte,seval,f6];rfl,hM,by rw[filt j hjl,hk,if_pos rfl,List.append_nil];exact hMi,hMj2 M fun _ _=>rfl,rb5,st5⟩
 |false=>
  repeat' (first
   |refine St.h ?_
   |simp(disch:=first|omega|(simp only[AJ];omega))only[AI,↓AB,↓reduceIte,seval,f0,f1,f5,f6,r5.ln,hL5.ix,hM,Int.toNat_natCast]
   |(with_reducible (first|apply AD|apply AE))<;>(intro hc;(try simp only[Ab]at hc);(try simp only[hc]);(try simp only[Aa]at hc);try omega))
  refine ST.gr (y:=L.getD j default) rb5 Be (by omega) (by omega) (by omega) rfl fun g6 rb6 s6=>?_
  repeat' (first
   |refine St.h ?_
   |simp(disch:=first|omega|(simp only[AJ];omega))only[AI,↓AB,↓reduceIte,seval,f0,f1,f5,f6]
   |(with_reducible (first|apply AD|apply AE))<;>(intro hc;(try simp only[Ab]at hc);(try simp only[hc]);(try simp only[Aa]at hc);try omega))
  refine Aw hI (L.length-(j+1)) (by omega) ⟨i+1,j+1,M.set i (L.getD j default),rfl,by omega,by omega,by simp(disch:=first|omega|(simp only[AJ];omega))only[AI,↓AB,↓reduceIte,seval,f0],by simp(disch:=first|omega|(simp only[AJ];omega))only[AI,↓AB,↓reduceIte,seval,f1],by simp(disch:=first|omega|(simp only[AJ];omega))only[AI,↓AB,↓reduceIte,seval,f5];rfl,by simp(disch:=first|omega|(simp only[AJ];omega))only[AI,↓AB,↓reduceIte,seval,f6];rfl,by rw[List.length_set];exact hM,?_,hMj2 _ fun k hk=>by rw[List.getElem?_set_ne (by omega)],rb6,st5.trans s6⟩
  rw[filt j hjl,hk,if_neg (by simp),<-hMi,List.take_succ,List.take_set_of_le (Nat.le_refl i)]
  congr 1
  rw[List.getElem?_set_self (by omega)];rfl
theorem Tk {h:H} {v:V} {xs:List Int} {x:Int} (hL:Il h v xs) (hl:xs.length<=1000):BO Try.prog 73 [v,.i .i64 x] h fun y h'=>∃ r:Int,y=.i .i64 r/\(decide (0<=r)=KW xs x)/\h'=h:=by
 refine BK yl (by intro hb;cases hb) (by simp) (by simp) fun Q hQ=>?_
 simp only[Av,Nat.reduceAdd]
 repeat' (first
  |refine St.h ?_
  |simp(disch:=first|omega|(simp only[AJ];omega))only[AI,↓AB,↓reduceIte,seval,hL.ln]
  |(with_reducible (first|apply AD|apply AE))<;>(intro hc;(try simp only[Ab]at hc);(try simp only[hc]);(try simp only[Aa]at hc);try omega))
 refine Ok.lp (fun m t g=>∃ i:Nat,m=xs.length-i/\i<=xs.length/\h=g/\get 0 t=v/\get 1 t=.i .i64 x/\get 7 t=.i .i64 (xs.length:Int)/\get 8 t=.i .i64 (i:Int)/\(∀ k,k<i->xs.getD k 0≠x)) xs.length ?_ ?_
 ·simp(disch:=first|omega|(simp only[AJ];omega))only[AI,↓AB,↓reduceIte,seval,hL.ln]
  refine⟨0,by omega,by omega,?_⟩
  refine⟨?_,?_,?_,?_,?_,fun k hk=>by omega⟩
  all_goals first|trivial|rfl
 rintro I hI m t g ⟨i,rfl,hi,rfl,f0,f1,f7,f8,hno⟩
 by_cases hil:i<xs.length
 case neg=>
  obtain rfl:i=xs.length:=by omega
  have d1:((xs.length:Int)<(xs.length:Int))=False:=eq_false (by omega)
  repeat' (first
   |refine St.h ?_
   |simp(disch:=first|omega|(simp only[AJ];omega))only[AI,↓AB,↓reduceIte,seval,f0,f1,f7,f8,d1]
   |(with_reducible (first|apply AD|apply AE))<;>(intro hc;(try simp only[Ab]at hc);(try simp only[hc]);(try simp only[Aa]at hc);try omega))
  subst hQ
  refine⟨-1,rfl,?_,rfl⟩
  refine Eq.symm (List.any_eq_false.2 fun y hy=>?_)
  obtain⟨k,hk,rfl⟩:=List.mem_iff_getElem.1 hy
  have:=hno k hk
  simp[List.getD,hk]at this
  simpa using this
 have d1:((i:Int)<(xs.length:Int))=True:=eq_true (by omega)
 by_cases hx:xs.getD i 0=x
 ·have d2:(x=xs.getD i 0)=True:=eq_true hx.symm
  repeat' (first
   |refine St.h ?_
   |simp(disch:=first|omega|(simp only[AJ];omega))only[AI,↓AB,↓reduceIte,seval,f0,f1,f7,f8,d1,d2,hL.ix,hL.ld,Int.toNat_natCast]
   |(with_reducible (first|apply AD|apply AE))<;>(intro hc;(try simp only[Ab]at hc);(try simp only[hc]);(try simp only[Aa]at hc);try omega))
  subst hQ
  refine⟨i,rfl,?_,rfl⟩
  rw[decide_eq_true (by omega)]
  refine Eq.symm (List.any_eq_true.2 ⟨xs.getD i 0,?_,by simpa using hx⟩)
  simp[List.getD,hil]
 ·have d2:(x=xs.getD i 0)=False:=eq_false (Ne.symm hx)
  repeat' (first
   |refine St.h ?_
   |simp(disch:=first|omega|(simp only[AJ];omega))only[AI,↓AB,↓reduceIte,seval,f0,f1,f7,f8,d1,d2,hL.ix,hL.ld,Int.toNat_natCast]
   |(with_reducible (first|apply AD|apply AE))<;>(intro hc;(try simp only[Ab]at hc);(try simp only[hc]);(try simp only[Aa]at hc);try omega))
  refine Aw hI (xs.length-(i+1)) (by omega) ⟨i+1,rfl,by omega,rfl,by simp(disch:=first|omega|(simp only[AJ];omega))only[AI,↓AB,↓reduceIte,seval,f0],by simp(disch:=first|omega|(simp only[AJ];omega))only[AI,↓AB,↓reduceIte,seval,f1],by simp(disch:=first|omega|(simp only[AJ];omega))only[AI,↓AB,↓reduceIte,seval,f7],by simp(disch:=first|omega|(simp only[AJ];omega))only[AI,↓AB,↓reduceIte,seval,f8];rfl,fun k k1=>?_⟩
  by_cases e:k=i
  ·rw[e];exact hx
  ·exact hno k (by omega)
theorem TI {h:H} {v:V} {xs:List Int} {x:Int} (hL:Il h v xs) (hl:xs.length<=1000):BO Try.prog 61 [v,.i .i64 x] h fun y h'=>y=.b (KW xs x)/\h'=h:=by
 refine BK yu (by intro hb;cases hb) (by simp) (by simp) fun Q hQ=>?_
 simp only[Av,Nat.reduceAdd]
 repeat' (first
  |refine St.h ?_
  |simp(disch:=first|omega|(simp only[AJ];omega))only[AI,↓AB,↓reduceIte,seval]
  |(with_reducible (first|apply AD|apply AE))<;>(intro hc;(try simp only[Ab]at hc);(try simp only[hc]);(try simp only[Aa]at hc);try omega))
 refine CL.mk (Tk hL hl) ?_
 rintro _ g ⟨r,rfl,hr,rfl⟩
 repeat' (first
  |refine St.h ?_
  |simp(disch:=first|omega|(simp only[AJ];omega))only[AI,↓AB,↓reduceIte,seval]
  |(with_reducible (first|apply AD|apply AE))<;>(intro hc;(try simp only[Ab]at hc);(try simp only[hc]);(try simp only[Aa]at hc);try omega))
 subst hQ
 exact⟨congrArg V.b hr,rfl⟩
end Go.Proofs.Ytobfgempjekjpaa
set_option maxRecDepth 100000
set_option maxHeartbeats 8000000
namespace Go.Proofs.Ytobfgempjekjpaa
open Go Go.Ev
theorem Hc {h:H} {a n b:Int}:BO Try.prog 50 [.i .i64 a,.i .i64 n,.i .i64 b] h fun y h'=>y=.b (decide (a<=n/\n<=b))/\h'=h:=by
 refine BK yY (by intro hb;cases hb) (by simp) (by simp) fun Q hQ=>?_
 simp only[Av,Nat.reduceAdd]
 by_cases h1:a<=n
 ·have d1:=eq_true h1
  repeat' (first
   |refine St.h ?_
   |simp(disch:=first|omega|(simp only[AJ];omega))only[AI,↓AB,↓reduceIte,seval,d1]
   |(with_reducible (first|apply AD|apply AE))<;>(intro hc;(try simp only[Ab]at hc);(try simp only[hc]);(try simp only[Aa]at hc);try omega))
  subst hQ
  exact⟨congrArg V.b (by simp[h1]),rfl⟩
 ·have d1:=eq_false h1
  repeat' (first
   |refine St.h ?_
   |simp(disch:=first|omega|(simp only[AJ];omega))only[AI,↓AB,↓reduceIte,seval,d1]
   |(with_reducible (first|apply AD|apply AE))<;>(intro hc;(try simp only[Ab]at hc);(try simp only[hc]);(try simp only[Aa]at hc);try omega))
  subst hQ
  exact⟨congrArg V.b (by simp[h1]),rfl⟩
theorem RF {h:H} {s:List UInt8}:BO Try.prog 65 [sv s] h fun y h'=>y=.b (decide ((1:Int)<=(s.length:Int)/\(s.length:Int)<=13))/\h'=h:=by
 refine BK x7 (by intro hb;cases hb) (by simp) (by simp) fun Q hQ=>?_
 simp only[Av,Nat.reduceAdd]
 repeat' (first
  |refine St.h ?_
  |simp(disch:=first|omega|(simp only[AJ];omega))only[AI,↓AB,↓reduceIte,seval]
  |(with_reducible (first|apply AD|apply AE))<;>(intro hc;(try simp only[Ab]at hc);(try simp only[hc]);(try simp only[Aa]at hc);try omega))
 refine CL.pure Hc ?_
 repeat' (first
  |refine St.h ?_
  |simp(disch:=first|omega|(simp only[AJ];omega))only[AI,↓AB,↓reduceIte,seval]
  |(with_reducible (first|apply AD|apply AE))<;>(intro hc;(try simp only[Ab]at hc);(try simp only[hc]);(try simp only[Aa]at hc);try omega))
 subst hQ
 exact⟨rfl,rfl⟩
theorem VN (t:BN):FW t=(decide (1<=t.id/\t.id<=1000000)&&(decide (0<=t.A8/\t.A8<=1)&&(decide ((1:Int)<=(t.fst.length:Int)/\(t.fst.length:Int)<=13)&&(decide ((1:Int)<=(t.Da.length:Int)/\(t.Da.length:Int)<=13)&&((Op.bytesLess t.fst t.Da||decide (t.fst=t.Da))&&decide (1<=t.ER)))))):=by
 rw[Na,Bool.eq_iff_iff,Dd]
 simp only[Bool.and_eq_true,decide_eq_true_eq,Bool.not_eq_true']
 constructor
 ·rintro⟨a,b,c,d,e,f,g⟩;exact⟨⟨a,b⟩,by omega,by omega,by omega,f,g⟩
 ·rintro⟨⟨a,b⟩,c,d,e,f,g⟩;exact⟨a,b,by omega,by omega,by omega,f,g⟩
theorem eS {h:H} {t:BN} (hf:B.val h.floor<=B.val h.next):BO Try.prog 49 [.a [.i .i64 t.id,.i .i64 t.A8,sv t.fst,sv t.Da,.i .i64 t.ER]] h fun y h'=>y=.b (FW t)/\AU AQ h h':=by
 rw[VN]
 refine BK yX (by intro hb;cases hb) (by simp) (by simp) fun Q hQ=>?_
 simp only[Av,Nat.reduceAdd]
 repeat' (first
  |refine St.h ?_
  |simp(disch:=first|omega|(simp only[AJ];omega))only[AI,↓AB,↓reduceIte,seval]
  |(with_reducible (first|apply AD|apply AE))<;>(intro hc;(try simp only[Ab]at hc);(try simp only[hc]);(try simp only[Aa]at hc);try omega))
 refine AL.own (by simp) hf fun h1 s1 n1 o1=>?_
 have r1:=o1.row
 repeat' (first
  |refine St.h ?_
  |simp(disch:=first|omega|(simp only[AJ];omega))only[AI,↓AB,↓reduceIte,seval,r1.l1]
  |(with_reducible (first|apply AD|apply AE))<;>(intro hc;(try simp only[Ab]at hc);(try simp only[hc]);(try simp only[Aa]at hc);try omega))
 refine CL.pure Hc ?_
 cases c1:decide (1<=t.id/\t.id<=1000000)with
 |false=>
  repeat' (first
   |refine St.h ?_
   |simp(disch:=first|omega|(simp only[AJ];omega))only[AI,↓AB,↓reduceIte,seval,c1]
   |(with_reducible (first|apply AD|apply AE))<;>(intro hc;(try simp only[Ab]at hc);(try simp only[hc]);(try simp only[Aa]at hc);try omega))
  subst hQ
  exact⟨congrArg V.b (by rw[c1];rfl),s1⟩
 |true=>
 repeat' (first
  |refine St.h ?_
  |simp(disch:=first|omega|(simp only[AJ];omega))only[AI,↓AB,↓reduceIte,seval,c1,r1.l1]
  |(with_reducible (first|apply AD|apply AE))<;>(intro hc;(try simp only[Ab]at hc);(try simp only[hc]);(try simp only[Aa]at hc);try omega))
 refine CL.pure Hc ?_
 cases c2:decide (0<=t.A8/\t.A8<=1)with
 |false=>
  repeat' (first
   |refine St.h ?_
   |simp(disch:=first|omega|(simp only[AJ];omega))only[AI,↓AB,↓reduceIte,seval,c2]
   |(with_reducible (first|apply AD|apply AE))<;>(intro hc;(try simp only[Ab]at hc);(try simp only[hc]);(try simp only[Aa]at hc);try omega))
  subst hQ
  exact⟨congrArg V.b (by rw[c1,c2];rfl),s1⟩
 |true=>
 repeat' (first
  |refine St.h ?_
  |simp(disch:=first|omega|(simp only[AJ];omega))only[AI,↓AB,↓reduceIte,seval,c2,r1.l1]
  |(with_reducible (first|apply AD|apply AE))<;>(intro hc;(try simp only[Ab]at hc);(try simp only[hc]);(try simp only[Aa]at hc);try omega))
 refine CL.pure RF ?_
 cases c3:decide ((1:Int)<=(t.fst.length:Int)/\(t.fst.length:Int)<=13)with
 |false=>
  repeat' (first
   |refine St.h ?_
   |simp(disch:=first|omega|(simp only[AJ];omega))only[AI,↓AB,↓reduceIte,seval,c3]
   |(with_reducible (first|apply AD|apply AE))<;>(intro hc;(try simp only[Ab]at hc);(try simp only[hc]);(try simp only[Aa]at hc);try omega))
  subst hQ
  exact⟨congrArg V.b (by rw[c1,c2,c3];rfl),s1⟩
 |true=>
 repeat' (first
  |refine St.h ?_
  |simp(disch:=first|omega|(simp only[AJ];omega))only[AI,↓AB,↓reduceIte,seval,c3,r1.l1]
  |(with_reducible (first|apply AD|apply AE))<;>(intro hc;(try simp only[Ab]at hc);(try simp only[hc]);(try simp only[Aa]at hc);try omega))
 refine CL.pure RF ?_
 cases c4:decide ((1:Int)<=(t.Da.length:Int)/\(t.Da.length:Int)<=13)with
 |false=>
  repeat' (first
   |refine St.h ?_
   |simp(disch:=first|omega|(simp only[AJ];omega))only[AI,↓AB,↓reduceIte,seval,c4]
   |(with_reducible (first|apply AD|apply AE))<;>(intro hc;(try simp only[Ab]at hc);(try simp only[hc]);(try simp only[Aa]at hc);try omega))
  subst hQ
  exact⟨congrArg V.b (by rw[c1,c2,c3,c4];rfl),s1⟩
 |true=>
 cases c5:(Op.bytesLess t.fst t.Da||decide (t.fst=t.Da))with
 |false=>
  repeat' (first
   |refine St.h ?_
   |simp(disch:=first|omega|(simp only[AJ];omega))only[AI,↓AB,↓reduceIte,seval,c4,c5,r1.l1]
   |(with_reducible (first|apply AD|apply AE))<;>(intro hc;(try simp only[Ab]at hc);(try simp only[hc]);(try simp only[Aa]at hc);try omega))
  subst hQ
  exact⟨congrArg V.b (by rw[c1,c2,c3,c4,c5];rfl),s1⟩
 |true=>
  repeat' (first
   |refine St.h ?_
   |simp(disch:=first|omega|(simp only[AJ];omega))only[AI,↓AB,↓reduceIte,seval,c4,c5,r1.l1]
   |(with_reducible (first|apply AD|apply AE))<;>(intro hc;(try simp only[Ab]at hc);(try simp only[hc]);(try simp only[Aa]at hc);try omega))
  subst hQ
  exact⟨congrArg V.b (by rw[c1,c2,c3,c4,c5];rfl),s1⟩
/--an edit in memory -/
def SF (h:H) (g c:V) (e:Kc):Prop:=Il h g e.gone/\E9 h c e.Af
theorem SF.grow {h h':H} {g c:V} {e:Kc} (a:SF h g c e) (s:AU AQ h h'):SF h' g c e:=⟨a.1.grow s,a.2.grow s⟩
theorem VF (e:Kc):Ln e=(decide (e.gone.length<=40)&&(decide (e.Af.length<=40)&&(Ir e.Af e.Af.length&&(decide (0<=e.log/\e.log<=1000000)&&decide (0<=e.seq/\e.seq<=1000000))))):=by
 unfold Ln;simp only[Bool.and_assoc]
theorem Ui {h:H} {g c:V} {e:Kc} (a:SF h g c e) (hl:e.gone.length<=100000) (hl2:e.Af.length<=100000) (hf:B.val h.floor<=B.val h.next):BO Try.prog 31 [.a [g,c,.i .i64 e.log,.i .i64 e.seq]] h fun y h'=>y=.b (Ln e)/\AU AQ h h':=by
 rw[VF]
 refine BK xq (by intro hb;cases hb) (by simp) (by simp) fun Q hQ=>?_
 simp only[Av,Nat.reduceAdd]
 repeat' (first
  |refine St.h ?_
  |simp(disch:=first|omega|(simp only[AJ];omega))only[AI,↓AB,↓reduceIte,seval]
  |(with_reducible (first|apply AD|apply AE))<;>(intro hc;(try simp only[Ab]at hc);(try simp only[hc]);(try simp only[Aa]at hc);try omega))
 refine AL.own (by simp) hf fun h1 s1 n1 o1=>?_
 have r1:=o1.row
 have a1:=a.grow s1
 by_cases hg:e.gone.length<=40
 case neg=>
  have d1:((40:Int)<(e.gone.length:Int))=True:=eq_true (by omega)
  repeat' (first
   |refine St.h ?_
   |simp(disch:=first|omega|(simp only[AJ];omega))only[AI,↓AB,↓reduceIte,seval,r1.l1,a1.1.ln,d1]
   |(with_reducible (first|apply AD|apply AE))<;>(intro hc;(try simp only[Ab]at hc);(try simp only[hc]);(try simp only[Aa]at hc);try omega))
  subst hQ
  exact⟨congrArg V.b (by rw[decide_eq_false hg];rfl),s1⟩
 have d1:((40:Int)<(e.gone.length:Int))=False:=eq_false (by omega)
 by_cases hc:e.Af.length<=40
 case neg=>
  have d2:((40:Int)<(e.Af.length:Int))=True:=eq_true (by omega)
  repeat' (first
   |refine St.h ?_
   |simp(disch:=first|omega|(simp only[AJ];omega))only[AI,↓AB,↓reduceIte,seval,r1.l1,a1.1.ln,a1.2.ln,d1,d2]
   |(with_reducible (first|apply AD|apply AE))<;>(intro hc;(try simp only[Ab]at hc);(try simp only[hc]);(try simp only[Aa]at hc);try omega))
  subst hQ
  exact⟨congrArg V.b (by rw[decide_eq_true hg,decide_eq_false hc];rfl),s1⟩
 have d2:((40:Int)<(e.Af.length:Int))=False:=eq_false (by omega)
 have fin:∀ q,(Ir e.Af e.Af.length&&(decide (0<=e.log/\e.log<=1000000)&&decide (0<=e.seq/\e.seq<=1000000)))=q->(decide (e.gone.length<=40)&&(decide (e.Af.length<=40)&&(Ir e.Af e.Af.length&&(decide (0<=e.log/\e.log<=1000000)&&decide (0<=e.seq/\e.seq<=1000000)))))=q:=fun q hq=>by rw[decide_eq_true hg,decide_eq_true hc,hq];rfl
 repeat' (first
  |refine St.h ?_
  |simp(disch:=first|omega|(simp only[AJ];omega))only[AI,↓AB,↓reduceIte,seval,r1.l1,a1.1.ln,a1.2.ln,d1,d2]
  |(with_reducible (first|apply AD|apply AE))<;>(intro hc;(try simp only[Ab]at hc);(try simp only[hc]);(try simp only[Aa]at hc);try omega))
 refine Ok.lp (fun m t g=>∃ i:Nat,m=e.Af.length-i/\i<=e.Af.length/\get 1 t=.p h.next 0 0 4/\get 16 t=c/\get 17 t=.i .i64 (e.Af.length:Int)/\get 18 t=.i .i64 (i:Int)/\Ir e.Af i=true/\AU AQ h1 g) e.Af.length ?_ ?_
 ·simp(disch:=first|omega|(simp only[AJ];omega))only[AI,↓AB,↓reduceIte,seval]
  refine⟨0,by omega,by omega,?_⟩
  refine⟨?_,?_,?_,?_,rfl,AU.refl _ _⟩
  all_goals first|trivial|rfl
 rintro I hI m t g2 ⟨i,rfl,hi,f1,f16,f17,f18,hup,st⟩
 have o2:=o1.stay st fun e=>e
 have r2:=o2.row
 have a2:=a1.grow st
 have hf2:=st.fl (s1.fl hf)
 by_cases hil:i<e.Af.length
 case neg=>
  obtain rfl:i=e.Af.length:=by omega
  have d3:((e.Af.length:Int)<(e.Af.length:Int))=False:=eq_false (by omega)
  repeat' (first
   |refine St.h ?_
   |simp(disch:=first|omega|(simp only[AJ];omega))only[AI,↓AB,↓reduceIte,seval,f1,f16,f17,f18,d3,r2.l1]
   |(with_reducible (first|apply AD|apply AE))<;>(intro hc;(try simp only[Ab]at hc);(try simp only[hc]);(try simp only[Aa]at hc);try omega))
  refine CL.pure Hc ?_
  cases c1:decide (0<=e.log/\e.log<=1000000)with
  |false=>
   repeat' (first
    |refine St.h ?_
    |simp(disch:=first|omega|(simp only[AJ];omega))only[AI,↓AB,↓reduceIte,seval,f1,c1]
    |(with_reducible (first|apply AD|apply AE))<;>(intro hc;(try simp only[Ab]at hc);(try simp only[hc]);(try simp only[Aa]at hc);try omega))
   subst hQ
   exact⟨congrArg V.b (fin _ (by rw[c1,hup];rfl)).symm,s1.trans st⟩
  |true=>
   repeat' (first
    |refine St.h ?_
    |simp(disch:=first|omega|(simp only[AJ];omega))only[AI,↓AB,↓reduceIte,seval,f1,c1,r2.l1]
    |(with_reducible (first|apply AD|apply AE))<;>(intro hc;(try simp only[Ab]at hc);(try simp only[hc]);(try simp only[Aa]at hc);try omega))
   refine CL.pure Hc ?_
   repeat' (first
    |refine St.h ?_
    |simp(disch:=first|omega|(simp only[AJ];omega))only[AI,↓AB,↓reduceIte,seval]
    |(with_reducible (first|apply AD|apply AE))<;>(intro hc;(try simp only[Ab]at hc);(try simp only[hc]);(try simp only[Aa]at hc);try omega))
   subst hQ
   exact⟨congrArg V.b (fin _ (by rw[c1,hup];rfl)).symm,s1.trans st⟩
 have d3:((i:Int)<(e.Af.length:Int))=True:=eq_true (by omega)
 have no:Ot e.Af i=false->(Ir e.Af e.Af.length&&(decide (0<=e.log/\e.log<=1000000)&&decide (0<=e.seq/\e.seq<=1000000)))=false:=fun hx=>by rw[Ua hil hx];rfl
 repeat' (first
  |refine St.h ?_
  |simp(disch:=first|omega|(simp only[AJ];omega))only[AI,↓AB,↓reduceIte,seval,f1,f16,f17,f18,d3,a2.2.ix,a2.2.la,Int.toNat_natCast]
  |(with_reducible (first|apply AD|apply AE))<;>(intro hc;(try simp only[Ab]at hc);(try simp only[hc]);(try simp only[Aa]at hc);try omega))
 refine AL.own (by simp) hf2 fun g3 s3 n3 o3=>?_
 have hf3:=s3.fl hf2
 repeat' (first
  |refine St.h ?_
  |simp(disch:=first|omega|(simp only[AJ];omega))only[AI,↓AB,↓reduceIte,seval,f1,f16,f17,f18]
  |(with_reducible (first|apply AD|apply AE))<;>(intro hc;(try simp only[Ab]at hc);(try simp only[hc]);(try simp only[Aa]at hc);try omega))
 refine ST.all o3 rfl rfl (by simp) (by simp) fun g4 o4 s4=>?_
 have s34:AU AQ g2 g4:=s3.Cv s4 fun q e=>by rw[e];exact Nat.le_refl _
 have hf4:=s34.fl hf2
 have r4:=o4.row
 repeat' (first
  |refine St.h ?_
  |simp(disch:=first|omega|(simp only[AJ];omega))only[AI,↓AB,↓reduceIte,seval,f1,f16,f17,f18,r4.ln]
  |(with_reducible (first|apply AD|apply AE))<;>(intro hc;(try simp only[Ab]at hc);(try simp only[hc]);(try simp only[Aa]at hc);try omega))
 refine CL.stay (eS hf4) fun g5 s5=>?_
 have st5:=st.trans (s34.trans s5)
 have r5:=(o4.stay s5 fun e=>e).row
 have q5:=(o1.stay st5 fun e=>e).row
 have a5:=a1.grow st5
 cases hb:FW (e.Af.getD i default)with
 |false=>
  repeat' (first
   |refine St.h ?_
   |simp(disch:=first|omega|(simp only[AJ];omega))only[AI,↓AB,↓reduceIte,seval,f1,f16,f17,f18]
   |(with_reducible (first|apply AD|apply AE))<;>(intro hc;(try simp only[Ab]at hc);(try simp only[hc]);(try simp only[Aa]at hc);try omega))
  subst hQ
  exact⟨congrArg V.b (fin _ (no (by unfold Ot;rw[hb];rfl))).symm,s1.trans st5⟩
 |true=>
 by_cases h0:i=0
 ·have hu:Ot e.Af i=true:=by unfold Ot;rw[hb,decide_eq_true h0];rfl
  have d4:((0:Int)<(i:Int))=False:=eq_false (by omega)
  repeat' (first
   |refine St.h ?_
   |simp(disch:=first|omega|(simp only[AJ];omega))only[AI,↓AB,↓reduceIte,seval,f1,f16,f17,f18,d4]
   |(with_reducible (first|apply AD|apply AE))<;>(intro hc;(try simp only[Ab]at hc);(try simp only[hc]);(try simp only[Aa]at hc);try omega))
  exact Aw hI (e.Af.length-(i+1)) (by omega) ⟨i+1,rfl,by omega,by simp(disch:=first|omega|(simp only[AJ];omega))only[AI,↓AB,↓reduceIte,seval,f1],by simp(disch:=first|omega|(simp only[AJ];omega))only[AI,↓AB,↓reduceIte,seval,f16],by simp(disch:=first|omega|(simp only[AJ];omega))only[AI,↓AB,↓reduceIte,seval,f17],by simp(disch:=first|omega|(simp only[AJ];omega))only[AI,↓AB,↓reduceIte,seval,f18];rfl,by rw[Kg,hup,hu];rfl,st5⟩
 ·have d4:((0:Int)<(i:Int))=True:=eq_true (by omega)
  have ei:((i:Int)-1).toNat=i-1:=by omega
  by_cases hlt:(e.Af.getD (i-1) default).id<(e.Af.getD i default).id
  ·have hu:Ot e.Af i=true:=by unfold Ot;rw[hb,decide_eq_true hlt,Bool.or_true];rfl
   have d5:((e.Af.getD i default).id<=(e.Af.getD (i-1) default).id)=False:=eq_false (by omega)
   repeat' (first
    |refine St.h ?_
    |simp(disch:=first|omega|(simp only[AJ];omega))only[AI,↓AB,↓reduceIte,seval,f1,f16,f17,f18,d4,d5,ei,q5.l1,r5.l1,a5.2.ix,a5.2.l0,Int.toNat_natCast]
    |(with_reducible (first|apply AD|apply AE))<;>(intro hc;(try simp only[Ab]at hc);(try simp only[hc]);(try simp only[Aa]at hc);try omega))
   exact Aw hI (e.Af.length-(i+1)) (by omega) ⟨i+1,rfl,by omega,by simp(disch:=first|omega|(simp only[AJ];omega))only[AI,↓AB,↓reduceIte,seval,f1],by simp(disch:=first|omega|(simp only[AJ];omega))only[AI,↓AB,↓reduceIte,seval,f16],by simp(disch:=first|omega|(simp only[AJ];omega))only[AI,↓AB,↓reduceIte,seval,f17],by simp(disch:=first|omega|(simp only[AJ];omega))only[AI,↓AB,↓reduceIte,seval,f18];rfl,by rw[Kg,hup,hu];rfl,st5⟩
  ·have hu:Ot e.Af i=false:=by unfold Ot;rw[hb,decide_eq_false hlt,decide_eq_false h0];rfl
   have d5:((e.Af.getD i default).id<=(e.Af.getD (i-1) default).id)=True:=eq_true (by omega)
   repeat' (first
    |refine St.h ?_
    |simp(disch:=first|omega|(simp only[AJ];omega))only[AI,↓AB,↓reduceIte,seval,f1,f16,f17,f18,d4,d5,ei,q5.l1,r5.l1,a5.2.ix,a5.2.l0,Int.toNat_natCast]
    |(with_reducible (first|apply AD|apply AE))<;>(intro hc;(try simp only[Ab]at hc);(try simp only[hc]);(try simp only[Aa]at hc);try omega))
   subst hQ
   exact⟨congrArg V.b (fin _ (no hu)).symm,s1.trans st5⟩
def KP (h:H) (b:B) (v:V) (S:Ix):Prop:=Ev.DM h b [v,.i .i64 S.log,.i .i64 S.seq,.i .i64 S.next]/\E9 h v S.L/\∀ q,Am v q->q≠b
theorem KP.grow {h h':H} {b:B} {v:V} {S:Ix} (a:KP h b v S) (s:AU AQ h h'):KP h' b v S:=⟨a.1.stay s fun e=>e,a.2.1.grow s,a.2.2⟩
theorem KP.stay {h h':H} {p:B->Prop} {b:B} {v:V} {S:Ix} (a:KP h b v S) (s:AU p h h') (h1:¬p b) (h2:∀ q,Am v q->¬p q):KP h' b v S:=⟨a.1.stay s h1,Ss.stay a.2.1 s h2,a.2.2⟩
theorem KP.lt {h:H} {b:B} {v:V} {S:Ix} (a:KP h b v S):B.val b<B.val h.next/\∀ q,Am v q->B.val q<B.val h.next:=by
 obtain⟨⟨Ak,h1,h2,h3,h4,h5,h6,h7⟩,a2,a3⟩:=a
 refine⟨h6,?_⟩
 rcases a2 with⟨rfl,_⟩|⟨id,g,off,fin,cap,rfl,_,hl,_⟩
 ·rintro q ⟨_,_,_,_,_,e⟩;cases e
 ·rintro q ⟨_,_,_,_,_,e⟩;cases e;exact hl
theorem Tn {h:H} (hf:B.val h.floor<=B.val h.next):BO Try.prog 17 [] h fun y h'=>y=.p h.next 0 0 4/\KP h' h.next .l0 ZZ/\B.val h'.next=B.val h.next+1/\AU AQ h h':=by
 refine BK yb (by intro hb;cases hb) (by simp) (by simp) fun Q hQ=>?_
 simp only[Av,Nat.reduceAdd]
 repeat' (first
  |refine St.h ?_
  |simp(disch:=first|omega|(simp only[AJ];omega))only[AI,↓AB,↓reduceIte,seval]
  |(with_reducible (first|apply AD|apply AE))<;>(intro hc;(try simp only[Ab]at hc);(try simp only[hc]);(try simp only[Aa]at hc);try omega))
 refine AL.own (by simp) hf fun h1 s1 n1 o1=>?_
 repeat' (first
  |refine St.h ?_
  |simp(disch:=first|omega|(simp only[AJ];omega))only[AI,↓AB,↓reduceIte,seval]
  |(with_reducible (first|apply AD|apply AE))<;>(intro hc;(try simp only[Ab]at hc);(try simp only[hc]);(try simp only[Aa]at hc);try omega))
 subst hQ
 exact⟨rfl,⟨o1,Ss.nil,by rintro q ⟨_,_,_,_,_,e⟩;cases e⟩,n1,s1⟩
section
variable {h:H} {b:B} {v:V} {S:Ix}
theorem M7 (a:KP h b v S) (hl:S.L.length<=1000) (hf:B.val h.floor<=B.val h.next):BO Try.prog 26 [.p b 0 0 4] h fun y h'=>Rt h' y S.L/\(∀ q,Am y q->B.val h.next<=B.val q)/\AU AQ h h':=by
 have r:=a.1.row
 refine BK yC (by intro hb;cases hb) (by simp) (by simp) fun Q hQ=>?_
 simp only[Av,Nat.reduceAdd]
 repeat' (first
  |refine St.h ?_
  |simp(disch:=first|omega|(simp only[AJ];omega))only[AI,↓AB,↓reduceIte,seval,r.l1]
  |(with_reducible (first|apply AD|apply AE))<;>(intro hc;(try simp only[Ab]at hc);(try simp only[hc]);(try simp only[Aa]at hc);try omega))
 refine CL.mk (Pa a.2.1 hl hf) ?_
 rintro y h1 ⟨r1,r2,r3⟩
 repeat' (first
  |refine St.h ?_
  |simp(disch:=first|omega|(simp only[AJ];omega))only[AI,↓AB,↓reduceIte,seval]
  |(with_reducible (first|apply AD|apply AE))<;>(intro hc;(try simp only[Ab]at hc);(try simp only[hc]);(try simp only[Aa]at hc);try omega))
 subst hQ
 exact⟨r1,r2,r3⟩
/--append(u,x) of a table -/
theorem NT {h:H} {u:V} {M:List BN} {x:BN} {id:B} {N:Nx} (rb:Rt h u M) (o:Ev.DM h id (Lb x)) (hl:M.length<=10000) (hf:B.val h.floor<=B.val h.next)
 (k:∀ u' h',Rt h' u' (M++[x])->AU (Am u) h h'->(∀ i,Am u' i->Am u i\/B.val h.next<=B.val i)->N.go Try.prog u' h'):AP Try.prog 57 5 u (.l id 0 0 1 5 (some 1)) h N:=
 AP.gr (X:=[x]) rb Be (by omega) (fun k=>by
  have:=Li (size:=5) (ER:=1) (fin:=5) (cap:=some 1) o.row rfl (Nat.le_refl _) (by omega) (by show 5<=5;omega) k
  rw[this];simp[List.flatMap_cons]) (Tw _) (by simp) (by simp;omega) hf k
theorem IL {k:Int} (a:KP h b v S) (hl:S.L.length<=1000) (hf:B.val h.floor<=B.val h.next):BO Try.prog 25 [.p b 0 0 4,.i .i64 k] h fun y h'=>Rt h' y (S.L.filter fun t=>decide (t.A8=k))/\(∀ q,Am y q->B.val h.next<=B.val q)/\AU AQ h h':=by
 have r:=a.1.row
 have filt:∀ j,j<S.L.length->(S.L.take (j+1)).filter (fun t=>decide (t.A8=k))=(S.L.take j).filter (fun t=>decide (t.A8=k))++(if (S.L.getD j default).A8=k then [S.L.getD j default]else []):=fun j hj=>by
  have:S.L.take (j+1)=S.L.take j++[S.L.getD j default]:=by rw[List.take_succ];simp[List.getD,hj]
  rw[this,List.filter_append]
  by_cases hb:(S.L.getD j default).A8=k
  ·rw[List.filter_cons,decide_eq_true hb,if_pos hb];rfl
  ·rw[List.filter_cons,decide_eq_false hb,if_neg hb];rfl
 refine BK xz (by intro hb;cases hb) (by simp) (by simp) fun Q hQ=>?_
 simp only[Av,Nat.reduceAdd]
 repeat' (first
  |refine St.h ?_
  |simp(disch:=first|omega|(simp only[AJ];omega))only[AI,↓AB,↓reduceIte,seval,r.l1,a.2.1.ln]
  |(with_reducible (first|apply AD|apply AE))<;>(intro hc;(try simp only[Ab]at hc);(try simp only[hc]);(try simp only[Aa]at hc);try omega))
 refine Ok.lp (fun m t g=>∃ (i:Nat) (u:V),m=S.L.length-i/\i<=S.L.length/\get 1 t=.i .i64 k/\get 5 t=u/\get 11 t=v/\get 12 t=.i .i64 (S.L.length:Int)/\get 13 t=.i .i64 (i:Int)/\Rt g u ((S.L.take i).filter fun t=>decide (t.A8=k))/\(∀ q,Am u q->B.val h.next<=B.val q)/\AU AQ h g) S.L.length ?_ ?_
 ·simp(disch:=first|omega|(simp only[AJ];omega))only[AI,↓AB,↓reduceIte,seval]
  refine⟨0,.l0,by omega,by omega,?_⟩
  refine⟨?_,?_,?_,?_,?_,Gr.nil,?_,AU.refl _ _⟩
  rotate_right
  ·rintro i ⟨_,_,_,_,_,e⟩;cases e
  all_goals first|trivial|rfl
 rintro I hI m t g ⟨i,u,rfl,hi,f1,f5,f11,f12,f13,bu,own,st⟩
 have hfg:=st.fl hf
 have Lg:=a.2.1.grow st
 by_cases hil:i<S.L.length
 case neg=>
  obtain rfl:i=S.L.length:=by omega
  rw[List.take_length]at bu
  have d1:((S.L.length:Int)<(S.L.length:Int))=False:=eq_false (by omega)
  repeat' (first
   |refine St.h ?_
   |simp(disch:=first|omega|(simp only[AJ];omega))only[AI,↓AB,↓reduceIte,seval,f1,f5,f11,f12,f13,d1]
   |(with_reducible (first|apply AD|apply AE))<;>(intro hc;(try simp only[Ab]at hc);(try simp only[hc]);(try simp only[Aa]at hc);try omega))
  subst hQ
  exact⟨bu,own,st⟩
 have d1:((i:Int)<(S.L.length:Int))=True:=eq_true (by omega)
 repeat' (first
  |refine St.h ?_
  |simp(disch:=first|omega|(simp only[AJ];omega))only[AI,↓AB,↓reduceIte,seval,f1,f5,f11,f12,f13,d1,Lg.ix,Lg.la,Int.toNat_natCast]
  |(with_reducible (first|apply AD|apply AE))<;>(intro hc;(try simp only[Ab]at hc);(try simp only[hc]);(try simp only[Aa]at hc);try omega))
 refine AL.own (by simp) hfg fun g1 t1 _ o1=>?_
 have hf1:=t1.fl hfg
 repeat' (first
  |refine St.h ?_
  |simp(disch:=first|omega|(simp only[AJ];omega))only[AI,↓AB,↓reduceIte,seval,f1,f5,f11,f12,f13]
  |(with_reducible (first|apply AD|apply AE))<;>(intro hc;(try simp only[Ab]at hc);(try simp only[hc]);(try simp only[Aa]at hc);try omega))
 refine ST.all o1 rfl rfl (by simp) (by simp) fun g2 o2 t2=>?_
 have tt:AU AQ g g2:=t1.Cv t2 fun q hq=>by rw[hq];exact Nat.le_refl _
 have hf2:=tt.fl hfg
 have b2:=bu.grow tt
 have r2:=o2.row
 have hlen:((S.L.take i).filter fun t=>decide (t.A8=k)).length<=1000:=by
  have:=List.length_filter_le (fun t:BN=>decide (t.A8=k)) (S.L.take i)
  rw[List.length_take]at this;omega
 by_cases hk:(S.L.getD i default).A8=k
 ·have d2:=eq_true hk
  repeat' (first
   |refine St.h ?_
   |simp(disch:=first|omega|(simp only[AJ];omega))only[AI,↓AB,↓reduceIte,seval,f1,f5,f11,f12,f13,d2,r2.l1,r2.ln]
   |(with_reducible (first|apply AD|apply AE))<;>(intro hc;(try simp only[Ab]at hc);(try simp only[hc]);(try simp only[Aa]at hc);try omega))
  refine AL.own (by simp) hf2 fun g3 t3 _ o3=>?_
  repeat' (first
   |refine St.h ?_
   |simp(disch:=first|omega|(simp only[AJ];omega))only[AI,↓AB,↓reduceIte,seval,f1,f5,f11,f12,f13]
   |(with_reducible (first|apply AD|apply AE))<;>(intro hc;(try simp only[Ab]at hc);(try simp only[hc]);(try simp only[Aa]at hc);try omega))
  refine NT (x:=S.L.getD i default) (b2.grow t3) o3 (by omega) (t3.fl hf2) fun u4 g4 b4 t4 own4=>?_
  repeat' (first
   |refine St.h ?_
   |simp(disch:=first|omega|(simp only[AJ];omega))only[AI,↓AB,↓reduceIte,seval,f1,f5,f11,f12,f13]
   |(with_reducible (first|apply AD|apply AE))<;>(intro hc;(try simp only[Ab]at hc);(try simp only[hc]);(try simp only[Aa]at hc);try omega))
  refine Aw hI (S.L.length-(i+1)) (by omega) ⟨i+1,u4,rfl,by omega,by simp(disch:=first|omega|(simp only[AJ];omega))only[AI,↓AB,↓reduceIte,seval,f1],by simp(disch:=first|omega|(simp only[AJ];omega))only[AI,↓AB,↓reduceIte,seval],by simp(disch:=first|omega|(simp only[AJ];omega))only[AI,↓AB,↓reduceIte,seval,f11],by simp(disch:=first|omega|(simp only[AJ];omega))only[AI,↓AB,↓reduceIte,seval,f12],by simp(disch:=first|omega|(simp only[AJ];omega))only[AI,↓AB,↓reduceIte,seval,f13];rfl,by rw[filt i hil,if_pos hk];exact b4,fun q hq=>?_,(st.trans (tt.trans t3)).Cv t4 fun q hq=>own q hq⟩
  rcases own4 q hq with h5|h5
  ·exact own q h5
  ·exact Nat.le_trans (st.trans (tt.trans t3)).next h5
 ·have d2:=eq_false hk
  repeat' (first
   |refine St.h ?_
   |simp(disch:=first|omega|(simp only[AJ];omega))only[AI,↓AB,↓reduceIte,seval,f1,f5,f11,f12,f13,d2,r2.l1,r2.ln]
   |(with_reducible (first|apply AD|apply AE))<;>(intro hc;(try simp only[Ab]at hc);(try simp only[hc]);(try simp only[Aa]at hc);try omega))
  exact Aw hI (S.L.length-(i+1)) (by omega) ⟨i+1,u,rfl,by omega,by simp(disch:=first|omega|(simp only[AJ];omega))only[AI,↓AB,↓reduceIte,seval,f1],by simp(disch:=first|omega|(simp only[AJ];omega))only[AI,↓AB,↓reduceIte,seval,f5],by simp(disch:=first|omega|(simp only[AJ];omega))only[AI,↓AB,↓reduceIte,seval,f11],by simp(disch:=first|omega|(simp only[AJ];omega))only[AI,↓AB,↓reduceIte,seval,f12],by simp(disch:=first|omega|(simp only[AJ];omega))only[AI,↓AB,↓reduceIte,seval,f13];rfl,by rw[filt i hil,if_neg hk,List.append_nil];exact b2,own,st.trans tt⟩
theorem MF {k:Int} (a:KP h b v S) (hl:S.L.length<=1000) (hf:B.val h.floor<=B.val h.next):BO Try.prog 25 [.p b 0 0 4,.i .i64 k] h fun y h'=>E9 h' y (S.L.filter fun t=>decide (t.A8=k))/\AU AQ h h':=(IL a hl hf).mono fun _ _ ⟨p,_,q⟩=>⟨p.DY,q⟩
end
end Go.Proofs.Ytobfgempjekjpaa
set_option maxRecDepth 100000
set_option maxHeartbeats 8000000
namespace Go.Ev
open Go
theorem E9.wZ {P:Program} {h g':H} {N:Nx} {v:V} {L:List BN} (a:E9 h v L) (hi:0<L.length):IX P 5 v 0 g' N=N.go P (.p (Fb v) (lg v) (Cf v) (Cg v)) g':=by have:=a.ix (P:=P) (N:=N) (g':=g') hi;rwa [Nat.zero_mul,Nat.add_zero]at this
theorem E9.xl {P:Program} {h:H} {N:Nx} {v:V} {L:List BN} (a:E9 h v L) (hi:0<L.length):L1 P (Fb v) (lg v) (Cf v) (Cg v) h N=N.go P (.i .i64 (L.getD 0 default).id) h:=by have:=a.l0 (P:=P) (N:=N) hi;rwa [Nat.zero_mul,Nat.add_zero]at this
end Go.Ev
namespace Go.Proofs.Ytobfgempjekjpaa
open Go Go.Ev
section
variable {h:H} {b:B} {v g c:V} {S:Ix} {e:Kc}
theorem Tf {q:B} {x:Int} {t:BN} (o:Ev.DM h q [.i .i64 x]) (hf:B.val h.floor<=B.val h.next):BO Try.prog 58 [.a [.i .i64 t.id,.i .i64 t.A8,sv t.fst,sv t.Da,.i .i64 t.ER],.p q 0 0 1] h fun y h'=>y=.b (decide (t.id=x))/\AU AQ h h':=by
 refine BK xG (by intro hb;cases hb) (by simp) (by simp) fun Q hQ=>?_
 simp only[Av,Nat.reduceAdd]
 repeat' (first
  |refine St.h ?_
  |simp(disch:=first|omega|(simp only[AJ];omega))only[AI,↓AB,↓reduceIte,seval]
  |(with_reducible (first|apply AD|apply AE))<;>(intro hc;(try simp only[Ab]at hc);(try simp only[hc]);(try simp only[Aa]at hc);try omega))
 refine AL.own (by simp) hf fun h1 s1 n1 o1=>?_
 have r1:=o1.row
 have q1:=(o.stay s1 fun e=>e).row
 repeat' (first
  |refine St.h ?_
  |simp(disch:=first|omega|(simp only[AJ];omega))only[AI,↓AB,↓reduceIte,seval,r1.l1,q1.l1]
  |(with_reducible (first|apply AD|apply AE))<;>(intro hc;(try simp only[Ab]at hc);(try simp only[hc]);(try simp only[Aa]at hc);try omega))
 subst hQ
 exact⟨rfl,s1⟩
theorem QO {xs:List Int} (a:KP h b v S) (hg:Il h g xs) (hx:xs.length<=1000) (hl:S.L.length<=1000) (hf:B.val h.floor<=B.val h.next):BO Try.prog 42 [.p b 0 0 4,g] h fun y h'=>y=.b (SD S.L xs)/\AU AQ h h':=by
 refine BK xa (by intro hb;cases hb) (by simp) (by simp) fun Q hQ=>?_
 simp only[Av,Nat.reduceAdd]
 repeat' (first
  |refine St.h ?_
  |simp(disch:=first|omega|(simp only[AJ];omega))only[AI,↓AB,↓reduceIte,seval,hg.ln]
  |(with_reducible (first|apply AD|apply AE))<;>(intro hc;(try simp only[Ab]at hc);(try simp only[hc]);(try simp only[Aa]at hc);try omega))
 refine Ok.lp (fun m t g'=>∃ i:Nat,m=xs.length-i/\i<=xs.length/\get 0 t=.p b 0 0 4/\get 7 t=g/\get 8 t=.i .i64 (xs.length:Int)/\get 9 t=.i .i64 (i:Int)/\(∀ k,k<i->S.L.any (fun t=>decide (t.id=xs.getD k 0))=true)/\AU AQ h g') xs.length ?_ ?_
 ·simp(disch:=first|omega|(simp only[AJ];omega))only[AI,↓AB,↓reduceIte,seval]
  refine⟨0,by omega,by omega,?_⟩
  refine⟨?_,?_,?_,?_,fun k hk=>by omega,AU.refl _ _⟩
  all_goals first|trivial|rfl
 rintro I hI m t g2 ⟨i,rfl,hi,f0,f7,f8,f9,hall,st⟩
 have a2:=a.grow st
 have q2:=a2.1.row
 have hg2:=hg.grow st
 have hf2:=st.fl hf
 by_cases hil:i<xs.length
 case neg=>
  obtain rfl:i=xs.length:=by omega
  have d1:((xs.length:Int)<(xs.length:Int))=False:=eq_false (by omega)
  repeat' (first
   |refine St.h ?_
   |simp(disch:=first|omega|(simp only[AJ];omega))only[AI,↓AB,↓reduceIte,seval,f0,f7,f8,f9,d1]
   |(with_reducible (first|apply AD|apply AE))<;>(intro hc;(try simp only[Ab]at hc);(try simp only[hc]);(try simp only[Aa]at hc);try omega))
  subst hQ
  refine⟨congrArg V.b (Eq.symm (List.all_eq_true.2 fun x hx=>?_)),st⟩
  obtain⟨k,hk,rfl⟩:=List.mem_iff_getElem.1 hx
  have:=hall k hk
  rwa [List.getD_eq_getElem?_getD,List.getElem?_eq_getElem hk]at this
 have d1:((i:Int)<(xs.length:Int))=True:=eq_true (by omega)
 repeat' (first
  |refine St.h ?_
  |simp(disch:=first|omega|(simp only[AJ];omega))only[AI,↓AB,↓reduceIte,seval,f0,f7,f8,f9,d1,hg2.ix,hg2.ld,Int.toNat_natCast]
  |(with_reducible (first|apply AD|apply AE))<;>(intro hc;(try simp only[Ab]at hc);(try simp only[hc]);(try simp only[Aa]at hc);try omega))
 refine AL.own (by simp) hf2 fun g3 s3 n3 o3=>?_
 have hf3:=s3.fl hf2
 repeat' (first
  |refine St.h ?_
  |simp(disch:=first|omega|(simp only[AJ];omega))only[AI,↓AB,↓reduceIte,seval,f0,f7,f8,f9]
  |(with_reducible (first|apply AD|apply AE))<;>(intro hc;(try simp only[Ab]at hc);(try simp only[hc]);(try simp only[Aa]at hc);try omega))
 refine ST.all o3 rfl rfl (by simp) (by simp) fun g4 o4 s4=>?_
 have s34:AU AQ g2 g4:=s3.Cv s4 fun q e=>by rw[e];exact Nat.le_refl _
 have hf4:=s34.fl hf2
 have a4:=a2.grow s34
 have q4:=a4.1.row
 repeat' (first
  |refine St.h ?_
  |simp(disch:=first|omega|(simp only[AJ];omega))only[AI,↓AB,↓reduceIte,seval,f0,f7,f8,f9,q4.l1]
  |(with_reducible (first|apply AD|apply AE))<;>(intro hc;(try simp only[Ab]at hc);(try simp only[hc]);(try simp only[Aa]at hc);try omega))
 refine CL.stay (TF (P:=fun t=>decide (t.id=xs.getD i 0)) a4.2.1 hl hf4 fun k t sk ht=>Tf (o4.stay sk fun e=>e) (sk.fl hf4)) fun g5 s5=>?_
 have st5:=st.trans (s34.trans s5)
 cases hb:S.L.any (fun t=>decide (t.id=xs.getD i 0))with
 |false=>
  repeat' (first
   |refine St.h ?_
   |simp(disch:=first|omega|(simp only[AJ];omega))only[AI,↓AB,↓reduceIte,seval,f0,f7,f8,f9]
   |(with_reducible (first|apply AD|apply AE))<;>(intro hc;(try simp only[Ab]at hc);(try simp only[hc]);(try simp only[Aa]at hc);try omega))
  subst hQ
  refine⟨congrArg V.b (Eq.symm (List.all_eq_false.2 ⟨xs.getD i 0,?_,by rw[hb];simp⟩)),st5⟩
  simp[List.getD,hil]
 |true=>
  repeat' (first
   |refine St.h ?_
   |simp(disch:=first|omega|(simp only[AJ];omega))only[AI,↓AB,↓reduceIte,seval,f0,f7,f8,f9]
   |(with_reducible (first|apply AD|apply AE))<;>(intro hc;(try simp only[Ab]at hc);(try simp only[hc]);(try simp only[Aa]at hc);try omega))
  refine Aw hI (xs.length-(i+1)) (by omega) ⟨i+1,rfl,by omega,by simp(disch:=first|omega|(simp only[AJ];omega))only[AI,↓AB,↓reduceIte,seval,f0],by simp(disch:=first|omega|(simp only[AJ];omega))only[AI,↓AB,↓reduceIte,seval,f7],by simp(disch:=first|omega|(simp only[AJ];omega))only[AI,↓AB,↓reduceIte,seval,f8],by simp(disch:=first|omega|(simp only[AJ];omega))only[AI,↓AB,↓reduceIte,seval,f9];rfl,fun k k1=>?_,st5⟩
  by_cases e:k=i
  ·rw[e];exact hb
  ·exact hall k (by omega)
theorem Ux (a:KP h b v S) (m:SF h g c e) (hf:B.val h.floor<=B.val h.next):BO Try.prog 43 [.p b 0 0 4,.a [g,c,.i .i64 e.log,.i .i64 e.seq]] h fun y h'=>y=.b (GC S e)/\AU AQ h h':=by
 refine BK xu (by intro hb;cases hb) (by simp) (by simp) fun Q hQ=>?_
 simp only[Av,Nat.reduceAdd]
 repeat' (first
  |refine St.h ?_
  |simp(disch:=first|omega|(simp only[AJ];omega))only[AI,↓AB,↓reduceIte,seval]
  |(with_reducible (first|apply AD|apply AE))<;>(intro hc;(try simp only[Ab]at hc);(try simp only[hc]);(try simp only[Aa]at hc);try omega))
 refine AL.own (by simp) hf fun h1 s1 n1 o1=>?_
 have r1:=o1.row
 have q1:=(a.grow s1).1.row
 have m1:=m.grow s1
 have k0:((0:Int)<(e.Af.length:Int))=(0<e.Af.length):=propext (by omega)
 have hp:GC S e=true↔((0<e.Af.length/\(e.Af.getD 0 default).id<S.next)\/(0<e.log/\e.log<S.log)\/(0<e.seq/\e.seq<S.seq)):=by
  unfold GC;rw[Bool.or_eq_true,Bool.or_eq_true,Bool.and_eq_true,Bool.and_eq_true,Bool.and_eq_true];simp only[decide_eq_true_eq];omega
 repeat' (first
  |refine St.h ?_
  |simp(disch:=first|omega|(simp only[AJ];omega))only[AI,↓AB,↓reduceIte,seval,r1.l1,q1.l1,m1.2.ln,k0,m1.2.wZ,m1.2.xl]
  |(with_reducible (first|apply AD|apply AE))<;>(intro hc;(try simp only[Ab]at hc);(try simp only[hc]);(try simp only[Aa]at hc);try omega))
 all_goals
  subst hQ
  refine⟨congrArg V.b ?_,s1⟩
  rw[Bool.eq_iff_iff,hp]
  generalize (e.Af.getD 0 default).id=x at*
  simp
  omega
theorem Te {q:B} {x y:V} {xs:List Int} {t:BN} (o:Ev.DM h q [g,c,x,y]) (hg:Il h g xs) (hx:xs.length<=1000) (hf:B.val h.floor<=B.val h.next):BO Try.prog 60 [.a [.i .i64 t.id,.i .i64 t.A8,sv t.fst,sv t.Da,.i .i64 t.ER],.p q 0 0 4] h fun y h'=>y=.b (KW xs t.id)/\AU AQ h h':=by
 refine BK xb (by intro hb;cases hb) (by simp) (by simp) fun Q hQ=>?_
 simp only[Av,Nat.reduceAdd]
 repeat' (first
  |refine St.h ?_
  |simp(disch:=first|omega|(simp only[AJ];omega))only[AI,↓AB,↓reduceIte,seval]
  |(with_reducible (first|apply AD|apply AE))<;>(intro hc;(try simp only[Ab]at hc);(try simp only[hc]);(try simp only[Aa]at hc);try omega))
 refine AL.own (by simp) hf fun h1 s1 n1 o1=>?_
 have r1:=o1.row
 have q1:=(o.stay s1 fun e=>e).row
 repeat' (first
  |refine St.h ?_
  |simp(disch:=first|omega|(simp only[AJ];omega))only[AI,↓AB,↓reduceIte,seval,r1.l1,q1.l1]
  |(with_reducible (first|apply AD|apply AE))<;>(intro hc;(try simp only[Ab]at hc);(try simp only[hc]);(try simp only[Aa]at hc);try omega))
 refine CL.pure (TI (hg.grow s1) hx) ?_
 repeat' (first
  |refine St.h ?_
  |simp(disch:=first|omega|(simp only[AJ];omega))only[AI,↓AB,↓reduceIte,seval]
  |(with_reducible (first|apply AD|apply AE))<;>(intro hc;(try simp only[Ab]at hc);(try simp only[hc]);(try simp only[Aa]at hc);try omega))
 subst hQ
 exact⟨rfl,s1⟩
theorem VY {u:V} {M:List BN} (hM:E9 h u M) (hl:M.length<=1000) (hf:B.val h.floor<=B.val h.next):BO Try.prog 45 [u] h fun y h'=>y=.b (F7 M)/\AU AQ h h':=by
 refine BK xm (by intro hb;cases hb) (by simp) (by simp) fun Q hQ=>?_
 simp only[Av,Nat.reduceAdd]
 repeat' (first
  |refine St.h ?_
  |simp(disch:=first|omega|(simp only[AJ];omega))only[AI,↓AB,↓reduceIte,seval,hM.ln]
  |(with_reducible (first|apply AD|apply AE))<;>(intro hc;(try simp only[Ab]at hc);(try simp only[hc]);(try simp only[Aa]at hc);try omega))
 refine Ok.lp (fun m t g'=>∃ i:Nat,m=M.length-i/\i<=M.length/\get 0 t=u/\get 5 t=u/\get 6 t=.i .i64 (M.length:Int)/\get 7 t=.i .i64 (i:Int)/\(∀ k,k<i->Gu M k=false)/\AU AQ h g') M.length ?_ ?_
 ·simp(disch:=first|omega|(simp only[AJ];omega))only[AI,↓AB,↓reduceIte,seval]
  refine⟨0,by omega,by omega,?_⟩
  refine⟨?_,?_,?_,?_,fun k hk=>by omega,AU.refl _ _⟩
  all_goals first|trivial|rfl
 rintro I hI m t g2 ⟨i,rfl,hi,f0,f5,f6,f7,hall,st⟩
 have M2:=hM.grow st
 have hf2:=st.fl hf
 by_cases hil:i<M.length
 case neg=>
  obtain rfl:i=M.length:=by omega
  have d1:((M.length:Int)<(M.length:Int))=False:=eq_false (by omega)
  repeat' (first
   |refine St.h ?_
   |simp(disch:=first|omega|(simp only[AJ];omega))only[AI,↓AB,↓reduceIte,seval,f0,f5,f6,f7,d1]
   |(with_reducible (first|apply AD|apply AE))<;>(intro hc;(try simp only[Ab]at hc);(try simp only[hc]);(try simp only[Aa]at hc);try omega))
  subst hQ
  refine⟨congrArg V.b (Eq.symm (List.any_eq_false.2 fun k hk=>?_)),st⟩
  rw[hall k (List.mem_range.1 hk)];simp
 have d1:((i:Int)<(M.length:Int))=True:=eq_true (by omega)
 repeat' (first
  |refine St.h ?_
  |simp(disch:=first|omega|(simp only[AJ];omega))only[AI,↓AB,↓reduceIte,seval,f0,f5,f6,f7,d1,M2.ix,M2.la,Int.toNat_natCast]
  |(with_reducible (first|apply AD|apply AE))<;>(intro hc;(try simp only[Ab]at hc);(try simp only[hc]);(try simp only[Aa]at hc);try omega))
 refine AL.own (by simp) hf2 fun g3 s3 n3 o3=>?_
 have hf3:=s3.fl hf2
 repeat' (first
  |refine St.h ?_
  |simp(disch:=first|omega|(simp only[AJ];omega))only[AI,↓AB,↓reduceIte,seval,f0,f5,f6,f7]
  |(with_reducible (first|apply AD|apply AE))<;>(intro hc;(try simp only[Ab]at hc);(try simp only[hc]);(try simp only[Aa]at hc);try omega))
 refine ST.all o3 rfl rfl (by simp) (by simp) fun g4 o4 s4=>?_
 have s34:AU AQ g2 g4:=s3.Cv s4 fun q e=>by rw[e];exact Nat.le_refl _
 have st4:=st.trans s34
 have M4:=hM.grow st4
 have r4:=o4.row
 have yes:Gu M i=true->F7 M=true:=fun hx=>List.any_eq_true.2 ⟨i,List.mem_range.2 hil,hx⟩
 have nxt:Gu M i=false->∀ k,k<i+1->Gu M k=false:=fun hx k k1=>by
  by_cases e:k=i
  ·rw[e];exact hx
  ·exact hall k (by omega)
 by_cases h0:i=0
 ·have d4:((0:Int)<(i:Int))=False:=eq_false (by omega)
  have ha:Gu M i=false:=by unfold Gu;rw[decide_eq_false (by omega)];rfl
  repeat' (first
   |refine St.h ?_
   |simp(disch:=first|omega|(simp only[AJ];omega))only[AI,↓AB,↓reduceIte,seval,f0,f5,f6,f7,d4]
   |(with_reducible (first|apply AD|apply AE))<;>(intro hc;(try simp only[Ab]at hc);(try simp only[hc]);(try simp only[Aa]at hc);try omega))
  exact Aw hI (M.length-(i+1)) (by omega) ⟨i+1,rfl,by omega,by simp(disch:=first|omega|(simp only[AJ];omega))only[AI,↓AB,↓reduceIte,seval,f0],by simp(disch:=first|omega|(simp only[AJ];omega))only[AI,↓AB,↓reduceIte,seval,f5],by simp(disch:=first|omega|(simp only[AJ];omega))only[AI,↓AB,↓reduceIte,seval,f6],by simp(disch:=first|omega|(simp only[AJ];omega))only[AI,↓AB,↓reduceIte,seval,f7];rfl,nxt ha,st4⟩
 have d4:((0:Int)<(i:Int))=True:=eq_true (by omega)
 have ei:((i:Int)-1).toNat=i-1:=by omega
 by_cases h1:(M.getD (i-1) default).A8=1
 ·have d5:=eq_true h1
  cases hb:(Op.bytesLess (M.getD i default).fst (M.getD (i-1) default).Da||decide ((M.getD i default).fst=(M.getD (i-1) default).Da))with
  |true=>
   have ha:Gu M i=true:=by unfold Gu;rw[decide_eq_true (by omega),decide_eq_true h1,<-Na,hb];rfl
   repeat' (first
    |refine St.h ?_
    |simp(disch:=first|omega|(simp only[AJ];omega))only[AI,↓AB,↓reduceIte,seval,f0,f5,f6,f7,d4,d5,hb,ei,r4.l1,M4.ix,M4.l1,M4.l3,Int.toNat_natCast]
    |(with_reducible (first|apply AD|apply AE))<;>(intro hc;(try simp only[Ab]at hc);(try simp only[hc]);(try simp only[Aa]at hc);try omega))
   subst hQ
   exact⟨congrArg V.b (yes ha).symm,st4⟩
  |false=>
   have ha:Gu M i=false:=by unfold Gu;rw[<-Na,hb,Bool.and_false,Bool.and_false]
   repeat' (first
    |refine St.h ?_
    |simp(disch:=first|omega|(simp only[AJ];omega))only[AI,↓AB,↓reduceIte,seval,f0,f5,f6,f7,d4,d5,hb,ei,r4.l1,M4.ix,M4.l1,M4.l3,Int.toNat_natCast]
    |(with_reducible (first|apply AD|apply AE))<;>(intro hc;(try simp only[Ab]at hc);(try simp only[hc]);(try simp only[Aa]at hc);try omega))
   exact Aw hI (M.length-(i+1)) (by omega) ⟨i+1,rfl,by omega,by simp(disch:=first|omega|(simp only[AJ];omega))only[AI,↓AB,↓reduceIte,seval,f0],by simp(disch:=first|omega|(simp only[AJ];omega))only[AI,↓AB,↓reduceIte,seval,f5],by simp(disch:=first|omega|(simp only[AJ];omega))only[AI,↓AB,↓reduceIte,seval,f6],by simp(disch:=first|omega|(simp only[AJ];omega))only[AI,↓AB,↓reduceIte,seval,f7];rfl,nxt ha,st4⟩
 ·have d5:=eq_false h1
  have ha:Gu M i=false:=by unfold Gu;rw[decide_eq_false h1,Bool.false_and,Bool.and_false]
  repeat' (first
   |refine St.h ?_
   |simp(disch:=first|omega|(simp only[AJ];omega))only[AI,↓AB,↓reduceIte,seval,f0,f5,f6,f7,d4,d5,ei,r4.l1,M4.ix,M4.l1,M4.l3,Int.toNat_natCast]
   |(with_reducible (first|apply AD|apply AE))<;>(intro hc;(try simp only[Ab]at hc);(try simp only[hc]);(try simp only[Aa]at hc);try omega))
  exact Aw hI (M.length-(i+1)) (by omega) ⟨i+1,rfl,by omega,by simp(disch:=first|omega|(simp only[AJ];omega))only[AI,↓AB,↓reduceIte,seval,f0],by simp(disch:=first|omega|(simp only[AJ];omega))only[AI,↓AB,↓reduceIte,seval,f5],by simp(disch:=first|omega|(simp only[AJ];omega))only[AI,↓AB,↓reduceIte,seval,f6],by simp(disch:=first|omega|(simp only[AJ];omega))only[AI,↓AB,↓reduceIte,seval,f7];rfl,nxt ha,st4⟩
theorem Po (a:KP h b v S) (m:SF h g c e) (hl:S.L.length<=100) (hgl:e.gone.length<=100) (Aa:e.Af.length<=100) (hsz:∀ t∈e.Af,t.fst.length<=1000000/\t.Da.length<=1000000) (hf:B.val h.floor<=B.val h.next):
 BO Try.prog 44 [.p b 0 0 4,.a [g,c,.i .i64 e.log,.i .i64 e.seq]] h fun y h'=>∃ M:List BN,M.Perm (CG S.L e.gone++e.Af)/\(∀ i j,i<j->j<M.length->Gx (M.getD j default) (M.getD i default)=false)/\Rt h' y M/\(∀ q,Am y q->B.val h.next<=B.val q)/\AU AQ h h':=by
 refine BK xL (by intro hb;cases hb) (by simp) (by simp) fun Q hQ=>?_
 simp only[Av,Nat.reduceAdd]
 repeat' (first
  |refine St.h ?_
  |simp(disch:=first|omega|(simp only[AJ];omega))only[AI,↓AB,↓reduceIte,seval]
  |(with_reducible (first|apply AD|apply AE))<;>(intro hc;(try simp only[Ab]at hc);(try simp only[hc]);(try simp only[Aa]at hc);try omega))
 refine AL.own (by simp) hf fun h1 s1 n1 o1=>?_
 have hf1:=s1.fl hf
 repeat' (first
  |refine St.h ?_
  |simp(disch:=first|omega|(simp only[AJ];omega))only[AI,↓AB,↓reduceIte,seval]
  |(with_reducible (first|apply AD|apply AE))<;>(intro hc;(try simp only[Ab]at hc);(try simp only[hc]);(try simp only[Aa]at hc);try omega))
 refine CL.mk (M7 (a.grow s1) (by omega) hf1) ?_
 rintro w h2 ⟨w1,w2,s2⟩
 have hf2:=s2.fl hf1
 repeat' (first
  |refine St.h ?_
  |simp(disch:=first|omega|(simp only[AJ];omega))only[AI,↓AB,↓reduceIte,seval]
  |(with_reducible (first|apply AD|apply AE))<;>(intro hc;(try simp only[Ab]at hc);(try simp only[hc]);(try simp only[Aa]at hc);try omega))
 refine CL.mk (Uf (P:=fun t=>KW e.gone t.id) w1 (by omega) hf2 fun k t sk ht=>?_) ?_
 ·have t1:AU AQ h1 k:=s2.Cv sk w2
  exact Te (o1.stay t1 fun e=>e) (m.1.grow (s1.trans t1)) (by omega) (t1.fl hf1)
 rintro x h3 ⟨x1,x2,s3⟩
 have st3:AU AQ h1 h3:=s2.Cv s3 w2
 have q3:=(o1.stay st3 fun e=>e).row
 have m3:=m.grow (s1.trans st3)
 repeat' (first
  |refine St.h ?_
  |simp(disch:=first|omega|(simp only[AJ];omega))only[AI,↓AB,↓reduceIte,seval,q3.l1,m3.2.ln]
  |(with_reducible (first|apply AD|apply AE))<;>(intro hc;(try simp only[Ab]at hc);(try simp only[hc]);(try simp only[Aa]at hc);try omega))
 have hlen:(CG S.L e.gone).length<=100:=Nat.le_trans (List.length_filter_le _ _) hl
 refine Ok.lp (fun n t g'=>∃ (i:Nat) (u:V),n=e.Af.length-i/\i<=e.Af.length/\get 5 t=u/\get 13 t=c/\get 14 t=.i .i64 (e.Af.length:Int)/\get 15 t=.i .i64 (i:Int)/\Rt g' u (CG S.L e.gone++e.Af.take i)/\(∀ q,Am u q->B.val h1.next<=B.val q)/\AU AQ h1 g') e.Af.length ?_ ?_
 ·simp(disch:=first|omega|(simp only[AJ];omega))only[AI,↓AB,↓reduceIte,seval]
  refine⟨0,x,by omega,by omega,?_⟩
  refine⟨?_,?_,?_,?_,by rw[List.take_zero,List.append_nil];exact x1,fun q hq=>w2 q (x2 q hq),st3⟩
  all_goals first|trivial|rfl
 rintro I hI mm t g4 ⟨i,u,rfl,hi,f5,f13,f14,f15,bu,own,st⟩
 have m4:=m.grow (s1.trans st)
 have hf4:=st.fl hf1
 by_cases hil:i<e.Af.length
 case neg=>
  obtain rfl:i=e.Af.length:=by omega
  rw[List.take_length]at bu
  have d1:((e.Af.length:Int)<(e.Af.length:Int))=False:=eq_false (by omega)
  repeat' (first
   |refine St.h ?_
   |simp(disch:=first|omega|(simp only[AJ];omega))only[AI,↓AB,↓reduceIte,seval,f5,f13,f14,f15,d1]
   |(with_reducible (first|apply AD|apply AE))<;>(intro hc;(try simp only[Ab]at hc);(try simp only[hc]);(try simp only[Aa]at hc);try omega))
  refine CL.mk (RJ bu (by rw[List.length_append];omega) hf4) ?_
  rintro _ g5 ⟨M,pm,so,bM,s5⟩
  repeat' (first
   |refine St.h ?_
   |simp(disch:=first|omega|(simp only[AJ];omega))only[AI,↓AB,↓reduceIte,seval,f5,f13,f14,f15]
   |(with_reducible (first|apply AD|apply AE))<;>(intro hc;(try simp only[Ab]at hc);(try simp only[hc]);(try simp only[Aa]at hc);try omega))
  subst hQ
  exact⟨M,pm,so,bM,fun q hq=>Nat.le_trans s1.next (own q hq),s1.trans (st.Cv s5 own)⟩
 have d1:((i:Int)<(e.Af.length:Int))=True:=eq_true (by omega)
 repeat' (first
  |refine St.h ?_
  |simp(disch:=first|omega|(simp only[AJ];omega))only[AI,↓AB,↓reduceIte,seval,f5,f13,f14,f15,d1,m4.2.ix,m4.2.la,Int.toNat_natCast]
  |(with_reducible (first|apply AD|apply AE))<;>(intro hc;(try simp only[Ab]at hc);(try simp only[hc]);(try simp only[Aa]at hc);try omega))
 refine AL.own (by simp) hf4 fun g5 s5 n5 o5=>?_
 have hf5:=s5.fl hf4
 repeat' (first
  |refine St.h ?_
  |simp(disch:=first|omega|(simp only[AJ];omega))only[AI,↓AB,↓reduceIte,seval,f5,f13,f14,f15]
  |(with_reducible (first|apply AD|apply AE))<;>(intro hc;(try simp only[Ab]at hc);(try simp only[hc]);(try simp only[Aa]at hc);try omega))
 refine ST.all o5 rfl rfl (by simp) (by simp) fun g6 o6 s6=>?_
 have s46:AU AQ g4 g6:=s5.Cv s6 fun q e=>by rw[e];exact Nat.le_refl _
 have hf6:=s46.fl hf4
 have r6:=o6.row
 obtain⟨z1,z2⟩:=hsz _ (Db hil)
 repeat' (first
  |refine St.h ?_
  |simp(disch:=first|omega|(simp only[AJ];omega))only[AI,↓AB,↓reduceIte,seval,f5,f13,f14,f15,r6.l1]
  |(with_reducible (first|apply AD|apply AE))<;>(intro hc;(try simp only[Ab]at hc);(try simp only[hc]);(try simp only[Aa]at hc);try omega))
 refine CL.rV (Jk z1 (gP _)) fun g7 s7=>?_
 have o7:=o6.stay s7 fun e=>e
 have r7:=o7.row
 repeat' (first
  |refine St.h ?_
  |simp(disch:=first|omega|(simp only[AJ];omega))only[AI,↓AB,↓reduceIte,seval,f5,f13,f14,f15,r7.l1]
  |(with_reducible (first|apply AD|apply AE))<;>(intro hc;(try simp only[Ab]at hc);(try simp only[hc]);(try simp only[Aa]at hc);try omega))
 refine CL.stay (Jk z2 (s7.fl hf6)) fun g8 s8=>?_
 have o8:=o7.stay s8 fun e=>e
 repeat' (first
  |refine St.h ?_
  |simp(disch:=first|omega|(simp only[AJ];omega))only[AI,↓AB,↓reduceIte,seval,f5,f13,f14,f15]
  |(with_reducible (first|apply AD|apply AE))<;>(intro hc;(try simp only[Ab]at hc);(try simp only[hc]);(try simp only[Aa]at hc);try omega))
 refine ST.own o8 rfl rfl (by omega) (by omega) fun g9 o9 s9=>?_
 have o9:Ev.DM g9 g4.next (Lb (e.Af.getD i default)):=o9
 repeat' (first
  |refine St.h ?_
  |simp(disch:=first|omega|(simp only[AJ];omega))only[AI,↓AB,↓reduceIte,seval,f5,f13,f14,f15]
  |(with_reducible (first|apply AD|apply AE))<;>(intro hc;(try simp only[Ab]at hc);(try simp only[hc]);(try simp only[Aa]at hc);try omega))
 refine ST.own o9 rfl rfl (by omega) (by omega) fun ga oa sa=>?_
 have oa:Ev.DM ga g4.next (Lb (e.Af.getD i default)):=oa
 have s4a:AU AQ g4 ga:=((s46.trans (s7.trans s8)).Cv s9 fun q e=>by rw[e];exact Nat.le_refl _).Cv sa fun q e=>by rw[e];exact Nat.le_refl _
 have hfa:=s4a.fl hf4
 have ra:Row ga g4.next 0 0 [.i .i64 (e.Af.getD i default).id,.i .i64 (e.Af.getD i default).A8,sv (e.Af.getD i default).fst,sv (e.Af.getD i default).Da,.i .i64 (e.Af.getD i default).ER]:=oa.row
 repeat' (first
  |refine St.h ?_
  |simp(disch:=first|omega|(simp only[AJ];omega))only[AI,↓AB,↓reduceIte,seval,f5,f13,f14,f15,ra.ln]
  |(with_reducible (first|apply AD|apply AE))<;>(intro hc;(try simp only[Ab]at hc);(try simp only[hc]);(try simp only[Aa]at hc);try omega))
 refine AL.own (by simp) hfa fun gb sb _ ob=>?_
 repeat' (first
  |refine St.h ?_
  |simp(disch:=first|omega|(simp only[AJ];omega))only[AI,↓AB,↓reduceIte,seval,f5,f13,f14,f15]
  |(with_reducible (first|apply AD|apply AE))<;>(intro hc;(try simp only[Ab]at hc);(try simp only[hc]);(try simp only[Aa]at hc);try omega))
 have l4:(CG S.L e.gone++e.Af.take i).length<=200:=by rw[List.length_append,List.length_take];omega
 refine NT (x:=e.Af.getD i default) ((bu.grow s4a).grow sb) ob (by omega) (sb.fl hfa) fun u4 gc b4 t4 own4=>?_
 repeat' (first
  |refine St.h ?_
  |simp(disch:=first|omega|(simp only[AJ];omega))only[AI,↓AB,↓reduceIte,seval,f5,f13,f14,f15]
  |(with_reducible (first|apply AD|apply AE))<;>(intro hc;(try simp only[Ab]at hc);(try simp only[hc]);(try simp only[Aa]at hc);try omega))
 have st4:=st.trans (s4a.trans sb)
 refine Aw hI (e.Af.length-(i+1)) (by omega) ⟨i+1,u4,rfl,by omega,by simp(disch:=first|omega|(simp only[AJ];omega))only[AI,↓AB,↓reduceIte,seval],by simp(disch:=first|omega|(simp only[AJ];omega))only[AI,↓AB,↓reduceIte,seval,f13],by simp(disch:=first|omega|(simp only[AJ];omega))only[AI,↓AB,↓reduceIte,seval,f14],by simp(disch:=first|omega|(simp only[AJ];omega))only[AI,↓AB,↓reduceIte,seval,f15];rfl,?_,fun q hq=>?_,st4.Cv t4 fun q hq=>own q hq⟩
 ·have:e.Af.take (i+1)=e.Af.take i++[e.Af.getD i default]:=by rw[List.take_succ];simp[List.getD,hil]
  rw[this,<-List.append_assoc];exact b4
 ·rcases own4 q hq with h5|h5
  ·exact own q h5
  ·exact Nat.le_trans st4.next h5
end
end Go.Proofs.Ytobfgempjekjpaa
namespace Go.Ev
open Go
section
variable {P:Program} {nt:Nat} {ops:Array Oper} {Ts:Nat->F}
/--operations that leave memory alone,and make the same of h and of h2 -/
def Gs (P:Program):List CO->F->H->H->F->Prop
 |[],t,_,_,t'=>t'=t
 |o::l,t,h,h2,t'=>∃ t1,C2 P o t h t1 h/\C2 P o t h2 t1 h2/\Gs P l t1 h h2 t'
theorem stepOf {nt:Nat} {ops:Array Oper} {i:Nat} {o:Oper} (hi:ops[i]? =some o) {b:Bool} {t t1:F} {h h1:H} (a:C2 P ⟨BH nt ops.toList o.guard,Cx nt o.dst,b,AZ P o.op⟩ t h t1 h1):BF P nt ops i o true t t1 h h1:=by
 have a':Qi P ⟨BH nt ops.toList o.guard,Cx nt o.dst,true,AZ P o.op⟩ t h t1 h1:=a
 obtain⟨cf,hcf,e⟩:=Kb a'
 obtain⟨t1',h1',a1,a2⟩:=JB hcf hi (ih:=fun t h k=>k t h) (k:=fun _ _=>true) (e _ _)
 obtain⟨rfl,rfl⟩:=La (fun k=>(e (fun t h k=>k t h) k).symm.trans (a1 k))
 exact a2
theorem Ep {nt:Nat} {ops:Array Oper} (bars:Nat->Bool) {h h2:H}:∀ (l:List Oper) (n:Nat) (rest:List Oper),ops.toList.drop n=l++rest->∀ (t t':F),
 Gs P (AX bars P nt ops.toList (AZ P) n l) t h h2 t'->
 ∃ Ts:Nat->F,Ts n=t/\Ts (n+l.length)=t'/\∀ (i:Nat) o,n<=i->i<n+l.length->ops[i]? =some o->BF P nt ops i o true (Ts i) (Ts (i+1)) h h/\BF P nt ops i o true (Ts i) (Ts (i+1)) h2 h2:=by
 intro l
 induction l with
 |nil=>
  intro n rest hl t t' hk
  obtain rfl:t'=t:=hk
  exact⟨fun _=>t',rfl,rfl,fun i o h1 h2=>by simp at h2;omega⟩
 |cons o l ih=>
  intro n rest hl t t' hk
  have hn:ops[n]? =some o:=by
   have:ops.toList[n]? =some o:=by
    have:=congrArg (fun l=>l[0]?) hl
    simpa using this
   simpa using this
  obtain⟨t1,k1,k2,k3⟩:=hk
  have hl':ops.toList.drop (n+1)=l++rest:=by rw[<-List.drop_drop,hl];rfl
  obtain⟨Ts,b1,b2,b3⟩:=ih (n+1) rest hl' _ _ k3
  refine⟨fun i=>if i=n then t else Ts i,by simp,?_,fun i oi h1 h2 hi=>?_⟩
  ·have e1:n+(o::l).length=n+1+l.length:=by simp;omega
   rw[e1]
   simp only[show ¬n+1+l.length=n by omega,if_false]
   exact b2
  ·by_cases hin:i=n
   ·subst hin
    rw[hn]at hi
    cases hi
    simp only[if_true,show ¬i+1=i by omega,if_false,b1]
    exact⟨stepOf hn k1,stepOf hn k2⟩
   ·simp only[hin,if_false,show ¬i+1=n by omega]
    exact b3 i oi (by omega) (by simp at h2;omega) hi
/--all but two leave memory alone;the second one comes behind all that touch it,or ahead of them -/
theorem VI (hm:P.follows .mixedOrders=true) {nt:Nat} {ops:Array Oper} (hd:Bg ops.toList=true) {t t1 t2 t3 t4 t5:F} {h h2 h3:H} {pre LK rest:List CO} {A:CO} {g:G} {d:D} {r:CR}
 (el:AX (B2 P ops.toList (CH ops.toList [])) P nt ops.toList (AZ P) 0 ops.toList=pre++A::(LK++.mk g d true r::rest))
 (p1:Gs P pre t h h2 t1) (p2:C2 P A t1 h t2 h2) (p3:Gs P LK t2 h h2 t3) (p4:C2 P (.mk g d true r) t3 h2 t4 h3) (p5:Gs P rest t4 h3 h3 t5):At h h3/\B.val h.next<=B.val h3.next/\∀ ρ a w w0 (id:Nat) (Q:Exit->Act->World->Prop),CN ρ nt t a->A5 ρ h w w0->(∀ ρ' a' w',Ext h.floor ρ ρ'->CN ρ' nt t5 a'->A5 ρ' h3 w' w0->Q .normal a' w')->(Code.region id ops true).wp P Q a w:=by
 obtain⟨lp,l1,q1,q2,q3⟩:=Ge el
 obtain⟨oa,l2,rfl,q4,q5⟩:=FH q3
 obtain⟨lm,l3,rfl,q6,q7⟩:=Ge q5
 obtain⟨ob,lr,rfl,q8,q9⟩:=FH q7
 rw[Nat.zero_add]at q4 q6 q8 q9
 have hop:∀ (i:Nat) o,ops.toList[i]? =some o->ops[i]? =some o:=fun i o e=>by simpa using e
 generalize hb0:lp.length+1+lm.length=b at*
 have hn:ops.size=b+1+lr.length:=by have:=congrArg List.length q1;simp at this;omega
 have ha:ops[lp.length]? =some oa:=hop _ _ (by rw[q1];simp)
 have hb:ops[b]? =some ob:=hop _ _ (by rw[q1,<-hb0,List.getElem?_append_right (by omega),show lp.length+1+lm.length-lp.length=lm.length+1 by omega,List.getElem?_cons_succ];simp)
 obtain⟨T0,b1,b2,b3⟩:=Ep (P:=P) (nt:=nt) (ops:=ops) (h:=h) (h2:=h2) _ lp 0 _ (by rw[List.drop_zero];exact q1) t t1 (by rw[q2];exact p1)
 rw[Nat.zero_add]at b2 b3
 obtain⟨T1,c1,c2,c3⟩:=Ep (P:=P) (nt:=nt) (ops:=ops) (h:=h) (h2:=h2) _ lm (lp.length+1) _ (by rw[q1,<-List.drop_drop,List.drop_left];rfl) t2 t3 (by rw[q6];exact p3)
 obtain⟨T2,d1,d2,d3⟩:=Ep (P:=P) (nt:=nt) (ops:=ops) (h:=h3) (h2:=h3) _ lr (b+1) [] (by rw[q1,<-hb0,List.append_nil,show lp.length+1+lm.length+1=lp.length+(1+(lm.length+1))by omega,<-List.drop_drop,List.drop_left,<-List.drop_drop,List.drop_one,List.tail_cons,<-List.drop_drop,List.drop_left];rfl) t4 t5 (by rw[q9];exact p5)
 rw[hb0]at c2 c3
 have hbar:B2 P ops.toList (CH ops.toList []) b=true:=by
  injection q8 with _ _ e _
  exact e.symm
 have SA:=stepOf ha (by rw[q4]at p2;exact p2)
 have SB:=stepOf hb (by have e:=q8;rw[hbar]at e;rw[e]at p4;exact p4)
 let Ts:Nat->F:=fun i=>if i<=lp.length then T0 i else if i<=b then T1 i else T2 i
 have U0:∀ i,i<=lp.length->Ts i=T0 i:=fun i hi=>if_pos hi
 have U1:∀ i,lp.length<i->i<=b->Ts i=T1 i:=fun i hi hj=>by
  show(if _ then _ else _)=_
  rw[if_neg (by omega),if_pos hj]
 have U2:∀ i,b<i->Ts i=T2 i:=fun i hi=>by
  show(if _ then _ else _)=_
  rw[if_neg (by omega),if_neg (by omega)]
 have hA:∀ o,ops[lp.length]? =some o->BF P nt ops lp.length o true (Ts lp.length) (Ts (lp.length+1)) h h2:=fun o ho=>by
  rw[ha]at ho;cases ho
  rw[U0 _ (Nat.le_refl _),U1 _ (by omega) (by omega),b2,c1];exact SA
 have hB:∀ o,ops[b]? =some o->BF P nt ops b o true (Ts b) (Ts (b+1)) h2 h3:=fun o ho=>by
  rw[hb]at ho;cases ho
  rw[U1 _ (by omega) (Nat.le_refl _),U2 _ (by omega),c2,d1];exact SB
 obtain⟨f1,f2,f3⟩:=Tb (nt:=nt) (ops:=ops) (Ts:=Ts) (n:=lp.length) (p:=b) (h:=h) (h2:=h2) (h3:=h3) hm hd (by omega) (by omega) hbar
  (fun i o hi hne ho=>by
    by_cases e:i<lp.length
    ·rw[U0 i (by omega),U0 (i+1) (by omega)]
     exact b3 i o (Nat.zero_le _) e ho
    ·rw[U1 i (by omega) (by omega),U1 (i+1) (by omega) (by omega)]
     exact c3 i o (by omega) hi ho)
  (fun i o hi ho=>by
    have:i<ops.size:=(Array.getElem?_eq_some_iff.1 ho).1
    rw[U2 i hi,U2 (i+1) (by omega)]
    exact(d3 i o (by omega) (by omega) ho).1) hA hB
 exact⟨f1,f2,fun ρ a w w0 id Q A R hQ=>f3 ρ a w w0 id Q (by rw[U0 0 (Nat.zero_le _),b1];exact A) R (by rw[hn,U2 _ (by omega),d2];exact hQ)⟩
theorem Ok.yQ (hm:P.follows .mixedOrders=true) {nt:Nat} {t t1 t2 t3 t4 t5:F} {h h2 h3:H} {K:X->F->H->Prop} {pre LK rest:List CO} {A:CO} {g:G} {d:D} {r:CR} {ch:Option (List Nat×List (Nat×List Nat))}
 (p1:Gs P pre t h h2 t1) (p2:C2 P A t1 h t2 h2) (p3:Gs P LK t2 h h2 t3) (p4:C2 P (.mk g d true r) t3 h2 t4 h3) (p5:Gs P rest t4 h3 h3 t5) (k:K .normal t5 h3):Ok P nt (.A7 (pre++A::(LK++.mk g d true r::rest)) ch) t h K:=by
 refine⟨.normal,t5,h3,BR _ fun c e' hs=>?_,k⟩
 cases c with
 |region id ops draw=>
  have e1:An P nt ops.toList draw=.A7 (pre++A::(LK++.mk g d true r::rest)) ch:=e'
  unfold An at e1
  split at e1
  ·cases e1
  ·split at e1
   ·rename_i hd
    obtain⟨f1,f2,f3⟩:=VI hm hd (CC.A7.inj e1).1 p1 p2 p3 p4 p5
    exact⟨f1,f2,fun ρ a w w0 Q A R hQ=>f3 ρ a w w0 id Q A R hQ⟩
   ·cases e1
 |scope d=>exact absurd rfl (hs d)
 |_=>cases e'
/--a region that A7,where the walk stops -/
def DW (P:Program) (nt:Nat) (l:List CO) (t:F) (h:H) (K:X->F->H->Prop):Prop:=∀ ch,Ok P nt (.A7 l ch) t h K
theorem DW.gen (hm:P.follows .mixedOrders=true) {nt:Nat} {t t1 t2 t3 t4 t5:F} {h h2 h3:H} {K:X->F->H->Prop} {l pre LK rest:List CO} {A:CO} {g:G} {d:D} {r:CR} (hl:l=pre++A::(LK++.mk g d true r::rest))
 (p1:Gs P pre t h h2 t1) (p2:C2 P A t1 h t2 h2) (p3:Gs P LK t2 h h2 t3) (p4:C2 P (.mk g d true r) t3 h2 t4 h3) (p5:Gs P rest t4 h3 h3 t5) (k:K .normal t5 h3):DW P nt l t h K:=by
 intro ch
 rw[hl]
 exact Ok.yQ hm p1 p2 p3 p4 p5 k
theorem DW.two (hm:P.follows .mixedOrders=true) {nt:Nat} {t t1 t2 t3:F} {h h2 h3:H} {K:X->F->H->Prop} {l pre:List CO} {A:CO} {g:G} {d:D} {r:CR} (hl:l=pre++[A,.mk g d true r])
 (p1:Gs P pre t h h2 t1) (p2:C2 P A t1 h t2 h2) (p3:C2 P (.mk g d true r) t2 h2 t3 h3) (k:K .normal t3 h3):DW P nt l t h K:=DW.gen (LK:=[]) (rest:=[]) hm hl p1 p2 rfl p3 rfl k
section
variable {r:CE} {t t':F} {h h1 h2:H} {v:V} {n:Nat} {b:Bool} {l:List CO}
theorem Oo (a:G6 P (.mk r) t h v h1):C2 P (.mk .none (.some (AR n)) b (.mk r)) t h (put n v t) h1:=⟨true,fun _=>rfl,.inl ⟨rfl,v,a,fun k=>Fl k⟩⟩
theorem Oa (a:G6 P (.mk r) t h v h1):C2 P (.mk .none .none b (.mk r)) t h t h1:=⟨true,fun _=>rfl,.inl ⟨rfl,v,a,fun k=>rfl⟩⟩
theorem Qv {K:F->H->Prop} (a:OR P r t h (.w0 [] t K)):∃ v h',G6 P (.mk r) t h v h'/\K t h':=by
 obtain⟨v,h',rr,k⟩:=a
 rw[Vh,NQ]at k
 exact⟨v,h',rr,k⟩
theorem Vq (a:OR P r t h (.w 0 [] F.zero fun t' h'=>get 0 t'=v/\h'=h)):G6 P (.mk r) t h v h:=by
 obtain⟨v',h',rr,k⟩:=a
 rw[eQ,NQ,AB,if_pos rfl]at k
 obtain⟨rfl,rfl⟩:=k
 exact rr
end
end
end Go.Ev
namespace Go.Ev
open Go
section
variable {P:Program}
/--all but one leave memory alone -/
theorem Ok.xR (hm:P.follows .mixedOrders=true) {nt:Nat} {t t1 t2 t3:F} {h h2:H} {K:X->F->H->Prop} {pre LK:List CO} {A:CO} {ch:Option (List Nat×List (Nat×List Nat))}
 (p1:Gs P pre t h h2 t1) (p2:C2 P A t1 h t2 h2) (p3:Gs P LK t2 h h2 t3) (k:K .normal t3 h2):Ok P nt (.A7 (pre++A::LK) ch) t h K:=by
 refine⟨.normal,t3,h2,BR _ fun c e' hs=>?_,k⟩
 cases c with
 |region id ops draw=>
  have e1:An P nt ops.toList draw=.A7 (pre++A::LK) ch:=e'
  unfold An at e1
  split at e1
  ·cases e1
  ·split at e1
   ·rename_i hd
    obtain⟨lp,l1,q1,q2,q3⟩:=Ge (CC.A7.inj e1).1
    obtain⟨oa,lm,rfl,q4,q6⟩:=FH q3
    rw[Nat.zero_add]at q4 q6
    have hop:∀ (i:Nat) o,ops.toList[i]? =some o->ops[i]? =some o:=fun i o e=>by simpa using e
    have hn:ops.size=lp.length+1+lm.length:=by have:=congrArg List.length q1;simp at this;omega
    have ha:ops[lp.length]? =some oa:=hop _ _ (by rw[q1];simp)
    obtain⟨T0,b1,b2,b3⟩:=Ep (P:=P) (nt:=nt) (ops:=ops) (h:=h) (h2:=h2) _ lp 0 _ (by rw[List.drop_zero];exact q1) t t1 (by rw[q2];exact p1)
    rw[Nat.zero_add]at b2 b3
    obtain⟨T1,c1,c2,c3⟩:=Ep (P:=P) (nt:=nt) (ops:=ops) (h:=h) (h2:=h2) _ lm (lp.length+1) [] (by rw[q1,<-List.drop_drop,List.drop_left,List.append_nil];rfl) t2 t3 (by rw[q6];exact p3)
    have SA:=stepOf ha (by rw[q4]at p2;exact p2)
    let Ts:Nat->F:=fun i=>if i<=lp.length then T0 i else T1 i
    have U0:∀ i,i<=lp.length->Ts i=T0 i:=fun i hi=>if_pos hi
    have U1:∀ i,lp.length<i->Ts i=T1 i:=fun i hi=>by
     show(if _ then _ else _)=_
     rw[if_neg (by omega)]
    have hA:∀ o,ops[lp.length]? =some o->BF P nt ops lp.length o true (Ts lp.length) (Ts (lp.length+1)) h h2:=fun o ho=>by
     rw[ha]at ho;cases ho
     rw[U0 _ (Nat.le_refl _),U1 _ (by omega),b2,c1];exact SA
    have hq:∀ (i:Nat) o,i≠lp.length->ops[i]? =some o->BF P nt ops i o true (Ts i) (Ts (i+1)) h h/\BF P nt ops i o true (Ts i) (Ts (i+1)) h2 h2:=fun i o hne ho=>by
     have hi:i<ops.size:=(Array.getElem?_eq_some_iff.1 ho).1
     by_cases e:i<lp.length
     ·rw[U0 i (by omega),U0 (i+1) (by omega)]
      exact b3 i o (Nat.zero_le _) e ho
     ·rw[U1 i (by omega),U1 (i+1) (by omega)]
      exact c3 i o (by omega) (by omega) ho
    have hs:cW nt ops Ts:=fun i o ho=>by
     have S:∃ g g',BF P nt ops i o true (Ts i) (Ts (i+1)) g g':=by
      by_cases e:i=lp.length
      ·subst e;exact⟨_,_,hA o ho⟩
      ·exact⟨_,_,(hq i o e ho).1⟩
     obtain⟨g,g',S⟩:=S
     exact⟨S.dst,S.rest⟩
    let Hs:Nat->H:=fun i=>if i<=lp.length then h else h2
    have V0:∀ i,i<=lp.length->Hs i=h:=fun i hi=>if_pos hi
    have V1:∀ i,lp.length<i->Hs i=h2:=fun i h1=>if_neg (by omega)
    have R:=J7 (nt:=nt) (ops:=ops) (Ts:=Ts) (Hs:=Hs) (lo:=fun k=>k=lp.length) hm hd hs (fun i j hi hj hij _=>by omega)
     (fun i o hi ho=>by
       have hi:i=lp.length:=hi
       subst hi
       rw[V0 _ (Nat.le_refl _),V1 _ (by omega)];exact hA o ho)
     (fun i hi hl=>by
       have hl:¬i=lp.length:=hl
       by_cases e:i<lp.length
       ·rw[V0 _ (by omega),V0 _ (by omega)]
       ·rw[V1 _ (by omega),V1 _ (by omega)])
     (fun i o hl ho=>by
       obtain⟨x1,x2⟩:=hq i o hl ho
       refine⟨⟨_,_,x1⟩,.inr fun c _ _ _=>?_⟩
       by_cases e:c<=lp.length
       ·rw[V0 _ e];exact x1
       ·rw[V1 _ (by omega)];exact x2)
    rw[V0 0 (Nat.zero_le _),V1 ops.size (by omega)]at R
    obtain⟨f1,f2,f3⟩:=R
    exact⟨f1,f2,fun ρ a w w0 Q A R hQ=>f3 ρ a w w0 id Q (by rw[U0 0 (Nat.zero_le _),b1];exact A) R (by rw[hn,U1 _ (by omega),c2];exact hQ)⟩
   ·cases e1
 |scope d=>exact absurd rfl (hs d)
 |_=>cases e'
theorem DW.one (hm:P.follows .mixedOrders=true) {nt:Nat} {t t1 t2 t3:F} {h h2:H} {K:X->F->H->Prop} {l pre LK:List CO} {A:CO} (hl:l=pre++A::LK)
 (p1:Gs P pre t h h2 t1) (p2:C2 P A t1 h t2 h2) (p3:Gs P LK t2 h h2 t3) (k:K .normal t3 h2):DW P nt l t h K:=by
 intro ch
 rw[hl]
 exact Ok.xR hm p1 p2 p3 k
theorem MR {nt:Nat} {ops:List Oper} {o:Oper} {b:Bool} {t t1:F} {h h1:H} (hq:quiet P o.op=true) (a:C2 P ⟨BH nt ops o.guard,Cx nt o.dst,b,AZ P o.op⟩ t h t1 h1):h1=h:=by
 obtain⟨c,_,a⟩:=a
 rcases a with⟨_,v,⟨cf,hcf,e⟩,_⟩|⟨_,e,_⟩
 ·exact HX hq hcf e
 ·exact e
theorem ID {nt:Nat} {ops:Array Oper} (bars:Nat->Bool) {h:H}:∀ (l:List Oper) (n:Nat) (rest:List Oper),ops.toList.drop n=l++rest->(∀ o∈l,quiet P o.op=true)->∀ (t t':F) (h':H),
 Ld P (AX bars P nt ops.toList (AZ P) n l) t h t' h'->
 h'=h/\∃ Ts:Nat->F,Ts n=t/\Ts (n+l.length)=t'/\∀ (i:Nat) o,n<=i->i<n+l.length->ops[i]? =some o->BF P nt ops i o true (Ts i) (Ts (i+1)) h h:=by
 intro l
 induction l with
 |nil=>
  intro n rest hl _ t t' h' hk
  obtain⟨rfl,rfl⟩:=hk
  exact⟨rfl,fun _=>t',rfl,rfl,fun i o h1 h2=>by simp at h2;omega⟩
 |cons o l ih=>
  intro n rest hl hq t t' h' hk
  have hn:ops[n]? =some o:=by
   have:ops.toList[n]? =some o:=by
    have:=congrArg (fun l=>l[0]?) hl
    simpa using this
   simpa using this
  obtain⟨t1,h1,k1,k2⟩:=hk
  obtain rfl:=MR (hq o (by simp)) k1
  have hl':ops.toList.drop (n+1)=l++rest:=by rw[<-List.drop_drop,hl];rfl
  obtain⟨e,Ts,b1,b2,b3⟩:=ih (n+1) rest hl' (fun x hx=>hq x (List.mem_cons_of_mem _ hx)) _ _ _ k2
  refine⟨e,fun i=>if i=n then t else Ts i,by simp,?_,fun i oi h1 h2 hi=>?_⟩
  ·have e1:n+(o::l).length=n+1+l.length:=by simp;omega
   rw[e1]
   simp only[show ¬n+1+l.length=n by omega,if_false]
   exact b2
  ·by_cases hin:i=n
   ·subst hin
    rw[hn]at hi
    cases hi
    simp only[if_true,show ¬i+1=i by omega,if_false,b1]
    exact stepOf hn k1
   ·simp only[hin,if_false,show ¬i+1=n by omega]
    exact b3 i oi (by omega) (by simp at h2;omega) hi
/--two that write,A and B;one that reads,o,may Af ahead of A or behind it -/
theorem Ok.float (hm:P.follows .mixedOrders=true) {nt:Nat} {t:F} {h:H} {K:X->F->H->Prop} {l L1 L2 L3:List CO} {o A B:CO} {ld:List Nat} {cs:List (Nat×List Nat)} {n p:Nat} (hl:l=L1++o::(L2++A::(L3++[B])))
 (hn:n=L1.length+1+L2.length) (hp:p=n+1+L3.length) (hlo:ld=[n,p])
 (hcs:cs.all (fun q=>(decide (q.1=L1.length)&&q.2.all fun j=>decide (j<=p))||((decide (q.1≠L1.length/\q.1<n)&&q.2.all fun j=>decide (j<=n))||(decide (n<q.1/\q.1<p)&&q.2.all fun j=>decide (n<j/\j<=p))))=true)
 (k:WO P L1 t h fun t1 _=>∃ t2,C2 P o t1 h t2 h/\WO P L2 t2 h fun t3 _=>∃ t4 h2,C2 P A t3 h t4 h2/\C2 P o t1 h2 t2 h2/\WO P L3 t4 h2 fun t5 _=>∃ t6 h3,C2 P B t5 h2 t6 h3/\K .normal t6 h3):Ok P nt (.A7 l (some (ld,cs))) t h K:=by
 obtain⟨t1,g1,k1,t2,k2,t3,g3,k3,t4,h2,k4,k5,t5,g5,k6,t6,h3,k7,kk⟩:=k
 refine⟨.normal,t6,h3,BR _ fun c e' hs=>?_,kk⟩
 cases c with
 |region id ops draw=>
  have e1:An P nt ops.toList draw=.A7 l (some (ld,cs)):=e'
  unfold An at e1
  split at e1
  ·cases e1
  ·split at e1
   ·rename_i hd
    obtain⟨e2,ec⟩:=CC.A7.inj e1
    rw[hl]at e2
    obtain⟨l1,r1,q1,q2,q3⟩:=Ge e2
    obtain⟨oo,r2,rfl,q4,q5⟩:=FH q3
    obtain⟨l2,r3,rfl,q6,q7⟩:=Ge q5
    obtain⟨oa,r4,rfl,q8,q9⟩:=FH q7
    obtain⟨l3,r5,rfl,q10,q11⟩:=Ge q9
    obtain⟨ob,r6,rfl,q12,q13⟩:=FH q11
    have cl:∀ (bars:Nat->Bool) (l:List Oper) (n:Nat),(AX bars P nt ops.toList (AZ P) n l).length=l.length:=by
     intro bars l
     induction l with
     |nil=>intro n;rfl
     |cons o l ih=>intro n;show(AX bars P nt ops.toList (AZ P) (n+1) l).length+1=_;rw[ih];rfl
    have c1:L1.length=l1.length:=by rw[<-q2,cl]
    have c2:L2.length=l2.length:=by rw[<-q6,cl]
    have c3:L3.length=l3.length:=by rw[<-q10,cl]
    obtain rfl:r6=[]:=by
     cases r6 with
     |nil=>rfl
     |cons x r=>have:=congrArg List.length q13;rw[cl]at this;simp at this
    rw[c1]at hcs
    rw[Nat.zero_add]at q4 q6 q8 q10 q12
    obtain rfl:n=l1.length+1+l2.length:=by omega
    obtain rfl:p=l1.length+1+l2.length+1+l3.length:=by omega
    have hsz:ops.size=l1.length+1+l2.length+1+l3.length+1:=by have:=congrArg List.length q1;simp at this;omega
    have hop:∀ (i:Nat) o,ops.toList[i]? =some o->ops[i]? =some o:=fun i o e=>by simpa using e
    have gl:∀ i:Nat,ops.toList[i]? =(l1++oo::(l2++oa::(l3++[ob])))[i]? :=fun i=>by rw[q1]
    have ho:ops[l1.length]? =some oo:=hop _ _ (by rw[gl];simp)
    have ha:ops[l1.length+1+l2.length]? =some oa:=hop _ _ (by rw[gl,List.getElem?_append_right (by omega),show l1.length+1+l2.length-l1.length=l2.length+1 by omega,List.getElem?_cons_succ];simp)
    have hb:ops[l1.length+1+l2.length+1+l3.length]? =some ob:=hop _ _ (by rw[gl,List.getElem?_append_right (by omega),show l1.length+1+l2.length+1+l3.length-l1.length=(l2.length+1+l3.length)+1 by omega,List.getElem?_cons_succ,List.getElem?_append_right (by omega),show l2.length+1+l3.length-l2.length=l3.length+1 by omega,List.getElem?_cons_succ];simp)
    have hld:ld=Bb P 0 ops.toList:=by
     unfold E4 at ec
     split at ec
     ·cases ec;rfl
     ·cases ec
    rw[hlo]at hld
    have hqt:∀ (i:Nat) x,ops[i]? =some x->i≠l1.length+1+l2.length->i≠l1.length+1+l2.length+1+l3.length->quiet P x.op=true:=fun i x hx n1 n2=>by
     cases hq:quiet P x.op with
     |true=>rfl
     |false=>
      have:i∈Bb P 0 ops.toList:=FK.2 ⟨i,x,by omega,(Array.getElem?_toList (xs:=ops) (i:=i)).trans hx,hq⟩
      rw[<-hld]at this
      simp only[List.mem_cons,List.not_mem_nil,or_false]at this
      omega
    have hlq:∀ (i:Nat) x,ops[i]? =some x->quiet P x.op=true->i≠l1.length+1+l2.length/\i≠l1.length+1+l2.length+1+l3.length:=fun i x hx hq=>by
     have no:i∉Bb P 0 ops.toList:=fun hi=>by
      obtain⟨j,y,e1,e2,e3⟩:=FK.1 hi
      have e4:ops[j]? =some y:=hop _ _ e2
      rw[show j=i by omega,hx]at e4
      cases e4;rw[hq]at e3;cases e3
     rw[<-hld]at no
     simp only[List.mem_cons,List.not_mem_nil,or_false,not_or]at no
     exact no
    have Q1:∀ x∈l1,quiet P x.op=true:=fun x hx=>by
     obtain⟨i,hi,e⟩:=List.mem_iff_getElem.1 hx
     exact hqt i x (hop _ _ (by rw[gl,List.getElem?_append_left hi,List.getElem?_eq_getElem hi,e])) (by omega) (by omega)
    have Q2:∀ x∈l2,quiet P x.op=true:=fun x hx=>by
     obtain⟨i,hi,e⟩:=List.mem_iff_getElem.1 hx
     exact hqt (l1.length+1+i) x (hop _ _ (by rw[gl,List.getElem?_append_right (by omega),show l1.length+1+i-l1.length=i+1 by omega,List.getElem?_cons_succ,List.getElem?_append_left hi,List.getElem?_eq_getElem hi,e])) (by omega) (by omega)
    have Q3:∀ x∈l3,quiet P x.op=true:=fun x hx=>by
     obtain⟨i,hi,e⟩:=List.mem_iff_getElem.1 hx
     exact hqt (l1.length+1+l2.length+1+i) x (hop _ _ (by rw[gl,List.getElem?_append_right (by omega),show l1.length+1+l2.length+1+i-l1.length=(l2.length+1+i)+1 by omega,List.getElem?_cons_succ,List.getElem?_append_right (by omega),show l2.length+1+i-l2.length=i+1 by omega,List.getElem?_cons_succ,List.getElem?_append_left hi,List.getElem?_eq_getElem hi,e])) (by omega) (by omega)
    have d1:ops.toList.drop (l1.length+1)=l2++(oa::(l3++[ob])):=by rw[q1,<-List.drop_drop,List.drop_left];rfl
    have d2:ops.toList.drop (l1.length+1+l2.length+1)=l3++[ob]:=by rw[<-List.drop_drop,<-List.drop_drop,d1,List.drop_left];rfl
    obtain⟨z1,T1,a1,a2,a3⟩:=ID (P:=P) (nt:=nt) (ops:=ops) (h:=h) _ l1 0 _ (by rw[List.drop_zero];exact q1) Q1 t t1 g1 (by rw[q2];exact k1)
    rw[Nat.zero_add]at a2 a3
    obtain⟨z2,T2,b1,b2,b3⟩:=ID (P:=P) (nt:=nt) (ops:=ops) (h:=h) _ l2 (l1.length+1) _ d1 Q2 t2 t3 g3 (by rw[q6];exact k3)
    obtain⟨z3,T3,c4,c5,c6⟩:=ID (P:=P) (nt:=nt) (ops:=ops) (h:=h2) _ l3 (l1.length+1+l2.length+1) _ d2 Q3 t4 t5 g5 (by rw[q10];exact k6)
    rw[q4]at k2 k5
    rw[q8]at k4
    rw[q12]at k7
    let Ts:Nat->F:=fun i=>if i<=l1.length then T1 i else if i<=l1.length+1+l2.length then T2 i else if i<=l1.length+1+l2.length+1+l3.length then T3 i else t6
    let Hs:Nat->H:=fun i=>if i<=l1.length+1+l2.length then h else if i<=l1.length+1+l2.length+1+l3.length then h2 else h3
    have U1:∀ i,i<=l1.length->Ts i=T1 i:=fun i hi=>if_pos hi
    have U2:∀ i,l1.length<i->i<=l1.length+1+l2.length->Ts i=T2 i:=fun i hi hj=>by
     show(if _ then _ else _)=_
     rw[if_neg (by omega),if_pos hj]
    have U3:∀ i,l1.length+1+l2.length<i->i<=l1.length+1+l2.length+1+l3.length->Ts i=T3 i:=fun i hi hj=>by
     show(if _ then _ else _)=_
     rw[if_neg (by omega),if_neg (by omega),if_pos hj]
    have U4:∀ i,l1.length+1+l2.length+1+l3.length<i->Ts i=t6:=fun i hi=>by
     show(if _ then _ else _)=_
     rw[if_neg (by omega),if_neg (by omega),if_neg (by omega)]
    have V1:∀ i,i<=l1.length+1+l2.length->Hs i=h:=fun i hi=>if_pos hi
    have V2:∀ i,l1.length+1+l2.length<i->i<=l1.length+1+l2.length+1+l3.length->Hs i=h2:=fun i hi hj=>by
     show(if _ then _ else _)=_
     rw[if_neg (by omega),if_pos hj]
    have V3:∀ i,l1.length+1+l2.length+1+l3.length<i->Hs i=h3:=fun i hi=>by
     show(if _ then _ else _)=_
     rw[if_neg (by omega),if_neg (by omega)]
    have So:BF P nt ops l1.length oo true (Ts l1.length) (Ts (l1.length+1)) h h/\BF P nt ops l1.length oo true (Ts l1.length) (Ts (l1.length+1)) h2 h2:=by
     rw[U1 _ (Nat.le_refl _),U2 _ (by omega) (by omega),a2,b1]
     exact⟨stepOf ho k2,stepOf ho k5⟩
    have Sq:∀ (i:Nat) x,ops[i]? =some x->i≠l1.length+1+l2.length->i≠l1.length+1+l2.length+1+l3.length->BF P nt ops i x true (Ts i) (Ts (i+1)) (Hs i) (Hs i):=fun i x hx n1 n2=>by
     have hi:i<ops.size:=(Array.getElem?_eq_some_iff.1 hx).1
     by_cases e1:i<l1.length
     ·rw[U1 _ (by omega),U1 _ (by omega),V1 _ (by omega)];exact a3 i x (Nat.zero_le _) e1 hx
     ·by_cases e2:i=l1.length
      ·subst e2
       rw[ho]at hx;cases hx
       rw[V1 _ (by omega)];exact So.1
      ·by_cases e3:i<l1.length+1+l2.length
       ·rw[U2 _ (by omega) (by omega),U2 _ (by omega) (by omega),V1 _ (by omega)];exact b3 i x (by omega) e3 hx
       ·rw[U3 _ (by omega) (by omega),U3 _ (by omega) (by omega),V2 _ (by omega) (by omega)];exact c6 i x (by omega) (by omega) hx
    obtain⟨f1,f2,f3⟩:=Mk (nt:=nt) (ops:=ops) (Ts:=Ts) (Hs:=Hs) hm hd ec
     (fun i x hx=>by
       by_cases n1:i=l1.length+1+l2.length
       ·subst n1
        rw[ha]at hx;cases hx
        refine⟨?_,fun hq=>absurd rfl (hlq _ _ ha hq).1⟩
        rw[U2 _ (by omega) (Nat.le_refl _),U3 _ (by omega) (by omega),V1 _ (Nat.le_refl _),V2 _ (by omega) (by omega),b2,c4]
        exact stepOf ha k4
       ·by_cases n2:i=l1.length+1+l2.length+1+l3.length
        ·subst n2
         rw[hb]at hx;cases hx
         refine⟨?_,fun hq=>absurd rfl (hlq _ _ hb hq).2⟩
         rw[U3 _ (by omega) (Nat.le_refl _),U4 _ (by omega),V2 _ (by omega) (Nat.le_refl _),V3 _ (by omega),c5]
         exact stepOf hb k7
        ·have same:Hs (i+1)=Hs i:=by
          have hi:i<ops.size:=(Array.getElem?_eq_some_iff.1 hx).1
          by_cases e:i<l1.length+1+l2.length
          ·rw[V1 _ (by omega),V1 _ (by omega)]
          ·rw[V2 _ (by omega) (by omega),V2 _ (by omega) (by omega)]
         exact⟨by rw[same];exact Sq i x hx n1 n2,fun _=>same⟩)
     (fun q hq x hx j hj=>by
       have:=List.all_eq_true.1 hcs q hq
       simp only[Bool.or_eq_true,Bool.and_eq_true,decide_eq_true_eq,List.all_eq_true]at this
       rcases this with⟨e1,e2⟩|⟨⟨e1,e3⟩,e2⟩|⟨⟨e1,e3⟩,e2⟩
       ·rw[e1]at hx⊢
        rw[ho]at hx;cases hx
        have:=e2 j hj
        by_cases e:j<=l1.length+1+l2.length
        ·rw[V1 _ e];exact So.1
        ·rw[V2 _ (by omega) this];exact So.2
       ·have:=Sq q.1 x hx (by omega) (by omega)
        rw[V1 _ (by omega)]at this
        rw[V1 _ (e2 j hj)];exact this
       ·have:=Sq q.1 x hx (by omega) (by omega)
        rw[V2 _ e1 (by omega)]at this
        have h9:=e2 j hj
        rw[V2 _ h9.1 h9.2];exact this)
    rw[V1 0 (Nat.zero_le _),V3 ops.size (by omega)]at f1 f2 f3
    exact⟨f1,f2,fun ρ a w w0 Q A R hQ=>f3 ρ a w w0 id Q (by rw[U1 0 (Nat.zero_le _),a1];exact A) R (by rw[U4 ops.size (by omega)];exact hQ)⟩
   ·cases e1
 |scope d=>exact absurd rfl (hs d)
 |_=>cases e'
end
end Go.Ev
set_option maxRecDepth 100000
set_option maxHeartbeats 8000000
namespace Go.Ev
open Go
/--Ok.float for a load that floats against two stores,as a walk -/
theorem Ok.XE {P:Program} (hm:P.follows .mixedOrders=true) {nt n:Nat} {t:F} {h:H} {K:X->F->H->Prop} {l L1 L2 L3:List CO} {rl rA rB:CE} {bA bB:Bool} {ld:List Nat} {cs:List (Nat×List Nat)} {i j:Nat} (hl:l=L1++.mk .none (.some (AR n)) .false (.mk rl)::(L2++.mk .none .none bA (.mk rA)::(L3++[.mk .none .none bB (.mk rB)])))
 (hn:i=L1.length+1+L2.length) (hp:j=i+1+L3.length) (hlo:ld=[i,j])
 (hcs:cs.all (fun q=>(decide (q.1=L1.length)&&q.2.all fun k=>decide (k<=j))||((decide (q.1≠L1.length/\q.1<i)&&q.2.all fun k=>decide (k<=i))||(decide (i<q.1/\q.1<j)&&q.2.all fun k=>decide (i<k/\k<=j))))=true)
 (k:WO P L1 t h fun t1 _=>∃ x,OR P rl t1 h (.w 0 [] F.zero fun t' h'=>get 0 t'=x/\h'=h)/\WO P L2 (put n x t1) h fun t3 _=>OR P rA t3 h (.w0 [] t3 fun _ h2=>OR P rl t1 h2 (.w 0 [] F.zero fun t' h'=>get 0 t'=x/\h'=h2)/\WO P L3 t3 h2 fun t5 _=>OR P rB t5 h2 (.w0 [] t5 fun _ h3=>K .normal t5 h3))):Ok P nt (.A7 l (some (ld,cs))) t h K:=by
 obtain⟨t1,g1,k1,x,k2,t3,g3,k3,k4⟩:=k
 obtain⟨v,h2,rr,k5,t5,g5,k6,k7⟩:=Qv k4
 obtain⟨v',h3,rr',k8⟩:=Qv k7
 exact Ok.float hm hl hn hp hlo hcs ⟨t1,g1,k1,_,Oo (Vq k2),t3,g3,k3,_,h2,Oa rr,Oo (Vq k5),t5,g5,k6,_,h3,Oa rr',k8⟩
def yJ (P:Program) (nt:Nat) (l:List CO) (ld:List Nat) (cs:List (Nat×List Nat)) (t:F) (h:H) (K:X->F->H->Prop):Prop:=Ok P nt (.A7 l (some (ld,cs))) t h K
theorem dV {P:Program} {nt:Nat} {l:List CO} {ld:List Nat} {cs:List (Nat×List Nat)} {t:F} {h:H} {K:X->F->H->Prop} (a:yJ P nt l ld cs t h K):Ok P nt (.A7 l (some (ld,cs))) t h K:=a
theorem Mt {α:Type} {n el:Nat} {c:α->List V} {h:H} {v:V} {L:List α} (a:Gr el n c h v L):cells v=[v]/\FI v=true:=by
 rcases a with⟨rfl,rfl⟩|⟨id,g,off,fin,rfl,_⟩|⟨id,g,cap,Ak,rfl,_⟩<;>exact⟨rfl,rfl⟩
end Go.Ev
namespace Go.Proofs.Ytobfgempjekjpaa
open Go Go.Ev
theorem Vx {h:H} {b:B} {v g c:V} {S:Ix} {e:Kc} (a:KP h b v S) (wf:Wf S) (m:SF h g c e) (hgl:e.gone.length<=100) (Aa:e.Af.length<=100) (hsz:∀ t∈e.Af,t.fst.length<=1000000/\t.Da.length<=1000000) (hf:B.val h.floor<=B.val h.next) (hcb:∀ q,Am c q->q≠b):
 BO Try.prog 18 [.p b 0 0 4,.a [g,c,.i .i64 e.log,.i .i64 e.seq]] h fun y h'=>y=.i .i64 (NO S e).1/\∃ v',KP h' b v' (NO S e).2/\(∀ q,Am v' q->Am v q\/B.val h.next<=B.val q)/\AU (fun q=>q=b) h h':=by
 have hl:=wf.len
 refine BK xy (by intro hb;cases hb) (by simp) (by simp) fun Q hQ=>?_
 simp only[Av,Nat.reduceAdd]
 repeat' (first
  |refine St.h ?_
  |simp(disch:=first|omega|(simp only[AJ];omega))only[AI,↓AB,↓reduceIte,seval]
  |(with_reducible (first|apply AD|apply AE))<;>(intro hc;(try simp only[Ab]at hc);(try simp only[hc]);(try simp only[Aa]at hc);try omega))
 refine AL.own (by simp) hf fun h1 s1 n1 o1=>?_
 have hf1:=s1.fl hf
 have r1:=o1.row
 repeat' (first
  |refine St.h ?_
  |simp(disch:=first|omega|(simp only[AJ];omega))only[AI,↓AB,↓reduceIte,seval,r1.ln]
  |(with_reducible (first|apply AD|apply AE))<;>(intro hc;(try simp only[Ab]at hc);(try simp only[hc]);(try simp only[Aa]at hc);try omega))
 refine CL.stay (Ui (m.grow s1) (by omega) (by omega) hf1) fun h2 s2=>?_
 have s12:=s1.trans s2
 have hf2:=s12.fl hf
 have up:∀ {h'},AU AQ h h'->AU (fun q=>q=b) h h':=fun s=>s.mono fun _ _ e=>e.elim
 cases he:Ln e with
 |false=>
  have ed:NO S e=(10,S):=by unfold NO;rw[if_pos he]
  repeat' (first
   |refine St.h ?_
   |simp(disch:=first|omega|(simp only[AJ];omega))only[AI,↓AB,↓reduceIte,seval]
   |(with_reducible (first|apply AD|apply AE))<;>(intro hc;(try simp only[Ab]at hc);(try simp only[hc]);(try simp only[Aa]at hc);try omega))
  subst hQ
  rw[ed]
  exact⟨rfl,v,a.grow s12,fun q hq=>.inl hq,up s12⟩
 |true=>
 have IE:=KC.1 he
 have r2:=(o1.stay s2 fun e=>e).row
 repeat' (first
  |refine St.h ?_
  |simp(disch:=first|omega|(simp only[AJ];omega))only[AI,↓AB,↓reduceIte,seval,r2.l1]
  |(with_reducible (first|apply AD|apply AE))<;>(intro hc;(try simp only[Ab]at hc);(try simp only[hc]);(try simp only[Aa]at hc);try omega))
 refine CL.stay (QO (a.grow s12) (m.grow s12).1 (by omega) (by omega) hf2) fun h3 s3=>?_
 have s13:=s12.trans s3
 have hf3:=s13.fl hf
 cases hh:SD S.L e.gone with
 |false=>
  have ed:NO S e=(18,S):=by unfold NO;rw[if_neg (by rw[he];simp),if_pos hh]
  repeat' (first
   |refine St.h ?_
   |simp(disch:=first|omega|(simp only[AJ];omega))only[AI,↓AB,↓reduceIte,seval]
   |(with_reducible (first|apply AD|apply AE))<;>(intro hc;(try simp only[Ab]at hc);(try simp only[hc]);(try simp only[Aa]at hc);try omega))
  subst hQ
  rw[ed]
  exact⟨rfl,v,a.grow s13,fun q hq=>.inl hq,up s13⟩
 |true=>
 have r3:=(o1.stay (s2.trans s3) fun e=>e).row
 repeat' (first
  |refine St.h ?_
  |simp(disch:=first|omega|(simp only[AJ];omega))only[AI,↓AB,↓reduceIte,seval,r3.ln]
  |(with_reducible (first|apply AD|apply AE))<;>(intro hc;(try simp only[Ab]at hc);(try simp only[hc]);(try simp only[Aa]at hc);try omega))
 refine CL.stay (Ux (a.grow s13) (m.grow s13) hf3) fun h4 s4=>?_
 have s14:=s13.trans s4
 have hf4:=s14.fl hf
 cases hp:GC S e with
 |true=>
  have ed:NO S e=(16,S):=by unfold NO;rw[if_neg (by rw[he];simp),if_neg (by rw[hh];simp),if_pos hp]
  repeat' (first
   |refine St.h ?_
   |simp(disch:=first|omega|(simp only[AJ];omega))only[AI,↓AB,↓reduceIte,seval]
   |(with_reducible (first|apply AD|apply AE))<;>(intro hc;(try simp only[Ab]at hc);(try simp only[hc]);(try simp only[Aa]at hc);try omega))
  subst hQ
  rw[ed]
  exact⟨rfl,v,a.grow s14,fun q hq=>.inl hq,up s14⟩
 |false=>
 have r4:=(o1.stay ((s2.trans s3).trans s4) fun e=>e).row
 repeat' (first
  |refine St.h ?_
  |simp(disch:=first|omega|(simp only[AJ];omega))only[AI,↓AB,↓reduceIte,seval,r4.ln]
  |(with_reducible (first|apply AD|apply AE))<;>(intro hc;(try simp only[Ab]at hc);(try simp only[hc]);(try simp only[Aa]at hc);try omega))
 refine CL.mk (Po (a.grow s14) (m.grow s14) (by omega) hgl Aa hsz hf4) ?_
 rintro u h5 ⟨M,pm,so,bM,own,s5⟩
 have s15:=s14.trans s5
 have hf5:=s15.fl hf
 have hlM:M.length<=200:=by rw[pm.length_eq,List.length_append];have:(CG S.L e.gone).length<=S.L.length:=List.length_filter_le _ _;omega
 have e0:NO S e=match Fz (CG S.L e.gone) e.Af with|none=>(16,S)|some M=>if 40<M.length then (25,S)else (0,P7 S e M):=by unfold NO;rw[if_neg (by rw[he];simp),if_neg (by rw[hh];simp),if_neg (by rw[hp];simp)]<;>cases Fz (CG S.L e.gone) e.Af<;>rfl
 have dq:=n8 wf IE hp pm so
 repeat' (first
  |refine St.h ?_
  |simp(disch:=first|omega|(simp only[AJ];omega))only[AI,↓AB,↓reduceIte,seval]
  |(with_reducible (first|apply AD|apply AE))<;>(intro hc;(try simp only[Ab]at hc);(try simp only[hc]);(try simp only[Aa]at hc);try omega))
 refine CL.stay (VY bM.DY (by omega) hf5) fun h6 s6=>?_
 have s16:=s15.trans s6
 have hf6:=s16.fl hf
 have b6:=bM.grow s6
 cases hm:F7 M with
 |true=>
  have hc:Fz (CG S.L e.gone) e.Af=none:=by
   rcases dq with⟨_,h⟩|⟨h,_⟩
   ·exact h
   ·rw[hm]at h;cases h
  rw[hc]at e0
  repeat' (first
   |refine St.h ?_
   |simp(disch:=first|omega|(simp only[AJ];omega))only[AI,↓AB,↓reduceIte,seval]
   |(with_reducible (first|apply AD|apply AE))<;>(intro hc;(try simp only[Ab]at hc);(try simp only[hc]);(try simp only[Aa]at hc);try omega))
  subst hQ
  rw[e0]
  exact⟨rfl,v,a.grow s16,fun q hq=>.inl hq,up s16⟩
 |false=>
 have hc:Fz (CG S.L e.gone) e.Af=some M:=by
  rcases dq with⟨h,_⟩|⟨_,h⟩
  ·rw[hm]at h;cases h
  ·exact h
 rw[hc]at e0
 by_cases h40:40<M.length
 ·have d40:((40:Int)<(M.length:Int))=True:=eq_true (by omega)
  have ed:NO S e=(25,S):=e0.trans (if_pos h40)
  repeat' (first
   |refine St.h ?_
   |simp(disch:=first|omega|(simp only[AJ];omega))only[AI,↓AB,↓reduceIte,seval,b6.DY.ln,d40]
   |(with_reducible (first|apply AD|apply AE))<;>(intro hc;(try simp only[Ab]at hc);(try simp only[hc]);(try simp only[Aa]at hc);try omega))
  subst hQ
  rw[ed]
  exact⟨rfl,v,a.grow s16,fun q hq=>.inl hq,up s16⟩
 have d40:((40:Int)<(M.length:Int))=False:=eq_false (by omega)
 have ed:NO S e=(0,P7 S e M):=e0.trans (if_neg h40)
 have a6:=a.grow s16
 repeat' (first
  |refine St.h ?_
  |simp(disch:=first|omega|(simp only[AJ];omega))only[AI,↓AB,↓reduceIte,seval,b6.DY.ln,d40]
  |(with_reducible (first|apply AD|apply AE))<;>(intro hc;(try simp only[Ab]at hc);(try simp only[hc]);(try simp only[Aa]at hc);try omega))
 refine ST.own a6.1 (Mt b6).1 (Mt b6).2 (by omega) (by omega) fun h7 o7 s7=>?_
 have o7:Ev.DM h7 b [u,.i .i64 S.log,.i .i64 S.seq,.i .i64 S.next]:=o7
 have hne:h.next≠b:=fun e=>by have:=a.lt.1;rw[<-e]at this;omega
 have q7:=((o1.stay ((((s2.trans s3).trans s4).trans s5).trans s6) fun e=>e).stay s7 fun e=>hne e).row
 have w7:=o7.row
 repeat' (first
  |with_reducible refine dV ?_
  |refine St.h ?_
  |simp(disch:=first|omega|(simp only[AJ];omega))only[AI,↓AB,↓reduceIte,seval,w7.l1,q7.l1]
  |(with_reducible (first|apply AD|apply AE))<;>(intro hc;(try simp only[Ab]at hc);(try simp only[hc]);(try simp only[Aa]at hc);try omega))
 refine Ok.XE iZ (L1:=[.mk .none (.some (AR 35)) .false (.mk (AA (tm 0))),.mk .none (.some (AR 36)) .false (.mk (AA (tm 0))),.mk .none (.some (AR 37)) .false (.mk (AA (tm 0))),.mk .none (.some (AR 38)) .false (.mk (Ag (tm 37))),.mk .none (.some (AR 39)) .false (.mk (AH 1 (tm 38))),.mk .none (.some (AR 40)) .false (.mk (AW (tm 39))),.mk .none (.some (AR 41)) .false (.mk (AH 2 (tm 3))),.mk .none (.some (AR 42)) .false (.mk (AW (tm 41))),.mk .none (.some (AR 43)) .false (.mk (Fx (tm 40) (tm 42))),.mk .none (.some (AR 44)) .false (.mk (AA (tm 0))),.mk .none (.some (AR 45)) .false (.mk (Ag (tm 44))),.mk .none (.some (AR 46)) .false (.mk (AH 2 (tm 45))),.mk .none (.some (AR 47)) .false (.mk (AW (tm 46))),.mk .none (.some (AR 48)) .false (.mk (AH 3 (tm 3)))]) (L2:=[.mk .none (.some (AR 50)) .false (.mk (Fx (tm 47) (tm 49))),.mk .none (.some (AR 51)) .false (.mk (Ag (tm 35))),.mk .none (.some (AR 52)) .false (.mk (AH 1 (tm 51)))]) (L3:=[.mk .none (.some (AR 53)) .true (.mk (Ag (tm 36))),.mk .none (.some (AR 54)) .false (.mk (AH 2 (tm 53)))]) (n:=49) (rl:=AW (tm 48)) (rA:=Ae 1 (tm 52) (tm 43)) (rB:=Ae 1 (tm 54) (tm 50)) rfl rfl rfl rfl (by decide) ?_
 repeat' (first
  |refine St.h ?_
  |simp(disch:=first|omega|(simp only[AJ];omega))only[AI,↓AB,↓reduceIte,seval,w7.l1,q7.l1]
  |(with_reducible (first|apply AD|apply AE))<;>(intro hc;(try simp only[Ab]at hc);(try simp only[hc]);(try simp only[Aa]at hc);try omega))
 refine⟨.i .i64 e.seq,?_⟩
 repeat' (first
  |refine St.h ?_
  |simp(disch:=first|omega|(simp only[AJ];omega))only[AI,↓AB,↓reduceIte,seval,w7.l1,q7.l1]
  |(with_reducible (first|apply AD|apply AE))<;>(intro hc;(try simp only[Ab]at hc);(try simp only[hc]);(try simp only[Aa]at hc);try omega))
 refine⟨trivial,?_⟩
 refine ST.own o7 rfl rfl (by omega) (by omega) fun h8 o8 s8=>?_
 have o8:Ev.DM h8 b [u,.i .i64 (max S.log e.log),.i .i64 S.seq,.i .i64 S.next]:=o8
 have ob8:=(((o1.stay ((((s2.trans s3).trans s4).trans s5).trans s6) fun e=>e).stay s7 fun e=>hne e).stay s8 fun e=>hne e)
 have q8:=ob8.row
 have w8:=o8.row
 repeat' (first
  |refine St.h ?_
  |simp(disch:=first|omega|(simp only[AJ];omega))only[AI,↓AB,↓reduceIte,seval,w8.l1,q8.l1]
  |(with_reducible (first|apply AD|apply AE))<;>(intro hc;(try simp only[Ab]at hc);(try simp only[hc]);(try simp only[Aa]at hc);try omega))
 refine⟨trivial,?_⟩
 repeat' (first
  |refine St.h ?_
  |simp(disch:=first|omega|(simp only[AJ];omega))only[AI,↓AB,↓reduceIte,seval,w8.l1,q8.l1]
  |(with_reducible (first|apply AD|apply AE))<;>(intro hc;(try simp only[Ab]at hc);(try simp only[hc]);(try simp only[Aa]at hc);try omega))
 refine ST.own o8 rfl rfl (by omega) (by omega) fun h9 o9 s9=>?_
 have o9:Ev.DM h9 b [u,.i .i64 (max S.log e.log),.i .i64 (max S.seq e.seq),.i .i64 S.next]:=o9
 have q9:=(ob8.stay s9 fun e=>hne e).row
 have w9:=o9.row
 have s69:AU (fun q=>q=b) h h9:=(((up s16).trans s7).trans s8).trans s9
 have nb:∀ q,Am u q->q≠b:=fun q hq e=>by have h1:=own q hq;have:=s14.next;have:=a.lt.1;rw[e]at h1;omega
 have b9:Rt h9 u M:=((b6.stay s7 nb).stay s8 nb).stay s9 nb
 have ow:∀ q,Am u q->Am v q\/B.val h.next<=B.val q:=fun q hq=>.inr (Nat.le_trans s14.next (own q hq))
 have c9:E9 h9 c e.Af:=Ss.stay m.2 s69 hcb
 by_cases h0:0<e.Af.length
 ·have d1:((0:Int)<=(e.Af.length:Int)-1)=True:=eq_true (by omega)
  have ei:((e.Af.length:Int)-1).toNat=e.Af.length-1:=by omega
  have hi:e.Af.length-1<e.Af.length:=by omega
  obtain⟨i1,i2,_⟩:=Dd.1 (IE.tb _ (Db hi))
  repeat' (first
   |refine St.h ?_
   |simp(disch:=first|omega|(simp only[AJ];omega))only[AI,↓AB,↓reduceIte,seval,w9.l1,q9.l1,c9.ln,d1,ei,c9.ix,c9.l0]
   |(with_reducible (first|apply AD|apply AE))<;>(intro hc;(try simp only[Ab]at hc);(try simp only[hc]);(try simp only[Aa]at hc);try omega))
  refine ST.own o9 rfl rfl (by omega) (by omega) fun ha oa sa=>?_
  have oa:Ev.DM ha b [u,.i .i64 (max S.log e.log),.i .i64 (max S.seq e.seq),.i .i64 ((e.Af.getD (e.Af.length-1) default).id+1)]:=oa
  repeat' (first
   |refine St.h ?_
   |simp(disch:=first|omega|(simp only[AJ];omega))only[AI,↓AB,↓reduceIte,seval]
   |(with_reducible (first|apply AD|apply AE))<;>(intro hc;(try simp only[Ab]at hc);(try simp only[hc]);(try simp only[Aa]at hc);try omega))
  subst hQ
  rw[ed]
  refine⟨rfl,u,⟨?_,Gr.ss (b9.stay sa nb),nb⟩,ow,s69.trans sa⟩
  show Ev.DM ha b [u,.i .i64 (max S.log e.log),.i .i64 (max S.seq e.seq),.i .i64 (if 0<e.Af.length then (e.Af.getD (e.Af.length-1) default).id+1 else S.next)]
  rw[if_pos h0];exact oa
 ·have d1:((0:Int)<=(e.Af.length:Int)-1)=False:=eq_false (by omega)
  repeat' (first
   |refine St.h ?_
   |simp(disch:=first|omega|(simp only[AJ];omega))only[AI,↓AB,↓reduceIte,seval,w9.l1,q9.l1,c9.ln,d1]
   |(with_reducible (first|apply AD|apply AE))<;>(intro hc;(try simp only[Ab]at hc);(try simp only[hc]);(try simp only[Aa]at hc);try omega))
  subst hQ
  rw[ed]
  refine⟨rfl,u,⟨?_,b9.DY,nb⟩,ow,s69⟩
  show Ev.DM h9 b [u,.i .i64 (max S.log e.log),.i .i64 (max S.seq e.seq),.i .i64 (if 0<e.Af.length then (e.Af.getD (e.Af.length-1) default).id+1 else S.next)]
  rw[if_neg h0];exact o9
end Go.Proofs.Ytobfgempjekjpaa
set_option maxRecDepth 100000
namespace Go.Ev
open Go
end Go.Ev
namespace Go.Proofs.Ytobfgempjekjpaa
open Go Go.Ev
/--an edit,with what it holds in memory -/
structure Ek where
 gv:V
 cv:V
 e:Kc
instance:Inhabited Ek:=⟨⟨.l0,.l0,default⟩⟩
def ue (k:Ek):List V:=[k.gv,k.cv,.i .i64 k.e.log,.i .i64 k.e.seq]
theorem I8 (k:Ek):(ue k).length=4:=rfl
structure KG (h:H) (v:V) (K:List Ek):Prop where
 ss:Ss 4 ue h v K
 es:∀ k∈K,SF h k.gv k.cv k.e
section
variable {P:Program} {h h' g':H} {N:Nx} {v:V} {K:List Ek} {i:Nat}
theorem KG.ln (a:KG h v K):H1 P Lv v g' N=N.go P (.i .i64 (K.length:Int)) g':=Ss.ln a.ss
theorem KG.ix (a:KG h v K) (hi:i<K.length):IX P 4 v i g' N=N.go P (.p (Fb v) (lg v) (Cf v+i*4) (Cg v)) g':=Ss.ix a.ss hi
theorem KG.l0 (a:KG h v K) (hi:i<K.length):L1 P (Fb v) (lg v) (Cf v+i*4) (Cg v) h N=N.go P (K.getD i default).gv h:=Ss.ld (d:=0) a.ss I8 hi (by omega)
theorem KG.l1 (a:KG h v K) (hi:i<K.length):L1 P (Fb v) (lg v) (Cf v+i*4+1) (Cg v) h N=N.go P (K.getD i default).cv h:=Ss.ld (d:=1) a.ss I8 hi (by omega)
theorem KG.la (a:KG h v K) (hi:i<K.length):LN P (Fb v) (lg v) (Cf v+i*4) (Cg v) 4 h N=N.go P (.a [(K.getD i default).gv,(K.getD i default).cv,.i .i64 (K.getD i default).e.log,.i .i64 (K.getD i default).e.seq]) h:=Ss.wU a.ss I8 (by omega) hi
theorem KG.grow (a:KG h v K) (s:AU AQ h h'):KG h' v K:=⟨Ss.grow a.ss s,fun k hk=>(a.es k hk).grow s⟩
theorem KG.at (a:KG h v K) (hi:i<K.length):SF h (K.getD i default).gv (K.getD i default).cv (K.getD i default).e:=a.es _ (Db hi)
end
def WM (k:Ek):Prop:=k.e.gone.length<=60/\k.e.Af.length<=60/\∀ j,j<k.e.Af.length->(k.e.Af.getD j default).fst.length<=20/\(k.e.Af.getD j default).Da.length<=20
def uc (K:List Ek):Prop:=K.length<=20/\∀ i,i<K.length->WM (K.getD i default)
end Go.Proofs.Ytobfgempjekjpaa
set_option maxRecDepth 1000000
namespace Go.Proofs.Ytobfgempjekjpaa
open Go Go.Ev
abbrev vd:CC:=(CC.cond (tm 8) CC.skip (CC.exit 0))
abbrev va:CC:=(CC.seq (CC.region [(wB 5 (AA (tm 3))),(wB 6 (AA (tm 0))),(wB 7 (BW (tm 6))),(wB 8 (AM Bt (tm 5) (tm 7)))]) vd)
abbrev vV:CC:=(CC.seq (CC.region [(wB 2 (AA (O.c (V.b Bool.false))))]) CC.ret)
abbrev vj:CC:=(CC.cond (tm 26) vV CC.skip)
abbrev vh:CC:=(CC.seq (CC.region [(wB 11 (AA (tm 0))),(wB 12 (AA (tm 3))),(wB 13 (AF 4 (tm 11) (tm 12))),(wB 14 (AH 0 (tm 13))),(wB 15 (AW (tm 14))),(wB 16 (BW (tm 15))),(wB 17 (AM Dc (tm 16) (oN 60))),(wB 18 (AA (tm 17))),(wG 18 false 19 (AA (tm 0))),(wG 18 false 20 (AA (tm 3))),(wG 18 false 21 (AF 4 (tm 19) (tm 20))),(wG 18 false 22 (AH 1 (tm 21))),(wG 18 false 23 (AW (tm 22))),(wG 18 false 24 (BW (tm 23))),(wG 18 false 25 (AM Dc (tm 24) (oN 60))),(wB 26 (Ay (tm 18) (O.c (V.b Bool.true)) (tm 25)))]) vj)
abbrev vQ:CC:=(CC.cond (tm 34) CC.skip (CC.exit 2))
abbrev uh:CC:=(CC.seq (CC.region [(wB 27 (AA (tm 4))),(wB 28 (AA (tm 0))),(wB 29 (AA (tm 3))),(wB 30 (AF 4 (tm 28) (tm 29))),(wB 31 (AH 1 (tm 30))),(wB 32 (AW (tm 31))),(wB 33 (BW (tm 32))),(wB 34 (AM Bt (tm 27) (tm 33)))]) vQ)
abbrev uf:CC:=(CC.seq (CC.region [(wB 2 (AA (O.c (V.b Bool.false))))]) CC.ret)
abbrev uV:CC:=(CC.cond (tm 60) uf CC.skip)
abbrev vE:CC:=(CC.seq (CC.region [(wB 37 (AA (tm 0))),(wB 38 (AA (tm 3))),(wB 39 (AF 4 (tm 37) (tm 38))),(wB 40 (AH 1 (tm 39))),(wB 41 (AW (tm 40))),(wB 42 (AA (tm 4))),(wB 43 (AF 5 (tm 41) (tm 42))),(wB 44 (AH 2 (tm 43))),(wB 45 (AW (tm 44))),(wB 46 (DA (tm 45))),(wB 47 (AM Dc (tm 46) (oN 20))),(wB 48 (AA (tm 47))),(wG 48 false 49 (AA (tm 0))),(wG 48 false 50 (AA (tm 3))),(wG 48 false 51 (AF 4 (tm 49) (tm 50))),(wG 48 false 52 (AH 1 (tm 51))),(wG 48 false 53 (AW (tm 52))),(wG 48 false 54 (AA (tm 4))),(wG 48 false 55 (AF 5 (tm 53) (tm 54))),(wG 48 false 56 (AH 3 (tm 55))),(wG 48 false 57 (AW (tm 56))),(wG 48 false 58 (DA (tm 57))),(wG 48 false 59 (AM Dc (tm 58) (oN 20))),(wB 60 (Ay (tm 48) (O.c (V.b Bool.true)) (tm 59)))]) uV)
abbrev im:CC:=(CC.block 3 vE)
abbrev qB:CC:=(CC.region [(wB 35 (AA (tm 4))),(wB 36 (AM BB (tm 35) (oN 1))),(wB 4 (AA (tm 36)))])
abbrev lR:CC:=(CC.seq im qB)
abbrev uX:CC:=(CC.seq uh lR)
abbrev p9:CC:=(CC.loop uX)
abbrev ju:CC:=(CC.block 2 p9)
abbrev sP:CC:=(CC.seq (CC.region [(wB 4 (AA (oN 0)))]) ju)
abbrev hT:CC:=(CC.seq vh sP)
abbrev jl:CC:=(CC.block 1 hT)
abbrev mT:CC:=(CC.region [(wB 9 (AA (tm 3))),(wB 10 (AM BB (tm 9) (oN 1))),(wB 3 (AA (tm 10)))])
abbrev jv:CC:=(CC.seq jl mT)
abbrev vZ:CC:=(CC.seq va jv)
abbrev pX:CC:=(CC.loop vZ)
abbrev pI:CC:=(CC.block 0 pX)
abbrev lJ:CC:=(CC.seq (CC.region [(wB 3 (AA (oN 0)))]) pI)
abbrev iF:CC:=(CC.seq (CC.region [(wB 61 (AA (tm 0))),(wB 62 (BW (tm 61))),(wB 63 (AM Ew (tm 62) (oN 20))),(wB 2 (AA (tm 63)))]) CC.ret)
abbrev tE:CC:=(CC.seq lJ iF)
abbrev b8:CC:=(CC.seq (CC.region [(wB 2 (AA (O.c (V.b Bool.false))))]) tE)
end Go.Proofs.Ytobfgempjekjpaa
set_option maxRecDepth 1000000
namespace Go.Proofs.Ytobfgempjekjpaa
open Go Go.Ev
abbrev wP:CC:=(CC.seq (CC.region [(wB 1 (Ct [V.l0,(V.i IntKind.i64 (Int.ofNat 0)),(V.i IntKind.i64 (Int.ofNat 0)),(V.i IntKind.i64 (Int.ofNat 0))] [(Pt.mk 1 1 (oN 1)),(Pt.mk 3 1 (oN 1))])),(wB 2 (DR 38 (tm 1))),(wB 0 (AA (tm 2)))]) CC.ret)
abbrev b9:CC:=(CC.seq (CC.region [(wB 0 (AA (O.c V.p0)))]) wP)
theorem c9:AV Try.prog 9=⟨3,b9,[(Rs.tmp (AR 0))]⟩:=by kernel_rfl
end Go.Proofs.Ytobfgempjekjpaa
set_option maxRecDepth 100000
set_option maxHeartbeats 8000000
namespace Go.Proofs.Ytobfgempjekjpaa
open Go Go.Ev
theorem KG.own {h:H} {v:V} {K:List Ek} {i:Nat} (a:KG h v K) (hi:i<K.length):∀ q,Am (K.getD i default).cv q->B.val q<B.val h.next:=by
 have:=(a.at hi).2
 rcases this with⟨e,_⟩|⟨id,g,off,fin,cap,e,_,hl,_⟩
 ·rintro q ⟨_,_,_,_,_,e2⟩;rw[e]at e2;cases e2
 ·rintro q ⟨_,_,_,_,_,e2⟩;rw[e]at e2;cases e2;exact hl
theorem bJ {k:Ek} (f:WM k):∀ t∈k.e.Af,t.fst.length<=1000000/\t.Da.length<=1000000:=fun t ht=>by
 obtain⟨j,hj,rfl⟩:=Gk ht
 have:=f.2.2 j hj;omega
end Go.Proofs.Ytobfgempjekjpaa
namespace Go.Proofs.Ytobfgempjekjpaa
open Go Go.Ev Go.RowKit Go.WideShapes Go.ChangeShapes Go.ChangeAt Go.Deep
/--an edit's type -/
structure wV (P:Program) (t:TypeId) (fs:Array Field):Prop where
 ut:P.underlying t=some (.struct fs)
 sz:P.cellsOf t=4
 f0:∃ f,fs.toList[0]? =some f/\f.offset=0/\P.cellsOf f.type=1/\∃ e,P.underlying f.type=some (.slice e)/\P.cellsOf e=1/\P.underlying e=some (.int .i64)
 f1:∃ f,fs.toList[1]? =some f/\f.offset=1/\P.cellsOf f.type=1/\∃ e gs,P.underlying f.type=some (.slice e)/\RU P e gs [.i .i64,.i .i64,.s,.s,.i .i64]
 f2:∃ f,fs.toList[2]? =some f/\f.offset=2/\P.cellsOf f.type=1/\P.underlying f.type=some (.int .i64)
 f3:∃ f,fs.toList[3]? =some f/\f.offset=3/\P.cellsOf f.type=1/\P.underlying f.type=some (.int .i64)
section
variable {H':Type} {enc:TypeId×Value->H'} {P:Program} {W:World}
theorem SR {t:TypeId} {fs:Array Field} {fuel:Nat} {cs:List Value} {x:DataW H'×List MemPlace} (ut:P.underlying t=some (.struct fs)) (hd:DataW.trod enc P W 0 (fun _=>true) true fuel t cs=some x):
 cs.length=P.cellsOf t/\∀ (i:Nat) f,fs.toList[i]? =some f->∃ n y,DataW.trod enc P W 0 (fun _=>true) true n f.type ((cs.drop f.offset).take (P.cellsOf f.type))=some y:=by
 cases fuel with
 |zero=>simp[DataW.trod]at hd
 |succ n=>
  unfold DataW.trod at hd
  rw[ut]at hd
  simp only at hd
  split at hd
  ·rename_i hl
   refine⟨hl,fun i f hf=>?_⟩
   rw[Option.map_eq_some_iff]at hd
   obtain⟨xs,hx,_⟩:=hd
   have:=mapM_some_get hx i f hf
   have hlen:=mapM_some_length hx
   have hi:i<xs.length:=by rw[hlen];exact(List.getElem?_eq_some_iff.1 hf).1
   exact⟨n,xs[i],by rw[this];simp⟩
  ·cases hd
/--a row of tables -/
theorem jm {h:H} (s:Go.Ev.Start W h) (h0:0<W.heap.size) {t e:TypeId} {fs:Array Field} {fuel:Nat} {cs:List Value} {x:DataW H'×List MemPlace} (ht:P.underlying t=some (.slice e)) (F:RU P e fs [.i .i64,.i .i64,.s,.s,.i .i64])
 (hd:DataW.trod enc P W 0 (fun _=>true) true fuel t cs=some x):∃ sv L,cs=[sv]/\E9 h (Cp W sv) L/\L.length<=9223372036854775807/\∀ a∈L,True:=
 O4 (c:=Lb) (Pr:=fun _=>True) Be (by omega) s h0 ht F.sz (fun fuel cs x h=>by
  obtain⟨_,_,rfl,⟨a,rfl,_⟩,_,_,rfl,⟨b,rfl,_⟩,_,_,rfl,⟨c,rfl,_⟩,_,_,rfl,⟨d,rfl,_⟩,_,_,rfl,⟨e,rfl,_⟩,rfl⟩:=Pd F h
  refine⟨⟨a,b,c.data.toList,d.data.toList,e⟩,?_,trivial⟩
  simp only[List.map_cons,List.map_nil,Mo,RS]
  rfl) hd
/--a row of edits -/
theorem Yy {h:H} (s:Go.Ev.Start W h) (h0:0<W.heap.size) {t e:TypeId} {fs:Array Field} {fuel:Nat} {cs:List Value} {x:DataW H'×List MemPlace} (ht:P.underlying t=some (.slice e)) (F:wV P e fs)
 (hd:DataW.trod enc P W 0 (fun _=>true) true fuel t cs=some x):∃ sv K,cs=[sv]/\KG h (Cp W sv) K/\K.length<=9223372036854775807/\∀ a∈K,True:=by
 obtain⟨sv,K,e1,e2,e3,e4⟩:=O4 (α:=Ek) (c:=ue) (n:=4) (Pr:=fun k=>SF h k.gv k.cv k.e) I8 (by omega) s h0 ht F.sz (fun fuel cs x hx=>by
  obtain⟨hl,hf⟩:=SR F.ut hx
  rw[F.sz]at hl
  obtain⟨c0,c1,c2,c3,rfl⟩:∃ c0 c1 c2 c3,cs=[c0,c1,c2,c3]:=by
   match cs,hl with
   |[a,b,c,d],_=>exact⟨a,b,c,d,rfl⟩
  obtain⟨f0,g0,o0,z0,t0,u0,v0,w0⟩:=F.f0
  obtain⟨f1,g1,o1,z1,t1,gs,u1,F1⟩:=F.f1
  obtain⟨f2,g2,o2,z2,u2⟩:=F.f2
  obtain⟨f3,g3,o3,z3,u3⟩:=F.f3
  obtain⟨n0,y0,k0⟩:=hf 0 f0 g0
  obtain⟨n1,y1,k1⟩:=hf 1 f1 g1
  obtain⟨n2,y2,k2⟩:=hf 2 f2 g2
  obtain⟨n3,y3,k3⟩:=hf 3 f3 g3
  rw[o0,z0]at k0
  rw[o1,z1]at k1
  rw[o2,z2]at k2
  rw[o3,z3]at k3
  obtain⟨x0,xs,e0,m0,_⟩:=qt s h0 u0 v0 w0 k0
  obtain⟨x1,L,e1,m1,_⟩:=jm s h0 u1 F1 k1
  obtain⟨a,e2,_⟩:=DataW.trod_int u2 k2
  obtain⟨b,e3,_⟩:=DataW.trod_int u3 k3
  obtain rfl:=(List.cons.inj (show[c0]=[x0]from e0)).1
  obtain rfl:=(List.cons.inj (show[c1]=[x1]from e1)).1
  obtain rfl:=(List.cons.inj (show[c2]=[_]from e2)).1
  obtain rfl:=(List.cons.inj (show[c3]=[_]from e3)).1
  refine⟨⟨Cp W c0,Cp W c1,⟨xs,L,a,b⟩⟩,?_,m0,m1⟩
  simp only[List.map_cons,List.map_nil,Mo]
  rfl) hd
 exact⟨sv,K,e1,⟨e2,e4⟩,e3,fun _ _=>trivial⟩
end
end Go.Proofs.Ytobfgempjekjpaa
set_option maxRecDepth 1000000
namespace Go.Proofs.Ytobfgempjekjpaa
open Go Go.Ev
abbrev mu:CC:=(CC.seq (CC.region [(wB 2 (AA (O.c V.l0))),(wB 3 (AA (O.c (V.b Bool.false))))]) CC.ret)
abbrev gM:CC:=(CC.cond (tm 11) mu CC.skip)
abbrev mA:CC:=(CC.seq (CC.region [(wB 9 (AA (tm 4))),(wB 10 (BW (tm 9))),(wB 11 (AM Bt (tm 10) (oN 2)))]) gM)
abbrev oc:CC:=(CC.seq (CC.region [(wB 17 (AA (tm 4))),(wB 18 (AA (tm 0))),(wB 19 (AY 25 [(tm 18),(oN 1)])),(wB 20 (AA (tm 5))),(wB 21 (AA (tm 6))),(wB 22 (AY 47 [(tm 19),(tm 20),(tm 21)])),(wB 23 (Bn 57 5 (tm 17) (tm 22))),(wB 2 (AA (tm 23))),(wB 3 (AA (O.c (V.b Bool.true))))]) CC.ret)
abbrev rv:CC:=(CC.seq (CC.region [(wB 13 (AA (tm 4))),(wB 14 (AY 46 [(tm 13)])),(wB 12 (AA (tm 14))),(wB 15 (Az 0 (tm 12))),(wB 16 (Az 1 (tm 12))),(wB 5 (AA (tm 15))),(wB 6 (AA (tm 16)))]) oc)
abbrev nY:CC:=(CC.seq mA rv)
abbrev fe:CC:=(CC.seq (CC.region [(wB 7 (AA (tm 0))),(wB 8 (AY 25 [(tm 7),(oN 0)])),(wB 4 (AA (tm 8)))]) nY)
abbrev yA:CC:=(CC.seq (CC.region [(wB 2 (AA (O.c V.l0))),(wB 3 (AA (O.c (V.b Bool.false))))]) fe)
theorem yt:AV Try.prog 19=⟨24,yA,[(Rs.tmp (AR 2)),(Rs.tmp (AR 3))]⟩:=by kernel_rfl
abbrev jM:CC:=(CC.cond (tm 20) CC.skip (CC.exit 0))
abbrev jO:CC:=(CC.A7 [(uB 23 (AA (tm 4))),(uB 24 (AH 2 (tm 7))),(uB 25 (AW (tm 24))),(uB 26 (G0 (fun a b c d=>Fi a b c d||F3 a b c d) (tm 23) (tm 25))),(uB 27 (AA (tm 5))),(uB 28 (AH 3 (tm 7))),(uB 29 (AW (tm 28))),(uB 30 (G0 (fun a b c d=>!Fi a b c d) (tm 27) (tm 29))),(uB 4 (AA (tm 26))),(uB 5 (AA (tm 30)))] none)
abbrev sn:CC:=(CC.seq (CC.region [(wB 21 (AF 5 (tm 17) (tm 19))),(wB 22 (AT 5 (tm 21))),(wB 7 (CB 57 [(V.i IntKind.i64 (Int.ofNat 0)),(V.i IntKind.i64 (Int.ofNat 0)),(V.s 0 0),(V.s 0 0),(V.i IntKind.i64 (Int.ofNat 0))])),(CO.mk G.none D.none Bool.true (CR.mk (Ae 5 (tm 7) (tm 22))))]) jO)
abbrev pD:CC:=(CC.block 1 sn)
abbrev lK:CC:=(CC.region [(wB 31 (AM BB (tm 19) (oN 1))),(wB 19 (AA (tm 31)))])
abbrev ph:CC:=(CC.seq pD lK)
abbrev ov:CC:=(CC.seq jM ph)
abbrev qz:CC:=(CC.seq (CC.region [(wB 20 (AM Bt (tm 19) (tm 18)))]) ov)
abbrev oI:CC:=(CC.loop qz)
abbrev uL:CC:=(CC.block 0 oI)
abbrev gY:CC:=(CC.seq (CC.region [(wB 16 (AA (tm 0))),(wB 17 (B0 5 (tm 16) (some (oN 1)) none)),(wB 18 (BW (tm 17))),(wB 19 (AA (oN 0)))]) uL)
abbrev WS:CC:=(CC.seq (CC.region [(wB 32 (AA (tm 4))),(wB 33 (AA (tm 5))),(wB 2 (AA (tm 32))),(wB 3 (AA (tm 33)))]) CC.ret)
abbrev Xr:CC:=(CC.seq gY WS)
abbrev aL:CC:=(CC.seq (CC.A7 [(uB 8 (AA (tm 0))),(uB 9 (AF 5 (tm 8) (oN 0))),(uB 10 (AH 2 (tm 9))),(uB 11 (AW (tm 10))),(uB 12 (AA (tm 0))),(uB 13 (AF 5 (tm 12) (oN 0))),(uB 14 (AH 3 (tm 13))),(uB 15 (AW (tm 14))),(uB 4 (AA (tm 11))),(uB 5 (AA (tm 15)))] none) Xr)
abbrev xE:CC:=(CC.seq (CC.region [(wB 2 (AA (O.c (V.s 0 0)))),(wB 3 (AA (O.c (V.s 0 0))))]) aL)
theorem xT:AV Try.prog 46=⟨34,xE,[(Rs.tmp (AR 2)),(Rs.tmp (AR 3))]⟩:=by kernel_rfl
abbrev sS:CC:=(CC.cond (tm 13) CC.skip (CC.exit 0))
abbrev lz:CC:=(CC.cond (tm 21) (CC.exit 1) CC.skip)
abbrev lZ:CC:=(CC.seq (CC.region [(wB 22 (AH 2 (tm 9))),(wB 23 (AW (tm 22))),(wB 24 (AA (tm 2))),(wB 25 (CX (fun a b c d=>! (Fi a b c d||F3 a b c d)) (tm 23) (tm 24))),(wB 21 (AA (tm 25)))]) lz)
abbrev r9:CC:=(CC.cond (tm 16) (CC.exit 1) lZ)
abbrev iQ:CC:=(CC.seq (CC.region [(wB 17 (AH 3 (tm 9))),(wB 18 (AW (tm 17))),(wB 19 (AA (tm 1))),(wB 20 (CX Fi (tm 18) (tm 19))),(wB 16 (AA (tm 20)))]) r9)
abbrev jn:CC:=(CC.block 2 iQ)
abbrev jY:CC:=(CC.region [(wB 26 (AA (tm 7))),(wB 27 (AT 5 (tm 9))),(wB 28 (Ax 57 1 [(V.i IntKind.i64 (Int.ofNat 0)),(V.i IntKind.i64 (Int.ofNat 0)),(V.s 0 0),(V.s 0 0),(V.i IntKind.i64 (Int.ofNat 0))] [(Pt.mk 0 5 (tm 27))])),(wB 29 (Bn 57 5 (tm 26) (tm 28))),(wB 7 (AA (tm 29)))])
abbrev lP:CC:=(CC.seq jn jY)
abbrev tC:CC:=(CC.seq (CC.region [(wB 14 (AF 5 (tm 10) (tm 12))),(wB 15 (AT 5 (tm 14))),(wB 9 (CB 57 [(V.i IntKind.i64 (Int.ofNat 0)),(V.i IntKind.i64 (Int.ofNat 0)),(V.s 0 0),(V.s 0 0),(V.i IntKind.i64 (Int.ofNat 0))])),(CO.mk G.none D.none Bool.true (CR.mk (Ae 5 (tm 9) (tm 15))))]) lP)
abbrev qN:CC:=(CC.block 1 tC)
abbrev WV:CC:=(CC.region [(wB 30 (AM BB (tm 12) (oN 1))),(wB 12 (AA (tm 30)))])
abbrev Wu:CC:=(CC.seq qN WV)
abbrev cA:CC:=(CC.seq sS Wu)
abbrev sJ:CC:=(CC.seq (CC.region [(wB 13 (AM Bt (tm 12) (tm 11)))]) cA)
abbrev Zn:CC:=(CC.loop sJ)
abbrev bV:CC:=(CC.block 0 Zn)
abbrev Yd:CC:=(CC.seq (CC.region [(wB 10 (AA (tm 0))),(wB 11 (BW (tm 10))),(wB 12 (AA (oN 0)))]) bV)
abbrev XT:CC:=(CC.seq (CC.region [(wB 31 (AA (tm 7))),(wB 6 (AA (tm 31)))]) CC.ret)
abbrev Yt:CC:=(CC.seq Yd XT)
abbrev Yu:CC:=(CC.seq CC.skip Yt)
abbrev Z9:CC:=(CC.seq (CC.region [(wB 7 (AA (O.c V.l0)))]) Yu)
abbrev xI:CC:=(CC.seq (CC.region [(wB 6 (AA (O.c V.l0)))]) Z9)
theorem yM:AV Try.prog 47=⟨32,xI,[(Rs.tmp (AR 6))]⟩:=by kernel_rfl
end Go.Proofs.Ytobfgempjekjpaa
namespace Go.Ev
open Go
def fP (a b:List UInt8):List UInt8:=bif Op.bytesLess a b||decide (a=b)then a else b
def da (a b:List UInt8):List UInt8:=bif Op.bytesLess a b then b else a
def fO (L:List BN) (i:Nat):List UInt8:=((L.drop 1).take i).foldl (fun a t=>fP a t.fst) (L.getD 0 default).fst
def MB (L:List BN) (i:Nat):List UInt8:=((L.drop 1).take i).foldl (fun a t=>da a t.Da) (L.getD 0 default).Da
def TQ (L:List BN):List UInt8:=fO L (L.length-1)
def QT (L:List BN):List UInt8:=MB L (L.length-1)
theorem N9 {L:List BN} {i:Nat} (h:i<L.length):L.take (i+1)=L.take i++[L.getD i default]:=by rw[List.take_succ];simp[List.getD,h]
theorem Lo {L:List BN} {i:Nat}:(L.drop 1).getD i default=L.getD (i+1) default:=by simp[List.getD,Nat.add_comm]
theorem mP {L:List BN} {i:Nat} (h:i+1<L.length):fO L (i+1)=fP (fO L i) (L.getD (i+1) default).fst:=by
 unfold fO;rw[N9 (by rw[List.length_drop];omega),List.foldl_append,Lo];rfl
theorem mS {L:List BN} {i:Nat} (h:i+1<L.length):MB L (i+1)=da (MB L i) (L.getD (i+1) default).Da:=by
 unfold MB;rw[N9 (by rw[List.length_drop];omega),List.foldl_append,Lo];rfl
/--what may have a key from a on up to b -/
def Hb (a b:List UInt8) (t:BN):Bool:=!Op.bytesLess t.Da a&&!Op.bytesLess b t.fst
def Bm (k:Int) (L:List BN):List BN:=L.filter fun t=>decide (t.A8=k)
def Of (L:List BN):List BN:=(Bm 1 L).filter (Hb (TQ (Bm 0 L)) (QT (Bm 0 L)))
def BJ (L:List BN):List BN:=if (Bm 0 L).length<2 then []else Bm 0 L++Of L
def JO (L:List BN):Bool:=!decide ((Bm 0 L).length<2)
theorem Mq (k:Int) (L:List BN):(Bm k L).length<=L.length:=List.length_filter_le _ _
theorem Ky:∀ L:List BN,(Bm 0 L).length+(Bm 1 L).length<=L.length
 |[]=>Nat.le_refl _
 |t::L=>by
  have ih:=Ky L
  unfold Bm at*
  rw[List.filter_cons,List.filter_cons]
  by_cases h0:t.A8=0
  ·rw[if_pos (by simpa using h0),if_neg (by simp;omega)];simp;omega
  ·rw[if_neg (by simpa using h0)]
   by_cases h1:t.A8=1
   ·rw[if_pos (by simpa using h1)];simp;omega
   ·rw[if_neg (by simpa using h1)];simp;omega
theorem Qt (L:List BN):(BJ L).length<=L.length:=by
 unfold BJ Of
 have:=Ky L
 have:=List.length_filter_le (Hb (TQ (Bm 0 L)) (QT (Bm 0 L))) (Bm 1 L)
 split
 ·simp
 ·rw[List.length_append];omega
end Go.Ev
set_option maxRecDepth 100000
set_option maxHeartbeats 8000000
namespace Go.Proofs.Ytobfgempjekjpaa
open Go Go.Ev
theorem Pe {L:List BN} {p:BN->Bool} {j:Nat} (hj:j<L.length):(L.take (j+1)).filter p=(L.take j).filter p++(if p (L.getD j default)then [L.getD j default]else []):=by
 have:L.take (j+1)=L.take j++[L.getD j default]:=by rw[List.take_succ];simp[List.getD,hj]
 rw[this,List.filter_append]
 cases hb:p (L.getD j default)with
 |true=>rw[List.filter_cons,if_pos hb];rfl
 |false=>rw[List.filter_cons,if_neg (by rw[hb];simp)];rfl
end Go.Proofs.Ytobfgempjekjpaa
set_option maxRecDepth 100000
set_option maxHeartbeats 8000000
namespace Go.Ev
open Go
theorem Gr.sw {α:Type} [Inhabited α] {n el:Nat} {c:α->List V} {h:H} {v:V} {L:List α} (a:Gr el n c h v L):V5 n v:=by
 rcases a with⟨rfl,rfl⟩|⟨id,g,off,fin,rfl,rfl,h1,h2⟩|⟨id,g,cap,Ak,rfl,a1,a2,_⟩
 ·exact .inl rfl
 ·exact .inr ⟨_,_,_,_,_,_,rfl,by show 0<=0/\_;exact⟨Nat.le_refl _,fun h=>absurd h (by decide)⟩⟩
 ·rcases a2 with⟨h1,rfl⟩|⟨h0,rfl⟩
  ·exact .inr ⟨_,_,_,_,_,_,rfl,by show _=_;omega⟩
  ·exact .inr ⟨_,_,_,_,_,_,rfl,by show _/\_;exact⟨by omega,fun _=>h0⟩⟩
theorem E9.ya {P:Program} {h:H} {N:Nx} {v:V} {L:List BN} (a:E9 h v L) (hi:0<L.length):L1 P (Fb v) (lg v) (Cf v+2) (Cg v) h N=N.go P (sv (L.getD 0 default).fst) h:=by have:=a.l2 (P:=P) (N:=N) hi;rwa [Nat.zero_mul,Nat.add_zero]at this
theorem E9.xN {P:Program} {h:H} {N:Nx} {v:V} {L:List BN} (a:E9 h v L) (hi:0<L.length):L1 P (Fb v) (lg v) (Cf v+3) (Cg v) h N=N.go P (sv (L.getD 0 default).Da) h:=by have:=a.l3 (P:=P) (N:=N) hi;rwa [Nat.zero_mul,Nat.add_zero]at this
end Go.Ev
end
