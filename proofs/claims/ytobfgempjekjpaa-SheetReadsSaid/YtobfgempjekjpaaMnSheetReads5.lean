/- The law SheetReads, part 5: what its proof uses, closely written. No condition. -/
import Derived.Test.YtobfgempjekjpaaMnSheetReads4
import Derived.ChangeMaps5
noncomputable section
set_option linter.all false
namespace Go.Ev
open Go
section
variable {P:Program}
/--all but one leave memory alone -/
theorem Ok.dw0 (hm:P.follows .mixedOrders=true) {nt:Nat} {t t1 t2 t3:F} {h h2:H} {K:X->F->H->Prop} {pre M8:List CO} {A:CO} {ch:Option (List Nat×List (Nat×List Nat))}
 (p1:Hd P pre t h h2 t1) (p2:Cu P A t1 h t2 h2) (p3:Hd P M8 t2 h h2 t3) (k:K .normal t3 h2):Ok P nt (.Ax (pre++A::M8) ch) t h K:=by
 refine⟨.normal,t3,h2,BQ _ fun c e' hs=>?_,k⟩
 cases c with
 |region id ops draw=>
  have e1:Ar P nt ops.toList draw=.Ax (pre++A::M8) ch:=e'
  unfold Ar at e1
  split at e1
  ·cases e1
  ·split at e1
   ·rename_i hd
    obtain⟨lp,l1,q1,q2,q3⟩:=HP (CC.Ax.inj e1).1
    obtain⟨oa,lm,rfl,q4,q6⟩:=F5 q3
    rw[Nat.zero_add]at q4 q6
    have hop:∀ (i:Nat) o,ops.toList[i]? =some o->ops[i]? =some o:=fun i o e=>by simpa using e
    have hn:ops.size=lp.length+1+lm.length:=by have:=congrArg List.length q1;simp at this;omega
    have ha:ops[lp.length]? =some oa:=hop _ _ (by rw[q1];simp)
    obtain⟨T0,b1,b2,b3⟩:=FI (P:=P) (nt:=nt) (ops:=ops) (h:=h) (h2:=h2) _ lp 0 _ (by rw[List.drop_zero];exact q1) t t1 (by rw[q2];exact p1)
    rw[Nat.zero_add]at b2 b3
    obtain⟨T1,c1,c2,c3⟩:=FI (P:=P) (nt:=nt) (ops:=ops) (h:=h) (h2:=h2) _ lm (lp.length+1) [] (by rw[q1,<-List.drop_drop,List.drop_left,List.append_nil];rfl) t2 t3 (by rw[q6];exact p3)
    have SA:=stepOf ha (by rw[q4]at p2;exact p2)
    let Ts:Nat->F:=fun i=>if i<=lp.length then T0 i else T1 i
    have U0:∀ i,i<=lp.length->Ts i=T0 i:=fun i hi=>if_pos hi
    have U1:∀ i,lp.length<i->Ts i=T1 i:=fun i hi=>by
     show(if _ then _ else _)=_
     rw[if_neg (by omega)]
    have hA:∀ o,ops[lp.length]? =some o->BG P nt ops lp.length o true (Ts lp.length) (Ts (lp.length+1)) h h2:=fun o ho=>by
     rw[ha]at ho;cases ho
     rw[U0 _ (Nat.le_refl _),U1 _ (by omega),b2,c1];exact SA
    have hq:∀ (i:Nat) o,i≠lp.length->ops[i]? =some o->BG P nt ops i o true (Ts i) (Ts (i+1)) h h/\BG P nt ops i o true (Ts i) (Ts (i+1)) h2 h2:=fun i o hne ho=>by
     have hi:i<ops.size:=(Array.getElem?_eq_some_iff.1 ho).1
     by_cases e:i<lp.length
     ·rw[U0 i (by omega),U0 (i+1) (by omega)]
      exact b3 i o (Nat.zero_le _) e ho
     ·rw[U1 i (by omega),U1 (i+1) (by omega)]
      exact c3 i o (by omega) (by omega) ho
    have hs:jg nt ops Ts:=fun i o ho=>by
     have S:∃ g g',BG P nt ops i o true (Ts i) (Ts (i+1)) g g':=by
      by_cases e:i=lp.length
      ·subst e;exact⟨_,_,hA o ho⟩
      ·exact⟨_,_,(hq i o e ho).1⟩
     obtain⟨g,g',S⟩:=S
     exact⟨S.dst,S.rest⟩
    let Hs:Nat->H:=fun i=>if i<=lp.length then h else h2
    have V0:∀ i,i<=lp.length->Hs i=h:=fun i hi=>if_pos hi
    have V1:∀ i,lp.length<i->Hs i=h2:=fun i h1=>if_neg (by omega)
    have R:=K7 (nt:=nt) (ops:=ops) (Ts:=Ts) (Hs:=Hs) (lo:=fun k=>k=lp.length) hm hd hs (fun i j hi hj hij _=>by omega)
     (fun i o hi ho=>by
       have hi:i=lp.length:=hi
       subst hi
       rw[V0 _ (Nat.le_refl _),V1 _ (by omega)];exact hA o ho)
     (fun i hi hl=>by
       have hl:¬i=lp.length:=hl
       by_cases e:i<lp.length
       ·rw[V0 _ (by omega),V0 _ (by omega)]
       ·rw[V1 _ (by omega),V1 _ (by omega)])
     (fun i o hl ho=>by
       obtain⟨x1,x2⟩:=hq i o hl ho
       refine⟨⟨_,_,x1⟩,.inr fun c _ _ _=>?_⟩
       by_cases e:c<=lp.length
       ·rw[V0 _ e];exact x1
       ·rw[V1 _ (by omega)];exact x2)
    rw[V0 0 (Nat.zero_le _),V1 ops.size (by omega)]at R
    obtain⟨f1,f2,f3⟩:=R
    exact⟨f1,f2,fun ρ a w w0 Q A R hQ=>f3 ρ a w w0 id Q (by rw[U0 0 (Nat.zero_le _),b1];exact A) R (by rw[hn,U1 _ (by omega),c2];exact hQ)⟩
   ·cases e1
 |scope d=>exact absurd rfl (hs d)
 |_=>cases e'
theorem DW.one (hm:P.follows .mixedOrders=true) {nt:Nat} {t t1 t2 t3:F} {h h2:H} {K:X->F->H->Prop} {l pre M8:List CO} {A:CO} (hl:l=pre++A::M8)
 (p1:Hd P pre t h h2 t1) (p2:Cu P A t1 h t2 h2) (p3:Hd P M8 t2 h h2 t3) (k:K .normal t3 h2):DW P nt l t h K:=by
 intro ch
 rw[hl]
 exact Ok.dw0 hm p1 p2 p3 k
theorem Jg {nt:Nat} {ops:List Oper} {o:Oper} {b:Bool} {t t1:F} {h h1:H} (hq:quiet P o.op=true) (a:Cu P ⟨BL nt ops o.guard,DB nt o.dst,b,Ae P o.op⟩ t h t1 h1):h1=h:=by
 obtain⟨c,_,a⟩:=a
 rcases a with⟨_,v,⟨cf,hcf,e⟩,_⟩|⟨_,e,_⟩
 ·exact IP hq hcf e
 ·exact e
theorem JW {nt:Nat} {ops:Array Oper} (bars:Nat->Bool) {h:H}:∀ (l:List Oper) (n:Nat) (rest:List Oper),ops.toList.drop n=l++rest->(∀ o∈l,quiet P o.op=true)->∀ (t t':F) (h':H),
 Mo P (Ac bars P nt ops.toList (Ae P) n l) t h t' h'->
 h'=h/\∃ Ts:Nat->F,Ts n=t/\Ts (n+l.length)=t'/\∀ (i:Nat) o,n<=i->i<n+l.length->ops[i]? =some o->BG P nt ops i o true (Ts i) (Ts (i+1)) h h:=by
 intro l
 induction l with
 |nil=>
  intro n rest hl _ t t' h' hk
  obtain⟨rfl,rfl⟩:=hk
  exact⟨rfl,fun _=>t',rfl,rfl,fun i o h1 h2=>by simp at h2;omega⟩
 |cons o l ih=>
  intro n rest hl hq t t' h' hk
  have hn:ops[n]? =some o:=by
   have:ops.toList[n]? =some o:=by
    have:=congrArg (fun l=>l[0]?) hl
    simpa using this
   simpa using this
  obtain⟨t1,h1,k1,k2⟩:=hk
  obtain rfl:=Jg (hq o (by simp)) k1
  have hl':ops.toList.drop (n+1)=l++rest:=by rw[<-List.drop_drop,hl];rfl
  obtain⟨e,Ts,b1,b2,b3⟩:=ih (n+1) rest hl' (fun x hx=>hq x (List.mem_cons_of_mem _ hx)) _ _ _ k2
  refine⟨e,fun i=>if i=n then t else Ts i,by simp,?_,fun i oi h1 h2 hi=>?_⟩
  ·have e1:n+(o::l).length=n+1+l.length:=by simp;omega
   rw[e1]
   simp only[show ¬n+1+l.length=n by omega,if_false]
   exact b2
  ·by_cases hin:i=n
   ·subst hin
    rw[hn]at hi
    cases hi
    simp only[if_true,show ¬i+1=i by omega,if_false,b1]
    exact stepOf hn k1
   ·simp only[hin,if_false,show ¬i+1=n by omega]
    exact b3 i oi (by omega) (by simp at h2;omega) hi
/--two that write,A and B;one that reads,o,may AU ahead of A or behind it -/
theorem Ok.float (hm:P.follows .mixedOrders=true) {nt:Nat} {t:F} {h:H} {K:X->F->H->Prop} {l L1 L2 L3:List CO} {o A B:CO} {ld:List Nat} {cs:List (Nat×List Nat)} {n p:Nat} (hl:l=L1++o::(L2++A::(L3++[B])))
 (hn:n=L1.length+1+L2.length) (hp:p=n+1+L3.length) (hlo:ld=[n,p])
 (hcs:cs.all (fun q=>(decide (q.1=L1.length)&&q.2.all fun j=>decide (j<=p))||((decide (q.1≠L1.length/\q.1<n)&&q.2.all fun j=>decide (j<=n))||(decide (n<q.1/\q.1<p)&&q.2.all fun j=>decide (n<j/\j<=p))))=true)
 (k:WO P L1 t h fun t1 _=>∃ t2,Cu P o t1 h t2 h/\WO P L2 t2 h fun t3 _=>∃ t4 h2,Cu P A t3 h t4 h2/\Cu P o t1 h2 t2 h2/\WO P L3 t4 h2 fun t5 _=>∃ t6 h3,Cu P B t5 h2 t6 h3/\K .normal t6 h3):Ok P nt (.Ax l (some (ld,cs))) t h K:=by
 obtain⟨t1,g1,k1,t2,k2,t3,g3,k3,t4,h2,k4,k5,t5,g5,k6,t6,h3,k7,kk⟩:=k
 refine⟨.normal,t6,h3,BQ _ fun c e' hs=>?_,kk⟩
 cases c with
 |region id ops draw=>
  have e1:Ar P nt ops.toList draw=.Ax l (some (ld,cs)):=e'
  unfold Ar at e1
  split at e1
  ·cases e1
  ·split at e1
   ·rename_i hd
    obtain⟨e2,ec⟩:=CC.Ax.inj e1
    rw[hl]at e2
    obtain⟨l1,r1,q1,q2,q3⟩:=HP e2
    obtain⟨oo,r2,rfl,q4,q5⟩:=F5 q3
    obtain⟨l2,r3,rfl,q6,q7⟩:=HP q5
    obtain⟨oa,r4,rfl,q8,q9⟩:=F5 q7
    obtain⟨l3,r5,rfl,q10,q11⟩:=HP q9
    obtain⟨ob,r6,rfl,q12,q13⟩:=F5 q11
    have cl:∀ (bars:Nat->Bool) (l:List Oper) (n:Nat),(Ac bars P nt ops.toList (Ae P) n l).length=l.length:=by
     intro bars l
     induction l with
     |nil=>intro n;rfl
     |cons o l ih=>intro n;show(Ac bars P nt ops.toList (Ae P) (n+1) l).length+1=_;rw[ih];rfl
    have c1:L1.length=l1.length:=by rw[<-q2,cl]
    have c2:L2.length=l2.length:=by rw[<-q6,cl]
    have c3:L3.length=l3.length:=by rw[<-q10,cl]
    obtain rfl:r6=[]:=by
     cases r6 with
     |nil=>rfl
     |cons x r=>have:=congrArg List.length q13;rw[cl]at this;simp at this
    rw[c1]at hcs
    rw[Nat.zero_add]at q4 q6 q8 q10 q12
    obtain rfl:n=l1.length+1+l2.length:=by omega
    obtain rfl:p=l1.length+1+l2.length+1+l3.length:=by omega
    have hsz:ops.size=l1.length+1+l2.length+1+l3.length+1:=by have:=congrArg List.length q1;simp at this;omega
    have hop:∀ (i:Nat) o,ops.toList[i]? =some o->ops[i]? =some o:=fun i o e=>by simpa using e
    have gl:∀ i:Nat,ops.toList[i]? =(l1++oo::(l2++oa::(l3++[ob])))[i]? :=fun i=>by rw[q1]
    have ho:ops[l1.length]? =some oo:=hop _ _ (by rw[gl];simp)
    have ha:ops[l1.length+1+l2.length]? =some oa:=hop _ _ (by rw[gl,List.getElem?_append_right (by omega),show l1.length+1+l2.length-l1.length=l2.length+1 by omega,List.getElem?_cons_succ];simp)
    have hb:ops[l1.length+1+l2.length+1+l3.length]? =some ob:=hop _ _ (by rw[gl,List.getElem?_append_right (by omega),show l1.length+1+l2.length+1+l3.length-l1.length=(l2.length+1+l3.length)+1 by omega,List.getElem?_cons_succ,List.getElem?_append_right (by omega),show l2.length+1+l3.length-l2.length=l3.length+1 by omega,List.getElem?_cons_succ];simp)
    have hld:ld=Bo P 0 ops.toList:=by
     unfold FX at ec
     split at ec
     ·cases ec;rfl
     ·cases ec
    rw[hlo]at hld
    have hqt:∀ (i:Nat) x,ops[i]? =some x->i≠l1.length+1+l2.length->i≠l1.length+1+l2.length+1+l3.length->quiet P x.op=true:=fun i x hx n1 n2=>by
     cases hq:quiet P x.op with
     |true=>rfl
     |false=>
      have:i∈Bo P 0 ops.toList:=Ft.2 ⟨i,x,by omega,(Array.getElem?_toList (xs:=ops) (i:=i)).trans hx,hq⟩
      rw[<-hld]at this
      simp only[List.mem_cons,List.not_mem_nil,or_false]at this
      omega
    have hlq:∀ (i:Nat) x,ops[i]? =some x->quiet P x.op=true->i≠l1.length+1+l2.length/\i≠l1.length+1+l2.length+1+l3.length:=fun i x hx hq=>by
     have no:i∉Bo P 0 ops.toList:=fun hi=>by
      obtain⟨j,y,e1,e2,e3⟩:=Ft.1 hi
      have e4:ops[j]? =some y:=hop _ _ e2
      rw[show j=i by omega,hx]at e4
      cases e4;rw[hq]at e3;cases e3
     rw[<-hld]at no
     simp only[List.mem_cons,List.not_mem_nil,or_false,not_or]at no
     exact no
    have Q1:∀ x∈l1,quiet P x.op=true:=fun x hx=>by
     obtain⟨i,hi,e⟩:=List.mem_iff_getElem.1 hx
     exact hqt i x (hop _ _ (by rw[gl,List.getElem?_append_left hi,List.getElem?_eq_getElem hi,e])) (by omega) (by omega)
    have Q2:∀ x∈l2,quiet P x.op=true:=fun x hx=>by
     obtain⟨i,hi,e⟩:=List.mem_iff_getElem.1 hx
     exact hqt (l1.length+1+i) x (hop _ _ (by rw[gl,List.getElem?_append_right (by omega),show l1.length+1+i-l1.length=i+1 by omega,List.getElem?_cons_succ,List.getElem?_append_left hi,List.getElem?_eq_getElem hi,e])) (by omega) (by omega)
    have Q3:∀ x∈l3,quiet P x.op=true:=fun x hx=>by
     obtain⟨i,hi,e⟩:=List.mem_iff_getElem.1 hx
     exact hqt (l1.length+1+l2.length+1+i) x (hop _ _ (by rw[gl,List.getElem?_append_right (by omega),show l1.length+1+l2.length+1+i-l1.length=(l2.length+1+i)+1 by omega,List.getElem?_cons_succ,List.getElem?_append_right (by omega),show l2.length+1+i-l2.length=i+1 by omega,List.getElem?_cons_succ,List.getElem?_append_left hi,List.getElem?_eq_getElem hi,e])) (by omega) (by omega)
    have d1:ops.toList.drop (l1.length+1)=l2++(oa::(l3++[ob])):=by rw[q1,<-List.drop_drop,List.drop_left];rfl
    have d2:ops.toList.drop (l1.length+1+l2.length+1)=l3++[ob]:=by rw[<-List.drop_drop,<-List.drop_drop,d1,List.drop_left];rfl
    obtain⟨z1,T1,a1,a2,a3⟩:=JW (P:=P) (nt:=nt) (ops:=ops) (h:=h) _ l1 0 _ (by rw[List.drop_zero];exact q1) Q1 t t1 g1 (by rw[q2];exact k1)
    rw[Nat.zero_add]at a2 a3
    obtain⟨z2,T2,b1,b2,b3⟩:=JW (P:=P) (nt:=nt) (ops:=ops) (h:=h) _ l2 (l1.length+1) _ d1 Q2 t2 t3 g3 (by rw[q6];exact k3)
    obtain⟨z3,T3,c4,c5,c6⟩:=JW (P:=P) (nt:=nt) (ops:=ops) (h:=h2) _ l3 (l1.length+1+l2.length+1) _ d2 Q3 t4 t5 g5 (by rw[q10];exact k6)
    rw[q4]at k2 k5
    rw[q8]at k4
    rw[q12]at k7
    let Ts:Nat->F:=fun i=>if i<=l1.length then T1 i else if i<=l1.length+1+l2.length then T2 i else if i<=l1.length+1+l2.length+1+l3.length then T3 i else t6
    let Hs:Nat->H:=fun i=>if i<=l1.length+1+l2.length then h else if i<=l1.length+1+l2.length+1+l3.length then h2 else h3
    have U1:∀ i,i<=l1.length->Ts i=T1 i:=fun i hi=>if_pos hi
    have U2:∀ i,l1.length<i->i<=l1.length+1+l2.length->Ts i=T2 i:=fun i hi hj=>by
     show(if _ then _ else _)=_
     rw[if_neg (by omega),if_pos hj]
    have U3:∀ i,l1.length+1+l2.length<i->i<=l1.length+1+l2.length+1+l3.length->Ts i=T3 i:=fun i hi hj=>by
     show(if _ then _ else _)=_
     rw[if_neg (by omega),if_neg (by omega),if_pos hj]
    have U4:∀ i,l1.length+1+l2.length+1+l3.length<i->Ts i=t6:=fun i hi=>by
     show(if _ then _ else _)=_
     rw[if_neg (by omega),if_neg (by omega),if_neg (by omega)]
    have V1:∀ i,i<=l1.length+1+l2.length->Hs i=h:=fun i hi=>if_pos hi
    have V2:∀ i,l1.length+1+l2.length<i->i<=l1.length+1+l2.length+1+l3.length->Hs i=h2:=fun i hi hj=>by
     show(if _ then _ else _)=_
     rw[if_neg (by omega),if_pos hj]
    have V3:∀ i,l1.length+1+l2.length+1+l3.length<i->Hs i=h3:=fun i hi=>by
     show(if _ then _ else _)=_
     rw[if_neg (by omega),if_neg (by omega)]
    have So:BG P nt ops l1.length oo true (Ts l1.length) (Ts (l1.length+1)) h h/\BG P nt ops l1.length oo true (Ts l1.length) (Ts (l1.length+1)) h2 h2:=by
     rw[U1 _ (Nat.le_refl _),U2 _ (by omega) (by omega),a2,b1]
     exact⟨stepOf ho k2,stepOf ho k5⟩
    have Sq:∀ (i:Nat) x,ops[i]? =some x->i≠l1.length+1+l2.length->i≠l1.length+1+l2.length+1+l3.length->BG P nt ops i x true (Ts i) (Ts (i+1)) (Hs i) (Hs i):=fun i x hx n1 n2=>by
     have hi:i<ops.size:=(Array.getElem?_eq_some_iff.1 hx).1
     by_cases e1:i<l1.length
     ·rw[U1 _ (by omega),U1 _ (by omega),V1 _ (by omega)];exact a3 i x (Nat.zero_le _) e1 hx
     ·by_cases e2:i=l1.length
      ·subst e2
       rw[ho]at hx;cases hx
       rw[V1 _ (by omega)];exact So.1
      ·by_cases e3:i<l1.length+1+l2.length
       ·rw[U2 _ (by omega) (by omega),U2 _ (by omega) (by omega),V1 _ (by omega)];exact b3 i x (by omega) e3 hx
       ·rw[U3 _ (by omega) (by omega),U3 _ (by omega) (by omega),V2 _ (by omega) (by omega)];exact c6 i x (by omega) (by omega) hx
    obtain⟨f1,f2,f3⟩:=KJ (nt:=nt) (ops:=ops) (Ts:=Ts) (Hs:=Hs) hm hd ec
     (fun i x hx=>by
       by_cases n1:i=l1.length+1+l2.length
       ·subst n1
        rw[ha]at hx;cases hx
        refine⟨?_,fun hq=>absurd rfl (hlq _ _ ha hq).1⟩
        rw[U2 _ (by omega) (Nat.le_refl _),U3 _ (by omega) (by omega),V1 _ (Nat.le_refl _),V2 _ (by omega) (by omega),b2,c4]
        exact stepOf ha k4
       ·by_cases n2:i=l1.length+1+l2.length+1+l3.length
        ·subst n2
         rw[hb]at hx;cases hx
         refine⟨?_,fun hq=>absurd rfl (hlq _ _ hb hq).2⟩
         rw[U3 _ (by omega) (Nat.le_refl _),U4 _ (by omega),V2 _ (by omega) (Nat.le_refl _),V3 _ (by omega),c5]
         exact stepOf hb k7
        ·have same:Hs (i+1)=Hs i:=by
          have hi:i<ops.size:=(Array.getElem?_eq_some_iff.1 hx).1
          by_cases e:i<l1.length+1+l2.length
          ·rw[V1 _ (by omega),V1 _ (by omega)]
          ·rw[V2 _ (by omega) (by omega),V2 _ (by omega) (by omega)]
         exact⟨by rw[same];exact Sq i x hx n1 n2,fun _=>same⟩)
     (fun q hq x hx j hj=>by
       have:=List.all_eq_true.1 hcs q hq
       simp only[Bool.or_eq_true,Bool.and_eq_true,decide_eq_true_eq,List.all_eq_true]at this
       rcases this with⟨e1,e2⟩|⟨⟨e1,e3⟩,e2⟩|⟨⟨e1,e3⟩,e2⟩
       ·rw[e1]at hx⊢
        rw[ho]at hx;cases hx
        have:=e2 j hj
        by_cases e:j<=l1.length+1+l2.length
        ·rw[V1 _ e];exact So.1
        ·rw[V2 _ (by omega) this];exact So.2
       ·have:=Sq q.1 x hx (by omega) (by omega)
        rw[V1 _ (by omega)]at this
        rw[V1 _ (e2 j hj)];exact this
       ·have:=Sq q.1 x hx (by omega) (by omega)
        rw[V2 _ e1 (by omega)]at this
        have h9:=e2 j hj
        rw[V2 _ h9.1 h9.2];exact this)
    rw[V1 0 (Nat.zero_le _),V3 ops.size (by omega)]at f1 f2 f3
    exact⟨f1,f2,fun ρ a w w0 Q A R hQ=>f3 ρ a w w0 id Q (by rw[U1 0 (Nat.zero_le _),a1];exact A) R (by rw[U4 ops.size (by omega)];exact hQ)⟩
   ·cases e1
 |scope d=>exact absurd rfl (hs d)
 |_=>cases e'
end
end Go.Ev
set_option maxRecDepth 100000
set_option maxHeartbeats 8000000
namespace Go.Ev
open Go
/--Ok.float for a load that floats against two stores,as a walk -/
theorem Ok.S9 {P:Program} (hm:P.follows .mixedOrders=true) {nt n:Nat} {t:F} {h:H} {K:X->F->H->Prop} {l L1 L2 L3:List CO} {rl rA rB:CW} {bA bB:Bool} {ld:List Nat} {cs:List (Nat×List Nat)} {i j:Nat} (hl:l=L1++.mk .none (.some (AX n)) .false (.mk rl)::(L2++.mk .none .none bA (.mk rA)::(L3++[.mk .none .none bB (.mk rB)])))
 (hn:i=L1.length+1+L2.length) (hp:j=i+1+L3.length) (hlo:ld=[i,j])
 (hcs:cs.all (fun q=>(decide (q.1=L1.length)&&q.2.all fun k=>decide (k<=j))||((decide (q.1≠L1.length/\q.1<i)&&q.2.all fun k=>decide (k<=i))||(decide (i<q.1/\q.1<j)&&q.2.all fun k=>decide (i<k/\k<=j))))=true)
 (k:WO P L1 t h fun t1 _=>∃ x,OR P rl t1 h (.w 0 [] F.zero fun t' h'=>get 0 t'=x/\h'=h)/\WO P L2 (put n x t1) h fun t3 _=>OR P rA t3 h (.w0 [] t3 fun _ h2=>OR P rl t1 h2 (.w 0 [] F.zero fun t' h'=>get 0 t'=x/\h'=h2)/\WO P L3 t3 h2 fun t5 _=>OR P rB t5 h2 (.w0 [] t5 fun _ h3=>K .normal t5 h3))):Ok P nt (.Ax l (some (ld,cs))) t h K:=by
 obtain⟨t1,g1,k1,x,k2,t3,g3,k3,k4⟩:=k
 obtain⟨v,h2,rr,k5,t5,g5,k6,k7⟩:=PV k4
 obtain⟨v',h3,rr',k8⟩:=PV k7
 exact Ok.float hm hl hn hp hlo hcs ⟨t1,g1,k1,_,IU (QR k2),t3,g3,k3,_,h2,Ma rr,IU (QR k5),t5,g5,k6,_,h3,Ma rr',k8⟩
def FLo (P:Program) (nt:Nat) (l:List CO) (ld:List Nat) (cs:List (Nat×List Nat)) (t:F) (h:H) (K:X->F->H->Prop):Prop:=Ok P nt (.Ax l (some (ld,cs))) t h K
theorem NP {P:Program} {nt:Nat} {l:List CO} {ld:List Nat} {cs:List (Nat×List Nat)} {t:F} {h:H} {K:X->F->H->Prop} (a:FLo P nt l ld cs t h K):Ok P nt (.Ax l (some (ld,cs))) t h K:=a
theorem Dc {α:Type} {n el:Nat} {c:α->List V} {h:H} {v:V} {L:List α} (a:Gr el n c h v L):cells v=[v]/\ES v=true:=by
 rcases a with⟨rfl,rfl⟩|⟨id,g,off,fin,rfl,_⟩|⟨id,g,cap,Ap,rfl,_⟩<;>exact⟨rfl,rfl⟩
end Go.Ev
namespace Go.Proofs.Ytobfgempjekjpaa
open Go Go.Ev
theorem uW {h:H} {b:B} {v g c:V} {S:Iy} {e:D4} (a:Hu h b v S) (wf:Wf S) (m:Oz h g c e) (hgl:e.gone.length<=100) (AR:e.AU.length<=100) (hsz:∀ t∈e.AU,t.fst.length<=1000000/\t.DT.length<=1000000) (hf:B.val h.floor<=B.val h.next) (hcb:∀ q,Af c q->q≠b):
 A3 Try.prog 18 [.p b 0 0 4,.a [g,c,.i .i64 e.log,.i .i64 e.seq]] h fun y h'=>y=.i .i64 (Gh S e).1/\∃ v',Hu h' b v' (Gh S e).2/\(∀ q,Af v' q->Af v q\/B.val h.next<=B.val q)/\AW (fun q=>q=b) h h':=by
 have hl:=wf.len
 refine Aw c18 (by intro hb;cases hb) (by simp) (by simp) fun Q hQ=>?_
 simp only[Ah,Nat.reduceAdd]
 repeat' (first
  |refine St.h ?_
  |simp(disch:=first|omega|(simp only[AI];omega))only[AJ,↓AA,↓reduceIte,seval]
  |(with_reducible (first|apply AD|apply AE))<;>(intro hc;(try simp only[AT]at hc);(try simp only[hc]);(try simp only[AR]at hc);try omega))
 refine AL.own (by simp) hf fun h1 s1 n1 o1=>?_
 have hf1:=s1.fl hf
 have r1:=o1.row
 repeat' (first
  |refine St.h ?_
  |simp(disch:=first|omega|(simp only[AI];omega))only[AJ,↓AA,↓reduceIte,seval,r1.ln]
  |(with_reducible (first|apply AD|apply AE))<;>(intro hc;(try simp only[AT]at hc);(try simp only[hc]);(try simp only[AR]at hc);try omega))
 refine CL.stay (QG (m.grow s1) (by omega) (by omega) hf1) fun h2 s2=>?_
 have s12:=s1.trans s2
 have hf2:=s12.fl hf
 have up:∀ {h'},AW AN h h'->AW (fun q=>q=b) h h':=fun s=>s.mono fun _ _ e=>e.elim
 cases he:G2 e with
 |false=>
  have ed:Gh S e=(10,S):=by unfold Gh;rw[if_pos he]
  repeat' (first
   |refine St.h ?_
   |simp(disch:=first|omega|(simp only[AI];omega))only[AJ,↓AA,↓reduceIte,seval]
   |(with_reducible (first|apply AD|apply AE))<;>(intro hc;(try simp only[AT]at hc);(try simp only[hc]);(try simp only[AR]at hc);try omega))
  subst hQ
  rw[ed]
  exact⟨rfl,v,a.grow s12,fun q hq=>.inl hq,up s12⟩
 |true=>
 have IE:=E9.1 he
 have r2:=(o1.stay s2 fun e=>e).row
 repeat' (first
  |refine St.h ?_
  |simp(disch:=first|omega|(simp only[AI];omega))only[AJ,↓AA,↓reduceIte,seval,r2.l1]
  |(with_reducible (first|apply AD|apply AE))<;>(intro hc;(try simp only[AT]at hc);(try simp only[hc]);(try simp only[AR]at hc);try omega))
 refine CL.stay (R7 (a.grow s12) (m.grow s12).1 (by omega) (by omega) hf2) fun h3 s3=>?_
 have s13:=s12.trans s3
 have hf3:=s13.fl hf
 cases hh:Oo S.L e.gone with
 |false=>
  have ed:Gh S e=(18,S):=by unfold Gh;rw[if_neg (by rw[he];simp),if_pos hh]
  repeat' (first
   |refine St.h ?_
   |simp(disch:=first|omega|(simp only[AI];omega))only[AJ,↓AA,↓reduceIte,seval]
   |(with_reducible (first|apply AD|apply AE))<;>(intro hc;(try simp only[AT]at hc);(try simp only[hc]);(try simp only[AR]at hc);try omega))
  subst hQ
  rw[ed]
  exact⟨rfl,v,a.grow s13,fun q hq=>.inl hq,up s13⟩
 |true=>
 have r3:=(o1.stay (s2.trans s3) fun e=>e).row
 repeat' (first
  |refine St.h ?_
  |simp(disch:=first|omega|(simp only[AI];omega))only[AJ,↓AA,↓reduceIte,seval,r3.ln]
  |(with_reducible (first|apply AD|apply AE))<;>(intro hc;(try simp only[AT]at hc);(try simp only[hc]);(try simp only[AR]at hc);try omega))
 refine CL.stay (XN (a.grow s13) (m.grow s13) hf3) fun h4 s4=>?_
 have s14:=s13.trans s4
 have hf4:=s14.fl hf
 cases hp:Fq S e with
 |true=>
  have ed:Gh S e=(16,S):=by unfold Gh;rw[if_neg (by rw[he];simp),if_neg (by rw[hh];simp),if_pos hp]
  repeat' (first
   |refine St.h ?_
   |simp(disch:=first|omega|(simp only[AI];omega))only[AJ,↓AA,↓reduceIte,seval]
   |(with_reducible (first|apply AD|apply AE))<;>(intro hc;(try simp only[AT]at hc);(try simp only[hc]);(try simp only[AR]at hc);try omega))
  subst hQ
  rw[ed]
  exact⟨rfl,v,a.grow s14,fun q hq=>.inl hq,up s14⟩
 |false=>
 have r4:=(o1.stay ((s2.trans s3).trans s4) fun e=>e).row
 repeat' (first
  |refine St.h ?_
  |simp(disch:=first|omega|(simp only[AI];omega))only[AJ,↓AA,↓reduceIte,seval,r4.ln]
  |(with_reducible (first|apply AD|apply AE))<;>(intro hc;(try simp only[AT]at hc);(try simp only[hc]);(try simp only[AR]at hc);try omega))
 refine CL.mk (Rx (a.grow s14) (m.grow s14) (by omega) hgl AR hsz hf4) ?_
 rintro u h5 ⟨M,pm,so,bM,own,s5⟩
 have s15:=s14.trans s5
 have hf5:=s15.fl hf
 have hlM:M.length<=200:=by rw[pm.length_eq,List.length_append];have:(CX S.L e.gone).length<=S.L.length:=List.length_filter_le _ _;omega
 have e0:Gh S e=match D5 (CX S.L e.gone) e.AU with|none=>(16,S)|some M=>if 40<M.length then (25,S)else (0,TI S e M):=by unfold Gh;rw[if_neg (by rw[he];simp),if_neg (by rw[hh];simp),if_neg (by rw[hp];simp)]<;>cases D5 (CX S.L e.gone) e.AU<;>rfl
 have dq:=zH wf IE hp pm so
 repeat' (first
  |refine St.h ?_
  |simp(disch:=first|omega|(simp only[AI];omega))only[AJ,↓AA,↓reduceIte,seval]
  |(with_reducible (first|apply AD|apply AE))<;>(intro hc;(try simp only[AT]at hc);(try simp only[hc]);(try simp only[AR]at hc);try omega))
 refine CL.stay (Wv bM.Dr (by omega) hf5) fun h6 s6=>?_
 have s16:=s15.trans s6
 have hf6:=s16.fl hf
 have b6:=bM.grow s6
 cases hm:G1 M with
 |true=>
  have hc:D5 (CX S.L e.gone) e.AU=none:=by
   rcases dq with⟨_,h⟩|⟨h,_⟩
   ·exact h
   ·rw[hm]at h;cases h
  rw[hc]at e0
  repeat' (first
   |refine St.h ?_
   |simp(disch:=first|omega|(simp only[AI];omega))only[AJ,↓AA,↓reduceIte,seval]
   |(with_reducible (first|apply AD|apply AE))<;>(intro hc;(try simp only[AT]at hc);(try simp only[hc]);(try simp only[AR]at hc);try omega))
  subst hQ
  rw[e0]
  exact⟨rfl,v,a.grow s16,fun q hq=>.inl hq,up s16⟩
 |false=>
 have hc:D5 (CX S.L e.gone) e.AU=some M:=by
  rcases dq with⟨h,_⟩|⟨_,h⟩
  ·rw[hm]at h;cases h
  ·exact h
 rw[hc]at e0
 by_cases h40:40<M.length
 ·have d40:((40:Int)<(M.length:Int))=True:=eq_true (by omega)
  have ed:Gh S e=(25,S):=e0.trans (if_pos h40)
  repeat' (first
   |refine St.h ?_
   |simp(disch:=first|omega|(simp only[AI];omega))only[AJ,↓AA,↓reduceIte,seval,b6.Dr.ln,d40]
   |(with_reducible (first|apply AD|apply AE))<;>(intro hc;(try simp only[AT]at hc);(try simp only[hc]);(try simp only[AR]at hc);try omega))
  subst hQ
  rw[ed]
  exact⟨rfl,v,a.grow s16,fun q hq=>.inl hq,up s16⟩
 have d40:((40:Int)<(M.length:Int))=False:=eq_false (by omega)
 have ed:Gh S e=(0,TI S e M):=e0.trans (if_neg h40)
 have a6:=a.grow s16
 repeat' (first
  |refine St.h ?_
  |simp(disch:=first|omega|(simp only[AI];omega))only[AJ,↓AA,↓reduceIte,seval,b6.Dr.ln,d40]
  |(with_reducible (first|apply AD|apply AE))<;>(intro hc;(try simp only[AT]at hc);(try simp only[hc]);(try simp only[AR]at hc);try omega))
 refine ST.own a6.1 (Dc b6).1 (Dc b6).2 (by omega) (by omega) fun h7 o7 s7=>?_
 have o7:Ev.CE h7 b [u,.i .i64 S.log,.i .i64 S.seq,.i .i64 S.next]:=o7
 have hne:h.next≠b:=fun e=>by have:=a.lt.1;rw[<-e]at this;omega
 have q7:=((o1.stay ((((s2.trans s3).trans s4).trans s5).trans s6) fun e=>e).stay s7 fun e=>hne e).row
 have w7:=o7.row
 repeat' (first
  |with_reducible refine NP ?_
  |refine St.h ?_
  |simp(disch:=first|omega|(simp only[AI];omega))only[AJ,↓AA,↓reduceIte,seval,w7.l1,q7.l1]
  |(with_reducible (first|apply AD|apply AE))<;>(intro hc;(try simp only[AT]at hc);(try simp only[hc]);(try simp only[AR]at hc);try omega))
 refine Ok.S9 Uv (L1:=[.mk .none (.some (AX 35)) .false (.mk (AB (tm 0))),.mk .none (.some (AX 36)) .false (.mk (AB (tm 0))),.mk .none (.some (AX 37)) .false (.mk (AB (tm 0))),.mk .none (.some (AX 38)) .false (.mk (AO (tm 37))),.mk .none (.some (AX 39)) .false (.mk (AF 1 (tm 38))),.mk .none (.some (AX 40)) .false (.mk (AK (tm 39))),.mk .none (.some (AX 41)) .false (.mk (AF 2 (tm 3))),.mk .none (.some (AX 42)) .false (.mk (AK (tm 41))),.mk .none (.some (AX 43)) .false (.mk (FM (tm 40) (tm 42))),.mk .none (.some (AX 44)) .false (.mk (AB (tm 0))),.mk .none (.some (AX 45)) .false (.mk (AO (tm 44))),.mk .none (.some (AX 46)) .false (.mk (AF 2 (tm 45))),.mk .none (.some (AX 47)) .false (.mk (AK (tm 46))),.mk .none (.some (AX 48)) .false (.mk (AF 3 (tm 3)))]) (L2:=[.mk .none (.some (AX 50)) .false (.mk (FM (tm 47) (tm 49))),.mk .none (.some (AX 51)) .false (.mk (AO (tm 35))),.mk .none (.some (AX 52)) .false (.mk (AF 1 (tm 51)))]) (L3:=[.mk .none (.some (AX 53)) .true (.mk (AO (tm 36))),.mk .none (.some (AX 54)) .false (.mk (AF 2 (tm 53)))]) (n:=49) (rl:=AK (tm 48)) (rA:=Ad 1 (tm 52) (tm 43)) (rB:=Ad 1 (tm 54) (tm 50)) rfl rfl rfl rfl (by decide) ?_
 repeat' (first
  |refine St.h ?_
  |simp(disch:=first|omega|(simp only[AI];omega))only[AJ,↓AA,↓reduceIte,seval,w7.l1,q7.l1]
  |(with_reducible (first|apply AD|apply AE))<;>(intro hc;(try simp only[AT]at hc);(try simp only[hc]);(try simp only[AR]at hc);try omega))
 refine⟨.i .i64 e.seq,?_⟩
 repeat' (first
  |refine St.h ?_
  |simp(disch:=first|omega|(simp only[AI];omega))only[AJ,↓AA,↓reduceIte,seval,w7.l1,q7.l1]
  |(with_reducible (first|apply AD|apply AE))<;>(intro hc;(try simp only[AT]at hc);(try simp only[hc]);(try simp only[AR]at hc);try omega))
 refine⟨trivial,?_⟩
 refine ST.own o7 rfl rfl (by omega) (by omega) fun h8 o8 s8=>?_
 have o8:Ev.CE h8 b [u,.i .i64 (max S.log e.log),.i .i64 S.seq,.i .i64 S.next]:=o8
 have ob8:=(((o1.stay ((((s2.trans s3).trans s4).trans s5).trans s6) fun e=>e).stay s7 fun e=>hne e).stay s8 fun e=>hne e)
 have q8:=ob8.row
 have w8:=o8.row
 repeat' (first
  |refine St.h ?_
  |simp(disch:=first|omega|(simp only[AI];omega))only[AJ,↓AA,↓reduceIte,seval,w8.l1,q8.l1]
  |(with_reducible (first|apply AD|apply AE))<;>(intro hc;(try simp only[AT]at hc);(try simp only[hc]);(try simp only[AR]at hc);try omega))
 refine⟨trivial,?_⟩
 repeat' (first
  |refine St.h ?_
  |simp(disch:=first|omega|(simp only[AI];omega))only[AJ,↓AA,↓reduceIte,seval,w8.l1,q8.l1]
  |(with_reducible (first|apply AD|apply AE))<;>(intro hc;(try simp only[AT]at hc);(try simp only[hc]);(try simp only[AR]at hc);try omega))
 refine ST.own o8 rfl rfl (by omega) (by omega) fun h9 o9 s9=>?_
 have o9:Ev.CE h9 b [u,.i .i64 (max S.log e.log),.i .i64 (max S.seq e.seq),.i .i64 S.next]:=o9
 have q9:=(ob8.stay s9 fun e=>hne e).row
 have w9:=o9.row
 have s69:AW (fun q=>q=b) h h9:=(((up s16).trans s7).trans s8).trans s9
 have nb:∀ q,Af u q->q≠b:=fun q hq e=>by have h1:=own q hq;have:=s14.next;have:=a.lt.1;rw[e]at h1;omega
 have b9:Rt h9 u M:=((b6.stay s7 nb).stay s8 nb).stay s9 nb
 have ow:∀ q,Af u q->Af v q\/B.val h.next<=B.val q:=fun q hq=>.inr (Nat.le_trans s14.next (own q hq))
 have c9:FQ h9 c e.AU:=Ss.stay m.2 s69 hcb
 by_cases h0:0<e.AU.length
 ·have d1:((0:Int)<=(e.AU.length:Int)-1)=True:=eq_true (by omega)
  have ei:((e.AU.length:Int)-1).toNat=e.AU.length-1:=by omega
  have hi:e.AU.length-1<e.AU.length:=by omega
  obtain⟨i1,i2,_⟩:=CU.1 (IE.tb _ (Bd hi))
  repeat' (first
   |refine St.h ?_
   |simp(disch:=first|omega|(simp only[AI];omega))only[AJ,↓AA,↓reduceIte,seval,w9.l1,q9.l1,c9.ln,d1,ei,c9.ix,c9.l0]
   |(with_reducible (first|apply AD|apply AE))<;>(intro hc;(try simp only[AT]at hc);(try simp only[hc]);(try simp only[AR]at hc);try omega))
  refine ST.own o9 rfl rfl (by omega) (by omega) fun ha oa sa=>?_
  have oa:Ev.CE ha b [u,.i .i64 (max S.log e.log),.i .i64 (max S.seq e.seq),.i .i64 ((e.AU.getD (e.AU.length-1) default).id+1)]:=oa
  repeat' (first
   |refine St.h ?_
   |simp(disch:=first|omega|(simp only[AI];omega))only[AJ,↓AA,↓reduceIte,seval]
   |(with_reducible (first|apply AD|apply AE))<;>(intro hc;(try simp only[AT]at hc);(try simp only[hc]);(try simp only[AR]at hc);try omega))
  subst hQ
  rw[ed]
  refine⟨rfl,u,⟨?_,Gr.ss (b9.stay sa nb),nb⟩,ow,s69.trans sa⟩
  show Ev.CE ha b [u,.i .i64 (max S.log e.log),.i .i64 (max S.seq e.seq),.i .i64 (if 0<e.AU.length then (e.AU.getD (e.AU.length-1) default).id+1 else S.next)]
  rw[if_pos h0];exact oa
 ·have d1:((0:Int)<=(e.AU.length:Int)-1)=False:=eq_false (by omega)
  repeat' (first
   |refine St.h ?_
   |simp(disch:=first|omega|(simp only[AI];omega))only[AJ,↓AA,↓reduceIte,seval,w9.l1,q9.l1,c9.ln,d1]
   |(with_reducible (first|apply AD|apply AE))<;>(intro hc;(try simp only[AT]at hc);(try simp only[hc]);(try simp only[AR]at hc);try omega))
  subst hQ
  rw[ed]
  refine⟨rfl,u,⟨?_,b9.Dr,nb⟩,ow,s69⟩
  show Ev.CE h9 b [u,.i .i64 (max S.log e.log),.i .i64 (max S.seq e.seq),.i .i64 (if 0<e.AU.length then (e.AU.getD (e.AU.length-1) default).id+1 else S.next)]
  rw[if_neg h0];exact o9
end Go.Proofs.Ytobfgempjekjpaa
set_option maxRecDepth 100000
namespace Go.Ev
open Go
theorem AB0 {P:Program} {ne:Bool} {kd:IntKind} {h:H} {N:Nx} {a b v w:List UInt8} {i j n m x y:Int}:H2 P (Ms [.i,.i,.s,.s,.i] ne) (.a [.i kd i,.i kd n,sv a,sv v,.i kd x]) (.a [.i kd j,.i kd m,sv b,sv w,.i kd y]) h N=N.go P (.b (xor ne (decide (i=j/\n=m/\a=b/\v=w/\x=y)))) h:=Ak fun k=>by
 unfold Ms;rw[Jq,Jq]
 rw[Qb,Qb,Ji,Ji,Qb,QC]
 by_cases h1:i=j<;>by_cases h2:n=m<;>by_cases h3:a=b<;>by_cases h4:v=w<;>by_cases h5:x=y<;>simp[h1,h2,h3,h4,h5]
end Go.Ev
namespace Go.Proofs.Ytobfgempjekjpaa
open Go Go.Ev
/--an edit,with what it holds in memory -/
structure Ek where
 gv:V
 cv:V
 e:D4
instance:Inhabited Ek:=⟨⟨.l0,.l0,default⟩⟩
def ekC (k:Ek):List V:=[k.gv,k.cv,.i .i64 k.e.log,.i .i64 k.e.seq]
theorem KF (k:Ek):(ekC k).length=4:=rfl
structure LW (h:H) (v:V) (K:List Ek):Prop where
 ss:Ss 4 ekC h v K
 es:∀ k∈K,Oz h k.gv k.cv k.e
section
variable {P:Program} {h h' g':H} {N:Nx} {v:V} {K:List Ek} {i:Nat}
theorem LW.ln (a:LW h v K):H1 P NR v g' N=N.go P (.i .i64 (K.length:Int)) g':=Ss.ln a.ss
theorem LW.ix (a:LW h v K) (hi:i<K.length):IX P 4 v i g' N=N.go P (.p (GV v) (lg v) (Ct v+i*4) (Cv v)) g':=Ss.ix a.ss hi
theorem LW.l0 (a:LW h v K) (hi:i<K.length):L1 P (GV v) (lg v) (Ct v+i*4) (Cv v) h N=N.go P (K.getD i default).gv h:=Ss.ld (d:=0) a.ss KF hi (by omega)
theorem LW.l1 (a:LW h v K) (hi:i<K.length):L1 P (GV v) (lg v) (Ct v+i*4+1) (Cv v) h N=N.go P (K.getD i default).cv h:=Ss.ld (d:=1) a.ss KF hi (by omega)
theorem LW.la (a:LW h v K) (hi:i<K.length):LN P (GV v) (lg v) (Ct v+i*4) (Cv v) 4 h N=N.go P (.a [(K.getD i default).gv,(K.getD i default).cv,.i .i64 (K.getD i default).e.log,.i .i64 (K.getD i default).e.seq]) h:=Ss.ldA a.ss KF (by omega) hi
theorem LW.grow (a:LW h v K) (s:AW AN h h'):LW h' v K:=⟨Ss.grow a.ss s,fun k hk=>(a.es k hk).grow s⟩
theorem LW.at (a:LW h v K) (hi:i<K.length):Oz h (K.getD i default).gv (K.getD i default).cv (K.getD i default).e:=a.es _ (Bd hi)
end
def pf (k:Ek):Prop:=k.e.gone.length<=60/\k.e.AU.length<=60/\∀ j,j<k.e.AU.length->(k.e.AU.getD j default).fst.length<=20/\(k.e.AU.getD j default).DT.length<=20
def ADL (K:List Ek):Prop:=K.length<=20/\∀ i,i<K.length->pf (K.getD i default)
end Go.Proofs.Ytobfgempjekjpaa
set_option maxRecDepth 1000000
namespace Go.Proofs.Ytobfgempjekjpaa
open Go Go.Ev
abbrev AC2:CC:=(CC.cond (tm 8) CC.skip (CC.exit 0))
abbrev ADP:CC:=(CC.seq (CC.region [(wB 5 (AB (tm 3))),(wB 6 (AB (tm 0))),(wB 7 (BN (tm 6))),(wB 8 (AM Bg (tm 5) (tm 7)))]) AC2)
abbrev AC5:CC:=(CC.seq (CC.region [(wB 2 (AB (O.c (V.b Bool.false))))]) CC.ret)
abbrev ACo:CC:=(CC.cond (tm 26) AC5 CC.skip)
abbrev AC4:CC:=(CC.seq (CC.region [(wB 11 (AB (tm 0))),(wB 12 (AB (tm 3))),(wB 13 (AG 4 (tm 11) (tm 12))),(wB 14 (AF 0 (tm 13))),(wB 15 (AK (tm 14))),(wB 16 (BN (tm 15))),(wB 17 (AM Cs (tm 16) (oN 60))),(wB 18 (AB (tm 17))),(wG 18 false 19 (AB (tm 0))),(wG 18 false 20 (AB (tm 3))),(wG 18 false 21 (AG 4 (tm 19) (tm 20))),(wG 18 false 22 (AF 1 (tm 21))),(wG 18 false 23 (AK (tm 22))),(wG 18 false 24 (BN (tm 23))),(wG 18 false 25 (AM Cs (tm 24) (oN 60))),(wB 26 (Al (tm 18) (O.c (V.b Bool.true)) (tm 25)))]) ACo)
abbrev ADk:CC:=(CC.cond (tm 34) CC.skip (CC.exit 2))
abbrev ADf:CC:=(CC.seq (CC.region [(wB 27 (AB (tm 4))),(wB 28 (AB (tm 0))),(wB 29 (AB (tm 3))),(wB 30 (AG 4 (tm 28) (tm 29))),(wB 31 (AF 1 (tm 30))),(wB 32 (AK (tm 31))),(wB 33 (BN (tm 32))),(wB 34 (AM Bg (tm 27) (tm 33)))]) ADk)
abbrev ADR:CC:=(CC.seq (CC.region [(wB 2 (AB (O.c (V.b Bool.false))))]) CC.ret)
abbrev ADd:CC:=(CC.cond (tm 60) ADR CC.skip)
abbrev ACm:CC:=(CC.seq (CC.region [(wB 37 (AB (tm 0))),(wB 38 (AB (tm 3))),(wB 39 (AG 4 (tm 37) (tm 38))),(wB 40 (AF 1 (tm 39))),(wB 41 (AK (tm 40))),(wB 42 (AB (tm 4))),(wB 43 (AG 5 (tm 41) (tm 42))),(wB 44 (AF 2 (tm 43))),(wB 45 (AK (tm 44))),(wB 46 (Bp (tm 45))),(wB 47 (AM Cs (tm 46) (oN 20))),(wB 48 (AB (tm 47))),(wG 48 false 49 (AB (tm 0))),(wG 48 false 50 (AB (tm 3))),(wG 48 false 51 (AG 4 (tm 49) (tm 50))),(wG 48 false 52 (AF 1 (tm 51))),(wG 48 false 53 (AK (tm 52))),(wG 48 false 54 (AB (tm 4))),(wG 48 false 55 (AG 5 (tm 53) (tm 54))),(wG 48 false 56 (AF 3 (tm 55))),(wG 48 false 57 (AK (tm 56))),(wG 48 false 58 (Bp (tm 57))),(wG 48 false 59 (AM Cs (tm 58) (oN 20))),(wB 60 (Al (tm 48) (O.c (V.b Bool.true)) (tm 59)))]) ADd)
abbrev ACf:CC:=(CC.block 3 ACm)
abbrev qt:CC:=(CC.region [(wB 35 (AB (tm 4))),(wB 36 (AM BE (tm 35) (oN 1))),(wB 4 (AB (tm 36)))])
abbrev wU:CC:=(CC.seq ACf qt)
abbrev ADZ:CC:=(CC.seq ADf wU)
abbrev xx:CC:=(CC.loop ADZ)
abbrev tR:CC:=(CC.block 2 xx)
abbrev uj:CC:=(CC.seq (CC.region [(wB 4 (AB (oN 0)))]) tR)
abbrev xa:CC:=(CC.seq AC4 uj)
abbrev rG:CC:=(CC.block 1 xa)
abbrev sD:CC:=(CC.region [(wB 9 (AB (tm 3))),(wB 10 (AM BE (tm 9) (oN 1))),(wB 3 (AB (tm 10)))])
abbrev yj:CC:=(CC.seq rG sD)
abbrev ADg:CC:=(CC.seq ADP yj)
abbrev qK:CC:=(CC.loop ADg)
abbrev x7:CC:=(CC.block 0 qK)
abbrev td:CC:=(CC.seq (CC.region [(wB 3 (AB (oN 0)))]) x7)
abbrev AAW:CC:=(CC.seq (CC.region [(wB 61 (AB (tm 0))),(wB 62 (BN (tm 61))),(wB 63 (AM FO (tm 62) (oN 20))),(wB 2 (AB (tm 63)))]) CC.ret)
abbrev AAu:CC:=(CC.seq td AAW)
abbrev b8:CC:=(CC.seq (CC.region [(wB 2 (AB (O.c (V.b Bool.false))))]) AAu)
theorem c8:AZ Try.prog 8=⟨64,b8,[(Rs.tmp (AX 2))]⟩:=by kernel_rfl
abbrev ABe:CC:=(CC.seq (CC.Ax [(uB 5 (AB (tm 0))),(uB 6 (FY Bool.true (tm 5) (O.c V.p0))),(uB 7 (AB (tm 6))),(uG 7 true 8 (AB (tm 0))),(uG 7 true 9 (AY 26 [(tm 8)])),(uG 7 true 10 (AB (tm 1))),(uG 7 true 11 (AO (tm 10))),(uG 7 true 12 (AF 0 (tm 11))),(uG 7 true 13 (AK (tm 12))),(wG 7 true 14 (AY 21 [(tm 9),(tm 13)])),(uB 15 (Al (tm 7) (tm 14) (O.c (V.b Bool.false)))),(uB 16 (AB (tm 15))),(uG 16 true 17 (AB (tm 0))),(wG 16 true 18 (AY 25 [(tm 17),(oN 0)])),(uG 16 true 19 (AB (tm 1))),(wG 16 true 20 (AY 41 [(tm 19),(oN 0)])),(wG 16 true 21 (AY 21 [(tm 18),(tm 20)])),(uB 22 (Al (tm 16) (tm 21) (O.c (V.b Bool.false)))),(uB 23 (AB (tm 22))),(uG 23 true 24 (AB (tm 0))),(wG 23 true 25 (AY 25 [(tm 24),(oN 1)])),(uG 23 true 26 (AB (tm 1))),(wG 23 true 27 (AY 41 [(tm 26),(oN 1)])),(wG 23 true 28 (AY 21 [(tm 25),(tm 27)])),(uB 29 (Al (tm 23) (tm 28) (O.c (V.b Bool.false)))),(uB 30 (AB (tm 29))),(uG 30 true 31 (AB (tm 0))),(wG 30 true 32 (AY 25 [(tm 31),(oN 2)])),(uG 30 true 33 (BN (tm 32))),(uG 30 true 34 (AM Cl (tm 33) (oN 0))),(uB 35 (Al (tm 30) (tm 34) (O.c (V.b Bool.false)))),(uB 36 (AB (tm 35))),(uG 36 true 37 (AB (tm 0))),(uG 36 true 38 (AY 28 [(tm 37)])),(uG 36 true 39 (AB (tm 1))),(uG 36 true 40 (AO (tm 39))),(uG 36 true 41 (AF 1 (tm 40))),(uG 36 true 42 (AK (tm 41))),(uG 36 true 43 (AM Cl (tm 38) (tm 42))),(uB 44 (Al (tm 36) (tm 43) (O.c (V.b Bool.false)))),(uB 45 (AB (tm 44))),(uG 45 true 46 (AB (tm 0))),(uG 45 true 47 (AY 29 [(tm 46)])),(uG 45 true 48 (AB (tm 1))),(uG 45 true 49 (AO (tm 48))),(uG 45 true 50 (AF 2 (tm 49))),(uG 45 true 51 (AK (tm 50))),(uG 45 true 52 (AM Cl (tm 47) (tm 51))),(uB 53 (Al (tm 45) (tm 52) (O.c (V.b Bool.false)))),(uB 54 (AB (tm 53))),(uG 54 true 55 (AB (tm 0))),(uG 54 true 56 (AY 27 [(tm 55)])),(uG 54 true 57 (AB (tm 1))),(uG 54 true 58 (AO (tm 57))),(uG 54 true 59 (AF 3 (tm 58))),(uG 54 true 60 (AK (tm 59))),(uG 54 true 61 (AM Cl (tm 56) (tm 60))),(uB 62 (Al (tm 54) (tm 61) (O.c (V.b Bool.false)))),(uB 4 (AB (tm 62)))] (some ([4,9,13,15,16,20,22,23,27,33,42,51],[(6,[0,5]),(8,[0,5]),(35,[28,34]),(37,[28,34]),(44,[34,43]),(46,[34,43]),(53,[43,52]),(55,[43,52])]))) CC.ret)
abbrev b14:CC:=(CC.seq (CC.region [(wB 4 (AB (O.c (V.b Bool.false))))]) ABe)
theorem c14:AZ Try.prog 14=⟨63,b14,[(Rs.tmp (AX 4))]⟩:=by kernel_rfl
end Go.Proofs.Ytobfgempjekjpaa
set_option maxRecDepth 1000000
namespace Go.Proofs.Ytobfgempjekjpaa
open Go Go.Ev
abbrev AC1:CC:=(CC.seq (CC.region [(wB 1 (De [V.l0,(V.i IntKind.i64 (Int.ofNat 0)),(V.i IntKind.i64 (Int.ofNat 0)),(V.i IntKind.i64 (Int.ofNat 0))] [(Pt.mk 1 1 (oN 1)),(Pt.mk 3 1 (oN 1))])),(wB 2 (Cd 38 (tm 1))),(wB 0 (AB (tm 2)))]) CC.ret)
abbrev b9:CC:=(CC.seq (CC.region [(wB 0 (AB (O.c V.p0)))]) AC1)
theorem c9:AZ Try.prog 9=⟨3,b9,[(Rs.tmp (AX 0))]⟩:=by kernel_rfl
abbrev sZ:CC:=(CC.seq (CC.region [(wB 3 (AF 0 (tm 1))),(wB 4 (AK (tm 3))),(wB 5 (AM Dp (tm 4) (oN 1))),(wB 6 (AB (tm 5))),(wG 6 true 7 (AF 0 (tm 1))),(wG 6 true 8 (AK (tm 7))),(wG 6 true 9 (AM FO (tm 8) (oN 1000000))),(wB 10 (Al (tm 6) (tm 9) (O.c (V.b Bool.false)))),(wB 11 (AB (tm 10))),(wG 11 true 12 (AF 1 (tm 1))),(wG 11 true 13 (AK (tm 12))),(wG 11 true 14 (AM Cl (tm 13) (oN 0))),(wG 11 true 15 (AB (tm 14))),(wG 15 false 16 (AF 1 (tm 1))),(wG 15 false 17 (AK (tm 16))),(wG 15 false 18 (AM Cl (tm 17) (oN 1))),(wG 11 true 19 (Al (tm 15) (O.c (V.b Bool.true)) (tm 18))),(wB 20 (Al (tm 11) (tm 19) (O.c (V.b Bool.false)))),(wB 21 (AB (tm 20))),(wG 21 true 22 (AF 2 (tm 1))),(wG 21 true 23 (AK (tm 22))),(wG 21 true 24 (Bp (tm 23))),(wG 21 true 25 (AM Dp (tm 24) (oN 1))),(wB 26 (Al (tm 21) (tm 25) (O.c (V.b Bool.false)))),(wB 27 (AB (tm 26))),(wG 27 true 28 (AF 2 (tm 1))),(wG 27 true 29 (AK (tm 28))),(wG 27 true 30 (Bp (tm 29))),(wG 27 true 31 (AM FO (tm 30) (oN 13))),(wB 32 (Al (tm 27) (tm 31) (O.c (V.b Bool.false)))),(wB 33 (AB (tm 32))),(wG 33 true 34 (AF 3 (tm 1))),(wG 33 true 35 (AK (tm 34))),(wG 33 true 36 (Bp (tm 35))),(wG 33 true 37 (AM Dp (tm 36) (oN 1))),(wB 38 (Al (tm 33) (tm 37) (O.c (V.b Bool.false)))),(wB 39 (AB (tm 38))),(wG 39 true 40 (AF 3 (tm 1))),(wG 39 true 41 (AK (tm 40))),(wG 39 true 42 (Bp (tm 41))),(wG 39 true 43 (AM FO (tm 42) (oN 13))),(wB 44 (Al (tm 39) (tm 43) (O.c (V.b Bool.false)))),(wB 45 (AB (tm 44))),(wG 45 true 46 (AF 2 (tm 1))),(wG 45 true 47 (AK (tm 46))),(wG 45 true 48 (AF 3 (tm 1))),(wG 45 true 49 (AK (tm 48))),(wG 45 true 50 (CZ (fun a b c d=>G5 a b c d||F6 a b c d) (tm 47) (tm 49))),(wB 51 (Al (tm 45) (tm 50) (O.c (V.b Bool.false)))),(wB 52 (AB (tm 51))),(wG 52 true 53 (AF 4 (tm 1))),(wG 52 true 54 (AK (tm 53))),(wG 52 true 55 (AM Dp (tm 54) (oN 1))),(wB 56 (Al (tm 52) (tm 55) (O.c (V.b Bool.false)))),(wB 2 (AB (tm 56)))]) CC.ret)
abbrev b37:CC:=(CC.seq (CC.region [(wB 1 (Cd 57 (tm 0))),(wB 2 (AB (O.c (V.b Bool.false))))]) sZ)
theorem c37:AZ Try.prog 37=⟨57,b37,[(Rs.tmp (AX 2))]⟩:=by kernel_rfl
abbrev xM:CC:=(CC.seq (CC.region [(wB 2 (AB (O.c (V.b Bool.false))))]) CC.ret)
abbrev vr:CC:=(CC.cond (tm 13) xM CC.skip)
abbrev qa:CC:=(CC.seq (CC.region [(wB 4 (AF 0 (tm 1))),(wB 5 (AK (tm 4))),(wB 6 (BN (tm 5))),(wB 7 (AM Cs (tm 6) (oN 40))),(wB 8 (AB (tm 7))),(wG 8 false 9 (AF 1 (tm 1))),(wG 8 false 10 (AK (tm 9))),(wG 8 false 11 (BN (tm 10))),(wG 8 false 12 (AM Cs (tm 11) (oN 40))),(wB 13 (Al (tm 8) (O.c (V.b Bool.true)) (tm 12)))]) vr)
abbrev yb:CC:=(CC.cond (tm 18) CC.skip (CC.exit 0))
abbrev zq:CC:=(CC.seq (CC.region [(wB 14 (AB (tm 3))),(wB 15 (AF 1 (tm 1))),(wB 16 (AK (tm 15))),(wB 17 (BN (tm 16))),(wB 18 (AM Bg (tm 14) (tm 17)))]) yb)
abbrev sQ:CC:=(CC.seq (CC.region [(wB 2 (AB (O.c (V.b Bool.false))))]) CC.ret)
abbrev yf:CC:=(CC.cond (tm 47) sQ CC.skip)
abbrev wM:CC:=(CC.seq (CC.Ax [(uB 21 (AF 1 (tm 1))),(wB 22 (AK (tm 21))),(uB 23 (AB (tm 3))),(uB 24 (AG 5 (tm 22) (tm 23))),(wB 25 (Aa 5 (tm 24))),(wB 26 (AY 37 [(tm 25)])),(uB 27 (CS (tm 26))),(uB 28 (AB (tm 27))),(uG 28 false 29 (AB (tm 3))),(uG 28 false 30 (AM Cs (tm 29) (oN 0))),(uG 28 false 31 (AB (tm 30))),(uG 31 true 32 (AF 1 (tm 1))),(uG 31 true 33 (AK (tm 32))),(uG 31 true 34 (AB (tm 3))),(uG 31 true 35 (AG 5 (tm 33) (tm 34))),(uG 31 true 36 (AF 0 (tm 35))),(uG 31 true 37 (AK (tm 36))),(uG 31 true 38 (AF 1 (tm 1))),(uG 31 true 39 (AK (tm 38))),(uG 31 true 40 (AB (tm 3))),(uG 31 true 41 (AM Bi (tm 40) (oN 1))),(uG 31 true 42 (AG 5 (tm 39) (tm 41))),(uG 31 true 43 (AF 0 (tm 42))),(uG 31 true 44 (AK (tm 43))),(uG 31 true 45 (AM FO (tm 37) (tm 44))),(uG 28 false 46 (Al (tm 31) (tm 45) (O.c (V.b Bool.false)))),(uB 47 (Al (tm 28) (O.c (V.b Bool.true)) (tm 46)))] none) yf)
abbrev yY:CC:=(CC.block 1 wM)
abbrev zu:CC:=(CC.region [(wB 19 (AB (tm 3))),(wB 20 (AM BE (tm 19) (oN 1))),(wB 3 (AB (tm 20)))])
abbrev cU:CC:=(CC.seq yY zu)
abbrev ue:CC:=(CC.seq zq cU)
abbrev gE:CC:=(CC.loop ue)
abbrev fk:CC:=(CC.block 0 gE)
abbrev fe:CC:=(CC.seq (CC.region [(wB 3 (AB (oN 0)))]) fk)
abbrev ib:CC:=(CC.seq (CC.region [(wB 48 (AF 2 (tm 1))),(wB 49 (AK (tm 48))),(wB 50 (AM Dp (tm 49) (oN 0))),(wB 51 (AB (tm 50))),(wG 51 true 52 (AF 2 (tm 1))),(wG 51 true 53 (AK (tm 52))),(wG 51 true 54 (AM FO (tm 53) (oN 1000000))),(wB 55 (Al (tm 51) (tm 54) (O.c (V.b Bool.false)))),(wB 56 (AB (tm 55))),(wG 56 true 57 (AF 3 (tm 1))),(wG 56 true 58 (AK (tm 57))),(wG 56 true 59 (AM Dp (tm 58) (oN 0))),(wB 60 (Al (tm 56) (tm 59) (O.c (V.b Bool.false)))),(wB 61 (AB (tm 60))),(wG 61 true 62 (AF 3 (tm 1))),(wG 61 true 63 (AK (tm 62))),(wG 61 true 64 (AM FO (tm 63) (oN 1000000))),(wB 65 (Al (tm 61) (tm 64) (O.c (V.b Bool.false)))),(wB 2 (AB (tm 65)))]) CC.ret)
abbrev j9:CC:=(CC.seq fe ib)
abbrev kV:CC:=(CC.seq qa j9)
abbrev b11:CC:=(CC.seq (CC.region [(wB 1 (Cd 35 (tm 0))),(wB 2 (AB (O.c (V.b Bool.false))))]) kV)
theorem c11:AZ Try.prog 11=⟨66,b11,[(Rs.tmp (AX 2))]⟩:=by kernel_rfl
abbrev wR:CC:=(CC.seq (CC.region [(wB 10 (AF 1 (tm 2))),(wB 11 (AK (tm 10))),(wB 12 (AF 1 (tm 3))),(wB 13 (AK (tm 12))),(wB 14 (AM Bg (tm 11) (tm 13))),(wB 4 (AB (tm 14)))]) CC.ret)
abbrev wJ:CC:=(CC.cond (tm 9) wR CC.skip)
abbrev xC:CC:=(CC.seq (CC.region [(wB 5 (AF 1 (tm 2))),(wB 6 (AK (tm 5))),(wB 7 (AF 1 (tm 3))),(wB 8 (AK (tm 7))),(wB 9 (AM H6 (tm 6) (tm 8)))]) wJ)
abbrev wZ:CC:=(CC.seq (CC.region [(wB 18 (AF 0 (tm 2))),(wB 19 (AK (tm 18))),(wB 20 (AF 0 (tm 3))),(wB 21 (AK (tm 20))),(wB 22 (AM Cs (tm 19) (tm 21))),(wB 4 (AB (tm 22)))]) CC.ret)
abbrev tn:CC:=(CC.cond (tm 17) wZ CC.skip)
abbrev AAj:CC:=(CC.seq (CC.region [(wB 15 (AF 1 (tm 2))),(wB 16 (AK (tm 15))),(wB 17 (AM Cl (tm 16) (oN 0)))]) tn)
abbrev zK:CC:=(CC.seq (CC.region [(wB 23 (AF 2 (tm 2))),(wB 24 (AK (tm 23))),(wB 25 (AF 2 (tm 3))),(wB 26 (AK (tm 25))),(wB 27 (CZ G5 (tm 24) (tm 26))),(wB 4 (AB (tm 27)))]) CC.ret)
abbrev AA5:CC:=(CC.seq AAj zK)
abbrev vc:CC:=(CC.seq xC AA5)
abbrev b54:CC:=(CC.seq (CC.region [(wB 2 (Cd 57 (tm 0))),(wB 3 (Cd 57 (tm 1))),(wB 4 (AB (O.c (V.b Bool.false))))]) vc)
theorem c54:AZ Try.prog 54=⟨28,b54,[(Rs.tmp (AX 4))]⟩:=by kernel_rfl
abbrev y8:CC:=(CC.cond (tm 11) CC.skip (CC.exit 0))
abbrev y7:CC:=(CC.seq (CC.region [(wB 8 (AB (tm 7))),(wB 9 (AB (tm 0))),(wB 10 (BN (tm 9))),(wB 11 (AM Bg (tm 8) (tm 10)))]) y8)
abbrev vt:CC:=(CC.seq (CC.region [(wB 24 (AB (tm 5))),(wB 25 (Aa 5 (tm 3))),(wB 26 (A8 57 1 [(V.i IntKind.i64 (Int.ofNat 0)),(V.i IntKind.i64 (Int.ofNat 0)),(V.s 0 0),(V.s 0 0),(V.i IntKind.i64 (Int.ofNat 0))] [(Pt.mk 0 5 (tm 25))])),(wB 27 (BZ 57 5 (tm 24) (tm 26))),(wB 5 (AB (tm 27)))]) (CC.region [(wB 6 (AB (O.c (V.b Bool.true))))]))
abbrev vq:CC:=(CC.cond (tm 23) vt CC.skip)
abbrev rj:CC:=(CC.seq (CC.Ax [(uB 14 (AB (tm 6))),(uB 15 (CS (tm 14))),(uB 16 (AB (tm 15))),(uG 16 true 17 (Aa 5 (tm 3))),(uG 16 true 18 (AB (tm 0))),(uG 16 true 19 (AB (tm 7))),(uG 16 true 20 (AG 5 (tm 18) (tm 19))),(uG 16 true 21 (Aa 5 (tm 20))),(wG 16 true 22 (AY 54 [(tm 17),(tm 21)])),(uB 23 (Al (tm 16) (tm 22) (O.c (V.b Bool.false))))] none) vq)
abbrev rY:CC:=(CC.region [(wB 28 (AB (tm 5))),(wB 29 (AB (tm 0))),(wB 30 (AB (tm 7))),(wB 31 (AG 5 (tm 29) (tm 30))),(wB 32 (Aa 5 (tm 31))),(wB 33 (A8 57 1 [(V.i IntKind.i64 (Int.ofNat 0)),(V.i IntKind.i64 (Int.ofNat 0)),(V.s 0 0),(V.s 0 0),(V.i IntKind.i64 (Int.ofNat 0))] [(Pt.mk 0 5 (tm 32))])),(wB 34 (BZ 57 5 (tm 28) (tm 33))),(wB 5 (AB (tm 34)))])
abbrev rZ:CC:=(CC.seq rj rY)
abbrev vQ:CC:=(CC.block 1 rZ)
abbrev AAe:CC:=(CC.region [(wB 12 (AB (tm 7))),(wB 13 (AM BE (tm 12) (oN 1))),(wB 7 (AB (tm 13)))])
abbrev ABP:CC:=(CC.seq vQ AAe)
abbrev AB8:CC:=(CC.seq y7 ABP)
abbrev jE:CC:=(CC.loop AB8)
abbrev gL:CC:=(CC.block 0 jE)
abbrev nu:CC:=(CC.seq (CC.region [(wB 7 (AB (oN 0)))]) gL)
abbrev ck:CC:=(CC.region [(wB 37 (AB (tm 5))),(wB 38 (Aa 5 (tm 3))),(wB 39 (A8 57 1 [(V.i IntKind.i64 (Int.ofNat 0)),(V.i IntKind.i64 (Int.ofNat 0)),(V.s 0 0),(V.s 0 0),(V.i IntKind.i64 (Int.ofNat 0))] [(Pt.mk 0 5 (tm 38))])),(wB 40 (BZ 57 5 (tm 37) (tm 39))),(wB 5 (AB (tm 40)))])
abbrev gf:CC:=(CC.cond (tm 36) ck CC.skip)
abbrev oA:CC:=(CC.seq (CC.region [(wB 35 (AB (tm 6))),(wB 36 (CS (tm 35)))]) gf)
abbrev dK:CC:=(CC.seq (CC.region [(wB 41 (AB (tm 5))),(wB 4 (AB (tm 41)))]) CC.ret)
abbrev lI:CC:=(CC.seq oA dK)
abbrev iv:CC:=(CC.seq nu lI)
abbrev jJ:CC:=(CC.seq (CC.region [(wB 6 (AB (O.c (V.b Bool.false))))]) iv)
abbrev iF:CC:=(CC.seq (CC.region [(wB 5 (AB (O.c V.l0)))]) jJ)
abbrev b39:CC:=(CC.seq (CC.region [(wB 3 (Cd 57 (tm 1))),(wB 4 (AB (O.c V.l0)))]) iF)
theorem c39:AZ Try.prog 39=⟨42,b39,[(Rs.tmp (AX 4))]⟩:=by kernel_rfl
abbrev vD:CC:=(CC.cond (tm 9) CC.skip (CC.exit 0))
abbrev rz:CC:=(CC.seq (CC.region [(wB 6 (AB (tm 5))),(wB 7 (AB (tm 0))),(wB 8 (BN (tm 7))),(wB 9 (AM Bg (tm 6) (tm 8)))]) vD)
abbrev qk:CC:=(CC.seq (CC.region [(wB 4 (AB (O.c (V.b Bool.true))))]) CC.ret)
abbrev sA:CC:=(CC.cond (tm 17) qk CC.skip)
abbrev uq:CC:=(CC.seq (CC.region [(wB 12 (AB (tm 0))),(wB 13 (AB (tm 5))),(wB 14 (AG 1 (tm 12) (tm 13))),(wB 15 (AK (tm 14))),(wB 16 (AB (tm 1))),(wB 17 (AM Cl (tm 15) (tm 16)))]) sA)
abbrev qd:CC:=(CC.block 1 uq)
abbrev ru:CC:=(CC.region [(wB 10 (AB (tm 5))),(wB 11 (AM BE (tm 10) (oN 1))),(wB 5 (AB (tm 11)))])
abbrev pe:CC:=(CC.seq qd ru)
abbrev pJ:CC:=(CC.seq rz pe)
abbrev uX:CC:=(CC.loop pJ)
abbrev ACP:CC:=(CC.block 0 uX)
abbrev nZ:CC:=(CC.seq (CC.region [(wB 5 (AB (oN 0)))]) ACP)
abbrev ie:CC:=(CC.seq (CC.region [(wB 4 (AB (O.c (V.b Bool.false))))]) CC.ret)
abbrev gp:CC:=(CC.seq nZ ie)
abbrev b38:CC:=(CC.seq (CC.region [(wB 4 (AB (O.c (V.b Bool.false))))]) gp)
theorem c38:AZ Try.prog 38=⟨18,b38,[(Rs.tmp (AX 4))]⟩:=by kernel_rfl
abbrev uy:CC:=(CC.seq (CC.region [(wB 4 (AB (oN 10)))]) CC.ret)
abbrev AA3:CC:=(CC.cond (tm 14) uy CC.skip)
abbrev pg:CC:=(CC.seq (CC.region [(wB 12 (Aa 4 (tm 3))),(wB 13 (AY 11 [(tm 12)])),(wB 14 (CS (tm 13)))]) AA3)
abbrev rS:CC:=(CC.cond (tm 21) CC.skip (CC.exit 0))
abbrev sh:CC:=(CC.seq (CC.region [(wB 15 (AB (tm 6))),(wB 16 (AB (tm 0))),(wB 17 (AO (tm 16))),(wB 18 (AF 0 (tm 17))),(wB 19 (AK (tm 18))),(wB 20 (BN (tm 19))),(wB 21 (AM Bg (tm 15) (tm 20)))]) rS)
abbrev qc:CC:=(CC.region [(wB 36 (AB (tm 5))),(wB 37 (AB (tm 0))),(wB 38 (AO (tm 37))),(wB 39 (AF 0 (tm 38))),(wB 40 (AK (tm 39))),(wB 41 (AB (tm 6))),(wB 42 (AG 5 (tm 40) (tm 41))),(wB 43 (Aa 5 (tm 42))),(wB 44 (A8 57 1 [(V.i IntKind.i64 (Int.ofNat 0)),(V.i IntKind.i64 (Int.ofNat 0)),(V.s 0 0),(V.s 0 0),(V.i IntKind.i64 (Int.ofNat 0))] [(Pt.mk 0 5 (tm 43))])),(wB 45 (BZ 57 5 (tm 36) (tm 44))),(wB 5 (AB (tm 45)))])
abbrev zA:CC:=(CC.cond (tm 35) qc CC.skip)
abbrev sN:CC:=(CC.seq (CC.Ax [(uB 24 (AF 0 (tm 3))),(uB 25 (AK (tm 24))),(uB 26 (AB (tm 0))),(uB 27 (AO (tm 26))),(uB 28 (AF 0 (tm 27))),(uB 29 (AK (tm 28))),(uB 30 (AB (tm 6))),(uB 31 (AG 5 (tm 29) (tm 30))),(uB 32 (AF 0 (tm 31))),(uB 33 (AK (tm 32))),(wB 34 (AY 38 [(tm 25),(tm 33)])),(uB 35 (CS (tm 34)))] none) zA)
abbrev ACV:CC:=(CC.block 1 sN)
abbrev AAf:CC:=(CC.region [(wB 22 (AB (tm 6))),(wB 23 (AM BE (tm 22) (oN 1))),(wB 6 (AB (tm 23)))])
abbrev iu:CC:=(CC.seq ACV AAf)
abbrev ABN:CC:=(CC.seq sh iu)
abbrev dh:CC:=(CC.loop ABN)
abbrev iG:CC:=(CC.block 0 dh)
abbrev Zs:CC:=(CC.seq (CC.region [(wB 6 (AB (oN 0)))]) iG)
abbrev eE:CC:=(CC.cond (tm 50) CC.skip (CC.exit 2))
abbrev jS:CC:=(CC.seq (CC.region [(wB 46 (AB (tm 7))),(wB 47 (AF 0 (tm 3))),(wB 48 (AK (tm 47))),(wB 49 (BN (tm 48))),(wB 50 (AM Bg (tm 46) (tm 49)))]) eE)
abbrev bZ:CC:=(CC.cond (tm 59) CC.skip (CC.exit 4))
abbrev iX:CC:=(CC.seq (CC.region [(wB 53 (AB (tm 9))),(wB 54 (AB (tm 0))),(wB 55 (AO (tm 54))),(wB 56 (AF 0 (tm 55))),(wB 57 (AK (tm 56))),(wB 58 (BN (tm 57))),(wB 59 (AM Bg (tm 53) (tm 58)))]) bZ)
abbrev cI:CC:=(CC.Ax [(uB 62 (AB (tm 8))),(uB 63 (AB (tm 62))),(uG 63 false 64 (AB (tm 0))),(uG 63 false 65 (AO (tm 64))),(uG 63 false 66 (AF 0 (tm 65))),(uG 63 false 67 (AK (tm 66))),(uG 63 false 68 (AB (tm 9))),(uG 63 false 69 (AG 5 (tm 67) (tm 68))),(uG 63 false 70 (AF 0 (tm 69))),(uG 63 false 71 (AK (tm 70))),(uG 63 false 72 (AF 0 (tm 3))),(uG 63 false 73 (AK (tm 72))),(uG 63 false 74 (AB (tm 7))),(uG 63 false 75 (AG 1 (tm 73) (tm 74))),(uG 63 false 76 (AK (tm 75))),(uG 63 false 77 (AM Cl (tm 71) (tm 76))),(uB 78 (Al (tm 63) (O.c (V.b Bool.true)) (tm 77))),(uB 8 (AB (tm 78)))] none)
abbrev jP:CC:=(CC.block 5 cI)
abbrev eQ:CC:=(CC.region [(wB 60 (AB (tm 9))),(wB 61 (AM BE (tm 60) (oN 1))),(wB 9 (AB (tm 61)))])
abbrev bm:CC:=(CC.seq jP eQ)
abbrev pI:CC:=(CC.seq iX bm)
abbrev fA:CC:=(CC.loop pI)
abbrev kQ:CC:=(CC.block 4 fA)
abbrev Z5:CC:=(CC.seq (CC.region [(wB 9 (AB (oN 0)))]) kQ)
abbrev Yy:CC:=(CC.seq (CC.region [(wB 4 (AB (oN 18)))]) CC.ret)
abbrev ZJ:CC:=(CC.cond (tm 80) Yy CC.skip)
abbrev mL:CC:=(CC.seq (CC.region [(wB 79 (AB (tm 8))),(wB 80 (CS (tm 79)))]) ZJ)
abbrev iL:CC:=(CC.seq Z5 mL)
abbrev j8:CC:=(CC.seq (CC.region [(wB 8 (AB (O.c (V.b Bool.false))))]) iL)
abbrev kC:CC:=(CC.block 3 j8)
abbrev ZV:CC:=(CC.region [(wB 51 (AB (tm 7))),(wB 52 (AM BE (tm 51) (oN 1))),(wB 7 (AB (tm 52)))])
abbrev gM:CC:=(CC.seq kC ZV)
abbrev vV:CC:=(CC.seq jS gM)
abbrev kD:CC:=(CC.loop vV)
abbrev ZW:CC:=(CC.block 2 kD)
abbrev fo:CC:=(CC.seq (CC.region [(wB 7 (AB (oN 0)))]) ZW)
abbrev kT:CC:=(CC.seq (CC.region [(wB 4 (AB (oN 16)))]) CC.ret)
abbrev hS:CC:=(CC.cond (tm 124) kT CC.skip)
abbrev gY:CC:=(CC.seq (CC.Ax [(uB 81 (AF 1 (tm 3))),(wB 82 (AK (tm 81))),(uB 83 (BN (tm 82))),(uB 84 (AM Cs (tm 83) (oN 0))),(uB 85 (AB (tm 84))),(uG 85 true 86 (AF 1 (tm 3))),(uG 85 true 87 (AK (tm 86))),(uG 85 true 88 (AG 5 (tm 87) (oN 0))),(uG 85 true 89 (AF 0 (tm 88))),(uG 85 true 90 (AK (tm 89))),(uG 85 true 91 (AB (tm 0))),(uG 85 true 92 (AO (tm 91))),(uG 85 true 93 (AF 3 (tm 92))),(uG 85 true 94 (AK (tm 93))),(uG 85 true 95 (AM Bg (tm 90) (tm 94))),(uB 96 (Al (tm 85) (tm 95) (O.c (V.b Bool.false)))),(uB 97 (AB (tm 96))),(uG 97 false 98 (AF 2 (tm 3))),(wG 97 false 99 (AK (tm 98))),(uG 97 false 100 (AM Cs (tm 99) (oN 0))),(uG 97 false 101 (AB (tm 100))),(uG 101 true 102 (AF 2 (tm 3))),(uG 101 true 103 (AK (tm 102))),(uG 101 true 104 (AB (tm 0))),(uG 101 true 105 (AO (tm 104))),(uG 101 true 106 (AF 1 (tm 105))),(uG 101 true 107 (AK (tm 106))),(uG 101 true 108 (AM Bg (tm 103) (tm 107))),(uG 97 false 109 (Al (tm 101) (tm 108) (O.c (V.b Bool.false)))),(uB 110 (Al (tm 97) (O.c (V.b Bool.true)) (tm 109))),(uB 111 (AB (tm 110))),(uG 111 false 112 (AF 3 (tm 3))),(wG 111 false 113 (AK (tm 112))),(uG 111 false 114 (AM Cs (tm 113) (oN 0))),(uG 111 false 115 (AB (tm 114))),(uG 115 true 116 (AF 3 (tm 3))),(uG 115 true 117 (AK (tm 116))),(uG 115 true 118 (AB (tm 0))),(uG 115 true 119 (AO (tm 118))),(uG 115 true 120 (AF 2 (tm 119))),(uG 115 true 121 (AK (tm 120))),(uG 115 true 122 (AM Bg (tm 117) (tm 121))),(uG 111 false 123 (Al (tm 115) (tm 122) (O.c (V.b Bool.false)))),(uB 124 (Al (tm 111) (O.c (V.b Bool.true)) (tm 123)))] none) hS)
abbrev Z1:CC:=(CC.cond (tm 129) CC.skip (CC.exit 6))
abbrev nY:CC:=(CC.seq (CC.region [(wB 125 (AB (tm 10))),(wB 126 (AF 1 (tm 3))),(wB 127 (AK (tm 126))),(wB 128 (BN (tm 127))),(wB 129 (AM Bg (tm 125) (tm 128)))]) Z1)
abbrev cA:CC:=(CC.cond (tm 135) CC.skip (CC.exit 8))
abbrev fV:CC:=(CC.seq (CC.region [(wB 132 (AB (tm 11))),(wB 133 (AB (tm 5))),(wB 134 (BN (tm 133))),(wB 135 (AM Bg (tm 132) (tm 134)))]) cA)
abbrev mo:CC:=(CC.seq (CC.region [(wB 4 (AB (oN 16)))]) CC.ret)
abbrev aD:CC:=(CC.cond (tm 180) mo CC.skip)
abbrev Y0:CC:=(CC.seq (CC.Ax [(uB 138 (AB (tm 5))),(uB 139 (AB (tm 11))),(uB 140 (AG 5 (tm 138) (tm 139))),(uB 141 (AF 1 (tm 140))),(wB 142 (AK (tm 141))),(uB 143 (AM Cl (tm 142) (oN 1))),(uB 144 (AB (tm 143))),(uG 144 true 145 (AF 1 (tm 3))),(wG 144 true 146 (AK (tm 145))),(uG 144 true 147 (AB (tm 10))),(uG 144 true 148 (AG 5 (tm 146) (tm 147))),(uG 144 true 149 (AF 1 (tm 148))),(wG 144 true 150 (AK (tm 149))),(uG 144 true 151 (AM Cl (tm 150) (oN 1))),(uB 152 (Al (tm 144) (tm 151) (O.c (V.b Bool.false)))),(uB 153 (AB (tm 152))),(uG 153 true 154 (AB (tm 5))),(uG 153 true 155 (AB (tm 11))),(uG 153 true 156 (AG 5 (tm 154) (tm 155))),(uG 153 true 157 (AF 2 (tm 156))),(uG 153 true 158 (AK (tm 157))),(uG 153 true 159 (AF 1 (tm 3))),(uG 153 true 160 (AK (tm 159))),(uG 153 true 161 (AB (tm 10))),(uG 153 true 162 (AG 5 (tm 160) (tm 161))),(uG 153 true 163 (AF 3 (tm 162))),(uG 153 true 164 (AK (tm 163))),(uG 153 true 165 (CZ (fun a b c d=>G5 a b c d||F6 a b c d) (tm 158) (tm 164))),(uB 166 (Al (tm 153) (tm 165) (O.c (V.b Bool.false)))),(uB 167 (AB (tm 166))),(uG 167 true 168 (AF 1 (tm 3))),(uG 167 true 169 (AK (tm 168))),(uG 167 true 170 (AB (tm 10))),(uG 167 true 171 (AG 5 (tm 169) (tm 170))),(uG 167 true 172 (AF 2 (tm 171))),(uG 167 true 173 (AK (tm 172))),(uG 167 true 174 (AB (tm 5))),(uG 167 true 175 (AB (tm 11))),(uG 167 true 176 (AG 5 (tm 174) (tm 175))),(uG 167 true 177 (AF 3 (tm 176))),(uG 167 true 178 (AK (tm 177))),(uG 167 true 179 (CZ (fun a b c d=>G5 a b c d||F6 a b c d) (tm 173) (tm 178))),(uB 180 (Al (tm 167) (tm 179) (O.c (V.b Bool.false))))] none) aD)
abbrev eT:CC:=(CC.block 9 Y0)
abbrev Za:CC:=(CC.region [(wB 136 (AB (tm 11))),(wB 137 (AM BE (tm 136) (oN 1))),(wB 11 (AB (tm 137)))])
abbrev av:CC:=(CC.seq eT Za)
abbrev yB:CC:=(CC.seq fV av)
abbrev iV:CC:=(CC.loop yB)
abbrev gD:CC:=(CC.block 8 iV)
abbrev m8:CC:=(CC.seq (CC.region [(wB 11 (AB (oN 0)))]) gD)
abbrev fj:CC:=(CC.region [(wB 181 (AB (tm 5))),(wB 182 (AF 1 (tm 3))),(wB 183 (AK (tm 182))),(wB 184 (AB (tm 10))),(wB 185 (AG 5 (tm 183) (tm 184))),(wB 186 (Aa 5 (tm 185))),(wB 187 (AY 39 [(tm 181),(tm 186)])),(wB 5 (AB (tm 187)))])
abbrev gH:CC:=(CC.seq m8 fj)
abbrev eL:CC:=(CC.block 7 gH)
abbrev mS:CC:=(CC.region [(wB 130 (AB (tm 10))),(wB 131 (AM BE (tm 130) (oN 1))),(wB 10 (AB (tm 131)))])
abbrev dG:CC:=(CC.seq eL mS)
abbrev sS:CC:=(CC.seq nY dG)
abbrev dX:CC:=(CC.loop sS)
abbrev iT:CC:=(CC.block 6 dX)
abbrev af:CC:=(CC.seq (CC.region [(wB 10 (AB (oN 0)))]) iT)
abbrev hU:CC:=(CC.seq (CC.region [(wB 4 (AB (oN 25)))]) CC.ret)
abbrev dj:CC:=(CC.cond (tm 190) hU CC.skip)
abbrev cF:CC:=(CC.seq (CC.region [(wB 188 (AB (tm 5))),(wB 189 (BN (tm 188))),(wB 190 (AM Cs (tm 189) (oN 40)))]) dj)
abbrev bS:CC:=(CC.region [(wB 219 (AB (tm 0))),(wB 220 (AF 1 (tm 3))),(wB 221 (AK (tm 220))),(wB 222 (AF 1 (tm 3))),(wB 223 (AK (tm 222))),(wB 224 (BN (tm 223))),(wB 225 (AM Bi (tm 224) (oN 1))),(wB 226 (AG 5 (tm 221) (tm 225))),(wB 227 (AF 0 (tm 226))),(wB 228 (AK (tm 227))),(wB 229 (AM BE (tm 228) (oN 1))),(wB 230 (AO (tm 219))),(wB 231 (AF 3 (tm 230))),(CO.mk G.none D.none Bool.true (CR.mk (Ad 1 (tm 231) (tm 229))))])
abbrev nN:CC:=(CC.cond (tm 218) bS CC.skip)
abbrev fO:CC:=(CC.seq (CC.region [(wB 215 (AF 1 (tm 3))),(wB 216 (AK (tm 215))),(wB 217 (BN (tm 216))),(wB 218 (AM Cs (tm 217) (oN 0)))]) nN)
abbrev jH:CC:=(CC.seq (CC.region [(wB 4 (AB (oN 0)))]) CC.ret)
abbrev oB:CC:=(CC.seq fO jH)
abbrev ng:CC:=(CC.seq (CC.Ax [(uB 195 (AB (tm 0))),(uB 196 (AB (tm 0))),(uB 197 (AB (tm 0))),(uB 198 (AO (tm 197))),(uB 199 (AF 1 (tm 198))),(uB 200 (AK (tm 199))),(uB 201 (AF 2 (tm 3))),(uB 202 (AK (tm 201))),(uB 203 (FM (tm 200) (tm 202))),(uB 204 (AB (tm 0))),(uB 205 (AO (tm 204))),(uB 206 (AF 2 (tm 205))),(uB 207 (AK (tm 206))),(uB 208 (AF 3 (tm 3))),(uB 209 (AK (tm 208))),(uB 210 (FM (tm 207) (tm 209))),(uB 211 (AO (tm 195))),(uB 212 (AF 1 (tm 211))),(CO.mk G.none D.none Bool.false (CR.mk (Ad 1 (tm 212) (tm 203)))),(wB 213 (AO (tm 196))),(uB 214 (AF 2 (tm 213))),(CO.mk G.none D.none Bool.true (CR.mk (Ad 1 (tm 214) (tm 210))))] (some ([18,21],[(3,[0]),(5,[0]),(7,[0]),(10,[0]),(12,[0]),(14,[0,19]),(16,[0]),(19,[19])]))) oB)
abbrev Zm:CC:=(CC.seq (CC.region [(wB 191 (AB (tm 0))),(wB 192 (AB (tm 5))),(wB 193 (AO (tm 191))),(wB 194 (AF 0 (tm 193))),(CO.mk G.none D.none Bool.true (CR.mk (Ad 1 (tm 194) (tm 192))))]) ng)
abbrev lS:CC:=(CC.seq cF Zm)
abbrev db:CC:=(CC.seq af lS)
abbrev TB:CC:=(CC.seq gY db)
abbrev iO:CC:=(CC.seq fo TB)
abbrev aB:CC:=(CC.seq Zs iO)
abbrev gP:CC:=(CC.seq (CC.region [(wB 5 (AB (O.c V.l0)))]) aB)
abbrev eN:CC:=(CC.seq pg gP)
abbrev b12:CC:=(CC.seq (CC.region [(wB 3 (Cd 35 (tm 1))),(wB 4 (AB (oN 0)))]) eN)
theorem c12:AZ Try.prog 12=⟨232,b12,[(Rs.tmp (AX 4))]⟩:=by kernel_rfl
abbrev ABH:CC:=(CC.cond (tm 13) CC.skip (CC.exit 0))
abbrev y4:CC:=(CC.seq (CC.region [(wB 7 (AB (tm 6))),(wB 8 (AB (tm 0))),(wB 9 (AO (tm 8))),(wB 10 (AF 0 (tm 9))),(wB 11 (AK (tm 10))),(wB 12 (BN (tm 11))),(wB 13 (AM Bg (tm 7) (tm 12)))]) ABH)
abbrev ACI:CC:=(CC.region [(wB 26 (AB (tm 5))),(wB 27 (AB (tm 0))),(wB 28 (AO (tm 27))),(wB 29 (AF 0 (tm 28))),(wB 30 (AK (tm 29))),(wB 31 (AB (tm 6))),(wB 32 (AG 5 (tm 30) (tm 31))),(wB 33 (Aa 5 (tm 32))),(wB 34 (A8 57 1 [(V.i IntKind.i64 (Int.ofNat 0)),(V.i IntKind.i64 (Int.ofNat 0)),(V.s 0 0),(V.s 0 0),(V.i IntKind.i64 (Int.ofNat 0))] [(Pt.mk 0 5 (tm 33))])),(wB 35 (BZ 57 5 (tm 26) (tm 34))),(wB 5 (AB (tm 35)))])
abbrev AAi:CC:=(CC.cond (tm 25) ACI CC.skip)
abbrev rT:CC:=(CC.seq (CC.region [(wB 16 (AB (tm 0))),(wB 17 (AO (tm 16))),(wB 18 (AF 0 (tm 17))),(wB 19 (AK (tm 18))),(wB 20 (AB (tm 6))),(wB 21 (AG 5 (tm 19) (tm 20))),(wB 22 (AF 1 (tm 21))),(wB 23 (AK (tm 22))),(wB 24 (AB (tm 1))),(wB 25 (AM Cl (tm 23) (tm 24)))]) AAi)
abbrev z5:CC:=(CC.block 1 rT)
abbrev AAS:CC:=(CC.region [(wB 14 (AB (tm 6))),(wB 15 (AM BE (tm 14) (oN 1))),(wB 6 (AB (tm 15)))])
abbrev zG:CC:=(CC.seq z5 AAS)
abbrev sC:CC:=(CC.seq y4 zG)
abbrev oH:CC:=(CC.loop sC)
abbrev ACS:CC:=(CC.block 0 oH)
abbrev iS:CC:=(CC.seq (CC.region [(wB 6 (AB (oN 0)))]) ACS)
abbrev mF:CC:=(CC.seq (CC.region [(wB 36 (AB (tm 5))),(wB 4 (AB (tm 36)))]) CC.ret)
abbrev mf:CC:=(CC.seq iS mF)
abbrev fF:CC:=(CC.seq (CC.region [(wB 5 (AB (O.c V.l0)))]) mf)
abbrev b41:CC:=(CC.seq (CC.region [(wB 4 (AB (O.c V.l0)))]) fF)
theorem c41:AZ Try.prog 41=⟨37,b41,[(Rs.tmp (AX 4))]⟩:=by kernel_rfl
abbrev zL:CC:=(CC.seq (CC.region [(wB 4 (AB (O.c (V.b Bool.false))))]) CC.ret)
abbrev sU:CC:=(CC.cond (tm 10) zL CC.skip)
abbrev yI:CC:=(CC.seq (CC.region [(wB 6 (AB (tm 0))),(wB 7 (BN (tm 6))),(wB 8 (AB (tm 1))),(wB 9 (BN (tm 8))),(wB 10 (AM H6 (tm 7) (tm 9)))]) sU)
abbrev xR:CC:=(CC.cond (tm 14) CC.skip (CC.exit 0))
abbrev rn:CC:=(CC.seq (CC.region [(wB 11 (AB (tm 5))),(wB 12 (AB (tm 0))),(wB 13 (BN (tm 12))),(wB 14 (AM Bg (tm 11) (tm 13)))]) xR)
abbrev wX:CC:=(CC.seq (CC.region [(wB 4 (AB (O.c (V.b Bool.false))))]) CC.ret)
abbrev uZ:CC:=(CC.cond (tm 25) wX CC.skip)
abbrev qD:CC:=(CC.seq (CC.Ax [(uB 17 (AB (tm 0))),(uB 18 (AB (tm 5))),(uB 19 (AG 5 (tm 17) (tm 18))),(uB 20 (Aa 5 (tm 19))),(uB 21 (AB (tm 1))),(uB 22 (AB (tm 5))),(uB 23 (AG 5 (tm 21) (tm 22))),(uB 24 (Aa 5 (tm 23))),(uB 25 (Jb [KD.i,KD.i,KD.s,KD.s,KD.i] Bool.true (tm 20) (tm 24)))] none) uZ)
abbrev xh:CC:=(CC.block 1 qD)
abbrev ACF:CC:=(CC.region [(wB 15 (AB (tm 5))),(wB 16 (AM BE (tm 15) (oN 1))),(wB 5 (AB (tm 16)))])
abbrev eV:CC:=(CC.seq xh ACF)
abbrev p9:CC:=(CC.seq rn eV)
abbrev eF:CC:=(CC.loop p9)
abbrev bd:CC:=(CC.block 0 eF)
abbrev nE:CC:=(CC.seq (CC.region [(wB 5 (AB (oN 0)))]) bd)
abbrev nD:CC:=(CC.seq (CC.region [(wB 4 (AB (O.c (V.b Bool.true))))]) CC.ret)
abbrev ZI:CC:=(CC.seq nE nD)
abbrev nH:CC:=(CC.seq yI ZI)
abbrev b21:CC:=(CC.seq (CC.region [(wB 4 (AB (O.c (V.b Bool.false))))]) nH)
theorem c21:AZ Try.prog 21=⟨26,b21,[(Rs.tmp (AX 4))]⟩:=by kernel_rfl
end Go.Proofs.Ytobfgempjekjpaa
set_option maxRecDepth 1000000
namespace Go.Proofs.Ytobfgempjekjpaa.ravelinlaw13
open Go.Ev
theorem SH:Uu xZ Try.prog 1000 7 []=true:=by kernel_rfl
theorem PS:Dv Try.prog 7:=Xs (XX _) (Checked.mixed Try.checked) SH
end Go.Proofs.Ytobfgempjekjpaa.ravelinlaw13
set_option maxRecDepth 100000
set_option maxHeartbeats 8000000
namespace Go.Proofs.Ytobfgempjekjpaa
open Go Go.Ev
theorem Wy {h:H}:A3 Try.prog 7 [] h fun y h'=>y=.b true/\h'=h:=A3.WB ravelinlaw13.PS h
theorem NU {h:H} {x y:V} {M:List Bq} (a:FQ h x M) (b:FQ h y M) (hl:M.length<=1000):A3 Try.prog 21 [x,y] h fun y h'=>y=.b true/\h'=h:=by
 refine Aw c21 (by intro hb;cases hb) (by simp) (by simp) fun Q hQ=>?_
 simp only[Ah,Nat.reduceAdd]
 repeat' (first
  |refine St.h ?_
  |simp(disch:=first|omega|(simp only[AI];omega))only[AJ,↓AA,↓reduceIte,seval,a.ln,b.ln]
  |(with_reducible (first|apply AD|apply AE))<;>(intro hc;(try simp only[AT]at hc);(try simp only[hc]);(try simp only[AR]at hc);try omega))
 refine Ok.lp (fun m t g=>∃ i:Nat,m=M.length-i/\i<=M.length/\h=g/\get 0 t=x/\get 1 t=y/\get 5 t=.i .i64 (i:Int)) M.length ?_ ?_
 ·simp(disch:=first|omega|(simp only[AI];omega))only[AJ,↓AA,↓reduceIte,seval]
  refine⟨0,by omega,by omega,?_⟩
  refine⟨?_,?_,?_,?_⟩
  all_goals first|trivial|rfl
 rintro I hI m t g ⟨i,rfl,hi,rfl,f0,f1,f5⟩
 by_cases hil:i<M.length
 case neg=>
  obtain rfl:i=M.length:=by omega
  have d1:((M.length:Int)<(M.length:Int))=False:=eq_false (by omega)
  repeat' (first
   |refine St.h ?_
   |simp(disch:=first|omega|(simp only[AI];omega))only[AJ,↓AA,↓reduceIte,seval,f0,f1,f5,d1,a.ln]
   |(with_reducible (first|apply AD|apply AE))<;>(intro hc;(try simp only[AT]at hc);(try simp only[hc]);(try simp only[AR]at hc);try omega))
  subst hQ
  exact⟨rfl,rfl⟩
 have d1:((i:Int)<(M.length:Int))=True:=eq_true (by omega)
 repeat' (first
  |refine St.h ?_
  |simp(disch:=first|omega|(simp only[AI];omega))only[AJ,↓AA,↓reduceIte,seval,f0,f1,f5,d1,a.ln,b.ln,a.ix,a.la,b.ix,b.la,Int.toNat_natCast,AB0,and_self,decide_true,Bool.xor_true,Bool.not_true]
  |(with_reducible (first|apply AD|apply AE))<;>(intro hc;(try simp only[AT]at hc);(try simp only[hc]);(try simp only[AR]at hc);try omega))
 exact Ai hI (M.length-(i+1)) (by omega) ⟨i+1,rfl,by omega,rfl,by simp(disch:=first|omega|(simp only[AI];omega))only[AJ,↓AA,↓reduceIte,seval,f0],by simp(disch:=first|omega|(simp only[AI];omega))only[AJ,↓AA,↓reduceIte,seval,f1],by simp(disch:=first|omega|(simp only[AI];omega))only[AJ,↓AA,↓reduceIte,seval,f5];rfl⟩
theorem bL {h:H} {v:V} {K:List Ek} (a:LW h v K) (hl:K.length<=9223372036854775807):A3 Try.prog 8 [v] h fun y h'=>∃ r,y=.b r/\(r=true->ADL K)/\h=h':=by
 refine Aw c8 (by intro hb;cases hb) (by simp) (by simp) fun Q hQ=>?_
 simp only[Ah,Nat.reduceAdd]
 repeat' (first
  |refine St.h ?_
  |simp(disch:=first|omega|(simp only[AI];omega))only[AJ,↓AA,↓reduceIte,seval,a.ln]
  |(with_reducible (first|apply AD|apply AE))<;>(intro hc;(try simp only[AT]at hc);(try simp only[hc]);(try simp only[AR]at hc);try omega))
 refine Ok.lp (fun m t g=>∃ i:Nat,m=K.length-i/\i<=K.length/\h=g/\get 0 t=v/\get 3 t=.i .i64 (i:Int)/\∀ p,p<i->pf (K.getD p default)) K.length ?_ ?_
 ·simp(disch:=first|omega|(simp only[AI];omega))only[AJ,↓AA,↓reduceIte,seval]
  refine⟨0,by omega,by omega,?_⟩
  refine⟨?_,?_,?_,fun p hp=>by omega⟩
  all_goals first|trivial|rfl
 rintro I hI m t g ⟨i,rfl,hi,rfl,f0,f3,hall⟩
 by_cases hil:i<K.length
 case neg=>
  obtain rfl:i=K.length:=by omega
  have d1:((K.length:Int)<(K.length:Int))=False:=eq_false (by omega)
  repeat' (first
   |refine St.h ?_
   |simp(disch:=first|omega|(simp only[AI];omega))only[AJ,↓AA,↓reduceIte,seval,f0,f3,d1,a.ln]
   |(with_reducible (first|apply AD|apply AE))<;>(intro hc;(try simp only[AT]at hc);(try simp only[hc]);(try simp only[AR]at hc);try omega))
  subst hQ
  exact⟨_,rfl,fun hr=>⟨by have:=of_decide_eq_true hr;omega,hall⟩,rfl⟩
 have d1:((i:Int)<(K.length:Int))=True:=eq_true (by omega)
 have m1:=a.at hil
 by_cases hg:60<(K.getD i default).e.gone.length
 ·have d2:((60:Int)<((K.getD i default).e.gone.length:Int))=True:=eq_true (by omega)
  repeat' (first
   |refine St.h ?_
   |simp(disch:=first|omega|(simp only[AI];omega))only[AJ,↓AA,↓reduceIte,seval,f0,f3,d1,d2,a.ln,a.ix,a.l0,m1.1.ln,Int.toNat_natCast]
   |(with_reducible (first|apply AD|apply AE))<;>(intro hc;(try simp only[AT]at hc);(try simp only[hc]);(try simp only[AR]at hc);try omega))
  subst hQ
  exact⟨_,rfl,fun hr=>(by cases hr),rfl⟩
 have d2:((60:Int)<((K.getD i default).e.gone.length:Int))=False:=eq_false (by omega)
 by_cases hc:60<(K.getD i default).e.AU.length
 ·have d3:((60:Int)<((K.getD i default).e.AU.length:Int))=True:=eq_true (by omega)
  repeat' (first
   |refine St.h ?_
   |simp(disch:=first|omega|(simp only[AI];omega))only[AJ,↓AA,↓reduceIte,seval,f0,f3,d1,d2,d3,a.ln,a.ix,a.l0,a.l1,m1.1.ln,m1.2.ln,Int.toNat_natCast]
   |(with_reducible (first|apply AD|apply AE))<;>(intro hc;(try simp only[AT]at hc);(try simp only[hc]);(try simp only[AR]at hc);try omega))
  subst hQ
  exact⟨_,rfl,fun hr=>(by cases hr),rfl⟩
 have d3:((60:Int)<((K.getD i default).e.AU.length:Int))=False:=eq_false (by omega)
 repeat' (first
  |refine St.h ?_
  |simp(disch:=first|omega|(simp only[AI];omega))only[AJ,↓AA,↓reduceIte,seval,f0,f3,d1,d2,d3,a.ln,a.ix,a.l0,a.l1,m1.1.ln,m1.2.ln,Int.toNat_natCast]
  |(with_reducible (first|apply AD|apply AE))<;>(intro hc;(try simp only[AT]at hc);(try simp only[hc]);(try simp only[AR]at hc);try omega))
 refine Ok.lp (fun m t g=>∃ j:Nat,m=(K.getD i default).e.AU.length-j/\j<=(K.getD i default).e.AU.length/\h=g/\get 0 t=v/\get 3 t=.i .i64 (i:Int)/\get 4 t=.i .i64 (j:Int)/\∀ p,p<j->((K.getD i default).e.AU.getD p default).fst.length<=20/\((K.getD i default).e.AU.getD p default).DT.length<=20) (K.getD i default).e.AU.length ?_ ?_
 ·simp(disch:=first|omega|(simp only[AI];omega))only[AJ,↓AA,↓reduceIte,seval,f0,f3]
  refine⟨0,by omega,by omega,?_⟩
  refine⟨?_,?_,?_,?_,fun p hp=>by omega⟩
  all_goals first|trivial|rfl
 rintro I2 hI2 m2 t2 g2 ⟨j,rfl,hj,rfl,f0,f3,f4,hin⟩
 by_cases hjl:j<(K.getD i default).e.AU.length
 case neg=>
  obtain rfl:j=(K.getD i default).e.AU.length:=by omega
  have d4:(((K.getD i default).e.AU.length:Int)<((K.getD i default).e.AU.length:Int))=False:=eq_false (by omega)
  repeat' (first
   |refine St.h ?_
   |simp(disch:=first|omega|(simp only[AI];omega))only[AJ,↓AA,↓reduceIte,seval,f0,f3,f4,d4,a.ln,a.ix,a.l0,a.l1,m1.1.ln,m1.2.ln,Int.toNat_natCast]
   |(with_reducible (first|apply AD|apply AE))<;>(intro hc;(try simp only[AT]at hc);(try simp only[hc]);(try simp only[AR]at hc);try omega))
  refine Ai hI (K.length-(i+1)) (by omega) ⟨i+1,rfl,by omega,rfl,by simp(disch:=first|omega|(simp only[AI];omega))only[AJ,↓AA,↓reduceIte,seval,f0],by simp(disch:=first|omega|(simp only[AI];omega))only[AJ,↓AA,↓reduceIte,seval,f3];rfl,fun p hp=>?_⟩
  by_cases e:p=i
  ·rw[e];exact⟨by omega,by omega,hin⟩
  ·exact hall p (by omega)
 have d4:((j:Int)<((K.getD i default).e.AU.length:Int))=True:=eq_true (by omega)
 by_cases hx:20<((K.getD i default).e.AU.getD j default).fst.length
 ·have d5:((20:Int)<(((K.getD i default).e.AU.getD j default).fst.length:Int))=True:=eq_true (by omega)
  repeat' (first
   |refine St.h ?_
   |simp(disch:=first|omega|(simp only[AI];omega))only[AJ,↓AA,↓reduceIte,seval,f0,f3,f4,d4,d5,a.ln,a.ix,a.l0,a.l1,m1.1.ln,m1.2.ln,m1.2.ix,m1.2.l2,Int.toNat_natCast]
   |(with_reducible (first|apply AD|apply AE))<;>(intro hc;(try simp only[AT]at hc);(try simp only[hc]);(try simp only[AR]at hc);try omega))
  subst hQ
  exact⟨_,rfl,fun hr=>(by cases hr),rfl⟩
 have d5:((20:Int)<(((K.getD i default).e.AU.getD j default).fst.length:Int))=False:=eq_false (by omega)
 by_cases hy:20<((K.getD i default).e.AU.getD j default).DT.length
 ·have d6:((20:Int)<(((K.getD i default).e.AU.getD j default).DT.length:Int))=True:=eq_true (by omega)
  repeat' (first
   |refine St.h ?_
   |simp(disch:=first|omega|(simp only[AI];omega))only[AJ,↓AA,↓reduceIte,seval,f0,f3,f4,d4,d5,d6,a.ln,a.ix,a.l0,a.l1,m1.1.ln,m1.2.ln,m1.2.ix,m1.2.l2,m1.2.l3,Int.toNat_natCast]
   |(with_reducible (first|apply AD|apply AE))<;>(intro hc;(try simp only[AT]at hc);(try simp only[hc]);(try simp only[AR]at hc);try omega))
  subst hQ
  exact⟨_,rfl,fun hr=>(by cases hr),rfl⟩
 have d6:((20:Int)<(((K.getD i default).e.AU.getD j default).DT.length:Int))=False:=eq_false (by omega)
 repeat' (first
  |refine St.h ?_
  |simp(disch:=first|omega|(simp only[AI];omega))only[AJ,↓AA,↓reduceIte,seval,f0,f3,f4,d4,d5,d6,a.ln,a.ix,a.l0,a.l1,m1.1.ln,m1.2.ln,m1.2.ix,m1.2.l2,m1.2.l3,Int.toNat_natCast]
  |(with_reducible (first|apply AD|apply AE))<;>(intro hc;(try simp only[AT]at hc);(try simp only[hc]);(try simp only[AR]at hc);try omega))
 refine Ai hI2 ((K.getD i default).e.AU.length-(j+1)) (by omega) ⟨j+1,rfl,by omega,rfl,by simp(disch:=first|omega|(simp only[AI];omega))only[AJ,↓AA,↓reduceIte,seval,f0],by simp(disch:=first|omega|(simp only[AI];omega))only[AJ,↓AA,↓reduceIte,seval,f3],by simp(disch:=first|omega|(simp only[AI];omega))only[AJ,↓AA,↓reduceIte,seval,f4];rfl,fun p hp=>?_⟩
 by_cases e:p=j
 ·rw[e];exact⟨by omega,by omega⟩
 ·exact hin p (by omega)
end Go.Proofs.Ytobfgempjekjpaa
set_option maxRecDepth 100000
set_option maxHeartbeats 8000000
namespace Go.Proofs.Ytobfgempjekjpaa
open Go Go.Ev
theorem LW.own {h:H} {v:V} {K:List Ek} {i:Nat} (a:LW h v K) (hi:i<K.length):∀ q,Af (K.getD i default).cv q->B.val q<B.val h.next:=by
 have:=(a.at hi).2
 rcases this with⟨e,_⟩|⟨id,g,off,fin,cap,e,_,hl,_⟩
 ·rintro q ⟨_,_,_,_,_,e2⟩;rw[e]at e2;cases e2
 ·rintro q ⟨_,_,_,_,_,e2⟩;rw[e]at e2;cases e2;exact hl
end Go.Proofs.Ytobfgempjekjpaa
namespace Go.Proofs.Ytobfgempjekjpaa
open Go Go.Ev Go.RowKit Go.WideShapes Go.ChangeShapes Go.ChangeAt Go.Deep
/--an edit's type -/
structure EdF (P:Program) (t:TypeId) (fs:Array Field):Prop where
 ut:P.underlying t=some (.struct fs)
 sz:P.cellsOf t=4
 f0:∃ f,fs.toList[0]? =some f/\f.offset=0/\P.cellsOf f.type=1/\∃ e,P.underlying f.type=some (.slice e)/\P.cellsOf e=1/\P.underlying e=some (.int .i64)
 f1:∃ f,fs.toList[1]? =some f/\f.offset=1/\P.cellsOf f.type=1/\∃ e gs,P.underlying f.type=some (.slice e)/\Uc P e gs [.i .i64,.i .i64,.s,.s,.i .i64]
 f2:∃ f,fs.toList[2]? =some f/\f.offset=2/\P.cellsOf f.type=1/\P.underlying f.type=some (.int .i64)
 f3:∃ f,fs.toList[3]? =some f/\f.offset=3/\P.cellsOf f.type=1/\P.underlying f.type=some (.int .i64)
section
variable {H':Type} {enc:TypeId×Value->H'} {P:Program} {W:World}
theorem T8 {t:TypeId} {fs:Array Field} {fuel:Nat} {cs:List Value} {x:DataW H'×List MemPlace} (ut:P.underlying t=some (.struct fs)) (hd:DataW.trod enc P W 0 (fun _=>true) true fuel t cs=some x):
 cs.length=P.cellsOf t/\∀ (i:Nat) f,fs.toList[i]? =some f->∃ n y,DataW.trod enc P W 0 (fun _=>true) true n f.type ((cs.drop f.offset).take (P.cellsOf f.type))=some y:=by
 cases fuel with
 |zero=>simp[DataW.trod]at hd
 |succ n=>
  unfold DataW.trod at hd
  rw[ut]at hd
  simp only at hd
  split at hd
  ·rename_i hl
   refine⟨hl,fun i f hf=>?_⟩
   rw[Option.map_eq_some_iff]at hd
   obtain⟨xs,hx,_⟩:=hd
   have:=mapM_some_get hx i f hf
   have hlen:=mapM_some_length hx
   have hi:i<xs.length:=by rw[hlen];exact(List.getElem?_eq_some_iff.1 hf).1
   exact⟨n,xs[i],by rw[this];simp⟩
  ·cases hd
end
end Go.Proofs.Ytobfgempjekjpaa
set_option maxRecDepth 1000000
namespace Go.Proofs.Ytobfgempjekjpaa
open Go Go.Ev
abbrev xq:CC:=(CC.seq (CC.region [(wB 2 (AB (O.c (V.s 0 0)))),(wB 3 (AB (oN 10)))]) CC.ret)
abbrev ACH:CC:=(CC.cond (tm 11) xq CC.skip)
abbrev um:CC:=(CC.seq (CC.region [(wB 9 (Aa 4 (tm 1))),(wB 10 (AY 31 [(tm 9)])),(wB 11 (CS (tm 10)))]) ACH)
abbrev zV:CC:=(CC.cond (tm 21) CC.skip (CC.exit 0))
abbrev pB:CC:=(CC.region [(wB 24 (AB (tm 6))),(wB 25 (AY 33 [(tm 24)])),(wB 26 (AY 32 [(tm 4),(tm 25)]))])
abbrev xo:CC:=(CC.seq (CC.region [(wB 22 (AG 1 (tm 18) (tm 20))),(wB 23 (AK (tm 22))),(wB 6 (AB (tm 23)))]) pB)
abbrev ACd:CC:=(CC.block 1 xo)
abbrev tL:CC:=(CC.region [(wB 27 (AM BE (tm 20) (oN 1))),(wB 20 (AB (tm 27)))])
abbrev tZ:CC:=(CC.seq ACd tL)
abbrev oR:CC:=(CC.seq zV tZ)
abbrev xE:CC:=(CC.seq (CC.region [(wB 21 (AM Bg (tm 20) (tm 19)))]) oR)
abbrev aJ:CC:=(CC.loop xE)
abbrev jA:CC:=(CC.block 0 aJ)
abbrev jM:CC:=(CC.seq (CC.region [(wB 17 (AF 0 (tm 1))),(wB 18 (AK (tm 17))),(wB 19 (BN (tm 18))),(wB 20 (AB (oN 0)))]) jA)
abbrev Zu:CC:=(CC.cond (tm 37) CC.skip (CC.exit 2))
abbrev dU:CC:=(CC.region [(wB 40 (Aa 5 (tm 8))),(wB 41 (AY 34 [(tm 40)])),(wB 42 (AY 32 [(tm 4),(tm 41)]))])
abbrev kE:CC:=(CC.seq (CC.region [(wB 38 (AG 5 (tm 34) (tm 36))),(wB 39 (Aa 5 (tm 38))),(wB 8 (Bj 57 [(V.i IntKind.i64 (Int.ofNat 0)),(V.i IntKind.i64 (Int.ofNat 0)),(V.s 0 0),(V.s 0 0),(V.i IntKind.i64 (Int.ofNat 0))])),(CO.mk G.none D.none Bool.true (CR.mk (Ad 5 (tm 8) (tm 39))))]) dU)
abbrev l9:CC:=(CC.block 3 kE)
abbrev iD:CC:=(CC.region [(wB 43 (AM BE (tm 36) (oN 1))),(wB 36 (AB (tm 43)))])
abbrev fZ:CC:=(CC.seq l9 iD)
abbrev mC:CC:=(CC.seq Zu fZ)
abbrev zF:CC:=(CC.seq (CC.region [(wB 37 (AM Bg (tm 36) (tm 35)))]) mC)
abbrev cG:CC:=(CC.loop zF)
abbrev lM:CC:=(CC.block 2 cG)
abbrev kH:CC:=(CC.seq (CC.region [(wB 33 (AF 1 (tm 1))),(wB 34 (AK (tm 33))),(wB 35 (BN (tm 34))),(wB 36 (AB (oN 0)))]) lM)
abbrev mZ:CC:=(CC.seq (CC.region [(wB 52 (AY 36 [(tm 4)])),(wB 53 (AY 35 [(tm 52)])),(wB 2 (AB (tm 53))),(wB 3 (AB (oN 0)))]) CC.ret)
abbrev mV:CC:=(CC.seq (CC.region [(wB 48 (AF 3 (tm 1))),(wB 49 (AK (tm 48))),(wB 50 (AY 33 [(tm 49)])),(wB 51 (AY 32 [(tm 4),(tm 50)]))]) mZ)
abbrev k9:CC:=(CC.seq (CC.region [(wB 44 (AF 2 (tm 1))),(wB 45 (AK (tm 44))),(wB 46 (AY 33 [(tm 45)])),(wB 47 (AY 32 [(tm 4),(tm 46)]))]) mV)
abbrev aU:CC:=(CC.seq kH k9)
abbrev cV:CC:=(CC.seq (CC.region [(wB 28 (AF 1 (tm 1))),(wB 29 (AK (tm 28))),(wB 30 (BN (tm 29))),(wB 31 (AY 33 [(tm 30)])),(wB 32 (AY 32 [(tm 4),(tm 31)]))]) aU)
abbrev hX:CC:=(CC.seq jM cV)
abbrev ZA:CC:=(CC.seq (CC.region [(wB 12 (AF 0 (tm 1))),(wB 13 (AK (tm 12))),(wB 14 (BN (tm 13))),(wB 15 (AY 33 [(tm 14)])),(wB 16 (AY 32 [(tm 4),(tm 15)]))]) hX)
abbrev lC:CC:=(CC.seq (CC.region [(wB 4 (Bj 64 [V.p0,V.l0]))]) ZA)
abbrev iY:CC:=(CC.seq um lC)
abbrev P1:CC:=(CC.seq (CC.region [(wB 1 (Cd 35 (tm 0))),(wB 2 (AB (O.c (V.s 0 0)))),(wB 3 (AB (oN 0)))]) iY)
theorem c10:AZ Try.prog 10=⟨54,P1,[(Rs.tmp (AX 2)),(Rs.tmp (AX 3))]⟩:=by kernel_rfl
abbrev su:CC:=(CC.cond (tm 22) (CC.exit 0) CC.skip)
abbrev ABU:CC:=(CC.seq (CC.region [(wB 23 (AB (tm 5))),(wB 24 (Aa 4 (tm 7))),(wB 25 (AY 18 [(tm 23),(tm 24)])),(wB 26 (AM H6 (tm 25) (oN 0))),(wB 22 (AB (tm 26)))]) su)
abbrev qp:CC:=(CC.cond (tm 19) (CC.exit 0) ABU)
abbrev yq:CC:=(CC.seq (CC.region [(wB 20 (AB (tm 9))),(wB 21 (CS (tm 20))),(wB 19 (AB (tm 21)))]) qp)
abbrev uC:CC:=(CC.block 2 yq)
abbrev rR:CC:=(CC.region [(wB 27 (AB (tm 6))),(wB 28 (AB (tm 8))),(wB 29 (AM BE (tm 27) (tm 28))),(wB 6 (AB (tm 29)))])
abbrev yo:CC:=(CC.seq uC rR)
abbrev ABy:CC:=(CC.seq (CC.region [(wB 12 (AB (tm 0))),(wB 13 (AB (tm 6))),(wB 14 (BV (tm 12) (some (tm 13)) none)),(wB 15 (AY 40 [(tm 14)])),(wB 11 (AB (tm 15))),(wB 16 (Am 0 (tm 11))),(wB 17 (Am 1 (tm 11))),(wB 18 (Am 2 (tm 11))),(wB 7 (Bj 35 [V.l0,V.l0,(V.i IntKind.i64 (Int.ofNat 0)),(V.i IntKind.i64 (Int.ofNat 0))])),(CO.mk G.none D.none Bool.true (CR.mk (Ad 4 (tm 7) (tm 16)))),(wB 8 (AB (tm 17))),(wB 9 (AB (tm 18)))]) yo)
abbrev wH:CC:=(CC.block 1 ABy)
abbrev oI:CC:=(CC.loop wH)
abbrev ACe:CC:=(CC.block 0 oI)
abbrev Yv:CC:=(CC.seq (CC.region [(wB 32 (AB (tm 5))),(wB 2 (AB (tm 32))),(wB 3 (AB (oN 0))),(wB 4 (AB (oN 10)))]) CC.ret)
abbrev gw:CC:=(CC.cond (tm 31) Yv CC.skip)
abbrev aw:CC:=(CC.seq (CC.region [(wB 30 (AB (tm 6))),(wB 31 (AM Cl (tm 30) (oN 0)))]) gw)
abbrev mB:CC:=(CC.seq (CC.region [(wB 33 (AB (tm 5))),(wB 34 (AB (tm 6))),(wB 2 (AB (tm 33))),(wB 3 (AB (tm 34))),(wB 4 (AB (oN 0)))]) CC.ret)
abbrev jd:CC:=(CC.seq aw mB)
abbrev ZG:CC:=(CC.seq ACe jd)
abbrev j7:CC:=(CC.seq CC.skip ZG)
abbrev dg:CC:=(CC.seq (CC.region [(wB 10 (AY 17 [])),(wB 5 (AB (tm 10))),(wB 6 (AB (oN 0)))]) j7)
abbrev b13:CC:=(CC.seq (CC.region [(wB 2 (AB (O.c V.p0))),(wB 3 (AB (oN 0))),(wB 4 (AB (oN 0)))]) dg)
theorem c13:AZ Try.prog 13=⟨35,b13,[(Rs.tmp (AX 2)),(Rs.tmp (AX 3)),(Rs.tmp (AX 4))]⟩:=by kernel_rfl
abbrev wk:CC:=(CC.seq (CC.Ax [(uB 3 (AF 0 (tm 1))),(uB 4 (AK (tm 3))),(uB 5 (AY 33 [(tm 4)])),(uB 6 (AF 1 (tm 1))),(uB 7 (AK (tm 6))),(uB 8 (AY 33 [(tm 7)])),(uB 9 (CQ (tm 5) (tm 8))),(uB 10 (AF 2 (tm 1))),(uB 11 (AK (tm 10))),(uB 12 (AY 52 [(tm 11)])),(uB 13 (CQ (tm 9) (tm 12))),(uB 14 (AF 3 (tm 1))),(uB 15 (AK (tm 14))),(uB 16 (AY 52 [(tm 15)])),(uB 17 (CQ (tm 13) (tm 16))),(uB 18 (AF 4 (tm 1))),(uB 19 (AK (tm 18))),(wB 20 (AY 33 [(tm 19)])),(uB 21 (CQ (tm 17) (tm 20))),(uB 2 (AB (tm 21)))] (some ([2,5,9,13,17],[(1,[0]),(4,[0,3]),(8,[0,3,6]),(12,[0,3,6,10]),(16,[0,3,6,10,14])]))) CC.ret)
abbrev b34:CC:=(CC.seq (CC.region [(wB 1 (Cd 57 (tm 0))),(wB 2 (AB (O.c (V.s 0 0))))]) wk)
theorem c34:AZ Try.prog 34=⟨22,b34,[(Rs.tmp (AX 2))]⟩:=by kernel_rfl
abbrev sG:CC:=(CC.seq (CC.region [(wB 19 (De [V.l0,V.l0,(V.i IntKind.i64 (Int.ofNat 0)),(V.i IntKind.i64 (Int.ofNat 0))] [])),(CO.mk G.none D.none Bool.true (CR.mk (Ad 4 (tm 2) (tm 19)))),(wB 3 (AB (oN 0))),(wB 4 (AB (O.c (V.b Bool.false))))]) CC.ret)
abbrev ABS:CC:=(CC.cond (tm 18) sG CC.skip)
abbrev xY:CC:=(CC.seq (CC.region [(wB 17 (AB (tm 7))),(wB 18 (AM H6 (tm 17) (oN 0)))]) ABS)
abbrev xI:CC:=(CC.seq (CC.region [(wB 32 (De [V.l0,V.l0,(V.i IntKind.i64 (Int.ofNat 0)),(V.i IntKind.i64 (Int.ofNat 0))] [])),(CO.mk G.none D.none Bool.true (CR.mk (Ad 4 (tm 2) (tm 32)))),(wB 3 (AB (oN 0))),(wB 4 (AB (O.c (V.b Bool.false))))]) CC.ret)
abbrev AAa:CC:=(CC.cond (tm 31) xI CC.skip)
abbrev vv:CC:=(CC.seq (CC.region [(wB 27 (AB (tm 9))),(wB 28 (AB (tm 0))),(wB 29 (AB (tm 6))),(wB 30 (BV (tm 28) none (some (tm 29)))),(wB 31 (CZ (fun a b c d=>!F6 a b c d) (tm 27) (tm 30)))]) AAa)
abbrev zO:CC:=(CC.seq (CC.region [(wB 23 (Aa 4 (tm 8))),(wB 24 (AY 10 [(tm 23)])),(wB 22 (AB (tm 24))),(wB 25 (Am 0 (tm 22))),(wB 26 (Am 1 (tm 22))),(wB 9 (AB (tm 25))),(wB 10 (AB (tm 26)))]) vv)
abbrev vK:CC:=(CC.seq (CC.region [(wB 33 (Aa 4 (tm 8))),(wB 34 (AB (tm 6))),(CO.mk G.none D.none Bool.true (CR.mk (Ad 4 (tm 2) (tm 33)))),(wB 3 (AB (tm 34))),(wB 4 (AB (O.c (V.b Bool.true))))]) CC.ret)
abbrev ACG:CC:=(CC.seq zO vK)
abbrev yR:CC:=(CC.seq (CC.region [(wB 20 (AB (tm 5))),(wB 21 (AY 56 [(tm 20)])),(wB 8 (Bj 35 [V.l0,V.l0,(V.i IntKind.i64 (Int.ofNat 0)),(V.i IntKind.i64 (Int.ofNat 0))])),(CO.mk G.none D.none Bool.true (CR.mk (Ad 4 (tm 8) (tm 21))))]) ACG)
abbrev jC:CC:=(CC.seq xY yR)
abbrev dc:CC:=(CC.seq (CC.region [(wB 12 (AB (tm 0))),(wB 13 (AY 55 [(tm 12)])),(wB 11 (AB (tm 13))),(wB 14 (Am 0 (tm 11))),(wB 15 (Am 1 (tm 11))),(wB 16 (Am 2 (tm 11))),(wB 5 (AB (tm 14))),(wB 6 (AB (tm 15))),(wB 7 (AB (tm 16)))]) jC)
abbrev b40:CC:=(CC.seq (CC.region [(wB 2 (Bj 35 [V.l0,V.l0,(V.i IntKind.i64 (Int.ofNat 0)),(V.i IntKind.i64 (Int.ofNat 0))])),(wB 3 (AB (oN 0))),(wB 4 (AB (O.c (V.b Bool.false))))]) dc)
theorem RR:AZ Try.prog 40=⟨35,b40,[(Rs.Jm (AX 2) 4),(Rs.tmp (AX 3)),(Rs.tmp (AX 4))]⟩:=by kernel_rfl
abbrev ABB:CC:=(CC.cond (tm 9) CC.skip (CC.exit 0))
abbrev AB4:CC:=(CC.Ax [(uB 10 (AF 0 (tm 4))),(uB 11 (AK (tm 10))),(uB 12 (AY 70 [(tm 3)])),(uB 13 (A8 3 1 [(V.i IntKind.i64 (Int.ofNat 0))] [(Pt.mk 0 1 (tm 12))])),(wB 14 (BZ 3 1 (tm 11) (tm 13))),(uB 15 (AF 0 (tm 4))),(CO.mk G.none D.none Bool.true (CR.mk (Ad 1 (tm 15) (tm 14))))] (some ([2,3,4,6],[(1,[0,3,4])])))
abbrev p8:CC:=(CC.block 1 AB4)
abbrev tK:CC:=(CC.region [(wB 16 (AM BE (tm 8) (oN 1))),(wB 8 (AB (tm 16)))])
abbrev pA:CC:=(CC.seq p8 tK)
abbrev ABk:CC:=(CC.seq ABB pA)
abbrev ql:CC:=(CC.seq (CC.region [(wB 9 (AM Bg (tm 8) (tm 7)))]) ABk)
abbrev tA:CC:=(CC.loop ql)
abbrev zM:CC:=(CC.block 0 tA)
abbrev ACZ:CC:=(CC.seq (CC.region [(wB 7 (AY 69 [(tm 3)])),(wB 8 (AB (oN 0)))]) zM)
abbrev ABI:CC:=(CC.cond (tm 19) CC.skip (CC.exit 2))
abbrev dI:CC:=(CC.Ax [(uB 20 (AF 1 (tm 4))),(uB 21 (AK (tm 20))),(uB 22 (AY 70 [(tm 3)])),(uB 23 (AY 70 [(tm 3)])),(uB 24 (AY 71 [(tm 3)])),(uB 25 (AY 71 [(tm 3)])),(uB 26 (AY 70 [(tm 3)])),(uB 27 (De [(V.i IntKind.i64 (Int.ofNat 0)),(V.i IntKind.i64 (Int.ofNat 0)),(V.s 0 0),(V.s 0 0),(V.i IntKind.i64 (Int.ofNat 0))] [(Pt.mk 0 1 (tm 22)),(Pt.mk 1 1 (tm 23)),(Pt.mk 2 1 (tm 24)),(Pt.mk 3 1 (tm 25)),(Pt.mk 4 1 (tm 26))])),(uB 28 (A8 57 1 [(V.i IntKind.i64 (Int.ofNat 0)),(V.i IntKind.i64 (Int.ofNat 0)),(V.s 0 0),(V.s 0 0),(V.i IntKind.i64 (Int.ofNat 0))] [(Pt.mk 0 5 (tm 27))])),(wB 29 (BZ 57 5 (tm 21) (tm 28))),(uB 30 (AF 1 (tm 4))),(CO.mk G.none D.none Bool.true (CR.mk (Ad 1 (tm 30) (tm 29))))] (some ([2,3,4,5,6,8,9,11],[(1,[0,3,4,5,6,7,9])])))
abbrev jQ:CC:=(CC.block 3 dI)
abbrev aP:CC:=(CC.region [(wB 31 (AM BE (tm 18) (oN 1))),(wB 18 (AB (tm 31)))])
abbrev aQ:CC:=(CC.seq jQ aP)
abbrev jt:CC:=(CC.seq ABI aQ)
abbrev yw:CC:=(CC.seq (CC.region [(wB 19 (AM Bg (tm 18) (tm 17)))]) jt)
abbrev kO:CC:=(CC.loop yw)
abbrev ir:CC:=(CC.block 2 kO)
abbrev aF:CC:=(CC.seq (CC.region [(wB 17 (AY 69 [(tm 3)])),(wB 18 (AB (oN 0)))]) ir)
abbrev mr:CC:=(CC.seq (CC.region [(wB 36 (Aa 4 (tm 4))),(CO.mk G.none D.none Bool.true (CR.mk (Ad 4 (tm 2) (tm 36))))]) CC.ret)
abbrev hO:CC:=(CC.seq (CC.region [(wB 32 (AY 70 [(tm 3)])),(wB 33 (AY 70 [(tm 3)])),(wB 34 (AF 2 (tm 4))),(CO.mk G.none D.none Bool.true (CR.mk (Ad 1 (tm 34) (tm 32)))),(wB 35 (AF 3 (tm 4))),(CO.mk G.none D.none Bool.true (CR.mk (Ad 1 (tm 35) (tm 33))))]) mr)
abbrev lj:CC:=(CC.seq aF hO)
abbrev fU:CC:=(CC.seq ACZ lj)
abbrev lR:CC:=(CC.seq (CC.region [(wB 4 (Bj 35 [V.l0,V.l0,(V.i IntKind.i64 (Int.ofNat 0)),(V.i IntKind.i64 (Int.ofNat 0))]))]) fU)
abbrev gm:CC:=(CC.seq (CC.region [(wB 5 (AB (tm 0))),(wB 6 (De [(V.s 0 0)] [(Pt.mk 0 1 (tm 5))])),(wB 3 (Bj 107 [(V.s 0 0)])),(CO.mk G.none D.none Bool.true (CR.mk (Ad 1 (tm 3) (tm 6))))]) lR)
abbrev b56:CC:=(CC.seq (CC.region [(wB 2 (Bj 35 [V.l0,V.l0,(V.i IntKind.i64 (Int.ofNat 0)),(V.i IntKind.i64 (Int.ofNat 0))]))]) gm)
theorem c56:AZ Try.prog 56=⟨37,b56,[(Rs.Jm (AX 2) 4)]⟩:=by kernel_rfl
abbrev uY:CC:=(CC.seq (CC.region [(wB 3 (AB (tm 0))),(wB 4 (AY 70 [(tm 3)])),(wB 5 (Jp (tm 4) (oN 40))),(wB 2 (AB (tm 5)))]) CC.ret)
abbrev b69:CC:=(CC.seq (CC.region [(wB 2 (AB (oN 0)))]) uY)
theorem c69:AZ Try.prog 69=⟨6,b69,[(Rs.tmp (AX 2))]⟩:=by kernel_rfl
abbrev qE:CC:=(CC.seq (CC.region [(wB 24 (AB (tm 3))),(wB 2 (AB (tm 24)))]) CC.ret)
abbrev qo:CC:=(CC.seq (CC.region [(wB 15 (AB (tm 0))),(wB 16 (AB (tm 0))),(wB 17 (AO (tm 16))),(wB 18 (AF 0 (tm 17))),(wB 19 (AK (tm 18))),(wB 20 (AB (tm 4))),(wB 21 (BV (tm 19) (some (tm 20)) none)),(wB 22 (AO (tm 15))),(wB 23 (AF 0 (tm 22))),(CO.mk G.none D.none Bool.true (CR.mk (Ad 1 (tm 23) (tm 21))))]) qE)
abbrev ud:CC:=(CC.seq (CC.region [(wB 7 (AB (tm 0))),(wB 8 (AO (tm 7))),(wB 9 (AF 0 (tm 8))),(wB 10 (AK (tm 9))),(wB 11 (AY 68 [(tm 10)])),(wB 6 (AB (tm 11))),(wB 12 (Am 0 (tm 6))),(wB 13 (Am 1 (tm 6))),(wB 14 (Am 2 (tm 6))),(wB 3 (AB (tm 12))),(wB 4 (AB (tm 13))),(wB 5 (AB (tm 14)))]) qo)
abbrev b70:CC:=(CC.seq (CC.region [(wB 2 (AB (oN 0)))]) ud)
theorem c70:AZ Try.prog 70=⟨25,b70,[(Rs.tmp (AX 2))]⟩:=by kernel_rfl
abbrev yn:CC:=(CC.seq (CC.region [(wB 24 (AB (tm 3))),(wB 2 (AB (tm 24)))]) CC.ret)
abbrev sf:CC:=(CC.seq (CC.region [(wB 15 (AB (tm 0))),(wB 16 (AB (tm 0))),(wB 17 (AO (tm 16))),(wB 18 (AF 0 (tm 17))),(wB 19 (AK (tm 18))),(wB 20 (AB (tm 4))),(wB 21 (BV (tm 19) (some (tm 20)) none)),(wB 22 (AO (tm 15))),(wB 23 (AF 0 (tm 22))),(CO.mk G.none D.none Bool.true (CR.mk (Ad 1 (tm 23) (tm 21))))]) yn)
abbrev AAI:CC:=(CC.seq (CC.region [(wB 7 (AB (tm 0))),(wB 8 (AO (tm 7))),(wB 9 (AF 0 (tm 8))),(wB 10 (AK (tm 9))),(wB 11 (AY 80 [(tm 10)])),(wB 6 (AB (tm 11))),(wB 12 (Am 0 (tm 6))),(wB 13 (Am 1 (tm 6))),(wB 14 (Am 2 (tm 6))),(wB 3 (AB (tm 12))),(wB 4 (AB (tm 13))),(wB 5 (AB (tm 14)))]) sf)
abbrev b71:CC:=(CC.seq (CC.region [(wB 2 (AB (O.c (V.s 0 0))))]) AAI)
theorem c71:AZ Try.prog 71=⟨25,b71,[(Rs.tmp (AX 2))]⟩:=by kernel_rfl
end Go.Proofs.Ytobfgempjekjpaa
set_option maxRecDepth 1000000
namespace Go.Proofs.Ytobfgempjekjpaa
open Go Go.Ev
abbrev qB:CC:=(CC.seq (CC.region [(wB 17 (AB (tm 1))),(wB 18 (Bp (tm 17))),(wB 4 (AB (tm 18))),(wB 5 (AB (O.c V.x0)))]) CC.ret)
abbrev vH:CC:=(CC.seq (CC.region [(wB 8 (AB (tm 0))),(wB 9 (AB (tm 0))),(wB 10 (AO (tm 9))),(wB 11 (AF 1 (tm 10))),(wB 12 (AK (tm 11))),(wB 13 (AB (tm 1))),(wB 14 (Ey 5 (tm 12) (tm 13))),(wB 15 (AO (tm 8))),(wB 16 (AF 1 (tm 15))),(CO.mk G.none D.none Bool.true (CR.mk (Ad 1 (tm 16) (tm 14))))]) qB)
abbrev pW:CC:=(CC.seq (CC.region [(wB 6 (AB (tm 0))),(wB 7 (AY 51 [(tm 6)]))]) vH)
abbrev b32:CC:=(CC.seq (CC.region [(wB 4 (AB (oN 0))),(wB 5 (AB (O.c V.x0)))]) pW)
theorem c32:AZ Try.prog 32=⟨19,b32,[(Rs.tmp (AX 4)),(Rs.tmp (AX 5))]⟩:=by kernel_rfl
abbrev ABO:CC:=(CC.seq (CC.Ax [(uB 3 (AB (tm 0))),(uB 4 (AO (tm 3))),(uB 5 (AF 1 (tm 4))),(uB 6 (AK (tm 5))),(uB 7 (Ei (tm 6))),(uB 8 (AB (tm 0))),(uB 9 (AO (tm 8))),(uB 10 (AF 1 (tm 9))),(uB 11 (AK (tm 10))),(uB 12 (BN (tm 11))),(wB 13 (Ea 5 (tm 7) (tm 12))),(uB 2 (AB (tm 13)))] (some ([4,10],[(1,[0]),(3,[0]),(6,[0,5]),(8,[0,5])]))) CC.ret)
abbrev b36:CC:=(CC.seq (CC.region [(wB 2 (AB (O.c (V.s 0 0))))]) ABO)
theorem c36:AZ Try.prog 36=⟨14,b36,[(Rs.tmp (AX 2))]⟩:=by kernel_rfl
abbrev zg:CC:=(CC.region [(wB 7 (AB (tm 0))),(wB 8 (AB (tm 0))),(wB 9 (K8 (tm 8))),(wB 10 (AB (tm 9))),(wB 11 (Kq 64 2 (tm 10))),(wB 12 (AO (tm 7))),(wB 13 (AF 0 (tm 12))),(CO.mk G.none D.none Bool.true (CR.mk (Ad 1 (tm 13) (tm 11))))])
abbrev ou:CC:=(CC.cond (tm 19) CC.bad CC.skip)
abbrev zn:CC:=(CC.seq (CC.region [(wB 14 (AB (tm 0))),(wB 15 (AO (tm 14))),(wB 16 (AF 0 (tm 15))),(wB 17 (AK (tm 16))),(wB 18 (AB (tm 0))),(wB 19 (FY Bool.true (tm 17) (tm 18)))]) ou)
abbrev xu:CC:=(CC.cond (tm 6) zg zn)
abbrev b51:CC:=(CC.seq (CC.region [(wB 2 (AB (tm 0))),(wB 3 (AO (tm 2))),(wB 4 (AF 0 (tm 3))),(wB 5 (AK (tm 4))),(wB 6 (FY Bool.false (tm 5) (O.c V.p0)))]) xu)
theorem c51:AZ Try.prog 51=⟨20,b51,[]⟩:=by kernel_rfl
end Go.Proofs.Ytobfgempjekjpaa
set_option maxRecDepth 100000
set_option maxHeartbeats 8000000
namespace Go.Proofs.Ytobfgempjekjpaa
open Go Go.Ev
section
variable {h:H} {lo:Nat} {id:B} {U:B->Prop} {a:List UInt8}
theorem NM (s:Sb h lo 64 5 id U a):A3 Try.prog 51 [.p id 0 0 2] h fun y h'=>Sb h' lo 64 5 id U a/\AW U h h':=by
 obtain⟨⟨adr,w,o,ha,b,hw,hn⟩,hself,hlo⟩:=s
 refine Aw c51 (by intro hb;cases hb) (by simp) (by simp) fun Q hQ=>?_
 simp only[Ah,Nat.reduceAdd]
 have or:=o.own.row
 rcases ha with rfl|rfl
 ·repeat' (first
   |refine St.h ?_
   |simp(disch:=first|omega|(simp only[AI];omega))only[AJ,↓AA,↓reduceIte,seval,or.l1,PK,Og,Ng,KR,Ow,iB,dk,o.pu,o.up]
   |(with_reducible (first|apply AD|apply AE))<;>(intro hc;(try simp only[AT]at hc);(try simp only[hc]);(try simp only[AR]at hc);try omega))
  refine ST.Vq (y:=.p id 0 0 2) o rfl rfl (by omega) (by omega) fun h' o' s'=>?_
  repeat' (first
   |refine St.h ?_
   |simp(disch:=first|omega|(simp only[AI];omega))only[AJ,↓AA,↓reduceIte,seval]
   |(with_reducible (first|apply AD|apply AE))<;>(intro hc;(try simp only[AT]at hc);(try simp only[hc]);(try simp only[AR]at hc);try omega))
  subst hQ
  exact⟨⟨⟨.p id 0 0 2,w,o',.inr rfl,b.stay s' (fun i hi e=>hn (by rw[<-e];exact hi)),hw,hn⟩,hself,fun i hi=>⟨(hlo i hi).1,Nat.lt_of_lt_of_le (hlo i hi).2 s'.next⟩⟩,s'.mono fun i _ hi=>by rw[hi];exact hself⟩
 ·repeat' (first
   |refine St.h ?_
   |simp(disch:=first|omega|(simp only[AI];omega))only[AJ,↓AA,↓reduceIte,seval,or.l1,PK,Og,Ng,KR,Ow]
   |(with_reducible (first|apply AD|apply AE))<;>(intro hc;(try simp only[AT]at hc);(try simp only[hc]);(try simp only[AR]at hc);try omega))
  subst hQ
  exact⟨⟨⟨.p id 0 0 2,w,o,.inr rfl,b,hw,hn⟩,hself,hlo⟩,AW.refl _ _⟩
theorem Wm {h h1 h2 h3:H} {w w' adr:V} {c:List UInt8} (hself:U id) (hlo:∀ i,U i->lo<=B.val i/\B.val i<B.val h1.next) (hw:∀ i,Af w i->U i) (hn:¬Af w id) (hidlt:B.val id<B.val h1.next)
 (ha:adr=.p0\/adr=.p id 0 0 2) (st1:AW U h h1) (b2:FU h2 5 1 w' ((a++c).map bv)) (st2:AW (Af w) h1 h2) (hw2:∀ i,Af w' i->Af w i\/B.val h1.next<=B.val i) (o3:FT h3 id 64 [adr,w']) (st3:AW (fun i=>i=id) h2 h3):
 ∃ U',Sb h3 lo 64 5 id U' (a++c)/\AW U h h3/\∀ i,U' i->U i\/B.val h.next<=B.val i:=by
 have hn2:¬Af w' id:=fun e=>by
  rcases hw2 _ e with h7|h7
  ·exact hn h7
  ·omega
 have hlo0:=(hlo _ hself).1
 refine⟨fun i=>U i\/Af w' i,⟨⟨adr,w',o3,ha,b2.stay st3 (fun i hi e=>hn2 (by rw[<-e];exact hi)),fun i hi=>.inr hi,hn2⟩,.inl hself,?_⟩,?_,?_⟩
 ·have n2:=st2.next
  have n3:=st3.next
  rintro i (hi|hi)
  ·have:=hlo i hi;omega
  ·have h8:=b2.own hi
   rcases hw2 _ hi with h7|h7
   ·have:=hlo i (hw i h7);omega
   ·omega
 ·exact(st1.trans (st2.mono fun i _ hi=>hw i hi)).trans (st3.mono fun i _ hi=>by rw[hi];exact hself)
 ·have n1:=st1.next
  rintro i (hi|hi)
  ·exact .inl hi
  ·rcases hw2 _ hi with h7|h7
   ·exact .inl (hw i h7)
   ·exact .inr (by omega)
theorem Cn {c:List UInt8} (s:Sb h lo 64 5 id U a) (hl:a.length+c.length<=1048576) (hf:B.val h.floor<=B.val h.next):A3 Try.prog 32 [.p id 0 0 2,sv c] h fun y h'=>∃ U',Sb h' lo 64 5 id U' (a++c)/\AW U h h'/\∀ i,U' i->U i\/B.val h.next<=B.val i:=by
 refine Aw c32 (by intro hb;cases hb) (by simp) (by simp) fun Q hQ=>?_
 simp only[Ah,Nat.reduceAdd]
 repeat' (first
  |refine St.h ?_
  |simp(disch:=first|omega|(simp only[AI];omega))only[AJ,↓AA,↓reduceIte,seval]
  |(with_reducible (first|apply AD|apply AE))<;>(intro hc;(try simp only[AT]at hc);(try simp only[hc]);(try simp only[AR]at hc);try omega))
 refine CL.mk (NM s) ?_
 rintro _ h1 ⟨⟨⟨adr,w,o,ha,b,hw,hn⟩,hself,hlo⟩,st1⟩
 have or:=o.own.row
 repeat' (first
  |refine St.h ?_
  |simp(disch:=first|omega|(simp only[AI];omega))only[AJ,↓AA,↓reduceIte,seval,or.l1]
  |(with_reducible (first|apply AD|apply AE))<;>(intro hc;(try simp only[AT]at hc);(try simp only[hc]);(try simp only[AR]at hc);try omega))
 refine AS.buf b (st1.fl hf) hl fun w' h2 b2 st2 hw2 tp=>?_
 have o2:=o.stay st2 hn
 obtain⟨c1,c2,_⟩:=Rz b2
 repeat' (first
  |refine St.h ?_
  |simp(disch:=first|omega|(simp only[AI];omega))only[AJ,↓AA,↓reduceIte,seval]
  |(with_reducible (first|apply AD|apply AE))<;>(intro hc;(try simp only[AT]at hc);(try simp only[hc]);(try simp only[AR]at hc);try omega))
 refine ST.Vq o2 c1 c2 (by omega) (by omega) fun h3 o3 st3=>?_
 repeat' (first
  |refine St.h ?_
  |simp(disch:=first|omega|(simp only[AI];omega))only[AJ,↓AA,↓reduceIte,seval]
  |(with_reducible (first|apply AD|apply AE))<;>(intro hc;(try simp only[AT]at hc);(try simp only[hc]);(try simp only[AR]at hc);try omega))
 subst hQ
 exact Wm hself hlo hw hn o.lt ha st1 b2 st2 hw2 o3 st3
theorem RY (s:Sb h lo 64 5 id U a) (hl:a.length<=1048576):A3 Try.prog 36 [.p id 0 0 2] h fun y h'=>y=sv a/\AW U h h':=by
 refine Aw c36 (by intro hb;cases hb) (by simp) (by simp) fun Q hQ=>?_
 simp only[Ah,Nat.reduceAdd]
 obtain⟨⟨adr,w,o,ha,b,hw,hn⟩,hself,hlo⟩:=s
 have or:=o.own.row
 have hln:=fun g N=>b.DT.ln (P:=Try.prog) (h:=g) (N:=N)
 rw[List.length_map]at hln
 obtain⟨pv,hpv1,hpv2⟩:∃ pv:V,(∀ g N,H1 Try.prog Vu w g N=N.go Try.prog pv g)/\∀ k:V->Bool,(vL w (fun _=>k .p0) fun id g off len fin _=>k (.p id g off fin))=k pv:=by
  rcases b with⟨rfl,_⟩|⟨i,g,n,Ap,rfl,b1,_⟩
  ·exact⟨.p0,fun g N=>Ak fun k=>rfl,fun k=>rfl⟩
  ·refine⟨.p i g 0 _,fun g N=>Ak fun k=>?_,fun k=>rfl⟩
   have:Nat.ble 1 n=true:=by rw[Nat.ble_eq];exact b1
   show(As (Nat.ble 1 n) fun _=>k (.p i _ 0 _))=_
   rw[this,AH]
 repeat' (first
  |refine St.h ?_
  |simp(disch:=first|omega|(simp only[AI];omega))only[AJ,↓AA,↓reduceIte,seval,or.l1,UU,hpv1,hln,QF]
  |(with_reducible (first|apply AD|apply AE))<;>(intro hc;(try simp only[AT]at hc);(try simp only[hc]);(try simp only[AR]at hc);try omega))
 obtain⟨h',e',st'⟩:=X9 b hl (fun _ _ _ _=>false) F.zero (.c pv) (.c (.i .i64 (a.length:Int))) hpv2 rfl
 refine US.of (v:=sv a) (h':=h') (fun k=>?_) ?_
 ·have:=e' k
  simp only[Ea,AV]at this
  exact this
 repeat' (first
  |refine St.h ?_
  |simp(disch:=first|omega|(simp only[AI];omega))only[AJ,↓AA,↓reduceIte,seval]
  |(with_reducible (first|apply AD|apply AE))<;>(intro hc;(try simp only[AT]at hc);(try simp only[hc]);(try simp only[AR]at hc);try omega))
 subst hQ
 exact⟨rfl,st'.mono fun i _ hi=>hw i hi⟩
end
end Go.Proofs.Ytobfgempjekjpaa
set_option maxRecDepth 1000000
namespace Go.Proofs.Ytobfgempjekjpaa
open Go Go.Ev
abbrev zY:CC:=(CC.cond (tm 9) CC.skip (CC.exit 0))
abbrev yZ:CC:=(CC.region [(wB 18 (AB (tm 4))),(wB 19 (AB (tm 3))),(wB 20 (AM BE (tm 18) (tm 19))),(wB 21 (Gp (tm 20) (O.c (V.i IntKind.u32 (Int.ofNat 65521))))),(wB 4 (AB (tm 21)))])
abbrev sP:CC:=(CC.seq (CC.region [(wB 11 (AB (tm 3))),(wB 12 (AB (tm 0))),(wB 13 (AB (tm 5))),(wB 14 (DU (tm 12) (tm 13))),(wB 15 (CB IntKind.u32 (tm 14))),(wB 16 (AM BE (tm 11) (tm 15))),(wB 17 (Gp (tm 16) (O.c (V.i IntKind.u32 (Int.ofNat 65521))))),(wB 3 (AB (tm 17)))]) yZ)
abbrev vY:CC:=(CC.seq (CC.region [(wB 10 (AB (tm 8))),(wB 5 (AB (tm 10)))]) sP)
abbrev zw:CC:=(CC.block 1 vY)
abbrev ABd:CC:=(CC.region [(wB 22 (AM BE (tm 8) (oN 1))),(wB 8 (AB (tm 22)))])
abbrev ABc:CC:=(CC.seq zw ABd)
abbrev wP:CC:=(CC.seq zY ABc)
abbrev zb:CC:=(CC.seq (CC.region [(wB 9 (AM Bg (tm 8) (tm 7)))]) wP)
abbrev zS:CC:=(CC.loop zb)
abbrev rC:CC:=(CC.block 0 zS)
abbrev Z7:CC:=(CC.seq (CC.region [(wB 6 (AB (tm 0))),(wB 7 (Bp (tm 6))),(wB 8 (AB (oN 0)))]) rC)
abbrev eh:CC:=(CC.seq (CC.region [(wB 23 (AB (tm 4))),(wB 24 (B0 K2 (tm 23) (O.c (V.i IntKind.u64 (Int.ofNat 16))))),(wB 25 (AB (tm 3))),(wB 26 (AM XI (tm 24) (tm 25))),(wB 2 (AB (tm 26)))]) CC.ret)
abbrev lf:CC:=(CC.seq Z7 eh)
abbrev dA:CC:=(CC.seq (CC.region [(wB 3 (AB (O.c (V.i IntKind.u32 (Int.ofNat 1))))),(wB 4 (AB (O.c (V.i IntKind.u32 (Int.ofNat 0)))))]) lf)
abbrev b67:CC:=(CC.seq (CC.region [(wB 2 (AB (O.c (V.i IntKind.u32 (Int.ofNat 0)))))]) dA)
theorem c67:AZ Try.prog 67=⟨27,b67,[(Rs.tmp (AX 2))]⟩:=by kernel_rfl
abbrev AAg:CC:=(CC.seq (CC.region [(wB 6 (AB (tm 3))),(wB 7 (B0 JO (tm 6) (O.c (V.i IntKind.u64 (Int.ofNat 24))))),(wB 8 (CB IntKind.u8 (tm 7))),(wB 9 (AB (tm 3))),(wB 10 (B0 JO (tm 9) (O.c (V.i IntKind.u64 (Int.ofNat 16))))),(wB 11 (CB IntKind.u8 (tm 10))),(wB 12 (AB (tm 3))),(wB 13 (B0 JO (tm 12) (O.c (V.i IntKind.u64 (Int.ofNat 8))))),(wB 14 (CB IntKind.u8 (tm 13))),(wB 15 (AB (tm 3))),(wB 16 (CB IntKind.u8 (tm 15))),(wB 17 (A8 5 4 [(V.i IntKind.u8 (Int.ofNat 0)),(V.i IntKind.u8 (Int.ofNat 0)),(V.i IntKind.u8 (Int.ofNat 0)),(V.i IntKind.u8 (Int.ofNat 0))] [(Pt.mk 0 1 (tm 8)),(Pt.mk 1 1 (tm 11)),(Pt.mk 2 1 (tm 14)),(Pt.mk 3 1 (tm 16))])),(wB 18 (Hi (tm 17))),(wB 2 (AB (tm 18)))]) CC.ret)
abbrev tQ:CC:=(CC.seq (CC.region [(wB 4 (AB (tm 0))),(wB 5 (AY 67 [(tm 4)])),(wB 3 (AB (tm 5)))]) AAg)
abbrev b53:CC:=(CC.seq (CC.region [(wB 2 (AB (O.c (V.s 0 0))))]) tQ)
theorem c53:AZ Try.prog 53=⟨19,b53,[(Rs.tmp (AX 2))]⟩:=by kernel_rfl
abbrev ABo:CC:=(CC.seq (CC.region [(wB 3 (AB (tm 0))),(wB 4 (Bp (tm 3))),(wB 5 (AY 33 [(tm 4)])),(wB 6 (AB (tm 0))),(wB 7 (AY 53 [(tm 6)])),(wB 8 (CQ (tm 5) (tm 7))),(wB 9 (AB (tm 0))),(wB 10 (CQ (tm 8) (tm 9))),(wB 2 (AB (tm 10)))]) CC.ret)
abbrev b35:CC:=(CC.seq (CC.region [(wB 2 (AB (O.c (V.s 0 0))))]) ABo)
theorem c35:AZ Try.prog 35=⟨11,b35,[(Rs.tmp (AX 2))]⟩:=by kernel_rfl
abbrev pZ:CC:=(CC.seq (CC.region [(wB 2 (AB (O.c (V.s 0 0)))),(wB 3 (AB (oN 0))),(wB 4 (AB (oN 12)))]) CC.ret)
abbrev AB6:CC:=(CC.seq (CC.region [(wB 2 (AB (O.c (V.s 0 0)))),(wB 3 (AB (oN 0))),(wB 4 (AB (oN 13)))]) CC.ret)
abbrev rq:CC:=(CC.cond (tm 20) pZ AB6)
abbrev sJ:CC:=(CC.seq (CC.region [(wB 21 (AM Cl (tm 17) (oN 12))),(wB 20 (AB (tm 21)))]) rq)
abbrev oh:CC:=(CC.cond (tm 18) CC.skip sJ)
abbrev yy:CC:=(CC.seq (CC.region [(wB 19 (AM Cl (tm 17) (oN 0))),(wB 18 (AB (tm 19)))]) oh)
abbrev yL:CC:=(CC.block 0 yy)
abbrev rD:CC:=(CC.seq (CC.region [(wB 17 (AB (tm 7)))]) yL)
abbrev oQ:CC:=(CC.seq (CC.region [(wB 2 (AB (O.c (V.s 0 0)))),(wB 3 (AB (oN 0))),(wB 4 (AB (oN 12)))]) CC.ret)
abbrev vZ:CC:=(CC.cond (tm 29) oQ CC.skip)
abbrev ba:CC:=(CC.seq (CC.region [(wB 25 (AB (tm 5))),(wB 26 (AB (tm 8))),(wB 27 (Bp (tm 26))),(wB 28 (AM Bi (tm 27) (oN 4))),(wB 29 (AM Cs (tm 25) (tm 28)))]) vZ)
abbrev gI:CC:=(CC.seq (CC.region [(wB 2 (AB (O.c (V.s 0 0)))),(wB 3 (AB (oN 0))),(wB 4 (AB (oN 13)))]) CC.ret)
abbrev bt:CC:=(CC.cond (tm 39) gI CC.skip)
abbrev mU:CC:=(CC.seq (CC.region [(wB 36 (AB (tm 9))),(wB 37 (AB (tm 10))),(wB 38 (AY 53 [(tm 37)])),(wB 39 (CZ (fun a b c d=>!F6 a b c d) (tm 36) (tm 38)))]) bt)
abbrev Zo:CC:=(CC.seq (CC.region [(wB 40 (AB (tm 10))),(wB 41 (AB (tm 6))),(wB 42 (AM BE (tm 41) (oN 4))),(wB 43 (AB (tm 5))),(wB 44 (AM BE (tm 42) (tm 43))),(wB 2 (AB (tm 40))),(wB 3 (AB (tm 44))),(wB 4 (AB (oN 0)))]) CC.ret)
abbrev dJ:CC:=(CC.seq mU Zo)
abbrev je:CC:=(CC.seq (CC.Ax [(uB 30 (AB (tm 8))),(uB 31 (BV (tm 30) none (some (oN 4)))),(uB 32 (AB (tm 8))),(uB 33 (AB (tm 5))),(uB 34 (AM BE (oN 4) (tm 33))),(uB 35 (BV (tm 32) (some (oN 4)) (some (tm 34)))),(uB 9 (AB (tm 31))),(uB 10 (AB (tm 35)))] none) dJ)
abbrev nS:CC:=(CC.seq ba je)
abbrev eW:CC:=(CC.seq (CC.region [(wB 22 (AB (tm 0))),(wB 23 (AB (tm 6))),(wB 24 (BV (tm 22) (some (tm 23)) none)),(wB 8 (AB (tm 24)))]) nS)
abbrev bV:CC:=(CC.seq rD eW)
abbrev kP:CC:=(CC.seq (CC.region [(wB 12 (AB (tm 0))),(wB 13 (AY 68 [(tm 12)])),(wB 11 (AB (tm 13))),(wB 14 (Am 0 (tm 11))),(wB 15 (Am 1 (tm 11))),(wB 16 (Am 2 (tm 11))),(wB 5 (AB (tm 14))),(wB 6 (AB (tm 15))),(wB 7 (AB (tm 16)))]) bV)
abbrev b55:CC:=(CC.seq (CC.region [(wB 2 (AB (O.c (V.s 0 0)))),(wB 3 (AB (oN 0))),(wB 4 (AB (oN 0)))]) kP)
theorem c55:AZ Try.prog 55=⟨45,b55,[(Rs.tmp (AX 2)),(Rs.tmp (AX 3)),(Rs.tmp (AX 4))]⟩:=by kernel_rfl
end Go.Proofs.Ytobfgempjekjpaa
set_option maxRecDepth 1000000
namespace Go.Proofs.Ytobfgempjekjpaa
open Go Go.Ev
abbrev ABf:CC:=(CC.cond (tm 7) CC.skip (CC.exit 0))
abbrev ACC:CC:=(CC.seq (CC.region [(wB 6 (AB (tm 0))),(wB 7 (AM Cs (tm 6) (oN 0)))]) ABf)
abbrev pX:CC:=(CC.region [(wB 12 (AB (tm 4))),(wB 13 (AB (tm 0))),(wB 14 (CB IntKind.u8 (tm 13))),(wB 15 (B9 9 1 (tm 3) (tm 12))),(CO.mk G.none D.none Bool.true (CR.mk (Ad 1 (tm 15) (tm 14))))])
abbrev AAF:CC:=(CC.seq (CC.region [(wB 10 (AB (tm 4))),(wB 11 (AM Bi (tm 10) (oN 1))),(wB 4 (AB (tm 11)))]) pX)
abbrev rN:CC:=(CC.block 1 AAF)
abbrev qL:CC:=(CC.region [(wB 8 (AB (tm 0))),(wB 9 (B0 JO (tm 8) (O.c (V.i IntKind.u64 (Int.ofNat 8))))),(wB 0 (AB (tm 9)))])
abbrev AA4:CC:=(CC.seq rN qL)
abbrev qg:CC:=(CC.seq ACC AA4)
abbrev xp:CC:=(CC.loop qg)
abbrev uk:CC:=(CC.block 0 xp)
abbrev oL:CC:=(CC.seq (CC.region [(wB 24 (AB (tm 4))),(wB 25 (DC 9 1 (tm 3) (some (tm 24)) none)),(wB 26 (Hi (tm 25))),(wB 2 (AB (tm 26)))]) CC.ret)
abbrev kG:CC:=(CC.seq (CC.region [(wB 20 (AB (tm 4))),(wB 21 (AB (tm 5))),(wB 22 (CB IntKind.u8 (tm 21))),(wB 23 (B9 9 1 (tm 3) (tm 20))),(CO.mk G.none D.none Bool.true (CR.mk (Ad 1 (tm 23) (tm 22))))]) oL)
abbrev mR:CC:=(CC.seq (CC.region [(wB 18 (AB (tm 4))),(wB 19 (AM Bi (tm 18) (oN 1))),(wB 4 (AB (tm 19)))]) kG)
abbrev jX:CC:=(CC.seq (CC.region [(wB 16 (AB (tm 4))),(wB 17 (AM Bi (oN 9) (tm 16))),(wB 5 (AB (tm 17)))]) mR)
abbrev jo:CC:=(CC.seq uk jX)
abbrev lV:CC:=(CC.seq (CC.region [(wB 4 (AB (oN 9)))]) jo)
abbrev Y1:CC:=(CC.seq (CC.region [(wB 3 (Bj 88 [(V.i IntKind.u8 (Int.ofNat 0)),(V.i IntKind.u8 (Int.ofNat 0)),(V.i IntKind.u8 (Int.ofNat 0)),(V.i IntKind.u8 (Int.ofNat 0)),(V.i IntKind.u8 (Int.ofNat 0)),(V.i IntKind.u8 (Int.ofNat 0)),(V.i IntKind.u8 (Int.ofNat 0)),(V.i IntKind.u8 (Int.ofNat 0)),(V.i IntKind.u8 (Int.ofNat 0))]))]) lV)
abbrev b33:CC:=(CC.seq (CC.region [(wB 2 (AB (O.c (V.s 0 0))))]) Y1)
theorem c33:AZ Try.prog 33=⟨27,b33,[(Rs.tmp (AX 2))]⟩:=by kernel_rfl
abbrev AAA:CC:=(CC.seq (CC.region [(wB 2 (AB (oN 0))),(wB 3 (AB (oN 0))),(wB 4 (AB (oN 12)))]) CC.ret)
abbrev wq:CC:=(CC.cond (tm 10) AAA CC.skip)
abbrev oy:CC:=(CC.seq (CC.region [(wB 9 (AB (tm 0))),(wB 10 (CZ F6 (tm 9) (O.c (V.s 0 0))))]) wq)
abbrev AAE:CC:=(CC.seq (CC.region [(wB 2 (AB (oN 0))),(wB 3 (AB (oN 0))),(wB 4 (AB (oN 10)))]) CC.ret)
abbrev ABY:CC:=(CC.cond (tm 15) AAE CC.skip)
abbrev xn:CC:=(CC.seq (CC.region [(wB 14 (AB (tm 5))),(wB 15 (AM Cs (tm 14) (oN 8)))]) ABY)
abbrev AAY:CC:=(CC.seq (CC.region [(wB 2 (AB (oN 0))),(wB 3 (AB (oN 0))),(wB 4 (AB (oN 12)))]) CC.ret)
abbrev pn:CC:=(CC.cond (tm 21) AAY CC.skip)
abbrev qQ:CC:=(CC.seq (CC.region [(wB 18 (AB (tm 6))),(wB 19 (AB (tm 0))),(wB 20 (Bp (tm 19))),(wB 21 (AM Cs (tm 18) (tm 20)))]) pn)
abbrev ABh:CC:=(CC.seq (CC.region [(wB 2 (AB (oN 0))),(wB 3 (AB (oN 0))),(wB 4 (AB (oN 10)))]) CC.ret)
abbrev iQ:CC:=(CC.cond (tm 30) ABh CC.skip)
abbrev cW:CC:=(CC.seq (CC.region [(wB 29 (AB (tm 8))),(wB 30 (CS (tm 29)))]) iQ)
abbrev fi:CC:=(CC.seq (CC.region [(wB 31 (AB (tm 7))),(wB 32 (AB (tm 6))),(wB 2 (AB (tm 31))),(wB 3 (AB (tm 32))),(wB 4 (AB (oN 0)))]) CC.ret)
abbrev jO:CC:=(CC.seq cW fi)
abbrev ZO:CC:=(CC.seq (CC.region [(wB 23 (AB (tm 0))),(wB 24 (AB (tm 6))),(wB 25 (BV (tm 23) (some (oN 1)) (some (tm 24)))),(wB 26 (AY 79 [(tm 25)])),(wB 22 (AB (tm 26))),(wB 27 (Am 0 (tm 22))),(wB 28 (Am 1 (tm 22))),(wB 7 (AB (tm 27))),(wB 8 (AB (tm 28)))]) jO)
abbrev nL:CC:=(CC.seq qQ ZO)
abbrev Zk:CC:=(CC.seq (CC.region [(wB 16 (AB (tm 5))),(wB 17 (AM BE (oN 1) (tm 16))),(wB 6 (AB (tm 17)))]) nL)
abbrev bF:CC:=(CC.seq xn Zk)
abbrev ZQ:CC:=(CC.seq (CC.region [(wB 11 (AB (tm 0))),(wB 12 (DU (tm 11) (oN 0))),(wB 13 (CB IntKind.i64 (tm 12))),(wB 5 (AB (tm 13)))]) bF)
abbrev cN:CC:=(CC.seq oy ZQ)
abbrev b68:CC:=(CC.seq (CC.region [(wB 2 (AB (oN 0))),(wB 3 (AB (oN 0))),(wB 4 (AB (oN 0)))]) cN)
theorem c68:AZ Try.prog 68=⟨33,b68,[(Rs.tmp (AX 2)),(Rs.tmp (AX 3)),(Rs.tmp (AX 4))]⟩:=by kernel_rfl
abbrev tS:CC:=(CC.cond (tm 10) CC.skip (CC.exit 0))
abbrev ACU:CC:=(CC.seq (CC.region [(wB 7 (AB (tm 5))),(wB 8 (AB (tm 0))),(wB 9 (Bp (tm 8))),(wB 10 (AM Bg (tm 7) (tm 9)))]) tS)
abbrev ACE:CC:=(CC.cond (tm 22) (CC.exit 0) CC.skip)
abbrev tX:CC:=(CC.seq (CC.region [(wB 23 (AB (tm 4))),(wB 24 (AM Cs (tm 23) (oN 36028797018963967))),(wB 22 (AB (tm 24)))]) ACE)
abbrev yO:CC:=(CC.cond (tm 15) (CC.exit 0) tX)
abbrev pq:CC:=(CC.seq (CC.region [(wB 16 (AB (tm 5))),(wB 17 (AM Cl (tm 16) (oN 0))),(wB 18 (AB (tm 17))),(wG 18 true 19 (AB (tm 6))),(wG 18 true 20 (AM Cl (tm 19) (oN 0))),(wB 21 (Al (tm 18) (tm 20) (O.c (V.b Bool.false)))),(wB 15 (AB (tm 21)))]) yO)
abbrev rm:CC:=(CC.block 2 pq)
abbrev wz:CC:=(CC.region [(wB 29 (AB (tm 5))),(wB 30 (AM BE (tm 29) (oN 1))),(wB 5 (AB (tm 30)))])
abbrev rJ:CC:=(CC.seq (CC.region [(wB 25 (AB (tm 4))),(wB 26 (B0 K2 (tm 25) (O.c (V.i IntKind.u64 (Int.ofNat 8))))),(wB 27 (AB (tm 6))),(wB 28 (AM XI (tm 26) (tm 27))),(wB 4 (AB (tm 28)))]) wz)
abbrev qA:CC:=(CC.seq rm rJ)
abbrev bD:CC:=(CC.seq (CC.region [(wB 11 (AB (tm 0))),(wB 12 (AB (tm 5))),(wB 13 (DU (tm 11) (tm 12))),(wB 14 (CB IntKind.i64 (tm 13))),(wB 6 (AB (tm 14)))]) qA)
abbrev n9:CC:=(CC.block 1 bD)
abbrev ye:CC:=(CC.seq ACU n9)
abbrev ZP:CC:=(CC.loop ye)
abbrev eP:CC:=(CC.block 0 ZP)
abbrev gn:CC:=(CC.seq (CC.region [(wB 2 (AB (oN 0))),(wB 3 (AB (O.c (V.b Bool.false))))]) CC.ret)
abbrev mK:CC:=(CC.cond (tm 34) gn CC.skip)
abbrev kM:CC:=(CC.seq (CC.region [(wB 31 (AB (tm 5))),(wB 32 (AB (tm 0))),(wB 33 (Bp (tm 32))),(wB 34 (AM Bg (tm 31) (tm 33)))]) mK)
abbrev lz:CC:=(CC.seq (CC.region [(wB 35 (AB (tm 4))),(wB 2 (AB (tm 35))),(wB 3 (AB (O.c (V.b Bool.true))))]) CC.ret)
abbrev fc:CC:=(CC.seq kM lz)
abbrev ZZ:CC:=(CC.seq eP fc)
abbrev bX:CC:=(CC.seq CC.skip ZZ)
abbrev cJ:CC:=(CC.seq (CC.region [(wB 4 (AB (oN 0))),(wB 5 (AB (oN 0)))]) bX)
abbrev b79:CC:=(CC.seq (CC.region [(wB 2 (AB (oN 0))),(wB 3 (AB (O.c (V.b Bool.false))))]) cJ)
theorem c79:AZ Try.prog 79=⟨36,b79,[(Rs.tmp (AX 2)),(Rs.tmp (AX 3))]⟩:=by kernel_rfl
abbrev ABq:CC:=(CC.seq (CC.region [(wB 3 (AB (tm 0))),(wB 4 (Bp (tm 3))),(wB 5 (AY 33 [(tm 4)])),(wB 6 (AB (tm 0))),(wB 7 (CQ (tm 5) (tm 6))),(wB 2 (AB (tm 7)))]) CC.ret)
abbrev b52:CC:=(CC.seq (CC.region [(wB 2 (AB (O.c (V.s 0 0))))]) ABq)
theorem c52:AZ Try.prog 52=⟨8,b52,[(Rs.tmp (AX 2))]⟩:=by kernel_rfl
abbrev qu:CC:=(CC.seq (CC.region [(wB 17 (AB (tm 7))),(wB 2 (AB (O.c (V.s 0 0)))),(wB 3 (AB (oN 0))),(wB 4 (AB (tm 17)))]) CC.ret)
abbrev AAC:CC:=(CC.cond (tm 16) qu CC.skip)
abbrev se:CC:=(CC.seq (CC.region [(wB 15 (AB (tm 7))),(wB 16 (AM H6 (tm 15) (oN 0)))]) AAC)
abbrev AAK:CC:=(CC.seq (CC.region [(wB 2 (AB (O.c (V.s 0 0)))),(wB 3 (AB (oN 0))),(wB 4 (AB (oN 12)))]) CC.ret)
abbrev pP:CC:=(CC.cond (tm 24) AAK CC.skip)
abbrev uU:CC:=(CC.seq (CC.region [(wB 21 (AB (tm 5))),(wB 22 (AB (tm 8))),(wB 23 (Bp (tm 22))),(wB 24 (AM Cs (tm 21) (tm 23)))]) pP)
abbrev wy:CC:=(CC.seq (CC.region [(wB 25 (AB (tm 8))),(wB 26 (AB (tm 5))),(wB 27 (BV (tm 25) none (some (tm 26)))),(wB 28 (AB (tm 6))),(wB 29 (AB (tm 5))),(wB 30 (AM BE (tm 28) (tm 29))),(wB 2 (AB (tm 27))),(wB 3 (AB (tm 30))),(wB 4 (AB (oN 0)))]) CC.ret)
abbrev ABz:CC:=(CC.seq uU wy)
abbrev wO:CC:=(CC.seq (CC.region [(wB 18 (AB (tm 0))),(wB 19 (AB (tm 6))),(wB 20 (BV (tm 18) (some (tm 19)) none)),(wB 8 (AB (tm 20)))]) ABz)
abbrev ACA:CC:=(CC.seq se wO)
abbrev gC:CC:=(CC.seq (CC.region [(wB 10 (AB (tm 0))),(wB 11 (AY 68 [(tm 10)])),(wB 9 (AB (tm 11))),(wB 12 (Am 0 (tm 9))),(wB 13 (Am 1 (tm 9))),(wB 14 (Am 2 (tm 9))),(wB 5 (AB (tm 12))),(wB 6 (AB (tm 13))),(wB 7 (AB (tm 14)))]) ACA)
abbrev b80:CC:=(CC.seq (CC.region [(wB 2 (AB (O.c (V.s 0 0)))),(wB 3 (AB (oN 0))),(wB 4 (AB (oN 0)))]) gC)
theorem c80:AZ Try.prog 80=⟨31,b80,[(Rs.tmp (AX 2)),(Rs.tmp (AX 3)),(Rs.tmp (AX 4))]⟩:=by kernel_rfl
end Go.Proofs.Ytobfgempjekjpaa
set_option maxRecDepth 100000
set_option maxHeartbeats 8000000
namespace Go.Proofs.Ytobfgempjekjpaa
open Go Go.Ev
theorem TM {n d:Nat} (h:d<256):n*2 ^ 8|||d=n*256+d:=by
 have:=Nat.two_pow_add_eq_or_of_lt (i:=8) (b:=d) (by omega) n
 rw[Nat.mul_comm n,<-this]
theorem zr (l:List UInt8) (i:Nat) (h:i<=l.length):pk (l.take i)*256 ^ (l.length-i)<=pk l:=by
 have e:=EJ (l.take i) (l.drop i)
 rw[List.take_append_drop,List.length_drop]at e
 omega
theorem UT {l:List UInt8} {i:Nat} (h8:l.length<=8) (hi:i<l.length) (h:36028797018963967<pk (l.take i)):9223372036854775808<=pk l:=by
 have h1:=zr l i (by omega)
 have h2:256<=256 ^ (l.length-i):=by
  have:=Nat.pow_le_pow_right (n:=256) (by omega) (show 1<=l.length-i by omega)
  simpa using this
 have h3:=Nat.mul_le_mul (show 36028797018963968<=pk (l.take i)by omega) h2
 omega
theorem RV {l:List UInt8} (h:(l.getD 0 0).toNat=0) (h0:0<l.length):l.head? =some 0:=by
 cases l with
 |nil=>simp at h0
 |cons c r=>have:c=0:=UInt8.toNat_inj.1 h
            rw[this];rfl
theorem Tt {l:List UInt8} (h:¬(l.getD 0 0).toNat=0):l.head? ≠some 0:=by
 cases l with
 |nil=>simp
 |cons c r=>intro h0;have:c=0:=by simpa using h0
            subst this;exact h rfl
theorem SU {h:H} {l:List UInt8} (h8:l.length<=8):A3 Try.prog 79 [sv l] h fun y h'=>y=ar l/\h'=h:=by
 refine Aw c79 (by intro hb;cases hb) (by simp) (by simp) fun Q hQ=>?_
 simp only[Ah,Nat.reduceAdd]
 repeat' (first
  |refine St.h ?_
  |simp(disch:=first|omega|(simp only[AI];omega))only[AJ,↓AA,↓reduceIte,seval]
  |(with_reducible (first|apply AD|apply AE))<;>(intro hc;(try simp only[AT]at hc);(try simp only[hc]);(try simp only[AR]at hc);try omega))
 refine Ok.lp (fun m t g=>∃ i:Nat,i<=l.length/\m=l.length-i/\g=h/\get 0 t=sv l/\get 4 t=.i .i64 ((pk (l.take i):Nat):Int)/\get 5 t=.i .i64 (i:Int)/\(0<i->l.head? ≠some 0)/\pk (l.take i)<=9223372036854775807) l.length ?_ ?_
 ·simp(disch:=first|omega|(simp only[AI];omega))only[AJ,↓AA,↓reduceIte,seval]
  exact⟨0,by omega,rfl,trivial,trivial,rfl,rfl,fun h=>absurd h (by omega),by simp[pk]⟩
 ·rintro I hI m t g ⟨i,hi',rfl,rfl,f0,f4,f5,hF,hV⟩
  have hgd:=(l.getD i 0).toNat_lt
  repeat' (first
   |refine St.h ?_
   |simp(disch:=first|omega|(simp only[AI];omega))only[AJ,↓AA,↓reduceIte,seval, *]
   |(with_reducible (first|apply AD|apply AE))<;>(intro hc;(try simp only[AT]at hc);(try simp only[hc]);(try simp only[AR]at hc);try omega))
  ·obtain rfl:i=0:=by omega
   exact⟨(IY (.inl (RV (by omega) (by omega)))).symm,trivial⟩
  ·exact⟨(IY (.inr (UT h8 (by omega) (by omega:36028797018963967<pk (l.take i))))).symm,trivial⟩
  ·obtain rfl:i=0:=by omega
   have n1:((pk (l.take 0):Int)*256).toNat|||(l.getD 0 0).toNat=pk (l.take 1):=by
    rw[show((pk (l.take 0):Int)*256).toNat=pk (l.take 0)*2 ^ 8 by omega,TM (by omega),Jx (by omega)]
   have n2:pk (l.take 1)<=9223372036854775807:=by rw[Jx (by omega)];omega
   refine Ai hI (l.length-(0+1)) (by omega) ⟨0+1,by omega,rfl,rfl,?_,?_,?_,fun _=>Tt (by omega),n2⟩
   ·simp(disch:=first|omega|(simp only[AI];omega))only[AJ,↓AA,↓reduceIte,seval, *]
   ·simp(disch:=first|omega|(simp only[AI];omega))only[AJ,↓AA,↓reduceIte,seval, *]
   ·simp(disch:=first|omega|(simp only[AI];omega))only[AJ,↓AA,↓reduceIte,seval, *]
  ·exact⟨(IY (.inr (UT h8 (by omega) (by omega:36028797018963967<pk (l.take i))))).symm,trivial⟩
  ·have n1:((pk (l.take i):Int)*256).toNat|||(l.getD i 0).toNat=pk (l.take (i+1)):=by
    rw[show((pk (l.take i):Int)*256).toNat=pk (l.take i)*2 ^ 8 by omega,TM (by omega),Jx (by omega)]
   have n2:pk (l.take (i+1))<=9223372036854775807:=by rw[Jx (by omega)];omega
   refine Ai hI (l.length-(i+1)) (by omega) ⟨i+1,by omega,rfl,rfl,?_,?_,?_,fun _=>hF (by omega),n2⟩
   ·simp(disch:=first|omega|(simp only[AI];omega))only[AJ,↓AA,↓reduceIte,seval, *]
   ·simp(disch:=first|omega|(simp only[AI];omega))only[AJ,↓AA,↓reduceIte,seval, *]
   ·simp(disch:=first|omega|(simp only[AI];omega))only[AJ,↓AA,↓reduceIte,seval, *];rfl
  ·have:i=l.length:=by omega
   subst this
   rw[List.take_length]at*
   refine⟨(QK ?_).symm,trivial⟩
   rintro(h1|h1)
   ·cases l with
    |nil=>cases h1
    |cons c r=>exact hF (by simp) h1
   ·omega
theorem Hw {h:H} {l:List UInt8} (hl:l.length<=1000000):A3 Try.prog 68 [sv l] h fun y h'=>y=Yj (takeN l)/\h'=h:=by
 refine Aw c68 (by intro hb;cases hb) (by simp) (by simp) fun Q hQ=>?_
 simp only[Ah,Nat.reduceAdd]
 cases l with
 |nil=>
  repeat' (first
   |refine St.h ?_
   |simp(disch:=first|omega|(simp only[AI];omega))only[AJ,↓AA,↓reduceIte,seval, *]
   |(with_reducible (first|apply AD|apply AE))<;>(intro hc;(try simp only[AT]at hc);(try simp only[hc]);(try simp only[AR]at hc);try omega))
  exact⟨rfl,trivial⟩
 |cons w r=>
 have hlen:(w::r).length=r.length+1:=rfl
 have hw:=w.toNat_lt
 have hgd:(w::r).getD 0 0=w:=rfl
 have d0:(w::r=[])=False:=by simp
 repeat' (first
  |refine St.h ?_
  |simp(disch:=first|omega|(simp only[AI];omega))only[AJ,↓AA,↓reduceIte,seval, *]
  |(with_reducible (first|apply AD|apply AE))<;>(intro hc;(try simp only[AT]at hc);(try simp only[hc]);(try simp only[AR]at hc);try omega))
 ·exact⟨by rw[L9 (by omega)];rfl,trivial⟩
 ·exact⟨by rw[Gx (by omega) (by omega)];rfl,trivial⟩
 have hsl:((w::r).take (1+(w.toNat:Int)).toNat).drop 1=r.take w.toNat:=by
  rw[show(1+(w.toNat:Int)).toNat=w.toNat+1 by omega];simp
 rw[hsl]
 refine CL.mk (SU (by rw[List.length_take];omega)) ?_
 rintro _ _ ⟨rfl,rfl⟩
 by_cases hb:Se (r.take w.toNat)
 ·rw[IY hb]
  repeat' (first
   |refine St.h ?_
   |simp(disch:=first|omega|(simp only[AI];omega))only[AJ,↓AA,↓reduceIte,seval, *]
   |(with_reducible (first|apply AD|apply AE))<;>(intro hc;(try simp only[AT]at hc);(try simp only[hc]);(try simp only[AR]at hc);try omega))
  exact⟨by rw[MI (by omega) (by omega) hb];rfl,trivial⟩
 ·rw[QK hb]
  repeat' (first
   |refine St.h ?_
   |simp(disch:=first|omega|(simp only[AI];omega))only[AJ,↓AA,↓reduceIte,seval, *]
   |(with_reducible (first|apply AD|apply AE))<;>(intro hc;(try simp only[AT]at hc);(try simp only[hc]);(try simp only[AR]at hc);try omega))
  refine⟨?_,trivial⟩
  rw[LR (by omega) (by omega) hb,show(1:Int)+(w.toNat:Int)=((w.toNat+1:Nat):Int)by omega];rfl
theorem Ff {h:H} {n:Int} (hn:n<=9223372036854775807) (hf:B.val h.floor<=B.val h.next):A3 Try.prog 33 [.i .i64 n] h fun y h'=>y=sv (Be n.toNat)/\AW AN h h':=by
 refine Aw c33 (by intro hb;cases hb) (by simp) (by simp) fun Q hQ=>?_
 simp only[Ah,Nat.reduceAdd]
 have hN:n.toNat<=9223372036854775807:=by omega
 have h8:=HF hN
 repeat' (first
  |refine St.h ?_
  |simp(disch:=first|omega|(simp only[AI];omega))only[AJ,↓AA,↓reduceIte,seval]
  |(with_reducible (first|apply AD|apply AE))<;>(intro hc;(try simp only[AT]at hc);(try simp only[hc]);(try simp only[AR]at hc);try omega))
 refine AL.own (by simp) hf fun h1 s1 n1 o1=>?_
 repeat' (first
  |refine St.h ?_
  |simp(disch:=first|omega|(simp only[AI];omega))only[AJ,↓AA,↓reduceIte,seval,List.length_cons,List.length_nil]
  |(with_reducible (first|apply AD|apply AE))<;>(intro hc;(try simp only[AT]at hc);(try simp only[hc]);(try simp only[AR]at hc);try omega))
 refine Ok.lp (fun m t g=>∃ (z:Int) (d:List UInt8) (xs:List V),m=z.toNat/\z.toNat<=9223372036854775807/\DM z.toNat++d=DM n.toNat/\get 0 t=.i .i64 z/\get 3 t=.p h.next 0 0 9/\get 4 t=.i .i64 ((9-d.length:Nat):Int)/\Ev.CE g h.next xs/\xs.length=9/\xs.drop (9-d.length)=d.map bv/\AW AN h g) n.toNat ?_ ?_
 ·simp(disch:=first|omega|(simp only[AI];omega))only[AJ,↓AA,↓reduceIte,seval]
  refine⟨n,[],_,rfl,hN,by simp,rfl,trivial,rfl,o1,rfl,rfl,s1⟩
 rintro I hI m t g ⟨z,d,xs,rfl,hz,hD,f0,f3,f4,o,hx,hxd,st⟩
 have hdl:(DM z.toNat).length+d.length<=8:=by rw[<-List.length_append,hD];exact h8
 have ea2:(((9-d.length:Nat):Int)-1)=((8-d.length:Nat):Int):=by omega
 have ew:(9:Int)-((9-d.length:Nat):Int)=(d.length:Int):=by omega
 repeat' (first
  |refine St.h ?_
  |simp(disch:=first|omega|(simp only[AI];omega))only[AJ,↓AA,↓reduceIte,seval,f0,f3,f4,hQ,ea2,ew,Nw]
  |(with_reducible (first|apply AD|apply AE))<;>(intro hc;(try simp only[AT]at hc);(try simp only[hc]);(try simp only[AR]at hc);try omega))
 ·obtain⟨c,rfl⟩:=Int.eq_ofNat_of_zero_le (by omega:0<=z)
  rw[Int.toNat_natCast]at hD hdl hz
  have hc0:c≠0:=by omega
  have hdp:=Is hc0
  have hd1:(DM c).length=(DM (c/256)).length+1:=by rw[hdp];simp
  refine ST.own (y:=bv (UInt8.ofNat (c%256))) o (by rw[<-Kw];simp;rfl) rfl (by omega) (by omega) fun g' o' s'=>?_
  repeat' (first
   |refine St.h ?_
   |simp(disch:=first|omega|(simp only[AI];omega))only[AJ,↓AA,↓reduceIte,seval,f0,f3,f4,ea2]
   |(with_reducible (first|apply AD|apply AE))<;>(intro hc;(try simp only[AT]at hc);(try simp only[hc]);(try simp only[AR]at hc);try omega))
  have hdrop:(xs.set (8-d.length) (bv (UInt8.ofNat (c%256)))).drop (9-(UInt8.ofNat (c%256)::d).length)=(UInt8.ofNat (c%256)::d).map bv:=by
   rw[show 9-(UInt8.ofNat (c%256)::d).length=8-d.length by simp only[List.length_cons];omega,Lt _ _ _ (by omega),show 8-d.length+1=9-d.length by omega,hxd];rfl
  refine Ai hI (c/256) (by omega) ⟨((c/256:Nat):Int),UInt8.ofNat (c%256)::d,_,by rw[Int.toNat_natCast],by rw[Int.toNat_natCast];omega,?_,?_,?_,?_,o',by rw[List.length_set];exact hx,hdrop,st.BI s' fun i hi=>by rw[hi];exact Nat.le_refl _⟩
  ·rw[Int.toNat_natCast,<-hD,hdp];simp
  ·simp(disch:=first|omega|(simp only[AI];omega))only[AJ,↓AA,↓reduceIte,seval];rfl
  ·simp(disch:=first|omega|(simp only[AI];omega))only[AJ,↓AA,↓reduceIte,seval,f3]
  ·simp(disch:=first|omega|(simp only[AI];omega))only[AJ,↓AA,↓reduceIte,seval]
   congr 1;simp only[List.length_cons];omega
 ·have hz0:z.toNat=0:=by omega
  rw[hz0,Ew,List.nil_append]at hD
  refine ST.own (y:=bv (UInt8.ofNat d.length)) o (by rw[<-Kw,Nat.mod_eq_of_lt (by omega)];rfl) rfl (by omega) (by omega) fun g' o' s'=>?_
  have hlen:(xs.set (8-d.length) (bv (UInt8.ofNat d.length))).length=9:=by rw[List.length_set];exact hx
  have hdrop:(xs.set (8-d.length) (bv (UInt8.ofNat d.length))).drop (8-d.length)=(UInt8.ofNat d.length::d).map bv:=by
   rw[Lt _ _ _ (by omega),show 8-d.length+1=9-d.length by omega,hxd];rfl
  have hL:=o'.back (a:=8-d.length) (fin:=9) (by omega) (by omega) (some (9-(8-d.length)))
  rw[hdrop,hlen]at hL
  repeat' (first
   |refine St.h ?_
   |simp(disch:=first|omega|(simp only[AI];omega))only[AJ,↓AA,↓reduceIte,seval,f0,f3,f4,hL.bs (by simp)]
   |(with_reducible (first|apply AD|apply AE))<;>(intro hc;(try simp only[AT]at hc);(try simp only[hc]);(try simp only[AR]at hc);try omega))
  subst hQ
  exact⟨by unfold Be;rw[<-hD],st.BI s' fun i hi=>by rw[hi];exact Nat.le_refl _⟩
end Go.Proofs.Ytobfgempjekjpaa
namespace Go.Ev
open Go
/--the sum's two parts,one byte further -/
def HL (p:Nat×Nat) (c:UInt8):Nat×Nat:=((p.1+c.toNat)%65521,(p.2+(p.1+c.toNat)%65521)%65521)
def Rj (p:Nat×Nat) (l:List UInt8):Nat×Nat:=l.foldl HL p
def Pa (l:List UInt8):Nat×Nat:=Rj (1,0) l
def Fk (l:List UInt8):Nat:=(Pa l).2*65536+(Pa l).1
theorem OZ (p:Nat×Nat) (a b:List UInt8):Rj p (a++b)=Rj (Rj p a) b:=List.foldl_append
theorem Wb {p:Nat×Nat} (h1:p.1<65521) (h2:p.2<65521):∀ l,(Rj p l).1<65521/\(Rj p l).2<65521:=by
 intro l
 induction l generalizing p with
 |nil=>exact⟨h1,h2⟩
 |cons c l ih=>exact ih (p:=HL p c) (Nat.mod_lt _ (by omega)) (Nat.mod_lt _ (by omega))
theorem UF (l:List UInt8):(Pa l).1<65521/\(Pa l).2<65521:=Wb (by decide) (by decide) l
theorem Wj (l:List UInt8):Fk l<4294967296:=by
 have:=UF l
 unfold Fk;omega
theorem RP (l:List UInt8) (c:UInt8):Pa (l++[c])=HL (Pa l) c:=by
 unfold Pa;rw[OZ];rfl
/--four bytes of a number,the highest first -/
def Du (n:Nat):List UInt8:=[UInt8.ofNat (n/16777216),UInt8.ofNat (n/65536),UInt8.ofNat (n/256),UInt8.ofNat n]
theorem Ln (n:Nat):(Du n).length=4:=rfl
def Ba (l:List UInt8):List UInt8:=Be l.length++Du (Fk l)++l
theorem F4 (l:List UInt8):(Ba l).length=(Be l.length).length+4+l.length:=by
 unfold Ba;rw[List.length_append,List.length_append,Ln]
/--what is sealed at the front -/
def EX (l:List UInt8):List UInt8×Int×Int:=
 if (takeN l).2.2=12 then ([],0,12)else if (takeN l).2.2≠0 then ([],0,13)else
 if ((l.length:Int)-(takeN l).2.1<4\/(l.length:Int)-(takeN l).2.1-4<(takeN l).1)then ([],0,12)else
 if Du (Fk ((l.drop ((takeN l).2.1.toNat+4)).take (takeN l).1.toNat))≠(l.drop (takeN l).2.1.toNat).take 4 then ([],0,13)else
 ((l.drop ((takeN l).2.1.toNat+4)).take (takeN l).1.toNat,(takeN l).2.1+4+(takeN l).1,0)
/--with a number at the front -/
theorem I9 {l:List UInt8} {n k:Nat} (h:takeN l=((n:Int),(k:Int),0)):EX l=if ((l.length:Int)-k<4\/(l.length:Int)-k-4<n)then ([],0,12)else
 if Du (Fk ((l.drop (k+4)).take n))≠(l.drop k).take 4 then ([],0,13)else ((l.drop (k+4)).take n,(k:Int)+4+n,0):=by
 unfold EX
 rw[h]
 simp only[Int.toNat_natCast]
 rw[if_neg (by decide),if_neg (by simp)]
theorem PN {l more:List UInt8} (h:l.length<=9223372036854775807):EX (Ba l++more)=(l,((Ba l).length:Int),0):=by
 have e:Ba l++more=Be l.length++(Du (Fk l)++l++more):=by unfold Ba;simp
 have ht:takeN (Ba l++more)=((l.length:Int),((Be l.length).length:Int),0):=by rw[e];exact GO h _
 rw[I9 ht]
 have hlen:(Ba l++more).length=(Be l.length).length+4+l.length+more.length:=by rw[List.length_append,F4]
 have d1:(Ba l++more).drop (Be l.length).length=Du (Fk l)++l++more:=by rw[e,List.drop_left]
 have d2:(Ba l++more).drop ((Be l.length).length+4)=l++more:=by
  rw[<-List.drop_drop,d1]
  show(Du (Fk l)++l++more).drop (Du (Fk l)).length=_
  rw[List.append_assoc,List.drop_left]
 have d3:(Du (Fk l)++l++more).take 4=Du (Fk l):=by
  show(Du (Fk l)++l++more).take (Du (Fk l)).length=_
  rw[List.append_assoc,List.take_left]
 rw[if_neg (by omega),d1,d2,d3,List.take_left,if_neg (by simp),F4]
 congr 1
theorem R5 {l:List UInt8} {c:Nat} (h:l.length<=9223372036854775807) (hc:c<(Ba l).length):EX ((Ba l).take c)=([],0,12):=by
 rcases Nat.lt_or_ge c (Be l.length).length with h1|h1
 ·have e:(Ba l).take c=(Be l.length).take c:=by unfold Ba;rw[List.append_assoc,List.take_append_of_le_length (by omega)]
  unfold EX
  rw[e,RF h h1]
  rfl
 ·have e:(Ba l).take c=Be l.length++(Du (Fk l)++l).take (c-(Be l.length).length):=by
   unfold Ba
   rw[List.append_assoc,List.take_append,List.take_of_length_le (by omega)]
  have ht:takeN ((Ba l).take c)=((l.length:Int),((Be l.length).length:Int),0):=by rw[e];exact GO h _
  rw[I9 ht]
  have hl:((Ba l).take c).length=c:=by rw[List.length_take];omega
  rw[F4]at hc
  rw[hl,if_pos (by omega)]
end Go.Ev
namespace Go.Ev
open Go
theorem UC {l:List UInt8} {i:Nat} (h:i<l.length):Pa (l.take (i+1))=HL (Pa (l.take i)) (l.getD i 0):=by
 rw[<-RP]
 congr 1
 rw[List.take_succ_eq_append_getElem h]
 simp[List.getD,h]
end Go.Ev
set_option maxRecDepth 100000
set_option maxHeartbeats 8000000
namespace Go.Proofs.Ytobfgempjekjpaa
open Go Go.Ev
theorem aR {h:H} {l:List UInt8} (hl:l.length<=1000000):A3 Try.prog 67 [sv l] h fun y h'=>y=.i .u32 (Fk l:Int)/\h'=h:=by
 refine Aw c67 (by intro hb;cases hb) (by simp) (by simp) fun Q hQ=>?_
 simp only[Ah,Nat.reduceAdd]
 repeat' (first
  |refine St.h ?_
  |simp(disch:=first|omega|(simp only[AI];omega))only[AJ,↓AA,↓reduceIte,seval]
  |(with_reducible (first|apply AD|apply AE))<;>(intro hc;(try simp only[AT]at hc);(try simp only[hc]);(try simp only[AR]at hc);try omega))
 refine Ok.lp (fun m t g=>∃ i:Nat,i<=l.length/\m=l.length-i/\g=h/\get 0 t=sv l/\get 3 t=.i .u32 ((Pa (l.take i)).1:Int)/\get 4 t=.i .u32 ((Pa (l.take i)).2:Int)/\get 7 t=.i .i64 (l.length:Int)/\get 8 t=.i .i64 (i:Int)) l.length ?_ ?_
 ·simp(disch:=first|omega|(simp only[AI];omega))only[AJ,↓AA,↓reduceIte,seval]
  exact⟨0,by omega,rfl,trivial,trivial,rfl,rfl,trivial,rfl⟩
 rintro I hI m t g ⟨i,hi,rfl,rfl,f0,f3,f4,f7,f8⟩
 have hci:=(l.getD i 0).toNat_lt
 have⟨b1,b2⟩:=UF (l.take i)
 repeat' (first
  |refine St.h ?_
  |simp(disch:=first|omega|(simp only[AI];omega))only[AJ,↓AA,↓reduceIte,seval,f0,f3,f4,f7,f8]
  |(with_reducible (first|apply AD|apply AE))<;>(intro hc;(try simp only[AT]at hc);(try simp only[hc]);(try simp only[AR]at hc);try omega))
 ·have e:=UC (l:=l) (i:=i) (by omega)
  refine Ai hI (l.length-(i+1)) (by omega) ⟨i+1,by omega,rfl,rfl,?_,?_,?_,?_,?_⟩
  ·simp(disch:=first|omega|(simp only[AI];omega))only[AJ,↓AA,↓reduceIte,seval,f0]
  ·simp(disch:=first|omega|(simp only[AI];omega))only[AJ,↓AA,↓reduceIte,seval,e,HL];rfl
  ·simp(disch:=first|omega|(simp only[AI];omega))only[AJ,↓AA,↓reduceIte,seval,e,HL];rfl
  ·simp(disch:=first|omega|(simp only[AI];omega))only[AJ,↓AA,↓reduceIte,seval,f7]
  ·simp(disch:=first|omega|(simp only[AI];omega))only[AJ,↓AA,↓reduceIte,seval];rfl
 ·obtain rfl:i=l.length:=by omega
  rw[List.take_length]at*
  have e:(((Pa l).2:Int)*65536).toNat|||(Pa l).1=Fk l:=by
   rw[show(((Pa l).2:Int)*65536).toNat=2 ^ 16*(Pa l).2 by omega,<-Nat.two_pow_add_eq_or_of_lt (by omega)]
   unfold Fk;omega
  subst hQ
  simp(disch:=first|omega|(simp only[AI];omega))only[AJ,↓AA,↓reduceIte,seval,e]
theorem Of {n:Nat} (h:n<4294967296):([V.i .u8 ((n/16777216:Nat):Int),V.i .u8 ((n/65536%256:Nat):Int),V.i .u8 ((n/256%256:Nat):Int),V.i .u8 ((n%256:Nat):Int)]:List V)=(Du n).map bv:=by
 have e1:n/16777216=n/16777216%256:=by omega
 rw[e1]
 simp only[Kw]
 unfold Du
 simp[mI]
theorem Jj {h:H} {l:List UInt8} (hl:l.length<=1000000) (hf:B.val h.floor<=B.val h.next):A3 Try.prog 53 [sv l] h fun y h'=>y=sv (Du (Fk l))/\AW AN h h':=by
 refine Aw c53 (by intro hb;cases hb) (by simp) (by simp) fun Q hQ=>?_
 simp only[Ah,Nat.reduceAdd]
 have hn:=Wj l
 repeat' (first
  |refine St.h ?_
  |simp(disch:=first|omega|(simp only[AI];omega))only[AJ,↓AA,↓reduceIte,seval]
  |(with_reducible (first|apply AD|apply AE))<;>(intro hc;(try simp only[AT]at hc);(try simp only[hc]);(try simp only[AR]at hc);try omega))
 refine CL.pure (aR hl) ?_
 repeat' (first
  |refine St.h ?_
  |simp(disch:=first|omega|(simp only[AI];omega))only[AJ,↓AA,↓reduceIte,seval,Nw]
  |(with_reducible (first|apply AD|apply AE))<;>(intro hc;(try simp only[AT]at hc);(try simp only[hc]);(try simp only[AR]at hc);try omega))
 refine AL.str (bs:=Du (Fk l)) (Of hn) (by simp[Du]) rfl rfl (by simp[Du]) hf fun h' u s1=>?_
 repeat' (first
  |refine St.h ?_
  |simp(disch:=first|omega|(simp only[AI];omega))only[AJ,↓AA,↓reduceIte,seval]
  |(with_reducible (first|apply AD|apply AE))<;>(intro hc;(try simp only[AT]at hc);(try simp only[hc]);(try simp only[AR]at hc);try omega))
 subst hQ
 exact⟨rfl,s1⟩
theorem Wk {h:H} {l:List UInt8} (hl:l.length<=1000000) (hf:B.val h.floor<=B.val h.next):A3 Try.prog 35 [sv l] h fun y h'=>y=sv (Ba l)/\AW AN h h':=by
 refine Aw c35 (by intro hb;cases hb) (by simp) (by simp) fun Q hQ=>?_
 simp only[Ah,Nat.reduceAdd]
 have h9:=BJ (n:=l.length) (by omega)
 have h4:=Ln (Fk l)
 repeat' (first
  |refine St.h ?_
  |simp(disch:=first|omega|(simp only[AI];omega))only[AJ,↓AA,↓reduceIte,seval]
  |(with_reducible (first|apply AD|apply AE))<;>(intro hc;(try simp only[AT]at hc);(try simp only[hc]);(try simp only[AR]at hc);try omega))
 refine CL.stay (Ff (by omega) hf) fun h1 s1=>?_
 repeat' (first
  |refine St.h ?_
  |simp(disch:=first|omega|(simp only[AI];omega))only[AJ,↓AA,↓reduceIte,seval]
  |(with_reducible (first|apply AD|apply AE))<;>(intro hc;(try simp only[AT]at hc);(try simp only[hc]);(try simp only[AR]at hc);try omega))
 refine CL.stay (Jj hl (s1.fl hf)) fun h2 s2=>?_
 repeat' (first
  |refine St.h ?_
  |simp(disch:=first|omega|(simp only[AI];omega))only[AJ,↓AA,↓reduceIte,seval]
  |(with_reducible (first|apply AD|apply AE))<;>(intro hc;(try simp only[AT]at hc);(try simp only[hc]);(try simp only[AR]at hc);try omega))
 subst hQ
 exact⟨rfl,s1.trans s2⟩
/--what Open tells,as a value -/
def Yo (l:List UInt8):V:=.tu [sv (EX l).1,.i .i64 (EX l).2.1,.i .i64 (EX l).2.2]
theorem Q0 {h:H} {l:List UInt8} (hl:l.length<=1000000) (hf:B.val h.floor<=B.val h.next):A3 Try.prog 55 [sv l] h fun y h'=>y=Yo l/\AW AN h h':=by
 refine Aw c55 (by intro hb;cases hb) (by simp) (by simp) fun Q hQ=>?_
 simp only[Ah,Nat.reduceAdd]
 repeat' (first
  |refine St.h ?_
  |simp(disch:=first|omega|(simp only[AI];omega))only[AJ,↓AA,↓reduceIte,seval]
  |(with_reducible (first|apply AD|apply AE))<;>(intro hc;(try simp only[AT]at hc);(try simp only[hc]);(try simp only[AR]at hc);try omega))
 refine CL.pure (Hw hl) ?_
 rcases Jd l with(hc|hc)|⟨n,k,hc,h1,h2,h3,h4⟩
 ·have e:EX l=([],0,13):=by unfold EX;rw[hc];rfl
  rw[hc];unfold Yj
  repeat' (first
   |refine St.h ?_
   |simp(disch:=first|omega|(simp only[AI];omega))only[AJ,↓AA,↓reduceIte,seval]
   |(with_reducible (first|apply AD|apply AE))<;>(intro hc;(try simp only[AT]at hc);(try simp only[hc]);(try simp only[AR]at hc);try omega))
  subst hQ
  exact⟨by unfold Yo;rw[e],AW.refl _ _⟩
 ·have e:EX l=([],0,12):=by unfold EX;rw[hc];rfl
  rw[hc];unfold Yj
  repeat' (first
   |refine St.h ?_
   |simp(disch:=first|omega|(simp only[AI];omega))only[AJ,↓AA,↓reduceIte,seval]
   |(with_reducible (first|apply AD|apply AE))<;>(intro hc;(try simp only[AT]at hc);(try simp only[hc]);(try simp only[AR]at hc);try omega))
  subst hQ
  exact⟨by unfold Yo;rw[e],AW.refl _ _⟩
 have e:=I9 hc
 rw[hc];unfold Yj
 have hd:(l.drop k).length=l.length-k:=List.length_drop
 repeat' (first
  |refine St.h ?_
  |simp(disch:=first|omega|(simp only[AI];omega))only[AJ,↓AA,↓reduceIte,seval,Int.toNat_natCast]
  |(with_reducible (first|apply AD|apply AE))<;>(intro hc;(try simp only[AT]at hc);(try simp only[hc]);(try simp only[AR]at hc);try omega))
 ·rw[if_pos (by omega)]at e
  subst hQ
  exact⟨by unfold Yo;rw[e],AW.refl _ _⟩
 rw[if_neg (by omega)]at e
 have ht:((l.drop k).take (4+(n:Int)).toNat).drop 4=(l.drop (k+4)).take n:=by
  rw[show(4+(n:Int)).toNat=4+n by omega,List.drop_take,List.drop_drop]
  congr 1;omega
 rw[ht]
 have htl:((l.drop (k+4)).take n).length<=1000000:=by rw[List.length_take,List.length_drop];omega
 refine CL.stay (Jj htl hf) fun h1' s1=>?_
 repeat' (first
  |refine St.h ?_
  |simp(disch:=first|omega|(simp only[AI];omega))only[AJ,↓AA,↓reduceIte,seval]
  |(with_reducible (first|apply AD|apply AE))<;>(intro hc;(try simp only[AT]at hc);(try simp only[hc]);(try simp only[AR]at hc);try omega))
 all_goals subst hQ
 ·rw[if_pos (fun e'=>hc e'.symm)]at e
  exact⟨by unfold Yo;rw[e],s1⟩
 ·rw[if_neg (by intro e';exact e' hc.symm)]at e
  exact⟨by unfold Yo;rw[e],s1⟩
end Go.Proofs.Ytobfgempjekjpaa
set_option maxRecDepth 100000
set_option maxHeartbeats 8000000
namespace Go.Proofs.Ytobfgempjekjpaa
open Go Go.Ev
theorem P5 {h:H} {l:List UInt8} (hl:l.length<=1000000) (hf:B.val h.floor<=B.val h.next):A3 Try.prog 52 [sv l] h fun y h'=>y=sv (Dl l)/\AW AN h h':=by
 refine Aw c52 (by intro hb;cases hb) (by simp) (by simp) fun Q hQ=>?_
 simp only[Ah,Nat.reduceAdd]
 have h9:=BJ (n:=l.length) (by omega)
 repeat' (first
  |refine St.h ?_
  |simp(disch:=first|omega|(simp only[AI];omega))only[AJ,↓AA,↓reduceIte,seval]
  |(with_reducible (first|apply AD|apply AE))<;>(intro hc;(try simp only[AT]at hc);(try simp only[hc]);(try simp only[AR]at hc);try omega))
 refine CL.stay (Ff (by omega) hf) fun h1 s1=>?_
 repeat' (first
  |refine St.h ?_
  |simp(disch:=first|omega|(simp only[AI];omega))only[AJ,↓AA,↓reduceIte,seval]
  |(with_reducible (first|apply AD|apply AE))<;>(intro hc;(try simp only[AT]at hc);(try simp only[hc]);(try simp only[AR]at hc);try omega))
 subst hQ
 exact⟨rfl,s1⟩
theorem Ny {h:H} {l:List UInt8} (hl:l.length<=1000000):A3 Try.prog 80 [sv l] h fun y h'=>y=yA (Iw l)/\h'=h:=by
 refine Aw c80 (by intro hb;cases hb) (by simp) (by simp) fun Q hQ=>?_
 simp only[Ah,Nat.reduceAdd]
 repeat' (first
  |refine St.h ?_
  |simp(disch:=first|omega|(simp only[AI];omega))only[AJ,↓AA,↓reduceIte,seval]
  |(with_reducible (first|apply AD|apply AE))<;>(intro hc;(try simp only[AT]at hc);(try simp only[hc]);(try simp only[AR]at hc);try omega))
 refine CL.pure (Hw hl) ?_
 rcases Jd l with(hc|hc)|⟨n,k,hc,h1,h2,h3,h4⟩
 ·have e:Iw l=([],0,10):=by unfold Iw;rw[hc];rfl
  rw[hc];unfold Yj
  repeat' (first
   |refine St.h ?_
   |simp(disch:=first|omega|(simp only[AI];omega))only[AJ,↓AA,↓reduceIte,seval]
   |(with_reducible (first|apply AD|apply AE))<;>(intro hc;(try simp only[AT]at hc);(try simp only[hc]);(try simp only[AR]at hc);try omega))
  subst hQ
  exact⟨by rw[e];rfl,rfl⟩
 ·have e:Iw l=([],0,12):=by unfold Iw;rw[hc];rfl
  rw[hc];unfold Yj
  repeat' (first
   |refine St.h ?_
   |simp(disch:=first|omega|(simp only[AI];omega))only[AJ,↓AA,↓reduceIte,seval]
   |(with_reducible (first|apply AD|apply AE))<;>(intro hc;(try simp only[AT]at hc);(try simp only[hc]);(try simp only[AR]at hc);try omega))
  subst hQ
  exact⟨by rw[e];rfl,rfl⟩
 have e:Iw l=if ((l.drop k).length:Int)<(n:Int)then ([],0,12)else ((l.drop k).take n,(k:Int)+n,0):=by
  unfold Iw;rw[hc];simp only[if_true,Int.toNat_natCast]
 rw[hc];unfold Yj
 have hd:(l.drop k).length=l.length-k:=List.length_drop
 repeat' (first
  |refine St.h ?_
  |simp(disch:=first|omega|(simp only[AI];omega))only[AJ,↓AA,↓reduceIte,seval,Int.toNat_natCast]
  |(with_reducible (first|apply AD|apply AE))<;>(intro hc;(try simp only[AT]at hc);(try simp only[hc]);(try simp only[AR]at hc);try omega))
 ·rw[if_pos (by omega)]at e
  subst hQ
  exact⟨by rw[e];rfl,rfl⟩
 ·rw[if_neg (by omega)]at e
  subst hQ
  exact⟨by rw[e];rfl,rfl⟩
end Go.Proofs.Ytobfgempjekjpaa
set_option maxRecDepth 100000
set_option maxHeartbeats 8000000
namespace Go.Ev
open Go
def F9 (t:Bq):List UInt8:=Be t.id.toNat++(Be t.A7.toNat++(Dl t.fst++(Dl t.DT++Be t.DN.toNat)))
def Gy (g:List Int):List UInt8:=g.flatMap fun x=>Be x.toNat
def Cg (e:D4):List UInt8:=Be e.gone.length++(Gy e.gone++(Be e.AU.length++(e.AU.flatMap F9++(Be e.log.toNat++Be e.seq.toNat))))
def Sm (e:D4):List UInt8×Int:=if G2 e then (Ba (Cg e),0)else ([],10)
/--numbers that fit -/
structure Fit (e:D4):Prop where
 g:∀ x∈e.gone,x<=9223372036854775807
 c:∀ t∈e.AU,t.DN<=9223372036854775807
theorem Gs {g:List Int} (h:∀ x∈g,x<=9223372036854775807):(Gy g).length<=g.length*9:=by
 induction g with
 |nil=>simp[Gy]
 |cons x g ih=>
  have h1:=BJ (n:=x.toNat) (by have:=h x List.mem_cons_self;omega)
  have h2:=ih fun y hy=>h y (List.mem_cons_of_mem _ hy)
  show(Be x.toNat++Gy g).length<=_
  rw[List.length_append,List.length_cons];omega
theorem Dk {l:List UInt8} (h:l.length<=13):(Dl l).length<=22:=by
 unfold Dl
 have:=BJ (n:=l.length) (by omega)
 rw[List.length_append];omega
theorem OP {t:Bq} (h:Fy t=true) (hc:t.DN<=9223372036854775807):(F9 t).length<=71:=by
 obtain⟨a1,a2,a3,a4,a5,_⟩:=CU.1 h
 have h1:=BJ (n:=t.id.toNat) (by omega)
 have h2:=BJ (n:=t.A7.toNat) (by omega)
 have h3:=BJ (n:=t.DN.toNat) (by omega)
 have h4:=Dk (l:=t.fst) a4.2
 have h5:=Dk (l:=t.DT) a5.2
 unfold F9
 simp only[List.length_append];omega
theorem Fl {L:List Bq} (h:∀ t∈L,Fy t=true/\t.DN<=9223372036854775807):(L.flatMap F9).length<=L.length*71:=by
 induction L with
 |nil=>simp
 |cons x L ih=>
  have h1:=OP (h x List.mem_cons_self).1 (h x List.mem_cons_self).2
  have h2:=ih fun y hy=>h y (List.mem_cons_of_mem _ hy)
  rw[List.flatMap_cons,List.length_append,List.length_cons];omega
theorem UL {g:List Int} {j:Nat} (hj:j<g.length):Gy (g.take (j+1))=Gy (g.take j)++Be (g.getD j 0).toNat:=by
 have:g.take (j+1)=g.take j++[g.getD j 0]:=by rw[List.take_succ];simp[List.getD,hj]
 unfold Gy
 rw[this,List.flatMap_append,List.flatMap_cons,List.flatMap_nil,List.append_nil]
theorem R6 {L:List Bq} {j:Nat} (hj:j<L.length):(L.take (j+1)).flatMap F9=(L.take j).flatMap F9++F9 (L.getD j default):=by
 have:L.take (j+1)=L.take j++[L.getD j default]:=by rw[List.take_succ];simp[List.getD,hj]
 rw[this,List.flatMap_append,List.flatMap_cons,List.flatMap_nil,List.append_nil]
end Go.Ev
namespace Go.Proofs.Ytobfgempjekjpaa
open Go Go.Ev
theorem YO {h:H} {t:Bq} (ht:Fy t=true) (hc:t.DN<=9223372036854775807) (hf:B.val h.floor<=B.val h.next):A3 Try.prog 34 [.a [.i .i64 t.id,.i .i64 t.A7,sv t.fst,sv t.DT,.i .i64 t.DN]] h fun y h'=>y=sv (F9 t)/\AW AN h h':=by
 obtain⟨a1,a2,a3,a4,a5,_⟩:=CU.1 ht
 have n1:=BJ (n:=t.id.toNat) (by omega)
 have n2:=BJ (n:=t.A7.toNat) (by omega)
 have n3:=BJ (n:=t.DN.toNat) (by omega)
 have n4:=Dk (l:=t.fst) a4.2
 have n5:=Dk (l:=t.DT) a5.2
 refine Aw c34 (by intro hb;cases hb) (by simp) (by simp) fun Q hQ=>?_
 simp only[Ah,Nat.reduceAdd]
 repeat' (first
  |refine St.h ?_
  |simp(disch:=first|omega|(simp only[AI];omega))only[AJ,↓AA,↓reduceIte,seval]
  |(with_reducible (first|apply AD|apply AE))<;>(intro hc;(try simp only[AT]at hc);(try simp only[hc]);(try simp only[AR]at hc);try omega))
 refine AL.own (by simp) hf fun h1 s1 _ o1=>?_
 have hf1:=s1.fl hf
 have r1:=o1.row
 repeat' (first
  |refine St.h ?_
  |simp(disch:=first|omega|(simp only[AI];omega))only[AJ,↓AA,↓reduceIte,seval,r1.l1]
  |(with_reducible (first|apply AD|apply AE))<;>(intro hc;(try simp only[AT]at hc);(try simp only[hc]);(try simp only[AR]at hc);try omega))
 refine CL.MP (Ff (by omega) (Li _)) fun h2 s2=>?_
 have r2:=(o1.stay s2 fun e=>e).row
 repeat' (first
  |refine St.h ?_
  |simp(disch:=first|omega|(simp only[AI];omega))only[AJ,↓AA,↓reduceIte,seval,r2.l1]
  |(with_reducible (first|apply AD|apply AE))<;>(intro hc;(try simp only[AT]at hc);(try simp only[hc]);(try simp only[AR]at hc);try omega))
 refine CL.MP (Ff (by omega) (Li _)) fun h3 s3=>?_
 have t3:=s2.trans s3
 have r3:=(o1.stay t3 fun e=>e).row
 repeat' (first
  |refine St.h ?_
  |simp(disch:=first|omega|(simp only[AI];omega))only[AJ,↓AA,↓reduceIte,seval,r3.l1]
  |(with_reducible (first|apply AD|apply AE))<;>(intro hc;(try simp only[AT]at hc);(try simp only[hc]);(try simp only[AR]at hc);try omega))
 refine CL.MP (P5 (by omega) (Li _)) fun h4 s4=>?_
 have t4:=t3.trans s4
 have r4:=(o1.stay t4 fun e=>e).row
 repeat' (first
  |refine St.h ?_
  |simp(disch:=first|omega|(simp only[AI];omega))only[AJ,↓AA,↓reduceIte,seval,r4.l1]
  |(with_reducible (first|apply AD|apply AE))<;>(intro hc;(try simp only[AT]at hc);(try simp only[hc]);(try simp only[AR]at hc);try omega))
 refine CL.MP (P5 (by omega) (Li _)) fun h5 s5=>?_
 have t5:=t4.trans s5
 have r5:=(o1.stay t5 fun e=>e).row
 repeat' (first
  |refine St.h ?_
  |simp(disch:=first|omega|(simp only[AI];omega))only[AJ,↓AA,↓reduceIte,seval,r5.l1]
  |(with_reducible (first|apply AD|apply AE))<;>(intro hc;(try simp only[AT]at hc);(try simp only[hc]);(try simp only[AR]at hc);try omega))
 refine CL.stay (Ff (by omega) (t5.fl hf1)) fun h6 s6=>?_
 repeat' (first
  |refine St.h ?_
  |simp(disch:=first|omega|(simp only[AI];omega))only[AJ,↓AA,↓reduceIte,seval]
  |(with_reducible (first|apply AD|apply AE))<;>(intro hc;(try simp only[AT]at hc);(try simp only[hc]);(try simp only[AR]at hc);try omega))
 subst hQ
 exact⟨by unfold F9;simp only[List.append_assoc],s1.trans (t5.trans s6)⟩
theorem Lp {h:H} {g c:V} {e:D4} (a:Oz h g c e) (fit:Fit e) (hl:e.gone.length<=100000) (hl2:e.AU.length<=100000) (hf:B.val h.floor<=B.val h.next):A3 Try.prog 10 [.a [g,c,.i .i64 e.log,.i .i64 e.seq]] h fun y h'=>y=.tu [sv (Sm e).1,.i .i64 (Sm e).2]/\AW AN h h':=by
 refine Aw c10 (by intro hb;cases hb) (by simp) (by simp) fun Q hQ=>?_
 simp only[Ah,Nat.reduceAdd]
 repeat' (first
  |refine St.h ?_
  |simp(disch:=first|omega|(simp only[AI];omega))only[AJ,↓AA,↓reduceIte,seval]
  |(with_reducible (first|apply AD|apply AE))<;>(intro hc;(try simp only[AT]at hc);(try simp only[hc]);(try simp only[AR]at hc);try omega))
 refine AL.own (by simp) hf fun h1 s1 n1 o1=>?_
 have hf1:=s1.fl hf
 have r1:=o1.row
 repeat' (first
  |refine St.h ?_
  |simp(disch:=first|omega|(simp only[AI];omega))only[AJ,↓AA,↓reduceIte,seval,r1.ln]
  |(with_reducible (first|apply AD|apply AE))<;>(intro hc;(try simp only[AT]at hc);(try simp only[hc]);(try simp only[AR]at hc);try omega))
 refine CL.stay (QG (a.grow s1) hl hl2 hf1) fun h2 s2=>?_
 have s12:=s1.trans s2
 have hf2:=s12.fl hf
 cases he:G2 e with
 |false=>
  have hb:Sm e=([],10):=by unfold Sm;rw[he];rfl
  repeat' (first
   |refine St.h ?_
   |simp(disch:=first|omega|(simp only[AI];omega))only[AJ,↓AA,↓reduceIte,seval]
   |(with_reducible (first|apply AD|apply AE))<;>(intro hc;(try simp only[AT]at hc);(try simp only[hc]);(try simp only[AR]at hc);try omega))
  subst hQ
  exact⟨by rw[hb],s12⟩
 |true=>
 have hb:Sm e=(Ba (Cg e),0):=by unfold Sm;rw[he];rfl
 have IE:=E9.1 he
 have WA:=IE.WA
 have RR:=IE.RR
 have ll:=Gs fit.g
 have cl:=Fl fun t ht=>⟨IE.tb t ht,fit.c t ht⟩
 have q1:=BJ (n:=e.gone.length) (by omega)
 have q2:=BJ (n:=e.AU.length) (by omega)
 have q3:=BJ (n:=e.log.toNat) (by have:=IE.l1;omega)
 have q4:=BJ (n:=e.seq.toNat) (by have:=IE.s1;omega)
 have eg:((e.gone.length:Int)).toNat=e.gone.length:=by omega
 have ec:((e.AU.length:Int)).toNat=e.AU.length:=by omega
 repeat' (first
  |refine St.h ?_
  |simp(disch:=first|omega|(simp only[AI];omega))only[AJ,↓AA,↓reduceIte,seval]
  |(with_reducible (first|apply AD|apply AE))<;>(intro hc;(try simp only[AT]at hc);(try simp only[hc]);(try simp only[AR]at hc);try omega))
 refine AL.Vq (by simp) hf2 fun h3 s3 n3 o3=>?_
 have hf3:=s3.fl hf2
 have sb:Sb h3 (B.val h2.next) 64 5 h2.next (fun i=>i=h2.next) []:=
  ⟨⟨.p0,.l0,o3,.inl rfl,FU.nil _ _ _,fun i hi=>absurd hi (by rintro⟨_,_,_,_,_,e⟩;cases e),by rintro⟨_,_,_,_,_,e⟩;cases e⟩,rfl,fun i hi=>by rw[hi];exact⟨Nat.le_refl _,by omega⟩⟩
 have a3:=a.grow (s12.trans s3)
 have o1a:=o1.stay s2 fun e=>e
 have o1b:=o1a.stay s3 fun e=>e
 have r3:=o1b.row
 have hx1:B.val h.next<B.val h2.next:=by have:=s2.next;omega
 repeat' (first
  |refine St.h ?_
  |simp(disch:=first|omega|(simp only[AI];omega))only[AJ,↓AA,↓reduceIte,seval,r3.l1,a3.1.ln]
  |(with_reducible (first|apply AD|apply AE))<;>(intro hc;(try simp only[AT]at hc);(try simp only[hc]);(try simp only[AR]at hc);try omega))
 refine CL.stay (Ff (by omega) hf3) fun h4 s4=>?_
 have hf4:=s4.fl hf3
 have sb4:=sb.stay s4 fun _ _ h=>h
 have t4:=s3.trans s4
 repeat' (first
  |refine St.h ?_
  |simp(disch:=first|omega|(simp only[AI];omega))only[AJ,↓AA,↓reduceIte,seval,eg]
  |(with_reducible (first|apply AD|apply AE))<;>(intro hc;(try simp only[AT]at hc);(try simp only[hc]);(try simp only[AR]at hc);try omega))
 refine CL.mk (Cn sb4 (by simp;omega) hf4) ?_
 rintro _ h5 ⟨U5,sb5,s5,hU5⟩
 have t5:=t4.BI s5 fun q hq=>(sb4.lo q hq).1
 have a5:=a.grow (s12.trans t5)
 have r5:=(o1a.stay t5 fun e=>e).row
 repeat' (first
  |refine St.h ?_
  |simp(disch:=first|omega|(simp only[AI];omega))only[AJ,↓AA,↓reduceIte,seval,r5.l1,a5.1.ln]
  |(with_reducible (first|apply AD|apply AE))<;>(intro hc;(try simp only[AT]at hc);(try simp only[hc]);(try simp only[AR]at hc);try omega))
 refine Ok.lp (fun m t k=>∃ (j:Nat) (U:B->Prop),m=e.gone.length-j/\j<=e.gone.length/\AW AN h2 k/\Sb k (B.val h2.next) 64 5 h2.next U (Be e.gone.length++Gy (e.gone.take j))/\get 1 t=.p h.next 0 0 4/\get 4 t=.p h2.next 0 0 2/\get 18 t=g/\get 19 t=.i .i64 (e.gone.length:Int)/\get 20 t=.i .i64 (j:Int)) e.gone.length ?_ ?_
 ·simp(disch:=first|omega|(simp only[AI];omega))only[AJ,↓AA,↓reduceIte,seval]
  refine⟨0,U5,by omega,by omega,t5,by simpa[Gy]using sb5,?_⟩
  repeat' (first|trivial|rfl|refine And.intro ?_ ?_)
 rintro I hI mm t k ⟨j,U,rfl,hj,st,sbk,f1,f4,f18,f19,f20⟩
 have hfk:=st.fl hf2
 have ak:=a.grow (s12.trans st)
 have hrl:(Gy (e.gone.take j)).length<=360:=by
  have:=Gs (g:=e.gone.take j) fun x hx=>fit.g x (List.mem_of_mem_take hx)
  rw[List.length_take]at this;omega
 by_cases hjl:j<e.gone.length
 ·have d1:((j:Int)<(e.gone.length:Int))=True:=eq_true (by omega)
  have hgj:e.gone.getD j 0<=9223372036854775807:=fit.g _ (by rw[List.getD_eq_getElem?_getD,List.getElem?_eq_getElem hjl];exact List.getElem_mem hjl)
  have q5:=BJ (n:=(e.gone.getD j 0).toNat) (by omega)
  repeat' (first
   |refine St.h ?_
   |simp(disch:=first|omega|(simp only[AI];omega))only[AJ,↓AA,↓reduceIte,seval,f1,f4,f18,f19,f20,d1,ak.1.ix,ak.1.ld,Int.toNat_natCast]
   |(with_reducible (first|apply AD|apply AE))<;>(intro hc;(try simp only[AT]at hc);(try simp only[hc]);(try simp only[AR]at hc);try omega))
  refine CL.stay (Ff hgj hfk) fun k1 v1=>?_
  have sb1:=sbk.stay v1 fun _ _ h=>h
  repeat' (first
   |refine St.h ?_
   |simp(disch:=first|omega|(simp only[AI];omega))only[AJ,↓AA,↓reduceIte,seval,f1,f4,f18,f19,f20]
   |(with_reducible (first|apply AD|apply AE))<;>(intro hc;(try simp only[AT]at hc);(try simp only[hc]);(try simp only[AR]at hc);try omega))
  refine CL.mk (Cn sb1 (by simp only[List.length_append];omega) (v1.fl hfk)) ?_
  rintro _ k2 ⟨U2,sb2,v2,hU2⟩
  repeat' (first
   |refine St.h ?_
   |simp(disch:=first|omega|(simp only[AI];omega))only[AJ,↓AA,↓reduceIte,seval,f1,f4,f18,f19,f20]
   |(with_reducible (first|apply AD|apply AE))<;>(intro hc;(try simp only[AT]at hc);(try simp only[hc]);(try simp only[AR]at hc);try omega))
  exact Ai hI (e.gone.length-(j+1)) (by omega) ⟨j+1,U2,rfl,by omega,(st.trans v1).BI v2 fun q hq=>(sb1.lo q hq).1,by rw[UL hjl,<-List.append_assoc];exact sb2,by simp(disch:=first|omega|(simp only[AI];omega))only[AJ,↓AA,↓reduceIte,seval,f1],by simp(disch:=first|omega|(simp only[AI];omega))only[AJ,↓AA,↓reduceIte,seval,f4],by simp(disch:=first|omega|(simp only[AI];omega))only[AJ,↓AA,↓reduceIte,seval,f18],by simp(disch:=first|omega|(simp only[AI];omega))only[AJ,↓AA,↓reduceIte,seval,f19],by simp(disch:=first|omega|(simp only[AI];omega))only[AJ,↓AA,↓reduceIte,seval,f20];rfl⟩
 obtain rfl:j=e.gone.length:=by omega
 rw[List.take_length]at sbk
 have d1:((e.gone.length:Int)<(e.gone.length:Int))=False:=eq_false (by omega)
 have rk:=(o1a.stay st fun e=>e).row
 repeat' (first
  |refine St.h ?_
  |simp(disch:=first|omega|(simp only[AI];omega))only[AJ,↓AA,↓reduceIte,seval,f1,f4,f18,f19,f20,d1,rk.l1,ak.2.ln]
  |(with_reducible (first|apply AD|apply AE))<;>(intro hc;(try simp only[AT]at hc);(try simp only[hc]);(try simp only[AR]at hc);try omega))
 refine CL.stay (Ff (by omega) hfk) fun k1 v1=>?_
 have sb1:=sbk.stay v1 fun _ _ h=>h
 have st1:=st.trans v1
 repeat' (first
  |refine St.h ?_
  |simp(disch:=first|omega|(simp only[AI];omega))only[AJ,↓AA,↓reduceIte,seval,f1,f4,ec]
  |(with_reducible (first|apply AD|apply AE))<;>(intro hc;(try simp only[AT]at hc);(try simp only[hc]);(try simp only[AR]at hc);try omega))
 refine CL.mk (Cn sb1 (by simp only[List.length_append];omega) (v1.fl hfk)) ?_
 rintro _ k2 ⟨U2,sb2,v2,hU2⟩
 have st2:=st1.BI v2 fun q hq=>(sb1.lo q hq).1
 have rk2:=(o1a.stay st2 fun e=>e).row
 have ak2:=a.grow (s12.trans st2)
 repeat' (first
  |refine St.h ?_
  |simp(disch:=first|omega|(simp only[AI];omega))only[AJ,↓AA,↓reduceIte,seval,f1,f4,rk2.l1,ak2.2.ln]
  |(with_reducible (first|apply AD|apply AE))<;>(intro hc;(try simp only[AT]at hc);(try simp only[hc]);(try simp only[AR]at hc);try omega))
 refine Ok.lp (fun m t k=>∃ (j:Nat) (U:B->Prop),m=e.AU.length-j/\j<=e.AU.length/\AW AN h2 k/\Sb k (B.val h2.next) 64 5 h2.next U (Be e.gone.length++Gy e.gone++Be e.AU.length++(e.AU.take j).flatMap F9)/\get 1 t=.p h.next 0 0 4/\get 4 t=.p h2.next 0 0 2/\get 34 t=c/\get 35 t=.i .i64 (e.AU.length:Int)/\get 36 t=.i .i64 (j:Int)) e.AU.length ?_ ?_
 ·simp(disch:=first|omega|(simp only[AI];omega))only[AJ,↓AA,↓reduceIte,seval,f1,f4]
  refine⟨0,U2,by omega,by omega,st2,by simpa using sb2,?_⟩
  repeat' (first|trivial|rfl|refine And.intro ?_ ?_)
 clear f1 f4 f18 f19 f20 sbk sb1 sb2 rk rk2 ak ak2 st st1 st2 hfk hrl
 rintro J hJ mm t k ⟨j,U,rfl,hj,st,sbk,f1,f4,f34,f35,f36⟩
 have hfk:=st.fl hf2
 have ak:=a.grow (s12.trans st)
 have hrl:((e.AU.take j).flatMap F9).length<=40*71:=by
  have:=Fl (L:=e.AU.take j) fun t ht=>⟨IE.tb t (List.mem_of_mem_take ht),fit.c t (List.mem_of_mem_take ht)⟩
  rw[List.length_take]at this;omega
 by_cases hjl:j<e.AU.length
 ·have d2:((j:Int)<(e.AU.length:Int))=True:=eq_true (by omega)
  have tj:=IE.tb _ (Bd hjl)
  have cj:=fit.c _ (Bd hjl)
  have q5:=OP tj cj
  repeat' (first
   |refine St.h ?_
   |simp(disch:=first|omega|(simp only[AI];omega))only[AJ,↓AA,↓reduceIte,seval,f1,f4,f34,f35,f36,d2,ak.2.ix,ak.2.la,Int.toNat_natCast]
   |(with_reducible (first|apply AD|apply AE))<;>(intro hc;(try simp only[AT]at hc);(try simp only[hc]);(try simp only[AR]at hc);try omega))
  refine AL.own (by simp) hfk fun k1 v1 _ p1=>?_
  have hf5:=v1.fl hfk
  repeat' (first
   |refine St.h ?_
   |simp(disch:=first|omega|(simp only[AI];omega))only[AJ,↓AA,↓reduceIte,seval,f1,f4,f34,f35,f36]
   |(with_reducible (first|apply AD|apply AE))<;>(intro hc;(try simp only[AT]at hc);(try simp only[hc]);(try simp only[AR]at hc);try omega))
  refine ST.all p1 rfl rfl (by simp) (by simp) fun k2 p2 v2=>?_
  have v12:AW AN k k2:=v1.BI v2 fun q e=>by rw[e];exact Nat.le_refl _
  have hf6:=v12.fl hfk
  have rp:=p2.row
  repeat' (first
   |refine St.h ?_
   |simp(disch:=first|omega|(simp only[AI];omega))only[AJ,↓AA,↓reduceIte,seval,f1,f4,f34,f35,f36,rp.ln]
   |(with_reducible (first|apply AD|apply AE))<;>(intro hc;(try simp only[AT]at hc);(try simp only[hc]);(try simp only[AR]at hc);try omega))
  refine CL.stay (YO tj cj hf6) fun k3 v3=>?_
  have v13:=v12.trans v3
  have sb3:=sbk.stay v13 fun _ _ h=>h
  repeat' (first
   |refine St.h ?_
   |simp(disch:=first|omega|(simp only[AI];omega))only[AJ,↓AA,↓reduceIte,seval,f1,f4,f34,f35,f36]
   |(with_reducible (first|apply AD|apply AE))<;>(intro hc;(try simp only[AT]at hc);(try simp only[hc]);(try simp only[AR]at hc);try omega))
  refine CL.mk (Cn sb3 (by simp only[List.length_append];omega) (v13.fl hfk)) ?_
  rintro _ k4 ⟨U4,sb4,v4,hU4⟩
  repeat' (first
   |refine St.h ?_
   |simp(disch:=first|omega|(simp only[AI];omega))only[AJ,↓AA,↓reduceIte,seval,f1,f4,f34,f35,f36]
   |(with_reducible (first|apply AD|apply AE))<;>(intro hc;(try simp only[AT]at hc);(try simp only[hc]);(try simp only[AR]at hc);try omega))
  exact Ai hJ (e.AU.length-(j+1)) (by omega) ⟨j+1,U4,rfl,by omega,(st.trans v13).BI v4 fun q hq=>(sb3.lo q hq).1,by rw[R6 hjl,<-List.append_assoc];exact sb4,by simp(disch:=first|omega|(simp only[AI];omega))only[AJ,↓AA,↓reduceIte,seval,f1],by simp(disch:=first|omega|(simp only[AI];omega))only[AJ,↓AA,↓reduceIte,seval,f4],by simp(disch:=first|omega|(simp only[AI];omega))only[AJ,↓AA,↓reduceIte,seval,f34],by simp(disch:=first|omega|(simp only[AI];omega))only[AJ,↓AA,↓reduceIte,seval,f35],by simp(disch:=first|omega|(simp only[AI];omega))only[AJ,↓AA,↓reduceIte,seval,f36];rfl⟩
 obtain rfl:j=e.AU.length:=by omega
 rw[List.take_length]at sbk
 have d2:((e.AU.length:Int)<(e.AU.length:Int))=False:=eq_false (by omega)
 have rk:=(o1a.stay st fun e=>e).row
 repeat' (first
  |refine St.h ?_
  |simp(disch:=first|omega|(simp only[AI];omega))only[AJ,↓AA,↓reduceIte,seval,f1,f4,f34,f35,f36,d2,rk.l1]
  |(with_reducible (first|apply AD|apply AE))<;>(intro hc;(try simp only[AT]at hc);(try simp only[hc]);(try simp only[AR]at hc);try omega))
 refine CL.stay (Ff (by have:=IE.l1;omega) hfk) fun k1 v1=>?_
 have sb1:=sbk.stay v1 fun _ _ h=>h
 have st1:=st.trans v1
 repeat' (first
  |refine St.h ?_
  |simp(disch:=first|omega|(simp only[AI];omega))only[AJ,↓AA,↓reduceIte,seval,f1,f4]
  |(with_reducible (first|apply AD|apply AE))<;>(intro hc;(try simp only[AT]at hc);(try simp only[hc]);(try simp only[AR]at hc);try omega))
 refine CL.mk (Cn sb1 (by simp only[List.length_append];omega) (v1.fl hfk)) ?_
 rintro _ k2 ⟨U2,sb2,v2,hU2⟩
 have st2:=st1.BI v2 fun q hq=>(sb1.lo q hq).1
 have rk2:=(o1a.stay st2 fun e=>e).row
 have hfk2:=st2.fl hf2
 repeat' (first
  |refine St.h ?_
  |simp(disch:=first|omega|(simp only[AI];omega))only[AJ,↓AA,↓reduceIte,seval,f1,f4,rk2.l1]
  |(with_reducible (first|apply AD|apply AE))<;>(intro hc;(try simp only[AT]at hc);(try simp only[hc]);(try simp only[AR]at hc);try omega))
 refine CL.stay (Ff (by have:=IE.s1;omega) hfk2) fun k3 v3=>?_
 have sb3:=sb2.stay v3 fun _ _ h=>h
 have st3:=st2.trans v3
 repeat' (first
  |refine St.h ?_
  |simp(disch:=first|omega|(simp only[AI];omega))only[AJ,↓AA,↓reduceIte,seval,f1,f4]
  |(with_reducible (first|apply AD|apply AE))<;>(intro hc;(try simp only[AT]at hc);(try simp only[hc]);(try simp only[AR]at hc);try omega))
 refine CL.mk (Cn sb3 (by simp only[List.length_append];omega) (v3.fl hfk2)) ?_
 rintro _ k4 ⟨U4,sb4,v4,hU4⟩
 have st4:=st3.BI v4 fun q hq=>(sb3.lo q hq).1
 have hfk4:=st4.fl hf2
 have hpay:Be e.gone.length++Gy e.gone++Be e.AU.length++e.AU.flatMap F9++Be e.log.toNat++Be e.seq.toNat=Cg e:=by unfold Cg;simp only[List.append_assoc]
 rw[hpay]at sb4
 have hpl:(Cg e).length<=4000:=by unfold Cg;simp only[List.length_append];omega
 repeat' (first
  |refine St.h ?_
  |simp(disch:=first|omega|(simp only[AI];omega))only[AJ,↓AA,↓reduceIte,seval,f1,f4]
  |(with_reducible (first|apply AD|apply AE))<;>(intro hc;(try simp only[AT]at hc);(try simp only[hc]);(try simp only[AR]at hc);try omega))
 refine CL.mk (RY sb4 (by omega)) ?_
 rintro _ k5 ⟨rfl,v5⟩
 have st5:=st4.BI v5 fun q hq=>(sb4.lo q hq).1
 repeat' (first
  |refine St.h ?_
  |simp(disch:=first|omega|(simp only[AI];omega))only[AJ,↓AA,↓reduceIte,seval]
  |(with_reducible (first|apply AD|apply AE))<;>(intro hc;(try simp only[AT]at hc);(try simp only[hc]);(try simp only[AR]at hc);try omega))
 refine CL.stay (Wk (by omega) (st5.fl hf2)) fun k6 v6=>?_
 repeat' (first
  |refine St.h ?_
  |simp(disch:=first|omega|(simp only[AI];omega))only[AJ,↓AA,↓reduceIte,seval]
  |(with_reducible (first|apply AD|apply AE))<;>(intro hc;(try simp only[AT]at hc);(try simp only[hc]);(try simp only[AR]at hc);try omega))
 subst hQ
 rw[hb]
 exact⟨rfl,s12.trans (st5.trans v6)⟩
end Go.Proofs.Ytobfgempjekjpaa
set_option maxRecDepth 100000
namespace Go.Ev
open Go
section
variable {P:Program} {q p:Nat} {R:H->Prop}
/--from the n-th operation on:the q-th one floats;R holds up to the p-th -/
def Rk (P:Program) (q p:Nat) (R:H->Prop):List CO->Nat->F->H->(F->H->Prop)->Prop
 |[],_,t,h,K=>K t h
 |o::l,n,t,h,K=>∃ t1 h1,Cu P o t h t1 h1/\(n+1<=p->R h1)/\(n=q->∀ g,R g->Cu P o t g t1 g)/\Rk P q p R l (n+1) t1 h1 K
theorem Rm {nt:Nat} {ops:Array Oper} (bars:Nat->Bool) {K:F->H->Prop}:∀ (l:List Oper) (n:Nat) (rest:List Oper),ops.toList.drop n=l++rest->∀ (t:F) (h:H),
 Rk P q p R (Ac bars P nt ops.toList (Ae P) n l) n t h K->
 ∃ (Ts:Nat->F) (Hs:Nat->H),Ts n=t/\Hs n=h/\K (Ts (n+l.length)) (Hs (n+l.length))/\∀ (i:Nat) o,n<=i->i<n+l.length->ops[i]? =some o->
  BG P nt ops i o true (Ts i) (Ts (i+1)) (Hs i) (Hs (i+1))/\(quiet P o.op=true->Hs (i+1)=Hs i)/\(i+1<=p->R (Hs (i+1)))/\(i=q->∀ g,R g->BG P nt ops i o true (Ts i) (Ts (i+1)) g g):=by
 intro l
 induction l with
 |nil=>
  intro n rest hl t h hk
  exact⟨fun _=>t,fun _=>h,rfl,rfl,hk,fun i o h1 h2=>by simp at h2;omega⟩
 |cons o l ih=>
  intro n rest hl t h hk
  have hn:ops[n]? =some o:=by
   have:ops.toList[n]? =some o:=by
    have:=congrArg (fun l=>l[0]?) hl
    simpa using this
   simpa using this
  obtain⟨t1,h1,k1,k2,k3,k4⟩:=hk
  have hl':ops.toList.drop (n+1)=l++rest:=by rw[<-List.drop_drop,hl];rfl
  obtain⟨Ts,Hs,b1,b2,b3,b4⟩:=ih (n+1) rest hl' _ _ k4
  have e1:n+(o::l).length=n+1+l.length:=by simp;omega
  refine⟨fun i=>if i=n then t else Ts i,fun i=>if i=n then h else Hs i,by simp,by simp,?_,fun i oi h1' h2' hi=>?_⟩
  ·rw[e1]
   simp only[show ¬n+1+l.length=n by omega,if_false]
   exact b3
  ·by_cases hin:i=n
   ·subst hin
    rw[hn]at hi
    cases hi
    simp only[if_true,show ¬i+1=i by omega,if_false,b1,b2]
    exact⟨stepOf hn k1,fun hq=>Jg hq k1,k2,fun e g hg=>stepOf hn (k3 e g hg)⟩
   ·simp only[hin,if_false,show ¬i+1=n by omega]
    exact b4 i oi (by omega) (by rw[e1]at h2';omega) hi
theorem Ok.Sx (hm:P.follows .mixedOrders=true) {nt:Nat} {t:F} {h:H} {K:X->F->H->Prop} {l:List CO} {ld:List Nat} {cs:List (Nat×List Nat)} (q p:Nat) (R:H->Prop)
 (hcs:cs.all (fun c=>decide (c.1=q)&&c.2.all fun j=>decide (j<=p))=true) (hp:p<=l.length) (hR:R h) (k:Rk P q p R l 0 t h fun t' h'=>K .normal t' h'):Ok P nt (.Ax l (some (ld,cs))) t h K:=by
 have ex:∃ t' h',K .normal t' h'/\Rk P q p R l 0 t h fun t1 h1=>t1=t'/\h1=h':=by
  have:∀ (l:List CO) (n:Nat) (t:F) (h:H) (K:F->H->Prop),Rk P q p R l n t h K->∃ t' h',K t' h'/\Rk P q p R l n t h fun t1 h1=>t1=t'/\h1=h':=by
   intro l
   induction l with
   |nil=>intro n t h K hk;exact⟨t,h,hk,rfl,rfl⟩
   |cons o l ih=>
    intro n t h K hk
    obtain⟨t1,h1,k1,k2,k3,k4⟩:=hk
    obtain⟨t',h',a,b⟩:=ih _ _ _ _ k4
    exact⟨t',h',a,t1,h1,k1,k2,k3,b⟩
  exact this l 0 t h _ k
 obtain⟨t',h',kk,k⟩:=ex
 refine⟨.normal,t',h',BQ _ fun c e' hs=>?_,kk⟩
 cases c with
 |region id ops draw=>
  have e1:Ar P nt ops.toList draw=.Ax l (some (ld,cs)):=e'
  unfold Ar at e1
  split at e1
  ·cases e1
  ·split at e1
   ·rename_i hd
    obtain⟨e2,ec⟩:=CC.Ax.inj e1
    have cl:∀ (bars:Nat->Bool) (l:List Oper) (n:Nat),(Ac bars P nt ops.toList (Ae P) n l).length=l.length:=by
     intro bars l
     induction l with
     |nil=>intro n;rfl
     |cons o l ih=>intro n;show(Ac bars P nt ops.toList (Ae P) (n+1) l).length+1=_;rw[ih];rfl
    have hlen:l.length=ops.size:=by rw[<-e2,cl,Array.length_toList]
    rw[<-e2]at k
    obtain⟨Ts,Hs,b1,b2,⟨b3,b3'⟩,b4⟩:=Rm (ops:=ops) _ ops.toList 0 [] (by simp) t h k
    rw[Nat.zero_add,Array.length_toList]at b3 b3' b4
    have hsz:∀ {i:Nat} {o},ops[i]? =some o->i<ops.size:=fun e=>(Array.getElem?_eq_some_iff.1 e).1
    have hRj:∀ j,j<=p->j<=ops.size->R (Hs j):=fun j hj hs=>by
     cases j with
     |zero=>rw[b2];exact hR
     |succ j=>
      have ho:ops[j]? =some (ops[j]'(by omega)):=Array.getElem?_eq_getElem _
      exact(b4 j _ (Nat.zero_le _) (by omega) ho).2.2.1 hj
    obtain⟨f1,f2,f3⟩:=KJ (nt:=nt) (ops:=ops) (Ts:=Ts) (Hs:=Hs) hm hd ec
     (fun i o ho=>⟨(b4 i o (Nat.zero_le _) (hsz ho) ho).1,(b4 i o (Nat.zero_le _) (hsz ho) ho).2.1⟩)
     (fun c hc o ho j hj=>by
       have:=List.all_eq_true.1 hcs c hc
       rw[Bool.and_eq_true,decide_eq_true_eq,List.all_eq_true]at this
       obtain⟨g1,g2⟩:=this
       have g3:=of_decide_eq_true (g2 j hj)
       exact(b4 _ o (Nat.zero_le _) (hsz ho) ho).2.2.2 g1 _ (hRj j g3 (by omega)))
    rw[b2,b3']at f1 f2
    exact⟨f1,f2,fun ρ a w w0 Q A R hQ=>f3 ρ a w w0 id Q (by rw[b1];exact A) (by rw[b2];exact R) (by rw[b2,b3,b3'];exact hQ)⟩
   ·cases e1
 |scope d=>exact absurd rfl (hs d)
 |_=>cases e'
end
section
variable {P:Program} {q p n m:Nat} {R:H->Prop} {l:List CO} {t:F} {h:H} {K:F->H->Prop} {r:CW} {b:Bool}
theorem Yu (k:K t h):Rk P q p R [] n t h K:=k
/--one that doesn't float -/
theorem E6 (hq:n≠q) (a:OR P r t h (.w 0 [] F.zero fun t' h'=>(n+1<=p->R h')/\Rk P q p R l (n+1) (put m (get 0 t') t) h' K)):Rk P q p R (.mk .none (.some (AX m)) b (.mk r)::l) n t h K:=by
 obtain⟨v,h',rr,k⟩:=a
 rw[T7,NH,AA,if_pos rfl]at k
 exact⟨_,h',IU rr,k.1,fun e=>absurd e hq,k.2⟩
theorem Yb (hq:n≠q) (a:OR P r t h (.w0 [] t fun _ h'=>(n+1<=p->R h')/\Rk P q p R l (n+1) t h' K)):Rk P q p R (.mk .none .none b (.mk r)::l) n t h K:=by
 obtain⟨v,h',rr,k⟩:=PV a
 exact⟨_,h',Ma rr,k.1,fun e=>absurd e hq,k.2⟩
/--the one that floats -/
theorem Yt (x:V) (hR:R h) (a:∀ g,R g->OR P r t g (.w 0 [] F.zero fun t' h'=>get 0 t'=x/\h'=g)) (k:Rk P q p R l (q+1) (put m x t) h K):Rk P q p R (.mk .none (.some (AX m)) b (.mk r)::l) q t h K:=
 ⟨_,h,IU (QR (a h hR)),fun _=>hR,fun _ g hg=>IU (QR (a g hg)),k⟩
end
end Go.Ev
set_option maxRecDepth 100000
set_option maxHeartbeats 8000000
namespace Go.Proofs.Ytobfgempjekjpaa
open Go Go.Ev
/--a row of numbers of one's own -/
def VE (x:Int):List V:=[.i .i64 x]
theorem S7 (x:Int):(VE x).length=1:=rfl
def Ri (h:H) (v:V) (xs:List Int):Prop:=Gr 3 1 VE h v xs
theorem WY (xs:List Int):xs.flatMap VE=xs.map (V.i .i64):=by
 induction xs with
 |nil=>rfl
 |cons x xs ih=>rw[List.flatMap_cons,ih];rfl
theorem Ri.il {h:H} {v:V} {xs:List Int} (a:Ri h v xs):Il h v xs:=by
 rcases Gr.ss a with⟨rfl,rfl⟩|⟨id,g,off,fin,cap,rfl,h1,h2,h3⟩
 ·exact .inl ⟨rfl,rfl⟩
 ·rw[WY]at h3
  exact .inr ⟨id,g,off,fin,cap,by rw[List.length_map],by rw[List.length_map];omega,h2,h3⟩
theorem allI (xs:List Int):Bk (xs.flatMap VE)=true:=by
 induction xs with
 |nil=>rfl
 |cons x xs ih=>rw[List.flatMap_cons];show Bk (.i .i64 x::xs.flatMap VE)=true;exact ih
theorem S3 {h:H} {u:V} {M:List Int} {x:Int} {id:B} {N:Nx} (rb:Ri h u M) (o:Ev.CE h id [.i .i64 x]) (hl:M.length<=10000) (hf:B.val h.floor<=B.val h.next)
 (k:∀ u' h',Ri h' u' (M++[x])->AW (Af u) h h'->(∀ i,Af u' i->Af u i\/B.val h.next<=B.val i)->N.go Try.prog u' h'):AP Try.prog 3 1 u (.l id 0 0 1 1 (some 1)) h N:=
 AP.gr (X:=[x]) rb S7 (by omega) (fun k=>by
  have:=J6 (size:=1) (DN:=1) (fin:=1) (cap:=some 1) o.row rfl (Nat.le_refl _) (by omega) (by show 1<=1;omega) k
  rw[this];rfl) (allI _) (by simp) (by simp;omega) hf k
end Go.Proofs.Ytobfgempjekjpaa
set_option maxRecDepth 100000
set_option maxHeartbeats 8000000
namespace Go.Proofs.Ytobfgempjekjpaa
open Go Go.Ev
section
variable {h:H} {q:B} {n:Nat} {l more:List UInt8}
theorem GK (o:Ev.CE h q [sv (Be n++more)]) (hn:n<=9223372036854775807) (hl:(Be n++more).length<=1000000):A3 Try.prog 70 [.p q 0 0 1] h fun y h'=>y=.i .i64 (n:Int)/\Ev.CE h' q [sv more]/\AW (fun i=>i=q) h h':=by
 have r:=o.row
 have ht:=Hw (h:=h) hl
 rw[GO hn more]at ht
 have hle:(Be n).length<=(Be n++more).length:=by simp
 have hdr:(Be n++more).drop (Be n).length=more:=List.drop_left
 refine Aw c70 (by intro hb;cases hb) (by simp) (by simp) fun Q hQ=>?_
 simp only[Ah,Nat.reduceAdd]
 repeat' (first
  |refine St.h ?_
  |simp(disch:=first|omega|(simp only[AI];omega))only[AJ,↓AA,↓reduceIte,seval,r.l1]
  |(with_reducible (first|apply AD|apply AE))<;>(intro hc;(try simp only[AT]at hc);(try simp only[hc]);(try simp only[AR]at hc);try omega))
 refine CL.pure ht ?_
 unfold Yj
 repeat' (first
  |refine St.h ?_
  |simp(disch:=first|omega|(simp only[AI];omega))only[AJ,↓AA,↓reduceIte,seval,r.l1,Int.toNat_natCast,hdr]
  |(with_reducible (first|apply AD|apply AE))<;>(intro hc;(try simp only[AT]at hc);(try simp only[hc]);(try simp only[AR]at hc);try omega))
 refine ST.own o rfl rfl (by omega) (by omega) fun h1 o1 s1=>?_
 repeat' (first
  |refine St.h ?_
  |simp(disch:=first|omega|(simp only[AI];omega))only[AJ,↓AA,↓reduceIte,seval]
  |(with_reducible (first|apply AD|apply AE))<;>(intro hc;(try simp only[AT]at hc);(try simp only[hc]);(try simp only[AR]at hc);try omega))
 subst hQ
 exact⟨rfl,o1,s1⟩
theorem Nm (o:Ev.CE h q [sv (Dl l++more)]) (hn:l.length<=100000) (hl:(Dl l++more).length<=1000000):A3 Try.prog 71 [.p q 0 0 1] h fun y h'=>y=sv l/\Ev.CE h' q [sv more]/\AW (fun i=>i=q) h h':=by
 have r:=o.row
 have ht:=Ny (h:=h) hl
 rw[Oc (by omega)]at ht
 have hle:(Dl l).length<=(Dl l++more).length:=by simp
 have hdr:(Dl l++more).drop (Dl l).length=more:=List.drop_left
 refine Aw c71 (by intro hb;cases hb) (by simp) (by simp) fun Q hQ=>?_
 simp only[Ah,Nat.reduceAdd]
 repeat' (first
  |refine St.h ?_
  |simp(disch:=first|omega|(simp only[AI];omega))only[AJ,↓AA,↓reduceIte,seval,r.l1]
  |(with_reducible (first|apply AD|apply AE))<;>(intro hc;(try simp only[AT]at hc);(try simp only[hc]);(try simp only[AR]at hc);try omega))
 refine CL.pure ht ?_
 unfold yA
 repeat' (first
  |refine St.h ?_
  |simp(disch:=first|omega|(simp only[AI];omega))only[AJ,↓AA,↓reduceIte,seval,r.l1,Int.toNat_natCast,hdr]
  |(with_reducible (first|apply AD|apply AE))<;>(intro hc;(try simp only[AT]at hc);(try simp only[hc]);(try simp only[AR]at hc);try omega))
 refine ST.own o rfl rfl (by omega) (by omega) fun h1 o1 s1=>?_
 repeat' (first
  |refine St.h ?_
  |simp(disch:=first|omega|(simp only[AI];omega))only[AJ,↓AA,↓reduceIte,seval]
  |(with_reducible (first|apply AD|apply AE))<;>(intro hc;(try simp only[AT]at hc);(try simp only[hc]);(try simp only[AR]at hc);try omega))
 subst hQ
 exact⟨rfl,o1,s1⟩
theorem N0 (o:Ev.CE h q [sv (Be n++more)]) (hn:n<=40) (hl:(Be n++more).length<=1000000):A3 Try.prog 69 [.p q 0 0 1] h fun y h'=>y=.i .i64 (n:Int)/\Ev.CE h' q [sv more]/\AW (fun i=>i=q) h h':=by
 have hm:min (n:Int) 40=(n:Int):=by omega
 refine Aw c69 (by intro hb;cases hb) (by simp) (by simp) fun Q hQ=>?_
 simp only[Ah,Nat.reduceAdd]
 repeat' (first
  |refine St.h ?_
  |simp(disch:=first|omega|(simp only[AI];omega))only[AJ,↓AA,↓reduceIte,seval]
  |(with_reducible (first|apply AD|apply AE))<;>(intro hc;(try simp only[AT]at hc);(try simp only[hc]);(try simp only[AR]at hc);try omega))
 refine CL.mk (GK o (by omega) hl) ?_
 rintro _ h1 ⟨rfl,o1,s1⟩
 repeat' (first
  |refine St.h ?_
  |simp(disch:=first|omega|(simp only[AI];omega))only[AJ,↓AA,↓reduceIte,seval,hm]
  |(with_reducible (first|apply AD|apply AE))<;>(intro hc;(try simp only[AT]at hc);(try simp only[hc]);(try simp only[AR]at hc);try omega))
 subst hQ
 exact⟨rfl,o1,s1⟩
end
end Go.Proofs.Ytobfgempjekjpaa
set_option maxRecDepth 100000
set_option maxHeartbeats 8000000
namespace Go.Proofs.Ytobfgempjekjpaa
open Go Go.Ev
theorem Qf {α:Type} [Inhabited α] {L:List α} {i:Nat} (hi:i<L.length):L.drop i=L.getD i default::L.drop (i+1):=by
 rw[List.drop_eq_getElem_cons hi,List.getD_eq_getElem?_getD,List.getElem?_eq_getElem hi];rfl
theorem Q5 {α:Type} [Inhabited α] {L:List α} {i:Nat} (hi:i<L.length):L.take (i+1)=L.take i++[L.getD i default]:=by rw[List.take_succ];simp[List.getD,hi]
theorem Xu (t:Bq) (X:List UInt8):F9 t++X=Be t.id.toNat++(Be t.A7.toNat++(Dl t.fst++(Dl t.DT++(Be t.DN.toNat++X)))):=by unfold F9;simp only[List.append_assoc]
theorem Vr {h:H} {e:D4} (IE:Sk e) (fit:Fit e) (hg:∀ x∈e.gone,0<=x) (hf:B.val h.floor<=B.val h.next):A3 Try.prog 56 [sv (Cg e)] h fun y h'=>∃ g c,y=.a [g,c,.i .i64 e.log,.i .i64 e.seq]/\Oz h' g c e/\(∀ q,Af g q->B.val h.next<=B.val q)/\(∀ q,Af c q->B.val h.next<=B.val q)/\AW AN h h':=by
 have WA:=IE.WA
 have RR:=IE.RR
 have ll:=Gs fit.g
 have cl:=Fl fun t ht=>⟨IE.tb t ht,fit.c t ht⟩
 have q1:=BJ (n:=e.gone.length) (by omega)
 have q2:=BJ (n:=e.AU.length) (by omega)
 have q3:=BJ (n:=e.log.toNat) (by have:=IE.l1;omega)
 have q4:=BJ (n:=e.seq.toNat) (by have:=IE.s1;omega)
 have hpl:(Cg e).length<=4000:=by unfold Cg;simp only[List.length_append];omega
 refine Aw c56 (by intro hb;cases hb) (by simp) (by simp) fun Q hQ=>?_
 simp only[Ah,Nat.reduceAdd]
 repeat' (first
  |refine St.h ?_
  |simp(disch:=first|omega|(simp only[AI];omega))only[AJ,↓AA,↓reduceIte,seval]
  |(with_reducible (first|apply AD|apply AE))<;>(intro hc;(try simp only[AT]at hc);(try simp only[hc]);(try simp only[AR]at hc);try omega))
 refine AL.own (by simp) hf fun h1 s1 n1 o1=>?_
 have hf1:=s1.fl hf
 repeat' (first
  |refine St.h ?_
  |simp(disch:=first|omega|(simp only[AI];omega))only[AJ,↓AA,↓reduceIte,seval]
  |(with_reducible (first|apply AD|apply AE))<;>(intro hc;(try simp only[AT]at hc);(try simp only[hc]);(try simp only[AR]at hc);try omega))
 refine AL.own (by simp) hf1 fun h2 s2 n2 o2=>?_
 have hf2:=s2.fl hf1
 repeat' (first
  |refine St.h ?_
  |simp(disch:=first|omega|(simp only[AI];omega))only[AJ,↓AA,↓reduceIte,seval]
  |(with_reducible (first|apply AD|apply AE))<;>(intro hc;(try simp only[AT]at hc);(try simp only[hc]);(try simp only[AR]at hc);try omega))
 refine ST.own o2 rfl rfl (by omega) (by omega) fun h3 o3 s3=>?_
 have o3:Ev.CE h3 h1.next [sv (Cg e)]:=o3
 have s23:AW AN h1 h3:=s2.BI s3 fun q e=>by rw[e];exact Nat.le_refl _
 have hf3:=s23.fl hf1
 repeat' (first
  |refine St.h ?_
  |simp(disch:=first|omega|(simp only[AI];omega))only[AJ,↓AA,↓reduceIte,seval]
  |(with_reducible (first|apply AD|apply AE))<;>(intro hc;(try simp only[AT]at hc);(try simp only[hc]);(try simp only[AR]at hc);try omega))
 refine AL.own (by simp) hf3 fun h4 s4 n4 o4=>?_
 have hf4:=s4.fl hf3
 have o34:=o3.stay s4 fun e=>e
 have n23:=s3.next
 have nv:h3.next≠h1.next:=fun e=>by have e2:B.val h3.next=B.val h1.next:=(by rw[e]);omega
 have nw:h.next≠h1.next:=fun e=>by have e2:B.val h.next=B.val h1.next:=(by rw[e]);omega
 have nx:h.next≠h3.next:=fun e=>by have e2:B.val h.next=B.val h3.next:=(by rw[e]);omega
 have o14:=(o1.stay s23 fun e=>e).stay s4 fun e=>e
 repeat' (first
  |refine St.h ?_
  |simp(disch:=first|omega|(simp only[AI];omega))only[AJ,↓AA,↓reduceIte,seval]
  |(with_reducible (first|apply AD|apply AE))<;>(intro hc;(try simp only[AT]at hc);(try simp only[hc]);(try simp only[AR]at hc);try omega))
 refine CL.mk (N0 (n:=e.gone.length) (more:=Gy e.gone++(Be e.AU.length++(e.AU.flatMap F9++(Be e.log.toNat++Be e.seq.toNat)))) o34 WA (by show(Cg e).length<=_;omega)) ?_
 rintro _ h5 ⟨rfl,o5,s5⟩
 have s15:AW AN h1 h5:=(s23.trans s4).BI s5 fun q e=>by rw[e];exact Nat.le_refl _
 have o45:=o4.stay s5 nv
 have o15:=o14.stay s5 nw
 repeat' (first
  |refine St.h ?_
  |simp(disch:=first|omega|(simp only[AI];omega))only[AJ,↓AA,↓reduceIte,seval]
  |(with_reducible (first|apply AD|apply AE))<;>(intro hc;(try simp only[AT]at hc);(try simp only[hc]);(try simp only[AR]at hc);try omega))
 refine Ok.lp (fun m t k=>∃ (j:Nat) (u:V),m=e.gone.length-j/\j<=e.gone.length/\get 2 t=.p h.next 0 0 4/\get 3 t=.p h1.next 0 0 1/\get 4 t=.p h3.next 0 0 4/\get 7 t=.i .i64 (e.gone.length:Int)/\get 8 t=.i .i64 (j:Int)/\Ev.CE k h3.next [u,.l0,.i .i64 0,.i .i64 0]/\Ev.CE k h1.next [sv (Gy (e.gone.drop j)++(Be e.AU.length++(e.AU.flatMap F9++(Be e.log.toNat++Be e.seq.toNat))))]/\Ri k u (e.gone.take j)/\(∀ q,Af u q->B.val h4.next<=B.val q)/\Ev.CE k h.next [.l0,.l0,.i .i64 0,.i .i64 0]/\AW AN h1 k/\B.val h4.next<=B.val k.next) e.gone.length ?_ ?_
 ·simp(disch:=first|omega|(simp only[AI];omega))only[AJ,↓AA,↓reduceIte,seval]
  refine⟨0,.l0,by omega,by omega,?_⟩
  refine⟨?_,?_,?_,?_,?_,o45,o5,Gr.nil,?_,o15,s15,s5.next⟩
  rotate_right
  ·rintro i ⟨_,_,_,_,_,e⟩;cases e
  all_goals first|trivial|rfl
 rintro I hI mm t k ⟨j,u,rfl,hj,f2,f3,f4,f7,f8,p4,p3,bu,own,p1,st,hk4⟩
 have hfk:=st.fl hf1
 by_cases hjl:j<e.gone.length
 ·have d1:((j:Int)<(e.gone.length:Int))=True:=eq_true (by omega)
  have hgj:e.gone.getD j 0<=9223372036854775807/\0<=e.gone.getD j 0:=by
   have hm:e.gone.getD j 0∈e.gone:=by rw[List.getD_eq_getElem?_getD,List.getElem?_eq_getElem hjl];exact List.getElem_mem hjl
   exact⟨fit.g _ hm,hg _ hm⟩
  have egj:((e.gone.getD j 0).toNat:Int)=e.gone.getD j 0:=by omega
  have hd:Gy (e.gone.drop j)=Be (e.gone.getD j 0).toNat++Gy (e.gone.drop (j+1)):=by rw[Qf hjl];rfl
  rw[hd,List.append_assoc]at p3
  have hsub:(Gy (e.gone.drop (j+1))).length<=360:=by
   have:=Gs (g:=e.gone.drop (j+1)) fun x hx=>fit.g x (List.mem_of_mem_drop hx)
   rw[List.length_drop]at this;omega
  have q5:=BJ (n:=(e.gone.getD j 0).toNat) (by omega)
  have r4:=p4.row
  repeat' (first
   |with_reducible refine NP ?_
   |refine St.h ?_
   |simp(disch:=first|omega|(simp only[AI];omega))only[AJ,↓AA,↓reduceIte,seval,f2,f3,f4,f7,f8,d1]
   |(with_reducible (first|apply AD|apply AE))<;>(intro hc;(try simp only[AT]at hc);(try simp only[hc]);(try simp only[AR]at hc);try omega))
  refine Ok.Sx Uv 1 4 (fun g=>Row g h3.next 0 0 [u,.l0,.i .i64 0,.i .i64 0]) (by decide) (by decide) r4 ?_
  refine E6 (by omega) ?_
  repeat' (first
   |refine St.h ?_
   |simp(disch:=first|omega|(simp only[AI];omega))only[AJ,↓AA,↓reduceIte,seval,f2,f3,f4,f7,f8]
   |(with_reducible (first|apply AD|apply AE))<;>(intro hc;(try simp only[AT]at hc);(try simp only[hc]);(try simp only[AR]at hc);try omega))
  refine⟨fun _=>r4,?_⟩
  refine Yt u r4 (fun g hg=>by simp(disch:=first|omega|(simp only[AI];omega))only[AJ,↓AA,↓reduceIte,seval,f2,f3,f4,f7,f8,hg.l1]) ?_
  refine E6 (by omega) ?_
  repeat' (first
   |refine St.h ?_
   |simp(disch:=first|omega|(simp only[AI];omega))only[AJ,↓AA,↓reduceIte,seval,f2,f3,f4,f7,f8]
   |(with_reducible (first|apply AD|apply AE))<;>(intro hc;(try simp only[AT]at hc);(try simp only[hc]);(try simp only[AR]at hc);try omega))
  refine CL.mk (GK p3 (by omega) (by simp only[List.length_append];omega)) ?_
  rintro _ k1 ⟨rfl,p31,v1⟩
  have p41:=p4.stay v1 nv
  have r41:=p41.row
  repeat' (first
   |refine St.h ?_
   |simp(disch:=first|omega|(simp only[AI];omega))only[AJ,↓AA,↓reduceIte,seval,f2,f3,f4,f7,f8]
   |(with_reducible (first|apply AD|apply AE))<;>(intro hc;(try simp only[AT]at hc);(try simp only[hc]);(try simp only[AR]at hc);try omega))
  refine⟨fun _=>r41,?_⟩
  refine E6 (by omega) ?_
  repeat' (first
   |refine St.h ?_
   |simp(disch:=first|omega|(simp only[AI];omega))only[AJ,↓AA,↓reduceIte,seval,f2,f3,f4,f7,f8,egj]
   |(with_reducible (first|apply AD|apply AE))<;>(intro hc;(try simp only[AT]at hc);(try simp only[hc]);(try simp only[AR]at hc);try omega))
  refine AL.own (by simp) (v1.fl hfk) fun k2 v2 _ p2=>?_
  have r42:=(p41.stay v2 fun e=>e).row
  have p42:=p41.stay v2 fun e=>e
  have p32:=p31.stay v2 fun e=>e
  have hk2:=v2.fl (v1.fl hfk)
  have nbu:∀ q,Af u q->q≠h1.next:=fun q hq e=>by have h1:=own q hq;have:=s4.next;have:=s3.next;rw[e]at h1;omega
  have nbu4:∀ q,Af u q->q≠h3.next:=fun q hq e=>by have h1:=own q hq;rw[e]at h1;omega
  have nbu0:∀ q,Af u q->q≠h.next:=fun q hq e=>by have h1:=own q hq;have:=s4.next;have:=s3.next;rw[e]at h1;omega
  have bu2:=(bu.stay v1 nbu).grow v2
  repeat' (first
   |refine St.h ?_
   |simp(disch:=first|omega|(simp only[AI];omega))only[AJ,↓AA,↓reduceIte,seval,f2,f3,f4,f7,f8]
   |(with_reducible (first|apply AD|apply AE))<;>(intro hc;(try simp only[AT]at hc);(try simp only[hc]);(try simp only[AR]at hc);try omega))
  refine⟨fun _=>r42,?_⟩
  refine E6 (by omega) ?_
  repeat' (first
   |refine St.h ?_
   |simp(disch:=first|omega|(simp only[AI];omega))only[AJ,↓AA,↓reduceIte,seval,f2,f3,f4,f7,f8]
   |(with_reducible (first|apply AD|apply AE))<;>(intro hc;(try simp only[AT]at hc);(try simp only[hc]);(try simp only[AR]at hc);try omega))
  refine S3 bu2 p2 (by rw[List.length_take];omega) hk2 fun u4 k4 b4 v4 own4=>?_
  have p44:Ev.CE k4 h3.next _:=p42.stay v4 fun e=>nbu4 _ e rfl
  have p34:Ev.CE k4 h1.next _:=p32.stay v4 fun e=>nbu _ e rfl
  have p14:Ev.CE k4 h.next _:=((p1.stay v1 nw).stay v2 fun e=>e).stay v4 fun e=>nbu0 _ e rfl
  have n12:=v1.next
  have n22:=v2.next
  have n44:=v4.next
  have own5:∀ q,Af u4 q->B.val h4.next<=B.val q:=fun q hq=>by
   rcases own4 q hq with h5|h5
   ·exact own q h5
   ·omega
  repeat' (first
   |refine St.h ?_
   |simp(disch:=first|omega|(simp only[AI];omega))only[AJ,↓AA,↓reduceIte,seval,f2,f3,f4,f7,f8]
   |(with_reducible (first|apply AD|apply AE))<;>(intro hc;(try simp only[AT]at hc);(try simp only[hc]);(try simp only[AR]at hc);try omega))
  refine⟨fun e=>by first|exact e.elim|omega,?_⟩
  refine E6 (by omega) ?_
  repeat' (first
   |refine St.h ?_
   |simp(disch:=first|omega|(simp only[AI];omega))only[AJ,↓AA,↓reduceIte,seval,f2,f3,f4,f7,f8]
   |(with_reducible (first|apply AD|apply AE))<;>(intro hc;(try simp only[AT]at hc);(try simp only[hc]);(try simp only[AR]at hc);try omega))
  refine⟨fun e=>by first|exact e.elim|omega,?_⟩
  refine Yb (by omega) ?_
  repeat' (first
   |refine St.h ?_
   |simp(disch:=first|omega|(simp only[AI];omega))only[AJ,↓AA,↓reduceIte,seval,f2,f3,f4,f7,f8]
   |(with_reducible (first|apply AD|apply AE))<;>(intro hc;(try simp only[AT]at hc);(try simp only[hc]);(try simp only[AR]at hc);try omega))
  refine ST.own p44 (Dc b4).1 (Dc b4).2 (by omega) (by omega) fun k5 p45 v5=>?_
  have p45:Ev.CE k5 h3.next [u4,.l0,.i .i64 0,.i .i64 0]:=p45
  repeat' (first
   |refine St.h ?_
   |simp(disch:=first|omega|(simp only[AI];omega))only[AJ,↓AA,↓reduceIte,seval,f2,f3,f4,f7,f8]
   |(with_reducible (first|apply AD|apply AE))<;>(intro hc;(try simp only[AT]at hc);(try simp only[hc]);(try simp only[AR]at hc);try omega))
  refine⟨fun e=>by first|exact e.elim|omega,?_⟩
  refine Yu ?_
  repeat' (first
   |refine St.h ?_
   |simp(disch:=first|omega|(simp only[AI];omega))only[AJ,↓AA,↓reduceIte,seval,f2,f3,f4,f7,f8]
   |(with_reducible (first|apply AD|apply AE))<;>(intro hc;(try simp only[AT]at hc);(try simp only[hc]);(try simp only[AR]at hc);try omega))
  have nb4:∀ q,Af u4 q->q≠h3.next:=fun q hq e=>by have h1:=own5 q hq;rw[e]at h1;omega
  have st4:AW AN h1 k4:=((st.BI v1 fun q e=>by rw[e];exact Nat.le_refl _).trans v2).BI v4 fun q hq=>by have:=own q hq;have:=s4.next;have:=s3.next;have:=s2.next;omega
  have st5:AW AN h1 k5:=st4.BI v5 fun q e=>by rw[e];have:=s3.next;have:=s2.next;omega
  have n55:=v5.next
  exact Ai hI (e.gone.length-(j+1)) (by omega) ⟨j+1,u4,rfl,by omega,by simp(disch:=first|omega|(simp only[AI];omega))only[AJ,↓AA,↓reduceIte,seval,f2],by simp(disch:=first|omega|(simp only[AI];omega))only[AJ,↓AA,↓reduceIte,seval,f3],by simp(disch:=first|omega|(simp only[AI];omega))only[AJ,↓AA,↓reduceIte,seval,f4],by simp(disch:=first|omega|(simp only[AI];omega))only[AJ,↓AA,↓reduceIte,seval,f7],by simp(disch:=first|omega|(simp only[AI];omega))only[AJ,↓AA,↓reduceIte,seval,f8];rfl,p45,p34.stay v5 fun e=>nv e.symm,by rw[Q5 hjl];exact b4.stay v5 nb4,own5,p14.stay v5 nx,st5,by omega⟩
 obtain rfl:j=e.gone.length:=by omega
 have d1:((e.gone.length:Int)<(e.gone.length:Int))=False:=eq_false (by omega)
 rw[List.take_length]at bu
 rw[List.drop_length]at p3
 repeat' (first
  |refine St.h ?_
  |simp(disch:=first|omega|(simp only[AI];omega))only[AJ,↓AA,↓reduceIte,seval,f2,f3,f4,f7,f8,d1]
  |(with_reducible (first|apply AD|apply AE))<;>(intro hc;(try simp only[AT]at hc);(try simp only[hc]);(try simp only[AR]at hc);try omega))
 refine CL.mk (N0 (n:=e.AU.length) (more:=e.AU.flatMap F9++(Be e.log.toNat++Be e.seq.toNat)) p3 RR (by simp only[List.length_append];omega)) ?_
 rintro _ g5 ⟨rfl,p35,v5⟩
 have nbu:∀ q,Af u q->q≠h1.next:=fun q hq e=>by have h1:=own q hq;have:=s4.next;have:=s3.next;rw[e]at h1;omega
 have nbu4:∀ q,Af u q->q≠h3.next:=fun q hq e=>by have h1:=own q hq;rw[e]at h1;omega
 have nbu0:∀ q,Af u q->q≠h.next:=fun q hq e=>by have h1:=own q hq;have:=s4.next;have:=s3.next;rw[e]at h1;omega
 have p45:=p4.stay v5 nv
 have p15:=p1.stay v5 nw
 have bu5:Ri g5 u e.gone:=bu.stay v5 nbu
 have st5:AW AN h1 g5:=st.BI v5 fun q e=>by rw[e];exact Nat.le_refl _
 have hk5:=v5.next
 repeat' (first
  |refine St.h ?_
  |simp(disch:=first|omega|(simp only[AI];omega))only[AJ,↓AA,↓reduceIte,seval,f2,f3,f4,f7,f8]
  |(with_reducible (first|apply AD|apply AE))<;>(intro hc;(try simp only[AT]at hc);(try simp only[hc]);(try simp only[AR]at hc);try omega))
 have hk6:B.val h4.next<=B.val g5.next:=by omega
 refine Ok.lp (fun m t k=>∃ (j:Nat) (w:V),m=e.AU.length-j/\j<=e.AU.length/\get 2 t=.p h.next 0 0 4/\get 3 t=.p h1.next 0 0 1/\get 4 t=.p h3.next 0 0 4/\get 17 t=.i .i64 (e.AU.length:Int)/\get 18 t=.i .i64 (j:Int)/\Ev.CE k h3.next [u,w,.i .i64 0,.i .i64 0]/\Ev.CE k h1.next [sv ((e.AU.drop j).flatMap F9++(Be e.log.toNat++Be e.seq.toNat))]/\Ri k u e.gone/\Rt k w (e.AU.take j)/\(∀ q,Af w q->B.val h4.next<=B.val q/\¬Af u q)/\Ev.CE k h.next [.l0,.l0,.i .i64 0,.i .i64 0]/\AW AN h1 k/\B.val h4.next<=B.val k.next) e.AU.length ?_ ?_
 ·simp(disch:=first|omega|(simp only[AI];omega))only[AJ,↓AA,↓reduceIte,seval]
  refine⟨0,.l0,by omega,by omega,?_⟩
  refine⟨?_,?_,?_,?_,?_,p45,p35,bu5,Gr.nil,?_,p15,st5,hk6⟩
  rotate_right
  ·rintro i ⟨_,_,_,_,_,e⟩;cases e
  all_goals first|trivial|rfl|(simp(disch:=first|omega|(simp only[AI];omega))only[AJ,↓AA,↓reduceIte,seval,f2,f3,f4])
 clear f2 f3 f4 f7 f8 p3 p4 p1 bu hfk st hk4
 clear p45 p35 bu5 p15 st5
 rintro J hJ mm t k ⟨j,w,rfl,hj,f2,f3,f4,f17,f18,p4,p3,bu,bw,oww,p1,st,hk4⟩
 have hfk:=st.fl hf1
 have ult:=Gr.lt bu
 by_cases hjl:j<e.AU.length
 ·have d1:((j:Int)<(e.AU.length:Int))=True:=eq_true (by omega)
  have tj:=IE.tb _ (Bd hjl)
  have cj:=fit.c _ (Bd hjl)
  obtain⟨a1,a2,a3,a4,a5,_,a7⟩:=CU.1 tj
  have e1:((e.AU.getD j default).id.toNat:Int)=(e.AU.getD j default).id:=by omega
  have e2:((e.AU.getD j default).A7.toNat:Int)=(e.AU.getD j default).A7:=by omega
  have e3:((e.AU.getD j default).DN.toNat:Int)=(e.AU.getD j default).DN:=by omega
  have m1:=BJ (n:=(e.AU.getD j default).id.toNat) (by omega)
  have m2:=BJ (n:=(e.AU.getD j default).A7.toNat) (by omega)
  have m3:=BJ (n:=(e.AU.getD j default).DN.toNat) (by omega)
  have m4:=Dk (l:=(e.AU.getD j default).fst) a4.2
  have m5:=Dk (l:=(e.AU.getD j default).DT) a5.2
  have hsub:((e.AU.drop (j+1)).flatMap F9).length<=40*71:=by
   have:=Fl (L:=e.AU.drop (j+1)) fun t ht=>⟨IE.tb t (List.mem_of_mem_drop ht),fit.c t (List.mem_of_mem_drop ht)⟩
   rw[List.length_drop]at this;omega
  rw[Qf hjl,List.flatMap_cons,List.append_assoc,Xu]at p3
  have r4:=p4.row
  repeat' (first
   |with_reducible refine NP ?_
   |refine St.h ?_
   |simp(disch:=first|omega|(simp only[AI];omega))only[AJ,↓AA,↓reduceIte,seval,f2,f3,f4,f17,f18,d1]
   |(with_reducible (first|apply AD|apply AE))<;>(intro hc;(try simp only[AT]at hc);(try simp only[hc]);(try simp only[AR]at hc);try omega))
  refine Ok.Sx Uv 1 9 (fun g=>Row g h3.next 0 0 [u,w,.i .i64 0,.i .i64 0]) (by decide) (by decide) r4 ?_
  refine E6 (by omega) ?_
  repeat' (first
   |refine St.h ?_
   |simp(disch:=first|omega|(simp only[AI];omega))only[AJ,↓AA,↓reduceIte,seval,f2,f3,f4,f17,f18]
   |(with_reducible (first|apply AD|apply AE))<;>(intro hc;(try simp only[AT]at hc);(try simp only[hc]);(try simp only[AR]at hc);try omega))
  refine⟨fun _=>r4,?_⟩
  refine Yt w r4 (fun g hg=>by simp(disch:=first|omega|(simp only[AI];omega))only[AJ,↓AA,↓reduceIte,seval,f2,f3,f4,f17,f18,hg.l1]) ?_
  refine E6 (by omega) ?_
  repeat' (first
   |refine St.h ?_
   |simp(disch:=first|omega|(simp only[AI];omega))only[AJ,↓AA,↓reduceIte,seval,f2,f3,f4,f17,f18]
   |(with_reducible (first|apply AD|apply AE))<;>(intro hc;(try simp only[AT]at hc);(try simp only[hc]);(try simp only[AR]at hc);try omega))
  refine CL.mk (GK p3 (by omega) (by simp only[List.length_append];omega)) ?_
  rintro _ k1 ⟨rfl,p31,v1⟩
  have p41:=p4.stay v1 nv
  have r41:=p41.row
  repeat' (first
   |refine St.h ?_
   |simp(disch:=first|omega|(simp only[AI];omega))only[AJ,↓AA,↓reduceIte,seval,f2,f3,f4,f17,f18,e1]
   |(with_reducible (first|apply AD|apply AE))<;>(intro hc;(try simp only[AT]at hc);(try simp only[hc]);(try simp only[AR]at hc);try omega))
  refine⟨fun _=>r41,?_⟩
  refine E6 (by omega) ?_
  repeat' (first
   |refine St.h ?_
   |simp(disch:=first|omega|(simp only[AI];omega))only[AJ,↓AA,↓reduceIte,seval,f2,f3,f4,f17,f18]
   |(with_reducible (first|apply AD|apply AE))<;>(intro hc;(try simp only[AT]at hc);(try simp only[hc]);(try simp only[AR]at hc);try omega))
  refine CL.mk (GK p31 (by omega) (by simp only[List.length_append];omega)) ?_
  rintro _ k2 ⟨rfl,p32,v2⟩
  have p42:=p41.stay v2 nv
  have r42:=p42.row
  repeat' (first
   |refine St.h ?_
   |simp(disch:=first|omega|(simp only[AI];omega))only[AJ,↓AA,↓reduceIte,seval,f2,f3,f4,f17,f18,e2]
   |(with_reducible (first|apply AD|apply AE))<;>(intro hc;(try simp only[AT]at hc);(try simp only[hc]);(try simp only[AR]at hc);try omega))
  refine⟨fun _=>r42,?_⟩
  refine E6 (by omega) ?_
  repeat' (first
   |refine St.h ?_
   |simp(disch:=first|omega|(simp only[AI];omega))only[AJ,↓AA,↓reduceIte,seval,f2,f3,f4,f17,f18]
   |(with_reducible (first|apply AD|apply AE))<;>(intro hc;(try simp only[AT]at hc);(try simp only[hc]);(try simp only[AR]at hc);try omega))
  refine CL.mk (Nm p32 (by omega) (by simp only[List.length_append];omega)) ?_
  rintro _ k3 ⟨rfl,p33,v3⟩
  have p43:=p42.stay v3 nv
  have r43:=p43.row
  repeat' (first
   |refine St.h ?_
   |simp(disch:=first|omega|(simp only[AI];omega))only[AJ,↓AA,↓reduceIte,seval,f2,f3,f4,f17,f18]
   |(with_reducible (first|apply AD|apply AE))<;>(intro hc;(try simp only[AT]at hc);(try simp only[hc]);(try simp only[AR]at hc);try omega))
  refine⟨fun _=>r43,?_⟩
  refine E6 (by omega) ?_
  repeat' (first
   |refine St.h ?_
   |simp(disch:=first|omega|(simp only[AI];omega))only[AJ,↓AA,↓reduceIte,seval,f2,f3,f4,f17,f18]
   |(with_reducible (first|apply AD|apply AE))<;>(intro hc;(try simp only[AT]at hc);(try simp only[hc]);(try simp only[AR]at hc);try omega))
  refine CL.mk (Nm p33 (by omega) (by simp only[List.length_append];omega)) ?_
  rintro _ k4 ⟨rfl,p34,v4⟩
  have p44:=p43.stay v4 nv
  have r44:=p44.row
  repeat' (first
   |refine St.h ?_
   |simp(disch:=first|omega|(simp only[AI];omega))only[AJ,↓AA,↓reduceIte,seval,f2,f3,f4,f17,f18]
   |(with_reducible (first|apply AD|apply AE))<;>(intro hc;(try simp only[AT]at hc);(try simp only[hc]);(try simp only[AR]at hc);try omega))
  refine⟨fun _=>r44,?_⟩
  refine E6 (by omega) ?_
  repeat' (first
   |refine St.h ?_
   |simp(disch:=first|omega|(simp only[AI];omega))only[AJ,↓AA,↓reduceIte,seval,f2,f3,f4,f17,f18]
   |(with_reducible (first|apply AD|apply AE))<;>(intro hc;(try simp only[AT]at hc);(try simp only[hc]);(try simp only[AR]at hc);try omega))
  refine CL.mk (GK p34 (by omega) (by simp only[List.length_append];omega)) ?_
  rintro _ k5 ⟨rfl,p35,v5⟩
  have p45:=p44.stay v5 nv
  have r45:=p45.row
  repeat' (first
   |refine St.h ?_
   |simp(disch:=first|omega|(simp only[AI];omega))only[AJ,↓AA,↓reduceIte,seval,f2,f3,f4,f17,f18,e3]
   |(with_reducible (first|apply AD|apply AE))<;>(intro hc;(try simp only[AT]at hc);(try simp only[hc]);(try simp only[AR]at hc);try omega))
  refine⟨fun _=>r45,?_⟩
  refine E6 (by omega) ?_
  repeat' (first
   |refine St.h ?_
   |simp(disch:=first|omega|(simp only[AI];omega))only[AJ,↓AA,↓reduceIte,seval,f2,f3,f4,f17,f18]
   |(with_reducible (first|apply AD|apply AE))<;>(intro hc;(try simp only[AT]at hc);(try simp only[hc]);(try simp only[AR]at hc);try omega))
  refine⟨fun _=>r45,?_⟩
  refine E6 (by omega) ?_
  repeat' (first
   |refine St.h ?_
   |simp(disch:=first|omega|(simp only[AI];omega))only[AJ,↓AA,↓reduceIte,seval,f2,f3,f4,f17,f18]
   |(with_reducible (first|apply AD|apply AE))<;>(intro hc;(try simp only[AT]at hc);(try simp only[hc]);(try simp only[AR]at hc);try omega))
  have v15:AW (fun q=>q=h1.next) k k5:=(((v1.trans v2).trans v3).trans v4).trans v5
  have hk5:=v15.fl hfk
  have h5n:=v15.next
  refine AL.own (by simp) hk5 fun k6 v6 _ p6=>?_
  have p6:Ev.CE k6 k5.next (LZ (e.AU.getD j default)):=p6
  have p46:=p45.stay v6 fun e=>e
  have r46:=p46.row
  have p36:=p35.stay v6 fun e=>e
  have hk7:=v6.fl hk5
  have nbw:∀ q,Af w q->q≠h1.next:=fun q hq e=>by have h1:=(oww q hq).1;have:=s4.next;have:=s3.next;rw[e]at h1;omega
  have nbw4:∀ q,Af w q->q≠h3.next:=fun q hq e=>by have h1:=(oww q hq).1;rw[e]at h1;omega
  have nbw0:∀ q,Af w q->q≠h.next:=fun q hq e=>by have h1:=(oww q hq).1;have:=s4.next;have:=s3.next;rw[e]at h1;omega
  have bw6:=(bw.stay v15 nbw).grow v6
  have bu6:=(bu.stay v15 nbu).grow v6
  repeat' (first
   |refine St.h ?_
   |simp(disch:=first|omega|(simp only[AI];omega))only[AJ,↓AA,↓reduceIte,seval,f2,f3,f4,f17,f18]
   |(with_reducible (first|apply AD|apply AE))<;>(intro hc;(try simp only[AT]at hc);(try simp only[hc]);(try simp only[AR]at hc);try omega))
  refine⟨fun _=>r46,?_⟩
  refine E6 (by omega) ?_
  repeat' (first
   |refine St.h ?_
   |simp(disch:=first|omega|(simp only[AI];omega))only[AJ,↓AA,↓reduceIte,seval,f2,f3,f4,f17,f18]
   |(with_reducible (first|apply AD|apply AE))<;>(intro hc;(try simp only[AT]at hc);(try simp only[hc]);(try simp only[AR]at hc);try omega))
  refine Fc (x:=e.AU.getD j default) bw6 p6 (by rw[List.length_take];omega) hk7 fun w7 k7 b7 v7 own7=>?_
  have n6:=v6.next
  have n7:=v7.next
  have p47:Ev.CE k7 h3.next _:=p46.stay v7 fun e=>nbw4 _ e rfl
  have p37:Ev.CE k7 h1.next _:=p36.stay v7 fun e=>nbw _ e rfl
  have p17:Ev.CE k7 h.next _:=((p1.stay v15 nw).stay v6 fun e=>e).stay v7 fun e=>nbw0 _ e rfl
  have bu7:Ri k7 u e.gone:=bu6.stay v7 fun q hq hq2=>(oww q hq2).2 hq
  have own8:∀ q,Af w7 q->B.val h4.next<=B.val q/\¬Af u q:=fun q hq=>by
   rcases own7 q hq with h5|h5
   ·exact oww q h5
   ·exact⟨by omega,fun h6=>by have:=ult q h6;omega⟩
  repeat' (first
   |refine St.h ?_
   |simp(disch:=first|omega|(simp only[AI];omega))only[AJ,↓AA,↓reduceIte,seval,f2,f3,f4,f17,f18]
   |(with_reducible (first|apply AD|apply AE))<;>(intro hc;(try simp only[AT]at hc);(try simp only[hc]);(try simp only[AR]at hc);try omega))
  refine⟨fun e=>by first|exact e.elim|omega,?_⟩
  refine E6 (by omega) ?_
  repeat' (first
   |refine St.h ?_
   |simp(disch:=first|omega|(simp only[AI];omega))only[AJ,↓AA,↓reduceIte,seval,f2,f3,f4,f17,f18]
   |(with_reducible (first|apply AD|apply AE))<;>(intro hc;(try simp only[AT]at hc);(try simp only[hc]);(try simp only[AR]at hc);try omega))
  refine⟨fun e=>by first|exact e.elim|omega,?_⟩
  refine Yb (by omega) ?_
  repeat' (first
   |refine St.h ?_
   |simp(disch:=first|omega|(simp only[AI];omega))only[AJ,↓AA,↓reduceIte,seval,f2,f3,f4,f17,f18]
   |(with_reducible (first|apply AD|apply AE))<;>(intro hc;(try simp only[AT]at hc);(try simp only[hc]);(try simp only[AR]at hc);try omega))
  refine ST.own p47 (Dc b7).1 (Dc b7).2 (by omega) (by omega) fun k8 p48 v8=>?_
  have p48:Ev.CE k8 h3.next [u,w7,.i .i64 0,.i .i64 0]:=p48
  repeat' (first
   |refine St.h ?_
   |simp(disch:=first|omega|(simp only[AI];omega))only[AJ,↓AA,↓reduceIte,seval,f2,f3,f4,f17,f18]
   |(with_reducible (first|apply AD|apply AE))<;>(intro hc;(try simp only[AT]at hc);(try simp only[hc]);(try simp only[AR]at hc);try omega))
  refine⟨fun e=>by first|exact e.elim|omega,?_⟩
  refine Yu ?_
  repeat' (first
   |refine St.h ?_
   |simp(disch:=first|omega|(simp only[AI];omega))only[AJ,↓AA,↓reduceIte,seval,f2,f3,f4,f17,f18]
   |(with_reducible (first|apply AD|apply AE))<;>(intro hc;(try simp only[AT]at hc);(try simp only[hc]);(try simp only[AR]at hc);try omega))
  have nb7:∀ q,Af w7 q->q≠h3.next:=fun q hq e=>by have h1:=(own8 q hq).1;rw[e]at h1;omega
  have st7:AW AN h1 k7:=((st.BI v15 fun q e=>by rw[e];exact Nat.le_refl _).trans v6).BI v7 fun q hq=>by have:=(oww q hq).1;have:=s4.next;have:=s3.next;have:=s2.next;omega
  have st8:AW AN h1 k8:=st7.BI v8 fun q e=>by rw[e];have:=s3.next;have:=s2.next;omega
  have n8:=v8.next
  exact Ai hJ (e.AU.length-(j+1)) (by omega) ⟨j+1,w7,rfl,by omega,by simp(disch:=first|omega|(simp only[AI];omega))only[AJ,↓AA,↓reduceIte,seval,f2],by simp(disch:=first|omega|(simp only[AI];omega))only[AJ,↓AA,↓reduceIte,seval,f3],by simp(disch:=first|omega|(simp only[AI];omega))only[AJ,↓AA,↓reduceIte,seval,f4],by simp(disch:=first|omega|(simp only[AI];omega))only[AJ,↓AA,↓reduceIte,seval,f17],by simp(disch:=first|omega|(simp only[AI];omega))only[AJ,↓AA,↓reduceIte,seval,f18];rfl,p48,p37.stay v8 fun e=>nv e.symm,bu7.stay v8 nbu4,by rw[Q5 hjl];exact b7.stay v8 nb7,own8,p17.stay v8 nx,st8,by omega⟩
 obtain rfl:j=e.AU.length:=by omega
 have d1:((e.AU.length:Int)<(e.AU.length:Int))=False:=eq_false (by omega)
 rw[List.take_length]at bw
 rw[List.drop_length,List.flatMap_nil,List.nil_append]at p3
 have i1:=IE.l1
 have i2:=IE.s1
 have e1:(e.log.toNat:Int)=e.log:=by have:=IE.l0;omega
 have e2:(e.seq.toNat:Int)=e.seq:=by have:=IE.s0;omega
 repeat' (first
  |refine St.h ?_
  |simp(disch:=first|omega|(simp only[AI];omega))only[AJ,↓AA,↓reduceIte,seval,f2,f3,f4,f17,f18,d1]
  |(with_reducible (first|apply AD|apply AE))<;>(intro hc;(try simp only[AT]at hc);(try simp only[hc]);(try simp only[AR]at hc);try omega))
 refine CL.mk (GK p3 (by omega) (by simp only[List.length_append];omega)) ?_
 rintro _ k1 ⟨rfl,p31,v1⟩
 have p31:Ev.CE k1 h1.next [sv (Be e.seq.toNat++[])]:=by rw[List.append_nil];exact p31
 repeat' (first
  |refine St.h ?_
  |simp(disch:=first|omega|(simp only[AI];omega))only[AJ,↓AA,↓reduceIte,seval,f2,f3,f4,f17,f18,e1]
  |(with_reducible (first|apply AD|apply AE))<;>(intro hc;(try simp only[AT]at hc);(try simp only[hc]);(try simp only[AR]at hc);try omega))
 refine CL.mk (GK p31 (by omega) (by simp only[List.length_append,List.length_nil];omega)) ?_
 rintro _ k2 ⟨rfl,p32,v2⟩
 have v12:AW (fun q=>q=h1.next) k k2:=v1.trans v2
 have nbw:∀ q,Af w q->q≠h1.next:=fun q hq e=>by have h1:=(oww q hq).1;have:=s4.next;have:=s3.next;rw[e]at h1;omega
 have nbw4:∀ q,Af w q->q≠h3.next:=fun q hq e=>by have h1:=(oww q hq).1;rw[e]at h1;omega
 have nbw0:∀ q,Af w q->q≠h.next:=fun q hq e=>by have h1:=(oww q hq).1;have:=s4.next;have:=s3.next;rw[e]at h1;omega
 have p42:=p4.stay v12 nv
 have p12:=p1.stay v12 nw
 have bu2:=bu.stay v12 nbu
 have bw2:=bw.stay v12 nbw
 repeat' (first
  |refine St.h ?_
  |simp(disch:=first|omega|(simp only[AI];omega))only[AJ,↓AA,↓reduceIte,seval,f2,f3,f4,f17,f18,e2]
  |(with_reducible (first|apply AD|apply AE))<;>(intro hc;(try simp only[AT]at hc);(try simp only[hc]);(try simp only[AR]at hc);try omega))
 refine ST.own p42 rfl rfl (by omega) (by omega) fun k3 p43 v3=>?_
 have p43:Ev.CE k3 h3.next [u,w,.i .i64 e.log,.i .i64 0]:=p43
 repeat' (first
  |refine St.h ?_
  |simp(disch:=first|omega|(simp only[AI];omega))only[AJ,↓AA,↓reduceIte,seval,f2,f3,f4,f17,f18]
  |(with_reducible (first|apply AD|apply AE))<;>(intro hc;(try simp only[AT]at hc);(try simp only[hc]);(try simp only[AR]at hc);try omega))
 refine ST.own p43 rfl rfl (by omega) (by omega) fun k4 p44 v4=>?_
 have p44:Ev.CE k4 h3.next [u,w,.i .i64 e.log,.i .i64 e.seq]:=p44
 have r44:=p44.row
 have p14:=(p12.stay v3 nx).stay v4 nx
 have bu4:=(bu2.stay v3 nbu4).stay v4 nbu4
 have bw4:=(bw2.stay v3 nbw4).stay v4 nbw4
 repeat' (first
  |refine St.h ?_
  |simp(disch:=first|omega|(simp only[AI];omega))only[AJ,↓AA,↓reduceIte,seval,f2,f3,f4,f17,f18,r44.ln]
  |(with_reducible (first|apply AD|apply AE))<;>(intro hc;(try simp only[AT]at hc);(try simp only[hc]);(try simp only[AR]at hc);try omega))
 refine ST.all p14 rfl (by show Bool.rec (motive:=fun _=>Bool) false (Bool.rec (motive:=fun _=>Bool) false true (ES w)) (ES u)=true;rw[(Dc bu4).2,(Dc bw4).2]) (by simp) (by simp) fun k5 p15 v5=>?_
 have v15:AW AN h1 k4:=((st.BI v12 fun q e=>by rw[e];exact Nat.le_refl _).BI v3 fun q e=>by rw[e];have:=s3.next;have:=s2.next;omega).BI v4 fun q e=>by rw[e];have:=s3.next;have:=s2.next;omega
 have hn:=s1.next
 have h41:B.val h1.next<=B.val h4.next:=by have:=s4.next;have:=s3.next;have:=s2.next;omega
 repeat' (first
  |refine St.h ?_
  |simp(disch:=first|omega|(simp only[AI];omega))only[AJ,↓AA,↓reduceIte,seval,f2,f3,f4,f17,f18,p15.ra4]
  |(with_reducible (first|apply AD|apply AE))<;>(intro hc;(try simp only[AT]at hc);(try simp only[hc]);(try simp only[AR]at hc);try omega))
 subst hQ
 exact⟨u,w,rfl,⟨Ri.il (bu4.stay v5 nbu0),Gr.ss (bw4.stay v5 nbw0)⟩,fun q hq=>by have:=own q hq;omega,fun q hq=>by have:=(oww q hq).1;omega,(s1.trans v15).BI v5 fun q e=>by rw[e];exact Nat.le_refl _⟩
end Go.Proofs.Ytobfgempjekjpaa
set_option maxRecDepth 100000
set_option maxHeartbeats 8000000
namespace Go.Proofs.Ytobfgempjekjpaa
open Go Go.Ev
theorem Mt {h:H} {g c:V} {e:D4} (a:Oz h g c e) (x y:Int):Bk [g,c,.i .i64 x,.i .i64 y]=true:=by
 rcases a.1 with⟨rfl,_⟩|⟨_,_,_,_,_,rfl,_⟩<;>rcases a.2 with⟨rfl,_⟩|⟨_,_,_,_,_,rfl,_⟩<;>rfl
/--what doesn't open -/
theorem R0 {h:H} {s:List UInt8} (hs:(EX s).2.2≠0) (hl:s.length<=1000000) (hf:B.val h.floor<=B.val h.next):A3 Try.prog 40 [sv s] h fun y h'=>y=.tu [.a [.l0,.l0,.i .i64 0,.i .i64 0],.i .i64 0,.b false]/\AW AN h h':=by
 refine Aw RR (by intro hb;cases hb) (by simp) (by simp) fun Q hQ=>?_
 simp only[Ah,Nat.reduceAdd]
 repeat' (first
  |refine St.h ?_
  |simp(disch:=first|omega|(simp only[AI];omega))only[AJ,↓AA,↓reduceIte,seval]
  |(with_reducible (first|apply AD|apply AE))<;>(intro hc;(try simp only[AT]at hc);(try simp only[hc]);(try simp only[AR]at hc);try omega))
 refine AL.own (by simp) hf fun h1 s1 n1 o1=>?_
 have hf1:=s1.fl hf
 repeat' (first
  |refine St.h ?_
  |simp(disch:=first|omega|(simp only[AI];omega))only[AJ,↓AA,↓reduceIte,seval]
  |(with_reducible (first|apply AD|apply AE))<;>(intro hc;(try simp only[AT]at hc);(try simp only[hc]);(try simp only[AR]at hc);try omega))
 refine CL.stay (Q0 hl hf1) fun h2 s2=>?_
 unfold Yo
 have d1:=eq_false hs
 have o2:=o1.stay s2 fun e=>e
 repeat' (first
  |refine St.h ?_
  |simp(disch:=first|omega|(simp only[AI];omega))only[AJ,↓AA,↓reduceIte,seval,d1]
  |(with_reducible (first|apply AD|apply AE))<;>(intro hc;(try simp only[AT]at hc);(try simp only[hc]);(try simp only[AR]at hc);try omega))
 refine ST.all o2 rfl rfl (by simp) (by simp) fun h3 o3 s3=>?_
 repeat' (first
  |refine St.h ?_
  |simp(disch:=first|omega|(simp only[AI];omega))only[AJ,↓AA,↓reduceIte,seval,o3.ra4]
  |(with_reducible (first|apply AD|apply AE))<;>(intro hc;(try simp only[AT]at hc);(try simp only[hc]);(try simp only[AR]at hc);try omega))
 subst hQ
 exact⟨rfl,(s1.trans s2).BI s3 fun q e=>by rw[e];exact Nat.le_refl _⟩
/--what was made of an edit -/
theorem Rw {h:H} {e:D4} {more:List UInt8} (IE:Sk e) (fit:Fit e) (hg:∀ x∈e.gone,0<=x) (hl:(Ba (Cg e)++more).length<=1000000) (hf:B.val h.floor<=B.val h.next):A3 Try.prog 40 [sv (Ba (Cg e)++more)] h fun y h'=>∃ g c,y=.tu [.a [g,c,.i .i64 e.log,.i .i64 e.seq],.i .i64 ((Ba (Cg e)).length:Int),.b true]/\Oz h' g c e/\(∀ q,Af g q->B.val h.next<=B.val q)/\(∀ q,Af c q->B.val h.next<=B.val q)/\AW AN h h':=by
 have gm40:=IE.WA
 have cm40:=IE.RR
 have hpl:(Cg e).length<=1000000:=by have:=F4 (Cg e);rw[List.length_append]at hl;omega
 have ho:=PN (l:=Cg e) (more:=more) (by omega)
 have heb:Sm e=(Ba (Cg e),0):=by unfold Sm;rw[E9.2 IE];rfl
 have htk:(Ba (Cg e)++more).take (Ba (Cg e)).length=Ba (Cg e):=List.take_left
 have hle:(Ba (Cg e)).length<=(Ba (Cg e)++more).length:=by simp
 refine Aw RR (by intro hb;cases hb) (by simp) (by simp) fun Q hQ=>?_
 simp only[Ah,Nat.reduceAdd]
 repeat' (first
  |refine St.h ?_
  |simp(disch:=first|omega|(simp only[AI];omega))only[AJ,↓AA,↓reduceIte,seval]
  |(with_reducible (first|apply AD|apply AE))<;>(intro hc;(try simp only[AT]at hc);(try simp only[hc]);(try simp only[AR]at hc);try omega))
 refine AL.own (by simp) hf fun h1 s1 n1 o1=>?_
 have hf1:=s1.fl hf
 repeat' (first
  |refine St.h ?_
  |simp(disch:=first|omega|(simp only[AI];omega))only[AJ,↓AA,↓reduceIte,seval]
  |(with_reducible (first|apply AD|apply AE))<;>(intro hc;(try simp only[AT]at hc);(try simp only[hc]);(try simp only[AR]at hc);try omega))
 refine CL.stay (Q0 hl hf1) fun h2 s2=>?_
 unfold Yo
 rw[ho]
 have hf2:=s2.fl hf1
 repeat' (first
  |refine St.h ?_
  |simp(disch:=first|omega|(simp only[AI];omega))only[AJ,↓AA,↓reduceIte,seval]
  |(with_reducible (first|apply AD|apply AE))<;>(intro hc;(try simp only[AT]at hc);(try simp only[hc]);(try simp only[AR]at hc);try omega))
 refine CL.mk (Vr IE fit hg hf2) ?_
 rintro _ h3 ⟨g,c,rfl,em,gl,cl,s3⟩
 have hf3:=s3.fl hf2
 repeat' (first
  |refine St.h ?_
  |simp(disch:=first|omega|(simp only[AI];omega))only[AJ,↓AA,↓reduceIte,seval]
  |(with_reducible (first|apply AD|apply AE))<;>(intro hc;(try simp only[AT]at hc);(try simp only[hc]);(try simp only[AR]at hc);try omega))
 refine AL.own (by simp) hf3 fun h4 s4 n4 o4=>?_
 repeat' (first
  |refine St.h ?_
  |simp(disch:=first|omega|(simp only[AI];omega))only[AJ,↓AA,↓reduceIte,seval]
  |(with_reducible (first|apply AD|apply AE))<;>(intro hc;(try simp only[AT]at hc);(try simp only[hc]);(try simp only[AR]at hc);try omega))
 refine ST.all o4 rfl (Mt em _ _) (by simp) (by simp) fun h5 o5 s5=>?_
 have s35:AW AN h3 h5:=s4.BI s5 fun q e=>by rw[e];exact Nat.le_refl _
 have em5:=em.grow s35
 have hf5:=s35.fl hf3
 have r5:=o5.row
 repeat' (first
  |refine St.h ?_
  |simp(disch:=first|omega|(simp only[AI];omega))only[AJ,↓AA,↓reduceIte,seval,r5.ln]
  |(with_reducible (first|apply AD|apply AE))<;>(intro hc;(try simp only[AT]at hc);(try simp only[hc]);(try simp only[AR]at hc);try omega))
 refine CL.stay (Lp em5 fit (by omega) (by omega) hf5) fun h6 s6=>?_
 rw[heb]
 have o6:=o5.stay s6 fun e=>e
 have r6:=o6.row
 have s36:=s35.trans s6
 have o16:=(o1.stay (s2.trans s3) fun e=>e).stay s36 fun e=>e
 have em6:=em.grow s36
 repeat' (first
  |refine St.h ?_
  |simp(disch:=first|omega|(simp only[AI];omega))only[AJ,↓AA,↓reduceIte,seval,Int.toNat_natCast,htk,r6.ln]
  |(with_reducible (first|apply AD|apply AE))<;>(intro hc;(try simp only[AT]at hc);(try simp only[hc]);(try simp only[AR]at hc);try omega))
 refine ST.all o16 rfl (Mt em _ _) (by simp) (by simp) fun h7 o7 s7=>?_
 have n2:=s2.next
 have n1':=s1.next
 have glt:∀ q,Af g q->q≠h.next:=fun q hq e=>by have h1:=gl q hq;rw[e]at h1;omega
 have clt:∀ q,Af c q->q≠h.next:=fun q hq e=>by have h1:=cl q hq;rw[e]at h1;omega
 repeat' (first
  |refine St.h ?_
  |simp(disch:=first|omega|(simp only[AI];omega))only[AJ,↓AA,↓reduceIte,seval,o7.ra4]
  |(with_reducible (first|apply AD|apply AE))<;>(intro hc;(try simp only[AT]at hc);(try simp only[hc]);(try simp only[AR]at hc);try omega))
 subst hQ
 exact⟨g,c,rfl,⟨GY.stay em6.1 s7 fun _ _ _ _ _ _ e=>glt _ ⟨_,_,_,_,_,e⟩,Ss.stay em6.2 s7 clt⟩,fun q hq=>by have:=gl q hq;omega,fun q hq=>by have:=cl q hq;omega,(((s1.trans s2).trans s3).trans s36).BI s7 fun q e=>by rw[e];exact Nat.le_refl _⟩
end Go.Proofs.Ytobfgempjekjpaa
set_option maxRecDepth 100000
set_option maxHeartbeats 8000000
namespace Go.Ev
open Go
def Bh (es:List D4):List UInt8:=es.flatMap fun e=>Ba (Cg e)
def M7 (es:List D4):Iy:=es.foldl (fun S e=>(Gh S e).2) X1
/--all of them do -/
structure V9 (es:List D4):Prop where
 is:∀ e∈es,Sk e
 fit:∀ e∈es,Fit e
 pos:∀ e∈es,∀ x∈e.gone,0<=x
 ok:∀ i,i<es.length->(Gh (M7 (es.take i)) (es.getD i default)).1=0
theorem OJ (es:List D4) (e:D4):M7 (es++[e])=(Gh (M7 es) e).2:=by unfold M7;rw[List.foldl_append];rfl
theorem IF (a b:List D4):Bh (a++b)=Bh a++Bh b:=List.flatMap_append
theorem Kc (e:D4):Bh [e]=Ba (Cg e):=by unfold Bh;simp
theorem wfE (es:List D4):Wf (M7 es):=by
 unfold M7
 suffices ∀ S,Wf S->Wf (es.foldl (fun S e=>(Gh S e).2) S)from this _ wfZ
 induction es with
 |nil=>exact fun S h=>h
 |cons e es ih=>exact fun S h=>ih _ (w6 h)
theorem VO {es:List D4} {i:Nat} (hi:i<es.length):es.take (i+1)=es.take i++[es.getD i default]:=by rw[List.take_succ];simp[List.getD,hi]
theorem UH {es:List D4} {i:Nat} (hi:i<es.length):es.drop i=es.getD i default::es.drop (i+1):=by
 rw[List.drop_eq_getElem_cons hi,List.getD_eq_getElem?_getD,List.getElem?_eq_getElem hi];rfl
theorem OA (es:List D4) (i:Nat):Bh es=Bh (es.take i)++Bh (es.drop i):=by rw[<-IF,List.take_append_drop]
end Go.Ev
namespace Go.Proofs.Ytobfgempjekjpaa
open Go Go.Ev
theorem On {h:H} {es:List D4} {tail:List UInt8} (ok:V9 es) (ht:(EX tail).2.2≠0) (hl:(Bh es++tail).length<=1000000) (hf:B.val h.floor<=B.val h.next):A3 Try.prog 13 [sv (Bh es++tail)] h fun y h'=>∃ b u,y=.tu [.p b 0 0 4,.i .i64 ((Bh es).length:Int),.i .i64 (if (Bh es).length=0 then 10 else 0)]/\Hu h' b u (M7 es)/\AW AN h h':=by
 refine Aw c13 (by intro hb;cases hb) (by simp) (by simp) fun Q hQ=>?_
 simp only[Ah,Nat.reduceAdd]
 repeat' (first
  |refine St.h ?_
  |simp(disch:=first|omega|(simp only[AI];omega))only[AJ,↓AA,↓reduceIte,seval]
  |(with_reducible (first|apply AD|apply AE))<;>(intro hc;(try simp only[AT]at hc);(try simp only[hc]);(try simp only[AR]at hc);try omega))
 refine CL.mk (W8 hf) ?_
 rintro _ h1 ⟨rfl,a1,n1,s1⟩
 repeat' (first
  |refine St.h ?_
  |simp(disch:=first|omega|(simp only[AI];omega))only[AJ,↓AA,↓reduceIte,seval]
  |(with_reducible (first|apply AD|apply AE))<;>(intro hc;(try simp only[AT]at hc);(try simp only[hc]);(try simp only[AR]at hc);try omega))
 refine Ok.lp (fun m t g=>∃ (i:Nat) (u:V),m=es.length-i/\i<=es.length/\get 0 t=sv (Bh es++tail)/\get 5 t=.p h.next 0 0 4/\get 6 t=.i .i64 ((Bh (es.take i)).length:Int)/\Hu g h.next u (M7 (es.take i))/\AW AN h g) es.length ?_ ?_
 ·simp(disch:=first|omega|(simp only[AI];omega))only[AJ,↓AA,↓reduceIte,seval]
  refine⟨0,.l0,by omega,by omega,?_⟩
  refine⟨?_,?_,?_,a1,s1⟩
  all_goals first|trivial|rfl
 rintro I hI m t g ⟨i,u,rfl,hi,f0,f5,f6,sp,st⟩
 have hfg:=st.fl hf
 have hcut:=OA es i
 have hle:(Bh (es.take i)).length<=(Bh es++tail).length:=by rw[List.length_append,hcut,List.length_append];omega
 have hdr:(Bh es++tail).drop (Bh (es.take i)).length=Bh (es.drop i)++tail:=by rw[hcut,List.append_assoc,List.drop_left]
 have bl:=sp.lt.1
 by_cases hil:i<es.length
 case neg=>
  obtain rfl:i=es.length:=by omega
  rw[List.drop_length]at hdr
  have hdr:(Bh es++tail).drop (Bh (es.take es.length)).length=tail:=hdr
  rw[List.take_length]at hdr hle f6 sp
  have htl:tail.length<=1000000:=by rw[List.length_append]at hl;omega
  repeat' (first
   |refine St.h ?_
   |simp(disch:=first|omega|(simp only[AI];omega))only[AJ,↓AA,↓reduceIte,seval,f0,f5,f6,Int.toNat_natCast,hdr]
   |(with_reducible (first|apply AD|apply AE))<;>(intro hc;(try simp only[AT]at hc);(try simp only[hc]);(try simp only[AR]at hc);try omega))
  refine CL.stay (R0 ht htl hfg) fun g1 t1=>?_
  have hf1:=t1.fl hfg
  repeat' (first
   |refine St.h ?_
   |simp(disch:=first|omega|(simp only[AI];omega))only[AJ,↓AA,↓reduceIte,seval,f0,f5,f6]
   |(with_reducible (first|apply AD|apply AE))<;>(intro hc;(try simp only[AT]at hc);(try simp only[hc]);(try simp only[AR]at hc);try omega))
  refine AL.own (by simp) hf1 fun g2 t2 _ o2=>?_
  repeat' (first
   |refine St.h ?_
   |simp(disch:=first|omega|(simp only[AI];omega))only[AJ,↓AA,↓reduceIte,seval,f0,f5,f6]
   |(with_reducible (first|apply AD|apply AE))<;>(intro hc;(try simp only[AT]at hc);(try simp only[hc]);(try simp only[AR]at hc);try omega))
  refine ST.all o2 rfl rfl (by simp) (by simp) fun g3 o3 t3=>?_
  have t13:=(t1.trans t2).BI t3 fun q e=>by rw[e];exact t1.next
  by_cases h0:(Bh es).length=0
  ·have d1:(((Bh es).length:Int)=0)=True:=eq_true (by omega)
   repeat' (first
    |refine St.h ?_
    |simp(disch:=first|omega|(simp only[AI];omega))only[AJ,↓AA,↓reduceIte,seval,f0,f5,f6,d1]
    |(with_reducible (first|apply AD|apply AE))<;>(intro hc;(try simp only[AT]at hc);(try simp only[hc]);(try simp only[AR]at hc);try omega))
   subst hQ
   rw[if_pos h0]
   exact⟨h.next,u,by rw[h0];rfl,sp.grow t13,st.trans t13⟩
  ·have d1:(((Bh es).length:Int)=0)=False:=eq_false (by omega)
   repeat' (first
    |refine St.h ?_
    |simp(disch:=first|omega|(simp only[AI];omega))only[AJ,↓AA,↓reduceIte,seval,f0,f5,f6,d1]
    |(with_reducible (first|apply AD|apply AE))<;>(intro hc;(try simp only[AT]at hc);(try simp only[hc]);(try simp only[AR]at hc);try omega))
   subst hQ
   rw[if_neg h0]
   exact⟨h.next,u,rfl,sp.grow t13,st.trans t13⟩
 have hm:es.getD i default∈es:=Bd hil
 have IE:=ok.is _ hm
 have ft:=ok.fit _ hm
 have hz:=ok.ok i hil
 have htk:=VO hil
 have hlog:Bh (es.drop i)++tail=Ba (Cg (es.getD i default))++(Bh (es.drop (i+1))++tail):=by
  rw[UH hil,<-List.append_assoc];rfl
 rw[hlog]at hdr
 have hl2:(Ba (Cg (es.getD i default))++(Bh (es.drop (i+1))++tail)).length<=1000000:=by
  rw[<-hdr,List.length_drop];omega
 repeat' (first
  |refine St.h ?_
  |simp(disch:=first|omega|(simp only[AI];omega))only[AJ,↓AA,↓reduceIte,seval,f0,f5,f6,Int.toNat_natCast,hdr]
  |(with_reducible (first|apply AD|apply AE))<;>(intro hc;(try simp only[AT]at hc);(try simp only[hc]);(try simp only[AR]at hc);try omega))
 refine CL.mk (Rw IE ft (ok.pos _ hm) hl2 hfg) ?_
 rintro _ g1 ⟨eg,ec,rfl,em,gl,cl,t1⟩
 have hf1:=t1.fl hfg
 repeat' (first
  |refine St.h ?_
  |simp(disch:=first|omega|(simp only[AI];omega))only[AJ,↓AA,↓reduceIte,seval,f0,f5,f6]
  |(with_reducible (first|apply AD|apply AE))<;>(intro hc;(try simp only[AT]at hc);(try simp only[hc]);(try simp only[AR]at hc);try omega))
 refine AL.own (by simp) hf1 fun g2 t2 n2 o2=>?_
 repeat' (first
  |refine St.h ?_
  |simp(disch:=first|omega|(simp only[AI];omega))only[AJ,↓AA,↓reduceIte,seval,f0,f5,f6]
  |(with_reducible (first|apply AD|apply AE))<;>(intro hc;(try simp only[AT]at hc);(try simp only[hc]);(try simp only[AR]at hc);try omega))
 refine ST.all o2 rfl (Mt em _ _) (by simp) (by simp) fun g3 o3 t3=>?_
 have t13:=t2.BI t3 fun q e=>by rw[e];exact Nat.le_refl _
 have em3:=em.grow t13
 have hf3:=t13.fl hf1
 have r3:=o3.row
 have t03:=t1.trans t13
 have w:=wfE (es.take i)
 have hz40:=IE.WA
 have hz41:=IE.RR
 repeat' (first
  |refine St.h ?_
  |simp(disch:=first|omega|(simp only[AI];omega))only[AJ,↓AA,↓reduceIte,seval,f0,f5,f6,r3.ln]
  |(with_reducible (first|apply AD|apply AE))<;>(intro hc;(try simp only[AT]at hc);(try simp only[hc]);(try simp only[AR]at hc);try omega))
 refine CL.mk (uW (sp.grow t03) w em3 (by omega) (by omega) (fun t ht=>by have:=CU.1 (IE.tb t ht);omega) hf3 fun q hq e=>by have h1:=cl q hq;rw[e]at h1;omega) ?_
 rintro _ g4 ⟨rfl,u4,sp4,_,t4⟩
 rw[hz]
 repeat' (first
  |refine St.h ?_
  |simp(disch:=first|omega|(simp only[AI];omega))only[AJ,↓AA,↓reduceIte,seval,f0,f5,f6]
  |(with_reducible (first|apply AD|apply AE))<;>(intro hc;(try simp only[AT]at hc);(try simp only[hc]);(try simp only[AR]at hc);try omega))
 refine Ai hI (es.length-(i+1)) (by omega) ⟨i+1,u4,rfl,by omega,by simp(disch:=first|omega|(simp only[AI];omega))only[AJ,↓AA,↓reduceIte,seval,f0],by simp(disch:=first|omega|(simp only[AI];omega))only[AJ,↓AA,↓reduceIte,seval,f5],?_,by rw[htk,OJ];exact sp4,(st.trans t03).BI t4 fun q e=>by rw[e];exact Nat.le_refl _⟩
 have hll:(Bh (es.take (i+1))).length=(Bh (es.take i)).length+(Ba (Cg (es.getD i default))).length:=by rw[htk,IF,Kc,List.length_append]
 have hll2:((Bh (es.take i)).length:Int)+((Ba (Cg (es.getD i default))).length:Int)=((Bh (es.take (i+1))).length:Int):=by rw[hll];omega
 have hb:(Ba (Cg (es.getD i default))).length<=1000000:=by rw[List.length_append]at hl2;omega
 simp(disch:=first|omega|(simp only[AI];omega))only[AJ,↓AA,↓reduceIte,seval,hll2]
end Go.Proofs.Ytobfgempjekjpaa
set_option maxRecDepth 100000
set_option maxHeartbeats 8000000
namespace Go.Proofs.Ytobfgempjekjpaa
open Go Go.Ev
theorem Wq {h:H} {t:Bq} (hf:B.val h.floor<=B.val h.next):A3 Try.prog 37 [.a [.i .i64 t.id,.i .i64 t.A7,sv t.fst,sv t.DT,.i .i64 t.DN]] h fun y h'=>y=.b (Fy t)/\AW AN h h':=by
 refine Aw c37 (by intro hb;cases hb) (by simp) (by simp) fun Q hQ=>?_
 simp only[Ah,Nat.reduceAdd]
 repeat' (first
  |refine St.h ?_
  |simp(disch:=first|omega|(simp only[AI];omega))only[AJ,↓AA,↓reduceIte,seval]
  |(with_reducible (first|apply AD|apply AE))<;>(intro hc;(try simp only[AT]at hc);(try simp only[hc]);(try simp only[AR]at hc);try omega))
 refine AL.own (by simp) hf fun h1 s1 n1 o1=>?_
 have r1:=o1.row
 have hle:=SX (a:=t.fst) (b:=t.DT)
 cases hb:Op.bytesLess t.DT t.fst
 all_goals
  rw[hb]at hle
  simp only[Bool.not_false,Bool.not_true]at hle
  repeat' (first
   |refine St.h ?_
   |simp(disch:=first|omega|(simp only[AI];omega))only[AJ,↓AA,↓reduceIte,seval,r1.l1,hle]
   |(with_reducible (first|apply AD|apply AE))<;>(intro hc;(try simp only[AT]at hc);(try simp only[hc]);(try simp only[AR]at hc);try omega))
  all_goals
   subst hQ
   refine⟨congrArg V.b ?_,s1⟩
   rw[Bool.eq_iff_iff,CU,hb]
   simp only[decide_eq_true_eq,Bool.false_eq_true,Bool.true_eq_false,false_and,and_false,iff_false,false_iff,true_and,not_false_eq_true]
   try omega
theorem Pf {h:H} {a b:Bq} (hf:B.val h.floor<=B.val h.next):A3 Try.prog 54 [.a [.i .i64 a.id,.i .i64 a.A7,sv a.fst,sv a.DT,.i .i64 a.DN],.a [.i .i64 b.id,.i .i64 b.A7,sv b.fst,sv b.DT,.i .i64 b.DN]] h fun y h'=>y=.b (Gj a b)/\AW AN h h':=by
 refine Aw c54 (by intro hb;cases hb) (by simp) (by simp) fun Q hQ=>?_
 simp only[Ah,Nat.reduceAdd]
 repeat' (first
  |refine St.h ?_
  |simp(disch:=first|omega|(simp only[AI];omega))only[AJ,↓AA,↓reduceIte,seval]
  |(with_reducible (first|apply AD|apply AE))<;>(intro hc;(try simp only[AT]at hc);(try simp only[hc]);(try simp only[AR]at hc);try omega))
 refine AL.own (by simp) hf fun h1 s1 n1 o1=>?_
 have hf1:=s1.fl hf
 repeat' (first
  |refine St.h ?_
  |simp(disch:=first|omega|(simp only[AI];omega))only[AJ,↓AA,↓reduceIte,seval]
  |(with_reducible (first|apply AD|apply AE))<;>(intro hc;(try simp only[AT]at hc);(try simp only[hc]);(try simp only[AR]at hc);try omega))
 refine AL.own (by simp) hf1 fun h2 s2 n2 o2=>?_
 have r1:=(o1.stay s2 fun e=>e).row
 have r2:=o2.row
 unfold Gj at*
 by_cases e:a.A7=b.A7
 ·have d1:=eq_true e
  by_cases e0:a.A7=0
  ·have d2:=eq_true e0
   repeat' (first
    |refine St.h ?_
    |simp(disch:=first|omega|(simp only[AI];omega))only[AJ,↓AA,↓reduceIte,seval,r1.l1,r2.l1,d1,d2]
    |(with_reducible (first|apply AD|apply AE))<;>(intro hc;(try simp only[AT]at hc);(try simp only[hc]);(try simp only[AR]at hc);try omega))
   subst hQ
   refine⟨congrArg V.b ?_,s1.trans s2⟩
   rw[if_pos e,if_pos e0]
  ·have d2:=eq_false e0
   repeat' (first
    |refine St.h ?_
    |simp(disch:=first|omega|(simp only[AI];omega))only[AJ,↓AA,↓reduceIte,seval,r1.l1,r2.l1,d1,d2]
    |(with_reducible (first|apply AD|apply AE))<;>(intro hc;(try simp only[AT]at hc);(try simp only[hc]);(try simp only[AR]at hc);try omega))
   subst hQ
   refine⟨congrArg V.b ?_,s1.trans s2⟩
   rw[if_pos e,if_neg e0]
 ·have d1:=eq_false e
  repeat' (first
   |refine St.h ?_
   |simp(disch:=first|omega|(simp only[AI];omega))only[AJ,↓AA,↓reduceIte,seval,r1.l1,r2.l1,d1]
   |(with_reducible (first|apply AD|apply AE))<;>(intro hc;(try simp only[AT]at hc);(try simp only[hc]);(try simp only[AR]at hc);try omega))
  subst hQ
  refine⟨congrArg V.b ?_,s1.trans s2⟩
  rw[if_neg e]
theorem Vx {h:H} {v:V} {xs:List Int} {x:Int} (hL:Il h v xs) (hl:xs.length<=1000):A3 Try.prog 38 [v,.i .i64 x] h fun y h'=>y=.b (IH xs x)/\h'=h:=by
 refine Aw c38 (by intro hb;cases hb) (by simp) (by simp) fun Q hQ=>?_
 simp only[Ah,Nat.reduceAdd]
 repeat' (first
  |refine St.h ?_
  |simp(disch:=first|omega|(simp only[AI];omega))only[AJ,↓AA,↓reduceIte,seval]
  |(with_reducible (first|apply AD|apply AE))<;>(intro hc;(try simp only[AT]at hc);(try simp only[hc]);(try simp only[AR]at hc);try omega))
 refine Ok.lp (fun m t g=>∃ i:Nat,m=xs.length-i/\i<=xs.length/\h=g/\get 0 t=v/\get 1 t=.i .i64 x/\get 5 t=.i .i64 (i:Int)/\(∀ k,k<i->xs.getD k 0≠x)) xs.length ?_ ?_
 ·simp(disch:=first|omega|(simp only[AI];omega))only[AJ,↓AA,↓reduceIte,seval]
  refine⟨0,by omega,by omega,?_⟩
  refine⟨?_,?_,?_,?_,fun k hk=>by omega⟩
  all_goals first|trivial|rfl
 rintro I hI m t g ⟨i,rfl,hi,rfl,f0,f1,f5,hno⟩
 by_cases hil:i<xs.length
 case neg=>
  obtain rfl:i=xs.length:=by omega
  have d1:((xs.length:Int)<(xs.length:Int))=False:=eq_false (by omega)
  repeat' (first
   |refine St.h ?_
   |simp(disch:=first|omega|(simp only[AI];omega))only[AJ,↓AA,↓reduceIte,seval,f0,f1,f5,d1,hL.ln]
   |(with_reducible (first|apply AD|apply AE))<;>(intro hc;(try simp only[AT]at hc);(try simp only[hc]);(try simp only[AR]at hc);try omega))
  subst hQ
  refine⟨congrArg V.b (Eq.symm (List.any_eq_false.2 fun y hy=>?_)),rfl⟩
  obtain⟨k,hk,rfl⟩:=List.mem_iff_getElem.1 hy
  have:=hno k hk
  simp[List.getD,hk]at this
  simpa using this
 have d1:((i:Int)<(xs.length:Int))=True:=eq_true (by omega)
 by_cases hx:xs.getD i 0=x
 ·have d2:=eq_true hx
  repeat' (first
   |refine St.h ?_
   |simp(disch:=first|omega|(simp only[AI];omega))only[AJ,↓AA,↓reduceIte,seval,f0,f1,f5,d1,d2,hL.ln,hL.ix,hL.ld,Int.toNat_natCast]
   |(with_reducible (first|apply AD|apply AE))<;>(intro hc;(try simp only[AT]at hc);(try simp only[hc]);(try simp only[AR]at hc);try omega))
  subst hQ
  refine⟨congrArg V.b (Eq.symm (List.any_eq_true.2 ⟨xs.getD i 0,?_,by simpa using hx⟩)),rfl⟩
  simp[List.getD,hil]
 ·have d2:=eq_false hx
  repeat' (first
   |refine St.h ?_
   |simp(disch:=first|omega|(simp only[AI];omega))only[AJ,↓AA,↓reduceIte,seval,f0,f1,f5,d1,d2,hL.ln,hL.ix,hL.ld,Int.toNat_natCast]
   |(with_reducible (first|apply AD|apply AE))<;>(intro hc;(try simp only[AT]at hc);(try simp only[hc]);(try simp only[AR]at hc);try omega))
  refine Ai hI (xs.length-(i+1)) (by omega) ⟨i+1,rfl,by omega,rfl,by simp(disch:=first|omega|(simp only[AI];omega))only[AJ,↓AA,↓reduceIte,seval,f0],by simp(disch:=first|omega|(simp only[AI];omega))only[AJ,↓AA,↓reduceIte,seval,f1],by simp(disch:=first|omega|(simp only[AI];omega))only[AJ,↓AA,↓reduceIte,seval,f5];rfl,fun k k1=>?_⟩
  by_cases e:k=i
  ·rw[e];exact hx
  ·exact hno k (by omega)
/--put -/
theorem Xv {h:H} {v:V} {L:List Bq} {x:Bq} (hL:FQ h v L) (hl:L.length<=1000) (hf:B.val h.floor<=B.val h.next):A3 Try.prog 39 [v,.a [.i .i64 x.id,.i .i64 x.A7,sv x.fst,sv x.DT,.i .i64 x.DN]] h fun y h'=>Rt h' y (Ha L x)/\(∀ q,Af y q->B.val h.next<=B.val q)/\AW AN h h':=by
 refine Aw c39 (by intro hb;cases hb) (by simp) (by simp) fun Q hQ=>?_
 simp only[Ah,Nat.reduceAdd]
 repeat' (first
  |refine St.h ?_
  |simp(disch:=first|omega|(simp only[AI];omega))only[AJ,↓AA,↓reduceIte,seval]
  |(with_reducible (first|apply AD|apply AE))<;>(intro hc;(try simp only[AT]at hc);(try simp only[hc]);(try simp only[AR]at hc);try omega))
 refine AL.own (by simp) hf fun h1 s1 n1 o1=>?_
 have hf1:=s1.fl hf
 repeat' (first
  |refine St.h ?_
  |simp(disch:=first|omega|(simp only[AI];omega))only[AJ,↓AA,↓reduceIte,seval]
  |(with_reducible (first|apply AD|apply AE))<;>(intro hc;(try simp only[AT]at hc);(try simp only[hc]);(try simp only[AR]at hc);try omega))
 refine Ok.lp (fun m t g=>∃ (i:Nat) (u:V) (f:Bool) (A:List Bq),m=L.length-i/\i<=L.length/\get 0 t=v/\get 3 t=.p h.next 0 0 5/\get 5 t=u/\get 6 t=.b f/\get 7 t=.i .i64 (i:Int)/\Rt g u A/\(A.length<=i+1/\(f=false->A.length<=i))/\(∀ q,Af u q->B.val h1.next<=B.val q)/\Ha L x=A++(if f then L.drop i else Ha (L.drop i) x)/\AW AN h1 g) L.length ?_ ?_
 ·simp(disch:=first|omega|(simp only[AI];omega))only[AJ,↓AA,↓reduceIte,seval]
  refine⟨0,.l0,false,[],by omega,by omega,?_⟩
  refine⟨?_,?_,?_,?_,?_,Gr.nil,⟨by simp,by simp⟩,?_,by simp,AW.refl _ _⟩
  rotate_right
  ·rintro i ⟨_,_,_,_,_,e⟩;cases e
  all_goals first|trivial|rfl
 rintro I hI m t g ⟨i,u,f,A,rfl,hi,f0,f3,f5,f6,f7,bu,⟨la,lb⟩,own,eq,st⟩
 have hfg:=st.fl hf1
 have Lg:=hL.grow (s1.trans st)
 have og:=o1.stay st fun e=>e
 have rg:Row g h.next 0 0 [.i .i64 x.id,.i .i64 x.A7,sv x.fst,sv x.DT,.i .i64 x.DN]:=og.row
 by_cases hil:i<L.length
 case neg=>
  obtain rfl:i=L.length:=by omega
  have d1:((L.length:Int)<(L.length:Int))=False:=eq_false (by omega)
  rw[List.drop_length]at eq
  cases f with
  |true=>
   rw[if_pos rfl,List.append_nil]at eq
   repeat' (first
    |refine St.h ?_
    |simp(disch:=first|omega|(simp only[AI];omega))only[AJ,↓AA,↓reduceIte,seval,f0,f3,f5,f6,f7,d1,hL.ln]
    |(with_reducible (first|apply AD|apply AE))<;>(intro hc;(try simp only[AT]at hc);(try simp only[hc]);(try simp only[AR]at hc);try omega))
   subst hQ
   rw[eq]
   exact⟨bu,fun q hq=>Nat.le_trans s1.next (own q hq),s1.trans st⟩
  |false=>
   rw[if_neg (by simp)]at eq
   repeat' (first
    |refine St.h ?_
    |simp(disch:=first|omega|(simp only[AI];omega))only[AJ,↓AA,↓reduceIte,seval,f0,f3,f5,f6,f7,d1,hL.ln,rg.ln]
    |(with_reducible (first|apply AD|apply AE))<;>(intro hc;(try simp only[AT]at hc);(try simp only[hc]);(try simp only[AR]at hc);try omega))
   refine AL.own (by simp) hfg fun g3 t3 _ o3=>?_
   repeat' (first
    |refine St.h ?_
    |simp(disch:=first|omega|(simp only[AI];omega))only[AJ,↓AA,↓reduceIte,seval,f0,f3,f5,f6,f7]
    |(with_reducible (first|apply AD|apply AE))<;>(intro hc;(try simp only[AT]at hc);(try simp only[hc]);(try simp only[AR]at hc);try omega))
   refine Fc (x:=x) (bu.grow t3) o3 (by omega) (t3.fl hfg) fun u4 g4 b4 t4 own4=>?_
   repeat' (first
    |refine St.h ?_
    |simp(disch:=first|omega|(simp only[AI];omega))only[AJ,↓AA,↓reduceIte,seval,f0,f3,f5,f6,f7]
    |(with_reducible (first|apply AD|apply AE))<;>(intro hc;(try simp only[AT]at hc);(try simp only[hc]);(try simp only[AR]at hc);try omega))
   subst hQ
   rw[eq]
   have st3:=st.trans t3
   refine⟨b4,fun q hq=>?_,s1.trans (st3.BI t4 fun q hq=>own q hq)⟩
   rcases own4 q hq with h5|h5
   ·exact Nat.le_trans s1.next (own q h5)
   ·exact Nat.le_trans (s1.trans st3).next h5
 have d1:((i:Int)<(L.length:Int))=True:=eq_true (by omega)
 have hdrop:L.drop i=L.getD i default::L.drop (i+1):=by
  rw[List.drop_eq_getElem_cons hil,List.getD_eq_getElem?_getD,List.getElem?_eq_getElem hil];rfl
 cases f with
 |true=>
  rw[if_pos rfl,hdrop]at eq
  repeat' (first
   |refine St.h ?_
   |simp(disch:=first|omega|(simp only[AI];omega))only[AJ,↓AA,↓reduceIte,seval,f0,f3,f5,f6,f7,d1,hL.ln,Lg.ix,Lg.la,Int.toNat_natCast]
   |(with_reducible (first|apply AD|apply AE))<;>(intro hc;(try simp only[AT]at hc);(try simp only[hc]);(try simp only[AR]at hc);try omega))
  refine AL.own (by simp) hfg fun g3 t3 _ o3=>?_
  repeat' (first
   |refine St.h ?_
   |simp(disch:=first|omega|(simp only[AI];omega))only[AJ,↓AA,↓reduceIte,seval,f0,f3,f5,f6,f7]
   |(with_reducible (first|apply AD|apply AE))<;>(intro hc;(try simp only[AT]at hc);(try simp only[hc]);(try simp only[AR]at hc);try omega))
  refine Fc (x:=L.getD i default) (bu.grow t3) o3 (by omega) (t3.fl hfg) fun u4 g4 b4 t4 own4=>?_
  repeat' (first
   |refine St.h ?_
   |simp(disch:=first|omega|(simp only[AI];omega))only[AJ,↓AA,↓reduceIte,seval,f0,f3,f5,f6,f7]
   |(with_reducible (first|apply AD|apply AE))<;>(intro hc;(try simp only[AT]at hc);(try simp only[hc]);(try simp only[AR]at hc);try omega))
  have st3:=st.trans t3
  refine Ai hI (L.length-(i+1)) (by omega) ⟨i+1,u4,true,A++[L.getD i default],rfl,by omega,by simp(disch:=first|omega|(simp only[AI];omega))only[AJ,↓AA,↓reduceIte,seval,f0],by simp(disch:=first|omega|(simp only[AI];omega))only[AJ,↓AA,↓reduceIte,seval,f3],by simp(disch:=first|omega|(simp only[AI];omega))only[AJ,↓AA,↓reduceIte,seval],by simp(disch:=first|omega|(simp only[AI];omega))only[AJ,↓AA,↓reduceIte,seval,f6],by simp(disch:=first|omega|(simp only[AI];omega))only[AJ,↓AA,↓reduceIte,seval,f7];rfl,b4,⟨by rw[List.length_append];simp;omega,fun h=>by cases h⟩,fun q hq=>?_,by rw[eq];simp,st3.BI t4 fun q hq=>own q hq⟩
  rcases own4 q hq with h5|h5
  ·exact own q h5
  ·exact Nat.le_trans st3.next h5
 |false=>
  rw[if_neg (by simp),hdrop]at eq
  have eq:Ha L x=A++(if Gj x (L.getD i default)then x::L.getD i default::L.drop (i+1)else L.getD i default::Ha (L.drop (i+1)) x):=eq
  repeat' (first
   |refine St.h ?_
   |simp(disch:=first|omega|(simp only[AI];omega))only[AJ,↓AA,↓reduceIte,seval,f0,f3,f5,f6,f7,d1,hL.ln,Lg.ix,Lg.la,Int.toNat_natCast,rg.ln]
   |(with_reducible (first|apply AD|apply AE))<;>(intro hc;(try simp only[AT]at hc);(try simp only[hc]);(try simp only[AR]at hc);try omega))
  refine CL.stay (Pf hfg) fun g2 s2=>?_
  have st2:=st.trans s2
  have hf2:=st2.fl hf1
  have L2:=hL.grow (s1.trans st2)
  have r2:Row g2 h.next 0 0 [.i .i64 x.id,.i .i64 x.A7,sv x.fst,sv x.DT,.i .i64 x.DN]:=(o1.stay st2 fun e=>e).row
  cases hb:Gj x (L.getD i default)with
  |true=>
   rw[hb,if_pos rfl]at eq
   repeat' (first
    |refine St.h ?_
    |simp(disch:=first|omega|(simp only[AI];omega))only[AJ,↓AA,↓reduceIte,seval,f0,f3,f5,f6,f7,r2.ln]
    |(with_reducible (first|apply AD|apply AE))<;>(intro hc;(try simp only[AT]at hc);(try simp only[hc]);(try simp only[AR]at hc);try omega))
   refine AL.own (by simp) hf2 fun g3 t3 _ o3=>?_
   repeat' (first
    |refine St.h ?_
    |simp(disch:=first|omega|(simp only[AI];omega))only[AJ,↓AA,↓reduceIte,seval,f0,f3,f5,f6,f7]
    |(with_reducible (first|apply AD|apply AE))<;>(intro hc;(try simp only[AT]at hc);(try simp only[hc]);(try simp only[AR]at hc);try omega))
   refine Fc (x:=x) ((bu.grow s2).grow t3) o3 (by omega) (t3.fl hf2) fun u4 g4 b4 t4 own4=>?_
   have st3:=st2.trans t3
   have st4:AW AN h1 g4:=st3.BI t4 fun q hq=>own q hq
   have hf4:=st4.fl hf1
   have L4:=hL.grow (s1.trans st4)
   have own5:∀ q,Af u4 q->B.val h1.next<=B.val q:=fun q hq=>by
    rcases own4 q hq with h5|h5
    ·exact own q h5
    ·exact Nat.le_trans st3.next h5
   repeat' (first
    |refine St.h ?_
    |simp(disch:=first|omega|(simp only[AI];omega))only[AJ,↓AA,↓reduceIte,seval,f0,f3,f5,f6,f7,L4.ix,L4.la,Int.toNat_natCast]
    |(with_reducible (first|apply AD|apply AE))<;>(intro hc;(try simp only[AT]at hc);(try simp only[hc]);(try simp only[AR]at hc);try omega))
   refine AL.own (by simp) hf4 fun g5 t5 _ o5=>?_
   repeat' (first
    |refine St.h ?_
    |simp(disch:=first|omega|(simp only[AI];omega))only[AJ,↓AA,↓reduceIte,seval,f0,f3,f5,f6,f7]
    |(with_reducible (first|apply AD|apply AE))<;>(intro hc;(try simp only[AT]at hc);(try simp only[hc]);(try simp only[AR]at hc);try omega))
   refine Fc (x:=L.getD i default) (b4.grow t5) o5 (by rw[List.length_append];simp;omega) (t5.fl hf4) fun u6 g6 b6 t6 own6=>?_
   repeat' (first
    |refine St.h ?_
    |simp(disch:=first|omega|(simp only[AI];omega))only[AJ,↓AA,↓reduceIte,seval,f0,f3,f5,f6,f7]
    |(with_reducible (first|apply AD|apply AE))<;>(intro hc;(try simp only[AT]at hc);(try simp only[hc]);(try simp only[AR]at hc);try omega))
   have st5:=st4.trans t5
   refine Ai hI (L.length-(i+1)) (by omega) ⟨i+1,u6,true,(A++[x])++[L.getD i default],rfl,by omega,by simp(disch:=first|omega|(simp only[AI];omega))only[AJ,↓AA,↓reduceIte,seval,f0],by simp(disch:=first|omega|(simp only[AI];omega))only[AJ,↓AA,↓reduceIte,seval,f3],by simp(disch:=first|omega|(simp only[AI];omega))only[AJ,↓AA,↓reduceIte,seval],by simp(disch:=first|omega|(simp only[AI];omega))only[AJ,↓AA,↓reduceIte,seval],by simp(disch:=first|omega|(simp only[AI];omega))only[AJ,↓AA,↓reduceIte,seval,f7];rfl,b6,⟨by rw[List.length_append,List.length_append];simp;have:=lb rfl;omega,fun h=>by cases h⟩,fun q hq=>?_,by rw[eq];simp,st5.BI t6 fun q hq=>own5 q hq⟩
   rcases own6 q hq with h5|h5
   ·exact own5 q h5
   ·exact Nat.le_trans st5.next h5
  |false=>
   rw[hb,if_neg (by simp)]at eq
   repeat' (first
    |refine St.h ?_
    |simp(disch:=first|omega|(simp only[AI];omega))only[AJ,↓AA,↓reduceIte,seval,f0,f3,f5,f6,f7,L2.ix,L2.la,Int.toNat_natCast]
    |(with_reducible (first|apply AD|apply AE))<;>(intro hc;(try simp only[AT]at hc);(try simp only[hc]);(try simp only[AR]at hc);try omega))
   refine AL.own (by simp) hf2 fun g3 t3 _ o3=>?_
   repeat' (first
    |refine St.h ?_
    |simp(disch:=first|omega|(simp only[AI];omega))only[AJ,↓AA,↓reduceIte,seval,f0,f3,f5,f6,f7]
    |(with_reducible (first|apply AD|apply AE))<;>(intro hc;(try simp only[AT]at hc);(try simp only[hc]);(try simp only[AR]at hc);try omega))
   refine Fc (x:=L.getD i default) ((bu.grow s2).grow t3) o3 (by omega) (t3.fl hf2) fun u4 g4 b4 t4 own4=>?_
   repeat' (first
    |refine St.h ?_
    |simp(disch:=first|omega|(simp only[AI];omega))only[AJ,↓AA,↓reduceIte,seval,f0,f3,f5,f6,f7]
    |(with_reducible (first|apply AD|apply AE))<;>(intro hc;(try simp only[AT]at hc);(try simp only[hc]);(try simp only[AR]at hc);try omega))
   have st3:=st2.trans t3
   refine Ai hI (L.length-(i+1)) (by omega) ⟨i+1,u4,false,A++[L.getD i default],rfl,by omega,by simp(disch:=first|omega|(simp only[AI];omega))only[AJ,↓AA,↓reduceIte,seval,f0],by simp(disch:=first|omega|(simp only[AI];omega))only[AJ,↓AA,↓reduceIte,seval,f3],by simp(disch:=first|omega|(simp only[AI];omega))only[AJ,↓AA,↓reduceIte,seval],by simp(disch:=first|omega|(simp only[AI];omega))only[AJ,↓AA,↓reduceIte,seval,f6],by simp(disch:=first|omega|(simp only[AI];omega))only[AJ,↓AA,↓reduceIte,seval,f7];rfl,b4,⟨by rw[List.length_append];simp;omega,fun _=>by rw[List.length_append];simp;have:=lb rfl;omega⟩,fun q hq=>?_,by rw[eq];simp,st3.BI t4 fun q hq=>own q hq⟩
   rcases own4 q hq with h5|h5
   ·exact own q h5
   ·exact Nat.le_trans st3.next h5
end Go.Proofs.Ytobfgempjekjpaa
set_option maxRecDepth 100000
set_option maxHeartbeats 8000000
namespace Go.Proofs.Ytobfgempjekjpaa
open Go Go.Ev
theorem MX {h:H} (hf:B.val h.floor<=B.val h.next):A3 Try.prog 9 [] h fun y h'=>y=.p h.next 0 0 4/\Hu h' h.next .l0 X1/\B.val h'.next=B.val h.next+1/\AW AN h h':=by
 refine Aw c9 (by intro hb;cases hb) (by simp) (by simp) fun Q hQ=>?_
 simp only[Ah,Nat.reduceAdd]
 repeat' (first
  |refine St.h ?_
  |simp(disch:=first|omega|(simp only[AI];omega))only[AJ,↓AA,↓reduceIte,seval]
  |(with_reducible (first|apply AD|apply AE))<;>(intro hc;(try simp only[AT]at hc);(try simp only[hc]);(try simp only[AR]at hc);try omega))
 refine AL.own (by simp) hf fun h1 s1 n1 o1=>?_
 repeat' (first
  |refine St.h ?_
  |simp(disch:=first|omega|(simp only[AI];omega))only[AJ,↓AA,↓reduceIte,seval]
  |(with_reducible (first|apply AD|apply AE))<;>(intro hc;(try simp only[AT]at hc);(try simp only[hc]);(try simp only[AR]at hc);try omega))
 subst hQ
 exact⟨rfl,⟨o1,Ss.nil,by rintro q ⟨_,_,_,_,_,e⟩;cases e⟩,n1,s1⟩
theorem N3 {h:H} {g c:V} {e:D4} (a:Oz h g c e) (hl:e.gone.length<=100000) (hl2:e.AU.length<=100000) (hf:B.val h.floor<=B.val h.next):A3 Try.prog 11 [.a [g,c,.i .i64 e.log,.i .i64 e.seq]] h fun y h'=>y=.b (G2 e)/\AW AN h h':=by
 refine Aw c11 (by intro hb;cases hb) (by simp) (by simp) fun Q hQ=>?_
 simp only[Ah,Nat.reduceAdd]
 repeat' (first
  |refine St.h ?_
  |simp(disch:=first|omega|(simp only[AI];omega))only[AJ,↓AA,↓reduceIte,seval]
  |(with_reducible (first|apply AD|apply AE))<;>(intro hc;(try simp only[AT]at hc);(try simp only[hc]);(try simp only[AR]at hc);try omega))
 refine AL.own (by simp) hf fun h1 s1 n1 o1=>?_
 have r1:=o1.row
 have a1:=a.grow s1
 by_cases hg:e.gone.length<=40
 case neg=>
  have d1:((40:Int)<(e.gone.length:Int))=True:=eq_true (by omega)
  repeat' (first
   |refine St.h ?_
   |simp(disch:=first|omega|(simp only[AI];omega))only[AJ,↓AA,↓reduceIte,seval,r1.l1,a1.1.ln,d1]
   |(with_reducible (first|apply AD|apply AE))<;>(intro hc;(try simp only[AT]at hc);(try simp only[hc]);(try simp only[AR]at hc);try omega))
  subst hQ
  exact⟨congrArg V.b (by rw[KG,decide_eq_false hg];rfl),s1⟩
 have d1:((40:Int)<(e.gone.length:Int))=False:=eq_false (by omega)
 by_cases hc:e.AU.length<=40
 case neg=>
  have d2:((40:Int)<(e.AU.length:Int))=True:=eq_true (by omega)
  repeat' (first
   |refine St.h ?_
   |simp(disch:=first|omega|(simp only[AI];omega))only[AJ,↓AA,↓reduceIte,seval,r1.l1,a1.1.ln,a1.2.ln,d1,d2]
   |(with_reducible (first|apply AD|apply AE))<;>(intro hc;(try simp only[AT]at hc);(try simp only[hc]);(try simp only[AR]at hc);try omega))
  subst hQ
  exact⟨congrArg V.b (by rw[KG,decide_eq_true hg,decide_eq_false hc];rfl),s1⟩
 have d2:((40:Int)<(e.AU.length:Int))=False:=eq_false (by omega)
 have hE:G2 e=(IB e.AU e.AU.length&&(decide (0<=e.log/\e.log<=1000000)&&decide (0<=e.seq/\e.seq<=1000000))):=by rw[KG,decide_eq_true hg,decide_eq_true hc];rfl
 repeat' (first
  |refine St.h ?_
  |simp(disch:=first|omega|(simp only[AI];omega))only[AJ,↓AA,↓reduceIte,seval,r1.l1,a1.1.ln,a1.2.ln,d1,d2]
  |(with_reducible (first|apply AD|apply AE))<;>(intro hc;(try simp only[AT]at hc);(try simp only[hc]);(try simp only[AR]at hc);try omega))
 refine Ok.lp (fun m t g=>∃ i:Nat,m=e.AU.length-i/\i<=e.AU.length/\get 1 t=.p h.next 0 0 4/\get 3 t=.i .i64 (i:Int)/\IB e.AU i=true/\AW AN h1 g) e.AU.length ?_ ?_
 ·simp(disch:=first|omega|(simp only[AI];omega))only[AJ,↓AA,↓reduceIte,seval]
  refine⟨0,by omega,by omega,?_⟩
  refine⟨?_,?_,rfl,AW.refl _ _⟩
  all_goals first|trivial|rfl
 rintro I hI m t g2 ⟨i,rfl,hi,f1,f3,hup,st⟩
 have r2:=(o1.stay st fun e=>e).row
 have a2:=a1.grow st
 have hf2:=st.fl (s1.fl hf)
 by_cases hil:i<e.AU.length
 case neg=>
  obtain rfl:i=e.AU.length:=by omega
  have d3:((e.AU.length:Int)<(e.AU.length:Int))=False:=eq_false (by omega)
  rw[hup,Bool.true_and]at hE
  repeat' (first
   |refine St.h ?_
   |simp(disch:=first|omega|(simp only[AI];omega))only[AJ,↓AA,↓reduceIte,seval,f1,f3,d3,r2.l1,a2.2.ln]
   |(with_reducible (first|apply AD|apply AE))<;>(intro hc;(try simp only[AT]at hc);(try simp only[hc]);(try simp only[AR]at hc);try omega))
  all_goals
   subst hQ
   refine⟨congrArg V.b ?_,s1.trans st⟩
   rw[Bool.eq_iff_iff,hE]
   simp only[Bool.and_eq_true,decide_eq_true_eq,Bool.false_eq_true,false_iff]
   omega
 have d3:((i:Int)<(e.AU.length:Int))=True:=eq_true (by omega)
 have no:LV e.AU i=false->G2 e=false:=fun hx=>by rw[hE,Qt hil hx];rfl
 repeat' (first
  |refine St.h ?_
  |simp(disch:=first|omega|(simp only[AI];omega))only[AJ,↓AA,↓reduceIte,seval,f1,f3,d3,r2.l1,a2.2.ln,a2.2.ix,a2.2.la,Int.toNat_natCast]
  |(with_reducible (first|apply AD|apply AE))<;>(intro hc;(try simp only[AT]at hc);(try simp only[hc]);(try simp only[AR]at hc);try omega))
 refine CL.stay (Wq hf2) fun g5 s5=>?_
 have st5:=st.trans s5
 have r5:=(o1.stay st5 fun e=>e).row
 have a5:=a1.grow st5
 cases hb:Fy (e.AU.getD i default)with
 |false=>
  repeat' (first
   |refine St.h ?_
   |simp(disch:=first|omega|(simp only[AI];omega))only[AJ,↓AA,↓reduceIte,seval,f1,f3]
   |(with_reducible (first|apply AD|apply AE))<;>(intro hc;(try simp only[AT]at hc);(try simp only[hc]);(try simp only[AR]at hc);try omega))
  subst hQ
  exact⟨congrArg V.b (no (by unfold LV;rw[hb];rfl)).symm,s1.trans st5⟩
 |true=>
 by_cases h0:i=0
 ·have hu:LV e.AU i=true:=by unfold LV;rw[hb,decide_eq_true h0];rfl
  have d4:((0:Int)<(i:Int))=False:=eq_false (by omega)
  repeat' (first
   |refine St.h ?_
   |simp(disch:=first|omega|(simp only[AI];omega))only[AJ,↓AA,↓reduceIte,seval,f1,f3,d4]
   |(with_reducible (first|apply AD|apply AE))<;>(intro hc;(try simp only[AT]at hc);(try simp only[hc]);(try simp only[AR]at hc);try omega))
  exact Ai hI (e.AU.length-(i+1)) (by omega) ⟨i+1,rfl,by omega,by simp(disch:=first|omega|(simp only[AI];omega))only[AJ,↓AA,↓reduceIte,seval,f1],by simp(disch:=first|omega|(simp only[AI];omega))only[AJ,↓AA,↓reduceIte,seval,f3];rfl,by rw[HS,hup,hu];rfl,st5⟩
 ·have d4:((0:Int)<(i:Int))=True:=eq_true (by omega)
  have ei:((i:Int)-1).toNat=i-1:=by omega
  by_cases hlt:(e.AU.getD (i-1) default).id<(e.AU.getD i default).id
  ·have hu:LV e.AU i=true:=by unfold LV;rw[hb,decide_eq_true hlt,Bool.or_true];rfl
   have d5:((e.AU.getD i default).id<=(e.AU.getD (i-1) default).id)=False:=eq_false (by omega)
   repeat' (first
    |refine St.h ?_
    |simp(disch:=first|omega|(simp only[AI];omega))only[AJ,↓AA,↓reduceIte,seval,f1,f3,d4,d5,ei,r5.l1,a5.2.ix,a5.2.l0,Int.toNat_natCast]
    |(with_reducible (first|apply AD|apply AE))<;>(intro hc;(try simp only[AT]at hc);(try simp only[hc]);(try simp only[AR]at hc);try omega))
   exact Ai hI (e.AU.length-(i+1)) (by omega) ⟨i+1,rfl,by omega,by simp(disch:=first|omega|(simp only[AI];omega))only[AJ,↓AA,↓reduceIte,seval,f1],by simp(disch:=first|omega|(simp only[AI];omega))only[AJ,↓AA,↓reduceIte,seval,f3];rfl,by rw[HS,hup,hu];rfl,st5⟩
  ·have hu:LV e.AU i=false:=by unfold LV;rw[hb,decide_eq_false hlt,decide_eq_false h0];rfl
   have d5:((e.AU.getD i default).id<=(e.AU.getD (i-1) default).id)=True:=eq_true (by omega)
   repeat' (first
    |refine St.h ?_
    |simp(disch:=first|omega|(simp only[AI];omega))only[AJ,↓AA,↓reduceIte,seval,f1,f3,d4,d5,ei,r5.l1,a5.2.ix,a5.2.l0,Int.toNat_natCast]
    |(with_reducible (first|apply AD|apply AE))<;>(intro hc;(try simp only[AT]at hc);(try simp only[hc]);(try simp only[AR]at hc);try omega))
   subst hQ
   exact⟨congrArg V.b (no hu).symm,s1.trans st5⟩
theorem MH {L:List Bq} {p:Bq->Bool} {j:Nat} (hj:j<L.length):(L.take (j+1)).filter p=(L.take j).filter p++(if p (L.getD j default)then [L.getD j default]else []):=by
 have:L.take (j+1)=L.take j++[L.getD j default]:=by rw[List.take_succ];simp[List.getD,hj]
 rw[this,List.filter_append]
 cases hb:p (L.getD j default)with
 |true=>rw[List.filter_cons,if_pos hb];rfl
 |false=>rw[List.filter_cons,if_neg (by rw[hb];simp)];rfl
theorem Oq {h:H} {b:B} {v:V} {S:Iy} {k:Int} (a:Hu h b v S) (hl:S.L.length<=1000) (hf:B.val h.floor<=B.val h.next):A3 Try.prog 41 [.p b 0 0 4,.i .i64 k] h fun y h'=>FQ h' y (S.L.filter fun t=>decide (t.A7=k))/\AW AN h h':=by
 refine Aw c41 (by intro hb;cases hb) (by simp) (by simp) fun Q hQ=>?_
 simp only[Ah,Nat.reduceAdd]
 repeat' (first
  |refine St.h ?_
  |simp(disch:=first|omega|(simp only[AI];omega))only[AJ,↓AA,↓reduceIte,seval]
  |(with_reducible (first|apply AD|apply AE))<;>(intro hc;(try simp only[AT]at hc);(try simp only[hc]);(try simp only[AR]at hc);try omega))
 refine Ok.lp (fun m t g=>∃ (i:Nat) (u:V),m=S.L.length-i/\i<=S.L.length/\get 0 t=.p b 0 0 4/\get 1 t=.i .i64 k/\get 5 t=u/\get 6 t=.i .i64 (i:Int)/\Rt g u ((S.L.take i).filter fun t=>decide (t.A7=k))/\(∀ q,Af u q->B.val h.next<=B.val q)/\AW AN h g) S.L.length ?_ ?_
 ·simp(disch:=first|omega|(simp only[AI];omega))only[AJ,↓AA,↓reduceIte,seval]
  refine⟨0,.l0,by omega,by omega,?_⟩
  refine⟨?_,?_,?_,?_,Gr.nil,?_,AW.refl _ _⟩
  rotate_right
  ·rintro i ⟨_,_,_,_,_,e⟩;cases e
  all_goals first|trivial|rfl
 rintro I hI m t g ⟨i,u,rfl,hi,f0,f1,f5,f6,bu,own,st⟩
 have hfg:=st.fl hf
 have ag:=a.grow st
 have rg:=ag.1.row
 have Lg:=ag.2.1
 by_cases hil:i<S.L.length
 case neg=>
  obtain rfl:i=S.L.length:=by omega
  rw[List.take_length]at bu
  have d1:((S.L.length:Int)<(S.L.length:Int))=False:=eq_false (by omega)
  repeat' (first
   |refine St.h ?_
   |simp(disch:=first|omega|(simp only[AI];omega))only[AJ,↓AA,↓reduceIte,seval,f0,f1,f5,f6,d1,rg.l1,Lg.ln]
   |(with_reducible (first|apply AD|apply AE))<;>(intro hc;(try simp only[AT]at hc);(try simp only[hc]);(try simp only[AR]at hc);try omega))
  subst hQ
  exact⟨bu.Dr,st⟩
 have d1:((i:Int)<(S.L.length:Int))=True:=eq_true (by omega)
 have hlen:((S.L.take i).filter fun t=>decide (t.A7=k)).length<=1000:=by
  have:=List.length_filter_le (fun t:Bq=>decide (t.A7=k)) (S.L.take i)
  rw[List.length_take]at this;omega
 have filt:=MH (p:=fun t=>decide (t.A7=k)) hil
 by_cases hk:(S.L.getD i default).A7=k
 ·have d2:=eq_true hk
  rw[decide_eq_true hk,if_pos rfl]at filt
  repeat' (first
   |refine St.h ?_
   |simp(disch:=first|omega|(simp only[AI];omega))only[AJ,↓AA,↓reduceIte,seval,f0,f1,f5,f6,d1,d2,rg.l1,Lg.ln,Lg.ix,Lg.l1,Lg.la,Int.toNat_natCast]
   |(with_reducible (first|apply AD|apply AE))<;>(intro hc;(try simp only[AT]at hc);(try simp only[hc]);(try simp only[AR]at hc);try omega))
  refine AL.own (by simp) hfg fun g3 t3 _ o3=>?_
  repeat' (first
   |refine St.h ?_
   |simp(disch:=first|omega|(simp only[AI];omega))only[AJ,↓AA,↓reduceIte,seval,f0,f1,f5,f6]
   |(with_reducible (first|apply AD|apply AE))<;>(intro hc;(try simp only[AT]at hc);(try simp only[hc]);(try simp only[AR]at hc);try omega))
  refine Fc (x:=S.L.getD i default) (bu.grow t3) o3 (by omega) (t3.fl hfg) fun u4 g4 b4 t4 own4=>?_
  repeat' (first
   |refine St.h ?_
   |simp(disch:=first|omega|(simp only[AI];omega))only[AJ,↓AA,↓reduceIte,seval,f0,f1,f5,f6]
   |(with_reducible (first|apply AD|apply AE))<;>(intro hc;(try simp only[AT]at hc);(try simp only[hc]);(try simp only[AR]at hc);try omega))
  have st3:=st.trans t3
  refine Ai hI (S.L.length-(i+1)) (by omega) ⟨i+1,u4,rfl,by omega,by simp(disch:=first|omega|(simp only[AI];omega))only[AJ,↓AA,↓reduceIte,seval,f0],by simp(disch:=first|omega|(simp only[AI];omega))only[AJ,↓AA,↓reduceIte,seval,f1],by simp(disch:=first|omega|(simp only[AI];omega))only[AJ,↓AA,↓reduceIte,seval],by simp(disch:=first|omega|(simp only[AI];omega))only[AJ,↓AA,↓reduceIte,seval,f6];rfl,by rw[filt];exact b4,fun q hq=>?_,st3.BI t4 fun q hq=>own q hq⟩
  rcases own4 q hq with h5|h5
  ·exact own q h5
  ·exact Nat.le_trans st3.next h5
 ·have d2:=eq_false hk
  rw[decide_eq_false hk,if_neg (by simp),List.append_nil]at filt
  repeat' (first
   |refine St.h ?_
   |simp(disch:=first|omega|(simp only[AI];omega))only[AJ,↓AA,↓reduceIte,seval,f0,f1,f5,f6,d1,d2,rg.l1,Lg.ln,Lg.ix,Lg.l1,Lg.la,Int.toNat_natCast]
   |(with_reducible (first|apply AD|apply AE))<;>(intro hc;(try simp only[AT]at hc);(try simp only[hc]);(try simp only[AR]at hc);try omega))
  exact Ai hI (S.L.length-(i+1)) (by omega) ⟨i+1,u,rfl,by omega,by simp(disch:=first|omega|(simp only[AI];omega))only[AJ,↓AA,↓reduceIte,seval,f0],by simp(disch:=first|omega|(simp only[AI];omega))only[AJ,↓AA,↓reduceIte,seval,f1],by simp(disch:=first|omega|(simp only[AI];omega))only[AJ,↓AA,↓reduceIte,seval,f5],by simp(disch:=first|omega|(simp only[AI];omega))only[AJ,↓AA,↓reduceIte,seval,f6];rfl,by rw[filt];exact bu,own,st⟩
end Go.Proofs.Ytobfgempjekjpaa
set_option maxRecDepth 100000
set_option maxHeartbeats 8000000
namespace Go.Proofs.Ytobfgempjekjpaa
open Go Go.Ev
def rV (Mid:F->H->Prop):Ev.X->F->H->Prop
 |.normal,t,h=>Mid t h
 |_,_,_=>False
theorem TK {Mid:F->H->Prop} {t:F} {h:H}:rV Mid .normal t h=Mid t h:=rfl
theorem Qa {P:Program} {nt:Nat} {a b:CC} {t:F} {h:H} {K:Ev.X->F->H->Prop} (Mid:F->H->Prop) (p:Ok P nt a t h (rV Mid)) (k:∀ t g,Mid t g->Ok P nt b t g K):Ok P nt (.seq a b) t h K:=
 Ok.sq (p.mono fun x t g m=>by cases x with
  |normal=>exact k t g m
  |ret=>exact m.elim
  |exit id=>exact m.elim)
theorem any_push {L:List Bq} {p:Bq->Bool} {j:Nat} (hj:j<L.length):(L.take (j+1)).any p=((L.take j).any p||p (L.getD j default)):=by
 have:L.take (j+1)=L.take j++[L.getD j default]:=by rw[List.take_succ];simp[List.getD,hj]
 rw[this,List.any_append];simp
theorem Xt {L:List Bq} {g:List Int} {k:Nat} (hk:k<g.length) (h:L.any (fun t=>decide (t.id=g.getD k 0))=false):Oo L g=false:=by
 refine List.all_eq_false.2 ⟨g.getD k 0,?_,by rw[h];simp⟩
 simp[List.getD,hk]
theorem TV {L:List Bq} {g:List Int} (h:∀ k,k<g.length->L.any (fun t=>decide (t.id=g.getD k 0))=true):Oo L g=true:=by
 refine List.all_eq_true.2 fun x hx=>?_
 obtain⟨k,hk,rfl⟩:=List.mem_iff_getElem.1 hx
 have:=h k hk
 rwa [List.getD_eq_getElem?_getD,List.getElem?_eq_getElem hk]at this
theorem WQ (L:List Bq) (t:Bq):(Ha L t).length=L.length+1:=(IZ L t).length_eq
theorem lh {h:H} {b:B} {v g c:V} {S:Iy} {e:D4} (a:Hu h b v S) (hl:S.L.length<=100) (m:Oz h g c e) (hgl:e.gone.length<=100) (hcm:e.AU.length<=100) (hf:B.val h.floor<=B.val h.next) (hcb:∀ q,Af c q->q≠b):
 A3 Try.prog 12 [.p b 0 0 4,.a [g,c,.i .i64 e.log,.i .i64 e.seq]] h fun y h'=>y=.i .i64 (Gh S e).1/\∃ v',Hu h' b v' (Gh S e).2/\(∀ q,Af v' q->Af v q\/B.val h.next<=B.val q)/\AW (fun q=>q=b) h h':=by
 refine Aw c12 (by intro hb;cases hb) (by simp) (by simp) fun Q hQ=>?_
 simp only[Ah,Nat.reduceAdd]
 repeat' (first
  |refine St.h ?_
  |simp(disch:=first|omega|(simp only[AI];omega))only[AJ,↓AA,↓reduceIte,seval]
  |(with_reducible (first|apply AD|apply AE))<;>(intro hc;(try simp only[AT]at hc);(try simp only[hc]);(try simp only[AR]at hc);try omega))
 refine AL.own (by simp) hf fun h1 s1 n1 o1=>?_
 have hf1:=s1.fl hf
 have r1:=o1.row
 repeat' (first
  |refine St.h ?_
  |simp(disch:=first|omega|(simp only[AI];omega))only[AJ,↓AA,↓reduceIte,seval,r1.ln]
  |(with_reducible (first|apply AD|apply AE))<;>(intro hc;(try simp only[AT]at hc);(try simp only[hc]);(try simp only[AR]at hc);try omega))
 refine CL.stay (N3 (m.grow s1) (by omega) (by omega) hf1) fun h2 s2=>?_
 have s12:=s1.trans s2
 have hf2:=s12.fl hf
 have up:∀ {h'},AW AN h h'->AW (fun q=>q=b) h h':=fun s=>s.mono fun _ _ e=>e.elim
 cases he:G2 e with
 |false=>
  have ed:Gh S e=(10,S):=by unfold Gh;rw[if_pos he]
  repeat' (first
   |refine St.h ?_
   |simp(disch:=first|omega|(simp only[AI];omega))only[AJ,↓AA,↓reduceIte,seval]
   |(with_reducible (first|apply AD|apply AE))<;>(intro hc;(try simp only[AT]at hc);(try simp only[hc]);(try simp only[AR]at hc);try omega))
  subst hQ
  rw[ed]
  exact⟨rfl,v,a.grow s12,fun q hq=>.inl hq,up s12⟩
 |true=>
 have IE:=E9.1 he
 repeat' (first
  |refine St.h ?_
  |simp(disch:=first|omega|(simp only[AI];omega))only[AJ,↓AA,↓reduceIte,seval]
  |(with_reducible (first|apply AD|apply AE))<;>(intro hc;(try simp only[AT]at hc);(try simp only[hc]);(try simp only[AR]at hc);try omega))
 --what is left
 refine Ok.lp (fun m t g'=>∃ (i:Nat) (u:V),m=S.L.length-i/\i<=S.L.length/\get 0 t=.p b 0 0 4/\get 3 t=.p h.next 0 0 4/\get 5 t=u/\get 6 t=.i .i64 (i:Int)/\Rt g' u (CX (S.L.take i) e.gone)/\(∀ q,Af u q->B.val h1.next<=B.val q)/\AW AN h1 g') S.L.length ?_ ?_
 ·simp(disch:=first|omega|(simp only[AI];omega))only[AJ,↓AA,↓reduceIte,seval]
  refine⟨0,.l0,by omega,by omega,?_⟩
  refine⟨?_,?_,?_,?_,Gr.nil,?_,s2⟩
  rotate_right
  ·rintro i ⟨_,_,_,_,_,e⟩;cases e
  all_goals first|trivial|rfl
 rintro I hI mm t g1 ⟨i,u,rfl,hi,f0,f3,f5,f6,bu,own,st⟩
 have ag:=a.grow (s1.trans st)
 have mg:=m.grow (s1.trans st)
 have rg:=ag.1.row
 have Lg:=ag.2.1
 have rb:=(o1.stay st fun e=>e).row
 have hfg:=st.fl hf1
 by_cases hil:i<S.L.length
 ·have d1:((i:Int)<(S.L.length:Int))=True:=eq_true (by omega)
  have hlen:(CX (S.L.take i) e.gone).length<=1000:=by
   have:=List.length_filter_le (fun t:Bq=>!IH e.gone t.id) (S.L.take i)
   rw[List.length_take]at this;show(List.filter _ _).length<=_;omega
  have filt:CX (S.L.take (i+1)) e.gone=CX (S.L.take i) e.gone++_:=MH (p:=fun t=>!IH e.gone t.id) hil
  repeat' (first
   |refine St.h ?_
   |simp(disch:=first|omega|(simp only[AI];omega))only[AJ,↓AA,↓reduceIte,seval,f0,f3,f5,f6,d1,rg.l1,rb.l1,Lg.ln,Lg.ix,Lg.l0,Int.toNat_natCast]
   |(with_reducible (first|apply AD|apply AE))<;>(intro hc;(try simp only[AT]at hc);(try simp only[hc]);(try simp only[AR]at hc);try omega))
  refine CL.pure (Vx mg.1 (by omega)) ?_
  cases hb:IH e.gone (S.L.getD i default).id with
  |true=>
   rw[hb,if_neg (by simp),List.append_nil]at filt
   repeat' (first
    |refine St.h ?_
    |simp(disch:=first|omega|(simp only[AI];omega))only[AJ,↓AA,↓reduceIte,seval,f0,f3,f5,f6]
    |(with_reducible (first|apply AD|apply AE))<;>(intro hc;(try simp only[AT]at hc);(try simp only[hc]);(try simp only[AR]at hc);try omega))
   exact Ai hI (S.L.length-(i+1)) (by omega) ⟨i+1,u,rfl,by omega,by simp(disch:=first|omega|(simp only[AI];omega))only[AJ,↓AA,↓reduceIte,seval,f0],by simp(disch:=first|omega|(simp only[AI];omega))only[AJ,↓AA,↓reduceIte,seval,f3],by simp(disch:=first|omega|(simp only[AI];omega))only[AJ,↓AA,↓reduceIte,seval,f5],by simp(disch:=first|omega|(simp only[AI];omega))only[AJ,↓AA,↓reduceIte,seval,f6];rfl,by rw[filt];exact bu,own,st⟩
  |false=>
   rw[hb,if_pos (by simp)]at filt
   repeat' (first
    |refine St.h ?_
    |simp(disch:=first|omega|(simp only[AI];omega))only[AJ,↓AA,↓reduceIte,seval,f0,f3,f5,f6,rg.l1,Lg.ix,Lg.la,Int.toNat_natCast]
    |(with_reducible (first|apply AD|apply AE))<;>(intro hc;(try simp only[AT]at hc);(try simp only[hc]);(try simp only[AR]at hc);try omega))
   refine AL.own (by simp) hfg fun g3 t3 _ o3=>?_
   repeat' (first
    |refine St.h ?_
    |simp(disch:=first|omega|(simp only[AI];omega))only[AJ,↓AA,↓reduceIte,seval,f0,f3,f5,f6]
    |(with_reducible (first|apply AD|apply AE))<;>(intro hc;(try simp only[AT]at hc);(try simp only[hc]);(try simp only[AR]at hc);try omega))
   refine Fc (x:=S.L.getD i default) (bu.grow t3) o3 (by omega) (t3.fl hfg) fun u4 g4 b4 t4 own4=>?_
   repeat' (first
    |refine St.h ?_
    |simp(disch:=first|omega|(simp only[AI];omega))only[AJ,↓AA,↓reduceIte,seval,f0,f3,f5,f6]
    |(with_reducible (first|apply AD|apply AE))<;>(intro hc;(try simp only[AT]at hc);(try simp only[hc]);(try simp only[AR]at hc);try omega))
   have st3:=st.trans t3
   refine Ai hI (S.L.length-(i+1)) (by omega) ⟨i+1,u4,rfl,by omega,by simp(disch:=first|omega|(simp only[AI];omega))only[AJ,↓AA,↓reduceIte,seval,f0],by simp(disch:=first|omega|(simp only[AI];omega))only[AJ,↓AA,↓reduceIte,seval,f3],by simp(disch:=first|omega|(simp only[AI];omega))only[AJ,↓AA,↓reduceIte,seval],by simp(disch:=first|omega|(simp only[AI];omega))only[AJ,↓AA,↓reduceIte,seval,f6];rfl,by rw[filt];exact b4,fun q hq=>?_,st3.BI t4 fun q hq=>own q hq⟩
   rcases own4 q hq with h5|h5
   ·exact own q h5
   ·exact Nat.le_trans st3.next h5
 obtain rfl:i=S.L.length:=by omega
 rw[List.take_length]at bu
 have d1:((S.L.length:Int)<(S.L.length:Int))=False:=eq_false (by omega)
 repeat' (first
  |refine St.h ?_
  |simp(disch:=first|omega|(simp only[AI];omega))only[AJ,↓AA,↓reduceIte,seval,f0,f3,f5,f6,d1,rg.l1,Lg.ln]
  |(with_reducible (first|apply AD|apply AE))<;>(intro hc;(try simp only[AT]at hc);(try simp only[hc]);(try simp only[AR]at hc);try omega))
 --whether all that go are there
 refine Ok.lp (fun m t g'=>∃ k:Nat,m=e.gone.length-k/\k<=e.gone.length/\get 0 t=.p b 0 0 4/\get 3 t=.p h.next 0 0 4/\get 5 t=u/\g1=g'/\get 7 t=.i .i64 (k:Int)/\(∀ x,x<k->S.L.any (fun t=>decide (t.id=e.gone.getD x 0))=true)) e.gone.length ?_ ?_
 ·simp(disch:=first|omega|(simp only[AI];omega))only[AJ,↓AA,↓reduceIte,seval,f0,f3,f5]
  refine⟨0,by omega,by omega,?_⟩
  refine⟨?_,?_,?_,?_,?_,fun x hx=>by omega⟩
  all_goals first|trivial|rfl
 rintro J hJ mm t _ ⟨k,rfl,hk,f0,f3,f5,rfl,f7,hall⟩
 by_cases hkl:k<e.gone.length
 ·have d2:((k:Int)<(e.gone.length:Int))=True:=eq_true (by omega)
  repeat' (first
   |refine St.h ?_
   |simp(disch:=first|omega|(simp only[AI];omega))only[AJ,↓AA,↓reduceIte,seval,f0,f3,f5,f7,d2,rb.l1,mg.1.ln]
   |(with_reducible (first|apply AD|apply AE))<;>(intro hc;(try simp only[AT]at hc);(try simp only[hc]);(try simp only[AR]at hc);try omega))
  refine Ok.lp (fun m t g'=>∃ j:Nat,m=S.L.length-j/\j<=S.L.length/\get 0 t=.p b 0 0 4/\get 3 t=.p h.next 0 0 4/\get 5 t=u/\g1=g'/\get 7 t=.i .i64 (k:Int)/\get 8 t=.b ((S.L.take j).any fun t=>decide (t.id=e.gone.getD k 0))/\get 9 t=.i .i64 (j:Int)) S.L.length ?_ ?_
  ·simp(disch:=first|omega|(simp only[AI];omega))only[AJ,↓AA,↓reduceIte,seval,f0,f3,f5,f7]
   refine⟨0,by omega,by omega,?_⟩
   refine⟨?_,?_,?_,?_,?_,?_⟩
   all_goals first|trivial|rfl
  rintro J2 hJ2 mm t _ ⟨j,rfl,hj,f0,f3,f5,rfl,f7,f8,f9⟩
  by_cases hjl:j<S.L.length
  ·have d3:((j:Int)<(S.L.length:Int))=True:=eq_true (by omega)
   have ap:=any_push (p:=fun t=>decide (t.id=e.gone.getD k 0)) hjl
   cases h8:(S.L.take j).any fun t=>decide (t.id=e.gone.getD k 0)with
   |true=>
    rw[h8]at f8 ap
    repeat' (first
     |refine St.h ?_
     |simp(disch:=first|omega|(simp only[AI];omega))only[AJ,↓AA,↓reduceIte,seval,f0,f3,f5,f7,f8,f9,d3,rg.l1,Lg.ln]
     |(with_reducible (first|apply AD|apply AE))<;>(intro hc;(try simp only[AT]at hc);(try simp only[hc]);(try simp only[AR]at hc);try omega))
    exact Ai hJ2 (S.L.length-(j+1)) (by omega) ⟨j+1,rfl,by omega,by simp(disch:=first|omega|(simp only[AI];omega))only[AJ,↓AA,↓reduceIte,seval,f0],by simp(disch:=first|omega|(simp only[AI];omega))only[AJ,↓AA,↓reduceIte,seval,f3],by simp(disch:=first|omega|(simp only[AI];omega))only[AJ,↓AA,↓reduceIte,seval,f5],rfl,by simp(disch:=first|omega|(simp only[AI];omega))only[AJ,↓AA,↓reduceIte,seval,f7],by rw[ap];simp(disch:=first|omega|(simp only[AI];omega))only[AJ,↓AA,↓reduceIte,seval];rfl,by simp(disch:=first|omega|(simp only[AI];omega))only[AJ,↓AA,↓reduceIte,seval,f9];rfl⟩
   |false=>
    rw[h8,Bool.false_or]at ap
    rw[h8]at f8
    repeat' (first
     |refine St.h ?_
     |simp(disch:=first|omega|(simp only[AI];omega))only[AJ,↓AA,↓reduceIte,seval,f0,f3,f5,f7,f8,f9,d3,rg.l1,rb.l1,Lg.ln,Lg.ix,Lg.l0,mg.1.ix,mg.1.ld,Int.toNat_natCast]
     |(with_reducible (first|apply AD|apply AE))<;>(intro hc;(try simp only[AT]at hc);(try simp only[hc]);(try simp only[AR]at hc);try omega))
    exact Ai hJ2 (S.L.length-(j+1)) (by omega) ⟨j+1,rfl,by omega,by simp(disch:=first|omega|(simp only[AI];omega))only[AJ,↓AA,↓reduceIte,seval,f0],by simp(disch:=first|omega|(simp only[AI];omega))only[AJ,↓AA,↓reduceIte,seval,f3],by simp(disch:=first|omega|(simp only[AI];omega))only[AJ,↓AA,↓reduceIte,seval,f5],rfl,by simp(disch:=first|omega|(simp only[AI];omega))only[AJ,↓AA,↓reduceIte,seval,f7],by rw[ap];simp(disch:=first|omega|(simp only[AI];omega))only[AJ,↓AA,↓reduceIte,seval],by simp(disch:=first|omega|(simp only[AI];omega))only[AJ,↓AA,↓reduceIte,seval,f9];rfl⟩
  obtain rfl:j=S.L.length:=by omega
  rw[List.take_length]at f8
  have d3:((S.L.length:Int)<(S.L.length:Int))=False:=eq_false (by omega)
  cases h8:S.L.any fun t=>decide (t.id=e.gone.getD k 0)with
  |true=>
   rw[h8]at f8
   repeat' (first
    |refine St.h ?_
    |simp(disch:=first|omega|(simp only[AI];omega))only[AJ,↓AA,↓reduceIte,seval,f0,f3,f5,f7,f8,f9,d3,rg.l1,Lg.ln]
    |(with_reducible (first|apply AD|apply AE))<;>(intro hc;(try simp only[AT]at hc);(try simp only[hc]);(try simp only[AR]at hc);try omega))
   refine Ai hJ (e.gone.length-(k+1)) (by omega) ⟨k+1,rfl,by omega,by simp(disch:=first|omega|(simp only[AI];omega))only[AJ,↓AA,↓reduceIte,seval,f0],by simp(disch:=first|omega|(simp only[AI];omega))only[AJ,↓AA,↓reduceIte,seval,f3],by simp(disch:=first|omega|(simp only[AI];omega))only[AJ,↓AA,↓reduceIte,seval,f5],rfl,by simp(disch:=first|omega|(simp only[AI];omega))only[AJ,↓AA,↓reduceIte,seval,f7];rfl,fun x hx=>?_⟩
   by_cases e:x=k
   ·rw[e];exact h8
   ·exact hall x (by omega)
  |false=>
   rw[h8]at f8
   have ed:Gh S e=(18,S):=by unfold Gh;rw[if_neg (by rw[he];simp),if_pos (Xt hkl h8)]
   repeat' (first
    |refine St.h ?_
    |simp(disch:=first|omega|(simp only[AI];omega))only[AJ,↓AA,↓reduceIte,seval,f0,f3,f5,f7,f8,f9,d3,rg.l1,Lg.ln]
    |(with_reducible (first|apply AD|apply AE))<;>(intro hc;(try simp only[AT]at hc);(try simp only[hc]);(try simp only[AR]at hc);try omega))
   subst hQ
   rw[ed]
   exact⟨rfl,v,ag,fun q hq=>.inl hq,up (s1.trans st)⟩
 obtain rfl:k=e.gone.length:=by omega
 have hh:=TV hall
 have d2:((e.gone.length:Int)<(e.gone.length:Int))=False:=eq_false (by omega)
 have hp:Fq S e=true↔((0<e.AU.length/\(e.AU.getD 0 default).id<S.next)\/(0<e.log/\e.log<S.log)\/(0<e.seq/\e.seq<S.seq)):=by
  unfold Fq;rw[Bool.or_eq_true,Bool.or_eq_true,Bool.and_eq_true,Bool.and_eq_true,Bool.and_eq_true];simp only[decide_eq_true_eq];omega
 have k0:((0:Int)<(e.AU.length:Int))=(0<e.AU.length):=propext (by omega)
 cases hpa:Fq S e with
 |true=>
  have ed:Gh S e=(16,S):=by unfold Gh;rw[if_neg (by rw[he];simp),if_neg (by rw[hh];simp),if_pos hpa]
  have hp:=hp.1 hpa
  repeat' (first
   |refine St.h ?_
   |simp(disch:=first|omega|(simp only[AI];omega))only[AJ,↓AA,↓reduceIte,seval,f0,f3,f5,f7,d2,rb.l1,rg.l1,mg.1.ln,mg.2.ln,k0,mg.2.ix0,mg.2.l00]
   |(with_reducible (first|apply AD|apply AE))<;>(intro hc;(try simp only[AT]at hc);(try simp only[hc]);(try simp only[AR]at hc);try omega))
  all_goals first
   |(exfalso;omega)
   |(subst hQ
     rw[ed]
     exact⟨rfl,v,ag,fun q hq=>.inl hq,up (s1.trans st)⟩)
 |false=>
 have hp:¬((0<e.AU.length/\(e.AU.getD 0 default).id<S.next)\/(0<e.log/\e.log<S.log)\/(0<e.seq/\e.seq<S.seq)):=fun h=>by rw[hp.2 h]at hpa;cases hpa
 obtain⟨Mid,hMid⟩:∃ M:F->H->Prop,M=fun t g'=>get 0 t=.p b 0 0 4/\get 3 t=.p h.next 0 0 4/\get 5 t=u/\g1=g':=⟨_,rfl⟩
 repeat' (first
  |((with_reducible refine(show Ok Try.prog 232 TB _ _ _ from ?_));refine Qa Mid ?_ ?_)
  |refine St.h ?_
  |simp(disch:=first|omega|(simp only[AI];omega))only[AJ,↓AA,↓reduceIte,seval,f0,f3,f5,f7,d2,rb.l1,rg.l1,mg.1.ln,mg.2.ln,k0,mg.2.ix0,mg.2.l00,TK]
  |(with_reducible (first|apply AD|apply AE))<;>(intro hc;(try simp only[AT]at hc);(try simp only[hc]);(try simp only[AR]at hc);try omega))
 rotate_right
 all_goals try (first|(exfalso;omega)|(rw[hMid];exact⟨by simp(disch:=first|omega|(simp only[AI];omega))only[AJ,↓AA,↓reduceIte,seval,f0],by simp(disch:=first|omega|(simp only[AI];omega))only[AJ,↓AA,↓reduceIte,seval,f3],by simp(disch:=first|omega|(simp only[AI];omega))only[AJ,↓AA,↓reduceIte,seval,f5],rfl⟩))
 clear f0 f3 f5 f7
 rw[hMid]
 rintro t _ ⟨f0,f3,f5,rfl⟩
 have hll:(CX S.L e.gone).length<=100:=Nat.le_trans (List.length_filter_le _ _) hl
 have e0:Gh S e=match D5 (CX S.L e.gone) e.AU with|none=>(16,S)|some M=>if 40<M.length then (25,S)else (0,TI S e M):=by unfold Gh;rw[if_neg (by rw[he];simp),if_neg (by rw[hh];simp),if_neg (by rw[hpa];simp)]<;>cases D5 (CX S.L e.gone) e.AU<;>rfl
 repeat' (first
  |refine St.h ?_
  |simp(disch:=first|omega|(simp only[AI];omega))only[AJ,↓AA,↓reduceIte,seval,f0,f3,f5]
  |(with_reducible (first|apply AD|apply AE))<;>(intro hc;(try simp only[AT]at hc);(try simp only[hc]);(try simp only[AR]at hc);try omega))
 --one after the other put in
 refine Ok.lp (fun m t g'=>∃ (k:Nat) (u:V) (A:List Bq),m=e.AU.length-k/\k<=e.AU.length/\get 0 t=.p b 0 0 4/\get 3 t=.p h.next 0 0 4/\get 5 t=u/\get 10 t=.i .i64 (k:Int)/\Rt g' u A/\A.length<=100+k/\(∀ q,Af u q->B.val h1.next<=B.val q)/\D5 (CX S.L e.gone) e.AU=D5 A (e.AU.drop k)/\AW AN h1 g') e.AU.length ?_ ?_
 ·simp(disch:=first|omega|(simp only[AI];omega))only[AJ,↓AA,↓reduceIte,seval,f0,f3,f5]
  refine⟨0,u,CX S.L e.gone,by omega,by omega,?_⟩
  refine⟨?_,?_,?_,?_,bu,by omega,own,by rw[List.drop_zero],st⟩
  all_goals first|trivial|rfl
 clear f0 f3 f5 hMid rg rb ag mg Lg hfg
 rintro I4 hI4 mm t g2 ⟨k,u,A,rfl,hk,f0,f3,f5,f10,bA,hA,own,eq,st⟩
 have ag:=a.grow (s1.trans st)
 have mg:=m.grow (s1.trans st)
 have rg:=ag.1.row
 have rb:=(o1.stay st fun e=>e).row
 have hfg:=st.fl hf1
 have TA:=bA.Dr
 by_cases hkl:k<e.AU.length
 ·have d2:((k:Int)<(e.AU.length:Int))=True:=eq_true (by omega)
  have hdrop:e.AU.drop k=e.AU.getD k default::e.AU.drop (k+1):=by
   rw[List.drop_eq_getElem_cons hkl,List.getD_eq_getElem?_getD,List.getElem?_eq_getElem hkl];rfl
  rw[hdrop]at eq
  have eq:D5 (CX S.L e.gone) e.AU=if A.any (fun u=>D7 u (e.AU.getD k default))then none else D5 (Ha A (e.AU.getD k default)) (e.AU.drop (k+1)):=eq
  repeat' (first
   |refine St.h ?_
   |simp(disch:=first|omega|(simp only[AI];omega))only[AJ,↓AA,↓reduceIte,seval,f0,f3,f5,f10,d2,rb.l1,mg.2.ln]
   |(with_reducible (first|apply AD|apply AE))<;>(intro hc;(try simp only[AT]at hc);(try simp only[hc]);(try simp only[AR]at hc);try omega))
  refine Ok.lp (fun m t g'=>∃ j:Nat,m=A.length-j/\j<=A.length/\get 0 t=.p b 0 0 4/\get 3 t=.p h.next 0 0 4/\get 5 t=u/\g2=g'/\get 10 t=.i .i64 (k:Int)/\get 11 t=.i .i64 (j:Int)/\∀ p,p<j->D7 (A.getD p default) (e.AU.getD k default)=false) A.length ?_ ?_
  ·simp(disch:=first|omega|(simp only[AI];omega))only[AJ,↓AA,↓reduceIte,seval,f0,f3,f5,f10]
   refine⟨0,by omega,by omega,?_⟩
   refine⟨?_,?_,?_,?_,?_,?_,fun x hx=>by omega⟩
   all_goals first|trivial|rfl
  rintro J2 hJ2 mm t _ ⟨j,rfl,hj,f0,f3,f5,rfl,f10,f11,hno⟩
  by_cases hjl:j<A.length
  ·have d3:((j:Int)<(A.length:Int))=True:=eq_true (by omega)
   have l3:=SX (a:=(A.getD j default).fst) (b:=(e.AU.getD k default).DT)
   have l4:=SX (a:=(e.AU.getD k default).fst) (b:=(A.getD j default).DT)
   have stop:D7 (A.getD j default) (e.AU.getD k default)=true->Gh S e=(16,S):=fun hm=>by
    rw[if_pos (List.any_eq_true.2 ⟨_,Bd hjl,hm⟩)]at eq
    rw[eq]at e0;exact e0
   have go:D7 (A.getD j default) (e.AU.getD k default)=false->∀ p,p<j+1->D7 (A.getD p default) (e.AU.getD k default)=false:=fun hm p hp=>by
    by_cases e:p=j
    ·rw[e];exact hm
    ·exact hno p (by omega)
   have mt:D7 (A.getD j default) (e.AU.getD k default)=true↔((A.getD j default).A7=1/\(e.AU.getD k default).A7=1/\Op.bytesLess (e.AU.getD k default).DT (A.getD j default).fst=false/\Op.bytesLess (A.getD j default).DT (e.AU.getD k default).fst=false):=by unfold D7;exact decide_eq_true_iff
   cases h3:Op.bytesLess (e.AU.getD k default).DT (A.getD j default).fst<;>cases h4:Op.bytesLess (A.getD j default).DT (e.AU.getD k default).fst
   all_goals
    rw[h3]at l3
    rw[h4]at l4
    simp only[Bool.not_false,Bool.not_true]at l3 l4
    repeat' (first
     |refine St.h ?_
     |simp(disch:=first|omega|(simp only[AI];omega))only[AJ,↓AA,↓reduceIte,seval,f0,f3,f5,f10,f11,d3,rb.l1,mg.2.ln,TA.ln,TA.ix,TA.l1,TA.l2,TA.l3,mg.2.ix,mg.2.l1,mg.2.l2,mg.2.l3,l3,l4,Int.toNat_natCast]
     |(with_reducible (first|apply AD|apply AE))<;>(intro hc;(try simp only[AT]at hc);(try simp only[hc]);(try simp only[AR]at hc);try omega))
    all_goals first
     |(subst hQ
       rw[stop (mt.2 ⟨by assumption,by assumption,h3,h4⟩)]
       exact⟨rfl,v,ag,fun q hq=>.inl hq,up (s1.trans st)⟩)
     |exact Ai hJ2 (A.length-(j+1)) (by omega) ⟨j+1,rfl,by omega,by simp(disch:=first|omega|(simp only[AI];omega))only[AJ,↓AA,↓reduceIte,seval,f0],by simp(disch:=first|omega|(simp only[AI];omega))only[AJ,↓AA,↓reduceIte,seval,f3],by simp(disch:=first|omega|(simp only[AI];omega))only[AJ,↓AA,↓reduceIte,seval,f5],rfl,by simp(disch:=first|omega|(simp only[AI];omega))only[AJ,↓AA,↓reduceIte,seval,f10],by simp(disch:=first|omega|(simp only[AI];omega))only[AJ,↓AA,↓reduceIte,seval,f11];rfl,go (by
       rw[<-Bool.not_eq_true,mt]
       rintro⟨x1,x2,x3,x4⟩
       first|contradiction|(rw[h3]at x3;cases x3;done)|(rw[h4]at x4;cases x4;done))⟩
  obtain rfl:j=A.length:=by omega
  have d3:((A.length:Int)<(A.length:Int))=False:=eq_false (by omega)
  rw[if_neg (by
   rw[Bool.not_eq_true]
   refine List.any_eq_false.2 fun u hu=>?_
   obtain⟨p,hp,rfl⟩:=HU hu
   rw[hno p hp];simp)]at eq
  repeat' (first
   |refine St.h ?_
   |simp(disch:=first|omega|(simp only[AI];omega))only[AJ,↓AA,↓reduceIte,seval,f0,f3,f5,f10,f11,d3,rb.l1,TA.ln,mg.2.ix,mg.2.la,Int.toNat_natCast]
   |(with_reducible (first|apply AD|apply AE))<;>(intro hc;(try simp only[AT]at hc);(try simp only[hc]);(try simp only[AR]at hc);try omega))
  refine CL.mk (Xv TA (by omega) hfg) ?_
  rintro u4 g4 ⟨b4,own4,s4⟩
  repeat' (first
   |refine St.h ?_
   |simp(disch:=first|omega|(simp only[AI];omega))only[AJ,↓AA,↓reduceIte,seval,f0,f3,f5,f10,f11]
   |(with_reducible (first|apply AD|apply AE))<;>(intro hc;(try simp only[AT]at hc);(try simp only[hc]);(try simp only[AR]at hc);try omega))
  exact Ai hI4 (e.AU.length-(k+1)) (by omega) ⟨k+1,u4,_,rfl,by omega,by simp(disch:=first|omega|(simp only[AI];omega))only[AJ,↓AA,↓reduceIte,seval,f0],by simp(disch:=first|omega|(simp only[AI];omega))only[AJ,↓AA,↓reduceIte,seval,f3],by simp(disch:=first|omega|(simp only[AI];omega))only[AJ,↓AA,↓reduceIte,seval],by simp(disch:=first|omega|(simp only[AI];omega))only[AJ,↓AA,↓reduceIte,seval,f10];rfl,b4,by rw[WQ];omega,fun q hq=>Nat.le_trans st.next (own4 q hq),eq,st.trans s4⟩
 obtain rfl:k=e.AU.length:=by omega
 rw[List.drop_length]at eq
 have eq:D5 (CX S.L e.gone) e.AU=some A:=eq
 rw[eq]at e0
 have d2:((e.AU.length:Int)<(e.AU.length:Int))=False:=eq_false (by omega)
 have s1g:=s1.trans st
 by_cases h40:40<A.length
 ·have d40:((40:Int)<(A.length:Int))=True:=eq_true (by omega)
  have ed:Gh S e=(25,S):=e0.trans (if_pos h40)
  repeat' (first
   |refine St.h ?_
   |simp(disch:=first|omega|(simp only[AI];omega))only[AJ,↓AA,↓reduceIte,seval,f0,f3,f5,f10,d2,rb.l1,mg.2.ln,TA.ln,d40]
   |(with_reducible (first|apply AD|apply AE))<;>(intro hc;(try simp only[AT]at hc);(try simp only[hc]);(try simp only[AR]at hc);try omega))
  subst hQ
  rw[ed]
  exact⟨rfl,v,ag,fun q hq=>.inl hq,up s1g⟩
 have d40:((40:Int)<(A.length:Int))=False:=eq_false (by omega)
 have ed:Gh S e=(0,TI S e A):=e0.trans (if_neg h40)
 repeat' (first
  |refine St.h ?_
  |simp(disch:=first|omega|(simp only[AI];omega))only[AJ,↓AA,↓reduceIte,seval,f0,f3,f5,f10,d2,rb.l1,mg.2.ln,TA.ln,d40]
  |(with_reducible (first|apply AD|apply AE))<;>(intro hc;(try simp only[AT]at hc);(try simp only[hc]);(try simp only[AR]at hc);try omega))
 refine ST.own ag.1 (Dc bA).1 (Dc bA).2 (by omega) (by omega) fun h7 o7 s7=>?_
 have o7:Ev.CE h7 b [u,.i .i64 S.log,.i .i64 S.seq,.i .i64 S.next]:=o7
 have hne:h.next≠b:=fun e=>by have:=a.lt.1;rw[<-e]at this;omega
 have ob7:=(o1.stay st fun e=>e).stay s7 fun e=>hne e
 have q7:=ob7.row
 have w7:=o7.row
 repeat' (first
  |with_reducible refine NP ?_
  |refine St.h ?_
  |simp(disch:=first|omega|(simp only[AI];omega))only[AJ,↓AA,↓reduceIte,seval,f0,f3,f5,f10,w7.l1,q7.l1]
  |(with_reducible (first|apply AD|apply AE))<;>(intro hc;(try simp only[AT]at hc);(try simp only[hc]);(try simp only[AR]at hc);try omega))
 refine Ok.S9 Uv (L1:=[.mk .none (.some (AX 195)) .false (.mk (AB (tm 0))),.mk .none (.some (AX 196)) .false (.mk (AB (tm 0))),.mk .none (.some (AX 197)) .false (.mk (AB (tm 0))),.mk .none (.some (AX 198)) .false (.mk (AO (tm 197))),.mk .none (.some (AX 199)) .false (.mk (AF 1 (tm 198))),.mk .none (.some (AX 200)) .false (.mk (AK (tm 199))),.mk .none (.some (AX 201)) .false (.mk (AF 2 (tm 3))),.mk .none (.some (AX 202)) .false (.mk (AK (tm 201))),.mk .none (.some (AX 203)) .false (.mk (FM (tm 200) (tm 202))),.mk .none (.some (AX 204)) .false (.mk (AB (tm 0))),.mk .none (.some (AX 205)) .false (.mk (AO (tm 204))),.mk .none (.some (AX 206)) .false (.mk (AF 2 (tm 205))),.mk .none (.some (AX 207)) .false (.mk (AK (tm 206))),.mk .none (.some (AX 208)) .false (.mk (AF 3 (tm 3)))]) (L2:=[.mk .none (.some (AX 210)) .false (.mk (FM (tm 207) (tm 209))),.mk .none (.some (AX 211)) .false (.mk (AO (tm 195))),.mk .none (.some (AX 212)) .false (.mk (AF 1 (tm 211)))]) (L3:=[.mk .none (.some (AX 213)) .true (.mk (AO (tm 196))),.mk .none (.some (AX 214)) .false (.mk (AF 2 (tm 213)))]) (n:=209) (rl:=AK (tm 208)) (rA:=Ad 1 (tm 212) (tm 203)) (rB:=Ad 1 (tm 214) (tm 210)) rfl rfl rfl rfl (by decide) ?_
 repeat' (first
  |refine St.h ?_
  |simp(disch:=first|omega|(simp only[AI];omega))only[AJ,↓AA,↓reduceIte,seval,f0,f3,f5,f10,w7.l1,q7.l1]
  |(with_reducible (first|apply AD|apply AE))<;>(intro hc;(try simp only[AT]at hc);(try simp only[hc]);(try simp only[AR]at hc);try omega))
 refine⟨.i .i64 e.seq,?_⟩
 repeat' (first
  |refine St.h ?_
  |simp(disch:=first|omega|(simp only[AI];omega))only[AJ,↓AA,↓reduceIte,seval,f0,f3,f5,f10,w7.l1,q7.l1]
  |(with_reducible (first|apply AD|apply AE))<;>(intro hc;(try simp only[AT]at hc);(try simp only[hc]);(try simp only[AR]at hc);try omega))
 refine⟨trivial,?_⟩
 refine ST.own o7 rfl rfl (by omega) (by omega) fun h8 o8 s8=>?_
 have o8:Ev.CE h8 b [u,.i .i64 (max S.log e.log),.i .i64 S.seq,.i .i64 S.next]:=o8
 have ob8:=ob7.stay s8 fun e=>hne e
 have q8:=ob8.row
 have w8:=o8.row
 repeat' (first
  |refine St.h ?_
  |simp(disch:=first|omega|(simp only[AI];omega))only[AJ,↓AA,↓reduceIte,seval,f0,f3,f5,f10,w8.l1,q8.l1]
  |(with_reducible (first|apply AD|apply AE))<;>(intro hc;(try simp only[AT]at hc);(try simp only[hc]);(try simp only[AR]at hc);try omega))
 refine⟨trivial,?_⟩
 repeat' (first
  |refine St.h ?_
  |simp(disch:=first|omega|(simp only[AI];omega))only[AJ,↓AA,↓reduceIte,seval,f0,f3,f5,f10,w8.l1,q8.l1]
  |(with_reducible (first|apply AD|apply AE))<;>(intro hc;(try simp only[AT]at hc);(try simp only[hc]);(try simp only[AR]at hc);try omega))
 refine ST.own o8 rfl rfl (by omega) (by omega) fun h9 o9 s9=>?_
 have o9:Ev.CE h9 b [u,.i .i64 (max S.log e.log),.i .i64 (max S.seq e.seq),.i .i64 S.next]:=o9
 have q9:=(ob8.stay s9 fun e=>hne e).row
 have w9:=o9.row
 have s69:AW (fun q=>q=b) h h9:=(((up s1g).trans s7).trans s8).trans s9
 have nb:∀ q,Af u q->q≠b:=fun q hq e=>by have h1:=own q hq;have:=s1.next;have:=a.lt.1;rw[e]at h1;omega
 have b9:Rt h9 u A:=((bA.stay s7 nb).stay s8 nb).stay s9 nb
 have ow:∀ q,Af u q->Af v q\/B.val h.next<=B.val q:=fun q hq=>.inr (Nat.le_trans s1.next (own q hq))
 have c9:FQ h9 c e.AU:=Ss.stay m.2 s69 hcb
 by_cases h0:0<e.AU.length
 ·have d1:((0:Int)<(e.AU.length:Int))=True:=eq_true (by omega)
  have ei:((e.AU.length:Int)-1).toNat=e.AU.length-1:=by omega
  have hi:e.AU.length-1<e.AU.length:=by omega
  obtain⟨i1,i2,_⟩:=CU.1 (IE.tb _ (Bd hi))
  repeat' (first
   |refine St.h ?_
   |simp(disch:=first|omega|(simp only[AI];omega))only[AJ,↓AA,↓reduceIte,seval,f0,f3,f5,f10,w9.l1,q9.l1,c9.ln,d1,ei,c9.ix,c9.l0]
   |(with_reducible (first|apply AD|apply AE))<;>(intro hc;(try simp only[AT]at hc);(try simp only[hc]);(try simp only[AR]at hc);try omega))
  refine ST.own o9 rfl rfl (by omega) (by omega) fun ha oa sa=>?_
  have oa:Ev.CE ha b [u,.i .i64 (max S.log e.log),.i .i64 (max S.seq e.seq),.i .i64 ((e.AU.getD (e.AU.length-1) default).id+1)]:=oa
  repeat' (first
   |refine St.h ?_
   |simp(disch:=first|omega|(simp only[AI];omega))only[AJ,↓AA,↓reduceIte,seval]
   |(with_reducible (first|apply AD|apply AE))<;>(intro hc;(try simp only[AT]at hc);(try simp only[hc]);(try simp only[AR]at hc);try omega))
  subst hQ
  rw[ed]
  refine⟨rfl,u,⟨?_,Gr.ss (b9.stay sa nb),nb⟩,ow,s69.trans sa⟩
  show Ev.CE ha b [u,.i .i64 (max S.log e.log),.i .i64 (max S.seq e.seq),.i .i64 (if 0<e.AU.length then (e.AU.getD (e.AU.length-1) default).id+1 else S.next)]
  rw[if_pos h0];exact oa
 ·have d1:((0:Int)<(e.AU.length:Int))=False:=eq_false (by omega)
  repeat' (first
   |refine St.h ?_
   |simp(disch:=first|omega|(simp only[AI];omega))only[AJ,↓AA,↓reduceIte,seval,f0,f3,f5,f10,w9.l1,q9.l1,c9.ln,d1]
   |(with_reducible (first|apply AD|apply AE))<;>(intro hc;(try simp only[AT]at hc);(try simp only[hc]);(try simp only[AR]at hc);try omega))
  subst hQ
  rw[ed]
  refine⟨rfl,u,⟨?_,b9.Dr,nb⟩,ow,s69⟩
  show Ev.CE h9 b [u,.i .i64 (max S.log e.log),.i .i64 (max S.seq e.seq),.i .i64 (if 0<e.AU.length then (e.AU.getD (e.AU.length-1) default).id+1 else S.next)]
  rw[if_neg h0];exact o9
end Go.Proofs.Ytobfgempjekjpaa
set_option maxRecDepth 100000
set_option maxHeartbeats 8000000
namespace Go.Proofs.Ytobfgempjekjpaa
open Go Go.Ev
theorem CL.mkV {P:Program} {f:FuncId} {vs:List V} {h:H} {m:Nat} {l:List CO} {t:F} {K:F->H->Prop} {Q:V->H->Prop} (a:A3 P f vs (Au h) Q) (k:∀ v h',Q v h'->DO P l (put m v t) (B1 h h') K):CL P f vs (Au h) (.u m l t h K):=⟨_,a,fun v h' hq=>by rw[SY];exact k v h' hq⟩
theorem CL.Uj {P:Program} {f:FuncId} {vs:List V} {h:H} {e:V} {m:Nat} {l:List CO} {t:F} {K:F->H->Prop} (a:A3 P f vs (Au h) fun y h'=>y=e/\h'=Au h) (k:∀ h',AW AN h h'->DO P l (put m e t) h' K):CL P f vs (Au h) (.u m l t h K):=
 CL.MP (a.mono fun v h' q=>⟨q.1,by rw[q.2];exact AW.refl _ _⟩) k
theorem Zn {P:Program} {h h0:H} {ps:List Pt} {t:F} {z:List V} {e:Option (Nat×Nat)} {off:Nat} {N:Nx} {v:V} {L:List Bq} (a:FQ h0 v L):FP P off 1 v ps t z e h N=if off+1<=z.length then FL P ps t (z.take off++(v::z.drop (off+1))) e h N else Xx P off 1 v ps t z e h N:=by
 rcases a with⟨rfl,_⟩|⟨id,g,off',fin,cap,rfl,_⟩
 ·exact Yd
 ·exact z7
theorem Zi {h:H} {v:V} {L:List Bq} (a:FQ h v L):FQ (Au h) v L:=by cases h;exact a
theorem iP {h h0:H} {v:V} {L:List Bq} (a:FQ h v L):FQ (B1 h0 h) v L:=by cases h;cases h0;exact a
theorem EO {h:H} {b:B} {xs:List V} (a:Row h b 0 0 xs):Row (Au h) b 0 0 xs:=by cases h;exact a
theorem eI (h:H):(Au h).next=h.next:=by cases h;rfl
section
variable {h:H} {b:B} {v:V} {S:Iy}
theorem RH (r:Row h b 0 0 [v,.i .i64 S.log,.i .i64 S.seq,.i .i64 S.next]) (hL:FQ h v S.L) (hl:S.L.length<=1000) (hf:B.val h.floor<=B.val h.next):A3 Try.prog 26 [.p b 0 0 4] h fun y h'=>Rt h' y S.L/\(∀ q,Af y q->B.val h.next<=B.val q)/\AW AN h h':=by
 refine Aw c26 (by intro hb;cases hb) (by simp) (by simp) fun Q hQ=>?_
 simp only[Ah,Nat.reduceAdd]
 repeat' (first
  |refine St.h ?_
  |simp(disch:=first|omega|(simp only[AI];omega))only[AJ,↓AA,↓reduceIte,seval,r.l1]
  |(with_reducible (first|apply AD|apply AE))<;>(intro hc;(try simp only[AT]at hc);(try simp only[hc]);(try simp only[AR]at hc);try omega))
 refine CL.mk (Lq hL hl hf) ?_
 rintro y h1 ⟨r1,r2,r3⟩
 repeat' (first
  |refine St.h ?_
  |simp(disch:=first|omega|(simp only[AI];omega))only[AJ,↓AA,↓reduceIte,seval]
  |(with_reducible (first|apply AD|apply AE))<;>(intro hc;(try simp only[AT]at hc);(try simp only[hc]);(try simp only[AR]at hc);try omega))
 subst hQ
 exact⟨r1,r2,r3⟩
theorem TH (r:Row h b 0 0 [v,.i .i64 S.log,.i .i64 S.seq,.i .i64 S.next]):A3 Try.prog 28 [.p b 0 0 4] h fun y h'=>y=.i .i64 S.log/\h'=h:=by
 refine Aw c28 (by intro hb;cases hb) (by simp) (by simp) fun Q hQ=>?_
 simp only[Ah,Nat.reduceAdd]
 repeat' (first
  |refine St.h ?_
  |simp(disch:=first|omega|(simp only[AI];omega))only[AJ,↓AA,↓reduceIte,seval,r.l1]
  |(with_reducible (first|apply AD|apply AE))<;>(intro hc;(try simp only[AT]at hc);(try simp only[hc]);(try simp only[AR]at hc);try omega))
 subst hQ
 exact⟨rfl,rfl⟩
theorem Vi (r:Row h b 0 0 [v,.i .i64 S.log,.i .i64 S.seq,.i .i64 S.next]):A3 Try.prog 29 [.p b 0 0 4] h fun y h'=>y=.i .i64 S.seq/\h'=h:=by
 refine Aw c29 (by intro hb;cases hb) (by simp) (by simp) fun Q hQ=>?_
 simp only[Ah,Nat.reduceAdd]
 repeat' (first
  |refine St.h ?_
  |simp(disch:=first|omega|(simp only[AI];omega))only[AJ,↓AA,↓reduceIte,seval,r.l1]
  |(with_reducible (first|apply AD|apply AE))<;>(intro hc;(try simp only[AT]at hc);(try simp only[hc]);(try simp only[AR]at hc);try omega))
 subst hQ
 exact⟨rfl,rfl⟩
theorem RU (r:Row h b 0 0 [v,.i .i64 S.log,.i .i64 S.seq,.i .i64 S.next]):A3 Try.prog 27 [.p b 0 0 4] h fun y h'=>y=.i .i64 S.next/\h'=h:=by
 refine Aw c27 (by intro hb;cases hb) (by simp) (by simp) fun Q hQ=>?_
 simp only[Ah,Nat.reduceAdd]
 repeat' (first
  |refine St.h ?_
  |simp(disch:=first|omega|(simp only[AI];omega))only[AJ,↓AA,↓reduceIte,seval,r.l1]
  |(with_reducible (first|apply AD|apply AE))<;>(intro hc;(try simp only[AT]at hc);(try simp only[hc]);(try simp only[AR]at hc);try omega))
 subst hQ
 exact⟨rfl,rfl⟩
/--what a copy makes of a sheet's tables,in a region that Ax -/
theorem CL.Yl {l:List CO} {t:F} {K:F->H->Prop} {m:Nat} (a:Hu h b v S) (hl:S.L.length<=1000) (k:∀ w h',FQ h' w S.L->(∀ q,Af w q->B.val h.next<=B.val q)->AW AN h h'->DO Try.prog l (put m w t) h' K):CL Try.prog 26 [.p b 0 0 4] (Au h) (.u m l t h K):=by
 refine CL.mkV (RH (S:=S) (EO a.1.row) (Zi a.2.1) hl (Li _)) ?_
 rintro w h1 ⟨w1,w2,s1⟩
 exact k w _ (iP w1.Dr) (fun q hq=>by have:=w2 q hq;rwa [eI]at this) s1.Iq
theorem AAO (a:Hu h b v S) (hl:S.L.length<=1000) (hf:B.val h.floor<=B.val h.next):A3 Try.prog 30 [.p b 0 0 4] h fun y h'=>∃ q w,y=.p q 0 0 4/\Hu h' q w S/\B.val h.next<=B.val q/\(∀ q,Af w q->B.val h.next<=B.val q)/\AW AN h h':=by
 refine Aw c30 (by intro hb;cases hb) (by simp) (by simp) fun Q hQ=>?_
 simp only[Ah,Nat.reduceAdd]
 repeat' (first
  |refine St.h ?_
  |simp(disch:=first|omega|(simp only[AI];omega))only[AJ,↓AA,↓reduceIte,seval]
  |(with_reducible (first|apply AD|apply AE))<;>(intro hc;(try simp only[AT]at hc);(try simp only[hc]);(try simp only[AR]at hc);try omega))
 refine CL.Yl a hl fun w h1 w1 w2 s1=>?_
 have a1:=a.grow s1
 have r1:=a1.1.row
 have hf1:=s1.fl hf
 have rr:=EO r1
 repeat' (first
  |refine St.h ?_
  |simp(disch:=first|omega|(simp only[AI];omega))only[AJ,↓AA,↓reduceIte,seval,r1.l1,rr.l1,Zn w1]
  |(with_reducible (first|apply AD|apply AE))<;>(intro hc;(try simp only[AT]at hc);(try simp only[hc]);(try simp only[AR]at hc);try omega))
 refine AL.own (by simp) hf1 fun h2 s2 n2 o2=>?_
 have a2:Hu h2 h1.next w S:=⟨o2,w1.grow s2,fun q hq e=>by
  have hw:∀ q,Af w q->B.val q<B.val h1.next:=by
   rcases w1 with⟨rfl,_⟩|⟨id,g,off,fin,cap,rfl,_,hl,_⟩
   ·rintro q ⟨_,_,_,_,_,e⟩;cases e
   ·rintro q ⟨_,_,_,_,_,e⟩;cases e;exact hl
  have:=hw q hq;rw[e]at this;omega⟩
 repeat' (first
  |refine St.h ?_
  |simp(disch:=first|omega|(simp only[AI];omega))only[AJ,↓AA,↓reduceIte,seval]
  |(with_reducible (first|apply AD|apply AE))<;>(intro hc;(try simp only[AT]at hc);(try simp only[hc]);(try simp only[AR]at hc);try omega))
 subst hQ
 exact⟨_,w,rfl,a2,s1.next,w2,s1.trans s2⟩
end
theorem Ir {h:H} {b r:B} {v u:V} {S:Iy} (a:Hu h b v S) (c:Hu h r u S) (wf:Wf S) (hf:B.val h.floor<=B.val h.next):A3 Try.prog 14 [.p b 0 0 4,.p r 0 0 4] h fun y h'=>y=.b true/\AW AN h h':=by
 have hl:=wf.len
 have hl1:S.L.length<=1000:=by omega
 refine Aw c14 (by intro hb;cases hb) (by simp) (by simp) fun Q hQ=>?_
 simp only[Ah,Nat.reduceAdd]
 repeat' (first
  |refine St.h ?_
  |simp(disch:=first|omega|(simp only[AI];omega))only[AJ,↓AA,↓reduceIte,seval,PK,KR]
  |(with_reducible (first|apply AD|apply AE))<;>(intro hc;(try simp only[AT]at hc);(try simp only[hc]);(try simp only[AR]at hc);try omega))
 refine CL.Yl a hl1 fun w h1 w1 w2 s1=>?_
 have c1:=c.grow s1
 have r1:=c1.1.row
 have rr:=EO r1
 have hf1:=s1.fl hf
 repeat' (first
  |refine St.h ?_
  |simp(disch:=first|omega|(simp only[AI];omega))only[AJ,↓AA,↓reduceIte,seval,r1.l1,rr.l1]
  |(with_reducible (first|apply AD|apply AE))<;>(intro hc;(try simp only[AT]at hc);(try simp only[hc]);(try simp only[AR]at hc);try omega))
 refine CL.pure (NU w1 c1.2.1 hl1) ?_
 repeat' (first
  |refine St.h ?_
  |simp(disch:=first|omega|(simp only[AI];omega))only[AJ,↓AA,↓reduceIte,seval]
  |(with_reducible (first|apply AD|apply AE))<;>(intro hc;(try simp only[AT]at hc);(try simp only[hc]);(try simp only[AR]at hc);try omega))
 refine CL.mk (KO (k:=0) (a.grow s1) hl1 hf1) ?_
 rintro x2 h2 ⟨x21,s2⟩
 have t2:=s1.trans s2
 repeat' (first
  |refine St.h ?_
  |simp(disch:=first|omega|(simp only[AI];omega))only[AJ,↓AA,↓reduceIte,seval]
  |(with_reducible (first|apply AD|apply AE))<;>(intro hc;(try simp only[AT]at hc);(try simp only[hc]);(try simp only[AR]at hc);try omega))
 refine CL.mk (Oq (k:=0) (c.grow t2) hl1 (t2.fl hf)) ?_
 rintro x3 h3 ⟨x31,s3⟩
 have t3:=t2.trans s3
 repeat' (first
  |refine St.h ?_
  |simp(disch:=first|omega|(simp only[AI];omega))only[AJ,↓AA,↓reduceIte,seval]
  |(with_reducible (first|apply AD|apply AE))<;>(intro hc;(try simp only[AT]at hc);(try simp only[hc]);(try simp only[AR]at hc);try omega))
 refine CL.pure (NU (x21.grow s3) x31 (Nat.le_trans (List.length_filter_le _ _) hl1)) ?_
 repeat' (first
  |refine St.h ?_
  |simp(disch:=first|omega|(simp only[AI];omega))only[AJ,↓AA,↓reduceIte,seval]
  |(with_reducible (first|apply AD|apply AE))<;>(intro hc;(try simp only[AT]at hc);(try simp only[hc]);(try simp only[AR]at hc);try omega))
 refine CL.mk (KO (k:=1) (a.grow t3) hl1 (t3.fl hf)) ?_
 rintro x4 h4 ⟨x41,s4⟩
 have t4:=t3.trans s4
 repeat' (first
  |refine St.h ?_
  |simp(disch:=first|omega|(simp only[AI];omega))only[AJ,↓AA,↓reduceIte,seval]
  |(with_reducible (first|apply AD|apply AE))<;>(intro hc;(try simp only[AT]at hc);(try simp only[hc]);(try simp only[AR]at hc);try omega))
 refine CL.mk (Oq (k:=1) (c.grow t4) hl1 (t4.fl hf)) ?_
 rintro x5 h5 ⟨x51,s5⟩
 have t5:=t4.trans s5
 repeat' (first
  |refine St.h ?_
  |simp(disch:=first|omega|(simp only[AI];omega))only[AJ,↓AA,↓reduceIte,seval]
  |(with_reducible (first|apply AD|apply AE))<;>(intro hc;(try simp only[AT]at hc);(try simp only[hc]);(try simp only[AR]at hc);try omega))
 refine CL.pure (NU (x41.grow s5) x51 (Nat.le_trans (List.length_filter_le _ _) hl1)) ?_
 repeat' (first
  |refine St.h ?_
  |simp(disch:=first|omega|(simp only[AI];omega))only[AJ,↓AA,↓reduceIte,seval]
  |(with_reducible (first|apply AD|apply AE))<;>(intro hc;(try simp only[AT]at hc);(try simp only[hc]);(try simp only[AR]at hc);try omega))
 refine CL.mk (KO (k:=2) (a.grow t5) hl1 (t5.fl hf)) ?_
 rintro x6 h6 ⟨x61,s6⟩
 have t6:=t5.trans s6
 have hno:S.L.filter (fun t=>decide (t.A7=2))=[]:=List.filter_eq_nil_iff.2 fun t ht=>by
  have:=(CU.1 (wf.tb t ht)).2.2.1
  rw[decide_eq_true_iff];omega
 rw[hno]at x61
 have a6:=a.grow t6
 have c6:=c.grow t6
 have ra:=EO a6.1.row
 have rc:=c6.1.row
 have rcr:=EO rc
 have hl6:((([]:List Bq).length:Nat):Int)=0:=rfl
 repeat' (first
  |refine St.h ?_
  |simp(disch:=first|omega|(simp only[AI];omega))only[AJ,↓AA,↓reduceIte,seval,x61.ln,hl6]
  |(with_reducible (first|apply AD|apply AE))<;>(intro hc;(try simp only[AT]at hc);(try simp only[hc]);(try simp only[AR]at hc);try omega))
 refine CL.Uj (TH ra) fun h7 s7=>?_
 have t7:=t6.trans s7
 have ra7:=EO (a.grow t7).1.row
 have rc7:=(c.grow t7).1.row
 have rcr7:=EO rc7
 repeat' (first
  |refine St.h ?_
  |simp(disch:=first|omega|(simp only[AI];omega))only[AJ,↓AA,↓reduceIte,seval,rc7.l1,rcr7.l1]
  |(with_reducible (first|apply AD|apply AE))<;>(intro hc;(try simp only[AT]at hc);(try simp only[hc]);(try simp only[AR]at hc);try omega))
 refine CL.Uj (Vi ra7) fun h8 s8=>?_
 have t8:=t7.trans s8
 have ra8:=EO (a.grow t8).1.row
 have rc8:=(c.grow t8).1.row
 have rcr8:=EO rc8
 repeat' (first
  |refine St.h ?_
  |simp(disch:=first|omega|(simp only[AI];omega))only[AJ,↓AA,↓reduceIte,seval,rc8.l1,rcr8.l1]
  |(with_reducible (first|apply AD|apply AE))<;>(intro hc;(try simp only[AT]at hc);(try simp only[hc]);(try simp only[AR]at hc);try omega))
 refine CL.Uj (RU ra8) fun h9 s9=>?_
 have t9:=t8.trans s9
 have rc9:=(c.grow t9).1.row
 have rcr9:=EO rc9
 repeat' (first
  |refine St.h ?_
  |simp(disch:=first|omega|(simp only[AI];omega))only[AJ,↓AA,↓reduceIte,seval,rc9.l1,rcr9.l1]
  |(with_reducible (first|apply AD|apply AE))<;>(intro hc;(try simp only[AT]at hc);(try simp only[hc]);(try simp only[AR]at hc);try omega))
 subst hQ
 exact⟨rfl,t9⟩
end Go.Proofs.Ytobfgempjekjpaa
end
