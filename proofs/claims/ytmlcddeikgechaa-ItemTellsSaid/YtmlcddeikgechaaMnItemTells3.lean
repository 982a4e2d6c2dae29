/- The law ItemTells, part 3: what its proof uses, closely written. No condition. -/
import Derived.Test.YtmlcddeikgechaaMnItemTells2
import Derived.Test.YtmlcddeikgechaaProg
noncomputable section
set_option linter.all false
namespace Go.Ev
open Go
def put (n:Nat) (v:V) (t:F):F:=Classical.choose (GY (AV n) v t)
def get (n:Nat) (t:F):V:=B2 (AV n) t
theorem FK (n:Nat) (v:V) (t:F) (k:F->Bool):KW (AV n) v t k=k (put n v t):=(Classical.choose_spec (GY (AV n) v t)).1 k
theorem get_put (n m:Nat) (v:V) (t:F) (hn:n<512) (hm:m<512):get n (put m v t)=if n=m then v else get n t:=by
 have h:=Classical.choose_spec (GY (AV m) v t)
 by_cases e:n=m
 ·subst e;rw[if_pos rfl];exact h.2.1
 ·rw[if_neg e];exact h.2.2 _ fun he=>e (Iz hn hm he)
def Ay:List V->Nat->F->F
 |[],_,t=>t
 |v::vs,n,t=>Ay vs (n+1) (put n v t)
theorem I0:∀ (vs:List V) (n:Nat) (t:F) (k:F->Bool),Ci vs n t k=k (Ay vs n t)
 |[],_,_,_=>rfl
 |v::vs,n,t,k=>by
  have e:Ci (v::vs) n t k=KW (AV n) v t fun t=>Ci vs (n+1) t k:=rfl
  rw[e,FK,I0 vs];rfl
abbrev tm (n:Nat):O:=.t (AV n)
theorem TV (n:Nat) (t:F):oV (.t (AV n)) t=get n t:=rfl
theorem u7 (v:V) (t:F):oV (.c v) t=v:=rfl
def Steps (P:Program) (nt:Nat) (c:Code) (t:F) (h:H) (x:X) (t':F) (h':H):Prop:=Ak h h'/\B.val h.next<=B.val h'.next/\D2 P nt c t h x t' h'
/--the code that is compiled as 'cc' comes,from that state,to one of which K holds -/
def Ok (P:Program) (nt:Nat) (cc:CC) (t:F) (h:H) (K:X->F->H->Prop):Prop:=∃ x t' h',(∀ c,comp P nt c=cc->Steps P nt c t h x t' h')/\K x t' h'
theorem Ok.mono {P:Program} {nt:Nat} {cc:CC} {t:F} {h:H} {K K':X->F->H->Prop} (a:Ok P nt cc t h K) (hk:∀ x t h,K x t h->K' x t h):Ok P nt cc t h K':=by
 obtain⟨x,t',h',a1,a2⟩:=a
 exact⟨x,t',h',a1,hk _ _ _ a2⟩
theorem Steps.scope {P:Program} {nt:Nat} {c:Code} {t:F} {h:H} {x:X} {t':F} {h':H} (a:Steps P nt c t h x t' h'):Steps P nt (.scope c) t h x t' h':=by
 obtain⟨a2,a3,a4⟩:=a
 refine⟨a2,a3,fun ρ a w w0 Q A R hQ=>wp_scope_straight (a4 ρ a w w0 _ A R fun ρ' a' w' l1 A' R'=>?_)⟩
 have:=hQ ρ' a' w' l1 A' R'
 cases x<;>exact this
theorem Steps.trans {P:Program} {nt:Nat} {c1 c2:Code} {t t1 t2:F} {h h1 h2:H} {x:X} (a:Steps P nt c1 t h .normal t1 h1) (b:Steps P nt c2 t1 h1 x t2 h2):Steps P nt (.seq c1 c2) t h x t2 h2:=by
 obtain⟨a2,a3,a4⟩:=a
 obtain⟨b2,b3,b4⟩:=b
 refine⟨Ak.trans a2 a3 b2,Nat.le_trans a3 b3,fun ρ a w w0 Q A R hQ=>?_⟩
 refine wp_seq (a4 ρ a w w0 _ A R fun ρ' a' w' l1 A' R'=>?_)
 exact b4 ρ' a' w' w0 Q A' R' fun ρ'' a'' w'' l2 A'' R''=>hQ ρ'' a'' w'' (l1.trans (by rw[<-a2.1];exact l2)) A'' R''
/--what is compiled so is code of that kind,but for scopes -/
theorem BV {P:Program} {nt:Nat} {t:F} {h:H} {x:X} {t':F} {h':H} (cc:CC)
 (base:∀ c,comp P nt c=cc->(∀ d,c≠.scope d)->Steps P nt c t h x t' h'):∀ c,comp P nt c=cc->Steps P nt c t h x t' h':=by
 intro c
 induction c with
 |scope d ih=>intro e;exact(ih e).scope
 |_=>intro e;exact base _ e (fun d hd=>by cases hd)
section
variable {P:Program} {nt:Nat} {t:F} {h:H} {K:X->F->H->Prop}
theorem Ok.skip (k:K .normal t h):Ok P nt .skip t h K:=by
 refine⟨.normal,t,h,BV _ fun c e hs=>?_,k⟩
 have r:∀ c,(c=.skip\/∃ l,c=.label l)->Steps P nt c t h .normal t h:=by
  rintro c (rfl|⟨l,rfl⟩)
  ·exact⟨Ak.refl h,Nat.le_refl _,fun ρ a w w0 Q A R hQ=>wp_skip (hQ ρ a w (Ext.refl _ ρ) A R)⟩
  ·exact⟨Ak.refl h,Nat.le_refl _,fun ρ a w w0 Q A R hQ=>wp_label (hQ ρ a w (Ext.refl _ ρ) A R)⟩
 cases c with
 |skip=>exact r _ (.inl rfl)
 |label l=>exact r _ (.inr ⟨l,rfl⟩)
 |scope d=>exact absurd rfl (hs d)
 |region id ops draw=>
  have e':Am P nt ops.toList draw=.skip:=e
  exact(H6 e' rfl).elim
 |_=>cases e
theorem Ok.exit {id:Nat} (k:K (.exit id) t h):Ok P nt (.exit id) t h K:=by
 refine⟨.exit id,t,h,BV _ fun c e hs=>?_,k⟩
 cases c with
 |exit j=>cases e;exact⟨Ak.refl h,Nat.le_refl _,fun ρ a w w0 Q A R hQ=>wp_exit (hQ ρ a w (Ext.refl _ ρ) A R)⟩
 |scope d=>exact absurd rfl (hs d)
 |region id ops draw=>
  have e':Am P nt ops.toList draw=.exit _:=e
  exact(H6 e' rfl).elim
 |_=>cases e
theorem Ok.ret (k:K .ret t h):Ok P nt .ret t h K:=by
 refine⟨.ret,t,h,BV _ fun c e hs=>?_,k⟩
 cases c with
 |ret=>exact⟨Ak.refl h,Nat.le_refl _,fun ρ a w w0 Q A R hQ=>wp_ret (hQ ρ a w (Ext.refl _ ρ) A R)⟩
 |scope d=>exact absurd rfl (hs d)
 |region id ops draw=>
  have e':Am P nt ops.toList draw=.ret:=e
  exact(H6 e' rfl).elim
 |_=>cases e
/--behind the first part -/
def bH (K':F->H->Prop) (K:X->F->H->Prop):X->F->H->Prop
 |.normal,t,h=>K' t h
 |x,t,h=>K x t h
theorem Ok.seq {a b:CC} (k:Ok P nt a t h (bH (fun t h=>Ok P nt b t h K) K)):Ok P nt (.seq a b) t h K:=by
 obtain⟨x,t1,h1,a1,a2⟩:=k
 have inv:∀ c,comp P nt c=.seq a b->(∀ d,c≠.scope d)->∃ c1 c2,c=.seq c1 c2/\comp P nt c1=a/\comp P nt c2=b:=by
  intro c e hs
  cases c with
  |seq c1 c2=>cases e;exact⟨c1,c2,rfl,rfl,rfl⟩
  |scope d=>exact absurd rfl (hs d)
  |region id ops draw=>
   have e':Am P nt ops.toList draw=.seq a b:=e
   exact(H6 e' rfl).elim
  |_=>cases e
 cases x with
 |normal=>
  obtain⟨x2,t2,h2,b1,b2⟩:=a2
  refine⟨x2,t2,h2,BV _ fun c e hs=>?_,b2⟩
  obtain⟨c1,c2,rfl,e1,e2⟩:=inv c e hs
  exact(a1 c1 e1).trans (b1 c2 e2)
 |exit id=>
  refine⟨_,t1,h1,BV _ fun c e hs=>?_,a2⟩
  obtain⟨c1,c2,rfl,e1,e2⟩:=inv c e hs
  obtain⟨s1,s2,s3⟩:=a1 c1 e1
  exact⟨s1,s2,fun ρ a w w0 Q A R hQ=>wp_seq (s3 ρ a w w0 _ A R fun ρ' a' w' l1 A' R'=>hQ ρ' a' w' l1 A' R')⟩
 |ret=>
  refine⟨_,t1,h1,BV _ fun c e hs=>?_,a2⟩
  obtain⟨c1,c2,rfl,e1,e2⟩:=inv c e hs
  obtain⟨s1,s2,s3⟩:=a1 c1 e1
  exact⟨s1,s2,fun ρ a w w0 Q A R hQ=>wp_seq (s3 ρ a w w0 _ A R fun ρ' a' w' l1 A' R'=>hQ ρ' a' w' l1 A' R')⟩
theorem Ok.cond {o:O} {a b:CC} {q:Bool} (hq:oV o t=.b q) (ha:q=true->Ok P nt a t h K) (hb:q=false->Ok P nt b t h K):Ok P nt (.cond o a b) t h K:=by
 have inv:∀ c,comp P nt c=.cond o a b->(∀ d,c≠.scope d)->∃ x c1 c2,c=.cond x c1 c2/\AI x=o/\comp P nt c1=a/\comp P nt c2=b:=by
  intro c e hs
  cases c with
  |cond x c1 c2=>cases e;exact⟨x,c1,c2,rfl,rfl,rfl,rfl⟩
  |scope d=>exact absurd rfl (hs d)
  |region id ops draw=>
   have e':Am P nt ops.toList draw=.cond o a b:=e
   exact(H6 e' rfl).elim
  |_=>cases e
 have hev:∀ x,AI x=o->∀ ρ a,CT ρ nt t a->a.eval x=.bool q:=fun x hx ρ a A=>by
  have:=KK A x
  rw[hx,hq]at this;exact this
 cases q with
 |true=>
  obtain⟨x,t1,h1,a1,a2⟩:=ha rfl
  refine⟨x,t1,h1,BV _ fun c e hs=>?_,a2⟩
  obtain⟨y,c1,c2,rfl,e0,e1,e2⟩:=inv c e hs
  obtain⟨s1,s2,s3⟩:=a1 c1 e1
  exact⟨s1,s2,fun ρ a w w0 Q A R hQ=>wp_cond_true (hev y e0 ρ a A) (s3 ρ a w w0 Q A R hQ)⟩
 |false=>
  obtain⟨x,t1,h1,a1,a2⟩:=hb rfl
  refine⟨x,t1,h1,BV _ fun c e hs=>?_,a2⟩
  obtain⟨y,c1,c2,rfl,e0,e1,e2⟩:=inv c e hs
  obtain⟨s1,s2,s3⟩:=a1 c2 e2
  exact⟨s1,s2,fun ρ a w w0 Q A R hQ=>wp_cond_false (hev y e0 ρ a A) (s3 ρ a w w0 Q A R hQ)⟩
/--out of a block -/
def Out (id:Nat) (K:X->F->H->Prop):X->F->H->Prop
 |.exit j,t,h=>if j=id then K .normal t h else K (.exit j) t h
 |x,t,h=>K x t h
theorem Ok.block {id:Nat} {a:CC} (k:Ok P nt a t h (Out id K)):Ok P nt (.block id a) t h K:=by
 obtain⟨x,t1,h1,a1,a2⟩:=k
 have inv:∀ c,comp P nt c=.block id a->(∀ d,c≠.scope d)->∃ c1,c=.block id c1/\comp P nt c1=a:=by
  intro c e hs
  cases c with
  |block j c1=>cases e;exact⟨c1,rfl,rfl⟩
  |scope d=>exact absurd rfl (hs d)
  |region id ops draw=>
   have e':Am P nt ops.toList draw=.block _ a:=e
   exact(H6 e' rfl).elim
  |_=>cases e
 cases x with
 |normal=>
  refine⟨_,t1,h1,BV _ fun c e hs=>?_,a2⟩
  obtain⟨c1,rfl,e1⟩:=inv c e hs
  obtain⟨s1,s2,s3⟩:=a1 c1 e1
  exact⟨s1,s2,fun ρ a w w0 Q A R hQ=>wp_block (s3 ρ a w w0 _ A R fun ρ' a' w' l1 A' R'=>hQ ρ' a' w' l1 A' R')⟩
 |ret=>
  refine⟨_,t1,h1,BV _ fun c e hs=>?_,a2⟩
  obtain⟨c1,rfl,e1⟩:=inv c e hs
  obtain⟨s1,s2,s3⟩:=a1 c1 e1
  exact⟨s1,s2,fun ρ a w w0 Q A R hQ=>wp_block (s3 ρ a w w0 _ A R fun ρ' a' w' l1 A' R'=>hQ ρ' a' w' l1 A' R')⟩
 |exit j=>
  by_cases hj:j=id
  ·have a2':K .normal t1 h1:=by
    have:(if j=id then K .normal t1 h1 else K (.exit j) t1 h1):=a2
    rwa [if_pos hj]at this
   refine⟨_,t1,h1,BV _ fun c e hs=>?_,a2'⟩
   obtain⟨c1,rfl,e1⟩:=inv c e hs
   obtain⟨s1,s2,s3⟩:=a1 c1 e1
   refine⟨s1,s2,fun ρ a w w0 Q A R hQ=>wp_block (s3 ρ a w w0 _ A R fun ρ' a' w' l1 A' R'=>?_)⟩
   show(if j=id then Q .normal a' w' else Q (.exit j) a' w')
   rw[if_pos hj];exact hQ ρ' a' w' l1 A' R'
  ·have a2':K (.exit j) t1 h1:=by
    have:(if j=id then K .normal t1 h1 else K (.exit j) t1 h1):=a2
    rwa [if_neg hj]at this
   refine⟨_,t1,h1,BV _ fun c e hs=>?_,a2'⟩
   obtain⟨c1,rfl,e1⟩:=inv c e hs
   obtain⟨s1,s2,s3⟩:=a1 c1 e1
   refine⟨s1,s2,fun ρ a w w0 Q A R hQ=>wp_block (s3 ρ a w w0 _ A R fun ρ' a' w' l1 A' R'=>?_)⟩
   show(if j=id then Q .normal a' w' else Q (.exit j) a' w')
   rw[if_neg hj];exact hQ ρ' a' w' l1 A' R'
end
/--a loop:'Inv m' holds at each round's head,and m falls -/
theorem Ok.loop {P:Program} {nt:Nat} {a:CC} {K:X->F->H->Prop} (Inv:Nat->F->H->Prop)
 (round:∀ m t h,Inv m t h->Ok P nt a t h (bH (fun t' h'=>∃ m',m'<m/\Inv m' t' h') K)):∀ m t h,Inv m t h->Ok P nt (.loop a) t h K:=by
 have inv:∀ c,comp P nt c=.loop a->(∀ d,c≠.scope d)->∃ c1,c=.loop c1/\comp P nt c1=a:=by
  intro c e hs
  cases c with
  |loop c1=>cases e;exact⟨c1,rfl,rfl⟩
  |scope d=>exact absurd rfl (hs d)
  |region id ops draw=>
   have e':Am P nt ops.toList draw=.loop a:=e
   exact(H6 e' rfl).elim
  |_=>cases e
 have main:∀ n m t h,m<=n->Inv m t h->∃ x t' h',(∀ c,comp P nt c=a->Ak h h'/\B.val h.next<=B.val h'.next/\Lf P nt c t h x t' h')/\K x t' h':=by
  intro n
  induction n with
  |zero=>
   intro m t h hm hI
   obtain⟨x,t1,h1,a1,a2⟩:=round m t h hI
   cases x with
   |normal=>obtain⟨m',hm',_⟩:=a2;omega
   |exit id=>exact⟨_,t1,h1,fun c e=>⟨(a1 c e).1,(a1 c e).2.1,fun ρ a w w0 Q A R hQ=>DH ((a1 c e).2.2 ρ a w w0 _ A R fun ρ' a' w' l1 A' R'=>hQ ρ' a' w' l1 A' R')⟩,a2⟩
   |ret=>exact⟨_,t1,h1,fun c e=>⟨(a1 c e).1,(a1 c e).2.1,fun ρ a w w0 Q A R hQ=>DH ((a1 c e).2.2 ρ a w w0 _ A R fun ρ' a' w' l1 A' R'=>hQ ρ' a' w' l1 A' R')⟩,a2⟩
  |succ n ih=>
   intro m t h hm hI
   obtain⟨x,t1,h1,a1,a2⟩:=round m t h hI
   cases x with
   |normal=>
    obtain⟨m',hm',hI'⟩:=a2
    obtain⟨x2,t2,h2,b1,b2⟩:=ih m' t1 h1 (by omega) hI'
    refine⟨x2,t2,h2,fun c e=>?_,b2⟩
    obtain⟨s1,s2,s3⟩:=a1 c e
    obtain⟨r1,r2,r3⟩:=b1 c e
    refine⟨Ak.trans s1 s2 r1,Nat.le_trans s2 r2,fun ρ a w w0 Q A R hQ=>?_⟩
    refine DH (s3 ρ a w w0 _ A R fun ρ' a' w' l1 A' R'=>?_)
    exact r3 ρ' a' w' w0 Q A' R' fun ρ'' a'' w'' l2 A'' R''=>hQ ρ'' a'' w'' (l1.trans (by rw[<-s1.1];exact l2)) A'' R''
   |exit id=>exact⟨_,t1,h1,fun c e=>⟨(a1 c e).1,(a1 c e).2.1,fun ρ a w w0 Q A R hQ=>DH ((a1 c e).2.2 ρ a w w0 _ A R fun ρ' a' w' l1 A' R'=>hQ ρ' a' w' l1 A' R')⟩,a2⟩
   |ret=>exact⟨_,t1,h1,fun c e=>⟨(a1 c e).1,(a1 c e).2.1,fun ρ a w w0 Q A R hQ=>DH ((a1 c e).2.2 ρ a w w0 _ A R fun ρ' a' w' l1 A' R'=>hQ ρ' a' w' l1 A' R')⟩,a2⟩
 intro m t h hI
 obtain⟨x,t',h',a1,a2⟩:=main m m t h (Nat.le_refl _) hI
 refine⟨x,t',h',BV _ fun c e hs=>?_,a2⟩
 obtain⟨c1,rfl,e1⟩:=inv c e hs
 obtain⟨s1,s2,s3⟩:=a1 c1 e1
 exact⟨s1,s2,fun ρ a w w0 Q A R hQ=>K7 (s3 ρ a w w0 Q A R hQ)⟩
def S0 (P:Program) (f:FuncId) (vs:List V) (h:H) (v:V) (h':H):Prop:=Ak h h'/\B.val h.next<=B.val h'.next/\
 ∀ ρ w w0 args,BG ρ vs args->Aw ρ h w w0->
  (callFunc f args.toArray).run P w=.ok (.enter f args.toArray) w/\Calls P f args.toArray w fun e w'=>∃ x,e=.returned x/\KN h.floor ρ w0 v h' x w'
def BZ (P:Program) (f:FuncId) (vs:List V) (h:H) (K:V->H->Prop):Prop:=∃ v h',S0 P f vs h v h'/\K v h'
theorem BZ.mono {P:Program} {f:FuncId} {vs:List V} {h:H} {K K':V->H->Prop} (a:BZ P f vs h K) (hk:∀ v h,K v h->K' v h):BZ P f vs h K':=by
 obtain⟨v,h',a1,a2⟩:=a
 exact⟨v,h',a1,hk _ _ a2⟩
abbrev Spec:=FuncId->List V->H->V->H->Prop
open Classical in
/--calls by their specifications -/
def Gu (P:Program) (S:Spec):Bo:=fun f vs h k=>if e:∃ r:V×H,S0 P f vs h r.1 r.2/\S f vs h r.1 r.2 then k (Classical.choose e).1 (Classical.choose e).2 else false
theorem Kp (P:Program) (S:Spec):Fb P (Gu P S):=by
 intro f vs h k hk
 unfold Gu at hk
 split at hk
 ·rename_i e
  have:=(Classical.choose_spec e).1
  refine⟨_,_,fun k'=>?_,this.1,this.2.1,this.2.2⟩
  ·unfold Gu;rw[dif_pos e]
 ·cases hk
/--a call:what comes of it is one value,one state,of which the specification holds -/
theorem IS {P:Program} {S:Spec} {f:FuncId} {vs:List V} {h:H} (a:BZ P f vs h (S f vs h)):∃ v h',(∀ k,Gu P S f vs h k=k v h')/\S f vs h v h':=by
 have e:∃ r:V×H,S0 P f vs h r.1 r.2/\S f vs h r.1 r.2:=by
  obtain⟨v,h',a1,a2⟩:=a
  exact⟨(v,h'),a1,a2⟩
 exact⟨_,_,fun k=>by unfold Gu;rw[dif_pos e],(Classical.choose_spec e).2⟩
section
variable {P:Program} {nt:Nat} {t:F} {h:H} {K:X->F->H->Prop}
theorem Ok.region {S:Spec} {ops:List CO} {t':F} {h':H} (e:∀ k:F->H->Bool,Bu (Gu P S) ops t h k=k t' h') (k:K .normal t' h'):Ok P nt (.region ops) t h K:=by
 refine⟨.normal,t',h',BV _ fun c e' hs=>?_,k⟩
 cases c with
 |region id os draw=>
  have e1:Am P nt os.toList draw=.region ops:=e'
  obtain⟨rfl,rfl⟩:=Ue e1
  obtain⟨t1,h1,a1,a2,a3,a4⟩:=S3 (Kp P S) (fun _=>true) os.toList 0 (by simp) t h (fun _ _=>true) (e _)
  have hth:t1=t'/\h1=h':=by
   have:=(a1 fun t2 h2=>@decide (t2=t1/\h2=h1) (Classical.propDecidable _))
   rw[e]at this
   simp at this
   exact⟨this.1.symm,this.2.symm⟩
  obtain⟨rfl,rfl⟩:=hth
  refine⟨a2,a3,fun ρ a w w0 Q A R hQ=>wp_region ?_⟩
  have:=a4 ρ a w w0 Q A R hQ
  rwa [show List.range' 0 os.toList.length=List.range os.size by rw[List.range_eq_range'];simp]at this
 |scope d=>exact absurd rfl (hs d)
 |_=>cases e'
theorem Ok.Bg {S:Spec} (hm:P.follows .mixedOrders=true) {ops:List CO} {ch:Option (List Nat×List (Nat×List Nat))} {t':F} {h':H} (e:∀ k:F->H->Bool,DU (Gu P S) ops t h k=k t' h') (k:K .normal t' h'):Ok P nt (.Bg ops ch) t h K:=by
 refine⟨.normal,t',h',BV _ fun c e' hs=>?_,k⟩
 cases c with
 |region id os draw=>
  have e1:Am P nt os.toList draw=.Bg ops ch:=e'
  obtain⟨rfl,hd,e1⟩:=I2 e1
  cases e1
  obtain⟨t1,h1,a1,a2,a3,a4⟩:=Ni hm (Kp P S) hd (e fun _ _=>true)
  have hth:t1=t'/\h1=h':=by
   have:=(a1 fun t2 h2=>@decide (t2=t1/\h2=h1) (Classical.propDecidable _))
   rw[e]at this
   simp at this
   exact⟨this.1.symm,this.2.symm⟩
  obtain⟨rfl,rfl⟩:=hth
  exact⟨a2,a3,fun ρ a w w0 Q A R hQ=>a4 ρ a w w0 id Q A R hQ⟩
 |scope d=>exact absurd rfl (hs d)
 |_=>cases e'
end
/--A FUNCTION:its body from its arguments on -/
theorem tQ {P:Program} {f:FuncId} {fn:Func} {body:Code} {cc:CC} {rs:List Rs} {vs:List V} {h:H} {K:V->H->Prop} (hfn:P.funcs.toList[f]? =some fn) (hb:fn.body=some body) (hnm:(fn.name== "runtime.NumGoroutine")=false)
 (hcc:comp P fn.ntmps body=cc) (hrs:fn.results.toList.map (EU P)=rs) (hl1:vs.length<=fn.ntmps) (hl2:vs.length<=512)
 (ok:Ok P fn.ntmps cc (Ay vs 0 F.zero) h fun x t' h'=>match x with
   |.exit _=>False
   |_=>∃ us,(∀ k:List V->Bool,Fq rs t' h' k=k us)/\K (one us) h'):BZ P f vs h K:=by
 obtain⟨x,t',h',s,k⟩:=ok
 obtain⟨x2,x3,x4⟩:=s body hcc
 have hfn':P.funcs[f]? =some fn:=by simpa using hfn
 have hx:(x=.normal\/x=.ret)/\∃ us,(∀ k:List V->Bool,Fq rs t' h' k=k us)/\K (one us) h':=by
  cases x with
  |exit id=>exact k.elim
  |normal=>exact⟨.inl rfl,k⟩
  |ret=>exact⟨.inr rfl,k⟩
 obtain⟨r2,us,r1,kk⟩:=hx
 obtain⟨us',q1,q2⟩:=Hv (nt:=fn.ntmps) (fn:=fn) (P:=P) (t:=t') (h:=h') (k:=fun _=>true) (by rw[hrs,r1])
 have hus:us'=us:=by
  have:=q1 fun u=>@decide (u=us') (Classical.propDecidable _)
  rw[hrs,r1]at this
  simp at this
  exact this.symm
 subst hus
 refine⟨one us',h',⟨x2,x3,fun ρ w w0 args hargs R=>?_⟩,kk⟩
 have hal:=hargs.length
 obtain⟨t0,s1,s2,s3⟩:=F9 vs 0 F.zero (fun _=>true) (by omega)
 have ht0:t0=Ay vs 0 F.zero:=by
  have:=s1 fun u=>@decide (u=t0) (Classical.propDecidable _)
  rw[I0]at this
  simp at this
  exact this.symm
 constructor
 ·have hp:(program:Sem Program).run P w=.ok P w:=rfl
  unfold callFunc
  simp only[Sem.run_bind,hp,Result.andThen_ok,hfn',hnm,Bool.false_eq_true,if_false,hb,Option.isNone_some]
  rfl
 ·refine calls_of_wp hfn' hb ?_
  have A0:CT ρ fn.ntmps t0 {tmps:=args.toArray++Array.replicate (fn.ntmps-args.toArray.size) undef,defers:=[]}:=by
   refine⟨rfl,by simp;omega,fun m hm=>?_⟩
   by_cases hmv:m<vs.length
   ·have hv:vs[m]? =some (vs[m]'hmv):=by simp
    obtain⟨y,y1,y2⟩:=hargs.get hv
    have:=s2 m _ hv
    rw[Nat.zero_add]at this
    rw[this]
    have hy:(args.toArray++Array.replicate (fn.ntmps-args.toArray.size) undef).getD m undef=y:=by
     have hma:m<args.length:=by omega
     rw[Array.getD_eq_getD_getElem?,Array.getElem?_append_left (by simpa using hma)]
     simp[y1]
    rw[hy];exact y2
   ·rw[s3 m hm (.inr (by omega)),Lr];trivial
  rw[ht0]at A0
  refine x4 ρ _ w w0 _ A0 R fun ρ' a' w' hle A' R'=>?_
  obtain⟨y,y1,y2⟩:=q2 ρ' a' w' w0 A' R'
  rcases r2 with rfl|rfl
  ·exact⟨A'.defers,y,y2,y,rfl,ρ',hle,y1,R'⟩
  ·exact⟨A'.defers,y,y2,y,rfl,ρ',hle,y1,R'⟩
/--a function that the evaluator ran -/
theorem BZ.W8 {P:Program} {f:FuncId} (p:Kb P f) (h:H):BZ P f [] h fun v h'=>v=.b true/\h'=h:=by
 refine⟨.b true,h,⟨Ak.refl h,Nat.le_refl _,fun ρ w w0 args hargs R=>?_⟩,rfl,rfl⟩
 have ha:args=[]:=by cases args<;>first|rfl|exact hargs.elim
 subst ha
 obtain⟨p1,p2⟩:=p w
 refine⟨p1,p2.mono fun e w' he=>?_⟩
 obtain⟨rfl,s1,s2,s3,s4,s5⟩:=he
 exact⟨_,rfl,ρ,Ext.refl _ ρ,rfl,R.grow s1 s2 s3 s4 s5⟩
end Go.Ev
namespace Go.Ev
open Go
structure Fx (P:Program) (S:Spec) (l:List CO) (t:F) (h:H) (K:F->H->Prop):Prop where
 run:∃ t' h',(∀ k,Bu (Gu P S) l t h k=k t' h')/\K t' h'
structure Gf (P:Program) (S:Spec) (l:List CO) (t:F) (h:H) (K:F->H->Prop):Prop where
 run:∃ t' h',(∀ k,DU (Gu P S) l t h k=k t' h')/\K t' h'
section
variable {P:Program} {S:Spec} {nt:Nat} {l:List CO} {t:F} {h:H} {K:F->H->Prop}
theorem Ok.ops {K:X->F->H->Prop} (k:Fx P S l t h (K .normal)):Ok P nt (.region l) t h K:=by
 obtain⟨t',h',a1,a2⟩:=k
 exact Ok.region a1 a2
theorem Fx.nil (k:K t h):Fx P S [] t h K:=⟨t,h,fun _=>rfl,k⟩
theorem Gf.nil (k:K t h):Gf P S [] t h K:=⟨t,h,fun _=>rfl,k⟩
theorem Fx.op {n:Nat} {b:Bool} {r:CW} {v:V} {h1:H} (e:∀ k,r (Gu P S) t h k=k v h1) (k:Fx P S l (put n v t) h1 K):Fx P S (.mk .none (.some (AV n)) b (.mk r)::l) t h K:=by
 obtain⟨t',h',a1,a2⟩:=k
 refine⟨t',h',fun k=>?_,a2⟩
 show r (Gu P S) t h (fun v h=>KW (AV n) v t fun t=>Bu (Gu P S) l t h k)=_
 rw[e,FK,a1]
theorem Fx.wj {b:Bool} {r:CW} {v:V} {h1:H} (e:∀ k,r (Gu P S) t h k=k v h1) (k:Fx P S l t h1 K):Fx P S (.mk .none .none b (.mk r)::l) t h K:=by
 obtain⟨t',h',a1,a2⟩:=k
 refine⟨t',h',fun k=>?_,a2⟩
 show r (Gu P S) t h (fun v h=>Bu (Gu P S) l t h k)=_
 rw[e,a1]
theorem Fx.guard {g n:Nat} {w q:Bool} {b:Bool} {r:CR} (e:get g t=.b q) (k1:q=w->Fx P S (.mk .none (.some (AV n)) b r::l) t h K) (k2:q=(!w)->Fx P S l (put n (.tu []) t) h K):
 Fx P S (.mk (.some (AV g) w) (.some (AV n)) b r::l) t h K:=by
 have e0:∀ k,Bu (Gu P S) (.mk (.some (AV g) w) (.some (AV n)) b r::l) t h k=vG (get g t) w fun x=>IM x r (.some (AV n)) (Gu P S) (Bu (Gu P S) l) t h k:=fun _=>rfl
 have e1:∀ f,vG (.b q) w f=f (xor (xor q w) true):=fun _=>rfl
 by_cases hq:q=w
 ·obtain⟨t',h',a1,a2⟩:=k1 hq
  refine⟨t',h',fun k=>?_,a2⟩
  rw[e0,e,e1,hq]
  have:xor (xor w w) true=true:=by cases w<;>rfl
  rw[this]
  exact a1 k
 ·have hq':q=!w:=by cases q<;>cases w<;>simp_all
  obtain⟨t',h',a1,a2⟩:=k2 hq'
  refine⟨t',h',fun k=>?_,a2⟩
  rw[e0,e,e1,hq']
  have:xor (xor (!w) w) true=false:=by cases w<;>rfl
  rw[this]
  show KW (AV n) (.tu []) t (fun t=>Bu (Gu P S) l t h k)=_
  rw[FK,a1]
theorem Fx.g1 {g n:Nat} {w:Bool} {b:Bool} {r:CR} (e:get g t=.b w) (k:Fx P S (.mk .none (.some (AV n)) b r::l) t h K):Fx P S (.mk (.some (AV g) w) (.some (AV n)) b r::l) t h K:=
 Fx.guard e (fun _=>k) fun h=>by cases w<;>cases h
theorem EJ (t:F) (k:List V->Bool):∀ os:List O,Co os t k=k (os.map fun o=>oV o t):=by
 intro os
 induction os generalizing k with
 |nil=>rfl
 |cons o os ih=>
  have e:Co (o::os) t k=oK o t fun v=>Co os t fun vs=>k (v::vs):=rfl
  rw[e,Au,ih];rfl
/--a call:by the function's specification -/
theorem Fx.call {n:Nat} {b:Bool} {f:FuncId} {args:List O} {vs:List V} (e:args.map (fun o=>oV o t)=vs) (hf:BZ P f vs h (S f vs h)) (k:∀ v h1,S f vs h v h1->Fx P S l (put n v t) h1 K):
 Fx P S (.mk .none (.some (AV n)) b (.mk (AW f args))::l) t h K:=by
 obtain⟨v,h1,c1,c2⟩:=IS hf
 refine Fx.op (v:=v) (h1:=h1) (fun k=>?_) (k v h1 c2)
 show Co args t (fun vs=>Gu P S f vs h k)=_
 rw[EJ,e,c1]
theorem Gf.Gv {n:Nat} {r:CW} {v:V} {h1:H} (e:∀ k,r (Gu P S) t h k=k v h1) (k:Gf P S l (put n v t) h1 K):Gf P S (.mk .none (.some (AV n)) true (.mk r)::l) t h K:=by
 obtain⟨t',h',a1,a2⟩:=k
 refine⟨t',h',fun k=>?_,a2⟩
 show r (Gu P S) t h (fun v h=>KW (AV n) v t fun t=>DU (Gu P S) l t h k)=_
 rw[e,FK,a1]
theorem Gf.op {n:Nat} {r:CW} {v:V} {h1:H} (e:∀ k,r (Gu P S) t (A4 h) k=k v h1) (k:Gf P S l (put n v t) (CK h h1) K):Gf P S (.mk .none (.some (AV n)) false (.mk r)::l) t h K:=by
 obtain⟨t',h',a1,a2⟩:=k
 refine⟨t',h',fun k=>?_,a2⟩
 show r (Gu P S) t (A4 h) (fun v h2=>KW (AV n) v t fun t=>DU (Gu P S) l t (CK h h2) k)=_
 rw[e,FK,a1]
theorem Gf.guard {g n:Nat} {w q:Bool} {b:Bool} {r:CR} (e:get g t=.b q) (k1:q=w->Gf P S (.mk .none (.some (AV n)) b r::l) t h K) (k2:q=(!w)->Gf P S l (put n (.tu []) t) h K):
 Gf P S (.mk (.some (AV g) w) (.some (AV n)) b r::l) t h K:=by
 have e0:∀ k,DU (Gu P S) (.mk (.some (AV g) w) (.some (AV n)) b r::l) t h k=vG (get g t) w fun x=>JJ x b r (.some (AV n)) (Gu P S) (DU (Gu P S) l) t h k:=fun _=>rfl
 have e1:∀ f,vG (.b q) w f=f (xor (xor q w) true):=fun _=>rfl
 by_cases hq:q=w
 ·obtain⟨t',h',a1,a2⟩:=k1 hq
  refine⟨t',h',fun k=>?_,a2⟩
  rw[e0,e,e1,hq]
  have:xor (xor w w) true=true:=by cases w<;>rfl
  rw[this]
  exact a1 k
 ·have hq':q=!w:=by cases q<;>cases w<;>simp_all
  obtain⟨t',h',a1,a2⟩:=k2 hq'
  refine⟨t',h',fun k=>?_,a2⟩
  rw[e0,e,e1,hq']
  have:xor (xor (!w) w) true=false:=by cases w<;>rfl
  rw[this]
  show KW (AV n) (.tu []) t (fun t=>DU (Gu P S) l t h k)=_
  rw[FK,a1]
theorem Gf.g1 {g n:Nat} {w:Bool} {b:Bool} {r:CR} (e:get g t=.b w) (k:Gf P S (.mk .none (.some (AV n)) b r::l) t h K):Gf P S (.mk (.some (AV g) w) (.some (AV n)) b r::l) t h K:=
 Gf.guard e (fun _=>k) fun h=>by cases w<;>cases h
theorem Gf.call {n:Nat} {f:FuncId} {args:List O} {vs:List V} (e:args.map (fun o=>oV o t)=vs) (hf:BZ P f vs (A4 h) (S f vs (A4 h))) (k:∀ v h1,S f vs (A4 h) v h1->Gf P S l (put n v t) (CK h h1) K):
 Gf P S (.mk .none (.some (AV n)) false (.mk (AW f args))::l) t h K:=by
 obtain⟨v,h1,c1,c2⟩:=IS hf
 refine Gf.op (v:=v) (h1:=h1) (fun k=>?_) (k v h1 c2)
 show Co args t (fun vs=>Gu P S f vs (A4 h) k)=_
 rw[EJ,e,c1]
end
section
variable {K':F->H->Prop} {K:X->F->H->Prop} {t:F} {h:H} {id j:Nat}
theorem o7:Out id K .normal t h=K .normal t h:=rfl
theorem rV:Out id K (.exit j) t h=if j=id then K .normal t h else K (.exit j) t h:=rfl
theorem mF:Out id K .ret t h=K .ret t h:=rfl
end
section
variable (cf:Bo) (t:F) (h:H) (k:V->H->Bool) (o x y c:O)
theorem Xg:AA o cf t h k=k (oV o t) h:=by simp only[AA,Au]
theorem Xd:Ac c x y cf t h k=vB (oV c t) fun q=>k (cond q (oV x t) (oV y t)) h:=by
 simp only[Ac,AN,Au]
 congr 1;funext q;cases q<;>rfl
theorem dQ (f:Fc):AX f x y cf t h k=vI (oV x t) fun kd a=>vI (oV y t) fun kd' b=>Ap (CU kd kd') fun _=>f kd a b fun v=>k v h:=by simp only[AX,AN]
theorem Zj:CN x cf t h k=vB (oV x t) fun a=>k (.b (!a)) h:=by simp only[CN,AN,CX]
theorem Vm (ne:Bool):DF ne x y cf t h k=vB (oV x t) fun a=>vB (oV y t) fun b=>k (.b (xor ne (xor (xor a b) true))) h:=by simp only[DF,AN,CX]
theorem PG (j:Nat):AH j x cf t h k=vT (oV x t) fun vs=>B9 (vs[j]?) fun v=>k v h:=by simp only[AH,AN,BM]
theorem WN:BH x cf t h k=vS (oV x t) fun n _=>k (.i .i64 (.ofNat n)) h:=by simp only[BH,AN]
theorem Wc:Aa o cf t h k=vP (oV o t) fun id g off fin=>DI h id g off fin fun v=>k v h:=by simp only[Aa,AN]
theorem VU (size:Nat):Ah size o cf t h k=vP (oV o t) fun id g off fin=>Bz h id g off fin size fun vs=>k (.a vs) h:=by simp only[Ah,AN]
theorem Mr (d:Nat):AG d o cf t h k=vP (oV o t) fun id g off fin=>k (.p id g (off+d) fin) h:=by simp only[AG,AN,A8];rfl
theorem Tt (d:Nat):Hk d o cf t h k=vA (oV o t) fun cs=>B9 (cs[d]?) fun v=>k v h:=by simp only[Hk,AN,BM]
theorem RC (d size:Nat):Fy d size o cf t h k=vA (oV o t) fun cs=>k (.a ((cs.drop d).take size)) h:=by simp only[Fy,AN]
theorem OP:Be o cf t h k=vP (oV o t) fun id g off fin=>k (.p id g off fin) h:=by simp only[Be,AN]
theorem eU:LI x y cf t h k=vI (oV x t) fun kd a=>vI (oV y t) fun kd' b=>Ap (CU kd kd') fun _=>k (.i kd (min a b)) h:=by
 simp only[LI,AN,EZ]
 congr 1;funext kd a;congr 1;funext kd' b
 congr 1;funext _
 by_cases hba:b<a
 ·simp[hba,A5];rw[Int.min_eq_right (by omega)]
 ·simp[hba,A5];rw[Int.min_eq_left (by omega)]
theorem Zs:Jc x y cf t h k=vI (oV x t) fun kd a=>vI (oV y t) fun kd' b=>Ap (CU kd kd') fun _=>k (.i kd (max a b)) h:=by
 simp only[Jc,AN,EZ]
 congr 1;funext kd a;congr 1;funext kd' b
 congr 1;funext _
 by_cases hba:a<b
 ·simp[hba,A5];rw[Int.max_eq_right (by omega)]
 ·simp[hba,A5];rw[Int.max_eq_left (by omega)]
end
section
variable (kd:IntKind) (a b:Int) (k:V->Bool)
theorem pz:By kd a b k=k (.i kd (kd.wrap (a+b))):=Cd _ _ _
theorem sj:JD kd a b k=k (.i kd (kd.wrap (a-b))):=Cd _ _ _
theorem om:Ul kd a b k=k (.i kd (kd.wrap (a*b))):=Cd _ _ _
theorem iJ:Cr kd a b k=k (.b (decide (a<b))):=by simp only[Cr,CX,EZ]
theorem ji:C6 kd a b k=k (.b (decide (b<a))):=by simp only[C6,CX,EZ]
theorem k9:Hn kd a b k=k (.b (decide (a<=b))):=by
 simp only[Hn,CX,EZ];congr 2
 by_cases h:b<a
 ·simp[h]
 ·simp[h];omega
theorem rE:Gt kd a b k=k (.b (decide (b<=a))):=by
 simp only[Gt,CX,EZ];congr 2
 by_cases h:a<b
 ·simp[h]
 ·simp[h];omega
theorem n6:CY kd a b k=k (.b (decide (a=b))):=by simp only[CY,CX,Ee];congr 2
theorem rp:FI kd a b k=k (.b (!decide (a=b))):=by simp only[FI,CX,Ee];congr 2
end
theorem BR (kd:IntKind):CU kd kd=true:=by cases kd<;>rfl
theorem wrap_i64 {n:Int} (h1: -9223372036854775808<=n) (h2:n<=9223372036854775807):IntKind.i64.wrap n=n:=by
 cases n with
 |ofNat m=>exact wrap_small .i64 m (by show m<=9223372036854775807;simp at h2;omega)
 |negSucc m=>
  simp only[IntKind.wrap,IntKind.bits,IntKind.signed]
  have e:Int.negSucc m%(2 ^ 64:Int)=2 ^ 64-(m+1):=by omega
  simp[e]
  omega
def Gp (Af:Option E0) (g off:Nat):Option V:=match Af with
 |some b=>if b.min<=g then b.cells.BU off else none
 |none=>none
def cell (h:H) (id:B) (g off:Nat):Option V:=Gp (h.heap.get id) g off
theorem Gh {h:H} {id:B} {g off fin:Nat} {v:V} (hc:cell h id g off=some v) (hf:off<fin) (k:V->Bool):DI h id g off fin k=k v:=by
 obtain⟨next,floor,heap⟩:=h
 unfold cell Gp at hc
 simp only at hc
 split at hc
 ·rename_i Af hb
  obtain⟨cur,min,size,cells,el,fr⟩:=Af
  simp only at hc
  split at hc
  ·rename_i hm
   have h1:Nat.ble min g=true:=by rw[Nat.ble_eq];exact hm
   have h2:Nat.ble (Nat.succ off) fin=true:=by rw[Nat.ble_eq];exact hf
   simp only[DI,B6,hb,Ad,BC,h1,h2,AF,hc,BM]
  ·cases hc
 ·cases hc
theorem Hu (cells:T V):∀ (n off:Nat) (vs:List V) (k:List V->Bool),vs.length=n->(∀ i v,vs[i]? =some v->cells.BU (off+i)=some v)->En n cells off k=k vs
 |0,off,vs,k,hl,_=>by
  have:vs=[]:=List.eq_nil_of_length_eq_zero hl
  subst this;rfl
 |n+1,off,vs,k,hl,hv=>by
  cases vs with
  |nil=>simp at hl
  |cons v vs=>
   have e:En (n+1) cells off k=B9 (cells.BU off) fun v=>En n cells (off+1) fun vs=>k (v::vs):=rfl
   have h0:=hv 0 v rfl
   rw[Nat.add_zero]at h0
   rw[e,h0,Ad,Hu cells n (off+1) vs _ (by simpa using hl) fun i u hu=>by have:=hv (i+1) u (by simpa using hu);rwa [show off+(i+1)=off+1+i by omega]at this]
/--some cells,one behind the other -/
def Row (h:H) (id:B) (g off:Nat) (vs:List V):Prop:=(vs≠[]->∃ b,h.heap.get id=some b/\b.min<=g)/\∀ i v,vs[i]? =some v->cell h id g (off+i)=some v
theorem Cw {h:H} {id:B} {g off fin n:Nat} {vs:List V} (hr:Row h id g off vs) (hn:vs.length=n) (hne:vs≠[]) (hf:off+n<=fin) (k:List V->Bool):Bz h id g off fin n k=k vs:=by
 obtain⟨next,floor,heap⟩:=h
 obtain⟨hr1,hc⟩:=hr
 obtain⟨b,hb,hm⟩:=hr1 hne
 obtain⟨cur,min,size,cells,el,fr⟩:=b
 have h1:Nat.ble min g=true:=by rw[Nat.ble_eq];exact hm
 have h2:Nat.ble (Nat.add off n) fin=true:=by rw[Nat.ble_eq];exact hf
 simp only[Bz,B6]
 have hb':heap.get id=some ⟨cur,min,size,cells,el,fr⟩:=hb
 simp only[hb',Ad,BC,h1,h2,AF]
 refine Hu cells n off vs k hn fun i v hv=>?_
 have:=hc i v hv
 unfold cell Gp at this
 simp only[hb']at this
 rwa [if_pos hm]at this
theorem Lk:∀ (f n:Nat) (x:V) (t:T V) (k:T V->Bool),n+1<2 ^ f->(∀ t',k t'=true)->T.HJ f x t n k=true:=by
 intro f
 induction f with
 |zero=>intro n x t k h;simp at h
 |succ f ih=>
  intro n x t k h hk
  cases n with
  |zero=>cases t<;>exact hk _
  |succ m=>
   have e:T.HJ (f+1) x t (m+1) k=ZQ (m%2) m (T.HJ f) x t k:=rfl
   have hm:m/2+1<2 ^ f:=by rw[Nat.pow_succ]at h;omega
   rw[e]
   rcases Nat.mod_two_eq_zero_or_one m with hp|hp
   ·have e2:ZQ (m%2) m (T.HJ f) x t k=nO t (T.HJ f) x (m/2) k:=by rw[hp];rfl
    rw[e2]
    cases t with
    |o=>exact ih _ _ _ _ hm fun _=>hk _
    |n l v r=>exact ih _ _ _ _ hm fun _=>hk _
   ·have e2:ZQ (m%2) m (T.HJ f) x t k=nI t (T.HJ f) x (m/2) k:=by rw[hp];rfl
    rw[e2]
    cases t with
    |o=>exact ih _ _ _ _ hm fun _=>hk _
    |n l v r=>exact ih _ _ _ _ hm fun _=>hk _
theorem Bv:∀ (vs:List V) (n:Nat) (t:T V),n+vs.length<2 ^ 38->∃ t',(∀ k,Cp vs n t k=k t')/\(∀ i v,vs[i]? =some v->t'.BU (n+i)=some v)/\∀ m,m<n\/n+vs.length<=m->t'.BU m=t.BU m:=by
 have fine:∀ (vs:List V) (n:Nat) (t:T V) (k:T V->Bool),n+vs.length<2 ^ 38->(∀ t',k t'=true)->Cp vs n t k=true:=by
  intro vs
  induction vs with
  |nil=>intro n t k _ hk;exact hk t
  |cons v vs ih=>
   intro n t k hl hk
   exact Lk 40 n v t _ (by simp at hl;omega) fun t'=>ih (n+1) t' k (by simp at hl;omega) hk
 intro vs n t hl
 exact EF vs n t (fun _=>true) (fine vs n t _ hl fun _=>rfl)
/--what of a state stays:all blocks that there are,but those of which p holds -/
structure AZ (p:B->Prop) (h h':H):Prop where
 floor:h'.floor=h.floor
 next:B.val h.next<=B.val h'.next
 get:∀ id,B.val id<B.val h.next->¬p id->h'.heap.get id=h.heap.get id
theorem AZ.refl (p:B->Prop) (h:H):AZ p h h:=⟨rfl,Nat.le_refl _,fun _ _ _=>rfl⟩
theorem AZ.trans {p:B->Prop} {a b c:H} (x:AZ p a b) (y:AZ p b c):AZ p a c:=
 ⟨y.floor.trans x.floor,Nat.le_trans x.next y.next,fun id h1 h2=>(y.get id (Nat.lt_of_lt_of_le h1 x.next) h2).trans (x.get id h1 h2)⟩
theorem AZ.mono {p q:B->Prop} {a b:H} (x:AZ p a b) (h:∀ id,B.val id<B.val a.next->p id->q id):AZ q a b:=⟨x.floor,x.next,fun id h1 h2=>x.get id h1 fun h3=>h2 (h id h1 h3)⟩
def AM:B->Prop:=fun _=>False
theorem AZ.cell {p:B->Prop} {h h':H} (x:AZ p h h') {id:B} (h1:B.val id<B.val h.next) (h2:¬p id) (g off:Nat):cell h' id g off=cell h id g off:=by
 unfold Ev.cell;rw[x.get id h1 h2]
/--a new block -/
theorem Dk (el:Nat) (cs:List V) (h:H) (hl:cs.length<2 ^ 38):∃ h',(∀ k,alloc el cs h k=k h.next h')/\AZ AM h h'/\B.val h'.next=B.val h.next+1/\
 (∃ b,h'.heap.get h.next=some b/\b.min=0/\b.cur=0/\b.size=cs.length/\b.el=el/\b.fr=0/\∀ i v,cs[i]? =some v->b.cells.BU i=some v):=by
 obtain⟨next,floor,heap⟩:=h
 obtain⟨tr,t1,t2,t3⟩:=Bv cs 0 .o (by omega)
 obtain⟨hp,s1,s2,s3⟩:=Bp next (⟨0,0,cs.length,tr,el,0⟩:E0) heap
 obtain⟨nx,n1,n2⟩:=Ga next
 refine⟨⟨nx,floor,hp⟩,fun k=>?_,⟨rfl,by show B.val next<=B.val nx;omega,fun id h1 _=>s3 id fun e=>by rw[e]at h1;exact absurd h1 (Nat.lt_irrefl _)⟩,n2,⟨0,0,cs.length,tr,el,0⟩,s2,rfl,rfl,rfl,rfl,rfl,fun i v hv=>?_⟩
 ·show fN cs.length (fun sz=>Cp cs 0 .o fun t=>T.GO next ⟨0,0,sz,t,el,0⟩ heap fun heap=>B.PX next fun next'=>k next ⟨next',floor,heap⟩)=_
  rw[A8,t1,s1,n1]
 ·have:=t2 i v hv
  rwa [Nat.zero_add]at this
/--the slice v reads as the cells xs (elements of one cell) -/
def Hw (h:H) (v:V) (xs:List V):Prop:=
 (v=.l0/\xs=[])\/∃ id g off fin cap,v=.l id g off xs.length fin cap/\off+xs.length<=fin/\B.val id<B.val h.next/\Row h id g off xs
def I4:V->B|.l id _ _ _ _ _=>id|_=>.h
def lg:V->Nat|.l _ g _ _ _ _=>g|_=>0
def EH:V->Nat|.l _ _ off _ _ _=>off|_=>0
def EW:V->Nat|.l _ _ _ _ fin _=>fin|_=>0
def RW (v:V) (k:Nat->Bool):Bool:=vL v (fun _=>k 0) fun _ _ _ n _ _=>k n
def Q7 (size:Nat) (v:V) (n:Nat) (k:V->Bool):Bool:=vL v (fun _=>false) fun id g off len fin _=>Ap (Nat.ble (n+1) len) fun _=>k (.p id g (off+n*size) fin)
theorem bM (x:O) (cf:Bo) (t:F) (h:H) (k:V->H->Bool):CG x cf t h k=RW (oV x t) fun n=>k (.i .i64 (n:Int)) h:=by simp only[CG,AN];rfl
theorem Zw (size:Nat) (o x:O) (cf:Bo) (t:F) (h:H) (k:V->H->Bool):As size o x cf t h k=vI (oV x t) fun _ n=>A6 n fun n=>Q7 size (oV o t) n fun p=>k p h:=by
 have no:∀ u:V,(vI u fun _ n=>A6 n fun _=>false)=false:=by
  intro u
  cases u<;>first|rfl|(rename_i kd n;cases n<;>rfl)
 simp only[As,AN]
 generalize oV o t=v
 generalize oV x t=u
 have hn:∀ w:V,(∀ z k,vL w z k=false)->(vI u fun _ n=>A6 n fun n=>Q7 size w n fun p=>k p h)=false:=by
  intro w hw
  have:(fun(_:IntKind) (n:Int)=>A6 n fun n=>Q7 size w n fun p=>k p h)=fun _ n=>A6 n fun _=>false:=by
   funext _ n;congr 1;funext n;exact hw _ _
  rw[this];exact no u
 cases v with
 |l id g off len fin cap=>simp only[DQ,A8];rfl
 |l0=>
  have:(vI u fun _ n=>A6 n fun n=>Q7 size .l0 n fun p=>k p h)=false:=no u
  rw[this];rfl
 |_=>rw[hn _ fun _ _=>rfl];rfl
theorem Bj (i:Nat) (k:Nat->Bool):A6 (i:Int) k=k i:=rfl
theorem Hw.len {h0:H} {v:V} {xs:List V} (a:Hw h0 v xs) (k:Nat->Bool):RW v k=k xs.length:=by
 rcases a with⟨rfl,rfl⟩|⟨id,g,off,fin,cap,rfl,_⟩<;>rfl
theorem GA {h:H} {v:V} {xs:List V} {i:Nat} {y:V} (a:Hw h v xs) (hy:xs[i]? =some y) (k:V->Bool):DI h (I4 v) (lg v) (EH v+i) (EW v) k=k y:=by
 have hi:=(List.getElem?_eq_some_iff.1 hy).1
 rcases a with⟨rfl,rfl⟩|⟨id,g,off,fin,cap,rfl,h2,_,h4⟩
 ·simp at hi
 ·exact Gh (h4.2 i y hy) (by show off+i<fin;omega) k
theorem Row.stay {p:B->Prop} {h h':H} {id:B} {g off:Nat} {vs:List V} (r:Row h id g off vs) (s:AZ p h h') (h1:B.val id<B.val h.next) (h2:¬p id):Row h' id g off vs:=by
 obtain⟨r1,r2⟩:=r
 exact⟨(fun hne=>by obtain⟨b,b1,b2⟩:=r1 hne;exact⟨b,(s.get id h1 h2).trans b1,b2⟩),fun i v hv=>(s.cell h1 h2 g (off+i)).trans (r2 i v hv)⟩
theorem Hw.stay {p:B->Prop} {h h':H} {v:V} {xs:List V} (a:Hw h v xs) (s:AZ p h h') (hp:∀ id g off n fin cap,v=.l id g off n fin cap->¬p id):Hw h' v xs:=by
 rcases a with⟨rfl,rfl⟩|⟨id,g,off,fin,cap,rfl,h2,h3,h4⟩
 ·exact .inl ⟨rfl,rfl⟩
 ·exact .inr ⟨id,g,off,fin,cap,rfl,h2,Nat.lt_of_lt_of_le h3 s.next,h4.stay s h3 (hp _ _ _ _ _ _ rfl)⟩
theorem Hw.grow {h h':H} {v:V} {xs:List V} (a:Hw h v xs) (s:AZ AM h h'):Hw h' v xs:=a.stay s fun _ _ _ _ _ _ _=>id
/--a slice of bools -/
def Bl (h:H) (v:V) (R:List Bool):Prop:=Hw h v (R.map V.b)
theorem Bl.grow {h h':H} {v:V} {R:List Bool} (a:Bl h v R) (s:AZ AM h h'):Bl h' v R:=Hw.grow a s
theorem Bl.len {h0:H} {v:V} {R:List Bool} (a:Bl h0 v R) (k:Nat->Bool):RW v k=k R.length:=by
 rw[Hw.len a];simp
theorem Bl.rd {h:H} {v:V} {R:List Bool} {i:Nat} (a:Bl h v R) (hi:i<R.length) (k:V->Bool):DI h (I4 v) (lg v) (EH v+i) (EW v) k=k (.b (R.getD i false)):=
 GA a (by simp[hi]) k
/--a slice of slices of bools -/
def Mx (h:H) (v:V) (M:List (List Bool)):Prop:=∃ rows,Hw h v rows/\rows.length=M.length/\∀ i r,rows[i]? =some r->Bl h r (M.getD i [])
theorem Mx.grow {h h':H} {v:V} {M:List (List Bool)} (a:Mx h v M) (s:AZ AM h h'):Mx h' v M:=by
 obtain⟨rows,r1,r2,r3⟩:=a
 exact⟨rows,r1.grow s,r2,fun i r hr=>(r3 i r hr).grow s⟩
theorem Mx.len {h0:H} {v:V} {M:List (List Bool)} (a:Mx h0 v M) (k:Nat->Bool):RW v k=k M.length:=by
 obtain⟨rows,r1,r2,r3⟩:=a
 rw[r1.len,r2]
theorem Mx.rd {h:H} {v:V} {M:List (List Bool)} {i:Nat} (a:Mx h v M) (hi:i<M.length):∃ r,Bl h r (M.getD i [])/\∀ k:V->Bool,DI h (I4 v) (lg v) (EH v+i) (EW v) k=k r:=by
 obtain⟨rows,r1,r2,r3⟩:=a
 have hi':i<rows.length:=by omega
 have hr:rows[i]? =some rows[i]:=by simp
 exact⟨rows[i],r3 i _ hr,GA r1 hr⟩
theorem ny (n:Nat) (t:F) (h:H) (k:List V->Bool):Fq [Rs.tmp (AV n)] t h k=k [get n t]:=by
 show B0 (B2 (AV n) t) (fun v=>k [v])=_
 rw[BM];rfl
theorem m8 (n m:Nat) (t:F) (h:H) (k:List V->Bool):Fq [Rs.tmp (AV n),Rs.tmp (AV m)] t h k=k [get n t,get m t]:=by
 show B0 (B2 (AV n) t) (fun v=>B0 (B2 (AV m) t) fun u=>k [v,u])=_
 rw[BM,BM];rfl
theorem iH (v:V):one [v]=v:=rfl
theorem iO (v u:V):one [v,u]=.tu [v,u]:=rfl
theorem Row.grow {h h':H} {id:B} {g off:Nat} {vs:List V} (r:Row h id g off vs) (s:AZ AM h h') (h1:B.val id<B.val h.next):Row h' id g off vs:=r.stay s h1 fun h=>h
theorem Fx.box {P:Program} {S:Spec} {l:List CO} {t:F} {h:H} {K:F->H->Prop} {n:Nat} {b:Bool} {el:Nat} {o:O} {v:V} (e:oV o t=v) (hk:FE v=true) (hl:(cells v).length<2 ^ 38)
 (k:∀ h1 id,AZ AM h h1->B.val id<B.val h1.next->B.val h.next<=B.val id->Row h1 id 0 0 (cells v)->Fx P S l (put n (.p id 0 0 (cells v).length) t) h1 K):Fx P S (.mk .none (.some (AV n)) b (.mk (Cn el o))::l) t h K:=by
 obtain⟨h1,a1,a2,a3,Af,b1,b2,b3,b4,b5,b6,b7⟩:=Dk el (cells v) h hl
 refine Fx.op (v:=.p h.next 0 0 (cells v).length) (h1:=h1) (fun k=>?_) (k h1 h.next a2 (by omega) (Nat.le_refl _) ⟨fun _=>⟨Af,b1,by omega⟩,fun i y hy=>?_⟩)
 ·show Cn el o _ t h k=_
  simp only[Cn,Au,e,hk,AF,a1]
 ·unfold Ev.cell Gp
  rw[b1]
  show(if Af.min<=0 then Af.cells.BU (0+i)else none)=some y
  rw[if_pos (by omega),Nat.zero_add]
  exact b7 i y hy
/--A FUNCTION,as it is compiled -/
theorem bD {P:Program} {f:FuncId} {nt:Nat} {cc:CC} {rs:List Rs} {vs:List V} {h:H} {K:V->H->Prop} (hc:AY P f=⟨nt,cc,rs⟩) (hbad:cc≠.bad) (hl1:vs.length<=nt) (hl2:vs.length<=512)
 (ok:Ok P nt cc (Ay vs 0 F.zero) h fun x t' h'=>match x with
   |.exit _=>False
   |_=>∃ us,(∀ k:List V->Bool,Fq rs t' h' k=k us)/\K (one us) h'):BZ P f vs h K:=by
 unfold AY at hc
 split at hc
 ·cases hc;exact absurd rfl hbad
 ·rename_i fn hfn
  split at hc
  ·rename_i b hb hnm
   cases hc
   exact tQ hfn hb hnm rfl rfl hl1 hl2 ok
  ·cases hc;exact absurd rfl hbad
end Go.Ev
namespace Go.Ev
open Go
def nb:Nat->B
 |0=>.h
 |n+1=>Classical.choose (Ga (nb n))
theorem FD:∀ n,B.val (nb n)=n+1
 |0=>rfl
 |n+1=>by
  have:=(Classical.choose_spec (Ga (nb n))).2
  show B.val (Classical.choose (Ga (nb n)))=_
  rw[this,FD n]
theorem Te {m n:Nat} (h:nb m=nb n):m=n:=by
 have:=congrArg B.val h
 rw[FD,FD]at this;omega
def LU (W:World) (n:Nat):Nat:=match W.heap[n]? with
 |some (.cells c _ _)=>c.size
 |_=>0
open Classical in
def LV (W:World):BF:=fun id g=>if e:g=0/\∃ n,n<W.heap.size/\id=nb n then some ⟨Classical.choose e.2,0,LU W (Classical.choose e.2),LU W (Classical.choose e.2),none⟩else none
theorem MZ {W:World} {n:Nat} (h:n<W.heap.size):LV W (nb n) 0=some ⟨n,0,LU W n,LU W n,none⟩:=by
 have e:(0:Nat)=0/\∃ m,m<W.heap.size/\nb n=nb m:=⟨rfl,n,h,rfl⟩
 unfold LV
 rw[dif_pos e]
 have:=Te (Classical.choose_spec e.2).2
 rw[<-this]
theorem FF {W:World} {id:B} {g:Nat} {L:Loc} (h:LV W id g=some L):∃ n,n<W.heap.size/\id=nb n/\g=0/\L=⟨n,0,LU W n,LU W n,none⟩:=by
 unfold LV at h
 split at h
 ·rename_i e
  cases h
  exact⟨_,(Classical.choose_spec e.2).1,(Classical.choose_spec e.2).2,e.1,rfl⟩
 ·cases h
def Db (W:World):Value->V
 |.bool b=>.b b
 |.int k n=>.i k n
 |.string bs=>.s bs.size (pk bs.data.toList)
 |.pointer none=>.p0
 |.pointer (some ⟨b,off,none⟩)=>open Classical in if b<W.heap.size then .p (nb b) 0 off (LU W b)else .u
 |.slice none 0 0=>.l0
 |.slice (some ⟨b,off,none⟩) (n+1) cap=>open Classical in if b<W.heap.size/\n+1<=cap/\cap<18446744073709551616 then .l (nb b) 0 off (n+1) (LU W b) (some cap)else .u
 |.slice (some _) 0 _=>open Classical in if 0<W.heap.size then .l (nb 0) 0 0 0 0 none else .u
 |.nilFunc=>.f0
 |.nilIface=>.x0
 |.map none=>.m0
 |_=>.u
theorem Kf (W:World) (x:Value):At (LV W) (Db W x) x:=by
 unfold Db
 split
 ·rfl
 ·rfl
 ·rename_i bs
  refine⟨bs,rfl,rfl,JP _⟩
 ·rfl
 ·split
  ·rename_i h
   exact⟨_,MZ h,rfl,Nat.zero_le _,Nat.le_refl _⟩
  ·trivial
 ·rfl
 ·split
  ·rename_i h
   exact⟨_,_,_,MZ h.1,rfl,h.2.1,Nat.zero_le _,Nat.le_refl _,.inr rfl,(fun d hd _=>by cases hd;rfl),(fun hd=>absurd hd (QO.no h.2.2))⟩
  ·trivial
 ·split
  ·rename_i h
   exact⟨_,_,_,MZ h,rfl,Nat.zero_le _,Nat.zero_le _,Nat.zero_le _,.inl ⟨rfl,.inl rfl⟩,(fun d hd=>by cases hd),(fun _=>.inl ⟨rfl,rfl⟩)⟩
  ·trivial
 ·rfl
 ·rfl
 ·rfl
 ·trivial
theorem W9 (vs:List V):∃ t:T V,∀ (i:Nat) v,vs[i]? =some v->t.BU i=some v:=by
 have key:∀ n,∃ t:T V,∀ (i:Nat) v,i<n->vs[i]? =some v->t.BU i=some v:=by
  intro n
  induction n with
  |zero=>exact⟨.o,fun i v h=>absurd h (Nat.not_lt_zero i)⟩
  |succ n ih=>
   obtain⟨t,ht⟩:=ih
   cases hv:vs[n]? with
   |none=>exact⟨t,fun i v hi h=>by
     by_cases e:i=n
     ·subst e;rw[hv]at h;cases h
     ·exact ht i v (by omega) h⟩
   |some x=>
    obtain⟨t',h1,h2,h3⟩:=P7 (n+2) x t n (fun _=>true) (Lk (n+2) n x t _ (Nat.lt_trans (Nat.lt_succ_self _) Nat.lt_two_pow_self) fun _=>rfl)
    refine⟨t',fun i v hi h=>?_⟩
    by_cases e:i=n
    ·subst e;rw[hv]at h;cases h;exact h2
    ·rw[h3 i e];exact ht i v (by omega) h
 obtain⟨t,ht⟩:=key vs.length
 exact⟨t,fun i v h=>ht i v (List.getElem?_eq_some_iff.1 h).1 h⟩
/--what is known of the n-th block -/
def N4 (W:World) (n:Nat) (b:E0):Prop:=b.cur=0/\b.size=LU W n/\match W.heap[n]? with
 |some (.cells c el fz)=>b.min=0/\b.el=el/\b.fr=fz.2+2/\∀ (i:Nat) x,c[i]? =some x->b.cells.BU i=some (Db W x)
 |_=>b.min=1
theorem ct (W:World) (n:Nat):∃ b,N4 W n b:=by
 unfold N4 LU
 cases h:W.heap[n]? with
 |none=>exact⟨⟨0,1,0,.o,0,0⟩,rfl,rfl,rfl⟩
 |some o=>
  cases o with
  |cells c el fz=>
   obtain⟨t,ht⟩:=W9 (c.toList.map (Db W))
   refine⟨⟨0,0,c.size,t,el,fz.2+2⟩,rfl,rfl,rfl,rfl,rfl,fun i x hx=>ht i _ ?_⟩
   simp[hx]
  |_=>exact⟨⟨0,1,0,.o,0,0⟩,rfl,rfl,rfl⟩
theorem W4 (W:World):∀ k,∃ hp:T E0,∀ n,n<k->∃ b,hp.get (nb n)=some b/\N4 W n b:=by
 intro k
 induction k with
 |zero=>exact⟨.o,fun n h=>absurd h (Nat.not_lt_zero n)⟩
 |succ k ih=>
  obtain⟨hp,h⟩:=ih
  obtain⟨b,hb⟩:=ct W k
  obtain⟨hp',s1,s2,s3⟩:=Bp (nb k) b hp
  refine⟨hp',fun n hn=>?_⟩
  by_cases e:n=k
  ·subst e;exact⟨b,s2,hb⟩
  ·obtain⟨b',h1,h2⟩:=h n (by omega)
   exact⟨b',(s3 _ fun he=>e (Te he)).trans h1,h2⟩
/--THE STATE THAT A CALL BEGINS IN -/
theorem start (W:World):∃ h:H,Aw (LV W) h W W/\∀ n,n<W.heap.size->B.val (nb n)<B.val h.next/\B.val (nb n)<B.val h.floor/\∃ b,h.heap.get (nb n)=some b/\N4 W n b:=by
 obtain⟨hp,hh⟩:=W4 W W.heap.size
 refine⟨⟨nb W.heap.size,nb W.heap.size,hp⟩,⟨?_,?_,?_,Nat.le_refl _,fun _ _=>rfl,?_,rfl,rfl,rfl,Nat.le_refl _,?_,?_⟩,fun n hn=>⟨by show B.val (nb n)<B.val (nb _);rw[FD,FD];omega,by show B.val (nb n)<B.val (nb _);rw[FD,FD];omega,hh n hn⟩⟩
 ·intro id g L hL
  obtain⟨n,hn,rfl,rfl,rfl⟩:=FF hL
  obtain⟨b,b1,b2,b3,b4⟩:=hh n hn
  refine⟨b,b1,by omega,hn,Nat.zero_le _,fun _=>by show LU W n<=b.size;omega,fun _=>b3.symm,fun hm=>?_⟩
  cases hx:W.heap[n]? with
  |none=>rw[Array.getElem?_eq_none_iff]at hx;omega
  |some o=>
   rw[hx]at b4
   cases o with
   |cells c el fz=>
    obtain⟨c1,c2,c3,c4⟩:=b4
    have hcs:LU W n=c.size:=by unfold LU;rw[hx]
    refine⟨c,el,⟨c2.symm,fz,hx,?_⟩,hcs.symm,by show LU W n-0<=LU W n;omega,fun i _ hi=>?_⟩
    ·rw[c3];exact .inr (Nat.le_refl _)
    ·have hi':i<c.size:=by rw[<-hcs];exact hi
     have hxi:c[i]? =some (c[i]'hi'):=by simp
     exact⟨Db W c[i],c[i],c4 i _ hxi,by simpa using hxi,Kf W _⟩
   |_=>exact absurd hm (by rw[b4];exact Nat.not_succ_le_zero 0)
 ·intro id g L hL
  obtain⟨n,hn,rfl,rfl,rfl⟩:=FF hL
  show B.val (nb n)<B.val (nb _)
  rw[FD,FD];omega
 ·intro id g L id' g' L' hL hL' hb
  obtain⟨n,hn,rfl,rfl,rfl⟩:=FF hL
  obtain⟨n',hn',rfl,rfl,rfl⟩:=FF hL'
  have:n=n':=hb
  subst this;exact⟨rfl,rfl⟩
 ·intro id g L hL hf
  obtain⟨n,hn,rfl,rfl,rfl⟩:=FF hL
  have:B.val (nb W.heap.size)<=B.val (nb n):=hf
  rw[FD,FD]at this;omega
 ·intro id L Af hL h2 kc h3
  obtain⟨n,hn,rfl,_,rfl⟩:=FF hL
  obtain⟨b,b1,b2,b3,b4⟩:=hh n hn
  have hbe:hp.get (nb n)=some Af:=h2
  rw[b1]at hbe
  cases hbe
  have:Af.min<=1:=by
   revert b4
   split
   ·rintro⟨e,_⟩;omega
   ·intro e;omega
  have h7:7<=X1 kc:=by cases kc<;>decide
  omega
 ·intro id g L Af ob hL h2 hg h3 h5
  obtain⟨n,hn,rfl,_,rfl⟩:=FF hL
  cases h5
/--where it begins -/
structure Start (W:World) (h:H):Prop where
 rel:Aw (LV W) h W W
 Af:∀ n,n<W.heap.size->B.val (nb n)<B.val h.next/\B.val (nb n)<B.val h.floor/\∃ b,h.heap.get (nb n)=some b/\N4 W n b
theorem Start.cell {W:World} {h:H} (s:Start W h) {b off:Nat} {x:Value} (hx:W.cell? ⟨b,off,none⟩=some x):b<W.heap.size/\off<LU W b/\(∃ Af,h.heap.get (nb b)=some Af/\Af.min<=0)/\Ev.cell h (nb b) 0 off=some (Db W x):=by
 simp only[World.cell?]at hx
 split at hx
 ·rename_i c el fz hb
  have hlt:b<W.heap.size:=(Array.getElem?_eq_some_iff.1 hb).1
  obtain⟨_,_,Af,b1,b2,b3,b4⟩:=s.Af b hlt
  rw[hb]at b4
  obtain⟨c1,c2,c3,c4⟩:=b4
  have hcs:LU W b=c.size:=by unfold LU;rw[hb]
  refine⟨hlt,by rw[hcs];exact(Array.getElem?_eq_some_iff.1 hx).1,⟨Af,b1,by omega⟩,?_⟩
  unfold Ev.cell Gp
  rw[b1]
  show(if Af.min<=0 then Af.cells.BU off else none)=_
  rw[if_pos (by omega)]
  exact c4 off x hx
 ·cases hx
end Go.Ev
namespace Go.Ev
open Go
/--v is a slice of the call's own,that only it appends to:its cells are xs ('size' an element) -/
def EY (h:H) (el size:Nat) (v:V) (xs:List V):Prop:=
 (v=.l0/\xs=[])\/∃ id g n Af,v=.l id g 0 n xs.length none/\1<=n/\xs.length=n*size/\B.val h.floor<=B.val id/\B.val id<B.val h.next/\h.heap.get id=some Af/\(Af.min<=g/\g<=Af.cur)/\Af.size=xs.length/\Af.el=el/\Af.fr=0/\
   ∀ i y,xs[i]? =some y->Af.cells.BU i=some y
/--the block that a slice lies in -/
def BT (v:V):B->Prop:=fun id=>∃ g off n fin cap,v=.l id g off n fin cap
theorem EY.nil (h:H) (el size:Nat):EY h el size .l0 []:=.inl ⟨rfl,rfl⟩
theorem EY.tY {h:H} {el:Nat} {v:V} {xs:List V} (b:EY h el 1 v xs):Hw h v xs:=by
 rcases b with⟨rfl,rfl⟩|⟨id,g,n,Af,rfl,h1,h2,h3,h4,h5,h6,h7,h8,h9,h10⟩
 ·exact .inl ⟨rfl,rfl⟩
 ·refine .inr ⟨id,g,0,xs.length,none,by rw[h2,Nat.mul_one],by omega,h4,fun _=>⟨Af,h5,h6.1⟩,fun i y hy=>?_⟩
  unfold Ev.cell Gp
  rw[h5]
  show(if Af.min<=g then Af.cells.BU (0+i)else none)=_
  rw[if_pos h6.1,Nat.zero_add]
  exact h10 i y hy
theorem EY.stay {p:B->Prop} {h h':H} {el size:Nat} {v:V} {xs:List V} (b:EY h el size v xs) (s:AZ p h h') (hp:∀ id,BT v id->¬p id):EY h' el size v xs:=by
 rcases b with⟨rfl,rfl⟩|⟨id,g,n,Af,rfl,h1,h2,h3,h4,h5,h6⟩
 ·exact .inl ⟨rfl,rfl⟩
 ·exact .inr ⟨id,g,n,Af,rfl,h1,h2,by rw[s.floor];exact h3,Nat.lt_of_lt_of_le h4 s.next,(s.get id h4 (hp id ⟨_,_,_,_,_,rfl⟩)).trans h5,h6⟩
theorem EY.grow {h h':H} {el size:Nat} {v:V} {xs:List V} (b:EY h el size v xs) (s:AZ AM h h'):EY h' el size v xs:=b.stay s fun _ _ h=>h
/--it was made here,behind h0 -/
theorem EY.own {h:H} {el size:Nat} {v:V} {xs:List V} (b:EY h el size v xs) {id:B} (i:BT v id):B.val h.floor<=B.val id/\B.val id<B.val h.next:=by
 rcases b with⟨rfl,rfl⟩|⟨id',g,n,Af,rfl,h1,h2,h3,h4,_⟩
 ·obtain⟨_,_,_,_,_,e⟩:=i;cases e
 ·obtain⟨_,_,_,_,_,e⟩:=i;cases e;exact⟨h3,h4⟩
theorem LO {h:H} {el size n:Nat} {v:V} {xs vs:List V} (b:EY h el size v xs) (hf:B.val h.floor<=B.val h.next) (hsz:1<=size) (hn:vs.length=n*size) (h1:CB vs=true) (hb:xs.length+vs.length<=1048576):
 ∃ v' h',(∀ k,Cc el size v n vs h k=k v' h')/\EY h' el size v' (xs++vs)/\AZ (BT v) h h'/\∀ id,BT v' id->BT v id\/B.val h.next<=B.val id:=by
 have hle:n<=vs.length:=by rw[hn];exact Nat.le_mul_of_pos_right _ hsz
 rcases b with⟨rfl,rfl⟩|⟨id,g,m,Af,rfl,b1,b2,b3,b4,b5,b6,b7,b8,b9,PI⟩
 ·cases n with
  |zero=>
   have:vs=[]:=List.eq_nil_of_length_eq_zero (by simpa using hn)
   subst this
   exact⟨.l0,h,fun k=>rfl,EY.nil h el size,AZ.refl _ h,fun id i=>.inl i⟩
  |succ n=>
   obtain⟨h',a1,a2,a3,Af,c1,c2,c3,c4,c5,c6,c7⟩:=Dk el vs h (by omega)
   have hble:Nat.ble (n+1) 1048576=true:=by rw[Nat.ble_eq];simp at hb;omega
   refine⟨.l h.next 0 0 (n+1) vs.length none,h',fun k=>?_,.inr ⟨h.next,0,n+1,Af,rfl,by omega,hn,by rw[a2.floor];exact hf,by omega,c1,⟨by omega,by omega⟩,c4,c5,c6,c7⟩,a2.mono fun _ _ h=>h.elim,fun id i=>?_⟩
   ·show(Ap (Nat.ble (n+1) 1048576) fun _=>alloc el vs h fun id h=>k (.l id 0 0 (n+1) vs.length none) h)=_
    rw[hble,AF,a1]
   ·obtain⟨_,_,_,_,_,e⟩:=i;cases e;exact .inr (Nat.le_refl _)
 ·obtain⟨next,floor,heap⟩:=h
  obtain⟨cur,min,sz,cells,bel,fr⟩:=Af
  simp only at b6 b7 b8 b9 PI
  obtain⟨tr,t1,t2,t3⟩:=Bv vs sz cells (by omega)
  obtain⟨hp,s1,s2,s3⟩:=Bp id (⟨Nat.succ cur,min,Nat.add sz (Nat.mul n size),tr,bel,fr⟩:E0) heap
  have e1:Nat.ble min g=true:=by rw[Nat.ble_eq];exact b6.1
  have e2:B.Js floor id=true:=by
   cases floor<;>first|rfl|(show Nat.ble _ _=true;rw[Nat.ble_eq];exact b3)
  have e3:Nat.add 0 (Nat.mul m size)=sz:=by
   show 0+m*size=sz
   omega
  have e3':Nat.ble sz sz=true:=by rw[Nat.ble_eq];exact Nat.le_refl _
  have e4:Nat.beq xs.length sz=true:=by rw[b7];simp
  have e4':Nat.beq sz sz=true:=Nat.beq_refl _
  have e9:Ma size (Nat.add m n)=none:=KH (by show 1<=m+n;omega)
  have e5:Nat.ble 1 m=true:=by rw[Nat.ble_eq];exact b1
  have hm:m<=xs.length:=by rw[b2];exact Nat.le_mul_of_pos_right _ hsz
  have e6:Nat.ble (Nat.add m n) 1048576=true:=by rw[Nat.ble_eq];show m+n<=1048576;omega
  have e7:Hl fr sz=true:=by rw[b9];rfl
  have e8:Nat.beq bel el=true:=by rw[b8];simp
  refine⟨.l id (Nat.succ cur) 0 (m+n) (sz+n*size) none,⟨next,floor,hp⟩,fun k=>?_,.inr ⟨id,Nat.succ cur,m+n,_,?_,by omega,?_,b3,b4,s2,?_,?_,b8,b9,fun i y hy=>?_⟩,⟨rfl,Nat.le_refl _,fun id' _ hne=>s3 id' fun e=>hne (by subst e;exact⟨_,_,_,_,_,rfl⟩)⟩,fun id' i=>?_⟩
  ·show Cg (Nat.ble 1 m) el id g 0 m xs.length size n vs ⟨next,floor,heap⟩ k=_
   have b5':heap.get id=some ⟨cur,min,sz,cells,bel,fr⟩:=b5
   simp only[Cg,B6,b5',Ad,BC,A8,e3,e1,e2,e3',e4,e4',Sh,e5,e6,h1,e7,e8,e9,AF]
   rw[t1,s1];rfl
  ·show V.l id (Nat.succ cur) 0 (m+n) (sz+n*size) none=V.l id (Nat.succ cur) 0 (m+n) (xs++vs).length none
   rw[List.length_append,hn,b7]
  ·rw[List.length_append,hn,b2,Nat.add_mul]
  ·exact⟨by show min<=cur+1;omega,Nat.le_refl _⟩
  ·show Nat.add sz (Nat.mul n size)=(xs++vs).length
   rw[List.length_append,hn,b7];rfl
  ·show tr.BU i=some y
   by_cases hi:i<xs.length
   ·rw[t3 i (.inl (by omega))]
    refine PI i y ?_
    rwa [List.getElem?_append_left hi]at hy
   ·have hi':i-xs.length<vs.length:=by
     have:=(List.getElem?_eq_some_iff.1 hy).1
     simp at this;omega
    rw[List.getElem?_append_right (by omega)]at hy
    have:=t2 (i-xs.length) y hy
    rwa [show sz+(i-xs.length)=i by omega]at this
  ·obtain⟨_,_,_,_,_,e⟩:=i;cases e;exact .inl ⟨_,_,_,_,_,rfl⟩
/--a block of the call's own,with the cells xs (and perhaps more behind them) -/
def Own (h:H) (id:B) (xs:List V):Prop:=∃ Af,h.heap.get id=some Af/\Af.cur=0/\Af.min=0/\Af.fr=0/\B.val h.floor<=B.val id/\B.val id<B.val h.next/\∀ i y,xs[i]? =some y->Af.cells.BU i=some y
theorem Own.stay {p:B->Prop} {h h':H} {id:B} {xs:List V} (o:Own h id xs) (s:AZ p h h') (hp:¬p id):Own h' id xs:=by
 obtain⟨Af,h1,h2,h3,h4,h5,h6,h7⟩:=o
 exact⟨Af,(s.get id h6 hp).trans h1,h2,h3,h4,by rw[s.floor];exact h5,Nat.lt_of_lt_of_le h6 s.next,h7⟩
theorem Own.row {h:H} {id:B} {xs:List V} (o:Own h id xs):Row h id 0 0 xs:=by
 obtain⟨Af,h1,h2,h3,h4,h5,h6,h7⟩:=o
 refine⟨fun _=>⟨Af,h1,by omega⟩,fun i y hy=>?_⟩
 unfold Ev.cell Gp
 rw[h1]
 show(if Af.min<=0 then Af.cells.BU (0+i)else none)=_
 rw[if_pos (by omega),Nat.zero_add]
 exact h7 i y hy
theorem Own.tY {h:H} {id:B} {xs:List V} (o:Own h id xs) (cap:Option Nat):Hw h (.l id 0 0 xs.length xs.length cap) xs:=by
 have r:=o.row
 obtain⟨Af,h1,h2,h3,h4,h5,h6,h7⟩:=o
 exact .inr ⟨id,0,0,_,cap,rfl,by omega,h6,r⟩
/--at one place written -/
theorem JN {h:H} {id:B} {xs:List V} {j fin:Nat} {y:V} (o:Own h id xs) (hj:j<fin) (hfit:j<2 ^ 37) (h1:ES y=true):∃ h',(∀ k,store h id 0 j fin [y] k=k h')/\Own h' id (xs.set j y)/\AZ (fun i=>i=id) h h':=by
 obtain⟨Af,a1,a2,a3,a4,a5,a6,a7⟩:=o
 obtain⟨next,floor,heap⟩:=h
 obtain⟨cur,min,sz,cells,bel,fr⟩:=Af
 simp only at a2 a3 a4 a7
 subst a2;subst a3;subst a4
 obtain⟨tr,t1,t2,t3⟩:=Bv [y] j cells (by simp;omega)
 obtain⟨hp,s1,s2,s3⟩:=Bp id (⟨0,0,sz,tr,bel,0⟩:E0) heap
 have e1:B.Js floor id=true:=by cases floor<;>first|rfl|(show Nat.ble _ _=true;rw[Nat.ble_eq];exact a5)
 have e2:Nat.ble (Nat.add j 1) fin=true:=by rw[Nat.ble_eq];exact hj
 have e3:CB [y]=true:=by show Bool.rec false true (ES y)=true;rw[h1]
 have e4:Hl 0 j=true:=rfl
 have e5:Nat.beq 0 0=true:=rfl
 have e6:Nat.ble 0 0=true:=rfl
 have a1':heap.get id=some ⟨0,0,sz,cells,bel,0⟩:=a1
 refine⟨⟨next,floor,hp⟩,fun k=>?_,⟨_,s2,rfl,rfl,rfl,a5,a6,fun i z hz=>?_⟩,⟨rfl,Nat.le_refl _,fun i _ hi=>s3 i hi⟩⟩
 ·simp only[store,B6,a1',Ad,BC,List.length_singleton,e5,e6,e1,e2,e3,e4,AF]
  rw[t1,s1]
 ·show tr.BU i=some z
  rw[List.getElem?_set]at hz
  split at hz
  ·rename_i hij
   subst hij
   split at hz
   ·cases hz
    exact t2 0 y rfl
   ·cases hz
  ·rename_i hij
   rw[t3 i (by simp;omega)]
   exact a7 i z hz
theorem JM (el:Nat) (cs:List V) (h:H) (hl:cs.length<2 ^ 37) (hf:B.val h.floor<=B.val h.next):∃ h',(∀ k,alloc el cs h k=k h.next h')/\AZ AM h h'/\Own h' h.next cs/\B.val h'.next=B.val h.next+1:=by
 obtain⟨h',a1,a2,a3,Af,b1,b2,b3,b4,b5,b6,b7⟩:=Dk el cs h (by omega)
 exact⟨h',a1,a2,⟨Af,b1,b3,b2,b6,by rw[a2.floor];exact hf,by omega,b7⟩,a3⟩
theorem Mm (h:H):CK h (A4 h)=h:=by cases h;rfl
theorem AZ.HS {p:B->Prop} {h h1:H} (s:AZ p (A4 h) h1):AZ p h (CK h h1):=by
 obtain⟨n,f,hp⟩:=h
 obtain⟨n1,f1,hp1⟩:=h1
 exact⟨rfl,s.next,s.get⟩
theorem Own.HS {h h1:H} {id:B} {xs:List V} (o:Own h1 id xs) (hf:B.val h.floor<=B.val id):Own (CK h h1) id xs:=by
 obtain⟨n,f,hp⟩:=h
 obtain⟨n1,f1,hp1⟩:=h1
 obtain⟨Af,a1,a2,a3,a4,a5,a6,a7⟩:=o
 exact⟨Af,a1,a2,a3,a4,hf,a6,a7⟩
theorem S1 (cf:Bo) (t:F) (h:H) (k:V->H->Bool) (kd:IntKind) (x:O):Bn kd x cf t h k=Vr (oV x t) (fun _ n=>k (.i kd (kd.wrap n)) h) fun _ m r hi=>Ap (Nat.ble hi (BW kd)) fun _=>k (.r kd m r hi) h:=by simp only[Bn,AN,Cd]
theorem YZ (cf:Bo) (t:F) (h:H) (k:V->H->Bool) (x y:O):EP x y cf t h k=vI (oV y t) fun kd' b=>Vr (oV x t) (fun kd a=>Ap (CU kd kd') fun _=>Rt kd a b fun v=>k v h) fun kd m r _=>Xf kd' b (fun v=>k v h) kd m r:=by simp only[EP,AN,Au]
section
variable {P:Program} {S:Spec} {l:List CO} {t:F} {h:H} {K:F->H->Prop}
theorem Gf.pure {n:Nat} {r:CW} {v:V} (e:∀ k,r (Gu P S) t (A4 h) k=k v (A4 h)) (k:Gf P S l (put n v t) h K):Gf P S (.mk .none (.some (AV n)) false (.mk r)::l) t h K:=
 Gf.op e (by rw[Mm];exact k)
theorem Nh {o x:O} {id:B} {j fin:Nat} {y:V} {h':H} (e1:oV o t=.p id 0 j fin) (e2:cells (oV x t)=[y]) (hs:∀ k:H->Bool,store h id 0 j fin [y] k=k h') (cf:Bo) (k:V->H->Bool):Aq 1 o x cf t h k=k (.tu []) h':=by
 simp only[Aq,AN,Au,e1,IU,e2]
 have:Nat.beq [y].length 1=true:=rfl
 rw[this,AF,hs]
theorem Fx.store {b:Bool} {o x:O} {id:B} {j fin:Nat} {y:V} {xs:List V} (e1:oV o t=.p id 0 j fin) (e2:cells (oV x t)=[y]) (ho:Own h id xs) (hj:j<fin) (hfit:j<2 ^ 37) (h1:ES y=true)
 (k:∀ h',Own h' id (xs.set j y)->AZ (fun i=>i=id) h h'->Fx P S l t h' K):Fx P S (.mk .none .none b (.mk (Aq 1 o x))::l) t h K:=by
 obtain⟨h',a1,a2,a3⟩:=JN ho hj hfit h1
 exact Fx.wj (fun k=>Nh e1 e2 a1 _ k) (k h' a2 a3)
theorem Gf.wK {r:CW} {v:V} {h1:H} (e:∀ k,r (Gu P S) t h k=k v h1) (k:Gf P S l t h1 K):Gf P S (.mk .none .none true (.mk r)::l) t h K:=by
 obtain⟨t',h',a1,a2⟩:=k
 refine⟨t',h',fun k=>?_,a2⟩
 show r (Gu P S) t h (fun v h=>DU (Gu P S) l t h k)=_
 rw[e,a1]
theorem Gf.store {o x:O} {id:B} {j fin:Nat} {y:V} {xs:List V} (e1:oV o t=.p id 0 j fin) (e2:cells (oV x t)=[y]) (ho:Own h id xs) (hj:j<fin) (hfit:j<2 ^ 37) (h1:ES y=true)
 (k:∀ h',Own h' id (xs.set j y)->AZ (fun i=>i=id) h h'->Gf P S l t h' K):Gf P S (.mk .none .none true (.mk (Aq 1 o x))::l) t h K:=by
 obtain⟨h',a1,a2,a3⟩:=JN ho hj hfit h1
 exact Gf.wK (fun k=>Nh e1 e2 a1 _ k) (k h' a2 a3)
/--a literal of one element -/
theorem Gf.pM {n el:Nat} {o:O} {y:V} (e1:oV o t=y) (h1:FE y=true) (h2:cells y=[y]) (hf:B.val h.floor<=B.val h.next)
 (k:∀ h' id,AZ AM h h'->id=h.next->B.val h'.next=B.val h.next+1->Own h' id [y]->Gf P S l (put n (.l id 0 0 1 1 (some 1)) t) h' K) {z:V}:Gf P S (.mk .none (.some (AV n)) false (.mk (A9 el 1 [z] [Pt.mk 0 1 o]))::l) t h K:=by
 obtain⟨h',a1,a2,a3,a4⟩:=JM el [y] (A4 h) (by show 1<2 ^ 37;decide) (by rw[DX,Dv];exact Nat.le_refl _)
 rw[Dv]at a1 a3 a4
 refine Gf.op (v:=.l h.next 0 0 1 1 (some 1)) (h1:=h') (fun k=>?_) (k _ h.next a2.HS rfl (by obtain⟨n,f,hp⟩:=h;obtain⟨n1,f1,hp1⟩:=h';exact a4) (a3.HS hf))
 show oK o t (Gl 0 1 (fun t cs k=>k cs) t [z] fun cs=>alloc el cs (A4 h) fun id h=>k (.l id 0 0 1 cs.length (some 1)) h)=_
 rw[Au,e1]
 unfold Gl
 rw[h1,AF,h2]
 show alloc el [y] (A4 h) (fun id h=>k (.l id 0 0 1 1 (some 1)) h)=_
 rw[a1]
/--append of a literal of one element to an own slice -/
theorem QZ {el n:Nat} {s x:O} {id:B} {y:V} {v':V} {h':H} {v:V} (e1:oV s t=v) (e2:oV x t=.l id 0 0 1 1 (some 1)) (hr:Row h id 0 0 [y]) (ha:∀ k:V->H->Bool,Cc el 1 v 1 [y] h k=k v' h') (cf:Bo) (k:V->H->Bool):
 CE el 1 s x cf t h k=k v' h':=by
 simp only[CE,Au,e1,e2]
 show Bz h id 0 0 1 (Nat.mul 1 1) (fun vs=>Cc el 1 v 1 vs h k)=_
 have:Nat.mul 1 1=1:=rfl
 rw[this,Cw (n:=1) (vs:=[y]) hr rfl (by simp) (by omega),ha]
theorem Gf.kn {n el:Nat} {s x:O} {id:B} {y v:V} {xs:List V} (e1:oV s t=v) (e2:oV x t=.l id 0 0 1 1 (some 1)) (hr:Row h id 0 0 [y]) (hb:EY h el 1 v xs) (hf:B.val h.floor<=B.val h.next) (h1:ES y=true) (hl:xs.length+1<=1048576)
 (k:∀ v' h',EY h' el 1 v' (xs++[y])->AZ (BT v) h h'->(∀ i,BT v' i->BT v i\/B.val h.next<=B.val i)->ES v'=true->Gf P S l (put n v' t) h' K):Gf P S (.mk .none (.some (AV n)) true (.mk (CE el 1 s x))::l) t h K:=by
 obtain⟨v',h',a1,a2,a3,a4⟩:=LO (vs:=[y]) (n:=1) hb hf (Nat.le_refl _) rfl (by show Bool.rec false true (ES y)=true;rw[h1]) hl
 refine Gf.Gv (fun k=>QZ (n:=n) e1 e2 hr a1 _ k) (k v' h' a2 a3 a4 ?_)
 rcases a2 with⟨rfl,_⟩|⟨_,_,_,_,rfl,_⟩<;>rfl
end
theorem Ok.Ml {P:Program} {nt:Nat} {a b:CC} {t:F} {h:H} {K:X->F->H->Prop} (Q:F->H->Prop) (k1:Ok P nt a t h (bH Q K)) (k2:∀ t h,Q t h->Ok P nt b t h K):Ok P nt (.seq a b) t h K:=
 Ok.seq (k1.mono fun x t h hq=>by
  cases x with
  |normal=>exact k2 t h hq
  |exit id=>exact hq
  |ret=>exact hq)
theorem AZ.fl {h h':H} {p:B->Prop} (s:AZ p h h') (hf:B.val h.floor<=B.val h.next):B.val h'.floor<=B.val h'.next:=by rw[s.floor];exact Nat.le_trans hf s.next
section
variable {P:Program} {S:Spec} {l:List CO} {t:F} {h:H} {K:F->H->Prop}
end
end Go.Ev
namespace Go.Ev
open Go
section
variable {P:Program} {S:Spec} {l:List CO} {t:F} {h:H} {K:F->H->Prop}
/--a literal of one element -/
theorem Fx.pM {n el:Nat} {b:Bool} {o:O} {y z:V} (e1:oV o t=y) (h1:FE y=true) (h2:cells y=[y]) (hf:B.val h.floor<=B.val h.next)
 (k:∀ h' id,AZ AM h h'->id=h.next->B.val h'.next=B.val h.next+1->Own h' id [y]->Fx P S l (put n (.l id 0 0 1 1 (some 1)) t) h' K):Fx P S (.mk .none (.some (AV n)) b (.mk (A9 el 1 [z] [Pt.mk 0 1 o]))::l) t h K:=by
 obtain⟨h',a1,a2,a3,a4⟩:=JM el [y] h (by show 1<2 ^ 37;decide) hf
 refine Fx.op (v:=.l h.next 0 0 1 1 (some 1)) (h1:=h') (fun k=>?_) (k _ h.next a2 rfl a4 a3)
 show oK o t (Gl 0 1 (fun t cs k=>k cs) t [z] fun cs=>alloc el cs h fun id h=>k (.l id 0 0 1 cs.length (some 1)) h)=_
 rw[Au,e1]
 unfold Gl
 rw[h1,AF,h2]
 show alloc el [y] h (fun id h=>k (.l id 0 0 1 1 (some 1)) h)=_
 rw[a1]
theorem Fx.kn {n el:Nat} {b:Bool} {s x:O} {id:B} {y v:V} {xs:List V} (e1:oV s t=v) (e2:oV x t=.l id 0 0 1 1 (some 1)) (hr:Row h id 0 0 [y]) (hb:EY h el 1 v xs) (hf:B.val h.floor<=B.val h.next) (h1:ES y=true) (hl:xs.length+1<=1048576)
 (k:∀ v' h',EY h' el 1 v' (xs++[y])->AZ (BT v) h h'->(∀ i,BT v' i->BT v i\/B.val h.next<=B.val i)->Fx P S l (put n v' t) h' K):Fx P S (.mk .none (.some (AV n)) b (.mk (CE el 1 s x))::l) t h K:=by
 obtain⟨v',h',a1,a2,a3,a4⟩:=LO (vs:=[y]) (n:=1) hb hf (Nat.le_refl _) rfl (by show Bool.rec false true (ES y)=true;rw[h1]) hl
 exact Fx.op (fun k=>QZ (n:=n) e1 e2 hr a1 _ k) (k v' h' a2 a3 a4)
end
theorem AZ.B3 {p:B->Prop} {a b c:H} (x:AZ AM a b) (y:AZ p b c) (h:∀ id,p id->B.val a.next<=B.val id):AZ AM a c:=
 ⟨y.floor.trans x.floor,Nat.le_trans x.next y.next,fun id h1 _=>(y.get id (Nat.lt_of_lt_of_le h1 x.next) fun hp=>absurd (h id hp) (Nat.not_le.2 h1)).trans (x.get id h1 fun h=>h)⟩
/--a slice of ints -/
def Il (h:H) (v:V) (xs:List Int):Prop:=Hw h v (xs.map (V.i .i64))
theorem Il.grow {h h':H} {v:V} {xs:List Int} (a:Il h v xs) (s:AZ AM h h'):Il h' v xs:=Hw.grow a s
theorem Il.len {h0:H} {v:V} {xs:List Int} (a:Il h0 v xs) (k:Nat->Bool):RW v k=k xs.length:=by rw[Hw.len a];simp
theorem Il.rd {h:H} {v:V} {xs:List Int} {i:Nat} (a:Il h v xs) (hi:i<xs.length) (k:V->Bool):DI h (I4 v) (lg v) (EH v+i) (EW v) k=k (.i .i64 (xs.getD i 0)):=
 GA a (by simp[hi]) k
/--.. of the call's own,behind 'lo' -/
structure Ib (h:H) (lo el:Nat) (v:V) (xs:List Int):Prop where
 buf:EY h el 1 v (xs.map (V.i .i64))
 own:∀ i,BT v i->lo<=B.val i
theorem Ib.nil (h:H) (lo el:Nat):Ib h lo el .l0 []:=⟨EY.nil h el 1,fun i hi=>by obtain⟨_,_,_,_,_,e⟩:=hi;cases e⟩
theorem Ib.grow {h h':H} {lo el:Nat} {v:V} {xs:List Int} (a:Ib h lo el v xs) (s:AZ AM h h'):Ib h' lo el v xs:=⟨a.buf.grow s,a.own⟩
/--append(v,y)with its literal -/
theorem Fx.push {P:Program} {S:Spec} {l:List CO} {t:F} {h:H} {K:F->H->Prop} {n m el lo:Nat} {b b':Bool} {s o:O} {z v:V} {y:Int} {xs:List Int} (hnm:n<512) (hs:s≠.t (AV m)) (e1:oV s t=v) (e2:oV o t=.i .i64 y) (a:Ib h lo el v xs) (hf:B.val h.floor<=B.val h.next) (hlo:lo<=B.val h.next) (hl:xs.length+1<=1048576) (hm:m<512) (e3:∀ u,oV s (put m u t)=v)
 (k:∀ v' h' u,Ib h' lo el v' (xs++[y])->AZ (BT v) h h'->Fx P S l (put n v' (put m u t)) h' K):
 Fx P S (.mk .none (.some (AV m)) b (.mk (A9 el 1 [z] [Pt.mk 0 1 o]))::.mk .none (.some (AV n)) b' (.mk (CE el 1 s (.t (AV m))))::l) t h K:=by
 refine Fx.pM e2 rfl rfl hf fun h1 id s1 e n1 o1=>?_
 refine Fx.kn (e3 _) (by rw[TV,get_put _ _ _ _ hm hm,if_pos rfl]) o1.row (a.buf.grow s1) (s1.fl hf) rfl (by simpa using hl) fun v' h' b1 s2 hv=>?_
 refine k v' h' _ ⟨by simpa using b1,fun i hi=>?_⟩ ?_
 ·rcases hv i hi with h2|h2
  ·exact a.own i h2
  ·have:=s1.next;omega
 ·refine⟨s2.floor.trans s1.floor,Nat.le_trans s1.next s2.next,fun id' h1' h2=>(s2.get id' (Nat.lt_of_lt_of_le h1' s1.next) h2).trans (s1.get id' h1' fun h=>h)⟩
end Go.Ev
namespace Go.Ev
open Go
section
variable {P:Program} {S:Spec} {l:List CO} {t:F} {h:H} {K:F->H->Prop}
end
/--the front of an own block,as a slice -/
theorem Own.front {h:H} {id:B} {xs ys:List V} {fin:Nat} (o:Own h id (xs++ys)) (hf:xs.length<=fin) (cap:Option Nat):Hw h (.l id 0 0 xs.length fin cap) xs:=by
 have r:=o.row
 obtain⟨Af,h1,h2,h3,h4,h5,h6,h7⟩:=o
 refine .inr ⟨id,0,0,fin,cap,rfl,by omega,h6,fun _=>⟨Af,h1,by omega⟩,fun i y hy=>r.2 i y ?_⟩
 have:i<xs.length:=by
  rcases Nat.lt_or_ge i xs.length with h|h
  ·exact h
  ·rw[List.getElem?_eq_none h]at hy;cases hy
 rw[List.getElem?_append_left this]
 exact hy
end Go.Ev
namespace Go.Ev
open Go
/--a text,as a value -/
def sv (l:List UInt8):V:=.s l.length (pk l)
theorem cB:V.s 0 0=sv []:=rfl
theorem C5 (l:List UInt8) (k:Nat->Nat->Bool):vS (sv l) k=k l.length (pk l):=rfl
theorem C2 {z:Int} (h:0<=z) (k:Nat->Bool):A6 z k=k z.toNat:=by
 obtain⟨n,rfl⟩:=Int.eq_ofNat_of_zero_le h
 rfl
/--a byte,as a value -/
def bv (c:UInt8):V:=.i .u8 (c.toNat:Int)
theorem Ie (n:Nat):V.i .u8 ((n%256:Nat):Int)=bv (UInt8.ofNat n):=by
 unfold bv;simp
theorem gp (u v w:V):one [u,v,w]=.tu [u,v,w]:=rfl
theorem gh (n m o:Nat) (t:F) (h:H) (k:List V->Bool):Fq [Rs.tmp (AV n),Rs.tmp (AV m),Rs.tmp (AV o)] t h k=k [get n t,get m t,get o t]:=by
 show B0 (B2 (AV n) t) (fun v=>B0 (B2 (AV m) t) fun u=>B0 (B2 (AV o) t) fun w=>k [v,u,w])=_
 rw[BM,BM,BM];rfl
section
variable (cf:Bo) (t:F) (h:H) (k:V->H->Bool) (o x y:O)
def VR (a b:V) (k:V->Bool):Bool:=vS a fun la na=>vS b fun lb nb=>Ap (Nat.ble (Nat.add la lb) 1048576) fun _=>k (.s (Nat.add la lb) (Nat.add (Nat.mul na (Nat.pow 256 lb)) nb))
theorem Qw:BE x y cf t h k=VR (oV x t) (oV y t) fun v=>k v h:=by simp only[BE,AN,A8];rfl
theorem Xm {a b:List UInt8} (hl:a.length+b.length<=1048576) (k:V->Bool):VR (sv a) (sv b) k=k (sv (a++b)):=by
 have h1:Nat.ble (Nat.add a.length b.length) 1048576=true:=by rw[Nat.ble_eq];exact hl
 unfold VR
 rw[C5,C5,h1,AF]
 unfold sv
 rw[List.length_append,DP];rfl
def Q5 (v:V) (i:Nat) (k:V->Bool):Bool:=vS v fun l n=>Ap (Nat.ble (Nat.succ i) l) fun _=>k (.i .u8 (.ofNat (Nat.mod (Nat.div n (Nat.pow 256 (Nat.sub (Nat.sub l 1) i))) 256)))
theorem SM:B4 x y cf t h k=vI (oV y t) fun _ n=>A6 n fun n=>Q5 (oV x t) n fun v=>k v h:=by
 have no:∀ u:V,(vI u fun _ n=>A6 n fun _=>false)=false:=by
  intro u
  cases u<;>first|rfl|(rename_i kd n;cases n<;>rfl)
 simp only[B4,AN]
 generalize oV x t=v
 generalize oV y t=u
 have hn:∀ w:V,(∀ k,vS w k=false)->(vI u fun _ n=>A6 n fun n=>Q5 w n fun p=>k p h)=false:=by
  intro w hw
  have:(fun(_:IntKind) (n:Int)=>A6 n fun n=>Q5 w n fun p=>k p h)=fun _ n=>A6 n fun _=>false:=by
   funext _ n;congr 1;funext n;exact hw _
  rw[this];exact no u
 cases v with
 |s l n=>simp only[Ii,A8];rfl
 |_=>rw[hn _ fun _=>rfl];rfl
theorem WC {l:List UInt8} {i:Nat} (hi:i<l.length) (k:V->Bool):Q5 (sv l) i k=k (.i .u8 ((l.getD i 0).toNat:Int)):=by
 have h1:Nat.ble (Nat.succ i) l.length=true:=by rw[Nat.ble_eq];exact hi
 unfold Q5
 rw[C5,h1,AF]
 have e:l.getD i 0=l[i]:=by simp[List.getD,hi]
 have:=Sv l hi
 rw[e,this]
 rfl
def RF (v:V) (a b:Nat) (k:V->Bool):Bool:=vS v fun l n=>Ap (Nat.ble a b) fun _=>Ap (Nat.ble b l) fun _=>k (.s (Nat.sub b a) (Nat.mod (Nat.div n (Nat.pow 256 (Nat.sub l b))) (Nat.pow 256 (Nat.sub b a))))
def NS (v:V) (a:Nat) (k:V->Bool):Bool:=vS v fun l n=>Ap (Nat.ble a l) fun _=>k (.s (Nat.sub l a) (Nat.mod (Nat.div n (Nat.pow 256 (Nat.sub l l))) (Nat.pow 256 (Nat.sub l a))))
theorem tU (u:V):(vI u fun _ n=>A6 n fun _=>false)=false:=by
 cases u<;>first|rfl|(rename_i kd n;cases n<;>rfl)
theorem bS (a b:O):Az x (some a) (some b) cf t h k=vI (oV a t) fun _ p=>A6 p fun p=>vI (oV b t) fun _ q=>A6 q fun q=>RF (oV x t) p q fun v=>k v h:=by
 simp only[Az,AN]
 have hb:∀ (o:O) (d:Nat) (k:Nat->Bool),Bc (some o) d t k=vI (oV o t) fun _ n=>A6 n k:=fun o d k=>by show oE o t _=_;rw[AN]
 simp only[hb,A8]
 generalize oV x t=v
 have hn:∀ w:V,(∀ k,vS w k=false)->(vI (oV a t) fun _ p=>A6 p fun p=>vI (oV b t) fun _ q=>A6 q fun q=>RF w p q fun v=>k v h)=false:=by
  intro w hw
  have e2:∀ p q,RF w p q (fun v=>k v h)=false:=fun p q=>hw _
  simp only[e2,tU]
 cases v with
 |s l n=>simp only[Ii];rfl
 |_=>rw[hn _ fun _=>rfl];rfl
theorem Yn (b:O):Az x none (some b) cf t h k=vI (oV b t) fun _ q=>A6 q fun q=>RF (oV x t) 0 q fun v=>k v h:=by
 simp only[Az,AN]
 have hb:∀ (o:O) (d:Nat) (k:Nat->Bool),Bc (some o) d t k=vI (oV o t) fun _ n=>A6 n k:=fun o d k=>by show oE o t _=_;rw[AN]
 have h0:∀ (d:Nat) (k:Nat->Bool),Bc none d t k=k d:=fun _ _=>rfl
 simp only[hb,h0,A8]
 generalize oV x t=v
 have hn:∀ w:V,(∀ k,vS w k=false)->(vI (oV b t) fun _ q=>A6 q fun q=>RF w 0 q fun v=>k v h)=false:=by
  intro w hw
  have e2:∀ p q,RF w p q (fun v=>k v h)=false:=fun p q=>hw _
  simp only[e2,tU]
 cases v with
 |s l n=>simp only[Ii];rfl
 |_=>rw[hn _ fun _=>rfl];rfl
theorem ai (a:O):Az x (some a) none cf t h k=vI (oV a t) fun _ p=>A6 p fun p=>NS (oV x t) p fun v=>k v h:=by
 simp only[Az,AN]
 have hb:∀ (o:O) (d:Nat) (k:Nat->Bool),Bc (some o) d t k=vI (oV o t) fun _ n=>A6 n k:=fun o d k=>by show oE o t _=_;rw[AN]
 have h0:∀ (d:Nat) (k:Nat->Bool),Bc none d t k=k d:=fun _ _=>rfl
 simp only[hb,h0,A8]
 generalize oV x t=v
 have hn:∀ w:V,(∀ k,vS w k=false)->(vI (oV a t) fun _ q=>A6 q fun q=>NS w q fun v=>k v h)=false:=by
  intro w hw
  have e2:∀ q,NS w q (fun v=>k v h)=false:=fun q=>hw _
  simp only[e2,tU]
 cases v with
 |s l n=>
  simp only[Ii]
  have:∀ p,NS (.s l n) p (fun v=>k v h)=Ap (Nat.ble p l) fun _=>k (.s (Nat.sub l p) (Nat.mod (Nat.div n (Nat.pow 256 (Nat.sub l l))) (Nat.pow 256 (Nat.sub l p)))) h:=fun _=>rfl
  simp only[this]
  have e:∀ p,(Ap (Nat.ble p l) fun _=>Ap (Nat.ble l l) fun _=>k (.s (Nat.sub l p) (Nat.mod (Nat.div n (Nat.pow 256 (Nat.sub l l))) (Nat.pow 256 (Nat.sub l p)))) h)=Ap (Nat.ble p l) fun _=>k (.s (Nat.sub l p) (Nat.mod (Nat.div n (Nat.pow 256 (Nat.sub l l))) (Nat.pow 256 (Nat.sub l p)))) h:=fun p=>by
   have:Nat.ble l l=true:=by rw[Nat.ble_eq];exact Nat.le_refl _
   rw[this];rfl
  simp only[e]
 |_=>rw[hn _ fun _=>rfl];rfl
theorem Oy {l:List UInt8} {a b:Nat} (h1:a<=b) (h2:b<=l.length) (k:V->Bool):RF (sv l) a b k=k (sv ((l.take b).drop a)):=by
 have e1:Nat.ble a b=true:=by rw[Nat.ble_eq];exact h1
 have e2:Nat.ble b l.length=true:=by rw[Nat.ble_eq];exact h2
 unfold RF
 rw[C5,e1,AF,e2,AF]
 unfold sv
 rw[MO l h1 h2,List.length_drop,List.length_take,Nat.min_eq_left h2];rfl
theorem XU {l:List UInt8} {a:Nat} (h1:a<=l.length) (k:V->Bool):NS (sv l) a k=k (sv (l.drop a)):=by
 have:=Oy h1 (Nat.le_refl _) k
 rw[List.take_length]at this
 rw[<-this]
 have e1:Nat.ble a l.length=true:=by rw[Nat.ble_eq];exact h1
 have e2:Nat.ble l.length l.length=true:=by rw[Nat.ble_eq];exact Nat.le_refl _
 unfold RF NS
 rw[C5,C5,e1,AF,AF,e2,AF]
def Nt (f:Nat->Nat->Nat->Nat->Bool) (a b:V) (k:V->Bool):Bool:=vS a fun la na=>vS b fun lb nb=>k (.b (f la na lb nb))
theorem WD (f:Nat->Nat->Nat->Nat->Bool):CM f x y cf t h k=Nt f (oV x t) (oV y t) fun v=>k v h:=by simp only[CM,AN,CX];rfl
theorem IB (a b:List UInt8):Fw a.length (pk a) b.length (pk b)=decide (a=b):=by
 have e:∀ {x y:Bool},(x=true↔y=true)->x=y:=by intro x y h;cases x<;>cases y<;>simp_all
 apply e
 rw[decide_eq_true_iff]
 have:=TL a b
 unfold Fw
 rw[<-this]
 exact beq_iff_eq
def gW (a b:V) (k:V->Bool):Bool:=vS a fun la na=>vS b fun lb nb=>k (.i .i64 (MP (Fw la na lb nb) (Hy la na lb nb)))
theorem Wv:IC x y cf t h k=gW (oV x t) (oV y t) fun v=>k v h:=by simp only[IC,AN,Xq];rfl
theorem aw (a b:List UInt8) (k:V->Bool):gW (sv a) (sv b) k=k (.i .i64 (MP (decide (a=b)) (Op.bytesLess a b))):=by
 unfold gW;rw[C5,C5,IB,CA]
theorem eG (a b:List UInt8) (k:V->Bool):Nt Fw (sv a) (sv b) k=k (.b (decide (a=b))):=by
 unfold Nt;rw[C5,C5,IB]
theorem dC (a b:List UInt8) (k:V->Bool):Nt (fun a b c d=>!Fw a b c d) (sv a) (sv b) k=k (.b (!decide (a=b))):=by
 unfold Nt;rw[C5,C5];simp only[IB]
theorem ZH (a b:List UInt8) (k:V->Bool):Nt Hy (sv a) (sv b) k=k (.b (Op.bytesLess a b)):=by
 unfold Nt;rw[C5,C5,CA]
theorem UH (f:IntKind->Int->Nat->(V->Bool)->Bool):Ca f x y cf t h k=vI (oV x t) fun kd a=>vI (oV y t) fun _ b=>A6 b fun n=>f kd a (min n kd.bits) fun v=>k v h:=by simp only[Ca,AN]
theorem tD (kd:IntKind) (a:Int) (n:Nat) (k:V->Bool):NR kd a n k=k (.i kd (kd.wrap (a*((2 ^ n:Nat):Int)))):=Cd _ _ _
theorem RJ (len size:Nat):BD len size o x cf t h k=vP (oV o t) fun id g off fin=>vI (oV x t) fun _ n=>A6 n fun n=>Ap (Nat.ble (Nat.succ n) len) fun _=>k (.p id g (off+n*size) fin) h:=by
 simp only[BD,AN,A8];rfl
theorem sf {i n:Nat} (h:i<n) (k:Unit->Bool):Ap (Nat.ble (Nat.succ i) n) k=k ():=by
 have:Nat.ble (Nat.succ i) n=true:=by rw[Nat.ble_eq];exact h
 rw[this];rfl
theorem OU (n size:Nat) (a:O):DD n size x (some a) none cf t h k=vP (oV x t) fun id g off fin=>vI (oV a t) fun _ p=>A6 p fun p=>Ap (Nat.ble p n) fun _=>Bd size id g off n fin n p n fun v=>k v h:=by
 simp only[DD,AN]
 have hb:∀ (o:O) (d:Nat) (k:Nat->Bool),Bc (some o) d t k=vI (oV o t) fun _ n=>A6 n k:=fun o d k=>by show oE o t _=_;rw[AN]
 have h0:∀ (d:Nat) (k:Nat->Bool),Bc none d t k=k d:=fun _ _=>rfl
 simp only[hb,h0]
theorem D7 {size:Nat} {id:B} {g off len fin c a b:Nat} (hcM:c<18446744073709551616) (h1:b<=c) (h2:a<c) (k:V->Bool):Bd size id g off len fin c a b k=k (.l id g (off+a*size) (b-a) fin (some (c-a))):=by
 have e1:Nat.ble b c=true:=by rw[Nat.ble_eq];exact h1
 have e2:Nat.beq a c=false:=by
  cases hx:Nat.beq a c with
  |false=>rfl
  |true=>have:=Nat.eq_of_beq_eq_true hx;omega
 have e0:Nat.ble (Nat.succ c) 18446744073709551616=true:=by rw[Nat.ble_eq];exact hcM
 unfold Bd
 rw[e0,AF,e1,AF,e2]
 show fN (Nat.sub b a) _=_
 rw[A8,A8,A8];rfl
theorem mb {a b:Nat} (h:a<=b) (k:Unit->Bool):Ap (Nat.ble a b) k=k ():=by
 have:Nat.ble a b=true:=by rw[Nat.ble_eq];exact h
 rw[this];rfl
def U5 (h:H) (v:V) (k:V->Bool):Bool:=vL v (fun _=>k (.s 0 0)) fun id g off len fin _=>K5 len len h id g off fin fun vs=>Hr vs 0 fun n=>k (.s len n)
theorem cR:Dl x cf t h k=U5 h (oV x t) fun v=>k v h:=by simp only[Dl,AN];rfl
theorem J4:∀ (l:List UInt8) (acc:Nat) (k:Nat->Bool),Hr (l.map bv) acc k=k (acc*256 ^ l.length+pk l)
 |[],acc,k=>by show fN acc k=_;rw[A8];simp[pk]
 |c::l,acc,k=>by
  show Jm (bv c) (fun c=>fN (Nat.add (Nat.mul acc 256) c) fun acc=>Hr (l.map bv) acc k)=_
  have hb:∀ k',Jm (bv c) k'=k' c.toNat:=fun k'=>by
   have h2:Nat.ble c.toNat 255=true:=by rw[Nat.ble_eq];have:=c.toNat_lt;omega
   unfold Jm bv
   rw[Ct,BR,AF]
   show A6 (Int.ofNat c.toNat) _=_
   rw[BB,h2,AF]
  rw[hb,A8,J4 l]
  congr 1
  show(acc*256+c.toNat)*256 ^ l.length+pk l=acc*256 ^ (l.length+1)+(c.toNat*256 ^ l.length+pk l)
  rw[Nat.add_mul,Nat.pow_succ,Nat.mul_assoc,Nat.mul_comm 256,Nat.add_assoc]
theorem V9 {h:H} {v:V} {l:List UInt8} (a:Hw h v (l.map bv)) (hne:l≠[]) (k:V->Bool):U5 h v k=k (sv l):=by
 rcases a with⟨rfl,e⟩|⟨id,g,off,fin,cap,rfl,h2,h3,h4⟩
 ·simp at e;exact absurd e hne
 ·show K5 (l.map bv).length (l.map bv).length h id g off fin (fun vs=>Hr vs 0 fun n=>k (.s (l.map bv).length n))=_
  rw[Lo (by rw[List.length_map];exact List.length_pos_iff.2 hne),Cw h4 rfl (by simpa using hne) h2,J4]
  unfold sv
  simp
end
section
variable {P:Program} {S:Spec} {l:List CO} {t:F} {h:H} {K:F->H->Prop}
end
/--the end of an own block,as a slice -/
theorem Own.back {h:H} {id:B} {xs:List V} {a fin:Nat} (o:Own h id xs) (ha:a<=xs.length) (hf:xs.length<=fin) (cap:Option Nat):Hw h (.l id 0 a (xs.length-a) fin cap) (xs.drop a):=by
 have r:=o.row
 obtain⟨Af,h1,h2,h3,h4,h5,h6,h7⟩:=o
 refine .inr ⟨id,0,a,fin,cap,by rw[List.length_drop],by rw[List.length_drop];omega,h6,fun _=>⟨Af,h1,by omega⟩,fun i y hy=>?_⟩
 rw[List.getElem?_drop]at hy
 have:=r.2 (a+i) y hy
 rwa [Nat.zero_add]at this
end Go.Ev
namespace Go.Ev
open Go Go.RowKit Go.WideShapes Go.ChangeShapes Go.ChangeAt
section
variable {H:Type} {enc:TypeId×Value->H}
theorem Ht {P:Program} (hl:laidOutB P=true) {W W':World} (hb:Below W.heap.size W W') (sp:Nat->Bool):∀ (ts:List TypeId) (vs:List Value) (ds:List (DataW H)) (ps:List MemPlace),
 ts.all (fun t=>P.readableRec t&&decide (t<P.types.size))=true->DataW.TrodAll enc P W 0 (fun _=>true) true ts vs ds ps->(∀ x∈ps,x.block<W.heap.size)->(∀ x∈ps,sp x.block=true)->DataW.TrodAll enc P W' 0 sp true ts vs ds ps
 |[],[],[],ps,_,h,_,_=>h
 |t::ts,v::vs,d::ds,ps,ht,h,hlt,hsp=>by
  obtain⟨p,q,h1,h2,rfl⟩:=h
  simp only[List.all_cons,Bool.and_eq_true]at ht
  refine⟨p,q,?_,Ht hl hb sp ts vs ds q (by simpa using ht.2) h2 (fun x hx=>hlt x (by simp[hx])) (fun x hx=>hsp x (by simp[hx])),rfl⟩
  exact WideElems.Trod_stays hl ht.1.1 (of_decide_eq_true ht.1.2) h1 (fun x hx=>hb.same (hlt x (by simp[hx]))) (fun x hx=>hsp x (by simp[hx]))
 |[],[],_::_,_,_,h,_,_=>h.elim
 |[],_::_,_,_,_,h,_,_=>by cases h
 |_::_,[],_,_,_,h,_,_=>by cases h
 |_::_,_::_,[],_,_,h,_,_=>by cases h
theorem PS {C:Checked} {os:Os} {f:FuncId} {fn:Func} {s:ChangeSpec} {conds:List PathCond} {tb:TypeId}
 (own:ownKnob C.prog.godebug=none) (started:os.Started) (noInit:C.prog.inits.idxOf? f=none) (hfn:C.prog.funcs[f]? =some fn)
 (witness:∃ (w:World) (tape:Tape) (i:Input),w.os=os/\(w.forCall tape i).Shaped C.prog/\i.vars=[]/\Input.okWide C.prog (w.forCall tape i) .any w.heap.size f i/\
   s.pre6 enc C.prog fn conds false (w.forCall tape i).memory i.args/\({}:Assume).holds C.prog (lone (Frame.enter C.prog f i.args .normal) [] (w.forCall tape i)))
 (hv:s.vars=[]) (hs:∀ ds:List (DataW H),ds.length=fn.params.toList.length->s.fn H ds={results:=[.lit (.bool true)],args:=ds})
 (hl:laidOutB C.prog=true) (hr:fn.params.toList.all (fun t=>C.prog.readableRec t&&decide (t<C.prog.types.size))=true)
 (hres:fn.resultTypes=#[tb]) (hb:C.prog.underlying tb=some .bool)
 (run:∀ (W:World) (base:Nat) (args:Array Value) (ds:List (DataW H)) (p:List MemPlace),(∀ (j:Nat) t v,fn.params[j]? =some t->args[j]? =some v->Value.okWide C.prog W .any base t v)->W.ShapedOpen C.prog->DataW.TrodAll enc C.prog W 0 (fun _=>true) true fn.params.toList args.toList ds p->
   Calls C.prog f args W fun e w'=>e=.returned (.bool true)/\Below W.heap.size W w'):
 ReturnsInHanded {} C os f .any (s.pre6 enc C.prog fn conds false) (s.post enc C.prog fn false true false false):=by
 refine returnsInHanded_of_change_shaped own started noInit hfn witness ?_
 intro W base args ds gs before hval0 hW hcnd _ hopen _
 have hval:∀ (j:Nat) t v,fn.params[j]? =some t->args[j]? =some v->Value.okWide C.prog W .any base t v:=hval0
 have hW':=hW
 obtain⟨p,q,hA,hV,rfl,hfz,hnd⟩:=hW
 rw[hv]at hV
 obtain⟨rfl,rfl⟩:=trodVars_none hV
 have hlen:∀ (ts:List TypeId) (vs:List Value) (ds:List (DataW H)) (ps:List MemPlace),DataW.TrodAll enc C.prog W 0 (fun _=>true) true ts vs ds ps->ds.length=ts.length:=by
  intro ts
  induction ts with
  |nil=>intro vs ds ps h;cases vs<;>cases ds<;>first|rfl|cases h
  |cons t ts ih=>
   intro vs ds ps h
   cases vs with
   |nil=>cases h
   |cons v vs=>
    cases ds with
    |nil=>cases h
    |cons d ds=>obtain⟨p,q,h1,h2,rfl⟩:=h;simp[ih vs ds q h2]
 have hd:=hlen _ _ _ _ hA
 have hspec:s.fn H (ds++[])={results:=[.lit (.bool true)],args:=ds}:=by rw[List.append_nil];exact hs ds hd
 refine(run W base args ds p hval hopen hA).mono fun e W' ⟨he,hg⟩=>?_
 subst he
 simp only[List.append_nil]at hW'
 have hlt:∀ x∈p,x.block<W.heap.size:=fun x hx=>by simpa using hW'.lt x (by simpa using hx)
 refine⟨_,rfl,R9 (pa:=p) (pv:=[]) hg (by simpa using hW') (fun b sp hd=>?_) (fun sp hsp=>?_) (fun sp hsp=>?_) rfl (ok_one hres rfl (okWide_bool_mk hb _))⟩
 ·rw[hspec,hres]
  exact trodAll_cons_mk (shut_bool hb _) trodAll_mk0
 ·rw[hspec]
  exact Ht hl hg sp _ _ _ _ hr hA hlt (fun x hx=>hsp x (by simpa using hx))
 ·rw[hspec,hv];rfl
end
/--what a call's contract at the state that it begins in says of the call -/
theorem O4 {P:Program} {f:FuncId} {W:World} {h:H} (s:Start W h) {vs:List V} {args:Array Value} (ha:BG (LV W) vs args.toList) (k:BZ P f vs h fun y _=>y=.b true):Calls P f args W fun e w'=>e=.returned (.bool true)/\Below W.heap.size W w':=by
 obtain⟨y,h',⟨_,_,r⟩,rfl⟩:=k
 have:=(r (LV W) W W args.toList ha s.rel).2
 rw[show args.toList.toArray=args by simp]at this
 refine this.mono fun e w' he=>?_
 obtain⟨x,rfl,ρ',_,x2,x3⟩:=he
 have x2':x=.bool true:=x2
 rw[x2']
 exact⟨rfl,x3.same.below⟩
end Go.Ev
namespace Go.Ev
open Go Go.RowKit Go.WideShapes Go.ChangeShapes Go.ChangeAt Go.Deep
theorem S9 {W:World} {a:Addr} {i:Nat} {x:Value} (h:W.cell? (a.add i)=some x):W.cell? ⟨a.block,a.off+i,none⟩=some x:=by
 have hsp:=World.cell?_spot h
 have e:a.add i=⟨a.block,a.off+i,none⟩:=by
  unfold Addr.add at hsp⊢
  split
  ·rename_i hi
   rw[if_pos hi]at hsp
   subst hi
   obtain⟨b,o,sp⟩:=a
   have:sp=none:=hsp
   rw[this];rfl
  ·rfl
 rw[<-e];exact h
section
variable {H':Type} {enc:TypeId×Value->H'} {P:Program}
/--a slice of one-cell elements:its elements' values -/
theorem Rm:maxLen<18446744073709551616:=by decide
end
end Go.Ev
namespace Go.Ev
open Go Go.RowKit Go.WideShapes Go.ChangeShapes Go.ChangeAt Go.Deep
theorem Nr (W:World) (s:ByteArray):Db W (.string s)=sv s.data.toList:=by
 unfold Db sv
 simp
theorem wf_i64 {n:Int} (h:(Lit.int .i64 n).wf=true): -9223372036854775808<=n/\n<=9223372036854775807:=by
 simp only[Lit.wf,IntKind.has,IntKind.min,IntKind.max,IntKind.signed,IntKind.bits]at h
 simp at h
 omega
theorem V8 {s:ByteArray} (h:s.size<=maxLen):s.data.toList.length<=9223372036854775807:=by
 have:s.data.toList.length=s.size:=by simp
 unfold maxLen at h
 omega
theorem SD {n:Nat} (h:n<=maxLen):n<=9223372036854775807:=by unfold maxLen at h;omega
section
variable {H':Type} {enc:TypeId×Value->H'} {P:Program}
end
end Go.Ev
namespace Go.Ev
open Go
/--what one operation makes of a state -/
def H5 (P:Program) (r:CR) (t:F) (h:H) (v:V) (h':H):Prop:=∃ cf,Fb P cf/\∀ k,runK r cf t h k=k v h'
def Cu (P:Program) (o:CO) (t:F) (h:H) (t1:F) (h1:H):Prop:=match o with
 |.mk g d _ r=>∃ b,(∀ k,CZ g t k=k b)/\((b=true/\∃ v,H5 P r t h v h1/\∀ k,DE d v t k=k t1)\/(b=false/\h1=h/\∀ k,DE d (.tu []) t k=k t1))
def Mh (P:Program):List CO->F->H->F->H->Prop
 |[],t,h,t',h'=>t'=t/\h'=h
 |o::l,t,h,t',h'=>∃ t1 h1,Cu P o t h t1 h1/\Mh P l t1 h1 t' h'
def Up (P:Program) (o:CO) (t:F) (h:H) (t1:F) (h1:H):Prop:=match o with
 |.mk g d true r=>Cu P (.mk g d true r) t h t1 h1
 |.mk g d false r=>∃ b,(∀ k,CZ g t k=k b)/\((b=true/\∃ v h2,H5 P r t (A4 h) v h2/\h1=CK h h2/\∀ k,DE d v t k=k t1)\/(b=false/\h1=h/\∀ k,DE d (.tu []) t k=k t1))
def NF (P:Program):List CO->F->H->F->H->Prop
 |[],t,h,t',h'=>t'=t/\h'=h
 |o::l,t,h,t',h'=>∃ t1 h1,Up P o t h t1 h1/\NF P l t1 h1 t' h'
theorem K0 (P:Program):Fb P (Gu P fun _ _ _ _ _=>True):=Kp P _
theorem Q9 {P:Program} {o:CO} {t:F} {h:H} {t1:F} {h1:H} (a:Cu P o t h t1 h1):∃ cf,Fb P cf/\∀ (ih:F->H->(F->H->Bool)->Bool) k,KV o cf ih t h k=ih t1 h1 k:=by
 obtain⟨g,d,Gv,r⟩:=o
 obtain⟨b,g1,g2⟩:=a
 rcases g2 with⟨rfl,v,⟨cf,c1,c2⟩,p⟩|⟨rfl,rfl,p⟩
 ·refine⟨cf,c1,fun ih k=>?_⟩
  show CZ g t (fun b=>IM b r d cf ih t h k)=_
  rw[g1]
  show runK r cf t h (fun v h=>DE d v t fun t=>ih t h k)=_
  rw[c2,p]
 ·refine⟨_,K0 P,fun ih k=>?_⟩
  show CZ g t (fun b=>IM b r d _ ih t h1 k)=_
  rw[g1]
  show DE d (.tu []) t (fun t=>ih t h1 k)=_
  rw[p]
theorem Lt {P:Program} {o:CO} {t:F} {h:H} {t1:F} {h1:H} (a:Up P o t h t1 h1):∃ cf,Fb P cf/\∀ (ih:F->H->(F->H->Bool)->Bool) k,Vd o cf ih t h k=ih t1 h1 k:=by
 obtain⟨g,d,Gv,r⟩:=o
 cases Gv with
 |true=>
  obtain⟨b,g1,g2⟩:=a
  rcases g2 with⟨rfl,v,⟨cf,c1,c2⟩,p⟩|⟨rfl,rfl,p⟩
  ·refine⟨cf,c1,fun ih k=>?_⟩
   show CZ g t (fun b=>JJ b true r d cf ih t h k)=_
   rw[g1]
   show runK r cf t h (fun v h=>DE d v t fun t=>ih t h k)=_
   rw[c2,p]
  ·refine⟨_,K0 P,fun ih k=>?_⟩
   show CZ g t (fun b=>JJ b true r d _ ih t h1 k)=_
   rw[g1]
   show DE d (.tu []) t (fun t=>ih t h1 k)=_
   rw[p]
 |false=>
  obtain⟨b,g1,g2⟩:=a
  rcases g2 with⟨rfl,v,h2,⟨cf,c1,c2⟩,rfl,p⟩|⟨rfl,rfl,p⟩
  ·refine⟨cf,c1,fun ih k=>?_⟩
   show CZ g t (fun b=>JJ b false r d cf ih t h k)=_
   rw[g1]
   show runK r cf t (A4 h) (fun v h2=>DE d v t fun t=>ih t (CK h h2) k)=_
   rw[c2,p]
  ·refine⟨_,K0 P,fun ih k=>?_⟩
   show CZ g t (fun b=>JJ b false r d _ ih t h1 k)=_
   rw[g1]
   show DE d (.tu []) t (fun t=>ih t h1 k)=_
   rw[p]
theorem Mo {t1 t2:F} {h1 h2:H} (e:∀ k:F->H->Bool,k t1 h1=k t2 h2):t2=t1/\h2=h1:=by
 have:=e fun t h=>@decide (t=t1/\h=h1) (Classical.propDecidable _)
 simp at this
 exact this
theorem Q6 {P:Program} {nt:Nat} {ops:Array Oper} (bars:Nat->Bool):∀ (l:List Oper) (n:Nat),ops.toList.drop n=l->∀ (t:F) (h:H) (t':F) (h':H),
 Mh P (AO bars P nt ops.toList (AU P) n l) t h t' h'->Ak h h'/\B.val h.next<=B.val h'.next/\
  ∀ ρ a w w0 (Q:Exit->Act->World->Prop),CT ρ nt t a->Aw ρ h w w0->(∀ ρ' a' w',Ext h.floor ρ ρ'->CT ρ' nt t' a'->Aw ρ' h' w' w0->Q .normal a' w')->
   wpOps P ops Q (List.range' n l.length) a w:=by
 intro l
 induction l with
 |nil=>
  intro n hl t h t' h' hk
  obtain⟨rfl,rfl⟩:=hk
  exact⟨Ak.refl _,Nat.le_refl _,fun ρ a w w0 Q A R hq=>hq ρ a w (Ext.refl _ ρ) A R⟩
 |cons o l ih=>
  intro n hl t h t' h' hk
  obtain⟨t1,h1,hk1,hk2⟩:=hk
  obtain⟨cf,hcf,e⟩:=Q9 hk1
  obtain⟨t1',h1',a1,a2,a3,a4⟩:=Xu hcf (ops:=ops) (ih:=fun t h k=>k t h) (k:=fun _ _=>true) (e _ _)
  obtain⟨rfl,rfl⟩:=Mo (fun k=>(e (fun t h k=>k t h) k).symm.trans (a1 k))
  have hl':ops.toList.drop (n+1)=l:=by rw[<-List.drop_drop,hl];rfl
  obtain⟨b2,b3,b4⟩:=ih (n+1) hl' _ _ _ _ hk2
  refine⟨Ak.trans a2 a3 b2,Nat.le_trans a3 b3,fun ρ a w w0 Q A R hq=>?_⟩
  have hn:ops[n]? =some o:=by
   have:ops.toList[n]? =some o:=by
    have:=congrArg (fun l=>l[0]?) hl
    simpa using this
   simpa using this
  rw[List.length_cons,List.range'_succ,wpOps_cons]
  unfold wpOp
  simp only[hn]
  have:=a4 ρ a w w0 (wpOps P ops Q (List.range' (n+1) l.length)) Q A R fun ρ' a' w' l1 A' R'=>b4 ρ' a' w' w0 Q A' R' fun ρ'' a'' w'' l2 A'' R''=>hq ρ'' a'' w'' (Ext.trans l1 (by rw[<-a2.1];exact l2)) A'' R''
  split
  ·rename_i hw;simp only[hw,if_true]at this;exact .inl this
  ·rename_i hw;simp only[hw]at this;exact this
theorem Rb {P:Program} {nt:Nat} {ops:Array Oper} (bars:Nat->Bool):∀ (l:List Oper) (n:Nat),ops.toList.drop n=l->∀ (t:F) (h:H) (t':F) (h':H),
 NF P (AO bars P nt ops.toList (AU P) n l) t h t' h'->
 ∃ (Ts:Nat->F) (Hs:Nat->H),Ts n=t/\Hs n=h/\(Ts (n+l.length)=t'/\Hs (n+l.length)=h')/\
  ∀ (i:Nat) o,n<=i->ops[i]? =some o->BK P nt ops i o (bars i) (Ts i) (Ts (i+1)) (Hs i) (Hs (i+1)):=by
 intro l
 induction l with
 |nil=>
  intro n hl t h t' h' hk
  obtain⟨rfl,rfl⟩:=hk
  refine⟨fun _=>t',fun _=>h',rfl,rfl,⟨rfl,rfl⟩,fun i o hni hi=>?_⟩
  have:ops.toList[i]? =none:=by
   rw[List.getElem?_eq_none]
   have:=congrArg List.length hl
   simp at this
   simp;omega
  rw[show ops[i]? =ops.toList[i]? by simp,this]at hi
  cases hi
 |cons o l ih=>
  intro n hl t h t' h' hk
  have hn:ops[n]? =some o:=by
   have:ops.toList[n]? =some o:=by
    have:=congrArg (fun l=>l[0]?) hl
    simpa using this
   simpa using this
  obtain⟨t1,h1,hk1,hk2⟩:=hk
  obtain⟨cf,hcf,e⟩:=Lt hk1
  obtain⟨t1',h1',a1,a2⟩:=J1 hcf hn (ih:=fun t h k=>k t h) (k:=fun _ _=>true) (e _ _)
  obtain⟨rfl,rfl⟩:=Mo (fun k=>(e (fun t h k=>k t h) k).symm.trans (a1 k))
  have hl':ops.toList.drop (n+1)=l:=by rw[<-List.drop_drop,hl];rfl
  obtain⟨Ts,Hs,b1,b2,b3,b4⟩:=ih (n+1) hl' _ _ _ _ hk2
  refine⟨fun i=>if i=n then t else Ts i,fun i=>if i=n then h else Hs i,by simp,by simp,?_,fun i oi hni hi=>?_⟩
  ·have e1:n+(o::l).length=n+1+l.length:=by simp;omega
   rw[e1]
   simp only[show ¬n+1+l.length=n by omega,if_false]
   exact b3
  ·by_cases hin:i=n
   ·subst hin
    rw[hn]at hi
    cases hi
    simp only[if_true,show ¬i+1=i by omega,if_false,b1,b2]
    exact a2
   ·simp only[hin,if_false,show ¬i+1=n by omega]
    exact b4 i oi (by omega) hi
theorem SQ {P:Program} (hm:P.follows .mixedOrders=true) {nt:Nat} {ops:Array Oper} (hd:Bx ops.toList=true) {t:F} {h:H} {t':F} {h':H}
 (hk:NF P (AO (CI P ops.toList (CS ops.toList [])) P nt ops.toList (AU P) 0 ops.toList) t h t' h'):
 Ak h h'/\B.val h.next<=B.val h'.next/\
  ∀ ρ a w w0 (id:Nat) (Q:Exit->Act->World->Prop),CT ρ nt t a->Aw ρ h w w0->(∀ ρ' a' w',Ext h.floor ρ ρ'->CT ρ' nt t' a'->Aw ρ' h' w' w0->Q .normal a' w')->(Code.region id ops true).wp P Q a w:=by
 obtain⟨Ts,Hs,b1,b2,b3,b4⟩:=Rb _ ops.toList 0 (by simp) t h t' h' hk
 have hst:∀ (i:Nat) o,ops[i]? =some o->BK P nt ops i o (CI P ops.toList (CS ops.toList []) i) (Ts i) (Ts (i+1)) (Hs i) (Hs (i+1)):=fun i o hi=>b4 i o (Nat.zero_le _) hi
 have hlen:0+ops.toList.length=ops.size:=by simp
 rw[hlen]at b3
 obtain⟨c1,c2⟩:=b3
 refine⟨by rw[<-b2,<-c2];exact NZ hd hst (Nat.le_refl _),by rw[<-b2,<-c2];exact CJ hst (Nat.zero_le _) (Nat.le_refl _),fun ρ a w w0 id Q A R hQ=>?_⟩
 refine wp_region_any hm ?_
 have hR1:Aw ρ h {w with drawn:=w.drawn+1} w0:=R.dr _
 obtain⟨M,m1,m2,m3,m4⟩:=K2 (P:=P) (nt:=nt) (Ts:=Ts) (Hs:=Hs) hd hst 0 ops.size (by omega)
 have hno:∀ j,¬Cl (Array.replicate ops.size false) j:=by
  intro j;unfold Cl
  by_cases hj:j<ops.size<;>simp[hj]
 refine VD hd hst (ρ0:=ρ) (w0:=w0) (fun ρ' a' w' h1 h2 h3=>hQ ρ' a' w' (by rw[<-b2];exact h1) (by rw[<-c1];exact h2) (by rw[<-c2];exact h3)) ops.size _ a _ ρ 0 M (by simp) (by unfold left;exact Nat.le_trans (List.length_filter_le _ _) (by simp)) (fun j o hj hin=>absurd hin (hno j)) ?_
 refine⟨A.size,A.defers,Ext.refl _ _,fun q h5=>⟨0,Nat.zero_le _,.inl rfl,fun j o hj hdj=>⟨fun h=>by omega,fun h=>absurd h (hno j)⟩,?_⟩,Nat.zero_le _,m2,fun j o hj h1 h2=>by omega,fun j o hj h1 h2=>hno j,m3,m4,
  fun i g L hL=>?_,fun i g L hL j o hj hnj hbd=>?_,fun m h1 h2=>?_⟩
 ·rw[b1,b2]
  exact At.up (fun i g L hL=>BF.Cv hL (R.ids _ _ _ hL)) _ _ (A.slot q h5)
 ·have:=R.ids _ _ _ hL
  rw[<-b2]at this
  exact Nat.lt_of_lt_of_le this (CJ hst (Nat.zero_le _) m2)
 ·have:=R.ids _ _ _ hL
  rw[<-b2]at this
  have hjN:j<ops.size:=(Array.getElem?_eq_some_iff.1 hj).1
  have:=CJ hst (m:=0) (n:=j) (Nat.zero_le _) (by omega)
  omega
 ·have hmN:m<=ops.size:=by omega
  rw[<-b2]at hR1
  have hR2:Aw ρ (Hs m) {w with drawn:=w.drawn+1} w0:=hR1.Uk (fun i g L hL=>Ic hst m2 m3 (Nat.le_refl _) h1 h2 (hR1.ids _ _ _ hL)) (CJ hst h1 hmN) (HX hst hmN)
  exact hR2.congr fun i g=>by
   cases hL:ρ i g with
   |none=>unfold BF.below;rw[hL];split<;>rfl
   |some L=>exact BF.Cv hL (hR2.ids _ _ _ hL)
def WO (P:Program) (l:List CO) (t:F) (h:H) (K:F->H->Prop):Prop:=∃ t' h',Mh P l t h t' h'/\K t' h'
def DO (P:Program) (l:List CO) (t:F) (h:H) (K:F->H->Prop):Prop:=∃ t' h',NF P l t h t' h'/\K t' h'
section
variable {P:Program} {nt:Nat} {t:F} {h:H} {K:X->F->H->Prop}
theorem Ok.rg {l:List CO} (a:WO P l t h (K .normal)):Ok P nt (.region l) t h K:=by
 obtain⟨t',h',e,k⟩:=a
 refine⟨.normal,t',h',BV _ fun c e' hs=>?_,k⟩
 cases c with
 |region id os draw=>
  have e1:Am P nt os.toList draw=.region l:=e'
  obtain⟨rfl,rfl⟩:=Ue e1
  obtain⟨a2,a3,a4⟩:=Q6 (fun _=>true) os.toList 0 (by simp) t h t' h' e
  refine⟨a2,a3,fun ρ a w w0 Q A R hQ=>wp_region ?_⟩
  have:=a4 ρ a w w0 Q A R hQ
  rwa [show List.range' 0 os.toList.length=List.range os.size by rw[List.range_eq_range'];simp]at this
 |scope d=>exact absurd rfl (hs d)
 |_=>cases e'
theorem Ok.dw (hm:P.follows .mixedOrders=true) {l:List CO} {ch:Option (List Nat×List (Nat×List Nat))} (a:DO P l t h (K .normal)):Ok P nt (.Bg l ch) t h K:=by
 obtain⟨t',h',e,k⟩:=a
 refine⟨.normal,t',h',BV _ fun c e' hs=>?_,k⟩
 cases c with
 |region id os draw=>
  have e1:Am P nt os.toList draw=.Bg l ch:=e'
  obtain⟨rfl,hd,e1⟩:=I2 e1
  cases e1
  obtain⟨a2,a3,a4⟩:=SQ hm hd e
  exact⟨a2,a3,fun ρ a w w0 Q A R hQ=>a4 ρ a w w0 id Q A R hQ⟩
 |scope d=>exact absurd rfl (hs d)
 |_=>cases e'
end
end Go.Ev
namespace Go.Ev
open Go
/--operations,shortly -/
def wB (n:Nat) (r:CW):CO:=.mk .none (.some (AV n)) true (.mk r)
def uB (n:Nat) (r:CW):CO:=.mk .none (.some (AV n)) false (.mk r)
def wG (g:Nat) (w:Bool) (n:Nat) (r:CW):CO:=.mk (.some (AV g) w) (.some (AV n)) true (.mk r)
def uG (g:Nat) (w:Bool) (n:Nat) (r:CW):CO:=.mk (.some (AV g) w) (.some (AV n)) false (.mk r)
def oN (n:Nat):O:=.c (.i .i64 (.ofNat n))
theorem jU (n:Nat) (r:CW):wB n r=.mk .none (.some (AV n)) true (.mk r):=rfl
theorem qp (n:Nat) (r:CW):uB n r=.mk .none (.some (AV n)) false (.mk r):=rfl
theorem oX (g:Nat) (w:Bool) (n:Nat) (r:CW):wG g w n r=.mk (.some (AV g) w) (.some (AV n)) true (.mk r):=rfl
theorem ig (g:Nat) (w:Bool) (n:Nat) (r:CW):uG g w n r=.mk (.some (AV g) w) (.some (AV n)) false (.mk r):=rfl
theorem nQ (n:Nat):oN n=.c (.i .i64 (.ofNat n)):=rfl
/--what stands behind an operation -/
inductive Nx where
 |w (n:Nat) (l:List CO) (t:F) (K:F->H->Prop)
 |w0 (l:List CO) (t:F) (K:F->H->Prop)
 |d (n:Nat) (l:List CO) (t:F) (K:F->H->Prop)
 |d0 (l:List CO) (t:F) (K:F->H->Prop)
 |u (n:Nat) (l:List CO) (t:F) (h:H) (K:F->H->Prop)
 |u0 (l:List CO) (t:F) (h:H) (K:F->H->Prop)
def Nx.go (P:Program):Nx->V->H->Prop
 |.w n l t K,v,h=>WO P l (put n v t) h K
 |.w0 l t K,_,h=>WO P l t h K
 |.d n l t K,v,h=>DO P l (put n v t) h K
 |.d0 l t K,_,h=>DO P l t h K
 |.u n l t h0 K,v,h=>DO P l (put n v t) (CK h0 h) K
 |.u0 l t h0 K,_,h=>DO P l t (CK h0 h) K
/--the operation r,then N -/
def OR (P:Program) (r:CW) (t:F) (h:H) (N:Nx):Prop:=∃ v h',H5 P (.mk r) t h v h'/\N.go P v h'
/--a guard,then r and N,or N alone -/
def GD (P:Program) (q:V) (w:Bool) (r:CW) (t:F) (h:H) (N:Nx):Prop:=∃ b,(∀ k,vG q w k=k b)/\((b=true/\OR P r t h N)\/(b=false/\N.go P (.tu []) h))
theorem OD {b c:Bool} (e:∀ k:Bool->Bool,k b=k c):c=b:=(e id).symm
theorem uw {v u:V} (e:∀ k:V->Bool,k v=k u):u=v:=by
 have:=e fun x=>@decide (x=v) (Classical.propDecidable _)
 simp at this
 exact this
theorem IJ {v u:F} (e:∀ k:F->Bool,k v=k u):u=v:=by
 have:=e fun x=>@decide (x=v) (Classical.propDecidable _)
 simp at this
 exact this
theorem dn {v u:List V} (e:∀ k:List V->Bool,k v=k u):u=v:=by
 have:=e fun x=>@decide (x=v) (Classical.propDecidable _)
 simp at this
 exact this
theorem To {v u:V} {h g:H} (e:∀ k:V->H->Bool,k v h=k u g):u=v/\g=h:=by
 have:=e fun x y=>@decide (x=v/\y=h) (Classical.propDecidable _)
 simp at this
 exact⟨this.1,this.2⟩
section
variable {P:Program} {l:List CO} {t:F} {h:H} {K:F->H->Prop} {r:CW} {n g:Nat} {w b:Bool}
theorem JX:WO P [] t h K=K t h:=propext ⟨fun⟨_,_,⟨e1,e2⟩,k⟩=>by subst e1;subst e2;exact k,fun k=>⟨t,h,⟨rfl,rfl⟩,k⟩⟩
theorem aN:DO P [] t h K=K t h:=propext ⟨fun⟨_,_,⟨e1,e2⟩,k⟩=>by subst e1;subst e2;exact k,fun k=>⟨t,h,⟨rfl,rfl⟩,k⟩⟩
theorem FH {v:V} (k:F->Bool):DE (.some (AV n)) v t k=k (put n v t):=FK n v t k
theorem aG:WO P (.mk .none (.some (AV n)) b (.mk r)::l) t h K=OR P r t h (.w n l t K):=by
 apply propext;constructor
 ·rintro⟨t',h',⟨t1,h1,⟨q,g1,g2⟩,e⟩,k⟩
  have hq:=OD (b:=true) (c:=q) fun k=>g1 k
  subst hq
  rcases g2 with⟨_,v,rr,p⟩|⟨e',_⟩
  ·have:=IJ fun k=>(FH k).symm.trans (p k)
   subst this
   exact⟨v,h1,rr,t',h',e,k⟩
  ·cases e'
 ·rintro⟨v,h1,rr,t',h',e,k⟩
  exact⟨t',h',⟨_,h1,⟨true,fun _=>rfl,.inl ⟨rfl,v,rr,fun k=>FH k⟩⟩,e⟩,k⟩
theorem uk:WO P (.mk .none .none b (.mk r)::l) t h K=OR P r t h (.w0 l t K):=by
 apply propext;constructor
 ·rintro⟨t',h',⟨t1,h1,⟨q,g1,g2⟩,e⟩,k⟩
  have hq:=OD (b:=true) (c:=q) fun k=>g1 k
  subst hq
  rcases g2 with⟨_,v,rr,p⟩|⟨e',_⟩
  ·have:=IJ fun k=>p k
   subst this
   exact⟨v,h1,rr,t',h',e,k⟩
  ·cases e'
 ·rintro⟨v,h1,rr,t',h',e,k⟩
  exact⟨t',h',⟨_,h1,⟨true,fun _=>rfl,.inl ⟨rfl,v,rr,fun k=>rfl⟩⟩,e⟩,k⟩
theorem vl:WO P (.mk (.some (AV g) w) (.some (AV n)) b (.mk r)::l) t h K=GD P (get g t) w r t h (.w n l t K):=by
 apply propext;constructor
 ·rintro⟨t',h',⟨t1,h1,⟨q,g1,g2⟩,e⟩,k⟩
  refine⟨q,g1,?_⟩
  rcases g2 with⟨rfl,v,rr,p⟩|⟨rfl,rfl,p⟩
  ·have:=IJ fun k=>(FH k).symm.trans (p k)
   subst this
   exact .inl ⟨rfl,v,h1,rr,t',h',e,k⟩
  ·have:=IJ fun k=>(FH k).symm.trans (p k)
   subst this
   exact .inr ⟨rfl,t',h',e,k⟩
 ·rintro⟨q,g1,⟨rfl,v,h1,rr,t',h',e,k⟩|⟨rfl,t',h',e,k⟩⟩
  ·exact⟨t',h',⟨_,h1,⟨true,g1,.inl ⟨rfl,v,rr,fun k=>FH k⟩⟩,e⟩,k⟩
  ·exact⟨t',h',⟨_,h,⟨false,g1,.inr ⟨rfl,rfl,fun k=>FH k⟩⟩,e⟩,k⟩
theorem pj:WO P (.mk (.some (AV g) w) .none b (.mk r)::l) t h K=GD P (get g t) w r t h (.w0 l t K):=by
 apply propext;constructor
 ·rintro⟨t',h',⟨t1,h1,⟨q,g1,g2⟩,e⟩,k⟩
  refine⟨q,g1,?_⟩
  rcases g2 with⟨rfl,v,rr,p⟩|⟨rfl,rfl,p⟩
  ·have:=IJ fun k=>p k
   subst this
   exact .inl ⟨rfl,v,h1,rr,t',h',e,k⟩
  ·have:=IJ fun k=>p k
   subst this
   exact .inr ⟨rfl,t',h',e,k⟩
 ·rintro⟨q,g1,⟨rfl,v,h1,rr,t',h',e,k⟩|⟨rfl,t',h',e,k⟩⟩
  ·exact⟨t',h',⟨_,h1,⟨true,g1,.inl ⟨rfl,v,rr,fun k=>rfl⟩⟩,e⟩,k⟩
  ·exact⟨t',h',⟨_,h,⟨false,g1,.inr ⟨rfl,rfl,fun k=>rfl⟩⟩,e⟩,k⟩
theorem uR:DO P (.mk .none (.some (AV n)) true (.mk r)::l) t h K=OR P r t h (.d n l t K):=by
 apply propext;constructor
 ·rintro⟨t',h',⟨t1,h1,⟨q,g1,g2⟩,e⟩,k⟩
  have hq:=OD (b:=true) (c:=q) fun k=>g1 k
  subst hq
  rcases g2 with⟨_,v,rr,p⟩|⟨e',_⟩
  ·have:=IJ fun k=>(FH k).symm.trans (p k)
   subst this
   exact⟨v,h1,rr,t',h',e,k⟩
  ·cases e'
 ·rintro⟨v,h1,rr,t',h',e,k⟩
  exact⟨t',h',⟨_,h1,⟨true,fun _=>rfl,.inl ⟨rfl,v,rr,fun k=>FH k⟩⟩,e⟩,k⟩
theorem uY:DO P (.mk .none .none true (.mk r)::l) t h K=OR P r t h (.d0 l t K):=by
 apply propext;constructor
 ·rintro⟨t',h',⟨t1,h1,⟨q,g1,g2⟩,e⟩,k⟩
  have hq:=OD (b:=true) (c:=q) fun k=>g1 k
  subst hq
  rcases g2 with⟨_,v,rr,p⟩|⟨e',_⟩
  ·have:=IJ fun k=>p k
   subst this
   exact⟨v,h1,rr,t',h',e,k⟩
  ·cases e'
 ·rintro⟨v,h1,rr,t',h',e,k⟩
  exact⟨t',h',⟨_,h1,⟨true,fun _=>rfl,.inl ⟨rfl,v,rr,fun k=>rfl⟩⟩,e⟩,k⟩
theorem tZ:DO P (.mk (.some (AV g) w) (.some (AV n)) true (.mk r)::l) t h K=GD P (get g t) w r t h (.d n l t K):=by
 apply propext;constructor
 ·rintro⟨t',h',⟨t1,h1,⟨q,g1,g2⟩,e⟩,k⟩
  refine⟨q,g1,?_⟩
  rcases g2 with⟨rfl,v,rr,p⟩|⟨rfl,rfl,p⟩
  ·have:=IJ fun k=>(FH k).symm.trans (p k)
   subst this
   exact .inl ⟨rfl,v,h1,rr,t',h',e,k⟩
  ·have:=IJ fun k=>(FH k).symm.trans (p k)
   subst this
   exact .inr ⟨rfl,t',h',e,k⟩
 ·rintro⟨q,g1,⟨rfl,v,h1,rr,t',h',e,k⟩|⟨rfl,t',h',e,k⟩⟩
  ·exact⟨t',h',⟨_,h1,⟨true,g1,.inl ⟨rfl,v,rr,fun k=>FH k⟩⟩,e⟩,k⟩
  ·exact⟨t',h',⟨_,h,⟨false,g1,.inr ⟨rfl,rfl,fun k=>FH k⟩⟩,e⟩,k⟩
theorem qo:DO P (.mk .none (.some (AV n)) false (.mk r)::l) t h K=OR P r t (A4 h) (.u n l t h K):=by
 apply propext;constructor
 ·rintro⟨t',h',⟨t1,h1,⟨q,g1,g2⟩,e⟩,k⟩
  have hq:=OD (b:=true) (c:=q) fun k=>g1 k
  subst hq
  rcases g2 with⟨_,v,h2,rr,rfl,p⟩|⟨e',_⟩
  ·have:=IJ fun k=>(FH k).symm.trans (p k)
   subst this
   exact⟨v,h2,rr,t',h',e,k⟩
  ·cases e'
 ·rintro⟨v,h2,rr,t',h',e,k⟩
  exact⟨t',h',⟨_,_,⟨true,fun _=>rfl,.inl ⟨rfl,v,h2,rr,rfl,fun k=>FH k⟩⟩,e⟩,k⟩
theorem iV:DO P (.mk .none .none false (.mk r)::l) t h K=OR P r t (A4 h) (.u0 l t h K):=by
 apply propext;constructor
 ·rintro⟨t',h',⟨t1,h1,⟨q,g1,g2⟩,e⟩,k⟩
  have hq:=OD (b:=true) (c:=q) fun k=>g1 k
  subst hq
  rcases g2 with⟨_,v,h2,rr,rfl,p⟩|⟨e',_⟩
  ·have:=IJ fun k=>p k
   subst this
   exact⟨v,h2,rr,t',h',e,k⟩
  ·cases e'
 ·rintro⟨v,h2,rr,t',h',e,k⟩
  exact⟨t',h',⟨_,_,⟨true,fun _=>rfl,.inl ⟨rfl,v,h2,rr,rfl,fun k=>rfl⟩⟩,e⟩,k⟩
theorem ED (h:H):CK h (A4 h)=h:=by cases h;rfl
theorem rn:DO P (.mk (.some (AV g) w) (.some (AV n)) false (.mk r)::l) t h K=GD P (get g t) w r t (A4 h) (.u n l t h K):=by
 apply propext;constructor
 ·rintro⟨t',h',⟨t1,h1,⟨q,g1,g2⟩,e⟩,k⟩
  refine⟨q,g1,?_⟩
  rcases g2 with⟨rfl,v,h2,rr,rfl,p⟩|⟨rfl,rfl,p⟩
  ·have:=IJ fun k=>(FH k).symm.trans (p k)
   subst this
   exact .inl ⟨rfl,v,h2,rr,t',h',e,k⟩
  ·have:=IJ fun k=>(FH k).symm.trans (p k)
   subst this
   exact .inr ⟨rfl,t',h',by rw[ED];exact e,k⟩
 ·rintro⟨q,g1,⟨rfl,v,h2,rr,t',h',e,k⟩|⟨rfl,t',h',e,k⟩⟩
  ·exact⟨t',h',⟨_,_,⟨true,g1,.inl ⟨rfl,v,h2,rr,rfl,fun k=>FH k⟩⟩,e⟩,k⟩
  ·rw[ED]at e
   exact⟨t',h',⟨_,h,⟨false,g1,.inr ⟨rfl,rfl,fun k=>FH k⟩⟩,e⟩,k⟩
end
section
variable {P:Program} {l:List CO} {t:F} {h h0:H} {K:F->H->Prop} {n:Nat} {v:V}
theorem P2:(Nx.w n l t K).go P v h=WO P l (put n v t) h K:=rfl
theorem X4:(Nx.w0 l t K).go P v h=WO P l t h K:=rfl
theorem WH:(Nx.d n l t K).go P v h=DO P l (put n v t) h K:=rfl
theorem kT:(Nx.d0 l t K).go P v h=DO P l t h K:=rfl
theorem Rw:(Nx.u n l t h0 K).go P v h=DO P l (put n v t) (CK h0 h) K:=rfl
theorem gZ:(Nx.u0 l t h0 K).go P v h=DO P l t (CK h0 h) K:=rfl
end
section
variable {P:Program} {r:CW} {t:F} {h:H} {N:Nx} {w q:Bool}
theorem QF:GD P (.b q) w r t h N=if q=w then OR P r t h N else N.go P (.tu []) h:=by
 have e1:∀ f,vG (.b q) w f=f (xor (xor q w) true):=fun _=>rfl
 apply propext;constructor
 ·rintro⟨b,g1,g2⟩
  have:=OD fun k=>(e1 k).symm.trans (g1 k)
  subst this
  rcases g2 with⟨e,k⟩|⟨e,k⟩
  ·rw[if_pos (by cases q<;>cases w<;>simp_all)];exact k
  ·rw[if_neg (by cases q<;>cases w<;>simp_all)];exact k
 ·intro k
  refine⟨_,e1,?_⟩
  split at k
  ·rename_i e;exact .inl ⟨by cases q<;>cases w<;>simp_all,k⟩
  ·rename_i e;exact .inr ⟨by cases q<;>cases w<;>simp_all,k⟩
theorem rG:GD P (.b true) true r t h N=OR P r t h N:=by rw[QF];rfl
theorem kK:GD P (.b false) false r t h N=OR P r t h N:=by rw[QF];rfl
theorem sA:GD P (.b true) false r t h N=N.go P (.tu []) h:=by rw[QF];rfl
theorem kL:GD P (.b false) true r t h N=N.go P (.tu []) h:=by rw[QF];rfl
theorem qY:GD P (.tu []) w r t h N=N.go P (.tu []) h:=by
 have e1:∀ f,vG (.tu []) w f=f false:=fun _=>rfl
 apply propext;constructor
 ·rintro⟨b,g1,g2⟩
  have:=OD fun k=>(e1 k).symm.trans (g1 k)
  subst this
  rcases g2 with⟨e,k⟩|⟨e,k⟩
  ·cases e
  ·exact k
 ·intro k;exact⟨_,e1,.inr ⟨rfl,k⟩⟩
/--a guard that isn't decided -/
theorem AE (a:q=true->GD P (.b true) w r t h N) (b:q=false->GD P (.b false) w r t h N):GD P (.b q) w r t h N:=by
 cases q with
 |true=>exact a rfl
 |false=>exact b rfl
end
def HV (P:Program) (g:(V->Bool)->Bool) (h:H) (N:Nx):Prop:=∃ v,(∀ k,g k=k v)/\N.go P v h
def H1 (P:Program) (g:V->(V->Bool)->Bool) (x:V) (h:H) (N:Nx):Prop:=HV P (g x) h N
def H2 (P:Program) (g:V->V->(V->Bool)->Bool) (x y:V) (h:H) (N:Nx):Prop:=HV P (g x y) h N
def H3 (P:Program) (g:V->V->V->(V->Bool)->Bool) (x y z:V) (h:H) (N:Nx):Prop:=HV P (g x y z) h N
theorem Bh {P:Program} {r:CW} {t:F} {h:H} {N:Nx} {g:(V->Bool)->Bool} (e:∀ cf k,r cf t h k=g fun v=>k v h):OR P r t h N=HV P g h N:=by
 apply propext;constructor
 ·rintro⟨v,h',⟨cf,c1,c2⟩,k⟩
  have hh:h'=h:=by
   have h1:=c2 fun _ x=>@decide (x=h) (Classical.propDecidable _)
   have h2:=c2 fun _ _=>true
   have e1:=e cf fun _ x=>@decide (x=h) (Classical.propDecidable _)
   have e2:=e cf fun _ _=>true
   have:(fun(v:V)=>(fun _ x=>@decide (x=h) (Classical.propDecidable _)) v h)=fun(v:V)=>(fun _ _=>true) v h:=by funext v;simp
   rw[this,<-e2]at e1
   have h1':r cf t h (fun _ x=>@decide (x=h) (Classical.propDecidable _))=@decide (h'=h) (Classical.propDecidable _):=h1
   have h2':r cf t h (fun _ _=>true)=true:=h2
   rw[e1,h2']at h1'
   simpa using h1'.symm
  subst hh
  exact⟨v,fun k0=>by rw[<-e cf fun v _=>k0 v];exact c2 _,k⟩
 ·rintro⟨v,g1,k⟩
  exact⟨v,h,⟨_,K0 P,fun k=>by show r _ t h k=_;rw[e,g1]⟩,k⟩
theorem Ai {P:Program} {h:H} {N:Nx} {g:(V->Bool)->Bool} {v:V} (e:∀ k,g k=k v):HV P g h N=N.go P v h:=
 propext ⟨fun⟨u,g1,k⟩=>by have:=uw fun k=>(e k).symm.trans (g1 k);subst this;exact k,fun k=>⟨v,e,k⟩⟩
def DN (f:Fc) (x y:V) (k:V->Bool):Bool:=vI x fun kd a=>vI y fun kd' b=>Ap (CU kd kd') fun _=>f kd a b k
def O6 (f:IntKind->Int->Nat->(V->Bool)->Bool) (x y:V) (k:V->Bool):Bool:=vI x fun kd a=>vI y fun _ b=>A6 b fun n=>f kd a (min n kd.bits) k
def pA (x y:V) (k:V->Bool):Bool:=vI y fun kd' b=>Vr x (fun kd a=>Ap (CU kd kd') fun _=>Rt kd a b k) fun kd m r _=>Xf kd' b k kd m r
def UC (ne:Bool) (x y:V) (k:V->Bool):Bool:=vB x fun a=>vB y fun b=>k (.b (xor ne (xor (xor a b) true)))
def ot (x:V) (k:V->Bool):Bool:=vB x fun a=>k (.b (!a))
def pP (x:V) (k:V->Bool):Bool:=vI x fun kd n=>Ff (Int.neg n) kd (BW kd) k
def YL (kd:IntKind) (x:V) (k:V->Bool):Bool:=Vr x (fun _ n=>k (.i kd (kd.wrap n))) fun _ m r hi=>Ap (Nat.ble hi (BW kd)) fun _=>k (.r kd m r hi)
def Uo (j:Nat) (x:V) (k:V->Bool):Bool:=vT x fun vs=>B9 (vs[j]?) k
def X9 (x:V) (k:V->Bool):Bool:=vS x fun n _=>k (.i .i64 (.ofNat n))
def PA (x:V) (k:V->Bool):Bool:=RW x fun n=>k (.i .i64 (n:Int))
def oU (x y:V) (k:V->Bool):Bool:=vI x fun kd a=>vI y fun kd' b=>Ap (CU kd kd') fun _=>k (.i kd (min a b))
def VS (f:Nat->Nat->Nat->Nat->Bool) (x y:V) (k:V->Bool):Bool:=vS x fun la na=>vS y fun lb nb=>A5 (f la na lb nb) (fun _=>k (.s la na)) (fun _=>k (.s lb nb))
def nv (x y:V) (k:V->Bool):Bool:=vI x fun kd a=>vI y fun kd' b=>Ap (CU kd kd') fun _=>k (.i kd (max a b))
def YN (c x y:V) (k:V->Bool):Bool:=vB c fun q=>k (cond q x y)
def O5 (d:Nat) (x:V) (k:V->Bool):Bool:=vA x fun cs=>B9 (cs[d]?) k
def Qm (d size:Nat) (x:V) (k:V->Bool):Bool:=vA x fun cs=>k (.a ((cs.drop d).take size))
def Ku (d:Nat) (x:V) (k:V->Bool):Bool:=vP x fun id g off fin=>k (.p id g (off+d) fin)
def MC (x:V) (k:V->Bool):Bool:=vP x fun id g off fin=>k (.p id g off fin)
def T8 (size:Nat) (x y:V) (k:V->Bool):Bool:=vI y fun _ n=>A6 n fun n=>Q7 size x n k
def L4 (len size:Nat) (x y:V) (k:V->Bool):Bool:=vP x fun id g off fin=>vI y fun _ n=>A6 n fun n=>Ap (Nat.ble (Nat.succ n) len) fun _=>k (.p id g (off+n*size) fin)
def QL (x y:V) (k:V->Bool):Bool:=vI y fun _ n=>A6 n fun n=>Q5 x n k
def P9 (len size:Nat) (x y:V) (k:V->Bool):Bool:=vA x fun cs=>vI y fun _ n=>A6 n fun n=>Ap (Nat.ble (Nat.succ n) len) fun _=>B9 (cs[Nat.mul n size]?) k
def gU (x a b:V) (k:V->Bool):Bool:=vI a fun _ p=>A6 p fun p=>vI b fun _ q=>A6 q fun q=>RF x p q k
def sa (x b:V) (k:V->Bool):Bool:=vI b fun _ q=>A6 q fun q=>RF x 0 q k
def iv (x a:V) (k:V->Bool):Bool:=vI a fun _ p=>A6 p fun p=>NS x p k
def Uv (x:V) (k:V->Bool):Bool:=vS x fun l n=>k (.s l n)
def VE (f:V->(Bool->Bool)->Bool) (ne:Bool) (x y:V) (k:V->Bool):Bool:=f x fun a=>f y fun b=>Ap (a||b) fun _=>k (.b (xor ne (a&&b)))
def Lw (n size:Nat) (x a:V) (k:V->Bool):Bool:=vP x fun id g off fin=>vI a fun _ p=>A6 p fun p=>Ap (Nat.ble p n) fun _=>Bd size id g off n fin n p n k
section
variable {P:Program} {t:F} {h:H} {N:Nx} (o x y c:O)
theorem Vt:OR P (AA o) t h N=N.go P (oV o t) h:=(Bh (g:=fun k=>k (oV o t)) fun cf k=>Xg ..).trans (Ai fun _=>rfl)
theorem XP:OR P (Ac c x y) t h N=H3 P YN (oV c t) (oV x t) (oV y t) h N:=Bh fun cf k=>Xd ..
theorem fo (f:Fc):OR P (AX f x y) t h N=H2 P (DN f) (oV x t) (oV y t) h N:=Bh fun cf k=>dQ ..
theorem UK (f:IntKind->Int->Nat->(V->Bool)->Bool):OR P (Ca f x y) t h N=H2 P (O6 f) (oV x t) (oV y t) h N:=Bh fun cf k=>UH ..
theorem ab:OR P (EP x y) t h N=H2 P pA (oV x t) (oV y t) h N:=Bh fun cf k=>YZ ..
theorem W1 (ne:Bool):OR P (DF ne x y) t h N=H2 P (UC ne) (oV x t) (oV y t) h N:=Bh fun cf k=>Vm ..
theorem Y9:OR P (CN x) t h N=H1 P ot (oV x t) h N:=Bh fun cf k=>Zj ..
theorem eg:OR P (NL x) t h N=H1 P pP (oV x t) h N:=Bh fun cf k=>by simp only[NL,AN];rfl
theorem WZ (kd:IntKind):OR P (Bn kd x) t h N=H1 P (YL kd) (oV x t) h N:=Bh fun cf k=>S1 ..
theorem eT (j:Nat):OR P (AH j x) t h N=H1 P (Uo j) (oV x t) h N:=Bh fun cf k=>PG ..
theorem XA:OR P (BH x) t h N=H1 P X9 (oV x t) h N:=Bh fun cf k=>WN ..
theorem Zn:OR P (CG x) t h N=H1 P PA (oV x t) h N:=Bh fun cf k=>bM ..
theorem aA:OR P (LI x y) t h N=H2 P oU (oV x t) (oV y t) h N:=Bh fun cf k=>eU ..
theorem dS (f:Nat->Nat->Nat->Nat->Bool):OR P (K4 f x y) t h N=H2 P (VS f) (oV x t) (oV y t) h N:=Bh fun cf k=>by simp only[K4,AN];rfl
theorem aM:OR P (Jc x y) t h N=H2 P nv (oV x t) (oV y t) h N:=Bh fun cf k=>Zs ..
theorem Sd (d:Nat):OR P (Hk d o) t h N=H1 P (O5 d) (oV o t) h N:=Bh fun cf k=>Tt ..
theorem SN (d size:Nat):OR P (Fy d size o) t h N=H1 P (Qm d size) (oV o t) h N:=Bh fun cf k=>RC ..
theorem M6 (d:Nat):OR P (AG d o) t h N=H1 P (Ku d) (oV o t) h N:=Bh fun cf k=>Mr ..
theorem OW:OR P (Be o) t h N=H1 P MC (oV o t) h N:=Bh fun cf k=>OP ..
theorem fO (size:Nat):OR P (As size o x) t h N=H2 P (T8 size) (oV o t) (oV x t) h N:=Bh fun cf k=>Zw ..
theorem RB (len size:Nat):OR P (BD len size o x) t h N=H2 P (L4 len size) (oV o t) (oV x t) h N:=Bh fun cf k=>RJ ..
theorem SL:OR P (B4 x y) t h N=H2 P QL (oV x t) (oV y t) h N:=Bh fun cf k=>SM ..
theorem R8 (len size:Nat):OR P (G8 len size x y) t h N=H2 P (P9 len size) (oV x t) (oV y t) h N:=Bh fun cf k=>by simp only[G8,AN,BM];rfl
theorem Rn:OR P (BE x y) t h N=H2 P VR (oV x t) (oV y t) h N:=Bh fun cf k=>Qw ..
theorem WA (f:Nat->Nat->Nat->Nat->Bool):OR P (CM f x y) t h N=H2 P (Nt f) (oV x t) (oV y t) h N:=Bh fun cf k=>WD ..
theorem WW:OR P (IC x y) t h N=H2 P gW (oV x t) (oV y t) h N:=Bh fun cf k=>Wv ..
theorem ZG (a b:O):OR P (Az x (some a) (some b)) t h N=H3 P gU (oV x t) (oV a t) (oV b t) h N:=Bh fun cf k=>bS ..
theorem Zd (b:O):OR P (Az x none (some b)) t h N=H2 P sa (oV x t) (oV b t) h N:=Bh fun cf k=>Yn ..
theorem ZF (a:O):OR P (Az x (some a) none) t h N=H2 P iv (oV x t) (oV a t) h N:=Bh fun cf k=>ai ..
theorem Uj:OR P (Hb x) t h N=H1 P Uv (oV x t) h N:=Bh fun cf k=>by simp only[Hb,AN];rfl
theorem or_nil (f:V->(Bool->Bool)->Bool) (ne:Bool):OR P (KX f ne x y) t h N=H2 P (VE f ne) (oV x t) (oV y t) h N:=Bh fun cf k=>by simp only[KX,AN,CX];rfl
theorem N0 (n size:Nat) (a:O):OR P (DD n size x (some a) none) t h N=H2 P (Lw n size) (oV x t) (oV a t) h N:=Bh fun cf k=>OU ..
end
end Go.Ev
namespace Go.Ev
open Go
/--a block of the call's own,with its elements' type -/
def FZ (h:H) (id:B) (el:Nat) (xs:List V):Prop:=∃ Af,h.heap.get id=some Af/\Af.cur=0/\Af.min=0/\Af.fr=0/\Af.el=el/\B.val h.floor<=B.val id/\B.val id<B.val h.next/\∀ i y,xs[i]? =some y->Af.cells.BU i=some y
theorem FZ.own {h:H} {id:B} {el:Nat} {xs:List V} (o:FZ h id el xs):Own h id xs:=by
 obtain⟨Af,h1,h2,h3,h4,h5,h6,h7,h8⟩:=o
 exact⟨Af,h1,h2,h3,h4,h6,h7,h8⟩
theorem FZ.stay {p:B->Prop} {h h':H} {id:B} {el:Nat} {xs:List V} (o:FZ h id el xs) (s:AZ p h h') (hp:¬p id):FZ h' id el xs:=by
 obtain⟨Af,h1,h2,h3,h4,h5,h6,h7,h8⟩:=o
 exact⟨Af,(s.get id h7 hp).trans h1,h2,h3,h4,h5,by rw[s.floor];exact h6,Nat.lt_of_lt_of_le h7 s.next,h8⟩
theorem FZ.lt {h:H} {id:B} {el:Nat} {xs:List V} (o:FZ h id el xs):B.val id<B.val h.next:=by obtain⟨_,_,_,_,_,_,_,h7,_⟩:=o;exact h7
theorem O3 {h:H} {id:B} {el:Nat} {xs:List V} {j fin:Nat} {y:V} (o:FZ h id el xs) (hj:j<fin) (hfit:j<2 ^ 37) (h1:ES y=true):∃ h',(∀ k,store h id 0 j fin [y] k=k h')/\FZ h' id el (xs.set j y)/\AZ (fun i=>i=id) h h':=by
 obtain⟨Af,a1,a2,a3,a4,a8,a5,a6,a7⟩:=o
 obtain⟨next,floor,heap⟩:=h
 obtain⟨cur,min,sz,cells,bel,fr⟩:=Af
 simp only at a2 a3 a4 a7 a8
 subst a2;subst a3;subst a4;subst a8
 obtain⟨tr,t1,t2,t3⟩:=Bv [y] j cells (by simp;omega)
 obtain⟨hp,s1,s2,s3⟩:=Bp id (⟨0,0,sz,tr,bel,0⟩:E0) heap
 have e1:B.Js floor id=true:=by cases floor<;>first|rfl|(show Nat.ble _ _=true;rw[Nat.ble_eq];exact a5)
 have e2:Nat.ble (Nat.add j 1) fin=true:=by rw[Nat.ble_eq];exact hj
 have e3:CB [y]=true:=by show Bool.rec false true (ES y)=true;rw[h1]
 have e4:Hl 0 j=true:=rfl
 have e5:Nat.beq 0 0=true:=rfl
 have e6:Nat.ble 0 0=true:=rfl
 have a1':heap.get id=some ⟨0,0,sz,cells,bel,0⟩:=a1
 refine⟨⟨next,floor,hp⟩,fun k=>?_,⟨_,s2,rfl,rfl,rfl,rfl,a5,a6,fun i z hz=>?_⟩,⟨rfl,Nat.le_refl _,fun i _ hi=>s3 i hi⟩⟩
 ·simp only[store,B6,a1',Ad,BC,List.length_singleton,e5,e6,e1,e2,e3,e4,AF]
  rw[t1,s1]
 ·show tr.BU i=some z
  rw[List.getElem?_set]at hz
  split at hz
  ·rename_i hij
   subst hij
   split at hz
   ·cases hz
    exact t2 0 y rfl
   ·cases hz
  ·rename_i hij
   rw[t3 i (by simp;omega)]
   exact a7 i z hz
section
variable {P:Program} {S:Spec} {l:List CO} {t:F} {h:H} {K:F->H->Prop}
end
theorem XS {h:H} {id:B} {el:Nat} {xs:List V} (o:FZ h id el xs) (k:Unit->Bool):RS h id 0 el k=k ():=by
 obtain⟨Af,h1,h2,h3,h4,h5,h6,h7,h8⟩:=o
 obtain⟨next,floor,heap⟩:=h
 obtain⟨cur,min,sz,cells,bel,fr⟩:=Af
 simp only at h3 h5
 subst h3;subst h5
 have h1':heap.get id=some ⟨cur,0,sz,cells,bel,fr⟩:=h1
 have e1:Nat.ble 0 0=true:=rfl
 have e2:Nat.beq bel bel=true:=Nat.beq_refl bel
 simp only[RS,B6,h1',Ad,BC,e1,e2,AF]
section
variable (cf:Bo) (t:F) (h:H) (k:V->H->Bool) (x y:O)
theorem Yg:KS x cf t h k=vP (oV x t) fun id g off fin=>DI h id g off fin fun _=>k (.p id g off fin) h:=by simp only[KS,AN]
theorem ZS (u size:Nat):KT u size x cf t h k=vP (oV x t) fun id g off fin=>Ap (Nat.beq off 0) fun _=>Ap (Nat.ble size fin) fun _=>RS h id g u fun _=>k (.p id g off fin) h:=by simp only[KT,AN]
theorem Ys (ne:Bool):F6 ne x y cf t h k=PW (oV x t) (fun _=>PW (oV y t) (fun _=>k (.b (!ne)) h) fun _ _ _ _=>k (.b ne) h) (Jr ne (oV y t) fun v=>k v h):=by simp only[F6,AN,CX]
theorem Xc (ne:Bool) (k:V->Bool) (id:B) (g off fin:Nat):Jr ne .p0 k id g off fin=k (.b ne):=by
 unfold Jr
 rw[I9,CX]
theorem SK (ne:Bool) (k:V->Bool) (id:B) (g off fin fin':Nat):Jr ne (.p id g off fin) k id g off fin'=k (.b (xor ne true)):=by
 unfold Jr
 rw[KQ,Nat.beq_refl,AF,Nat.beq_refl,AF,Nat.beq_refl,CX]
theorem TH:Ew x cf t h k=vL (oV x t) (fun _=>k .p0 h) fun id g off len fin _=>Ap (Nat.ble 1 len) fun _=>k (.p id g off fin) h:=by simp only[Ew,AN]
end
theorem Ke:∀ (m:Nat) (l:List UInt8) (acc:List V) (k:List V->Bool),l.length=m->K1 m (pk l) acc k=k (l.map bv++acc):=by
 intro m
 induction m with
 |zero=>
  intro l acc k h
  have:l=[]:=List.eq_nil_of_length_eq_zero h
  subst this;rfl
 |succ m ih=>
  intro l acc k h
  have hne:l≠[]:=by intro h0;subst h0;simp at h
  obtain⟨l',b,rfl⟩:∃ l' b,l=l'++[b]:=⟨l.dropLast,l.getLast hne,(List.dropLast_concat_getLast hne).symm⟩
  have hs:=IP l' [b]
  have hb:pk [b]=b.toNat:=by simp[pk]
  simp only[List.length_cons,List.length_nil,Nat.zero_add,Nat.pow_one,hb]at hs
  show fN (Nat.mod (pk (l'++[b])) 256) (fun c=>fN (Nat.div (pk (l'++[b])) 256) fun n=>K1 m n (.i .u8 (.ofNat c)::acc) k)=_
  rw[A8,A8]
  have e1:Nat.mod (pk (l'++[b])) 256=b.toNat:=hs.2
  have e2:Nat.div (pk (l'++[b])) 256=pk l':=hs.1
  rw[e1,e2,ih l' _ k (by simpa using h)]
  simp[bv]
theorem JE:∀ l:List UInt8,CB (l.map bv)=true
 |[]=>rfl
 |_::l=>JE l
section
variable {P:Program} {S:Spec} {l:List CO} {t:F} {h:H} {K:F->H->Prop}
end
/--a text out of a slice's bytes,which are frozen -/
theorem W0 {h:H} {el:Nat} {w:V} {a:List UInt8} (hb:EY h el 1 w (a.map bv)) (hl:a.length<=1048576) (cf:Bo) (t:F) (x y:O)
 (e1:∀ k:V->Bool,vL w (fun _=>k .p0) (fun id g off len fin _=>k (.p id g off fin))=k (oV x t)) (e2:oV y t=.i .i64 (a.length:Int)):
 ∃ h',(∀ k,FG el x y cf t h k=k (sv a) h')/\AZ (BT w) h h':=by
 rcases hb with⟨rfl,e⟩|⟨id,g,n,Af,rfl,b1,b2,b3,b4,b5,b6,b7,b8,b9,PI⟩
 ·have:a=[]:=by simpa using e
  subst this
  have hx:oV x t=.p0:=by
   have:=e1 fun v=>@decide (v=oV x t) (Classical.propDecidable _)
   simp at this
   exact this.symm
  refine⟨h,fun k=>?_,AZ.refl _ _⟩
  simp only[FG,AN,hx,e2,Ct,BR,AF,Bj,I9]
  rfl
 ·have hx:oV x t=.p id g 0 (a.map bv).length:=by
   have:=e1 fun v=>@decide (v=oV x t) (Classical.propDecidable _)
   simp at this
   rw[<-this];simp
  have hn:n=a.length:=by rw[List.length_map,Nat.mul_one]at b2;exact b2.symm
  subst hn
  have hrow:Row h id g 0 (a.map bv):=⟨fun _=>⟨Af,b5,b6.1⟩,fun i y hy=>by
   unfold Ev.cell Gp
   rw[b5]
   show(if Af.min<=g then Af.cells.BU (0+i)else none)=_
   rw[if_pos b6.1,Nat.zero_add]
   exact PI i y hy⟩
  have hld:∀ k,Bz h id g 0 (a.map bv).length a.length k=k (a.map bv):=fun k=>by
   have:=Cw (n:=(a.map bv).length) hrow rfl (by intro h0;have:=congrArg List.length h0;simp at this;subst this;simp at b1) (by omega:0+(a.map bv).length<=(a.map bv).length) k
   rwa [List.length_map]at this⊢
  obtain⟨next,floor,heap⟩:=h
  obtain⟨cur,min,sz,cells,bel,fr⟩:=Af
  simp only at b6 b7 b8 b9 PI
  subst b9;subst b8
  obtain⟨hp,s1,s2,s3⟩:=Bp id (⟨cur,min,sz,cells,bel,a.length+2⟩:E0) heap
  have b5':heap.get id=some ⟨cur,min,sz,cells,bel,0⟩:=b5
  have g1:Nat.ble min g=true:=by rw[Nat.ble_eq];exact b6.1
  have g2:Nat.beq bel bel=true:=Nat.beq_refl bel
  have g3:B.Js floor id=true:=by cases floor<;>first|rfl|(show Nat.ble _ _=true;rw[Nat.ble_eq];exact b3)
  have g4:Nat.ble 1 a.length=true:=by rw[Nat.ble_eq];exact b1
  have g5:Nat.ble a.length 1048576=true:=by rw[Nat.ble_eq];exact hl
  refine⟨⟨next,floor,hp⟩,fun k=>?_,⟨rfl,Nat.le_refl _,fun i _ hi=>s3 i fun e=>hi (by subst e;exact⟨_,_,_,_,_,rfl⟩)⟩⟩
  simp only[FG,AN,hx,e2,Ct,BR,AF,Bj,KQ]
  unfold KB
  have g6:Nat.beq 0 0=true:=rfl
  rw[g6,AF,g4,AF,g5,AF]
  simp only[RS,B6,b5',Ad,BC,g1,g2,AF]
  rw[hld,J4]
  have e0:0*256 ^ a.length+pk a=pk a:=by rw[Nat.zero_mul,Nat.zero_add]
  rw[e0]
  simp only[Hg,B6,b5',Ad,BC,g3,AF]
  show fN (Nat.add a.length 2) (fun fr'=>T.GO id ⟨cur,min,sz,cells,bel,fr'⟩ heap fun heap=>k (.s a.length (pk a)) ⟨next,floor,heap⟩)=_
  rw[A8]
  exact s1 _
/--a Builder of the call's own,behind 'lo',in the blocks U,with the bytes a -/
structure Sb (h:H) (lo elB el8:Nat) (id:B) (U:B->Prop) (a:List UInt8):Prop where
 made:∃ adr w,FZ h id elB [adr,w]/\(adr=.p0\/adr=.p id 0 0 2)/\EY h el8 1 w (a.map bv)/\(∀ i,BT w i->U i)/\¬BT w id
 self:U id
 lo:∀ i,U i->lo<=B.val i/\B.val i<B.val h.next
theorem Sb.stay {h h':H} {lo elB el8:Nat} {id:B} {U p:B->Prop} {a:List UInt8} (s:Sb h lo elB el8 id U a) (st:AZ p h h') (hp:∀ i,U i->¬p i):Sb h' lo elB el8 id U a:=by
 obtain⟨⟨adr,w,o,ha,b,hw,hn⟩,hs,hlo⟩:=s
 exact⟨⟨adr,w,o.stay st (hp _ hs),ha,b.stay st fun i hi=>hp i (hw i hi),hw,hn⟩,hs,fun i hi=>⟨(hlo i hi).1,Nat.lt_of_lt_of_le (hlo i hi).2 st.next⟩⟩
/--a slice of one-cell elements of the call's own,behind 'lo' -/
structure Vb (h:H) (lo el:Nat) (v:V) (xs:List V):Prop where
 buf:EY h el 1 v xs
 own:∀ i,BT v i->lo<=B.val i
theorem Vb.nil (h:H) (lo el:Nat):Vb h lo el .l0 []:=⟨EY.nil h el 1,fun i hi=>by obtain⟨_,_,_,_,_,e⟩:=hi;cases e⟩
theorem Vb.stay {p:B->Prop} {h h':H} {lo el:Nat} {v:V} {xs:List V} (a:Vb h lo el v xs) (s:AZ p h h') (hp:∀ i,BT v i->¬p i):Vb h' lo el v xs:=⟨a.buf.stay s hp,a.own⟩
theorem Vb.grow {h h':H} {lo el:Nat} {v:V} {xs:List V} (a:Vb h lo el v xs) (s:AZ AM h h'):Vb h' lo el v xs:=⟨a.buf.grow s,a.own⟩
/--a new slice of bytes,in a block of the call's own that begins at 0;its end is marked,so that it is no EY -/
theorem QW (el:Nat) {l:List UInt8} {h:H} (hf:B.val h.floor<=B.val h.next) (hl:l.length<=1048576):
 ∃ h',(∀ (x:O) (t:F) (cf:Bo) (k:V->H->Bool),oV x t=sv l->Hq el x cf t h k=k (.l h.next 0 0 l.length l.length (IG l.length)) h')/\AZ AM h h'/\B.val h'.next=B.val h.next+1/\
  Row h' h.next 0 0 (l.map bv)/\Hw h' (.l h.next 0 0 l.length l.length (IG l.length)) (l.map bv)/\
  ∃ cells,h'.heap.get h.next=some ⟨0,0,l.length,cells,el,1⟩/\∀ i y,(l.map bv)[i]? =some y->cells.BU i=some y:=by
 obtain⟨⟨nx,fl,heap⟩,a1,a2,a3,⟨cur,min,sz,cells,bel,fr⟩,b1,b2,b3,b4,b5,b6,b7⟩:=Dk el (l.map bv) h (by simp;omega)
 simp only at b2 b3 b4 b5 b6 b7
 subst b2;subst b3;subst b5;subst b6
 rw[List.length_map]at b4
 subst b4
 obtain⟨hp,s1,s2,s3⟩:=Bp h.next (⟨0,0,l.length,cells,bel,1⟩:E0) heap
 have hfl:fl=h.floor:=a2.floor
 have g3:B.Js fl h.next=true:=by
  rw[hfl]
  cases hfx:h.floor<;>first|rfl|(rw[hfx]at hf;show Nat.ble _ _=true;rw[Nat.ble_eq];exact hf)
 have g5:Nat.ble l.length 1048576=true:=by rw[Nat.ble_eq];exact hl
 have b1':heap.get h.next=some ⟨0,0,l.length,cells,bel,0⟩:=b1
 have hrow:Row ⟨nx,fl,hp⟩ h.next 0 0 (l.map bv):=by
  refine⟨fun _=>⟨_,s2,Nat.le_refl _⟩,fun i y hy=>?_⟩
  unfold Ev.cell Gp
  show(match hp.get h.next with|some b=>if b.min<=0 then b.cells.BU (0+i)else none|none=>none)=_
  rw[s2]
  simp only[Nat.le_refl,if_true,Nat.zero_add]
  exact b7 i y hy
 refine⟨⟨nx,fl,hp⟩,fun x t cf k e=>?_,⟨a2.floor,a2.next,fun id h1 h2=>(s3 id fun e=>by rw[e]at h1;exact absurd h1 (Nat.lt_irrefl _)).trans (a2.get id h1 h2)⟩,a3,hrow,
  .inr ⟨h.next,0,0,l.length,IG l.length,by rw[List.length_map],by rw[List.length_map];omega,by show B.val h.next<B.val nx;have:B.val nx=B.val h.next+1:=a3;omega,hrow⟩,cells,s2,b7⟩
 simp only[Hq,AN,e]
 show Ap (Nat.ble l.length 1048576) (fun _=>K1 l.length (pk l) [] fun vs=>alloc bel vs h fun id h=>Kl h id fun h=>k (.l id 0 0 l.length l.length (IG l.length)) h)=_
 rw[g5,AF,Ke _ _ _ _ rfl,List.append_nil,a1]
 simp only[Kl,B6,b1',Ad,BC,g3,AF]
 have g0:Nat.beq 0 0=true:=rfl
 rw[g0,AF]
 exact s1 _
section
variable {P:Program} {S:Spec} {l:List CO} {t:F} {h:H} {K:F->H->Prop}
end
/--v is the newest slice of its block -/
def Og (h:H) (v:V):Prop:=∀ id g off n fin cap,v=.l id g off n fin cap->∃ Af,h.heap.get id=some Af/\Af.cur=g
theorem Og.nil (h:H):Og h .l0:=fun _ _ _ _ _ _ e=>by cases e
theorem Og.stay {p:B->Prop} {h h':H} {v:V} (a:Og h v) (s:AZ p h h') (hl:∀ id,BT v id->B.val id<B.val h.next) (hp:∀ id,BT v id->¬p id):Og h' v:=fun id g off n fin cap e=>by
 obtain⟨Af,h1,h2⟩:=a id g off n fin cap e
 have i:BT v id:=⟨_,_,_,_,_,e⟩
 exact⟨Af,(s.get id (hl id i) (hp id i)).trans h1,h2⟩
theorem Ks {h:H} {el size n:Nat} {v:V} {xs vs:List V} (b:EY h el size v xs) (hf:B.val h.floor<=B.val h.next) (hsz:1<=size) (hn:vs.length=n*size) (h1:CB vs=true) (hb:xs.length+vs.length<=1048576):
 ∃ v' h',(∀ k,Cc el size v n vs h k=k v' h')/\EY h' el size v' (xs++vs)/\AZ (BT v) h h'/\(∀ id,BT v' id->BT v id\/B.val h.next<=B.val id)/\Og h' v':=by
 have hle:n<=vs.length:=by rw[hn];exact Nat.le_mul_of_pos_right _ hsz
 rcases b with⟨rfl,rfl⟩|⟨id,g,m,Af,rfl,b1,b2,b3,b4,b5,b6,b7,b8,b9,PI⟩
 ·cases n with
  |zero=>
   have:vs=[]:=List.eq_nil_of_length_eq_zero (by simpa using hn)
   subst this
   exact⟨.l0,h,fun k=>rfl,EY.nil h el size,AZ.refl _ h,fun id i=>.inl i,fun _ _ _ _ _ _ e=>by cases e⟩
  |succ n=>
   obtain⟨h',a1,a2,a3,Af,c1,c2,c3,c4,c5,c6,c7⟩:=Dk el vs h (by omega)
   have hble:Nat.ble (n+1) 1048576=true:=by rw[Nat.ble_eq];simp at hb;omega
   refine⟨.l h.next 0 0 (n+1) vs.length none,h',fun k=>?_,.inr ⟨h.next,0,n+1,Af,rfl,by omega,hn,by rw[a2.floor];exact hf,by omega,c1,⟨by omega,by omega⟩,c4,c5,c6,c7⟩,a2.mono fun _ _ h=>h.elim,fun id i=>?_,fun _ _ _ _ _ _ e=>by cases e;exact⟨Af,c1,c3⟩⟩
   ·show(Ap (Nat.ble (n+1) 1048576) fun _=>alloc el vs h fun id h=>k (.l id 0 0 (n+1) vs.length none) h)=_
    rw[hble,AF,a1]
   ·obtain⟨_,_,_,_,_,e⟩:=i;cases e;exact .inr (Nat.le_refl _)
 ·obtain⟨next,floor,heap⟩:=h
  obtain⟨cur,min,sz,cells,bel,fr⟩:=Af
  simp only at b6 b7 b8 b9 PI
  obtain⟨tr,t1,t2,t3⟩:=Bv vs sz cells (by omega)
  obtain⟨hp,s1,s2,s3⟩:=Bp id (⟨Nat.succ cur,min,Nat.add sz (Nat.mul n size),tr,bel,fr⟩:E0) heap
  have e1:Nat.ble min g=true:=by rw[Nat.ble_eq];exact b6.1
  have e2:B.Js floor id=true:=by
   cases floor<;>first|rfl|(show Nat.ble _ _=true;rw[Nat.ble_eq];exact b3)
  have e3:Nat.add 0 (Nat.mul m size)=sz:=by
   show 0+m*size=sz
   omega
  have e3':Nat.ble sz sz=true:=by rw[Nat.ble_eq];exact Nat.le_refl _
  have e4:Nat.beq xs.length sz=true:=by rw[b7];simp
  have e4':Nat.beq sz sz=true:=Nat.beq_refl _
  have e9:Ma size (Nat.add m n)=none:=KH (by show 1<=m+n;omega)
  have e5:Nat.ble 1 m=true:=by rw[Nat.ble_eq];exact b1
  have hm:m<=xs.length:=by rw[b2];exact Nat.le_mul_of_pos_right _ hsz
  have e6:Nat.ble (Nat.add m n) 1048576=true:=by rw[Nat.ble_eq];show m+n<=1048576;omega
  have e7:Hl fr sz=true:=by rw[b9];rfl
  have e8:Nat.beq bel el=true:=by rw[b8];simp
  refine⟨.l id (Nat.succ cur) 0 (m+n) (sz+n*size) none,⟨next,floor,hp⟩,fun k=>?_,.inr ⟨id,Nat.succ cur,m+n,_,?_,by omega,?_,b3,b4,s2,?_,?_,b8,b9,fun i y hy=>?_⟩,⟨rfl,Nat.le_refl _,fun id' _ hne=>s3 id' fun e=>hne (by subst e;exact⟨_,_,_,_,_,rfl⟩)⟩,fun id' i=>?_,fun _ _ _ _ _ _ e=>by cases e;exact⟨_,s2,rfl⟩⟩
  ·show Cg (Nat.ble 1 m) el id g 0 m xs.length size n vs ⟨next,floor,heap⟩ k=_
   have b5':heap.get id=some ⟨cur,min,sz,cells,bel,fr⟩:=b5
   simp only[Cg,B6,b5',Ad,BC,A8,e3,e1,e2,e3',e4,e4',Sh,e5,e6,h1,e7,e8,e9,AF]
   rw[t1,s1];rfl
  ·show V.l id (Nat.succ cur) 0 (m+n) (sz+n*size) none=V.l id (Nat.succ cur) 0 (m+n) (xs++vs).length none
   rw[List.length_append,hn,b7]
  ·rw[List.length_append,hn,b2,Nat.add_mul]
  ·exact⟨by show min<=cur+1;omega,Nat.le_refl _⟩
  ·show Nat.add sz (Nat.mul n size)=(xs++vs).length
   rw[List.length_append,hn,b7];rfl
  ·show tr.BU i=some y
   by_cases hi:i<xs.length
   ·rw[t3 i (.inl (by omega))]
    refine PI i y ?_
    rwa [List.getElem?_append_left hi]at hy
   ·have hi':i-xs.length<vs.length:=by
     have:=(List.getElem?_eq_some_iff.1 hy).1
     simp at this;omega
    rw[List.getElem?_append_right (by omega)]at hy
    have:=t2 (i-xs.length) y hy
    rwa [show sz+(i-xs.length)=i by omega]at this
  ·obtain⟨_,_,_,_,_,e⟩:=i;cases e;exact .inl ⟨_,_,_,_,_,rfl⟩
/--at one place written -/
theorem RG {h:H} {el:Nat} {v:V} {xs:List V} {j:Nat} {y:V} (b:EY h el 1 v xs) (tp:Og h v) (hj:j<xs.length) (hfit:j<2 ^ 37) (h1:ES y=true):
 ∃ h',(∀ k,store h (I4 v) (lg v) (EH v+j) (EW v) [y] k=k h')/\EY h' el 1 v (xs.set j y)/\Og h' v/\AZ (BT v) h h':=by
 rcases b with⟨rfl,rfl⟩|⟨id,g,m,Af,rfl,b1,b2,b3,b4,b5,b6,b7,b8,b9,PI⟩
 ·exact absurd hj (Nat.not_lt_zero _)
 obtain⟨blk',b5',hcur⟩:=tp id g 0 m xs.length none rfl
 have hbb:blk'=Af:=by rw[b5]at b5';exact(Option.some.inj b5').symm
 subst hbb
 obtain⟨next,floor,heap⟩:=h
 obtain⟨cur,min,sz,cells,bel,fr⟩:=blk'
 simp only at b6 b7 b8 b9 PI hcur
 subst hcur;subst b9
 obtain⟨tr,t1,t2,t3⟩:=Bv [y] j cells (by simp;omega)
 obtain⟨hp,s1,s2,s3⟩:=Bp id (⟨cur,cur,sz,tr,bel,0⟩:E0) heap
 have e1:B.Js floor id=true:=by cases floor<;>first|rfl|(show Nat.ble _ _=true;rw[Nat.ble_eq];exact b3)
 have e2:Nat.ble (Nat.add j 1) xs.length=true:=by rw[Nat.ble_eq];exact hj
 have e3:CB [y]=true:=by show Bool.rec false true (ES y)=true;rw[h1]
 have e4:Hl 0 j=true:=rfl
 have e5:Nat.beq cur cur=true:=Nat.beq_refl cur
 have e6:Nat.ble min cur=true:=by rw[Nat.ble_eq];exact b6.1
 have b5'':heap.get id=some ⟨cur,min,sz,cells,bel,0⟩:=b5
 refine⟨⟨next,floor,hp⟩,fun k=>?_,.inr ⟨id,cur,m,_,by rw[List.length_set],b1,by rw[List.length_set];exact b2,b3,b4,s2,⟨Nat.le_refl _,Nat.le_refl _⟩,by rw[List.length_set];exact b7,b8,rfl,fun i z hz=>?_⟩,fun _ _ _ _ _ _ e=>by cases e;exact⟨_,s2,rfl⟩,⟨rfl,Nat.le_refl _,fun i _ hi=>s3 i fun e=>hi (by subst e;exact⟨_,_,_,_,_,rfl⟩)⟩⟩
 ·show store ⟨next,floor,heap⟩ id cur (0+j) xs.length [y] k=_
  rw[Nat.zero_add]
  simp only[store,B6,b5'',Ad,BC,List.length_singleton,e5,e6,e1,e2,e3,e4,AF]
  rw[t1,s1]
 ·show tr.BU i=some z
  rw[List.getElem?_set]at hz
  split at hz
  ·rename_i hij
   subst hij
   first
   |(rw[if_pos hj]at hz;cases hz;exact t2 0 y rfl)
   |(cases hz;exact t2 0 y rfl)
  ·rename_i hij
   rw[t3 i (by simp;omega)]
   exact PI i z hz
section
variable {P:Program} {S:Spec} {l:List CO} {t:F} {h:H} {K:F->H->Prop}
end
def G6 (size:Nat) (v w:V) (k:V->Bool):Bool:=vL v (fun _=>vI w fun _ n=>A6 n fun a=>Ap (Nat.beq a 0) fun _=>Ap (Nat.beq 0 0) fun _=>k .l0) fun id g off len fin cap=>vI w fun _ n=>A6 n fun a=>Ap (Nat.ble a len) fun _=>
 Option.rec (fun id g off len fin a b k=>Dx size id g off len fin a b fun v=>k v) (fun c id g off len fin a b k=>A5 (BY c) (fun _=>Ap (Nat.beq b 0) fun _=>k (.l id g off 0 off (some c))) (fun _=>Bd size id g off len fin c a b fun v=>k v)) cap id g off len fin a len k
def GK (size:Nat) (v w:V) (k:V->Bool):Bool:=vL v (fun _=>vI w fun _ n=>A6 n fun b=>Ap (Nat.beq 0 0) fun _=>Ap (Nat.beq b 0) fun _=>k .l0) fun id g off len fin cap=>vI w fun _ n=>A6 n fun b=>Ap (Nat.ble 0 b) fun _=>
 Option.rec (fun id g off len fin a b k=>Dx size id g off len fin a b fun v=>k v) (fun c id g off len fin a b k=>A5 (BY c) (fun _=>Ap (Nat.beq b 0) fun _=>k (.l id g off 0 off (some c))) (fun _=>Bd size id g off len fin c a b fun v=>k v)) cap id g off len fin 0 b k
section
variable {cf:Bo} {t:F} {h:H} {k:V->H->Bool} {x a:O}
theorem V6 (size:Nat):Cf size x (some a) none cf t h k=G6 size (oV x t) (oV a t) fun v=>k v h:=by
 unfold G6
 simp only[Cf,AN,Bc]
 congr 1
 funext id g off len fin cap
 congr 1;funext _ n;congr 1;funext a;congr 1;funext _
 cases cap with
 |none=>rfl
 |some c=>
  show A5 (BY c) _ _=A5 (BY c) _ _
  cases BY c<;>rfl
theorem Wf (size:Nat):Cf size x none (some a) cf t h k=GK size (oV x t) (oV a t) fun v=>k v h:=by
 unfold GK
 simp only[Cf,AN,Bc]
 congr 1
 funext id g off len fin cap
 congr 1;funext _ n;congr 1;funext a;congr 1;funext _
 cases cap with
 |none=>rfl
 |some c=>
  show A5 (BY c) _ _=A5 (BY c) _ _
  cases BY c<;>rfl
end
/--the part behind n of a row that is made -/
def VO (id:B) (K n:Nat):V:=if n=K then .l id 0 0 0 K (some 0)else .l id 0 n (K-n) K (some (K-n))
theorem Sx {id:B} {K n:Nat} {kd:IntKind} (hKM:K<18446744073709551616) (hn:n<=K) (k:V->Bool):G6 1 (.l id 0 0 K K (some K)) (.i kd (n:Int)) k=k (VO id K n):=by
 have e1:Nat.ble n K=true:=by rw[Nat.ble_eq];exact hn
 have e2:Nat.ble K K=true:=by rw[Nat.ble_eq];exact Nat.le_refl _
 unfold G6 VO
 simp only[DQ,Ct,Bj,e1,AF]
 by_cases e:n=K
 ·subst e
  rw[if_pos rfl]
  show A5 (BY n) _ (fun _=>Bd 1 id 0 0 n n n n n fun v=>k v)=_
  rw[GC hKM,BL]
  have e0:Nat.ble (Nat.succ n) 18446744073709551616=true:=by rw[Nat.ble_eq];exact hKM
  have e3:Nat.beq n n=true:=Nat.beq_refl n
  unfold Bd
  rw[e0,AF,e2,AF,e3]
  rfl
 ·rw[if_neg e]
  show A5 (BY K) _ (fun _=>Bd 1 id 0 0 K K K n K fun v=>k v)=_
  rw[GC hKM,BL,D7 hKM (Nat.le_refl _) (by omega),Nat.zero_add,Nat.mul_one]
theorem TA {id:B} {K n:Nat} {kd:IntKind} (hKM:K<18446744073709551616) (hn:n<=K) (hK:0<K) (k:V->Bool):GK 1 (.l id 0 0 K K (some K)) (.i kd (n:Int)) k=k (.l id 0 0 n K (some K)):=by
 have e1:Nat.ble 0 n=true:=by rw[Nat.ble_eq];exact Nat.zero_le _
 unfold GK
 simp only[DQ,Ct,Bj,e1,AF]
 show A5 (BY K) _ (fun _=>Bd 1 id 0 0 K K K 0 n fun v=>k v)=_
 rw[GC hKM,BL,D7 hKM hn hK]
 simp only[Nat.zero_mul,Nat.add_zero,Nat.sub_zero]
end Go.Ev
namespace Go.Ev
open Go
/--frames -/
def gF (n m:Nat) (v:V) (t:F):V:=get n (put m v t)
theorem AB (n m:Nat) (v:V) (t:F):get n (put m v t)=if n=m then v else if n<512/\m<512 then get n t else gF n m v t:=by
 by_cases h:n<512/\m<512
 ·rw[get_put n m v t h.1 h.2,if_pos h]
 ·rw[if_neg h]
  by_cases e:n=m
  ·subst e
   rw[if_pos rfl]
   exact(Classical.choose_spec (GY (AV n) v t)).2.1
  ·rw[if_neg e];rfl
section
variable {P:Program} {h:H} {N:Nx} {kd:IntKind} {a b:Int}
theorem fY:H2 P (DN By) (.i kd a) (.i kd b) h N=N.go P (.i kd (kd.wrap (a+b))) h:=Ai fun k=>by show Ap (CU kd kd) _=_;rw[BR,AF,pz]
theorem ZJ:H2 P (DN JD) (.i kd a) (.i kd b) h N=N.go P (.i kd (kd.wrap (a-b))) h:=Ai fun k=>by show Ap (CU kd kd) _=_;rw[BR,AF,sj]
theorem Y5:H2 P (DN Ul) (.i kd a) (.i kd b) h N=N.go P (.i kd (kd.wrap (a*b))) h:=Ai fun k=>by show Ap (CU kd kd) _=_;rw[BR,AF,om]
theorem dZ:H2 P (DN Cr) (.i kd a) (.i kd b) h N=N.go P (.b (decide (a<b))) h:=Ai fun k=>by show Ap (CU kd kd) _=_;rw[BR,AF,iJ]
theorem cQ:H2 P (DN C6) (.i kd a) (.i kd b) h N=N.go P (.b (decide (b<a))) h:=Ai fun k=>by show Ap (CU kd kd) _=_;rw[BR,AF,ji]
theorem Yv:H2 P (DN Hn) (.i kd a) (.i kd b) h N=N.go P (.b (decide (a<=b))) h:=Ai fun k=>by show Ap (CU kd kd) _=_;rw[BR,AF,k9]
theorem av:H2 P (DN Gt) (.i kd a) (.i kd b) h N=N.go P (.b (decide (b<=a))) h:=Ai fun k=>by show Ap (CU kd kd) _=_;rw[BR,AF,rE]
theorem Yc:H2 P (DN CY) (.i kd a) (.i kd b) h N=N.go P (.b (decide (a=b))) h:=Ai fun k=>by show Ap (CU kd kd) _=_;rw[BR,AF,n6]
theorem cS:H2 P (DN FI) (.i kd a) (.i kd b) h N=N.go P (.b (!decide (a=b))) h:=Ai fun k=>by show Ap (CU kd kd) _=_;rw[BR,AF,rp]
theorem cj (ha:0<=a) (hb:0<b):H2 P (DN Vh) (.i kd a) (.i kd b) h N=N.go P (.i kd (kd.wrap (a/b))) h:=Ai fun k=>by
 show Ap (CU kd kd) _=_
 rw[BR,AF]
 have e:KC b 0=false:=by rw[Ee];simp;omega
 unfold Vh
 rw[e]
 show Ff (Int.tdiv a b) kd (BW kd) k=_
 rw[Cd,Int.tdiv_eq_ediv_of_nonneg ha]
theorem fq (ha:0<=a) (hb:0<b):H2 P pA (.i kd a) (.i kd b) h N=N.go P (.i kd (a%b)) h:=Ai fun k=>by
 show Ap (CU kd kd) (fun _=>Rt kd a b k)=_
 rw[BR,AF]
 have e:KC b 0=false:=by rw[Ee];simp;omega
 unfold Rt
 rw[e]
 show FW (Int.tmod a b) (fun n=>k (.i kd n))=_
 rw[Ez,Int.tmod_eq_emod_of_nonneg ha]
theorem LK {m:Nat} (hm:BW kd=m) (ha:0<=a) (ha2:a<=m) (hb:0<=b) (hb2:b<=m):H2 P (DN P3) (.i kd a) (.i kd b) h N=N.go P (.i kd ((a.toNat&&&b.toNat:Nat):Int)) h:=Ai fun k=>by
 show Ap (CU kd kd) _=_
 rw[BR,AF]
 obtain⟨x,rfl⟩:=Int.eq_ofNat_of_zero_le ha
 obtain⟨y,rfl⟩:=Int.eq_ofNat_of_zero_le hb
 have e1:Nat.ble x (BW kd)=true:=by rw[Nat.ble_eq];omega
 have e2:Nat.ble y (BW kd)=true:=by rw[Nat.ble_eq];omega
 show A6 (Int.ofNat x) (fun a=>A6 (Int.ofNat y) _)=_
 rw[BB,BB,e1,AF,e2,AF,A8];rfl
theorem NU {m:Nat} (hm:BW kd=m) (ha:0<=a) (ha2:a<=m) (hb:0<=b) (hb2:b<=m):H2 P (DN Vk) (.i kd a) (.i kd b) h N=N.go P (.i kd ((a.toNat|||b.toNat:Nat):Int)) h:=Ai fun k=>by
 show Ap (CU kd kd) _=_
 rw[BR,AF]
 obtain⟨x,rfl⟩:=Int.eq_ofNat_of_zero_le ha
 obtain⟨y,rfl⟩:=Int.eq_ofNat_of_zero_le hb
 have e1:Nat.ble x (BW kd)=true:=by rw[Nat.ble_eq];omega
 have e2:Nat.ble y (BW kd)=true:=by rw[Nat.ble_eq];omega
 show A6 (Int.ofNat x) (fun a=>A6 (Int.ofNat y) _)=_
 rw[BB,BB,e1,AF,e2,AF,A8];rfl
theorem K8 {m:Nat} (hm:BW kd=m) (ha:0<=a) (ha2:a<=m) (hb:0<=b) (hb2:b<=m):H2 P (DN Nv) (.i kd a) (.i kd b) h N=N.go P (.i kd ((a.toNat ^^^ b.toNat:Nat):Int)) h:=Ai fun k=>by
 show Ap (CU kd kd) _=_
 rw[BR,AF]
 obtain⟨x,rfl⟩:=Int.eq_ofNat_of_zero_le ha
 obtain⟨y,rfl⟩:=Int.eq_ofNat_of_zero_le hb
 have e1:Nat.ble x (BW kd)=true:=by rw[Nat.ble_eq];omega
 have e2:Nat.ble y (BW kd)=true:=by rw[Nat.ble_eq];omega
 show A6 (Int.ofNat x) (fun a=>A6 (Int.ofNat y) _)=_
 rw[BB,BB,e1,AF,e2,AF,A8];rfl
theorem KJ {m:Nat} (hm:BW kd=m) (ha:0<=a) (ha2:a<=m) (hb:0<=b) (hb2:b<=m):H2 P (DN Pk) (.i kd a) (.i kd b) h N=N.go P (.i kd ((a.toNat ^^^ (a.toNat&&&b.toNat):Nat):Int)) h:=Ai fun k=>by
 show Ap (CU kd kd) _=_
 rw[BR,AF]
 obtain⟨x,rfl⟩:=Int.eq_ofNat_of_zero_le ha
 obtain⟨y,rfl⟩:=Int.eq_ofNat_of_zero_le hb
 have e1:Nat.ble x (BW kd)=true:=by rw[Nat.ble_eq];omega
 have e2:Nat.ble y (BW kd)=true:=by rw[Nat.ble_eq];omega
 show A6 (Int.ofNat x) (fun a=>A6 (Int.ofNat y) _)=_
 rw[BB,BB,e1,AF,e2,AF,A8];rfl
theorem fE {kd':IntKind} (hb:0<=b):H2 P (O6 NR) (.i kd a) (.i kd' b) h N=N.go P (.i kd (kd.wrap (a*((2 ^ (min b.toNat kd.bits):Nat):Int)))) h:=Ai fun k=>by
 show A6 b _=_
 rw[C2 hb,tD]
theorem bc {kd':IntKind} (hb:0<=b):H2 P (O6 Jp) (.i kd a) (.i kd' b) h N=N.go P (.i kd (a/((2 ^ (min b.toNat kd.bits):Nat):Int))) h:=Ai fun k=>by
 show A6 b _=_
 rw[C2 hb]
 show FW (Int.fdiv a ((2 ^ _:Nat):Int)) (fun n=>k (.i kd n))=_
 rw[Ez,Int.fdiv_eq_ediv_of_nonneg _ (Int.natCast_nonneg _)]
theorem cZ {x y:Bool}:H2 P (UC false) (.b x) (.b y) h N=N.go P (.b (x==y)) h:=Ai fun k=>by cases x<;>cases y<;>rfl
theorem bp {x y:Bool}:H2 P (UC true) (.b x) (.b y) h N=N.go P (.b (x !=y)) h:=Ai fun k=>by cases x<;>cases y<;>rfl
theorem ff {x:Bool}:H1 P ot (.b x) h N=N.go P (.b (!x)) h:=Ai fun k=>rfl
theorem dF:H1 P pP (.i kd a) h N=N.go P (.i kd (kd.wrap (-a))) h:=Ai fun k=>Cd _ _ _
theorem Wx {kd':IntKind}:H1 P (YL kd) (.i kd' a) h N=N.go P (.i kd (kd.wrap a)) h:=Ai fun k=>rfl
theorem Vl {v:V} {vs:List V}:H1 P (Uo 0) (.tu (v::vs)) h N=N.go P v h:=Ai fun k=>rfl
theorem W6 {u v:V} {vs:List V}:H1 P (Uo 1) (.tu (u::v::vs)) h N=N.go P v h:=Ai fun k=>rfl
theorem Wi {u w v:V} {vs:List V}:H1 P (Uo 2) (.tu (u::w::v::vs)) h N=N.go P v h:=Ai fun k=>rfl
theorem Wa {u w z v:V} {vs:List V}:H1 P (Uo 3) (.tu (u::w::z::v::vs)) h N=N.go P v h:=Ai fun k=>rfl
theorem bZ:H2 P oU (.i kd a) (.i kd b) h N=N.go P (.i kd (min a b)) h:=Ai fun k=>by show Ap (CU kd kd) _=_;rw[BR,AF]
theorem cA:H2 P nv (.i kd a) (.i kd b) h N=N.go P (.i kd (max a b)) h:=Ai fun k=>by show Ap (CU kd kd) _=_;rw[BR,AF]
theorem XF {q:Bool} {x y:V}:H3 P YN (.b q) x y h N=N.go P (cond q x y) h:=Ai fun k=>rfl
def wu (P:Program) (d:Nat) (cs:List V) (h:H) (N:Nx):Prop:=H1 P (O5 d) (.a cs) h N
theorem Tk {d:Nat} {cs:List V}:H1 P (O5 d) (.a cs) h N=if d<cs.length then N.go P (cs.getD d .u) h else wu P d cs h N:=by
 split
 ·rename_i hd
  exact Ai fun k=>by
   show B9 (cs[d]?) k=_
   rw[show cs[d]? =some (cs.getD d .u)by simp[hd]];rfl
 ·rfl
theorem SJ {d size:Nat} {cs:List V}:H1 P (Qm d size) (.a cs) h N=N.go P (.a ((cs.drop d).take size)) h:=Ai fun k=>rfl
theorem MI {d:Nat} {id:B} {g off fin:Nat}:H1 P (Ku d) (.p id g off fin) h N=N.go P (.p id g (off+d) fin) h:=Ai fun k=>rfl
theorem Nf {id:B} {g off fin:Nat}:H1 P MC (.p id g off fin) h N=N.go P (.p id g off fin) h:=Ai fun k=>rfl
/--an element's place -/
def IX (P:Program) (size:Nat) (v:V) (i:Nat) (h:H) (N:Nx):Prop:=HV P (Q7 size v i) h N
theorem cT {size:Nat} {v:V} (ha:0<=a):H2 P (T8 size) v (.i kd a) h N=IX P size v a.toNat h N:=by
 unfold H2 IX
 congr 1
 funext k
 show A6 a _=_
 rw[C2 ha]
theorem jt {size i:Nat} {id:B} {g off len fin:Nat} {cap:Option Nat} (hi:i<len):IX P size (.l id g off len fin cap) i h N=N.go P (.p id g (off+i*size) fin) h:=Ai fun k=>by
 show Ap (Nat.ble (i+1) len) (fun _=>k (.p id g (off+i*size) fin))=_
 have:Nat.ble (i+1) len=true:=by rw[Nat.ble_eq];exact hi
 rw[this,AF]
theorem Rp {len size:Nat} {id:B} {g off fin:Nat} (ha:0<=a) (hl:a<len):H2 P (L4 len size) (.p id g off fin) (.i kd a) h N=N.go P (.p id g (off+a.toNat*size) fin) h:=Ai fun k=>by
 show A6 a _=_
 rw[C2 ha,sf (by omega)]
theorem QN:H1 P PA .l0 h N=N.go P (.i .i64 0) h:=Ai fun k=>rfl
theorem Tn {id:B} {g off len fin:Nat} {cap:Option Nat}:H1 P PA (.l id g off len fin cap) h N=N.go P (.i .i64 (len:Int)) h:=Ai fun k=>rfl
theorem Wj {l:List UInt8}:H1 P X9 (sv l) h N=N.go P (.i .i64 (l.length:Int)) h:=Ai fun k=>rfl
theorem Rg {l:List UInt8} (ha:0<=a) (hl:a<l.length):H2 P QL (sv l) (.i kd a) h N=N.go P (.i .u8 ((l.getD a.toNat 0).toNat:Int)) h:=Ai fun k=>by
 show A6 a _=_
 rw[C2 ha,WC (by omega)]
theorem Qz {len size:Nat} {cs:List V} (ha:0<=a) (hl:a<len) (hc:a.toNat*size<cs.length):H2 P (P9 len size) (.a cs) (.i kd a) h N=N.go P (cs.getD (a.toNat*size) .u) h:=Ai fun k=>by
 show A6 a _=_
 have:Nat.ble (a.toNat+1) len=true:=by rw[Nat.ble_eq];omega
 rw[C2 ha]
 show Ap (Nat.ble (a.toNat+1) len) (fun _=>B9 (cs[a.toNat*size]?) k)=_
 rw[this,AF,show cs[a.toNat*size]? =some (cs.getD (a.toNat*size) .u)by simp[hc]];rfl
theorem YX {x y:List UInt8} (hl:x.length+y.length<=1048576):H2 P VR (sv x) (sv y) h N=N.go P (sv (x++y)) h:=Ai fun k=>Xm hl k
theorem db {x y:List UInt8}:H2 P (Nt Fw) (sv x) (sv y) h N=N.go P (.b (decide (x=y))) h:=Ai fun k=>eG x y k
theorem eO {x y:List UInt8}:H2 P (Nt fun a b c d=>!Fw a b c d) (sv x) (sv y) h N=N.go P (.b (!decide (x=y))) h:=Ai fun k=>dC x y k
theorem XX {x y:List UInt8}:H2 P gW (sv x) (sv y) h N=N.go P (.i .i64 (MP (decide (x=y)) (Op.bytesLess x y))) h:=Ai fun k=>aw x y k
theorem WT {x y:List UInt8}:H2 P (VS fun a b c d=>Hy a b c d||Fw a b c d) (sv x) (sv y) h N=N.go P (sv (bif Op.bytesLess x y||decide (x=y)then x else y)) h:=Ai fun k=>by
 have e:(Hy x.length (pk x) y.length (pk y)||Fw x.length (pk x) y.length (pk y))=(Op.bytesLess x y||decide (x=y)):=by rw[IB,CA]
 rw[<-e];unfold VS;rw[C5,C5]
 show A5 (Hy x.length (pk x) y.length (pk y)||Fw x.length (pk x) y.length (pk y)) _ _=_
 generalize (Hy x.length (pk x) y.length (pk y)||Fw x.length (pk x) y.length (pk y))=b
 cases b<;>rfl
theorem XI {x y:List UInt8}:H2 P (VS fun a b c d=>!Hy a b c d) (sv x) (sv y) h N=N.go P (sv (bif Op.bytesLess x y then y else x)) h:=Ai fun k=>by
 rw[CA];unfold VS;rw[C5,C5]
 show A5 (!Hy x.length (pk x) y.length (pk y)) _ _=_
 generalize Hy x.length (pk x) y.length (pk y)=b
 cases b<;>rfl
theorem fk {x y:List UInt8}:H2 P (Nt Hy) (sv x) (sv y) h N=N.go P (.b (Op.bytesLess x y)) h:=Ai fun k=>ZH x y k
theorem dh {x y:List UInt8}:H2 P (Nt fun a b c d=>!Hy a b c d) (sv x) (sv y) h N=N.go P (.b (!Op.bytesLess x y)) h:=Ai fun k=>by
 unfold Nt;rw[C5,C5,CA]
theorem Zp {x y:List UInt8}:H2 P (Nt fun a b c d=>Hy a b c d||Fw a b c d) (sv x) (sv y) h N=N.go P (.b (Op.bytesLess x y||decide (x=y))) h:=Ai fun k=>by
 unfold Nt;rw[C5,C5];show k (.b (Hy x.length (pk x) y.length (pk y)||Fw x.length (pk x) y.length (pk y)))=_;rw[IB,CA]
theorem eN {x y:List UInt8}:H2 P (Nt fun a b c d=>!(Hy a b c d||Fw a b c d)) (sv x) (sv y) h N=N.go P (.b (!(Op.bytesLess x y||decide (x=y)))) h:=Ai fun k=>by
 unfold Nt;rw[C5,C5];show k (.b (!(Hy x.length (pk x) y.length (pk y)||Fw x.length (pk x) y.length (pk y))))=_;rw[IB,CA]
theorem aF {l:List UInt8} {kd':IntKind} (ha:0<=a) (hab:a<=b) (hb:b<=l.length):H3 P gU (sv l) (.i kd a) (.i kd' b) h N=N.go P (sv ((l.take b.toNat).drop a.toNat)) h:=Ai fun k=>by
 show A6 a (fun p=>A6 b fun q=>RF (sv l) p q k)=_
 rw[C2 ha,C2 (by omega),Oy (by omega) (by omega)]
theorem Yh {l:List UInt8} (ha:0<=a) (hb:a<=l.length):H2 P sa (sv l) (.i kd a) h N=N.go P (sv (l.take a.toNat)) h:=Ai fun k=>by
 show A6 a (fun q=>RF (sv l) 0 q k)=_
 rw[C2 ha,Oy (by omega) (by omega),List.drop_zero]
theorem fy {l:List UInt8} (ha:0<=a) (hb:a<=l.length):H2 P iv (sv l) (.i kd a) h N=N.go P (sv (l.drop a.toNat)) h:=Ai fun k=>by
 show A6 a (fun p=>NS (sv l) p k)=_
 rw[C2 ha,XU (by omega)]
theorem TZ {l:List UInt8}:H1 P Uv (sv l) h N=N.go P (sv l) h:=Ai fun k=>rfl
theorem Sf {ne:Bool}:H2 P (VE YC ne) .l0 .l0 h N=N.go P (.b (!ne)) h:=Ai fun k=>by cases ne<;>rfl
theorem Tu {ne:Bool} {id:B} {g off len fin:Nat} {cap:Option Nat}:H2 P (VE YC ne) (.l id g off len fin cap) .l0 h N=N.go P (.b ne) h:=Ai fun k=>by cases ne<;>rfl
theorem UU {ne:Bool}:H2 P (VE wQ ne) .p0 .p0 h N=N.go P (.b (!ne)) h:=Ai fun k=>by cases ne<;>rfl
theorem TR {ne:Bool} {id:B} {g off fin:Nat}:H2 P (VE wQ ne) (.p id g off fin) .p0 h N=N.go P (.b ne) h:=Ai fun k=>by cases ne<;>rfl
end
def r7 (x:V) (k:V->Bool):Bool:=vI x fun _ n=>A6 n fun n=>Ap (Nat.ble n 127) fun _=>k (.s 1 n)
theorem dM {P:Program} {t:F} {h:H} {N:Nx} (x:O):OR P (Lq x) t h N=H1 P r7 (oV x t) h N:=Bh fun cf k=>by simp only[Lq,AN];rfl
theorem Tf {k:Nat} (h:k<256):V.s 1 k=sv [UInt8.ofNat k]:=by
 unfold sv
 have:(UInt8.ofNat k).toNat=k:=by simp;omega
 simp[pk,this]
theorem dD {P:Program} {h:H} {N:Nx} {kd:IntKind} {a:Int} (ha:0<=a) (hb:a<=127):H1 P r7 (.i kd a) h N=N.go P (sv [UInt8.ofNat a.toNat]) h:=Ai fun k=>by
 show A6 a _=_
 have e:Nat.ble a.toNat 127=true:=by rw[Nat.ble_eq];omega
 rw[C2 ha,e,AF,Tf (by omega)]
def LD (P:Program) (v:V) (h:H) (N:Nx):Prop:=HV P (fun k=>vP v fun id g off fin=>DI h id g off fin k) h N
def LA (P:Program) (size:Nat) (v:V) (h:H) (N:Nx):Prop:=HV P (fun k=>vP v fun id g off fin=>Bz h id g off fin size fun vs=>k (.a vs)) h N
def L1 (P:Program) (id:B) (g off fin:Nat) (h:H) (N:Nx):Prop:=HV P (DI h id g off fin) h N
def LN (P:Program) (id:B) (g off fin size:Nat) (h:H) (N:Nx):Prop:=HV P (fun k=>Bz h id g off fin size fun vs=>k (.a vs)) h N
def BS (P:Program) (v:V) (h:H) (N:Nx):Prop:=HV P (U5 h v) h N
section
variable {P:Program} {t:F} {h:H} {N:Nx} {o x:O} {id:B} {g off fin size:Nat}
theorem Xn:OR P (Aa o) t h N=LD P (oV o t) h N:=Bh fun cf k=>Wc ..
theorem Tq:OR P (Ah size o) t h N=LA P size (oV o t) h N:=Bh fun cf k=>VU ..
theorem PF:OR P (Dl x) t h N=BS P (oV x t) h N:=Bh fun cf k=>cR ..
theorem wF:LD P (.p id g off fin) h N=L1 P id g off fin h N:=rfl
theorem vK:LA P size (.p id g off fin) h N=LN P id g off fin size h N:=rfl
theorem fh {h:H} (k:V->Bool):DI (A4 h) id g off fin k=DI h id g off fin k:=by cases h;rfl
section
variable {n:Nat} {l:List CO} {K:F->H->Prop} {v:V}
theorem hC:L1 P id g off fin (A4 h) (.u n l t h K)=L1 P id g off fin h (.d n l t K):=by
 unfold L1 HV
 simp only[fh,Rw,WH,ED]
theorem mo:LN P id g off fin size (A4 h) (.u n l t h K)=LN P id g off fin size h (.d n l t K):=by
 have e:∀ k:List V->Bool,Bz (A4 h) id g off fin size k=Bz h id g off fin size k:=fun k=>by cases h;rfl
 unfold LN HV
 simp only[e,Rw,WH,ED]
theorem YB:BS P v (A4 h) (.u n l t h K)=BS P v h (.d n l t K):=by
 have e:U5 (A4 h) v=U5 h v:=by cases h;rfl
 unfold BS HV
 simp only[e,Rw,WH,ED]
end
theorem Row.l1 {xs:List V} (r:Row h id g 0 xs) (hi:off<xs.length) (hf:off<fin):L1 P id g off fin h N=N.go P (xs.getD off .u) h:=Ai fun k=>
 Gh (by have:=r.2 off (xs.getD off .u) (by simp[hi]);rwa [Nat.zero_add]at this) hf k
theorem Hw.ln {h0:H} {v:V} {xs:List V} (a:Hw h0 v xs):H1 P PA v h N=N.go P (.i .i64 (xs.length:Int)) h:=Ai fun k=>by unfold PA;rw[a.len]
theorem Hw.ld {v:V} {xs:List V} {i:Nat} (a:Hw h v xs) (hi:i<xs.length):L1 P (I4 v) (lg v) (EH v+i) (EW v) h N=N.go P (xs.getD i .u) h:=Ai fun k=>GA a (by simp[hi]) k
theorem Il.ld {v:V} {xs:List Int} {i:Nat} (a:Il h v xs) (hi:i<xs.length):L1 P (I4 v) (lg v) (EH v+i) (EW v) h N=N.go P (.i .i64 (xs.getD i 0)) h:=Ai fun k=>a.rd hi k
theorem Bl.ld {v:V} {xs:List Bool} {i:Nat} (a:Bl h v xs) (hi:i<xs.length):L1 P (I4 v) (lg v) (EH v+i) (EW v) h N=N.go P (.b (xs.getD i false)) h:=Ai fun k=>a.rd hi k
/--a slice of texts -/
def Tl (h:H) (v:V) (xs:List (List UInt8)):Prop:=Hw h v (xs.map sv)
theorem Tl.grow {h h':H} {v:V} {xs:List (List UInt8)} (a:Tl h v xs) (s:AZ AM h h'):Tl h' v xs:=Hw.grow a s
theorem Tl.ld {v:V} {xs:List (List UInt8)} {i:Nat} (a:Tl h v xs) (hi:i<xs.length):L1 P (I4 v) (lg v) (EH v+i) (EW v) h N=N.go P (sv (xs.getD i [])) h:=Ai fun k=>GA a (by simp[hi]) k
theorem Hw.bs {v:V} {l:List UInt8} (a:Hw h v (l.map bv)) (hne:l≠[]):BS P v h N=N.go P (sv l) h:=Ai fun k=>V9 a hne k
end
def Oi (ks:List KD) (ne:Bool) (x y:V) (k:V->Bool):Bool:=vA x fun xs=>vA y fun ys=>NJ ks xs ys fun r=>k (.b (xor ne r))
section
variable {P:Program} {t:F} {h:H} {N:Nx} {ks:List KD} {ne:Bool} {kd:IntKind}
theorem df {x y:O}:OR P (IL ks ne x y) t h N=H2 P (Oi ks ne) (oV x t) (oV y t) h N:=Bh fun cf k=>by simp only[IL,AN,CX];rfl
theorem L6 {a b:List UInt8} {xs ys:List V} {k:Bool->Bool}:NJ (.s::ks) (sv a::xs) (sv b::ys) k=if a=b then NJ ks xs ys k else k false:=by
 show A5 (Fw a.length (pk a) b.length (pk b)) (fun _=>(fun r=>A5 r (fun _=>NJ ks xs ys k) (fun _=>k false)) true) (fun _=>(fun r=>A5 r (fun _=>NJ ks xs ys k) (fun _=>k false)) false)=_
 rw[IB]
 by_cases e:a=b
 ·rw[if_pos e,decide_eq_true e];rfl
 ·rw[if_neg e,decide_eq_false e];rfl
theorem re {a b:Int} {xs ys:List V} {k:Bool->Bool}:NJ (.i::ks) (.i kd a::xs) (.i kd b::ys) k=if a=b then NJ ks xs ys k else k false:=by
 show Ap (CU kd kd) (fun _=>A5 (KC a b) (fun _=>(fun r=>A5 r (fun _=>NJ ks xs ys k) (fun _=>k false)) true) (fun _=>(fun r=>A5 r (fun _=>NJ ks xs ys k) (fun _=>k false)) false))=_
 rw[BR,AF,Ee]
 by_cases e:a=b
 ·rw[if_pos e,show(a==b)=true by simpa using e];rfl
 ·rw[if_neg e,show(a==b)=false by simpa using e];rfl
theorem YJ {a b:Bool} {xs ys:List V} {k:Bool->Bool}:NJ (.b::ks) (.b a::xs) (.b b::ys) k=if a=b then NJ ks xs ys k else k false:=by
 cases a<;>cases b<;>rfl
theorem TY {xs ys:List V} {k:Bool->Bool}:NJ [] xs ys k=k true:=rfl
/--an entry -/
theorem ru {a b v w:List UInt8} {n m:Int} {d e:Bool}:H2 P (Oi [.s,.i,.b,.s] ne) (.a [sv a,.i kd n,.b d,sv v]) (.a [sv b,.i kd m,.b e,sv w]) h N=N.go P (.b (xor ne (decide (a=b/\n=m/\d=e/\v=w)))) h:=Ai fun k=>by
 unfold Oi;rw[LW,LW]
 rw[L6,re,YJ,L6,TY]
 by_cases h1:a=b<;>by_cases h2:n=m<;>by_cases h3:d=e<;>by_cases h4:v=w<;>simp[h1,h2,h3,h4]
/--a write -/
theorem oT {a b v w:List UInt8} {d e:Bool}:H2 P (Oi [.s,.b,.s] ne) (.a [sv a,.b d,sv v]) (.a [sv b,.b e,sv w]) h N=N.go P (.b (xor ne (decide (a=b/\d=e/\v=w)))) h:=Ai fun k=>by
 unfold Oi;rw[LW,LW]
 rw[L6,YJ,L6,TY]
 by_cases h1:a=b<;>by_cases h3:d=e<;>by_cases h4:v=w<;>simp[h1,h3,h4]
/--a pair -/
theorem jg {a b v w:List UInt8}:H2 P (Oi [.s,.s] ne) (.a [sv a,sv v]) (.a [sv b,sv w]) h N=N.go P (.b (xor ne (decide (a=b/\v=w)))) h:=Ai fun k=>by
 unfold Oi;rw[LW,LW]
 rw[L6,L6,TY]
 by_cases h1:a=b<;>by_cases h4:v=w<;>simp[h1,h4]
end
/--what comes with another memory -/
def HM (P:Program) (g:(V->H->Bool)->Bool) (N:Nx):Prop:=∃ v h',(∀ k,g k=k v h')/\N.go P v h'
theorem Gk {P:Program} {r:CW} {t:F} {h:H} {N:Nx} {g:(V->H->Bool)->Bool} (e:∀ cf k,r cf t h k=g k):OR P r t h N=HM P g N:=
 propext ⟨fun⟨v,h',⟨cf,_,c2⟩,k⟩=>⟨v,h',fun k=>(e cf k).symm.trans (c2 k),k⟩,fun⟨v,h',c,k⟩=>⟨v,h',⟨_,K0 P,fun k=>(e _ k).trans (c k)⟩,k⟩⟩
theorem Dc {P:Program} {g:(V->H->Bool)->Bool} {N:Nx} {v:V} {h':H} (e:∀ k,g k=k v h') (k:N.go P v h'):HM P g N:=⟨v,h',e,k⟩
/--a new block of these cells;'mk' of its name is what comes -/
def AL (P:Program) (el:Nat) (cs:List V) (mk:B->V) (h:H) (N:Nx):Prop:=HM P (fun k=>alloc el cs h fun id h'=>k (mk id) h') N
theorem AL.own {P:Program} {el:Nat} {cs:List V} {mk:B->V} {h:H} {N:Nx} (hl:cs.length<2 ^ 37) (hf:B.val h.floor<=B.val h.next)
 (k:∀ h',AZ AM h h'->B.val h'.next=B.val h.next+1->Own h' h.next cs->N.go P (mk h.next) h'):AL P el cs mk h N:=by
 obtain⟨h',a1,a2,a3,a4⟩:=JM el cs h hl hf
 exact Dc (fun k=>a1 _) (k h' a2 a4 a3)
theorem AL.Vy {P:Program} {el:Nat} {cs:List V} {mk:B->V} {h:H} {N:Nx} (hl:cs.length<2 ^ 37) (hf:B.val h.floor<=B.val h.next)
 (k:∀ h',AZ AM h h'->B.val h'.next=B.val h.next+1->FZ h' h.next el cs->N.go P (mk h.next) h'):AL P el cs mk h N:=by
 obtain⟨h',a1,a2,a3,Af,b1,b2,b3,b4,b5,b6,b7⟩:=Dk el cs h (by omega)
 exact Dc (fun k=>a1 _) (k h' a2 a3 ⟨Af,b1,b3,b2,b6,b5,by rw[a2.floor];exact hf,by omega,b7⟩)
/--a list of cells,filled:then 'f' of them -/
def FL (P:Program) (ps:List Pt) (t:F) (cs:List V) (el:Option (Nat×Nat)) (h:H) (N:Nx):Prop:=match el with
 |none=>HM P (fun k=>Ej ps t cs fun ds=>k (.a ds) h) N
 |some (el,len)=>HM P (fun k=>Ej ps t cs fun ds=>alloc el ds h fun id h'=>k (.l id 0 0 len ds.length (some len)) h') N
def FP (P:Program) (off size:Nat) (v:V) (ps:List Pt) (t:F) (cs:List V) (el:Option (Nat×Nat)) (h:H) (N:Nx):Prop:=match el with
 |none=>HM P (fun k=>Gl off size (Ej ps) t cs (fun ds=>k (.a ds) h) v) N
 |some (el,len)=>HM P (fun k=>Gl off size (Ej ps) t cs (fun ds=>alloc el ds h fun id h'=>k (.l id 0 0 len ds.length (some len)) h') v) N
/--a block of one value -/
def BX (P:Program) (el:Nat) (v:V) (h:H) (N:Nx):Prop:=HM P (fun k=>Ap (FE v) fun _=>alloc el (cells v) h fun id h=>k (.p id 0 0 (cells v).length) h) N
def ST (P:Program) (size:Nat) (p x:V) (h:H) (N:Nx):Prop:=HM P (fun k=>vP p fun id g off fin=>Ap (Nat.beq (cells x).length size) fun _=>store h id g off fin (cells x) fun h=>k (.tu []) h) N
def MS (P:Program) (el:Nat) (z:List V) (l c:V) (h:H) (N:Nx):Prop:=HM P (fun k=>vI l fun _ l=>A6 l fun l=>vI c fun _ c=>A6 c fun c=>Ap (Nat.ble l c) fun _=>Ap (Nat.ble c 1048576) fun _=>alloc el (GG z c) h fun id h=>k (.l id 0 0 l (Nat.mul c z.length) (some c)) h) N
def AP (P:Program) (el size:Nat) (s x:V) (h:H) (N:Nx):Prop:=HM P (fun k=>DL size x h fun n vs=>Cc el size s n vs h k) N
def AS (P:Program) (el:Nat) (s x:V) (h:H) (N:Nx):Prop:=HM P (fun k=>E6 x fun n vs=>Cc el 1 s n vs h k) N
def CP (P:Program) (size:Nat) (x y:V) (h:H) (N:Nx):Prop:=HM P (fun k=>vL x (fun _=>QP y (k (.i .i64 (.ofNat 0)) h)) fun id g off len fin _=>Kt size y h k id g off len fin) N
def SB (P:Program) (el:Nat) (x:V) (h:H) (N:Nx):Prop:=HM P (fun k=>vS x fun l n=>Ap (Nat.ble l 1048576) fun _=>K1 l n [] fun vs=>alloc el vs h fun id h=>Kl h id fun h=>k (.l id 0 0 l l (IG l)) h) N
section
variable {P:Program} {t:F} {h:H} {N:Nx} {o x y l c s:O} {el len size:Nat} {z:List V} {ps:List Pt}
theorem VV:OR P (BN el z) t h N=AL P el z (fun id=>.p id 0 0 z.length) h N:=Gk fun cf k=>rfl
theorem cD:OR P (Cn el o) t h N=BX P el (oV o t) h N:=Gk fun cf k=>by simp only[Cn,Au]
theorem LR:OR P (A9 el len z ps) t h N=FL P ps t z (some (el,len)) h N:=Gk fun cf k=>rfl
theorem Uh:OR P (B1 z ps) t h N=FL P ps t z none h N:=Gk fun cf k=>rfl
theorem UZ:OR P (Aq size o x) t h N=ST P size (oV o t) (oV x t) h N:=Gk fun cf k=>by simp only[Aq,AN,Au]
theorem Me:OR P (Dp el z l c) t h N=MS P el z (oV l t) (oV c t) h N:=Gk fun cf k=>by
 have no:∀ u:V,(vI u fun _ n=>A6 n fun _=>false)=false:=tU
 simp only[Dp,AN]
theorem or_append:OR P (CE el size s x) t h N=AP P el size (oV s t) (oV x t) h N:=Gk fun cf k=>by simp only[CE,Au]
theorem O9:OR P (E4 el s x) t h N=AS P el (oV s t) (oV x t) h N:=Gk fun cf k=>by simp only[E4,Au]
/--the whole of a text,copied into bytes -/
def wA (P:Program) (x y:V) (h:H) (N:Nx):Prop:=HM P (fun k=>vL x (fun _=>false) fun id g off len fin _=>JG len (fun _=>false) fun _=>HP y h k id g off len fin) N
theorem Td {P:Program} {x y:O} {t:F} {h:H} {N:Nx}:OR P (Iy x y) t h N=wA P (oV x t) (oV y t) h N:=Gk fun cf k=>by simp only[Iy,Au]
theorem XG:OR P (E8 size x y) t h N=CP P size (oV x t) (oV y t) h N:=Gk fun cf k=>by simp only[E8,Au]
theorem Y0:OR P (Hq el x) t h N=SB P el (oV x t) h N:=Gk fun cf k=>by simp only[Hq,AN]
theorem uO:FL P [] t z none h N=N.go P (.a z) h:=propext ⟨fun⟨v,h',e,k⟩=>by obtain⟨rfl,rfl⟩:=To e;exact k,fun k=>⟨_,_,fun _=>rfl,k⟩⟩
theorem ud:FL P [] t z (some (el,len)) h N=AL P el z (fun id=>.l id 0 0 len z.length (some len)) h N:=rfl
theorem uI {e:Option (Nat×Nat)} {off size:Nat}:FL P (Pt.mk off size o::ps) t z e h N=FP P off size (oV o t) ps t z e h N:=by
 have e0:∀ k,Ej (⟨off,size,o⟩::ps) t z k=Gl off size (Ej ps) t z k (oV o t):=fun k=>by show oK o t _=_;rw[Au];rfl
 unfold FL FP
 simp only[e0]
theorem YA {e:Option (Nat×Nat)} {off size:Nat} {v:V} {cs:List V} (hk:FE v=true) (hc:cells v=cs) (hs:cs.length=size) (hb:off+size<=z.length):FP P off size v ps t z e h N=FL P ps t (z.take off++(cs++z.drop (off+size))) e h N:=by
 have e0:∀ k,Gl off size (Ej ps) t z k v=Ej ps t (z.take off++(cs++z.drop (off+size))) k:=fun k=>by
  have h1:Nat.beq (cells v).length size=true:=by rw[hc,hs];exact Nat.beq_refl _
  have h2:Nat.ble (Nat.add off size) z.length=true:=by rw[Nat.ble_eq];exact hb
  unfold Gl
  rw[hk,AF,h1,AF,h2,AF,hc]
  unfold putAt
  rw[EI,EI,hs]
 unfold FP FL
 simp only[e0]
section
variable {e:Option (Nat×Nat)} {off:Nat}
def XK (P:Program) (off size:Nat) (v:V) (ps:List Pt) (t:F) (cs:List V) (el:Option (Nat×Nat)) (h:H) (N:Nx):Prop:=FP P off size v ps t cs el h N
theorem Lp {size:Nat} {v:V} {cs:List V} (hk:FE v=true) (hc:cells v=cs) (hs:cs.length=size):FP P off size v ps t z e h N=if off+size<=z.length then FL P ps t (z.take off++(cs++z.drop (off+size))) e h N else XK P off size v ps t z e h N:=by
 split
 ·rename_i hb;exact YA hk hc hs hb
 ·rfl
theorem uy {kd:IntKind} {a:Int}:FP P off 1 (.i kd a) ps t z e h N=if off+1<=z.length then FL P ps t (z.take off++(.i kd a::z.drop (off+1))) e h N else XK P off 1 (.i kd a) ps t z e h N:=Lp (cs:=[.i kd a]) rfl rfl rfl
theorem uH {q:Bool}:FP P off 1 (.b q) ps t z e h N=if off+1<=z.length then FL P ps t (z.take off++(.b q::z.drop (off+1))) e h N else XK P off 1 (.b q) ps t z e h N:=Lp (cs:=[.b q]) rfl rfl rfl
theorem po {s:List UInt8}:FP P off 1 (sv s) ps t z e h N=if off+1<=z.length then FL P ps t (z.take off++(sv s::z.drop (off+1))) e h N else XK P off 1 (sv s) ps t z e h N:=Lp (cs:=[sv s]) rfl rfl rfl
theorem ue {id:B} {g o fin:Nat}:FP P off 1 (.p id g o fin) ps t z e h N=if off+1<=z.length then FL P ps t (z.take off++(.p id g o fin::z.drop (off+1))) e h N else XK P off 1 (.p id g o fin) ps t z e h N:=Lp (cs:=[.p id g o fin]) rfl rfl rfl
theorem lC {id:B} {g o len fin:Nat} {cap:Option Nat}:FP P off 1 (.l id g o len fin cap) ps t z e h N=if off+1<=z.length then FL P ps t (z.take off++(.l id g o len fin cap::z.drop (off+1))) e h N else XK P off 1 (.l id g o len fin cap) ps t z e h N:=Lp (cs:=[.l id g o len fin cap]) rfl rfl rfl
theorem Xx:FP P off 1 .l0 ps t z e h N=if off+1<=z.length then FL P ps t (z.take off++(.l0::z.drop (off+1))) e h N else XK P off 1 .l0 ps t z e h N:=Lp (cs:=[.l0]) rfl rfl rfl
theorem vh {size:Nat} {cs:List V}:FP P off size (.a cs) ps t z e h N=if cs.length=size/\off+size<=z.length then FL P ps t (z.take off++(cs++z.drop (off+size))) e h N else XK P off size (.a cs) ps t z e h N:=by
 split
 ·rename_i hb;exact YA rfl rfl hb.1 hb.2
 ·rfl
end
theorem vD {kd:IntKind} {a:Int}:BX P el (.i kd a) h N=AL P el [.i kd a] (fun id=>.p id 0 0 1) h N:=rfl
theorem u9 {q:Bool}:BX P el (.b q) h N=AL P el [.b q] (fun id=>.p id 0 0 1) h N:=rfl
theorem sT {s:List UInt8}:BX P el (sv s) h N=AL P el [sv s] (fun id=>.p id 0 0 1) h N:=rfl
theorem va {cs:List V}:BX P el (.a cs) h N=AL P el cs (fun id=>.p id 0 0 cs.length) h N:=rfl
theorem vN {id:B} {g o fin:Nat}:BX P el (.p id g o fin) h N=AL P el [.p id g o fin] (fun id=>.p id 0 0 1) h N:=rfl
theorem tq {id:B} {g o len fin:Nat} {cap:Option Nat}:BX P el (.l id g o len fin cap) h N=AL P el [.l id g o len fin cap] (fun id=>.p id 0 0 1) h N:=rfl
theorem jB:BX P el .l0 h N=AL P el [.l0] (fun id=>.p id 0 0 1) h N:=rfl
theorem vJ {kd kd':IntKind} {a b:Int} (h1:0<=a) (h2:a<=b) (h3:b<=1048576):MS P el z (.i kd a) (.i kd' b) h N=AL P el (GG z b.toNat) (fun id=>.l id 0 0 a.toNat (b.toNat*z.length) (some b.toNat)) h N:=by
 have e1:Nat.ble a.toNat b.toNat=true:=by rw[Nat.ble_eq];omega
 have e2:Nat.ble b.toNat 1048576=true:=by rw[Nat.ble_eq];omega
 have e:∀ k:V->H->Bool,(vI (.i kd a) fun _ l=>A6 l fun l=>vI (.i kd' b) fun _ c=>A6 c fun c=>Ap (Nat.ble l c) fun _=>Ap (Nat.ble c 1048576) fun _=>alloc el (GG z c) h fun id h=>k (.l id 0 0 l (Nat.mul c z.length) (some c)) h)=
  alloc el (GG z b.toNat) h fun id h=>k (.l id 0 0 a.toNat (b.toNat*z.length) (some b.toNat)) h:=fun k=>by
  simp only[Ct,C2 h1,C2 (Int.le_trans h1 h2),e1,e2,AF];rfl
 unfold MS AL
 simp only[e]
end
section
variable {P:Program} {h:H} {N:Nx} {id:B} {xs:List V} {j fin:Nat} {x y:V}
/--at one place written -/
theorem ST.own (o:Own h id xs) (hc:cells x=[y]) (h1:ES y=true) (hj:j<fin) (hfit:j<2 ^ 37) (k:∀ h',Own h' id (xs.set j y)->AZ (fun i=>i=id) h h'->N.go P (.tu []) h'):ST P 1 (.p id 0 j fin) x h N:=by
 obtain⟨h',a1,a2,a3⟩:=JN o hj hfit h1
 refine Dc (v:=.tu []) (h':=h') (fun k=>?_) (k h' a2 a3)
 show Ap (Nat.beq (cells x).length 1) (fun _=>store h id 0 j fin (cells x) fun h=>k (.tu []) h)=_
 rw[hc]
 show store h id 0 j fin [y] (fun h=>k (.tu []) h)=_
 rw[a1]
theorem ST.buf {el:Nat} {v:V} (b:EY h el 1 v xs) (tp:Og h v) (hc:cells x=[y]) (h1:ES y=true) (hj:j<xs.length) (hfit:j<2 ^ 37) (k:∀ h',EY h' el 1 v (xs.set j y)->Og h' v->AZ (BT v) h h'->N.go P (.tu []) h'):ST P 1 (.p (I4 v) (lg v) (EH v+j) (EW v)) x h N:=by
 obtain⟨h',a1,a2,a3,a4⟩:=RG b tp hj hfit h1
 refine Dc (v:=.tu []) (h':=h') (fun k=>?_) (k h' a2 a3 a4)
 show Ap (Nat.beq (cells x).length 1) (fun _=>store h _ _ _ _ (cells x) fun h=>k (.tu []) h)=_
 rw[hc]
 show store h _ _ _ _ [y] (fun h=>k (.tu []) h)=_
 rw[a1]
end
section
variable {P:Program} {t:F} {h:H} {K:F->H->Prop} {l:List CO} {N:Nx} {el n m lo:Nat} {s:O} {v y:V} {xs:List V} {id:B}
theorem AP.buf {size cnt:Nat} {x:V} {vs:List V} (b:EY h el size v xs) (hx:∀ k:Nat->List V->Bool,DL size x h k=k cnt vs) (hf:B.val h.floor<=B.val h.next) (hsz:1<=size) (hn:vs.length=cnt*size) (h1:CB vs=true) (hb:xs.length+vs.length<=1048576)
 (k:∀ v' h',EY h' el size v' (xs++vs)->AZ (BT v) h h'->(∀ i,BT v' i->BT v i\/B.val h.next<=B.val i)->Og h' v'->N.go P v' h'):AP P el size v x h N:=by
 obtain⟨v',h',a1,a2,a3,a4,a5⟩:=Ks b hf hsz hn h1 hb
 exact Dc (v:=v') (h':=h') (fun k=>by rw[hx,a1]) (k v' h' a2 a3 a4 a5)
theorem QJ {size:Nat} {fin cnt:Nat} {cap:Option Nat} {vs:List V} (r:Row h id 0 0 vs) (hn:vs.length=cnt*size) (hc:1<=cnt) (hs:1<=size) (hfin:vs.length<=fin) (k:Nat->List V->Bool):DL size (.l id 0 0 cnt fin cap) h k=k cnt vs:=by
 obtain⟨c,rfl⟩:∃ c,cnt=c+1:=⟨cnt-1,by omega⟩
 have hne:vs≠[]:=by
  intro e;subst e
  have:=Nat.mul_le_mul hc hs
  simp at hn;omega
 show Bz h id 0 0 fin (Nat.mul (c+1) size) (fun vs=>k (c+1) vs)=_
 rw[show Nat.mul (c+1) size=vs.length by rw[hn];rfl,Cw r rfl hne (by omega)]
/--append(v,y):its literal,and it -/
theorem AL.push {b:Bool} (a:Vb h lo el v xs) (e3:∀ u,oV s (put m u t)=v) (hc:cells y=[y]) (h1:ES y=true) (hf:B.val h.floor<=B.val h.next) (hlo:lo<=B.val h.next) (hl:xs.length+1<=1048576)
 (k:∀ v' h' u,Vb h' lo el v' (xs++[y])->AZ (BT v) h h'->(∀ i,BT v' i->BT v i\/B.val h.next<=B.val i)->Og h' v'->WO P l (put n v' (put m u t)) h' K):
 AL P el [y] (fun id=>.l id 0 0 1 [y].length (some 1)) h (.w m (.mk .none (.some (AV n)) b (.mk (CE el 1 s (.t (AV m))))::l) t K):=by
 refine AL.own (by show 1<2 ^ 37;decide) hf fun h1' s1 n1 o1=>?_
 rw[P2,aG,or_append,e3,TV,AB,if_pos rfl]
 refine AP.buf (vs:=[y]) (cnt:=1) (a.buf.grow s1) (QJ o1.row rfl (Nat.le_refl _) (Nat.le_refl _) (Nat.le_refl _)) (s1.fl hf) (Nat.le_refl _) rfl (by show Bool.rec false true (ES y)=true;rw[h1]) (by show xs.length+1<=_;exact hl) fun v' h' b1 s2 hv tp=>?_
 refine k v' h' _ ⟨b1,fun i hi=>?_⟩ ⟨s2.floor.trans s1.floor,Nat.le_trans s1.next s2.next,fun id' h1' h2=>(s2.get id' (Nat.lt_of_lt_of_le h1' s1.next) h2).trans (s1.get id' h1' fun h=>h)⟩ (fun i hi=>?_) tp
 ·rcases hv i hi with h2|h2
  ·exact a.own i h2
  ·have:=s1.next;omega
 ·rcases hv i hi with h2|h2
  ·exact .inl h2
  ·exact .inr (Nat.le_trans s1.next h2)
/--string([]byte{..}) -/
theorem AL.str {b:Bool} {cs:List V} {bs:List UInt8} {len fin:Nat} {cap:Option Nat} (hc:cs=bs.map bv) (hne:bs≠[]) (e1:len=bs.length) (e2:fin=bs.length) (hl:bs.length<=1048576) (hf:B.val h.floor<=B.val h.next)
 (k:∀ h' u,AZ AM h h'->WO P l (put n (sv bs) (put m u t)) h' K):AL P el cs (fun id=>.l id 0 0 len fin cap) h (.w m (.mk .none (.some (AV n)) b (.mk (Dl (.t (AV m))))::l) t K):=by
 subst hc;subst e1;subst e2
 refine AL.own (by rw[List.length_map];omega) hf fun h1' s1 n1 o1=>?_
 have hL:=o1.tY cap
 rw[List.length_map]at hL
 rw[P2,aG,PF,TV,AB,if_pos rfl,hL.bs hne]
 exact k _ _ s1
theorem nk {a:Int} (h0:0<=a) (h1:a<=255):V.i .u8 a=bv (UInt8.ofNat a.toNat):=by
 obtain⟨x,rfl⟩:=Int.eq_ofNat_of_zero_le h0
 rw[Int.toNat_natCast,<-Ie,Nat.mod_eq_of_lt (by omega)]
/--[]byte(text) -/
theorem SB.mk {c:List UInt8} (hf:B.val h.floor<=B.val h.next) (hl:c.length<=1048576)
 (k:∀ h',AZ AM h h'->B.val h'.next=B.val h.next+1->Hw h' (.l h.next 0 0 c.length c.length (IG c.length)) (c.map bv)->N.go P (.l h.next 0 0 c.length c.length (IG c.length)) h'):SB P el (sv c) h N:=by
 obtain⟨h',a1,a2,a3,a4,a5,a6⟩:=QW el hf hl
 have:=fun k=>a1 (.c (sv c)) F.zero (fun _ _ _ _=>false) k rfl
 refine Dc (v:=.l h.next 0 0 c.length c.length (IG c.length)) (h':=h') (fun k=>?_) (k h' a2 a3 a5)
 have e:=this k
 simp only[Hq,AN]at e
 exact e
end
section
variable {P:Program} {t:F} {h:H} {N:Nx} {x a:O} {id:B} {n K size:Nat} {kd:IntKind} {z:Int}
theorem W5:OR P (Cf size x (some a) none) t h N=H2 P (G6 size) (oV x t) (oV a t) h N:=Bh fun cf k=>V6 ..
theorem W3:OR P (Cf size x none (some a)) t h N=H2 P (GK size) (oV x t) (oV a t) h N:=Bh fun cf k=>Wf ..
def Jh (size:Nat) (v w z:V) (k:V->Bool):Bool:=vL v (fun _=>vI w fun _ n=>A6 n fun a=>vI z fun _ m=>A6 m fun b=>Ap (Nat.beq a 0) fun _=>Ap (Nat.beq b 0) fun _=>k .l0) fun id g off len fin cap=>vI w fun _ n=>A6 n fun a=>vI z fun _ m=>A6 m fun b=>Ap (Nat.ble a b) fun _=>
 Option.rec (fun id g off len fin a b k=>Dx size id g off len fin a b fun v=>k v) (fun c id g off len fin a b k=>A5 (BY c) (fun _=>Ap (Nat.beq b 0) fun _=>k (.l id g off 0 off (some c))) (fun _=>Bd size id g off len fin c a b fun v=>k v)) cap id g off len fin a b k
theorem XB {cf:Bo} {k:V->H->Bool} (size:Nat) (b:O):Cf size x (some a) (some b) cf t h k=Jh size (oV x t) (oV a t) (oV b t) fun v=>k v h:=by
 unfold Jh
 simp only[Cf,AN,Bc]
 congr 1
 funext id g off len fin cap
 congr 1;funext _ n;congr 1;funext a;congr 1;funext _ m;congr 1;funext b;congr 1;funext _
 cases cap with
 |none=>rfl
 |some c=>
  show A5 (BY c) _ _=A5 (BY c) _ _
  cases BY c<;>rfl
theorem Xe (b:O):OR P (Cf size x (some a) (some b)) t h N=H3 P (Jh size) (oV x t) (oV a t) (oV b t) h N:=Bh fun cf k=>XB ..
theorem N1 {g off fin:Nat} (hK:n<18446744073709551616) (h0:0<=z) (hn:z<n):H2 P (Lw n size) (.p id g off fin) (.i kd z) h N=N.go P (.l id g (off+z.toNat*size) (n-z.toNat) fin (some (n-z.toNat))) h:=Ai fun k=>by
 show A6 z (fun p=>Ap (Nat.ble p n) fun _=>Bd size id g off n fin n p n k)=_
 rw[C2 h0,mb (by omega),D7 hK (Nat.le_refl _) (by omega)]
theorem Wn (hKM:K<18446744073709551616) (h0:0<=z) (hn:z<=K):H2 P (G6 1) (.l id 0 0 K K (some K)) (.i kd z) h N=N.go P (VO id K z.toNat) h:=Ai fun k=>by
 obtain⟨n,rfl⟩:=Int.eq_ofNat_of_zero_le h0
 exact Sx hKM (by omega) k
theorem XO (hKM:K<18446744073709551616) (h0:0<=z) (hn:z<=K) (hK:0<K):H2 P (GK 1) (.l id 0 0 K K (some K)) (.i kd z) h N=N.go P (.l id 0 0 z.toNat K (some K)) h:=Ai fun k=>by
 obtain⟨n,rfl⟩:=Int.eq_ofNat_of_zero_le h0
 exact TA hKM (by omega) hK k
end
def CL (P:Program) (f:FuncId) (vs:List V) (h:H) (N:Nx):Prop:=∃ Q,BZ P f vs h Q/\∀ v h',Q v h'->N.go P v h'
theorem CL.mk {P:Program} {f:FuncId} {vs:List V} {h:H} {N:Nx} {Q:V->H->Prop} (a:BZ P f vs h Q) (k:∀ v h',Q v h'->N.go P v h'):CL P f vs h N:=⟨Q,a,k⟩
/--.. that leaves memory alone -/
theorem CL.pure {P:Program} {f:FuncId} {vs:List V} {h:H} {N:Nx} {e:V} (a:BZ P f vs h fun y h'=>y=e/\h'=h) (k:N.go P e h):CL P f vs h N:=⟨_,a,fun v h' hq=>by rw[hq.1,hq.2];exact k⟩
/--.. that makes blocks of its own alone -/
theorem CL.stay {P:Program} {f:FuncId} {vs:List V} {h:H} {N:Nx} {e:V} (a:BZ P f vs h fun y h'=>y=e/\AZ AM h h') (k:∀ h',AZ AM h h'->N.go P e h'):CL P f vs h N:=⟨_,a,fun v h' hq=>by rw[hq.1];exact k h' hq.2⟩
theorem Wl {P:Program} {t:F} {h:H} {N:Nx} {f:FuncId} {args:List O}:OR P (AW f args) t h N=CL P f (args.map fun o=>oV o t) h N:=by
 apply propext;constructor
 ·rintro⟨v,h',⟨cf,c1,c2⟩,k⟩
  have c3:∀ k,cf f (args.map fun o=>oV o t) h k=k v h':=fun k=>by rw[<-c2 k];show _=Co args t (fun vs=>cf f vs h k);rw[EJ]
  obtain⟨v',h'',e,r1,r2,r3⟩:=c1 f _ h (fun _ _=>true) (c3 _)
  obtain⟨rfl,rfl⟩:=To fun k=>(c3 k).symm.trans (e k)
  refine⟨fun v h=>v=v'/\h=h'',⟨v',h'',⟨r1,r2,r3⟩,rfl,rfl⟩,?_⟩
  rintro _ _ ⟨rfl,rfl⟩
  exact k
 ·rintro⟨Q,a,k⟩
  obtain⟨v,h',c1,c2⟩:=IS (S:=fun _ _ _ v h'=>Q v h') a
  exact⟨v,h',⟨_,Kp P _,fun k=>by show Co args t _=_;rw[EJ,c1]⟩,k v h' c2⟩
theorem fQ {P:Program} {t:F} {h:H} {N:Nx} {f:FuncId} {cap:List O}:OR P (YD f cap) t h N=N.go P (.f f (cap.map fun o=>oV o t)) h:=(Bh (g:=fun k=>k (.f f (cap.map fun o=>oV o t))) fun cf k=>by show Co cap t _=_;rw[EJ]).trans (Ai fun _=>rfl)
/--a call of a function value -/
def wR (P:Program) (x:V) (vs:List V) (h:H) (N:Nx):Prop:=∃ f cs,x=.f f cs/\CL P f (vs++cs) h N
theorem aD {P:Program} {f:FuncId} {cs vs:List V} {h:H} {N:Nx}:wR P (.f f cs) vs h N=CL P f (vs++cs) h N:=propext ⟨fun⟨_,_,e,a⟩=>by cases e;exact a,fun a=>⟨_,_,rfl,a⟩⟩
theorem Tg {P:Program} {t:F} {h:H} {N:Nx} {x:O} {args:List O}:OR P (Fm x args) t h N=wR P (oV x t) (args.map fun o=>oV o t) h N:=by
 have key:∀ f cs,oV x t=.f f cs->OR P (Fm x args) t h N=CL P f ((args.map fun o=>oV o t)++cs) h N:=fun f cs hx=>by
  have e:∀ cf k,Fm x args cf t h k=cf f ((args.map fun o=>oV o t)++cs) h k:=fun cf k=>by show oE x t _=_;rw[AN];show Co args t _=_;rw[EJ,hx,sS,Jv]
  apply propext;constructor
  ·rintro⟨v,h',⟨cf,c1,c2⟩,k⟩
   have c3:∀ k,cf f ((args.map fun o=>oV o t)++cs) h k=k v h':=fun k=>(e cf k).symm.trans (c2 k)
   obtain⟨v',h'',e,r1,r2,r3⟩:=c1 f _ h (fun _ _=>true) (c3 _)
   obtain⟨rfl,rfl⟩:=To fun k=>(c3 k).symm.trans (e k)
   refine⟨fun v h=>v=v'/\h=h'',⟨v',h'',⟨r1,r2,r3⟩,rfl,rfl⟩,?_⟩
   rintro _ _ ⟨rfl,rfl⟩
   exact k
  ·rintro⟨Q,a,k⟩
   obtain⟨v,h',c1,c2⟩:=IS (S:=fun _ _ _ v h'=>Q v h') a
   exact⟨v,h',⟨_,Kp P _,fun k=>(e _ k).trans (c1 k)⟩,k v h' c2⟩
 apply propext;constructor
 ·intro a
  have a':=a
  obtain⟨v,h',⟨cf,c1,c2⟩,k⟩:=a'
  have:=c2 fun _ _=>true
  have h2:(oE x t fun y=>Co args t fun vs=>vF y fun f cs=>cf f (app vs cs) h fun _ _=>true)=true:=this
  rw[AN]at h2
  have h2:(Co args t fun vs=>vF (oV x t) fun f cs=>cf f (app vs cs) h fun _ _=>true)=true:=h2
  rw[EJ]at h2
  obtain⟨f,cs,hx,_⟩:=YM h2
  exact⟨f,cs,hx,by rw[<-key f cs hx];exact a⟩
 ·rintro⟨f,cs,hx,a⟩
  rw[key f cs hx];exact a
def CD (v:V) (A B:Prop):Prop:=∃ q,v=.b q/\(q=true->A)/\(q=false->B)
theorem Ok.cd {P:Program} {nt:Nat} {o:O} {a b:CC} {t:F} {h:H} {K:X->F->H->Prop} (c:CD (oV o t) (Ok P nt a t h K) (Ok P nt b t h K)):Ok P nt (.cond o a b) t h K:=by
 obtain⟨q,hq,ha,hb⟩:=c
 exact Ok.cond hq ha hb
theorem vV {A B:Prop}:CD (.b true) A B=A:=propext ⟨fun⟨q,hq,ha,_⟩=>by cases hq;exact ha rfl,fun a=>⟨true,rfl,fun _=>a,fun h=>by cases h⟩⟩
theorem uV {A B:Prop}:CD (.b false) A B=B:=propext ⟨fun⟨q,hq,_,hb⟩=>by cases hq;exact hb rfl,fun b=>⟨false,rfl,fun h=>(by cases h),fun _=>b⟩⟩
theorem AD {q:Bool} {A B:Prop} (a:q=true->A) (b:q=false->B):CD (.b q) A B:=⟨q,rfl,a,b⟩
/--behind the first part:b,then K -/
def Sq (P:Program) (nt:Nat) (b:CC) (K:X->F->H->Prop):X->F->H->Prop
 |.normal,t,h=>Ok P nt b t h K
 |x,t,h=>K x t h
/--the next round -/
def vz (Inv:Nat->F->H->Prop) (m:Nat) (t:F) (h:H):Prop:=∃ m',m'<m/\Inv m' t h
def tW (Inv:Nat->F->H->Prop) (m:Nat) (K:X->F->H->Prop):X->F->H->Prop
 |.normal,t,h=>vz Inv m t h
 |x,t,h=>K x t h
section
variable {P:Program} {nt:Nat} {a b:CC} {t:F} {h:H} {K:X->F->H->Prop} {Inv:Nat->F->H->Prop} {m j id:Nat}
theorem Ok.sq (k:Ok P nt a t h (Sq P nt b K)):Ok P nt (.seq a b) t h K:=Ok.seq (k.mono fun x t h=>by cases x<;>exact fun h=>h)
theorem vk:Sq P nt b K .normal t h=Ok P nt b t h K:=rfl
theorem tf:Sq P nt b K (.exit j) t h=K (.exit j) t h:=rfl
theorem vr:Sq P nt b K .ret t h=K .ret t h:=rfl
theorem vt:tW Inv m K .normal t h=vz Inv m t h:=rfl
theorem vY:tW Inv m K (.exit j) t h=K (.exit j) t h:=rfl
theorem uu:tW Inv m K .ret t h=K .ret t h:=rfl
def wT (I Inv:Nat->F->H->Prop):Prop:=I=Inv
/--a loop:the invariant,with a measure that falls -/
theorem Ok.lp (Inv:Nat->F->H->Prop) (m:Nat) (i:Inv m t h) (round:∀ I:Nat->F->H->Prop,wT I Inv->∀ m t h,Inv m t h->Ok P nt a t h (tW I m K)):Ok P nt (.loop a) t h K:=
 Ok.loop Inv (fun m t h hi=>(round Inv rfl m t h hi).mono fun x t h=>by cases x<;>exact fun h=>h) m t h i
theorem Bq {I:Nat->F->H->Prop} (e:wT I Inv) (m':Nat) (hm:m'<m) (k:Inv m' t h):vz I m t h:=by have e':I=Inv:=e;subst e';exact⟨m',hm,k⟩
end
def PM (rs:List Rs) (Q:V->H->Prop):X->F->H->Prop:=fun x t' h'=>match x with
 |.exit _=>False
 |_=>∃ us,(∀ k:List V->Bool,Fq rs t' h' k=k us)/\Q (one us) h'
theorem BP {P:Program} {f:FuncId} {nt:Nat} {cc:CC} {rs:List Rs} {vs:List V} {h:H} {Q:V->H->Prop} (hc:AY P f=⟨nt,cc,rs⟩) (hbad:cc≠.bad) (hl1:vs.length<=nt) (hl2:vs.length<=512)
 (ok:∀ Q',Q'=Q->Ok P nt cc (Ay vs 0 F.zero) h (PM rs Q')):BZ P f vs h Q:=bD hc hbad hl1 hl2 (ok Q rfl)
section
variable {Q:V->H->Prop} {t:F} {h:H} {n m p q:Nat}
theorem KR {rs:List Rs} {us:List V} (e:∀ k:List V->Bool,Fq rs t h k=k us):PM rs Q .ret t h=Q (one us) h:=
 propext ⟨fun⟨vs,e',k⟩=>by have:=dn fun k=>(e k).symm.trans (e' k);subst this;exact k,fun k=>⟨us,e,k⟩⟩
theorem sW {rs:List Rs}:PM rs Q .normal t h=PM rs Q .ret t h:=rfl
theorem sK:PM [] Q .ret t h=Q (.tu []) h:=KR (us:=[]) fun k=>rfl
theorem kV:PM [Rs.tmp (AV n)] Q .ret t h=Q (get n t) h:=KR (us:=[_]) fun k=>ny ..
theorem kM:PM [Rs.tmp (AV n),Rs.tmp (AV m)] Q .ret t h=Q (.tu [get n t,get m t]) h:=KR (us:=[_,_]) fun k=>m8 ..
theorem mK:PM [Rs.tmp (AV n),Rs.tmp (AV m),Rs.tmp (AV p)] Q .ret t h=Q (.tu [get n t,get m t,get p t]) h:=KR (us:=[_,_,_]) fun k=>gh ..
theorem jz:PM [Rs.tmp (AV n),Rs.tmp (AV m),Rs.tmp (AV p),Rs.tmp (AV q)] Q .ret t h=Q (.tu [get n t,get m t,get p t,get q t]) h:=KR (us:=[_,_,_,_]) fun k=>by
 show B0 (B2 (AV n) t) (fun v=>B0 (B2 (AV m) t) fun u=>B0 (B2 (AV p) t) fun w=>B0 (B2 (AV q) t) fun z=>k [v,u,w,z])=_
 rw[BM,BM,BM,BM];rfl
end
/--results,the first out of a box -/
def RA (Q:V->H->Prop) (size:Nat) (v:V) (us:List V) (h:H):Prop:=∃ vs,(∀ k:List V->Bool,(vP v fun id g off fin=>Bz h id g off fin size k)=k vs)/\Q (one (.a vs::us)) h
section
variable {Q:V->H->Prop} {t:F} {h:H} {n m p q size:Nat}
theorem TW {rs:List Rs} {us:List V} (e:∀ (k:List V->Bool),(jW (Rs.HI (AV n) size) t h fun w=>Fq rs t h fun vs=>k (w::vs))=vP (get n t) fun id g off fin=>Bz h id g off fin size fun vs=>k (.a vs::us)):PM (Rs.HI (AV n) size::rs) Q .ret t h=RA Q size (get n t) us h:=by
 refine propext ⟨fun⟨ws,e',k⟩=>?_,fun⟨vs,e',k⟩=>⟨.a vs::us,fun k=>?_,k⟩⟩
 ·have e2:=fun k=>(e k).symm.trans (e' k)
  have e3:=e2 (fun zs=>true)
  obtain⟨id,g,off,fin,hp⟩:∃ id g off fin,get n t=.p id g off fin:=by
   revert e3
   cases get n t<;>intro e3<;>first|exact⟨_,_,_,_,rfl⟩|exact Bool.noConfusion e3
  rw[hp]at e2⊢
  have e4:∀ k:List V->Bool,Bz h id g off fin size (fun vs=>k (.a vs::us))=k ws:=e2
  obtain⟨vs,hv,_⟩:=EX (h:=h) (id:=id) (g:=g) (off:=off) (fin:=fin) (n:=size) (k:=fun _=>true) (e4 fun _=>true)
  have:ws=.a vs::us:=dn fun k=>by rw[<-e4 k,hv]
  subst this
  exact⟨vs,hv,k⟩
 ·have:=e' fun vs=>k (.a vs::us)
  rw[<-this];exact e k
theorem bI:PM [Rs.HI (AV n) size] Q .ret t h=RA Q size (get n t) [] h:=TW fun k=>rfl
theorem fD:PM [Rs.HI (AV n) size,Rs.tmp (AV m)] Q .ret t h=RA Q size (get n t) [get m t] h:=TW fun k=>by
 show(vP (get n t) fun id g off fin=>Bz h id g off fin size fun vs=>B0 (get m t) fun v=>k [.a vs,v])=_
 simp only[BM]
theorem Zb:PM [Rs.HI (AV n) size,Rs.tmp (AV m),Rs.tmp (AV p)] Q .ret t h=RA Q size (get n t) [get m t,get p t] h:=TW fun k=>by
 show(vP (get n t) fun id g off fin=>Bz h id g off fin size fun vs=>B0 (get m t) fun v=>B0 (get p t) fun u=>k [.a vs,v,u])=_
 simp only[BM]
theorem Own.ra {id:B} {xs us:List V} {fin:Nat} (o:Own h id xs) (hs:xs.length=size) (h1:1<=size) (hf:size<=fin):RA Q size (.p id 0 0 fin) us h=Q (one (.a xs::us)) h:=by
 have e:∀ k:List V->Bool,Bz h id 0 0 fin size k=k xs:=fun k=>Cw o.row hs (by intro e;subst e;simp at hs;omega) (by omega) k
 refine propext ⟨fun⟨vs,e',k⟩=>?_,fun k=>⟨xs,e,k⟩⟩
 have:vs=xs:=dn fun k=>(e k).symm.trans (e' k)
 subst this;exact k
end
theorem qU:one []=.tu []:=rfl
theorem wrap_u8 {n:Int} (h1:0<=n) (h2:n<=255):IntKind.u8.wrap n=n:=by
 simp only[IntKind.wrap,IntKind.bits,IntKind.signed];simp;omega
theorem wrap_u16 {n:Int} (h1:0<=n) (h2:n<=65535):IntKind.u16.wrap n=n:=by
 simp only[IntKind.wrap,IntKind.bits,IntKind.signed];simp;omega
theorem wrap_u32 {n:Int} (h1:0<=n) (h2:n<=4294967295):IntKind.u32.wrap n=n:=by
 simp only[IntKind.wrap,IntKind.bits,IntKind.signed];simp;omega
theorem wrap_u64 {n:Int} (h1:0<=n) (h2:n<=18446744073709551615):IntKind.u64.wrap n=n:=by
 simp only[IntKind.wrap,IntKind.bits,IntKind.signed];simp;omega
theorem wrap_i32 {n:Int} (h1: -2147483648<=n) (h2:n<=2147483647):IntKind.i32.wrap n=n:=by
 simp only[IntKind.wrap,IntKind.bits,IntKind.signed];simp;omega
theorem IY {n:Int}:IntKind.u8.wrap n=n%256:=by
 simp only[IntKind.wrap,IntKind.bits,IntKind.signed];simp
theorem RO (c:UInt8):IntKind.i64.wrap (c.toNat:Int)=(c.toNat:Int):=wrap_i64 (by omega) (by have:=c.toNat_lt;omega)
theorem TS (c:UInt8):IntKind.u8.wrap (c.toNat:Int)=(c.toNat:Int):=wrap_u8 (by omega) (by have:=c.toNat_lt;omega)
theorem RH (c:UInt8):IntKind.u16.wrap (c.toNat:Int)=(c.toNat:Int):=wrap_u16 (by omega) (by have:=c.toNat_lt;omega)
theorem SS (c:UInt8):IntKind.u32.wrap (c.toNat:Int)=(c.toNat:Int):=wrap_u32 (by omega) (by have:=c.toNat_lt;omega)
theorem Qp (c:UInt8):IntKind.u64.wrap (c.toNat:Int)=(c.toNat:Int):=wrap_u64 (by omega) (by have:=c.toNat_lt;omega)
theorem UW:IntKind.bits .i64=64:=rfl
theorem Sr:IntKind.bits .u64=64:=rfl
theorem Uw:IntKind.bits .u32=32:=rfl
theorem TU:IntKind.bits .u16=16:=rfl
theorem V4:IntKind.bits .u8=8:=rfl
theorem VI:IntKind.bits .i32=32:=rfl
end Go.Ev
set_option maxRecDepth 10000
namespace Go.Ev
open Go
section
variable {P:Program} {h:H} {N:Nx} {a b:Int}
theorem PK (ha:0<=a) (ha2:a<=9223372036854775807) (hb:0<=b) (hb2:b<=9223372036854775807):H2 P (DN P3) (.i .i64 a) (.i .i64 b) h N=N.go P (.i .i64 ((a.toNat&&&b.toNat:Nat):Int)) h:=LK (m:=9223372036854775807) rfl ha ha2 hb hb2
theorem SW (ha:0<=a) (ha2:a<=255) (hb:0<=b) (hb2:b<=255):H2 P (DN P3) (.i .u8 a) (.i .u8 b) h N=N.go P (.i .u8 ((a.toNat&&&b.toNat:Nat):Int)) h:=LK (m:=255) rfl ha ha2 hb hb2
theorem PL (ha:0<=a) (ha2:a<=65535) (hb:0<=b) (hb2:b<=65535):H2 P (DN P3) (.i .u16 a) (.i .u16 b) h N=N.go P (.i .u16 ((a.toNat&&&b.toNat:Nat):Int)) h:=LK (m:=65535) rfl ha ha2 hb hb2
theorem Ox (ha:0<=a) (ha2:a<=4294967295) (hb:0<=b) (hb2:b<=4294967295):H2 P (DN P3) (.i .u32 a) (.i .u32 b) h N=N.go P (.i .u32 ((a.toNat&&&b.toNat:Nat):Int)) h:=LK (m:=4294967295) rfl ha ha2 hb hb2
theorem PT (ha:0<=a) (ha2:a<=18446744073709551615) (hb:0<=b) (hb2:b<=18446744073709551615):H2 P (DN P3) (.i .u64 a) (.i .u64 b) h N=N.go P (.i .u64 ((a.toNat&&&b.toNat:Nat):Int)) h:=LK (m:=18446744073709551615) rfl ha ha2 hb hb2
theorem SC (ha:0<=a) (ha2:a<=9223372036854775807) (hb:0<=b) (hb2:b<=9223372036854775807):H2 P (DN Vk) (.i .i64 a) (.i .i64 b) h N=N.go P (.i .i64 ((a.toNat|||b.toNat:Nat):Int)) h:=NU (m:=9223372036854775807) rfl ha ha2 hb hb2
theorem TM (ha:0<=a) (ha2:a<=255) (hb:0<=b) (hb2:b<=255):H2 P (DN Vk) (.i .u8 a) (.i .u8 b) h N=N.go P (.i .u8 ((a.toNat|||b.toNat:Nat):Int)) h:=NU (m:=255) rfl ha ha2 hb hb2
theorem Ra (ha:0<=a) (ha2:a<=65535) (hb:0<=b) (hb2:b<=65535):H2 P (DN Vk) (.i .u16 a) (.i .u16 b) h N=N.go P (.i .u16 ((a.toNat|||b.toNat:Nat):Int)) h:=NU (m:=65535) rfl ha ha2 hb hb2
theorem Ro (ha:0<=a) (ha2:a<=4294967295) (hb:0<=b) (hb2:b<=4294967295):H2 P (DN Vk) (.i .u32 a) (.i .u32 b) h N=N.go P (.i .u32 ((a.toNat|||b.toNat:Nat):Int)) h:=NU (m:=4294967295) rfl ha ha2 hb hb2
theorem RU (ha:0<=a) (ha2:a<=18446744073709551615) (hb:0<=b) (hb2:b<=18446744073709551615):H2 P (DN Vk) (.i .u64 a) (.i .u64 b) h N=N.go P (.i .u64 ((a.toNat|||b.toNat:Nat):Int)) h:=NU (m:=18446744073709551615) rfl ha ha2 hb hb2
theorem Pm (ha:0<=a) (ha2:a<=9223372036854775807) (hb:0<=b) (hb2:b<=9223372036854775807):H2 P (DN Nv) (.i .i64 a) (.i .i64 b) h N=N.go P (.i .i64 ((a.toNat ^^^ b.toNat:Nat):Int)) h:=K8 (m:=9223372036854775807) rfl ha ha2 hb hb2
theorem Re (ha:0<=a) (ha2:a<=255) (hb:0<=b) (hb2:b<=255):H2 P (DN Nv) (.i .u8 a) (.i .u8 b) h N=N.go P (.i .u8 ((a.toNat ^^^ b.toNat:Nat):Int)) h:=K8 (m:=255) rfl ha ha2 hb hb2
theorem Ps (ha:0<=a) (ha2:a<=65535) (hb:0<=b) (hb2:b<=65535):H2 P (DN Nv) (.i .u16 a) (.i .u16 b) h N=N.go P (.i .u16 ((a.toNat ^^^ b.toNat:Nat):Int)) h:=K8 (m:=65535) rfl ha ha2 hb hb2
theorem Oj (ha:0<=a) (ha2:a<=4294967295) (hb:0<=b) (hb2:b<=4294967295):H2 P (DN Nv) (.i .u32 a) (.i .u32 b) h N=N.go P (.i .u32 ((a.toNat ^^^ b.toNat:Nat):Int)) h:=K8 (m:=4294967295) rfl ha ha2 hb hb2
theorem O8 (ha:0<=a) (ha2:a<=18446744073709551615) (hb:0<=b) (hb2:b<=18446744073709551615):H2 P (DN Nv) (.i .u64 a) (.i .u64 b) h N=N.go P (.i .u64 ((a.toNat ^^^ b.toNat:Nat):Int)) h:=K8 (m:=18446744073709551615) rfl ha ha2 hb hb2
theorem PO (ha:0<=a) (ha2:a<=9223372036854775807) (hb:0<=b) (hb2:b<=9223372036854775807):H2 P (DN Pk) (.i .i64 a) (.i .i64 b) h N=N.go P (.i .i64 ((a.toNat ^^^ (a.toNat&&&b.toNat):Nat):Int)) h:=KJ (m:=9223372036854775807) rfl ha ha2 hb hb2
theorem Rz (ha:0<=a) (ha2:a<=255) (hb:0<=b) (hb2:b<=255):H2 P (DN Pk) (.i .u8 a) (.i .u8 b) h N=N.go P (.i .u8 ((a.toNat ^^^ (a.toNat&&&b.toNat):Nat):Int)) h:=KJ (m:=255) rfl ha ha2 hb hb2
theorem Px (ha:0<=a) (ha2:a<=65535) (hb:0<=b) (hb2:b<=65535):H2 P (DN Pk) (.i .u16 a) (.i .u16 b) h N=N.go P (.i .u16 ((a.toNat ^^^ (a.toNat&&&b.toNat):Nat):Int)) h:=KJ (m:=65535) rfl ha ha2 hb hb2
theorem Oq (ha:0<=a) (ha2:a<=4294967295) (hb:0<=b) (hb2:b<=4294967295):H2 P (DN Pk) (.i .u32 a) (.i .u32 b) h N=N.go P (.i .u32 ((a.toNat ^^^ (a.toNat&&&b.toNat):Nat):Int)) h:=KJ (m:=4294967295) rfl ha ha2 hb hb2
theorem PD (ha:0<=a) (ha2:a<=18446744073709551615) (hb:0<=b) (hb2:b<=18446744073709551615):H2 P (DN Pk) (.i .u64 a) (.i .u64 b) h N=N.go P (.i .u64 ((a.toNat ^^^ (a.toNat&&&b.toNat):Nat):Int)) h:=KJ (m:=18446744073709551615) rfl ha ha2 hb hb2
end
theorem XZ (x y:V):cond true x y=x:=rfl
theorem XE (x y:V):cond false x y=y:=rfl
theorem cu (f:O->V) (o:O) (os:List O):List.map f (o::os)=f o::List.map f os:=rfl
theorem bg (f:O->V):List.map f []=[]:=rfl
theorem bV (a:V) (l:List V):(a::l).length=l.length+1:=rfl
theorem fG:([]:List V).length=0:=rfl
theorem Vx (l:List V):l.take 0=[]:=rfl
theorem Wu (n:Nat) (a:V) (l:List V):(a::l).take (n+1)=a::l.take n:=rfl
theorem Vp (l:List V):l.drop 0=l:=rfl
theorem WE (n:Nat) (a:V) (l:List V):(a::l).drop (n+1)=l.drop n:=rfl
theorem ZL (l:List V):[]++l=l:=rfl
theorem Z9 (a:V) (l m:List V):(a::l)++m=a::(l++m):=rfl
theorem Vu (a:V) (l:List V) (d:V):(a::l).getD 0 d=a:=rfl
theorem WS (n:Nat) (a:V) (l:List V) (d:V):(a::l).getD (n+1) d=l.getD n d:=by simp[List.getD]
theorem bw (a b:V) (l:List V):(a::l).set 0 b=b::l:=rfl
theorem dR (n:Nat) (a b:V) (l:List V):(a::l).set (n+1) b=a::l.set n b:=rfl
theorem Z3 (b:Bool):(b==b)=true:=by cases b<;>rfl
theorem cJ (b:Bool):(b !=b)=false:=by cases b<;>rfl
def AK:=And.intro @jU (And.intro @qp (And.intro @oX (And.intro @ig (And.intro @nQ (And.intro @JX (And.intro @aN (And.intro @aG (And.intro @uk (And.intro @vl (And.intro @pj (And.intro @uR (And.intro @uY (And.intro @tZ (And.intro @qo (And.intro @iV (And.intro @rn (And.intro @P2 (And.intro @X4 (And.intro @WH (And.intro @kT (And.intro @Rw (And.intro @gZ (And.intro @rG (And.intro @kK (And.intro @sA (And.intro @kL (And.intro @qY (And.intro @ED (And.intro @Vt (And.intro @XP (And.intro @fo (And.intro @UK (And.intro @ab (And.intro @W1 (And.intro @Y9 (And.intro @eg (And.intro @WZ (And.intro @eT (And.intro @XA (And.intro @Zn (And.intro @aA (And.intro @aM (And.intro @dS (And.intro @Sd (And.intro @SN (And.intro @M6 (And.intro @OW (And.intro @fO (And.intro @RB (And.intro @SL (And.intro @R8 (And.intro @Rn (And.intro @WA (And.intro @WW (And.intro @ZG (And.intro @Zd (And.intro @ZF (And.intro @Uj (And.intro @or_nil (And.intro @N0 (And.intro @Xn (And.intro @Tq (And.intro @PF (And.intro @Uh (And.intro @Wl (And.intro @fQ (And.intro @Tg (And.intro @aD (And.intro @VV (And.intro @cD (And.intro @LR (And.intro @UZ (And.intro @Me (And.intro @or_append (And.intro @O9 (And.intro @XG (And.intro @Td (And.intro @Y0 (And.intro @W5 (And.intro @W3 (And.intro @Xe (And.intro @dM (And.intro @df (And.intro @fY (And.intro @ZJ (And.intro @Y5 (And.intro @dZ (And.intro @cQ (And.intro @Yv (And.intro @av (And.intro @Yc (And.intro @cS (And.intro @cj (And.intro @fq (And.intro @fE (And.intro @bc (And.intro @cZ (And.intro @bp (And.intro @ff (And.intro @dF (And.intro @Wx (And.intro @Vl (And.intro @W6 (And.intro @Wi (And.intro @Wa (And.intro @bZ (And.intro @cA (And.intro @WT (And.intro @XI (And.intro @XF (And.intro @Tk (And.intro @SJ (And.intro @MI (And.intro @Nf (And.intro @cT (And.intro @jt (And.intro @Rp (And.intro @QN (And.intro @Tn (And.intro @Wj (And.intro @Rg (And.intro @Qz (And.intro @YX (And.intro @db (And.intro @XX (And.intro @eO (And.intro @fk (And.intro @dh (And.intro @Zp (And.intro @eN (And.intro @aF (And.intro @Yh (And.intro @fy (And.intro @TZ (And.intro @Sf (And.intro @Tu (And.intro @UU (And.intro @TR (And.intro @wF (And.intro @vK (And.intro @hC (And.intro @mo (And.intro @YB (And.intro @uO (And.intro @ud (And.intro @uI (And.intro @uy (And.intro @uH (And.intro @po (And.intro @ue (And.intro @lC (And.intro @Xx (And.intro @vh (And.intro @vD (And.intro @u9 (And.intro @sT (And.intro @va (And.intro @vN (And.intro @tq (And.intro @jB (And.intro @vJ (And.intro @Wn (And.intro @XO (And.intro @N1 (And.intro @dD (And.intro @ru (And.intro @oT (And.intro @jg (And.intro @PK (And.intro @SW (And.intro @PL (And.intro @Ox (And.intro @PT (And.intro @SC (And.intro @TM (And.intro @Ra (And.intro @Ro (And.intro @RU (And.intro @Pm (And.intro @Re (And.intro @Ps (And.intro @Oj (And.intro @O8 (And.intro @PO (And.intro @Rz (And.intro @Px (And.intro @Oq (And.intro @PD (And.intro @vV (And.intro @uV (And.intro @sW (And.intro @sK (And.intro @kV (And.intro @kM (And.intro @mK (And.intro @jz (And.intro @bI (And.intro @fD (And.intro @Zb (And.intro @qU (And.intro @iH (And.intro @iO (And.intro @gp (And.intro @vk (And.intro @tf (And.intro @vr (And.intro @vt (And.intro @vY (And.intro @uu (And.intro @o7 (And.intro @rV (And.intro @mF (And.intro @TV (And.intro @u7 (And.intro @RO (And.intro @TS (And.intro @RH (And.intro @SS (And.intro @Qp (And.intro @wrap_i64 (And.intro @wrap_u8 (And.intro @wrap_u16 (And.intro @wrap_u32 (And.intro @wrap_u64 (And.intro @wrap_i32 (And.intro @UW (And.intro @Sr (And.intro @Uw (And.intro @TU (And.intro @V4 (And.intro @VI (And.intro @cB (And.intro @Tf (And.intro @cu (And.intro @bg (And.intro @XZ (And.intro @XE (And.intro @Bool.not_true (And.intro @Bool.not_false (And.intro @Bool.not_not (And.intro @decide_true (And.intro @decide_false (And.intro @Int.ofNat_eq_natCast (And.intro @Int.cast_ofNat_Int (And.intro @and_self (And.intro @Int.toNat_natCast (And.intro @Z3 (And.intro @cJ (And.intro @Bool.false_xor (And.intro @Bool.true_xor (And.intro @bV (And.intro @fG (And.intro @Vx (And.intro @Wu (And.intro @Vp (And.intro @WE (And.intro @ZL (And.intro @Z9 (And.intro @Vu (And.intro @WS (And.intro @bw (And.intro @dR (And.intro @Nat.min_eq_left (And.intro @Nat.zero_add (And.intro @Nat.add_zero (And.intro @Nat.mul_one (@Nat.zero_mul)))))))))))))))))))))))))))))))))))))))))))))))))))))))))))))))))))))))))))))))))))))))))))))))))))))))))))))))))))))))))))))))))))))))))))))))))))))))))))))))))))))))))))))))))))))))))))))))))))))))))))))))))))))))))))))))))))))))))))))))))))))))))))))))))))))))))))
def AR:=And.intro @Bool.not_eq_true' (@Bool.not_eq_false')
def AJ:=And.intro @List.length_append.{0} (And.intro @List.length_cons.{0} (And.intro @List.length_nil.{0} (And.intro @List.length_take.{0} (And.intro @List.length_drop.{0} (And.intro @List.length_map.{0,0} (@List.length_set.{0}))))))
def AQ:=And.intro @Int.not_lt (And.intro @Int.not_le (And.intro @Nat.not_lt (And.intro @Nat.not_le (And.intro @decide_eq_true_eq (And.intro @decide_eq_false_iff_not (And.intro @Bool.not_eq_true (And.intro @Bool.not_eq_false (And.intro @Bool.not_true (And.intro @Bool.not_false (And.intro @Bool.not_eq_eq_eq_not (@Decidable.not_not)))))))))))
/--the next step of code,by its form -/
class St (p:Prop) (q:outParam Prop):Prop where
 h:q->p
section
variable {P:Program} {nt:Nat} {t:F} {h:H} {K:X->F->H->Prop} {a b:CC} {l:List CO} {id:Nat} {o:O}
instance:St (Ok P nt (.seq a b) t h K) (Ok P nt a t h (Sq P nt b K)):=⟨Ok.sq⟩
instance:St (Ok P nt (.block id a) t h K) (Ok P nt a t h (Out id K)):=⟨Ok.block⟩
instance:St (Ok P nt (.region l) t h K) (WO P l t h (K .normal)):=⟨Ok.rg⟩
instance:St (Ok P nt (.cond o a b) t h K) (CD (oV o t) (Ok P nt a t h K) (Ok P nt b t h K)):=⟨Ok.cd⟩
instance:St (Ok P nt .skip t h K) (K .normal t h):=⟨Ok.skip⟩
instance:St (Ok P nt (.exit id) t h K) (K (.exit id) t h):=⟨Ok.exit⟩
instance:St (Ok P nt .ret t h K) (K .ret t h):=⟨Ok.ret⟩
end
end Go.Ev
namespace Go.Ev
open Go
/--a block of the call's own,made of a text's bytes or of cells -/
def bY (h:H) (id:B) (xs:List V):Prop:=∃ Af,h.heap.get id=some Af/\Af.cur=0/\Af.min=0/\Af.fr<=1/\B.val h.floor<=B.val id/\B.val id<B.val h.next/\∀ i y,xs[i]? =some y->Af.cells.BU i=some y
theorem bY.row {h:H} {id:B} {xs:List V} (o:bY h id xs):Row h id 0 0 xs:=by
 obtain⟨Af,h1,h2,h3,h4,h5,h6,h7⟩:=o
 refine⟨fun _=>⟨Af,h1,by omega⟩,fun i y hy=>?_⟩
 unfold Ev.cell Gp
 rw[h1]
 show(if Af.min<=0 then Af.cells.BU (0+i)else none)=_
 rw[if_pos (by omega),Nat.zero_add]
 exact h7 i y hy
section
variable {P:Program} {h:H} {N:Nx} {id:B} {xs:List V} {j fin el:Nat} {x y:V}
/--[]byte(text),to be written into -/
theorem SB.own {c:List UInt8} (hf:B.val h.floor<=B.val h.next) (hl:c.length<=1048576)
 (k:∀ h',AZ AM h h'->B.val h'.next=B.val h.next+1->bY h' h.next (c.map bv)->N.go P (.l h.next 0 0 c.length c.length (IG c.length)) h'):SB P el (sv c) h N:=by
 obtain⟨h',a1,a2,a3,a4,a5,cs,a6,a7⟩:=QW el hf hl
 have:=fun k=>a1 (.c (sv c)) F.zero (fun _ _ _ _=>false) k rfl
 refine Dc (v:=.l h.next 0 0 c.length c.length (IG c.length)) (h':=h') (fun k=>?_) (k h' a2 a3 ⟨_,a6,rfl,rfl,by show 1<=1;omega,by rw[a2.floor];exact hf,by omega,a7⟩)
 have e:=this k
 simp only[Hq,AN]at e
 exact e
end
/--string([]byte{..}) in a region that Bg -/
theorem AL.Wr {P:Program} {t:F} {h:H} {K:F->H->Prop} {l:List CO} {el n m:Nat} {cs:List V} {bs:List UInt8} {len fin:Nat} {cap:Option Nat} (hc:cs=bs.map bv) (hne:bs≠[]) (e1:len=bs.length) (e2:fin=bs.length) (hl:bs.length<=1048576) (hf:B.val h.floor<=B.val h.next)
 (k:∀ h' u,AZ AM h h'->DO P l (put n (sv bs) (put m u t)) h' K):AL P el cs (fun id=>.l id 0 0 len fin cap) (A4 h) (.u m (.mk .none (.some (AV n)) false (.mk (Dl (.t (AV m))))::l) t h K):=by
 subst hc;subst e1;subst e2
 have hn:(A4 h).next=h.next:=by cases h;rfl
 refine AL.own (by rw[List.length_map];omega) (by cases h;exact Nat.le_refl _) fun h1' s1 n1 o1=>?_
 have hL:=(o1.HS (h:=h) (by rw[hn];exact hf)).tY cap
 rw[List.length_map]at hL
 rw[Rw,qo,PF,TV,AB,if_pos rfl,YB,hL.bs hne]
 exact k _ _ s1.HS
/--the i-th row of a matrix -/
def rowOf (h:H) (v:V) (i:Nat):V:=(cell h (I4 v) (lg v) (EH v+i)).getD .u
/--a matrix that was there when the call began -/
structure MA (h0:H) (v:V) (M:List (List Bool)) (g:H):Prop where
 mx:Mx h0 v M
 st:AZ AM h0 g
section
variable {P:Program} {N:Nx} {h0 g h':H} {v:V} {M:List (List Bool)} {i j:Nat}
theorem MA.grow (a:MA h0 v M g) (s:AZ AM g h'):MA h0 v M h':=⟨a.mx,a.st.trans s⟩
theorem Mx.rowOf (a:Mx h0 v M) (hi:i<M.length):Bl h0 (rowOf h0 v i) (M.getD i []):=by
 obtain⟨rows,r1,r2,r3⟩:=a
 have hr:rows[i]? =some rows[i]:=by simp
 have:Go.Ev.rowOf h0 v i=rows[i]:=by
  unfold Go.Ev.rowOf
  rcases r1 with⟨rfl,e⟩|⟨id,g,off,fin,cap,rfl,h2,h3,h4⟩
  ·subst e;simp at r2;omega
  ·have:=h4.2 i _ hr
   show(cell h0 id g (off+i)).getD .u=_
   rw[this];rfl
 rw[this]
 exact r3 i _ hr
theorem MA.row (a:MA h0 v M g) (hi:i<M.length):Bl g (rowOf h0 v i) (M.getD i []):=(a.mx.rowOf hi).grow a.st
theorem MA.ld (a:MA h0 v M g) (hi:i<M.length):L1 P (I4 v) (lg v) (EH v+i) (EW v) g N=N.go P (rowOf h0 v i) g:=by
 obtain⟨rows,r1,r2,r3⟩:=a.mx
 have hr:rows[i]? =some rows[i]:=by simp
 refine Ai fun k=>?_
 have e:Go.Ev.rowOf h0 v i=rows[i]:=by
  unfold Go.Ev.rowOf
  rcases r1 with⟨rfl,e⟩|⟨id,g,off,fin,cap,rfl,h2,h3,h4⟩
  ·subst e;simp at r2;omega
  ·have:=h4.2 i _ hr
   show(cell h0 id g (off+i)).getD .u=_
   rw[this];rfl
 rw[GA (r1.grow a.st) hr,e]
end
theorem Row.ln {P:Program} {h:H} {N:Nx} {id:B} {g off fin size:Nat} {xs:List V} (r:Row h id g 0 xs) (hi:off+size<=xs.length) (h1:1<=size) (hf:off+size<=fin):LN P id g off fin size h N=N.go P (.a ((xs.drop off).take size)) h:=Ai fun k=>by
 have hne:(xs.drop off).take size≠[]:=by
  intro e
  have:=congrArg List.length e
  rw[List.length_take,List.length_drop]at this
  simp at this;omega
 refine Cw (vs:=(xs.drop off).take size) ⟨fun _=>r.1 (by intro e;subst e;simp at hi;omega),fun i y hy=>?_⟩ (by rw[List.length_take,List.length_drop];omega) hne hf _
 rw[List.getElem?_take]at hy
 split at hy
 ·rw[List.getElem?_drop]at hy
  have:=r.2 (off+i) y hy
  rwa [Nat.zero_add]at this
 ·cases hy
def Tb (ne:Bool) (x y:V) (k:V->Bool):Bool:=PW x (fun _=>PW y (fun _=>k (.b (!ne))) fun _ _ _ _=>k (.b ne)) (Jr ne y k)
def T5 (x:V) (k:V->Bool):Bool:=vL x (fun _=>k .p0) fun id g off len fin _=>Ap (Nat.ble 1 len) fun _=>k (.p id g off fin)
def PU (P:Program) (x:V) (h:H) (N:Nx):Prop:=HV P (fun k=>vP x fun id g off fin=>DI h id g off fin fun _=>k (.p id g off fin)) h N
def UP (P:Program) (u size:Nat) (x:V) (h:H) (N:Nx):Prop:=HV P (fun k=>vP x fun id g off fin=>Ap (Nat.beq off 0) fun _=>Ap (Nat.ble size fin) fun _=>RS h id g u fun _=>k (.p id g off fin)) h N
section
variable {P:Program} {t:F} {h:H} {N:Nx} {x y:O} {ne:Bool} {id id':B} {g off fin g' off' fin':Nat} {u size:Nat}
theorem Us:OR P (F6 ne x y) t h N=H2 P (Tb ne) (oV x t) (oV y t) h N:=Bh fun cf k=>Ys ..
theorem Na:H2 P (Tb ne) .p0 .p0 h N=N.go P (.b (!ne)) h:=Ai fun k=>rfl
theorem Nb:H2 P (Tb ne) .p0 (.p id g off fin) h N=N.go P (.b ne) h:=Ai fun k=>rfl
theorem OG:H2 P (Tb ne) (.p id g off fin) .p0 h N=N.go P (.b ne) h:=Ai fun k=>by
 show Jr ne .p0 k id g off fin=_
 exact Xc ne k id g off fin
theorem N7:H2 P (Tb ne) (.p id g off fin) (.p id g off fin') h N=N.go P (.b (!ne)) h:=Ai fun k=>by
 show Jr ne (.p id g off fin') k id g off fin=_
 rw[SK];cases ne<;>rfl
theorem S2:OR P (Ew x) t h N=H1 P T5 (oV x t) h N:=Bh fun cf k=>TH ..
theorem gI:OR P (KS x) t h N=PU P (oV x t) h N:=Bh fun cf k=>Yg ..
theorem dJ:OR P (KT u size x) t h N=UP P u size (oV x t) h N:=Bh fun cf k=>ZS ..
theorem FZ.pu {xs:List V} {el:Nat} (o:FZ h id el xs) (hi:off<xs.length) (hf:off<fin):PU P (.p id 0 off fin) h N=N.go P (.p id 0 off fin) h:=Ai fun k=>by
 show DI h id 0 off fin (fun _=>k (.p id 0 off fin))=_
 have:=o.own.row.2 off (xs.getD off .u) (by simp[hi])
 rw[Nat.zero_add]at this
 rw[Gh this hf]
theorem FZ.up {xs:List V} {el:Nat} (o:FZ h id el xs) (hf:size<=fin):UP P el size (.p id 0 0 fin) h N=N.go P (.p id 0 0 fin) h:=Ai fun k=>by
 have e1:Nat.ble size fin=true:=by rw[Nat.ble_eq];exact hf
 show Ap (Nat.beq 0 0) (fun _=>Ap (Nat.ble size fin) fun _=>RS h id 0 el fun _=>k (.p id 0 0 fin))=_
 have e2:Nat.beq 0 0=true:=rfl
 rw[e2,AF,e1,AF,XS o]
end
section
variable {P:Program} {h:H} {N:Nx} {id:B} {xs:List V} {j fin el:Nat} {x y:V}
theorem ST.Vy (o:FZ h id el xs) (hc:cells x=[y]) (h1:ES y=true) (hj:j<fin) (hfit:j<2 ^ 37) (k:∀ h',FZ h' id el (xs.set j y)->AZ (fun i=>i=id) h h'->N.go P (.tu []) h'):ST P 1 (.p id 0 j fin) x h N:=by
 obtain⟨h',a1,a2,a3⟩:=O3 o hj hfit h1
 refine Dc (v:=.tu []) (h':=h') (fun k=>?_) (k h' a2 a3)
 show Ap (Nat.beq (cells x).length 1) (fun _=>store h id 0 j fin (cells x) fun h=>k (.tu []) h)=_
 rw[hc]
 show store h id 0 j fin [y] (fun h=>k (.tu []) h)=_
 rw[a1]
/--append(v,text...) -/
theorem AS.buf {v:V} {a c:List UInt8} (hb:EY h el 1 v (a.map bv)) (hf:B.val h.floor<=B.val h.next) (hl:a.length+c.length<=1048576)
 (k:∀ v' h',EY h' el 1 v' ((a++c).map bv)->AZ (BT v) h h'->(∀ i,BT v' i->BT v i\/B.val h.next<=B.val i)->Og h' v'->N.go P v' h'):AS P el v (sv c) h N:=by
 obtain⟨v',h',a1,a2,a3,a4,a5⟩:=Ks (vs:=c.map bv) (n:=c.length) hb hf (Nat.le_refl _) (by simp) (JE c) (by simpa using hl)
 refine Dc (v:=v') (h':=h') (fun k=>?_) (k v' h' (by rw[List.map_append];exact a2) a3 a4 a5)
 show K1 c.length (pk c) [] (fun vs=>Cc el 1 v c.length vs h k)=_
 rw[Ke _ _ _ _ rfl,List.append_nil,a1]
theorem Qx {v:V} (b:EY h el 1 v xs):cells v=[v]/\ES v=true/\FE v=true:=by rcases b with⟨rfl,_⟩|⟨_,_,_,_,rfl,_⟩<;>exact⟨rfl,rfl,rfl⟩
end
def US (P:Program) (e:Nat) (x y:V) (h:H) (N:Nx):Prop:=HM P (fun k=>vI y fun kd n=>Ap (CU kd .i64) fun _=>A6 n fun n=>PW x (fun _=>Ap (Nat.beq n 0) fun _=>k (.s 0 0) h) fun id g off fin=>KB e n h k id g off fin) N
theorem US.of {P:Program} {e:Nat} {x y v:V} {h h':H} {N:Nx} (hk:∀ k:V->H->Bool,(vI y fun kd n=>Ap (CU kd .i64) fun _=>A6 n fun n=>PW x (fun _=>Ap (Nat.beq n 0) fun _=>k (.s 0 0) h) fun id g off fin=>KB e n h k id g off fin)=k v h') (k:N.go P v h'):US P e x y h N:=Dc hk k
theorem WB {P:Program} {e:Nat} {x y:O} {t:F} {h:H} {N:Nx}:OR P (FG e x y) t h N=US P e (oV x t) (oV y t) h N:=Gk fun cf k=>by simp only[FG,AN]
end Go.Ev
namespace Go.Ev
open Go
section
variable {h:H}
/--all cells of a block at once -/
theorem ST.dj {P:Program} {N:Nx} {id:B} {xs vs:List V} {x:V} {size fin:Nat} (o:Own h id xs) (hc:cells x=vs) (hs:vs.length=size) (h1:CB vs=true) (hj:vs.length<=fin) (hfit:vs.length<2 ^ 37)
 (k:∀ h',Own h' id vs->AZ (fun i=>i=id) h h'->N.go P (.tu []) h'):ST P size (.p id 0 0 fin) x h N:=by
 obtain⟨Af,a1,a2,a3,a4,a5,a6,a7⟩:=o
 obtain⟨next,floor,heap⟩:=h
 obtain⟨cur,min,sz,cs,bel,fr⟩:=Af
 simp only at a2 a3 a4 a7
 subst a2;subst a3;subst a4
 obtain⟨tr,t1,t2,t3⟩:=Bv vs 0 cs (by omega)
 obtain⟨hp,s1,s2,s3⟩:=Bp id (⟨0,0,sz,tr,bel,0⟩:E0) heap
 have e1:B.Js floor id=true:=by cases floor<;>first|rfl|(show Nat.ble _ _=true;rw[Nat.ble_eq];exact a5)
 have e2:Nat.ble (Nat.add 0 vs.length) fin=true:=by rw[Nat.ble_eq];show 0+vs.length<=fin;omega
 have e4:Hl 0 0=true:=rfl
 have e5:Nat.beq 0 0=true:=rfl
 have e6:Nat.ble 0 0=true:=rfl
 have e7:Nat.beq vs.length size=true:=by rw[hs];simp
 have a1':heap.get id=some ⟨0,0,sz,cs,bel,0⟩:=a1
 refine Dc (v:=.tu []) (h':=⟨next,floor,hp⟩) (fun q=>?_) (k _ ⟨_,s2,rfl,rfl,rfl,a5,a6,fun i z hz=>by have:=t2 i z hz;rwa [Nat.zero_add]at this⟩ ⟨rfl,Nat.le_refl _,fun i _ hi=>s3 i hi⟩)
 show Ap (Nat.beq (cells x).length size) (fun _=>store ⟨next,floor,heap⟩ id 0 0 fin (cells x) fun h=>q (.tu []) h)=_
 rw[hc,e7,AF]
 simp only[store,B6,a1',Ad,BC,e5,e6,e1,e2,h1,e4,AF]
 rw[t1,s1]
end
theorem ST.all {P:Program} {h:H} {N:Nx} {id:B} {xs vs:List V} {size fin:Nat} (o:Own h id xs) (hs:vs.length=size) (h1:CB vs=true) (hj:vs.length<=fin) (hfit:vs.length<2 ^ 37)
 (k:∀ h',Own h' id vs->AZ (fun i=>i=id) h h'->N.go P (.tu []) h'):ST P size (.p id 0 0 fin) (.a vs) h N:=ST.dj o rfl hs h1 hj hfit k
theorem IT (h:H):B.val (A4 h).floor<=B.val (A4 h).next:=by cases h;exact Nat.le_refl _
/--a call in a region that Bg -/
theorem CL.IV {P:Program} {f:FuncId} {vs:List V} {h:H} {e:V} {m:Nat} {l:List CO} {t:F} {K:F->H->Prop} (a:BZ P f vs (A4 h) fun y h'=>y=e/\AZ AM (A4 h) h')
 (k:∀ h',AZ AM h h'->DO P l (put m e t) h' K):CL P f vs (A4 h) (.u m l t h K):=⟨_,a,fun v h' hq=>by rw[hq.1,Rw];exact k _ hq.2.HS⟩
/--a row of structs of n cells each -/
def Ss {α:Type} (n:Nat) (c:α->List V) (h:H) (v:V) (L:List α):Prop:=
 (v=.l0/\L=[])\/∃ id g off fin cap,v=.l id g off L.length fin cap/\off+L.length*n<=fin/\B.val id<B.val h.next/\Row h id g off (L.flatMap c)
section
variable {α:Type} [Inhabited α] {n:Nat} {c:α->List V}
theorem EB (hc:∀ e,(c e).length=n):∀ (L:List α),(L.flatMap c).length=L.length*n
 |[]=>by simp
 |a::L=>by rw[List.flatMap_cons,List.length_append,hc,EB hc L,List.length_cons,Nat.add_mul];omega
theorem YF (hc:∀ e,(c e).length=n):∀ {L:List α} {i:Nat},i<L.length->((L.flatMap c).drop (i*n)).take n=c (L.getD i default)
 |[],i,h=>by simp at h
 |a::L,0,h=>by
  rw[List.flatMap_cons,Nat.zero_mul,List.drop_zero,List.take_append_of_le_length (by rw[hc];exact Nat.le_refl _),List.take_of_length_le (by rw[hc];exact Nat.le_refl _)];rfl
 |a::L,i+1,h=>by
  have e:(i+1)*n=(c a).length+i*n:=by rw[hc,Nat.add_mul];omega
  rw[List.flatMap_cons,e,<-List.drop_drop,List.drop_left,YF hc (by simpa using h)]
  simp[List.getD]
theorem PJ (hc:∀ e,(c e).length=n) {L:List α} {i d:Nat} (hi:i<L.length) (hd:d<n):(L.flatMap c)[i*n+d]? =some ((c (L.getD i default)).getD d .u):=by
 have e:(((L.flatMap c).drop (i*n)).take n)[d]? =(c (L.getD i default))[d]? :=by rw[YF hc hi]
 rw[List.getElem?_take,if_pos hd,List.getElem?_drop]at e
 rw[e]
 have:d<(c (L.getD i default)).length:=by rw[hc];exact hd
 have e3:∀ (x:List V),d<x.length->x[d]? =some (x.getD d .u):=fun x hx=>by simp[List.getD,hx]
 exact e3 _ this
theorem Mi (hc:∀ e,(c e).length=n):∀ (L:List α) (k:Nat),(L.take k).flatMap c=(L.flatMap c).take (k*n)
 |[],k=>by simp
 |a::L,0=>by simp
 |a::L,k+1=>by
  have e:(k+1)*n=(c a).length+k*n:=by rw[hc,Nat.add_mul];omega
  have e2:((c a)++L.flatMap c).take ((c a).length+k*n)=c a++(L.flatMap c).take (k*n):=by
   rw[List.take_append,Nat.add_sub_cancel_left,List.take_of_length_le (Nat.le_add_right _ _)]
  rw[List.take_succ_cons,List.flatMap_cons,List.flatMap_cons,Mi hc L k,e,e2]
theorem Qd (hc:∀ e,(c e).length=n):∀ (L:List α) (k:Nat),(L.drop k).flatMap c=(L.flatMap c).drop (k*n)
 |[],k=>by simp
 |a::L,0=>by simp
 |a::L,k+1=>by
  rw[List.drop_succ_cons,List.flatMap_cons,Qd hc L k,show(k+1)*n=(c a).length+k*n by rw[hc,Nat.add_mul];omega,<-List.drop_drop,List.drop_left]
variable {P:Program} {h h' g':H} {N:Nx} {v:V} {L:List α} {i d:Nat}
theorem Ss.ln (a:Ss n c h v L):H1 P PA v g' N=N.go P (.i .i64 (L.length:Int)) g':=by
 rcases a with⟨rfl,rfl⟩|⟨id,g,off,fin,cap,rfl,_⟩
 ·exact QN
 ·exact Tn
theorem Ss.ix (a:Ss n c h v L) (hi:i<L.length):IX P n v i g' N=N.go P (.p (I4 v) (lg v) (EH v+i*n) (EW v)) g':=by
 rcases a with⟨rfl,rfl⟩|⟨id,g,off,fin,cap,rfl,_⟩
 ·simp at hi
 ·exact jt hi
theorem Ss.ld (a:Ss n c h v L) (hc:∀ e,(c e).length=n) (hi:i<L.length) (hd:d<n):L1 P (I4 v) (lg v) (EH v+i*n+d) (EW v) h N=N.go P ((c (L.getD i default)).getD d .u) h:=by
 rcases a with⟨rfl,rfl⟩|⟨id,g,off,fin,cap,rfl,hf,hl,r⟩
 ·simp at hi
 ·refine Ai fun k=>?_
  have:=r.2 (i*n+d) _ (PJ hc hi hd)
  rw[<-Nat.add_assoc]at this
  have h1:(i+1)*n<=L.length*n:=Nat.mul_le_mul_right n hi
  rw[Nat.add_mul]at h1
  exact Gh this (by show off+i*n+d<fin;omega) k
theorem Ss.yg (a:Ss n c h v L) (hc:∀ e,(c e).length=n) (hn:1<=n) (hi:i<L.length):LN P (I4 v) (lg v) (EH v+i*n) (EW v) n h N=N.go P (.a (c (L.getD i default))) h:=by
 rcases a with⟨rfl,rfl⟩|⟨id,g,off,fin,cap,rfl,hf,hl,r⟩
 ·simp at hi
 ·refine Ai fun k=>?_
  have h1:(i+1)*n<=L.length*n:=Nat.mul_le_mul_right n hi
  rw[Nat.add_mul]at h1
  have hlen:=hc (L.getD i default)
  refine Cw (vs:=c (L.getD i default)) ⟨fun _=>r.1 ?_,fun j y hy=>?_⟩ hlen (by intro e;rw[e]at hlen;simp at hlen;omega) (by show off+i*n+n<=fin;omega) fun vs=>k (.a vs)
  ·intro e
   have h2:=EB hc L
   rw[e]at h2
   have h3:L.length*n=0:=h2.symm
   omega
  ·have hj:j<n:=by rw[<-hlen];exact(List.getElem?_eq_some_iff.1 hy).1
   have e:=PJ hc hi hj
   rw[List.getD,hy]at e
   have:=r.2 (i*n+j) _ e
   rw[<-Nat.add_assoc]at this
   exact this
theorem Ss.grow (a:Ss n c h v L) (s:AZ AM h h'):Ss n c h' v L:=by
 rcases a with⟨rfl,rfl⟩|⟨id,g,off,fin,cap,rfl,hf,hl,r⟩
 ·exact .inl ⟨rfl,rfl⟩
 ·exact .inr ⟨id,g,off,fin,cap,rfl,hf,Nat.lt_of_lt_of_le hl s.next,r.grow s hl⟩
theorem Ss.stay {p:B->Prop} (a:Ss n c h v L) (s:AZ p h h') (hp:∀ id,BT v id->¬p id):Ss n c h' v L:=by
 rcases a with⟨rfl,rfl⟩|⟨id,g,off,fin,cap,rfl,hf,hl,r⟩
 ·exact .inl ⟨rfl,rfl⟩
 ·exact .inr ⟨id,g,off,fin,cap,rfl,hf,Nat.lt_of_lt_of_le hl s.next,r.stay s hl (hp id ⟨_,_,_,_,_,rfl⟩)⟩
theorem Ss.nil:Ss n c h .l0 ([]:List α):=.inl ⟨rfl,rfl⟩
/--of a literal -/
theorem Ss.lit {id:B} {xs:List V} {cap:Option Nat} {len fin:Nat} (o:Own h id xs) (e:xs=L.flatMap c) (hc:∀ e,(c e).length=n) (hl:len=L.length) (hf:L.length*n<=fin):Ss n c h (.l id 0 0 len fin cap) L:=by
 subst hl;subst e
 have r:=o.row
 obtain⟨Af,h1,h2,h3,h4,h5,h6,h7⟩:=o
 exact .inr ⟨id,0,0,fin,cap,rfl,by omega,h6,r⟩
/--of a row that grew -/
theorem Ss.buf {el:Nat} {xs:List V} (b:EY h el n v xs) (e:xs=L.flatMap c) (hc:∀ e,(c e).length=n) (hn:1<=n):Ss n c h v L:=by
 subst e
 rcases b with⟨rfl,he⟩|⟨id,g,m,Af,rfl,h1,h2,h3,h4,h5,h6,h7,h8,h9,h10⟩
 ·refine .inl ⟨rfl,?_⟩
  cases L with
  |nil=>rfl
  |cons a L=>
   have:=EB hc (a::L)
   rw[he]at this
   have h3:(L.length+1)*n=0:=this.symm
   rw[Nat.add_mul]at h3;omega
 ·have hm:m=L.length:=by
   rw[EB hc]at h2
   exact(Nat.eq_of_mul_eq_mul_right (by omega) h2).symm
  subst hm
  refine .inr ⟨id,g,0,(L.flatMap c).length,none,rfl,by rw[EB hc];omega,h4,fun _=>⟨Af,h5,h6.1⟩,fun i y hy=>?_⟩
  unfold Ev.cell Gp
  rw[h5]
  show(if Af.min<=g then Af.cells.BU (0+i)else none)=_
  rw[if_pos h6.1,Nat.zero_add]
  exact h10 i y hy
/--a slice whose end is where it should be -/
def LS (n:Nat) (v:V):Prop:=v=.l0\/∃ id g off m fin cap,v=.l id g off m fin cap/\match cap with
 |some c=>m<=c/\(18446744073709551616<=c->m=0)
 |none=>fin=off+m*n
theorem Tc {n off k L:Nat}:match HH n k L with
 |some c=>k<=c/\(18446744073709551616<=c->k=0)
 |none=>off+k*n=off+k*n:=by
 cases k with
 |zero=>(cases L with|zero=>exact rfl|succ L=>exact⟨Nat.zero_le _,fun _=>rfl⟩)
 |succ k=>exact rfl
theorem LF {id:B} {g off k:Nat} (hc:∀ e,(c e).length=n) (r:Row h id g off (L.flatMap c)):Row h id g off ((L.take k).flatMap c):=by
 rw[Mi hc]
 refine⟨fun hne=>r.1 fun e=>hne (by rw[e];simp),fun i y hy=>r.2 i y ?_⟩
 rw[List.getElem?_take]at hy
 split at hy
 ·exact hy
 ·cases hy
theorem P5 {id:B} {g off k:Nat} (hc:∀ e,(c e).length=n) (r:Row h id g off (L.flatMap c)):Row h id g (off+k*n) ((L.drop k).flatMap c):=by
 rw[Qd hc]
 refine⟨fun hne=>r.1 fun e=>hne (by rw[e];simp),fun i y hy=>?_⟩
 rw[List.getElem?_drop]at hy
 have:=r.2 _ y hy
 rwa [<-Nat.add_assoc]at this
theorem Ss.hi {kd:IntKind} {k:Nat} (a:Ss n c h v L) (hc:∀ e,(c e).length=n) (w:LS n v) (hk:k<=L.length):∃ u,Ss n c h u (L.take k)/\LS n u/\∀ (g:H) (N:Nx),H2 P (GK n) v (.i kd (k:Int)) g N=N.go P u g:=by
 have e0:Nat.ble 0 k=true:=by rw[Nat.ble_eq];omega
 have hkn:k*n<=L.length*n:=Nat.mul_le_mul_right n hk
 have htk:(L.take k).length=k:=by rw[List.length_take];omega
 rcases a with⟨rfl,rfl⟩|⟨id,g,off,fin,cap,rfl,h2,h3,r⟩
 ·have:k=0:=by simpa using hk
  subst this
  exact⟨.l0,.inl ⟨rfl,by simp⟩,.inl rfl,fun g N=>Ai fun k=>rfl⟩
 rcases w with e|⟨id',g',off',n',fin',cap',e,hw⟩
 ·cases e
 cases e
 cases cap with
 |none=>
  have hw:fin=off+L.length*n:=hw
  refine⟨.l id g off k (off+k*n) (HH n k L.length),.inr ⟨id,g,off,off+k*n,HH n k L.length,by rw[htk],by rw[htk];exact Nat.le_refl _,h3,LF hc r⟩,.inr ⟨_,_,_,_,_,_,rfl,Tc⟩,fun g0 N=>Ai fun q=>?_⟩
  have e1:Nat.ble k L.length=true:=by rw[Nat.ble_eq];exact hk
  have e2:Nat.beq fin (Nat.add off (Nat.mul L.length n))=true:=by rw[hw];exact Nat.beq_refl _
  unfold GK
  simp only[DQ,Ct,Bj,e0,AF]
  show Dx n id g off L.length fin 0 k q=_
  unfold Dx
  rw[e1,AF,e2,AF,A8,A8,A8]
  show q (.l id g (off+0*n) (k-0) (off+k*n) (HH n k L.length))=_
  simp
 |some cc=>
  have hw2:18446744073709551616<=cc->L.length=0:=hw.2
  have hw:L.length<=cc:=hw.1
  have e1:Nat.ble k cc=true:=by rw[Nat.ble_eq];omega
  cases hfc:BY cc with
  |true=>
   have hcc:=HT hfc
   have hx:=hw2 hcc
   have hk0:k=0:=by omega
   subst hk0
   refine⟨.l id g off 0 off (some cc),.inr ⟨id,g,off,off,some cc,by simp,by simp,h3,LF hc r⟩,.inr ⟨_,_,_,_,_,_,rfl,Nat.zero_le _,fun _=>rfl⟩,fun g0 N=>Ai fun q=>?_⟩
   unfold GK
   simp only[DQ,Ct,Bj,e0,AF]
   show A5 (BY cc) (fun _=>Ap (Nat.beq 0 0) fun _=>q (.l id g off 0 off (some cc))) _=_
   rw[hfc];rfl
  |false=>
  have hcM:=Hi hfc
  cases cc with
  |zero=>
   have hx:L.length=0:=by omega
   have hk0:k=0:=by omega
   subst hk0
   refine⟨.l id g off 0 fin (some 0),.inr ⟨id,g,off,fin,some 0,by simp,by simp;omega,h3,LF hc r⟩,.inr ⟨_,_,_,_,_,_,rfl,Nat.le_refl _,fun _=>rfl⟩,fun g0 N=>Ai fun q=>?_⟩
   unfold GK
   simp only[DQ,Ct,Bj,e0,AF]
   rfl
  |succ cc=>
   refine⟨.l id g off k fin (some (cc+1)),.inr ⟨id,g,off,fin,some (cc+1),by rw[htk],by rw[htk];omega,h3,LF hc r⟩,.inr ⟨_,_,_,_,_,_,rfl,by show k<=cc+1;omega,fun h=>absurd hcM (Nat.not_lt.2 h)⟩,fun g0 N=>Ai fun q=>?_⟩
   unfold GK
   simp only[DQ,Ct,Bj,e0,AF]
   show A5 (BY (cc+1)) _ (fun _=>Bd n id g off L.length fin (cc+1) 0 k fun v=>q v)=_
   rw[hfc,BL,D7 hcM (by omega) (by omega)]
   simp
theorem Ss.Ml {kd kd':IntKind} {j k:Nat} (a:Ss n c h v L) (hc:∀ e,(c e).length=n) (w:LS n v) (hj:j<=k) (hk:k<=L.length):∃ u,Ss n c h u ((L.take k).drop j)/\LS n u/\∀ (g:H) (N:Nx),H3 P (Jh n) v (.i kd (j:Int)) (.i kd' (k:Int)) g N=N.go P u g:=by
 have e0:Nat.ble j k=true:=by rw[Nat.ble_eq];omega
 have hkn:k*n<=L.length*n:=Nat.mul_le_mul_right n hk
 have hjn:j*n+(k-j)*n=k*n:=by rw[<-Nat.add_mul];congr 1;omega
 have htk:((L.take k).drop j).length=k-j:=by rw[List.length_drop,List.length_take];omega
 rcases a with⟨rfl,rfl⟩|⟨id,g,off,fin,cap,rfl,h2,h3,r⟩
 ·obtain rfl:k=0:=by simpa using hk
  obtain rfl:j=0:=by omega
  exact⟨.l0,.inl ⟨rfl,by simp⟩,.inl rfl,fun g N=>Ai fun k=>rfl⟩
 rcases w with e|⟨id',g',off',n',fin',cap',e,hw⟩
 ·cases e
 cases e
 have hr:=P5 hc (LF (k:=k) hc r) (k:=j)
 cases cap with
 |none=>
  have hw:fin=off+L.length*n:=hw
  refine⟨.l id g (off+j*n) (k-j) (off+k*n) (HH n k L.length),.inr ⟨id,g,off+j*n,off+k*n,HH n k L.length,by rw[htk],by rw[htk];omega,h3,hr⟩,.inr ⟨_,_,_,_,_,_,rfl,?_⟩,fun g0 N=>Ai fun q=>?_⟩
  ·cases hk0:k with
   |zero=>(cases L.length with|zero=>(show _=_;rw[hk0]at hjn;omega)|succ l=>exact⟨by omega,fun _=>by omega⟩)
   |succ m=>(show _=_;rw[<-hk0];omega)
  have e1:Nat.ble k L.length=true:=by rw[Nat.ble_eq];exact hk
  have e2:Nat.beq fin (Nat.add off (Nat.mul L.length n))=true:=by rw[hw];exact Nat.beq_refl _
  unfold Jh
  simp only[DQ,Ct,Bj,e0,AF]
  show Dx n id g off L.length fin j k q=_
  unfold Dx
  rw[e1,AF,e2,AF,A8,A8,A8]
  rfl
 |some cc=>
  have hw2:18446744073709551616<=cc->L.length=0:=hw.2
  have hw:L.length<=cc:=hw.1
  cases hfc:BY cc with
  |true=>
   have hcc:=HT hfc
   have hx:=hw2 hcc
   obtain rfl:k=0:=by omega
   obtain rfl:j=0:=by omega
   refine⟨.l id g off 0 off (some cc),.inr ⟨id,g,off,off,some cc,by simp,by simp,h3,?_⟩,.inr ⟨_,_,_,_,_,_,rfl,Nat.zero_le _,fun _=>rfl⟩,fun g0 N=>Ai fun q=>?_⟩
   ·simpa using hr
   unfold Jh
   simp only[DQ,Ct,Bj,e0,AF]
   show A5 (BY cc) (fun _=>Ap (Nat.beq 0 0) fun _=>q (.l id g off 0 off (some cc))) _=_
   rw[hfc];rfl
  |false=>
  have hcM:=Hi hfc
  by_cases hjc:j=cc
  ·have hx:k=j:=by omega
   refine⟨.l id g off 0 fin (some 0),.inr ⟨id,g,off,fin,some 0,by rw[htk,hx];simp,by rw[htk,hx];simp;omega,h3,?_⟩,.inr ⟨_,_,_,_,_,_,rfl,Nat.le_refl _,fun _=>rfl⟩,fun g0 N=>Ai fun q=>?_⟩
   ·rw[List.drop_eq_nil_of_le (by rw[List.length_take];omega)]
    exact⟨fun hne=>absurd rfl hne,fun i v hv=>by simp at hv⟩
   ·unfold Jh
    simp only[DQ,Ct,Bj,e0,AF]
    show A5 (BY cc) _ (fun _=>Bd n id g off L.length fin cc j k fun v=>q v)=_
    rw[hfc,BL]
    have eM:Nat.ble (Nat.succ cc) 18446744073709551616=true:=by rw[Nat.ble_eq];exact hcM
    have e1:Nat.ble k cc=true:=by rw[Nat.ble_eq];omega
    unfold Bd
    rw[eM,AF]
    have e2:Nat.beq j cc=true:=by rw[hjc];exact Nat.beq_refl _
    rw[e1,AF,e2];rfl
  ·refine⟨.l id g (off+j*n) (k-j) fin (some (cc-j)),.inr ⟨id,g,off+j*n,fin,some (cc-j),by rw[htk],by rw[htk];omega,h3,hr⟩,.inr ⟨_,_,_,_,_,_,rfl,by show k-j<=cc-j;omega,fun h=>absurd hcM (by omega)⟩,fun g0 N=>Ai fun q=>?_⟩
   unfold Jh
   simp only[DQ,Ct,Bj,e0,AF]
   show A5 (BY cc) _ (fun _=>Bd n id g off L.length fin cc j k fun v=>q v)=_
   rw[hfc,BL,D7 hcM (by omega) (by omega)]
theorem Ss.lo {kd:IntKind} {k:Nat} (a:Ss n c h v L) (hc:∀ e,(c e).length=n) (w:LS n v) (hk:k<=L.length):∃ u,Ss n c h u (L.drop k)/\LS n u/\∀ (g:H) (N:Nx),H2 P (G6 n) v (.i kd (k:Int)) g N=N.go P u g:=by
 have e0:Nat.ble k L.length=true:=by rw[Nat.ble_eq];omega
 have hkn:k*n+(L.length-k)*n=L.length*n:=by rw[<-Nat.add_mul];congr 1;omega
 have htk:(L.drop k).length=L.length-k:=List.length_drop
 rcases a with⟨rfl,rfl⟩|⟨id,g,off,fin,cap,rfl,h2,h3,r⟩
 ·have:k=0:=by simpa using hk
  subst this
  exact⟨.l0,.inl ⟨rfl,by simp⟩,.inl rfl,fun g N=>Ai fun k=>rfl⟩
 rcases w with e|⟨id',g',off',n',fin',cap',e,hw⟩
 ·cases e
 cases e
 cases cap with
 |none=>
  have hw:fin=off+L.length*n:=hw
  refine⟨.l id g (off+k*n) (L.length-k) (off+L.length*n) none,.inr ⟨id,g,off+k*n,off+L.length*n,none,by rw[htk],by rw[htk];omega,h3,P5 hc r⟩,.inr ⟨_,_,_,_,_,_,rfl,by show off+L.length*n=off+k*n+(L.length-k)*n;omega⟩,fun g0 N=>Ai fun q=>?_⟩
  have e1:Nat.ble L.length L.length=true:=by rw[Nat.ble_eq];exact Nat.le_refl _
  have e2:Nat.beq fin (Nat.add off (Nat.mul L.length n))=true:=by rw[hw];exact Nat.beq_refl _
  unfold G6
  simp only[DQ,Ct,Bj,e0,AF]
  show Dx n id g off L.length fin k L.length q=_
  unfold Dx
  rw[e1,AF,e2,AF,A8,A8,A8,L7]
  rfl
 |some cc=>
  have hw2:18446744073709551616<=cc->L.length=0:=hw.2
  have hw:L.length<=cc:=hw.1
  have e1:Nat.ble L.length cc=true:=by rw[Nat.ble_eq];omega
  cases hfc:BY cc with
  |true=>
   have hcc:=HT hfc
   have hx:=hw2 hcc
   have hk0:k=0:=by omega
   subst hk0
   refine⟨.l id g off 0 off (some cc),.inr ⟨id,g,off,off,some cc,by rw[htk,hx],by rw[htk,hx];simp,h3,?_⟩,.inr ⟨_,_,_,_,_,_,rfl,Nat.zero_le _,fun _=>rfl⟩,fun g0 N=>Ai fun q=>?_⟩
   ·rw[List.drop_eq_nil_of_le (by omega)]
    exact⟨fun hne=>absurd rfl hne,fun i v hv=>by simp at hv⟩
   ·unfold G6
    simp only[DQ,Ct,Bj,e0,AF]
    show A5 (BY cc) (fun _=>Ap (Nat.beq L.length 0) fun _=>q (.l id g off 0 off (some cc))) _=_
    rw[hfc,hx];rfl
  |false=>
  have hcM:=Hi hfc
  have eM:Nat.ble (Nat.succ cc) 18446744073709551616=true:=by rw[Nat.ble_eq];exact hcM
  by_cases hkc:k=cc
  ·have hx:L.length=k:=by omega
   refine⟨.l id g off 0 fin (some 0),.inr ⟨id,g,off,fin,some 0,by rw[htk,hx];simp,by rw[htk,hx];simp;omega,h3,?_⟩,.inr ⟨_,_,_,_,_,_,rfl,Nat.le_refl _,fun _=>rfl⟩,fun g0 N=>Ai fun q=>?_⟩
   ·rw[List.drop_eq_nil_of_le (by omega)]
    exact⟨fun hne=>absurd rfl hne,fun i v hv=>by simp at hv⟩
   ·unfold G6
    simp only[DQ,Ct,Bj,e0,AF]
    show A5 (BY cc) _ (fun _=>Bd n id g off L.length fin cc k L.length fun v=>q v)=_
    rw[hfc,BL]
    unfold Bd
    rw[eM,AF]
    have e2:Nat.beq k cc=true:=by rw[hkc];exact Nat.beq_refl _
    rw[e1,AF,e2];rfl
  ·refine⟨.l id g (off+k*n) (L.length-k) fin (some (cc-k)),.inr ⟨id,g,off+k*n,fin,some (cc-k),by rw[htk],by rw[htk];omega,h3,P5 hc r⟩,.inr ⟨_,_,_,_,_,_,rfl,by show L.length-k<=cc-k;omega,fun h=>absurd hcM (by omega)⟩,fun g0 N=>Ai fun q=>?_⟩
   unfold G6
   simp only[DQ,Ct,Bj,e0,AF]
   show A5 (BY cc) _ (fun _=>Bd n id g off L.length fin cc k L.length fun v=>q v)=_
   rw[hfc,BL,D7 hcM (by omega) (by omega)]
/--the cells that are appended -/
theorem MQ (a:Ss n c h v L) (hc:∀ e,(c e).length=n) (hn:1<=n) (k:Nat->List V->Bool):DL n v h k=k L.length (L.flatMap c):=by
 rcases a with⟨rfl,rfl⟩|⟨id,g,off,fin,cap,rfl,hf,hl,r⟩
 ·rfl
 ·have hlen:=EB hc L
  cases hm:L.length with
  |zero=>
   have:L=[]:=List.eq_nil_of_length_eq_zero hm
   subst this;rfl
  |succ m=>
   rw[hm]at hlen hf
   show Bz h id g off fin (Nat.mul (m+1) n) (fun vs=>k (m+1) vs)=_
   have hne:L.flatMap c≠[]:=by
    intro e;rw[e]at hlen
    have h3:(m+1)*n=0:=hlen.symm
    rw[Nat.add_mul]at h3;omega
   rw[show Nat.mul (m+1) n=(L.flatMap c).length by rw[hlen];rfl,Cw r rfl hne (by rw[hlen];omega)]
/--append([]T{e},l...) -/
theorem AP.lit {id:B} {cs:List V} {el:Nat} (o:Own h id cs) (hcs:cs.length=n) (hn:1<=n) (hc:∀ e,(c e).length=n) (a:Ss n c h v L) (hf:B.val h.floor<=B.val h.next) (hb:(1+L.length)*n<=1048576)
 (k0:L=[]->N.go P (.l id 0 0 1 n (some 1)) h)
 (k1:∀ v' h',L≠[]->EY h' el n v' (cs++L.flatMap c)->Og h' v'->AZ AM h h'->(∀ i,BT v' i->B.val h.next<=B.val i)->N.go P v' h'):AP P el n (.l id 0 0 1 n (some 1)) v h N:=by
 have hlen:=EB hc L
 cases hm:L.length with
 |zero=>
  have:L=[]:=List.eq_nil_of_length_eq_zero hm
  subst this
  refine Dc (v:=.l id 0 0 1 n (some 1)) (h':=h) (fun k=>?_) (k0 rfl)
  rw[MQ a hc hn];rfl
 |succ m=>
  have hne:L≠[]:=by intro e;rw[e]at hm;simp at hm
  have hb1:1+L.length<=1048576:=by
   have:=Nat.mul_le_mul_left (1+L.length) hn
   omega
  have AR:(1+L.length)*n=n+L.length*n:=by rw[Nat.add_mul];omega
  obtain⟨h',a1,a2,a3,Af,b1,b2,b3,b4,b5,b6,b7⟩:=Dk el (cs++L.flatMap c) h (by rw[List.length_append];omega)
  refine Dc (v:=.l h.next 0 0 (1+L.length) ((1+L.length)*n) none) (h':=h') (fun k=>?_) (k1 _ h' hne ?_ ?_ a2 ?_)
  ·rw[MQ a hc hn]
   show A5 (Nat.ble (Nat.add 1 L.length) 1) (fun _=>Gn id 0 0 1 n 1 n L.length (L.flatMap c) h k) (fun _=>EK el id 0 0 1 n n L.length (L.flatMap c) h k)=_
   have e1:Nat.ble (Nat.add 1 L.length) 1=false:=by
    cases hx:Nat.ble (Nat.add 1 L.length) 1 with
    |false=>rfl
    |true=>have:=Nat.le_of_ble_eq_true hx;have h2:1+L.length<=1:=this;omega
   rw[e1]
   show EK el id 0 0 1 n n L.length (L.flatMap c) h k=_
   unfold EK
   have e2:Nat.ble (Nat.add 1 L.length) 1048576=true:=by rw[Nat.ble_eq];exact hb1
   rw[e2,AF,show Nat.mul 1 n=cs.length by rw[hcs];show 1*n=n;omega,Lo (by omega),Cw o.row rfl (by intro e;rw[e]at hcs;simp at hcs;omega) (by omega),EI,a1,A8,A8]
   rfl
  ·refine .inr ⟨h.next,0,1+L.length,Af,by rw[List.length_append,hlen,hcs,<-AR],by omega,by rw[List.length_append,hlen,hcs,<-AR],by rw[a2.floor];exact hf,by omega,b1,⟨by omega,by omega⟩,b4,b5,b6,b7⟩
  ·intro id' g off m' fin cap e
   cases e
   exact⟨Af,b1,b3⟩
  ·rintro i ⟨g,off,m',fin,cap,e⟩
   cases e;exact Nat.le_refl _
end
end Go.Ev
namespace Go.Ev
open Go Go.RowKit Go.WideShapes Go.ChangeShapes Go.ChangeAt Go.Deep
section
variable {H':Type} {enc:TypeId×Value->H'} {P:Program}
inductive Kd where
 |i (k:IntKind)
 |s
 |b
def Kd.ok (P:Program) (k:Kd) (t:TypeId):Prop:=match k with
 |.i k=>P.underlying t=some (.int k)
 |.s=>P.underlying t=some .string
 |.b=>P.underlying t=some .bool
def VJ (P:Program) (l:List Field):Nat->List Kd->Prop
 |_,[]=>True
 |n,k::ks=>(∃ f,l[n]? =some f/\f.offset=n/\P.cellsOf f.type=1/\k.ok P f.type)/\VJ P l (n+1) ks
/--a struct whose fields are numbers,texts,bools -/
structure U7 (P:Program) (t:TypeId) (fs:Array Field) (ks:List Kd):Prop where
 ut:P.underlying t=some (.struct fs)
 sz:P.cellsOf t=ks.length
 xD:VJ P fs.toList 0 ks
def Kd.fit (k:Kd) (c:Value):Prop:=match k with
 |.i k=>∃ n,c=.int k n/\(Lit.int k n).wf=true
 |.s=>∃ s:ByteArray,c=.string s/\s.size<=maxLen
 |.b=>∃ q,c=.bool q
def Fits:List Kd->List Value->Prop
 |[],cs=>cs=[]
 |k::ks,cs=>∃ c r,cs=c::r/\k.fit c/\Fits ks r
theorem RQ {W:World} {t:TypeId} {fs:Array Field} {ks:List Kd} {fuel:Nat} {cs:List Value} {x:DataW H'×List MemPlace} (F:U7 P t fs ks) (hd:DataW.trod enc P W 0 (fun _=>true) true fuel t cs=some x):Fits ks cs:=by
 have hf:cs.length=ks.length/\∀ (i:Nat) f,fs.toList[i]? =some f->∃ n y,DataW.trod enc P W 0 (fun _=>true) true n f.type ((cs.drop f.offset).take (P.cellsOf f.type))=some y:=by
  cases fuel with
  |zero=>simp[DataW.trod]at hd
  |succ n=>
   unfold DataW.trod at hd
   rw[F.ut]at hd
   simp only at hd
   split at hd
   ·rename_i hl
    refine⟨hl.trans F.sz,fun i f hf=>?_⟩
    rw[Option.map_eq_some_iff]at hd
    obtain⟨xs,hx,_⟩:=hd
    have:=mapM_some_get hx i f hf
    have hlen:=mapM_some_length hx
    have hi:i<xs.length:=by rw[hlen];exact(List.getElem?_eq_some_iff.1 hf).1
    exact⟨n,xs[i],by rw[this];simp⟩
   ·cases hd
 obtain⟨hl,hf⟩:=hf
 have go:∀ (ks:List Kd) (n:Nat),VJ P fs.toList n ks->cs.length=n+ks.length->Fits ks (cs.drop n):=by
  intro ks
  induction ks with
  |nil=>intro n _ e;exact List.drop_eq_nil_of_le (by rw[e];exact Nat.le_refl _)
  |cons k ks ih=>
   rintro n ⟨⟨f,g,o,c,u⟩,hr⟩ e
   have hlt:n<cs.length:=by rw[e,List.length_cons];omega
   have hc:cs.drop n=cs[n]::cs.drop (n+1):=List.drop_eq_getElem_cons hlt
   obtain⟨m,y,h⟩:=hf n f g
   rw[o,c,hc]at h
   refine⟨cs[n],cs.drop (n+1),hc,?_,ih (n+1) hr (by rw[e,List.length_cons];omega)⟩
   cases k with
   |i kd=>
    obtain⟨z,e1,_,z1⟩:=DataW.trod_int u h
    exact⟨z,(List.cons.inj e1).1,z1⟩
   |s=>
    obtain⟨z,e1,_,z1⟩:=DataW.trod_string u h
    exact⟨z,(List.cons.inj e1).1,z1⟩
   |b=>
    obtain⟨z,e1,_⟩:=DataW.trod_bool u h
    exact⟨z,(List.cons.inj e1).1⟩
 have:=go ks 0 F.xD (by rw[hl,Nat.zero_add])
 rwa [List.drop_zero]at this
theorem Qt (W:World) (q:Bool):Db W (.bool q)=.b q:=by unfold Db;rfl
/--a row of structs:c tells a struct's cells -/
theorem WY {α:Type} [Inhabited α] {c:α->List V} {n:Nat} {Pr:α->Prop} (hc:∀ a,(c a).length=n) (hn:1<=n) {W:World} {h:H} (s:Start W h) (h0:0<W.heap.size) {t e:TypeId} {fuel:Nat} {cs:List Value} {x:DataW H'×List MemPlace}
 (ht:P.underlying t=some (.slice e)) (sz:P.cellsOf e=n) (cell:∀ (fuel:Nat) (cs:List Value) (x:DataW H'×List MemPlace),DataW.trod enc P W 0 (fun _=>true) true fuel e cs=some x->∃ a,cs.map (Db W)=c a/\Pr a)
 (hd:DataW.trod enc P W 0 (fun _=>true) true fuel t cs=some x):∃ sv L,cs=[sv]/\Ss n c h (Db W sv) L/\L.length<=9223372036854775807/\∀ a∈L,Pr a:=by
 rcases open_slice ht hd with⟨rfl,_⟩|⟨a,len,cap,m,nn,D,Pl,rfl,hb,hl,hm,hmm,_,hx⟩
 ·exact⟨_,[],rfl,.inl ⟨rfl,rfl⟩,by simp,fun e he=>by cases he⟩
 simp only[if_true]at hmm
 rw[sz]at hx
 have hx':∀ i,i<len->∃ E:α×List Value,E.2.map (Db W)=c E.1/\Pr E.1/\(∀ d y,E.2[d]? =some y->W.cell? ⟨a.block,a.off+i*n+d,none⟩=some y)/\(0<len->a.spot=none):=by
  intro i hi
  obtain⟨cs',h1,h2⟩:=hx i (by omega)
  obtain⟨z,e1,e2⟩:=cell _ _ _ h2
  have hlen':cs'.length=n:=by have:=congrArg List.length e1;rwa [List.length_map,hc]at this
  obtain⟨_,_,h3⟩:=World.cells?_some h1
  refine⟨(z,cs'),e1,e2,fun d y hy=>?_,fun _=>?_⟩
  ·have hd:d<n:=by have:d<cs'.length:=(List.getElem?_eq_some_iff.1 hy).1;omega
   have hy:cs'[d]? =some y:=hy
   have h4:=h3 d hd
   rw[hy]at h4
   have h5:=S9 h4
   have e1:(a.add (i*n)).block=a.block:=by unfold Addr.add;split<;>rfl
   have e2:(a.add (i*n)).off=a.off+i*n:=by
    unfold Addr.add;split
    ·rename_i hz;rw[hz];rfl
    ·rfl
   rw[e1,e2]at h5
   exact h5
  ·obtain⟨cs0,g1,g2⟩:=hx 0 (by omega)
   obtain⟨z0,e3,_⟩:=cell _ _ _ g2
   have hl0:cs0.length=n:=by have:=congrArg List.length e3;rwa [List.length_map,hc]at this
   obtain⟨_,_,g3⟩:=World.cells?_some g1
   have g4:=g3 0 (by omega)
   rw[List.getElem?_eq_getElem (by omega)]at g4
   have g5:=World.cell?_spot g4
   unfold Addr.add at g5
   simpa using g5
 haveI:Inhabited (α×List Value):=⟨(default,[])⟩
 obtain⟨E,hE⟩:=choose_lt (α:=α×List Value) (p:=fun i r=>r.2.map (Db W)=c r.1/\Pr r.1/\(∀ d y,r.2[d]? =some y->W.cell? ⟨a.block,a.off+i*n+d,none⟩=some y)/\(0<len->a.spot=none)) hx'
 have hL:((List.range len).map fun i=>(E i).1).length=len:=by simp
 refine⟨_,(List.range len).map fun i=>(E i).1,rfl,?_,by rw[hL];exact SD (by omega),fun e he=>?_⟩
 ·obtain⟨b,off,spot⟩:=a
  cases len with
  |zero=>
   have e:Db W (.slice (some ⟨b,off,spot⟩) 0 cap)=.l (nb 0) 0 0 0 0 none:=by unfold Db;simp only[if_pos h0]
   rw[e]
   exact .inr ⟨nb 0,0,0,0,none,rfl,by simp,(s.Af 0 h0).1,fun hne=>absurd rfl hne,fun i v hv=>by simp at hv⟩
  |succ m=>
   have hs':spot=none:=(hE 0 (by omega)).2.2.2 (by omega)
   subst hs'
   have hcell:∀ i,i<m+1->∀ d y,(E i).2[d]? =some y->b<W.heap.size/\off+i*n+d<LU W b/\(∃ Af,h.heap.get (nb b)=some Af/\Af.min<=0)/\Ev.cell h (nb b) 0 (off+i*n+d)=some (Db W y):=
    fun i hi d y hy=>s.cell ((hE i hi).2.2.1 d y hy)
   have hEl:∀ i,i<m+1->(E i).2.length=n:=fun i hi=>by have:=congrArg List.length (hE i hi).1;rwa [List.length_map,hc]at this
   obtain⟨d1,d2,d3,d4⟩:=hcell m (by omega) (n-1) _ (List.getElem?_eq_getElem (by rw[hEl m (by omega)];omega))
   have e:Db W (.slice (some ⟨b,off,none⟩) (m+1) cap)=.l (nb b) 0 off (m+1) (LU W b) (some cap):=by unfold Db;simp only[if_pos (⟨d1,hl,Nat.lt_of_le_of_lt hm Rm⟩:b<W.heap.size/\m+1<=cap/\cap<18446744073709551616)]
   rw[e]
   have hmul:(m+1)*n=m*n+n:=by rw[Nat.add_mul,Nat.one_mul]
   refine .inr ⟨nb b,0,off,LU W b,some cap,by rw[hL],by rw[hL,hmul];omega,(s.Af b d1).1,fun _=>d3,fun j v hv=>?_⟩
   have hj:j<(((List.range (m+1)).map fun i=>(E i).1).flatMap c).length:=(List.getElem?_eq_some_iff.1 hv).1
   rw[EB hc,hL]at hj
   obtain⟨i,d,rfl,hd,hi⟩:∃ i d,j=i*n+d/\d<n/\i<m+1:=⟨j/n,j%n,by rw[Nat.mul_comm];exact(Nat.div_add_mod j n).symm,Nat.mod_lt _ (by omega),Nat.div_lt_of_lt_mul (by rw[Nat.mul_comm];exact hj)⟩
   rw[PJ hc (by rw[hL];exact hi) hd]at hv
   have hG:((List.range (m+1)).map fun i=>(E i).1).getD i default=(E i).1:=by simp[List.getD,hi]
   have hy:(E i).2[d]? =some ((E i).2[d]'(by rw[hEl i hi];exact hd)):=List.getElem?_eq_getElem _
   generalize (E i).2[d]'(by rw[hEl i hi];exact hd)=y at hy
   rw[hG,<-(hE i hi).1]at hv
   have:((E i).2.map (Db W)).getD d .u=Db W y:=by simp[List.getD,hy]
   rw[this]at hv
   cases hv
   rw[<-Nat.add_assoc]
   exact(hcell i hi d y hy).2.2.2
 ·obtain⟨i,hi,rfl⟩:=List.mem_map.1 he
  rw[List.mem_range]at hi
  exact(hE i hi).2.1
end
end Go.Ev
namespace Go.Ev
open Go
/--the bytes of a number,the highest first,no 0 ahead -/
def DT (n:Nat):List UInt8:=if h:n=0 then []else DT (n/256)++[UInt8.ofNat (n%256)]
decreasing_by omega
theorem Dh:DT 0=[]:=by rw[DT];simp
theorem Fz {n:Nat} (h:n≠0):DT n=DT (n/256)++[UInt8.ofNat (n%256)]:=by rw[DT];simp[h]
theorem OS:∀ (k n:Nat),n<256 ^ k->(DT n).length<=k
 |0,n,h=>by
  have:n=0:=by simp at h;exact h
  subst this;rw[Dh];simp
 |k+1,n,h=>by
  by_cases hn:n=0
  ·subst hn;rw[Dh];simp
  ·rw[Fz hn,List.length_append]
   have:=OS k (n/256) (by rw[Nat.pow_succ]at h;omega)
   simp;exact this
theorem NB (n:Nat):pk (DT n)=n:=by
 induction n using Nat.strongRecOn with
 |_ n ih=>
  by_cases hn:n=0
  ·subst hn;rw[Dh];rfl
  ·rw[Fz hn,DP,ih (n/256) (by omega)]
   simp[pk]
   omega
theorem RN (n:Nat):(DT n).head? ≠some 0:=by
 induction n using Nat.strongRecOn with
 |_ n ih=>
  by_cases hn:n=0
  ·subst hn;rw[Dh];simp
  ·rw[Fz hn]
   by_cases h2:n/256=0
   ·rw[h2,Dh]
    intro h
    have h3:UInt8.ofNat (n%256)=0:=by simpa using h
    have h4:=congrArg UInt8.toNat h3
    simp at h4
    omega
   ·have:=ih (n/256) (by omega)
    cases hd:DT (n/256)with
    |nil=>
     have:=NB (n/256)
     rw[hd]at this
     exact absurd this.symm h2
    |cons c l=>rw[hd]at this;simpa using this
theorem Od {c:UInt8} {l:List UInt8} (h:c≠0):256 ^ l.length<=pk (c::l):=by
 have:1<=c.toNat:=by
  rcases Nat.eq_zero_or_pos c.toNat with h1|h1
  ·exact absurd (UInt8.toNat_inj.1 h1) h
  ·exact h1
 have:=Nat.mul_le_mul_right (256 ^ l.length) this
 rw[pk];omega
/--digits without a 0 ahead are the digits of their number -/
theorem WJ:∀ (l:List UInt8),l.head? ≠some 0->DT (pk l)=l:=by
 intro l
 induction hl:l.length using Nat.strongRecOn generalizing l with
 |_ n ih=>
  intro hh
  rcases List.eq_nil_or_concat l with rfl|⟨r,c,rfl⟩
  ·exact Dh
  ·simp only[List.concat_eq_append]at hl hh⊢
   have hc:c.toNat<256:=c.toNat_lt
   have e1:pk (r++[c])=pk r*256+c.toNat:=by rw[DP];simp[pk]
   have hne:pk (r++[c])≠0:=by
    cases r with
    |nil=>
     intro h0
     have:c=0:=UInt8.toNat_inj.1 (by rw[e1]at h0;simp[pk]at h0;exact h0)
     subst this
     simp at hh
    |cons d r=>
     have hd:d≠0:=fun h0=>hh (by rw[h0];rfl)
     have:=Od (l:=r) hd
     have hp:0<256 ^ r.length:=Nat.pow_pos (by omega)
     omega
   rw[Fz hne,e1]
   have e2:(pk r*256+c.toNat)/256=pk r:=by omega
   have e3:(pk r*256+c.toNat)%256=c.toNat:=by omega
   rw[e2,e3]
   have hr:r.head? ≠some 0:=by
    cases r with
    |nil=>simp
    |cons d r=>simpa using hh
   rw[ih r.length (by rw[<-hl];simp) r rfl hr]
   simp
/--digits that are no number -/
def Ju (l:List UInt8):Prop:=l.head? =some 0\/9223372036854775808<=pk l
instance (l:List UInt8):Decidable (Ju l):=by unfold Ju;exact inferInstance
/--what reading digits makes -/
def fp (l:List UInt8):V:=if Ju l then .tu [.i .i64 0,.b false]else .tu [.i .i64 (pk l:Int),.b true]
theorem Iq {l:List UInt8} (h:Ju l):fp l=.tu [.i .i64 0,.b false]:=if_pos h
theorem QT {l:List UInt8} (h:¬Ju l):fp l=.tu [.i .i64 (pk l:Int),.b true]:=if_neg h
/--a number's cell -/
def A7 (n:Nat):List UInt8:=UInt8.ofNat (DT n).length::DT n
def Al (l:List UInt8):List UInt8:=A7 l.length++l
theorem HY {n:Nat} (h:n<=9223372036854775807):(DT n).length<=8:=OS 8 n (by omega)
theorem BO {n:Nat} (h:n<=9223372036854775807):(A7 n).length<=9:=by
 have:=HY h
 show(DT n).length+1<=9
 omega
/--what stands at the front -/
def takeN:List UInt8->Int×Int×Int
 |[]=>(0,0,12)
 |w::r=>if 8<w.toNat then (0,0,10)else if r.length<w.toNat then (0,0,12)else
  if (r.take w.toNat).head? =some 0\/9223372036854775808<=pk (r.take w.toNat)then (0,0,10)else (((pk (r.take w.toNat):Nat):Int),((w.toNat+1:Nat):Int),0)
def A2 (l:List UInt8):List UInt8×Int×Int:=
 if (takeN l).2.2=0 then
  if ((l.drop (takeN l).2.1.toNat).length:Int)<(takeN l).1 then ([],0,12)else ((l.drop (takeN l).2.1.toNat).take (takeN l).1.toNat,(takeN l).2.1+(takeN l).1,0)
 else ([],0,(takeN l).2.2)
theorem GX (w:UInt8) (r:List UInt8):takeN (w::r)=if 8<w.toNat then (0,0,10)else if r.length<w.toNat then (0,0,12)else
 if (r.take w.toNat).head? =some 0\/9223372036854775808<=pk (r.take w.toNat)then (0,0,10)else (((pk (r.take w.toNat):Nat):Int),((w.toNat+1:Nat):Int),0):=rfl
theorem Rl:takeN []=(0,0,12):=rfl
theorem HO {w:UInt8} {r:List UInt8} (h:8<w.toNat):takeN (w::r)=(0,0,10):=by rw[GX,if_pos h]
theorem Fj {w:UInt8} {r:List UInt8} (h:w.toNat<=8) (h1:r.length<w.toNat):takeN (w::r)=(0,0,12):=by rw[GX,if_neg (by omega),if_pos h1]
theorem HQ {w:UInt8} {r:List UInt8} (h:w.toNat<=8) (h1:w.toNat<=r.length) (h2:(r.take w.toNat).head? =some 0\/9223372036854775808<=pk (r.take w.toNat)):takeN (w::r)=(0,0,10):=by
 rw[GX,if_neg (by omega),if_neg (by omega),if_pos h2]
theorem Gx {w:UInt8} {r:List UInt8} (h:w.toNat<=8) (h1:w.toNat<=r.length) (h2:¬((r.take w.toNat).head? =some 0\/9223372036854775808<=pk (r.take w.toNat))):takeN (w::r)=(((pk (r.take w.toNat):Nat):Int),((w.toNat+1:Nat):Int),0):=by
 rw[GX,if_neg (by omega),if_neg (by omega),if_neg h2]
/--what it may be -/
theorem Bi (l:List UInt8):(takeN l=(0,0,10)\/takeN l=(0,0,12))\/∃ n k:Nat,takeN l=((n:Int),(k:Int),0)/\n<=9223372036854775807/\1<=k/\k<=9/\k<=l.length:=by
 cases l with
 |nil=>exact .inl (.inr rfl)
 |cons w r=>
  by_cases h:8<w.toNat
  ·exact .inl (.inl (HO h))
  ·by_cases h1:r.length<w.toNat
   ·exact .inl (.inr (Fj (by omega) h1))
   ·by_cases h2:(r.take w.toNat).head? =some 0\/9223372036854775808<=pk (r.take w.toNat)
    ·exact .inl (.inl (HQ (by omega) (by omega) h2))
    ·refine .inr ⟨_,_,Gx (by omega) (by omega) h2,by omega,by omega,by omega,by simp;omega⟩
/--the value of digits,byte by byte -/
theorem Hj {l:List UInt8} {i:Nat} (h:i<l.length):pk (l.take (i+1))=pk (l.take i)*256+(l.getD i 0).toNat:=by
 have e:l.getD i 0=l[i]:=by simp[List.getD,h]
 rw[List.take_succ_eq_append_getElem h,DP,e]
 simp[pk]
theorem B5 {n:Nat} (h:n<=9223372036854775807) (more:List UInt8):takeN (A7 n++more)=((n:Int),((A7 n).length:Int),0):=by
 have hl:=HY h
 have e1:(UInt8.ofNat (DT n).length).toNat=(DT n).length:=by simp;omega
 have e2:(DT n++more).take (DT n).length=DT n:=by simp
 have:takeN (A7 n++more)=(((pk ((DT n++more).take (UInt8.ofNat (DT n).length).toNat):Nat):Int),(((UInt8.ofNat (DT n).length).toNat+1:Nat):Int),0):=by
  refine Gx (by omega) (by rw[e1];simp) ?_
  have e3:(DT n).append more=DT n++more:=rfl
  rw[e1,e3,e2,NB]
  rintro(h2|h2)
  ·exact RN n h2
  ·omega
 rw[this,e1,e2,NB]
 rfl
theorem Fe {l more:List UInt8} (h:l.length<=9223372036854775807):A2 (Al l++more)=(l,((Al l).length:Int),0):=by
 have e:takeN (Al l++more)=((l.length:Int),((A7 l.length).length:Int),0):=by
  unfold Al;rw[List.append_assoc];exact B5 h _
 unfold A2
 rw[e]
 simp only[if_true]
 have e2:(Al l++more).drop (((A7 l.length).length:Nat):Int).toNat=l++more:=by
  rw[Int.toNat_natCast];unfold Al;rw[List.append_assoc];simp
 rw[e2,if_neg (by simp;omega)]
 rw[Int.toNat_natCast]
 unfold Al
 simp
theorem VK {r:List UInt8} {k:Nat} (h8:k<=8) (h1:k<=r.length):Ju (r.take k)↔(0<k/\(r.getD 0 0).toNat=0)\/(k=8/\128<=(r.getD 0 0).toNat):=by
 cases k with
 |zero=>
  constructor
  ·rintro(h|h)
   ·simp at h
   ·simp[pk]at h
  ·rintro(h|h)<;>omega
 |succ k=>
  cases r with
  |nil=>simp at h1
  |cons c r=>
   have e:(c::r).getD 0 0=c:=rfl
   have hl:(r.take k).length=k:=by rw[List.length_take];simp at h1;omega
   have h2:=KI (r.take k)
   have ep:pk (c::r.take k)=c.toNat*256 ^ k+pk (r.take k):=by rw[pk,hl]
   rw[hl]at h2
   rw[e,List.take_succ_cons]
   constructor
   ·rintro(h|h)
    ·have:c=0:=by simpa using h
     exact .inl ⟨by omega,by rw[this];rfl⟩
    ·rw[ep]at h
     by_cases hk:k=7
     ·subst hk;exact .inr ⟨rfl,by omega⟩
     ·have h3:256 ^ k<=256 ^ 6:=Nat.pow_le_pow_right (by omega) (by omega)
      have h4:c.toNat*256 ^ k<=255*256 ^ k:=Nat.mul_le_mul_right _ (by have:=c.toNat_lt;omega)
      have:(256:Nat) ^ 6=281474976710656:=by decide
      omega
   ·rintro(h|h)
    ·exact .inl (by rw[show c=0 from UInt8.toNat_inj.1 h.2];rfl)
    ·have hk:k=7:=by omega
     subst hk
     exact .inr (by rw[ep];omega)
/--three results -/
def Hf (a:Int×Int×Int):V:=.tu [.i .i64 a.1,.i .i64 a.2.1,.i .i64 a.2.2]
def GZ (a:List UInt8×Int×Int):V:=.tu [sv a.1,.i .i64 a.2.1,.i .i64 a.2.2]
theorem ZD (n:Nat):UInt8.ofNat (n%256)=UInt8.ofNat n:=UInt8.toNat_inj.1 (by simp)
theorem Ln {α:Type} (xs:List α) (j:Nat) (y:α) (h:j<xs.length):(xs.set j y).drop j=y::xs.drop (j+1):=by
 rw[List.drop_eq_getElem_cons (by rw[List.length_set];exact h),List.drop_set_of_lt (by omega)]
 simp
end Go.Ev
namespace Go.Ev
open Go
structure XM where
 key:List UInt8
 seq:Int
 del:Bool
 val:List UInt8
deriving DecidableEq
def vX:XM:=⟨[],0,false,[]⟩
instance:Inhabited XM:=⟨vX⟩
def mg (e:XM):List V:=[sv e.key,.i .i64 e.seq,.b e.del,sv e.val]
theorem Ij (e:XM):(mg e).length=4:=rfl
def Es (h:H) (v:V) (L:List XM):Prop:=Ss 4 mg h v L
section
variable {P:Program} {h h' g':H} {N:Nx} {v:V} {L:List XM} {i d:Nat}
theorem Es.l0 (a:Es h v L) (hi:i<L.length):L1 P (I4 v) (lg v) (EH v+i*4) (EW v) h N=N.go P (sv (L.getD i default).key) h:=Ss.ld (d:=0) a Ij hi (by omega)
theorem Es.l1 (a:Es h v L) (hi:i<L.length):L1 P (I4 v) (lg v) (EH v+i*4+1) (EW v) h N=N.go P (.i .i64 (L.getD i default).seq) h:=Ss.ld (d:=1) a Ij hi (by omega)
theorem Es.l2 (a:Es h v L) (hi:i<L.length):L1 P (I4 v) (lg v) (EH v+i*4+2) (EW v) h N=N.go P (.b (L.getD i default).del) h:=Ss.ld (d:=2) a Ij hi (by omega)
theorem Es.l3 (a:Es h v L) (hi:i<L.length):L1 P (I4 v) (lg v) (EH v+i*4+3) (EW v) h N=N.go P (sv (L.getD i default).val) h:=Ss.ld (d:=3) a Ij hi (by omega)
theorem Es.grow (a:Es h v L) (s:AZ AM h h'):Es h' v L:=Ss.grow a s
end
/--of a write -/
def Oh (key:List UInt8) (del:Bool) (val:List UInt8):Bool:=decide (1<=key.length/\key.length<=13/\val.length<=24/\(del=true->val=[]))
section
variable {k v:List UInt8} {d:Bool}
theorem Ta (h:(k.length:Int)<1):Oh k d v=false:=by unfold Oh;rw[decide_eq_false_iff_not];rintro⟨a,_⟩;omega
theorem Ui (h:13<(k.length:Int)):Oh k d v=false:=by unfold Oh;rw[decide_eq_false_iff_not];rintro⟨_,a,_⟩;omega
theorem Vg (h:24<(v.length:Int)):Oh k d v=false:=by unfold Oh;rw[decide_eq_false_iff_not];rintro⟨_,_,a,_⟩;omega
theorem Xy (h1:1<=(k.length:Int)) (h2:(k.length:Int)<=13) (hd:d=true):Oh k d v=decide (v=[]):=by
 subst hd;unfold Oh;congr 1
 refine propext ⟨fun h=>h.2.2.2 rfl,fun e=>?_⟩
 subst e;exact⟨by omega,by omega,by simp,fun _=>rfl⟩
theorem X3 (h1:1<=(k.length:Int)) (h2:(k.length:Int)<=13) (hd:d=false):Oh k d v=decide ((v.length:Int)<=24):=by
 subst hd;unfold Oh;congr 1
 exact propext ⟨fun h=>by omega,fun e=>⟨by omega,by omega,by omega,fun h=>by cases h⟩⟩
end
theorem Dw {x y:UInt8} {a b:List UInt8}:Op.bytesLess (x::a) (y::b)=true↔x.toNat<y.toNat\/(x=y/\Op.bytesLess a b=true):=by
 simp only[Op.bytesLess,Bool.or_eq_true,Bool.and_eq_true,decide_eq_true_eq,beq_iff_eq,UInt8.lt_iff_toNat_lt]
theorem Pp:∀ l:List UInt8,Op.bytesLess l l=false
 |[]=>rfl
 |c::l=>by
  cases h:Op.bytesLess (c::l) (c::l)with
  |false=>rfl
  |true=>
   rcases Dw.1 h with h|⟨_,h⟩
   ·omega
   ·rw[Pp l]at h;cases h
theorem Nc:∀ {a b c:List UInt8},Op.bytesLess a b=true->Op.bytesLess b c=true->Op.bytesLess a c=true
 |a,[],c,h,_=>by cases a<;>cases h
 |_,_::_,[],_,h=>by cases h
 |[],_::_,_::_,_,_=>rfl
 |x::a,y::b,z::c,h,g=>by
  rcases Dw.1 h with h1|⟨h1,h2⟩<;>rcases Dw.1 g with g1|⟨g1,g2⟩
  ·exact Dw.2 (.inl (by omega))
  ·exact Dw.2 (.inl (by rw[<-g1];exact h1))
  ·exact Dw.2 (.inl (by rw[h1];exact g1))
  ·exact Dw.2 (.inr ⟨h1.trans g1,Nc h2 g2⟩)
theorem QY {a b:List UInt8} (h:Op.bytesLess a b=true):Op.bytesLess b a=false:=by
 cases g:Op.bytesLess b a with
 |false=>rfl
 |true=>have:=Nc h g;rw[Pp]at this;cases this
theorem OQ:∀ {a b:List UInt8},a≠b->Op.bytesLess a b=true\/Op.bytesLess b a=true
 |[],[],h=>absurd rfl h
 |[],_::_,_=>.inl rfl
 |_::_,[],_=>.inr rfl
 |x::a,y::b,h=>by
  by_cases e:x=y
  ·subst e
   rcases OQ (a:=a) (b:=b) (fun e=>h (by rw[e]))with g|g
   ·exact .inl (Dw.2 (.inr ⟨rfl,g⟩))
   ·exact .inr (Dw.2 (.inr ⟨rfl,g⟩))
  ·have:x.toNat≠y.toNat:=fun g=>e (UInt8.toNat_inj.1 g)
   rcases Nat.lt_or_ge x.toNat y.toNat with g|g
   ·exact .inl (Dw.2 (.inl g))
   ·exact .inr (Dw.2 (.inl (by omega)))
section
variable {s k v:List UInt8} {n m j:Nat} {q e:Int}
end
end Go.Ev
namespace Go.Ev
open Go
/--the sum's two parts,one byte further -/
def Fk (p:Nat×Nat) (c:UInt8):Nat×Nat:=((p.1+c.toNat)%65521,(p.2+(p.1+c.toNat)%65521)%65521)
def SI (p:Nat×Nat) (l:List UInt8):Nat×Nat:=l.foldl Fk p
def N9 (l:List UInt8):Nat×Nat:=SI (1,0) l
def Er (l:List UInt8):Nat:=(N9 l).2*65536+(N9 l).1
theorem No (p:Nat×Nat) (a b:List UInt8):SI p (a++b)=SI (SI p a) b:=List.foldl_append
theorem Xa {p:Nat×Nat} (h1:p.1<65521) (h2:p.2<65521):∀ l,(SI p l).1<65521/\(SI p l).2<65521:=by
 intro l
 induction l generalizing p with
 |nil=>exact⟨h1,h2⟩
 |cons c l ih=>exact ih (p:=Fk p c) (Nat.mod_lt _ (by omega)) (Nat.mod_lt _ (by omega))
theorem PE (l:List UInt8):(N9 l).1<65521/\(N9 l).2<65521:=Xa (by decide) (by decide) l
theorem NG (l:List UInt8):Er l<4294967296:=by
 have:=PE l
 unfold Er;omega
theorem SR (l:List UInt8) (c:UInt8):N9 (l++[c])=Fk (N9 l) c:=by
 unfold N9;rw[No];rfl
/--four bytes of a number,the highest first -/
def C3 (n:Nat):List UInt8:=[UInt8.ofNat (n/16777216),UInt8.ofNat (n/65536),UInt8.ofNat (n/256),UInt8.ofNat n]
theorem JS (n:Nat):(C3 n).length=4:=rfl
def B7 (l:List UInt8):List UInt8:=A7 l.length++C3 (Er l)++l
theorem Dm (l:List UInt8):(B7 l).length=(A7 l.length).length+4+l.length:=by
 unfold B7;rw[List.length_append,List.length_append,JS]
/--what is sealed at the front -/
def CV (l:List UInt8):List UInt8×Int×Int:=
 if (takeN l).2.2=12 then ([],0,12)else if (takeN l).2.2≠0 then ([],0,13)else
 if ((l.length:Int)-(takeN l).2.1<4\/(l.length:Int)-(takeN l).2.1-4<(takeN l).1)then ([],0,12)else
 if C3 (Er ((l.drop ((takeN l).2.1.toNat+4)).take (takeN l).1.toNat))≠(l.drop (takeN l).2.1.toNat).take 4 then ([],0,13)else
 ((l.drop ((takeN l).2.1.toNat+4)).take (takeN l).1.toNat,(takeN l).2.1+4+(takeN l).1,0)
/--with a number at the front -/
theorem GB {l:List UInt8} {n k:Nat} (h:takeN l=((n:Int),(k:Int),0)):CV l=if ((l.length:Int)-k<4\/(l.length:Int)-k-4<n)then ([],0,12)else
 if C3 (Er ((l.drop (k+4)).take n))≠(l.drop k).take 4 then ([],0,13)else ((l.drop (k+4)).take n,(k:Int)+4+n,0):=by
 unfold CV
 rw[h]
 simp only[Int.toNat_natCast]
 rw[if_neg (by decide),if_neg (by simp)]
theorem C9 {l more:List UInt8} (h:l.length<=9223372036854775807):CV (B7 l++more)=(l,((B7 l).length:Int),0):=by
 have e:B7 l++more=A7 l.length++(C3 (Er l)++l++more):=by unfold B7;simp
 have ht:takeN (B7 l++more)=((l.length:Int),((A7 l.length).length:Int),0):=by rw[e];exact B5 h _
 rw[GB ht]
 have hlen:(B7 l++more).length=(A7 l.length).length+4+l.length+more.length:=by rw[List.length_append,Dm]
 have d1:(B7 l++more).drop (A7 l.length).length=C3 (Er l)++l++more:=by rw[e,List.drop_left]
 have d2:(B7 l++more).drop ((A7 l.length).length+4)=l++more:=by
  rw[<-List.drop_drop,d1]
  show(C3 (Er l)++l++more).drop (C3 (Er l)).length=_
  rw[List.append_assoc,List.drop_left]
 have d3:(C3 (Er l)++l++more).take 4=C3 (Er l):=by
  show(C3 (Er l)++l++more).take (C3 (Er l)).length=_
  rw[List.append_assoc,List.take_left]
 rw[if_neg (by omega),d1,d2,d3,List.take_left,if_neg (by simp),Dm]
 congr 1
end Go.Ev
namespace Go.Ev
open Go
theorem OV {l:List UInt8} {i:Nat} (h:i<l.length):N9 (l.take (i+1))=Fk (N9 (l.take i)) (l.getD i 0):=by
 rw[<-SR]
 congr 1
 rw[List.take_succ_eq_append_getElem h]
 simp[List.getD,h]
theorem Fg (l:List UInt8):CV l=([],0,12)\/CV l=([],0,13)\/∃ (x:List UInt8) (n:Nat),CV l=(x,(n:Int),0)/\5<=n/\n<=l.length/\x.length+5<=n:=by
 rcases Bi l with(hc|hc)|⟨n,k,hc,h1,h2,h3,h4⟩
 ·right;left;unfold CV;rw[hc];rfl
 ·left;unfold CV;rw[hc];rfl
 ·rw[GB hc]
  by_cases c1:((l.length:Int)-k<4\/(l.length:Int)-k-4<n)
  ·rw[if_pos c1];exact .inl rfl
  ·rw[if_neg c1]
   by_cases c2:C3 (Er ((l.drop (k+4)).take n))≠(l.drop k).take 4
   ·rw[if_pos c2];exact .inr (.inl rfl)
   ·rw[if_neg c2]
    refine .inr (.inr ⟨_,k+4+n,rfl,by omega,by omega,?_⟩)
    rw[List.length_take];omega
theorem Rc {l:List UInt8} {n k:Nat} (h:takeN l=((n:Int),(k:Int),0)):l.take k=A7 n:=by
 cases l with
 |nil=>rw[Rl]at h;cases h
 |cons w r=>
  rcases Nat.lt_or_ge 8 w.toNat with h1|h1
  ·rw[HO h1]at h;cases h
  rcases Nat.lt_or_ge r.length w.toNat with h2|h2
  ·rw[Fj h1 h2]at h;cases h
  by_cases hb:Ju (r.take w.toNat)
  ·rw[HQ h1 h2 hb]at h;cases h
  ·rw[Gx h1 h2 hb]at h
   injection h with e1 e2
   injection e2 with e2 _
   have e1:pk (r.take w.toNat)=n:=by omega
   have e2:w.toNat+1=k:=by omega
   subst e1;subst e2
   unfold A7
   rw[WJ _ (fun hh=>hb (.inl hh)),List.length_take,Nat.min_eq_left h2]
   simp
/--what is opened was sealed -/
theorem Lz {l x:List UInt8} {n:Nat} (h:CV l=(x,(n:Int),0)):∃ more,l=B7 x++more:=by
 rcases Bi l with(hc|hc)|⟨m,k,hc,h1,h2,h3,h4⟩
 ·unfold CV at h;rw[hc]at h;cases h
 ·unfold CV at h;rw[hc]at h;cases h
 ·rw[GB hc]at h
  by_cases c1:((l.length:Int)-k<4\/(l.length:Int)-k-4<m)
  ·rw[if_pos c1]at h;cases h
  ·rw[if_neg c1]at h
   by_cases c2:C3 (Er ((l.drop (k+4)).take m))≠(l.drop k).take 4
   ·rw[if_pos c2]at h;cases h
   ·rw[if_neg c2]at h
    have c2:=Decidable.not_not.1 c2
    injection h with e1 e2
    refine⟨(l.drop (k+4)).drop m,?_⟩
    have hx:x.length=m:=by rw[<-e1,List.length_take,List.length_drop];omega
    have a1:l=l.take k++((l.drop k).take 4++((l.drop (k+4)).take m++(l.drop (k+4)).drop m)):=by
     rw[List.take_append_drop,<-List.drop_drop,List.take_append_drop,List.take_append_drop]
    rw[Rc hc,<-c2,e1]at a1
    unfold B7
    rw[hx]
    simpa using a1
end Go.Ev
namespace Go.Ev
open Go
structure Bs where
 key:List UInt8
 del:Bool
 val:List UInt8
deriving DecidableEq
def uZ:Bs:=⟨[],false,[]⟩
instance:Inhabited Bs:=⟨uZ⟩
def Fu (w:Bs):List V:=[sv w.key,.b w.del,sv w.val]
theorem Cs (w:Bs):(Fu w).length=3:=rfl
def Ws (h:H) (v:V) (L:List Bs):Prop:=Ss 3 Fu h v L
section
variable {P:Program} {h h' g':H} {N:Nx} {v:V} {L:List Bs} {i d:Nat}
theorem Ws.ln (a:Ws h v L):H1 P PA v g' N=N.go P (.i .i64 (L.length:Int)) g':=Ss.ln a
theorem Ws.ix (a:Ws h v L) (hi:i<L.length):IX P 3 v i g' N=N.go P (.p (I4 v) (lg v) (EH v+i*3) (EW v)) g':=Ss.ix a hi
theorem Ws.l0 (a:Ws h v L) (hi:i<L.length):L1 P (I4 v) (lg v) (EH v+i*3) (EW v) h N=N.go P (sv (L.getD i default).key) h:=Ss.ld (d:=0) a Cs hi (by omega)
theorem Ws.l1 (a:Ws h v L) (hi:i<L.length):L1 P (I4 v) (lg v) (EH v+i*3+1) (EW v) h N=N.go P (.b (L.getD i default).del) h:=Ss.ld (d:=1) a Cs hi (by omega)
theorem Ws.l2 (a:Ws h v L) (hi:i<L.length):L1 P (I4 v) (lg v) (EH v+i*3+2) (EW v) h N=N.go P (sv (L.getD i default).val) h:=Ss.ld (d:=2) a Cs hi (by omega)
theorem Ws.la (a:Ws h v L) (hi:i<L.length):LN P (I4 v) (lg v) (EH v+i*3) (EW v) 3 h N=N.go P (.a [sv (L.getD i default).key,.b (L.getD i default).del,sv (L.getD i default).val]) h:=Ss.yg a Cs (by omega) hi
theorem Ws.grow (a:Ws h v L) (s:AZ AM h h'):Ws h' v L:=Ss.grow a s
end
theorem QK {a b:Bs} (h:a.key=b.key/\a.del=b.del/\a.val=b.val):a=b:=by cases a;cases b;simp at h;simp[h]
theorem OB {L:List Bs} {i:Nat} (hi:i<L.length):L.take (i+1)=L.take i++[L.getD i default]:=by
 rw[List.take_succ];simp[List.getD,hi]
def Pd (w:Bs):Bool:=Oh w.key w.del w.val
/--the i-th one is a write,its key above the one ahead -/
def NK (L:List Bs) (j:Nat):Bool:=Pd (L.getD j default)&&(decide (j=0)||Op.bytesLess (L.getD (j-1) default).key (L.getD j default).key)
def Xw (L:List Bs) (i:Nat):Bool:=(List.range i).all (NK L)
def Ho (L:List Bs):Bool:=Xw L L.length&&decide (L.length<=8)
theorem II (L:List Bs) (i:Nat):Xw L (i+1)=(Xw L i&&NK L i):=by unfold Xw;rw[List.range_succ,List.all_append];simp
theorem aC {L:List Bs} {i:Nat} (h:Xw L i=true) {j:Nat} (hj:j<i):NK L j=true:=(List.all_eq_true.1 h) j (List.mem_range.2 hj)
theorem NH {L:List Bs} {i:Nat} (hi:i<L.length) (h:NK L i=false):Ho L=false:=by
 unfold Ho Xw
 rw[show((List.range L.length).all (NK L))=false from List.all_eq_false.2 ⟨i,List.mem_range.2 hi,by rw[h];simp⟩];rfl
theorem Gc {L:List Bs} (h:Ho L=true):L.length<=8:=by
 unfold Ho at h;rw[Bool.and_eq_true]at h;exact of_decide_eq_true h.2
theorem LH {L:List Bs} (h:Ho L=true) {j:Nat} (hj:j<L.length):NK L j=true:=by
 unfold Ho at h;rw[Bool.and_eq_true]at h;exact aC h.1 hj
theorem LG {L:List Bs} {j:Nat} (h:NK L j=true):Pd (L.getD j default)=true:=by unfold NK at h;rw[Bool.and_eq_true]at h;exact h.1
theorem Iu {w:Bs} (h:Pd w=true):1<=w.key.length/\w.key.length<=13/\w.val.length<=24/\(w.del=true->w.val=[]):=by
 unfold Pd Oh at h;exact of_decide_eq_true h
def CH (w:Bs):List UInt8:=Al w.key++(if w.del then [1]else 0::Al w.val)
def Bf (L:List Bs):List UInt8:=A7 L.length++L.flatMap CH
def Jq (seq:Int) (L:List Bs):List UInt8:=B7 (A7 seq.toNat++Bf L)
def Eg (seq:Int) (L:List Bs):Bool:=Ho L&&decide (1<=seq/\seq<=1000000)
def Du (seq:Int) (L:List Bs):List UInt8×Int:=if Eg seq L then (Jq seq L,0)else ([],10)
/--so many writes at the front -/
def Bt:Nat->List UInt8->Option (List Bs×List UInt8)
 |0,s=>some ([],s)
 |n+1,s=>
  if (A2 s).2.2≠0\/(A2 s).2.1=(s.length:Int)then none
  else if s.getD (A2 s).2.1.toNat 0=1 then (Bt n (s.drop ((A2 s).2.1.toNat+1))).map fun r=>(⟨(A2 s).1,true,[]⟩::r.1,r.2)
  else if (A2 (s.drop ((A2 s).2.1.toNat+1))).2.2≠0 then none
  else (Bt n ((s.drop ((A2 s).2.1.toNat+1)).drop (A2 (s.drop ((A2 s).2.1.toNat+1))).2.1.toNat)).map fun r=>(⟨(A2 s).1,false,(A2 (s.drop ((A2 s).2.1.toNat+1))).1⟩::r.1,r.2)
def Br (s:List UInt8):Option (List Bs):=
 if (takeN s).2.2≠0\/8<(takeN s).1 then none else (Bt (takeN s).1.toNat (s.drop (takeN s).2.1.toNat)).map (·.1)
def Ei (s:List UInt8):Int×List Bs×Int×Int:=
 let o:=CV s
 if o.2.2≠0 then (0,[],0,o.2.2)else
 let q:=takeN o.1
 if q.2.2≠0 then (0,[],0,10)else
 match Br (o.1.drop q.2.1.toNat)with
 |none=>(0,[],0,10)
 |some l=>if (Du q.1 l).2=0/\(Du q.1 l).1=s.take o.2.1.toNat then (q.1,l,o.2.1,0)else (0,[],0,10)
def okW (w:Bs):Bool:=decide (w.key.length<=20)&&decide (w.val.length<=40)
end Go.Ev
set_option maxRecDepth 1000000
namespace Go.Proofs.Ytmlcddeikgechaa
open Go Go.Ev
abbrev qX:CC:=(CC.seq (CC.region [(wB 2 (AA (O.c (V.b Bool.false))))]) CC.ret)
abbrev oP:CC:=(CC.cond (tm 12) qX CC.skip)
abbrev jr:CC:=(CC.seq (CC.region [(wB 3 (AG 0 (tm 1))),(wB 4 (Aa (tm 3))),(wB 5 (BH (tm 4))),(wB 6 (AX Cr (tm 5) (oN 1))),(wB 7 (AA (tm 6))),(wG 7 false 8 (AG 0 (tm 1))),(wG 7 false 9 (Aa (tm 8))),(wG 7 false 10 (BH (tm 9))),(wG 7 false 11 (AX C6 (tm 10) (oN 13))),(wB 12 (Ac (tm 7) (O.c (V.b Bool.true)) (tm 11)))]) oP)
abbrev jE:CC:=(CC.seq (CC.region [(wB 15 (AG 2 (tm 1))),(wB 16 (Aa (tm 15))),(wB 17 (CM Fw (tm 16) (O.c (V.s 0 0)))),(wB 2 (AA (tm 17)))]) CC.ret)
abbrev iD:CC:=(CC.cond (tm 14) jE CC.skip)
abbrev rb:CC:=(CC.seq (CC.region [(wB 13 (AG 1 (tm 1))),(wB 14 (Aa (tm 13)))]) iD)
abbrev qR:CC:=(CC.seq (CC.region [(wB 18 (AG 2 (tm 1))),(wB 19 (Aa (tm 18))),(wB 20 (BH (tm 19))),(wB 21 (AX Hn (tm 20) (oN 24))),(wB 2 (AA (tm 21)))]) CC.ret)
abbrev su:CC:=(CC.seq rb qR)
abbrev gX:CC:=(CC.seq jr su)
abbrev wg:CC:=(CC.seq (CC.region [(wB 1 (Cn 39 (tm 0))),(wB 2 (AA (O.c (V.b Bool.false))))]) gX)
theorem xx:AY Try.prog 44=⟨22,wg,[(Rs.tmp (AV 2))]⟩:=by kernel_rfl
abbrev mA:CC:=(CC.seq (CC.region [(wB 3 (AG 0 (tm 1))),(wB 4 (Aa (tm 3))),(wB 5 (BH (tm 4))),(wB 6 (AX Gt (tm 5) (oN 1))),(wB 7 (AA (tm 6))),(wG 7 true 8 (AG 0 (tm 1))),(wG 7 true 9 (Aa (tm 8))),(wG 7 true 10 (BH (tm 9))),(wG 7 true 11 (AX Hn (tm 10) (oN 13))),(wB 12 (Ac (tm 7) (tm 11) (O.c (V.b Bool.false)))),(wB 13 (AA (tm 12))),(wG 13 true 14 (AG 2 (tm 1))),(wG 13 true 15 (Aa (tm 14))),(wG 13 true 16 (BH (tm 15))),(wG 13 true 17 (AX Hn (tm 16) (oN 24))),(wB 18 (Ac (tm 13) (tm 17) (O.c (V.b Bool.false)))),(wB 19 (AA (tm 18))),(wG 19 true 20 (AG 1 (tm 1))),(wG 19 true 21 (Aa (tm 20))),(wG 19 true 22 (CN (tm 21))),(wG 19 true 23 (AA (tm 22))),(wG 23 false 24 (AG 2 (tm 1))),(wG 23 false 25 (Aa (tm 24))),(wG 23 false 26 (CM Fw (tm 25) (O.c (V.s 0 0)))),(wG 19 true 27 (Ac (tm 23) (O.c (V.b Bool.true)) (tm 26))),(wB 28 (Ac (tm 19) (tm 27) (O.c (V.b Bool.false)))),(wB 2 (AA (tm 28)))]) CC.ret)
abbrev yZ:CC:=(CC.seq (CC.region [(wB 1 (Cn 39 (tm 0))),(wB 2 (AA (O.c (V.b Bool.false))))]) mA)
theorem wm:AY Try.prog 46=⟨29,yZ,[(Rs.tmp (AV 2))]⟩:=by kernel_rfl
end Go.Proofs.Ytmlcddeikgechaa
set_option maxRecDepth 1000000
namespace Go.Proofs.Ytmlcddeikgechaa
open Go Go.Ev
abbrev rX:CC:=(CC.cond (tm 7) CC.skip (CC.exit 0))
abbrev oQ:CC:=(CC.seq (CC.region [(wB 6 (AA (tm 0))),(wB 7 (AX C6 (tm 6) (oN 0)))]) rX)
abbrev lJ:CC:=(CC.region [(wB 12 (AA (tm 4))),(wB 13 (AA (tm 0))),(wB 14 (Bn IntKind.u8 (tm 13))),(wB 15 (BD 9 1 (tm 3) (tm 12))),(CO.mk G.none D.none Bool.true (CR.mk (Aq 1 (tm 15) (tm 14))))])
abbrev kU:CC:=(CC.seq (CC.region [(wB 10 (AA (tm 4))),(wB 11 (AX JD (tm 10) (oN 1))),(wB 4 (AA (tm 11)))]) lJ)
abbrev rq:CC:=(CC.block 1 kU)
abbrev qa:CC:=(CC.region [(wB 8 (AA (tm 0))),(wB 9 (Ca Jp (tm 8) (O.c (V.i IntKind.u64 (Int.ofNat 8))))),(wB 0 (AA (tm 9)))])
abbrev iA:CC:=(CC.seq rq qa)
abbrev nw:CC:=(CC.seq oQ iA)
abbrev pU:CC:=(CC.loop nw)
abbrev lN:CC:=(CC.block 0 pU)
abbrev mB:CC:=(CC.seq (CC.region [(wB 24 (AA (tm 4))),(wB 25 (DD 9 1 (tm 3) (some (tm 24)) none)),(wB 26 (Dl (tm 25))),(wB 2 (AA (tm 26)))]) CC.ret)
abbrev ck:CC:=(CC.seq (CC.region [(wB 20 (AA (tm 4))),(wB 21 (AA (tm 5))),(wB 22 (Bn IntKind.u8 (tm 21))),(wB 23 (BD 9 1 (tm 3) (tm 20))),(CO.mk G.none D.none Bool.true (CR.mk (Aq 1 (tm 23) (tm 22))))]) mB)
abbrev cV:CC:=(CC.seq (CC.region [(wB 18 (AA (tm 4))),(wB 19 (AX JD (tm 18) (oN 1))),(wB 4 (AA (tm 19)))]) ck)
abbrev ZM:CC:=(CC.seq (CC.region [(wB 16 (AA (tm 4))),(wB 17 (AX JD (oN 9) (tm 16))),(wB 5 (AA (tm 17)))]) cV)
abbrev eD:CC:=(CC.seq lN ZM)
abbrev cy:CC:=(CC.seq (CC.region [(wB 4 (AA (oN 9)))]) eD)
abbrev bX:CC:=(CC.seq (CC.region [(wB 3 (BN 64 [(V.i IntKind.u8 (Int.ofNat 0)),(V.i IntKind.u8 (Int.ofNat 0)),(V.i IntKind.u8 (Int.ofNat 0)),(V.i IntKind.u8 (Int.ofNat 0)),(V.i IntKind.u8 (Int.ofNat 0)),(V.i IntKind.u8 (Int.ofNat 0)),(V.i IntKind.u8 (Int.ofNat 0)),(V.i IntKind.u8 (Int.ofNat 0)),(V.i IntKind.u8 (Int.ofNat 0))]))]) cy)
abbrev yJ:CC:=(CC.seq (CC.region [(wB 2 (AA (O.c (V.s 0 0))))]) bX)
theorem xY:AY Try.prog 18=⟨27,yJ,[(Rs.tmp (AV 2))]⟩:=by kernel_rfl
abbrev iN:CC:=(CC.seq (CC.region [(wB 2 (AA (oN 0))),(wB 3 (AA (oN 0))),(wB 4 (AA (oN 12)))]) CC.ret)
abbrev nP:CC:=(CC.cond (tm 10) iN CC.skip)
abbrev mn:CC:=(CC.seq (CC.region [(wB 9 (AA (tm 0))),(wB 10 (CM Fw (tm 9) (O.c (V.s 0 0))))]) nP)
abbrev rL:CC:=(CC.seq (CC.region [(wB 2 (AA (oN 0))),(wB 3 (AA (oN 0))),(wB 4 (AA (oN 10)))]) CC.ret)
abbrev rN:CC:=(CC.cond (tm 15) rL CC.skip)
abbrev nB:CC:=(CC.seq (CC.region [(wB 14 (AA (tm 5))),(wB 15 (AX C6 (tm 14) (oN 8)))]) rN)
abbrev j9:CC:=(CC.seq (CC.region [(wB 2 (AA (oN 0))),(wB 3 (AA (oN 0))),(wB 4 (AA (oN 12)))]) CC.ret)
abbrev lz:CC:=(CC.cond (tm 21) j9 CC.skip)
abbrev sC:CC:=(CC.seq (CC.region [(wB 18 (AA (tm 6))),(wB 19 (AA (tm 0))),(wB 20 (BH (tm 19))),(wB 21 (AX C6 (tm 18) (tm 20)))]) lz)
abbrev qO:CC:=(CC.seq (CC.region [(wB 2 (AA (oN 0))),(wB 3 (AA (oN 0))),(wB 4 (AA (oN 10)))]) CC.ret)
abbrev Z8:CC:=(CC.cond (tm 30) qO CC.skip)
abbrev Zz:CC:=(CC.seq (CC.region [(wB 29 (AA (tm 8))),(wB 30 (CN (tm 29)))]) Z8)
abbrev fS:CC:=(CC.seq (CC.region [(wB 31 (AA (tm 7))),(wB 32 (AA (tm 6))),(wB 2 (AA (tm 31))),(wB 3 (AA (tm 32))),(wB 4 (AA (oN 0)))]) CC.ret)
abbrev dB:CC:=(CC.seq Zz fS)
abbrev dX:CC:=(CC.seq (CC.region [(wB 23 (AA (tm 0))),(wB 24 (AA (tm 6))),(wB 25 (Az (tm 23) (some (oN 1)) (some (tm 24)))),(wB 26 (AW 52 [(tm 25)])),(wB 22 (AA (tm 26))),(wB 27 (AH 0 (tm 22))),(wB 28 (AH 1 (tm 22))),(wB 7 (AA (tm 27))),(wB 8 (AA (tm 28)))]) dB)
abbrev aL:CC:=(CC.seq sC dX)
abbrev cP:CC:=(CC.seq (CC.region [(wB 16 (AA (tm 5))),(wB 17 (AX By (oN 1) (tm 16))),(wB 6 (AA (tm 17)))]) aL)
abbrev fm:CC:=(CC.seq nB cP)
abbrev fJ:CC:=(CC.seq (CC.region [(wB 11 (AA (tm 0))),(wB 12 (B4 (tm 11) (oN 0))),(wB 13 (Bn IntKind.i64 (tm 12))),(wB 5 (AA (tm 13)))]) fm)
abbrev dV:CC:=(CC.seq mn fJ)
abbrev xh:CC:=(CC.seq (CC.region [(wB 2 (AA (oN 0))),(wB 3 (AA (oN 0))),(wB 4 (AA (oN 0)))]) dV)
theorem xO:AY Try.prog 41=⟨33,xh,[(Rs.tmp (AV 2)),(Rs.tmp (AV 3)),(Rs.tmp (AV 4))]⟩:=by kernel_rfl
abbrev hZ:CC:=(CC.cond (tm 10) CC.skip (CC.exit 0))
abbrev qd:CC:=(CC.seq (CC.region [(wB 7 (AA (tm 5))),(wB 8 (AA (tm 0))),(wB 9 (BH (tm 8))),(wB 10 (AX Cr (tm 7) (tm 9)))]) hZ)
abbrev pg:CC:=(CC.cond (tm 22) (CC.exit 0) CC.skip)
abbrev mu:CC:=(CC.seq (CC.region [(wB 23 (AA (tm 4))),(wB 24 (AX C6 (tm 23) (oN 36028797018963967))),(wB 22 (AA (tm 24)))]) pg)
abbrev jx:CC:=(CC.cond (tm 15) (CC.exit 0) mu)
abbrev qq:CC:=(CC.seq (CC.region [(wB 16 (AA (tm 5))),(wB 17 (AX CY (tm 16) (oN 0))),(wB 18 (AA (tm 17))),(wG 18 true 19 (AA (tm 6))),(wG 18 true 20 (AX CY (tm 19) (oN 0))),(wB 21 (Ac (tm 18) (tm 20) (O.c (V.b Bool.false)))),(wB 15 (AA (tm 21)))]) jx)
abbrev mM:CC:=(CC.block 2 qq)
abbrev iq:CC:=(CC.region [(wB 29 (AA (tm 5))),(wB 30 (AX By (tm 29) (oN 1))),(wB 5 (AA (tm 30)))])
abbrev ql:CC:=(CC.seq (CC.region [(wB 25 (AA (tm 4))),(wB 26 (Ca NR (tm 25) (O.c (V.i IntKind.u64 (Int.ofNat 8))))),(wB 27 (AA (tm 6))),(wB 28 (AX Vk (tm 26) (tm 27))),(wB 4 (AA (tm 28)))]) iq)
abbrev qN:CC:=(CC.seq mM ql)
abbrev gJ:CC:=(CC.seq (CC.region [(wB 11 (AA (tm 0))),(wB 12 (AA (tm 5))),(wB 13 (B4 (tm 11) (tm 12))),(wB 14 (Bn IntKind.i64 (tm 13))),(wB 6 (AA (tm 14)))]) qN)
abbrev aB:CC:=(CC.block 1 gJ)
abbrev ml:CC:=(CC.seq qd aB)
abbrev bh:CC:=(CC.loop ml)
abbrev ZR:CC:=(CC.block 0 bh)
abbrev eV:CC:=(CC.seq (CC.region [(wB 2 (AA (oN 0))),(wB 3 (AA (O.c (V.b Bool.false))))]) CC.ret)
abbrev ag:CC:=(CC.cond (tm 34) eV CC.skip)
abbrev aP:CC:=(CC.seq (CC.region [(wB 31 (AA (tm 5))),(wB 32 (AA (tm 0))),(wB 33 (BH (tm 32))),(wB 34 (AX Cr (tm 31) (tm 33)))]) ag)
abbrev aQ:CC:=(CC.seq (CC.region [(wB 35 (AA (tm 4))),(wB 2 (AA (tm 35))),(wB 3 (AA (O.c (V.b Bool.true))))]) CC.ret)
abbrev ar:CC:=(CC.seq aP aQ)
abbrev ZE:CC:=(CC.seq ZR ar)
abbrev fF:CC:=(CC.seq CC.skip ZE)
abbrev Y2:CC:=(CC.seq (CC.region [(wB 4 (AA (oN 0))),(wB 5 (AA (oN 0)))]) fF)
abbrev yU:CC:=(CC.seq (CC.region [(wB 2 (AA (oN 0))),(wB 3 (AA (O.c (V.b Bool.false))))]) Y2)
theorem yN:AY Try.prog 52=⟨36,yU,[(Rs.tmp (AV 2)),(Rs.tmp (AV 3))]⟩:=by kernel_rfl
abbrev kP:CC:=(CC.cond (tm 8) CC.skip (CC.exit 0))
abbrev qz:CC:=(CC.seq (CC.region [(wB 7 (AA (tm 4))),(wB 8 (AX C6 (tm 7) (oN 0)))]) kP)
abbrev kD:CC:=(CC.region [(wB 11 (AA (tm 4))),(wB 12 (EP (tm 11) (oN 256))),(wB 13 (Bn IntKind.u8 (tm 12))),(wB 14 (A9 5 1 [(V.i IntKind.u8 (Int.ofNat 0))] [(Pt.mk 0 1 (tm 13))])),(wB 15 (Dl (tm 14))),(wB 16 (AA (tm 3))),(wB 17 (BE (tm 15) (tm 16))),(wB 3 (AA (tm 17)))])
abbrev pL:CC:=(CC.block 1 kD)
abbrev lu:CC:=(CC.region [(wB 9 (AA (tm 4))),(wB 10 (AX Vh (tm 9) (oN 256))),(wB 4 (AA (tm 10)))])
abbrev sN:CC:=(CC.seq pL lu)
abbrev mr:CC:=(CC.seq qz sN)
abbrev lP:CC:=(CC.loop mr)
abbrev kr:CC:=(CC.block 0 lP)
abbrev nD:CC:=(CC.seq (CC.region [(wB 5 (AA (tm 0))),(wB 6 (Jc (oN 0) (tm 5))),(wB 4 (AA (tm 6)))]) kr)
abbrev qM:CC:=(CC.seq (CC.region [(wB 18 (AA (tm 3))),(wB 19 (BH (tm 18))),(wB 20 (Bn IntKind.u8 (tm 19))),(wB 21 (A9 5 1 [(V.i IntKind.u8 (Int.ofNat 0))] [(Pt.mk 0 1 (tm 20))])),(wB 22 (Dl (tm 21))),(wB 23 (AA (tm 3))),(wB 24 (BE (tm 22) (tm 23))),(wB 2 (AA (tm 24)))]) CC.ret)
abbrev Zl:CC:=(CC.seq nD qM)
abbrev ax:CC:=(CC.seq (CC.region [(wB 3 (AA (O.c (V.s 0 0))))]) Zl)
abbrev wz:CC:=(CC.seq (CC.region [(wB 2 (AA (O.c (V.s 0 0))))]) ax)
theorem wZ:AY Try.prog 22=⟨25,wz,[(Rs.tmp (AV 2))]⟩:=by kernel_rfl
abbrev jo:CC:=(CC.seq (CC.region [(wB 2 (AA (oN 0))),(wB 3 (AA (oN 0))),(wB 4 (AA (oN 12)))]) CC.ret)
abbrev lO:CC:=(CC.cond (tm 10) jo CC.skip)
abbrev gv:CC:=(CC.seq (CC.region [(wB 8 (AA (tm 0))),(wB 9 (BH (tm 8))),(wB 10 (AX CY (tm 9) (oN 0)))]) lO)
abbrev oZ:CC:=(CC.seq (CC.region [(wB 2 (AA (oN 0))),(wB 3 (AA (oN 0))),(wB 4 (AA (oN 10)))]) CC.ret)
abbrev iI:CC:=(CC.cond (tm 15) oZ CC.skip)
abbrev qy:CC:=(CC.seq (CC.region [(wB 14 (AA (tm 5))),(wB 15 (AX C6 (tm 14) (oN 8)))]) iI)
abbrev ry:CC:=(CC.seq (CC.region [(wB 2 (AA (oN 0))),(wB 3 (AA (oN 0))),(wB 4 (AA (oN 12)))]) CC.ret)
abbrev pW:CC:=(CC.cond (tm 20) ry CC.skip)
abbrev tG:CC:=(CC.seq (CC.region [(wB 16 (AA (tm 0))),(wB 17 (BH (tm 16))),(wB 18 (AA (tm 5))),(wB 19 (AX By (tm 18) (oN 1))),(wB 20 (AX Cr (tm 17) (tm 19)))]) pW)
abbrev ke:CC:=(CC.seq (CC.region [(wB 2 (AA (oN 0))),(wB 3 (AA (oN 0))),(wB 4 (AA (oN 10)))]) CC.ret)
abbrev ZC:CC:=(CC.cond (tm 36) ke CC.skip)
abbrev aU:CC:=(CC.seq (CC.region [(wB 21 (AA (tm 5))),(wB 22 (AX C6 (tm 21) (oN 0))),(wB 23 (AA (tm 22))),(wG 23 true 24 (AA (tm 0))),(wG 23 true 25 (B4 (tm 24) (oN 1))),(wG 23 true 26 (AX CY (tm 25) (O.c (V.i IntKind.u8 (Int.ofNat 0))))),(wB 27 (Ac (tm 23) (tm 26) (O.c (V.b Bool.false)))),(wB 28 (AA (tm 27))),(wG 28 false 29 (AA (tm 5))),(wG 28 false 30 (AX CY (tm 29) (oN 8))),(wG 28 false 31 (AA (tm 30))),(wG 31 true 32 (AA (tm 0))),(wG 31 true 33 (B4 (tm 32) (oN 1))),(wG 31 true 34 (AX Gt (tm 33) (O.c (V.i IntKind.u8 (Int.ofNat 128))))),(wG 28 false 35 (Ac (tm 31) (tm 34) (O.c (V.b Bool.false)))),(wB 36 (Ac (tm 28) (O.c (V.b Bool.true)) (tm 35)))]) ZC)
abbrev b0:CC:=(CC.cond (tm 39) CC.skip (CC.exit 0))
abbrev fj:CC:=(CC.seq (CC.region [(wB 37 (AA (tm 7))),(wB 38 (AA (tm 5))),(wB 39 (AX Hn (tm 37) (tm 38)))]) b0)
abbrev ca:CC:=(CC.region [(wB 42 (AA (tm 6))),(wB 43 (AX Ul (tm 42) (oN 256))),(wB 44 (AA (tm 0))),(wB 45 (AA (tm 7))),(wB 46 (B4 (tm 44) (tm 45))),(wB 47 (Bn IntKind.i64 (tm 46))),(wB 48 (AX By (tm 43) (tm 47))),(wB 6 (AA (tm 48)))])
abbrev gD:CC:=(CC.block 1 ca)
abbrev gB:CC:=(CC.region [(wB 40 (AA (tm 7))),(wB 41 (AX By (tm 40) (oN 1))),(wB 7 (AA (tm 41)))])
abbrev Zh:CC:=(CC.seq gD gB)
abbrev YH:CC:=(CC.seq fj Zh)
abbrev bu:CC:=(CC.loop YH)
abbrev bm:CC:=(CC.block 0 bu)
abbrev eF:CC:=(CC.seq (CC.region [(wB 7 (AA (oN 1)))]) bm)
abbrev Zy:CC:=(CC.seq (CC.region [(wB 49 (AA (tm 6))),(wB 50 (AA (tm 5))),(wB 51 (AX By (tm 50) (oN 1))),(wB 2 (AA (tm 49))),(wB 3 (AA (tm 51))),(wB 4 (AA (oN 0)))]) CC.ret)
abbrev fu:CC:=(CC.seq eF Zy)
abbrev eC:CC:=(CC.seq (CC.region [(wB 6 (AA (oN 0)))]) fu)
abbrev ef:CC:=(CC.seq aU eC)
abbrev aS:CC:=(CC.seq tG ef)
abbrev dH:CC:=(CC.seq qy aS)
abbrev ZP:CC:=(CC.seq (CC.region [(wB 11 (AA (tm 0))),(wB 12 (B4 (tm 11) (oN 0))),(wB 13 (Bn IntKind.i64 (tm 12))),(wB 5 (AA (tm 13)))]) dH)
abbrev ee:CC:=(CC.seq gv ZP)
abbrev xX:CC:=(CC.seq (CC.region [(wB 2 (AA (oN 0))),(wB 3 (AA (oN 0))),(wB 4 (AA (oN 0)))]) ee)
theorem xQ:AY Try.prog 27=⟨52,xX,[(Rs.tmp (AV 2)),(Rs.tmp (AV 3)),(Rs.tmp (AV 4))]⟩:=by kernel_rfl
abbrev kl:CC:=(CC.seq (CC.region [(wB 3 (AA (tm 0))),(wB 4 (BH (tm 3))),(wB 5 (AW 18 [(tm 4)])),(wB 6 (AA (tm 0))),(wB 7 (BE (tm 5) (tm 6))),(wB 2 (AA (tm 7)))]) CC.ret)
abbrev yX:CC:=(CC.seq (CC.region [(wB 2 (AA (O.c (V.s 0 0))))]) kl)
theorem xy:AY Try.prog 55=⟨8,yX,[(Rs.tmp (AV 2))]⟩:=by kernel_rfl
abbrev ie:CC:=(CC.seq (CC.region [(wB 17 (AA (tm 7))),(wB 2 (AA (O.c (V.s 0 0)))),(wB 3 (AA (oN 0))),(wB 4 (AA (tm 17)))]) CC.ret)
abbrev tS:CC:=(CC.cond (tm 16) ie CC.skip)
abbrev gq:CC:=(CC.seq (CC.region [(wB 15 (AA (tm 7))),(wB 16 (AX FI (tm 15) (oN 0)))]) tS)
abbrev qG:CC:=(CC.seq (CC.region [(wB 2 (AA (O.c (V.s 0 0)))),(wB 3 (AA (oN 0))),(wB 4 (AA (oN 12)))]) CC.ret)
abbrev jJ:CC:=(CC.cond (tm 24) qG CC.skip)
abbrev ma:CC:=(CC.seq (CC.region [(wB 21 (AA (tm 5))),(wB 22 (AA (tm 8))),(wB 23 (BH (tm 22))),(wB 24 (AX C6 (tm 21) (tm 23)))]) jJ)
abbrev oq:CC:=(CC.seq (CC.region [(wB 25 (AA (tm 8))),(wB 26 (AA (tm 5))),(wB 27 (Az (tm 25) none (some (tm 26)))),(wB 28 (AA (tm 6))),(wB 29 (AA (tm 5))),(wB 30 (AX By (tm 28) (tm 29))),(wB 2 (AA (tm 27))),(wB 3 (AA (tm 30))),(wB 4 (AA (oN 0)))]) CC.ret)
abbrev pK:CC:=(CC.seq ma oq)
abbrev mJ:CC:=(CC.seq (CC.region [(wB 18 (AA (tm 0))),(wB 19 (AA (tm 6))),(wB 20 (Az (tm 18) (some (tm 19)) none)),(wB 8 (AA (tm 20)))]) pK)
abbrev oY:CC:=(CC.seq gq mJ)
abbrev YT:CC:=(CC.seq (CC.region [(wB 10 (AA (tm 0))),(wB 11 (AW 41 [(tm 10)])),(wB 9 (AA (tm 11))),(wB 12 (AH 0 (tm 9))),(wB 13 (AH 1 (tm 9))),(wB 14 (AH 2 (tm 9))),(wB 5 (AA (tm 12))),(wB 6 (AA (tm 13))),(wB 7 (AA (tm 14)))]) oY)
abbrev xb:CC:=(CC.seq (CC.region [(wB 2 (AA (O.c (V.s 0 0)))),(wB 3 (AA (oN 0))),(wB 4 (AA (oN 0)))]) YT)
theorem yM:AY Try.prog 60=⟨31,xb,[(Rs.tmp (AV 2)),(Rs.tmp (AV 3)),(Rs.tmp (AV 4))]⟩:=by kernel_rfl
abbrev iQ:CC:=(CC.seq (CC.region [(wB 3 (AA (tm 0))),(wB 4 (BH (tm 3))),(wB 5 (AW 22 [(tm 4)])),(wB 6 (AA (tm 0))),(wB 7 (BE (tm 5) (tm 6))),(wB 2 (AA (tm 7)))]) CC.ret)
abbrev yD:CC:=(CC.seq (CC.region [(wB 2 (AA (O.c (V.s 0 0))))]) iQ)
theorem yi:AY Try.prog 40=⟨8,yD,[(Rs.tmp (AV 2))]⟩:=by kernel_rfl
abbrev gf:CC:=(CC.seq (CC.region [(wB 16 (AA (tm 7))),(wB 2 (AA (O.c (V.s 0 0)))),(wB 3 (AA (oN 0))),(wB 4 (AA (tm 16)))]) CC.ret)
abbrev tL:CC:=(CC.cond (tm 15) gf CC.skip)
abbrev rR:CC:=(CC.seq (CC.region [(wB 14 (AA (tm 7))),(wB 15 (AX FI (tm 14) (oN 0)))]) tL)
abbrev jK:CC:=(CC.seq (CC.region [(wB 2 (AA (O.c (V.s 0 0)))),(wB 3 (AA (oN 0))),(wB 4 (AA (oN 12)))]) CC.ret)
abbrev nL:CC:=(CC.cond (tm 22) jK CC.skip)
abbrev lL:CC:=(CC.seq (CC.region [(wB 17 (AA (tm 5))),(wB 18 (AA (tm 0))),(wB 19 (BH (tm 18))),(wB 20 (AA (tm 6))),(wB 21 (AX JD (tm 19) (tm 20))),(wB 22 (AX C6 (tm 17) (tm 21)))]) nL)
abbrev ko:CC:=(CC.seq (CC.region [(wB 23 (AA (tm 0))),(wB 24 (AA (tm 6))),(wB 25 (AA (tm 6))),(wB 26 (AA (tm 5))),(wB 27 (AX By (tm 25) (tm 26))),(wB 28 (Az (tm 23) (some (tm 24)) (some (tm 27)))),(wB 29 (AA (tm 6))),(wB 30 (AA (tm 5))),(wB 31 (AX By (tm 29) (tm 30))),(wB 2 (AA (tm 28))),(wB 3 (AA (tm 31))),(wB 4 (AA (oN 0)))]) CC.ret)
abbrev sJ:CC:=(CC.seq lL ko)
abbrev mX:CC:=(CC.seq rR sJ)
abbrev qV:CC:=(CC.seq (CC.region [(wB 9 (AA (tm 0))),(wB 10 (AW 27 [(tm 9)])),(wB 8 (AA (tm 10))),(wB 11 (AH 0 (tm 8))),(wB 12 (AH 1 (tm 8))),(wB 13 (AH 2 (tm 8))),(wB 5 (AA (tm 11))),(wB 6 (AA (tm 12))),(wB 7 (AA (tm 13)))]) mX)
abbrev yB:CC:=(CC.seq (CC.region [(wB 2 (AA (O.c (V.s 0 0)))),(wB 3 (AA (oN 0))),(wB 4 (AA (oN 0)))]) qV)
theorem xU:AY Try.prog 43=⟨32,yB,[(Rs.tmp (AV 2)),(Rs.tmp (AV 3)),(Rs.tmp (AV 4))]⟩:=by kernel_rfl
end Go.Proofs.Ytmlcddeikgechaa
namespace Go.Proofs.Ytmlcddeikgechaa
open Go Go.Ev
theorem Pa:Try.prog.follows .mixedOrders=true:=by kernel_rfl
open Go.Ev in
instance {nt:Nat} {t:F} {h:H} {K:X->F->H->Prop} {l:List CO} {ch:Option (List Nat×List (Nat×List Nat))}:St (Ok Try.prog nt (.Bg l ch) t h K) (DO Try.prog l t h (K .normal)):=⟨Ok.dw Pa⟩
end Go.Proofs.Ytmlcddeikgechaa
set_option maxRecDepth 100000
set_option maxHeartbeats 8000000
namespace Go.Proofs.Ytmlcddeikgechaa
open Go Go.Ev
theorem TQ {n d:Nat} (h:d<256):n*2 ^ 8|||d=n*256+d:=by
 have:=Nat.two_pow_add_eq_or_of_lt (i:=8) (b:=d) (by omega) n
 rw[Nat.mul_comm n,<-this]
theorem rC (l:List UInt8) (i:Nat) (h:i<=l.length):pk (l.take i)*256 ^ (l.length-i)<=pk l:=by
 have e:=DP (l.take i) (l.drop i)
 rw[List.take_append_drop,List.length_drop]at e
 omega
theorem Sm {l:List UInt8} {i:Nat} (h8:l.length<=8) (hi:i<l.length) (h:36028797018963967<pk (l.take i)):9223372036854775808<=pk l:=by
 have h1:=rC l i (by omega)
 have h2:256<=256 ^ (l.length-i):=by
  have:=Nat.pow_le_pow_right (n:=256) (by omega) (show 1<=l.length-i by omega)
  simpa using this
 have h3:=Nat.mul_le_mul (show 36028797018963968<=pk (l.take i)by omega) h2
 omega
theorem Rf {l:List UInt8} (h:(l.getD 0 0).toNat=0) (h0:0<l.length):l.head? =some 0:=by
 cases l with
 |nil=>simp at h0
 |cons c r=>have:c=0:=UInt8.toNat_inj.1 h
            rw[this];rfl
theorem Sz {l:List UInt8} (h:¬(l.getD 0 0).toNat=0):l.head? ≠some 0:=by
 cases l with
 |nil=>simp
 |cons c r=>intro h0;have:c=0:=by simpa using h0
            subst this;exact h rfl
theorem Q4 {h:H} {l:List UInt8} (h8:l.length<=8):BZ Try.prog 52 [sv l] h fun y h'=>y=fp l/\h'=h:=by
 refine BP yN (by intro hb;cases hb) (by simp) (by simp) fun Q hQ=>?_
 simp only[Ay,Nat.reduceAdd]
 repeat' (first
  |refine St.h ?_
  |simp(disch:=first|omega|(simp only[AJ];omega))only[AK,↓AB,↓reduceIte,seval]
  |(with_reducible (first|apply AD|apply AE))<;>(intro hc;(try simp only[AR]at hc);(try simp only[hc]);(try simp only[AQ]at hc);try omega))
 refine Ok.lp (fun m t g=>∃ i:Nat,i<=l.length/\m=l.length-i/\g=h/\get 0 t=sv l/\get 4 t=.i .i64 ((pk (l.take i):Nat):Int)/\get 5 t=.i .i64 (i:Int)/\(0<i->l.head? ≠some 0)/\pk (l.take i)<=9223372036854775807) l.length ?_ ?_
 ·simp(disch:=first|omega|(simp only[AJ];omega))only[AK,↓AB,↓reduceIte,seval]
  exact⟨0,by omega,rfl,trivial,trivial,rfl,rfl,fun h=>absurd h (by omega),by simp[pk]⟩
 ·rintro I hI m t g ⟨i,hi',rfl,rfl,f0,f4,f5,hF,hV⟩
  have hgd:=(l.getD i 0).toNat_lt
  repeat' (first
   |refine St.h ?_
   |simp(disch:=first|omega|(simp only[AJ];omega))only[AK,↓AB,↓reduceIte,seval, *]
   |(with_reducible (first|apply AD|apply AE))<;>(intro hc;(try simp only[AR]at hc);(try simp only[hc]);(try simp only[AQ]at hc);try omega))
  ·obtain rfl:i=0:=by omega
   exact⟨(Iq (.inl (Rf (by omega) (by omega)))).symm,trivial⟩
  ·exact⟨(Iq (.inr (Sm h8 (by omega) (by omega:36028797018963967<pk (l.take i))))).symm,trivial⟩
  ·obtain rfl:i=0:=by omega
   have n1:((pk (l.take 0):Int)*256).toNat|||(l.getD 0 0).toNat=pk (l.take 1):=by
    rw[show((pk (l.take 0):Int)*256).toNat=pk (l.take 0)*2 ^ 8 by omega,TQ (by omega),Hj (by omega)]
   have n2:pk (l.take 1)<=9223372036854775807:=by rw[Hj (by omega)];omega
   refine Bq hI (l.length-(0+1)) (by omega) ⟨0+1,by omega,rfl,rfl,?_,?_,?_,fun _=>Sz (by omega),n2⟩
   ·simp(disch:=first|omega|(simp only[AJ];omega))only[AK,↓AB,↓reduceIte,seval, *]
   ·simp(disch:=first|omega|(simp only[AJ];omega))only[AK,↓AB,↓reduceIte,seval, *]
   ·simp(disch:=first|omega|(simp only[AJ];omega))only[AK,↓AB,↓reduceIte,seval, *]
  ·exact⟨(Iq (.inr (Sm h8 (by omega) (by omega:36028797018963967<pk (l.take i))))).symm,trivial⟩
  ·have n1:((pk (l.take i):Int)*256).toNat|||(l.getD i 0).toNat=pk (l.take (i+1)):=by
    rw[show((pk (l.take i):Int)*256).toNat=pk (l.take i)*2 ^ 8 by omega,TQ (by omega),Hj (by omega)]
   have n2:pk (l.take (i+1))<=9223372036854775807:=by rw[Hj (by omega)];omega
   refine Bq hI (l.length-(i+1)) (by omega) ⟨i+1,by omega,rfl,rfl,?_,?_,?_,fun _=>hF (by omega),n2⟩
   ·simp(disch:=first|omega|(simp only[AJ];omega))only[AK,↓AB,↓reduceIte,seval, *]
   ·simp(disch:=first|omega|(simp only[AJ];omega))only[AK,↓AB,↓reduceIte,seval, *]
   ·simp(disch:=first|omega|(simp only[AJ];omega))only[AK,↓AB,↓reduceIte,seval, *];rfl
  ·have:i=l.length:=by omega
   subst this
   rw[List.take_length]at*
   refine⟨(QT ?_).symm,trivial⟩
   rintro(h1|h1)
   ·cases l with
    |nil=>cases h1
    |cons c r=>exact hF (by simp) h1
   ·omega
theorem FT {h:H} {l:List UInt8} (hl:l.length<=1000000):BZ Try.prog 41 [sv l] h fun y h'=>y=Hf (takeN l)/\h'=h:=by
 refine BP xO (by intro hb;cases hb) (by simp) (by simp) fun Q hQ=>?_
 simp only[Ay,Nat.reduceAdd]
 cases l with
 |nil=>
  repeat' (first
   |refine St.h ?_
   |simp(disch:=first|omega|(simp only[AJ];omega))only[AK,↓AB,↓reduceIte,seval, *]
   |(with_reducible (first|apply AD|apply AE))<;>(intro hc;(try simp only[AR]at hc);(try simp only[hc]);(try simp only[AQ]at hc);try omega))
  exact⟨rfl,trivial⟩
 |cons w r=>
 have hlen:(w::r).length=r.length+1:=rfl
 have hw:=w.toNat_lt
 have hgd:(w::r).getD 0 0=w:=rfl
 have d0:(w::r=[])=False:=by simp
 repeat' (first
  |refine St.h ?_
  |simp(disch:=first|omega|(simp only[AJ];omega))only[AK,↓AB,↓reduceIte,seval, *]
  |(with_reducible (first|apply AD|apply AE))<;>(intro hc;(try simp only[AR]at hc);(try simp only[hc]);(try simp only[AQ]at hc);try omega))
 ·exact⟨by rw[HO (by omega)];rfl,trivial⟩
 ·exact⟨by rw[Fj (by omega) (by omega)];rfl,trivial⟩
 have hsl:((w::r).take (1+(w.toNat:Int)).toNat).drop 1=r.take w.toNat:=by
  rw[show(1+(w.toNat:Int)).toNat=w.toNat+1 by omega];simp
 rw[hsl]
 refine CL.mk (Q4 (by rw[List.length_take];omega)) ?_
 rintro _ _ ⟨rfl,rfl⟩
 by_cases hb:Ju (r.take w.toNat)
 ·rw[Iq hb]
  repeat' (first
   |refine St.h ?_
   |simp(disch:=first|omega|(simp only[AJ];omega))only[AK,↓AB,↓reduceIte,seval, *]
   |(with_reducible (first|apply AD|apply AE))<;>(intro hc;(try simp only[AR]at hc);(try simp only[hc]);(try simp only[AQ]at hc);try omega))
  exact⟨by rw[HQ (by omega) (by omega) hb];rfl,trivial⟩
 ·rw[QT hb]
  repeat' (first
   |refine St.h ?_
   |simp(disch:=first|omega|(simp only[AJ];omega))only[AK,↓AB,↓reduceIte,seval, *]
   |(with_reducible (first|apply AD|apply AE))<;>(intro hc;(try simp only[AR]at hc);(try simp only[hc]);(try simp only[AQ]at hc);try omega))
  refine⟨?_,trivial⟩
  rw[Gx (by omega) (by omega) hb,show(1:Int)+(w.toNat:Int)=((w.toNat+1:Nat):Int)by omega];rfl
theorem Ed {h:H} {n:Int} (hn:n<=9223372036854775807) (hf:B.val h.floor<=B.val h.next):BZ Try.prog 18 [.i .i64 n] h fun y h'=>y=sv (A7 n.toNat)/\AZ AM h h':=by
 refine BP xY (by intro hb;cases hb) (by simp) (by simp) fun Q hQ=>?_
 simp only[Ay,Nat.reduceAdd]
 have hN:n.toNat<=9223372036854775807:=by omega
 have h8:=HY hN
 repeat' (first
  |refine St.h ?_
  |simp(disch:=first|omega|(simp only[AJ];omega))only[AK,↓AB,↓reduceIte,seval]
  |(with_reducible (first|apply AD|apply AE))<;>(intro hc;(try simp only[AR]at hc);(try simp only[hc]);(try simp only[AQ]at hc);try omega))
 refine AL.own (by simp) hf fun h1 s1 n1 o1=>?_
 repeat' (first
  |refine St.h ?_
  |simp(disch:=first|omega|(simp only[AJ];omega))only[AK,↓AB,↓reduceIte,seval,List.length_cons,List.length_nil]
  |(with_reducible (first|apply AD|apply AE))<;>(intro hc;(try simp only[AR]at hc);(try simp only[hc]);(try simp only[AQ]at hc);try omega))
 refine Ok.lp (fun m t g=>∃ (z:Int) (d:List UInt8) (xs:List V),m=z.toNat/\z.toNat<=9223372036854775807/\DT z.toNat++d=DT n.toNat/\get 0 t=.i .i64 z/\get 3 t=.p h.next 0 0 9/\get 4 t=.i .i64 ((9-d.length:Nat):Int)/\Ev.Own g h.next xs/\xs.length=9/\xs.drop (9-d.length)=d.map bv/\AZ AM h g) n.toNat ?_ ?_
 ·simp(disch:=first|omega|(simp only[AJ];omega))only[AK,↓AB,↓reduceIte,seval]
  refine⟨n,[],_,rfl,hN,by simp,rfl,trivial,rfl,o1,rfl,rfl,s1⟩
 rintro I hI m t g ⟨z,d,xs,rfl,hz,hD,f0,f3,f4,o,hx,hxd,st⟩
 have hdl:(DT z.toNat).length+d.length<=8:=by rw[<-List.length_append,hD];exact h8
 have ea2:(((9-d.length:Nat):Int)-1)=((8-d.length:Nat):Int):=by omega
 have ew:(9:Int)-((9-d.length:Nat):Int)=(d.length:Int):=by omega
 repeat' (first
  |refine St.h ?_
  |simp(disch:=first|omega|(simp only[AJ];omega))only[AK,↓AB,↓reduceIte,seval,f0,f3,f4,hQ,ea2,ew,IY]
  |(with_reducible (first|apply AD|apply AE))<;>(intro hc;(try simp only[AR]at hc);(try simp only[hc]);(try simp only[AQ]at hc);try omega))
 ·obtain⟨c,rfl⟩:=Int.eq_ofNat_of_zero_le (by omega:0<=z)
  rw[Int.toNat_natCast]at hD hdl hz
  have hc0:c≠0:=by omega
  have hdp:=Fz hc0
  have SZ:(DT c).length=(DT (c/256)).length+1:=by rw[hdp];simp
  refine ST.own (y:=bv (UInt8.ofNat (c%256))) o (by rw[<-Ie];simp;rfl) rfl (by omega) (by omega) fun g' o' s'=>?_
  repeat' (first
   |refine St.h ?_
   |simp(disch:=first|omega|(simp only[AJ];omega))only[AK,↓AB,↓reduceIte,seval,f0,f3,f4,ea2]
   |(with_reducible (first|apply AD|apply AE))<;>(intro hc;(try simp only[AR]at hc);(try simp only[hc]);(try simp only[AQ]at hc);try omega))
  have hdrop:(xs.set (8-d.length) (bv (UInt8.ofNat (c%256)))).drop (9-(UInt8.ofNat (c%256)::d).length)=(UInt8.ofNat (c%256)::d).map bv:=by
   rw[show 9-(UInt8.ofNat (c%256)::d).length=8-d.length by simp only[List.length_cons];omega,Ln _ _ _ (by omega),show 8-d.length+1=9-d.length by omega,hxd];rfl
  refine Bq hI (c/256) (by omega) ⟨((c/256:Nat):Int),UInt8.ofNat (c%256)::d,_,by rw[Int.toNat_natCast],by rw[Int.toNat_natCast];omega,?_,?_,?_,?_,o',by rw[List.length_set];exact hx,hdrop,st.B3 s' fun i hi=>by rw[hi];exact Nat.le_refl _⟩
  ·rw[Int.toNat_natCast,<-hD,hdp];simp
  ·simp(disch:=first|omega|(simp only[AJ];omega))only[AK,↓AB,↓reduceIte,seval];rfl
  ·simp(disch:=first|omega|(simp only[AJ];omega))only[AK,↓AB,↓reduceIte,seval,f3]
  ·simp(disch:=first|omega|(simp only[AJ];omega))only[AK,↓AB,↓reduceIte,seval]
   congr 1;simp only[List.length_cons];omega
 ·have hz0:z.toNat=0:=by omega
  rw[hz0,Dh,List.nil_append]at hD
  refine ST.own (y:=bv (UInt8.ofNat d.length)) o (by rw[<-Ie,Nat.mod_eq_of_lt (by omega)];rfl) rfl (by omega) (by omega) fun g' o' s'=>?_
  have hlen:(xs.set (8-d.length) (bv (UInt8.ofNat d.length))).length=9:=by rw[List.length_set];exact hx
  have hdrop:(xs.set (8-d.length) (bv (UInt8.ofNat d.length))).drop (8-d.length)=(UInt8.ofNat d.length::d).map bv:=by
   rw[Ln _ _ _ (by omega),show 8-d.length+1=9-d.length by omega,hxd];rfl
  have hL:=o'.back (a:=8-d.length) (fin:=9) (by omega) (by omega) (some (9-(8-d.length)))
  rw[hdrop,hlen]at hL
  repeat' (first
   |refine St.h ?_
   |simp(disch:=first|omega|(simp only[AJ];omega))only[AK,↓AB,↓reduceIte,seval,f0,f3,f4,hL.bs (by simp)]
   |(with_reducible (first|apply AD|apply AE))<;>(intro hc;(try simp only[AR]at hc);(try simp only[hc]);(try simp only[AQ]at hc);try omega))
  subst hQ
  exact⟨by unfold A7;rw[<-hD],st.B3 s' fun i hi=>by rw[hi];exact Nat.le_refl _⟩
theorem Et {h:H} {n:Int} (hn:n<=9223372036854775807) (hf:B.val h.floor<=B.val h.next):BZ Try.prog 22 [.i .i64 n] h fun y h'=>y=sv (A7 n.toNat)/\AZ AM h h':=by
 refine BP wZ (by intro hb;cases hb) (by simp) (by simp) fun Q hQ=>?_
 simp only[Ay,Nat.reduceAdd]
 have hN:n.toNat<=9223372036854775807:=by omega
 have h8:=HY hN
 repeat' (first
  |refine St.h ?_
  |simp(disch:=first|omega|(simp only[AJ];omega))only[AK,↓AB,↓reduceIte,seval]
  |(with_reducible (first|apply AD|apply AE))<;>(intro hc;(try simp only[AR]at hc);(try simp only[hc]);(try simp only[AQ]at hc);try omega))
 refine Ok.lp (fun m t g=>∃ (c:Nat) (d:List UInt8),m=c/\c<=9223372036854775807/\DT c++d=DT n.toNat/\get 3 t=sv d/\get 4 t=.i .i64 (c:Int)/\AZ AM h g) n.toNat ?_ ?_
 ·simp(disch:=first|omega|(simp only[AJ];omega))only[AK,↓AB,↓reduceIte,seval]
  exact⟨n.toNat,[],rfl,hN,by simp,rfl,by congr 1;omega,AZ.refl _ _⟩
 rintro I hI m t g ⟨c,d,rfl,hc1,hD,f3,f4,st⟩
 have hdl:(DT m).length+d.length<=8:=by rw[<-List.length_append,hD];exact h8
 have hfg:=st.fl hf
 repeat' (first
  |refine St.h ?_
  |simp(disch:=first|omega|(simp only[AJ];omega))only[AK,↓AB,↓reduceIte,seval,f3,f4,IY]
  |(with_reducible (first|apply AD|apply AE))<;>(intro hc;(try simp only[AR]at hc);(try simp only[hc]);(try simp only[AQ]at hc);try omega))
 ·refine AL.str (bs:=[UInt8.ofNat (m%256)]) (by rw[nk (by omega) (by omega)];rfl) (by simp) rfl rfl (by simp) hfg fun h' u s1=>?_
  repeat' (first
   |refine St.h ?_
   |simp(disch:=first|omega|(simp only[AJ];omega))only[AK,↓AB,↓reduceIte,seval,f3,f4]
   |(with_reducible (first|apply AD|apply AE))<;>(intro hc;(try simp only[AR]at hc);(try simp only[hc]);(try simp only[AQ]at hc);try omega))
  have hp:=Fz (n:=m) (by omega)
  refine Bq hI (m/256) (by omega) ⟨m/256,[UInt8.ofNat (m%256)]++d,rfl,by omega,by rw[<-hD,hp];simp,?_,?_,st.trans s1⟩
  ·simp(disch:=first|omega|(simp only[AJ];omega))only[AK,↓AB,↓reduceIte,seval]
  ·simp(disch:=first|omega|(simp only[AJ];omega))only[AK,↓AB,↓reduceIte,seval];rfl
 ·have hm:m=0:=by omega
  subst hm
  rw[Dh,List.nil_append]at hD
  refine AL.str (bs:=[UInt8.ofNat d.length]) (by rw[nk (by omega) (by omega)];rfl) (by simp) rfl rfl (by simp) hfg fun h' u s1=>?_
  repeat' (first
   |refine St.h ?_
   |simp(disch:=first|omega|(simp only[AJ];omega))only[AK,↓AB,↓reduceIte,seval,f3,f4]
   |(with_reducible (first|apply AD|apply AE))<;>(intro hc;(try simp only[AR]at hc);(try simp only[hc]);(try simp only[AQ]at hc);try omega))
  subst hQ
  exact⟨by unfold A7;rw[<-hD];rfl,st.trans s1⟩
theorem Fh {h:H} {l:List UInt8} (hl:l.length<=1000000):BZ Try.prog 27 [sv l] h fun y h'=>y=Hf (takeN l)/\h'=h:=by
 refine BP xQ (by intro hb;cases hb) (by simp) (by simp) fun Q hQ=>?_
 simp only[Ay,Nat.reduceAdd]
 cases l with
 |nil=>
  repeat' (first
   |refine St.h ?_
   |simp(disch:=first|omega|(simp only[AJ];omega))only[AK,↓AB,↓reduceIte,seval,hQ,List.length_nil]
   |(with_reducible (first|apply AD|apply AE))<;>(intro hc;(try simp only[AR]at hc);(try simp only[hc]);(try simp only[AQ]at hc);try omega))
  exact⟨rfl,trivial⟩
 |cons w r=>
 have hlen:(w::r).length=r.length+1:=rfl
 have hw:=w.toNat_lt
 have hgd:(w::r).getD 0 0=w:=rfl
 have hgd1:(w::r).getD 1 0=r.getD 0 0:=rfl
 have hc1:=(r.getD 0 0).toNat_lt
 have key:w.toNat<=8->w.toNat<=r.length->¬Ju (r.take w.toNat)->∀ t,get 0 t=sv (w::r)->get 5 t=.i .i64 (w.toNat:Int)->get 6 t=.i .i64 0->get 7 t=.i .i64 1->Ok Try.prog 52 (.loop YH) t h fun x t' h'=>x=.exit 0/\h'=h/\get 5 t'=.i .i64 (w.toNat:Int)/\get 6 t'=.i .i64 ((pk (r.take w.toNat):Nat):Int):=by
  intro hw8 hwr hb t g0 g5 g6 g7
  have hv:pk (r.take w.toNat)<=9223372036854775807:=by
   rcases Nat.lt_or_ge (pk (r.take w.toNat)) 9223372036854775808 with h1|h1
   ·omega
   ·exact absurd (.inr h1) hb
  have mono:∀ i,i<=w.toNat->pk (r.take i)<=pk (r.take w.toNat):=fun i hi=>by
   have e:r.take w.toNat=r.take i++(r.take w.toNat).drop i:=by
    conv=>lhs;rw[<-List.take_append_drop i (r.take w.toNat)]
    rw[List.take_take,Nat.min_eq_left hi]
   rw[e,DP]
   have:1<=256 ^ ((r.take w.toNat).drop i).length:=Nat.pow_pos (by omega)
   have:=Nat.mul_le_mul_left (pk (r.take i)) this
   omega
  refine Ok.lp (fun m t g=>∃ i:Nat,i<=w.toNat/\m=w.toNat-i/\g=h/\get 0 t=sv (w::r)/\get 5 t=.i .i64 (w.toNat:Int)/\get 6 t=.i .i64 ((pk (r.take i):Nat):Int)/\get 7 t=.i .i64 ((i:Int)+1)) w.toNat ?_ ?_
  ·exact⟨0,by omega,rfl,rfl,g0,g5,g6,g7⟩
  rintro I hI m t g ⟨i,hi,rfl,rfl,f0,f5,f6,f7⟩
  have hii:(w::r).getD ((i:Int)+1).toNat 0=r.getD i 0:=by rw[show((i:Int)+1).toNat=i+1 by omega];rfl
  have hci:=(r.getD i 0).toNat_lt
  have ep:i<w.toNat->((pk (r.take i):Nat):Int)*256+((r.getD i 0).toNat:Int)=((pk (r.take (i+1)):Nat):Int):=fun h=>by rw[Hj (by omega)];omega
  have hp:i<w.toNat->pk (r.take i)*256+(r.getD i 0).toNat<=9223372036854775807:=fun h=>by
   have:=mono (i+1) (by omega)
   rw[Hj (by omega)]at this;omega
  by_cases hiw:i<w.toNat
  ·have hp:=hp hiw
   have ep:=ep hiw
   clear hv mono
   repeat' (first
    |refine St.h ?_
    |simp(disch:=first|omega|(simp only[AJ];omega))only[AK,↓AB,↓reduceIte,seval,f0,f5,f6,f7,hii]
    |(with_reducible (first|apply AD|apply AE))<;>(intro hc;(try simp only[AR]at hc);(try simp only[hc]);(try simp only[AQ]at hc);try omega))
   refine Bq hI (w.toNat-(i+1)) (by omega) ⟨i+1,by omega,rfl,rfl,?_,?_,?_,?_⟩
   ·simp(disch:=first|omega|(simp only[AJ];omega))only[AK,↓AB,↓reduceIte,seval,f0]
   ·simp(disch:=first|omega|(simp only[AJ];omega))only[AK,↓AB,↓reduceIte,seval,f5]
   ·simp(disch:=first|omega|(simp only[AJ];omega))only[AK,↓AB,↓reduceIte,seval,ep]
   ·simp(disch:=first|omega|(simp only[AJ];omega))only[AK,↓AB,↓reduceIte,seval];try rfl
  ·obtain rfl:i=w.toNat:=by omega
   repeat' (first
    |refine St.h ?_
    |simp(disch:=first|omega|(simp only[AJ];omega))only[AK,↓AB,↓reduceIte,seval,f0,f5,f6,f7]
    |(with_reducible (first|apply AD|apply AE))<;>(intro hc;(try simp only[AR]at hc);(try simp only[hc]);(try simp only[AQ]at hc);try omega))
 have wrong:w.toNat<=8->w.toNat<=r.length->Ju (r.take w.toNat)->Hf (0,0,10)=Hf (takeN (w::r)):=fun h1 h2 hb=>by rw[HQ (by omega) (by omega) hb]
 have right:w.toNat<=8->w.toNat<=r.length->¬Ju (r.take w.toNat)->.tu [.i .i64 ((pk (r.take w.toNat):Nat):Int),.i .i64 ((w.toNat:Int)+1),.i .i64 0]=Hf (takeN (w::r)):=fun h1 h2 hb=>by rw[Gx (by omega) (by omega) hb];rfl
 have hbad:=fun h1 h2=>VK (r:=r) (k:=w.toNat) h1 h2
 repeat' (first
  |refine St.h ?_
  |simp(disch:=first|omega|(simp only[AJ];omega))only[AK,↓AB,↓reduceIte,seval,hgd,hgd1]
  |(with_reducible (first|apply AD|apply AE))<;>(intro hc;(try simp only[AR]at hc);(try simp only[hc]);(try simp only[AQ]at hc);try omega))
 all_goals subst hQ
 ·exact⟨by rw[HO (by omega)];rfl,rfl⟩
 ·exact⟨by rw[Fj (by omega) (by omega)];rfl,rfl⟩
 ·exact⟨wrong (by omega) (by omega) ((hbad (by omega) (by omega)).2 (.inl ⟨by omega,by omega⟩)),rfl⟩
 ·exact⟨wrong (by omega) (by omega) ((hbad (by omega) (by omega)).2 (.inr ⟨by omega,by omega⟩)),rfl⟩
 all_goals
  have nb:¬Ju (r.take w.toNat):=fun hb=>by
   have:=(hbad (by omega) (by omega)).1 hb
   omega
  refine(key (by omega) (by omega) nb _ (by simp(disch:=first|omega|(simp only[AJ];omega))only[AK,↓AB,↓reduceIte,seval]) (by simp(disch:=first|omega|(simp only[AJ];omega))only[AK,↓AB,↓reduceIte,seval]) (by simp(disch:=first|omega|(simp only[AJ];omega))only[AK,↓AB,↓reduceIte,seval]) (by simp(disch:=first|omega|(simp only[AJ];omega))only[AK,↓AB,↓reduceIte,seval])).mono ?_
  rintro x t' h' ⟨rfl,rfl,g5,g6⟩
  repeat' (first
   |refine St.h ?_
   |simp(disch:=first|omega|(simp only[AJ];omega))only[AK,↓AB,↓reduceIte,seval,g5,g6]
   |(with_reducible (first|apply AD|apply AE))<;>(intro hc;(try simp only[AR]at hc);(try simp only[hc]);(try simp only[AQ]at hc);try omega))
  exact⟨right (by omega) (by omega) nb,by trivial⟩
end Go.Proofs.Ytmlcddeikgechaa
end
