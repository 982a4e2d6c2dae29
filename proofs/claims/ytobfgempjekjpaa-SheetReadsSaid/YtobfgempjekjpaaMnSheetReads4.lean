/- The law SheetReads, part 4: what its proof uses, closely written. No condition. -/
import Derived.Test.YtobfgempjekjpaaMnSheetReads3
import Derived.Test.YtobfgempjekjpaaRows
import Derived.Test.YtobfgempjekjpaaChecked
noncomputable section
set_option maxRecDepth 100000
set_option maxHeartbeats 8000000
set_option linter.all false
namespace Go.Ev
open Go
def GrI (h:H) (el n:Nat) (v:V) (m:Nat) (xs:List V):Prop:=∃ id g cap Ap,v=.l id g 0 m (m*n) cap/\xs.length=m*n/\((1<=m/\cap=none)\/(m=0/\cap=some (18446744073709551615+n)))/\
 B.val h.floor<=B.val id/\B.val id<B.val h.next/\h.heap.get id=some Ap/\Ap.min<=g/\Ap.cur=g/\m*n<=Ap.size/\Ap.el=el/\Ap.fr=0/\∀ i y,xs[i]? =some y->Ap.cells.BP i=some y
/--a row of one's own that is the newest of its block;or nothing -/
def Gr {α:Type} (el n:Nat) (c:α->List V) (h:H) (v:V) (L:List α):Prop:=
 (v=.l0/\L=[])\/(∃ id g off fin,v=.l id g off 0 fin (some 0)/\L=[]/\off<=fin/\B.val id<B.val h.next)\/GrI h el n v L.length (L.flatMap c)
section
variable {P:Program} {α:Type} [Inhabited α] {n el:Nat} {c:α->List V} {h h':H} {N:Nx} {v x:V} {L X:List α} {j k DN:Nat} {vs:List V}
theorem Gr.nil:Gr el n c h .l0 ([]:List α):=.inl ⟨rfl,rfl⟩
theorem Gr.AC8 {id:B} {g off fin:Nat} (h1:off<=fin) (h2:B.val id<B.val h.next):Gr el n c h (.l id g off 0 fin (some 0)) ([]:List α):=.inr (.inl ⟨_,_,_,_,rfl,rfl,h1,h2⟩)
theorem Gr.buf (b:FU h el n v (L.flatMap c)) (tp:O0 h v) (hc:∀ e,(c e).length=n) (hn:1<=n):Gr el n c h v L:=by
 rcases b with⟨rfl,e⟩|⟨id,g,m,Ap,rfl,b1,b2,b3,b4,b5,b6,b7,b8,b9,P1⟩
 ·refine .inl ⟨rfl,?_⟩
  cases L with
  |nil=>rfl
  |cons a L=>have:=C3 hc (a::L);rw[e]at this;have h3:(L.length+1)*n=0:=this.symm;rw[Nat.add_mul]at h3;omega
 ·obtain⟨blk',b5',hcur⟩:=tp id g 0 m _ none rfl
  have hbb:blk'=Ap:=by rw[b5]at b5';exact(Option.some.inj b5').symm
  subst hbb
  have hm:m=L.length:=by
   rw[C3 hc]at b2
   exact(Nat.eq_of_mul_eq_mul_right (by omega) b2).symm
  subst hm
  exact .inr (.inr ⟨id,g,none,blk',by rw[b2],b2,.inl ⟨b1,rfl⟩,b3,b4,b5,b6.1,hcur,by omega,b8,b9,P1⟩)
theorem Gr.ss (a:Gr el n c h v L):Ss n c h v L:=by
 rcases a with⟨rfl,rfl⟩|⟨id,g,off,fin,rfl,rfl,h1,h2⟩|⟨id,g,cap,Ap,rfl,a1,a2,a3,a4,a5,a6,a7,a8,a9,a10,a11⟩
 ·exact .inl ⟨rfl,rfl⟩
 ·exact .inr ⟨id,g,off,fin,_,rfl,by simpa using h1,h2,fun e=>absurd rfl e,fun i y hy=>by simp at hy⟩
 ·refine .inr ⟨id,g,0,_,cap,rfl,by omega,a4,fun _=>⟨Ap,a5,a6⟩,fun i y hy=>?_⟩
  unfold Ev.cell Gg
  rw[a5]
  show(if Ap.min<=g then Ap.cells.BP (0+i)else none)=_
  rw[if_pos a6,Nat.zero_add]
  exact a11 i y hy
theorem Gr.lt (a:Gr el n c h v L):∀ q,Af v q->B.val q<B.val h.next:=by
 rcases a with⟨rfl,rfl⟩|⟨id,g,off,fin,rfl,rfl,h1,h2⟩|⟨id,g,cap,Ap,rfl,a1,a2,a3,a4,_⟩
 ·rintro q ⟨_,_,_,_,_,e⟩;cases e
 ·rintro q ⟨_,_,_,_,_,e⟩;cases e;exact h2
 ·rintro q ⟨_,_,_,_,_,e⟩;cases e;exact a4
theorem Gr.stay {p:B->Prop} (a:Gr el n c h v L) (s:AW p h h') (hp:∀ q,Af v q->¬p q):Gr el n c h' v L:=by
 rcases a with⟨rfl,rfl⟩|⟨id,g,off,fin,rfl,rfl,h1,h2⟩|⟨id,g,cap,Ap,rfl,a1,a2,a3,a4,a5,a6⟩
 ·exact .inl ⟨rfl,rfl⟩
 ·exact .inr (.inl ⟨id,g,off,fin,rfl,rfl,h1,Nat.lt_of_lt_of_le h2 s.next⟩)
 ·exact .inr (.inr ⟨id,g,cap,Ap,rfl,a1,a2,by rw[s.floor];exact a3,Nat.lt_of_lt_of_le a4 s.next,(s.get id a4 (hp id ⟨_,_,_,_,_,rfl⟩)).trans a5,a6⟩)
theorem Gr.grow (a:Gr el n c h v L) (s:AW AN h h'):Gr el n c h' v L:=a.stay s fun _ _ e=>e
/--a store into a block -/
theorem Lr {id:B} {g off fin:Nat} {Ap:Gi} (h0:h.heap.get id=some Ap) (h1:Ap.cur=g) (h2:Ap.min<=g) (h3:Ap.fr=0) (h4:B.val h.floor<=B.val id) (hj:off+vs.length<=fin) (hfit:off+vs.length<2 ^ 37) (ho:Bk vs=true):
 ∃ h' tr,(∀ k,store h id g off fin vs k=k h')/\h'.heap.get id=some ⟨g,g,Ap.size,tr,Ap.el,0⟩/\(∀ i y,vs[i]? =some y->tr.BP (off+i)=some y)/\(∀ i,i<off\/off+vs.length<=i->tr.BP i=Ap.cells.BP i)/\AW (fun q=>q=id) h h'/\h'.next=h.next:=by
 obtain⟨next,floor,heap⟩:=h
 obtain⟨cur,min,sz,cells,bel,fr⟩:=Ap
 simp only at h1 h2 h3 h4
 subst h1;subst h3
 obtain⟨tr,t1,t2,t3⟩:=Bn vs off cells (by omega)
 obtain⟨hp,s1,s2,s3⟩:=Bw id (⟨cur,cur,sz,tr,bel,0⟩:Gi) heap
 have e1:B.Jz floor id=true:=by cases floor<;>first|rfl|(show Nat.ble _ _=true;rw[Nat.ble_eq];exact h4)
 have e2:Nat.ble (Nat.add off vs.length) fin=true:=by rw[Nat.ble_eq];exact hj
 have e4:Hc 0 off=true:=rfl
 have e5:Nat.beq cur cur=true:=Nat.beq_refl cur
 have e6:Nat.ble min cur=true:=by rw[Nat.ble_eq];exact h2
 have h0':heap.get id=some ⟨cur,min,sz,cells,bel,0⟩:=h0
 refine⟨⟨next,floor,hp⟩,tr,fun k=>?_,s2,t2,fun i hi=>t3 i hi,⟨rfl,Nat.le_refl _,fun q _ hq=>s3 q hq⟩,rfl⟩
 simp only[store,CH,h0',Ao,BB,e5,e6,e1,e2,ho,e4,AH]
 rw[t1,s1]
/--l[j]=y -/
theorem ST.gr {y:α} (a:Gr el n c h v L) (hc:∀ e,(c e).length=n) (hn:1<=n) (hj:j<L.length) (hl:L.length*n<2 ^ 36) (h1:Bk (c y)=true)
 (k:∀ h',Gr el n c h' v (L.set j y)->AW (Af v) h h'->N.go P (.tu []) h'):ST P n (.p (GV v) (lg v) (Ct v+j*n) (Cv v)) (.a (c y)) h N:=by
 rcases a with⟨rfl,rfl⟩|⟨id,g,off,fin,rfl,rfl,_⟩|⟨id,g,cap,Ap,rfl,a1,a2,a3,a4,a5,a6,a7,a8,a9,a10,a11⟩
 ·simp at hj
 ·simp at hj
 have hjn:(j+1)*n<=L.length*n:=Nat.mul_le_mul_right n hj
 rw[Nat.add_mul]at hjn
 obtain⟨h',tr,b1,b2,b3,b4,b5,b6⟩:=Lr (off:=j*n) (fin:=L.length*n) (vs:=c y) a5 a7 a6 a10 a3 (by rw[hc];omega) (by rw[hc];omega) h1
 refine DZ (v:=.tu []) (h':=h') (fun k=>?_) (k h' (.inr (.inr ⟨id,g,cap,_,by rw[List.length_set],by rw[C3 hc,List.length_set],by rw[List.length_set];exact a2,by rw[b5.floor];exact a3,by rw[b6];exact a4,b2,Nat.le_refl _,rfl,by rw[List.length_set];exact a8,a9,rfl,fun i z hz=>?_⟩)) (b5.mono fun q _ e=>by rw[e];exact⟨_,_,_,_,_,rfl⟩))
 ·show As (Nat.beq (c y).length n) (fun _=>store h id g (0+j*n) (L.length*n) (c y) fun h=>k (.tu []) h)=_
  rw[hc,Nat.beq_refl,AH,Nat.zero_add,b1]
 ·show tr.BP i=some z
  have hil:i<L.length*n:=by
   have h1:=(List.getElem?_eq_some_iff.1 hz).1
   rw[C3 hc,List.length_set]at h1;exact h1
  have hd:i%n<n:=Nat.mod_lt _ hn
  have hi:i=i/n*n+i%n:=by rw[Nat.mul_comm];exact(Nat.div_add_mod i n).symm
  have hq:i/n<L.length:=(Nat.div_lt_iff_lt_mul hn).2 hil
  generalize i/n=q at*
  generalize i%n=d at*
  subst hi
  rw[Kf hc (by rw[List.length_set];exact hq) hd]at hz
  by_cases e:q=j
  ·subst e
   have hdl:d<(c y).length:=by rw[hc];exact hd
   have:(L.set q y).getD q default=y:=by simp[List.getD,hq]
   rw[this]at hz
   rw[b3 d ((c y).getD d .u) (by simp[List.getD,hdl]),hz]
  ·have:(L.set j y).getD q default=L.getD q default:=by
    rw[List.getD_eq_getElem?_getD,List.getElem?_set_ne (fun h=>e h.symm),<-List.getD_eq_getElem?_getD]
   rw[this]at hz
   rw[b4]
   ·exact a11 _ _ (by rw[Kf hc hq hd];exact hz)
   ·rw[hc]
    rcases Nat.lt_or_gt_of_ne e with h|h
    ·have:(q+1)*n<=j*n:=Nat.mul_le_mul_right n h
     rw[Nat.add_mul]at this;omega
    ·have:(j+1)*n<=q*n:=Nat.mul_le_mul_right n h
     rw[Nat.add_mul]at this;omega
/--append -/
theorem AP.gr (a:Gr el n c h v L) (hc:∀ e,(c e).length=n) (hn:1<=n) (hx:∀ k:Nat->List V->Bool,Dd n x h k=k X.length (X.flatMap c)) (h1:Bk (X.flatMap c)=true) (hpos:1<=L.length+X.length) (hb:(L.length+X.length)*n<=1048576) (hf:B.val h.floor<=B.val h.next)
 (k:∀ v' h',Gr el n c h' v' (L++X)->AW (Af v) h h'->(∀ i,Af v' i->Af v i\/B.val h.next<=B.val i)->N.go P v' h'):AP P el n v x h N:=by
 have hXl:(X.flatMap c).length=X.length*n:=C3 hc X
 rw[Nat.add_mul]at hb
 have hXle:X.length<=X.length*n:=Nat.le_mul_of_pos_right _ hn
 have hLle:L.length<=L.length*n:=Nat.le_mul_of_pos_right _ hn
 rcases a with⟨rfl,rfl⟩|⟨id,g,off,fin,rfl,rfl,h2,h3⟩|⟨id,g,cap,Ap,rfl,a1,a2,a3,a4,a5,a6,a7,a8,a9,a10,a11⟩
 ·refine AP.buf (vs:=X.flatMap c) (DN:=X.length) (FU.nil h el n) hx hf hn hXl h1 (by rw[hXl,List.length_nil];omega) fun v' h' b s hv tp=>k v' h' (Gr.buf (by simpa using b) tp hc hn) s hv
 ·refine AP.e1 hx hf hXl (by omega) (by omega) (fun e=>by rw[List.length_nil]at hpos;omega) fun h' _ s nx b tp=>k _ h' (Gr.buf (by simpa using b) tp hc hn) (s.mono fun _ _ e=>e.elim) fun i hi=>?_
  obtain⟨_,_,_,_,_,e⟩:=hi;cases e;exact .inr (Nat.le_refl _)
 ·obtain⟨next,floor,heap⟩:=h
  obtain⟨cur,min,sz,cells,bel,fr⟩:=Ap
  simp only at a6 a7 a8 a9 a10
  subst a7;subst a10;subst a9
  obtain⟨tr,t1,t2,t3⟩:=Bn (X.flatMap c) (L.length*n) cells (by omega)
  obtain⟨min',hmin⟩:∃ m',Ue (Nat.beq (L.length*n) sz) min (Nat.succ cur)=m':=⟨_,rfl⟩
  have hmin2:min'<=cur+1:=by
   rw[<-hmin]
   cases Nat.beq (L.length*n) sz with
   |true=>show min<=cur+1;omega
   |false=>exact Nat.le_refl _
  obtain⟨hp,s1,s2,s3⟩:=Bw id (⟨Nat.succ cur,min',Nat.add (L.length*n) (Nat.mul X.length n),tr,bel,0⟩:Gi) heap
  have e1:Nat.ble min cur=true:=by rw[Nat.ble_eq];exact a6
  have e2:B.Jz floor id=true:=by cases floor<;>first|rfl|(show Nat.ble _ _=true;rw[Nat.ble_eq];exact a3)
  have e3:Nat.add 0 (Nat.mul L.length n)=L.length*n:=by show 0+L.length*n=_;omega
  have e3':Nat.ble (L.length*n) sz=true:=by rw[Nat.ble_eq];exact a8
  have e4:Nat.beq (L.length*n) (L.length*n)=true:=Nat.beq_refl _
  have e6:Nat.ble (Nat.add L.length X.length) 1048576=true:=by rw[Nat.ble_eq];show L.length+X.length<=1048576;omega
  have e7:Hc 0 (L.length*n)=true:=rfl
  have e8:Nat.beq bel bel=true:=Nat.beq_refl _
  have e9:Me n (Nat.add L.length X.length)=none:=Kg (by show 1<=L.length+X.length;omega)
  have b5':heap.get id=some ⟨cur,min,sz,cells,bel,0⟩:=a5
  have go:∀ z,z=true->∀ k,Ch z bel id cur 0 L.length (L.length*n) n X.length (X.flatMap c) ⟨next,floor,heap⟩ k=k (.l id (Nat.succ cur) 0 (L.length+X.length) (L.length*n+X.length*n) none) ⟨next,floor,hp⟩:=fun z hz k=>by
   subst hz
   simp only[Ch,CH,b5',Ao,BB,A5,e3,e1,e2,e3',e4,e6,h1,e7,e8,e9,AH,hmin]
   rw[t1,s1];rfl
  have go2:∀ q,Ci bel n (.l id cur 0 L.length (L.length*n) cap) X.length (X.flatMap c) ⟨next,floor,heap⟩ q=q (.l id (Nat.succ cur) 0 (L.length+X.length) (L.length*n+X.length*n) none) ⟨next,floor,hp⟩:=fun q=>by
   rcases a2 with⟨a2,rfl⟩|⟨a2,rfl⟩
   ·exact go _ (by rw[Nat.ble_eq];exact a2) q
   ·show A4 (BU (18446744073709551615+n)) (fun _=>Ch (W9 (Nat.ble 1 L.length) (Nat.beq (18446744073709551615+n) (Nat.add 18446744073709551615 n))) bel id cur 0 L.length (L.length*n) n X.length (X.flatMap c) ⟨next,floor,heap⟩ q) _=_
    have hfl:BU (18446744073709551615+n)=true:=by show Nat.ble _ _=true;rw[Nat.ble_eq];omega
    rw[hfl,Df]
    refine go _ ?_ q
    rw[show Nat.beq (18446744073709551615+n) (Nat.add 18446744073709551615 n)=true from Nat.beq_refl _]
    cases Nat.ble 1 L.length<;>rfl
  refine DZ (v:=.l id (Nat.succ cur) 0 (L.length+X.length) (L.length*n+X.length*n) none) (h':=⟨next,floor,hp⟩) (fun q=>by rw[hx,go2]) (k _ _ (.inr (.inr ⟨id,cur+1,none,_,?_,?_,.inl ⟨by rw[List.length_append];omega,rfl⟩,a3,a4,s2,hmin2,rfl,?_,rfl,rfl,fun i y hy=>?_⟩)) ⟨rfl,Nat.le_refl _,fun q _ hq=>s3 q fun e=>hq (by rw[e];exact⟨_,_,_,_,_,rfl⟩)⟩ fun i hi=>?_)
  ·rw[List.length_append,Nat.add_mul]
  ·rw[List.flatMap_append,List.length_append,List.length_append,a1,hXl,Nat.add_mul]
  ·show(L++X).length*n<=L.length*n+X.length*n
   rw[List.length_append,Nat.add_mul];exact Nat.le_refl _
  ·show tr.BP i=some y
   rw[List.flatMap_append]at hy
   by_cases hi:i<L.length*n
   ·rw[t3 i (.inl hi)]
    refine a11 i y ?_
    rwa [List.getElem?_append_left (by rw[a1];exact hi)]at hy
   ·rw[List.getElem?_append_right (by rw[a1];omega),a1]at hy
    have:=t2 (i-L.length*n) y hy
    rwa [show L.length*n+(i-L.length*n)=i by omega]at this
  ·obtain⟨_,_,_,_,_,e⟩:=hi;cases e;exact .inl ⟨_,_,_,_,_,rfl⟩
/--v[:k] -/
theorem Gr.hi (a:Gr el n c h v L) (hc:∀ e,(c e).length=n) (hk:k<=L.length) (hL:1<=L.length):∃ u,Gr el n c h u (L.take k)/\(∀ q,Af u q->Af v q)/\∀ (g:H) (N:Nx),H2 P (Fp n) v (.i .i64 (k:Int)) g N=N.go P u g:=by
 rcases a with⟨rfl,rfl⟩|⟨id,g,off,fin,rfl,rfl,_⟩|⟨id,g,cap,Ap,rfl,a1,a2,a3,a4,a5,a6,a7,a8,a9,a10,a11⟩
 ·simp at hL
 ·simp at hL
 obtain⟨_,rfl⟩:1<=L.length/\cap=none:=by
  rcases a2 with h|h
  ·exact h
  ·omega
 have htk:(L.take k).length=k:=by rw[List.length_take];omega
 have hkn:k*n<=L.length*n:=Nat.mul_le_mul_right n hk
 refine⟨.l id g 0 k (k*n) (Gz n k L.length),.inr (.inr ⟨id,g,Gz n k L.length,Ap,by rw[htk],by rw[C3 hc],?_,a3,a4,a5,a6,a7,by rw[htk];omega,a9,a10,fun i y hy=>a11 i y ?_⟩),?_,fun g0 N=>Ak fun q=>?_⟩
 ·rw[htk]
  cases k with
  |zero=>
   right
   refine⟨rfl,?_⟩
   obtain⟨m,hm⟩:∃ m,L.length=m+1:=⟨L.length-1,by omega⟩
   rw[hm];rfl
  |succ k=>left;exact⟨by omega,rfl⟩
 ·rw[Jv hc,List.getElem?_take]at hy
  split at hy
  ·exact hy
  ·cases hy
 ·rintro q ⟨_,_,_,_,_,e⟩;cases e;exact⟨_,_,_,_,_,rfl⟩
 ·have e0:Nat.ble 0 k=true:=by rw[Nat.ble_eq];omega
  have e1:Nat.ble k L.length=true:=by rw[Nat.ble_eq];exact hk
  have e2:Nat.beq (L.length*n) (Nat.add 0 (Nat.mul L.length n))=true:=by
   rw[show Nat.add 0 (Nat.mul L.length n)=L.length*n by show 0+L.length*n=_;omega];exact Nat.beq_refl _
  unfold Fp
  simp only[DL,Cx,Bb,e0,AH]
  show DS n id g 0 L.length (L.length*n) 0 k q=_
  unfold DS
  rw[e1,AH,e2,AH,A5,A5,A5]
  show q (.l id g (0+0*n) (k-0) (0+k*n) (Gz n k L.length))=_
  simp
def CLR (P:Program) (z:List V) (x:V) (h:H) (N:Nx):Prop:=HM P (fun k=>vL x (fun _=>k (.tu []) h) fun id g off len fin _=>H7 len (fun _=>k (.tu []) h) fun n=>store h id g off fin (Dq z n) fun h=>k (.tu []) h) N
theorem To {x:O} {z:List V} {t:F}:OR P (EN z x) t h N=CLR P z (oV x t) h N:=F3 fun cf k=>by simp only[EN,Av]
theorem JK (e:α):∀ m,Dq (c e) m=(List.replicate m e).flatMap c
 |0=>rfl
 |m+1=>by rw[List.replicate_succ,List.flatMap_cons,<-JK e m];show app (c e) (Dq (c e) m)=_;rw[Ds]
/--clear(v[k:]) -/
theorem Gr.clr {z:α} (a:Gr el n c h v L) (hc:∀ e,(c e).length=n) (hn:1<=n) (hk:k<L.length) (hl:L.length*n<2 ^ 36) (h1:∀ m,Bk (Dq (c z) m)=true):
 ∃ u,(∀ (g:H) (N:Nx),H2 P (Fv n) v (.i .i64 (k:Int)) g N=N.go P u g)/\∀ N:Nx,(∀ h',Gr el n c h' v (L.take k++List.replicate (L.length-k) z)->AW (Af v) h h'->N.go P (.tu []) h')->CLR P (c z) u h N:=by
 rcases a with⟨rfl,rfl⟩|⟨id,g,off,fin,rfl,rfl,_⟩|⟨id,g,cap,Ap,rfl,a1,a2,a3,a4,a5,a6,a7,a8,a9,a10,a11⟩
 ·simp at hk
 ·simp at hk
 obtain⟨_,rfl⟩:1<=L.length/\cap=none:=by
  rcases a2 with h|h
  ·exact h
  ·omega
 have hkn:k*n+(L.length-k)*n=L.length*n:=by rw[<-Nat.add_mul];congr 1;omega
 refine⟨.l id g (k*n) (L.length-k) (L.length*n) none,fun g0 N=>Ak fun q=>?_,fun N kk=>?_⟩
 ·have e0:Nat.ble k L.length=true:=by rw[Nat.ble_eq];omega
  have e1:Nat.ble L.length L.length=true:=by rw[Nat.ble_eq];exact Nat.le_refl _
  have e2:Nat.beq (L.length*n) (Nat.add 0 (Nat.mul L.length n))=true:=by
   rw[show Nat.add 0 (Nat.mul L.length n)=L.length*n by show 0+L.length*n=_;omega];exact Nat.beq_refl _
  unfold Fv
  simp only[DL,Cx,Bb,e0,AH]
  show DS n id g 0 L.length (L.length*n) k L.length q=_
  unfold DS
  rw[e1,AH,e2,AH,A5,A5,A5,I6]
  show q (.l id g (0+k*n) (L.length-k) (0+L.length*n) none)=_
  simp
 ·have hrl:(Dq (c z) (L.length-k)).length=(L.length-k)*n:=by rw[ET,hc]
  obtain⟨h',tr,b1,b2,b3,b4,b5,b6⟩:=Lr (off:=k*n) (fin:=L.length*n) (vs:=Dq (c z) (L.length-k)) a5 a7 a6 a10 a3 (by rw[hrl];omega) (by rw[hrl];omega) (h1 _)
  have hlen:(L.take k++List.replicate (L.length-k) z).length=L.length:=by simp;omega
  refine DZ (v:=.tu []) (h':=h') (fun q=>?_) (kk h' (.inr (.inr ⟨id,g,none,_,by rw[hlen],by rw[C3 hc],.inl ⟨by rw[hlen];omega,rfl⟩,by rw[b5.floor];exact a3,by rw[b6];exact a4,b2,Nat.le_refl _,rfl,by rw[hlen];exact a8,a9,rfl,fun i y hy=>?_⟩)) (b5.mono fun q _ e=>by rw[e];exact⟨_,_,_,_,_,rfl⟩))
  ·show H7 (L.length-k) _ _=_
   obtain⟨m,hm⟩:∃ m,L.length-k=m+1:=⟨L.length-k-1,by omega⟩
   rw[hm]
   show store h id g (k*n) (L.length*n) (Dq (c z) (m+1)) (fun h=>q (.tu []) h)=_
   rw[<-hm,b1]
  ·show tr.BP i=some y
   rw[List.flatMap_append,<-JK]at hy
   have hkl:((L.take k).flatMap c).length=k*n:=by rw[C3 hc,List.length_take];congr 1;omega
   by_cases hi:i<k*n
   ·rw[b4 i (.inl hi)]
    refine a11 i y ?_
    rw[List.getElem?_append_left (by rw[hkl];exact hi),Jv hc,List.getElem?_take,if_pos hi]at hy
    exact hy
   ·rw[List.getElem?_append_right (by rw[hkl];omega),hkl]at hy
    have:=b3 (i-k*n) y hy
    rwa [show k*n+(i-k*n)=i by omega]at this
end
end Go.Ev
namespace Go.Ev
open Go
/--the bytes of a number,the highest first,no 0 ahead -/
def DM (n:Nat):List UInt8:=if h:n=0 then []else DM (n/256)++[UInt8.ofNat (n%256)]
decreasing_by omega
theorem Ew:DM 0=[]:=by rw[DM];simp
theorem Is {n:Nat} (h:n≠0):DM n=DM (n/256)++[UInt8.ofNat (n%256)]:=by rw[DM];simp[h]
theorem Na:∀ (k n:Nat),n<256 ^ k->(DM n).length<=k
 |0,n,h=>by
  have:n=0:=by simp at h;exact h
  subst this;rw[Ew];simp
 |k+1,n,h=>by
  by_cases hn:n=0
  ·subst hn;rw[Ew];simp
  ·rw[Is hn,List.length_append]
   have:=Na k (n/256) (by rw[Nat.pow_succ]at h;omega)
   simp;exact this
theorem NT (n:Nat):pk (DM n)=n:=by
 induction n using Nat.strongRecOn with
 |_ n ih=>
  by_cases hn:n=0
  ·subst hn;rw[Ew];rfl
  ·rw[Is hn,EJ,ih (n/256) (by omega)]
   simp[pk]
   omega
theorem SK (n:Nat):(DM n).head? ≠some 0:=by
 induction n using Nat.strongRecOn with
 |_ n ih=>
  by_cases hn:n=0
  ·subst hn;rw[Ew];simp
  ·rw[Is hn]
   by_cases h2:n/256=0
   ·rw[h2,Ew]
    intro h
    have h3:UInt8.ofNat (n%256)=0:=by simpa using h
    have h4:=congrArg UInt8.toNat h3
    simp at h4
    omega
   ·have:=ih (n/256) (by omega)
    cases hd:DM (n/256)with
    |nil=>
     have:=NT (n/256)
     rw[hd]at this
     exact absurd this.symm h2
    |cons c l=>rw[hd]at this;simpa using this
/--digits that are no number -/
def Se (l:List UInt8):Prop:=l.head? =some 0\/9223372036854775808<=pk l
instance (l:List UInt8):Decidable (Se l):=by unfold Se;exact inferInstance
/--what reading digits makes -/
def ar (l:List UInt8):V:=if Se l then .tu [.i .i64 0,.b false]else .tu [.i .i64 (pk l:Int),.b true]
theorem IY {l:List UInt8} (h:Se l):ar l=.tu [.i .i64 0,.b false]:=if_pos h
theorem QK {l:List UInt8} (h:¬Se l):ar l=.tu [.i .i64 (pk l:Int),.b true]:=if_neg h
/--a number's cell -/
def Be (n:Nat):List UInt8:=UInt8.ofNat (DM n).length::DM n
def Dl (l:List UInt8):List UInt8:=Be l.length++l
theorem HF {n:Nat} (h:n<=9223372036854775807):(DM n).length<=8:=Na 8 n (by omega)
theorem BJ {n:Nat} (h:n<=9223372036854775807):(Be n).length<=9:=by
 have:=HF h
 show(DM n).length+1<=9
 omega
/--what stands at the front -/
def takeN:List UInt8->Int×Int×Int
 |[]=>(0,0,12)
 |w::r=>if 8<w.toNat then (0,0,10)else if r.length<w.toNat then (0,0,12)else
  if (r.take w.toNat).head? =some 0\/9223372036854775808<=pk (r.take w.toNat)then (0,0,10)else (((pk (r.take w.toNat):Nat):Int),((w.toNat+1:Nat):Int),0)
def Iw (l:List UInt8):List UInt8×Int×Int:=
 if (takeN l).2.2=0 then
  if ((l.drop (takeN l).2.1.toNat).length:Int)<(takeN l).1 then ([],0,12)else ((l.drop (takeN l).2.1.toNat).take (takeN l).1.toNat,(takeN l).2.1+(takeN l).1,0)
 else ([],0,(takeN l).2.2)
theorem GC (w:UInt8) (r:List UInt8):takeN (w::r)=if 8<w.toNat then (0,0,10)else if r.length<w.toNat then (0,0,12)else
 if (r.take w.toNat).head? =some 0\/9223372036854775808<=pk (r.take w.toNat)then (0,0,10)else (((pk (r.take w.toNat):Nat):Int),((w.toNat+1:Nat):Int),0):=rfl
theorem L9 {w:UInt8} {r:List UInt8} (h:8<w.toNat):takeN (w::r)=(0,0,10):=by rw[GC,if_pos h]
theorem Gx {w:UInt8} {r:List UInt8} (h:w.toNat<=8) (h1:r.length<w.toNat):takeN (w::r)=(0,0,12):=by rw[GC,if_neg (by omega),if_pos h1]
theorem MI {w:UInt8} {r:List UInt8} (h:w.toNat<=8) (h1:w.toNat<=r.length) (h2:(r.take w.toNat).head? =some 0\/9223372036854775808<=pk (r.take w.toNat)):takeN (w::r)=(0,0,10):=by
 rw[GC,if_neg (by omega),if_neg (by omega),if_pos h2]
theorem LR {w:UInt8} {r:List UInt8} (h:w.toNat<=8) (h1:w.toNat<=r.length) (h2:¬((r.take w.toNat).head? =some 0\/9223372036854775808<=pk (r.take w.toNat))):takeN (w::r)=(((pk (r.take w.toNat):Nat):Int),((w.toNat+1:Nat):Int),0):=by
 rw[GC,if_neg (by omega),if_neg (by omega),if_neg h2]
/--what it may be -/
theorem Jd (l:List UInt8):(takeN l=(0,0,10)\/takeN l=(0,0,12))\/∃ n k:Nat,takeN l=((n:Int),(k:Int),0)/\n<=9223372036854775807/\1<=k/\k<=9/\k<=l.length:=by
 cases l with
 |nil=>exact .inl (.inr rfl)
 |cons w r=>
  by_cases h:8<w.toNat
  ·exact .inl (.inl (L9 h))
  ·by_cases h1:r.length<w.toNat
   ·exact .inl (.inr (Gx (by omega) h1))
   ·by_cases h2:(r.take w.toNat).head? =some 0\/9223372036854775808<=pk (r.take w.toNat)
    ·exact .inl (.inl (MI (by omega) (by omega) h2))
    ·refine .inr ⟨_,_,LR (by omega) (by omega) h2,by omega,by omega,by omega,by simp;omega⟩
/--the value of digits,byte by byte -/
theorem Jx {l:List UInt8} {i:Nat} (h:i<l.length):pk (l.take (i+1))=pk (l.take i)*256+(l.getD i 0).toNat:=by
 have e:l.getD i 0=l[i]:=by simp[List.getD,h]
 rw[List.take_succ_eq_append_getElem h,EJ,e]
 simp[pk]
theorem GO {n:Nat} (h:n<=9223372036854775807) (more:List UInt8):takeN (Be n++more)=((n:Int),((Be n).length:Int),0):=by
 have hl:=HF h
 have e1:(UInt8.ofNat (DM n).length).toNat=(DM n).length:=by simp;omega
 have e2:(DM n++more).take (DM n).length=DM n:=by simp
 have:takeN (Be n++more)=(((pk ((DM n++more).take (UInt8.ofNat (DM n).length).toNat):Nat):Int),(((UInt8.ofNat (DM n).length).toNat+1:Nat):Int),0):=by
  refine LR (by omega) (by rw[e1];simp) ?_
  have e3:(DM n).append more=DM n++more:=rfl
  rw[e1,e3,e2,NT]
  rintro(h2|h2)
  ·exact SK n h2
  ·omega
 rw[this,e1,e2,NT]
 rfl
theorem Oc {l more:List UInt8} (h:l.length<=9223372036854775807):Iw (Dl l++more)=(l,((Dl l).length:Int),0):=by
 have e:takeN (Dl l++more)=((l.length:Int),((Be l.length).length:Int),0):=by
  unfold Dl;rw[List.append_assoc];exact GO h _
 unfold Iw
 rw[e]
 simp only[if_true]
 have e2:(Dl l++more).drop (((Be l.length).length:Nat):Int).toNat=l++more:=by
  rw[Int.toNat_natCast];unfold Dl;rw[List.append_assoc];simp
 rw[e2,if_neg (by simp;omega)]
 rw[Int.toNat_natCast]
 unfold Dl
 simp
/--cut off bytes lack -/
theorem RF {n c:Nat} (h:n<=9223372036854775807) (hc:c<(Be n).length):takeN ((Be n).take c)=(0,0,12):=by
 have hl:=HF h
 have e1:(UInt8.ofNat (DM n).length).toNat=(DM n).length:=by simp;omega
 cases c with
 |zero=>rfl
 |succ c=>
  have:(Be n).take (c+1)=UInt8.ofNat (DM n).length::(DM n).take c:=rfl
  rw[this]
  have hc':c<(DM n).length:=by unfold Be at hc;simp at hc;omega
  exact Gx (by omega) (by rw[List.length_take,e1];omega)
/--three results -/
def Yj (a:Int×Int×Int):V:=.tu [.i .i64 a.1,.i .i64 a.2.1,.i .i64 a.2.2]
def yA (a:List UInt8×Int×Int):V:=.tu [sv a.1,.i .i64 a.2.1,.i .i64 a.2.2]
theorem mI (n:Nat):UInt8.ofNat (n%256)=UInt8.ofNat n:=UInt8.toNat_inj.1 (by simp)
theorem Lt {α:Type} (xs:List α) (j:Nat) (y:α) (h:j<xs.length):(xs.set j y).drop j=y::xs.drop (j+1):=by
 rw[List.drop_eq_getElem_cons (by rw[List.length_set];exact h),List.drop_set_of_lt (by omega)]
 simp
end Go.Ev
namespace Go.Ev
open Go
structure oF where
 key:List UInt8
 seq:Int
 del:Bool
 val:List UInt8
deriving DecidableEq
def ACi:oF:=⟨[],0,false,[]⟩
instance:Inhabited oF:=⟨ACi⟩
def qh (e:oF):List V:=[sv e.key,.i .i64 e.seq,.b e.del,sv e.val]
theorem H8 (e:oF):(qh e).length=4:=rfl
def Es (h:H) (v:V) (L:List oF):Prop:=Ss 4 qh h v L
section
variable {P:Program} {h h' g':H} {N:Nx} {v:V} {L:List oF} {i d:Nat}
theorem Es.l0 (a:Es h v L) (hi:i<L.length):L1 P (GV v) (lg v) (Ct v+i*4) (Cv v) h N=N.go P (sv (L.getD i default).key) h:=Ss.ld (d:=0) a H8 hi (by omega)
theorem Es.l1 (a:Es h v L) (hi:i<L.length):L1 P (GV v) (lg v) (Ct v+i*4+1) (Cv v) h N=N.go P (.i .i64 (L.getD i default).seq) h:=Ss.ld (d:=1) a H8 hi (by omega)
theorem Es.l2 (a:Es h v L) (hi:i<L.length):L1 P (GV v) (lg v) (Ct v+i*4+2) (Cv v) h N=N.go P (.b (L.getD i default).del) h:=Ss.ld (d:=2) a H8 hi (by omega)
theorem Es.l3 (a:Es h v L) (hi:i<L.length):L1 P (GV v) (lg v) (Ct v+i*4+3) (Cv v) h N=N.go P (sv (L.getD i default).val) h:=Ss.ld (d:=3) a H8 hi (by omega)
theorem Es.grow (a:Es h v L) (s:AW AN h h'):Es h' v L:=Ss.grow a s
end
section
variable {k v:List UInt8} {d:Bool}
end
theorem Dy {x y:UInt8} {a b:List UInt8}:Op.bytesLess (x::a) (y::b)=true↔x.toNat<y.toNat\/(x=y/\Op.bytesLess a b=true):=by
 simp only[Op.bytesLess,Bool.or_eq_true,Bool.and_eq_true,decide_eq_true_eq,beq_iff_eq,UInt8.lt_iff_toNat_lt]
theorem LG:∀ l:List UInt8,Op.bytesLess l l=false
 |[]=>rfl
 |c::l=>by
  cases h:Op.bytesLess (c::l) (c::l)with
  |false=>rfl
  |true=>
   rcases Dy.1 h with h|⟨_,h⟩
   ·omega
   ·rw[LG l]at h;cases h
theorem Kk:∀ {a b c:List UInt8},Op.bytesLess a b=true->Op.bytesLess b c=true->Op.bytesLess a c=true
 |a,[],c,h,_=>by cases a<;>cases h
 |_,_::_,[],_,h=>by cases h
 |[],_::_,_::_,_,_=>rfl
 |x::a,y::b,z::c,h,g=>by
  rcases Dy.1 h with h1|⟨h1,h2⟩<;>rcases Dy.1 g with g1|⟨g1,g2⟩
  ·exact Dy.2 (.inl (by omega))
  ·exact Dy.2 (.inl (by rw[<-g1];exact h1))
  ·exact Dy.2 (.inl (by rw[h1];exact g1))
  ·exact Dy.2 (.inr ⟨h1.trans g1,Kk h2 g2⟩)
theorem NF {a b:List UInt8} (h:Op.bytesLess a b=true):Op.bytesLess b a=false:=by
 cases g:Op.bytesLess b a with
 |false=>rfl
 |true=>have:=Kk h g;rw[LG]at this;cases this
theorem IJ:∀ {a b:List UInt8},a≠b->Op.bytesLess a b=true\/Op.bytesLess b a=true
 |[],[],h=>absurd rfl h
 |[],_::_,_=>.inl rfl
 |_::_,[],_=>.inr rfl
 |x::a,y::b,h=>by
  by_cases e:x=y
  ·subst e
   rcases IJ (a:=a) (b:=b) (fun e=>h (by rw[e]))with g|g
   ·exact .inl (Dy.2 (.inr ⟨rfl,g⟩))
   ·exact .inr (Dy.2 (.inr ⟨rfl,g⟩))
  ·have:x.toNat≠y.toNat:=fun g=>e (UInt8.toNat_inj.1 g)
   rcases Nat.lt_or_ge x.toNat y.toNat with g|g
   ·exact .inl (Dy.2 (.inl g))
   ·exact .inr (Dy.2 (.inl (by omega)))
section
variable {s k v:List UInt8} {n m j:Nat} {q e:Int}
end
end Go.Ev
namespace Go.Ev
open Go
structure Bq where
 id:Int
 A7:Int
 fst:List UInt8
 DT:List UInt8
 DN:Int
deriving DecidableEq
def fJ:Bq:=⟨0,0,[],[],0⟩
instance:Inhabited Bq:=⟨fJ⟩
def LZ (t:Bq):List V:=[.i .i64 t.id,.i .i64 t.A7,sv t.fst,sv t.DT,.i .i64 t.DN]
theorem CI (t:Bq):(LZ t).length=5:=rfl
def FQ (h:H) (v:V) (L:List Bq):Prop:=Ss 5 LZ h v L
section
variable {P:Program} {h h' g':H} {N:Nx} {v:V} {L:List Bq} {i d:Nat}
theorem FQ.ln (a:FQ h v L):H1 P NR v g' N=N.go P (.i .i64 (L.length:Int)) g':=Ss.ln a
theorem FQ.ix (a:FQ h v L) (hi:i<L.length):IX P 5 v i g' N=N.go P (.p (GV v) (lg v) (Ct v+i*5) (Cv v)) g':=Ss.ix a hi
theorem FQ.l0 (a:FQ h v L) (hi:i<L.length):L1 P (GV v) (lg v) (Ct v+i*5) (Cv v) h N=N.go P (.i .i64 (L.getD i default).id) h:=Ss.ld (d:=0) a CI hi (by omega)
theorem FQ.l1 (a:FQ h v L) (hi:i<L.length):L1 P (GV v) (lg v) (Ct v+i*5+1) (Cv v) h N=N.go P (.i .i64 (L.getD i default).A7) h:=Ss.ld (d:=1) a CI hi (by omega)
theorem FQ.l2 (a:FQ h v L) (hi:i<L.length):L1 P (GV v) (lg v) (Ct v+i*5+2) (Cv v) h N=N.go P (sv (L.getD i default).fst) h:=Ss.ld (d:=2) a CI hi (by omega)
theorem FQ.l3 (a:FQ h v L) (hi:i<L.length):L1 P (GV v) (lg v) (Ct v+i*5+3) (Cv v) h N=N.go P (sv (L.getD i default).DT) h:=Ss.ld (d:=3) a CI hi (by omega)
theorem FQ.la (a:FQ h v L) (hi:i<L.length):LN P (GV v) (lg v) (Ct v+i*5) (Cv v) 5 h N=N.go P (.a [.i .i64 (L.getD i default).id,.i .i64 (L.getD i default).A7,sv (L.getD i default).fst,sv (L.getD i default).DT,.i .i64 (L.getD i default).DN]) h:=Ss.ldA a CI (by omega) hi
theorem FQ.grow (a:FQ h v L) (s:AW AN h h'):FQ h' v L:=Ss.grow a s
end
def Nv (a b:Int):Int:=if a<b then -1 else if b<a then 1 else 0
/--how two are held against each other -/
def KW (a b:Bq):Int:=if a.A7=b.A7 then (if a.A7=0 then Nv b.id a.id else Jr (decide (a.fst=b.fst)) (Op.bytesLess a.fst b.fst))else Nv a.A7 b.A7
def Gj (a b:Bq):Bool:=if a.A7=b.A7 then (if a.A7=0 then decide (b.id<a.id)else Op.bytesLess a.fst b.fst)else decide (a.A7<b.A7)
theorem QT {a b:Int}:(Nv a b<0)=(a<b):=by
 unfold Nv
 by_cases h1:a<b
 ·rw[if_pos h1];simp[h1]
 ·rw[if_neg h1]
  by_cases h2:b<a
  ·rw[if_pos h2];simp;omega
  ·rw[if_neg h2];simp;omega
theorem ZR {a b:List UInt8} (h:Op.bytesLess a b=true):a≠b:=fun e=>by rw[e,LG]at h;cases h
theorem Qm {a b:Bq}:(KW a b<0)=(Gj a b=true):=by
 unfold KW Gj
 by_cases h1:a.A7=b.A7
 ·rw[if_pos h1,if_pos h1]
  by_cases h2:a.A7=0
  ·rw[if_pos h2,if_pos h2,QT];simp
  ·rw[if_neg h2,if_neg h2]
   cases hb:Op.bytesLess a.fst b.fst with
   |true=>rw[decide_eq_false (ZR hb)];exact propext ⟨fun _=>rfl,fun _=>by decide⟩
   |false=>
    by_cases e:a.fst=b.fst
    ·rw[decide_eq_true e];exact propext ⟨fun h=>absurd h (by decide),fun h=>by cases h⟩
    ·rw[decide_eq_false e];exact propext ⟨fun h=>absurd h (by decide),fun h=>by cases h⟩
 ·rw[if_neg h1,if_neg h1,QT];simp
theorem kN {a b:Bq} (h:Gj a b=true):(KW a b<0)=True:=by rw[Qm,h];simp
theorem kX {a b:Bq} (h:Gj a b=false):(KW a b<0)=False:=by rw[Qm,h];simp
theorem IK {a b:Bq} (h:Gj a b=true):Gj b a=false:=by
 unfold Gj at*
 by_cases h1:a.A7=b.A7
 ·rw[if_pos h1]at h
  rw[if_pos h1.symm]
  by_cases h2:a.A7=0
  ·rw[if_pos h2]at h;rw[if_pos (by omega)];simp at h⊢;omega
  ·rw[if_neg h2]at h;rw[if_neg (by omega)];exact NF h
 ·rw[if_neg h1]at h;rw[if_neg (Ne.symm h1)];simp at h⊢;omega
theorem UI {a b c:List UInt8} (h1:Op.bytesLess a b=false) (h2:Op.bytesLess b c=false):Op.bytesLess a c=false:=by
 cases h:Op.bytesLess a c with
 |false=>rfl
 |true=>
  exfalso
  by_cases e1:a=b
  ·subst e1;rw[h]at h2;cases h2
  ·rcases IJ e1 with h3|h3
   ·rw[h3]at h1;cases h1
   ·by_cases e2:b=c
    ·subst e2;rw[h]at h1;cases h1
    ·rw[Kk h3 h]at h2;cases h2
theorem Sw {a b c:Bq} (h1:Gj a b=false) (h2:Gj b c=false):Gj a c=false:=by
 unfold Gj at*
 by_cases e1:a.A7=b.A7
 ·rw[if_pos e1]at h1
  by_cases e2:b.A7=c.A7
  ·rw[if_pos e2]at h2;rw[if_pos (e1.trans e2)]
   by_cases e3:a.A7=0
   ·rw[if_pos e3]at h1⊢;rw[if_pos (by omega)]at h2;simp at h1 h2⊢;omega
   ·rw[if_neg e3]at h1⊢;rw[if_neg (by omega)]at h2;exact UI h1 h2
  ·rw[if_neg e2]at h2;rw[if_neg (by omega)];simp at h2⊢;omega
 ·rw[if_neg e1]at h1
  by_cases e2:b.A7=c.A7
  ·rw[if_neg (by omega)];simp at h1⊢;omega
  ·rw[if_neg e2]at h2
   simp at h1 h2
   rw[if_neg (by omega)];simp;omega
/--of two of L,by their places -/
def Cr (L:List Bq) (x y:Nat):Bool:=Gj (L.getD x default) (L.getD y default)
theorem Dt (L:List Bq):Ord (Cr L):=⟨fun h=>IK h,fun h1 h2=>Sw h1 h2⟩
theorem EL {L:List Bq} {x y:Nat} (h:Cr L x y=true):(KW (L.getD x default) (L.getD y default)<0)=True:=kN h
theorem EK {L:List Bq} {x y:Nat} (h:Cr L x y=false):(KW (L.getD x default) (L.getD y default)<0)=False:=kX h
end Go.Ev
namespace Go.Proofs.Ytobfgempjekjpaa
open Go Go.Ev
theorem Uv:Try.prog.follows .mixedOrders=true:=by kernel_rfl
open Go.Ev in
instance {nt:Nat} {t:F} {h:H} {K:X->F->H->Prop} {l:List CO} {ch:Option (List Nat×List (Nat×List Nat))}:St (Ok Try.prog nt (.Ax l ch) t h K) (DO Try.prog l t h (K .normal)):=⟨Ok.dw Uv⟩
end Go.Proofs.Ytobfgempjekjpaa
set_option maxRecDepth 100000
set_option maxHeartbeats 8000000
namespace Go.Proofs.Ytobfgempjekjpaa
open Go Go.Ev
theorem UE {h:H} {x y:List UInt8}:A3 Try.prog 92 [sv x,sv y] h fun z h'=>z=.i .i64 (Jr (decide (x=y)) (Op.bytesLess x y))/\h'=h:=by
 refine Aw c92 (by intro hb;cases hb) (by simp) (by simp) fun Q hQ=>?_
 simp only[Ah,Nat.reduceAdd]
 repeat' (first
  |refine St.h ?_
  |simp(disch:=first|omega|(simp only[AI];omega))only[AJ,↓AA,↓reduceIte,seval]
  |(with_reducible (first|apply AD|apply AE))<;>(intro hc;(try simp only[AT]at hc);(try simp only[hc]);(try simp only[AR]at hc);try omega))
 subst hQ
 exact⟨rfl,rfl⟩
theorem UK {h:H} {x y:List UInt8}:A3 Try.prog 78 [sv x,sv y] h fun z h'=>z=.i .i64 (Jr (decide (x=y)) (Op.bytesLess x y))/\h'=h:=by
 refine Aw c78 (by intro hb;cases hb) (by simp) (by simp) fun Q hQ=>?_
 simp only[Ah,Nat.reduceAdd]
 repeat' (first
  |refine St.h ?_
  |simp(disch:=first|omega|(simp only[AI];omega))only[AJ,↓AA,↓reduceIte,seval]
  |(with_reducible (first|apply AD|apply AE))<;>(intro hc;(try simp only[AT]at hc);(try simp only[hc]);(try simp only[AR]at hc);try omega))
 refine CL.pure UE ?_
 repeat' (first
  |refine St.h ?_
  |simp(disch:=first|omega|(simp only[AI];omega))only[AJ,↓AA,↓reduceIte,seval]
  |(with_reducible (first|apply AD|apply AE))<;>(intro hc;(try simp only[AT]at hc);(try simp only[hc]);(try simp only[AR]at hc);try omega))
 subst hQ
 exact⟨rfl,rfl⟩
theorem QL {h:H} {x:Int}:A3 Try.prog 91 [.i .i64 x] h fun z h'=>z=.b false/\h'=h:=by
 refine Aw c91 (by intro hb;cases hb) (by simp) (by simp) fun Q hQ=>?_
 simp only[Ah,Nat.reduceAdd]
 repeat' (first
  |refine St.h ?_
  |simp(disch:=first|omega|(simp only[AI];omega))only[AJ,↓AA,↓reduceIte,seval]
  |(with_reducible (first|apply AD|apply AE))<;>(intro hc;(try simp only[AT]at hc);(try simp only[hc]);(try simp only[AR]at hc);try omega))
 subst hQ
 exact⟨by simp,rfl⟩
theorem OW {h:H} {x y:Int}:A3 Try.prog 77 [.i .i64 x,.i .i64 y] h fun z h'=>z=.i .i64 (Nv x y)/\h'=h:=by
 refine Aw c77 (by intro hb;cases hb) (by simp) (by simp) fun Q hQ=>?_
 simp only[Ah,Nat.reduceAdd]
 repeat' (first
  |refine St.h ?_
  |simp(disch:=first|omega|(simp only[AI];omega))only[AJ,↓AA,↓reduceIte,seval]
  |(with_reducible (first|apply AD|apply AE))<;>(intro hc;(try simp only[AT]at hc);(try simp only[hc]);(try simp only[AR]at hc);try omega))
 refine CL.pure QL ?_
 repeat' (first
  |refine St.h ?_
  |simp(disch:=first|omega|(simp only[AI];omega))only[AJ,↓AA,↓reduceIte,seval]
  |(with_reducible (first|apply AD|apply AE))<;>(intro hc;(try simp only[AT]at hc);(try simp only[hc]);(try simp only[AR]at hc);try omega))
 refine CL.pure QL ?_
 by_cases h1:x<y
 ·repeat' (first
   |refine St.h ?_
   |simp(disch:=first|omega|(simp only[AI];omega))only[AJ,↓AA,↓reduceIte,seval,h1]
   |(with_reducible (first|apply AD|apply AE))<;>(intro hc;(try simp only[AT]at hc);(try simp only[hc]);(try simp only[AR]at hc);try omega))
  subst hQ
  exact⟨by unfold Nv;rw[if_pos h1],rfl⟩
 ·have d1:(x<y)=False:=eq_false h1
  by_cases h2:y<x
  ·repeat' (first
    |refine St.h ?_
    |simp(disch:=first|omega|(simp only[AI];omega))only[AJ,↓AA,↓reduceIte,seval,d1,h2]
    |(with_reducible (first|apply AD|apply AE))<;>(intro hc;(try simp only[AT]at hc);(try simp only[hc]);(try simp only[AR]at hc);try omega))
   subst hQ
   exact⟨by unfold Nv;rw[if_neg h1,if_pos h2],rfl⟩
  ·have d2:(y<x)=False:=eq_false h2
   repeat' (first
    |refine St.h ?_
    |simp(disch:=first|omega|(simp only[AI];omega))only[AJ,↓AA,↓reduceIte,seval,d1,d2]
    |(with_reducible (first|apply AD|apply AE))<;>(intro hc;(try simp only[AT]at hc);(try simp only[hc]);(try simp only[AR]at hc);try omega))
   subst hQ
   exact⟨by unfold Nv;rw[if_neg h1,if_neg h2],rfl⟩
theorem Bz {h:H} {a b:Bq} (hf:B.val h.floor<=B.val h.next):A3 Try.prog 64 [.a [.i .i64 a.id,.i .i64 a.A7,sv a.fst,sv a.DT,.i .i64 a.DN],.a [.i .i64 b.id,.i .i64 b.A7,sv b.fst,sv b.DT,.i .i64 b.DN]] h fun y h'=>y=.i .i64 (KW a b)/\AW AN h h':=by
 refine Aw c64 (by intro hb;cases hb) (by simp) (by simp) fun Q hQ=>?_
 simp only[Ah,Nat.reduceAdd]
 repeat' (first
  |refine St.h ?_
  |simp(disch:=first|omega|(simp only[AI];omega))only[AJ,↓AA,↓reduceIte,seval]
  |(with_reducible (first|apply AD|apply AE))<;>(intro hc;(try simp only[AT]at hc);(try simp only[hc]);(try simp only[AR]at hc);try omega))
 refine AL.own (by simp) hf fun h1 s1 n1 o1=>?_
 repeat' (first
  |refine St.h ?_
  |simp(disch:=first|omega|(simp only[AI];omega))only[AJ,↓AA,↓reduceIte,seval]
  |(with_reducible (first|apply AD|apply AE))<;>(intro hc;(try simp only[AT]at hc);(try simp only[hc]);(try simp only[AR]at hc);try omega))
 refine AL.own (by simp) (s1.fl hf) fun h2 s2 n2 o2=>?_
 have o1:=o1.stay s2 fun h=>h
 have r1:=o1.row
 have r2:=o2.row
 by_cases ht:a.A7=b.A7
 ·have d1:(a.A7=b.A7)=True:=eq_true ht
  by_cases h0:a.A7=0
  ·have d2:(b.A7=0)=True:=eq_true (by omega)
   repeat' (first
    |refine St.h ?_
    |simp(disch:=first|omega|(simp only[AI];omega))only[AJ,↓AA,↓reduceIte,seval,r1.l1,r2.l1,ht,d2]
    |(with_reducible (first|apply AD|apply AE))<;>(intro hc;(try simp only[AT]at hc);(try simp only[hc]);(try simp only[AR]at hc);try omega))
   refine CL.pure OW ?_
   repeat' (first
    |refine St.h ?_
    |simp(disch:=first|omega|(simp only[AI];omega))only[AJ,↓AA,↓reduceIte,seval]
    |(with_reducible (first|apply AD|apply AE))<;>(intro hc;(try simp only[AT]at hc);(try simp only[hc]);(try simp only[AR]at hc);try omega))
   subst hQ
   exact⟨by unfold KW;rw[if_pos ht,if_pos h0],s1.trans s2⟩
  ·have d2:(b.A7=0)=False:=eq_false (by omega)
   repeat' (first
    |refine St.h ?_
    |simp(disch:=first|omega|(simp only[AI];omega))only[AJ,↓AA,↓reduceIte,seval,r1.l1,r2.l1,ht,d2]
    |(with_reducible (first|apply AD|apply AE))<;>(intro hc;(try simp only[AT]at hc);(try simp only[hc]);(try simp only[AR]at hc);try omega))
   refine CL.pure UK ?_
   repeat' (first
    |refine St.h ?_
    |simp(disch:=first|omega|(simp only[AI];omega))only[AJ,↓AA,↓reduceIte,seval]
    |(with_reducible (first|apply AD|apply AE))<;>(intro hc;(try simp only[AT]at hc);(try simp only[hc]);(try simp only[AR]at hc);try omega))
   subst hQ
   exact⟨by unfold KW;rw[if_pos ht,if_neg h0],s1.trans s2⟩
 ·have d1:(a.A7=b.A7)=False:=eq_false ht
  repeat' (first
   |refine St.h ?_
   |simp(disch:=first|omega|(simp only[AI];omega))only[AJ,↓AA,↓reduceIte,seval,r1.l1,r2.l1,d1]
   |(with_reducible (first|apply AD|apply AE))<;>(intro hc;(try simp only[AT]at hc);(try simp only[hc]);(try simp only[AR]at hc);try omega))
  refine CL.pure OW ?_
  repeat' (first
   |refine St.h ?_
   |simp(disch:=first|omega|(simp only[AI];omega))only[AJ,↓AA,↓reduceIte,seval]
   |(with_reducible (first|apply AD|apply AE))<;>(intro hc;(try simp only[AT]at hc);(try simp only[hc]);(try simp only[AR]at hc);try omega))
  subst hQ
  exact⟨by unfold KW;rw[if_neg ht],s1.trans s2⟩
/--a row of tables of one's own -/
def Rt (h:H) (v:V) (L:List Bq):Prop:=Gr 57 5 LZ h v L
theorem Rt.Dr {h:H} {v:V} {L:List Bq} (a:Rt h v L):FQ h v L:=Gr.ss a
theorem Rt.grow {h h':H} {v:V} {L:List Bq} (a:Rt h v L) (s:AW AN h h'):Rt h' v L:=Gr.grow a s
theorem Bu {h h':H} {p:B->Prop} (s:AW AN h h'):AW p h h':=s.mono fun _ _ e=>e.elim
section
variable {L:List Bq} {N:Nat}
/--l[i],l[j]=l[j],l[i]:the first store -/
theorem ST.NV {P:Program} {h:H} {K:Nx} {v:V} {p:Nat->Nat} {i j:Nat} (rb:Rt h v (By L p N)) (hN:N<=1000) (hi:i<N)
 (k:∀ h',Rt h' v ((By L p N).set i (L.getD (p j) default))->AW (Af v) h h'->K.go P (.tu []) h'):ST P 5 (.p (GV v) (lg v) (Ct v+i*5) (Cv v)) (.a [.i .i64 (L.getD (p j) default).id,.i .i64 (L.getD (p j) default).A7,sv (L.getD (p j) default).fst,sv (L.getD (p j) default).DT,.i .i64 (L.getD (p j) default).DN]) h K:=
 ST.gr (y:=L.getD (p j) default) rb CI (by omega) (by rw[Ca];exact hi) (by rw[Ca];omega) rfl k
/--and the second one -/
theorem ST.Hl {P:Program} {h:H} {K:Nx} {v:V} {p:Nat->Nat} {i j:Nat} (rb:Rt h v ((By L p N).set i (L.getD (p j) default))) (hN:N<=1000) (hj:j<N)
 (k:∀ h',Rt h' v (By L (He p i j) N)->AW (Af v) h h'->K.go P (.tu []) h'):ST P 5 (.p (GV v) (lg v) (Ct v+j*5) (Cv v)) (.a [.i .i64 (L.getD (p i) default).id,.i .i64 (L.getD (p i) default).A7,sv (L.getD (p i) default).fst,sv (L.getD (p i) default).DT,.i .i64 (L.getD (p i) default).DN]) h K:=by
 refine ST.gr (y:=L.getD (p i) default) rb CI (by omega) (by rw[List.length_set,Ca];exact hj) (by rw[List.length_set,Ca];omega) rfl fun h' r s=>k h' ?_ s
 rw[Qy]at r;exact r
theorem RT {h:H} {v:V} {p:Nat->Nat} {a b:Nat} (hb:Rt h v (By L p N)) (hN:N<=1000) (h1:a<=b) (h2:b<=N) (hf:B.val h.floor<=B.val h.next):A3 Try.prog 81 [v,.i .i64 (a:Int),.i .i64 (b:Int),.f 64 []] h fun y h'=>
 ∃ q,D3 a b p q/\Hf (Cr L) q a b/\Rt h' v (By L q N)/\AW (Af v) h h':=by
 refine Aw c81 (by intro hb;cases hb) (by simp) (by simp) fun Q hQ=>?_
 simp only[Ah,Nat.reduceAdd]
 repeat' (first
  |refine St.h ?_
  |simp(disch:=first|omega|(simp only[AI];omega))only[AJ,↓AA,↓reduceIte,seval]
  |(with_reducible (first|apply AD|apply AE))<;>(intro hc;(try simp only[AT]at hc);(try simp only[hc]);(try simp only[AR]at hc);try omega))
 by_cases hab:a<b
 case neg=>
  refine Ok.lp (fun m t g=>m=0/\h=g/\get 2 t=.i .i64 (b:Int)/\get 8 t=.i .i64 ((a:Int)+1)) 0 ?_ ?_
  ·simp(disch:=first|omega|(simp only[AI];omega))only[AJ,↓AA,↓reduceIte,seval]
   repeat' (first|trivial|rfl|refine And.intro ?_ ?_)
  rintro I hI m t g ⟨rfl,rfl,f2,f8⟩
  have d1:((a:Int)+1<(b:Int))=False:=eq_false (by omega)
  repeat' (first
   |refine St.h ?_
   |simp(disch:=first|omega|(simp only[AI];omega))only[AJ,↓AA,↓reduceIte,seval,f2,f8,d1]
   |(with_reducible (first|apply AD|apply AE))<;>(intro hc;(try simp only[AT]at hc);(try simp only[hc]);(try simp only[AR]at hc);try omega))
  subst hQ
  exact⟨p,.refl _,fun i j h1 h2 h3=>by omega,hb,⟨rfl,Nat.le_refl _,fun _ _ _=>rfl⟩⟩
 refine Ok.lp (fun m t g=>∃ (i:Nat) (q:Nat->Nat),m=b-i/\a+1<=i/\i<=b/\get 0 t=v/\get 1 t=.i .i64 (a:Int)/\get 2 t=.i .i64 (b:Int)/\get 3 t=.f 64 []/\get 8 t=.i .i64 (i:Int)/\D3 a b p q/\Hf (Cr L) q a i/\Rt g v (By L q N)/\AW (Af v) h g) (b-(a+1)) ?_ ?_
 ·simp(disch:=first|omega|(simp only[AI];omega))only[AJ,↓AA,↓reduceIte,seval]
  refine⟨a+1,p,by omega,by omega,by omega,?_⟩
  refine⟨?_,?_,?_,?_,?_,.refl _,fun i j h1 h2 h3=>by omega,hb,⟨rfl,Nat.le_refl _,fun _ _ _=>rfl⟩⟩
  all_goals first|trivial|rfl
 rintro I hI m t g ⟨i,q,rfl,hi1,hi2,f0,f1,f2,f3,f8,hper,hs,rb,st⟩
 have hfg:=st.fl hf
 by_cases hib:i<b
 case neg=>
  obtain rfl:i=b:=by omega
  repeat' (first
   |refine St.h ?_
   |simp(disch:=first|omega|(simp only[AI];omega))only[AJ,↓AA,↓reduceIte,seval,f0,f1,f2,f3,f8]
   |(with_reducible (first|apply AD|apply AE))<;>(intro hc;(try simp only[AT]at hc);(try simp only[hc]);(try simp only[AR]at hc);try omega))
  subst hQ
  exact⟨q,hper,hs,rb,st⟩
 repeat' (first
  |refine St.h ?_
  |simp(disch:=first|omega|(simp only[AI];omega))only[AJ,↓AA,↓reduceIte,seval,f0,f1,f2,f3,f8]
  |(with_reducible (first|apply AD|apply AE))<;>(intro hc;(try simp only[AT]at hc);(try simp only[hc]);(try simp only[AR]at hc);try omega))
 refine Ok.lp (fun m t g=>∃ (j:Nat) (q:Nat->Nat),m=j/\a<=j/\j<=i/\get 0 t=v/\get 1 t=.i .i64 (a:Int)/\get 2 t=.i .i64 (b:Int)/\get 3 t=.f 64 []/\get 8 t=.i .i64 (i:Int)/\get 9 t=.i .i64 (j:Int)/\RL (Cr L) q a i j/\D3 a b p q/\Rt g v (By L q N)/\AW (Af v) h g) i ?_ ?_
 ·simp(disch:=first|omega|(simp only[AI];omega))only[AJ,↓AA,↓reduceIte,seval,f0,f1,f2,f3,f8]
  refine⟨i,q,by omega,by omega,by omega,?_⟩
  refine⟨?_,?_,?_,?_,?_,?_,Qh hs,hper,rb,st⟩
  all_goals first|trivial|rfl
 rintro I2 hI2 m2 t2 g2 ⟨j,q2,rfl,hj1,hj2,e0,e1,e2,e3,e8,e9,hM,hper2,rb2,st2⟩
 have hfg2:=st2.fl hf
 have done:∀ g3,Rt g3 v (By L q2 N)->AW (Af v) h g3->(m2=a\/Cr L (q2 m2) (q2 (m2-1))=false)->∀ t3:F,get 0 t3=v->get 1 t3=.i .i64 (a:Int)->get 2 t3=.i .i64 (b:Int)->get 3 t3=.f 64 []->get 8 t3=.i .i64 ((i+1:Nat):Int)->ja I (b-i) t3 g3:=fun g3 r3 s3 hd t3 x0 x1 x2 x3 x8=>by
  exact Ai hI (b-(i+1)) (by omega) ⟨i+1,q2,rfl,by omega,by omega,x0,x1,x2,x3,x8,hper2,KL (Dt L) hM hj2 hd hj1,r3,s3⟩
 by_cases hja:a<m2
 case neg=>
  obtain rfl:m2=a:=by omega
  have d1:((m2:Int)<(m2:Int))=False:=eq_false (by omega)
  repeat' (first
   |refine St.h ?_
   |simp(disch:=first|omega|(simp only[AI];omega))only[AJ,↓AA,↓reduceIte,seval,e0,e1,e2,e3,e8,e9,d1]
   |(with_reducible (first|apply AD|apply AE))<;>(intro hc;(try simp only[AT]at hc);(try simp only[hc]);(try simp only[AR]at hc);try omega))
  exact done _ rb2 st2 (.inl rfl) _ (by simp(disch:=first|omega|(simp only[AI];omega))only[AJ,↓AA,↓reduceIte,seval,e0]) (by simp(disch:=first|omega|(simp only[AI];omega))only[AJ,↓AA,↓reduceIte,seval,e1]) (by simp(disch:=first|omega|(simp only[AI];omega))only[AJ,↓AA,↓reduceIte,seval,e2]) (by simp(disch:=first|omega|(simp only[AI];omega))only[AJ,↓AA,↓reduceIte,seval,e3]) (by simp(disch:=first|omega|(simp only[AI];omega))only[AJ,↓AA,↓reduceIte,seval,e8];rfl)
 have d1:((a:Int)<(m2:Int))=True:=eq_true (by omega)
 obtain⟨n,rfl⟩:∃ n,m2=n+1:=⟨m2-1,by omega⟩
 have en:(((n+1:Nat):Int)-1).toNat=n:=by omega
 have W2:=rb2.Dr
 have ln:(By L q2 N).length=N:=Ca
 have ga:(By L q2 N).getD (n+1) default=L.getD (q2 (n+1)) default:=CJ (by omega)
 have gb:(By L q2 N).getD n default=L.getD (q2 n) default:=CJ (by omega)
 repeat' (first
  |refine St.h ?_
  |simp(disch:=first|omega|(simp only[AI];omega))only[AJ,↓AA,↓reduceIte,seval,e0,e1,e2,e3,e8,e9,d1,W2.ix,W2.la,en,ga,gb,Int.toNat_natCast]
  |(with_reducible (first|apply AD|apply AE))<;>(intro hc;(try simp only[AT]at hc);(try simp only[hc]);(try simp only[AR]at hc);try omega))
 refine CL.stay (Bz (a:=L.getD (q2 (n+1)) default) (b:=L.getD (q2 n) default) hfg2) fun g3 s3=>?_
 have rb3:=rb2.grow s3
 have st3:=st2.trans (Bu s3)
 have W3:=rb3.Dr
 cases hk:Cr L (q2 (n+1)) (q2 n)with
 |false=>
  have d2:=EK hk
  repeat' (first
   |refine St.h ?_
   |simp(disch:=first|omega|(simp only[AI];omega))only[AJ,↓AA,↓reduceIte,seval,e0,e1,e2,e3,e8,e9,d1,d2]
   |(with_reducible (first|apply AD|apply AE))<;>(intro hc;(try simp only[AT]at hc);(try simp only[hc]);(try simp only[AR]at hc);try omega))
  refine done _ rb3 st3 (.inr hk) _ (by simp(disch:=first|omega|(simp only[AI];omega))only[AJ,↓AA,↓reduceIte,seval,e0]) (by simp(disch:=first|omega|(simp only[AI];omega))only[AJ,↓AA,↓reduceIte,seval,e1]) (by simp(disch:=first|omega|(simp only[AI];omega))only[AJ,↓AA,↓reduceIte,seval,e2]) (by simp(disch:=first|omega|(simp only[AI];omega))only[AJ,↓AA,↓reduceIte,seval,e3]) (by simp(disch:=first|omega|(simp only[AI];omega))only[AJ,↓AA,↓reduceIte,seval,e8];rfl)
 |true=>
  have d2:=EL hk
  repeat' (first
   |refine St.h ?_
   |simp(disch:=first|omega|(simp only[AI];omega))only[AJ,↓AA,↓reduceIte,seval,e0,e1,e2,e3,e8,e9,d1,d2,W3.ix,W3.la,en,ga,gb,Int.toNat_natCast]
   |(with_reducible (first|apply AD|apply AE))<;>(intro hc;(try simp only[AT]at hc);(try simp only[hc]);(try simp only[AR]at hc);try omega))
  refine ST.NV rb3 hN (by omega) fun h3 B3 s4=>?_
  have W4:=B3.Dr
  repeat' (first
   |refine St.h ?_
   |simp(disch:=first|omega|(simp only[AI];omega))only[AJ,↓AA,↓reduceIte,seval,e0,e1,e2,e3,e8,e9,en,W4.ix]
   |(with_reducible (first|apply AD|apply AE))<;>(intro hc;(try simp only[AT]at hc);(try simp only[hc]);(try simp only[AR]at hc);try omega))
  refine ST.Hl B3 hN (by omega) fun h4 B4 s5=>?_
  repeat' (first
   |refine St.h ?_
   |simp(disch:=first|omega|(simp only[AI];omega))only[AJ,↓AA,↓reduceIte,seval,e0,e1,e2,e3,e8,e9]
   |(with_reducible (first|apply AD|apply AE))<;>(intro hc;(try simp only[AT]at hc);(try simp only[hc]);(try simp only[AR]at hc);try omega))
  have ez:((n+1:Nat):Int)-1=(n:Int):=by omega
  refine Ai hI2 n (by omega) ⟨n,He q2 (n+1) n,rfl,by omega,by omega,by simp(disch:=first|omega|(simp only[AI];omega))only[AJ,↓AA,↓reduceIte,seval,e0],by simp(disch:=first|omega|(simp only[AI];omega))only[AJ,↓AA,↓reduceIte,seval,e1],by simp(disch:=first|omega|(simp only[AI];omega))only[AJ,↓AA,↓reduceIte,seval,e2],by simp(disch:=first|omega|(simp only[AI];omega))only[AJ,↓AA,↓reduceIte,seval,e3],by simp(disch:=first|omega|(simp only[AI];omega))only[AJ,↓AA,↓reduceIte,seval,e8],by simp(disch:=first|omega|(simp only[AI];omega))only[AJ,↓AA,↓reduceIte,seval,ez,e9],QA (Dt L) hM (by omega) hj2 hk,hper2.trans (.one (by omega) (by omega) (by omega) (by omega)),B4,st3.trans (s4.trans s5)⟩
end
end Go.Proofs.Ytobfgempjekjpaa
set_option maxRecDepth 100000
set_option maxHeartbeats 8000000
namespace Go.Proofs.Ytobfgempjekjpaa
open Go Go.Ev
section
variable {L:List Bq} {N:Nat}
theorem Qo {h:H} {v:V} {p:Nat->Nat} {lo hi a:Nat} (hb:Rt h v (By L p N)) (hN:N<=1000) (h1:a+hi<=N) (h2:lo<=1000) (hh:V5 (Cr L) p a (lo+1) hi) (hf:B.val h.floor<=B.val h.next):A3 Try.prog 93 [v,.i .i64 (lo:Int),.i .i64 (hi:Int),.i .i64 (a:Int),.f 64 []] h fun y h'=>
 ∃ q,D3 a (a+hi) p q/\V5 (Cr L) q a lo hi/\Rt h' v (By L q N)/\AW (Af v) h h':=by
 refine Aw c93 (by intro hb;cases hb) (by simp) (by simp) fun Q hQ=>?_
 simp only[Ah,Nat.reduceAdd]
 repeat' (first
  |refine St.h ?_
  |simp(disch:=first|omega|(simp only[AI];omega))only[AJ,↓AA,↓reduceIte,seval]
  |(with_reducible (first|apply AD|apply AE))<;>(intro hc;(try simp only[AT]at hc);(try simp only[hc]);(try simp only[AR]at hc);try omega))
 refine Ok.lp (fun m t g=>∃ (r:Nat) (q:Nat->Nat),m=1000-r/\lo<=r/\r<=1000/\get 0 t=v/\get 2 t=.i .i64 (hi:Int)/\get 3 t=.i .i64 (a:Int)/\get 4 t=.f 64 []/\get 10 t=.i .i64 (r:Int)/\Tb (Cr L) q a lo hi r/\D3 a (a+hi) p q/\Rt g v (By L q N)/\AW (Af v) h g) (1000-lo) ?_ ?_
 ·simp(disch:=first|omega|(simp only[AI];omega))only[AJ,↓AA,↓reduceIte,seval]
  refine⟨lo,p,by omega,by omega,by omega,?_⟩
  refine⟨?_,?_,?_,?_,?_,YE hh,.refl _,hb,⟨rfl,Nat.le_refl _,fun _ _ _=>rfl⟩⟩
  all_goals first|trivial|rfl
 rintro I hI m t g ⟨r,q,rfl,hr1,hr2,f0,f2,f3,f4,f10,hx,sw,rb,st⟩
 have hfg:=st.fl hf
 have ech:2*(r:Int)+1=((2*r+1:Nat):Int):=by omega
 by_cases hc:2*r+1<hi
 case neg=>
  have d1:((hi:Int)<=((2*r+1:Nat):Int))=True:=eq_true (by omega)
  repeat' (first
   |refine St.h ?_
   |simp(disch:=first|omega|(simp only[AI];omega))only[AJ,↓AA,↓reduceIte,seval,f0,f2,f3,f4,f10,ech,d1]
   |(with_reducible (first|apply AD|apply AE))<;>(intro hc;(try simp only[AT]at hc);(try simp only[hc]);(try simp only[AR]at hc);try omega))
  subst hQ
  exact⟨q,sw,NZ hx fun c h1 h2=>by omega,rb,st⟩
 obtain⟨ch,hch⟩:∃ ch,ch=2*r+1:=⟨_,rfl⟩
 rw[<-hch]at ech hc
 have d1:((hi:Int)<=(ch:Int))=False:=eq_false (by omega)
 have e2:(ch:Int)+1=((ch+1:Nat):Int):=by omega
 have W1:=rb.Dr
 have ln:(By L q N).length=N:=Ca
 have i1:((a:Int)+(ch:Int)).toNat=a+ch:=by omega
 have i2:((a:Int)+(ch:Int)+1).toNat=a+ch+1:=by omega
 have i3:((a:Int)+(r:Int)).toNat=a+r:=by omega
 have gx:∀ j,j<N->(By L q N).getD j default=L.getD (q j) default:=fun j hj=>CJ hj
 have g1:(By L q N).getD (a+ch) default=L.getD (q (a+ch)) default:=gx _ (by omega)
 have g3:(By L q N).getD (a+r) default=L.getD (q (a+r)) default:=gx _ (by omega)
 --the greater child
 obtain⟨c,hc1,hc2,hmax,hcase⟩:∃ c,(c=2*r+1\/c=2*r+2)/\c<hi/\(∀ d,(d=2*r+1\/d=2*r+2)->d<hi->Cr L (q (a+c)) (q (a+d))=false)/\
  ((ch+1<hi/\Cr L (q (a+ch)) (q (a+ch+1))=true/\c=ch+1)\/(ch+1<hi/\Cr L (q (a+ch)) (q (a+ch+1))=false/\c=ch)\/(¬ch+1<hi/\c=ch)):=by
  have Xn:∀ {x},Cr L x x=false:=(Dt L).Xn
  by_cases h3:ch+1<hi
  ·cases hk:Cr L (q (a+ch)) (q (a+ch+1))with
   |true=>
    refine⟨ch+1,by omega,h3,fun d hd hd2=>?_,.inl ⟨h3,rfl,rfl⟩⟩
    rcases hd with e|e
    ·rw[show d=ch by omega];exact(Dt L).Ob hk
    ·rw[show d=ch+1 by omega];exact Xn
   |false=>
    refine⟨ch,by omega,by omega,fun d hd hd2=>?_,.inr (.inl ⟨h3,rfl,rfl⟩)⟩
    rcases hd with e|e
    ·rw[show d=ch by omega];exact Xn
    ·rw[show d=ch+1 by omega];exact hk
  ·refine⟨ch,by omega,by omega,fun d hd hd2=>?_,.inr (.inr ⟨h3,rfl⟩)⟩
   rw[show d=ch by omega];exact Xn
 have gc:(By L q N).getD (a+c) default=L.getD (q (a+c)) default:=gx _ (by omega)
 have ic:((a:Int)+(c:Int)).toNat=a+c:=by omega
 --what follows,from the child on
 have fin:∀ (K:X->F->H->Prop) (t:F) (g:H),get 0 t=v->get 2 t=.i .i64 (hi:Int)->get 3 t=.i .i64 (a:Int)->get 4 t=.f 64 []->get 10 t=.i .i64 (r:Int)->get 11 t=.i .i64 (c:Int)->Rt g v (By L q N)->AW (Af v) h g->
  (∀ t g,Cr L (q (a+r)) (q (a+c))=false->Rt g v (By L q N)->AW (Af v) h g->K .ret t g)->
  (∀ t g,Cr L (q (a+r)) (q (a+c))=true->get 0 t=v->get 2 t=.i .i64 (hi:Int)->get 3 t=.i .i64 (a:Int)->get 4 t=.f 64 []->get 10 t=.i .i64 (c:Int)->Rt g v (By L (He q (a+r) (a+c)) N)->AW (Af v) h g->K .normal t g)->Ok Try.prog 82 YY t g K:=fun K t g f0 f2 f3 f4 f10 f11 rb st k1 k2=>by
  have hfg:=st.fl hf
  have W1:=rb.Dr
  repeat' (first
   |refine St.h ?_
   |simp(disch:=first|omega|(simp only[AI];omega))only[AJ,↓AA,↓reduceIte,seval,f0,f2,f3,f4,f10,f11,i3,ic,g3,gc,W1.ix,W1.la]
   |(with_reducible (first|apply AD|apply AE))<;>(intro hc;(try simp only[AT]at hc);(try simp only[hc]);(try simp only[AR]at hc);try omega))
  refine CL.stay (Bz (a:=L.getD (q (a+r)) default) (b:=L.getD (q (a+c)) default) hfg) fun g4 s4=>?_
  have rb4:=rb.grow s4
  have st4:=st.trans (Bu s4)
  have W4:=rb4.Dr
  cases hk:Cr L (q (a+r)) (q (a+c))with
  |false=>
   have d2:=EK hk
   repeat' (first
    |refine St.h ?_
    |simp(disch:=first|omega|(simp only[AI];omega))only[AJ,↓AA,↓reduceIte,seval,f0,f2,f3,f4,f10,f11,d2]
    |(with_reducible (first|apply AD|apply AE))<;>(intro hc;(try simp only[AT]at hc);(try simp only[hc]);(try simp only[AR]at hc);try omega))
   exact k1 _ _ hk rb4 st4
  |true=>
   have d2:=EL hk
   repeat' (first
    |refine St.h ?_
    |simp(disch:=first|omega|(simp only[AI];omega))only[AJ,↓AA,↓reduceIte,seval,f0,f2,f3,f4,f10,f11,d2,i3,ic,g3,gc,W4.ix,W4.la]
    |(with_reducible (first|apply AD|apply AE))<;>(intro hc;(try simp only[AT]at hc);(try simp only[hc]);(try simp only[AR]at hc);try omega))
   refine ST.NV rb4 hN (by omega) fun h5 B5 s5=>?_
   have W5:=B5.Dr
   repeat' (first
    |refine St.h ?_
    |simp(disch:=first|omega|(simp only[AI];omega))only[AJ,↓AA,↓reduceIte,seval,f0,f2,f3,f4,f10,f11,i3,ic,W5.ix]
    |(with_reducible (first|apply AD|apply AE))<;>(intro hc;(try simp only[AT]at hc);(try simp only[hc]);(try simp only[AR]at hc);try omega))
   refine ST.Hl B5 hN (by omega) fun h6 B6 s6=>?_
   repeat' (first
    |refine St.h ?_
    |simp(disch:=first|omega|(simp only[AI];omega))only[AJ,↓AA,↓reduceIte,seval,f0,f2,f3,f4,f10,f11]
    |(with_reducible (first|apply AD|apply AE))<;>(intro hc;(try simp only[AT]at hc);(try simp only[hc]);(try simp only[AR]at hc);try omega))
   exact k2 _ _ hk (by simp(disch:=first|omega|(simp only[AI];omega))only[AJ,↓AA,↓reduceIte,seval,f0]) (by simp(disch:=first|omega|(simp only[AI];omega))only[AJ,↓AA,↓reduceIte,seval,f2]) (by simp(disch:=first|omega|(simp only[AI];omega))only[AJ,↓AA,↓reduceIte,seval,f3]) (by simp(disch:=first|omega|(simp only[AI];omega))only[AJ,↓AA,↓reduceIte,seval,f4]) (by simp(disch:=first|omega|(simp only[AI];omega))only[AJ,↓AA,↓reduceIte,seval,f11]) B6 (st4.trans (s5.trans s6))
 have fin1:∀ g,Cr L (q (a+r)) (q (a+c))=false->Rt g v (By L q N)->AW (Af v) h g->∃ q,D3 a (a+hi) p q/\V5 (Cr L) q a lo hi/\Rt g v (By L q N)/\AW (Af v) h g:=fun g hk rb st=>by
  refine⟨q,sw,NZ hx fun d hd hd2=>?_,rb,st⟩
  exact(Dt L).nt hk (hmax d hd hd2)
 have fin2:∀ t g,Cr L (q (a+r)) (q (a+c))=true->get 0 t=v->get 2 t=.i .i64 (hi:Int)->get 3 t=.i .i64 (a:Int)->get 4 t=.f 64 []->get 10 t=.i .i64 (c:Int)->Rt g v (By L (He q (a+r) (a+c)) N)->AW (Af v) h g->ja I (1000-r) t g:=fun t g hk f0 f2 f3 f4 f10 rb st=>
  Ai hI (1000-c) (by omega) ⟨c,_,rfl,by omega,by omega,f0,f2,f3,f4,f10,Tr (Dt L) hx hr1 hc1 hc2 hmax hk,sw.trans (.one (by omega) (by omega) (by omega) (by omega)),rb,st⟩
 rcases hcase with⟨h3,hk,rfl⟩|⟨h3,hk,rfl⟩|⟨h3,rfl⟩
 ·have d2:(((ch+1:Nat):Int)<(hi:Int))=True:=eq_true (by omega)
  have g2:(By L q N).getD (a+ch+1) default=L.getD (q (a+ch+1)) default:=gx _ (by omega)
  repeat' (first
   |refine St.h ?_
   |simp(disch:=first|omega|(simp only[AI];omega))only[AJ,↓AA,↓reduceIte,seval,f0,f2,f3,f4,f10,ech,d1,e2,d2,i1,i2,g1,g2,W1.ix,W1.la]
   |(with_reducible (first|apply AD|apply AE))<;>(intro hc;(try simp only[AT]at hc);(try simp only[hc]);(try simp only[AR]at hc);try omega))
  refine CL.stay (Bz (a:=L.getD (q (a+ch)) default) (b:=L.getD (q (a+ch+1)) default) hfg) fun g4 s4=>?_
  have d3:=EL hk
  repeat' (first
   |refine fin _ _ _ ?_ ?_ ?_ ?_ ?_ ?_ (rb.grow s4) (st.trans (Bu s4)) (fun t g hk rb st=>?_) (fun t g hk f0 f2 f3 f4 f10 rb st=>?_)
   |refine St.h ?_
   |simp(disch:=first|omega|(simp only[AI];omega))only[AJ,↓AA,↓reduceIte,seval,f0,f2,f3,f4,f10,ech,e2,d3]
   |(with_reducible (first|apply AD|apply AE))<;>(intro hc;(try simp only[AT]at hc);(try simp only[hc]);(try simp only[AR]at hc);try omega))
  ·subst hQ
   exact fin1 g hk rb st
  ·exact fin2 t g hk f0 f2 f3 f4 f10 rb st
 ·have d2:(((c+1:Nat):Int)<(hi:Int))=True:=eq_true (by omega)
  have g2:(By L q N).getD (a+c+1) default=L.getD (q (a+c+1)) default:=gx _ (by omega)
  repeat' (first
   |refine St.h ?_
   |simp(disch:=first|omega|(simp only[AI];omega))only[AJ,↓AA,↓reduceIte,seval,f0,f2,f3,f4,f10,ech,d1,e2,d2,i1,i2,g1,g2,W1.ix,W1.la]
   |(with_reducible (first|apply AD|apply AE))<;>(intro hc;(try simp only[AT]at hc);(try simp only[hc]);(try simp only[AR]at hc);try omega))
  refine CL.stay (Bz (a:=L.getD (q (a+c)) default) (b:=L.getD (q (a+c+1)) default) hfg) fun g4 s4=>?_
  have d3:=EK hk
  repeat' (first
   |refine fin _ _ _ ?_ ?_ ?_ ?_ ?_ ?_ (rb.grow s4) (st.trans (Bu s4)) (fun t g hk rb st=>?_) (fun t g hk f0 f2 f3 f4 f10 rb st=>?_)
   |refine St.h ?_
   |simp(disch:=first|omega|(simp only[AI];omega))only[AJ,↓AA,↓reduceIte,seval,f0,f2,f3,f4,f10,ech,e2,d3]
   |(with_reducible (first|apply AD|apply AE))<;>(intro hc;(try simp only[AT]at hc);(try simp only[hc]);(try simp only[AR]at hc);try omega))
  ·subst hQ
   exact fin1 g hk rb st
  ·exact fin2 t g hk f0 f2 f3 f4 f10 rb st
 ·have d2:(((c+1:Nat):Int)<(hi:Int))=False:=eq_false (by omega)
  repeat' (first
   |refine fin _ _ _ ?_ ?_ ?_ ?_ ?_ ?_ rb st (fun t g hk rb st=>?_) (fun t g hk f0 f2 f3 f4 f10 rb st=>?_)
   |refine St.h ?_
   |simp(disch:=first|omega|(simp only[AI];omega))only[AJ,↓AA,↓reduceIte,seval,f0,f2,f3,f4,f10,ech,d1,e2,d2]
   |(with_reducible (first|apply AD|apply AE))<;>(intro hc;(try simp only[AT]at hc);(try simp only[hc]);(try simp only[AR]at hc);try omega))
  ·subst hQ
   exact fin1 g hk rb st
  ·exact fin2 t g hk f0 f2 f3 f4 f10 rb st
theorem Xg {h:H} {v:V} {p:Nat->Nat} {a b:Nat} (hb:Rt h v (By L p N)) (hN:N<=1000) (h1:a<b) (h2:b<=N) (hf:B.val h.floor<=B.val h.next):A3 Try.prog 82 [v,.i .i64 (a:Int),.i .i64 (b:Int),.f 64 []] h fun y h'=>
 ∃ q,D3 a b p q/\Hf (Cr L) q a b/\Rt h' v (By L q N)/\AW (Af v) h h':=by
 obtain⟨n,rfl⟩:∃ n,b=a+n:=⟨b-a,by omega⟩
 have en:((a+n:Nat):Int)-(a:Int)=(n:Int):=by omega
 have ei:((n:Int)-1).toNat/2=(n+1)/2-1:=by omega
 have ei2:((n:Int)-1)/2=(((n+1)/2-1:Nat):Int):=by omega
 refine Aw c82 (by intro hb;cases hb) (by simp) (by simp) fun Q hQ=>?_
 simp only[Ah,Nat.reduceAdd]
 repeat' (first
  |refine St.h ?_
  |simp(disch:=first|omega|(simp only[AI];omega))only[AJ,↓AA,↓reduceIte,seval,en,ei,ei2]
  |(with_reducible (first|apply AD|apply AE))<;>(intro hc;(try simp only[AT]at hc);(try simp only[hc]);(try simp only[AR]at hc);try omega))
 --the heap is built
 refine Ok.lp (fun m t g=>∃ (i:Nat) (q:Nat->Nat),m=i/\i<=n/\get 0 t=v/\get 3 t=.f 64 []/\get 8 t=.i .i64 (a:Int)/\get 9 t=.i .i64 0/\get 10 t=.i .i64 (n:Int)/\get 11 t=.i .i64 ((i:Int)-1)/\V5 (Cr L) q a i n/\D3 a (a+n) p q/\Rt g v (By L q N)/\AW (Af v) h g) ((n+1)/2) ?_ ?_
 ·simp(disch:=first|omega|(simp only[AI];omega))only[AJ,↓AA,↓reduceIte,seval,en,ei,ei2]
  refine⟨(n+1)/2,p,rfl,by omega,?_⟩
  refine⟨?_,?_,?_,?_,?_,?_,WE (by omega),.refl _,hb,⟨rfl,Nat.le_refl _,fun _ _ _=>rfl⟩⟩
  all_goals first|trivial|rfl|(simp only[V.i.injEq,true_and];omega)
 rintro I hI m t g ⟨i,q,rfl,hi,f0,f3,f8,f9,f10,f11,hh,sw,rb,st⟩
 have hfg:=st.fl hf
 by_cases h0:m=0
 case neg=>
  obtain⟨j,rfl⟩:∃ j,m=j+1:=⟨m-1,by omega⟩
  have ej:((j+1:Nat):Int)-1=(j:Int):=by omega
  rw[ej]at f11
  have d1:((0:Int)<=(j:Int))=True:=eq_true (by omega)
  repeat' (first
   |refine St.h ?_
   |simp(disch:=first|omega|(simp only[AI];omega))only[AJ,↓AA,↓reduceIte,seval,f0,f3,f8,f9,f10,f11,d1]
   |(with_reducible (first|apply AD|apply AE))<;>(intro hc;(try simp only[AT]at hc);(try simp only[hc]);(try simp only[AR]at hc);try omega))
  refine CL.mk (Qo (lo:=j) (hi:=n) (a:=a) rb hN h2 (by omega) hh hfg) ?_
  rintro y g2 ⟨q2,Hl,hh2,rb2,s2⟩
  repeat' (first
   |refine St.h ?_
   |simp(disch:=first|omega|(simp only[AI];omega))only[AJ,↓AA,↓reduceIte,seval,f0,f3,f8,f9,f10,f11]
   |(with_reducible (first|apply AD|apply AE))<;>(intro hc;(try simp only[AT]at hc);(try simp only[hc]);(try simp only[AR]at hc);try omega))
  exact Ai hI j (by omega) ⟨j,q2,rfl,by omega,by simp(disch:=first|omega|(simp only[AI];omega))only[AJ,↓AA,↓reduceIte,seval,f0],by simp(disch:=first|omega|(simp only[AI];omega))only[AJ,↓AA,↓reduceIte,seval,f3],by simp(disch:=first|omega|(simp only[AI];omega))only[AJ,↓AA,↓reduceIte,seval,f8],by simp(disch:=first|omega|(simp only[AI];omega))only[AJ,↓AA,↓reduceIte,seval,f9],by simp(disch:=first|omega|(simp only[AI];omega))only[AJ,↓AA,↓reduceIte,seval,f10],by simp(disch:=first|omega|(simp only[AI];omega))only[AJ,↓AA,↓reduceIte,seval,f11],hh2,sw.trans Hl,rb2,st.trans s2⟩
 subst h0
 have d1:((0:Int)<=((0:Nat):Int)-1)=False:=eq_false (by omega)
 repeat' (first
  |refine St.h ?_
  |simp(disch:=first|omega|(simp only[AI];omega))only[AJ,↓AA,↓reduceIte,seval,f0,f3,f8,f9,f10,f11,d1]
  |(with_reducible (first|apply AD|apply AE))<;>(intro hc;(try simp only[AT]at hc);(try simp only[hc]);(try simp only[AR]at hc);try omega))
 --the greatest goes to the end
 refine Ok.lp (fun m t g=>∃ (i:Nat) (q:Nat->Nat),m=i/\i<=n/\get 0 t=v/\get 3 t=.f 64 []/\get 8 t=.i .i64 (a:Int)/\get 9 t=.i .i64 0/\get 12 t=.i .i64 ((i:Int)-1)/\V5 (Cr L) q a 0 i/\Hf (Cr L) q (a+i) (a+n)/\(∀ x y,a<=x->x<a+i->a+i<=y->y<a+n->Cr L (q y) (q x)=false)/\D3 a (a+n) p q/\Rt g v (By L q N)/\AW (Af v) h g) n ?_ ?_
 ·simp(disch:=first|omega|(simp only[AI];omega))only[AJ,↓AA,↓reduceIte,seval,f0,f3,f8,f9,f10]
  refine⟨n,q,rfl,Nat.le_refl _,?_⟩
  refine⟨?_,?_,?_,?_,?_,hh,fun i j h1 h2 h3=>by omega,fun x y h1 h2 h3 h4=>by omega,sw,rb,st⟩
  all_goals first|trivial|rfl
 rintro I2 hI2 m2 t2 g2 ⟨i,q2,rfl,hi2,e0,e3,e8,e9,e12,hh2,hs2,hc2,Hl,rb2,st2⟩
 have hfg2:=st2.fl hf
 by_cases h0:m2=0
 case pos=>
  subst h0
  repeat' (first
   |refine St.h ?_
   |simp(disch:=first|omega|(simp only[AI];omega))only[AJ,↓AA,↓reduceIte,seval,e0,e3,e8,e9,e12,d1]
   |(with_reducible (first|apply AD|apply AE))<;>(intro hc;(try simp only[AT]at hc);(try simp only[hc]);(try simp only[AR]at hc);try omega))
  subst hQ
  exact⟨q2,Hl,hs2,rb2,st2⟩
 obtain⟨j,rfl⟩:∃ j,m2=j+1:=⟨m2-1,by omega⟩
 have ej:((j+1:Nat):Int)-1=(j:Int):=by omega
 rw[ej]at e12
 have d2:((0:Int)<=(j:Int))=True:=eq_true (by omega)
 have W2:=rb2.Dr
 have ln:(By L q2 N).length=N:=Ca
 have i1:((a:Int)+(j:Int)).toNat=a+j:=by omega
 have ga:(By L q2 N).getD (a+j) default=L.getD (q2 (a+j)) default:=CJ (by omega)
 have gb:(By L q2 N).getD a default=L.getD (q2 a) default:=CJ (by omega)
 repeat' (first
  |refine St.h ?_
  |simp(disch:=first|omega|(simp only[AI];omega))only[AJ,↓AA,↓reduceIte,seval,e0,e3,e8,e9,e12,d2,i1,ga,gb,W2.ix,W2.la,Int.toNat_natCast]
  |(with_reducible (first|apply AD|apply AE))<;>(intro hc;(try simp only[AT]at hc);(try simp only[hc]);(try simp only[AR]at hc);try omega))
 refine ST.NV rb2 hN (by omega) fun h3 B3 s3=>?_
 have W3:=B3.Dr
 repeat' (first
  |refine St.h ?_
  |simp(disch:=first|omega|(simp only[AI];omega))only[AJ,↓AA,↓reduceIte,seval,e0,e3,e8,e9,e12,i1,W3.ix]
  |(with_reducible (first|apply AD|apply AE))<;>(intro hc;(try simp only[AT]at hc);(try simp only[hc]);(try simp only[AR]at hc);try omega))
 refine ST.Hl B3 hN (by omega) fun h4 B4 s4=>?_
 have st4:=st2.trans (s3.trans s4)
 --the row,with both in each other's place
 have o:=Dt L
 have hmx:=YS o hh2
 obtain⟨q3,hq3⟩:∃ q3,q3=He q2 a (a+j):=⟨_,rfl⟩
 rw[<-hq3]at B4
 have x1:q3 (a+j)=q2 a:=by rw[hq3];exact PR
 have x2:∀ k,k≠a->k≠a+j->q3 k=q2 k:=fun k k1 k2=>by rw[hq3];exact Ej k1 k2
 have sw3:D3 a (a+j+1) q2 q3:=by rw[hq3];exact .one (by omega) (by omega) (by omega) (by omega)
 have hlow:∀ k,a<=k->k<a+j+1->Cr L (q2 a) (q3 k)=false:=sw3.all (P:=fun x=>Cr L (q2 a) x=false) fun k k1 k2=>by
  obtain⟨d,rfl⟩:∃ d,k=a+d:=⟨k-a,by omega⟩
  exact hmx d (by omega)
 have hh3:V5 (Cr L) q3 a 1 j:=fun k c k1 k2 k3=>by
  rw[x2 (a+k) (by omega) (by omega),x2 (a+c) (by omega) (by omega)]
  exact hh2 k c (by omega) k2 (by omega)
 repeat' (first
  |refine St.h ?_
  |simp(disch:=first|omega|(simp only[AI];omega))only[AJ,↓AA,↓reduceIte,seval,e0,e3,e8,e9,e12]
  |(with_reducible (first|apply AD|apply AE))<;>(intro hc;(try simp only[AT]at hc);(try simp only[hc]);(try simp only[AR]at hc);try omega))
 refine CL.mk (Qo (lo:=0) (hi:=j) (a:=a) B4 hN (by omega) (by omega) hh3 (st4.fl hf)) ?_
 rintro y g5 ⟨q5,sw5,hh5,rb5,s5⟩
 have o5:∀ k,a+j<=k->q5 k=q3 k:=fun k hk=>sw5.out (.inr hk)
 repeat' (first
  |refine St.h ?_
  |simp(disch:=first|omega|(simp only[AI];omega))only[AJ,↓AA,↓reduceIte,seval,e0,e3,e8,e9,e12]
  |(with_reducible (first|apply AD|apply AE))<;>(intro hc;(try simp only[AT]at hc);(try simp only[hc]);(try simp only[AR]at hc);try omega))
 refine Ai hI2 j (by omega) ⟨j,q5,rfl,by omega,by simp(disch:=first|omega|(simp only[AI];omega))only[AJ,↓AA,↓reduceIte,seval,e0],by simp(disch:=first|omega|(simp only[AI];omega))only[AJ,↓AA,↓reduceIte,seval,e3],by simp(disch:=first|omega|(simp only[AI];omega))only[AJ,↓AA,↓reduceIte,seval,e8],by simp(disch:=first|omega|(simp only[AI];omega))only[AJ,↓AA,↓reduceIte,seval,e9],by simp(disch:=first|omega|(simp only[AI];omega))only[AJ,↓AA,↓reduceIte,seval,e12],hh5,?_,?_,Hl.trans ((sw3.wide (Nat.le_refl _) (by omega)).trans (sw5.wide (Nat.le_refl _) (by omega))),rb5,st4.trans s5⟩
 ·intro x y hx hxy hy
  rw[o5 x hx,o5 y (by omega),x2 y (by omega) (by omega)]
  by_cases e:x=a+j
  ·rw[e,x1];exact hc2 a y (by omega) (by omega) (by omega) hy
  ·rw[x2 x (by omega) e];exact hs2 x y (by omega) hxy hy
 ·intro x y hx hx2 hy hy2
  have hxx:Cr L (q2 a) (q5 x)=false:=sw5.all (P:=fun z=>Cr L (q2 a) z=false) (fun k k1 k2=>hlow k k1 (by omega)) x hx hx2
  rw[o5 y hy]
  by_cases e:y=a+j
  ·rw[e,x1];exact hxx
  ·rw[x2 y (by omega) e]
   exact o.nt (hc2 a y (by omega) (by omega) (by omega) hy2) hxx
theorem lP {h:H} {v c:V} {p:Nat->Nat} {a b:Nat} (hb:Rt h v (By L p N)) (hN:N<=1000) (h1:a<=b) (h2:b<=N) (hf:B.val h.floor<=B.val h.next):A3 Try.prog 85 [v,.i .i64 (a:Int),.i .i64 (b:Int),c] h fun y h'=>
 ∃ q,D3 a b p q/\Rt h' v (By L q N)/\AW (Af v) h h':=by
 refine Aw c85 (by intro hb;cases hb) (by simp) (by simp) fun Q hQ=>?_
 simp only[Ah,Nat.reduceAdd]
 repeat' (first
  |refine St.h ?_
  |simp(disch:=first|omega|(simp only[AI];omega))only[AJ,↓AA,↓reduceIte,seval]
  |(with_reducible (first|apply AD|apply AE))<;>(intro hc;(try simp only[AT]at hc);(try simp only[hc]);(try simp only[AR]at hc);try omega))
 refine Ok.lp (fun m t g=>∃ (i j:Nat) (q:Nat->Nat),m=j-i/\a<=i/\j<=b/\get 0 t=v/\get 8 t=.i .i64 (i:Int)/\get 9 t=.i .i64 ((j:Int)-1)/\D3 a b p q/\Rt g v (By L q N)/\AW (Af v) h g) (b-a) ?_ ?_
 ·simp(disch:=first|omega|(simp only[AI];omega))only[AJ,↓AA,↓reduceIte,seval]
  refine⟨a,b,p,rfl,Nat.le_refl _,Nat.le_refl _,?_⟩
  refine⟨?_,?_,?_,.refl _,hb,⟨rfl,Nat.le_refl _,fun _ _ _=>rfl⟩⟩
  all_goals first|trivial|rfl
 rintro I hI m t g ⟨i,j,q,rfl,hi,hj,f0,f8,f9,sw,rb,st⟩
 by_cases hij:i+1<j
 case neg=>
  have d1:((i:Int)<(j:Int)-1)=False:=eq_false (by omega)
  repeat' (first
   |refine St.h ?_
   |simp(disch:=first|omega|(simp only[AI];omega))only[AJ,↓AA,↓reduceIte,seval,f0,f8,f9,d1]
   |(with_reducible (first|apply AD|apply AE))<;>(intro hc;(try simp only[AT]at hc);(try simp only[hc]);(try simp only[AR]at hc);try omega))
  subst hQ
  exact⟨q,sw,rb,st⟩
 obtain⟨k,rfl⟩:∃ k,j=k+1:=⟨j-1,by omega⟩
 have ek:((k+1:Nat):Int)-1=(k:Int):=by omega
 rw[ek]at f9
 have d1:((i:Int)<(k:Int))=True:=eq_true (by omega)
 have W1:=rb.Dr
 have ln:(By L q N).length=N:=Ca
 have ga:(By L q N).getD i default=L.getD (q i) default:=CJ (by omega)
 have gb:(By L q N).getD k default=L.getD (q k) default:=CJ (by omega)
 repeat' (first
  |refine St.h ?_
  |simp(disch:=first|omega|(simp only[AI];omega))only[AJ,↓AA,↓reduceIte,seval,f0,f8,f9,d1,ga,gb,W1.ix,W1.la,Int.toNat_natCast]
  |(with_reducible (first|apply AD|apply AE))<;>(intro hc;(try simp only[AT]at hc);(try simp only[hc]);(try simp only[AR]at hc);try omega))
 refine ST.NV rb hN (by omega) fun h3 B3 s3=>?_
 have W3:=B3.Dr
 repeat' (first
  |refine St.h ?_
  |simp(disch:=first|omega|(simp only[AI];omega))only[AJ,↓AA,↓reduceIte,seval,f0,f8,f9,W3.ix,Int.toNat_natCast]
  |(with_reducible (first|apply AD|apply AE))<;>(intro hc;(try simp only[AT]at hc);(try simp only[hc]);(try simp only[AR]at hc);try omega))
 refine ST.Hl B3 hN (by omega) fun h4 B4 s4=>?_
 repeat' (first
  |refine St.h ?_
  |simp(disch:=first|omega|(simp only[AI];omega))only[AJ,↓AA,↓reduceIte,seval,f0,f8,f9]
  |(with_reducible (first|apply AD|apply AE))<;>(intro hc;(try simp only[AT]at hc);(try simp only[hc]);(try simp only[AR]at hc);try omega))
 refine Ai hI (k-(i+1)) (by omega) ⟨i+1,k,_,rfl,by omega,by omega,by simp(disch:=first|omega|(simp only[AI];omega))only[AJ,↓AA,↓reduceIte,seval,f0],by simp(disch:=first|omega|(simp only[AI];omega))only[AJ,↓AA,↓reduceIte,seval,f8];rfl,by simp(disch:=first|omega|(simp only[AI];omega))only[AJ,↓AA,↓reduceIte,seval,f9],sw.trans (.one (by omega) (by omega) (by omega) (by omega)),B4,st.trans (s3.trans s4)⟩
end
end Go.Proofs.Ytobfgempjekjpaa
set_option maxRecDepth 100000
set_option maxHeartbeats 8000000
namespace Go.Proofs.Ytobfgempjekjpaa
open Go Go.Ev
def YA:List UInt8:=[0,1,2,2,3,3,3,3]++List.replicate 8 4++List.replicate 16 5++List.replicate 32 6++List.replicate 64 7++List.replicate 128 8
theorem UB:YA.length=256:=by decide
theorem gB:V.s 256 496986003408712215933005303621146343841837811690876167382323004466384420695090407243345123874780946046625255262057845613767806773758184921447759720770971536008171983842311960805720366577116933250839345203839274948261284255908394484732272583221484877694546905335834403051067785895034095251181560891789708940188598129052595634438001880866652824740680664595948164050600812232986714152902334120417949232733424961741260388658846598210939813666227264727603044226856020347194099943897342244906131705541414413428559898943151040826816076322978570758226444464494629814583418847495712557856038296917933182380796641777551368=sv YA:=by rfl
/--how many bits a number has -/
def D6 (n:Nat):Nat:=(YA.getD n 0).toNat
theorem RN:∀ n,n<256->1<=n->2 ^ D6 n<=2*n/\1<=2 ^ D6 n/\D6 n<=8:=by decide
theorem Ig:∀ n,n<256->D6 n<=8:=by decide
theorem YT {P:Program} {h:H} {N:Nx} {kd:IntKind} {x:Int} (h0:0<=x) (h1:x<256):H2 P Mw (sv YA) (.i kd x) h N=N.go P (.i .u8 (min 8 (D6 x.toNat):Nat)) h:=by
 rw[MD h0 (by rw[UB];exact h1)]
 have:D6 x.toNat<=8:=Ig _ (by omega)
 rw[Nat.min_eq_right this];rfl
theorem SO {h:H} {n:Nat} (hn:n<256):A3 Try.prog 90 [.i .u64 (n:Int)] h fun y h'=>y=.i .i64 (D6 n:Int)/\h'=h:=by
 have hb:=Ig n hn
 refine Aw c90 (by intro hb;cases hb) (by simp) (by simp) fun Q hQ=>?_
 simp only[Ah,Nat.reduceAdd]
 repeat' (first
  |refine St.h ?_
  |simp(disch:=first|omega|(simp only[AI];omega))only[AJ,↓AA,↓reduceIte,seval,Int.toNat_natCast,gB,YT]
  |(with_reducible (first|apply AD|apply AE))<;>(intro hc;(try simp only[AT]at hc);(try simp only[hc]);(try simp only[AR]at hc);try omega))
 subst hQ
 exact⟨congrArg (V.i .i64) (by omega),rfl⟩
theorem Qc {h:H} {n:Nat} (hn:n<256):A3 Try.prog 76 [.i .u64 (n:Int)] h fun y h'=>y=.i .i64 (D6 n:Int)/\h'=h:=by
 refine Aw c76 (by intro hb;cases hb) (by simp) (by simp) fun Q hQ=>?_
 simp only[Ah,Nat.reduceAdd]
 repeat' (first
  |refine St.h ?_
  |simp(disch:=first|omega|(simp only[AI];omega))only[AJ,↓AA,↓reduceIte,seval]
  |(with_reducible (first|apply AD|apply AE))<;>(intro hc;(try simp only[AT]at hc);(try simp only[hc]);(try simp only[AR]at hc);try omega))
 refine CL.pure (SO hn) ?_
 repeat' (first
  |refine St.h ?_
  |simp(disch:=first|omega|(simp only[AI];omega))only[AJ,↓AA,↓reduceIte,seval]
  |(with_reducible (first|apply AD|apply AE))<;>(intro hc;(try simp only[AT]at hc);(try simp only[hc]);(try simp only[AR]at hc);try omega))
 subst hQ
 exact⟨rfl,rfl⟩
theorem JB {n:Nat}:IntKind.u64.wrap (n:Int)=((n%18446744073709551616:Nat):Int):=by
 have:IntKind.u64.wrap (n:Int)=(n:Int)%18446744073709551616:=by simp only[IntKind.wrap,IntKind.bits,IntKind.signed];simp
 rw[this];omega
theorem XF {h:H} {n:Nat} (hn:n<256):A3 Try.prog 94 [.i .i64 (n:Int)] h fun y h'=>y=.i .u64 ((2 ^ D6 n:Nat):Int)/\h'=h:=by
 have hb:=Ig n hn
 have hp:2 ^ D6 n<=2 ^ 8:=Nat.pow_le_pow_right (by omega) hb
 have e1:min (D6 n) IntKind.u64.bits=D6 n:=Nat.min_eq_left (by show D6 n<=64;omega)
 refine Aw c94 (by intro hb;cases hb) (by simp) (by simp) fun Q hQ=>?_
 simp only[Ah,Nat.reduceAdd]
 repeat' (first
  |refine St.h ?_
  |simp(disch:=first|omega|(simp only[AI];omega))only[AJ,↓AA,↓reduceIte,seval,Int.toNat_natCast]
  |(with_reducible (first|apply AD|apply AE))<;>(intro hc;(try simp only[AT]at hc);(try simp only[hc]);(try simp only[AR]at hc);try omega))
 refine CL.pure (Qc hn) ?_
 repeat' (first
  |refine St.h ?_
  |simp(disch:=first|omega|(simp only[AI];omega))only[AJ,↓AA,↓reduceIte,seval,e1,Int.toNat_natCast]
  |(with_reducible (first|apply AD|apply AE))<;>(intro hc;(try simp only[AT]at hc);(try simp only[hc]);(try simp only[AR]at hc);try omega))
 subst hQ
 refine⟨congrArg (V.i .u64) ?_,rfl⟩
 rw[Int.one_mul,JB,Nat.mod_eq_of_lt (by omega)]
theorem Xq {h:H} {s:B} {n:Nat} (o:Ev.CE h s [.i .u64 (n:Int)]) (hn:n<18446744073709551616) (hf:B.val h.floor<=B.val h.next):A3 Try.prog 95 [.p s 0 0 1] h fun y h'=>∃ k:Nat,k<18446744073709551616/\y=.i .u64 (k:Int)/\Ev.CE h' s [.i .u64 (k:Int)]/\AW (fun i=>i=s) h h':=by
 have e1:∀ m:Nat,IntKind.u64.wrap ((m:Int)*8192)=((m*8192%18446744073709551616:Nat):Int):=fun m=>by
  have:=JB (n:=m*8192)
  rw[<-this];congr 1
 have e2:∀ m:Nat,(m:Int)/128=((m/128:Nat):Int):=fun m=>by omega
 have e3:∀ m:Nat,IntKind.u64.wrap ((m:Int)*131072)=((m*131072%18446744073709551616:Nat):Int):=fun m=>by
  have:=JB (n:=m*131072)
  rw[<-this];congr 1
 have hr:=o.row
 refine Aw c95 (by intro hb;cases hb) (by simp) (by simp) fun Q hQ=>?_
 simp only[Ah,Nat.reduceAdd]
 repeat' (first
  |refine St.h ?_
  |simp(disch:=first|omega|(simp only[AI];omega))only[AJ,↓AA,↓reduceIte,seval,hr.l1,e1,Int.toNat_natCast]
  |(with_reducible (first|apply AD|apply AE))<;>(intro hc;(try simp only[AT]at hc);(try simp only[hc]);(try simp only[AR]at hc);try omega))
 obtain⟨n1,hn1⟩:∃ n1,n1=(n ^^^ (n*8192%18446744073709551616)):=⟨_,rfl⟩
 have b1:n1<18446744073709551616:=by rw[hn1];exact Nat.xor_lt_two_pow (n:=64) (by omega) (by omega)
 rw[<-hn1]
 refine ST.own o rfl rfl (by omega) (by omega) fun h1 o1 s1=>?_
 have r1:=o1.row
 repeat' (first
  |refine St.h ?_
  |simp(disch:=first|omega|(simp only[AI];omega))only[AJ,↓AA,↓reduceIte,seval,r1.l1,e2,Int.toNat_natCast]
  |(with_reducible (first|apply AD|apply AE))<;>(intro hc;(try simp only[AT]at hc);(try simp only[hc]);(try simp only[AR]at hc);try omega))
 obtain⟨n2,hn2⟩:∃ n2,n2=(n1 ^^^ (n1/128)):=⟨_,rfl⟩
 have b2:n2<18446744073709551616:=by rw[hn2];exact Nat.xor_lt_two_pow (n:=64) (by omega) (by omega)
 rw[<-hn2]
 refine ST.own o1 rfl rfl (by omega) (by omega) fun h2 o2 s2=>?_
 have r2:=o2.row
 repeat' (first
  |refine St.h ?_
  |simp(disch:=first|omega|(simp only[AI];omega))only[AJ,↓AA,↓reduceIte,seval,r2.l1,e3,Int.toNat_natCast]
  |(with_reducible (first|apply AD|apply AE))<;>(intro hc;(try simp only[AT]at hc);(try simp only[hc]);(try simp only[AR]at hc);try omega))
 obtain⟨n3,hn3⟩:∃ n3,n3=(n2 ^^^ (n2*131072%18446744073709551616)):=⟨_,rfl⟩
 have b3:n3<18446744073709551616:=by rw[hn3];exact Nat.xor_lt_two_pow (n:=64) (by omega) (by omega)
 rw[<-hn3]
 refine ST.own o2 rfl rfl (by omega) (by omega) fun h3 o3 s3=>?_
 have r3:=o3.row
 repeat' (first
  |refine St.h ?_
  |simp(disch:=first|omega|(simp only[AI];omega))only[AJ,↓AA,↓reduceIte,seval,r3.l1]
  |(with_reducible (first|apply AD|apply AE))<;>(intro hc;(try simp only[AT]at hc);(try simp only[hc]);(try simp only[AR]at hc);try omega))
 subst hQ
 exact⟨n3,b3,rfl,o3,s1.trans (s2.trans s3)⟩
section
variable {L:List Bq} {N:Nat}
theorem JM {h:H} {v:V} {p:Nat->Nat} {x y k:Nat} {s:B} (rb:Rt h v (By L p N)) (hx:x<N) (hy:y<N) (hN:N<=1000) (o:Ev.CE h s [.i .i64 (k:Int)]) (hk:k<=1000) (hf:B.val h.floor<=B.val h.next):A3 Try.prog 99 [v,.i .i64 (x:Int),.i .i64 (y:Int),.p s 0 0 1,.f 64 []] h fun r h'=>
 ∃ x' y' k':Nat,r=.tu [.i .i64 (x':Int),.i .i64 (y':Int)]/\((x'=x/\y'=y)\/(x'=y/\y'=x))/\k'<=k+1/\Ev.CE h' s [.i .i64 (k':Int)]/\AW (fun i=>i=s) h h':=by
 have W1:=rb.Dr
 have ln:(By L p N).length=N:=Ca
 refine Aw c99 (by intro hb;cases hb) (by simp) (by simp) fun Q hQ=>?_
 simp only[Ah,Nat.reduceAdd]
 repeat' (first
  |refine St.h ?_
  |simp(disch:=first|omega|(simp only[AI];omega))only[AJ,↓AA,↓reduceIte,seval,W1.ix,W1.la,Int.toNat_natCast]
  |(with_reducible (first|apply AD|apply AE))<;>(intro hc;(try simp only[AT]at hc);(try simp only[hc]);(try simp only[AR]at hc);try omega))
 refine CL.stay (Bz (a:=(By L p N).getD y default) (b:=(By L p N).getD x default) hf) fun h1 s1=>?_
 have o1:=o.stay s1 fun e=>e
 have r1:=o1.row
 by_cases hc:KW ((By L p N).getD y default) ((By L p N).getD x default)<0
 ·have d1:=eq_true hc
  repeat' (first
   |refine St.h ?_
   |simp(disch:=first|omega|(simp only[AI];omega))only[AJ,↓AA,↓reduceIte,seval,d1,r1.l1]
   |(with_reducible (first|apply AD|apply AE))<;>(intro hc;(try simp only[AT]at hc);(try simp only[hc]);(try simp only[AR]at hc);try omega))
  refine ST.own o1 rfl rfl (by omega) (by omega) fun h2 o2 s2=>?_
  repeat' (first
   |refine St.h ?_
   |simp(disch:=first|omega|(simp only[AI];omega))only[AJ,↓AA,↓reduceIte,seval]
   |(with_reducible (first|apply AD|apply AE))<;>(intro hc;(try simp only[AT]at hc);(try simp only[hc]);(try simp only[AR]at hc);try omega))
  subst hQ
  exact⟨y,x,k+1,rfl,.inr ⟨rfl,rfl⟩,Nat.le_refl _,o2,(Bu s1).trans s2⟩
 ·have d1:=eq_false hc
  repeat' (first
   |refine St.h ?_
   |simp(disch:=first|omega|(simp only[AI];omega))only[AJ,↓AA,↓reduceIte,seval,d1]
   |(with_reducible (first|apply AD|apply AE))<;>(intro hc;(try simp only[AT]at hc);(try simp only[hc]);(try simp only[AR]at hc);try omega))
  subst hQ
  exact⟨x,y,k,rfl,.inl ⟨rfl,rfl⟩,by omega,o1,Bu s1⟩
theorem JT {h:H} {v:V} {p:Nat->Nat} {x y z k:Nat} {s:B} (rb:Rt h v (By L p N)) (hx:x<N) (hy:y<N) (hz:z<N) (hN:N<=1000) (o:Ev.CE h s [.i .i64 (k:Int)]) (hk:k<=900) (hs:∀ q,Af v q->¬q=s) (hf:B.val h.floor<=B.val h.next):A3 Try.prog 97 [v,.i .i64 (x:Int),.i .i64 (y:Int),.i .i64 (z:Int),.p s 0 0 1,.f 64 []] h fun r h'=>
 ∃ m k':Nat,r=.i .i64 (m:Int)/\(m=x\/m=y\/m=z)/\k'<=k+3/\Ev.CE h' s [.i .i64 (k':Int)]/\AW (fun i=>i=s) h h':=by
 refine Aw c97 (by intro hb;cases hb) (by simp) (by simp) fun Q hQ=>?_
 simp only[Ah,Nat.reduceAdd]
 repeat' (first
  |refine St.h ?_
  |simp(disch:=first|omega|(simp only[AI];omega))only[AJ,↓AA,↓reduceIte,seval]
  |(with_reducible (first|apply AD|apply AE))<;>(intro hc;(try simp only[AT]at hc);(try simp only[hc]);(try simp only[AR]at hc);try omega))
 refine CL.mk (JM rb hx hy hN o (by omega) hf) ?_
 rintro _ h1 ⟨x1,y1,k1,rfl,e1,hk1,o1,s1⟩
 repeat' (first
  |refine St.h ?_
  |simp(disch:=first|omega|(simp only[AI];omega))only[AJ,↓AA,↓reduceIte,seval]
  |(with_reducible (first|apply AD|apply AE))<;>(intro hc;(try simp only[AT]at hc);(try simp only[hc]);(try simp only[AR]at hc);try omega))
 refine CL.mk (JM (x:=y1) (y:=z) (Gr.stay rb s1 hs) (by omega) hz hN o1 (by omega) (s1.fl hf)) ?_
 rintro _ h2 ⟨y2,z2,k2,rfl,e2,hk2,o2,s2⟩
 have s12:=s1.trans s2
 repeat' (first
  |refine St.h ?_
  |simp(disch:=first|omega|(simp only[AI];omega))only[AJ,↓AA,↓reduceIte,seval]
  |(with_reducible (first|apply AD|apply AE))<;>(intro hc;(try simp only[AT]at hc);(try simp only[hc]);(try simp only[AR]at hc);try omega))
 refine CL.mk (JM (x:=x1) (y:=y2) (Gr.stay rb s12 hs) (by omega) (by omega) hN o2 (by omega) (s12.fl hf)) ?_
 rintro _ h3 ⟨x3,y3,k3,rfl,e3,hk3,o3,s3⟩
 repeat' (first
  |refine St.h ?_
  |simp(disch:=first|omega|(simp only[AI];omega))only[AJ,↓AA,↓reduceIte,seval]
  |(with_reducible (first|apply AD|apply AE))<;>(intro hc;(try simp only[AT]at hc);(try simp only[hc]);(try simp only[AR]at hc);try omega))
 subst hQ
 exact⟨y3,k3,rfl,by omega,by omega,o3,s12.trans s3⟩
theorem JS {h:H} {v:V} {p:Nat->Nat} {x k:Nat} {s:B} (rb:Rt h v (By L p N)) (hx:1<=x) (hx2:x+1<N) (hN:N<=1000) (o:Ev.CE h s [.i .i64 (k:Int)]) (hk:k<=900) (hs:∀ q,Af v q->¬q=s) (hf:B.val h.floor<=B.val h.next):A3 Try.prog 96 [v,.i .i64 (x:Int),.p s 0 0 1,.f 64 []] h fun r h'=>
 ∃ m k':Nat,r=.i .i64 (m:Int)/\(x<=m+1/\m<=x+1)/\k'<=k+3/\Ev.CE h' s [.i .i64 (k':Int)]/\AW (fun i=>i=s) h h':=by
 have e1:(x:Int)-1=((x-1:Nat):Int):=by omega
 have e2:(x:Int)+1=((x+1:Nat):Int):=by omega
 refine Aw c96 (by intro hb;cases hb) (by simp) (by simp) fun Q hQ=>?_
 simp only[Ah,Nat.reduceAdd]
 repeat' (first
  |refine St.h ?_
  |simp(disch:=first|omega|(simp only[AI];omega))only[AJ,↓AA,↓reduceIte,seval,e1,e2]
  |(with_reducible (first|apply AD|apply AE))<;>(intro hc;(try simp only[AT]at hc);(try simp only[hc]);(try simp only[AR]at hc);try omega))
 refine CL.mk (JT (x:=x-1) (y:=x) (z:=x+1) rb (by omega) (by omega) (by omega) hN o hk hs hf) ?_
 rintro _ h1 ⟨m,k1,rfl,e1,hk1,o1,s1⟩
 repeat' (first
  |refine St.h ?_
  |simp(disch:=first|omega|(simp only[AI];omega))only[AJ,↓AA,↓reduceIte,seval]
  |(with_reducible (first|apply AD|apply AE))<;>(intro hc;(try simp only[AT]at hc);(try simp only[hc]);(try simp only[AR]at hc);try omega))
 subst hQ
 exact⟨m,k1,rfl,by omega,hk1,o1,s1⟩
theorem Rd {h:H} {v:V} {p:Nat->Nat} {a b:Nat} (rb:Rt h v (By L p N)) (h1:a+12<b) (h2:b<=N) (hN:N<=1000) (hf:B.val h.floor<=B.val h.next):A3 Try.prog 84 [v,.i .i64 (a:Int),.i .i64 (b:Int),.f 64 []] h fun r h'=>
 ∃ (m:Nat) (z:Int),r=.tu [.i .i64 (m:Int),.i .i64 z]/\a<=m/\m<b/\AW AN h h':=by
 obtain⟨n,rfl⟩:∃ n,b=a+n:=⟨b-a,by omega⟩
 obtain⟨d,hd⟩:∃ d,d=n/4:=⟨_,rfl⟩
 have en:((a+n:Nat):Int)-(a:Int)=(n:Int):=by omega
 have ed:(n:Int)/4=(d:Int):=by omega
 have ed2:n/4=d:=hd.symm
 have e1:(a:Int)+(d:Int)*1=((a+d:Nat):Int):=by omega
 have e1':(a:Int)+(d:Int)=((a+d:Nat):Int):=by omega
 have e2:(a:Int)+(d:Int)*2=((a+2*d:Nat):Int):=by omega
 have e3:(a:Int)+(d:Int)*3=((a+3*d:Nat):Int):=by omega
 have d8:((8:Int)<=(n:Int))=True:=eq_true (by omega)
 refine Aw c84 (by intro hb;cases hb) (by simp) (by simp) fun Q hQ=>?_
 simp only[Ah,Nat.reduceAdd]
 repeat' (first
  |refine St.h ?_
  |simp(disch:=first|omega|(simp only[AI];omega))only[AJ,↓AA,↓reduceIte,seval,en]
  |(with_reducible (first|apply AD|apply AE))<;>(intro hc;(try simp only[AT]at hc);(try simp only[hc]);(try simp only[AR]at hc);try omega))
 refine AL.own (by simp) hf fun g1 s1 n1 o1=>?_
 have hf1:=s1.fl hf
 have rb1:=rb.grow s1
 have hs:∀ q,Af v q->¬q=h.next:=fun q hq e=>by have:=Gr.lt rb q hq;rw[e]at this;omega
 have fin:∀ (m k:Nat) g,a<=m->m<a+n->AW AN h g->Q (.tu [.i .i64 (m:Int),.i .i64 0]) g/\Q (.tu [.i .i64 (m:Int),.i .i64 1]) g/\Q (.tu [.i .i64 (m:Int),.i .i64 2]) g:=fun m k g h1 h2 s=>by
  subst hQ
  exact⟨⟨m,0,rfl,h1,h2,s⟩,⟨m,1,rfl,h1,h2,s⟩,⟨m,2,rfl,h1,h2,s⟩⟩
 have H9:B.val h.next<B.val g1.next:=by rw[n1];omega
 by_cases h50:50<=n
 ·have d50:((50:Int)<=(n:Int))=True:=eq_true (by omega)
  repeat' (first
   |refine St.h ?_
   |simp(disch:=first|omega|(simp only[AI];omega))only[AJ,↓AA,↓reduceIte,seval,en,ed,ed2,e1,e1',e2,e3,d8,d50,Int.toNat_natCast]
   |(with_reducible (first|apply AD|apply AE))<;>(intro hc;(try simp only[AT]at hc);(try simp only[hc]);(try simp only[AR]at hc);try omega))
  refine CL.mk (JS (x:=a+d) (k:=0) rb1 (by omega) (by omega) hN o1 (by omega) hs hf1) ?_
  rintro _ g2 ⟨m1,k1,rfl,c1,hk1,o2,s2⟩
  have rb2:=Gr.stay rb1 s2 hs
  have hf2:=s2.fl hf1
  repeat' (first
   |refine St.h ?_
   |simp(disch:=first|omega|(simp only[AI];omega))only[AJ,↓AA,↓reduceIte,seval,en,ed,ed2,e1,e1',e2,e3,d8,d50,Int.toNat_natCast]
   |(with_reducible (first|apply AD|apply AE))<;>(intro hc;(try simp only[AT]at hc);(try simp only[hc]);(try simp only[AR]at hc);try omega))
  refine CL.mk (JS (x:=a+2*d) rb2 (by omega) (by omega) hN o2 (by omega) hs hf2) ?_
  rintro _ g3 ⟨m2,k2,rfl,c2,hk2,o3,s3⟩
  have rb3:=Gr.stay rb2 s3 hs
  have hf3:=s3.fl hf2
  repeat' (first
   |refine St.h ?_
   |simp(disch:=first|omega|(simp only[AI];omega))only[AJ,↓AA,↓reduceIte,seval,en,ed,ed2,e1,e1',e2,e3,d8,d50,Int.toNat_natCast]
   |(with_reducible (first|apply AD|apply AE))<;>(intro hc;(try simp only[AT]at hc);(try simp only[hc]);(try simp only[AR]at hc);try omega))
  refine CL.mk (JS (x:=a+3*d) rb3 (by omega) (by omega) hN o3 (by omega) hs hf3) ?_
  rintro _ g4 ⟨m3,k3,rfl,c3,hk3,o4,s4⟩
  have rb4:=Gr.stay rb3 s4 hs
  have hf4:=s4.fl hf3
  repeat' (first
   |refine St.h ?_
   |simp(disch:=first|omega|(simp only[AI];omega))only[AJ,↓AA,↓reduceIte,seval,en,ed,ed2,e1,e1',e2,e3,d8,d50,Int.toNat_natCast]
   |(with_reducible (first|apply AD|apply AE))<;>(intro hc;(try simp only[AT]at hc);(try simp only[hc]);(try simp only[AR]at hc);try omega))
  refine CL.mk (JT (x:=m1) (y:=m2) (z:=m3) rb4 (by omega) (by omega) (by omega) hN o4 (by omega) hs hf4) ?_
  rintro _ g5 ⟨m,k4,rfl,c4,hk4,o5,s5⟩
  have r5:=o5.row
  have st:AW AN h g5:=s1.BI (s2.trans (s3.trans (s4.trans s5))) fun i e=>by rw[e];exact Nat.le_refl _
  obtain⟨F0,F1,F2⟩:=fin m k4 g5 (by omega) (by omega) st
  repeat' (first
   |refine St.h ?_
   |simp(disch:=first|omega|(simp only[AI];omega))only[AJ,↓AA,↓reduceIte,seval,r5.l1]
   |(with_reducible (first|apply AD|apply AE))<;>(intro hc;(try simp only[AT]at hc);(try simp only[hc]);(try simp only[AR]at hc);try omega))
  all_goals first|exact F0|exact F1|exact F2
 ·have d50:((50:Int)<=(n:Int))=False:=eq_false (by omega)
  repeat' (first
   |refine St.h ?_
   |simp(disch:=first|omega|(simp only[AI];omega))only[AJ,↓AA,↓reduceIte,seval,en,ed,ed2,e1,e1',e2,e3,d8,d50,Int.toNat_natCast]
   |(with_reducible (first|apply AD|apply AE))<;>(intro hc;(try simp only[AT]at hc);(try simp only[hc]);(try simp only[AR]at hc);try omega))
  refine CL.mk (JT (x:=a+d) (y:=a+2*d) (z:=a+3*d) (k:=0) rb1 (by omega) (by omega) (by omega) hN o1 (by omega) hs hf1) ?_
  rintro _ g5 ⟨m,k4,rfl,c4,hk4,o5,s5⟩
  have r5:=o5.row
  have st:AW AN h g5:=s1.BI s5 fun i e=>by rw[e];exact Nat.le_refl _
  obtain⟨F0,F1,F2⟩:=fin m k4 g5 (by omega) (by omega) st
  repeat' (first
   |refine St.h ?_
   |simp(disch:=first|omega|(simp only[AI];omega))only[AJ,↓AA,↓reduceIte,seval,r5.l1]
   |(with_reducible (first|apply AD|apply AE))<;>(intro hc;(try simp only[AT]at hc);(try simp only[hc]);(try simp only[AR]at hc);try omega))
  all_goals first|exact F0|exact F1|exact F2
theorem VR {h:H} {v c:V} {p:Nat->Nat} {a b:Nat} (rb:Rt h v (By L p N)) (h1:a+12<b) (h2:b<=N) (hN:N<=200) (hf:B.val h.floor<=B.val h.next):A3 Try.prog 83 [v,.i .i64 (a:Int),.i .i64 (b:Int),c] h fun r h'=>
 ∃ q,D3 a b p q/\Rt h' v (By L q N)/\AW (Af v) h h':=by
 obtain⟨n,rfl⟩:∃ n,b=a+n:=⟨b-a,by omega⟩
 obtain⟨d,hd⟩:∃ d,d=n/4:=⟨_,rfl⟩
 obtain⟨bp1,bp2,bp3⟩:=RN n (by omega) (by omega)
 have en:((a+n:Nat):Int)-(a:Int)=(n:Int):=by omega
 have ed:(n:Int)/4=(d:Int):=by omega
 have ed2:n/4=d:=hd.symm
 have d8:((8:Int)<=(n:Int))=True:=eq_true (by omega)
 have e1:(a:Int)+(d:Int)*2-1=((a+2*d-1:Nat):Int):=by omega
 have e2:(a:Int)+(d:Int)*2+1=((a+2*d+1:Nat):Int):=by omega
 have em:((2 ^ D6 n:Nat):Int)-1=((2 ^ D6 n-1:Nat):Int):=by omega
 have hpw:2 ^ D6 n<=400:=by omega
 refine Aw c83 (by intro hb;cases hb) (by simp) (by simp) fun Q hQ=>?_
 simp only[Ah,Nat.reduceAdd]
 repeat' (first
  |refine St.h ?_
  |simp(disch:=first|omega|(simp only[AI];omega))only[AJ,↓AA,↓reduceIte,seval,en,d8,Int.toNat_natCast]
  |(with_reducible (first|apply AD|apply AE))<;>(intro hc;(try simp only[AT]at hc);(try simp only[hc]);(try simp only[AR]at hc);try omega))
 refine AL.own (by simp) hf fun g1 s1 n1 o1=>?_
 have hf1:=s1.fl hf
 have rb1:=rb.grow s1
 have hs:∀ q,Af v q->¬q=h.next:=fun q hq e=>by have:=Gr.lt rb q hq;rw[e]at this;omega
 repeat' (first
  |refine St.h ?_
  |simp(disch:=first|omega|(simp only[AI];omega))only[AJ,↓AA,↓reduceIte,seval,en,d8,Int.toNat_natCast]
  |(with_reducible (first|apply AD|apply AE))<;>(intro hc;(try simp only[AT]at hc);(try simp only[hc]);(try simp only[AR]at hc);try omega))
 refine ST.own o1 rfl rfl (by omega) (by omega) fun g2 o2 s2=>?_
 have rb2:=Gr.stay rb1 s2 hs
 have hf2:=s2.fl hf1
 repeat' (first
  |refine St.h ?_
  |simp(disch:=first|omega|(simp only[AI];omega))only[AJ,↓AA,↓reduceIte,seval,en,d8,Int.toNat_natCast]
  |(with_reducible (first|apply AD|apply AE))<;>(intro hc;(try simp only[AT]at hc);(try simp only[hc]);(try simp only[AR]at hc);try omega))
 refine CL.pure (XF (n:=n) (by omega)) ?_
 repeat' (first
  |refine St.h ?_
  |simp(disch:=first|omega|(simp only[AI];omega))only[AJ,↓AA,↓reduceIte,seval,en,d8,ed,ed2,e1,Int.toNat_natCast]
  |(with_reducible (first|apply AD|apply AE))<;>(intro hc;(try simp only[AT]at hc);(try simp only[hc]);(try simp only[AR]at hc);try omega))
 generalize hM:2 ^ D6 n=M at*
 refine Ok.lp (fun m t g=>∃ (i k:Nat) (q:Nat->Nat),m=a+2*d+2-i/\a+2*d<=i+1/\i<=a+2*d+2/\k<18446744073709551616/\get 0 t=v/\get 1 t=.i .i64 (a:Int)/\get 8 t=.i .i64 (n:Int)/\get 9 t=.p h.next 0 0 1/\get 10 t=.i .u64 (M:Int)/\get 11 t=.i .i64 (i:Int)/\Ev.CE g h.next [.i .u64 (k:Int)]/\D3 a (a+n) p q/\Rt g v (By L q N)/\AW (fun x=>Af v x\/x=h.next) g2 g) (a+2*d+2-(a+2*d-1)) ?_ ?_
 ·simp(disch:=first|omega|(simp only[AI];omega))only[AJ,↓AA,↓reduceIte,seval,e1]
  refine⟨a+2*d-1,n,p,rfl,by omega,by omega,by omega,?_⟩
  refine⟨?_,?_,?_,?_,?_,?_,o2,.refl _,rb2,⟨rfl,Nat.le_refl _,fun _ _ _=>rfl⟩⟩
  all_goals first|trivial|rfl
 rintro I hI m t g ⟨i,k,q,rfl,hi1,hi2,hk,f0,f1,f8,f9,f10,f11,o3,sw,rb3,st⟩
 have hfg:=st.fl hf2
 have big:AW (Af v) h g:=by
  have x:AW (fun x=>Af v x\/x=h.next) g1 g:=(s2.mono fun i _ e=>.inr e).trans st
  refine⟨x.floor.trans s1.floor,Nat.le_trans s1.next x.next,fun id i1 i2=>?_⟩
  rw[x.get id (Nat.lt_of_lt_of_le i1 s1.next) fun e=>by
   rcases e with e|e
   ·exact i2 e
   ·rw[e]at i1;omega]
  exact s1.get id i1 fun e=>e
 by_cases hil:i<=a+2*d+1
 case neg=>
  have d1:((i:Int)<=((a+2*d+1:Nat):Int))=False:=eq_false (by omega)
  repeat' (first
   |refine St.h ?_
   |simp(disch:=first|omega|(simp only[AI];omega))only[AJ,↓AA,↓reduceIte,seval,f0,f1,f8,f9,f10,f11,ed,ed2,e2,d1,Int.toNat_natCast]
   |(with_reducible (first|apply AD|apply AE))<;>(intro hc;(try simp only[AT]at hc);(try simp only[hc]);(try simp only[AR]at hc);try omega))
  subst hQ
  exact⟨q,sw,rb3,big⟩
 have d1:((i:Int)<=((a+2*d+1:Nat):Int))=True:=eq_true (by omega)
 repeat' (first
  |refine St.h ?_
  |simp(disch:=first|omega|(simp only[AI];omega))only[AJ,↓AA,↓reduceIte,seval,f0,f1,f8,f9,f10,f11,ed,ed2,e2,d1,Int.toNat_natCast]
  |(with_reducible (first|apply AD|apply AE))<;>(intro hc;(try simp only[AT]at hc);(try simp only[hc]);(try simp only[AR]at hc);try omega))
 refine CL.mk (Xq o3 hk hfg) ?_
 rintro _ g4 ⟨k4,hk4,rfl,o4,s4⟩
 have rb4:Rt g4 v (By L q N):=Gr.stay rb3 s4 hs
 obtain⟨u,hu⟩:∃ u,u=k4&&&(M-1):=⟨_,rfl⟩
 have hu2:u<=M-1:=by rw[hu];exact Nat.and_le_right
 have W4:=rb4.Dr
 have ln:(By L q N).length=N:=Ca
 have gx:∀ j,j<N->(By L q N).getD j default=L.getD (q j) default:=fun j hj=>CJ hj
 have gi:=gx i (by omega)
 have st4:AW (fun x=>Af v x\/x=h.next) g2 g4:=st.trans (s4.mono fun _ _ e=>.inr e)
 by_cases hun:n<=u
 ·have d2:((n:Int)<=(u:Int))=True:=eq_true (by omega)
  have eu:(u:Int)-(n:Int)=((u-n:Nat):Int):=by omega
  have i1:((a:Int)+((u-n:Nat):Int)).toNat=a+(u-n):=by omega
  have g1':=gx (a+(u-n)) (by omega)
  repeat' (first
   |refine St.h ?_
   |simp(disch:=first|omega|(simp only[AI];omega))only[AJ,↓AA,↓reduceIte,seval,f0,f1,f8,f9,f10,f11,em,<-hu,d2,eu,i1,gi,g1',W4.ix,W4.la,Int.toNat_natCast]
   |(with_reducible (first|apply AD|apply AE))<;>(intro hc;(try simp only[AT]at hc);(try simp only[hc]);(try simp only[AR]at hc);try omega))
  refine ST.NV rb4 (by omega) (by omega) fun g5 B5 s5=>?_
  have W5:=B5.Dr
  repeat' (first
   |refine St.h ?_
   |simp(disch:=first|omega|(simp only[AI];omega))only[AJ,↓AA,↓reduceIte,seval,f0,f1,f8,f9,f10,f11,eu,i1,W5.ix]
   |(with_reducible (first|apply AD|apply AE))<;>(intro hc;(try simp only[AT]at hc);(try simp only[hc]);(try simp only[AR]at hc);try omega))
  refine ST.Hl B5 (by omega) (by omega) fun g6 B6 s6=>?_
  have s56:=s5.trans s6
  repeat' (first
   |refine St.h ?_
   |simp(disch:=first|omega|(simp only[AI];omega))only[AJ,↓AA,↓reduceIte,seval,f0,f1,f8,f9,f10,f11]
   |(with_reducible (first|apply AD|apply AE))<;>(intro hc;(try simp only[AT]at hc);(try simp only[hc]);(try simp only[AR]at hc);try omega))
  refine Ai hI (a+2*d+2-(i+1)) (by omega) ⟨i+1,k4,_,rfl,by omega,by omega,hk4,by simp(disch:=first|omega|(simp only[AI];omega))only[AJ,↓AA,↓reduceIte,seval,f0],by simp(disch:=first|omega|(simp only[AI];omega))only[AJ,↓AA,↓reduceIte,seval,f1],by simp(disch:=first|omega|(simp only[AI];omega))only[AJ,↓AA,↓reduceIte,seval,f8],by simp(disch:=first|omega|(simp only[AI];omega))only[AJ,↓AA,↓reduceIte,seval,f9],by simp(disch:=first|omega|(simp only[AI];omega))only[AJ,↓AA,↓reduceIte,seval,f10],by simp(disch:=first|omega|(simp only[AI];omega))only[AJ,↓AA,↓reduceIte,seval,f11];rfl,o4.stay s56 fun e=>hs _ e rfl,sw.trans (.one (by omega) (by omega) (by omega) (by omega)),B6,st4.trans (s56.mono fun _ _ e=>.inl e)⟩
 ·have d2:((n:Int)<=(u:Int))=False:=eq_false (by omega)
  have i1:((a:Int)+(u:Int)).toNat=a+u:=by omega
  have g1':=gx (a+u) (by omega)
  repeat' (first
   |refine St.h ?_
   |simp(disch:=first|omega|(simp only[AI];omega))only[AJ,↓AA,↓reduceIte,seval,f0,f1,f8,f9,f10,f11,em,<-hu,d2,i1,gi,g1',W4.ix,W4.la,Int.toNat_natCast]
   |(with_reducible (first|apply AD|apply AE))<;>(intro hc;(try simp only[AT]at hc);(try simp only[hc]);(try simp only[AR]at hc);try omega))
  refine ST.NV rb4 (by omega) (by omega) fun g5 B5 s5=>?_
  have W5:=B5.Dr
  repeat' (first
   |refine St.h ?_
   |simp(disch:=first|omega|(simp only[AI];omega))only[AJ,↓AA,↓reduceIte,seval,f0,f1,f8,f9,f10,f11,i1,W5.ix]
   |(with_reducible (first|apply AD|apply AE))<;>(intro hc;(try simp only[AT]at hc);(try simp only[hc]);(try simp only[AR]at hc);try omega))
  refine ST.Hl B5 (by omega) (by omega) fun g6 B6 s6=>?_
  have s56:=s5.trans s6
  repeat' (first
   |refine St.h ?_
   |simp(disch:=first|omega|(simp only[AI];omega))only[AJ,↓AA,↓reduceIte,seval,f0,f1,f8,f9,f10,f11]
   |(with_reducible (first|apply AD|apply AE))<;>(intro hc;(try simp only[AT]at hc);(try simp only[hc]);(try simp only[AR]at hc);try omega))
  refine Ai hI (a+2*d+2-(i+1)) (by omega) ⟨i+1,k4,_,rfl,by omega,by omega,hk4,by simp(disch:=first|omega|(simp only[AI];omega))only[AJ,↓AA,↓reduceIte,seval,f0],by simp(disch:=first|omega|(simp only[AI];omega))only[AJ,↓AA,↓reduceIte,seval,f1],by simp(disch:=first|omega|(simp only[AI];omega))only[AJ,↓AA,↓reduceIte,seval,f8],by simp(disch:=first|omega|(simp only[AI];omega))only[AJ,↓AA,↓reduceIte,seval,f9],by simp(disch:=first|omega|(simp only[AI];omega))only[AJ,↓AA,↓reduceIte,seval,f10],by simp(disch:=first|omega|(simp only[AI];omega))only[AJ,↓AA,↓reduceIte,seval,f11];rfl,o4.stay s56 fun e=>hs _ e rfl,sw.trans (.one (by omega) (by omega) (by omega) (by omega)),B6,st4.trans (s56.mono fun _ _ e=>.inl e)⟩
end
end Go.Proofs.Ytobfgempjekjpaa
set_option maxRecDepth 100000
set_option maxHeartbeats 8000000
namespace Go.Proofs.Ytobfgempjekjpaa
open Go Go.Ev
section
variable {L:List Bq} {N:Nat}
theorem SS {h:H} {v:V} {p:Nat->Nat} {a b c:Nat} (rb0:Rt h v (By L p N)) (h1:a<=c) (h2:c<b) (h3:b<=N) (hN:N<=1000) (hf:B.val h.floor<=B.val h.next):A3 Try.prog 87 [v,.i .i64 (a:Int),.i .i64 (b:Int),.i .i64 (c:Int),.f 64 []] h fun r h'=>
 ∃ (m:Nat) (q:Nat->Nat),r=.i .i64 (m:Int)/\a<m/\m<=b/\D3 a b p q/\(∀ k,a<=k->k<m->Cr L (p c) (q k)=false)/\(∀ k,m<=k->k<b->Cr L (p c) (q k)=true)/\Rt h' v (By L q N)/\AW (Af v) h h':=by
 have ln:∀ q:Nat->Nat,(By L q N).length=N:=fun q=>Ca
 have gx:∀ (q:Nat->Nat) j,j<N->(By L q N).getD j default=L.getD (q j) default:=fun q j hj=>CJ hj
 have Xn:∀ {x},Cr L x x=false:=(Dt L).Xn
 have W0:=rb0.Dr
 have l0:=ln p
 have ga:=gx p a (by omega)
 have gc:=gx p c (by omega)
 refine Aw c87 (by intro hb;cases hb) (by simp) (by simp) fun Q hQ=>?_
 simp only[Ah,Nat.reduceAdd]
 repeat' (first
  |refine St.h ?_
  |simp(disch:=first|omega|(simp only[AI];omega))only[AJ,↓AA,↓reduceIte,seval,ga,gc,W0.ix,W0.la,Int.toNat_natCast]
  |(with_reducible (first|apply AD|apply AE))<;>(intro hc;(try simp only[AT]at hc);(try simp only[hc]);(try simp only[AR]at hc);try omega))
 refine ST.NV rb0 hN (by omega) fun h5 B5 s5=>?_
 have W5:=B5.Dr
 repeat' (first
  |refine St.h ?_
  |simp(disch:=first|omega|(simp only[AI];omega))only[AJ,↓AA,↓reduceIte,seval,W5.ix,Int.toNat_natCast]
  |(with_reducible (first|apply AD|apply AE))<;>(intro hc;(try simp only[AT]at hc);(try simp only[hc]);(try simp only[AR]at hc);try omega))
 refine ST.Hl B5 hN (by omega) fun h6 B6 s6=>?_
 have st6:=s5.trans s6
 have hea:He p a c a=p c:=Jt
 generalize he:p c=e at*
 repeat' (first
  |refine St.h ?_
  |simp(disch:=first|omega|(simp only[AI];omega))only[AJ,↓AA,↓reduceIte,seval]
  |(with_reducible (first|apply AD|apply AE))<;>(intro hc;(try simp only[AT]at hc);(try simp only[hc]);(try simp only[AR]at hc);try omega))
 refine Ok.lp (fun m t g=>∃ (i j:Nat) (q:Nat->Nat),m=j-i/\a+1<=i/\i<=j/\j<=b/\get 0 t=v/\get 1 t=.i .i64 (a:Int)/\get 4 t=.f 64 []/\get 11 t=.i .i64 (i:Int)/\get 12 t=.i .i64 ((j:Int)-1)/\q a=e/\(∀ k,a<=k->k<i->Cr L e (q k)=false)/\(∀ k,j<=k->k<b->Cr L e (q k)=true)/\D3 a b p q/\Rt g v (By L q N)/\AW (Af v) h g) (b-(a+1)) ?_ ?_
 ·simp(disch:=first|omega|(simp only[AI];omega))only[AJ,↓AA,↓reduceIte,seval]
  refine⟨a+1,b,He p a c,rfl,by omega,by omega,by omega,?_⟩
  refine⟨?_,?_,?_,?_,?_,hea,fun k k1 k2=>?_,fun k k1 k2=>by omega,.one (by omega) (by omega) (by omega) (by omega),B6,st6⟩
  rotate_right
  ·rw[show k=a by omega,hea];exact Xn
  all_goals first|trivial|rfl
 rintro I hI m t g ⟨i,j,q,rfl,hi,hij,hj,f0,f1,f4,f11,f12,hqa,hlo,hhi,sw,rb,st⟩
 repeat' (first
  |refine St.h ?_
  |simp(disch:=first|omega|(simp only[AI];omega))only[AJ,↓AA,↓reduceIte,seval,f0,f1,f4,f11,f12]
  |(with_reducible (first|apply AD|apply AE))<;>(intro hc;(try simp only[AT]at hc);(try simp only[hc]);(try simp only[AR]at hc);try omega))
 --from below
 refine Ok.lp (fun m t g=>∃ (i':Nat),m=j-i'/\i<=i'/\i'<=j/\get 0 t=v/\get 1 t=.i .i64 (a:Int)/\get 4 t=.f 64 []/\get 11 t=.i .i64 (i':Int)/\get 12 t=.i .i64 ((j:Int)-1)/\(∀ k,a<=k->k<i'->Cr L e (q k)=false)/\Rt g v (By L q N)/\AW (Af v) h g) (j-i) ?_ ?_
 ·simp(disch:=first|omega|(simp only[AI];omega))only[AJ,↓AA,↓reduceIte,seval,f0,f1,f4,f11,f12]
  refine⟨i,rfl,by omega,by omega,?_⟩
  refine⟨?_,?_,?_,?_,?_,hlo,rb,st⟩
  all_goals first|trivial|rfl
 rintro I1 hI1 m1 t1 g1 ⟨i',rfl,hi',hij',f0,f1,f4,f11,f12,hlo',rb,st⟩
 have hfg:=st.fl hf
 have W1:=rb.Dr
 have l1:=ln q
 have g1a:=gx q a (by omega)
 by_cases hl:i'<j
 case neg=>
  obtain rfl:i'=j:=by omega
  have d1:((i':Int)<=(i':Int)-1)=False:=eq_false (by omega)
  repeat' (first
   |refine St.h ?_
   |simp(disch:=first|omega|(simp only[AI];omega))only[AJ,↓AA,↓reduceIte,seval,f0,f1,f4,f11,f12,d1]
   |(with_reducible (first|apply AD|apply AE))<;>(intro hc;(try simp only[AT]at hc);(try simp only[hc]);(try simp only[AR]at hc);try omega))
  refine Ok.lp (fun m t g=>m=0/\get 11 t=.i .i64 (i':Int)/\get 12 t=.i .i64 ((i':Int)-1)/\Rt g v (By L q N)/\AW (Af v) h g) 0 ?_ ?_
  ·simp(disch:=first|omega|(simp only[AI];omega))only[AJ,↓AA,↓reduceIte,seval,f0,f1,f4,f11,f12]
   refine⟨?_,?_,?_,rb,st⟩
   all_goals first|trivial|rfl
  rintro I2 hI2 m2 t2 g2 ⟨rfl,f11,f12,rb,st⟩
  have d2:((i':Int)-1<(i':Int))=True:=eq_true (by omega)
  repeat' (first
   |refine St.h ?_
   |simp(disch:=first|omega|(simp only[AI];omega))only[AJ,↓AA,↓reduceIte,seval,f11,f12,d1,d2]
   |(with_reducible (first|apply AD|apply AE))<;>(intro hc;(try simp only[AT]at hc);(try simp only[hc]);(try simp only[AR]at hc);try omega))
  subst hQ
  exact⟨i',q,rfl,by omega,by omega,sw,hlo',hhi,rb,st⟩
 have g1i:=gx q i' (by omega)
 have d1:((i':Int)<=(j:Int)-1)=True:=eq_true (by omega)
 repeat' (first
  |refine St.h ?_
  |simp(disch:=first|omega|(simp only[AI];omega))only[AJ,↓AA,↓reduceIte,seval,f0,f1,f4,f11,f12,d1,g1a,g1i,hqa,W1.ix,W1.la,Int.toNat_natCast]
  |(with_reducible (first|apply AD|apply AE))<;>(intro hc;(try simp only[AT]at hc);(try simp only[hc]);(try simp only[AR]at hc);try omega))
 refine CL.stay (Bz (a:=L.getD e default) (b:=L.getD (q i') default) hfg) fun g2 s2=>?_
 have rb2:=rb.grow s2
 have st2:=st.trans (Bu s2)
 cases hk:Cr L e (q i')with
 |false=>
  have d2:=EK hk
  repeat' (first
   |refine St.h ?_
   |simp(disch:=first|omega|(simp only[AI];omega))only[AJ,↓AA,↓reduceIte,seval,f0,f1,f4,f11,f12,d2]
   |(with_reducible (first|apply AD|apply AE))<;>(intro hc;(try simp only[AT]at hc);(try simp only[hc]);(try simp only[AR]at hc);try omega))
  refine Ai hI1 (j-(i'+1)) (by omega) ⟨i'+1,rfl,by omega,by omega,by simp(disch:=first|omega|(simp only[AI];omega))only[AJ,↓AA,↓reduceIte,seval,f0],by simp(disch:=first|omega|(simp only[AI];omega))only[AJ,↓AA,↓reduceIte,seval,f1],by simp(disch:=first|omega|(simp only[AI];omega))only[AJ,↓AA,↓reduceIte,seval,f4],by simp(disch:=first|omega|(simp only[AI];omega))only[AJ,↓AA,↓reduceIte,seval,f11];rfl,by simp(disch:=first|omega|(simp only[AI];omega))only[AJ,↓AA,↓reduceIte,seval,f12],fun k k1 k2=>?_,rb2,st2⟩
  by_cases ek:k=i'
  ·rw[ek];exact hk
  ·exact hlo' k k1 (by omega)
 |true=>
 have d2:=EL hk
 repeat' (first
  |refine St.h ?_
  |simp(disch:=first|omega|(simp only[AI];omega))only[AJ,↓AA,↓reduceIte,seval,f0,f1,f4,f11,f12,d2]
  |(with_reducible (first|apply AD|apply AE))<;>(intro hc;(try simp only[AT]at hc);(try simp only[hc]);(try simp only[AR]at hc);try omega))
 --from above
 refine Ok.lp (fun m t g=>∃ (j':Nat),m=j'-i'/\i'<=j'/\j'<=j/\get 0 t=v/\get 1 t=.i .i64 (a:Int)/\get 4 t=.f 64 []/\get 11 t=.i .i64 (i':Int)/\get 12 t=.i .i64 ((j':Int)-1)/\(∀ k,j'<=k->k<b->Cr L e (q k)=true)/\Rt g v (By L q N)/\AW (Af v) h g) (j-i') ?_ ?_
 ·simp(disch:=first|omega|(simp only[AI];omega))only[AJ,↓AA,↓reduceIte,seval,f0,f1,f4,f11,f12]
  refine⟨j,rfl,by omega,by omega,?_⟩
  refine⟨?_,?_,?_,?_,?_,hhi,rb2,st2⟩
  all_goals first|trivial|rfl
 rintro I3 hI3 m3 t3 g3 ⟨j',rfl,hj1,hj2,e0,e1,e4,e11,e12,hhi',rb3,st3⟩
 have hf3:=st3.fl hf
 have W3:=rb3.Dr
 by_cases hl2:i'<j'
 case neg=>
  obtain rfl:j'=i':=by omega
  have d3:((j':Int)<=(j':Int)-1)=False:=eq_false (by omega)
  have d4:((j':Int)-1<(j':Int))=True:=eq_true (by omega)
  repeat' (first
   |refine St.h ?_
   |simp(disch:=first|omega|(simp only[AI];omega))only[AJ,↓AA,↓reduceIte,seval,e0,e1,e4,e11,e12,d3,d4]
   |(with_reducible (first|apply AD|apply AE))<;>(intro hc;(try simp only[AT]at hc);(try simp only[hc]);(try simp only[AR]at hc);try omega))
  subst hQ
  exact⟨j',q,rfl,by omega,by omega,sw,hlo',hhi',rb3,st3⟩
 obtain⟨u,rfl⟩:∃ u,j'=u+1:=⟨j'-1,by omega⟩
 have eu:((u+1:Nat):Int)-1=(u:Int):=by omega
 rw[eu]at e12
 have g3u:=gx q u (by omega)
 have d3:((i':Int)<=(u:Int))=True:=eq_true (by omega)
 repeat' (first
  |refine St.h ?_
  |simp(disch:=first|omega|(simp only[AI];omega))only[AJ,↓AA,↓reduceIte,seval,e0,e1,e4,e11,e12,d3,g1a,g3u,hqa,W3.ix,W3.la,Int.toNat_natCast]
  |(with_reducible (first|apply AD|apply AE))<;>(intro hc;(try simp only[AT]at hc);(try simp only[hc]);(try simp only[AR]at hc);try omega))
 refine CL.stay (Bz (a:=L.getD e default) (b:=L.getD (q u) default) hf3) fun g4 s4=>?_
 have rb4:=rb3.grow s4
 have st4:=st3.trans (Bu s4)
 have W4:=rb4.Dr
 cases hk2:Cr L e (q u)with
 |true=>
  have d4:=EL hk2
  repeat' (first
   |refine St.h ?_
   |simp(disch:=first|omega|(simp only[AI];omega))only[AJ,↓AA,↓reduceIte,seval,e0,e1,e4,e11,e12,d4]
   |(with_reducible (first|apply AD|apply AE))<;>(intro hc;(try simp only[AT]at hc);(try simp only[hc]);(try simp only[AR]at hc);try omega))
  refine Ai hI3 (u-i') (by omega) ⟨u,rfl,by omega,by omega,by simp(disch:=first|omega|(simp only[AI];omega))only[AJ,↓AA,↓reduceIte,seval,e0],by simp(disch:=first|omega|(simp only[AI];omega))only[AJ,↓AA,↓reduceIte,seval,e1],by simp(disch:=first|omega|(simp only[AI];omega))only[AJ,↓AA,↓reduceIte,seval,e4],by simp(disch:=first|omega|(simp only[AI];omega))only[AJ,↓AA,↓reduceIte,seval,e11],by simp(disch:=first|omega|(simp only[AI];omega))only[AJ,↓AA,↓reduceIte,seval,e12],fun k k1 k2=>?_,rb4,st4⟩
  by_cases ek:k=u
  ·rw[ek];exact hk2
  ·exact hhi' k (by omega) k2
 |false=>
  have d4:=EK hk2
  have hne:u≠i':=fun e=>by rw[e,hk]at hk2;cases hk2
  have g4u:=gx q u (by omega)
  have d5:((u:Int)<(i':Int))=False:=eq_false (by omega)
  repeat' (first
   |refine St.h ?_
   |simp(disch:=first|omega|(simp only[AI];omega))only[AJ,↓AA,↓reduceIte,seval,e0,e1,e4,e11,e12,d4,d5,g1i,g4u,W4.ix,W4.la,Int.toNat_natCast]
   |(with_reducible (first|apply AD|apply AE))<;>(intro hc;(try simp only[AT]at hc);(try simp only[hc]);(try simp only[AR]at hc);try omega))
  refine ST.NV rb4 hN (by omega) fun g5 B5 s5=>?_
  have W5:=B5.Dr
  repeat' (first
   |refine St.h ?_
   |simp(disch:=first|omega|(simp only[AI];omega))only[AJ,↓AA,↓reduceIte,seval,e0,e1,e4,e11,e12,W5.ix,Int.toNat_natCast]
   |(with_reducible (first|apply AD|apply AE))<;>(intro hc;(try simp only[AT]at hc);(try simp only[hc]);(try simp only[AR]at hc);try omega))
  refine ST.Hl B5 hN (by omega) fun g6 B6 s6=>?_
  repeat' (first
   |refine St.h ?_
   |simp(disch:=first|omega|(simp only[AI];omega))only[AJ,↓AA,↓reduceIte,seval,e0,e1,e4,e11,e12]
   |(with_reducible (first|apply AD|apply AE))<;>(intro hc;(try simp only[AT]at hc);(try simp only[hc]);(try simp only[AR]at hc);try omega))
  refine Ai hI (u-(i'+1)) (by omega) ⟨i'+1,u,He q i' u,rfl,by omega,by omega,by omega,by simp(disch:=first|omega|(simp only[AI];omega))only[AJ,↓AA,↓reduceIte,seval,e0],by simp(disch:=first|omega|(simp only[AI];omega))only[AJ,↓AA,↓reduceIte,seval,e1],by simp(disch:=first|omega|(simp only[AI];omega))only[AJ,↓AA,↓reduceIte,seval,e4],by simp(disch:=first|omega|(simp only[AI];omega))only[AJ,↓AA,↓reduceIte,seval,e11];rfl,by simp(disch:=first|omega|(simp only[AI];omega))only[AJ,↓AA,↓reduceIte,seval,e12],by rw[Ej (by omega) (by omega)];exact hqa,fun k k1 k2=>?_,fun k k1 k2=>?_,sw.trans (.one (by omega) (by omega) (by omega) (by omega)),B6,st4.trans (s5.trans s6)⟩
  ·by_cases ek:k=i'
   ·rw[ek,Jt];exact hk2
   ·rw[Ej ek (by omega)];exact hlo' k k1 (by omega)
  ·by_cases ek:k=u
   ·rw[ek,PR];exact hk
   ·rw[Ej (by omega) ek];exact hhi' k (by omega) k2
end
end Go.Proofs.Ytobfgempjekjpaa
set_option maxRecDepth 100000
set_option maxHeartbeats 8000000
namespace Go.Proofs.Ytobfgempjekjpaa
open Go Go.Ev
section
variable {L:List Bq} {N:Nat}
/--the pivot goes to its place -/
theorem Ix {R:Nat->Nat->Bool} {q:Nat->Nat} {a b i e:Nat} (o:Ord R) (hi:a+1<=i) (hb:i<=b) (hqa:q a=e) (hlo:∀ k,a+1<=k->k<i->R (q k) e=true) (hhi:∀ k,i<=k->k<b->R (q k) e=false):Sn R (He q (i-1) a) a b (i-1):=by
 have h0:He q (i-1) a (i-1)=e:=by rw[Jt];exact hqa
 refine⟨by omega,by omega,fun k k1 k2=>?_,fun k k1 k2=>?_⟩
 ·rw[h0]
  by_cases ek:k=a
  ·rw[ek,PR];exact hlo (i-1) (by omega) (by omega)
  ·rw[Ej (by omega) ek];exact hlo k (by omega) (by omega)
 ·rw[h0,Ej (by omega) (by omega)]
  exact hhi k (by omega) k2
theorem Xf {h:H} {v:V} {p:Nat->Nat} {a b c:Nat} (rb0:Rt h v (By L p N)) (h1:a<=c) (h2:c<b) (h3:b<=N) (hN:N<=1000) (hf:B.val h.floor<=B.val h.next):A3 Try.prog 88 [v,.i .i64 (a:Int),.i .i64 (b:Int),.i .i64 (c:Int),.f 64 []] h fun r h'=>
 ∃ (m:Nat) (z:Bool) (q:Nat->Nat),r=.tu [.i .i64 (m:Int),.b z]/\Sn (Cr L) q a b m/\D3 a b p q/\Rt h' v (By L q N)/\AW (Af v) h h':=by
 have ln:∀ q:Nat->Nat,(By L q N).length=N:=fun q=>Ca
 have gx:∀ (q:Nat->Nat) j,j<N->(By L q N).getD j default=L.getD (q j) default:=fun q j hj=>CJ hj
 have o:=Dt L
 have W0:=rb0.Dr
 have l0:=ln p
 have ga:=gx p a (by omega)
 have gc:=gx p c (by omega)
 refine Aw c88 (by intro hb;cases hb) (by simp) (by simp) fun Q hQ=>?_
 simp only[Ah,Nat.reduceAdd]
 repeat' (first
  |refine St.h ?_
  |simp(disch:=first|omega|(simp only[AI];omega))only[AJ,↓AA,↓reduceIte,seval,ga,gc,W0.ix,W0.la,Int.toNat_natCast]
  |(with_reducible (first|apply AD|apply AE))<;>(intro hc;(try simp only[AT]at hc);(try simp only[hc]);(try simp only[AR]at hc);try omega))
 refine ST.NV rb0 hN (by omega) fun h5 B5 s5=>?_
 have W5:=B5.Dr
 repeat' (first
  |refine St.h ?_
  |simp(disch:=first|omega|(simp only[AI];omega))only[AJ,↓AA,↓reduceIte,seval,W5.ix,Int.toNat_natCast]
  |(with_reducible (first|apply AD|apply AE))<;>(intro hc;(try simp only[AT]at hc);(try simp only[hc]);(try simp only[AR]at hc);try omega))
 refine ST.Hl B5 hN (by omega) fun h6 B6 s6=>?_
 have st6:=s5.trans s6
 have hea:He p a c a=p c:=Jt
 have sw0:D3 a b p (He p a c):=.one (by omega) (by omega) (by omega) (by omega)
 generalize he:p c=e at*
 generalize hp0:He p a c=p0 at*
 repeat' (first
  |refine St.h ?_
  |simp(disch:=first|omega|(simp only[AI];omega))only[AJ,↓AA,↓reduceIte,seval]
  |(with_reducible (first|apply AD|apply AE))<;>(intro hc;(try simp only[AT]at hc);(try simp only[hc]);(try simp only[AR]at hc);try omega))
 --from below
 refine Ok.lp (fun m t g=>∃ (i:Nat),m=b-i/\a+1<=i/\i<=b/\get 0 t=v/\get 1 t=.i .i64 (a:Int)/\get 4 t=.f 64 []/\get 12 t=.i .i64 (i:Int)/\get 13 t=.i .i64 ((b:Int)-1)/\(∀ k,a+1<=k->k<i->Cr L (p0 k) e=true)/\Rt g v (By L p0 N)/\AW (Af v) h g) (b-(a+1)) ?_ ?_
 ·simp(disch:=first|omega|(simp only[AI];omega))only[AJ,↓AA,↓reduceIte,seval]
  refine⟨a+1,rfl,by omega,by omega,?_⟩
  refine⟨?_,?_,?_,?_,?_,fun k k1 k2=>by omega,B6,st6⟩
  all_goals first|trivial|rfl
 rintro I1 hI1 m1 t1 g1 ⟨i,rfl,hi,hib,f0,f1,f4,f12,f13,hlo,rb,st⟩
 have hfg:=st.fl hf
 have W1:=rb.Dr
 have l1:=ln p0
 have g1a:=gx p0 a (by omega)
 by_cases hl:i<b
 case neg=>
  obtain rfl:i=b:=by omega
  have d1:((i:Int)<=(i:Int)-1)=False:=eq_false (by omega)
  repeat' (first
   |refine St.h ?_
   |simp(disch:=first|omega|(simp only[AI];omega))only[AJ,↓AA,↓reduceIte,seval,f0,f1,f4,f12,f13,d1]
   |(with_reducible (first|apply AD|apply AE))<;>(intro hc;(try simp only[AT]at hc);(try simp only[hc]);(try simp only[AR]at hc);try omega))
  refine Ok.lp (fun m t g=>m=0/\get 0 t=v/\get 1 t=.i .i64 (a:Int)/\get 12 t=.i .i64 (i:Int)/\get 13 t=.i .i64 ((i:Int)-1)/\Rt g v (By L p0 N)/\AW (Af v) h g) 0 ?_ ?_
  ·simp(disch:=first|omega|(simp only[AI];omega))only[AJ,↓AA,↓reduceIte,seval,f0,f1,f4,f12,f13]
   refine⟨?_,?_,?_,?_,?_,rb,st⟩
   all_goals first|trivial|rfl
  rintro I2 hI2 m2 t2 g2 ⟨rfl,f0,f1,f12,f13,rb,st⟩
  have d2:((i:Int)-1<(i:Int))=True:=eq_true (by omega)
  have ei:(i:Int)-1=((i-1:Nat):Int):=by omega
  rw[ei]at f13 d1 d2
  have W2:=rb.Dr
  have gj:=gx p0 (i-1) (by omega)
  repeat' (first
   |refine St.h ?_
   |simp(disch:=first|omega|(simp only[AI];omega))only[AJ,↓AA,↓reduceIte,seval,f0,f1,f12,f13,d1,d2,g1a,gj,W2.ix,W2.la,Int.toNat_natCast]
   |(with_reducible (first|apply AD|apply AE))<;>(intro hc;(try simp only[AT]at hc);(try simp only[hc]);(try simp only[AR]at hc);try omega))
  refine ST.NV rb hN (by omega) fun h7 B7 s7=>?_
  have W7:=B7.Dr
  repeat' (first
   |refine St.h ?_
   |simp(disch:=first|omega|(simp only[AI];omega))only[AJ,↓AA,↓reduceIte,seval,f0,f1,f12,f13,W7.ix,Int.toNat_natCast]
   |(with_reducible (first|apply AD|apply AE))<;>(intro hc;(try simp only[AT]at hc);(try simp only[hc]);(try simp only[AR]at hc);try omega))
  refine ST.Hl B7 hN (by omega) fun h8 B8 s8=>?_
  repeat' (first
   |refine St.h ?_
   |simp(disch:=first|omega|(simp only[AI];omega))only[AJ,↓AA,↓reduceIte,seval,f0,f1,f12,f13]
   |(with_reducible (first|apply AD|apply AE))<;>(intro hc;(try simp only[AT]at hc);(try simp only[hc]);(try simp only[AR]at hc);try omega))
  subst hQ
  exact⟨i-1,true,_,rfl,Ix o hi (Nat.le_refl _) hea hlo fun k k1 k2=>by omega,sw0.trans (.one (by omega) (by omega) (by omega) (by omega)),B8,st.trans (s7.trans s8)⟩
 have g1i:=gx p0 i (by omega)
 have d1:((i:Int)<=(b:Int)-1)=True:=eq_true (by omega)
 repeat' (first
  |refine St.h ?_
  |simp(disch:=first|omega|(simp only[AI];omega))only[AJ,↓AA,↓reduceIte,seval,f0,f1,f4,f12,f13,d1,g1a,g1i,hea,W1.ix,W1.la,Int.toNat_natCast]
  |(with_reducible (first|apply AD|apply AE))<;>(intro hc;(try simp only[AT]at hc);(try simp only[hc]);(try simp only[AR]at hc);try omega))
 refine CL.stay (Bz (a:=L.getD (p0 i) default) (b:=L.getD e default) hfg) fun g2 s2=>?_
 have rb2:=rb.grow s2
 have st2:=st.trans (Bu s2)
 cases hk:Cr L (p0 i) e with
 |true=>
  have d2:=EL hk
  repeat' (first
   |refine St.h ?_
   |simp(disch:=first|omega|(simp only[AI];omega))only[AJ,↓AA,↓reduceIte,seval,f0,f1,f4,f12,f13,d2]
   |(with_reducible (first|apply AD|apply AE))<;>(intro hc;(try simp only[AT]at hc);(try simp only[hc]);(try simp only[AR]at hc);try omega))
  refine Ai hI1 (b-(i+1)) (by omega) ⟨i+1,rfl,by omega,by omega,by simp(disch:=first|omega|(simp only[AI];omega))only[AJ,↓AA,↓reduceIte,seval,f0],by simp(disch:=first|omega|(simp only[AI];omega))only[AJ,↓AA,↓reduceIte,seval,f1],by simp(disch:=first|omega|(simp only[AI];omega))only[AJ,↓AA,↓reduceIte,seval,f4],by simp(disch:=first|omega|(simp only[AI];omega))only[AJ,↓AA,↓reduceIte,seval,f12];rfl,by simp(disch:=first|omega|(simp only[AI];omega))only[AJ,↓AA,↓reduceIte,seval,f13],fun k k1 k2=>?_,rb2,st2⟩
  by_cases ek:k=i
  ·rw[ek];exact hk
  ·exact hlo k k1 (by omega)
 |false=>
 have d2:=EK hk
 repeat' (first
  |refine St.h ?_
  |simp(disch:=first|omega|(simp only[AI];omega))only[AJ,↓AA,↓reduceIte,seval,f0,f1,f4,f12,f13,d2]
  |(with_reducible (first|apply AD|apply AE))<;>(intro hc;(try simp only[AT]at hc);(try simp only[hc]);(try simp only[AR]at hc);try omega))
 --from above
 refine Ok.lp (fun m t g=>∃ (j:Nat),m=j-i/\i<=j/\j<=b/\get 0 t=v/\get 1 t=.i .i64 (a:Int)/\get 4 t=.f 64 []/\get 12 t=.i .i64 (i:Int)/\get 13 t=.i .i64 ((j:Int)-1)/\(∀ k,j<=k->k<b->Cr L (p0 k) e=false)/\Rt g v (By L p0 N)/\AW (Af v) h g) (b-i) ?_ ?_
 ·simp(disch:=first|omega|(simp only[AI];omega))only[AJ,↓AA,↓reduceIte,seval,f0,f1,f4,f12,f13]
  refine⟨b,rfl,by omega,by omega,?_⟩
  refine⟨?_,?_,?_,?_,?_,fun k k1 k2=>by omega,rb2,st2⟩
  all_goals first|trivial|rfl
 rintro I3 hI3 m3 t3 g3 ⟨j,rfl,hij,hjb,e0,e1,e4,e12,e13,hhi,rb3,st3⟩
 have hf3:=st3.fl hf
 have W3:=rb3.Dr
 by_cases hl2:i<j
 case neg=>
  obtain rfl:j=i:=by omega
  have d3:((j:Int)<=(j:Int)-1)=False:=eq_false (by omega)
  have d4:((j:Int)-1<(j:Int))=True:=eq_true (by omega)
  have ei:(j:Int)-1=((j-1:Nat):Int):=by omega
  rw[ei]at e13 d3 d4
  have gj:=gx p0 (j-1) (by omega)
  repeat' (first
   |refine St.h ?_
   |simp(disch:=first|omega|(simp only[AI];omega))only[AJ,↓AA,↓reduceIte,seval,e0,e1,e4,e12,e13,d3,d4,g1a,gj,W3.ix,W3.la,Int.toNat_natCast]
   |(with_reducible (first|apply AD|apply AE))<;>(intro hc;(try simp only[AT]at hc);(try simp only[hc]);(try simp only[AR]at hc);try omega))
  refine ST.NV rb3 hN (by omega) fun h7 B7 s7=>?_
  have W7:=B7.Dr
  repeat' (first
   |refine St.h ?_
   |simp(disch:=first|omega|(simp only[AI];omega))only[AJ,↓AA,↓reduceIte,seval,e0,e1,e12,e13,W7.ix,Int.toNat_natCast]
   |(with_reducible (first|apply AD|apply AE))<;>(intro hc;(try simp only[AT]at hc);(try simp only[hc]);(try simp only[AR]at hc);try omega))
  refine ST.Hl B7 hN (by omega) fun h8 B8 s8=>?_
  repeat' (first
   |refine St.h ?_
   |simp(disch:=first|omega|(simp only[AI];omega))only[AJ,↓AA,↓reduceIte,seval,e0,e1,e12,e13]
   |(with_reducible (first|apply AD|apply AE))<;>(intro hc;(try simp only[AT]at hc);(try simp only[hc]);(try simp only[AR]at hc);try omega))
  subst hQ
  exact⟨j-1,true,_,rfl,Ix o hi (by omega) hea hlo hhi,sw0.trans (.one (by omega) (by omega) (by omega) (by omega)),B8,st3.trans (s7.trans s8)⟩
 obtain⟨u,rfl⟩:∃ u,j=u+1:=⟨j-1,by omega⟩
 have eu:((u+1:Nat):Int)-1=(u:Int):=by omega
 rw[eu]at e13
 have g3u:=gx p0 u (by omega)
 have d3:((i:Int)<=(u:Int))=True:=eq_true (by omega)
 repeat' (first
  |refine St.h ?_
  |simp(disch:=first|omega|(simp only[AI];omega))only[AJ,↓AA,↓reduceIte,seval,e0,e1,e4,e12,e13,d3,g1a,g3u,hea,W3.ix,W3.la,Int.toNat_natCast]
  |(with_reducible (first|apply AD|apply AE))<;>(intro hc;(try simp only[AT]at hc);(try simp only[hc]);(try simp only[AR]at hc);try omega))
 refine CL.stay (Bz (a:=L.getD (p0 u) default) (b:=L.getD e default) hf3) fun g4 s4=>?_
 have rb4:=rb3.grow s4
 have st4:=st3.trans (Bu s4)
 have W4:=rb4.Dr
 cases hk2:Cr L (p0 u) e with
 |false=>
  have d4:=EK hk2
  repeat' (first
   |refine St.h ?_
   |simp(disch:=first|omega|(simp only[AI];omega))only[AJ,↓AA,↓reduceIte,seval,e0,e1,e4,e12,e13,d4]
   |(with_reducible (first|apply AD|apply AE))<;>(intro hc;(try simp only[AT]at hc);(try simp only[hc]);(try simp only[AR]at hc);try omega))
  refine Ai hI3 (u-i) (by omega) ⟨u,rfl,by omega,by omega,by simp(disch:=first|omega|(simp only[AI];omega))only[AJ,↓AA,↓reduceIte,seval,e0],by simp(disch:=first|omega|(simp only[AI];omega))only[AJ,↓AA,↓reduceIte,seval,e1],by simp(disch:=first|omega|(simp only[AI];omega))only[AJ,↓AA,↓reduceIte,seval,e4],by simp(disch:=first|omega|(simp only[AI];omega))only[AJ,↓AA,↓reduceIte,seval,e12],by simp(disch:=first|omega|(simp only[AI];omega))only[AJ,↓AA,↓reduceIte,seval,e13],fun k k1 k2=>?_,rb4,st4⟩
  by_cases ek:k=u
  ·rw[ek];exact hk2
  ·exact hhi k (by omega) k2
 |true=>
 have d4:=EL hk2
 have hne:u≠i:=fun e=>by rw[e,hk]at hk2;cases hk2
 have d5:((u:Int)<(i:Int))=False:=eq_false (by omega)
 repeat' (first
  |refine St.h ?_
  |simp(disch:=first|omega|(simp only[AI];omega))only[AJ,↓AA,↓reduceIte,seval,e0,e1,e4,e12,e13,d4,d5,g1i,g3u,W4.ix,W4.la,Int.toNat_natCast]
  |(with_reducible (first|apply AD|apply AE))<;>(intro hc;(try simp only[AT]at hc);(try simp only[hc]);(try simp only[AR]at hc);try omega))
 refine ST.NV rb4 hN (by omega) fun g5 B5 s5=>?_
 have W5:=B5.Dr
 repeat' (first
  |refine St.h ?_
  |simp(disch:=first|omega|(simp only[AI];omega))only[AJ,↓AA,↓reduceIte,seval,e0,e1,e4,e12,e13,W5.ix,Int.toNat_natCast]
  |(with_reducible (first|apply AD|apply AE))<;>(intro hc;(try simp only[AT]at hc);(try simp only[hc]);(try simp only[AR]at hc);try omega))
 refine ST.Hl B5 hN (by omega) fun g6 B6 s6=>?_
 have st7:=st4.trans (s5.trans s6)
 repeat' (first
  |refine St.h ?_
  |simp(disch:=first|omega|(simp only[AI];omega))only[AJ,↓AA,↓reduceIte,seval,e0,e1,e4,e12,e13]
  |(with_reducible (first|apply AD|apply AE))<;>(intro hc;(try simp only[AT]at hc);(try simp only[hc]);(try simp only[AR]at hc);try omega))
 --both ends close in
 refine Ok.lp (fun m t g=>∃ (i j:Nat) (q:Nat->Nat),m=j-i/\a+1<=i/\i<=j/\j<=b/\get 0 t=v/\get 1 t=.i .i64 (a:Int)/\get 4 t=.f 64 []/\get 12 t=.i .i64 (i:Int)/\get 13 t=.i .i64 ((j:Int)-1)/\q a=e/\(∀ k,a+1<=k->k<i->Cr L (q k) e=true)/\(∀ k,j<=k->k<b->Cr L (q k) e=false)/\D3 a b p q/\Rt g v (By L q N)/\AW (Af v) h g) (u-(i+1)) ?_ ?_
 ·simp(disch:=first|omega|(simp only[AI];omega))only[AJ,↓AA,↓reduceIte,seval,e0,e1,e4,e12,e13]
  refine⟨i+1,u,He p0 i u,rfl,by omega,by omega,by omega,?_⟩
  refine⟨?_,?_,?_,?_,?_,by rw[Ej (by omega) (by omega)];exact hea,fun k k1 k2=>?_,fun k k1 k2=>?_,sw0.trans (.one (by omega) (by omega) (by omega) (by omega)),B6,st7⟩
  rotate_right
  ·by_cases ek:k=u
   ·rw[ek,PR];exact hk
   ·rw[Ej (by omega) ek];exact hhi k (by omega) k2
  rotate_right
  ·by_cases ek:k=i
   ·rw[ek,Jt];exact hk2
   ·rw[Ej ek (by omega)];exact hlo k k1 (by omega)
  all_goals first|trivial|rfl
 clear hlo hhi hk hk2 g1a g1i g3u W1 W3 W4 W5 rb rb2 rb3 rb4 B5 B6 hI1 hI3 f0 f1 f4 f12 f13 e0 e1 e4 e12 e13
 rintro I hI m t g ⟨i,j,q,rfl,hi,hij,hj,f0,f1,f4,f12,f13,hqa,hlo,hhi,sw,rb,st⟩
 have g1a:=gx q a (by omega)
 have lq:=ln q
 repeat' (first
  |refine St.h ?_
  |simp(disch:=first|omega|(simp only[AI];omega))only[AJ,↓AA,↓reduceIte,seval,f0,f1,f4,f12,f13]
  |(with_reducible (first|apply AD|apply AE))<;>(intro hc;(try simp only[AT]at hc);(try simp only[hc]);(try simp only[AR]at hc);try omega))
 refine Ok.lp (fun m t g=>∃ (i':Nat),m=j-i'/\i<=i'/\i'<=j/\get 0 t=v/\get 1 t=.i .i64 (a:Int)/\get 4 t=.f 64 []/\get 12 t=.i .i64 (i':Int)/\get 13 t=.i .i64 ((j:Int)-1)/\(∀ k,a+1<=k->k<i'->Cr L (q k) e=true)/\Rt g v (By L q N)/\AW (Af v) h g) (j-i) ?_ ?_
 ·simp(disch:=first|omega|(simp only[AI];omega))only[AJ,↓AA,↓reduceIte,seval,f0,f1,f4,f12,f13]
  refine⟨i,rfl,by omega,by omega,?_⟩
  refine⟨?_,?_,?_,?_,?_,hlo,rb,st⟩
  all_goals first|trivial|rfl
 rintro I1 hI1 m1 t1 g1 ⟨i',rfl,hi',hij',f0,f1,f4,f12,f13,hlo',rb,st⟩
 have hfg:=st.fl hf
 have W1:=rb.Dr
 by_cases hl:i'<j
 case neg=>
  obtain rfl:i'=j:=by omega
  have d1:((i':Int)<=(i':Int)-1)=False:=eq_false (by omega)
  repeat' (first
   |refine St.h ?_
   |simp(disch:=first|omega|(simp only[AI];omega))only[AJ,↓AA,↓reduceIte,seval,f0,f1,f4,f12,f13,d1]
   |(with_reducible (first|apply AD|apply AE))<;>(intro hc;(try simp only[AT]at hc);(try simp only[hc]);(try simp only[AR]at hc);try omega))
  refine Ok.lp (fun m t g=>m=0/\get 0 t=v/\get 1 t=.i .i64 (a:Int)/\get 12 t=.i .i64 (i':Int)/\get 13 t=.i .i64 ((i':Int)-1)/\Rt g v (By L q N)/\AW (Af v) h g) 0 ?_ ?_
  ·simp(disch:=first|omega|(simp only[AI];omega))only[AJ,↓AA,↓reduceIte,seval,f0,f1,f4,f12,f13]
   refine⟨?_,?_,?_,?_,?_,rb,st⟩
   all_goals first|trivial|rfl
  rintro I2 hI2 m2 t2 g2 ⟨rfl,f0,f1,f12,f13,rb,st⟩
  have d2:((i':Int)-1<(i':Int))=True:=eq_true (by omega)
  have ei:(i':Int)-1=((i'-1:Nat):Int):=by omega
  rw[ei]at f13 d1 d2
  have W2:=rb.Dr
  have gj:=gx q (i'-1) (by omega)
  repeat' (first
   |refine St.h ?_
   |simp(disch:=first|omega|(simp only[AI];omega))only[AJ,↓AA,↓reduceIte,seval,f0,f1,f12,f13,d1,d2,g1a,gj,W2.ix,W2.la,Int.toNat_natCast]
   |(with_reducible (first|apply AD|apply AE))<;>(intro hc;(try simp only[AT]at hc);(try simp only[hc]);(try simp only[AR]at hc);try omega))
  refine ST.NV rb hN (by omega) fun h7 B7 s7=>?_
  have W7:=B7.Dr
  repeat' (first
   |refine St.h ?_
   |simp(disch:=first|omega|(simp only[AI];omega))only[AJ,↓AA,↓reduceIte,seval,f0,f1,f12,f13,W7.ix,Int.toNat_natCast]
   |(with_reducible (first|apply AD|apply AE))<;>(intro hc;(try simp only[AT]at hc);(try simp only[hc]);(try simp only[AR]at hc);try omega))
  refine ST.Hl B7 hN (by omega) fun h8 B8 s8=>?_
  repeat' (first
   |refine St.h ?_
   |simp(disch:=first|omega|(simp only[AI];omega))only[AJ,↓AA,↓reduceIte,seval,f0,f1,f12,f13]
   |(with_reducible (first|apply AD|apply AE))<;>(intro hc;(try simp only[AT]at hc);(try simp only[hc]);(try simp only[AR]at hc);try omega))
  subst hQ
  exact⟨i'-1,false,_,rfl,Ix o (by omega) hj hqa hlo' hhi,sw.trans (.one (by omega) (by omega) (by omega) (by omega)),B8,st.trans (s7.trans s8)⟩
 have g1i:=gx q i' (by omega)
 have d1:((i':Int)<=(j:Int)-1)=True:=eq_true (by omega)
 repeat' (first
  |refine St.h ?_
  |simp(disch:=first|omega|(simp only[AI];omega))only[AJ,↓AA,↓reduceIte,seval,f0,f1,f4,f12,f13,d1,g1a,g1i,hqa,W1.ix,W1.la,Int.toNat_natCast]
  |(with_reducible (first|apply AD|apply AE))<;>(intro hc;(try simp only[AT]at hc);(try simp only[hc]);(try simp only[AR]at hc);try omega))
 refine CL.stay (Bz (a:=L.getD (q i') default) (b:=L.getD e default) hfg) fun g2 s2=>?_
 have rb2:=rb.grow s2
 have st2:=st.trans (Bu s2)
 cases hk:Cr L (q i') e with
 |true=>
  have d2:=EL hk
  repeat' (first
   |refine St.h ?_
   |simp(disch:=first|omega|(simp only[AI];omega))only[AJ,↓AA,↓reduceIte,seval,f0,f1,f4,f12,f13,d2]
   |(with_reducible (first|apply AD|apply AE))<;>(intro hc;(try simp only[AT]at hc);(try simp only[hc]);(try simp only[AR]at hc);try omega))
  refine Ai hI1 (j-(i'+1)) (by omega) ⟨i'+1,rfl,by omega,by omega,by simp(disch:=first|omega|(simp only[AI];omega))only[AJ,↓AA,↓reduceIte,seval,f0],by simp(disch:=first|omega|(simp only[AI];omega))only[AJ,↓AA,↓reduceIte,seval,f1],by simp(disch:=first|omega|(simp only[AI];omega))only[AJ,↓AA,↓reduceIte,seval,f4],by simp(disch:=first|omega|(simp only[AI];omega))only[AJ,↓AA,↓reduceIte,seval,f12];rfl,by simp(disch:=first|omega|(simp only[AI];omega))only[AJ,↓AA,↓reduceIte,seval,f13],fun k k1 k2=>?_,rb2,st2⟩
  by_cases ek:k=i'
  ·rw[ek];exact hk
  ·exact hlo' k k1 (by omega)
 |false=>
 have d2:=EK hk
 repeat' (first
  |refine St.h ?_
  |simp(disch:=first|omega|(simp only[AI];omega))only[AJ,↓AA,↓reduceIte,seval,f0,f1,f4,f12,f13,d2]
  |(with_reducible (first|apply AD|apply AE))<;>(intro hc;(try simp only[AT]at hc);(try simp only[hc]);(try simp only[AR]at hc);try omega))
 refine Ok.lp (fun m t g=>∃ (j':Nat),m=j'-i'/\i'<=j'/\j'<=j/\get 0 t=v/\get 1 t=.i .i64 (a:Int)/\get 4 t=.f 64 []/\get 12 t=.i .i64 (i':Int)/\get 13 t=.i .i64 ((j':Int)-1)/\(∀ k,j'<=k->k<b->Cr L (q k) e=false)/\Rt g v (By L q N)/\AW (Af v) h g) (j-i') ?_ ?_
 ·simp(disch:=first|omega|(simp only[AI];omega))only[AJ,↓AA,↓reduceIte,seval,f0,f1,f4,f12,f13]
  refine⟨j,rfl,by omega,by omega,?_⟩
  refine⟨?_,?_,?_,?_,?_,hhi,rb2,st2⟩
  all_goals first|trivial|rfl
 rintro I3 hI3 m3 t3 g3 ⟨j',rfl,hj1,hj2,e0,e1,e4,e12,e13,hhi',rb3,st3⟩
 have hf3:=st3.fl hf
 have W3:=rb3.Dr
 by_cases hl2:i'<j'
 case neg=>
  obtain rfl:j'=i':=by omega
  have d3:((j':Int)<=(j':Int)-1)=False:=eq_false (by omega)
  have d4:((j':Int)-1<(j':Int))=True:=eq_true (by omega)
  have ei:(j':Int)-1=((j'-1:Nat):Int):=by omega
  rw[ei]at e13 d3 d4
  have gj:=gx q (j'-1) (by omega)
  repeat' (first
   |refine St.h ?_
   |simp(disch:=first|omega|(simp only[AI];omega))only[AJ,↓AA,↓reduceIte,seval,e0,e1,e4,e12,e13,d3,d4,g1a,gj,W3.ix,W3.la,Int.toNat_natCast]
   |(with_reducible (first|apply AD|apply AE))<;>(intro hc;(try simp only[AT]at hc);(try simp only[hc]);(try simp only[AR]at hc);try omega))
  refine ST.NV rb3 hN (by omega) fun h7 B7 s7=>?_
  have W7:=B7.Dr
  repeat' (first
   |refine St.h ?_
   |simp(disch:=first|omega|(simp only[AI];omega))only[AJ,↓AA,↓reduceIte,seval,e0,e1,e12,e13,W7.ix,Int.toNat_natCast]
   |(with_reducible (first|apply AD|apply AE))<;>(intro hc;(try simp only[AT]at hc);(try simp only[hc]);(try simp only[AR]at hc);try omega))
  refine ST.Hl B7 hN (by omega) fun h8 B8 s8=>?_
  repeat' (first
   |refine St.h ?_
   |simp(disch:=first|omega|(simp only[AI];omega))only[AJ,↓AA,↓reduceIte,seval,e0,e1,e12,e13]
   |(with_reducible (first|apply AD|apply AE))<;>(intro hc;(try simp only[AT]at hc);(try simp only[hc]);(try simp only[AR]at hc);try omega))
  subst hQ
  exact⟨j'-1,false,_,rfl,Ix o (by omega) (by omega) hqa hlo' hhi',sw.trans (.one (by omega) (by omega) (by omega) (by omega)),B8,st3.trans (s7.trans s8)⟩
 obtain⟨u,rfl⟩:∃ u,j'=u+1:=⟨j'-1,by omega⟩
 have eu:((u+1:Nat):Int)-1=(u:Int):=by omega
 rw[eu]at e13
 have g3u:=gx q u (by omega)
 have d3:((i':Int)<=(u:Int))=True:=eq_true (by omega)
 repeat' (first
  |refine St.h ?_
  |simp(disch:=first|omega|(simp only[AI];omega))only[AJ,↓AA,↓reduceIte,seval,e0,e1,e4,e12,e13,d3,g1a,g3u,hqa,W3.ix,W3.la,Int.toNat_natCast]
  |(with_reducible (first|apply AD|apply AE))<;>(intro hc;(try simp only[AT]at hc);(try simp only[hc]);(try simp only[AR]at hc);try omega))
 refine CL.stay (Bz (a:=L.getD (q u) default) (b:=L.getD e default) hf3) fun g4 s4=>?_
 have rb4:=rb3.grow s4
 have st4:=st3.trans (Bu s4)
 have W4:=rb4.Dr
 cases hk2:Cr L (q u) e with
 |false=>
  have d4:=EK hk2
  repeat' (first
   |refine St.h ?_
   |simp(disch:=first|omega|(simp only[AI];omega))only[AJ,↓AA,↓reduceIte,seval,e0,e1,e4,e12,e13,d4]
   |(with_reducible (first|apply AD|apply AE))<;>(intro hc;(try simp only[AT]at hc);(try simp only[hc]);(try simp only[AR]at hc);try omega))
  refine Ai hI3 (u-i') (by omega) ⟨u,rfl,by omega,by omega,by simp(disch:=first|omega|(simp only[AI];omega))only[AJ,↓AA,↓reduceIte,seval,e0],by simp(disch:=first|omega|(simp only[AI];omega))only[AJ,↓AA,↓reduceIte,seval,e1],by simp(disch:=first|omega|(simp only[AI];omega))only[AJ,↓AA,↓reduceIte,seval,e4],by simp(disch:=first|omega|(simp only[AI];omega))only[AJ,↓AA,↓reduceIte,seval,e12],by simp(disch:=first|omega|(simp only[AI];omega))only[AJ,↓AA,↓reduceIte,seval,e13],fun k k1 k2=>?_,rb4,st4⟩
  by_cases ek:k=u
  ·rw[ek];exact hk2
  ·exact hhi' k (by omega) k2
 |true=>
  have d4:=EL hk2
  have hne:u≠i':=fun e=>by rw[e,hk]at hk2;cases hk2
  have d5:((u:Int)<(i':Int))=False:=eq_false (by omega)
  repeat' (first
   |refine St.h ?_
   |simp(disch:=first|omega|(simp only[AI];omega))only[AJ,↓AA,↓reduceIte,seval,e0,e1,e4,e12,e13,d4,d5,g1i,g3u,W4.ix,W4.la,Int.toNat_natCast]
   |(with_reducible (first|apply AD|apply AE))<;>(intro hc;(try simp only[AT]at hc);(try simp only[hc]);(try simp only[AR]at hc);try omega))
  refine ST.NV rb4 hN (by omega) fun g5 B5 s5=>?_
  have W5:=B5.Dr
  repeat' (first
   |refine St.h ?_
   |simp(disch:=first|omega|(simp only[AI];omega))only[AJ,↓AA,↓reduceIte,seval,e0,e1,e4,e12,e13,W5.ix,Int.toNat_natCast]
   |(with_reducible (first|apply AD|apply AE))<;>(intro hc;(try simp only[AT]at hc);(try simp only[hc]);(try simp only[AR]at hc);try omega))
  refine ST.Hl B5 hN (by omega) fun g6 B6 s6=>?_
  repeat' (first
   |refine St.h ?_
   |simp(disch:=first|omega|(simp only[AI];omega))only[AJ,↓AA,↓reduceIte,seval,e0,e1,e4,e12,e13]
   |(with_reducible (first|apply AD|apply AE))<;>(intro hc;(try simp only[AT]at hc);(try simp only[hc]);(try simp only[AR]at hc);try omega))
  refine Ai hI (u-(i'+1)) (by omega) ⟨i'+1,u,He q i' u,rfl,by omega,by omega,by omega,by simp(disch:=first|omega|(simp only[AI];omega))only[AJ,↓AA,↓reduceIte,seval,e0],by simp(disch:=first|omega|(simp only[AI];omega))only[AJ,↓AA,↓reduceIte,seval,e1],by simp(disch:=first|omega|(simp only[AI];omega))only[AJ,↓AA,↓reduceIte,seval,e4],by simp(disch:=first|omega|(simp only[AI];omega))only[AJ,↓AA,↓reduceIte,seval,e12];rfl,by simp(disch:=first|omega|(simp only[AI];omega))only[AJ,↓AA,↓reduceIte,seval,e13],by rw[Ej (by omega) (by omega)];exact hqa,fun k k1 k2=>?_,fun k k1 k2=>?_,sw.trans (.one (by omega) (by omega) (by omega) (by omega)),B6,st4.trans (s5.trans s6)⟩
  ·by_cases ek:k=i'
   ·rw[ek,Jt];exact hk2
   ·rw[Ej ek (by omega)];exact hlo' k k1 (by omega)
  ·by_cases ek:k=u
   ·rw[ek,PR];exact hk
   ·rw[Ej (by omega) ek];exact hhi' k (by omega) k2
end
end Go.Proofs.Ytobfgempjekjpaa
set_option maxRecDepth 100000
set_option maxHeartbeats 8000000
namespace Go.Proofs.Ytobfgempjekjpaa
open Go Go.Ev
section
variable {L:List Bq} {N:Nat}
theorem YJ {R:Nat->Nat->Bool} {q:Nat->Nat} {a i:Nat} (o:Ord R) (h:Hf R q a i) (hi:a+1<=i) (hk:R (q i) (q (i-1))=false):Hf R q a (i+1):=fun x y h1 h2 h3=>by
 by_cases e:y=i
 ·subst e
  by_cases e2:x=y-1
  ·rw[e2];exact hk
  ·exact o.nt hk (h x (y-1) h1 (by omega) (by omega))
 ·exact h x y h1 h2 (by omega)
theorem TP {h:H} {v:V} {p:Nat->Nat} {a b:Nat} (rb0:Rt h v (By L p N)) (h1:a<b) (h2:b<=N) (hN:N<=1000) (hlow:P7 (Cr L) p a b) (hf:B.val h.floor<=B.val h.next):A3 Try.prog 86 [v,.i .i64 (a:Int),.i .i64 (b:Int),.f 64 []] h fun r h'=>
 ∃ (z:Bool) (q:Nat->Nat),r=.b z/\(z=true->Hf (Cr L) q a b)/\D3 a b p q/\Rt h' v (By L q N)/\AW (Af v) h h':=by
 have ln:∀ q:Nat->Nat,(By L q N).length=N:=fun q=>Ca
 have gx:∀ (q:Nat->Nat) j,j<N->(By L q N).getD j default=L.getD (q j) default:=fun q j hj=>CJ hj
 have o:=Dt L
 refine Aw c86 (by intro hb;cases hb) (by simp) (by simp) fun Q hQ=>?_
 simp only[Ah,Nat.reduceAdd]
 --the greater one goes up
 have right:∀ (K:X->F->H->Prop) (t:F) (g:H) (i n:Nat) (q:Nat->Nat),a+1<=i->i<b->get 0 t=v->get 1 t=.i .i64 (a:Int)->get 2 t=.i .i64 (b:Int)->get 3 t=.f 64 []->get 9 t=.i .i64 (i:Int)->get 10 t=.i .i64 (n:Int)->Hf (Cr L) q a i->D3 a b p q->Rt g v (By L q N)->AW (Af v) h g->
  (∀ t g (q:Nat->Nat),get 0 t=v->get 1 t=.i .i64 (a:Int)->get 2 t=.i .i64 (b:Int)->get 3 t=.f 64 []->get 9 t=.i .i64 (i:Int)->get 10 t=.i .i64 (n:Int)->Hf (Cr L) q a i->D3 a b p q->Rt g v (By L q N)->AW (Af v) h g->K .normal t g)->Ok Try.prog 141 UJ t g K:=fun K t g i n q hi hib f0 f1 f2 f3 f9 f10 hs sw rb st kk=>by
  by_cases hd:i+2<=b
  case neg=>
   have d1:((2:Int)<=(b:Int)-(i:Int))=False:=eq_false (by omega)
   repeat' (first
    |refine St.h ?_
    |simp(disch:=first|omega|(simp only[AI];omega))only[AJ,↓AA,↓reduceIte,seval,f0,f1,f2,f3,f9,f10,d1]
    |(with_reducible (first|apply AD|apply AE))<;>(intro hc;(try simp only[AT]at hc);(try simp only[hc]);(try simp only[AR]at hc);try omega))
   exact kk _ g q (by simp(disch:=first|omega|(simp only[AI];omega))only[AJ,↓AA,↓reduceIte,seval,f0]) (by simp(disch:=first|omega|(simp only[AI];omega))only[AJ,↓AA,↓reduceIte,seval,f1]) (by simp(disch:=first|omega|(simp only[AI];omega))only[AJ,↓AA,↓reduceIte,seval,f2]) (by simp(disch:=first|omega|(simp only[AI];omega))only[AJ,↓AA,↓reduceIte,seval,f3]) (by simp(disch:=first|omega|(simp only[AI];omega))only[AJ,↓AA,↓reduceIte,seval,f9]) (by simp(disch:=first|omega|(simp only[AI];omega))only[AJ,↓AA,↓reduceIte,seval,f10]) hs sw rb st
  have d1:((2:Int)<=(b:Int)-(i:Int))=True:=eq_true (by omega)
  repeat' (first
   |refine St.h ?_
   |simp(disch:=first|omega|(simp only[AI];omega))only[AJ,↓AA,↓reduceIte,seval,f0,f1,f2,f3,f9,f10,d1]
   |(with_reducible (first|apply AD|apply AE))<;>(intro hc;(try simp only[AT]at hc);(try simp only[hc]);(try simp only[AR]at hc);try omega))
  refine Ok.lp (fun m t g=>∃ (j:Nat) (q:Nat->Nat),m=b-j/\i+1<=j/\j<=b/\get 0 t=v/\get 1 t=.i .i64 (a:Int)/\get 2 t=.i .i64 (b:Int)/\get 3 t=.f 64 []/\get 9 t=.i .i64 (i:Int)/\get 10 t=.i .i64 (n:Int)/\get 12 t=.i .i64 (j:Int)/\Hf (Cr L) q a i/\D3 a b p q/\Rt g v (By L q N)/\AW (Af v) h g) (b-(i+1)) ?_ ?_
  ·simp(disch:=first|omega|(simp only[AI];omega))only[AJ,↓AA,↓reduceIte,seval,f0,f1,f2,f3,f9,f10]
   refine⟨i+1,q,rfl,by omega,by omega,?_⟩
   refine⟨?_,?_,?_,?_,?_,?_,?_,hs,sw,rb,st⟩
   all_goals first|trivial|rfl
  rintro I hI m t g ⟨j,q,rfl,hj,hjb,f0,f1,f2,f3,f9,f10,f12,hs,sw,rb,st⟩
  have hfg:=st.fl hf
  have W1:=rb.Dr
  have l1:=ln q
  by_cases hl:j<b
  case neg=>
   have d2:((j:Int)<(b:Int))=False:=eq_false (by omega)
   repeat' (first
    |refine St.h ?_
    |simp(disch:=first|omega|(simp only[AI];omega))only[AJ,↓AA,↓reduceIte,seval,f0,f1,f2,f3,f9,f10,f12,d2]
    |(with_reducible (first|apply AD|apply AE))<;>(intro hc;(try simp only[AT]at hc);(try simp only[hc]);(try simp only[AR]at hc);try omega))
   exact kk _ g q (by simp(disch:=first|omega|(simp only[AI];omega))only[AJ,↓AA,↓reduceIte,seval,f0]) (by simp(disch:=first|omega|(simp only[AI];omega))only[AJ,↓AA,↓reduceIte,seval,f1]) (by simp(disch:=first|omega|(simp only[AI];omega))only[AJ,↓AA,↓reduceIte,seval,f2]) (by simp(disch:=first|omega|(simp only[AI];omega))only[AJ,↓AA,↓reduceIte,seval,f3]) (by simp(disch:=first|omega|(simp only[AI];omega))only[AJ,↓AA,↓reduceIte,seval,f9]) (by simp(disch:=first|omega|(simp only[AI];omega))only[AJ,↓AA,↓reduceIte,seval,f10]) hs sw rb st
  have d2:((j:Int)<(b:Int))=True:=eq_true (by omega)
  have ej:((j:Int)-1).toNat=j-1:=by omega
  have ga:=gx q j (by omega)
  have gb:=gx q (j-1) (by omega)
  repeat' (first
   |refine St.h ?_
   |simp(disch:=first|omega|(simp only[AI];omega))only[AJ,↓AA,↓reduceIte,seval,f0,f1,f2,f3,f9,f10,f12,d2,ej,ga,gb,W1.ix,W1.la,Int.toNat_natCast]
   |(with_reducible (first|apply AD|apply AE))<;>(intro hc;(try simp only[AT]at hc);(try simp only[hc]);(try simp only[AR]at hc);try omega))
  refine CL.stay (Bz (a:=L.getD (q j) default) (b:=L.getD (q (j-1)) default) hfg) fun g2 s2=>?_
  have rb2:=rb.grow s2
  have st2:=st.trans (Bu s2)
  have W2:=rb2.Dr
  cases hk:Cr L (q j) (q (j-1))with
  |false=>
   have d3:=EK hk
   repeat' (first
    |refine St.h ?_
    |simp(disch:=first|omega|(simp only[AI];omega))only[AJ,↓AA,↓reduceIte,seval,f0,f1,f2,f3,f9,f10,f12,d3]
    |(with_reducible (first|apply AD|apply AE))<;>(intro hc;(try simp only[AT]at hc);(try simp only[hc]);(try simp only[AR]at hc);try omega))
   exact kk _ _ q (by simp(disch:=first|omega|(simp only[AI];omega))only[AJ,↓AA,↓reduceIte,seval,f0]) (by simp(disch:=first|omega|(simp only[AI];omega))only[AJ,↓AA,↓reduceIte,seval,f1]) (by simp(disch:=first|omega|(simp only[AI];omega))only[AJ,↓AA,↓reduceIte,seval,f2]) (by simp(disch:=first|omega|(simp only[AI];omega))only[AJ,↓AA,↓reduceIte,seval,f3]) (by simp(disch:=first|omega|(simp only[AI];omega))only[AJ,↓AA,↓reduceIte,seval,f9]) (by simp(disch:=first|omega|(simp only[AI];omega))only[AJ,↓AA,↓reduceIte,seval,f10]) hs sw rb2 st2
  |true=>
   have d3:=EL hk
   repeat' (first
    |refine St.h ?_
    |simp(disch:=first|omega|(simp only[AI];omega))only[AJ,↓AA,↓reduceIte,seval,f0,f1,f2,f3,f9,f10,f12,d3,ej,ga,gb,W2.ix,W2.la,Int.toNat_natCast]
    |(with_reducible (first|apply AD|apply AE))<;>(intro hc;(try simp only[AT]at hc);(try simp only[hc]);(try simp only[AR]at hc);try omega))
   refine ST.NV rb2 hN (by omega) fun h3 B3 s3=>?_
   have W3:=B3.Dr
   repeat' (first
    |refine St.h ?_
    |simp(disch:=first|omega|(simp only[AI];omega))only[AJ,↓AA,↓reduceIte,seval,f0,f1,f2,f3,f9,f10,f12,ej,W3.ix]
    |(with_reducible (first|apply AD|apply AE))<;>(intro hc;(try simp only[AT]at hc);(try simp only[hc]);(try simp only[AR]at hc);try omega))
   refine ST.Hl B3 hN (by omega) fun h4 B4 s4=>?_
   repeat' (first
    |refine St.h ?_
    |simp(disch:=first|omega|(simp only[AI];omega))only[AJ,↓AA,↓reduceIte,seval,f0,f1,f2,f3,f9,f10,f12]
    |(with_reducible (first|apply AD|apply AE))<;>(intro hc;(try simp only[AT]at hc);(try simp only[hc]);(try simp only[AR]at hc);try omega))
   refine Ai hI (b-(j+1)) (by omega) ⟨j+1,He q j (j-1),rfl,by omega,by omega,by simp(disch:=first|omega|(simp only[AI];omega))only[AJ,↓AA,↓reduceIte,seval,f0],by simp(disch:=first|omega|(simp only[AI];omega))only[AJ,↓AA,↓reduceIte,seval,f1],by simp(disch:=first|omega|(simp only[AI];omega))only[AJ,↓AA,↓reduceIte,seval,f2],by simp(disch:=first|omega|(simp only[AI];omega))only[AJ,↓AA,↓reduceIte,seval,f3],by simp(disch:=first|omega|(simp only[AI];omega))only[AJ,↓AA,↓reduceIte,seval,f9],by simp(disch:=first|omega|(simp only[AI];omega))only[AJ,↓AA,↓reduceIte,seval,f10],by simp(disch:=first|omega|(simp only[AI];omega))only[AJ,↓AA,↓reduceIte,seval,f12];rfl,NQ hs fun k k1 k2=>Ej (by omega) (by omega),sw.trans (.one (by omega) (by omega) (by omega) (by omega)),B4,st2.trans (s3.trans s4)⟩
 repeat' (first
  |refine St.h ?_
  |simp(disch:=first|omega|(simp only[AI];omega))only[AJ,↓AA,↓reduceIte,seval]
  |(with_reducible (first|apply AD|apply AE))<;>(intro hc;(try simp only[AT]at hc);(try simp only[hc]);(try simp only[AR]at hc);try omega))
 refine Ok.lp (fun m t g=>∃ (n i:Nat) (q:Nat->Nat),m=5-n/\n<=5/\a+1<=i/\i<=b/\get 0 t=v/\get 1 t=.i .i64 (a:Int)/\get 2 t=.i .i64 (b:Int)/\get 3 t=.f 64 []/\get 9 t=.i .i64 (i:Int)/\get 10 t=.i .i64 (n:Int)/\Hf (Cr L) q a i/\D3 a b p q/\Rt g v (By L q N)/\AW (Af v) h g) 5 ?_ ?_
 ·simp(disch:=first|omega|(simp only[AI];omega))only[AJ,↓AA,↓reduceIte,seval]
  refine⟨0,a+1,p,rfl,by omega,by omega,by omega,?_⟩
  refine⟨?_,?_,?_,?_,?_,?_,fun i j h1 h2 h3=>by omega,.refl _,rb0,⟨rfl,Nat.le_refl _,fun _ _ _=>rfl⟩⟩
  all_goals first|trivial|rfl
 rintro I0 hI0 m0 t0 g0 ⟨n,i0,q,rfl,hn,hi0,hib0,f0,f1,f2,f3,f9,f10,hs,sw,rb,st⟩
 by_cases hn5:n<5
 case neg=>
  have d1:((n:Int)<5)=False:=eq_false (by omega)
  repeat' (first
   |refine St.h ?_
   |simp(disch:=first|omega|(simp only[AI];omega))only[AJ,↓AA,↓reduceIte,seval,f0,f1,f2,f3,f9,f10,d1]
   |(with_reducible (first|apply AD|apply AE))<;>(intro hc;(try simp only[AT]at hc);(try simp only[hc]);(try simp only[AR]at hc);try omega))
  subst hQ
  exact⟨false,q,rfl,(fun e=>by cases e),sw,rb,st⟩
 have d1:((n:Int)<5)=True:=eq_true (by omega)
 repeat' (first
  |refine St.h ?_
  |simp(disch:=first|omega|(simp only[AI];omega))only[AJ,↓AA,↓reduceIte,seval,f0,f1,f2,f3,f9,f10,d1]
  |(with_reducible (first|apply AD|apply AE))<;>(intro hc;(try simp only[AT]at hc);(try simp only[hc]);(try simp only[AR]at hc);try omega))
 --as far as it is in order
 refine Ok.lp (fun m t g=>∃ (i:Nat),m=b-i/\a+1<=i/\i<=b/\get 0 t=v/\get 1 t=.i .i64 (a:Int)/\get 2 t=.i .i64 (b:Int)/\get 3 t=.f 64 []/\get 9 t=.i .i64 (i:Int)/\get 10 t=.i .i64 (n:Int)/\Hf (Cr L) q a i/\Rt g v (By L q N)/\AW (Af v) h g) (b-i0) ?_ ?_
 ·simp(disch:=first|omega|(simp only[AI];omega))only[AJ,↓AA,↓reduceIte,seval,f0,f1,f2,f3,f9,f10]
  refine⟨i0,rfl,by omega,by omega,?_⟩
  refine⟨?_,?_,?_,?_,?_,?_,hs,rb,st⟩
  all_goals first|trivial|rfl
 rintro I1 hI1 m1 t1 g1 ⟨i,rfl,hi,hib,f0,f1,f2,f3,f9,f10,hs,rb,st⟩
 have hfg:=st.fl hf
 have W1:=rb.Dr
 have l1:=ln q
 by_cases hl:i<b
 case neg=>
  obtain rfl:i=b:=by omega
  have d2:((i:Int)<(i:Int))=False:=eq_false (by omega)
  repeat' (first
   |refine St.h ?_
   |simp(disch:=first|omega|(simp only[AI];omega))only[AJ,↓AA,↓reduceIte,seval,f0,f1,f2,f3,f9,f10,d2]
   |(with_reducible (first|apply AD|apply AE))<;>(intro hc;(try simp only[AT]at hc);(try simp only[hc]);(try simp only[AR]at hc);try omega))
  subst hQ
  exact⟨true,q,rfl,fun _=>hs,sw,rb,st⟩
 have d2:((i:Int)<(b:Int))=True:=eq_true (by omega)
 have ei:((i:Int)-1).toNat=i-1:=by omega
 have ei2:(i:Int)-1=((i-1:Nat):Int):=by omega
 have ga:=gx q i (by omega)
 have gb:=gx q (i-1) (by omega)
 repeat' (first
  |refine St.h ?_
  |simp(disch:=first|omega|(simp only[AI];omega))only[AJ,↓AA,↓reduceIte,seval,f0,f1,f2,f3,f9,f10,d2,ei,ga,gb,W1.ix,W1.la,Int.toNat_natCast]
  |(with_reducible (first|apply AD|apply AE))<;>(intro hc;(try simp only[AT]at hc);(try simp only[hc]);(try simp only[AR]at hc);try omega))
 refine CL.stay (Bz (a:=L.getD (q i) default) (b:=L.getD (q (i-1)) default) hfg) fun g2 s2=>?_
 have rb2:=rb.grow s2
 have st2:=st.trans (Bu s2)
 have W2:=rb2.Dr
 cases hk:Cr L (q i) (q (i-1))with
 |false=>
  have d3:=EK hk
  repeat' (first
   |refine St.h ?_
   |simp(disch:=first|omega|(simp only[AI];omega))only[AJ,↓AA,↓reduceIte,seval,f0,f1,f2,f3,f9,f10,d3]
   |(with_reducible (first|apply AD|apply AE))<;>(intro hc;(try simp only[AT]at hc);(try simp only[hc]);(try simp only[AR]at hc);try omega))
  exact Ai hI1 (b-(i+1)) (by omega) ⟨i+1,rfl,by omega,by omega,by simp(disch:=first|omega|(simp only[AI];omega))only[AJ,↓AA,↓reduceIte,seval,f0],by simp(disch:=first|omega|(simp only[AI];omega))only[AJ,↓AA,↓reduceIte,seval,f1],by simp(disch:=first|omega|(simp only[AI];omega))only[AJ,↓AA,↓reduceIte,seval,f2],by simp(disch:=first|omega|(simp only[AI];omega))only[AJ,↓AA,↓reduceIte,seval,f3],by simp(disch:=first|omega|(simp only[AI];omega))only[AJ,↓AA,↓reduceIte,seval,f9];rfl,by simp(disch:=first|omega|(simp only[AI];omega))only[AJ,↓AA,↓reduceIte,seval,f10],YJ o hs hi hk,rb2,st2⟩
 |true=>
 have d3:=EL hk
 have d4:((i:Int)=(b:Int))=False:=eq_false (by omega)
 by_cases h50:50<=b-a
 case neg=>
  have d5:((b:Int)-(a:Int)<50)=True:=eq_true (by omega)
  repeat' (first
   |refine St.h ?_
   |simp(disch:=first|omega|(simp only[AI];omega))only[AJ,↓AA,↓reduceIte,seval,f0,f1,f2,f3,f9,f10,d3,d4,d5]
   |(with_reducible (first|apply AD|apply AE))<;>(intro hc;(try simp only[AT]at hc);(try simp only[hc]);(try simp only[AR]at hc);try omega))
  subst hQ
  exact⟨false,q,rfl,(fun e=>by cases e),sw,rb2,st2⟩
 have d5:((b:Int)-(a:Int)<50)=False:=eq_false (by omega)
 repeat' (first
  |refine St.h ?_
  |simp(disch:=first|omega|(simp only[AI];omega))only[AJ,↓AA,↓reduceIte,seval,f0,f1,f2,f3,f9,f10,d3,d4,d5,ei,ga,gb,W2.ix,W2.la,Int.toNat_natCast]
  |(with_reducible (first|apply AD|apply AE))<;>(intro hc;(try simp only[AT]at hc);(try simp only[hc]);(try simp only[AR]at hc);try omega))
 refine ST.NV rb2 hN (by omega) fun h3 B3 s3=>?_
 have W3:=B3.Dr
 repeat' (first
  |refine St.h ?_
  |simp(disch:=first|omega|(simp only[AI];omega))only[AJ,↓AA,↓reduceIte,seval,f0,f1,f2,f3,f9,f10,ei,W3.ix]
  |(with_reducible (first|apply AD|apply AE))<;>(intro hc;(try simp only[AT]at hc);(try simp only[hc]);(try simp only[AR]at hc);try omega))
 refine ST.Hl B3 hN (by omega) fun h4 B4 s4=>?_
 have st4:=st2.trans (s3.trans s4)
 have sw4:D3 a b p (He q i (i-1)):=sw.trans (.one (by omega) (by omega) (by omega) (by omega))
 have hs4:Hf (Cr L) (He q i (i-1)) a (i-1):=fun x y x1 x2 x3=>by
  rw[Ej (by omega) (by omega),Ej (by omega) (by omega)];exact hs x y x1 x2 (by omega)
 generalize hq4:He q i (i-1)=q4 at*
 have next:∀ t g (q:Nat->Nat),get 0 t=v->get 1 t=.i .i64 (a:Int)->get 2 t=.i .i64 (b:Int)->get 3 t=.f 64 []->get 9 t=.i .i64 (i:Int)->get 10 t=.i .i64 ((n+1:Nat):Int)->Hf (Cr L) q a i->D3 a b p q->Rt g v (By L q N)->AW (Af v) h g->ja I0 (5-n) t g:=fun t g q x0 x1 x2 x3 x9 x10 hs sw rb st=>
  Ai hI0 (5-(n+1)) (by omega) ⟨n+1,i,q,rfl,by omega,hi,hib,x0,x1,x2,x3,x9,x10,hs,sw,rb,st⟩
 by_cases hd:a+2<=i
 case neg=>
  have d6:((2:Int)<=(i:Int)-(a:Int))=False:=eq_false (by omega)
  repeat' (first
   |refine right _ _ _ i n q4 hi hl ?_ ?_ ?_ ?_ ?_ ?_ (fun x y x1 x2 x3=>by omega) sw4 B4 st4 (fun t g q x0 x1 x2 x3 x9 x10 hs sw rb st=>?_)
   |refine St.h ?_
   |simp(disch:=first|omega|(simp only[AI];omega))only[AJ,↓AA,↓reduceIte,seval,f0,f1,f2,f3,f9,f10,d6]
   |(with_reducible (first|apply AD|apply AE))<;>(intro hc;(try simp only[AT]at hc);(try simp only[hc]);(try simp only[AR]at hc);try omega))
  repeat' (first
   |refine St.h ?_
   |simp(disch:=first|omega|(simp only[AI];omega))only[AJ,↓AA,↓reduceIte,seval,x0,x1,x2,x3,x9,x10]
   |(with_reducible (first|apply AD|apply AE))<;>(intro hc;(try simp only[AT]at hc);(try simp only[hc]);(try simp only[AR]at hc);try omega))
  refine next _ _ q ?_ ?_ ?_ ?_ ?_ ?_ hs sw rb st
  all_goals first|(simp(disch:=first|omega|(simp only[AI];omega))only[AJ,↓AA,↓reduceIte,seval,x0];done)|(simp(disch:=first|omega|(simp only[AI];omega))only[AJ,↓AA,↓reduceIte,seval,x1];done)|(simp(disch:=first|omega|(simp only[AI];omega))only[AJ,↓AA,↓reduceIte,seval,x2];done)|(simp(disch:=first|omega|(simp only[AI];omega))only[AJ,↓AA,↓reduceIte,seval,x3];done)|(simp(disch:=first|omega|(simp only[AI];omega))only[AJ,↓AA,↓reduceIte,seval,x9];done)|(simp(disch:=first|omega|(simp only[AI];omega))only[AJ,↓AA,↓reduceIte,seval,x10];rfl)
 have d6:((2:Int)<=(i:Int)-(a:Int))=True:=eq_true (by omega)
 repeat' (first
  |refine St.h ?_
  |simp(disch:=first|omega|(simp only[AI];omega))only[AJ,↓AA,↓reduceIte,seval,f0,f1,f2,f3,f9,f10,d6,ei2]
  |(with_reducible (first|apply AD|apply AE))<;>(intro hc;(try simp only[AT]at hc);(try simp only[hc]);(try simp only[AR]at hc);try omega))
 --the lesser one goes down
 refine Ok.lp (fun m t g=>∃ (j:Nat) (q:Nat->Nat),m=j/\a<=j/\j<=i-1/\get 0 t=v/\get 1 t=.i .i64 (a:Int)/\get 2 t=.i .i64 (b:Int)/\get 3 t=.f 64 []/\get 9 t=.i .i64 (i:Int)/\get 10 t=.i .i64 (n:Int)/\get 11 t=.i .i64 (j:Int)/\RL (Cr L) q a (i-1) j/\D3 a b p q/\Rt g v (By L q N)/\AW (Af v) h g) (i-1) ?_ ?_
 ·simp(disch:=first|omega|(simp only[AI];omega))only[AJ,↓AA,↓reduceIte,seval,f0,f1,f2,f3,f9,f10,ei2]
  refine⟨i-1,q4,rfl,by omega,by omega,?_⟩
  refine⟨?_,?_,?_,?_,?_,?_,?_,Qh hs4,sw4,B4,st4⟩
  all_goals first|trivial|rfl
 clear W1 W2 W3 rb rb2 B3 B4 hs f0 f1 f2 f3 f9 f10 ga gb
 rintro I5 hI5 m5 t5 g5 ⟨j,q5,rfl,hj,hji,f0,f1,f2,f3,f9,f10,f11,hM,sw5,rb5,st5⟩
 have hf5:=st5.fl hf
 have W5:=rb5.Dr
 have l5:=ln q5
 by_cases h0:m5=0
 case pos=>
  subst h0
  have d7:((1:Int)<=((0:Nat):Int))=False:=eq_false (by omega)
  have hsd:Hf (Cr L) q5 a i:=by
   have:=KL o hM (Nat.zero_le _) (.inl (by omega)) hj
   rwa [show i-1+1=i by omega]at this
  repeat' (first
   |refine right _ _ _ i n q5 hi hl ?_ ?_ ?_ ?_ ?_ ?_ hsd sw5 rb5 st5 (fun t g q x0 x1 x2 x3 x9 x10 hs sw rb st=>?_)
   |refine St.h ?_
   |simp(disch:=first|omega|(simp only[AI];omega))only[AJ,↓AA,↓reduceIte,seval,f0,f1,f2,f3,f9,f10,f11,d7]
   |(with_reducible (first|apply AD|apply AE))<;>(intro hc;(try simp only[AT]at hc);(try simp only[hc]);(try simp only[AR]at hc);try omega))
  repeat' (first
   |refine St.h ?_
   |simp(disch:=first|omega|(simp only[AI];omega))only[AJ,↓AA,↓reduceIte,seval,x0,x1,x2,x3,x9,x10]
   |(with_reducible (first|apply AD|apply AE))<;>(intro hc;(try simp only[AT]at hc);(try simp only[hc]);(try simp only[AR]at hc);try omega))
  refine next _ _ q ?_ ?_ ?_ ?_ ?_ ?_ hs sw rb st
  all_goals first|(simp(disch:=first|omega|(simp only[AI];omega))only[AJ,↓AA,↓reduceIte,seval,x0];done)|(simp(disch:=first|omega|(simp only[AI];omega))only[AJ,↓AA,↓reduceIte,seval,x1];done)|(simp(disch:=first|omega|(simp only[AI];omega))only[AJ,↓AA,↓reduceIte,seval,x2];done)|(simp(disch:=first|omega|(simp only[AI];omega))only[AJ,↓AA,↓reduceIte,seval,x3];done)|(simp(disch:=first|omega|(simp only[AI];omega))only[AJ,↓AA,↓reduceIte,seval,x9];done)|(simp(disch:=first|omega|(simp only[AI];omega))only[AJ,↓AA,↓reduceIte,seval,x10];rfl)
 obtain⟨u,rfl⟩:∃ u,m5=u+1:=⟨m5-1,by omega⟩
 have d7:((1:Int)<=((u+1:Nat):Int))=True:=eq_true (by omega)
 have eu:(((u+1:Nat):Int)-1).toNat=u:=by omega
 have eu2:((u+1:Nat):Int)-1=(u:Int):=by omega
 have ga:=gx q5 (u+1) (by omega)
 have gb:=gx q5 u (by omega)
 repeat' (first
  |refine St.h ?_
  |simp(disch:=first|omega|(simp only[AI];omega))only[AJ,↓AA,↓reduceIte,seval,f0,f1,f2,f3,f9,f10,f11,d7,eu,ga,gb,W5.ix,W5.la,Int.toNat_natCast]
  |(with_reducible (first|apply AD|apply AE))<;>(intro hc;(try simp only[AT]at hc);(try simp only[hc]);(try simp only[AR]at hc);try omega))
 refine CL.stay (Bz (a:=L.getD (q5 (u+1)) default) (b:=L.getD (q5 u) default) hf5) fun g6 s6=>?_
 have rb6:=rb5.grow s6
 have st6:=st5.trans (Bu s6)
 have W6:=rb6.Dr
 cases hk5:Cr L (q5 (u+1)) (q5 u)with
 |false=>
  have d8:=EK hk5
  have hsd:Hf (Cr L) q5 a i:=by
   have:=KL o hM hji (.inr hk5) hj
   rwa [show i-1+1=i by omega]at this
  repeat' (first
   |refine right _ _ _ i n q5 hi hl ?_ ?_ ?_ ?_ ?_ ?_ hsd sw5 rb6 st6 (fun t g q x0 x1 x2 x3 x9 x10 hs sw rb st=>?_)
   |refine St.h ?_
   |simp(disch:=first|omega|(simp only[AI];omega))only[AJ,↓AA,↓reduceIte,seval,f0,f1,f2,f3,f9,f10,f11,d8]
   |(with_reducible (first|apply AD|apply AE))<;>(intro hc;(try simp only[AT]at hc);(try simp only[hc]);(try simp only[AR]at hc);try omega))
  repeat' (first
   |refine St.h ?_
   |simp(disch:=first|omega|(simp only[AI];omega))only[AJ,↓AA,↓reduceIte,seval,x0,x1,x2,x3,x9,x10]
   |(with_reducible (first|apply AD|apply AE))<;>(intro hc;(try simp only[AT]at hc);(try simp only[hc]);(try simp only[AR]at hc);try omega))
  refine next _ _ q ?_ ?_ ?_ ?_ ?_ ?_ hs sw rb st
  all_goals first|(simp(disch:=first|omega|(simp only[AI];omega))only[AJ,↓AA,↓reduceIte,seval,x0];done)|(simp(disch:=first|omega|(simp only[AI];omega))only[AJ,↓AA,↓reduceIte,seval,x1];done)|(simp(disch:=first|omega|(simp only[AI];omega))only[AJ,↓AA,↓reduceIte,seval,x2];done)|(simp(disch:=first|omega|(simp only[AI];omega))only[AJ,↓AA,↓reduceIte,seval,x3];done)|(simp(disch:=first|omega|(simp only[AI];omega))only[AJ,↓AA,↓reduceIte,seval,x9];done)|(simp(disch:=first|omega|(simp only[AI];omega))only[AJ,↓AA,↓reduceIte,seval,x10];rfl)
 |true=>
  have d8:=EL hk5
  have hau:a<=u:=Nat.le_of_not_lt fun hlt=>by
   have:=hlow.sw sw5 u (u+1) hlt hj (by omega)
   rw[hk5]at this;cases this
  repeat' (first
   |refine St.h ?_
   |simp(disch:=first|omega|(simp only[AI];omega))only[AJ,↓AA,↓reduceIte,seval,f0,f1,f2,f3,f9,f10,f11,d8,eu,ga,gb,W6.ix,W6.la,Int.toNat_natCast]
   |(with_reducible (first|apply AD|apply AE))<;>(intro hc;(try simp only[AT]at hc);(try simp only[hc]);(try simp only[AR]at hc);try omega))
  refine ST.NV rb6 hN (by omega) fun h7 B7 s7=>?_
  have W7:=B7.Dr
  repeat' (first
   |refine St.h ?_
   |simp(disch:=first|omega|(simp only[AI];omega))only[AJ,↓AA,↓reduceIte,seval,f0,f1,f2,f3,f9,f10,f11,eu,W7.ix]
   |(with_reducible (first|apply AD|apply AE))<;>(intro hc;(try simp only[AT]at hc);(try simp only[hc]);(try simp only[AR]at hc);try omega))
  refine ST.Hl B7 hN (by omega) fun h8 B8 s8=>?_
  repeat' (first
   |refine St.h ?_
   |simp(disch:=first|omega|(simp only[AI];omega))only[AJ,↓AA,↓reduceIte,seval,f0,f1,f2,f3,f9,f10,f11]
   |(with_reducible (first|apply AD|apply AE))<;>(intro hc;(try simp only[AT]at hc);(try simp only[hc]);(try simp only[AR]at hc);try omega))
  exact Ai hI5 u (by omega) ⟨u,He q5 (u+1) u,rfl,hau,by omega,by simp(disch:=first|omega|(simp only[AI];omega))only[AJ,↓AA,↓reduceIte,seval,f0],by simp(disch:=first|omega|(simp only[AI];omega))only[AJ,↓AA,↓reduceIte,seval,f1],by simp(disch:=first|omega|(simp only[AI];omega))only[AJ,↓AA,↓reduceIte,seval,f2],by simp(disch:=first|omega|(simp only[AI];omega))only[AJ,↓AA,↓reduceIte,seval,f3],by simp(disch:=first|omega|(simp only[AI];omega))only[AJ,↓AA,↓reduceIte,seval,f9],by simp(disch:=first|omega|(simp only[AI];omega))only[AJ,↓AA,↓reduceIte,seval,f10],by simp(disch:=first|omega|(simp only[AI];omega))only[AJ,↓AA,↓reduceIte,seval,eu2,f11],QA o hM hau hji hk5,sw5.trans (.one (by omega) (by omega) (by omega) (by omega)),B8,st6.trans (s7.trans s8)⟩
end
end Go.Proofs.Ytobfgempjekjpaa
set_option maxRecDepth 100000
set_option maxHeartbeats 8000000
namespace Go.Proofs.Ytobfgempjekjpaa
open Go Go.Ev
/--rows shorter than K are sorted -/
def nM (L:List Bq) (N K:Nat):Prop:=∀ {h:H} {v:V} {p:Nat->Nat} {a b lim:Nat},b-a<K->lim<=1000->Rt h v (By L p N)->a<=b->b<=N->P7 (Cr L) p a b->B.val h.floor<=B.val h.next->
 A3 Try.prog 75 [v,.i .i64 (a:Int),.i .i64 (b:Int),.i .i64 (lim:Int),.f 64 []] h fun y h'=>∃ q,D3 a b p q/\Hf (Cr L) q a b/\Rt h' v (By L q N)/\AW (Af v) h h'
section
variable {L:List Bq} {N:Nat}
theorem We {K:Nat} (hN:N<=200) (ih:nM L N K):nM L N (K+1):=by
 intro h v p a0 b0 lim0 hK hlim0 rb0 hab hbN hlow0 hf
 have ln:∀ q:Nat->Nat,(By L q N).length=N:=fun q=>Ca
 have gx:∀ (q:Nat->Nat) j,j<N->(By L q N).getD j default=L.getD (q j) default:=fun q j hj=>CJ hj
 have o:=Dt L
 refine Aw c75 (by intro hb;cases hb) (by simp) (by simp) fun Q hQ=>?_
 simp only[Ah,Nat.reduceAdd]
 --what the loop keeps
 let Inv:Nat->Nat->(Nat->Nat)->H->Prop:=fun a b q g=>a0<=a/\a<=b/\b<=b0/\P7 (Cr L) q a b/\Fin (Cr L) q a0 b0 a b/\D3 a0 b0 p q/\Rt g v (By L q N)/\AW (Af v) h g
 let Fr:Nat->Nat->Nat->Bool->Bool->F->Prop:=fun a b lim b1 b2 t=>get 0 t=v/\get 1 t=.i .i64 (a:Int)/\get 2 t=.i .i64 (b:Int)/\get 3 t=.i .i64 (lim:Int)/\get 4 t=.f 64 []/\get 10 t=.b b1/\get 11 t=.b b2
 have last:∀ {a b:Nat} {q q':Nat->Nat} {g g':H},Inv a b q g->D3 a b q q'->Hf (Cr L) q' a b->Rt g' v (By L q' N)->AW (Af v) g g'->∃ q,D3 a0 b0 p q/\Hf (Cr L) q a0 b0/\Rt g' v (By L q N)/\AW (Af v) h g':=fun {a b q q' g g'} ⟨i1,i2,i3,i4,i5,i6,i7,i8⟩ s hs r st=>
  ⟨q',i6.trans (s.wide i1 i3),i5 q' s hs,r,i8.trans st⟩
 have move:∀ {a b:Nat} {q q':Nat->Nat} {g g':H},Inv a b q g->D3 a b q q'->Rt g' v (By L q' N)->AW (Af v) g g'->Inv a b q' g':=fun {a b q q' g g'} ⟨i1,i2,i3,i4,i5,i6,i7,i8⟩ s r st=>
  ⟨i1,i2,i3,i4.sw s,KS i5 s,i6.trans (s.wide i1 i3),r,i8.trans st⟩
 --parted around the pivot,both parts sorted
 have S33:∀ (KK:X->F->H->Prop) (t:F) (g:H) (a b lim c:Nat) (b1 b2:Bool) (q:Nat->Nat),a+12<b/\lim<=1000->a<=c->c<b->Fr a b lim b1 b2 t->get 12 t=.i .i64 ((b-a:Nat):Int)->get 13 t=.i .i64 (c:Int)->Inv a b q g->
  (∀ t g a' b' b1 b2 q,b'-a'<b-a->Fr a' b' lim b1 b2 t->Inv a' b' q g->KK .normal t g)->Ok Try.prog 148 Tj t g KK:=fun KK t g a b lim c b1 b2 q ⟨hl,hlim⟩ hc1 hc2 ⟨f0,f1,f2,f3,f4,f10,f11⟩ f12 f13 ⟨i1,i2,i3,i4,i5,i6,i7,i8⟩ kk=>by
  have hfg:=i8.fl hf
  repeat' (first
   |refine St.h ?_
   |simp(disch:=first|omega|(simp only[AI];omega))only[AJ,↓AA,↓reduceIte,seval,f0,f1,f2,f3,f4,f10,f11,f12,f13]
   |(with_reducible (first|apply AD|apply AE))<;>(intro hc;(try simp only[AT]at hc);(try simp only[hc]);(try simp only[AR]at hc);try omega))
  refine CL.mk (Xf i7 hc1 hc2 (by omega) (by omega) hfg) ?_
  rintro _ g2 ⟨m,z,q2,rfl,P,sw,rb2,s2⟩
  have hm1:=P.am
  have hm2:=P.mb
  have low2:=i4.sw sw
  have fin2:=KS i5 sw
  have sw02:=i6.trans (sw.wide i1 i3)
  have st2:=i8.trans s2
  have hf2:=st2.fl hf
  have e1:(m:Int)-(a:Int)=((m-a:Nat):Int):=by omega
  have e2:(b:Int)-(m:Int)=((b-m:Nat):Int):=by omega
  have e3:((b-a:Nat):Int)/8=(((b-a)/8:Nat):Int):=by omega
  have e4:(m:Int)+1=((m+1:Nat):Int):=by omega
  by_cases hlt:m-a<b-m
  ·have d1:(((m-a:Nat):Int)<((b-m:Nat):Int))=True:=eq_true (by omega)
   repeat' (first
    |refine St.h ?_
    |simp(disch:=first|omega|(simp only[AI];omega))only[AJ,↓AA,↓reduceIte,seval,f0,f1,f2,f3,f4,f10,f11,f12,f13,e1,e2,e3,d1,Int.toNat_natCast]
    |(with_reducible (first|apply AD|apply AE))<;>(intro hc;(try simp only[AT]at hc);(try simp only[hc]);(try simp only[AR]at hc);try omega))
   refine CL.mk (ih (p:=q2) (a:=a) (b:=m) (lim:=lim) (by omega) hlim rb2 hm1 (by omega) (Nj low2 (by omega)) hf2) ?_
   rintro _ g3 ⟨q3,sw3,hs3,rb3,s3⟩
   have P3:=P.left sw3
   have low3:P7 (Cr L) q3 a b:=low2.sw (sw3.wide (Nat.le_refl _) (by omega))
   repeat' (first
    |refine St.h ?_
    |simp(disch:=first|omega|(simp only[AI];omega))only[AJ,↓AA,↓reduceIte,seval,f0,f1,f2,f3,f4,f10,f11,f12,f13,e4]
    |(with_reducible (first|apply AD|apply AE))<;>(intro hc;(try simp only[AT]at hc);(try simp only[hc]);(try simp only[AR]at hc);try omega))
   refine kk _ _ (m+1) b _ z q3 (by omega) ⟨by simp(disch:=first|omega|(simp only[AI];omega))only[AJ,↓AA,↓reduceIte,seval,f0],by simp(disch:=first|omega|(simp only[AI];omega))only[AJ,↓AA,↓reduceIte,seval,e4],by simp(disch:=first|omega|(simp only[AI];omega))only[AJ,↓AA,↓reduceIte,seval,f2],by simp(disch:=first|omega|(simp only[AI];omega))only[AJ,↓AA,↓reduceIte,seval,f3],by simp(disch:=first|omega|(simp only[AI];omega))only[AJ,↓AA,↓reduceIte,seval,f4],by simp(disch:=first|omega|(simp only[AI];omega))only[AJ,↓AA,↓reduceIte,seval];rfl,by simp(disch:=first|omega|(simp only[AI];omega))only[AJ,↓AA,↓reduceIte,seval]⟩ ⟨by omega,by omega,i3,Lz o low3 P3,Q7 o (KS fin2 (sw3.wide (Nat.le_refl _) (by omega))) P3 hs3,sw02.trans (sw3.wide i1 (by omega)),rb3,st2.trans s3⟩
  ·have d1:(((m-a:Nat):Int)<((b-m:Nat):Int))=False:=eq_false (by omega)
   repeat' (first
    |refine St.h ?_
    |simp(disch:=first|omega|(simp only[AI];omega))only[AJ,↓AA,↓reduceIte,seval,f0,f1,f2,f3,f4,f10,f11,f12,f13,e1,e2,e3,e4,d1,Int.toNat_natCast]
    |(with_reducible (first|apply AD|apply AE))<;>(intro hc;(try simp only[AT]at hc);(try simp only[hc]);(try simp only[AR]at hc);try omega))
   refine CL.mk (ih (p:=q2) (a:=m+1) (b:=b) (lim:=lim) (by omega) hlim rb2 (by omega) (by omega) (Lz o low2 P) hf2) ?_
   rintro _ g3 ⟨q3,sw3,hs3,rb3,s3⟩
   have P3:=P.right sw3
   have low3:P7 (Cr L) q3 a b:=low2.sw (sw3.wide (by omega) (Nat.le_refl _))
   repeat' (first
    |refine St.h ?_
    |simp(disch:=first|omega|(simp only[AI];omega))only[AJ,↓AA,↓reduceIte,seval,f0,f1,f2,f3,f4,f10,f11,f12,f13]
    |(with_reducible (first|apply AD|apply AE))<;>(intro hc;(try simp only[AT]at hc);(try simp only[hc]);(try simp only[AR]at hc);try omega))
   refine kk _ _ a m _ z q3 (by omega) ⟨by simp(disch:=first|omega|(simp only[AI];omega))only[AJ,↓AA,↓reduceIte,seval,f0],by simp(disch:=first|omega|(simp only[AI];omega))only[AJ,↓AA,↓reduceIte,seval,f1],by simp(disch:=first|omega|(simp only[AI];omega))only[AJ,↓AA,↓reduceIte,seval],by simp(disch:=first|omega|(simp only[AI];omega))only[AJ,↓AA,↓reduceIte,seval,f3],by simp(disch:=first|omega|(simp only[AI];omega))only[AJ,↓AA,↓reduceIte,seval,f4],by simp(disch:=first|omega|(simp only[AI];omega))only[AJ,↓AA,↓reduceIte,seval];rfl,by simp(disch:=first|omega|(simp only[AI];omega))only[AJ,↓AA,↓reduceIte,seval]⟩ ⟨i1,hm1,by omega,Nj low3 (by omega),Um o (KS fin2 (sw3.wide (by omega) (Nat.le_refl _))) P3 hs3,sw02.trans (sw3.wide (by omega) i3),rb3,st2.trans s3⟩
 --as many as the pivot
 have S34:∀ (KK:X->F->H->Prop) (t:F) (g:H) (a b lim c:Nat) (b1 b2:Bool) (q:Nat->Nat),a+12<b/\lim<=1000->a<=c->c<b->Fr a b lim b1 b2 t->get 12 t=.i .i64 ((b-a:Nat):Int)->get 13 t=.i .i64 (c:Int)->Inv a b q g->
  (∀ t g a' b' b1 b2 q,b'-a'<b-a->Fr a' b' lim b1 b2 t->Inv a' b' q g->KK .normal t g)->(∀ t g a' b' b1 b2 q,b'-a'<b-a->Fr a' b' lim b1 b2 t->Inv a' b' q g->KK (.exit 1) t g)->Ok Try.prog 148 U6 t g KK:=fun KK t g a b lim c b1 b2 q ⟨hl,hlim⟩ hc1 hc2 ⟨f0,f1,f2,f3,f4,f10,f11⟩ f12 f13 hI kk kx=>by
  obtain⟨i1,i2,i3,i4,i5,i6,i7,i8⟩:=hI
  have hfg:=i8.fl hf
  have W1:=i7.Dr
  have l1:=ln q
  by_cases ha:a=0
  ·subst ha
   have d1:((0:Int)<((0:Nat):Int))=False:=eq_false (by omega)
   repeat' (first
    |refine S33 _ _ _ 0 b lim c b1 b2 q ⟨hl,hlim⟩ hc1 hc2 ⟨?_,?_,?_,?_,?_,?_,?_⟩ ?_ ?_ ⟨i1,i2,i3,i4,i5,i6,i7,i8⟩ ?_
    |refine St.h ?_
    |simp(disch:=first|omega|(simp only[AI];omega))only[AJ,↓AA,↓reduceIte,seval,f0,f1,f2,f3,f4,f10,f11,f12,f13,d1]
    |(with_reducible (first|apply AD|apply AE))<;>(intro hc;(try simp only[AT]at hc);(try simp only[hc]);(try simp only[AR]at hc);try omega))
   exact kk
  obtain⟨u,rfl⟩:∃ u,a=u+1:=⟨a-1,by omega⟩
  have d1:((0:Int)<((u+1:Nat):Int))=True:=eq_true (by omega)
  have eu:(((u+1:Nat):Int)-1).toNat=u:=by omega
  have ga:=gx q u (by omega)
  have gc:=gx q c (by omega)
  repeat' (first
   |refine St.h ?_
   |simp(disch:=first|omega|(simp only[AI];omega))only[AJ,↓AA,↓reduceIte,seval,f0,f1,f2,f3,f4,f10,f11,f12,f13,d1,eu,ga,gc,W1.ix,W1.la,Int.toNat_natCast]
   |(with_reducible (first|apply AD|apply AE))<;>(intro hc;(try simp only[AT]at hc);(try simp only[hc]);(try simp only[AR]at hc);try omega))
  refine CL.stay (Bz (a:=L.getD (q u) default) (b:=L.getD (q c) default) hfg) fun g2 s2=>?_
  have rb2:=i7.grow s2
  have st2:=i8.trans (Bu s2)
  cases hk:Cr L (q u) (q c)with
  |true=>
   have d2:=EL hk
   repeat' (first
    |refine S33 _ _ _ (u+1) b lim c b1 b2 q ⟨hl,hlim⟩ hc1 hc2 ⟨?_,?_,?_,?_,?_,?_,?_⟩ ?_ ?_ ⟨i1,i2,i3,i4,i5,i6,rb2,st2⟩ ?_
    |refine St.h ?_
    |simp(disch:=first|omega|(simp only[AI];omega))only[AJ,↓AA,↓reduceIte,seval,f0,f1,f2,f3,f4,f10,f11,f12,f13,d2]
    |(with_reducible (first|apply AD|apply AE))<;>(intro hc;(try simp only[AT]at hc);(try simp only[hc]);(try simp only[AR]at hc);try omega))
   exact kk
  |false=>
   have d2:=EK hk
   repeat' (first
    |refine St.h ?_
    |simp(disch:=first|omega|(simp only[AI];omega))only[AJ,↓AA,↓reduceIte,seval,f0,f1,f2,f3,f4,f10,f11,f12,f13,d2]
    |(with_reducible (first|apply AD|apply AE))<;>(intro hc;(try simp only[AT]at hc);(try simp only[hc]);(try simp only[AR]at hc);try omega))
   refine CL.mk (SS rb2 hc1 hc2 (by omega) (by omega) (st2.fl hf)) ?_
   rintro _ g3 ⟨m,q3,rfl,hm1,hm2,sw3,hlo,hhi,rb3,s3⟩
   have ge3:∀ k,u+1<=k->k<b->Cr L (q3 k) (q c)=false:=sw3.all (P:=fun x=>Cr L x (q c)=false) fun k k1 k2=>o.nt (i4 u k (by omega) k1 k2) hk
   have low3:=i4.sw sw3
   have fin3:=KS i5 sw3
   repeat' (first
    |refine St.h ?_
    |simp(disch:=first|omega|(simp only[AI];omega))only[AJ,↓AA,↓reduceIte,seval,f0,f1,f2,f3,f4,f10,f11,f12,f13]
    |(with_reducible (first|apply AD|apply AE))<;>(intro hc;(try simp only[AT]at hc);(try simp only[hc]);(try simp only[AR]at hc);try omega))
   refine kx _ _ m b b1 b2 q3 (by omega) ⟨by simp(disch:=first|omega|(simp only[AI];omega))only[AJ,↓AA,↓reduceIte,seval,f0],by simp(disch:=first|omega|(simp only[AI];omega))only[AJ,↓AA,↓reduceIte,seval],by simp(disch:=first|omega|(simp only[AI];omega))only[AJ,↓AA,↓reduceIte,seval,f2],by simp(disch:=first|omega|(simp only[AI];omega))only[AJ,↓AA,↓reduceIte,seval,f3],by simp(disch:=first|omega|(simp only[AI];omega))only[AJ,↓AA,↓reduceIte,seval,f4],by simp(disch:=first|omega|(simp only[AI];omega))only[AJ,↓AA,↓reduceIte,seval,f10],by simp(disch:=first|omega|(simp only[AI];omega))only[AJ,↓AA,↓reduceIte,seval,f11]⟩ ⟨by omega,hm2,i3,gA o low3 (by omega) hlo hhi,iH o fin3 (by omega) hm2 ge3 hlo,i6.trans (sw3.wide i1 i3),rb3,st2.trans s3⟩
 --nearly in order
 have S35:∀ (KK:X->F->H->Prop) (t:F) (g:H) (a b lim c:Nat) (z:Int) (b1 b2:Bool) (q:Nat->Nat),a+12<b/\lim<=1000->a<=c->c<b->Fr a b lim b1 b2 t->get 12 t=.i .i64 ((b-a:Nat):Int)->get 13 t=.i .i64 (c:Int)->get 14 t=.i .i64 z->Inv a b q g->
  (∀ t g a' b' b1 b2 q,b'-a'<b-a->Fr a' b' lim b1 b2 t->Inv a' b' q g->KK .normal t g)->(∀ t g a' b' b1 b2 q,b'-a'<b-a->Fr a' b' lim b1 b2 t->Inv a' b' q g->KK (.exit 1) t g)->(∀ t g,(∃ q,D3 a0 b0 p q/\Hf (Cr L) q a0 b0/\Rt g v (By L q N)/\AW (Af v) h g)->KK .ret t g)->
  Ok Try.prog 148 VS t g KK:=fun KK t g a b lim c z b1 b2 q ⟨hl,hlim⟩ hc1 hc2 ⟨f0,f1,f2,f3,f4,f10,f11⟩ f12 f13 f14 hI kk kx kr=>by
  have hI':=hI
  obtain⟨i1,i2,i3,i4,i5,i6,i7,i8⟩:=hI'
  have hfg:=i8.fl hf
  by_cases hall:b1=true/\b2=true/\z=1
  case pos=>
   obtain⟨rfl,rfl,rfl⟩:=hall
   repeat' (first
    |refine St.h ?_
    |simp(disch:=first|omega|(simp only[AI];omega))only[AJ,↓AA,↓reduceIte,seval,f0,f1,f2,f3,f4,f10,f11,f12,f13,f14]
    |(with_reducible (first|apply AD|apply AE))<;>(intro hc;(try simp only[AT]at hc);(try simp only[hc]);(try simp only[AR]at hc);try omega))
   refine CL.mk (TP i7 (by omega) (by omega) (by omega) i4 hfg) ?_
   rintro _ g2 ⟨r,q2,rfl,hr,Hl,rb2,s2⟩
   cases r with
   |true=>
    repeat' (first
     |refine St.h ?_
     |simp(disch:=first|omega|(simp only[AI];omega))only[AJ,↓AA,↓reduceIte,seval,f0,f1,f2,f3,f4,f10,f11,f12,f13,f14]
     |(with_reducible (first|apply AD|apply AE))<;>(intro hc;(try simp only[AT]at hc);(try simp only[hc]);(try simp only[AR]at hc);try omega))
    exact kr _ _ (last hI Hl (hr rfl) rb2 s2)
   |false=>
    repeat' (first
     |refine S34 _ _ _ a b lim c true true q2 ⟨hl,hlim⟩ hc1 hc2 ⟨?_,?_,?_,?_,?_,?_,?_⟩ ?_ ?_ (move hI Hl rb2 s2) ?_ ?_
     |refine St.h ?_
     |simp(disch:=first|omega|(simp only[AI];omega))only[AJ,↓AA,↓reduceIte,seval,f0,f1,f2,f3,f4,f10,f11,f12,f13,f14]
     |(with_reducible (first|apply AD|apply AE))<;>(intro hc;(try simp only[AT]at hc);(try simp only[hc]);(try simp only[AR]at hc);try omega))
    ·exact kk
    ·exact kx
  cases b1 with
  |false=>
   repeat' (first
    |refine S34 _ _ _ a b lim c false b2 q ⟨hl,hlim⟩ hc1 hc2 ⟨?_,?_,?_,?_,?_,?_,?_⟩ ?_ ?_ hI ?_ ?_
    |refine St.h ?_
    |simp(disch:=first|omega|(simp only[AI];omega))only[AJ,↓AA,↓reduceIte,seval,f0,f1,f2,f3,f4,f10,f11,f12,f13,f14]
    |(with_reducible (first|apply AD|apply AE))<;>(intro hc;(try simp only[AT]at hc);(try simp only[hc]);(try simp only[AR]at hc);try omega))
   ·exact kk
   ·exact kx
  |true=>
   cases b2 with
   |false=>
    repeat' (first
     |refine S34 _ _ _ a b lim c true false q ⟨hl,hlim⟩ hc1 hc2 ⟨?_,?_,?_,?_,?_,?_,?_⟩ ?_ ?_ hI ?_ ?_
     |refine St.h ?_
     |simp(disch:=first|omega|(simp only[AI];omega))only[AJ,↓AA,↓reduceIte,seval,f0,f1,f2,f3,f4,f10,f11,f12,f13,f14]
     |(with_reducible (first|apply AD|apply AE))<;>(intro hc;(try simp only[AT]at hc);(try simp only[hc]);(try simp only[AR]at hc);try omega))
    ·exact kk
    ·exact kx
   |true=>
    have d1:(z=1)=False:=eq_false fun e=>hall ⟨rfl,rfl,e⟩
    repeat' (first
     |refine S34 _ _ _ a b lim c true true q ⟨hl,hlim⟩ hc1 hc2 ⟨?_,?_,?_,?_,?_,?_,?_⟩ ?_ ?_ hI ?_ ?_
     |refine St.h ?_
     |simp(disch:=first|omega|(simp only[AI];omega))only[AJ,↓AA,↓reduceIte,seval,f0,f1,f2,f3,f4,f10,f11,f12,f13,f14,d1]
     |(with_reducible (first|apply AD|apply AE))<;>(intro hc;(try simp only[AT]at hc);(try simp only[hc]);(try simp only[AR]at hc);try omega))
    ·exact kk
    ·exact kx
 --the pivot
 have S37:∀ (KK:X->F->H->Prop) (t:F) (g:H) (a b lim:Nat) (b1 b2:Bool) (q:Nat->Nat),a+12<b/\lim<=1000->Fr a b lim b1 b2 t->get 12 t=.i .i64 ((b-a:Nat):Int)->Inv a b q g->
  (∀ t g a' b' b1 b2 q,b'-a'<b-a->Fr a' b' lim b1 b2 t->Inv a' b' q g->KK .normal t g)->(∀ t g a' b' b1 b2 q,b'-a'<b-a->Fr a' b' lim b1 b2 t->Inv a' b' q g->KK (.exit 1) t g)->(∀ t g,(∃ q,D3 a0 b0 p q/\Hf (Cr L) q a0 b0/\Rt g v (By L q N)/\AW (Af v) h g)->KK .ret t g)->
  Ok Try.prog 148 Uh t g KK:=fun KK t g a b lim b1 b2 q ⟨hl,hlim⟩ ⟨f0,f1,f2,f3,f4,f10,f11⟩ f12 hI kk kx kr=>by
  have hI':=hI
  obtain⟨i1,i2,i3,i4,i5,i6,i7,i8⟩:=hI'
  have hfg:=i8.fl hf
  repeat' (first
   |refine St.h ?_
   |simp(disch:=first|omega|(simp only[AI];omega))only[AJ,↓AA,↓reduceIte,seval,f0,f1,f2,f3,f4,f10,f11,f12]
   |(with_reducible (first|apply AD|apply AE))<;>(intro hc;(try simp only[AT]at hc);(try simp only[hc]);(try simp only[AR]at hc);try omega))
  refine CL.mk (Rd i7 hl (by omega) (by omega) hfg) ?_
  rintro _ g2 ⟨m,z,rfl,hm1,hm2,s2⟩
  have rb2:=i7.grow s2
  have hI2:Inv a b q g2:=⟨i1,i2,i3,i4,i5,i6,rb2,i8.trans (Bu s2)⟩
  by_cases hz:z=2
  ·subst hz
   have e1:(b:Int)-1-((m:Int)-(a:Int))=((b-1-(m-a):Nat):Int):=by omega
   repeat' (first
    |refine St.h ?_
    |simp(disch:=first|omega|(simp only[AI];omega))only[AJ,↓AA,↓reduceIte,seval,f0,f1,f2,f3,f4,f10,f11,f12]
    |(with_reducible (first|apply AD|apply AE))<;>(intro hc;(try simp only[AT]at hc);(try simp only[hc]);(try simp only[AR]at hc);try omega))
   refine CL.mk (lP rb2 (by omega) i2 (by omega) (s2.fl hfg)) ?_
   rintro _ g3 ⟨q3,sw3,rb3,s3⟩
   repeat' (first
    |refine S35 _ _ _ a b lim (b-1-(m-a)) 1 b1 b2 q3 ⟨hl,hlim⟩ (by omega) (by omega) ⟨?_,?_,?_,?_,?_,?_,?_⟩ ?_ ?_ ?_ (move hI2 sw3 rb3 s3) ?_ ?_ ?_
    |refine St.h ?_
    |simp(disch:=first|omega|(simp only[AI];omega))only[AJ,↓AA,↓reduceIte,seval,f0,f1,f2,f3,f4,f10,f11,f12,e1]
    |(with_reducible (first|apply AD|apply AE))<;>(intro hc;(try simp only[AT]at hc);(try simp only[hc]);(try simp only[AR]at hc);try omega))
   ·exact kk
   ·exact kx
   ·exact kr
  ·have d1:(z=2)=False:=eq_false hz
   repeat' (first
    |refine S35 _ _ _ a b lim m z b1 b2 q ⟨hl,hlim⟩ hm1 hm2 ⟨?_,?_,?_,?_,?_,?_,?_⟩ ?_ ?_ ?_ hI2 ?_ ?_ ?_
    |refine St.h ?_
    |simp(disch:=first|omega|(simp only[AI];omega))only[AJ,↓AA,↓reduceIte,seval,f0,f1,f2,f3,f4,f10,f11,f12,d1]
    |(with_reducible (first|apply AD|apply AE))<;>(intro hc;(try simp only[AT]at hc);(try simp only[hc]);(try simp only[AR]at hc);try omega))
   ·exact kk
   ·exact kx
   ·exact kr
 repeat' (first
  |refine St.h ?_
  |simp(disch:=first|omega|(simp only[AI];omega))only[AJ,↓AA,↓reduceIte,seval]
  |(with_reducible (first|apply AD|apply AE))<;>(intro hc;(try simp only[AT]at hc);(try simp only[hc]);(try simp only[AR]at hc);try omega))
 refine Ok.lp (fun m t g=>∃ (a b lim:Nat) (b1 b2:Bool) (q:Nat->Nat),m=b-a/\lim<=1000/\Fr a b lim b1 b2 t/\Inv a b q g) (b0-a0) ?_ ?_
 ·refine⟨a0,b0,lim0,true,true,p,rfl,hlim0,⟨?_,?_,?_,?_,?_,?_,?_⟩,Nat.le_refl _,hab,Nat.le_refl _,hlow0,fun q _ h=>h,.refl _,rb0,⟨rfl,Nat.le_refl _,fun _ _ _=>rfl⟩⟩
  all_goals first|trivial|rfl|(simp(disch:=first|omega|(simp only[AI];omega))only[AJ,↓AA,↓reduceIte,seval];done)
 rintro I hI m t g ⟨a,b,lim,b1,b2,q,rfl,hlim,hF,hInv⟩
 have hF':=hF
 obtain⟨f0,f1,f2,f3,f4,f10,f11⟩:=hF'
 have hInv':=hInv
 obtain⟨i1,i2,i3,i4,i5,i6,i7,i8⟩:=hInv'
 have hfg:=i8.fl hf
 have en:(b:Int)-(a:Int)=((b-a:Nat):Int):=by omega
 have kn:∀ (lim:Nat) t g (a' b':Nat) b1 b2 q,lim<=1000->b'-a'<b-a->Fr a' b' lim b1 b2 t->Inv a' b' q g->ja I (b-a) t g:=fun lim t g a' b' b1 b2 q hlm hlt hF hV=>Ai hI (b'-a') hlt ⟨a',b',lim,b1,b2,q,rfl,hlm,hF,hV⟩
 have kr:∀ g,(∃ q,D3 a0 b0 p q/\Hf (Cr L) q a0 b0/\Rt g v (By L q N)/\AW (Af v) h g)->Q (.tu []) g:=fun g hx=>by subst hQ;exact hx
 by_cases hl:a+12<b
 case neg=>
  have d1:(((b-a:Nat):Int)<=12)=True:=eq_true (by omega)
  repeat' (first
   |refine St.h ?_
   |simp(disch:=first|omega|(simp only[AI];omega))only[AJ,↓AA,↓reduceIte,seval,f0,f1,f2,f3,f4,f10,f11,en,d1]
   |(with_reducible (first|apply AD|apply AE))<;>(intro hc;(try simp only[AT]at hc);(try simp only[hc]);(try simp only[AR]at hc);try omega))
  refine CL.mk (RT i7 (by omega) i2 (by omega) hfg) ?_
  rintro _ g2 ⟨q2,Hl,hs2,rb2,s2⟩
  repeat' (first
   |refine St.h ?_
   |simp(disch:=first|omega|(simp only[AI];omega))only[AJ,↓AA,↓reduceIte,seval]
   |(with_reducible (first|apply AD|apply AE))<;>(intro hc;(try simp only[AT]at hc);(try simp only[hc]);(try simp only[AR]at hc);try omega))
  exact kr _ (last hInv Hl hs2 rb2 s2)
 have d1:(((b-a:Nat):Int)<=12)=False:=eq_false (by omega)
 by_cases h0:lim=0
 case pos=>
  subst h0
  repeat' (first
   |refine St.h ?_
   |simp(disch:=first|omega|(simp only[AI];omega))only[AJ,↓AA,↓reduceIte,seval,f0,f1,f2,f3,f4,f10,f11,en,d1]
   |(with_reducible (first|apply AD|apply AE))<;>(intro hc;(try simp only[AT]at hc);(try simp only[hc]);(try simp only[AR]at hc);try omega))
  refine CL.mk (Xg i7 (by omega) (by omega) (by omega) hfg) ?_
  rintro _ g2 ⟨q2,Hl,hs2,rb2,s2⟩
  repeat' (first
   |refine St.h ?_
   |simp(disch:=first|omega|(simp only[AI];omega))only[AJ,↓AA,↓reduceIte,seval]
   |(with_reducible (first|apply AD|apply AE))<;>(intro hc;(try simp only[AT]at hc);(try simp only[hc]);(try simp only[AR]at hc);try omega))
  exact kr _ (last hInv Hl hs2 rb2 s2)
 have d2:((lim:Int)=0)=False:=eq_false (by omega)
 cases b1 with
 |true=>
  repeat' (first
   |refine S37 _ _ _ a b lim true b2 q ⟨hl,hlim⟩ ⟨?_,?_,?_,?_,?_,?_,?_⟩ ?_ hInv (fun t g a' b' b1 b2 q x1 x2 x3=>?_) (fun t g a' b' b1 b2 q x1 x2 x3=>?_) (fun t g x1=>?_)
   |refine St.h ?_
   |simp(disch:=first|omega|(simp only[AI];omega))only[AJ,↓AA,↓reduceIte,seval,f0,f1,f2,f3,f4,f10,f11,en,d1,d2]
   |(with_reducible (first|apply AD|apply AE))<;>(intro hc;(try simp only[AT]at hc);(try simp only[hc]);(try simp only[AR]at hc);try omega))
  ·exact kn _ _ _ _ _ _ _ _ (by omega) x1 x2 x3
  ·exact kn _ _ _ _ _ _ _ _ (by omega) x1 x2 x3
  ·exact kr _ x1
 |false=>
  have el:(lim:Int)-1=((lim-1:Nat):Int):=by omega
  repeat' (first
   |refine St.h ?_
   |simp(disch:=first|omega|(simp only[AI];omega))only[AJ,↓AA,↓reduceIte,seval,f0,f1,f2,f3,f4,f10,f11,en,d1,d2]
   |(with_reducible (first|apply AD|apply AE))<;>(intro hc;(try simp only[AT]at hc);(try simp only[hc]);(try simp only[AR]at hc);try omega))
  refine CL.mk (VR i7 hl (by omega) hN hfg) ?_
  rintro _ g2 ⟨q2,Hl,rb2,s2⟩
  repeat' (first
   |refine S37 _ _ _ a b (lim-1) false b2 q2 ⟨hl,by omega⟩ ⟨?_,?_,?_,?_,?_,?_,?_⟩ ?_ (move hInv Hl rb2 s2) (fun t g a' b' b1 b2 q x1 x2 x3=>?_) (fun t g a' b' b1 b2 q x1 x2 x3=>?_) (fun t g x1=>?_)
   |refine St.h ?_
   |simp(disch:=first|omega|(simp only[AI];omega))only[AJ,↓AA,↓reduceIte,seval,f0,f1,f2,f3,f4,f10,f11,en,d1,d2,el]
   |(with_reducible (first|apply AD|apply AE))<;>(intro hc;(try simp only[AT]at hc);(try simp only[hc]);(try simp only[AR]at hc);try omega))
  ·exact kn _ _ _ _ _ _ _ _ (by omega) x1 x2 x3
  ·exact kn _ _ _ _ _ _ _ _ (by omega) x1 x2 x3
  ·exact kr _ x1
theorem UW (hN:N<=200):∀ K,nM L N K
 |0=>fun hK=>absurd hK (Nat.not_lt_zero _)
 |K+1=>We hN (UW hN K)
/--slices.SortFunc(l,byTier) -/
theorem Tv {h:H} {v:V} (rb:Rt h v L) (hN:L.length<=200) (hf:B.val h.floor<=B.val h.next):A3 Try.prog 63 [v,.f 64 []] h fun y h'=>
 ∃ M:List Bq,M.Perm L/\(∀ i j,i<j->j<M.length->Gj (M.getD j default) (M.getD i default)=false)/\Rt h' v M/\AW (Af v) h h':=by
 have hv:=rb.Dr
 have rid:Rt h v (By L (fun i=>i) L.length):=by rw[VC];exact rb
 refine Aw c63 (by intro hb;cases hb) (by simp) (by simp) fun Q hQ=>?_
 simp only[Ah,Nat.reduceAdd]
 repeat' (first
  |refine St.h ?_
  |simp(disch:=first|omega|(simp only[AI];omega))only[AJ,↓AA,↓reduceIte,seval,hv.ln,Int.toNat_natCast]
  |(with_reducible (first|apply AD|apply AE))<;>(intro hc;(try simp only[AT]at hc);(try simp only[hc]);(try simp only[AR]at hc);try omega))
 refine CL.pure (Qc (n:=L.length) (by omega)) ?_
 repeat' (first
  |refine St.h ?_
  |simp(disch:=first|omega|(simp only[AI];omega))only[AJ,↓AA,↓reduceIte,seval]
  |(with_reducible (first|apply AD|apply AE))<;>(intro hc;(try simp only[AT]at hc);(try simp only[hc]);(try simp only[AR]at hc);try omega))
 refine CL.mk (UW hN (L.length+1) (p:=fun i=>i) (a:=0) (b:=L.length) (lim:=D6 L.length) (by omega) (by have:=Ig L.length (by omega);omega) rid (Nat.zero_le _) (Nat.le_refl _) (fun i j h1=>by omega) hf) ?_
 rintro _ g2 ⟨q,sw,hs,rb2,s2⟩
 repeat' (first
  |refine St.h ?_
  |simp(disch:=first|omega|(simp only[AI];omega))only[AJ,↓AA,↓reduceIte,seval]
  |(with_reducible (first|apply AD|apply AE))<;>(intro hc;(try simp only[AT]at hc);(try simp only[hc]);(try simp only[AR]at hc);try omega))
 subst hQ
 refine⟨By L q L.length,?_,fun i j h1 h2=>?_,rb2,s2⟩
 ·have:=sw.perm (L:=L) (Nat.le_refl L.length)
  rwa [VC]at this
 ·rw[Ca]at h2
  rw[CJ h2,CJ (by omega)]
  exact hs i j (Nat.zero_le _) h1 h2
end
end Go.Proofs.Ytobfgempjekjpaa
namespace Go.Ev
open Go
structure D4 where
 gone:List Int
 AU:List Bq
 log:Int
 seq:Int
instance:Inhabited D4:=⟨⟨[],[],0,0⟩⟩
structure Iy where
 L:List Bq
 log:Int
 seq:Int
 next:Int
def X1:Iy:=⟨[],1,0,1⟩
def Fy (t:Bq):Bool:=decide (1<=t.id/\t.id<=1000000/\(t.A7=0\/t.A7=1)/\(1<=t.fst.length/\t.fst.length<=13)/\(1<=t.DT.length/\t.DT.length<=13)/\Op.bytesLess t.DT t.fst=false/\1<=t.DN)
theorem CU {t:Bq}:Fy t=true↔(1<=t.id/\t.id<=1000000/\(t.A7=0\/t.A7=1)/\(1<=t.fst.length/\t.fst.length<=13)/\(1<=t.DT.length/\t.DT.length<=13)/\Op.bytesLess t.DT t.fst=false/\1<=t.DN):=by unfold Fy;exact decide_eq_true_iff
theorem SX {a b:List UInt8}:(Op.bytesLess a b||decide (a=b))=!Op.bytesLess b a:=by
 by_cases e:a=b
 ·rw[e,LG];simp
 ·rw[decide_eq_false e,Bool.or_false]
  rcases IJ e with h|h
  ·rw[h,NF h];rfl
  ·rw[h,NF h];rfl
/--the i-th one is a table,its number above the one ahead -/
def LV (L:List Bq) (i:Nat):Bool:=Fy (L.getD i default)&&(decide (i=0)||decide ((L.getD (i-1) default).id<(L.getD i default).id))
def IB (L:List Bq) (i:Nat):Bool:=(List.range i).all (LV L)
theorem HS (L:List Bq) (i:Nat):IB L (i+1)=(IB L i&&LV L i):=by unfold IB;rw[List.range_succ,List.all_append];simp
theorem QV {L:List Bq} {i:Nat} (h:IB L i=true) {j:Nat} (hj:j<i):LV L j=true:=(List.all_eq_true.1 h) j (List.mem_range.2 hj)
theorem Qt {L:List Bq} {i n:Nat} (hi:i<n) (h:LV L i=false):IB L n=false:=List.all_eq_false.2 ⟨i,List.mem_range.2 hi,by rw[h];simp⟩
def G2 (e:D4):Bool:=decide (e.gone.length<=40)&&decide (e.AU.length<=40)&&IB e.AU e.AU.length&&decide (0<=e.log/\e.log<=1000000)&&decide (0<=e.seq/\e.seq<=1000000)
structure Sk (e:D4):Prop where
 WA:e.gone.length<=40
 RR:e.AU.length<=40
 up:IB e.AU e.AU.length=true
 l0:0<=e.log
 l1:e.log<=1000000
 s0:0<=e.seq
 s1:e.seq<=1000000
theorem E9 {e:D4}:G2 e=true↔Sk e:=by
 unfold G2
 simp only[Bool.and_eq_true,decide_eq_true_eq]
 exact⟨fun⟨⟨⟨⟨a,b⟩,c⟩,d⟩,f⟩=>⟨a,b,c,d.1,d.2,f.1,f.2⟩,fun h=>⟨⟨⟨⟨h.WA,h.RR⟩,h.up⟩,h.l0,h.l1⟩,h.s0,h.s1⟩⟩
theorem Bd {α:Type} [Inhabited α] {L:List α} {i:Nat} (h:i<L.length):L.getD i default∈L:=by
 rw[List.getD_eq_getElem?_getD,List.getElem?_eq_getElem h];exact List.getElem_mem h
theorem HU {α:Type} [Inhabited α] {L:List α} {x:α} (h:x∈L):∃ i,i<L.length/\L.getD i default=x:=by
 obtain⟨i,hi,e⟩:=List.mem_iff_getElem.1 h
 exact⟨i,hi,by rw[List.getD_eq_getElem?_getD,List.getElem?_eq_getElem hi];exact e⟩
theorem Sk.tb {e:D4} (h:Sk e):∀ t∈e.AU,Fy t=true:=fun t ht=>by
 obtain⟨i,hi,rfl⟩:=HU ht
 have:=QV h.up hi
 unfold LV at this;rw[Bool.and_eq_true]at this;exact this.1
theorem Sk.lt {e:D4} (h:Sk e):∀ j i,i<j->j<e.AU.length->(e.AU.getD i default).id<(e.AU.getD j default).id:=by
 intro j
 induction j with
 |zero=>intro i hi;omega
 |succ j ih=>
  intro i hi hj
  have:=QV h.up hj
  unfold LV at this
  rw[Bool.and_eq_true,Bool.or_eq_true]at this
  have h2:(e.AU.getD j default).id<(e.AU.getD (j+1) default).id:=by
   rcases this.2 with h|h
   ·simp at h
   ·simpa using h
  by_cases e1:i=j
  ·rw[e1];exact h2
  ·have:=ih i (by omega) (by omega);omega
def D7 (a b:Bq):Bool:=decide (a.A7=1/\b.A7=1/\Op.bytesLess b.DT a.fst=false/\Op.bytesLess a.DT b.fst=false)
theorem Ht {a b:Bq}:D7 a b=D7 b a:=by
 unfold D7
 apply decide_eq_decide.2
 exact⟨fun⟨a,b,c,d⟩=>⟨b,a,d,c⟩,fun⟨a,b,c,d⟩=>⟨b,a,d,c⟩⟩
def D2 (L:List Bq):Prop:=L.Pairwise fun a b=>D7 a b=false
theorem D2.perm {L M:List Bq} (p:L.Perm M):D2 L↔D2 M:=p.pairwise_iff fun h=>by rw[Ht];exact h
/--in order,no two alike -/
def Ym (L:List Bq):Prop:=L.Pairwise fun a b=>Gj a b=true
theorem Us:∀ {L M:List Bq},Ym L->Ym M->L.Perm M->L=M
 |[],M,_,_,p=>(List.Perm.nil_eq p)
 |a::L,[],_,_,p=>absurd p.length_eq (by simp)
 |a::L,b::M,hL,hM,p=>by
  have hL':=List.pairwise_cons.1 hL
  have hM':=List.pairwise_cons.1 hM
  have e:a=b:=by
   rcases List.mem_cons.1 (p.mem_iff.1 (List.mem_cons_self))with h|h
   ·exact h
   ·rcases List.mem_cons.1 (p.mem_iff.2 (List.mem_cons_self))with h2|h2
    ·exact h2.symm
    ·have h3:=hM'.1 a h
     have h4:=hL'.1 b h2
     rw[IK h3]at h4;cases h4
  subst e
  rw[Us hL'.2 hM'.2 (List.Perm.cons_inv p)]
def IH (g:List Int) (id:Int):Bool:=g.any fun x=>decide (x=id)
def CX (L:List Bq) (g:List Int):List Bq:=L.filter fun t=>!IH g t.id
def Oo (L:List Bq) (g:List Int):Bool:=g.all fun id=>L.any fun t=>decide (t.id=id)
def Fq (S:Iy) (e:D4):Bool:=(decide (0<e.AU.length)&&decide ((e.AU.getD 0 default).id<S.next))||(decide (0<e.log)&&decide (e.log<S.log))||(decide (0<e.seq)&&decide (e.seq<S.seq))
def Ha:List Bq->Bq->List Bq
 |[],t=>[t]
 |u::L,t=>if Gj t u then t::u::L else u::Ha L t
def D5:List Bq->List Bq->Option (List Bq)
 |L,[]=>some L
 |L,t::C=>if L.any (fun u=>D7 u t)then none else D5 (Ha L t) C
def TI (S:Iy) (e:D4) (M:List Bq):Iy:=⟨M,max S.log e.log,max S.seq e.seq,if 0<e.AU.length then (e.AU.getD (e.AU.length-1) default).id+1 else S.next⟩
/--what the document asks -/
def Gh (S:Iy) (e:D4):Int×Iy:=
 if G2 e=false then (10,S)else if Oo S.L e.gone=false then (18,S)else if Fq S e=true then (16,S)else
 match D5 (CX S.L e.gone) e.AU with
 |none=>(16,S)
 |some M=>if 40<M.length then (25,S)else (0,TI S e M)
/--what a sheet is -/
structure Wf (S:Iy):Prop where
 tb:∀ t∈S.L,Fy t=true
 asc:Ym S.L
 nm:D2 S.L
 nx:∀ t∈S.L,t.id<S.next
 n1:1<=S.next/\S.next<=1000001
 lg:0<=S.log/\S.log<=1000000
 sq:0<=S.seq/\S.seq<=1000000
 len:S.L.length<=40
theorem wfZ:Wf X1:=⟨(fun t h=>by cases h),List.Pairwise.nil,List.Pairwise.nil,(fun t h=>by cases h),by decide,by decide,by decide,by decide⟩
theorem IZ:∀ (L:List Bq) (t:Bq),(Ha L t).Perm (t::L)
 |[],t=>List.Perm.refl _
 |u::L,t=>by
  unfold Ha
  split
  ·exact List.Perm.refl _
  ·exact((IZ L t).cons u).trans (List.Perm.swap t u L)
theorem P6:∀ {L:List Bq} {t:Bq},Ym L->(∀ u∈L,Gj t u=true\/Gj u t=true)->Ym (Ha L t)
 |[],t,_,_=>List.pairwise_singleton _ _
 |u::L,t,h,ht=>by
  have h':=List.pairwise_cons.1 h
  unfold Ha
  split
  ·rename_i hb
   refine List.pairwise_cons.2 ⟨fun x hx=>?_,h⟩
   rcases List.mem_cons.1 hx with rfl|hx
   ·exact hb
   ·have h1:=h'.1 x hx
    cases h2:Gj t x with
    |true=>rfl
    |false=>
     rcases ht x (List.mem_cons_of_mem _ hx)with h3|h3
     ·rw[h3]at h2;cases h2
     ·have:=Sw (IK hb) (IK h3)
      rw[h1]at this;cases this
  ·rename_i hb
   refine List.pairwise_cons.2 ⟨fun x hx=>?_,P6 h'.2 fun v hv=>ht v (List.mem_cons_of_mem _ hv)⟩
   rcases List.mem_cons.1 ((IZ L t).mem_iff.1 hx)with rfl|hx
   ·rcases ht u List.mem_cons_self with h3|h3
    ·exact absurd h3 hb
    ·exact h3
   ·exact h'.1 x hx
/--two that don't meet are in order,this way or that -/
theorem pQ {a b:Bq} (ha:Fy a=true) (hb:Fy b=true) (hn:D7 a b=false) (hi:a.id≠b.id):Gj a b=true\/Gj b a=true:=by
 have ha:=CU.1 ha
 have hb:=CU.1 hb
 unfold Gj
 by_cases e:a.A7=b.A7
 ·rw[if_pos e,if_pos e.symm]
  by_cases e0:a.A7=0
  ·rw[if_pos e0,if_pos (by omega)];simp;omega
  ·rw[if_neg e0,if_neg (by omega)]
   by_cases ef:a.fst=b.fst
   ·exfalso
    unfold D7 at hn
    have h1:=ha.2.2.2.2.2.1
    have h2:=hb.2.2.2.2.2.1
    rw[decide_eq_false_iff_not]at hn
    exact hn ⟨by omega,by omega,by rw[ef];exact h2,by rw[<-ef];exact h1⟩
   ·exact IJ ef
 ·rw[if_neg e,if_neg (Ne.symm e)];simp;omega
theorem Im {L:List Bq} {g:List Int} {t:Bq} (h:t∈CX L g):t∈L:=(List.mem_filter.1 h).1
theorem Mb:∀ {C L:List Bq},Ym L->D2 L->(∀ t∈L,Fy t=true)->(∀ t∈C,Fy t=true)->(∀ t∈L,∀ u∈C,t.id≠u.id)->(C.Pairwise fun a b=>a.id≠b.id)->
 (D5 L C=none/\¬D2 (L++C))\/∃ M,D5 L C=some M/\M.Perm (L++C)/\Ym M/\D2 M
 |[],L,ha,hn,_,_,_,_=>.inr ⟨L,rfl,by rw[List.append_nil],ha,hn⟩
 |t::C,L,ha,hn,hL,hC,hd,hc=>by
  have hc':=List.pairwise_cons.1 hc
  unfold D5
  cases hm:L.any (fun u=>D7 u t)with
  |true=>
   left
   refine⟨by rw[if_pos rfl],fun h=>?_⟩
   obtain⟨u,hu,hut⟩:=List.any_eq_true.1 hm
   have:=(List.pairwise_append.1 h).2.2 u hu t List.mem_cons_self
   rw[hut]at this;cases this
  |false=>
   rw[if_neg (by simp)]
   have hmt:∀ u∈L,D7 u t=false:=fun u hu=>by
    have:=List.any_eq_false.1 hm u hu
    simpa using this
   have hp:=IZ L t
   have hmem:∀ x,x∈Ha L t↔x=t\/x∈L:=fun x=>by rw[hp.mem_iff,List.mem_cons]
   have hpp:(Ha L t++C).Perm (L++t::C):=(hp.append_right C).trans (List.perm_middle).symm
   have ih:=Mb (C:=C) (L:=Ha L t) (P6 ha fun u hu=>(pQ (hC t List.mem_cons_self) (hL u hu) (by rw[Ht];exact hmt u hu) fun e=>hd u hu t List.mem_cons_self e.symm))
    ((D2.perm hp).2 (List.pairwise_cons.2 ⟨fun u hu=>by rw[Ht];exact hmt u hu,hn⟩))
    (fun x hx=>by rcases(hmem x).1 hx with rfl|h;exact hC _ List.mem_cons_self;exact hL x h)
    (fun x hx=>hC x (List.mem_cons_of_mem _ hx))
    (fun x hx u hu=>by rcases(hmem x).1 hx with rfl|h;exact hc'.1 u hu;exact hd x h u (List.mem_cons_of_mem _ hu)) hc'.2
   rcases ih with⟨h1,h2⟩|⟨M,h1,h2,h3,h4⟩
   ·exact .inl ⟨h1,fun h=>h2 ((D2.perm hpp).2 h)⟩
   ·exact .inr ⟨M,h1,h2.trans hpp,h3,h4⟩
/--two of a row that is in order meet,one behind the other -/
def Hb (M:List Bq) (i:Nat):Bool:=decide (0<i)&&(decide ((M.getD (i-1) default).A7=1)&&!Op.bytesLess (M.getD (i-1) default).DT (M.getD i default).fst)
def G1 (M:List Bq):Bool:=(List.range M.length).any (Hb M)
theorem QO {a b:Bq} (h:Gj b a=false):a.A7<=b.A7:=by
 unfold Gj at h
 by_cases e:b.A7=a.A7
 ·omega
 ·rw[if_neg e]at h;simp at h;exact h
theorem SG {M:List Bq} (hs:∀ i j,i<j->j<M.length->Gj (M.getD j default) (M.getD i default)=false) (ht:∀ t∈M,Fy t=true):G1 M=false↔D2 M:=by
 have tb:∀ i,i<M.length->(1<=(M.getD i default).id/\(M.getD i default).id<=1000000/\((M.getD i default).A7=0\/(M.getD i default).A7=1)/\_):=fun i hi=>CU.1 (ht _ (Bd hi))
 constructor
 ·intro h
  refine List.pairwise_iff_getElem.2 fun i j hi hj hij=>?_
  have gi:M[i]=M.getD i default:=by rw[List.getD_eq_getElem?_getD,List.getElem?_eq_getElem hi];rfl
  have gj:M[j]=M.getD j default:=by rw[List.getD_eq_getElem?_getD,List.getElem?_eq_getElem hj];rfl
  rw[gi,gj]
  cases hm:D7 (M.getD i default) (M.getD j default)with
  |false=>rfl
  |true=>
   exfalso
   obtain⟨m1,m2,m3,m4⟩:=of_decide_eq_true hm
   have h1:Hb M (i+1)=true:=by
    unfold Hb
    have ti:(M.getD (i+1) default).A7=1:=by
     have:=QO (hs i (i+1) (by omega) (by omega))
     have:=(tb (i+1) (by omega)).2.2.1
     omega
    have hf:Op.bytesLess (M.getD j default).fst (M.getD (i+1) default).fst=false:=by
     by_cases e:j=i+1
     ·rw[e];exact LG _
     ·have:=hs (i+1) j (by omega) hj
      unfold Gj at this
      rw[if_pos (by omega),if_neg (by omega)]at this
      exact this
    rw[Nat.add_sub_cancel,decide_eq_true (Nat.succ_pos i),decide_eq_true m1,UI m4 hf];rfl
   have:=List.any_eq_false.1 h (i+1) (List.mem_range.2 (by omega))
   exact this h1
 ·intro h
  cases hm:G1 M with
  |false=>rfl
  |true=>
   exfalso
   obtain⟨j,hj,ha⟩:=List.any_eq_true.1 hm
   have hj:=List.mem_range.1 hj
   unfold Hb at ha
   simp only[Bool.and_eq_true,decide_eq_true_eq,Bool.not_eq_true']at ha
   obtain⟨h0,h1,h2⟩:=ha
   have h3:=List.pairwise_iff_getElem.1 h (j-1) j (by omega) hj (by omega)
   have gi:M[j-1]=M.getD (j-1) default:=by rw[List.getD_eq_getElem?_getD,List.getElem?_eq_getElem (by omega)];rfl
   have gj:M[j]=M.getD j default:=by rw[List.getD_eq_getElem?_getD,List.getElem?_eq_getElem hj];rfl
   rw[gi,gj]at h3
   have hlt:=hs (j-1) j (by omega) hj
   have t1:=QO hlt
   have tj:=(tb j hj).2.2.1
   have hff:Op.bytesLess (M.getD j default).fst (M.getD (j-1) default).fst=false:=by
    unfold Gj at hlt
    rw[if_pos (by omega),if_neg (by omega)]at hlt
    exact hlt
   have hl:=(CU.1 (ht _ (Bd hj))).2.2.2.2.2.1
   unfold D7 at h3
   rw[decide_eq_false_iff_not]at h3
   exact h3 ⟨h1,by omega,UI hl hff,h2⟩
theorem Om {S:Iy} {e:D4} (w:Wf S) (he:Sk e) (hp:Fq S e=false):(∀ t∈CX S.L e.gone,∀ u∈e.AU,t.id≠u.id)/\(e.AU.Pairwise fun a b=>a.id≠b.id)/\∀ u∈e.AU,S.next<=u.id:=by
 have h0:∀ u∈e.AU,S.next<=u.id:=fun u hu=>by
  obtain⟨i,hi,rfl⟩:=HU hu
  unfold Fq at hp
  simp only[Bool.or_eq_false_iff,Bool.and_eq_false_iff,decide_eq_false_iff_not]at hp
  have h1:S.next<=(e.AU.getD 0 default).id:=by
   rcases hp.1.1 with h|h
   ·omega
   ·omega
  by_cases e1:i=0
  ·rw[e1];exact h1
  ·have:=he.lt i 0 (by omega) hi;omega
 refine⟨fun t ht u hu e1=>?_,List.pairwise_iff_getElem.2 fun i j hi hj hij=>?_,h0⟩
 ·have:=w.nx t (Im ht)
  have:=h0 u hu;omega
 ·have:=he.lt j i hij hj
  rw[List.getD_eq_getElem?_getD,List.getElem?_eq_getElem hi,List.getD_eq_getElem?_getD,List.getElem?_eq_getElem hj]at this
  exact Int.ne_of_lt this
theorem QN {S:Iy} (w:Wf S) (g:List Int):Ym (CX S.L g)/\D2 (CX S.L g)/\∀ t∈CX S.L g,Fy t=true:=⟨w.asc.filter _,w.nm.filter _,fun t ht=>w.tb t (Im ht)⟩
/--what the program makes of it:all there are then,in order -/
theorem zH {S:Iy} {e:D4} (w:Wf S) (he:Sk e) (hp:Fq S e=false) {M:List Bq} (pm:M.Perm (CX S.L e.gone++e.AU)) (hs:∀ i j,i<j->j<M.length->Gj (M.getD j default) (M.getD i default)=false):
 (G1 M=true/\D5 (CX S.L e.gone) e.AU=none)\/(G1 M=false/\D5 (CX S.L e.gone) e.AU=some M):=by
 obtain⟨i1,i2,i3⟩:=Om w he hp
 obtain⟨l1,l2,l3⟩:=QN w e.gone
 have tM:∀ t∈M,Fy t=true:=fun t ht=>by
  rcases List.mem_append.1 (pm.mem_iff.1 ht)with h|h
  ·exact l3 t h
  ·exact he.tb t h
 have hm:=SG hs tM
 rcases Mb l1 l2 l3 he.tb i1 i2 with⟨h1,h2⟩|⟨M',h1,h2,h3,h4⟩
 ·left
  refine⟨?_,h1⟩
  cases hb:G1 M with
  |true=>rfl
  |false=>exact absurd ((D2.perm pm).1 (hm.1 hb)) h2
 ·right
  have hMM:M.Perm M':=pm.trans h2.symm
  have nmM:D2 M:=(D2.perm hMM).2 h4
  have e1:M=M':=by
   refine Us (List.pairwise_iff_getElem.2 fun i j hi hj hij=>?_) h3 hMM
   --of two that are in order and don't meet the first one is less
   have n1:=List.pairwise_iff_getElem.1 nmM i j hi hj hij
   have gi:M[i]=M.getD i default:=by rw[List.getD_eq_getElem?_getD,List.getElem?_eq_getElem hi];rfl
   have gj:M[j]=M.getD j default:=by rw[List.getD_eq_getElem?_getD,List.getElem?_eq_getElem hj];rfl
   have idn:(M'.Pairwise fun a b=>Gj a b=true\/Gj b a=true):=h3.imp fun h=>.inl h
   have idM:=(hMM.pairwise_iff (R:=fun a b=>Gj a b=true\/Gj b a=true) fun h=>h.symm).2 idn
   have o:=List.pairwise_iff_getElem.1 idM i j hi hj hij
   rcases o with o|o
   ·exact o
   ·have:=hs i j hij hj
    rw[gi,gj]at o
    rw[o]at this;cases this
  rw[e1]
  exact⟨by rw[<-e1];exact hm.2 nmM,h1⟩
theorem w6 {S:Iy} {e:D4} (w:Wf S):Wf (Gh S e).2:=by
 unfold Gh
 by_cases h1:G2 e=false
 ·rw[if_pos h1];exact w
 rw[if_neg h1]
 by_cases h2:Oo S.L e.gone=false
 ·rw[if_pos h2];exact w
 rw[if_neg h2]
 by_cases h3:Fq S e=true
 ·rw[if_pos h3];exact w
 rw[if_neg h3]
 have he:=E9.1 (by simpa using h1)
 have hp:Fq S e=false:=by simpa using h3
 obtain⟨i1,i2,i3⟩:=Om w he hp
 obtain⟨l1,l2,l3⟩:=QN w e.gone
 rcases Mb l1 l2 l3 he.tb i1 i2 with⟨h4,_⟩|⟨M,h4,h5,h6,h7⟩
 ·rw[h4];exact w
 ·rw[h4]
  by_cases h8:40<M.length
  ·show Wf (if 40<M.length then _ else _:Int×Iy).2;rw[if_pos h8];exact w
  ·show Wf (if 40<M.length then _ else _:Int×Iy).2
   rw[if_neg h8]
   have hmem:∀ t∈M,t∈CX S.L e.gone\/t∈e.AU:=fun t ht=>List.mem_append.1 (h5.mem_iff.1 ht)
   have hn:=w.n1
   refine⟨fun t ht=>?_,h6,h7,fun t ht=>?_,?_,?_,?_,by show M.length<=40;omega⟩
   ·rcases hmem t ht with h|h
    ·exact l3 t h
    ·exact he.tb t h
   ·show t.id<(if 0<e.AU.length then _ else S.next)
    by_cases hc:0<e.AU.length
    ·rw[if_pos hc]
     have hlast:=Bd (L:=e.AU) (i:=e.AU.length-1) (by omega)
     rcases hmem t ht with h|h
     ·have:=w.nx t (Im h)
      have:=i3 _ hlast;omega
     ·obtain⟨i,hi,rfl⟩:=HU h
      by_cases e1:i=e.AU.length-1
      ·rw[e1];omega
      ·have:=he.lt (e.AU.length-1) i (by omega) (by omega);omega
    ·rw[if_neg hc]
     rcases hmem t ht with h|h
     ·exact w.nx t (Im h)
     ·have:=List.length_pos_of_mem h;omega
   ·show 1<=(if 0<e.AU.length then _ else S.next)/\(if 0<e.AU.length then _ else S.next)<=1000001
    by_cases hc:0<e.AU.length
    ·rw[if_pos hc]
     have:=CU.1 (he.tb _ (Bd (L:=e.AU) (i:=e.AU.length-1) (by omega)))
     omega
    ·rw[if_neg hc];exact hn
   ·show 0<=max S.log e.log/\max S.log e.log<=1000000
    have:=w.lg;have:=he.l0;have:=he.l1;omega
   ·show 0<=max S.seq e.seq/\max S.seq e.seq<=1000000
    have:=w.sq;have:=he.s0;have:=he.s1;omega
end Go.Ev
namespace Go.Ev
open Go
theorem CPS.own {P:Program} {h:H} {N:Nx} {id:B} {el fin:Nat} {xs:List V} {s:List UInt8} {cap:Option Nat} (o:FT h id el xs) (hne:1<=s.length) (hj:s.length<=fin) (hfit:s.length<2 ^ 37)
 (k:∀ h',FT h' id el (s.map bv)->AW (fun i=>i=id) h h'->N.go P (.i .i64 (s.length:Int)) h'):CPS P (.l id 0 0 s.length fin cap) (sv s) h N:=by
 obtain⟨Ap,a1,a2,a3,a4,aE,a5,a6,a7⟩:=o
 obtain⟨next,floor,heap⟩:=h
 obtain⟨cur,min,sz,cs,bel,fr⟩:=Ap
 simp only at a2 a3 a4 aE a7
 subst a2;subst a3;subst a4;subst aE
 have hvl:(s.map bv).length=s.length:=List.length_map _
 obtain⟨tr,t1,t2,t3⟩:=Bn (s.map bv) 0 cs (by omega)
 obtain⟨hp,s1,s2,s3⟩:=Bw id (⟨0,0,sz,tr,bel,0⟩:Gi) heap
 have e1:B.Jz floor id=true:=by cases floor<;>first|rfl|(show Nat.ble _ _=true;rw[Nat.ble_eq];exact a5)
 have e2:Nat.ble (Nat.add 0 (s.map bv).length) fin=true:=by rw[Nat.ble_eq];show 0+(s.map bv).length<=fin;omega
 have e4:Hc 0 0=true:=rfl
 have e5:Nat.beq 0 0=true:=rfl
 have e6:Nat.ble 0 0=true:=rfl
 have a1':heap.get id=some ⟨0,0,sz,cs,bel,0⟩:=a1
 refine DZ (v:=.i .i64 (s.length:Int)) (h':=⟨next,floor,hp⟩) (fun q=>?_) (k _ ⟨_,s2,rfl,rfl,rfl,rfl,a5,a6,fun i z hz=>by have:=t2 i z hz;rwa [Nat.zero_add]at this⟩ ⟨rfl,Nat.le_refl _,fun i _ hi=>s3 i hi⟩)
 show H7 s.length (fun _=>false) (fun _=>HH (sv s) ⟨next,floor,heap⟩ q id 0 0 s.length fin)=_
 obtain⟨m,hm⟩:∃ m,s.length=m+1:=⟨s.length-1,by omega⟩
 have hc:∀ (z:Unit->Bool) (f:Nat->Bool),H7 s.length z f=f (m+1):=fun z f=>by rw[hm];rfl
 rw[hc]
 unfold HH
 show LM s.length (pk s) [] (fun vs=>As (Nat.beq s.length s.length) fun _=>store ⟨next,floor,heap⟩ id 0 0 fin vs fun h=>q (.i .i64 (.ofNat s.length)) h)=_
 rw[KH _ _ _ _ rfl,List.append_nil,Nat.beq_refl,AH]
 simp only[store,CH,a1',Ao,BB,e5,e6,e1,e2,JU,e4,AH]
 rw[t1,s1];rfl
theorem US.own {P:Program} {h:H} {N:Nx} {id:B} {el fin:Nat} {a:List UInt8} (o:FT h id el (a.map bv)) (hne:1<=a.length) (hj:a.length<=fin) (hl:a.length<=1048576)
 (k:∀ h',AW (fun i=>i=id) h h'->N.go P (sv a) h'):US P el (.p id 0 0 fin) (.i .i64 (a.length:Int)) h N:=by
 have hrow:Row h id 0 0 (a.map bv):=o.own.row
 obtain⟨Ap,a1,a2,a3,a4,aE,a5,a6,a7⟩:=o
 have hld:∀ k,Br h id 0 0 fin a.length k=k (a.map bv):=fun k=>by
  have:=C2 (n:=(a.map bv).length) (fin:=fin) hrow rfl (by intro h0;have:=congrArg List.length h0;simp at this;subst this;simp at hne) (by rw[List.length_map];omega) k
  rwa [List.length_map]at this
 obtain⟨next,floor,heap⟩:=h
 obtain⟨cur,min,sz,cells,bel,fr⟩:=Ap
 simp only at a2 a3 a4 aE a7
 subst a2;subst a3;subst a4;subst aE
 obtain⟨hp,s1,s2,s3⟩:=Bw id (⟨0,0,sz,cells,bel,a.length+2⟩:Gi) heap
 have a1':heap.get id=some ⟨0,0,sz,cells,bel,0⟩:=a1
 have g2:Nat.beq bel bel=true:=Nat.beq_refl bel
 have g3:B.Jz floor id=true:=by cases floor<;>first|rfl|(show Nat.ble _ _=true;rw[Nat.ble_eq];exact a5)
 have g4:Nat.ble 1 a.length=true:=by rw[Nat.ble_eq];exact hne
 have g5:Nat.ble a.length 1048576=true:=by rw[Nat.ble_eq];exact hl
 have g6:Nat.beq 0 0=true:=rfl
 have g7:Nat.ble 0 0=true:=rfl
 refine US.of (v:=sv a) (h':=⟨next,floor,hp⟩) (fun q=>?_) (k _ ⟨rfl,Nat.le_refl _,fun i _ hi=>s3 i hi⟩)
 simp only[Cx,BO,AH,Bb,LU]
 unfold KQ
 rw[g6,AH,g4,AH,g5,AH]
 simp only[SM,CH,a1',Ao,BB,g7,g2,AH]
 rw[hld,J0]
 have e0:0*256 ^ a.length+pk a=pk a:=by rw[Nat.zero_mul,Nat.zero_add]
 rw[e0]
 simp only[HE,CH,a1',Ao,BB,g3,AH]
 show fN (Nat.add a.length 2) (fun fr'=>T.Hg id ⟨0,0,sz,cells,bel,fr'⟩ heap fun heap=>q (.s a.length (pk a)) ⟨next,floor,heap⟩)=_
 rw[A5]
 exact s1 _
end Go.Ev
set_option maxRecDepth 100000
set_option maxHeartbeats 8000000
namespace Go.Proofs.Ytobfgempjekjpaa
open Go Go.Ev
theorem iW:∀ L:List Bq,Bk (L.flatMap LZ)=true
 |[]=>rfl
 |a::L=>by
  rw[List.flatMap_cons]
  show Bk (.i .i64 a.id::.i .i64 a.A7::sv a.fst::sv a.DT::.i .i64 a.DN::L.flatMap LZ)=true
  exact iW L
theorem O5 {h:H}:A3 Try.prog 48 [.l0] h fun y h'=>y=.l0/\h'=h:=by
 refine Aw c48 (by intro hb;cases hb) (by simp) (by simp) fun Q hQ=>?_
 simp only[Ah,Nat.reduceAdd]
 repeat' (first
  |refine St.h ?_
  |simp(disch:=first|omega|(simp only[AI];omega))only[AJ,↓AA,↓reduceIte,seval]
  |(with_reducible (first|apply AD|apply AE))<;>(intro hc;(try simp only[AT]at hc);(try simp only[hc]);(try simp only[AR]at hc);try omega))
 subst hQ
 exact⟨rfl,rfl⟩
theorem Pq {h:H} {id:B} {gg off len fin:Nat} {cap:Option Nat} {L:List Bq} (hL:FQ h (.l id gg off len fin cap) L) (hl:L.length<=1000) (hf:B.val h.floor<=B.val h.next):A3 Try.prog 48 [.l id gg off len fin cap] h fun y h'=>Rt h' y L/\(∀ q,Af y q->B.val h.next<=B.val q)/\AW AN h h':=by
 refine Aw c48 (by intro hb;cases hb) (by simp) (by simp) fun Q hQ=>?_
 simp only[Ah,Nat.reduceAdd]
 repeat' (first
  |refine St.h ?_
  |simp(disch:=first|omega|(simp only[AI];omega))only[AJ,↓AA,↓reduceIte,seval]
  |(with_reducible (first|apply AD|apply AE))<;>(intro hc;(try simp only[AT]at hc);(try simp only[hc]);(try simp only[AR]at hc);try omega))
 refine AL.own (by simp) hf fun h1 s1 n1 o1=>?_
 have hf1:=s1.fl hf
 repeat' (first
  |refine St.h ?_
  |simp(disch:=first|omega|(simp only[AI];omega))only[AJ,↓AA,↓reduceIte,seval]
  |(with_reducible (first|apply AD|apply AE))<;>(intro hc;(try simp only[AT]at hc);(try simp only[hc]);(try simp only[AR]at hc);try omega))
 refine AP.e1 (PA (hL.grow s1) CI (by omega)) hf1 (C3 CI L) (by omega) (by rw[C3 CI L];omega) (fun e=>?_) fun h2 e s2 n2 b2 tp2=>?_
 ·have:L=[]:=List.eq_nil_of_length_eq_zero e
  subst this
  repeat' (first
   |refine St.h ?_
   |simp(disch:=first|omega|(simp only[AI];omega))only[AJ,↓AA,↓reduceIte,seval]
   |(with_reducible (first|apply AD|apply AE))<;>(intro hc;(try simp only[AT]at hc);(try simp only[hc]);(try simp only[AR]at hc);try omega))
  subst hQ
  refine⟨Gr.AC8 (by omega) (by rw[n1];omega),?_,s1⟩
  rintro q ⟨_,_,_,_,_,e⟩
  cases e;exact Nat.le_refl _
 ·repeat' (first
   |refine St.h ?_
   |simp(disch:=first|omega|(simp only[AI];omega))only[AJ,↓AA,↓reduceIte,seval]
   |(with_reducible (first|apply AD|apply AE))<;>(intro hc;(try simp only[AT]at hc);(try simp only[hc]);(try simp only[AR]at hc);try omega))
  subst hQ
  refine⟨Gr.buf b2 tp2 CI (by omega),?_,s1.trans s2⟩
  rintro q ⟨_,_,_,_,_,e⟩
  cases e;exact s1.next
theorem Lq {h:H} {v:V} {L:List Bq} (hL:FQ h v L) (hl:L.length<=1000) (hf:B.val h.floor<=B.val h.next):A3 Try.prog 48 [v] h fun y h'=>Rt h' y L/\(∀ q,Af y q->B.val h.next<=B.val q)/\AW AN h h':=by
 have hL0:=hL
 rcases hL with⟨rfl,rfl⟩|⟨id,gg,off,fin,cap,rfl,hh⟩
 ·exact O5.mono fun y h' ⟨a,b⟩=>by
   rw[a,b]
   refine⟨Gr.nil,?_,AW.refl _ _⟩
   rintro q ⟨_,_,_,_,_,e⟩;cases e
 ·exact Pq hL0 hl hf
theorem WH (n:Nat):Dq [V.i .u8 0] n=(List.replicate n (0:UInt8)).map bv:=by
 rw[OS,List.map_replicate];rfl
theorem PD {h:H} {s:List UInt8} (hs:s.length<=1000000) (hf:B.val h.floor<=B.val h.next):A3 Try.prog 74 [sv s] h fun y h'=>y=sv s/\AW AN h h':=by
 refine Aw c74 (by intro hb;cases hb) (by simp) (by simp) fun Q hQ=>?_
 simp only[Ah,Nat.reduceAdd]
 repeat' (first
  |refine St.h ?_
  |simp(disch:=first|omega|(simp only[AI];omega))only[AJ,↓AA,↓reduceIte,seval,Int.toNat_natCast]
  |(with_reducible (first|apply AD|apply AE))<;>(intro hc;(try simp only[AT]at hc);(try simp only[hc]);(try simp only[AR]at hc);try omega))
 ·subst hQ
  have:s=[]:=List.eq_nil_of_length_eq_zero (by omega)
  subst this
  exact⟨rfl,AW.refl _ _⟩
 refine AL.Vq (by rw[WH];simp;omega) hf fun h1 s1 n1 o1=>?_
 have hf1:=s1.fl hf
 repeat' (first
  |refine St.h ?_
  |simp(disch:=first|omega|(simp only[AI];omega))only[AJ,↓AA,↓reduceIte,seval,Int.toNat_natCast]
  |(with_reducible (first|apply AD|apply AE))<;>(intro hc;(try simp only[AT]at hc);(try simp only[hc]);(try simp only[AR]at hc);try omega))
 refine CPS.own o1 (by omega) (by omega) (by omega) fun h2 o2 s2=>?_
 repeat' (first
  |refine St.h ?_
  |simp(disch:=first|omega|(simp only[AI];omega))only[AJ,↓AA,↓reduceIte,seval,Int.toNat_natCast,QF]
  |(with_reducible (first|apply AD|apply AE))<;>(intro hc;(try simp only[AT]at hc);(try simp only[hc]);(try simp only[AR]at hc);try omega))
 refine US.own o2 (by omega) (by omega) (by omega) fun h3 s3=>?_
 repeat' (first
  |refine St.h ?_
  |simp(disch:=first|omega|(simp only[AI];omega))only[AJ,↓AA,↓reduceIte,seval]
  |(with_reducible (first|apply AD|apply AE))<;>(intro hc;(try simp only[AT]at hc);(try simp only[hc]);(try simp only[AR]at hc);try omega))
 subst hQ
 exact⟨rfl,(s1.BI s2 fun i hi=>by rw[hi];exact Nat.le_refl _).BI s3 fun i hi=>by rw[hi];exact Nat.le_refl _⟩
theorem KM {h:H} {s:List UInt8} (hs:s.length<=1000000) (hf:B.val h.floor<=B.val h.next):A3 Try.prog 62 [sv s] h fun y h'=>y=sv s/\AW AN h h':=by
 refine Aw c62 (by intro hb;cases hb) (by simp) (by simp) fun Q hQ=>?_
 simp only[Ah,Nat.reduceAdd]
 repeat' (first
  |refine St.h ?_
  |simp(disch:=first|omega|(simp only[AI];omega))only[AJ,↓AA,↓reduceIte,seval]
  |(with_reducible (first|apply AD|apply AE))<;>(intro hc;(try simp only[AT]at hc);(try simp only[hc]);(try simp only[AR]at hc);try omega))
 refine CL.stay (PD hs hf) fun h1 s1=>?_
 repeat' (first
  |refine St.h ?_
  |simp(disch:=first|omega|(simp only[AI];omega))only[AJ,↓AA,↓reduceIte,seval]
  |(with_reducible (first|apply AD|apply AE))<;>(intro hc;(try simp only[AT]at hc);(try simp only[hc]);(try simp only[AR]at hc);try omega))
 subst hQ
 exact⟨rfl,s1⟩
theorem Qj {h:H} {v:V} {L:List Bq} {fn:FuncId} {cs:List V} {P:Bq->Bool} (hL:FQ h v L) (hl:L.length<=1000) (hf:B.val h.floor<=B.val h.next)
 (hF:∀ g t,AW AN h g->t∈L->A3 Try.prog fn (.a [.i .i64 t.id,.i .i64 t.A7,sv t.fst,sv t.DT,.i .i64 t.DN]::cs) g fun y g'=>y=.b (P t)/\AW AN g g'):
 A3 Try.prog 72 [v,.f fn cs] h fun y h'=>∃ r:Int,y=.i .i64 r/\((r= -1/\∀ t∈L,P t=false)\/∃ i:Nat,r=(i:Int)/\i<L.length/\P (L.getD i default)=true/\∀ k,k<i->P (L.getD k default)=false)/\AW AN h h':=by
 refine Aw c72 (by intro hb;cases hb) (by simp) (by simp) fun Q hQ=>?_
 simp only[Ah,Nat.reduceAdd]
 repeat' (first
  |refine St.h ?_
  |simp(disch:=first|omega|(simp only[AI];omega))only[AJ,↓AA,↓reduceIte,seval,hL.ln]
  |(with_reducible (first|apply AD|apply AE))<;>(intro hc;(try simp only[AT]at hc);(try simp only[hc]);(try simp only[AR]at hc);try omega))
 refine Ok.lp (fun m t g=>∃ i:Nat,m=L.length-i/\i<=L.length/\get 0 t=v/\get 1 t=.f fn cs/\get 7 t=.i .i64 (L.length:Int)/\get 8 t=.i .i64 (i:Int)/\(∀ k,k<i->P (L.getD k default)=false)/\AW AN h g) L.length ?_ ?_
 ·simp(disch:=first|omega|(simp only[AI];omega))only[AJ,↓AA,↓reduceIte,seval,hL.ln]
  refine⟨0,by omega,by omega,?_⟩
  refine⟨?_,?_,?_,?_,fun k hk=>by omega,AW.refl _ _⟩
  all_goals first|trivial|rfl
 rintro I hI m t g ⟨i,rfl,hi,f0,f1,f7,f8,hno,st⟩
 have hLg:=hL.grow st
 have hfg:=st.fl hf
 by_cases hil:i<L.length
 case neg=>
  obtain rfl:i=L.length:=by omega
  have d1:((L.length:Int)<(L.length:Int))=False:=eq_false (by omega)
  repeat' (first
   |refine St.h ?_
   |simp(disch:=first|omega|(simp only[AI];omega))only[AJ,↓AA,↓reduceIte,seval,f0,f1,f7,f8,d1]
   |(with_reducible (first|apply AD|apply AE))<;>(intro hc;(try simp only[AT]at hc);(try simp only[hc]);(try simp only[AR]at hc);try omega))
  subst hQ
  refine⟨-1,rfl,.inl ⟨rfl,fun t ht=>?_⟩,st⟩
  obtain⟨k,hk,rfl⟩:=HU ht
  exact hno k hk
 have d1:((i:Int)<(L.length:Int))=True:=eq_true (by omega)
 repeat' (first
  |refine St.h ?_
  |simp(disch:=first|omega|(simp only[AI];omega))only[AJ,↓AA,↓reduceIte,seval,f0,f1,f7,f8,d1,hLg.ix,hLg.la,Int.toNat_natCast]
  |(with_reducible (first|apply AD|apply AE))<;>(intro hc;(try simp only[AT]at hc);(try simp only[hc]);(try simp only[AR]at hc);try omega))
 refine CL.stay (hF g _ st (Bd hil)) fun g2 s2=>?_
 have st2:=st.trans s2
 cases hk:P (L.getD i default)with
 |true=>
  repeat' (first
   |refine St.h ?_
   |simp(disch:=first|omega|(simp only[AI];omega))only[AJ,↓AA,↓reduceIte,seval,f0,f1,f7,f8]
   |(with_reducible (first|apply AD|apply AE))<;>(intro hc;(try simp only[AT]at hc);(try simp only[hc]);(try simp only[AR]at hc);try omega))
  subst hQ
  exact⟨i,rfl,.inr ⟨i,rfl,hil,hk,hno⟩,st2⟩
 |false=>
  repeat' (first
   |refine St.h ?_
   |simp(disch:=first|omega|(simp only[AI];omega))only[AJ,↓AA,↓reduceIte,seval,f0,f1,f7,f8]
   |(with_reducible (first|apply AD|apply AE))<;>(intro hc;(try simp only[AT]at hc);(try simp only[hc]);(try simp only[AR]at hc);try omega))
  refine Ai hI (L.length-(i+1)) (by omega) ⟨i+1,rfl,by omega,by simp(disch:=first|omega|(simp only[AI];omega))only[AJ,↓AA,↓reduceIte,seval,f0],by simp(disch:=first|omega|(simp only[AI];omega))only[AJ,↓AA,↓reduceIte,seval,f1],by simp(disch:=first|omega|(simp only[AI];omega))only[AJ,↓AA,↓reduceIte,seval,f7],by simp(disch:=first|omega|(simp only[AI];omega))only[AJ,↓AA,↓reduceIte,seval,f8];rfl,fun k k1=>?_,st2⟩
  by_cases e:k=i
  ·rw[e];exact hk
  ·exact hno k (by omega)
theorem UQ {h:H} {v:V} {L:List Bq} {fn:FuncId} {cs:List V} {P:Bq->Bool} (hL:FQ h v L) (hl:L.length<=1000) (hf:B.val h.floor<=B.val h.next)
 (hF:∀ g t,AW AN h g->t∈L->A3 Try.prog fn (.a [.i .i64 t.id,.i .i64 t.A7,sv t.fst,sv t.DT,.i .i64 t.DN]::cs) g fun y g'=>y=.b (P t)/\AW AN g g'):
 A3 Try.prog 57 [v,.f fn cs] h fun y h'=>y=.b (L.any P)/\AW AN h h':=by
 refine Aw c57 (by intro hb;cases hb) (by simp) (by simp) fun Q hQ=>?_
 simp only[Ah,Nat.reduceAdd]
 repeat' (first
  |refine St.h ?_
  |simp(disch:=first|omega|(simp only[AI];omega))only[AJ,↓AA,↓reduceIte,seval]
  |(with_reducible (first|apply AD|apply AE))<;>(intro hc;(try simp only[AT]at hc);(try simp only[hc]);(try simp only[AR]at hc);try omega))
 refine CL.mk (Qj hL hl hf hF) ?_
 rintro _ g ⟨r,rfl,hr,s⟩
 repeat' (first
  |refine St.h ?_
  |simp(disch:=first|omega|(simp only[AI];omega))only[AJ,↓AA,↓reduceIte,seval]
  |(with_reducible (first|apply AD|apply AE))<;>(intro hc;(try simp only[AT]at hc);(try simp only[hc]);(try simp only[AR]at hc);try omega))
 subst hQ
 refine⟨congrArg V.b ?_,s⟩
 rcases hr with⟨rfl,hno⟩|⟨i,rfl,hi,hp,_⟩
 ·rw[List.any_eq_false.2 fun t ht=>by rw[hno t ht];simp];rfl
 ·rw[List.any_eq_true.2 ⟨_,Bd hi,hp⟩];simp
theorem XA {h:H} {v:V} {L:List Bq} {fn:FuncId} {cs:List V} {P:Bq->Bool} (rb:Rt h v L) (hl:L.length<=1000) (hf:B.val h.floor<=B.val h.next)
 (hF:∀ g t,AW (Af v) h g->t∈L->A3 Try.prog fn (.a [.i .i64 t.id,.i .i64 t.A7,sv t.fst,sv t.DT,.i .i64 t.DN]::cs) g fun y g'=>y=.b (P t)/\AW AN g g'):
 A3 Try.prog 59 [v,.f fn cs] h fun y h'=>Rt h' y (L.filter fun t=>!P t)/\(∀ q,Af y q->Af v q)/\AW (Af v) h h':=by
 have hL:=rb.Dr
 refine Aw c59 (by intro hb;cases hb) (by simp) (by simp) fun Q hQ=>?_
 simp only[Ah,Nat.reduceAdd]
 repeat' (first
  |refine St.h ?_
  |simp(disch:=first|omega|(simp only[AI];omega))only[AJ,↓AA,↓reduceIte,seval]
  |(with_reducible (first|apply AD|apply AE))<;>(intro hc;(try simp only[AT]at hc);(try simp only[hc]);(try simp only[AR]at hc);try omega))
 refine CL.mk (Qj hL hl hf fun g t s ht=>hF g t (Bu s) ht) ?_
 rintro _ g ⟨r,rfl,hr,s⟩
 rcases hr with⟨rfl,hno⟩|⟨i0,rfl,hi0,hp0,hno⟩
 ·repeat' (first
   |refine St.h ?_
   |simp(disch:=first|omega|(simp only[AI];omega))only[AJ,↓AA,↓reduceIte,seval]
   |(with_reducible (first|apply AD|apply AE))<;>(intro hc;(try simp only[AT]at hc);(try simp only[hc]);(try simp only[AR]at hc);try omega))
  subst hQ
  rw[List.filter_eq_self.2 fun t ht=>by rw[hno t ht];rfl]
  exact⟨rb.grow s,fun q hq=>hq,Bu s⟩
 have dm:((i0:Int)= -1)=False:=eq_false (by omega)
 repeat' (first
  |refine St.h ?_
  |simp(disch:=first|omega|(simp only[AI];omega))only[AJ,↓AA,↓reduceIte,seval,dm]
  |(with_reducible (first|apply AD|apply AE))<;>(intro hc;(try simp only[AT]at hc);(try simp only[hc]);(try simp only[AR]at hc);try omega))
 have filt:∀ j,j<L.length->(L.take (j+1)).filter (fun t=>!P t)=(L.take j).filter (fun t=>!P t)++(if P (L.getD j default)then []else [L.getD j default]):=fun j hj=>by
  have:L.take (j+1)=L.take j++[L.getD j default]:=by rw[List.take_succ];simp[List.getD,hj]
  rw[this,List.filter_append]
  cases hb:P (L.getD j default)with
  |true=>rw[List.filter_cons,hb];rfl
  |false=>rw[List.filter_cons,hb];rfl
 refine Ok.lp (fun m t g=>∃ (i j:Nat) (M:List Bq),m=L.length-j/\i<j/\j<=L.length/\get 0 t=v/\get 1 t=.f fn cs/\get 5 t=.i .i64 (i:Int)/\get 6 t=.i .i64 (j:Int)/\M.length=L.length/\M.take i=(L.take j).filter (fun t=>!P t)/\M.drop j=L.drop j/\Rt g v M/\AW (Af v) h g) (L.length-(i0+1)) ?_ ?_
 ·simp(disch:=first|omega|(simp only[AI];omega))only[AJ,↓AA,↓reduceIte,seval]
  refine⟨i0,i0+1,L,rfl,by omega,by omega,?_⟩
  refine⟨?_,?_,?_,?_,rfl,?_,rfl,rb.grow s,Bu s⟩
  rotate_right
  ·rw[filt i0 hi0,hp0,if_pos rfl,List.append_nil]
   refine(List.filter_eq_self.2 fun t ht=>?_).symm
   obtain⟨k,hk,rfl⟩:=HU ht
   rw[List.length_take]at hk
   have:(L.take i0).getD k default=L.getD k default:=by rw[List.getD_eq_getElem?_getD,List.getElem?_take,if_pos (by omega),<-List.getD_eq_getElem?_getD]
   rw[this,hno k (by omega)];rfl
  all_goals first|trivial|rfl
 rintro I hI m t g2 ⟨i,j,M,rfl,hij,hj,f0,f1,f5,f6,hM,hMi,hMj,rb2,st⟩
 have hfg:=st.fl hf
 have hL2:=rb2.Dr
 by_cases hjl:j<L.length
 case neg=>
  obtain rfl:j=L.length:=by omega
  rw[List.take_length]at hMi
  have d1:((L.length:Int)<(L.length:Int))=False:=eq_false (by omega)
  obtain⟨u,hu,hclr⟩:=Gr.clr (P:=Try.prog) (z:=fJ) rb2 CI (by omega) (show i<M.length by omega) (by omega) (fun m=>by rw[JK];exact iW _)
  repeat' (first
   |refine St.h ?_
   |simp(disch:=first|omega|(simp only[AI];omega))only[AJ,↓AA,↓reduceIte,seval,f0,f1,f5,f6,hL2.ln,hM,d1,To,hu]
   |(with_reducible (first|apply AD|apply AE))<;>(intro hc;(try simp only[AT]at hc);(try simp only[hc]);(try simp only[AR]at hc);try omega))
  refine hclr _ fun g3 rb3 s3=>?_
  have hlen:(M.take i).length=i:=by rw[List.length_take];omega
  obtain⟨w,hw1,hw2,hw3⟩:=Gr.hi (P:=Try.prog) (k:=i) rb3 CI (by simp;omega) (by simp;omega)
  repeat' (first
   |refine St.h ?_
   |simp(disch:=first|omega|(simp only[AI];omega))only[AJ,↓AA,↓reduceIte,seval,f0,f1,f5,f6,hw3]
   |(with_reducible (first|apply AD|apply AE))<;>(intro hc;(try simp only[AT]at hc);(try simp only[hc]);(try simp only[AR]at hc);try omega))
  subst hQ
  refine⟨?_,hw2,st.trans s3⟩
  have e:(M.take i++List.replicate (M.length-i) fJ).take i=L.filter fun t=>!P t:=by
   rw[List.take_append_of_le_length (by omega),List.take_of_length_le (by omega)];exact hMi
  rw[e]at hw1
  exact hw1
 have d1:((j:Int)<(L.length:Int))=True:=eq_true (by omega)
 have gj:M.getD j default=L.getD j default:=by
  have:=congrArg (fun l=>l[0]?) hMj
  simp only[List.getElem?_drop,Nat.add_zero]at this
  rw[List.getD_eq_getElem?_getD,this,<-List.getD_eq_getElem?_getD]
 repeat' (first
  |refine St.h ?_
  |simp(disch:=first|omega|(simp only[AI];omega))only[AJ,↓AA,↓reduceIte,seval,f0,f1,f5,f6,hL2.ln,hL2.ix,hL2.la,hM,gj,d1,Int.toNat_natCast]
  |(with_reducible (first|apply AD|apply AE))<;>(intro hc;(try simp only[AT]at hc);(try simp only[hc]);(try simp only[AR]at hc);try omega))
 refine AL.own (by simp) hfg fun g3 s3 n3 o3=>?_
 repeat' (first
  |refine St.h ?_
  |simp(disch:=first|omega|(simp only[AI];omega))only[AJ,↓AA,↓reduceIte,seval,f0,f1,f5,f6]
  |(with_reducible (first|apply AD|apply AE))<;>(intro hc;(try simp only[AT]at hc);(try simp only[hc]);(try simp only[AR]at hc);try omega))
 refine ST.all o3 rfl rfl (by simp) (by simp) fun g4 o4 s4=>?_
 have s34:AW AN g2 g4:=s3.BI s4 fun q e=>by rw[e];exact Nat.le_refl _
 have rb4:=rb2.grow s34
 have st4:=st.trans (Bu s34)
 have r4:=o4.row
 repeat' (first
  |refine St.h ?_
  |simp(disch:=first|omega|(simp only[AI];omega))only[AJ,↓AA,↓reduceIte,seval,f0,f1,f5,f6,r4.ln]
  |(with_reducible (first|apply AD|apply AE))<;>(intro hc;(try simp only[AT]at hc);(try simp only[hc]);(try simp only[AR]at hc);try omega))
 refine CL.stay (hF g4 _ st4 (Bd hjl)) fun g5 s5=>?_
 have rb5:=rb4.grow s5
 have st5:=st4.trans (Bu s5)
 have o5:=o4.stay s5 fun e=>e
 have r5:=o5.row
 have hL5:=rb5.Dr
 have hMj2:∀ M':List Bq,(∀ k,j<k->M'[k]? =M[k]?)->M'.drop (j+1)=L.drop (j+1):=fun M' hk=>by
  refine List.ext_getElem? fun k=>?_
  rw[List.getElem?_drop,hk _ (by omega),List.getElem?_drop]
  have:=congrArg (fun l=>l[k+1]?) hMj
  simp only[List.getElem?_drop]at this
  rw[show j+1+k=j+(k+1)by omega];exact this
 cases hk:P (L.getD j default)with
 |true=>
  repeat' (first
   |refine St.h ?_
   |simp(disch:=first|omega|(simp only[AI];omega))only[AJ,↓AA,↓reduceIte,seval,f0,f1,f5,f6]
   |(with_reducible (first|apply AD|apply AE))<;>(intro hc;(try simp only[AT]at hc);(try simp only[hc]);(try simp only[AR]at hc);try omega))
  refine Ai hI (L.length-(j+1)) (by omega) ⟨i,j+1,M,rfl,by omega,by omega,by simp(disch:=first|omega|(simp only[AI];omega))only[AJ,↓AA,↓reduceIte,seval,f0],by simp(disch:=first|omega|(simp only[AI];omega))only[AJ,↓AA,↓reduceIte,seval,f1],by simp(disch:=first|omega|(simp only[AI];omega))only[AJ,↓AA,↓reduceIte,seval,f5],by simp(disch:=first|omega|(simp only[AI];omega))only[AJ,↓AA,↓reduceIte,seval,f6];rfl,hM,by rw[filt j hjl,hk,if_pos rfl,List.append_nil];exact hMi,hMj2 M fun _ _=>rfl,rb5,st5⟩
 |false=>
  repeat' (first
   |refine St.h ?_
   |simp(disch:=first|omega|(simp only[AI];omega))only[AJ,↓AA,↓reduceIte,seval,f0,f1,f5,f6,r5.ln,hL5.ix,hM,Int.toNat_natCast]
   |(with_reducible (first|apply AD|apply AE))<;>(intro hc;(try simp only[AT]at hc);(try simp only[hc]);(try simp only[AR]at hc);try omega))
  refine ST.gr (y:=L.getD j default) rb5 CI (by omega) (by omega) (by omega) rfl fun g6 rb6 s6=>?_
  repeat' (first
   |refine St.h ?_
   |simp(disch:=first|omega|(simp only[AI];omega))only[AJ,↓AA,↓reduceIte,seval,f0,f1,f5,f6]
   |(with_reducible (first|apply AD|apply AE))<;>(intro hc;(try simp only[AT]at hc);(try simp only[hc]);(try simp only[AR]at hc);try omega))
  refine Ai hI (L.length-(j+1)) (by omega) ⟨i+1,j+1,M.set i (L.getD j default),rfl,by omega,by omega,by simp(disch:=first|omega|(simp only[AI];omega))only[AJ,↓AA,↓reduceIte,seval,f0],by simp(disch:=first|omega|(simp only[AI];omega))only[AJ,↓AA,↓reduceIte,seval,f1],by simp(disch:=first|omega|(simp only[AI];omega))only[AJ,↓AA,↓reduceIte,seval,f5];rfl,by simp(disch:=first|omega|(simp only[AI];omega))only[AJ,↓AA,↓reduceIte,seval,f6];rfl,by rw[List.length_set];exact hM,?_,hMj2 _ fun k hk=>by rw[List.getElem?_set_ne (by omega)],rb6,st5.trans s6⟩
  rw[filt j hjl,hk,if_neg (by simp),<-hMi,List.take_succ,List.take_set_of_le (Nat.le_refl i)]
  congr 1
  rw[List.getElem?_set_self (by omega)];rfl
theorem XW {h:H} {v:V} {xs:List Int} {x:Int} (hL:Il h v xs) (hl:xs.length<=1000):A3 Try.prog 73 [v,.i .i64 x] h fun y h'=>∃ r:Int,y=.i .i64 r/\(decide (0<=r)=IH xs x)/\h'=h:=by
 refine Aw c73 (by intro hb;cases hb) (by simp) (by simp) fun Q hQ=>?_
 simp only[Ah,Nat.reduceAdd]
 repeat' (first
  |refine St.h ?_
  |simp(disch:=first|omega|(simp only[AI];omega))only[AJ,↓AA,↓reduceIte,seval,hL.ln]
  |(with_reducible (first|apply AD|apply AE))<;>(intro hc;(try simp only[AT]at hc);(try simp only[hc]);(try simp only[AR]at hc);try omega))
 refine Ok.lp (fun m t g=>∃ i:Nat,m=xs.length-i/\i<=xs.length/\h=g/\get 0 t=v/\get 1 t=.i .i64 x/\get 7 t=.i .i64 (xs.length:Int)/\get 8 t=.i .i64 (i:Int)/\(∀ k,k<i->xs.getD k 0≠x)) xs.length ?_ ?_
 ·simp(disch:=first|omega|(simp only[AI];omega))only[AJ,↓AA,↓reduceIte,seval,hL.ln]
  refine⟨0,by omega,by omega,?_⟩
  refine⟨?_,?_,?_,?_,?_,fun k hk=>by omega⟩
  all_goals first|trivial|rfl
 rintro I hI m t g ⟨i,rfl,hi,rfl,f0,f1,f7,f8,hno⟩
 by_cases hil:i<xs.length
 case neg=>
  obtain rfl:i=xs.length:=by omega
  have d1:((xs.length:Int)<(xs.length:Int))=False:=eq_false (by omega)
  repeat' (first
   |refine St.h ?_
   |simp(disch:=first|omega|(simp only[AI];omega))only[AJ,↓AA,↓reduceIte,seval,f0,f1,f7,f8,d1]
   |(with_reducible (first|apply AD|apply AE))<;>(intro hc;(try simp only[AT]at hc);(try simp only[hc]);(try simp only[AR]at hc);try omega))
  subst hQ
  refine⟨-1,rfl,?_,rfl⟩
  refine Eq.symm (List.any_eq_false.2 fun y hy=>?_)
  obtain⟨k,hk,rfl⟩:=List.mem_iff_getElem.1 hy
  have:=hno k hk
  simp[List.getD,hk]at this
  simpa using this
 have d1:((i:Int)<(xs.length:Int))=True:=eq_true (by omega)
 by_cases hx:xs.getD i 0=x
 ·have d2:(x=xs.getD i 0)=True:=eq_true hx.symm
  repeat' (first
   |refine St.h ?_
   |simp(disch:=first|omega|(simp only[AI];omega))only[AJ,↓AA,↓reduceIte,seval,f0,f1,f7,f8,d1,d2,hL.ix,hL.ld,Int.toNat_natCast]
   |(with_reducible (first|apply AD|apply AE))<;>(intro hc;(try simp only[AT]at hc);(try simp only[hc]);(try simp only[AR]at hc);try omega))
  subst hQ
  refine⟨i,rfl,?_,rfl⟩
  rw[decide_eq_true (by omega)]
  refine Eq.symm (List.any_eq_true.2 ⟨xs.getD i 0,?_,by simpa using hx⟩)
  simp[List.getD,hil]
 ·have d2:(x=xs.getD i 0)=False:=eq_false (Ne.symm hx)
  repeat' (first
   |refine St.h ?_
   |simp(disch:=first|omega|(simp only[AI];omega))only[AJ,↓AA,↓reduceIte,seval,f0,f1,f7,f8,d1,d2,hL.ix,hL.ld,Int.toNat_natCast]
   |(with_reducible (first|apply AD|apply AE))<;>(intro hc;(try simp only[AT]at hc);(try simp only[hc]);(try simp only[AR]at hc);try omega))
  refine Ai hI (xs.length-(i+1)) (by omega) ⟨i+1,rfl,by omega,rfl,by simp(disch:=first|omega|(simp only[AI];omega))only[AJ,↓AA,↓reduceIte,seval,f0],by simp(disch:=first|omega|(simp only[AI];omega))only[AJ,↓AA,↓reduceIte,seval,f1],by simp(disch:=first|omega|(simp only[AI];omega))only[AJ,↓AA,↓reduceIte,seval,f7],by simp(disch:=first|omega|(simp only[AI];omega))only[AJ,↓AA,↓reduceIte,seval,f8];rfl,fun k k1=>?_⟩
  by_cases e:k=i
  ·rw[e];exact hx
  ·exact hno k (by omega)
theorem Vh {h:H} {v:V} {xs:List Int} {x:Int} (hL:Il h v xs) (hl:xs.length<=1000):A3 Try.prog 61 [v,.i .i64 x] h fun y h'=>y=.b (IH xs x)/\h'=h:=by
 refine Aw c61 (by intro hb;cases hb) (by simp) (by simp) fun Q hQ=>?_
 simp only[Ah,Nat.reduceAdd]
 repeat' (first
  |refine St.h ?_
  |simp(disch:=first|omega|(simp only[AI];omega))only[AJ,↓AA,↓reduceIte,seval]
  |(with_reducible (first|apply AD|apply AE))<;>(intro hc;(try simp only[AT]at hc);(try simp only[hc]);(try simp only[AR]at hc);try omega))
 refine CL.mk (XW hL hl) ?_
 rintro _ g ⟨r,rfl,hr,rfl⟩
 repeat' (first
  |refine St.h ?_
  |simp(disch:=first|omega|(simp only[AI];omega))only[AJ,↓AA,↓reduceIte,seval]
  |(with_reducible (first|apply AD|apply AE))<;>(intro hc;(try simp only[AT]at hc);(try simp only[hc]);(try simp only[AR]at hc);try omega))
 subst hQ
 exact⟨congrArg V.b hr,rfl⟩
end Go.Proofs.Ytobfgempjekjpaa
set_option maxRecDepth 100000
set_option maxHeartbeats 8000000
namespace Go.Proofs.Ytobfgempjekjpaa
open Go Go.Ev
theorem IL {h:H} {a n b:Int}:A3 Try.prog 50 [.i .i64 a,.i .i64 n,.i .i64 b] h fun y h'=>y=.b (decide (a<=n/\n<=b))/\h'=h:=by
 refine Aw c50 (by intro hb;cases hb) (by simp) (by simp) fun Q hQ=>?_
 simp only[Ah,Nat.reduceAdd]
 by_cases h1:a<=n
 ·have d1:=eq_true h1
  repeat' (first
   |refine St.h ?_
   |simp(disch:=first|omega|(simp only[AI];omega))only[AJ,↓AA,↓reduceIte,seval,d1]
   |(with_reducible (first|apply AD|apply AE))<;>(intro hc;(try simp only[AT]at hc);(try simp only[hc]);(try simp only[AR]at hc);try omega))
  subst hQ
  exact⟨congrArg V.b (by simp[h1]),rfl⟩
 ·have d1:=eq_false h1
  repeat' (first
   |refine St.h ?_
   |simp(disch:=first|omega|(simp only[AI];omega))only[AJ,↓AA,↓reduceIte,seval,d1]
   |(with_reducible (first|apply AD|apply AE))<;>(intro hc;(try simp only[AT]at hc);(try simp only[hc]);(try simp only[AR]at hc);try omega))
  subst hQ
  exact⟨congrArg V.b (by simp[h1]),rfl⟩
theorem T9 {h:H} {s:List UInt8}:A3 Try.prog 65 [sv s] h fun y h'=>y=.b (decide ((1:Int)<=(s.length:Int)/\(s.length:Int)<=13))/\h'=h:=by
 refine Aw c65 (by intro hb;cases hb) (by simp) (by simp) fun Q hQ=>?_
 simp only[Ah,Nat.reduceAdd]
 repeat' (first
  |refine St.h ?_
  |simp(disch:=first|omega|(simp only[AI];omega))only[AJ,↓AA,↓reduceIte,seval]
  |(with_reducible (first|apply AD|apply AE))<;>(intro hc;(try simp only[AT]at hc);(try simp only[hc]);(try simp only[AR]at hc);try omega))
 refine CL.pure IL ?_
 repeat' (first
  |refine St.h ?_
  |simp(disch:=first|omega|(simp only[AI];omega))only[AJ,↓AA,↓reduceIte,seval]
  |(with_reducible (first|apply AD|apply AE))<;>(intro hc;(try simp only[AT]at hc);(try simp only[hc]);(try simp only[AR]at hc);try omega))
 subst hQ
 exact⟨rfl,rfl⟩
theorem Wi (t:Bq):Fy t=(decide (1<=t.id/\t.id<=1000000)&&(decide (0<=t.A7/\t.A7<=1)&&(decide ((1:Int)<=(t.fst.length:Int)/\(t.fst.length:Int)<=13)&&(decide ((1:Int)<=(t.DT.length:Int)/\(t.DT.length:Int)<=13)&&((Op.bytesLess t.fst t.DT||decide (t.fst=t.DT))&&decide (1<=t.DN)))))):=by
 rw[SX,Bool.eq_iff_iff,CU]
 simp only[Bool.and_eq_true,decide_eq_true_eq,Bool.not_eq_true']
 constructor
 ·rintro⟨a,b,c,d,e,f,g⟩;exact⟨⟨a,b⟩,by omega,by omega,by omega,f,g⟩
 ·rintro⟨⟨a,b⟩,c,d,e,f,g⟩;exact⟨a,b,by omega,by omega,by omega,f,g⟩
theorem bI {h:H} {t:Bq} (hf:B.val h.floor<=B.val h.next):A3 Try.prog 49 [.a [.i .i64 t.id,.i .i64 t.A7,sv t.fst,sv t.DT,.i .i64 t.DN]] h fun y h'=>y=.b (Fy t)/\AW AN h h':=by
 rw[Wi]
 refine Aw c49 (by intro hb;cases hb) (by simp) (by simp) fun Q hQ=>?_
 simp only[Ah,Nat.reduceAdd]
 repeat' (first
  |refine St.h ?_
  |simp(disch:=first|omega|(simp only[AI];omega))only[AJ,↓AA,↓reduceIte,seval]
  |(with_reducible (first|apply AD|apply AE))<;>(intro hc;(try simp only[AT]at hc);(try simp only[hc]);(try simp only[AR]at hc);try omega))
 refine AL.own (by simp) hf fun h1 s1 n1 o1=>?_
 have r1:=o1.row
 repeat' (first
  |refine St.h ?_
  |simp(disch:=first|omega|(simp only[AI];omega))only[AJ,↓AA,↓reduceIte,seval,r1.l1]
  |(with_reducible (first|apply AD|apply AE))<;>(intro hc;(try simp only[AT]at hc);(try simp only[hc]);(try simp only[AR]at hc);try omega))
 refine CL.pure IL ?_
 cases c1:decide (1<=t.id/\t.id<=1000000)with
 |false=>
  repeat' (first
   |refine St.h ?_
   |simp(disch:=first|omega|(simp only[AI];omega))only[AJ,↓AA,↓reduceIte,seval,c1]
   |(with_reducible (first|apply AD|apply AE))<;>(intro hc;(try simp only[AT]at hc);(try simp only[hc]);(try simp only[AR]at hc);try omega))
  subst hQ
  exact⟨congrArg V.b (by rw[c1];rfl),s1⟩
 |true=>
 repeat' (first
  |refine St.h ?_
  |simp(disch:=first|omega|(simp only[AI];omega))only[AJ,↓AA,↓reduceIte,seval,c1,r1.l1]
  |(with_reducible (first|apply AD|apply AE))<;>(intro hc;(try simp only[AT]at hc);(try simp only[hc]);(try simp only[AR]at hc);try omega))
 refine CL.pure IL ?_
 cases c2:decide (0<=t.A7/\t.A7<=1)with
 |false=>
  repeat' (first
   |refine St.h ?_
   |simp(disch:=first|omega|(simp only[AI];omega))only[AJ,↓AA,↓reduceIte,seval,c2]
   |(with_reducible (first|apply AD|apply AE))<;>(intro hc;(try simp only[AT]at hc);(try simp only[hc]);(try simp only[AR]at hc);try omega))
  subst hQ
  exact⟨congrArg V.b (by rw[c1,c2];rfl),s1⟩
 |true=>
 repeat' (first
  |refine St.h ?_
  |simp(disch:=first|omega|(simp only[AI];omega))only[AJ,↓AA,↓reduceIte,seval,c2,r1.l1]
  |(with_reducible (first|apply AD|apply AE))<;>(intro hc;(try simp only[AT]at hc);(try simp only[hc]);(try simp only[AR]at hc);try omega))
 refine CL.pure T9 ?_
 cases c3:decide ((1:Int)<=(t.fst.length:Int)/\(t.fst.length:Int)<=13)with
 |false=>
  repeat' (first
   |refine St.h ?_
   |simp(disch:=first|omega|(simp only[AI];omega))only[AJ,↓AA,↓reduceIte,seval,c3]
   |(with_reducible (first|apply AD|apply AE))<;>(intro hc;(try simp only[AT]at hc);(try simp only[hc]);(try simp only[AR]at hc);try omega))
  subst hQ
  exact⟨congrArg V.b (by rw[c1,c2,c3];rfl),s1⟩
 |true=>
 repeat' (first
  |refine St.h ?_
  |simp(disch:=first|omega|(simp only[AI];omega))only[AJ,↓AA,↓reduceIte,seval,c3,r1.l1]
  |(with_reducible (first|apply AD|apply AE))<;>(intro hc;(try simp only[AT]at hc);(try simp only[hc]);(try simp only[AR]at hc);try omega))
 refine CL.pure T9 ?_
 cases c4:decide ((1:Int)<=(t.DT.length:Int)/\(t.DT.length:Int)<=13)with
 |false=>
  repeat' (first
   |refine St.h ?_
   |simp(disch:=first|omega|(simp only[AI];omega))only[AJ,↓AA,↓reduceIte,seval,c4]
   |(with_reducible (first|apply AD|apply AE))<;>(intro hc;(try simp only[AT]at hc);(try simp only[hc]);(try simp only[AR]at hc);try omega))
  subst hQ
  exact⟨congrArg V.b (by rw[c1,c2,c3,c4];rfl),s1⟩
 |true=>
 cases c5:(Op.bytesLess t.fst t.DT||decide (t.fst=t.DT))with
 |false=>
  repeat' (first
   |refine St.h ?_
   |simp(disch:=first|omega|(simp only[AI];omega))only[AJ,↓AA,↓reduceIte,seval,c4,c5,r1.l1]
   |(with_reducible (first|apply AD|apply AE))<;>(intro hc;(try simp only[AT]at hc);(try simp only[hc]);(try simp only[AR]at hc);try omega))
  subst hQ
  exact⟨congrArg V.b (by rw[c1,c2,c3,c4,c5];rfl),s1⟩
 |true=>
  repeat' (first
   |refine St.h ?_
   |simp(disch:=first|omega|(simp only[AI];omega))only[AJ,↓AA,↓reduceIte,seval,c4,c5,r1.l1]
   |(with_reducible (first|apply AD|apply AE))<;>(intro hc;(try simp only[AT]at hc);(try simp only[hc]);(try simp only[AR]at hc);try omega))
  subst hQ
  exact⟨congrArg V.b (by rw[c1,c2,c3,c4,c5];rfl),s1⟩
/--an edit in memory -/
def Oz (h:H) (g c:V) (e:D4):Prop:=Il h g e.gone/\FQ h c e.AU
theorem Oz.grow {h h':H} {g c:V} {e:D4} (a:Oz h g c e) (s:AW AN h h'):Oz h' g c e:=⟨a.1.grow s,a.2.grow s⟩
theorem KG (e:D4):G2 e=(decide (e.gone.length<=40)&&(decide (e.AU.length<=40)&&(IB e.AU e.AU.length&&(decide (0<=e.log/\e.log<=1000000)&&decide (0<=e.seq/\e.seq<=1000000))))):=by
 unfold G2;simp only[Bool.and_assoc]
theorem QG {h:H} {g c:V} {e:D4} (a:Oz h g c e) (hl:e.gone.length<=100000) (hl2:e.AU.length<=100000) (hf:B.val h.floor<=B.val h.next):A3 Try.prog 31 [.a [g,c,.i .i64 e.log,.i .i64 e.seq]] h fun y h'=>y=.b (G2 e)/\AW AN h h':=by
 rw[KG]
 refine Aw c31 (by intro hb;cases hb) (by simp) (by simp) fun Q hQ=>?_
 simp only[Ah,Nat.reduceAdd]
 repeat' (first
  |refine St.h ?_
  |simp(disch:=first|omega|(simp only[AI];omega))only[AJ,↓AA,↓reduceIte,seval]
  |(with_reducible (first|apply AD|apply AE))<;>(intro hc;(try simp only[AT]at hc);(try simp only[hc]);(try simp only[AR]at hc);try omega))
 refine AL.own (by simp) hf fun h1 s1 n1 o1=>?_
 have r1:=o1.row
 have a1:=a.grow s1
 by_cases hg:e.gone.length<=40
 case neg=>
  have d1:((40:Int)<(e.gone.length:Int))=True:=eq_true (by omega)
  repeat' (first
   |refine St.h ?_
   |simp(disch:=first|omega|(simp only[AI];omega))only[AJ,↓AA,↓reduceIte,seval,r1.l1,a1.1.ln,d1]
   |(with_reducible (first|apply AD|apply AE))<;>(intro hc;(try simp only[AT]at hc);(try simp only[hc]);(try simp only[AR]at hc);try omega))
  subst hQ
  exact⟨congrArg V.b (by rw[decide_eq_false hg];rfl),s1⟩
 have d1:((40:Int)<(e.gone.length:Int))=False:=eq_false (by omega)
 by_cases hc:e.AU.length<=40
 case neg=>
  have d2:((40:Int)<(e.AU.length:Int))=True:=eq_true (by omega)
  repeat' (first
   |refine St.h ?_
   |simp(disch:=first|omega|(simp only[AI];omega))only[AJ,↓AA,↓reduceIte,seval,r1.l1,a1.1.ln,a1.2.ln,d1,d2]
   |(with_reducible (first|apply AD|apply AE))<;>(intro hc;(try simp only[AT]at hc);(try simp only[hc]);(try simp only[AR]at hc);try omega))
  subst hQ
  exact⟨congrArg V.b (by rw[decide_eq_true hg,decide_eq_false hc];rfl),s1⟩
 have d2:((40:Int)<(e.AU.length:Int))=False:=eq_false (by omega)
 have fin:∀ q,(IB e.AU e.AU.length&&(decide (0<=e.log/\e.log<=1000000)&&decide (0<=e.seq/\e.seq<=1000000)))=q->(decide (e.gone.length<=40)&&(decide (e.AU.length<=40)&&(IB e.AU e.AU.length&&(decide (0<=e.log/\e.log<=1000000)&&decide (0<=e.seq/\e.seq<=1000000)))))=q:=fun q hq=>by rw[decide_eq_true hg,decide_eq_true hc,hq];rfl
 repeat' (first
  |refine St.h ?_
  |simp(disch:=first|omega|(simp only[AI];omega))only[AJ,↓AA,↓reduceIte,seval,r1.l1,a1.1.ln,a1.2.ln,d1,d2]
  |(with_reducible (first|apply AD|apply AE))<;>(intro hc;(try simp only[AT]at hc);(try simp only[hc]);(try simp only[AR]at hc);try omega))
 refine Ok.lp (fun m t g=>∃ i:Nat,m=e.AU.length-i/\i<=e.AU.length/\get 1 t=.p h.next 0 0 4/\get 16 t=c/\get 17 t=.i .i64 (e.AU.length:Int)/\get 18 t=.i .i64 (i:Int)/\IB e.AU i=true/\AW AN h1 g) e.AU.length ?_ ?_
 ·simp(disch:=first|omega|(simp only[AI];omega))only[AJ,↓AA,↓reduceIte,seval]
  refine⟨0,by omega,by omega,?_⟩
  refine⟨?_,?_,?_,?_,rfl,AW.refl _ _⟩
  all_goals first|trivial|rfl
 rintro I hI m t g2 ⟨i,rfl,hi,f1,f16,f17,f18,hup,st⟩
 have o2:=o1.stay st fun e=>e
 have r2:=o2.row
 have a2:=a1.grow st
 have hf2:=st.fl (s1.fl hf)
 by_cases hil:i<e.AU.length
 case neg=>
  obtain rfl:i=e.AU.length:=by omega
  have d3:((e.AU.length:Int)<(e.AU.length:Int))=False:=eq_false (by omega)
  repeat' (first
   |refine St.h ?_
   |simp(disch:=first|omega|(simp only[AI];omega))only[AJ,↓AA,↓reduceIte,seval,f1,f16,f17,f18,d3,r2.l1]
   |(with_reducible (first|apply AD|apply AE))<;>(intro hc;(try simp only[AT]at hc);(try simp only[hc]);(try simp only[AR]at hc);try omega))
  refine CL.pure IL ?_
  cases c1:decide (0<=e.log/\e.log<=1000000)with
  |false=>
   repeat' (first
    |refine St.h ?_
    |simp(disch:=first|omega|(simp only[AI];omega))only[AJ,↓AA,↓reduceIte,seval,f1,c1]
    |(with_reducible (first|apply AD|apply AE))<;>(intro hc;(try simp only[AT]at hc);(try simp only[hc]);(try simp only[AR]at hc);try omega))
   subst hQ
   exact⟨congrArg V.b (fin _ (by rw[c1,hup];rfl)).symm,s1.trans st⟩
  |true=>
   repeat' (first
    |refine St.h ?_
    |simp(disch:=first|omega|(simp only[AI];omega))only[AJ,↓AA,↓reduceIte,seval,f1,c1,r2.l1]
    |(with_reducible (first|apply AD|apply AE))<;>(intro hc;(try simp only[AT]at hc);(try simp only[hc]);(try simp only[AR]at hc);try omega))
   refine CL.pure IL ?_
   repeat' (first
    |refine St.h ?_
    |simp(disch:=first|omega|(simp only[AI];omega))only[AJ,↓AA,↓reduceIte,seval]
    |(with_reducible (first|apply AD|apply AE))<;>(intro hc;(try simp only[AT]at hc);(try simp only[hc]);(try simp only[AR]at hc);try omega))
   subst hQ
   exact⟨congrArg V.b (fin _ (by rw[c1,hup];rfl)).symm,s1.trans st⟩
 have d3:((i:Int)<(e.AU.length:Int))=True:=eq_true (by omega)
 have no:LV e.AU i=false->(IB e.AU e.AU.length&&(decide (0<=e.log/\e.log<=1000000)&&decide (0<=e.seq/\e.seq<=1000000)))=false:=fun hx=>by rw[Qt hil hx];rfl
 repeat' (first
  |refine St.h ?_
  |simp(disch:=first|omega|(simp only[AI];omega))only[AJ,↓AA,↓reduceIte,seval,f1,f16,f17,f18,d3,a2.2.ix,a2.2.la,Int.toNat_natCast]
  |(with_reducible (first|apply AD|apply AE))<;>(intro hc;(try simp only[AT]at hc);(try simp only[hc]);(try simp only[AR]at hc);try omega))
 refine AL.own (by simp) hf2 fun g3 s3 n3 o3=>?_
 have hf3:=s3.fl hf2
 repeat' (first
  |refine St.h ?_
  |simp(disch:=first|omega|(simp only[AI];omega))only[AJ,↓AA,↓reduceIte,seval,f1,f16,f17,f18]
  |(with_reducible (first|apply AD|apply AE))<;>(intro hc;(try simp only[AT]at hc);(try simp only[hc]);(try simp only[AR]at hc);try omega))
 refine ST.all o3 rfl rfl (by simp) (by simp) fun g4 o4 s4=>?_
 have s34:AW AN g2 g4:=s3.BI s4 fun q e=>by rw[e];exact Nat.le_refl _
 have hf4:=s34.fl hf2
 have r4:=o4.row
 repeat' (first
  |refine St.h ?_
  |simp(disch:=first|omega|(simp only[AI];omega))only[AJ,↓AA,↓reduceIte,seval,f1,f16,f17,f18,r4.ln]
  |(with_reducible (first|apply AD|apply AE))<;>(intro hc;(try simp only[AT]at hc);(try simp only[hc]);(try simp only[AR]at hc);try omega))
 refine CL.stay (bI hf4) fun g5 s5=>?_
 have st5:=st.trans (s34.trans s5)
 have r5:=(o4.stay s5 fun e=>e).row
 have q5:=(o1.stay st5 fun e=>e).row
 have a5:=a1.grow st5
 cases hb:Fy (e.AU.getD i default)with
 |false=>
  repeat' (first
   |refine St.h ?_
   |simp(disch:=first|omega|(simp only[AI];omega))only[AJ,↓AA,↓reduceIte,seval,f1,f16,f17,f18]
   |(with_reducible (first|apply AD|apply AE))<;>(intro hc;(try simp only[AT]at hc);(try simp only[hc]);(try simp only[AR]at hc);try omega))
  subst hQ
  exact⟨congrArg V.b (fin _ (no (by unfold LV;rw[hb];rfl))).symm,s1.trans st5⟩
 |true=>
 by_cases h0:i=0
 ·have hu:LV e.AU i=true:=by unfold LV;rw[hb,decide_eq_true h0];rfl
  have d4:((0:Int)<(i:Int))=False:=eq_false (by omega)
  repeat' (first
   |refine St.h ?_
   |simp(disch:=first|omega|(simp only[AI];omega))only[AJ,↓AA,↓reduceIte,seval,f1,f16,f17,f18,d4]
   |(with_reducible (first|apply AD|apply AE))<;>(intro hc;(try simp only[AT]at hc);(try simp only[hc]);(try simp only[AR]at hc);try omega))
  exact Ai hI (e.AU.length-(i+1)) (by omega) ⟨i+1,rfl,by omega,by simp(disch:=first|omega|(simp only[AI];omega))only[AJ,↓AA,↓reduceIte,seval,f1],by simp(disch:=first|omega|(simp only[AI];omega))only[AJ,↓AA,↓reduceIte,seval,f16],by simp(disch:=first|omega|(simp only[AI];omega))only[AJ,↓AA,↓reduceIte,seval,f17],by simp(disch:=first|omega|(simp only[AI];omega))only[AJ,↓AA,↓reduceIte,seval,f18];rfl,by rw[HS,hup,hu];rfl,st5⟩
 ·have d4:((0:Int)<(i:Int))=True:=eq_true (by omega)
  have ei:((i:Int)-1).toNat=i-1:=by omega
  by_cases hlt:(e.AU.getD (i-1) default).id<(e.AU.getD i default).id
  ·have hu:LV e.AU i=true:=by unfold LV;rw[hb,decide_eq_true hlt,Bool.or_true];rfl
   have d5:((e.AU.getD i default).id<=(e.AU.getD (i-1) default).id)=False:=eq_false (by omega)
   repeat' (first
    |refine St.h ?_
    |simp(disch:=first|omega|(simp only[AI];omega))only[AJ,↓AA,↓reduceIte,seval,f1,f16,f17,f18,d4,d5,ei,q5.l1,r5.l1,a5.2.ix,a5.2.l0,Int.toNat_natCast]
    |(with_reducible (first|apply AD|apply AE))<;>(intro hc;(try simp only[AT]at hc);(try simp only[hc]);(try simp only[AR]at hc);try omega))
   exact Ai hI (e.AU.length-(i+1)) (by omega) ⟨i+1,rfl,by omega,by simp(disch:=first|omega|(simp only[AI];omega))only[AJ,↓AA,↓reduceIte,seval,f1],by simp(disch:=first|omega|(simp only[AI];omega))only[AJ,↓AA,↓reduceIte,seval,f16],by simp(disch:=first|omega|(simp only[AI];omega))only[AJ,↓AA,↓reduceIte,seval,f17],by simp(disch:=first|omega|(simp only[AI];omega))only[AJ,↓AA,↓reduceIte,seval,f18];rfl,by rw[HS,hup,hu];rfl,st5⟩
  ·have hu:LV e.AU i=false:=by unfold LV;rw[hb,decide_eq_false hlt,decide_eq_false h0];rfl
   have d5:((e.AU.getD i default).id<=(e.AU.getD (i-1) default).id)=True:=eq_true (by omega)
   repeat' (first
    |refine St.h ?_
    |simp(disch:=first|omega|(simp only[AI];omega))only[AJ,↓AA,↓reduceIte,seval,f1,f16,f17,f18,d4,d5,ei,q5.l1,r5.l1,a5.2.ix,a5.2.l0,Int.toNat_natCast]
    |(with_reducible (first|apply AD|apply AE))<;>(intro hc;(try simp only[AT]at hc);(try simp only[hc]);(try simp only[AR]at hc);try omega))
   subst hQ
   exact⟨congrArg V.b (fin _ (no hu)).symm,s1.trans st5⟩
def Hu (h:H) (b:B) (v:V) (S:Iy):Prop:=Ev.CE h b [v,.i .i64 S.log,.i .i64 S.seq,.i .i64 S.next]/\FQ h v S.L/\∀ q,Af v q->q≠b
theorem Hu.grow {h h':H} {b:B} {v:V} {S:Iy} (a:Hu h b v S) (s:AW AN h h'):Hu h' b v S:=⟨a.1.stay s fun e=>e,a.2.1.grow s,a.2.2⟩
theorem Hu.stay {h h':H} {p:B->Prop} {b:B} {v:V} {S:Iy} (a:Hu h b v S) (s:AW p h h') (h1:¬p b) (h2:∀ q,Af v q->¬p q):Hu h' b v S:=⟨a.1.stay s h1,Ss.stay a.2.1 s h2,a.2.2⟩
theorem Hu.lt {h:H} {b:B} {v:V} {S:Iy} (a:Hu h b v S):B.val b<B.val h.next/\∀ q,Af v q->B.val q<B.val h.next:=by
 obtain⟨⟨Ap,h1,h2,h3,h4,h5,h6,h7⟩,a2,a3⟩:=a
 refine⟨h6,?_⟩
 rcases a2 with⟨rfl,_⟩|⟨id,g,off,fin,cap,rfl,_,hl,_⟩
 ·rintro q ⟨_,_,_,_,_,e⟩;cases e
 ·rintro q ⟨_,_,_,_,_,e⟩;cases e;exact hl
theorem W8 {h:H} (hf:B.val h.floor<=B.val h.next):A3 Try.prog 17 [] h fun y h'=>y=.p h.next 0 0 4/\Hu h' h.next .l0 X1/\B.val h'.next=B.val h.next+1/\AW AN h h':=by
 refine Aw c17 (by intro hb;cases hb) (by simp) (by simp) fun Q hQ=>?_
 simp only[Ah,Nat.reduceAdd]
 repeat' (first
  |refine St.h ?_
  |simp(disch:=first|omega|(simp only[AI];omega))only[AJ,↓AA,↓reduceIte,seval]
  |(with_reducible (first|apply AD|apply AE))<;>(intro hc;(try simp only[AT]at hc);(try simp only[hc]);(try simp only[AR]at hc);try omega))
 refine AL.own (by simp) hf fun h1 s1 n1 o1=>?_
 repeat' (first
  |refine St.h ?_
  |simp(disch:=first|omega|(simp only[AI];omega))only[AJ,↓AA,↓reduceIte,seval]
  |(with_reducible (first|apply AD|apply AE))<;>(intro hc;(try simp only[AT]at hc);(try simp only[hc]);(try simp only[AR]at hc);try omega))
 subst hQ
 exact⟨rfl,⟨o1,Ss.nil,by rintro q ⟨_,_,_,_,_,e⟩;cases e⟩,n1,s1⟩
section
variable {h:H} {b:B} {v:V} {S:Iy}
theorem TE (a:Hu h b v S) (hl:S.L.length<=1000) (hf:B.val h.floor<=B.val h.next):A3 Try.prog 26 [.p b 0 0 4] h fun y h'=>Rt h' y S.L/\(∀ q,Af y q->B.val h.next<=B.val q)/\AW AN h h':=by
 have r:=a.1.row
 refine Aw c26 (by intro hb;cases hb) (by simp) (by simp) fun Q hQ=>?_
 simp only[Ah,Nat.reduceAdd]
 repeat' (first
  |refine St.h ?_
  |simp(disch:=first|omega|(simp only[AI];omega))only[AJ,↓AA,↓reduceIte,seval,r.l1]
  |(with_reducible (first|apply AD|apply AE))<;>(intro hc;(try simp only[AT]at hc);(try simp only[hc]);(try simp only[AR]at hc);try omega))
 refine CL.mk (Lq a.2.1 hl hf) ?_
 rintro y h1 ⟨r1,r2,r3⟩
 repeat' (first
  |refine St.h ?_
  |simp(disch:=first|omega|(simp only[AI];omega))only[AJ,↓AA,↓reduceIte,seval]
  |(with_reducible (first|apply AD|apply AE))<;>(intro hc;(try simp only[AT]at hc);(try simp only[hc]);(try simp only[AR]at hc);try omega))
 subst hQ
 exact⟨r1,r2,r3⟩
/--append(u,x) of a table -/
theorem Fc {h:H} {u:V} {M:List Bq} {x:Bq} {id:B} {N:Nx} (rb:Rt h u M) (o:Ev.CE h id (LZ x)) (hl:M.length<=10000) (hf:B.val h.floor<=B.val h.next)
 (k:∀ u' h',Rt h' u' (M++[x])->AW (Af u) h h'->(∀ i,Af u' i->Af u i\/B.val h.next<=B.val i)->N.go Try.prog u' h'):AP Try.prog 57 5 u (.l id 0 0 1 5 (some 1)) h N:=
 AP.gr (X:=[x]) rb CI (by omega) (fun k=>by
  have:=J6 (size:=5) (DN:=1) (fin:=5) (cap:=some 1) o.row rfl (Nat.le_refl _) (by omega) (by show 5<=5;omega) k
  rw[this];simp[List.flatMap_cons]) (iW _) (by simp) (by simp;omega) hf k
theorem SW {k:Int} (a:Hu h b v S) (hl:S.L.length<=1000) (hf:B.val h.floor<=B.val h.next):A3 Try.prog 25 [.p b 0 0 4,.i .i64 k] h fun y h'=>Rt h' y (S.L.filter fun t=>decide (t.A7=k))/\(∀ q,Af y q->B.val h.next<=B.val q)/\AW AN h h':=by
 have r:=a.1.row
 have filt:∀ j,j<S.L.length->(S.L.take (j+1)).filter (fun t=>decide (t.A7=k))=(S.L.take j).filter (fun t=>decide (t.A7=k))++(if (S.L.getD j default).A7=k then [S.L.getD j default]else []):=fun j hj=>by
  have:S.L.take (j+1)=S.L.take j++[S.L.getD j default]:=by rw[List.take_succ];simp[List.getD,hj]
  rw[this,List.filter_append]
  by_cases hb:(S.L.getD j default).A7=k
  ·rw[List.filter_cons,decide_eq_true hb,if_pos hb];rfl
  ·rw[List.filter_cons,decide_eq_false hb,if_neg hb];rfl
 refine Aw c25 (by intro hb;cases hb) (by simp) (by simp) fun Q hQ=>?_
 simp only[Ah,Nat.reduceAdd]
 repeat' (first
  |refine St.h ?_
  |simp(disch:=first|omega|(simp only[AI];omega))only[AJ,↓AA,↓reduceIte,seval,r.l1,a.2.1.ln]
  |(with_reducible (first|apply AD|apply AE))<;>(intro hc;(try simp only[AT]at hc);(try simp only[hc]);(try simp only[AR]at hc);try omega))
 refine Ok.lp (fun m t g=>∃ (i:Nat) (u:V),m=S.L.length-i/\i<=S.L.length/\get 1 t=.i .i64 k/\get 5 t=u/\get 11 t=v/\get 12 t=.i .i64 (S.L.length:Int)/\get 13 t=.i .i64 (i:Int)/\Rt g u ((S.L.take i).filter fun t=>decide (t.A7=k))/\(∀ q,Af u q->B.val h.next<=B.val q)/\AW AN h g) S.L.length ?_ ?_
 ·simp(disch:=first|omega|(simp only[AI];omega))only[AJ,↓AA,↓reduceIte,seval]
  refine⟨0,.l0,by omega,by omega,?_⟩
  refine⟨?_,?_,?_,?_,?_,Gr.nil,?_,AW.refl _ _⟩
  rotate_right
  ·rintro i ⟨_,_,_,_,_,e⟩;cases e
  all_goals first|trivial|rfl
 rintro I hI m t g ⟨i,u,rfl,hi,f1,f5,f11,f12,f13,bu,own,st⟩
 have hfg:=st.fl hf
 have Lg:=a.2.1.grow st
 by_cases hil:i<S.L.length
 case neg=>
  obtain rfl:i=S.L.length:=by omega
  rw[List.take_length]at bu
  have d1:((S.L.length:Int)<(S.L.length:Int))=False:=eq_false (by omega)
  repeat' (first
   |refine St.h ?_
   |simp(disch:=first|omega|(simp only[AI];omega))only[AJ,↓AA,↓reduceIte,seval,f1,f5,f11,f12,f13,d1]
   |(with_reducible (first|apply AD|apply AE))<;>(intro hc;(try simp only[AT]at hc);(try simp only[hc]);(try simp only[AR]at hc);try omega))
  subst hQ
  exact⟨bu,own,st⟩
 have d1:((i:Int)<(S.L.length:Int))=True:=eq_true (by omega)
 repeat' (first
  |refine St.h ?_
  |simp(disch:=first|omega|(simp only[AI];omega))only[AJ,↓AA,↓reduceIte,seval,f1,f5,f11,f12,f13,d1,Lg.ix,Lg.la,Int.toNat_natCast]
  |(with_reducible (first|apply AD|apply AE))<;>(intro hc;(try simp only[AT]at hc);(try simp only[hc]);(try simp only[AR]at hc);try omega))
 refine AL.own (by simp) hfg fun g1 t1 _ o1=>?_
 have hf1:=t1.fl hfg
 repeat' (first
  |refine St.h ?_
  |simp(disch:=first|omega|(simp only[AI];omega))only[AJ,↓AA,↓reduceIte,seval,f1,f5,f11,f12,f13]
  |(with_reducible (first|apply AD|apply AE))<;>(intro hc;(try simp only[AT]at hc);(try simp only[hc]);(try simp only[AR]at hc);try omega))
 refine ST.all o1 rfl rfl (by simp) (by simp) fun g2 o2 t2=>?_
 have tt:AW AN g g2:=t1.BI t2 fun q hq=>by rw[hq];exact Nat.le_refl _
 have hf2:=tt.fl hfg
 have b2:=bu.grow tt
 have r2:=o2.row
 have hlen:((S.L.take i).filter fun t=>decide (t.A7=k)).length<=1000:=by
  have:=List.length_filter_le (fun t:Bq=>decide (t.A7=k)) (S.L.take i)
  rw[List.length_take]at this;omega
 by_cases hk:(S.L.getD i default).A7=k
 ·have d2:=eq_true hk
  repeat' (first
   |refine St.h ?_
   |simp(disch:=first|omega|(simp only[AI];omega))only[AJ,↓AA,↓reduceIte,seval,f1,f5,f11,f12,f13,d2,r2.l1,r2.ln]
   |(with_reducible (first|apply AD|apply AE))<;>(intro hc;(try simp only[AT]at hc);(try simp only[hc]);(try simp only[AR]at hc);try omega))
  refine AL.own (by simp) hf2 fun g3 t3 _ o3=>?_
  repeat' (first
   |refine St.h ?_
   |simp(disch:=first|omega|(simp only[AI];omega))only[AJ,↓AA,↓reduceIte,seval,f1,f5,f11,f12,f13]
   |(with_reducible (first|apply AD|apply AE))<;>(intro hc;(try simp only[AT]at hc);(try simp only[hc]);(try simp only[AR]at hc);try omega))
  refine Fc (x:=S.L.getD i default) (b2.grow t3) o3 (by omega) (t3.fl hf2) fun u4 g4 b4 t4 own4=>?_
  repeat' (first
   |refine St.h ?_
   |simp(disch:=first|omega|(simp only[AI];omega))only[AJ,↓AA,↓reduceIte,seval,f1,f5,f11,f12,f13]
   |(with_reducible (first|apply AD|apply AE))<;>(intro hc;(try simp only[AT]at hc);(try simp only[hc]);(try simp only[AR]at hc);try omega))
  refine Ai hI (S.L.length-(i+1)) (by omega) ⟨i+1,u4,rfl,by omega,by simp(disch:=first|omega|(simp only[AI];omega))only[AJ,↓AA,↓reduceIte,seval,f1],by simp(disch:=first|omega|(simp only[AI];omega))only[AJ,↓AA,↓reduceIte,seval],by simp(disch:=first|omega|(simp only[AI];omega))only[AJ,↓AA,↓reduceIte,seval,f11],by simp(disch:=first|omega|(simp only[AI];omega))only[AJ,↓AA,↓reduceIte,seval,f12],by simp(disch:=first|omega|(simp only[AI];omega))only[AJ,↓AA,↓reduceIte,seval,f13];rfl,by rw[filt i hil,if_pos hk];exact b4,fun q hq=>?_,(st.trans (tt.trans t3)).BI t4 fun q hq=>own q hq⟩
  rcases own4 q hq with h5|h5
  ·exact own q h5
  ·exact Nat.le_trans (st.trans (tt.trans t3)).next h5
 ·have d2:=eq_false hk
  repeat' (first
   |refine St.h ?_
   |simp(disch:=first|omega|(simp only[AI];omega))only[AJ,↓AA,↓reduceIte,seval,f1,f5,f11,f12,f13,d2,r2.l1,r2.ln]
   |(with_reducible (first|apply AD|apply AE))<;>(intro hc;(try simp only[AT]at hc);(try simp only[hc]);(try simp only[AR]at hc);try omega))
  exact Ai hI (S.L.length-(i+1)) (by omega) ⟨i+1,u,rfl,by omega,by simp(disch:=first|omega|(simp only[AI];omega))only[AJ,↓AA,↓reduceIte,seval,f1],by simp(disch:=first|omega|(simp only[AI];omega))only[AJ,↓AA,↓reduceIte,seval,f5],by simp(disch:=first|omega|(simp only[AI];omega))only[AJ,↓AA,↓reduceIte,seval,f11],by simp(disch:=first|omega|(simp only[AI];omega))only[AJ,↓AA,↓reduceIte,seval,f12],by simp(disch:=first|omega|(simp only[AI];omega))only[AJ,↓AA,↓reduceIte,seval,f13];rfl,by rw[filt i hil,if_neg hk,List.append_nil];exact b2,own,st.trans tt⟩
theorem KO {k:Int} (a:Hu h b v S) (hl:S.L.length<=1000) (hf:B.val h.floor<=B.val h.next):A3 Try.prog 25 [.p b 0 0 4,.i .i64 k] h fun y h'=>FQ h' y (S.L.filter fun t=>decide (t.A7=k))/\AW AN h h':=(SW a hl hf).mono fun _ _ ⟨p,_,q⟩=>⟨p.Dr,q⟩
end
end Go.Proofs.Ytobfgempjekjpaa
set_option maxRecDepth 100000
set_option maxHeartbeats 8000000
namespace Go.Ev
open Go
theorem FQ.ix0 {P:Program} {h g':H} {N:Nx} {v:V} {L:List Bq} (a:FQ h v L) (hi:0<L.length):IX P 5 v 0 g' N=N.go P (.p (GV v) (lg v) (Ct v) (Cv v)) g':=by have:=a.ix (P:=P) (N:=N) (g':=g') hi;rwa [Nat.zero_mul,Nat.add_zero]at this
theorem FQ.l00 {P:Program} {h:H} {N:Nx} {v:V} {L:List Bq} (a:FQ h v L) (hi:0<L.length):L1 P (GV v) (lg v) (Ct v) (Cv v) h N=N.go P (.i .i64 (L.getD 0 default).id) h:=by have:=a.l0 (P:=P) (N:=N) hi;rwa [Nat.zero_mul,Nat.add_zero]at this
end Go.Ev
namespace Go.Proofs.Ytobfgempjekjpaa
open Go Go.Ev
section
variable {h:H} {b:B} {v g c:V} {S:Iy} {e:D4}
theorem YR {q:B} {x:Int} {t:Bq} (o:Ev.CE h q [.i .i64 x]) (hf:B.val h.floor<=B.val h.next):A3 Try.prog 58 [.a [.i .i64 t.id,.i .i64 t.A7,sv t.fst,sv t.DT,.i .i64 t.DN],.p q 0 0 1] h fun y h'=>y=.b (decide (t.id=x))/\AW AN h h':=by
 refine Aw c58 (by intro hb;cases hb) (by simp) (by simp) fun Q hQ=>?_
 simp only[Ah,Nat.reduceAdd]
 repeat' (first
  |refine St.h ?_
  |simp(disch:=first|omega|(simp only[AI];omega))only[AJ,↓AA,↓reduceIte,seval]
  |(with_reducible (first|apply AD|apply AE))<;>(intro hc;(try simp only[AT]at hc);(try simp only[hc]);(try simp only[AR]at hc);try omega))
 refine AL.own (by simp) hf fun h1 s1 n1 o1=>?_
 have r1:=o1.row
 have q1:=(o.stay s1 fun e=>e).row
 repeat' (first
  |refine St.h ?_
  |simp(disch:=first|omega|(simp only[AI];omega))only[AJ,↓AA,↓reduceIte,seval,r1.l1,q1.l1]
  |(with_reducible (first|apply AD|apply AE))<;>(intro hc;(try simp only[AT]at hc);(try simp only[hc]);(try simp only[AR]at hc);try omega))
 subst hQ
 exact⟨rfl,s1⟩
theorem R7 {xs:List Int} (a:Hu h b v S) (hg:Il h g xs) (hx:xs.length<=1000) (hl:S.L.length<=1000) (hf:B.val h.floor<=B.val h.next):A3 Try.prog 42 [.p b 0 0 4,g] h fun y h'=>y=.b (Oo S.L xs)/\AW AN h h':=by
 refine Aw c42 (by intro hb;cases hb) (by simp) (by simp) fun Q hQ=>?_
 simp only[Ah,Nat.reduceAdd]
 repeat' (first
  |refine St.h ?_
  |simp(disch:=first|omega|(simp only[AI];omega))only[AJ,↓AA,↓reduceIte,seval,hg.ln]
  |(with_reducible (first|apply AD|apply AE))<;>(intro hc;(try simp only[AT]at hc);(try simp only[hc]);(try simp only[AR]at hc);try omega))
 refine Ok.lp (fun m t g'=>∃ i:Nat,m=xs.length-i/\i<=xs.length/\get 0 t=.p b 0 0 4/\get 7 t=g/\get 8 t=.i .i64 (xs.length:Int)/\get 9 t=.i .i64 (i:Int)/\(∀ k,k<i->S.L.any (fun t=>decide (t.id=xs.getD k 0))=true)/\AW AN h g') xs.length ?_ ?_
 ·simp(disch:=first|omega|(simp only[AI];omega))only[AJ,↓AA,↓reduceIte,seval]
  refine⟨0,by omega,by omega,?_⟩
  refine⟨?_,?_,?_,?_,fun k hk=>by omega,AW.refl _ _⟩
  all_goals first|trivial|rfl
 rintro I hI m t g2 ⟨i,rfl,hi,f0,f7,f8,f9,hall,st⟩
 have a2:=a.grow st
 have q2:=a2.1.row
 have hg2:=hg.grow st
 have hf2:=st.fl hf
 by_cases hil:i<xs.length
 case neg=>
  obtain rfl:i=xs.length:=by omega
  have d1:((xs.length:Int)<(xs.length:Int))=False:=eq_false (by omega)
  repeat' (first
   |refine St.h ?_
   |simp(disch:=first|omega|(simp only[AI];omega))only[AJ,↓AA,↓reduceIte,seval,f0,f7,f8,f9,d1]
   |(with_reducible (first|apply AD|apply AE))<;>(intro hc;(try simp only[AT]at hc);(try simp only[hc]);(try simp only[AR]at hc);try omega))
  subst hQ
  refine⟨congrArg V.b (Eq.symm (List.all_eq_true.2 fun x hx=>?_)),st⟩
  obtain⟨k,hk,rfl⟩:=List.mem_iff_getElem.1 hx
  have:=hall k hk
  rwa [List.getD_eq_getElem?_getD,List.getElem?_eq_getElem hk]at this
 have d1:((i:Int)<(xs.length:Int))=True:=eq_true (by omega)
 repeat' (first
  |refine St.h ?_
  |simp(disch:=first|omega|(simp only[AI];omega))only[AJ,↓AA,↓reduceIte,seval,f0,f7,f8,f9,d1,hg2.ix,hg2.ld,Int.toNat_natCast]
  |(with_reducible (first|apply AD|apply AE))<;>(intro hc;(try simp only[AT]at hc);(try simp only[hc]);(try simp only[AR]at hc);try omega))
 refine AL.own (by simp) hf2 fun g3 s3 n3 o3=>?_
 have hf3:=s3.fl hf2
 repeat' (first
  |refine St.h ?_
  |simp(disch:=first|omega|(simp only[AI];omega))only[AJ,↓AA,↓reduceIte,seval,f0,f7,f8,f9]
  |(with_reducible (first|apply AD|apply AE))<;>(intro hc;(try simp only[AT]at hc);(try simp only[hc]);(try simp only[AR]at hc);try omega))
 refine ST.all o3 rfl rfl (by simp) (by simp) fun g4 o4 s4=>?_
 have s34:AW AN g2 g4:=s3.BI s4 fun q e=>by rw[e];exact Nat.le_refl _
 have hf4:=s34.fl hf2
 have a4:=a2.grow s34
 have q4:=a4.1.row
 repeat' (first
  |refine St.h ?_
  |simp(disch:=first|omega|(simp only[AI];omega))only[AJ,↓AA,↓reduceIte,seval,f0,f7,f8,f9,q4.l1]
  |(with_reducible (first|apply AD|apply AE))<;>(intro hc;(try simp only[AT]at hc);(try simp only[hc]);(try simp only[AR]at hc);try omega))
 refine CL.stay (UQ (P:=fun t=>decide (t.id=xs.getD i 0)) a4.2.1 hl hf4 fun k t sk ht=>YR (o4.stay sk fun e=>e) (sk.fl hf4)) fun g5 s5=>?_
 have st5:=st.trans (s34.trans s5)
 cases hb:S.L.any (fun t=>decide (t.id=xs.getD i 0))with
 |false=>
  repeat' (first
   |refine St.h ?_
   |simp(disch:=first|omega|(simp only[AI];omega))only[AJ,↓AA,↓reduceIte,seval,f0,f7,f8,f9]
   |(with_reducible (first|apply AD|apply AE))<;>(intro hc;(try simp only[AT]at hc);(try simp only[hc]);(try simp only[AR]at hc);try omega))
  subst hQ
  refine⟨congrArg V.b (Eq.symm (List.all_eq_false.2 ⟨xs.getD i 0,?_,by rw[hb];simp⟩)),st5⟩
  simp[List.getD,hil]
 |true=>
  repeat' (first
   |refine St.h ?_
   |simp(disch:=first|omega|(simp only[AI];omega))only[AJ,↓AA,↓reduceIte,seval,f0,f7,f8,f9]
   |(with_reducible (first|apply AD|apply AE))<;>(intro hc;(try simp only[AT]at hc);(try simp only[hc]);(try simp only[AR]at hc);try omega))
  refine Ai hI (xs.length-(i+1)) (by omega) ⟨i+1,rfl,by omega,by simp(disch:=first|omega|(simp only[AI];omega))only[AJ,↓AA,↓reduceIte,seval,f0],by simp(disch:=first|omega|(simp only[AI];omega))only[AJ,↓AA,↓reduceIte,seval,f7],by simp(disch:=first|omega|(simp only[AI];omega))only[AJ,↓AA,↓reduceIte,seval,f8],by simp(disch:=first|omega|(simp only[AI];omega))only[AJ,↓AA,↓reduceIte,seval,f9];rfl,fun k k1=>?_,st5⟩
  by_cases e:k=i
  ·rw[e];exact hb
  ·exact hall k (by omega)
theorem XN (a:Hu h b v S) (m:Oz h g c e) (hf:B.val h.floor<=B.val h.next):A3 Try.prog 43 [.p b 0 0 4,.a [g,c,.i .i64 e.log,.i .i64 e.seq]] h fun y h'=>y=.b (Fq S e)/\AW AN h h':=by
 refine Aw c43 (by intro hb;cases hb) (by simp) (by simp) fun Q hQ=>?_
 simp only[Ah,Nat.reduceAdd]
 repeat' (first
  |refine St.h ?_
  |simp(disch:=first|omega|(simp only[AI];omega))only[AJ,↓AA,↓reduceIte,seval]
  |(with_reducible (first|apply AD|apply AE))<;>(intro hc;(try simp only[AT]at hc);(try simp only[hc]);(try simp only[AR]at hc);try omega))
 refine AL.own (by simp) hf fun h1 s1 n1 o1=>?_
 have r1:=o1.row
 have q1:=(a.grow s1).1.row
 have m1:=m.grow s1
 have k0:((0:Int)<(e.AU.length:Int))=(0<e.AU.length):=propext (by omega)
 have hp:Fq S e=true↔((0<e.AU.length/\(e.AU.getD 0 default).id<S.next)\/(0<e.log/\e.log<S.log)\/(0<e.seq/\e.seq<S.seq)):=by
  unfold Fq;rw[Bool.or_eq_true,Bool.or_eq_true,Bool.and_eq_true,Bool.and_eq_true,Bool.and_eq_true];simp only[decide_eq_true_eq];omega
 repeat' (first
  |refine St.h ?_
  |simp(disch:=first|omega|(simp only[AI];omega))only[AJ,↓AA,↓reduceIte,seval,r1.l1,q1.l1,m1.2.ln,k0,m1.2.ix0,m1.2.l00]
  |(with_reducible (first|apply AD|apply AE))<;>(intro hc;(try simp only[AT]at hc);(try simp only[hc]);(try simp only[AR]at hc);try omega))
 all_goals
  subst hQ
  refine⟨congrArg V.b ?_,s1⟩
  rw[Bool.eq_iff_iff,hp]
  generalize (e.AU.getD 0 default).id=x at*
  simp
  omega
theorem Xw {q:B} {x y:V} {xs:List Int} {t:Bq} (o:Ev.CE h q [g,c,x,y]) (hg:Il h g xs) (hx:xs.length<=1000) (hf:B.val h.floor<=B.val h.next):A3 Try.prog 60 [.a [.i .i64 t.id,.i .i64 t.A7,sv t.fst,sv t.DT,.i .i64 t.DN],.p q 0 0 4] h fun y h'=>y=.b (IH xs t.id)/\AW AN h h':=by
 refine Aw c60 (by intro hb;cases hb) (by simp) (by simp) fun Q hQ=>?_
 simp only[Ah,Nat.reduceAdd]
 repeat' (first
  |refine St.h ?_
  |simp(disch:=first|omega|(simp only[AI];omega))only[AJ,↓AA,↓reduceIte,seval]
  |(with_reducible (first|apply AD|apply AE))<;>(intro hc;(try simp only[AT]at hc);(try simp only[hc]);(try simp only[AR]at hc);try omega))
 refine AL.own (by simp) hf fun h1 s1 n1 o1=>?_
 have r1:=o1.row
 have q1:=(o.stay s1 fun e=>e).row
 repeat' (first
  |refine St.h ?_
  |simp(disch:=first|omega|(simp only[AI];omega))only[AJ,↓AA,↓reduceIte,seval,r1.l1,q1.l1]
  |(with_reducible (first|apply AD|apply AE))<;>(intro hc;(try simp only[AT]at hc);(try simp only[hc]);(try simp only[AR]at hc);try omega))
 refine CL.pure (Vh (hg.grow s1) hx) ?_
 repeat' (first
  |refine St.h ?_
  |simp(disch:=first|omega|(simp only[AI];omega))only[AJ,↓AA,↓reduceIte,seval]
  |(with_reducible (first|apply AD|apply AE))<;>(intro hc;(try simp only[AT]at hc);(try simp only[hc]);(try simp only[AR]at hc);try omega))
 subst hQ
 exact⟨rfl,s1⟩
theorem Wv {u:V} {M:List Bq} (hM:FQ h u M) (hl:M.length<=1000) (hf:B.val h.floor<=B.val h.next):A3 Try.prog 45 [u] h fun y h'=>y=.b (G1 M)/\AW AN h h':=by
 refine Aw c45 (by intro hb;cases hb) (by simp) (by simp) fun Q hQ=>?_
 simp only[Ah,Nat.reduceAdd]
 repeat' (first
  |refine St.h ?_
  |simp(disch:=first|omega|(simp only[AI];omega))only[AJ,↓AA,↓reduceIte,seval,hM.ln]
  |(with_reducible (first|apply AD|apply AE))<;>(intro hc;(try simp only[AT]at hc);(try simp only[hc]);(try simp only[AR]at hc);try omega))
 refine Ok.lp (fun m t g'=>∃ i:Nat,m=M.length-i/\i<=M.length/\get 0 t=u/\get 5 t=u/\get 6 t=.i .i64 (M.length:Int)/\get 7 t=.i .i64 (i:Int)/\(∀ k,k<i->Hb M k=false)/\AW AN h g') M.length ?_ ?_
 ·simp(disch:=first|omega|(simp only[AI];omega))only[AJ,↓AA,↓reduceIte,seval]
  refine⟨0,by omega,by omega,?_⟩
  refine⟨?_,?_,?_,?_,fun k hk=>by omega,AW.refl _ _⟩
  all_goals first|trivial|rfl
 rintro I hI m t g2 ⟨i,rfl,hi,f0,f5,f6,f7,hall,st⟩
 have M2:=hM.grow st
 have hf2:=st.fl hf
 by_cases hil:i<M.length
 case neg=>
  obtain rfl:i=M.length:=by omega
  have d1:((M.length:Int)<(M.length:Int))=False:=eq_false (by omega)
  repeat' (first
   |refine St.h ?_
   |simp(disch:=first|omega|(simp only[AI];omega))only[AJ,↓AA,↓reduceIte,seval,f0,f5,f6,f7,d1]
   |(with_reducible (first|apply AD|apply AE))<;>(intro hc;(try simp only[AT]at hc);(try simp only[hc]);(try simp only[AR]at hc);try omega))
  subst hQ
  refine⟨congrArg V.b (Eq.symm (List.any_eq_false.2 fun k hk=>?_)),st⟩
  rw[hall k (List.mem_range.1 hk)];simp
 have d1:((i:Int)<(M.length:Int))=True:=eq_true (by omega)
 repeat' (first
  |refine St.h ?_
  |simp(disch:=first|omega|(simp only[AI];omega))only[AJ,↓AA,↓reduceIte,seval,f0,f5,f6,f7,d1,M2.ix,M2.la,Int.toNat_natCast]
  |(with_reducible (first|apply AD|apply AE))<;>(intro hc;(try simp only[AT]at hc);(try simp only[hc]);(try simp only[AR]at hc);try omega))
 refine AL.own (by simp) hf2 fun g3 s3 n3 o3=>?_
 have hf3:=s3.fl hf2
 repeat' (first
  |refine St.h ?_
  |simp(disch:=first|omega|(simp only[AI];omega))only[AJ,↓AA,↓reduceIte,seval,f0,f5,f6,f7]
  |(with_reducible (first|apply AD|apply AE))<;>(intro hc;(try simp only[AT]at hc);(try simp only[hc]);(try simp only[AR]at hc);try omega))
 refine ST.all o3 rfl rfl (by simp) (by simp) fun g4 o4 s4=>?_
 have s34:AW AN g2 g4:=s3.BI s4 fun q e=>by rw[e];exact Nat.le_refl _
 have st4:=st.trans s34
 have M4:=hM.grow st4
 have r4:=o4.row
 have yes:Hb M i=true->G1 M=true:=fun hx=>List.any_eq_true.2 ⟨i,List.mem_range.2 hil,hx⟩
 have nxt:Hb M i=false->∀ k,k<i+1->Hb M k=false:=fun hx k k1=>by
  by_cases e:k=i
  ·rw[e];exact hx
  ·exact hall k (by omega)
 by_cases h0:i=0
 ·have d4:((0:Int)<(i:Int))=False:=eq_false (by omega)
  have ha:Hb M i=false:=by unfold Hb;rw[decide_eq_false (by omega)];rfl
  repeat' (first
   |refine St.h ?_
   |simp(disch:=first|omega|(simp only[AI];omega))only[AJ,↓AA,↓reduceIte,seval,f0,f5,f6,f7,d4]
   |(with_reducible (first|apply AD|apply AE))<;>(intro hc;(try simp only[AT]at hc);(try simp only[hc]);(try simp only[AR]at hc);try omega))
  exact Ai hI (M.length-(i+1)) (by omega) ⟨i+1,rfl,by omega,by simp(disch:=first|omega|(simp only[AI];omega))only[AJ,↓AA,↓reduceIte,seval,f0],by simp(disch:=first|omega|(simp only[AI];omega))only[AJ,↓AA,↓reduceIte,seval,f5],by simp(disch:=first|omega|(simp only[AI];omega))only[AJ,↓AA,↓reduceIte,seval,f6],by simp(disch:=first|omega|(simp only[AI];omega))only[AJ,↓AA,↓reduceIte,seval,f7];rfl,nxt ha,st4⟩
 have d4:((0:Int)<(i:Int))=True:=eq_true (by omega)
 have ei:((i:Int)-1).toNat=i-1:=by omega
 by_cases h1:(M.getD (i-1) default).A7=1
 ·have d5:=eq_true h1
  cases hb:(Op.bytesLess (M.getD i default).fst (M.getD (i-1) default).DT||decide ((M.getD i default).fst=(M.getD (i-1) default).DT))with
  |true=>
   have ha:Hb M i=true:=by unfold Hb;rw[decide_eq_true (by omega),decide_eq_true h1,<-SX,hb];rfl
   repeat' (first
    |refine St.h ?_
    |simp(disch:=first|omega|(simp only[AI];omega))only[AJ,↓AA,↓reduceIte,seval,f0,f5,f6,f7,d4,d5,hb,ei,r4.l1,M4.ix,M4.l1,M4.l3,Int.toNat_natCast]
    |(with_reducible (first|apply AD|apply AE))<;>(intro hc;(try simp only[AT]at hc);(try simp only[hc]);(try simp only[AR]at hc);try omega))
   subst hQ
   exact⟨congrArg V.b (yes ha).symm,st4⟩
  |false=>
   have ha:Hb M i=false:=by unfold Hb;rw[<-SX,hb,Bool.and_false,Bool.and_false]
   repeat' (first
    |refine St.h ?_
    |simp(disch:=first|omega|(simp only[AI];omega))only[AJ,↓AA,↓reduceIte,seval,f0,f5,f6,f7,d4,d5,hb,ei,r4.l1,M4.ix,M4.l1,M4.l3,Int.toNat_natCast]
    |(with_reducible (first|apply AD|apply AE))<;>(intro hc;(try simp only[AT]at hc);(try simp only[hc]);(try simp only[AR]at hc);try omega))
   exact Ai hI (M.length-(i+1)) (by omega) ⟨i+1,rfl,by omega,by simp(disch:=first|omega|(simp only[AI];omega))only[AJ,↓AA,↓reduceIte,seval,f0],by simp(disch:=first|omega|(simp only[AI];omega))only[AJ,↓AA,↓reduceIte,seval,f5],by simp(disch:=first|omega|(simp only[AI];omega))only[AJ,↓AA,↓reduceIte,seval,f6],by simp(disch:=first|omega|(simp only[AI];omega))only[AJ,↓AA,↓reduceIte,seval,f7];rfl,nxt ha,st4⟩
 ·have d5:=eq_false h1
  have ha:Hb M i=false:=by unfold Hb;rw[decide_eq_false h1,Bool.false_and,Bool.and_false]
  repeat' (first
   |refine St.h ?_
   |simp(disch:=first|omega|(simp only[AI];omega))only[AJ,↓AA,↓reduceIte,seval,f0,f5,f6,f7,d4,d5,ei,r4.l1,M4.ix,M4.l1,M4.l3,Int.toNat_natCast]
   |(with_reducible (first|apply AD|apply AE))<;>(intro hc;(try simp only[AT]at hc);(try simp only[hc]);(try simp only[AR]at hc);try omega))
  exact Ai hI (M.length-(i+1)) (by omega) ⟨i+1,rfl,by omega,by simp(disch:=first|omega|(simp only[AI];omega))only[AJ,↓AA,↓reduceIte,seval,f0],by simp(disch:=first|omega|(simp only[AI];omega))only[AJ,↓AA,↓reduceIte,seval,f5],by simp(disch:=first|omega|(simp only[AI];omega))only[AJ,↓AA,↓reduceIte,seval,f6],by simp(disch:=first|omega|(simp only[AI];omega))only[AJ,↓AA,↓reduceIte,seval,f7];rfl,nxt ha,st4⟩
theorem Rx (a:Hu h b v S) (m:Oz h g c e) (hl:S.L.length<=100) (hgl:e.gone.length<=100) (AR:e.AU.length<=100) (hsz:∀ t∈e.AU,t.fst.length<=1000000/\t.DT.length<=1000000) (hf:B.val h.floor<=B.val h.next):
 A3 Try.prog 44 [.p b 0 0 4,.a [g,c,.i .i64 e.log,.i .i64 e.seq]] h fun y h'=>∃ M:List Bq,M.Perm (CX S.L e.gone++e.AU)/\(∀ i j,i<j->j<M.length->Gj (M.getD j default) (M.getD i default)=false)/\Rt h' y M/\(∀ q,Af y q->B.val h.next<=B.val q)/\AW AN h h':=by
 refine Aw c44 (by intro hb;cases hb) (by simp) (by simp) fun Q hQ=>?_
 simp only[Ah,Nat.reduceAdd]
 repeat' (first
  |refine St.h ?_
  |simp(disch:=first|omega|(simp only[AI];omega))only[AJ,↓AA,↓reduceIte,seval]
  |(with_reducible (first|apply AD|apply AE))<;>(intro hc;(try simp only[AT]at hc);(try simp only[hc]);(try simp only[AR]at hc);try omega))
 refine AL.own (by simp) hf fun h1 s1 n1 o1=>?_
 have hf1:=s1.fl hf
 repeat' (first
  |refine St.h ?_
  |simp(disch:=first|omega|(simp only[AI];omega))only[AJ,↓AA,↓reduceIte,seval]
  |(with_reducible (first|apply AD|apply AE))<;>(intro hc;(try simp only[AT]at hc);(try simp only[hc]);(try simp only[AR]at hc);try omega))
 refine CL.mk (TE (a.grow s1) (by omega) hf1) ?_
 rintro w h2 ⟨w1,w2,s2⟩
 have hf2:=s2.fl hf1
 repeat' (first
  |refine St.h ?_
  |simp(disch:=first|omega|(simp only[AI];omega))only[AJ,↓AA,↓reduceIte,seval]
  |(with_reducible (first|apply AD|apply AE))<;>(intro hc;(try simp only[AT]at hc);(try simp only[hc]);(try simp only[AR]at hc);try omega))
 refine CL.mk (XA (P:=fun t=>IH e.gone t.id) w1 (by omega) hf2 fun k t sk ht=>?_) ?_
 ·have t1:AW AN h1 k:=s2.BI sk w2
  exact Xw (o1.stay t1 fun e=>e) (m.1.grow (s1.trans t1)) (by omega) (t1.fl hf1)
 rintro x h3 ⟨x1,x2,s3⟩
 have st3:AW AN h1 h3:=s2.BI s3 w2
 have q3:=(o1.stay st3 fun e=>e).row
 have m3:=m.grow (s1.trans st3)
 repeat' (first
  |refine St.h ?_
  |simp(disch:=first|omega|(simp only[AI];omega))only[AJ,↓AA,↓reduceIte,seval,q3.l1,m3.2.ln]
  |(with_reducible (first|apply AD|apply AE))<;>(intro hc;(try simp only[AT]at hc);(try simp only[hc]);(try simp only[AR]at hc);try omega))
 have hlen:(CX S.L e.gone).length<=100:=Nat.le_trans (List.length_filter_le _ _) hl
 refine Ok.lp (fun n t g'=>∃ (i:Nat) (u:V),n=e.AU.length-i/\i<=e.AU.length/\get 5 t=u/\get 13 t=c/\get 14 t=.i .i64 (e.AU.length:Int)/\get 15 t=.i .i64 (i:Int)/\Rt g' u (CX S.L e.gone++e.AU.take i)/\(∀ q,Af u q->B.val h1.next<=B.val q)/\AW AN h1 g') e.AU.length ?_ ?_
 ·simp(disch:=first|omega|(simp only[AI];omega))only[AJ,↓AA,↓reduceIte,seval]
  refine⟨0,x,by omega,by omega,?_⟩
  refine⟨?_,?_,?_,?_,by rw[List.take_zero,List.append_nil];exact x1,fun q hq=>w2 q (x2 q hq),st3⟩
  all_goals first|trivial|rfl
 rintro I hI mm t g4 ⟨i,u,rfl,hi,f5,f13,f14,f15,bu,own,st⟩
 have m4:=m.grow (s1.trans st)
 have hf4:=st.fl hf1
 by_cases hil:i<e.AU.length
 case neg=>
  obtain rfl:i=e.AU.length:=by omega
  rw[List.take_length]at bu
  have d1:((e.AU.length:Int)<(e.AU.length:Int))=False:=eq_false (by omega)
  repeat' (first
   |refine St.h ?_
   |simp(disch:=first|omega|(simp only[AI];omega))only[AJ,↓AA,↓reduceIte,seval,f5,f13,f14,f15,d1]
   |(with_reducible (first|apply AD|apply AE))<;>(intro hc;(try simp only[AT]at hc);(try simp only[hc]);(try simp only[AR]at hc);try omega))
  refine CL.mk (Tv bu (by rw[List.length_append];omega) hf4) ?_
  rintro _ g5 ⟨M,pm,so,bM,s5⟩
  repeat' (first
   |refine St.h ?_
   |simp(disch:=first|omega|(simp only[AI];omega))only[AJ,↓AA,↓reduceIte,seval,f5,f13,f14,f15]
   |(with_reducible (first|apply AD|apply AE))<;>(intro hc;(try simp only[AT]at hc);(try simp only[hc]);(try simp only[AR]at hc);try omega))
  subst hQ
  exact⟨M,pm,so,bM,fun q hq=>Nat.le_trans s1.next (own q hq),s1.trans (st.BI s5 own)⟩
 have d1:((i:Int)<(e.AU.length:Int))=True:=eq_true (by omega)
 repeat' (first
  |refine St.h ?_
  |simp(disch:=first|omega|(simp only[AI];omega))only[AJ,↓AA,↓reduceIte,seval,f5,f13,f14,f15,d1,m4.2.ix,m4.2.la,Int.toNat_natCast]
  |(with_reducible (first|apply AD|apply AE))<;>(intro hc;(try simp only[AT]at hc);(try simp only[hc]);(try simp only[AR]at hc);try omega))
 refine AL.own (by simp) hf4 fun g5 s5 n5 o5=>?_
 have hf5:=s5.fl hf4
 repeat' (first
  |refine St.h ?_
  |simp(disch:=first|omega|(simp only[AI];omega))only[AJ,↓AA,↓reduceIte,seval,f5,f13,f14,f15]
  |(with_reducible (first|apply AD|apply AE))<;>(intro hc;(try simp only[AT]at hc);(try simp only[hc]);(try simp only[AR]at hc);try omega))
 refine ST.all o5 rfl rfl (by simp) (by simp) fun g6 o6 s6=>?_
 have s46:AW AN g4 g6:=s5.BI s6 fun q e=>by rw[e];exact Nat.le_refl _
 have hf6:=s46.fl hf4
 have r6:=o6.row
 obtain⟨z1,z2⟩:=hsz _ (Bd hil)
 repeat' (first
  |refine St.h ?_
  |simp(disch:=first|omega|(simp only[AI];omega))only[AJ,↓AA,↓reduceIte,seval,f5,f13,f14,f15,r6.l1]
  |(with_reducible (first|apply AD|apply AE))<;>(intro hc;(try simp only[AT]at hc);(try simp only[hc]);(try simp only[AR]at hc);try omega))
 refine CL.MP (KM z1 (Li _)) fun g7 s7=>?_
 have o7:=o6.stay s7 fun e=>e
 have r7:=o7.row
 repeat' (first
  |refine St.h ?_
  |simp(disch:=first|omega|(simp only[AI];omega))only[AJ,↓AA,↓reduceIte,seval,f5,f13,f14,f15,r7.l1]
  |(with_reducible (first|apply AD|apply AE))<;>(intro hc;(try simp only[AT]at hc);(try simp only[hc]);(try simp only[AR]at hc);try omega))
 refine CL.stay (KM z2 (s7.fl hf6)) fun g8 s8=>?_
 have o8:=o7.stay s8 fun e=>e
 repeat' (first
  |refine St.h ?_
  |simp(disch:=first|omega|(simp only[AI];omega))only[AJ,↓AA,↓reduceIte,seval,f5,f13,f14,f15]
  |(with_reducible (first|apply AD|apply AE))<;>(intro hc;(try simp only[AT]at hc);(try simp only[hc]);(try simp only[AR]at hc);try omega))
 refine ST.own o8 rfl rfl (by omega) (by omega) fun g9 o9 s9=>?_
 have o9:Ev.CE g9 g4.next (LZ (e.AU.getD i default)):=o9
 repeat' (first
  |refine St.h ?_
  |simp(disch:=first|omega|(simp only[AI];omega))only[AJ,↓AA,↓reduceIte,seval,f5,f13,f14,f15]
  |(with_reducible (first|apply AD|apply AE))<;>(intro hc;(try simp only[AT]at hc);(try simp only[hc]);(try simp only[AR]at hc);try omega))
 refine ST.own o9 rfl rfl (by omega) (by omega) fun ga oa sa=>?_
 have oa:Ev.CE ga g4.next (LZ (e.AU.getD i default)):=oa
 have s4a:AW AN g4 ga:=((s46.trans (s7.trans s8)).BI s9 fun q e=>by rw[e];exact Nat.le_refl _).BI sa fun q e=>by rw[e];exact Nat.le_refl _
 have hfa:=s4a.fl hf4
 have ra:Row ga g4.next 0 0 [.i .i64 (e.AU.getD i default).id,.i .i64 (e.AU.getD i default).A7,sv (e.AU.getD i default).fst,sv (e.AU.getD i default).DT,.i .i64 (e.AU.getD i default).DN]:=oa.row
 repeat' (first
  |refine St.h ?_
  |simp(disch:=first|omega|(simp only[AI];omega))only[AJ,↓AA,↓reduceIte,seval,f5,f13,f14,f15,ra.ln]
  |(with_reducible (first|apply AD|apply AE))<;>(intro hc;(try simp only[AT]at hc);(try simp only[hc]);(try simp only[AR]at hc);try omega))
 refine AL.own (by simp) hfa fun gb sb _ ob=>?_
 repeat' (first
  |refine St.h ?_
  |simp(disch:=first|omega|(simp only[AI];omega))only[AJ,↓AA,↓reduceIte,seval,f5,f13,f14,f15]
  |(with_reducible (first|apply AD|apply AE))<;>(intro hc;(try simp only[AT]at hc);(try simp only[hc]);(try simp only[AR]at hc);try omega))
 have l4:(CX S.L e.gone++e.AU.take i).length<=200:=by rw[List.length_append,List.length_take];omega
 refine Fc (x:=e.AU.getD i default) ((bu.grow s4a).grow sb) ob (by omega) (sb.fl hfa) fun u4 gc b4 t4 own4=>?_
 repeat' (first
  |refine St.h ?_
  |simp(disch:=first|omega|(simp only[AI];omega))only[AJ,↓AA,↓reduceIte,seval,f5,f13,f14,f15]
  |(with_reducible (first|apply AD|apply AE))<;>(intro hc;(try simp only[AT]at hc);(try simp only[hc]);(try simp only[AR]at hc);try omega))
 have st4:=st.trans (s4a.trans sb)
 refine Ai hI (e.AU.length-(i+1)) (by omega) ⟨i+1,u4,rfl,by omega,by simp(disch:=first|omega|(simp only[AI];omega))only[AJ,↓AA,↓reduceIte,seval],by simp(disch:=first|omega|(simp only[AI];omega))only[AJ,↓AA,↓reduceIte,seval,f13],by simp(disch:=first|omega|(simp only[AI];omega))only[AJ,↓AA,↓reduceIte,seval,f14],by simp(disch:=first|omega|(simp only[AI];omega))only[AJ,↓AA,↓reduceIte,seval,f15];rfl,?_,fun q hq=>?_,st4.BI t4 fun q hq=>own q hq⟩
 ·have:e.AU.take (i+1)=e.AU.take i++[e.AU.getD i default]:=by rw[List.take_succ];simp[List.getD,hil]
  rw[this,<-List.append_assoc];exact b4
 ·rcases own4 q hq with h5|h5
  ·exact own q h5
  ·exact Nat.le_trans st4.next h5
end
end Go.Proofs.Ytobfgempjekjpaa
namespace Go.Ev
open Go
section
variable {P:Program} {nt:Nat} {ops:Array Oper} {Ts:Nat->F}
/--operations that leave memory alone,and make the same of h and of h2 -/
def Hd (P:Program):List CO->F->H->H->F->Prop
 |[],t,_,_,t'=>t'=t
 |o::l,t,h,h2,t'=>∃ t1,Cu P o t h t1 h/\Cu P o t h2 t1 h2/\Hd P l t1 h h2 t'
theorem stepOf {nt:Nat} {ops:Array Oper} {i:Nat} {o:Oper} (hi:ops[i]? =some o) {b:Bool} {t t1:F} {h h1:H} (a:Cu P ⟨BL nt ops.toList o.guard,DB nt o.dst,b,Ae P o.op⟩ t h t1 h1):BG P nt ops i o true t t1 h h1:=by
 have a':Uo P ⟨BL nt ops.toList o.guard,DB nt o.dst,true,Ae P o.op⟩ t h t1 h1:=a
 obtain⟨cf,hcf,e⟩:=Lw a'
 obtain⟨t1',h1',a1,a2⟩:=J5 hcf hi (ih:=fun t h k=>k t h) (k:=fun _ _=>true) (e _ _)
 obtain⟨rfl,rfl⟩:=NS (fun k=>(e (fun t h k=>k t h) k).symm.trans (a1 k))
 exact a2
theorem FI {nt:Nat} {ops:Array Oper} (bars:Nat->Bool) {h h2:H}:∀ (l:List Oper) (n:Nat) (rest:List Oper),ops.toList.drop n=l++rest->∀ (t t':F),
 Hd P (Ac bars P nt ops.toList (Ae P) n l) t h h2 t'->
 ∃ Ts:Nat->F,Ts n=t/\Ts (n+l.length)=t'/\∀ (i:Nat) o,n<=i->i<n+l.length->ops[i]? =some o->BG P nt ops i o true (Ts i) (Ts (i+1)) h h/\BG P nt ops i o true (Ts i) (Ts (i+1)) h2 h2:=by
 intro l
 induction l with
 |nil=>
  intro n rest hl t t' hk
  obtain rfl:t'=t:=hk
  exact⟨fun _=>t',rfl,rfl,fun i o h1 h2=>by simp at h2;omega⟩
 |cons o l ih=>
  intro n rest hl t t' hk
  have hn:ops[n]? =some o:=by
   have:ops.toList[n]? =some o:=by
    have:=congrArg (fun l=>l[0]?) hl
    simpa using this
   simpa using this
  obtain⟨t1,k1,k2,k3⟩:=hk
  have hl':ops.toList.drop (n+1)=l++rest:=by rw[<-List.drop_drop,hl];rfl
  obtain⟨Ts,b1,b2,b3⟩:=ih (n+1) rest hl' _ _ k3
  refine⟨fun i=>if i=n then t else Ts i,by simp,?_,fun i oi h1 h2 hi=>?_⟩
  ·have e1:n+(o::l).length=n+1+l.length:=by simp;omega
   rw[e1]
   simp only[show ¬n+1+l.length=n by omega,if_false]
   exact b2
  ·by_cases hin:i=n
   ·subst hin
    rw[hn]at hi
    cases hi
    simp only[if_true,show ¬i+1=i by omega,if_false,b1]
    exact⟨stepOf hn k1,stepOf hn k2⟩
   ·simp only[hin,if_false,show ¬i+1=n by omega]
    exact b3 i oi (by omega) (by simp at h2;omega) hi
/--all but two leave memory alone;the second one comes behind all that touch it,or ahead of them -/
theorem Ww (hm:P.follows .mixedOrders=true) {nt:Nat} {ops:Array Oper} (hd:Bv ops.toList=true) {t t1 t2 t3 t4 t5:F} {h h2 h3:H} {pre M8 rest:List CO} {A:CO} {g:G} {d:D} {r:CR}
 (el:Ac (CM P ops.toList (CY ops.toList [])) P nt ops.toList (Ae P) 0 ops.toList=pre++A::(M8++.mk g d true r::rest))
 (p1:Hd P pre t h h2 t1) (p2:Cu P A t1 h t2 h2) (p3:Hd P M8 t2 h h2 t3) (p4:Cu P (.mk g d true r) t3 h2 t4 h3) (p5:Hd P rest t4 h3 h3 t5):Az h h3/\B.val h.next<=B.val h3.next/\∀ ρ a w w0 (id:Nat) (Q:Exit->Act->World->Prop),Cf ρ nt t a->A9 ρ h w w0->(∀ ρ' a' w',Ext h.floor ρ ρ'->Cf ρ' nt t5 a'->A9 ρ' h3 w' w0->Q .normal a' w')->(Code.region id ops true).wp P Q a w:=by
 obtain⟨lp,l1,q1,q2,q3⟩:=HP el
 obtain⟨oa,l2,rfl,q4,q5⟩:=F5 q3
 obtain⟨lm,l3,rfl,q6,q7⟩:=HP q5
 obtain⟨ob,lr,rfl,q8,q9⟩:=F5 q7
 rw[Nat.zero_add]at q4 q6 q8 q9
 have hop:∀ (i:Nat) o,ops.toList[i]? =some o->ops[i]? =some o:=fun i o e=>by simpa using e
 generalize hb0:lp.length+1+lm.length=b at*
 have hn:ops.size=b+1+lr.length:=by have:=congrArg List.length q1;simp at this;omega
 have ha:ops[lp.length]? =some oa:=hop _ _ (by rw[q1];simp)
 have hb:ops[b]? =some ob:=hop _ _ (by rw[q1,<-hb0,List.getElem?_append_right (by omega),show lp.length+1+lm.length-lp.length=lm.length+1 by omega,List.getElem?_cons_succ];simp)
 obtain⟨T0,b1,b2,b3⟩:=FI (P:=P) (nt:=nt) (ops:=ops) (h:=h) (h2:=h2) _ lp 0 _ (by rw[List.drop_zero];exact q1) t t1 (by rw[q2];exact p1)
 rw[Nat.zero_add]at b2 b3
 obtain⟨T1,c1,c2,c3⟩:=FI (P:=P) (nt:=nt) (ops:=ops) (h:=h) (h2:=h2) _ lm (lp.length+1) _ (by rw[q1,<-List.drop_drop,List.drop_left];rfl) t2 t3 (by rw[q6];exact p3)
 obtain⟨T2,d1,d2,d3⟩:=FI (P:=P) (nt:=nt) (ops:=ops) (h:=h3) (h2:=h3) _ lr (b+1) [] (by rw[q1,<-hb0,List.append_nil,show lp.length+1+lm.length+1=lp.length+(1+(lm.length+1))by omega,<-List.drop_drop,List.drop_left,<-List.drop_drop,List.drop_one,List.tail_cons,<-List.drop_drop,List.drop_left];rfl) t4 t5 (by rw[q9];exact p5)
 rw[hb0]at c2 c3
 have hbar:CM P ops.toList (CY ops.toList []) b=true:=by
  injection q8 with _ _ e _
  exact e.symm
 have SA:=stepOf ha (by rw[q4]at p2;exact p2)
 have SB:=stepOf hb (by have e:=q8;rw[hbar]at e;rw[e]at p4;exact p4)
 let Ts:Nat->F:=fun i=>if i<=lp.length then T0 i else if i<=b then T1 i else T2 i
 have U0:∀ i,i<=lp.length->Ts i=T0 i:=fun i hi=>if_pos hi
 have U1:∀ i,lp.length<i->i<=b->Ts i=T1 i:=fun i hi hj=>by
  show(if _ then _ else _)=_
  rw[if_neg (by omega),if_pos hj]
 have U2:∀ i,b<i->Ts i=T2 i:=fun i hi=>by
  show(if _ then _ else _)=_
  rw[if_neg (by omega),if_neg (by omega)]
 have hA:∀ o,ops[lp.length]? =some o->BG P nt ops lp.length o true (Ts lp.length) (Ts (lp.length+1)) h h2:=fun o ho=>by
  rw[ha]at ho;cases ho
  rw[U0 _ (Nat.le_refl _),U1 _ (by omega) (by omega),b2,c1];exact SA
 have hB:∀ o,ops[b]? =some o->BG P nt ops b o true (Ts b) (Ts (b+1)) h2 h3:=fun o ho=>by
  rw[hb]at ho;cases ho
  rw[U1 _ (by omega) (Nat.le_refl _),U2 _ (by omega),c2,d1];exact SB
 obtain⟨f1,f2,f3⟩:=Xl (nt:=nt) (ops:=ops) (Ts:=Ts) (n:=lp.length) (p:=b) (h:=h) (h2:=h2) (h3:=h3) hm hd (by omega) (by omega) hbar
  (fun i o hi hne ho=>by
    by_cases e:i<lp.length
    ·rw[U0 i (by omega),U0 (i+1) (by omega)]
     exact b3 i o (Nat.zero_le _) e ho
    ·rw[U1 i (by omega) (by omega),U1 (i+1) (by omega) (by omega)]
     exact c3 i o (by omega) hi ho)
  (fun i o hi ho=>by
    have:i<ops.size:=(Array.getElem?_eq_some_iff.1 ho).1
    rw[U2 i hi,U2 (i+1) (by omega)]
    exact(d3 i o (by omega) (by omega) ho).1) hA hB
 exact⟨f1,f2,fun ρ a w w0 id Q A R hQ=>f3 ρ a w w0 id Q (by rw[U0 0 (Nat.zero_le _),b1];exact A) R (by rw[hn,U2 _ (by omega),d2];exact hQ)⟩
theorem Ok.dw1 (hm:P.follows .mixedOrders=true) {nt:Nat} {t t1 t2 t3 t4 t5:F} {h h2 h3:H} {K:X->F->H->Prop} {pre M8 rest:List CO} {A:CO} {g:G} {d:D} {r:CR} {ch:Option (List Nat×List (Nat×List Nat))}
 (p1:Hd P pre t h h2 t1) (p2:Cu P A t1 h t2 h2) (p3:Hd P M8 t2 h h2 t3) (p4:Cu P (.mk g d true r) t3 h2 t4 h3) (p5:Hd P rest t4 h3 h3 t5) (k:K .normal t5 h3):Ok P nt (.Ax (pre++A::(M8++.mk g d true r::rest)) ch) t h K:=by
 refine⟨.normal,t5,h3,BQ _ fun c e' hs=>?_,k⟩
 cases c with
 |region id ops draw=>
  have e1:Ar P nt ops.toList draw=.Ax (pre++A::(M8++.mk g d true r::rest)) ch:=e'
  unfold Ar at e1
  split at e1
  ·cases e1
  ·split at e1
   ·rename_i hd
    obtain⟨f1,f2,f3⟩:=Ww hm hd (CC.Ax.inj e1).1 p1 p2 p3 p4 p5
    exact⟨f1,f2,fun ρ a w w0 Q A R hQ=>f3 ρ a w w0 id Q A R hQ⟩
   ·cases e1
 |scope d=>exact absurd rfl (hs d)
 |_=>cases e'
/--a region that Ax,where the walk stops -/
def DW (P:Program) (nt:Nat) (l:List CO) (t:F) (h:H) (K:X->F->H->Prop):Prop:=∀ ch,Ok P nt (.Ax l ch) t h K
theorem DW.gen (hm:P.follows .mixedOrders=true) {nt:Nat} {t t1 t2 t3 t4 t5:F} {h h2 h3:H} {K:X->F->H->Prop} {l pre M8 rest:List CO} {A:CO} {g:G} {d:D} {r:CR} (hl:l=pre++A::(M8++.mk g d true r::rest))
 (p1:Hd P pre t h h2 t1) (p2:Cu P A t1 h t2 h2) (p3:Hd P M8 t2 h h2 t3) (p4:Cu P (.mk g d true r) t3 h2 t4 h3) (p5:Hd P rest t4 h3 h3 t5) (k:K .normal t5 h3):DW P nt l t h K:=by
 intro ch
 rw[hl]
 exact Ok.dw1 hm p1 p2 p3 p4 p5 k
theorem DW.two (hm:P.follows .mixedOrders=true) {nt:Nat} {t t1 t2 t3:F} {h h2 h3:H} {K:X->F->H->Prop} {l pre:List CO} {A:CO} {g:G} {d:D} {r:CR} (hl:l=pre++[A,.mk g d true r])
 (p1:Hd P pre t h h2 t1) (p2:Cu P A t1 h t2 h2) (p3:Cu P (.mk g d true r) t2 h2 t3 h3) (k:K .normal t3 h3):DW P nt l t h K:=DW.gen (M8:=[]) (rest:=[]) hm hl p1 p2 rfl p3 rfl k
section
variable {r:CW} {t t':F} {h h1 h2:H} {v:V} {n:Nat} {b:Bool} {l:List CO}
theorem IU (a:Hq P (.mk r) t h v h1):Cu P (.mk .none (.some (AX n)) b (.mk r)) t h (put n v t) h1:=⟨true,fun _=>rfl,.inl ⟨rfl,v,a,fun k=>GJ k⟩⟩
theorem Ma (a:Hq P (.mk r) t h v h1):Cu P (.mk .none .none b (.mk r)) t h t h1:=⟨true,fun _=>rfl,.inl ⟨rfl,v,a,fun k=>rfl⟩⟩
theorem PV {K:F->H->Prop} (a:OR P r t h (.w0 [] t K)):∃ v h',Hq P (.mk r) t h v h'/\K t h':=by
 obtain⟨v,h',rr,k⟩:=a
 rw[Yn,NH]at k
 exact⟨v,h',rr,k⟩
theorem QR (a:OR P r t h (.w 0 [] F.zero fun t' h'=>get 0 t'=v/\h'=h)):Hq P (.mk r) t h v h:=by
 obtain⟨v',h',rr,k⟩:=a
 rw[T7,NH,AA,if_pos rfl]at k
 obtain⟨rfl,rfl⟩:=k
 exact rr
end
end
end Go.Ev
end
