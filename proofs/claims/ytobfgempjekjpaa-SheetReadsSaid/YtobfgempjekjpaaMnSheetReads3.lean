/- The law SheetReads, part 3: what its proof uses, closely written. No condition. -/
import Derived.Test.YtobfgempjekjpaaMnSheetReads2
import Derived.Test.YtobfgempjekjpaaProg
noncomputable section
set_option linter.all false
namespace Go.Ev
open Go
/--v is a slice of the call's own,that only it appends to:its cells are xs ('size' an element) -/
def FU (h:H) (el size:Nat) (v:V) (xs:List V):Prop:=
 (v=.l0/\xs=[])\/∃ id g n Ap,v=.l id g 0 n xs.length none/\1<=n/\xs.length=n*size/\B.val h.floor<=B.val id/\B.val id<B.val h.next/\h.heap.get id=some Ap/\(Ap.min<=g/\g<=Ap.cur)/\Ap.size=xs.length/\Ap.el=el/\Ap.fr=0/\
   ∀ i y,xs[i]? =some y->Ap.cells.BP i=some y
/--the block that a slice lies in -/
def Af (v:V):B->Prop:=fun id=>∃ g off n fin cap,v=.l id g off n fin cap
theorem FU.nil (h:H) (el size:Nat):FU h el size .l0 []:=.inl ⟨rfl,rfl⟩
theorem FU.DT {h:H} {el:Nat} {v:V} {xs:List V} (b:FU h el 1 v xs):GY h v xs:=by
 rcases b with⟨rfl,rfl⟩|⟨id,g,n,Ap,rfl,h1,h2,h3,h4,h5,h6,h7,h8,h9,h10⟩
 ·exact .inl ⟨rfl,rfl⟩
 ·refine .inr ⟨id,g,0,xs.length,none,by rw[h2,Nat.mul_one],by omega,h4,fun _=>⟨Ap,h5,h6.1⟩,fun i y hy=>?_⟩
  unfold Ev.cell Gg
  rw[h5]
  show(if Ap.min<=g then Ap.cells.BP (0+i)else none)=_
  rw[if_pos h6.1,Nat.zero_add]
  exact h10 i y hy
theorem FU.stay {p:B->Prop} {h h':H} {el size:Nat} {v:V} {xs:List V} (b:FU h el size v xs) (s:AW p h h') (hp:∀ id,Af v id->¬p id):FU h' el size v xs:=by
 rcases b with⟨rfl,rfl⟩|⟨id,g,n,Ap,rfl,h1,h2,h3,h4,h5,h6⟩
 ·exact .inl ⟨rfl,rfl⟩
 ·exact .inr ⟨id,g,n,Ap,rfl,h1,h2,by rw[s.floor];exact h3,Nat.lt_of_lt_of_le h4 s.next,(s.get id h4 (hp id ⟨_,_,_,_,_,rfl⟩)).trans h5,h6⟩
theorem FU.grow {h h':H} {el size:Nat} {v:V} {xs:List V} (b:FU h el size v xs) (s:AW AN h h'):FU h' el size v xs:=b.stay s fun _ _ h=>h
/--it was made here,behind h0 -/
theorem FU.own {h:H} {el size:Nat} {v:V} {xs:List V} (b:FU h el size v xs) {id:B} (i:Af v id):B.val h.floor<=B.val id/\B.val id<B.val h.next:=by
 rcases b with⟨rfl,rfl⟩|⟨id',g,n,Ap,rfl,h1,h2,h3,h4,_⟩
 ·obtain⟨_,_,_,_,_,e⟩:=i;cases e
 ·obtain⟨_,_,_,_,_,e⟩:=i;cases e;exact⟨h3,h4⟩
theorem LQ {h:H} {el size n:Nat} {v:V} {xs vs:List V} (b:FU h el size v xs) (hf:B.val h.floor<=B.val h.next) (hsz:1<=size) (hn:vs.length=n*size) (h1:Bk vs=true) (hb:xs.length+vs.length<=1048576):
 ∃ v' h',(∀ k,Ci el size v n vs h k=k v' h')/\FU h' el size v' (xs++vs)/\AW (Af v) h h'/\∀ id,Af v' id->Af v id\/B.val h.next<=B.val id:=by
 have hle:n<=vs.length:=by rw[hn];exact Nat.le_mul_of_pos_right _ hsz
 rcases b with⟨rfl,rfl⟩|⟨id,g,m,Ap,rfl,b1,b2,b3,b4,b5,b6,b7,b8,b9,P1⟩
 ·cases n with
  |zero=>
   have:vs=[]:=List.eq_nil_of_length_eq_zero (by simpa using hn)
   subst this
   exact⟨.l0,h,fun k=>rfl,FU.nil h el size,AW.refl _ h,fun id i=>.inl i⟩
  |succ n=>
   obtain⟨h',a1,a2,a3,Ap,c1,c2,c3,c4,c5,c6,c7⟩:=Di el vs h (by omega)
   have hble:Nat.ble (n+1) 1048576=true:=by rw[Nat.ble_eq];simp at hb;omega
   refine⟨.l h.next 0 0 (n+1) vs.length none,h',fun k=>?_,.inr ⟨h.next,0,n+1,Ap,rfl,by omega,hn,by rw[a2.floor];exact hf,by omega,c1,⟨by omega,by omega⟩,c4,c5,c6,c7⟩,a2.mono fun _ _ h=>h.elim,fun id i=>?_⟩
   ·show(As (Nat.ble (n+1) 1048576) fun _=>alloc el vs h fun id h=>k (.l id 0 0 (n+1) vs.length none) h)=_
    rw[hble,AH,a1]
   ·obtain⟨_,_,_,_,_,e⟩:=i;cases e;exact .inr (Nat.le_refl _)
 ·obtain⟨next,floor,heap⟩:=h
  obtain⟨cur,min,sz,cells,bel,fr⟩:=Ap
  simp only at b6 b7 b8 b9 P1
  obtain⟨tr,t1,t2,t3⟩:=Bn vs sz cells (by omega)
  obtain⟨hp,s1,s2,s3⟩:=Bw id (⟨Nat.succ cur,min,Nat.add sz (Nat.mul n size),tr,bel,fr⟩:Gi) heap
  have e1:Nat.ble min g=true:=by rw[Nat.ble_eq];exact b6.1
  have e2:B.Jz floor id=true:=by
   cases floor<;>first|rfl|(show Nat.ble _ _=true;rw[Nat.ble_eq];exact b3)
  have e3:Nat.add 0 (Nat.mul m size)=sz:=by
   show 0+m*size=sz
   omega
  have e3':Nat.ble sz sz=true:=by rw[Nat.ble_eq];exact Nat.le_refl _
  have e4:Nat.beq xs.length sz=true:=by rw[b7];simp
  have e4':Nat.beq sz sz=true:=Nat.beq_refl _
  have e9:Me size (Nat.add m n)=none:=Kg (by show 1<=m+n;omega)
  have e5:Nat.ble 1 m=true:=by rw[Nat.ble_eq];exact b1
  have hm:m<=xs.length:=by rw[b2];exact Nat.le_mul_of_pos_right _ hsz
  have e6:Nat.ble (Nat.add m n) 1048576=true:=by rw[Nat.ble_eq];show m+n<=1048576;omega
  have e7:Hc fr sz=true:=by rw[b9];rfl
  have e8:Nat.beq bel el=true:=by rw[b8];simp
  refine⟨.l id (Nat.succ cur) 0 (m+n) (sz+n*size) none,⟨next,floor,hp⟩,fun k=>?_,.inr ⟨id,Nat.succ cur,m+n,_,?_,by omega,?_,b3,b4,s2,?_,?_,b8,b9,fun i y hy=>?_⟩,⟨rfl,Nat.le_refl _,fun id' _ hne=>s3 id' fun e=>hne (by subst e;exact⟨_,_,_,_,_,rfl⟩)⟩,fun id' i=>?_⟩
  ·show Ch (Nat.ble 1 m) el id g 0 m xs.length size n vs ⟨next,floor,heap⟩ k=_
   have b5':heap.get id=some ⟨cur,min,sz,cells,bel,fr⟩:=b5
   simp only[Ch,CH,b5',Ao,BB,A5,e3,e1,e2,e3',e4,e4',Tm,e5,e6,h1,e7,e8,e9,AH]
   rw[t1,s1];rfl
  ·show V.l id (Nat.succ cur) 0 (m+n) (sz+n*size) none=V.l id (Nat.succ cur) 0 (m+n) (xs++vs).length none
   rw[List.length_append,hn,b7]
  ·rw[List.length_append,hn,b2,Nat.add_mul]
  ·exact⟨by show min<=cur+1;omega,Nat.le_refl _⟩
  ·show Nat.add sz (Nat.mul n size)=(xs++vs).length
   rw[List.length_append,hn,b7];rfl
  ·show tr.BP i=some y
   by_cases hi:i<xs.length
   ·rw[t3 i (.inl (by omega))]
    refine P1 i y ?_
    rwa [List.getElem?_append_left hi]at hy
   ·have hi':i-xs.length<vs.length:=by
     have:=(List.getElem?_eq_some_iff.1 hy).1
     simp at this;omega
    rw[List.getElem?_append_right (by omega)]at hy
    have:=t2 (i-xs.length) y hy
    rwa [show sz+(i-xs.length)=i by omega]at this
  ·obtain⟨_,_,_,_,_,e⟩:=i;cases e;exact .inl ⟨_,_,_,_,_,rfl⟩
/--a block of the call's own,with the cells xs (and perhaps more behind them) -/
def CE (h:H) (id:B) (xs:List V):Prop:=∃ Ap,h.heap.get id=some Ap/\Ap.cur=0/\Ap.min=0/\Ap.fr=0/\B.val h.floor<=B.val id/\B.val id<B.val h.next/\∀ i y,xs[i]? =some y->Ap.cells.BP i=some y
theorem CE.stay {p:B->Prop} {h h':H} {id:B} {xs:List V} (o:CE h id xs) (s:AW p h h') (hp:¬p id):CE h' id xs:=by
 obtain⟨Ap,h1,h2,h3,h4,h5,h6,h7⟩:=o
 exact⟨Ap,(s.get id h6 hp).trans h1,h2,h3,h4,by rw[s.floor];exact h5,Nat.lt_of_lt_of_le h6 s.next,h7⟩
theorem CE.row {h:H} {id:B} {xs:List V} (o:CE h id xs):Row h id 0 0 xs:=by
 obtain⟨Ap,h1,h2,h3,h4,h5,h6,h7⟩:=o
 refine⟨fun _=>⟨Ap,h1,by omega⟩,fun i y hy=>?_⟩
 unfold Ev.cell Gg
 rw[h1]
 show(if Ap.min<=0 then Ap.cells.BP (0+i)else none)=_
 rw[if_pos (by omega),Nat.zero_add]
 exact h7 i y hy
theorem CE.DT {h:H} {id:B} {xs:List V} (o:CE h id xs) (cap:Option Nat):GY h (.l id 0 0 xs.length xs.length cap) xs:=by
 have r:=o.row
 obtain⟨Ap,h1,h2,h3,h4,h5,h6,h7⟩:=o
 exact .inr ⟨id,0,0,_,cap,rfl,by omega,h6,r⟩
/--at one place written -/
theorem I7 {h:H} {id:B} {xs:List V} {j fin:Nat} {y:V} (o:CE h id xs) (hj:j<fin) (hfit:j<2 ^ 37) (h1:ES y=true):∃ h',(∀ k,store h id 0 j fin [y] k=k h')/\CE h' id (xs.set j y)/\AW (fun i=>i=id) h h':=by
 obtain⟨Ap,a1,a2,a3,a4,a5,a6,a7⟩:=o
 obtain⟨next,floor,heap⟩:=h
 obtain⟨cur,min,sz,cells,bel,fr⟩:=Ap
 simp only at a2 a3 a4 a7
 subst a2;subst a3;subst a4
 obtain⟨tr,t1,t2,t3⟩:=Bn [y] j cells (by simp;omega)
 obtain⟨hp,s1,s2,s3⟩:=Bw id (⟨0,0,sz,tr,bel,0⟩:Gi) heap
 have e1:B.Jz floor id=true:=by cases floor<;>first|rfl|(show Nat.ble _ _=true;rw[Nat.ble_eq];exact a5)
 have e2:Nat.ble (Nat.add j 1) fin=true:=by rw[Nat.ble_eq];exact hj
 have e3:Bk [y]=true:=by show Bool.rec false true (ES y)=true;rw[h1]
 have e4:Hc 0 j=true:=rfl
 have e5:Nat.beq 0 0=true:=rfl
 have e6:Nat.ble 0 0=true:=rfl
 have a1':heap.get id=some ⟨0,0,sz,cells,bel,0⟩:=a1
 refine⟨⟨next,floor,hp⟩,fun k=>?_,⟨_,s2,rfl,rfl,rfl,a5,a6,fun i z hz=>?_⟩,⟨rfl,Nat.le_refl _,fun i _ hi=>s3 i hi⟩⟩
 ·simp only[store,CH,a1',Ao,BB,List.length_singleton,e5,e6,e1,e2,e3,e4,AH]
  rw[t1,s1]
 ·show tr.BP i=some z
  rw[List.getElem?_set]at hz
  split at hz
  ·rename_i hij
   subst hij
   split at hz
   ·cases hz
    exact t2 0 y rfl
   ·cases hz
  ·rename_i hij
   rw[t3 i (by simp;omega)]
   exact a7 i z hz
theorem JY (el:Nat) (cs:List V) (h:H) (hl:cs.length<2 ^ 37) (hf:B.val h.floor<=B.val h.next):∃ h',(∀ k,alloc el cs h k=k h.next h')/\AW AN h h'/\CE h' h.next cs/\B.val h'.next=B.val h.next+1:=by
 obtain⟨h',a1,a2,a3,Ap,b1,b2,b3,b4,b5,b6,b7⟩:=Di el cs h (by omega)
 exact⟨h',a1,a2,⟨Ap,b1,b3,b2,b6,by rw[a2.floor];exact hf,by omega,b7⟩,a3⟩
theorem Md (h:H):B1 h (Au h)=h:=by cases h;rfl
theorem AW.Iq {p:B->Prop} {h h1:H} (s:AW p (Au h) h1):AW p h (B1 h h1):=by
 obtain⟨n,f,hp⟩:=h
 obtain⟨n1,f1,hp1⟩:=h1
 exact⟨rfl,s.next,s.get⟩
theorem CE.Iq {h h1:H} {id:B} {xs:List V} (o:CE h1 id xs) (hf:B.val h.floor<=B.val id):CE (B1 h h1) id xs:=by
 obtain⟨n,f,hp⟩:=h
 obtain⟨n1,f1,hp1⟩:=h1
 obtain⟨Ap,a1,a2,a3,a4,a5,a6,a7⟩:=o
 exact⟨Ap,a1,a2,a3,a4,hf,a6,a7⟩
theorem Ux (cf:Bs) (t:F) (h:H) (k:V->H->Bool) (kd:IntKind) (x:O):CB kd x cf t h k=Xk (oV x t) (fun _ n=>k (.i kd (kd.wrap n)) h) fun _ m r hi=>As (Nat.ble hi (BT kd)) fun _=>k (.r kd m r hi) h:=by simp only[CB,AV,Cc]
theorem Zv (cf:Bs) (t:F) (h:H) (k:V->H->Bool) (x y:O):Gp x y cf t h k=vI (oV y t) fun kd' b=>Xk (oV x t) (fun kd a=>As (CT kd kd') fun _=>RJ kd a b fun v=>k v h) fun kd m r _=>X7 kd' b (fun v=>k v h) kd m r:=by simp only[Gp,AV,Av]
section
variable {P:Program} {S:Spec} {l:List CO} {t:F} {h:H} {K:F->H->Prop}
theorem GX.pure {n:Nat} {r:CW} {v:V} (e:∀ k,r (Gk P S) t (Au h) k=k v (Au h)) (k:GX P S l (put n v t) h K):GX P S (.mk .none (.some (AX n)) false (.mk r)::l) t h K:=
 GX.op e (by rw[Md];exact k)
theorem Nl {o x:O} {id:B} {j fin:Nat} {y:V} {h':H} (e1:oV o t=.p id 0 j fin) (e2:cells (oV x t)=[y]) (hs:∀ k:H->Bool,store h id 0 j fin [y] k=k h') (cf:Bs) (k:V->H->Bool):Ad 1 o x cf t h k=k (.tu []) h':=by
 simp only[Ad,AV,Av,e1,IS,e2]
 have:Nat.beq [y].length 1=true:=rfl
 rw[this,AH,hs]
theorem Fg.store {b:Bool} {o x:O} {id:B} {j fin:Nat} {y:V} {xs:List V} (e1:oV o t=.p id 0 j fin) (e2:cells (oV x t)=[y]) (ho:CE h id xs) (hj:j<fin) (hfit:j<2 ^ 37) (h1:ES y=true)
 (k:∀ h',CE h' id (xs.set j y)->AW (fun i=>i=id) h h'->Fg P S l t h' K):Fg P S (.mk .none .none b (.mk (Ad 1 o x))::l) t h K:=by
 obtain⟨h',a1,a2,a3⟩:=I7 ho hj hfit h1
 exact Fg.op0 (fun k=>Nl e1 e2 a1 _ k) (k h' a2 a3)
theorem GX.ADa {r:CW} {v:V} {h1:H} (e:∀ k,r (Gk P S) t h k=k v h1) (k:GX P S l t h1 K):GX P S (.mk .none .none true (.mk r)::l) t h K:=by
 obtain⟨t',h',a1,a2⟩:=k
 refine⟨t',h',fun k=>?_,a2⟩
 show r (Gk P S) t h (fun v h=>DR (Gk P S) l t h k)=_
 rw[e,a1]
theorem GX.store {o x:O} {id:B} {j fin:Nat} {y:V} {xs:List V} (e1:oV o t=.p id 0 j fin) (e2:cells (oV x t)=[y]) (ho:CE h id xs) (hj:j<fin) (hfit:j<2 ^ 37) (h1:ES y=true)
 (k:∀ h',CE h' id (xs.set j y)->AW (fun i=>i=id) h h'->GX P S l t h' K):GX P S (.mk .none .none true (.mk (Ad 1 o x))::l) t h K:=by
 obtain⟨h',a1,a2,a3⟩:=I7 ho hj hfit h1
 exact GX.ADa (fun k=>Nl e1 e2 a1 _ k) (k h' a2 a3)
/--a literal of one element -/
theorem GX.ACL {n el:Nat} {o:O} {y:V} (e1:oV o t=y) (h1:E5 y=true) (h2:cells y=[y]) (hf:B.val h.floor<=B.val h.next)
 (k:∀ h' id,AW AN h h'->id=h.next->B.val h'.next=B.val h.next+1->CE h' id [y]->GX P S l (put n (.l id 0 0 1 1 (some 1)) t) h' K) {z:V}:GX P S (.mk .none (.some (AX n)) false (.mk (A8 el 1 [z] [Pt.mk 0 1 o]))::l) t h K:=by
 obtain⟨h',a1,a2,a3,a4⟩:=JY el [y] (Au h) (by show 1<2 ^ 37;decide) (by rw[Da,D0];exact Nat.le_refl _)
 rw[D0]at a1 a3 a4
 refine GX.op (v:=.l h.next 0 0 1 1 (some 1)) (h1:=h') (fun k=>?_) (k _ h.next a2.Iq rfl (by obtain⟨n,f,hp⟩:=h;obtain⟨n1,f1,hp1⟩:=h';exact a4) (a3.Iq hf))
 show oK o t (Ga 0 1 (fun t cs k=>k cs) t [z] fun cs=>alloc el cs (Au h) fun id h=>k (.l id 0 0 1 cs.length (some 1)) h)=_
 rw[Av,e1]
 unfold Ga
 rw[h1,AH,h2]
 show alloc el [y] (Au h) (fun id h=>k (.l id 0 0 1 1 (some 1)) h)=_
 rw[a1]
/--append of a literal of one element to an own slice -/
theorem QE {el n:Nat} {s x:O} {id:B} {y:V} {v':V} {h':H} {v:V} (e1:oV s t=v) (e2:oV x t=.l id 0 0 1 1 (some 1)) (hr:Row h id 0 0 [y]) (ha:∀ k:V->H->Bool,Ci el 1 v 1 [y] h k=k v' h') (cf:Bs) (k:V->H->Bool):
 BZ el 1 s x cf t h k=k v' h':=by
 simp only[BZ,Av,e1,e2]
 show Br h id 0 0 1 (Nat.mul 1 1) (fun vs=>Ci el 1 v 1 vs h k)=_
 have:Nat.mul 1 1=1:=rfl
 rw[this,C2 (n:=1) (vs:=[y]) hr rfl (by simp) (by omega),ha]
theorem GX.xJ {n el:Nat} {s x:O} {id:B} {y v:V} {xs:List V} (e1:oV s t=v) (e2:oV x t=.l id 0 0 1 1 (some 1)) (hr:Row h id 0 0 [y]) (hb:FU h el 1 v xs) (hf:B.val h.floor<=B.val h.next) (h1:ES y=true) (hl:xs.length+1<=1048576)
 (k:∀ v' h',FU h' el 1 v' (xs++[y])->AW (Af v) h h'->(∀ i,Af v' i->Af v i\/B.val h.next<=B.val i)->ES v'=true->GX P S l (put n v' t) h' K):GX P S (.mk .none (.some (AX n)) true (.mk (BZ el 1 s x))::l) t h K:=by
 obtain⟨v',h',a1,a2,a3,a4⟩:=LQ (vs:=[y]) (n:=1) hb hf (Nat.le_refl _) rfl (by show Bool.rec false true (ES y)=true;rw[h1]) hl
 refine GX.Ho (fun k=>QE (n:=n) e1 e2 hr a1 _ k) (k v' h' a2 a3 a4 ?_)
 rcases a2 with⟨rfl,_⟩|⟨_,_,_,_,rfl,_⟩<;>rfl
end
theorem Ok.M8 {P:Program} {nt:Nat} {a b:CC} {t:F} {h:H} {K:X->F->H->Prop} (Q:F->H->Prop) (k1:Ok P nt a t h (gT Q K)) (k2:∀ t h,Q t h->Ok P nt b t h K):Ok P nt (.seq a b) t h K:=
 Ok.seq (k1.mono fun x t h hq=>by
  cases x with
  |normal=>exact k2 t h hq
  |exit id=>exact hq
  |ret=>exact hq)
theorem AW.fl {h h':H} {p:B->Prop} (s:AW p h h') (hf:B.val h.floor<=B.val h.next):B.val h'.floor<=B.val h'.next:=by rw[s.floor];exact Nat.le_trans hf s.next
section
variable {P:Program} {S:Spec} {l:List CO} {t:F} {h:H} {K:F->H->Prop}
end
end Go.Ev
namespace Go.Ev
open Go
section
variable {P:Program} {S:Spec} {l:List CO} {t:F} {h:H} {K:F->H->Prop}
/--a literal of one element -/
theorem Fg.ACL {n el:Nat} {b:Bool} {o:O} {y z:V} (e1:oV o t=y) (h1:E5 y=true) (h2:cells y=[y]) (hf:B.val h.floor<=B.val h.next)
 (k:∀ h' id,AW AN h h'->id=h.next->B.val h'.next=B.val h.next+1->CE h' id [y]->Fg P S l (put n (.l id 0 0 1 1 (some 1)) t) h' K):Fg P S (.mk .none (.some (AX n)) b (.mk (A8 el 1 [z] [Pt.mk 0 1 o]))::l) t h K:=by
 obtain⟨h',a1,a2,a3,a4⟩:=JY el [y] h (by show 1<2 ^ 37;decide) hf
 refine Fg.op (v:=.l h.next 0 0 1 1 (some 1)) (h1:=h') (fun k=>?_) (k _ h.next a2 rfl a4 a3)
 show oK o t (Ga 0 1 (fun t cs k=>k cs) t [z] fun cs=>alloc el cs h fun id h=>k (.l id 0 0 1 cs.length (some 1)) h)=_
 rw[Av,e1]
 unfold Ga
 rw[h1,AH,h2]
 show alloc el [y] h (fun id h=>k (.l id 0 0 1 1 (some 1)) h)=_
 rw[a1]
theorem Fg.xJ {n el:Nat} {b:Bool} {s x:O} {id:B} {y v:V} {xs:List V} (e1:oV s t=v) (e2:oV x t=.l id 0 0 1 1 (some 1)) (hr:Row h id 0 0 [y]) (hb:FU h el 1 v xs) (hf:B.val h.floor<=B.val h.next) (h1:ES y=true) (hl:xs.length+1<=1048576)
 (k:∀ v' h',FU h' el 1 v' (xs++[y])->AW (Af v) h h'->(∀ i,Af v' i->Af v i\/B.val h.next<=B.val i)->Fg P S l (put n v' t) h' K):Fg P S (.mk .none (.some (AX n)) b (.mk (BZ el 1 s x))::l) t h K:=by
 obtain⟨v',h',a1,a2,a3,a4⟩:=LQ (vs:=[y]) (n:=1) hb hf (Nat.le_refl _) rfl (by show Bool.rec false true (ES y)=true;rw[h1]) hl
 exact Fg.op (fun k=>QE (n:=n) e1 e2 hr a1 _ k) (k v' h' a2 a3 a4)
end
theorem AW.BI {p:B->Prop} {a b c:H} (x:AW AN a b) (y:AW p b c) (h:∀ id,p id->B.val a.next<=B.val id):AW AN a c:=
 ⟨y.floor.trans x.floor,Nat.le_trans x.next y.next,fun id h1 _=>(y.get id (Nat.lt_of_lt_of_le h1 x.next) fun hp=>absurd (h id hp) (Nat.not_le.2 h1)).trans (x.get id h1 fun h=>h)⟩
/--a slice of ints -/
def Il (h:H) (v:V) (xs:List Int):Prop:=GY h v (xs.map (V.i .i64))
theorem Il.grow {h h':H} {v:V} {xs:List Int} (a:Il h v xs) (s:AW AN h h'):Il h' v xs:=GY.grow a s
theorem Il.len {h0:H} {v:V} {xs:List Int} (a:Il h0 v xs) (k:Nat->Bool):Sg v k=k xs.length:=by rw[GY.len a];simp
theorem Il.idx {h0:H} {v:V} {xs:List Int} {i:Nat} (a:Il h0 v xs) (hi:i<xs.length) (k:V->Bool):Nn 1 v i k=k (.p (GV v) (lg v) (Ct v+i) (Cv v)):=GY.idx a (by simpa using hi) k
theorem Il.rd {h:H} {v:V} {xs:List Int} {i:Nat} (a:Il h v xs) (hi:i<xs.length) (k:V->Bool):DI h (GV v) (lg v) (Ct v+i) (Cv v) k=k (.i .i64 (xs.getD i 0)):=
 Fm a (by simp[hi]) k
/--.. of the call's own,behind 'lo' -/
structure Ib (h:H) (lo el:Nat) (v:V) (xs:List Int):Prop where
 buf:FU h el 1 v (xs.map (V.i .i64))
 own:∀ i,Af v i->lo<=B.val i
theorem Ib.nil (h:H) (lo el:Nat):Ib h lo el .l0 []:=⟨FU.nil h el 1,fun i hi=>by obtain⟨_,_,_,_,_,e⟩:=hi;cases e⟩
theorem Ib.grow {h h':H} {lo el:Nat} {v:V} {xs:List Int} (a:Ib h lo el v xs) (s:AW AN h h'):Ib h' lo el v xs:=⟨a.buf.grow s,a.own⟩
/--append(v,y)with its literal -/
theorem Fg.push {P:Program} {S:Spec} {l:List CO} {t:F} {h:H} {K:F->H->Prop} {n m el lo:Nat} {b b':Bool} {s o:O} {z v:V} {y:Int} {xs:List Int} (hnm:n<512) (hs:s≠.t (AX m)) (e1:oV s t=v) (e2:oV o t=.i .i64 y) (a:Ib h lo el v xs) (hf:B.val h.floor<=B.val h.next) (hlo:lo<=B.val h.next) (hl:xs.length+1<=1048576) (hm:m<512) (e3:∀ u,oV s (put m u t)=v)
 (k:∀ v' h' u,Ib h' lo el v' (xs++[y])->AW (Af v) h h'->Fg P S l (put n v' (put m u t)) h' K):
 Fg P S (.mk .none (.some (AX m)) b (.mk (A8 el 1 [z] [Pt.mk 0 1 o]))::.mk .none (.some (AX n)) b' (.mk (BZ el 1 s (.t (AX m))))::l) t h K:=by
 refine Fg.ACL e2 rfl rfl hf fun h1 id s1 e n1 o1=>?_
 refine Fg.xJ (e3 _) (by rw[Wn,Ql _ _ _ _ hm hm,if_pos rfl]) o1.row (a.buf.grow s1) (s1.fl hf) rfl (by simpa using hl) fun v' h' b1 s2 hv=>?_
 refine k v' h' _ ⟨by simpa using b1,fun i hi=>?_⟩ ?_
 ·rcases hv i hi with h2|h2
  ·exact a.own i h2
  ·have:=s1.next;omega
 ·refine⟨s2.floor.trans s1.floor,Nat.le_trans s1.next s2.next,fun id' h1' h2=>(s2.get id' (Nat.lt_of_lt_of_le h1' s1.next) h2).trans (s1.get id' h1' fun h=>h)⟩
end Go.Ev
namespace Go.Ev
open Go
theorem OS (z:V):∀ n,Dq [z] n=List.replicate n z
 |0=>rfl
 |n+1=>by
  show z::Dq [z] n=_
  rw[OS z n,List.replicate_succ]
section
variable {P:Program} {S:Spec} {l:List CO} {t:F} {h:H} {K:F->H->Prop}
end
/--the front of an own block,as a slice -/
theorem CE.front {h:H} {id:B} {xs ys:List V} {fin:Nat} (o:CE h id (xs++ys)) (hf:xs.length<=fin) (cap:Option Nat):GY h (.l id 0 0 xs.length fin cap) xs:=by
 have r:=o.row
 obtain⟨Ap,h1,h2,h3,h4,h5,h6,h7⟩:=o
 refine .inr ⟨id,0,0,fin,cap,rfl,by omega,h6,fun _=>⟨Ap,h1,by omega⟩,fun i y hy=>r.2 i y ?_⟩
 have:i<xs.length:=by
  rcases Nat.lt_or_ge i xs.length with h|h
  ·exact h
  ·rw[List.getElem?_eq_none h]at hy;cases hy
 rw[List.getElem?_append_left this]
 exact hy
end Go.Ev
namespace Go.Ev
open Go
/--a text,as a value -/
def sv (l:List UInt8):V:=.s l.length (pk l)
theorem dY:V.s 0 0=sv []:=rfl
theorem C7 (l:List UInt8) (k:Nat->Nat->Bool):vS (sv l) k=k l.length (pk l):=rfl
theorem DA {z:Int} (h:0<=z) (k:Nat->Bool):A6 z k=k z.toNat:=by
 obtain⟨n,rfl⟩:=Int.eq_ofNat_of_zero_le h
 rfl
/--a byte,as a value -/
def bv (c:UInt8):V:=.i .u8 (c.toNat:Int)
theorem Kw (n:Nat):V.i .u8 ((n%256:Nat):Int)=bv (UInt8.ofNat n):=by
 unfold bv;simp
theorem AAo (u v w:V):one [u,v,w]=.tu [u,v,w]:=rfl
theorem ACO (n m o:Nat) (t:F) (h:H) (k:List V->Bool):Fa [Rs.tmp (AX n),Rs.tmp (AX m),Rs.tmp (AX o)] t h k=k [get n t,get m t,get o t]:=by
 show Bt (Bx (AX n) t) (fun v=>Bt (Bx (AX m) t) fun u=>Bt (Bx (AX o) t) fun w=>k [v,u,w])=_
 rw[BH,BH,BH];rfl
section
variable (cf:Bs) (t:F) (h:H) (k:V->H->Bool) (o x y:O)
def Tu (a b:V) (k:V->Bool):Bool:=vS a fun la na=>vS b fun lb nb=>As (Nat.ble (Nat.add la lb) 1048576) fun _=>k (.s (Nat.add la lb) (Nat.add (Nat.mul na (Nat.pow 256 lb)) nb))
theorem Ru:CQ x y cf t h k=Tu (oV x t) (oV y t) fun v=>k v h:=by simp only[CQ,AV,A5];rfl
theorem XQ {a b:List UInt8} (hl:a.length+b.length<=1048576) (k:V->Bool):Tu (sv a) (sv b) k=k (sv (a++b)):=by
 have h1:Nat.ble (Nat.add a.length b.length) 1048576=true:=by rw[Nat.ble_eq];exact hl
 unfold Tu
 rw[C7,C7,h1,AH]
 unfold sv
 rw[List.length_append,EJ];rfl
def R4 (v:V) (i:Nat) (k:V->Bool):Bool:=vS v fun l n=>As (Nat.ble (Nat.succ i) l) fun _=>k (.i .u8 (.ofNat (Nat.mod (Nat.div n (Nat.pow 256 (Nat.sub (Nat.sub l 1) i))) 256)))
theorem Q8:DU x y cf t h k=vI (oV y t) fun _ n=>A6 n fun n=>R4 (oV x t) n fun v=>k v h:=by
 have no:∀ u:V,(vI u fun _ n=>A6 n fun _=>false)=false:=by
  intro u
  cases u<;>first|rfl|(rename_i kd n;cases n<;>rfl)
 simp only[DU,AV]
 generalize oV x t=v
 generalize oV y t=u
 have hn:∀ w:V,(∀ k,vS w k=false)->(vI u fun _ n=>A6 n fun n=>R4 w n fun p=>k p h)=false:=by
  intro w hw
  have:(fun(_:IntKind) (n:Int)=>A6 n fun n=>R4 w n fun p=>k p h)=fun _ n=>A6 n fun _=>false:=by
   funext _ n;congr 1;funext n;exact hw _
  rw[this];exact no u
 cases v with
 |s l n=>simp only[ID,A5];rfl
 |_=>rw[hn _ fun _=>rfl];rfl
theorem Xj {l:List UInt8} {i:Nat} (hi:i<l.length) (k:V->Bool):R4 (sv l) i k=k (.i .u8 ((l.getD i 0).toNat:Int)):=by
 have h1:Nat.ble (Nat.succ i) l.length=true:=by rw[Nat.ble_eq];exact hi
 unfold R4
 rw[C7,h1,AH]
 have e:l.getD i 0=l[i]:=by simp[List.getD,hi]
 have:=TC l hi
 rw[e,this]
 rfl
def RZ (v:V) (a b:Nat) (k:V->Bool):Bool:=vS v fun l n=>As (Nat.ble a b) fun _=>As (Nat.ble b l) fun _=>k (.s (Nat.sub b a) (Nat.mod (Nat.div n (Nat.pow 256 (Nat.sub l b))) (Nat.pow 256 (Nat.sub b a))))
def Oa (v:V) (a:Nat) (k:V->Bool):Bool:=vS v fun l n=>As (Nat.ble a l) fun _=>k (.s (Nat.sub l a) (Nat.mod (Nat.div n (Nat.pow 256 (Nat.sub l l))) (Nat.pow 256 (Nat.sub l a))))
theorem no1 (u:V):(vI u fun _ n=>A6 n fun _=>false)=false:=by
 cases u<;>first|rfl|(rename_i kd n;cases n<;>rfl)
theorem Y8 (a b:O):BV x (some a) (some b) cf t h k=vI (oV a t) fun _ p=>A6 p fun p=>vI (oV b t) fun _ q=>A6 q fun q=>RZ (oV x t) p q fun v=>k v h:=by
 simp only[BV,AV]
 have hb:∀ (o:O) (d:Nat) (k:Nat->Bool),BW (some o) d t k=vI (oV o t) fun _ n=>A6 n k:=fun o d k=>by show oE o t _=_;rw[AV]
 simp only[hb,A5]
 generalize oV x t=v
 have hn:∀ w:V,(∀ k,vS w k=false)->(vI (oV a t) fun _ p=>A6 p fun p=>vI (oV b t) fun _ q=>A6 q fun q=>RZ w p q fun v=>k v h)=false:=by
  intro w hw
  have e2:∀ p q,RZ w p q (fun v=>k v h)=false:=fun p q=>hw _
  simp only[e2,no1]
 cases v with
 |s l n=>simp only[ID];rfl
 |_=>rw[hn _ fun _=>rfl];rfl
theorem fu (b:O):BV x none (some b) cf t h k=vI (oV b t) fun _ q=>A6 q fun q=>RZ (oV x t) 0 q fun v=>k v h:=by
 simp only[BV,AV]
 have hb:∀ (o:O) (d:Nat) (k:Nat->Bool),BW (some o) d t k=vI (oV o t) fun _ n=>A6 n k:=fun o d k=>by show oE o t _=_;rw[AV]
 have h0:∀ (d:Nat) (k:Nat->Bool),BW none d t k=k d:=fun _ _=>rfl
 simp only[hb,h0,A5]
 generalize oV x t=v
 have hn:∀ w:V,(∀ k,vS w k=false)->(vI (oV b t) fun _ q=>A6 q fun q=>RZ w 0 q fun v=>k v h)=false:=by
  intro w hw
  have e2:∀ p q,RZ w p q (fun v=>k v h)=false:=fun p q=>hw _
  simp only[e2,no1]
 cases v with
 |s l n=>simp only[ID];rfl
 |_=>rw[hn _ fun _=>rfl];rfl
theorem fQ (a:O):BV x (some a) none cf t h k=vI (oV a t) fun _ p=>A6 p fun p=>Oa (oV x t) p fun v=>k v h:=by
 simp only[BV,AV]
 have hb:∀ (o:O) (d:Nat) (k:Nat->Bool),BW (some o) d t k=vI (oV o t) fun _ n=>A6 n k:=fun o d k=>by show oE o t _=_;rw[AV]
 have h0:∀ (d:Nat) (k:Nat->Bool),BW none d t k=k d:=fun _ _=>rfl
 simp only[hb,h0,A5]
 generalize oV x t=v
 have hn:∀ w:V,(∀ k,vS w k=false)->(vI (oV a t) fun _ q=>A6 q fun q=>Oa w q fun v=>k v h)=false:=by
  intro w hw
  have e2:∀ q,Oa w q (fun v=>k v h)=false:=fun q=>hw _
  simp only[e2,no1]
 cases v with
 |s l n=>
  simp only[ID]
  have:∀ p,Oa (.s l n) p (fun v=>k v h)=As (Nat.ble p l) fun _=>k (.s (Nat.sub l p) (Nat.mod (Nat.div n (Nat.pow 256 (Nat.sub l l))) (Nat.pow 256 (Nat.sub l p)))) h:=fun _=>rfl
  simp only[this]
  have e:∀ p,(As (Nat.ble p l) fun _=>As (Nat.ble l l) fun _=>k (.s (Nat.sub l p) (Nat.mod (Nat.div n (Nat.pow 256 (Nat.sub l l))) (Nat.pow 256 (Nat.sub l p)))) h)=As (Nat.ble p l) fun _=>k (.s (Nat.sub l p) (Nat.mod (Nat.div n (Nat.pow 256 (Nat.sub l l))) (Nat.pow 256 (Nat.sub l p)))) h:=fun p=>by
   have:Nat.ble l l=true:=by rw[Nat.ble_eq];exact Nat.le_refl _
   rw[this];rfl
  simp only[e]
 |_=>rw[hn _ fun _=>rfl];rfl
theorem Px {l:List UInt8} {a b:Nat} (h1:a<=b) (h2:b<=l.length) (k:V->Bool):RZ (sv l) a b k=k (sv ((l.take b).drop a)):=by
 have e1:Nat.ble a b=true:=by rw[Nat.ble_eq];exact h1
 have e2:Nat.ble b l.length=true:=by rw[Nat.ble_eq];exact h2
 unfold RZ
 rw[C7,e1,AH,e2,AH]
 unfold sv
 rw[NI l h1 h2,List.length_drop,List.length_take,Nat.min_eq_left h2];rfl
theorem WG {l:List UInt8} {a:Nat} (h1:a<=l.length) (k:V->Bool):Oa (sv l) a k=k (sv (l.drop a)):=by
 have:=Px h1 (Nat.le_refl _) k
 rw[List.take_length]at this
 rw[<-this]
 have e1:Nat.ble a l.length=true:=by rw[Nat.ble_eq];exact h1
 have e2:Nat.ble l.length l.length=true:=by rw[Nat.ble_eq];exact Nat.le_refl _
 unfold RZ Oa
 rw[C7,C7,e1,AH,AH,e2,AH]
def Nc (f:Nat->Nat->Nat->Nat->Bool) (a b:V) (k:V->Bool):Bool:=vS a fun la na=>vS b fun lb nb=>k (.b (f la na lb nb))
theorem XC (f:Nat->Nat->Nat->Nat->Bool):CZ f x y cf t h k=Nc f (oV x t) (oV y t) fun v=>k v h:=by simp only[CZ,AV,Cb];rfl
theorem H0 (a b:List UInt8):F6 a.length (pk a) b.length (pk b)=decide (a=b):=by
 have e:∀ {x y:Bool},(x=true↔y=true)->x=y:=by intro x y h;cases x<;>cases y<;>simp_all
 apply e
 rw[decide_eq_true_iff]
 have:=Sy a b
 unfold F6
 rw[<-this]
 exact beq_iff_eq
def cmV (a b:V) (k:V->Bool):Bool:=vS a fun la na=>vS b fun lb nb=>k (.i .i64 (Jr (F6 la na lb nb) (G5 la na lb nb)))
theorem YU:Gu x y cf t h k=cmV (oV x t) (oV y t) fun v=>k v h:=by simp only[Gu,AV,Yf];rfl
theorem eJ (a b:List UInt8) (k:V->Bool):cmV (sv a) (sv b) k=k (.i .i64 (Jr (decide (a=b)) (Op.bytesLess a b))):=by
 unfold cmV;rw[C7,C7,H0,B2]
theorem cS (a b:List UInt8) (k:V->Bool):Nc F6 (sv a) (sv b) k=k (.b (decide (a=b))):=by
 unfold Nc;rw[C7,C7,H0]
theorem kB (a b:List UInt8) (k:V->Bool):Nc (fun a b c d=>!F6 a b c d) (sv a) (sv b) k=k (.b (!decide (a=b))):=by
 unfold Nc;rw[C7,C7];simp only[H0]
theorem Zl (a b:List UInt8) (k:V->Bool):Nc G5 (sv a) (sv b) k=k (.b (Op.bytesLess a b)):=by
 unfold Nc;rw[C7,C7,B2]
theorem Vs (f:IntKind->Int->Nat->(V->Bool)->Bool):B0 f x y cf t h k=vI (oV x t) fun kd a=>vI (oV y t) fun _ b=>A6 b fun n=>f kd a (min n kd.bits) fun v=>k v h:=by simp only[B0,AV]
theorem rL (kd:IntKind) (a:Int) (n:Nat) (k:V->Bool):K2 kd a n k=k (.i kd (kd.wrap (a*((2 ^ n:Nat):Int)))):=Cc _ _ _
theorem SE (len size:Nat):B9 len size o x cf t h k=vP (oV o t) fun id g off fin=>vI (oV x t) fun _ n=>A6 n fun n=>As (Nat.ble (Nat.succ n) len) fun _=>k (.p id g (off+n*size) fin) h:=by
 simp only[B9,AV,A5];rfl
theorem tB {i n:Nat} (h:i<n) (k:Unit->Bool):As (Nat.ble (Nat.succ i) n) k=k ():=by
 have:Nat.ble (Nat.succ i) n=true:=by rw[Nat.ble_eq];exact h
 rw[this];rfl
theorem Nt (n size:Nat) (a:O):DC n size x (some a) none cf t h k=vP (oV x t) fun id g off fin=>vI (oV a t) fun _ p=>A6 p fun p=>As (Nat.ble p n) fun _=>BY size id g off n fin n p n fun v=>k v h:=by
 simp only[DC,AV]
 have hb:∀ (o:O) (d:Nat) (k:Nat->Bool),BW (some o) d t k=vI (oV o t) fun _ n=>A6 n k:=fun o d k=>by show oE o t _=_;rw[AV]
 have h0:∀ (d:Nat) (k:Nat->Bool),BW none d t k=k d:=fun _ _=>rfl
 simp only[hb,h0]
theorem EE {size:Nat} {id:B} {g off len fin c a b:Nat} (hcM:c<18446744073709551616) (h1:b<=c) (h2:a<c) (k:V->Bool):BY size id g off len fin c a b k=k (.l id g (off+a*size) (b-a) fin (some (c-a))):=by
 have e1:Nat.ble b c=true:=by rw[Nat.ble_eq];exact h1
 have e2:Nat.beq a c=false:=by
  cases hx:Nat.beq a c with
  |false=>rfl
  |true=>have:=Nat.eq_of_beq_eq_true hx;omega
 have e0:Nat.ble (Nat.succ c) 18446744073709551616=true:=by rw[Nat.ble_eq];exact hcM
 unfold BY
 rw[e0,AH,e1,AH,e2]
 show fN (Nat.sub b a) _=_
 rw[A5,A5,A5];rfl
theorem rQ {a b:Nat} (h:a<=b) (k:Unit->Bool):As (Nat.ble a b) k=k ():=by
 have:Nat.ble a b=true:=by rw[Nat.ble_eq];exact h
 rw[this];rfl
def TQ (h:H) (v:V) (k:V->Bool):Bool:=vL v (fun _=>k (.s 0 0)) fun id g off len fin _=>LJ len len h id g off fin fun vs=>Hk vs 0 fun n=>k (.s len n)
theorem nB:Hi x cf t h k=TQ h (oV x t) fun v=>k v h:=by simp only[Hi,AV];rfl
theorem J0:∀ (l:List UInt8) (acc:Nat) (k:Nat->Bool),Hk (l.map bv) acc k=k (acc*256 ^ l.length+pk l)
 |[],acc,k=>by show fN acc k=_;rw[A5];simp[pk]
 |c::l,acc,k=>by
  show Jl (bv c) (fun c=>fN (Nat.add (Nat.mul acc 256) c) fun acc=>Hk (l.map bv) acc k)=_
  have hb:∀ k',Jl (bv c) k'=k' c.toNat:=fun k'=>by
   have h2:Nat.ble c.toNat 255=true:=by rw[Nat.ble_eq];have:=c.toNat_lt;omega
   unfold Jl bv
   rw[Cx,BO,AH]
   show A6 (Int.ofNat c.toNat) _=_
   rw[BA,h2,AH]
  rw[hb,A5,J0 l]
  congr 1
  show(acc*256+c.toNat)*256 ^ l.length+pk l=acc*256 ^ (l.length+1)+(c.toNat*256 ^ l.length+pk l)
  rw[Nat.add_mul,Nat.pow_succ,Nat.mul_assoc,Nat.mul_comm 256,Nat.add_assoc]
theorem WS {h:H} {v:V} {l:List UInt8} (a:GY h v (l.map bv)) (hne:l≠[]) (k:V->Bool):TQ h v k=k (sv l):=by
 rcases a with⟨rfl,e⟩|⟨id,g,off,fin,cap,rfl,h2,h3,h4⟩
 ·simp at e;exact absurd e hne
 ·show LJ (l.map bv).length (l.map bv).length h id g off fin (fun vs=>Hk vs 0 fun n=>k (.s (l.map bv).length n))=_
  rw[L6 (by rw[List.length_map];exact List.length_pos_iff.2 hne),C2 h4 rfl (by simpa using hne) h2,J0]
  unfold sv
  simp
end
section
variable {P:Program} {S:Spec} {l:List CO} {t:F} {h:H} {K:F->H->Prop}
end
/--the end of an own block,as a slice -/
theorem CE.back {h:H} {id:B} {xs:List V} {a fin:Nat} (o:CE h id xs) (ha:a<=xs.length) (hf:xs.length<=fin) (cap:Option Nat):GY h (.l id 0 a (xs.length-a) fin cap) (xs.drop a):=by
 have r:=o.row
 obtain⟨Ap,h1,h2,h3,h4,h5,h6,h7⟩:=o
 refine .inr ⟨id,0,a,fin,cap,by rw[List.length_drop],by rw[List.length_drop];omega,h6,fun _=>⟨Ap,h1,by omega⟩,fun i y hy=>?_⟩
 rw[List.getElem?_drop]at hy
 have:=r.2 (a+i) y hy
 rwa [Nat.zero_add]at this
end Go.Ev
namespace Go.Ev
open Go Go.RowKit Go.WideShapes Go.ChangeShapes Go.ChangeAt
section
variable {H:Type} {enc:TypeId×Value->H}
theorem Hj {P:Program} (hl:laidOutB P=true) {W W':World} (hb:Below W.heap.size W W') (sp:Nat->Bool):∀ (ts:List TypeId) (vs:List Value) (ds:List (DataW H)) (ps:List MemPlace),
 ts.all (fun t=>P.readableRec t&&decide (t<P.types.size))=true->DataW.TrodAll enc P W 0 (fun _=>true) true ts vs ds ps->(∀ x∈ps,x.block<W.heap.size)->(∀ x∈ps,sp x.block=true)->DataW.TrodAll enc P W' 0 sp true ts vs ds ps
 |[],[],[],ps,_,h,_,_=>h
 |t::ts,v::vs,d::ds,ps,ht,h,hlt,hsp=>by
  obtain⟨p,q,h1,h2,rfl⟩:=h
  simp only[List.all_cons,Bool.and_eq_true]at ht
  refine⟨p,q,?_,Hj hl hb sp ts vs ds q (by simpa using ht.2) h2 (fun x hx=>hlt x (by simp[hx])) (fun x hx=>hsp x (by simp[hx])),rfl⟩
  exact WideElems.Trod_stays hl ht.1.1 (of_decide_eq_true ht.1.2) h1 (fun x hx=>hb.same (hlt x (by simp[hx]))) (fun x hx=>hsp x (by simp[hx]))
 |[],[],_::_,_,_,h,_,_=>h.elim
 |[],_::_,_,_,_,h,_,_=>by cases h
 |_::_,[],_,_,_,h,_,_=>by cases h
 |_::_,_::_,[],_,_,h,_,_=>by cases h
theorem PO {C:Checked} {os:Os} {f:FuncId} {fn:Func} {s:ChangeSpec} {conds:List PathCond} {tb:TypeId}
 (own:ownKnob C.prog.godebug=none) (started:os.Started) (noInit:C.prog.inits.idxOf? f=none) (hfn:C.prog.funcs[f]? =some fn)
 (witness:∃ (w:World) (tape:Tape) (i:Input),w.os=os/\(w.forCall tape i).Shaped C.prog/\i.vars=[]/\Input.okWide C.prog (w.forCall tape i) .any w.heap.size f i/\
   s.pre6 enc C.prog fn conds false (w.forCall tape i).memory i.args/\({}:Assume).holds C.prog (lone (Frame.enter C.prog f i.args .normal) [] (w.forCall tape i)))
 (hv:s.vars=[]) (hs:∀ ds:List (DataW H),ds.length=fn.params.toList.length->s.fn H ds={results:=[.lit (.bool true)],args:=ds})
 (hl:laidOutB C.prog=true) (hr:fn.params.toList.all (fun t=>C.prog.readableRec t&&decide (t<C.prog.types.size))=true)
 (hres:fn.resultTypes=#[tb]) (hb:C.prog.underlying tb=some .bool)
 (run:∀ (W:World) (base:Nat) (args:Array Value) (ds:List (DataW H)) (p:List MemPlace),(∀ (j:Nat) t v,fn.params[j]? =some t->args[j]? =some v->Value.okWide C.prog W .any base t v)->W.ShapedOpen C.prog->DataW.TrodAll enc C.prog W 0 (fun _=>true) true fn.params.toList args.toList ds p->
   Calls C.prog f args W fun e w'=>e=.returned (.bool true)/\Below W.heap.size W w'):
 ReturnsInHanded {} C os f .any (s.pre6 enc C.prog fn conds false) (s.post enc C.prog fn false true false false):=by
 refine returnsInHanded_of_change_shaped own started noInit hfn witness ?_
 intro W base args ds gs before hval0 hW hcnd _ hopen _
 have hval:∀ (j:Nat) t v,fn.params[j]? =some t->args[j]? =some v->Value.okWide C.prog W .any base t v:=hval0
 have hW':=hW
 obtain⟨p,q,hA,hV,rfl,hfz,hnd⟩:=hW
 rw[hv]at hV
 obtain⟨rfl,rfl⟩:=trodVars_none hV
 have hlen:∀ (ts:List TypeId) (vs:List Value) (ds:List (DataW H)) (ps:List MemPlace),DataW.TrodAll enc C.prog W 0 (fun _=>true) true ts vs ds ps->ds.length=ts.length:=by
  intro ts
  induction ts with
  |nil=>intro vs ds ps h;cases vs<;>cases ds<;>first|rfl|cases h
  |cons t ts ih=>
   intro vs ds ps h
   cases vs with
   |nil=>cases h
   |cons v vs=>
    cases ds with
    |nil=>cases h
    |cons d ds=>obtain⟨p,q,h1,h2,rfl⟩:=h;simp[ih vs ds q h2]
 have hd:=hlen _ _ _ _ hA
 have hspec:s.fn H (ds++[])={results:=[.lit (.bool true)],args:=ds}:=by rw[List.append_nil];exact hs ds hd
 refine(run W base args ds p hval hopen hA).mono fun e W' ⟨he,hg⟩=>?_
 subst he
 simp only[List.append_nil]at hW'
 have hlt:∀ x∈p,x.block<W.heap.size:=fun x hx=>by simpa using hW'.lt x (by simpa using hx)
 refine⟨_,rfl,SN (pa:=p) (pv:=[]) hg (by simpa using hW') (fun b sp hd=>?_) (fun sp hsp=>?_) (fun sp hsp=>?_) rfl (ok_one hres rfl (okWide_bool_mk hb _))⟩
 ·rw[hspec,hres]
  exact trodAll_cons_mk (shut_bool hb _) trodAll_mk0
 ·rw[hspec]
  exact Hj hl hg sp _ _ _ _ hr hA hlt (fun x hx=>hsp x (by simpa using hx))
 ·rw[hspec,hv];rfl
end
/--what a call's contract at the state that it begins in says of the call -/
theorem Pe {P:Program} {f:FuncId} {W:World} {h:H} (s:Start W h) {vs:List V} {args:Array Value} (ha:BK (Mj W) vs args.toList) (k:A3 P f vs h fun y _=>y=.b true):Calls P f args W fun e w'=>e=.returned (.bool true)/\Below W.heap.size W w':=by
 obtain⟨y,h',⟨_,_,r⟩,rfl⟩:=k
 have:=(r (Mj W) W W args.toList ha s.rel).2
 rw[show args.toList.toArray=args by simp]at this
 refine this.mono fun e w' he=>?_
 obtain⟨x,rfl,ρ',_,x2,x3⟩:=he
 have x2':x=.bool true:=x2
 rw[x2']
 exact⟨rfl,x3.same.below⟩
end Go.Ev
namespace Go.Ev
open Go Go.RowKit Go.WideShapes Go.ChangeShapes Go.ChangeAt Go.Deep
theorem Ot {W:World} {a:Addr} {i:Nat} {x:Value} (h:W.cell? (a.add i)=some x):W.cell? ⟨a.block,a.off+i,none⟩=some x:=by
 have hsp:=World.cell?_spot h
 have e:a.add i=⟨a.block,a.off+i,none⟩:=by
  unfold Addr.add at hsp⊢
  split
  ·rename_i hi
   rw[if_pos hi]at hsp
   subst hi
   obtain⟨b,o,sp⟩:=a
   have:sp=none:=hsp
   rw[this];rfl
  ·rfl
 rw[<-e];exact h
section
variable {H':Type} {enc:TypeId×Value->H'} {P:Program}
/--a slice of one-cell elements:its elements' values -/
theorem Lo:maxLen<18446744073709551616:=by decide
/--a slice whose elements are of one cell -/
theorem Y5 {W:World} {h:H} (s:Start W h) (h0:0<W.heap.size) {t e:TypeId} {fuel:Nat} {cs:List Value} {x:DataW H'×List MemPlace} (ht:P.underlying t=some (.slice e)) (hc:P.cellsOf e=1)
 (hd:DataW.trod enc P W 0 (fun _=>true) true fuel t cs=some x):∃ (sv:Value) (xs:List Value),cs=[sv]/\GY h (C6 W sv) (xs.map (C6 W))/\xs.length<=maxLen/\
   ∀ (i:Nat) (y:Value),xs[i]? =some y->∃ n d p,DataW.trod enc P W 0 (fun _=>true) true n e [y]=some (d,p):=by
 rcases open_slice1 ht hc hd with⟨rfl,_⟩|⟨a,len,cap,m,n,V,D,Pl,rfl,hb,hl,hm,hmm,_,hx⟩
 ·exact⟨_,[],rfl,.inl ⟨rfl,rfl⟩,Nat.zero_le _,fun i y hy=>by simp at hy⟩
 ·simp only[if_true]at hmm
  have hget:∀ i y,((List.range len).map V)[i]? =some y->i<len/\y=V i:=by
   intro i y hy
   have hi:i<len:=by have:=(List.getElem?_eq_some_iff.1 hy).1;simpa using this
   simp[hi]at hy
   exact⟨hi,hy.symm⟩
  refine⟨_,(List.range len).map V,rfl,?_,by simp;omega,fun i y hy=>?_⟩
  ·refine s.DT h0 (fun hne=>?_) hl (Nat.lt_of_le_of_lt hm Lo) _ (by simp) fun i y hy=>?_
   ·have:=World.cell?_spot (hx 0 (by omega)).1
    unfold Addr.add at this
    simpa using this
   ·obtain⟨hi,rfl⟩:=hget i y hy
    exact Ot (hx i (by omega)).1
  ·obtain⟨hi,rfl⟩:=hget i y hy
   exact⟨_,_,_,(hx i (by omega)).2⟩
end
end Go.Ev
namespace Go.Ev
open Go Go.RowKit Go.WideShapes Go.ChangeShapes Go.ChangeAt Go.Deep
theorem TT (W:World) (s:ByteArray):C6 W (.string s)=sv s.data.toList:=by
 unfold C6 sv
 simp
theorem wf_i64 {n:Int} (h:(Lit.int .i64 n).wf=true): -9223372036854775808<=n/\n<=9223372036854775807:=by
 simp only[Lit.wf,IntKind.has,IntKind.min,IntKind.max,IntKind.signed,IntKind.bits]at h
 simp at h
 omega
theorem YQ {a:Int} (h:(Lit.int .u16 a).wf=true):∃ n:Nat,n<=65535/\a=(n:Int):=by
 have h':=h
 simp only[Lit.wf,IntKind.has,IntKind.min,IntKind.max,IntKind.signed,IntKind.bits]at h'
 simp at h'
 exact⟨a.toNat,by omega,by omega⟩
theorem Lm {n:Nat} (h:n<=maxLen):n<=9223372036854775807:=by unfold maxLen at h;omega
section
variable {H':Type} {enc:TypeId×Value->H'} {P:Program}
/--a slice of numbers of one kind -/
def Kl (h:H) (kd:IntKind) (v:V) (L:List Int):Prop:=GY h v (L.map (V.i kd))
theorem xz {W:World} {h:H} {kd:IntKind} (s:Start W h) (h0:0<W.heap.size) {t e:TypeId} {fuel:Nat} {cs:List Value} {x:DataW H'×List MemPlace} (ht:P.underlying t=some (.slice e)) (hc:P.cellsOf e=1) (he:P.underlying e=some (.int kd))
 (hd:DataW.trod enc P W 0 (fun _=>true) true fuel t cs=some x):∃ sv L,cs=[sv]/\Kl h kd (C6 W sv) L/\L.length<=9223372036854775807/\∀ n∈L,(Lit.int kd n).wf=true:=by
 obtain⟨sv,xs,rfl,l1,l2,l3⟩:=Y5 s h0 ht hc hd
 have hb:∀ y∈xs,∃ n:Int,y=.int kd n/\(Lit.int kd n).wf=true:=by
  intro y hy
  obtain⟨i,hi⟩:=List.mem_iff_getElem?.1 hy
  obtain⟨n,d,p,hdy⟩:=l3 i y hi
  obtain⟨b,hb,_,hs⟩:=DataW.trod_int he hdy
  exact⟨b,by simpa using hb,hs⟩
 have hR:∃ R:List Int,xs=R.map (Value.int kd)/\∀ n∈R,(Lit.int kd n).wf=true:=by
  clear l1 l2 l3 hd
  induction xs with
  |nil=>exact⟨[],rfl,fun b hb=>by cases hb⟩
  |cons y ys ih=>
   obtain⟨b,rfl,hs⟩:=hb y (by simp)
   obtain⟨R,rfl,hR⟩:=ih fun z hz=>hb z (by simp[hz])
   exact⟨b::R,rfl,fun c hc=>by
    rcases List.mem_cons.1 hc with rfl|hc
    ·exact hs
    ·exact hR c hc⟩
 obtain⟨R,rfl,hR⟩:=hR
 refine⟨sv,R,rfl,?_,Lm (by simpa using l2),hR⟩
 unfold Kl
 have:(R.map (Value.int kd)).map (C6 W)=R.map (V.i kd):=by simp[C6]
 rwa [this]at l1
end
end Go.Ev
namespace Go.Ev
open Go
/--what one operation makes of a state -/
def Hq (P:Program) (r:CR) (t:F) (h:H) (v:V) (h':H):Prop:=∃ cf,GU P cf/\∀ k,runK r cf t h k=k v h'
def Cu (P:Program) (o:CO) (t:F) (h:H) (t1:F) (h1:H):Prop:=match o with
 |.mk g d _ r=>∃ b,(∀ k,Cp g t k=k b)/\((b=true/\∃ v,Hq P r t h v h1/\∀ k,Dn d v t k=k t1)\/(b=false/\h1=h/\∀ k,Dn d (.tu []) t k=k t1))
def Mo (P:Program):List CO->F->H->F->H->Prop
 |[],t,h,t',h'=>t'=t/\h'=h
 |o::l,t,h,t',h'=>∃ t1 h1,Cu P o t h t1 h1/\Mo P l t1 h1 t' h'
def Uo (P:Program) (o:CO) (t:F) (h:H) (t1:F) (h1:H):Prop:=match o with
 |.mk g d true r=>Cu P (.mk g d true r) t h t1 h1
 |.mk g d false r=>∃ b,(∀ k,Cp g t k=k b)/\((b=true/\∃ v h2,Hq P r t (Au h) v h2/\h1=B1 h h2/\∀ k,Dn d v t k=k t1)\/(b=false/\h1=h/\∀ k,Dn d (.tu []) t k=k t1))
def Mv (P:Program):List CO->F->H->F->H->Prop
 |[],t,h,t',h'=>t'=t/\h'=h
 |o::l,t,h,t',h'=>∃ t1 h1,Uo P o t h t1 h1/\Mv P l t1 h1 t' h'
theorem KI (P:Program):GU P (Gk P fun _ _ _ _ _=>True):=KU P _
theorem RB {P:Program} {o:CO} {t:F} {h:H} {t1:F} {h1:H} (a:Cu P o t h t1 h1):∃ cf,GU P cf/\∀ (ih:F->H->(F->H->Bool)->Bool) k,Mu o cf ih t h k=ih t1 h1 k:=by
 obtain⟨g,d,Ho,r⟩:=o
 obtain⟨b,g1,g2⟩:=a
 rcases g2 with⟨rfl,v,⟨cf,c1,c2⟩,p⟩|⟨rfl,rfl,p⟩
 ·refine⟨cf,c1,fun ih k=>?_⟩
  show Cp g t (fun b=>Ka b r d cf ih t h k)=_
  rw[g1]
  show runK r cf t h (fun v h=>Dn d v t fun t=>ih t h k)=_
  rw[c2,p]
 ·refine⟨_,KI P,fun ih k=>?_⟩
  show Cp g t (fun b=>Ka b r d _ ih t h1 k)=_
  rw[g1]
  show Dn d (.tu []) t (fun t=>ih t h1 k)=_
  rw[p]
theorem Lw {P:Program} {o:CO} {t:F} {h:H} {t1:F} {h1:H} (a:Uo P o t h t1 h1):∃ cf,GU P cf/\∀ (ih:F->H->(F->H->Bool)->Bool) k,V4 o cf ih t h k=ih t1 h1 k:=by
 obtain⟨g,d,Ho,r⟩:=o
 cases Ho with
 |true=>
  obtain⟨b,g1,g2⟩:=a
  rcases g2 with⟨rfl,v,⟨cf,c1,c2⟩,p⟩|⟨rfl,rfl,p⟩
  ·refine⟨cf,c1,fun ih k=>?_⟩
   show Cp g t (fun b=>JR b true r d cf ih t h k)=_
   rw[g1]
   show runK r cf t h (fun v h=>Dn d v t fun t=>ih t h k)=_
   rw[c2,p]
  ·refine⟨_,KI P,fun ih k=>?_⟩
   show Cp g t (fun b=>JR b true r d _ ih t h1 k)=_
   rw[g1]
   show Dn d (.tu []) t (fun t=>ih t h1 k)=_
   rw[p]
 |false=>
  obtain⟨b,g1,g2⟩:=a
  rcases g2 with⟨rfl,v,h2,⟨cf,c1,c2⟩,rfl,p⟩|⟨rfl,rfl,p⟩
  ·refine⟨cf,c1,fun ih k=>?_⟩
   show Cp g t (fun b=>JR b false r d cf ih t h k)=_
   rw[g1]
   show runK r cf t (Au h) (fun v h2=>Dn d v t fun t=>ih t (B1 h h2) k)=_
   rw[c2,p]
  ·refine⟨_,KI P,fun ih k=>?_⟩
   show Cp g t (fun b=>JR b false r d _ ih t h1 k)=_
   rw[g1]
   show Dn d (.tu []) t (fun t=>ih t h1 k)=_
   rw[p]
theorem NS {t1 t2:F} {h1 h2:H} (e:∀ k:F->H->Bool,k t1 h1=k t2 h2):t2=t1/\h2=h1:=by
 have:=e fun t h=>@decide (t=t1/\h=h1) (Classical.propDecidable _)
 simp at this
 exact this
theorem Q9 {P:Program} {nt:Nat} {ops:Array Oper} (bars:Nat->Bool):∀ (l:List Oper) (n:Nat),ops.toList.drop n=l->∀ (t:F) (h:H) (t':F) (h':H),
 Mo P (Ac bars P nt ops.toList (Ae P) n l) t h t' h'->Az h h'/\B.val h.next<=B.val h'.next/\
  ∀ ρ a w w0 (Q:Exit->Act->World->Prop),Cf ρ nt t a->A9 ρ h w w0->(∀ ρ' a' w',Ext h.floor ρ ρ'->Cf ρ' nt t' a'->A9 ρ' h' w' w0->Q .normal a' w')->
   wpOps P ops Q (List.range' n l.length) a w:=by
 intro l
 induction l with
 |nil=>
  intro n hl t h t' h' hk
  obtain⟨rfl,rfl⟩:=hk
  exact⟨Az.refl _,Nat.le_refl _,fun ρ a w w0 Q A R hq=>hq ρ a w (Ext.refl _ ρ) A R⟩
 |cons o l ih=>
  intro n hl t h t' h' hk
  obtain⟨t1,h1,hk1,hk2⟩:=hk
  obtain⟨cf,hcf,e⟩:=RB hk1
  obtain⟨t1',h1',a1,a2,a3,a4⟩:=Ys hcf (ops:=ops) (ih:=fun t h k=>k t h) (k:=fun _ _=>true) (e _ _)
  obtain⟨rfl,rfl⟩:=NS (fun k=>(e (fun t h k=>k t h) k).symm.trans (a1 k))
  have hl':ops.toList.drop (n+1)=l:=by rw[<-List.drop_drop,hl];rfl
  obtain⟨b2,b3,b4⟩:=ih (n+1) hl' _ _ _ _ hk2
  refine⟨Az.trans a2 a3 b2,Nat.le_trans a3 b3,fun ρ a w w0 Q A R hq=>?_⟩
  have hn:ops[n]? =some o:=by
   have:ops.toList[n]? =some o:=by
    have:=congrArg (fun l=>l[0]?) hl
    simpa using this
   simpa using this
  rw[List.length_cons,List.range'_succ,wpOps_cons]
  unfold wpOp
  simp only[hn]
  have:=a4 ρ a w w0 (wpOps P ops Q (List.range' (n+1) l.length)) Q A R fun ρ' a' w' l1 A' R'=>b4 ρ' a' w' w0 Q A' R' fun ρ'' a'' w'' l2 A'' R''=>hq ρ'' a'' w'' (Ext.trans l1 (by rw[<-a2.1];exact l2)) A'' R''
  split
  ·rename_i hw;simp only[hw,if_true]at this;exact .inl this
  ·rename_i hw;simp only[hw]at this;exact this
theorem Si {P:Program} {nt:Nat} {ops:Array Oper} (bars:Nat->Bool):∀ (l:List Oper) (n:Nat),ops.toList.drop n=l->∀ (t:F) (h:H) (t':F) (h':H),
 Mv P (Ac bars P nt ops.toList (Ae P) n l) t h t' h'->
 ∃ (Ts:Nat->F) (Hs:Nat->H),Ts n=t/\Hs n=h/\(Ts (n+l.length)=t'/\Hs (n+l.length)=h')/\
  ∀ (i:Nat) o,n<=i->ops[i]? =some o->BG P nt ops i o (bars i) (Ts i) (Ts (i+1)) (Hs i) (Hs (i+1)):=by
 intro l
 induction l with
 |nil=>
  intro n hl t h t' h' hk
  obtain⟨rfl,rfl⟩:=hk
  refine⟨fun _=>t',fun _=>h',rfl,rfl,⟨rfl,rfl⟩,fun i o hni hi=>?_⟩
  have:ops.toList[i]? =none:=by
   rw[List.getElem?_eq_none]
   have:=congrArg List.length hl
   simp at this
   simp;omega
  rw[show ops[i]? =ops.toList[i]? by simp,this]at hi
  cases hi
 |cons o l ih=>
  intro n hl t h t' h' hk
  have hn:ops[n]? =some o:=by
   have:ops.toList[n]? =some o:=by
    have:=congrArg (fun l=>l[0]?) hl
    simpa using this
   simpa using this
  obtain⟨t1,h1,hk1,hk2⟩:=hk
  obtain⟨cf,hcf,e⟩:=Lw hk1
  obtain⟨t1',h1',a1,a2⟩:=J5 hcf hn (ih:=fun t h k=>k t h) (k:=fun _ _=>true) (e _ _)
  obtain⟨rfl,rfl⟩:=NS (fun k=>(e (fun t h k=>k t h) k).symm.trans (a1 k))
  have hl':ops.toList.drop (n+1)=l:=by rw[<-List.drop_drop,hl];rfl
  obtain⟨Ts,Hs,b1,b2,b3,b4⟩:=ih (n+1) hl' _ _ _ _ hk2
  refine⟨fun i=>if i=n then t else Ts i,fun i=>if i=n then h else Hs i,by simp,by simp,?_,fun i oi hni hi=>?_⟩
  ·have e1:n+(o::l).length=n+1+l.length:=by simp;omega
   rw[e1]
   simp only[show ¬n+1+l.length=n by omega,if_false]
   exact b3
  ·by_cases hin:i=n
   ·subst hin
    rw[hn]at hi
    cases hi
    simp only[if_true,show ¬i+1=i by omega,if_false,b1,b2]
    exact a2
   ·simp only[hin,if_false,show ¬i+1=n by omega]
    exact b4 i oi (by omega) hi
theorem Rh {P:Program} (hm:P.follows .mixedOrders=true) {nt:Nat} {ops:Array Oper} (hd:Bv ops.toList=true) {t:F} {h:H} {t':F} {h':H}
 (hk:Mv P (Ac (CM P ops.toList (CY ops.toList [])) P nt ops.toList (Ae P) 0 ops.toList) t h t' h'):
 Az h h'/\B.val h.next<=B.val h'.next/\
  ∀ ρ a w w0 (id:Nat) (Q:Exit->Act->World->Prop),Cf ρ nt t a->A9 ρ h w w0->(∀ ρ' a' w',Ext h.floor ρ ρ'->Cf ρ' nt t' a'->A9 ρ' h' w' w0->Q .normal a' w')->(Code.region id ops true).wp P Q a w:=by
 obtain⟨Ts,Hs,b1,b2,b3,b4⟩:=Si _ ops.toList 0 (by simp) t h t' h' hk
 have hst:∀ (i:Nat) o,ops[i]? =some o->BG P nt ops i o (CM P ops.toList (CY ops.toList []) i) (Ts i) (Ts (i+1)) (Hs i) (Hs (i+1)):=fun i o hi=>b4 i o (Nat.zero_le _) hi
 have hlen:0+ops.toList.length=ops.size:=by simp
 rw[hlen]at b3
 obtain⟨c1,c2⟩:=b3
 refine⟨by rw[<-b2,<-c2];exact OM hd hst (Nat.le_refl _),by rw[<-b2,<-c2];exact CK hst (Nat.zero_le _) (Nat.le_refl _),fun ρ a w w0 id Q A R hQ=>?_⟩
 refine wp_region_any hm ?_
 have hR1:A9 ρ h {w with drawn:=w.drawn+1} w0:=R.dr _
 obtain⟨M,m1,m2,m3,m4⟩:=LI (P:=P) (nt:=nt) (Ts:=Ts) (Hs:=Hs) hd hst 0 ops.size (by omega)
 have hno:∀ j,¬Cq (Array.replicate ops.size false) j:=by
  intro j;unfold Cq
  by_cases hj:j<ops.size<;>simp[hj]
 refine Tk hd hst (ρ0:=ρ) (w0:=w0) (fun ρ' a' w' h1 h2 h3=>hQ ρ' a' w' (by rw[<-b2];exact h1) (by rw[<-c1];exact h2) (by rw[<-c2];exact h3)) ops.size _ a _ ρ 0 M (by simp) (by unfold left;exact Nat.le_trans (List.length_filter_le _ _) (by simp)) (fun j o hj hin=>absurd hin (hno j)) ?_
 refine⟨A.size,A.defers,Ext.refl _ _,fun q h5=>⟨0,Nat.zero_le _,.inl rfl,fun j o hj hdj=>⟨fun h=>by omega,fun h=>absurd h (hno j)⟩,?_⟩,Nat.zero_le _,m2,fun j o hj h1 h2=>by omega,fun j o hj h1 h2=>hno j,m3,m4,
  fun i g L hL=>?_,fun i g L hL j o hj hnj hbd=>?_,fun m h1 h2=>?_⟩
 ·rw[b1,b2]
  exact A2.up (fun i g L hL=>BC.Cw hL (R.ids _ _ _ hL)) _ _ (A.slot q h5)
 ·have:=R.ids _ _ _ hL
  rw[<-b2]at this
  exact Nat.lt_of_lt_of_le this (CK hst (Nat.zero_le _) m2)
 ·have:=R.ids _ _ _ hL
  rw[<-b2]at this
  have hjN:j<ops.size:=(Array.getElem?_eq_some_iff.1 hj).1
  have:=CK hst (m:=0) (n:=j) (Nat.zero_le _) (by omega)
  omega
 ·have hmN:m<=ops.size:=by omega
  rw[<-b2]at hR1
  have hR2:A9 ρ (Hs m) {w with drawn:=w.drawn+1} w0:=hR1.TX (fun i g L hL=>Ih hst m2 m3 (Nat.le_refl _) h1 h2 (hR1.ids _ _ _ hL)) (CK hst h1 hmN) (HK hst hmN)
  exact hR2.congr fun i g=>by
   cases hL:ρ i g with
   |none=>unfold BC.below;rw[hL];split<;>rfl
   |some L=>exact BC.Cw hL (hR2.ids _ _ _ hL)
def WO (P:Program) (l:List CO) (t:F) (h:H) (K:F->H->Prop):Prop:=∃ t' h',Mo P l t h t' h'/\K t' h'
def DO (P:Program) (l:List CO) (t:F) (h:H) (K:F->H->Prop):Prop:=∃ t' h',Mv P l t h t' h'/\K t' h'
section
variable {P:Program} {nt:Nat} {t:F} {h:H} {K:X->F->H->Prop}
theorem Ok.rg {l:List CO} (a:WO P l t h (K .normal)):Ok P nt (.region l) t h K:=by
 obtain⟨t',h',e,k⟩:=a
 refine⟨.normal,t',h',BQ _ fun c e' hs=>?_,k⟩
 cases c with
 |region id os draw=>
  have e1:Ar P nt os.toList draw=.region l:=e'
  unfold Ar at e1
  split at e1
  ·cases e1
   obtain⟨a2,a3,a4⟩:=Q9 (fun _=>true) os.toList 0 (by simp) t h t' h' e
   refine⟨a2,a3,fun ρ a w w0 Q A R hQ=>wp_region ?_⟩
   have:=a4 ρ a w w0 Q A R hQ
   rwa [show List.range' 0 os.toList.length=List.range os.size by rw[List.range_eq_range'];simp]at this
  ·split at e1<;>cases e1
 |scope d=>exact absurd rfl (hs d)
 |_=>cases e'
theorem Ok.dw (hm:P.follows .mixedOrders=true) {l:List CO} {ch:Option (List Nat×List (Nat×List Nat))} (a:DO P l t h (K .normal)):Ok P nt (.Ax l ch) t h K:=by
 obtain⟨t',h',e,k⟩:=a
 refine⟨.normal,t',h',BQ _ fun c e' hs=>?_,k⟩
 cases c with
 |region id os draw=>
  have e1:Ar P nt os.toList draw=.Ax l ch:=e'
  unfold Ar at e1
  split at e1
  ·cases e1
  ·split at e1
   ·rename_i hd
    cases e1
    obtain⟨a2,a3,a4⟩:=Rh hm hd e
    exact⟨a2,a3,fun ρ a w w0 Q A R hQ=>a4 ρ a w w0 id Q A R hQ⟩
   ·cases e1
 |scope d=>exact absurd rfl (hs d)
 |_=>cases e'
end
end Go.Ev
namespace Go.Ev
open Go
/--operations,shortly -/
def wB (n:Nat) (r:CW):CO:=.mk .none (.some (AX n)) true (.mk r)
def uB (n:Nat) (r:CW):CO:=.mk .none (.some (AX n)) false (.mk r)
def wG (g:Nat) (w:Bool) (n:Nat) (r:CW):CO:=.mk (.some (AX g) w) (.some (AX n)) true (.mk r)
def uG (g:Nat) (w:Bool) (n:Nat) (r:CW):CO:=.mk (.some (AX g) w) (.some (AX n)) false (.mk r)
def oN (n:Nat):O:=.c (.i .i64 (.ofNat n))
theorem xt (n:Nat) (r:CW):wB n r=.mk .none (.some (AX n)) true (.mk r):=rfl
theorem zZ (n:Nat) (r:CW):uB n r=.mk .none (.some (AX n)) false (.mk r):=rfl
theorem uz (g:Nat) (w:Bool) (n:Nat) (r:CW):wG g w n r=.mk (.some (AX g) w) (.some (AX n)) true (.mk r):=rfl
theorem AAh (g:Nat) (w:Bool) (n:Nat) (r:CW):uG g w n r=.mk (.some (AX g) w) (.some (AX n)) false (.mk r):=rfl
theorem tg (n:Nat):oN n=.c (.i .i64 (.ofNat n)):=rfl
/--what stands behind an operation -/
inductive Nx where
 |w (n:Nat) (l:List CO) (t:F) (K:F->H->Prop)
 |w0 (l:List CO) (t:F) (K:F->H->Prop)
 |d (n:Nat) (l:List CO) (t:F) (K:F->H->Prop)
 |d0 (l:List CO) (t:F) (K:F->H->Prop)
 |u (n:Nat) (l:List CO) (t:F) (h:H) (K:F->H->Prop)
 |u0 (l:List CO) (t:F) (h:H) (K:F->H->Prop)
def Nx.go (P:Program):Nx->V->H->Prop
 |.w n l t K,v,h=>WO P l (put n v t) h K
 |.w0 l t K,_,h=>WO P l t h K
 |.d n l t K,v,h=>DO P l (put n v t) h K
 |.d0 l t K,_,h=>DO P l t h K
 |.u n l t h0 K,v,h=>DO P l (put n v t) (B1 h0 h) K
 |.u0 l t h0 K,_,h=>DO P l t (B1 h0 h) K
/--the operation r,then N -/
def OR (P:Program) (r:CW) (t:F) (h:H) (N:Nx):Prop:=∃ v h',Hq P (.mk r) t h v h'/\N.go P v h'
/--a guard,then r and N,or N alone -/
def GD (P:Program) (q:V) (w:Bool) (r:CW) (t:F) (h:H) (N:Nx):Prop:=∃ b,(∀ k,vG q w k=k b)/\((b=true/\OR P r t h N)\/(b=false/\N.go P (.tu []) h))
theorem Ov {b c:Bool} (e:∀ k:Bool->Bool,k b=k c):c=b:=(e id).symm
theorem ADj {v u:V} (e:∀ k:V->Bool,k v=k u):u=v:=by
 have:=e fun x=>@decide (x=v) (Classical.propDecidable _)
 simp at this
 exact this
theorem Ia {v u:F} (e:∀ k:F->Bool,k v=k u):u=v:=by
 have:=e fun x=>@decide (x=v) (Classical.propDecidable _)
 simp at this
 exact this
theorem mw {v u:List V} (e:∀ k:List V->Bool,k v=k u):u=v:=by
 have:=e fun x=>@decide (x=v) (Classical.propDecidable _)
 simp at this
 exact this
theorem Vk {v u:V} {h g:H} (e:∀ k:V->H->Bool,k v h=k u g):u=v/\g=h:=by
 have:=e fun x y=>@decide (x=v/\y=h) (Classical.propDecidable _)
 simp at this
 exact⟨this.1,this.2⟩
section
variable {P:Program} {l:List CO} {t:F} {h:H} {K:F->H->Prop} {r:CW} {n g:Nat} {w b:Bool}
theorem NH:WO P [] t h K=K t h:=propext ⟨fun⟨_,_,⟨e1,e2⟩,k⟩=>by subst e1;subst e2;exact k,fun k=>⟨t,h,⟨rfl,rfl⟩,k⟩⟩
theorem kJ:DO P [] t h K=K t h:=propext ⟨fun⟨_,_,⟨e1,e2⟩,k⟩=>by subst e1;subst e2;exact k,fun k=>⟨t,h,⟨rfl,rfl⟩,k⟩⟩
theorem GJ {v:V} (k:F->Bool):Dn (.some (AX n)) v t k=k (put n v t):=FE n v t k
theorem dC:WO P (.mk .none (.some (AX n)) b (.mk r)::l) t h K=OR P r t h (.w n l t K):=by
 apply propext;constructor
 ·rintro⟨t',h',⟨t1,h1,⟨q,g1,g2⟩,e⟩,k⟩
  have hq:=Ov (b:=true) (c:=q) fun k=>g1 k
  subst hq
  rcases g2 with⟨_,v,rr,p⟩|⟨e',_⟩
  ·have:=Ia fun k=>(GJ k).symm.trans (p k)
   subst this
   exact⟨v,h1,rr,t',h',e,k⟩
  ·cases e'
 ·rintro⟨v,h1,rr,t',h',e,k⟩
  exact⟨t',h',⟨_,h1,⟨true,fun _=>rfl,.inl ⟨rfl,v,rr,fun k=>GJ k⟩⟩,e⟩,k⟩
theorem ADV:WO P (.mk .none .none b (.mk r)::l) t h K=OR P r t h (.w0 l t K):=by
 apply propext;constructor
 ·rintro⟨t',h',⟨t1,h1,⟨q,g1,g2⟩,e⟩,k⟩
  have hq:=Ov (b:=true) (c:=q) fun k=>g1 k
  subst hq
  rcases g2 with⟨_,v,rr,p⟩|⟨e',_⟩
  ·have:=Ia fun k=>p k
   subst this
   exact⟨v,h1,rr,t',h',e,k⟩
  ·cases e'
 ·rintro⟨v,h1,rr,t',h',e,k⟩
  exact⟨t',h',⟨_,h1,⟨true,fun _=>rfl,.inl ⟨rfl,v,rr,fun k=>rfl⟩⟩,e⟩,k⟩
theorem ADc:WO P (.mk (.some (AX g) w) (.some (AX n)) b (.mk r)::l) t h K=GD P (get g t) w r t h (.w n l t K):=by
 apply propext;constructor
 ·rintro⟨t',h',⟨t1,h1,⟨q,g1,g2⟩,e⟩,k⟩
  refine⟨q,g1,?_⟩
  rcases g2 with⟨rfl,v,rr,p⟩|⟨rfl,rfl,p⟩
  ·have:=Ia fun k=>(GJ k).symm.trans (p k)
   subst this
   exact .inl ⟨rfl,v,h1,rr,t',h',e,k⟩
  ·have:=Ia fun k=>(GJ k).symm.trans (p k)
   subst this
   exact .inr ⟨rfl,t',h',e,k⟩
 ·rintro⟨q,g1,⟨rfl,v,h1,rr,t',h',e,k⟩|⟨rfl,t',h',e,k⟩⟩
  ·exact⟨t',h',⟨_,h1,⟨true,g1,.inl ⟨rfl,v,rr,fun k=>GJ k⟩⟩,e⟩,k⟩
  ·exact⟨t',h',⟨_,h,⟨false,g1,.inr ⟨rfl,rfl,fun k=>GJ k⟩⟩,e⟩,k⟩
theorem tl:WO P (.mk (.some (AX g) w) .none b (.mk r)::l) t h K=GD P (get g t) w r t h (.w0 l t K):=by
 apply propext;constructor
 ·rintro⟨t',h',⟨t1,h1,⟨q,g1,g2⟩,e⟩,k⟩
  refine⟨q,g1,?_⟩
  rcases g2 with⟨rfl,v,rr,p⟩|⟨rfl,rfl,p⟩
  ·have:=Ia fun k=>p k
   subst this
   exact .inl ⟨rfl,v,h1,rr,t',h',e,k⟩
  ·have:=Ia fun k=>p k
   subst this
   exact .inr ⟨rfl,t',h',e,k⟩
 ·rintro⟨q,g1,⟨rfl,v,h1,rr,t',h',e,k⟩|⟨rfl,t',h',e,k⟩⟩
  ·exact⟨t',h',⟨_,h1,⟨true,g1,.inl ⟨rfl,v,rr,fun k=>rfl⟩⟩,e⟩,k⟩
  ·exact⟨t',h',⟨_,h,⟨false,g1,.inr ⟨rfl,rfl,fun k=>rfl⟩⟩,e⟩,k⟩
theorem ACy:DO P (.mk .none (.some (AX n)) true (.mk r)::l) t h K=OR P r t h (.d n l t K):=by
 apply propext;constructor
 ·rintro⟨t',h',⟨t1,h1,⟨q,g1,g2⟩,e⟩,k⟩
  have hq:=Ov (b:=true) (c:=q) fun k=>g1 k
  subst hq
  rcases g2 with⟨_,v,rr,p⟩|⟨e',_⟩
  ·have:=Ia fun k=>(GJ k).symm.trans (p k)
   subst this
   exact⟨v,h1,rr,t',h',e,k⟩
  ·cases e'
 ·rintro⟨v,h1,rr,t',h',e,k⟩
  exact⟨t',h',⟨_,h1,⟨true,fun _=>rfl,.inl ⟨rfl,v,rr,fun k=>GJ k⟩⟩,e⟩,k⟩
theorem ACh:DO P (.mk .none .none true (.mk r)::l) t h K=OR P r t h (.d0 l t K):=by
 apply propext;constructor
 ·rintro⟨t',h',⟨t1,h1,⟨q,g1,g2⟩,e⟩,k⟩
  have hq:=Ov (b:=true) (c:=q) fun k=>g1 k
  subst hq
  rcases g2 with⟨_,v,rr,p⟩|⟨e',_⟩
  ·have:=Ia fun k=>p k
   subst this
   exact⟨v,h1,rr,t',h',e,k⟩
  ·cases e'
 ·rintro⟨v,h1,rr,t',h',e,k⟩
  exact⟨t',h',⟨_,h1,⟨true,fun _=>rfl,.inl ⟨rfl,v,rr,fun k=>rfl⟩⟩,e⟩,k⟩
theorem ACq:DO P (.mk (.some (AX g) w) (.some (AX n)) true (.mk r)::l) t h K=GD P (get g t) w r t h (.d n l t K):=by
 apply propext;constructor
 ·rintro⟨t',h',⟨t1,h1,⟨q,g1,g2⟩,e⟩,k⟩
  refine⟨q,g1,?_⟩
  rcases g2 with⟨rfl,v,rr,p⟩|⟨rfl,rfl,p⟩
  ·have:=Ia fun k=>(GJ k).symm.trans (p k)
   subst this
   exact .inl ⟨rfl,v,h1,rr,t',h',e,k⟩
  ·have:=Ia fun k=>(GJ k).symm.trans (p k)
   subst this
   exact .inr ⟨rfl,t',h',e,k⟩
 ·rintro⟨q,g1,⟨rfl,v,h1,rr,t',h',e,k⟩|⟨rfl,t',h',e,k⟩⟩
  ·exact⟨t',h',⟨_,h1,⟨true,g1,.inl ⟨rfl,v,rr,fun k=>GJ k⟩⟩,e⟩,k⟩
  ·exact⟨t',h',⟨_,h,⟨false,g1,.inr ⟨rfl,rfl,fun k=>GJ k⟩⟩,e⟩,k⟩
theorem ADN:DO P (.mk .none (.some (AX n)) false (.mk r)::l) t h K=OR P r t (Au h) (.u n l t h K):=by
 apply propext;constructor
 ·rintro⟨t',h',⟨t1,h1,⟨q,g1,g2⟩,e⟩,k⟩
  have hq:=Ov (b:=true) (c:=q) fun k=>g1 k
  subst hq
  rcases g2 with⟨_,v,h2,rr,rfl,p⟩|⟨e',_⟩
  ·have:=Ia fun k=>(GJ k).symm.trans (p k)
   subst this
   exact⟨v,h2,rr,t',h',e,k⟩
  ·cases e'
 ·rintro⟨v,h2,rr,t',h',e,k⟩
  exact⟨t',h',⟨_,_,⟨true,fun _=>rfl,.inl ⟨rfl,v,h2,rr,rfl,fun k=>GJ k⟩⟩,e⟩,k⟩
theorem AAl:DO P (.mk .none .none false (.mk r)::l) t h K=OR P r t (Au h) (.u0 l t h K):=by
 apply propext;constructor
 ·rintro⟨t',h',⟨t1,h1,⟨q,g1,g2⟩,e⟩,k⟩
  have hq:=Ov (b:=true) (c:=q) fun k=>g1 k
  subst hq
  rcases g2 with⟨_,v,h2,rr,rfl,p⟩|⟨e',_⟩
  ·have:=Ia fun k=>p k
   subst this
   exact⟨v,h2,rr,t',h',e,k⟩
  ·cases e'
 ·rintro⟨v,h2,rr,t',h',e,k⟩
  exact⟨t',h',⟨_,_,⟨true,fun _=>rfl,.inl ⟨rfl,v,h2,rr,rfl,fun k=>rfl⟩⟩,e⟩,k⟩
theorem EG (h:H):B1 h (Au h)=h:=by cases h;rfl
theorem yh:DO P (.mk (.some (AX g) w) (.some (AX n)) false (.mk r)::l) t h K=GD P (get g t) w r t (Au h) (.u n l t h K):=by
 apply propext;constructor
 ·rintro⟨t',h',⟨t1,h1,⟨q,g1,g2⟩,e⟩,k⟩
  refine⟨q,g1,?_⟩
  rcases g2 with⟨rfl,v,h2,rr,rfl,p⟩|⟨rfl,rfl,p⟩
  ·have:=Ia fun k=>(GJ k).symm.trans (p k)
   subst this
   exact .inl ⟨rfl,v,h2,rr,t',h',e,k⟩
  ·have:=Ia fun k=>(GJ k).symm.trans (p k)
   subst this
   exact .inr ⟨rfl,t',h',by rw[EG];exact e,k⟩
 ·rintro⟨q,g1,⟨rfl,v,h2,rr,t',h',e,k⟩|⟨rfl,t',h',e,k⟩⟩
  ·exact⟨t',h',⟨_,_,⟨true,g1,.inl ⟨rfl,v,h2,rr,rfl,fun k=>GJ k⟩⟩,e⟩,k⟩
  ·rw[EG]at e
   exact⟨t',h',⟨_,h,⟨false,g1,.inr ⟨rfl,rfl,fun k=>GJ k⟩⟩,e⟩,k⟩
end
section
variable {P:Program} {l:List CO} {t:F} {h h0:H} {K:F->H->Prop} {n:Nat} {v:V}
theorem T7:(Nx.w n l t K).go P v h=WO P l (put n v t) h K:=rfl
theorem Yn:(Nx.w0 l t K).go P v h=WO P l t h K:=rfl
theorem WI:(Nx.d n l t K).go P v h=DO P l (put n v t) h K:=rfl
theorem pc:(Nx.d0 l t K).go P v h=DO P l t h K:=rfl
theorem SY:(Nx.u n l t h0 K).go P v h=DO P l (put n v t) (B1 h0 h) K:=rfl
theorem wK:(Nx.u0 l t h0 K).go P v h=DO P l t (B1 h0 h) K:=rfl
end
section
variable {P:Program} {r:CW} {t:F} {h:H} {N:Nx} {w q:Bool}
theorem QY:GD P (.b q) w r t h N=if q=w then OR P r t h N else N.go P (.tu []) h:=by
 have e1:∀ f,vG (.b q) w f=f (xor (xor q w) true):=fun _=>rfl
 apply propext;constructor
 ·rintro⟨b,g1,g2⟩
  have:=Ov fun k=>(e1 k).symm.trans (g1 k)
  subst this
  rcases g2 with⟨e,k⟩|⟨e,k⟩
  ·rw[if_pos (by cases q<;>cases w<;>simp_all)];exact k
  ·rw[if_neg (by cases q<;>cases w<;>simp_all)];exact k
 ·intro k
  refine⟨_,e1,?_⟩
  split at k
  ·rename_i e;exact .inl ⟨by cases q<;>cases w<;>simp_all,k⟩
  ·rename_i e;exact .inr ⟨by cases q<;>cases w<;>simp_all,k⟩
theorem yp:GD P (.b true) true r t h N=OR P r t h N:=by rw[QY];rfl
theorem ACW:GD P (.b false) false r t h N=OR P r t h N:=by rw[QY];rfl
theorem sE:GD P (.b true) false r t h N=N.go P (.tu []) h:=by rw[QY];rfl
theorem xk:GD P (.b false) true r t h N=N.go P (.tu []) h:=by rw[QY];rfl
theorem xc:GD P (.tu []) w r t h N=N.go P (.tu []) h:=by
 have e1:∀ f,vG (.tu []) w f=f false:=fun _=>rfl
 apply propext;constructor
 ·rintro⟨b,g1,g2⟩
  have:=Ov fun k=>(e1 k).symm.trans (g1 k)
  subst this
  rcases g2 with⟨e,k⟩|⟨e,k⟩
  ·cases e
  ·exact k
 ·intro k;exact⟨_,e1,.inr ⟨rfl,k⟩⟩
/--a guard that isn't decided -/
theorem AE (a:q=true->GD P (.b true) w r t h N) (b:q=false->GD P (.b false) w r t h N):GD P (.b q) w r t h N:=by
 cases q with
 |true=>exact a rfl
 |false=>exact b rfl
end
def HV (P:Program) (g:(V->Bool)->Bool) (h:H) (N:Nx):Prop:=∃ v,(∀ k,g k=k v)/\N.go P v h
def H1 (P:Program) (g:V->(V->Bool)->Bool) (x:V) (h:H) (N:Nx):Prop:=HV P (g x) h N
def H2 (P:Program) (g:V->V->(V->Bool)->Bool) (x y:V) (h:H) (N:Nx):Prop:=HV P (g x y) h N
def H3 (P:Program) (g:V->V->V->(V->Bool)->Bool) (x y z:V) (h:H) (N:Nx):Prop:=HV P (g x y z) h N
theorem Bc {P:Program} {r:CW} {t:F} {h:H} {N:Nx} {g:(V->Bool)->Bool} (e:∀ cf k,r cf t h k=g fun v=>k v h):OR P r t h N=HV P g h N:=by
 apply propext;constructor
 ·rintro⟨v,h',⟨cf,c1,c2⟩,k⟩
  have hh:h'=h:=by
   have h1:=c2 fun _ x=>@decide (x=h) (Classical.propDecidable _)
   have h2:=c2 fun _ _=>true
   have e1:=e cf fun _ x=>@decide (x=h) (Classical.propDecidable _)
   have e2:=e cf fun _ _=>true
   have:(fun(v:V)=>(fun _ x=>@decide (x=h) (Classical.propDecidable _)) v h)=fun(v:V)=>(fun _ _=>true) v h:=by funext v;simp
   rw[this,<-e2]at e1
   have h1':r cf t h (fun _ x=>@decide (x=h) (Classical.propDecidable _))=@decide (h'=h) (Classical.propDecidable _):=h1
   have h2':r cf t h (fun _ _=>true)=true:=h2
   rw[e1,h2']at h1'
   simpa using h1'.symm
  subst hh
  exact⟨v,fun k0=>by rw[<-e cf fun v _=>k0 v];exact c2 _,k⟩
 ·rintro⟨v,g1,k⟩
  exact⟨v,h,⟨_,KI P,fun k=>by show r _ t h k=_;rw[e,g1]⟩,k⟩
theorem Ak {P:Program} {h:H} {N:Nx} {g:(V->Bool)->Bool} {v:V} (e:∀ k,g k=k v):HV P g h N=N.go P v h:=
 propext ⟨fun⟨u,g1,k⟩=>by have:=ADj fun k=>(e k).symm.trans (g1 k);subst this;exact k,fun k=>⟨v,e,k⟩⟩
def DK (f:FR) (x y:V) (k:V->Bool):Bool:=vI x fun kd a=>vI y fun kd' b=>As (CT kd kd') fun _=>f kd a b k
def O8 (f:IntKind->Int->Nat->(V->Bool)->Bool) (x y:V) (k:V->Bool):Bool:=vI x fun kd a=>vI y fun _ b=>A6 b fun n=>f kd a (min n kd.bits) k
def AAk (x y:V) (k:V->Bool):Bool:=vI y fun kd' b=>Xk x (fun kd a=>As (CT kd kd') fun _=>RJ kd a b k) fun kd m r _=>X7 kd' b k kd m r
def VT (ne:Bool) (x y:V) (k:V->Bool):Bool:=vB x fun a=>vB y fun b=>k (.b (xor ne (xor (xor a b) true)))
def xN (x:V) (k:V->Bool):Bool:=vB x fun a=>k (.b (!a))
def oW (x:V) (k:V->Bool):Bool:=vI x fun kd n=>FV (Int.neg n) kd (BT kd) k
def Yq (kd:IntKind) (x:V) (k:V->Bool):Bool:=Xk x (fun _ n=>k (.i kd (kd.wrap n))) fun _ m r hi=>As (Nat.ble hi (BT kd)) fun _=>k (.r kd m r hi)
def U8 (j:Nat) (x:V) (k:V->Bool):Bool:=vT x fun vs=>Ce (vs[j]?) k
def Yh (x:V) (k:V->Bool):Bool:=vS x fun n _=>k (.i .i64 (.ofNat n))
def NR (x:V) (k:V->Bool):Bool:=Sg x fun n=>k (.i .i64 (n:Int))
def ub (x y:V) (k:V->Bool):Bool:=vI x fun kd a=>vI y fun kd' b=>As (CT kd kd') fun _=>k (.i kd (min a b))
def TG (f:Nat->Nat->Nat->Nat->Bool) (x y:V) (k:V->Bool):Bool:=vS x fun la na=>vS y fun lb nb=>A4 (f la na lb nb) (fun _=>k (.s la na)) (fun _=>k (.s lb nb))
def AB3 (x y:V) (k:V->Bool):Bool:=vI x fun kd a=>vI y fun kd' b=>As (CT kd kd') fun _=>k (.i kd (max a b))
def Ya (c x y:V) (k:V->Bool):Bool:=vB c fun q=>k (cond q x y)
def PG (d:Nat) (x:V) (k:V->Bool):Bool:=vA x fun cs=>Ce (cs[d]?) k
def Qw (d size:Nat) (x:V) (k:V->Bool):Bool:=vA x fun cs=>k (.a ((cs.drop d).take size))
def LL (d:Nat) (x:V) (k:V->Bool):Bool:=vP x fun id g off fin=>k (.p id g (off+d) fin)
def Lj (x:V) (k:V->Bool):Bool:=vP x fun id g off fin=>k (.p id g off fin)
def VP (size:Nat) (x y:V) (k:V->Bool):Bool:=vI y fun _ n=>A6 n fun n=>Nn size x n k
def MC (len size:Nat) (x y:V) (k:V->Bool):Bool:=vP x fun id g off fin=>vI y fun _ n=>A6 n fun n=>As (Nat.ble (Nat.succ n) len) fun _=>k (.p id g (off+n*size) fin)
def Mw (x y:V) (k:V->Bool):Bool:=vI y fun _ n=>A6 n fun n=>R4 x n k
def Qz (len size:Nat) (x y:V) (k:V->Bool):Bool:=vA x fun cs=>vI y fun _ n=>A6 n fun n=>As (Nat.ble (Nat.succ n) len) fun _=>Ce (cs[Nat.mul n size]?) k
def u9 (x a b:V) (k:V->Bool):Bool:=vI a fun _ p=>A6 p fun p=>vI b fun _ q=>A6 q fun q=>RZ x p q k
def yd (x b:V) (k:V->Bool):Bool:=vI b fun _ q=>A6 q fun q=>RZ x 0 q k
def uh (x a:V) (k:V->Bool):Bool:=vI a fun _ p=>A6 p fun p=>Oa x p k
def Ta (x:V) (k:V->Bool):Bool:=vS x fun l n=>k (.s l n)
def Vz (f:V->(Bool->Bool)->Bool) (ne:Bool) (x y:V) (k:V->Bool):Bool:=f x fun a=>f y fun b=>As (a||b) fun _=>k (.b (xor ne (a&&b)))
def MQ (n size:Nat) (x a:V) (k:V->Bool):Bool:=vP x fun id g off fin=>vI a fun _ p=>A6 p fun p=>As (Nat.ble p n) fun _=>BY size id g off n fin n p n k
section
variable {P:Program} {t:F} {h:H} {N:Nx} (o x y c:O)
theorem Xi:OR P (AB o) t h N=N.go P (oV o t) h:=(Bc (g:=fun k=>k (oV o t)) fun cf k=>XZ ..).trans (Ak fun _=>rfl)
theorem Xz:OR P (Al c x y) t h N=H3 P Ya (oV c t) (oV x t) (oV y t) h N:=Bc fun cf k=>Wt ..
theorem mN (f:FR):OR P (AM f x y) t h N=H2 P (DK f) (oV x t) (oV y t) h N:=Bc fun cf k=>ji ..
theorem UR (f:IntKind->Int->Nat->(V->Bool)->Bool):OR P (B0 f x y) t h N=H2 P (O8 f) (oV x t) (oV y t) h N:=Bc fun cf k=>Vs ..
theorem j6:OR P (Gp x y) t h N=H2 P AAk (oV x t) (oV y t) h N:=Bc fun cf k=>Zv ..
theorem YK (ne:Bool):OR P (GA ne x y) t h N=H2 P (VT ne) (oV x t) (oV y t) h N:=Bc fun cf k=>XP ..
theorem kc:OR P (CS x) t h N=H1 P xN (oV x t) h N:=Bc fun cf k=>eR ..
theorem lX:OR P (OX x) t h N=H1 P oW (oV x t) h N:=Bc fun cf k=>by simp only[OX,AV];rfl
theorem XL (kd:IntKind):OR P (CB kd x) t h N=H1 P (Yq kd) (oV x t) h N:=Bc fun cf k=>Ux ..
theorem jD (j:Nat):OR P (Am j x) t h N=H1 P (U8 j) (oV x t) h N:=Bc fun cf k=>O1 ..
theorem Wh:OR P (Bp x) t h N=H1 P Yh (oV x t) h N:=Bc fun cf k=>Xa ..
theorem jG:OR P (BN x) t h N=H1 P NR (oV x t) h N:=Bc fun cf k=>kI ..
theorem Z2:OR P (Jp x y) t h N=H2 P ub (oV x t) (oV y t) h N:=Bc fun cf k=>ZS ..
theorem iJ (f:Nat->Nat->Nat->Nat->Bool):OR P (Ki f x y) t h N=H2 P (TG f) (oV x t) (oV y t) h N:=Bc fun cf k=>by simp only[Ki,AV];rfl
theorem nj:OR P (FM x y) t h N=H2 P AB3 (oV x t) (oV y t) h N:=Bc fun cf k=>ik ..
theorem TF (d:Nat):OR P (HY d o) t h N=H1 P (PG d) (oV o t) h N:=Bc fun cf k=>Vj ..
theorem Ra (d size:Nat):OR P (Fz d size o) t h N=H1 P (Qw d size) (oV o t) h N:=Bc fun cf k=>Rf ..
theorem My (d:Nat):OR P (AF d o) t h N=H1 P (LL d) (oV o t) h N:=Bc fun cf k=>NJ ..
theorem NX:OR P (AO o) t h N=H1 P Lj (oV o t) h N:=Bc fun cf k=>OG ..
theorem bT (size:Nat):OR P (AG size o x) t h N=H2 P (VP size) (oV o t) (oV x t) h N:=Bc fun cf k=>bg ..
theorem SJ (len size:Nat):OR P (B9 len size o x) t h N=H2 P (MC len size) (oV o t) (oV x t) h N:=Bc fun cf k=>SE ..
theorem SR:OR P (DU x y) t h N=H2 P Mw (oV x t) (oV y t) h N:=Bc fun cf k=>Q8 ..
theorem Rl (len size:Nat):OR P (Gv len size x y) t h N=H2 P (Qz len size) (oV x t) (oV y t) h N:=Bc fun cf k=>by simp only[Gv,AV,BH];rfl
theorem SP:OR P (CQ x y) t h N=H2 P Tu (oV x t) (oV y t) h N:=Bc fun cf k=>Ru ..
theorem Xe (f:Nat->Nat->Nat->Nat->Bool):OR P (CZ f x y) t h N=H2 P (Nc f) (oV x t) (oV y t) h N:=Bc fun cf k=>XC ..
theorem Xm:OR P (Gu x y) t h N=H2 P cmV (oV x t) (oV y t) h N:=Bc fun cf k=>YU ..
theorem gK (a b:O):OR P (BV x (some a) (some b)) t h N=H3 P u9 (oV x t) (oV a t) (oV b t) h N:=Bc fun cf k=>Y8 ..
theorem nG (b:O):OR P (BV x none (some b)) t h N=H2 P yd (oV x t) (oV b t) h N:=Bc fun cf k=>fu ..
theorem bq (a:O):OR P (BV x (some a) none) t h N=H2 P uh (oV x t) (oV a t) h N:=Bc fun cf k=>fQ ..
theorem VU:OR P (HO x) t h N=H1 P Ta (oV x t) h N:=Bc fun cf k=>by simp only[HO,AV];rfl
theorem or_nil (f:V->(Bool->Bool)->Bool) (ne:Bool):OR P (Jn f ne x y) t h N=H2 P (Vz f ne) (oV x t) (oV y t) h N:=Bc fun cf k=>by simp only[Jn,AV,Cb];rfl
theorem Nq (n size:Nat) (a:O):OR P (DC n size x (some a) none) t h N=H2 P (MQ n size) (oV x t) (oV a t) h N:=Bc fun cf k=>Nt ..
end
end Go.Ev
namespace Go.Ev
open Go
/--a block of the call's own,with its elements' type -/
def FT (h:H) (id:B) (el:Nat) (xs:List V):Prop:=∃ Ap,h.heap.get id=some Ap/\Ap.cur=0/\Ap.min=0/\Ap.fr=0/\Ap.el=el/\B.val h.floor<=B.val id/\B.val id<B.val h.next/\∀ i y,xs[i]? =some y->Ap.cells.BP i=some y
theorem FT.own {h:H} {id:B} {el:Nat} {xs:List V} (o:FT h id el xs):CE h id xs:=by
 obtain⟨Ap,h1,h2,h3,h4,h5,h6,h7,h8⟩:=o
 exact⟨Ap,h1,h2,h3,h4,h6,h7,h8⟩
theorem FT.stay {p:B->Prop} {h h':H} {id:B} {el:Nat} {xs:List V} (o:FT h id el xs) (s:AW p h h') (hp:¬p id):FT h' id el xs:=by
 obtain⟨Ap,h1,h2,h3,h4,h5,h6,h7,h8⟩:=o
 exact⟨Ap,(s.get id h7 hp).trans h1,h2,h3,h4,h5,by rw[s.floor];exact h6,Nat.lt_of_lt_of_le h7 s.next,h8⟩
theorem FT.lt {h:H} {id:B} {el:Nat} {xs:List V} (o:FT h id el xs):B.val id<B.val h.next:=by obtain⟨_,_,_,_,_,_,_,h7,_⟩:=o;exact h7
theorem Pu {h:H} {id:B} {el:Nat} {xs:List V} {j fin:Nat} {y:V} (o:FT h id el xs) (hj:j<fin) (hfit:j<2 ^ 37) (h1:ES y=true):∃ h',(∀ k,store h id 0 j fin [y] k=k h')/\FT h' id el (xs.set j y)/\AW (fun i=>i=id) h h':=by
 obtain⟨Ap,a1,a2,a3,a4,a8,a5,a6,a7⟩:=o
 obtain⟨next,floor,heap⟩:=h
 obtain⟨cur,min,sz,cells,bel,fr⟩:=Ap
 simp only at a2 a3 a4 a7 a8
 subst a2;subst a3;subst a4;subst a8
 obtain⟨tr,t1,t2,t3⟩:=Bn [y] j cells (by simp;omega)
 obtain⟨hp,s1,s2,s3⟩:=Bw id (⟨0,0,sz,tr,bel,0⟩:Gi) heap
 have e1:B.Jz floor id=true:=by cases floor<;>first|rfl|(show Nat.ble _ _=true;rw[Nat.ble_eq];exact a5)
 have e2:Nat.ble (Nat.add j 1) fin=true:=by rw[Nat.ble_eq];exact hj
 have e3:Bk [y]=true:=by show Bool.rec false true (ES y)=true;rw[h1]
 have e4:Hc 0 j=true:=rfl
 have e5:Nat.beq 0 0=true:=rfl
 have e6:Nat.ble 0 0=true:=rfl
 have a1':heap.get id=some ⟨0,0,sz,cells,bel,0⟩:=a1
 refine⟨⟨next,floor,hp⟩,fun k=>?_,⟨_,s2,rfl,rfl,rfl,rfl,a5,a6,fun i z hz=>?_⟩,⟨rfl,Nat.le_refl _,fun i _ hi=>s3 i hi⟩⟩
 ·simp only[store,CH,a1',Ao,BB,List.length_singleton,e5,e6,e1,e2,e3,e4,AH]
  rw[t1,s1]
 ·show tr.BP i=some z
  rw[List.getElem?_set]at hz
  split at hz
  ·rename_i hij
   subst hij
   split at hz
   ·cases hz
    exact t2 0 y rfl
   ·cases hz
  ·rename_i hij
   rw[t3 i (by simp;omega)]
   exact a7 i z hz
section
variable {P:Program} {S:Spec} {l:List CO} {t:F} {h:H} {K:F->H->Prop}
end
theorem Wc {h:H} {id:B} {el:Nat} {xs:List V} (o:FT h id el xs) (k:Unit->Bool):SM h id 0 el k=k ():=by
 obtain⟨Ap,h1,h2,h3,h4,h5,h6,h7,h8⟩:=o
 obtain⟨next,floor,heap⟩:=h
 obtain⟨cur,min,sz,cells,bel,fr⟩:=Ap
 simp only at h3 h5
 subst h3;subst h5
 have h1':heap.get id=some ⟨cur,0,sz,cells,bel,fr⟩:=h1
 have e1:Nat.ble 0 0=true:=rfl
 have e2:Nat.beq bel bel=true:=Nat.beq_refl bel
 simp only[SM,CH,h1',Ao,BB,e1,e2,AH]
section
variable (cf:Bs) (t:F) (h:H) (k:V->H->Bool) (x y:O)
theorem cb:K8 x cf t h k=vP (oV x t) fun id g off fin=>DI h id g off fin fun _=>k (.p id g off fin) h:=by simp only[K8,AV]
theorem di (u size:Nat):Kq u size x cf t h k=vP (oV x t) fun id g off fin=>As (Nat.beq off 0) fun _=>As (Nat.ble size fin) fun _=>SM h id g u fun _=>k (.p id g off fin) h:=by simp only[Kq,AV]
theorem kU (ne:Bool):FY ne x y cf t h k=PY (oV x t) (fun _=>PY (oV y t) (fun _=>k (.b (!ne)) h) fun _ _ _ _=>k (.b ne) h) (Js ne (oV y t) fun v=>k v h):=by simp only[FY,AV,Cb]
theorem Wa (ne:Bool) (k:V->Bool) (id:B) (g off fin:Nat):Js ne .p0 k id g off fin=k (.b ne):=by
 unfold Js
 rw[JI,Cb]
theorem RE (ne:Bool) (k:V->Bool) (id:B) (g off fin fin':Nat):Js ne (.p id g off fin) k id g off fin'=k (.b (xor ne true)):=by
 unfold Js
 rw[LU,Nat.beq_refl,AH,Nat.beq_refl,AH,Nat.beq_refl,Cb]
theorem Ui:Ei x cf t h k=vL (oV x t) (fun _=>k .p0 h) fun id g off len fin _=>As (Nat.ble 1 len) fun _=>k (.p id g off fin) h:=by simp only[Ei,AV]
end
theorem KH:∀ (m:Nat) (l:List UInt8) (acc:List V) (k:List V->Bool),l.length=m->LM m (pk l) acc k=k (l.map bv++acc):=by
 intro m
 induction m with
 |zero=>
  intro l acc k h
  have:l=[]:=List.eq_nil_of_length_eq_zero h
  subst this;rfl
 |succ m ih=>
  intro l acc k h
  have hne:l≠[]:=by intro h0;subst h0;simp at h
  obtain⟨l',b,rfl⟩:∃ l' b,l=l'++[b]:=⟨l.dropLast,l.getLast hne,(List.dropLast_concat_getLast hne).symm⟩
  have hs:=IA l' [b]
  have hb:pk [b]=b.toNat:=by simp[pk]
  simp only[List.length_cons,List.length_nil,Nat.zero_add,Nat.pow_one,hb]at hs
  show fN (Nat.mod (pk (l'++[b])) 256) (fun c=>fN (Nat.div (pk (l'++[b])) 256) fun n=>LM m n (.i .u8 (.ofNat c)::acc) k)=_
  rw[A5,A5]
  have e1:Nat.mod (pk (l'++[b])) 256=b.toNat:=hs.2
  have e2:Nat.div (pk (l'++[b])) 256=pk l':=hs.1
  rw[e1,e2,ih l' _ k (by simpa using h)]
  simp[bv]
theorem JU:∀ l:List UInt8,Bk (l.map bv)=true
 |[]=>rfl
 |_::l=>JU l
section
variable {P:Program} {S:Spec} {l:List CO} {t:F} {h:H} {K:F->H->Prop}
end
/--a text out of a slice's bytes,which are frozen -/
theorem X9 {h:H} {el:Nat} {w:V} {a:List UInt8} (hb:FU h el 1 w (a.map bv)) (hl:a.length<=1048576) (cf:Bs) (t:F) (x y:O)
 (e1:∀ k:V->Bool,vL w (fun _=>k .p0) (fun id g off len fin _=>k (.p id g off fin))=k (oV x t)) (e2:oV y t=.i .i64 (a.length:Int)):
 ∃ h',(∀ k,Ea el x y cf t h k=k (sv a) h')/\AW (Af w) h h':=by
 rcases hb with⟨rfl,e⟩|⟨id,g,n,Ap,rfl,b1,b2,b3,b4,b5,b6,b7,b8,b9,P1⟩
 ·have:a=[]:=by simpa using e
  subst this
  have hx:oV x t=.p0:=by
   have:=e1 fun v=>@decide (v=oV x t) (Classical.propDecidable _)
   simp at this
   exact this.symm
  refine⟨h,fun k=>?_,AW.refl _ _⟩
  simp only[Ea,AV,hx,e2,Cx,BO,AH,Bb,JI]
  rfl
 ·have hx:oV x t=.p id g 0 (a.map bv).length:=by
   have:=e1 fun v=>@decide (v=oV x t) (Classical.propDecidable _)
   simp at this
   rw[<-this];simp
  have hn:n=a.length:=by rw[List.length_map,Nat.mul_one]at b2;exact b2.symm
  subst hn
  have hrow:Row h id g 0 (a.map bv):=⟨fun _=>⟨Ap,b5,b6.1⟩,fun i y hy=>by
   unfold Ev.cell Gg
   rw[b5]
   show(if Ap.min<=g then Ap.cells.BP (0+i)else none)=_
   rw[if_pos b6.1,Nat.zero_add]
   exact P1 i y hy⟩
  have hld:∀ k,Br h id g 0 (a.map bv).length a.length k=k (a.map bv):=fun k=>by
   have:=C2 (n:=(a.map bv).length) hrow rfl (by intro h0;have:=congrArg List.length h0;simp at this;subst this;simp at b1) (by omega:0+(a.map bv).length<=(a.map bv).length) k
   rwa [List.length_map]at this⊢
  obtain⟨next,floor,heap⟩:=h
  obtain⟨cur,min,sz,cells,bel,fr⟩:=Ap
  simp only at b6 b7 b8 b9 P1
  subst b9;subst b8
  obtain⟨hp,s1,s2,s3⟩:=Bw id (⟨cur,min,sz,cells,bel,a.length+2⟩:Gi) heap
  have b5':heap.get id=some ⟨cur,min,sz,cells,bel,0⟩:=b5
  have g1:Nat.ble min g=true:=by rw[Nat.ble_eq];exact b6.1
  have g2:Nat.beq bel bel=true:=Nat.beq_refl bel
  have g3:B.Jz floor id=true:=by cases floor<;>first|rfl|(show Nat.ble _ _=true;rw[Nat.ble_eq];exact b3)
  have g4:Nat.ble 1 a.length=true:=by rw[Nat.ble_eq];exact b1
  have g5:Nat.ble a.length 1048576=true:=by rw[Nat.ble_eq];exact hl
  refine⟨⟨next,floor,hp⟩,fun k=>?_,⟨rfl,Nat.le_refl _,fun i _ hi=>s3 i fun e=>hi (by subst e;exact⟨_,_,_,_,_,rfl⟩)⟩⟩
  simp only[Ea,AV,hx,e2,Cx,BO,AH,Bb,LU]
  unfold KQ
  have g6:Nat.beq 0 0=true:=rfl
  rw[g6,AH,g4,AH,g5,AH]
  simp only[SM,CH,b5',Ao,BB,g1,g2,AH]
  rw[hld,J0]
  have e0:0*256 ^ a.length+pk a=pk a:=by rw[Nat.zero_mul,Nat.zero_add]
  rw[e0]
  simp only[HE,CH,b5',Ao,BB,g3,AH]
  show fN (Nat.add a.length 2) (fun fr'=>T.Hg id ⟨cur,min,sz,cells,bel,fr'⟩ heap fun heap=>k (.s a.length (pk a)) ⟨next,floor,heap⟩)=_
  rw[A5]
  exact s1 _
/--a Builder of the call's own,behind 'lo',in the blocks U,with the bytes a -/
structure Sb (h:H) (lo elB el8:Nat) (id:B) (U:B->Prop) (a:List UInt8):Prop where
 made:∃ adr w,FT h id elB [adr,w]/\(adr=.p0\/adr=.p id 0 0 2)/\FU h el8 1 w (a.map bv)/\(∀ i,Af w i->U i)/\¬Af w id
 self:U id
 lo:∀ i,U i->lo<=B.val i/\B.val i<B.val h.next
theorem Sb.stay {h h':H} {lo elB el8:Nat} {id:B} {U p:B->Prop} {a:List UInt8} (s:Sb h lo elB el8 id U a) (st:AW p h h') (hp:∀ i,U i->¬p i):Sb h' lo elB el8 id U a:=by
 obtain⟨⟨adr,w,o,ha,b,hw,hn⟩,hs,hlo⟩:=s
 exact⟨⟨adr,w,o.stay st (hp _ hs),ha,b.stay st fun i hi=>hp i (hw i hi),hw,hn⟩,hs,fun i hi=>⟨(hlo i hi).1,Nat.lt_of_lt_of_le (hlo i hi).2 st.next⟩⟩
/--a slice of one-cell elements of the call's own,behind 'lo' -/
structure Vb (h:H) (lo el:Nat) (v:V) (xs:List V):Prop where
 buf:FU h el 1 v xs
 own:∀ i,Af v i->lo<=B.val i
theorem Vb.nil (h:H) (lo el:Nat):Vb h lo el .l0 []:=⟨FU.nil h el 1,fun i hi=>by obtain⟨_,_,_,_,_,e⟩:=hi;cases e⟩
theorem Vb.stay {p:B->Prop} {h h':H} {lo el:Nat} {v:V} {xs:List V} (a:Vb h lo el v xs) (s:AW p h h') (hp:∀ i,Af v i->¬p i):Vb h' lo el v xs:=⟨a.buf.stay s hp,a.own⟩
theorem Vb.grow {h h':H} {lo el:Nat} {v:V} {xs:List V} (a:Vb h lo el v xs) (s:AW AN h h'):Vb h' lo el v xs:=⟨a.buf.grow s,a.own⟩
/--a new slice of bytes,in a block of the call's own that begins at 0;its end is marked,so that it is no FU -/
theorem Q4 (el:Nat) {l:List UInt8} {h:H} (hf:B.val h.floor<=B.val h.next) (hl:l.length<=1048576):
 ∃ h',(∀ (x:O) (t:F) (cf:Bs) (k:V->H->Bool),oV x t=sv l->Ip el x cf t h k=k (.l h.next 0 0 l.length l.length (Hz l.length)) h')/\AW AN h h'/\B.val h'.next=B.val h.next+1/\
  Row h' h.next 0 0 (l.map bv)/\GY h' (.l h.next 0 0 l.length l.length (Hz l.length)) (l.map bv)/\
  ∃ cells,h'.heap.get h.next=some ⟨0,0,l.length,cells,el,1⟩/\∀ i y,(l.map bv)[i]? =some y->cells.BP i=some y:=by
 obtain⟨⟨nx,fl,heap⟩,a1,a2,a3,⟨cur,min,sz,cells,bel,fr⟩,b1,b2,b3,b4,b5,b6,b7⟩:=Di el (l.map bv) h (by simp;omega)
 simp only at b2 b3 b4 b5 b6 b7
 subst b2;subst b3;subst b5;subst b6
 rw[List.length_map]at b4
 subst b4
 obtain⟨hp,s1,s2,s3⟩:=Bw h.next (⟨0,0,l.length,cells,bel,1⟩:Gi) heap
 have hfl:fl=h.floor:=a2.floor
 have g3:B.Jz fl h.next=true:=by
  rw[hfl]
  cases hfx:h.floor<;>first|rfl|(rw[hfx]at hf;show Nat.ble _ _=true;rw[Nat.ble_eq];exact hf)
 have g5:Nat.ble l.length 1048576=true:=by rw[Nat.ble_eq];exact hl
 have b1':heap.get h.next=some ⟨0,0,l.length,cells,bel,0⟩:=b1
 have hrow:Row ⟨nx,fl,hp⟩ h.next 0 0 (l.map bv):=by
  refine⟨fun _=>⟨_,s2,Nat.le_refl _⟩,fun i y hy=>?_⟩
  unfold Ev.cell Gg
  show(match hp.get h.next with|some b=>if b.min<=0 then b.cells.BP (0+i)else none|none=>none)=_
  rw[s2]
  simp only[Nat.le_refl,if_true,Nat.zero_add]
  exact b7 i y hy
 refine⟨⟨nx,fl,hp⟩,fun x t cf k e=>?_,⟨a2.floor,a2.next,fun id h1 h2=>(s3 id fun e=>by rw[e]at h1;exact absurd h1 (Nat.lt_irrefl _)).trans (a2.get id h1 h2)⟩,a3,hrow,
  .inr ⟨h.next,0,0,l.length,Hz l.length,by rw[List.length_map],by rw[List.length_map];omega,by show B.val h.next<B.val nx;have:B.val nx=B.val h.next+1:=a3;omega,hrow⟩,cells,s2,b7⟩
 simp only[Ip,AV,e]
 show As (Nat.ble l.length 1048576) (fun _=>LM l.length (pk l) [] fun vs=>alloc bel vs h fun id h=>Kb h id fun h=>k (.l id 0 0 l.length l.length (Hz l.length)) h)=_
 rw[g5,AH,KH _ _ _ _ rfl,List.append_nil,a1]
 simp only[Kb,CH,b1',Ao,BB,g3,AH]
 have g0:Nat.beq 0 0=true:=rfl
 rw[g0,AH]
 exact s1 _
section
variable {P:Program} {S:Spec} {l:List CO} {t:F} {h:H} {K:F->H->Prop}
end
/--v is the newest slice of its block -/
def O0 (h:H) (v:V):Prop:=∀ id g off n fin cap,v=.l id g off n fin cap->∃ Ap,h.heap.get id=some Ap/\Ap.cur=g
theorem O0.nil (h:H):O0 h .l0:=fun _ _ _ _ _ _ e=>by cases e
theorem O0.stay {p:B->Prop} {h h':H} {v:V} (a:O0 h v) (s:AW p h h') (hl:∀ id,Af v id->B.val id<B.val h.next) (hp:∀ id,Af v id->¬p id):O0 h' v:=fun id g off n fin cap e=>by
 obtain⟨Ap,h1,h2⟩:=a id g off n fin cap e
 have i:Af v id:=⟨_,_,_,_,_,e⟩
 exact⟨Ap,(s.get id (hl id i) (hp id i)).trans h1,h2⟩
theorem Kr {h:H} {el size n:Nat} {v:V} {xs vs:List V} (b:FU h el size v xs) (hf:B.val h.floor<=B.val h.next) (hsz:1<=size) (hn:vs.length=n*size) (h1:Bk vs=true) (hb:xs.length+vs.length<=1048576):
 ∃ v' h',(∀ k,Ci el size v n vs h k=k v' h')/\FU h' el size v' (xs++vs)/\AW (Af v) h h'/\(∀ id,Af v' id->Af v id\/B.val h.next<=B.val id)/\O0 h' v':=by
 have hle:n<=vs.length:=by rw[hn];exact Nat.le_mul_of_pos_right _ hsz
 rcases b with⟨rfl,rfl⟩|⟨id,g,m,Ap,rfl,b1,b2,b3,b4,b5,b6,b7,b8,b9,P1⟩
 ·cases n with
  |zero=>
   have:vs=[]:=List.eq_nil_of_length_eq_zero (by simpa using hn)
   subst this
   exact⟨.l0,h,fun k=>rfl,FU.nil h el size,AW.refl _ h,fun id i=>.inl i,fun _ _ _ _ _ _ e=>by cases e⟩
  |succ n=>
   obtain⟨h',a1,a2,a3,Ap,c1,c2,c3,c4,c5,c6,c7⟩:=Di el vs h (by omega)
   have hble:Nat.ble (n+1) 1048576=true:=by rw[Nat.ble_eq];simp at hb;omega
   refine⟨.l h.next 0 0 (n+1) vs.length none,h',fun k=>?_,.inr ⟨h.next,0,n+1,Ap,rfl,by omega,hn,by rw[a2.floor];exact hf,by omega,c1,⟨by omega,by omega⟩,c4,c5,c6,c7⟩,a2.mono fun _ _ h=>h.elim,fun id i=>?_,fun _ _ _ _ _ _ e=>by cases e;exact⟨Ap,c1,c3⟩⟩
   ·show(As (Nat.ble (n+1) 1048576) fun _=>alloc el vs h fun id h=>k (.l id 0 0 (n+1) vs.length none) h)=_
    rw[hble,AH,a1]
   ·obtain⟨_,_,_,_,_,e⟩:=i;cases e;exact .inr (Nat.le_refl _)
 ·obtain⟨next,floor,heap⟩:=h
  obtain⟨cur,min,sz,cells,bel,fr⟩:=Ap
  simp only at b6 b7 b8 b9 P1
  obtain⟨tr,t1,t2,t3⟩:=Bn vs sz cells (by omega)
  obtain⟨hp,s1,s2,s3⟩:=Bw id (⟨Nat.succ cur,min,Nat.add sz (Nat.mul n size),tr,bel,fr⟩:Gi) heap
  have e1:Nat.ble min g=true:=by rw[Nat.ble_eq];exact b6.1
  have e2:B.Jz floor id=true:=by
   cases floor<;>first|rfl|(show Nat.ble _ _=true;rw[Nat.ble_eq];exact b3)
  have e3:Nat.add 0 (Nat.mul m size)=sz:=by
   show 0+m*size=sz
   omega
  have e3':Nat.ble sz sz=true:=by rw[Nat.ble_eq];exact Nat.le_refl _
  have e4:Nat.beq xs.length sz=true:=by rw[b7];simp
  have e4':Nat.beq sz sz=true:=Nat.beq_refl _
  have e9:Me size (Nat.add m n)=none:=Kg (by show 1<=m+n;omega)
  have e5:Nat.ble 1 m=true:=by rw[Nat.ble_eq];exact b1
  have hm:m<=xs.length:=by rw[b2];exact Nat.le_mul_of_pos_right _ hsz
  have e6:Nat.ble (Nat.add m n) 1048576=true:=by rw[Nat.ble_eq];show m+n<=1048576;omega
  have e7:Hc fr sz=true:=by rw[b9];rfl
  have e8:Nat.beq bel el=true:=by rw[b8];simp
  refine⟨.l id (Nat.succ cur) 0 (m+n) (sz+n*size) none,⟨next,floor,hp⟩,fun k=>?_,.inr ⟨id,Nat.succ cur,m+n,_,?_,by omega,?_,b3,b4,s2,?_,?_,b8,b9,fun i y hy=>?_⟩,⟨rfl,Nat.le_refl _,fun id' _ hne=>s3 id' fun e=>hne (by subst e;exact⟨_,_,_,_,_,rfl⟩)⟩,fun id' i=>?_,fun _ _ _ _ _ _ e=>by cases e;exact⟨_,s2,rfl⟩⟩
  ·show Ch (Nat.ble 1 m) el id g 0 m xs.length size n vs ⟨next,floor,heap⟩ k=_
   have b5':heap.get id=some ⟨cur,min,sz,cells,bel,fr⟩:=b5
   simp only[Ch,CH,b5',Ao,BB,A5,e3,e1,e2,e3',e4,e4',Tm,e5,e6,h1,e7,e8,e9,AH]
   rw[t1,s1];rfl
  ·show V.l id (Nat.succ cur) 0 (m+n) (sz+n*size) none=V.l id (Nat.succ cur) 0 (m+n) (xs++vs).length none
   rw[List.length_append,hn,b7]
  ·rw[List.length_append,hn,b2,Nat.add_mul]
  ·exact⟨by show min<=cur+1;omega,Nat.le_refl _⟩
  ·show Nat.add sz (Nat.mul n size)=(xs++vs).length
   rw[List.length_append,hn,b7];rfl
  ·show tr.BP i=some y
   by_cases hi:i<xs.length
   ·rw[t3 i (.inl (by omega))]
    refine P1 i y ?_
    rwa [List.getElem?_append_left hi]at hy
   ·have hi':i-xs.length<vs.length:=by
     have:=(List.getElem?_eq_some_iff.1 hy).1
     simp at this;omega
    rw[List.getElem?_append_right (by omega)]at hy
    have:=t2 (i-xs.length) y hy
    rwa [show sz+(i-xs.length)=i by omega]at this
  ·obtain⟨_,_,_,_,_,e⟩:=i;cases e;exact .inl ⟨_,_,_,_,_,rfl⟩
/--at one place written -/
theorem Sh {h:H} {el:Nat} {v:V} {xs:List V} {j:Nat} {y:V} (b:FU h el 1 v xs) (tp:O0 h v) (hj:j<xs.length) (hfit:j<2 ^ 37) (h1:ES y=true):
 ∃ h',(∀ k,store h (GV v) (lg v) (Ct v+j) (Cv v) [y] k=k h')/\FU h' el 1 v (xs.set j y)/\O0 h' v/\AW (Af v) h h':=by
 rcases b with⟨rfl,rfl⟩|⟨id,g,m,Ap,rfl,b1,b2,b3,b4,b5,b6,b7,b8,b9,P1⟩
 ·exact absurd hj (Nat.not_lt_zero _)
 obtain⟨blk',b5',hcur⟩:=tp id g 0 m xs.length none rfl
 have hbb:blk'=Ap:=by rw[b5]at b5';exact(Option.some.inj b5').symm
 subst hbb
 obtain⟨next,floor,heap⟩:=h
 obtain⟨cur,min,sz,cells,bel,fr⟩:=blk'
 simp only at b6 b7 b8 b9 P1 hcur
 subst hcur;subst b9
 obtain⟨tr,t1,t2,t3⟩:=Bn [y] j cells (by simp;omega)
 obtain⟨hp,s1,s2,s3⟩:=Bw id (⟨cur,cur,sz,tr,bel,0⟩:Gi) heap
 have e1:B.Jz floor id=true:=by cases floor<;>first|rfl|(show Nat.ble _ _=true;rw[Nat.ble_eq];exact b3)
 have e2:Nat.ble (Nat.add j 1) xs.length=true:=by rw[Nat.ble_eq];exact hj
 have e3:Bk [y]=true:=by show Bool.rec false true (ES y)=true;rw[h1]
 have e4:Hc 0 j=true:=rfl
 have e5:Nat.beq cur cur=true:=Nat.beq_refl cur
 have e6:Nat.ble min cur=true:=by rw[Nat.ble_eq];exact b6.1
 have b5'':heap.get id=some ⟨cur,min,sz,cells,bel,0⟩:=b5
 refine⟨⟨next,floor,hp⟩,fun k=>?_,.inr ⟨id,cur,m,_,by rw[List.length_set],b1,by rw[List.length_set];exact b2,b3,b4,s2,⟨Nat.le_refl _,Nat.le_refl _⟩,by rw[List.length_set];exact b7,b8,rfl,fun i z hz=>?_⟩,fun _ _ _ _ _ _ e=>by cases e;exact⟨_,s2,rfl⟩,⟨rfl,Nat.le_refl _,fun i _ hi=>s3 i fun e=>hi (by subst e;exact⟨_,_,_,_,_,rfl⟩)⟩⟩
 ·show store ⟨next,floor,heap⟩ id cur (0+j) xs.length [y] k=_
  rw[Nat.zero_add]
  simp only[store,CH,b5'',Ao,BB,List.length_singleton,e5,e6,e1,e2,e3,e4,AH]
  rw[t1,s1]
 ·show tr.BP i=some z
  rw[List.getElem?_set]at hz
  split at hz
  ·rename_i hij
   subst hij
   first
   |(rw[if_pos hj]at hz;cases hz;exact t2 0 y rfl)
   |(cases hz;exact t2 0 y rfl)
  ·rename_i hij
   rw[t3 i (by simp;omega)]
   exact P1 i z hz
section
variable {P:Program} {S:Spec} {l:List CO} {t:F} {h:H} {K:F->H->Prop}
end
def Fv (size:Nat) (v w:V) (k:V->Bool):Bool:=vL v (fun _=>vI w fun _ n=>A6 n fun a=>As (Nat.beq a 0) fun _=>As (Nat.beq 0 0) fun _=>k .l0) fun id g off len fin cap=>vI w fun _ n=>A6 n fun a=>As (Nat.ble a len) fun _=>
 Option.rec (fun id g off len fin a b k=>DS size id g off len fin a b fun v=>k v) (fun c id g off len fin a b k=>A4 (BU c) (fun _=>As (Nat.beq b 0) fun _=>k (.l id g off 0 off (some c))) (fun _=>BY size id g off len fin c a b fun v=>k v)) cap id g off len fin a len k
def Fp (size:Nat) (v w:V) (k:V->Bool):Bool:=vL v (fun _=>vI w fun _ n=>A6 n fun b=>As (Nat.beq 0 0) fun _=>As (Nat.beq b 0) fun _=>k .l0) fun id g off len fin cap=>vI w fun _ n=>A6 n fun b=>As (Nat.ble 0 b) fun _=>
 Option.rec (fun id g off len fin a b k=>DS size id g off len fin a b fun v=>k v) (fun c id g off len fin a b k=>A4 (BU c) (fun _=>As (Nat.beq b 0) fun _=>k (.l id g off 0 off (some c))) (fun _=>BY size id g off len fin c a b fun v=>k v)) cap id g off len fin 0 b k
section
variable {cf:Bs} {t:F} {h:H} {k:V->H->Bool} {x a:O}
theorem XR (size:Nat):CV size x (some a) none cf t h k=Fv size (oV x t) (oV a t) fun v=>k v h:=by
 unfold Fv
 simp only[CV,AV,BW]
 congr 1
 funext id g off len fin cap
 congr 1;funext _ n;congr 1;funext a;congr 1;funext _
 cases cap with
 |none=>rfl
 |some c=>
  show A4 (BU c) _ _=A4 (BU c) _ _
  cases BU c<;>rfl
theorem Wr (size:Nat):CV size x none (some a) cf t h k=Fp size (oV x t) (oV a t) fun v=>k v h:=by
 unfold Fp
 simp only[CV,AV,BW]
 congr 1
 funext id g off len fin cap
 congr 1;funext _ n;congr 1;funext a;congr 1;funext _
 cases cap with
 |none=>rfl
 |some c=>
  show A4 (BU c) _ _=A4 (BU c) _ _
  cases BU c<;>rfl
end
/--the part behind n of a row that is made -/
def S1 (id:B) (K n:Nat):V:=if n=K then .l id 0 0 0 K (some 0)else .l id 0 n (K-n) K (some (K-n))
theorem T5 {id:B} {K n:Nat} {kd:IntKind} (hKM:K<18446744073709551616) (hn:n<=K) (k:V->Bool):Fv 1 (.l id 0 0 K K (some K)) (.i kd (n:Int)) k=k (S1 id K n):=by
 have e1:Nat.ble n K=true:=by rw[Nat.ble_eq];exact hn
 have e2:Nat.ble K K=true:=by rw[Nat.ble_eq];exact Nat.le_refl _
 unfold Fv S1
 simp only[DL,Cx,Bb,e1,AH]
 by_cases e:n=K
 ·subst e
  rw[if_pos rfl]
  show A4 (BU n) _ (fun _=>BY 1 id 0 0 n n n n n fun v=>k v)=_
  rw[Fu hKM,BF]
  have e0:Nat.ble (Nat.succ n) 18446744073709551616=true:=by rw[Nat.ble_eq];exact hKM
  have e3:Nat.beq n n=true:=Nat.beq_refl n
  unfold BY
  rw[e0,AH,e2,AH,e3]
  rfl
 ·rw[if_neg e]
  show A4 (BU K) _ (fun _=>BY 1 id 0 0 K K K n K fun v=>k v)=_
  rw[Fu hKM,BF,EE hKM (Nat.le_refl _) (by omega),Nat.zero_add,Nat.mul_one]
theorem TZ {id:B} {K n:Nat} {kd:IntKind} (hKM:K<18446744073709551616) (hn:n<=K) (hK:0<K) (k:V->Bool):Fp 1 (.l id 0 0 K K (some K)) (.i kd (n:Int)) k=k (.l id 0 0 n K (some K)):=by
 have e1:Nat.ble 0 n=true:=by rw[Nat.ble_eq];exact Nat.zero_le _
 unfold Fp
 simp only[DL,Cx,Bb,e1,AH]
 show A4 (BU K) _ (fun _=>BY 1 id 0 0 K K K 0 n fun v=>k v)=_
 rw[Fu hKM,BF,EE hKM hn hK]
 simp only[Nat.zero_mul,Nat.add_zero,Nat.sub_zero]
end Go.Ev
namespace Go.Ev
open Go
/--frames -/
def eA (n m:Nat) (v:V) (t:F):V:=get n (put m v t)
theorem AA (n m:Nat) (v:V) (t:F):get n (put m v t)=if n=m then v else if n<512/\m<512 then get n t else eA n m v t:=by
 by_cases h:n<512/\m<512
 ·rw[Ql n m v t h.1 h.2,if_pos h]
 ·rw[if_neg h]
  by_cases e:n=m
  ·subst e
   rw[if_pos rfl]
   exact(Classical.choose_spec (GP (AX n) v t)).2.1
  ·rw[if_neg e];rfl
section
variable {P:Program} {h:H} {N:Nx} {kd:IntKind} {a b:Int}
theorem mJ:H2 P (DK BE) (.i kd a) (.i kd b) h N=N.go P (.i kd (kd.wrap (a+b))) h:=Ak fun k=>by show As (CT kd kd) _=_;rw[BO,AH,oX]
theorem mD:H2 P (DK Bi) (.i kd a) (.i kd b) h N=N.go P (.i kd (kd.wrap (a-b))) h:=Ak fun k=>by show As (CT kd kd) _=_;rw[BO,AH,ABb]
theorem aa:H2 P (DK Mh) (.i kd a) (.i kd b) h N=N.go P (.i kd (kd.wrap (a*b))) h:=Ak fun k=>by show As (CT kd kd) _=_;rw[BO,AH,AAZ]
theorem aI:H2 P (DK Bg) (.i kd a) (.i kd b) h N=N.go P (.b (decide (a<b))) h:=Ak fun k=>by show As (CT kd kd) _=_;rw[BO,AH,pH]
theorem Z9:H2 P (DK Cs) (.i kd a) (.i kd b) h N=N.go P (.b (decide (b<a))) h:=Ak fun k=>by show As (CT kd kd) _=_;rw[BO,AH,ABW]
theorem jy:H2 P (DK FO) (.i kd a) (.i kd b) h N=N.go P (.b (decide (a<=b))) h:=Ak fun k=>by show As (CT kd kd) _=_;rw[BO,AH,ACJ]
theorem nV:H2 P (DK Dp) (.i kd a) (.i kd b) h N=N.go P (.b (decide (b<=a))) h:=Ak fun k=>by show As (CT kd kd) _=_;rw[BO,AH,po]
theorem lH:H2 P (DK Cl) (.i kd a) (.i kd b) h N=N.go P (.b (decide (a=b))) h:=Ak fun k=>by show As (CT kd kd) _=_;rw[BO,AH,ACX]
theorem jq:H2 P (DK H6) (.i kd a) (.i kd b) h N=N.go P (.b (!decide (a=b))) h:=Ak fun k=>by show As (CT kd kd) _=_;rw[BO,AH,w3]
theorem Zz (ha:0<=a) (hb:0<b):H2 P (DK Lb) (.i kd a) (.i kd b) h N=N.go P (.i kd (kd.wrap (a/b))) h:=Ak fun k=>by
 show As (CT kd kd) _=_
 rw[BO,AH]
 have e:K1 b 0=false:=by rw[Ef];simp;omega
 unfold Lb
 rw[e]
 show FV (Int.tdiv a b) kd (BT kd) k=_
 rw[Cc,Int.tdiv_eq_ediv_of_nonneg ha]
theorem nR (ha:0<=a) (hb:0<b):H2 P AAk (.i kd a) (.i kd b) h N=N.go P (.i kd (a%b)) h:=Ak fun k=>by
 show As (CT kd kd) (fun _=>RJ kd a b k)=_
 rw[BO,AH]
 have e:K1 b 0=false:=by rw[Ef];simp;omega
 unfold RJ
 rw[e]
 show E2 (Int.tmod a b) (fun n=>k (.i kd n))=_
 rw[Et,Int.tmod_eq_emod_of_nonneg ha]
theorem K6 {m:Nat} (hm:BT kd=m) (ha:0<=a) (ha2:a<=m) (hb:0<=b) (hb2:b<=m):H2 P (DK Oe) (.i kd a) (.i kd b) h N=N.go P (.i kd ((a.toNat&&&b.toNat:Nat):Int)) h:=Ak fun k=>by
 show As (CT kd kd) _=_
 rw[BO,AH]
 obtain⟨x,rfl⟩:=Int.eq_ofNat_of_zero_le ha
 obtain⟨y,rfl⟩:=Int.eq_ofNat_of_zero_le hb
 have e1:Nat.ble x (BT kd)=true:=by rw[Nat.ble_eq];omega
 have e2:Nat.ble y (BT kd)=true:=by rw[Nat.ble_eq];omega
 show A6 (Int.ofNat x) (fun a=>A6 (Int.ofNat y) _)=_
 rw[BA,BA,e1,AH,e2,AH,A5];rfl
theorem Ni {m:Nat} (hm:BT kd=m) (ha:0<=a) (ha2:a<=m) (hb:0<=b) (hb2:b<=m):H2 P (DK XI) (.i kd a) (.i kd b) h N=N.go P (.i kd ((a.toNat|||b.toNat:Nat):Int)) h:=Ak fun k=>by
 show As (CT kd kd) _=_
 rw[BO,AH]
 obtain⟨x,rfl⟩:=Int.eq_ofNat_of_zero_le ha
 obtain⟨y,rfl⟩:=Int.eq_ofNat_of_zero_le hb
 have e1:Nat.ble x (BT kd)=true:=by rw[Nat.ble_eq];omega
 have e2:Nat.ble y (BT kd)=true:=by rw[Nat.ble_eq];omega
 show A6 (Int.ofNat x) (fun a=>A6 (Int.ofNat y) _)=_
 rw[BA,BA,e1,AH,e2,AH,A5];rfl
theorem Kt {m:Nat} (hm:BT kd=m) (ha:0<=a) (ha2:a<=m) (hb:0<=b) (hb2:b<=m):H2 P (DK LX) (.i kd a) (.i kd b) h N=N.go P (.i kd ((a.toNat ^^^ b.toNat:Nat):Int)) h:=Ak fun k=>by
 show As (CT kd kd) _=_
 rw[BO,AH]
 obtain⟨x,rfl⟩:=Int.eq_ofNat_of_zero_le ha
 obtain⟨y,rfl⟩:=Int.eq_ofNat_of_zero_le hb
 have e1:Nat.ble x (BT kd)=true:=by rw[Nat.ble_eq];omega
 have e2:Nat.ble y (BT kd)=true:=by rw[Nat.ble_eq];omega
 show A6 (Int.ofNat x) (fun a=>A6 (Int.ofNat y) _)=_
 rw[BA,BA,e1,AH,e2,AH,A5];rfl
theorem KX {m:Nat} (hm:BT kd=m) (ha:0<=a) (ha2:a<=m) (hb:0<=b) (hb2:b<=m):H2 P (DK Ps) (.i kd a) (.i kd b) h N=N.go P (.i kd ((a.toNat ^^^ (a.toNat&&&b.toNat):Nat):Int)) h:=Ak fun k=>by
 show As (CT kd kd) _=_
 rw[BO,AH]
 obtain⟨x,rfl⟩:=Int.eq_ofNat_of_zero_le ha
 obtain⟨y,rfl⟩:=Int.eq_ofNat_of_zero_le hb
 have e1:Nat.ble x (BT kd)=true:=by rw[Nat.ble_eq];omega
 have e2:Nat.ble y (BT kd)=true:=by rw[Nat.ble_eq];omega
 show A6 (Int.ofNat x) (fun a=>A6 (Int.ofNat y) _)=_
 rw[BA,BA,e1,AH,e2,AH,A5];rfl
theorem mO {kd':IntKind} (hb:0<=b):H2 P (O8 K2) (.i kd a) (.i kd' b) h N=N.go P (.i kd (kd.wrap (a*((2 ^ (min b.toNat kd.bits):Nat):Int)))) h:=Ak fun k=>by
 show A6 b _=_
 rw[DA hb,rL]
theorem bz {kd':IntKind} (hb:0<=b):H2 P (O8 JO) (.i kd a) (.i kd' b) h N=N.go P (.i kd (a/((2 ^ (min b.toNat kd.bits):Nat):Int))) h:=Ak fun k=>by
 show A6 b _=_
 rw[DA hb]
 show E2 (Int.fdiv a ((2 ^ _:Nat):Int)) (fun n=>k (.i kd n))=_
 rw[Et,Int.fdiv_eq_ediv_of_nonneg _ (Int.natCast_nonneg _)]
theorem Zj {x y:Bool}:H2 P (VT false) (.b x) (.b y) h N=N.go P (.b (x==y)) h:=Ak fun k=>by cases x<;>cases y<;>rfl
theorem gF {x y:Bool}:H2 P (VT true) (.b x) (.b y) h N=N.go P (.b (x !=y)) h:=Ak fun k=>by cases x<;>cases y<;>rfl
theorem jN {x:Bool}:H1 P xN (.b x) h N=N.go P (.b (!x)) h:=Ak fun k=>rfl
theorem fx:H1 P oW (.i kd a) h N=N.go P (.i kd (kd.wrap (-a))) h:=Ak fun k=>Cc _ _ _
theorem Xh {kd':IntKind}:H1 P (Yq kd) (.i kd' a) h N=N.go P (.i kd (kd.wrap a)) h:=Ak fun k=>rfl
theorem XH {v:V} {vs:List V}:H1 P (U8 0) (.tu (v::vs)) h N=N.go P v h:=Ak fun k=>rfl
theorem XS {u v:V} {vs:List V}:H1 P (U8 1) (.tu (u::v::vs)) h N=N.go P v h:=Ak fun k=>rfl
theorem WJ {u w v:V} {vs:List V}:H1 P (U8 2) (.tu (u::w::v::vs)) h N=N.go P v h:=Ak fun k=>rfl
theorem WX {u w z v:V} {vs:List V}:H1 P (U8 3) (.tu (u::w::z::v::vs)) h N=N.go P v h:=Ak fun k=>rfl
theorem cy:H2 P ub (.i kd a) (.i kd b) h N=N.go P (.i kd (min a b)) h:=Ak fun k=>by show As (CT kd kd) _=_;rw[BO,AH]
theorem bc:H2 P AB3 (.i kd a) (.i kd b) h N=N.go P (.i kd (max a b)) h:=Ak fun k=>by show As (CT kd kd) _=_;rw[BO,AH]
theorem XD {q:Bool} {x y:V}:H3 P Ya (.b q) x y h N=N.go P (cond q x y) h:=Ak fun k=>rfl
def FDJ (P:Program) (d:Nat) (cs:List V) (h:H) (N:Nx):Prop:=H1 P (PG d) (.a cs) h N
theorem Tw {d:Nat} {cs:List V}:H1 P (PG d) (.a cs) h N=if d<cs.length then N.go P (cs.getD d .u) h else FDJ P d cs h N:=by
 split
 ·rename_i hd
  exact Ak fun k=>by
   show Ce (cs[d]?) k=_
   rw[show cs[d]? =some (cs.getD d .u)by simp[hd]];rfl
 ·rfl
theorem Sd {d size:Nat} {cs:List V}:H1 P (Qw d size) (.a cs) h N=N.go P (.a ((cs.drop d).take size)) h:=Ak fun k=>rfl
theorem Mg {d:Nat} {id:B} {g off fin:Nat}:H1 P (LL d) (.p id g off fin) h N=N.go P (.p id g (off+d) fin) h:=Ak fun k=>rfl
theorem Nf {id:B} {g off fin:Nat}:H1 P Lj (.p id g off fin) h N=N.go P (.p id g off fin) h:=Ak fun k=>rfl
/--an element's place -/
def IX (P:Program) (size:Nat) (v:V) (i:Nat) (h:H) (N:Nx):Prop:=HV P (Nn size v i) h N
theorem ZT {size:Nat} {v:V} (ha:0<=a):H2 P (VP size) v (.i kd a) h N=IX P size v a.toNat h N:=by
 unfold H2 IX
 congr 1
 funext k
 show A6 a _=_
 rw[DA ha]
theorem qy {size i:Nat} {id:B} {g off len fin:Nat} {cap:Option Nat} (hi:i<len):IX P size (.l id g off len fin cap) i h N=N.go P (.p id g (off+i*size) fin) h:=Ak fun k=>by
 show As (Nat.ble (i+1) len) (fun _=>k (.p id g (off+i*size) fin))=_
 have:Nat.ble (i+1) len=true:=by rw[Nat.ble_eq];exact hi
 rw[this,AH]
theorem SL {len size:Nat} {id:B} {g off fin:Nat} (ha:0<=a) (hl:a<len):H2 P (MC len size) (.p id g off fin) (.i kd a) h N=N.go P (.p id g (off+a.toNat*size) fin) h:=Ak fun k=>by
 show A6 a _=_
 rw[DA ha,tB (by omega)]
theorem QH:H1 P NR .l0 h N=N.go P (.i .i64 0) h:=Ak fun k=>rfl
theorem Vm {id:B} {g off len fin:Nat} {cap:Option Nat}:H1 P NR (.l id g off len fin cap) h N=N.go P (.i .i64 (len:Int)) h:=Ak fun k=>rfl
theorem YI {l:List UInt8}:H1 P Yh (sv l) h N=N.go P (.i .i64 (l.length:Int)) h:=Ak fun k=>rfl
theorem MD {l:List UInt8} (ha:0<=a) (hl:a<l.length):H2 P Mw (sv l) (.i kd a) h N=N.go P (.i .u8 ((l.getD a.toNat 0).toNat:Int)) h:=Ak fun k=>by
 show A6 a _=_
 rw[DA ha,Xj (by omega)]
theorem Rr {len size:Nat} {cs:List V} (ha:0<=a) (hl:a<len) (hc:a.toNat*size<cs.length):H2 P (Qz len size) (.a cs) (.i kd a) h N=N.go P (cs.getD (a.toNat*size) .u) h:=Ak fun k=>by
 show A6 a _=_
 have:Nat.ble (a.toNat+1) len=true:=by rw[Nat.ble_eq];omega
 rw[DA ha]
 show As (Nat.ble (a.toNat+1) len) (fun _=>Ce (cs[a.toNat*size]?) k)=_
 rw[this,AH,show cs[a.toNat*size]? =some (cs.getD (a.toNat*size) .u)by simp[hc]];rfl
theorem j0 {x y:List UInt8} (hl:x.length+y.length<=1048576):H2 P Tu (sv x) (sv y) h N=N.go P (sv (x++y)) h:=Ak fun k=>XQ hl k
theorem jL {x y:List UInt8}:H2 P (Nc F6) (sv x) (sv y) h N=N.go P (.b (decide (x=y))) h:=Ak fun k=>cS x y k
theorem Y6 {x y:List UInt8}:H2 P (Nc fun a b c d=>!F6 a b c d) (sv x) (sv y) h N=N.go P (.b (!decide (x=y))) h:=Ak fun k=>kB x y k
theorem XK {x y:List UInt8}:H2 P cmV (sv x) (sv y) h N=N.go P (.i .i64 (Jr (decide (x=y)) (Op.bytesLess x y))) h:=Ak fun k=>eJ x y k
theorem Wg {x y:List UInt8}:H2 P (TG fun a b c d=>G5 a b c d||F6 a b c d) (sv x) (sv y) h N=N.go P (sv (bif Op.bytesLess x y||decide (x=y)then x else y)) h:=Ak fun k=>by
 have e:(G5 x.length (pk x) y.length (pk y)||F6 x.length (pk x) y.length (pk y))=(Op.bytesLess x y||decide (x=y)):=by rw[H0,B2]
 rw[<-e];unfold TG;rw[C7,C7]
 show A4 (G5 x.length (pk x) y.length (pk y)||F6 x.length (pk x) y.length (pk y)) _ _=_
 generalize (G5 x.length (pk x) y.length (pk y)||F6 x.length (pk x) y.length (pk y))=b
 cases b<;>rfl
theorem Wo {x y:List UInt8}:H2 P (TG fun a b c d=>!G5 a b c d) (sv x) (sv y) h N=N.go P (sv (bif Op.bytesLess x y then y else x)) h:=Ak fun k=>by
 rw[B2];unfold TG;rw[C7,C7]
 show A4 (!G5 x.length (pk x) y.length (pk y)) _ _=_
 generalize G5 x.length (pk x) y.length (pk y)=b
 cases b<;>rfl
theorem ao {x y:List UInt8}:H2 P (Nc G5) (sv x) (sv y) h N=N.go P (.b (Op.bytesLess x y)) h:=Ak fun k=>Zl x y k
theorem iM {x y:List UInt8}:H2 P (Nc fun a b c d=>!G5 a b c d) (sv x) (sv y) h N=N.go P (.b (!Op.bytesLess x y)) h:=Ak fun k=>by
 unfold Nc;rw[C7,C7,B2]
theorem bC {x y:List UInt8}:H2 P (Nc fun a b c d=>G5 a b c d||F6 a b c d) (sv x) (sv y) h N=N.go P (.b (Op.bytesLess x y||decide (x=y))) h:=Ak fun k=>by
 unfold Nc;rw[C7,C7];show k (.b (G5 x.length (pk x) y.length (pk y)||F6 x.length (pk x) y.length (pk y)))=_;rw[H0,B2]
theorem jn {x y:List UInt8}:H2 P (Nc fun a b c d=>!(G5 a b c d||F6 a b c d)) (sv x) (sv y) h N=N.go P (.b (!(Op.bytesLess x y||decide (x=y)))) h:=Ak fun k=>by
 unfold Nc;rw[C7,C7];show k (.b (!(G5 x.length (pk x) y.length (pk y)||F6 x.length (pk x) y.length (pk y))))=_;rw[H0,B2]
theorem Zf {l:List UInt8} {kd':IntKind} (ha:0<=a) (hab:a<=b) (hb:b<=l.length):H3 P u9 (sv l) (.i kd a) (.i kd' b) h N=N.go P (sv ((l.take b.toNat).drop a.toNat)) h:=Ak fun k=>by
 show A6 a (fun p=>A6 b fun q=>RZ (sv l) p q k)=_
 rw[DA ha,DA (by omega),Px (by omega) (by omega)]
theorem cB {l:List UInt8} (ha:0<=a) (hb:a<=l.length):H2 P yd (sv l) (.i kd a) h N=N.go P (sv (l.take a.toNat)) h:=Ak fun k=>by
 show A6 a (fun q=>RZ (sv l) 0 q k)=_
 rw[DA ha,Px (by omega) (by omega),List.drop_zero]
theorem ZE {l:List UInt8} (ha:0<=a) (hb:a<=l.length):H2 P uh (sv l) (.i kd a) h N=N.go P (sv (l.drop a.toNat)) h:=Ak fun k=>by
 show A6 a (fun p=>Oa (sv l) p k)=_
 rw[DA ha,WG (by omega)]
theorem Uy {l:List UInt8}:H1 P Ta (sv l) h N=N.go P (sv l) h:=Ak fun k=>rfl
theorem Ub {ne:Bool}:H2 P (Vz Wz ne) .l0 .l0 h N=N.go P (.b (!ne)) h:=Ak fun k=>by cases ne<;>rfl
theorem Va {ne:Bool} {id:B} {g off len fin:Nat} {cap:Option Nat}:H2 P (Vz Wz ne) (.l id g off len fin cap) .l0 h N=N.go P (.b ne) h:=Ak fun k=>by cases ne<;>rfl
theorem UO {ne:Bool}:H2 P (Vz vPN ne) .p0 .p0 h N=N.go P (.b (!ne)) h:=Ak fun k=>by cases ne<;>rfl
theorem TS {ne:Bool} {id:B} {g off fin:Nat}:H2 P (Vz vPN ne) (.p id g off fin) .p0 h N=N.go P (.b ne) h:=Ak fun k=>by cases ne<;>rfl
end
def xw (x:V) (k:V->Bool):Bool:=vI x fun _ n=>A6 n fun n=>As (Nat.ble n 127) fun _=>k (.s 1 n)
theorem iw {P:Program} {t:F} {h:H} {N:Nx} (x:O):OR P (MK x) t h N=H1 P xw (oV x t) h N:=Bc fun cf k=>by simp only[MK,AV];rfl
theorem Vt {k:Nat} (h:k<256):V.s 1 k=sv [UInt8.ofNat k]:=by
 unfold sv
 have:(UInt8.ofNat k).toNat=k:=by simp;omega
 simp[pk,this]
theorem Y2 {P:Program} {h:H} {N:Nx} {kd:IntKind} {a:Int} (ha:0<=a) (hb:a<=127):H1 P xw (.i kd a) h N=N.go P (sv [UInt8.ofNat a.toNat]) h:=Ak fun k=>by
 show A6 a _=_
 have e:Nat.ble a.toNat 127=true:=by rw[Nat.ble_eq];omega
 rw[DA ha,e,AH,Vt (by omega)]
def LD (P:Program) (v:V) (h:H) (N:Nx):Prop:=HV P (fun k=>vP v fun id g off fin=>DI h id g off fin k) h N
def LA (P:Program) (size:Nat) (v:V) (h:H) (N:Nx):Prop:=HV P (fun k=>vP v fun id g off fin=>Br h id g off fin size fun vs=>k (.a vs)) h N
def L1 (P:Program) (id:B) (g off fin:Nat) (h:H) (N:Nx):Prop:=HV P (DI h id g off fin) h N
def LN (P:Program) (id:B) (g off fin size:Nat) (h:H) (N:Nx):Prop:=HV P (fun k=>Br h id g off fin size fun vs=>k (.a vs)) h N
def BS (P:Program) (v:V) (h:H) (N:Nx):Prop:=HV P (TQ h v) h N
section
variable {P:Program} {t:F} {h:H} {N:Nx} {o x:O} {id:B} {g off fin size:Nat}
theorem WV:OR P (AK o) t h N=LD P (oV o t) h N:=Bc fun cf k=>YC ..
theorem Sv:OR P (Aa size o) t h N=LA P size (oV o t) h N:=Bc fun cf k=>VM ..
theorem Uw:OR P (Hi x) t h N=BS P (oV x t) h N:=Bc fun cf k=>nB ..
theorem ACk:LD P (.p id g off fin) h N=L1 P id g off fin h N:=rfl
theorem ADi:LA P size (.p id g off fin) h N=LN P id g off fin size h N:=rfl
theorem ay {h:H} (k:V->Bool):DI (Au h) id g off fin k=DI h id g off fin k:=by cases h;rfl
section
variable {n:Nat} {l:List CO} {K:F->H->Prop} {v:V}
theorem ABD:L1 P id g off fin (Au h) (.u n l t h K)=L1 P id g off fin h (.d n l t K):=by
 unfold L1 HV
 simp only[ay,SY,WI,EG]
theorem vR:LN P id g off fin size (Au h) (.u n l t h K)=LN P id g off fin size h (.d n l t K):=by
 have e:∀ k:List V->Bool,Br (Au h) id g off fin size k=Br h id g off fin size k:=fun k=>by cases h;rfl
 unfold LN HV
 simp only[e,SY,WI,EG]
theorem pE:BS P v (Au h) (.u n l t h K)=BS P v h (.d n l t K):=by
 have e:TQ (Au h) v=TQ h v:=by cases h;rfl
 unfold BS HV
 simp only[e,SY,WI,EG]
end
theorem Row.l1 {xs:List V} (r:Row h id g 0 xs) (hi:off<xs.length) (hf:off<fin):L1 P id g off fin h N=N.go P (xs.getD off .u) h:=Ak fun k=>
 GN (by have:=r.2 off (xs.getD off .u) (by simp[hi]);rwa [Nat.zero_add]at this) hf k
theorem GY.ln {h0:H} {v:V} {xs:List V} (a:GY h0 v xs):H1 P NR v h N=N.go P (.i .i64 (xs.length:Int)) h:=Ak fun k=>by unfold NR;rw[a.len]
theorem GY.ld {v:V} {xs:List V} {i:Nat} (a:GY h v xs) (hi:i<xs.length):L1 P (GV v) (lg v) (Ct v+i) (Cv v) h N=N.go P (xs.getD i .u) h:=Ak fun k=>Fm a (by simp[hi]) k
theorem Il.ln {h0:H} {v:V} {xs:List Int} (a:Il h0 v xs):H1 P NR v h N=N.go P (.i .i64 (xs.length:Int)) h:=by rw[GY.ln a,List.length_map]
theorem Il.ix {h0:H} {v:V} {xs:List Int} {i:Nat} (a:Il h0 v xs) (hi:i<xs.length):IX P 1 v i h N=N.go P (.p (GV v) (lg v) (Ct v+i) (Cv v)) h:=Ak fun k=>a.idx hi k
theorem Il.ld {v:V} {xs:List Int} {i:Nat} (a:Il h v xs) (hi:i<xs.length):L1 P (GV v) (lg v) (Ct v+i) (Cv v) h N=N.go P (.i .i64 (xs.getD i 0)) h:=Ak fun k=>a.rd hi k
theorem Bl.ld {v:V} {xs:List Bool} {i:Nat} (a:Bl h v xs) (hi:i<xs.length):L1 P (GV v) (lg v) (Ct v+i) (Cv v) h N=N.go P (.b (xs.getD i false)) h:=Ak fun k=>a.rd hi k
/--a slice of texts -/
def Tl (h:H) (v:V) (xs:List (List UInt8)):Prop:=GY h v (xs.map sv)
theorem Tl.grow {h h':H} {v:V} {xs:List (List UInt8)} (a:Tl h v xs) (s:AW AN h h'):Tl h' v xs:=GY.grow a s
theorem Tl.ld {v:V} {xs:List (List UInt8)} {i:Nat} (a:Tl h v xs) (hi:i<xs.length):L1 P (GV v) (lg v) (Ct v+i) (Cv v) h N=N.go P (sv (xs.getD i [])) h:=Ak fun k=>Fm a (by simp[hi]) k
theorem GY.bs {v:V} {l:List UInt8} (a:GY h v (l.map bv)) (hne:l≠[]):BS P v h N=N.go P (sv l) h:=Ak fun k=>WS a hne k
end
def Ms (ks:List KD) (ne:Bool) (x y:V) (k:V->Bool):Bool:=vA x fun xs=>vA y fun ys=>NW ks xs ys fun r=>k (.b (xor ne r))
section
variable {P:Program} {t:F} {h:H} {N:Nx} {ks:List KD} {ne:Bool} {kd:IntKind}
theorem iC {x y:O}:OR P (Jb ks ne x y) t h N=H2 P (Ms ks ne) (oV x t) (oV y t) h N:=Bc fun cf k=>by simp only[Jb,AV,Cb];rfl
theorem Ji {a b:List UInt8} {xs ys:List V} {k:Bool->Bool}:NW (.s::ks) (sv a::xs) (sv b::ys) k=if a=b then NW ks xs ys k else k false:=by
 show A4 (F6 a.length (pk a) b.length (pk b)) (fun _=>(fun r=>A4 r (fun _=>NW ks xs ys k) (fun _=>k false)) true) (fun _=>(fun r=>A4 r (fun _=>NW ks xs ys k) (fun _=>k false)) false)=_
 rw[H0]
 by_cases e:a=b
 ·rw[if_pos e,decide_eq_true e];rfl
 ·rw[if_neg e,decide_eq_false e];rfl
theorem Qb {a b:Int} {xs ys:List V} {k:Bool->Bool}:NW (.i::ks) (.i kd a::xs) (.i kd b::ys) k=if a=b then NW ks xs ys k else k false:=by
 show As (CT kd kd) (fun _=>A4 (K1 a b) (fun _=>(fun r=>A4 r (fun _=>NW ks xs ys k) (fun _=>k false)) true) (fun _=>(fun r=>A4 r (fun _=>NW ks xs ys k) (fun _=>k false)) false))=_
 rw[BO,AH,Ef]
 by_cases e:a=b
 ·rw[if_pos e,show(a==b)=true by simpa using e];rfl
 ·rw[if_neg e,show(a==b)=false by simpa using e];rfl
theorem Yp {a b:Bool} {xs ys:List V} {k:Bool->Bool}:NW (.b::ks) (.b a::xs) (.b b::ys) k=if a=b then NW ks xs ys k else k false:=by
 cases a<;>cases b<;>rfl
theorem QC {xs ys:List V} {k:Bool->Bool}:NW [] xs ys k=k true:=rfl
/--an entry -/
theorem uf {a b v w:List UInt8} {n m:Int} {d e:Bool}:H2 P (Ms [.s,.i,.b,.s] ne) (.a [sv a,.i kd n,.b d,sv v]) (.a [sv b,.i kd m,.b e,sv w]) h N=N.go P (.b (xor ne (decide (a=b/\n=m/\d=e/\v=w)))) h:=Ak fun k=>by
 unfold Ms;rw[Jq,Jq]
 rw[Ji,Qb,Yp,Ji,QC]
 by_cases h1:a=b<;>by_cases h2:n=m<;>by_cases h3:d=e<;>by_cases h4:v=w<;>simp[h1,h2,h3,h4]
/--a write -/
theorem tY {a b v w:List UInt8} {d e:Bool}:H2 P (Ms [.s,.b,.s] ne) (.a [sv a,.b d,sv v]) (.a [sv b,.b e,sv w]) h N=N.go P (.b (xor ne (decide (a=b/\d=e/\v=w)))) h:=Ak fun k=>by
 unfold Ms;rw[Jq,Jq]
 rw[Ji,Yp,Ji,QC]
 by_cases h1:a=b<;>by_cases h3:d=e<;>by_cases h4:v=w<;>simp[h1,h3,h4]
/--a pair -/
theorem u7 {a b v w:List UInt8}:H2 P (Ms [.s,.s] ne) (.a [sv a,sv v]) (.a [sv b,sv w]) h N=N.go P (.b (xor ne (decide (a=b/\v=w)))) h:=Ak fun k=>by
 unfold Ms;rw[Jq,Jq]
 rw[Ji,Ji,QC]
 by_cases h1:a=b<;>by_cases h4:v=w<;>simp[h1,h4]
end
/--what comes with another memory -/
def HM (P:Program) (g:(V->H->Bool)->Bool) (N:Nx):Prop:=∃ v h',(∀ k,g k=k v h')/\N.go P v h'
theorem F3 {P:Program} {r:CW} {t:F} {h:H} {N:Nx} {g:(V->H->Bool)->Bool} (e:∀ cf k,r cf t h k=g k):OR P r t h N=HM P g N:=
 propext ⟨fun⟨v,h',⟨cf,_,c2⟩,k⟩=>⟨v,h',fun k=>(e cf k).symm.trans (c2 k),k⟩,fun⟨v,h',c,k⟩=>⟨v,h',⟨_,KI P,fun k=>(e _ k).trans (c k)⟩,k⟩⟩
theorem DZ {P:Program} {g:(V->H->Bool)->Bool} {N:Nx} {v:V} {h':H} (e:∀ k,g k=k v h') (k:N.go P v h'):HM P g N:=⟨v,h',e,k⟩
/--a new block of these cells;'mk' of its name is what comes -/
def AL (P:Program) (el:Nat) (cs:List V) (mk:B->V) (h:H) (N:Nx):Prop:=HM P (fun k=>alloc el cs h fun id h'=>k (mk id) h') N
theorem AL.own {P:Program} {el:Nat} {cs:List V} {mk:B->V} {h:H} {N:Nx} (hl:cs.length<2 ^ 37) (hf:B.val h.floor<=B.val h.next)
 (k:∀ h',AW AN h h'->B.val h'.next=B.val h.next+1->CE h' h.next cs->N.go P (mk h.next) h'):AL P el cs mk h N:=by
 obtain⟨h',a1,a2,a3,a4⟩:=JY el cs h hl hf
 exact DZ (fun k=>a1 _) (k h' a2 a4 a3)
theorem AL.Vq {P:Program} {el:Nat} {cs:List V} {mk:B->V} {h:H} {N:Nx} (hl:cs.length<2 ^ 37) (hf:B.val h.floor<=B.val h.next)
 (k:∀ h',AW AN h h'->B.val h'.next=B.val h.next+1->FT h' h.next el cs->N.go P (mk h.next) h'):AL P el cs mk h N:=by
 obtain⟨h',a1,a2,a3,Ap,b1,b2,b3,b4,b5,b6,b7⟩:=Di el cs h (by omega)
 exact DZ (fun k=>a1 _) (k h' a2 a3 ⟨Ap,b1,b3,b2,b6,b5,by rw[a2.floor];exact hf,by omega,b7⟩)
/--a list of cells,filled:then 'f' of them -/
def FL (P:Program) (ps:List Pt) (t:F) (cs:List V) (el:Option (Nat×Nat)) (h:H) (N:Nx):Prop:=match el with
 |none=>HM P (fun k=>Eh ps t cs fun ds=>k (.a ds) h) N
 |some (el,len)=>HM P (fun k=>Eh ps t cs fun ds=>alloc el ds h fun id h'=>k (.l id 0 0 len ds.length (some len)) h') N
def FP (P:Program) (off size:Nat) (v:V) (ps:List Pt) (t:F) (cs:List V) (el:Option (Nat×Nat)) (h:H) (N:Nx):Prop:=match el with
 |none=>HM P (fun k=>Ga off size (Eh ps) t cs (fun ds=>k (.a ds) h) v) N
 |some (el,len)=>HM P (fun k=>Ga off size (Eh ps) t cs (fun ds=>alloc el ds h fun id h'=>k (.l id 0 0 len ds.length (some len)) h') v) N
/--a block of one value -/
def BX (P:Program) (el:Nat) (v:V) (h:H) (N:Nx):Prop:=HM P (fun k=>As (E5 v) fun _=>alloc el (cells v) h fun id h=>k (.p id 0 0 (cells v).length) h) N
def ST (P:Program) (size:Nat) (p x:V) (h:H) (N:Nx):Prop:=HM P (fun k=>vP p fun id g off fin=>As (Nat.beq (cells x).length size) fun _=>store h id g off fin (cells x) fun h=>k (.tu []) h) N
def MS (P:Program) (el:Nat) (z:List V) (l c:V) (h:H) (N:Nx):Prop:=HM P (fun k=>vI l fun _ l=>A6 l fun l=>vI c fun _ c=>A6 c fun c=>As (Nat.ble l c) fun _=>As (Nat.ble c 1048576) fun _=>alloc el (Dq z c) h fun id h=>k (.l id 0 0 l (Nat.mul c z.length) (some c)) h) N
def AP (P:Program) (el size:Nat) (s x:V) (h:H) (N:Nx):Prop:=HM P (fun k=>Dd size x h fun n vs=>Ci el size s n vs h k) N
def AS (P:Program) (el:Nat) (s x:V) (h:H) (N:Nx):Prop:=HM P (fun k=>Ep x fun n vs=>Ci el 1 s n vs h k) N
def CP (P:Program) (size:Nat) (x y:V) (h:H) (N:Nx):Prop:=HM P (fun k=>vL x (fun _=>QJ y (k (.i .i64 (.ofNat 0)) h)) fun id g off len fin _=>Kh size y h k id g off len fin) N
def SB (P:Program) (el:Nat) (x:V) (h:H) (N:Nx):Prop:=HM P (fun k=>vS x fun l n=>As (Nat.ble l 1048576) fun _=>LM l n [] fun vs=>alloc el vs h fun id h=>Kb h id fun h=>k (.l id 0 0 l l (Hz l)) h) N
section
variable {P:Program} {t:F} {h:H} {N:Nx} {o x y l c s:O} {el len size:Nat} {z:List V} {ps:List Pt}
theorem Su:OR P (Bj el z) t h N=AL P el z (fun id=>.p id 0 0 z.length) h N:=F3 fun cf k=>rfl
theorem jc:OR P (Cd el o) t h N=BX P el (oV o t) h N:=F3 fun cf k=>by simp only[Cd,Av]
theorem La:OR P (A8 el len z ps) t h N=FL P ps t z (some (el,len)) h N:=F3 fun cf k=>rfl
theorem Uq:OR P (De z ps) t h N=FL P ps t z none h N:=F3 fun cf k=>rfl
theorem S6:OR P (Ad size o x) t h N=ST P size (oV o t) (oV x t) h N:=F3 fun cf k=>by simp only[Ad,AV,Av]
theorem M0:OR P (Dh el z l c) t h N=MS P el z (oV l t) (oV c t) h N:=F3 fun cf k=>by
 have no:∀ u:V,(vI u fun _ n=>A6 n fun _=>false)=false:=no1
 simp only[Dh,AV]
theorem or_append:OR P (BZ el size s x) t h N=AP P el size (oV s t) (oV x t) h N:=F3 fun cf k=>by simp only[BZ,Av]
theorem PI:OR P (Ey el s x) t h N=AS P el (oV s t) (oV x t) h N:=F3 fun cf k=>by simp only[Ey,Av]
/--the whole of a text,copied into bytes -/
def CPS (P:Program) (x y:V) (h:H) (N:Nx):Prop:=HM P (fun k=>vL x (fun _=>false) fun id g off len fin _=>H7 len (fun _=>false) fun _=>HH y h k id g off len fin) N
theorem UM {P:Program} {x y:O} {t:F} {h:H} {N:Nx}:OR P (HJ x y) t h N=CPS P (oV x t) (oV y t) h N:=F3 fun cf k=>by simp only[HJ,Av]
theorem YF:OR P (FC size x y) t h N=CP P size (oV x t) (oV y t) h N:=F3 fun cf k=>by simp only[FC,Av]
theorem fE:OR P (Ip el x) t h N=SB P el (oV x t) h N:=F3 fun cf k=>by simp only[Ip,AV]
theorem ADA:FL P [] t z none h N=N.go P (.a z) h:=propext ⟨fun⟨v,h',e,k⟩=>by obtain⟨rfl,rfl⟩:=Vk e;exact k,fun k=>⟨_,_,fun _=>rfl,k⟩⟩
theorem ADJ:FL P [] t z (some (el,len)) h N=AL P el z (fun id=>.l id 0 0 len z.length (some len)) h N:=rfl
theorem ACx {e:Option (Nat×Nat)} {off size:Nat}:FL P (Pt.mk off size o::ps) t z e h N=FP P off size (oV o t) ps t z e h N:=by
 have e0:∀ k,Eh (⟨off,size,o⟩::ps) t z k=Ga off size (Eh ps) t z k (oV o t):=fun k=>by show oK o t _=_;rw[Av];rfl
 unfold FL FP
 simp only[e0]
theorem Yg {e:Option (Nat×Nat)} {off size:Nat} {v:V} {cs:List V} (hk:E5 v=true) (hc:cells v=cs) (hs:cs.length=size) (hb:off+size<=z.length):FP P off size v ps t z e h N=FL P ps t (z.take off++(cs++z.drop (off+size))) e h N:=by
 have e0:∀ k,Ga off size (Eh ps) t z k v=Eh ps t (z.take off++(cs++z.drop (off+size))) k:=fun k=>by
  have h1:Nat.beq (cells v).length size=true:=by rw[hc,hs];exact Nat.beq_refl _
  have h2:Nat.ble (Nat.add off size) z.length=true:=by rw[Nat.ble_eq];exact hb
  unfold Ga
  rw[hk,AH,h1,AH,h2,AH,hc]
  unfold putAt
  rw[Ds,Ds,hs]
 unfold FP FL
 simp only[e0]
section
variable {e:Option (Nat×Nat)} {off:Nat}
def Xx (P:Program) (off size:Nat) (v:V) (ps:List Pt) (t:F) (cs:List V) (el:Option (Nat×Nat)) (h:H) (N:Nx):Prop:=FP P off size v ps t cs el h N
theorem MF {size:Nat} {v:V} {cs:List V} (hk:E5 v=true) (hc:cells v=cs) (hs:cs.length=size):FP P off size v ps t z e h N=if off+size<=z.length then FL P ps t (z.take off++(cs++z.drop (off+size))) e h N else Xx P off size v ps t z e h N:=by
 split
 ·rename_i hb;exact Yg hk hc hs hb
 ·rfl
theorem ADD {kd:IntKind} {a:Int}:FP P off 1 (.i kd a) ps t z e h N=if off+1<=z.length then FL P ps t (z.take off++(.i kd a::z.drop (off+1))) e h N else Xx P off 1 (.i kd a) ps t z e h N:=MF (cs:=[.i kd a]) rfl rfl rfl
theorem ADQ {q:Bool}:FP P off 1 (.b q) ps t z e h N=if off+1<=z.length then FL P ps t (z.take off++(.b q::z.drop (off+1))) e h N else Xx P off 1 (.b q) ps t z e h N:=MF (cs:=[.b q]) rfl rfl rfl
theorem zJ {s:List UInt8}:FP P off 1 (sv s) ps t z e h N=if off+1<=z.length then FL P ps t (z.take off++(sv s::z.drop (off+1))) e h N else Xx P off 1 (sv s) ps t z e h N:=MF (cs:=[sv s]) rfl rfl rfl
theorem ACz {id:B} {g o fin:Nat}:FP P off 1 (.p id g o fin) ps t z e h N=if off+1<=z.length then FL P ps t (z.take off++(.p id g o fin::z.drop (off+1))) e h N else Xx P off 1 (.p id g o fin) ps t z e h N:=MF (cs:=[.p id g o fin]) rfl rfl rfl
theorem z7 {id:B} {g o len fin:Nat} {cap:Option Nat}:FP P off 1 (.l id g o len fin cap) ps t z e h N=if off+1<=z.length then FL P ps t (z.take off++(.l id g o len fin cap::z.drop (off+1))) e h N else Xx P off 1 (.l id g o len fin cap) ps t z e h N:=MF (cs:=[.l id g o len fin cap]) rfl rfl rfl
theorem Yd:FP P off 1 .l0 ps t z e h N=if off+1<=z.length then FL P ps t (z.take off++(.l0::z.drop (off+1))) e h N else Xx P off 1 .l0 ps t z e h N:=MF (cs:=[.l0]) rfl rfl rfl
theorem ADX {size:Nat} {cs:List V}:FP P off size (.a cs) ps t z e h N=if cs.length=size/\off+size<=z.length then FL P ps t (z.take off++(cs++z.drop (off+size))) e h N else Xx P off size (.a cs) ps t z e h N:=by
 split
 ·rename_i hb;exact Yg rfl rfl hb.1 hb.2
 ·rfl
end
theorem ADT {kd:IntKind} {a:Int}:BX P el (.i kd a) h N=AL P el [.i kd a] (fun id=>.p id 0 0 1) h N:=rfl
theorem AC3 {q:Bool}:BX P el (.b q) h N=AL P el [.b q] (fun id=>.p id 0 0 1) h N:=rfl
theorem AAz {s:List UInt8}:BX P el (sv s) h N=AL P el [sv s] (fun id=>.p id 0 0 1) h N:=rfl
theorem ADh {cs:List V}:BX P el (.a cs) h N=AL P el cs (fun id=>.p id 0 0 cs.length) h N:=rfl
theorem ADB {id:B} {g o fin:Nat}:BX P el (.p id g o fin) h N=AL P el [.p id g o fin] (fun id=>.p id 0 0 1) h N:=rfl
theorem ACt {id:B} {g o len fin:Nat} {cap:Option Nat}:BX P el (.l id g o len fin cap) h N=AL P el [.l id g o len fin cap] (fun id=>.p id 0 0 1) h N:=rfl
theorem xU:BX P el .l0 h N=AL P el [.l0] (fun id=>.p id 0 0 1) h N:=rfl
theorem ADF {kd kd':IntKind} {a b:Int} (h1:0<=a) (h2:a<=b) (h3:b<=1048576):MS P el z (.i kd a) (.i kd' b) h N=AL P el (Dq z b.toNat) (fun id=>.l id 0 0 a.toNat (b.toNat*z.length) (some b.toNat)) h N:=by
 have e1:Nat.ble a.toNat b.toNat=true:=by rw[Nat.ble_eq];omega
 have e2:Nat.ble b.toNat 1048576=true:=by rw[Nat.ble_eq];omega
 have e:∀ k:V->H->Bool,(vI (.i kd a) fun _ l=>A6 l fun l=>vI (.i kd' b) fun _ c=>A6 c fun c=>As (Nat.ble l c) fun _=>As (Nat.ble c 1048576) fun _=>alloc el (Dq z c) h fun id h=>k (.l id 0 0 l (Nat.mul c z.length) (some c)) h)=
  alloc el (Dq z b.toNat) h fun id h=>k (.l id 0 0 a.toNat (b.toNat*z.length) (some b.toNat)) h:=fun k=>by
  simp only[Cx,DA h1,DA (Int.le_trans h1 h2),e1,e2,AH];rfl
 unfold MS AL
 simp only[e]
end
section
variable {P:Program} {h:H} {N:Nx} {id:B} {xs:List V} {j fin:Nat} {x y:V}
/--at one place written -/
theorem ST.own (o:CE h id xs) (hc:cells x=[y]) (h1:ES y=true) (hj:j<fin) (hfit:j<2 ^ 37) (k:∀ h',CE h' id (xs.set j y)->AW (fun i=>i=id) h h'->N.go P (.tu []) h'):ST P 1 (.p id 0 j fin) x h N:=by
 obtain⟨h',a1,a2,a3⟩:=I7 o hj hfit h1
 refine DZ (v:=.tu []) (h':=h') (fun k=>?_) (k h' a2 a3)
 show As (Nat.beq (cells x).length 1) (fun _=>store h id 0 j fin (cells x) fun h=>k (.tu []) h)=_
 rw[hc]
 show store h id 0 j fin [y] (fun h=>k (.tu []) h)=_
 rw[a1]
theorem ST.buf {el:Nat} {v:V} (b:FU h el 1 v xs) (tp:O0 h v) (hc:cells x=[y]) (h1:ES y=true) (hj:j<xs.length) (hfit:j<2 ^ 37) (k:∀ h',FU h' el 1 v (xs.set j y)->O0 h' v->AW (Af v) h h'->N.go P (.tu []) h'):ST P 1 (.p (GV v) (lg v) (Ct v+j) (Cv v)) x h N:=by
 obtain⟨h',a1,a2,a3,a4⟩:=Sh b tp hj hfit h1
 refine DZ (v:=.tu []) (h':=h') (fun k=>?_) (k h' a2 a3 a4)
 show As (Nat.beq (cells x).length 1) (fun _=>store h _ _ _ _ (cells x) fun h=>k (.tu []) h)=_
 rw[hc]
 show store h _ _ _ _ [y] (fun h=>k (.tu []) h)=_
 rw[a1]
end
section
variable {P:Program} {t:F} {h:H} {K:F->H->Prop} {l:List CO} {N:Nx} {el n m lo:Nat} {s:O} {v y:V} {xs:List V} {id:B}
theorem AP.buf {size DN:Nat} {x:V} {vs:List V} (b:FU h el size v xs) (hx:∀ k:Nat->List V->Bool,Dd size x h k=k DN vs) (hf:B.val h.floor<=B.val h.next) (hsz:1<=size) (hn:vs.length=DN*size) (h1:Bk vs=true) (hb:xs.length+vs.length<=1048576)
 (k:∀ v' h',FU h' el size v' (xs++vs)->AW (Af v) h h'->(∀ i,Af v' i->Af v i\/B.val h.next<=B.val i)->O0 h' v'->N.go P v' h'):AP P el size v x h N:=by
 obtain⟨v',h',a1,a2,a3,a4,a5⟩:=Kr b hf hsz hn h1 hb
 exact DZ (v:=v') (h':=h') (fun k=>by rw[hx,a1]) (k v' h' a2 a3 a4 a5)
theorem J6 {size:Nat} {fin DN:Nat} {cap:Option Nat} {vs:List V} (r:Row h id 0 0 vs) (hn:vs.length=DN*size) (hc:1<=DN) (hs:1<=size) (hfin:vs.length<=fin) (k:Nat->List V->Bool):Dd size (.l id 0 0 DN fin cap) h k=k DN vs:=by
 obtain⟨c,rfl⟩:∃ c,DN=c+1:=⟨DN-1,by omega⟩
 have hne:vs≠[]:=by
  intro e;subst e
  have:=Nat.mul_le_mul hc hs
  simp at hn;omega
 show Br h id 0 0 fin (Nat.mul (c+1) size) (fun vs=>k (c+1) vs)=_
 rw[show Nat.mul (c+1) size=vs.length by rw[hn];rfl,C2 r rfl hne (by omega)]
/--append(v,y):its literal,and it -/
theorem AL.push {b:Bool} (a:Vb h lo el v xs) (e3:∀ u,oV s (put m u t)=v) (hc:cells y=[y]) (h1:ES y=true) (hf:B.val h.floor<=B.val h.next) (hlo:lo<=B.val h.next) (hl:xs.length+1<=1048576)
 (k:∀ v' h' u,Vb h' lo el v' (xs++[y])->AW (Af v) h h'->(∀ i,Af v' i->Af v i\/B.val h.next<=B.val i)->O0 h' v'->WO P l (put n v' (put m u t)) h' K):
 AL P el [y] (fun id=>.l id 0 0 1 [y].length (some 1)) h (.w m (.mk .none (.some (AX n)) b (.mk (BZ el 1 s (.t (AX m))))::l) t K):=by
 refine AL.own (by show 1<2 ^ 37;decide) hf fun h1' s1 n1 o1=>?_
 rw[T7,dC,or_append,e3,Wn,AA,if_pos rfl]
 refine AP.buf (vs:=[y]) (DN:=1) (a.buf.grow s1) (J6 o1.row rfl (Nat.le_refl _) (Nat.le_refl _) (Nat.le_refl _)) (s1.fl hf) (Nat.le_refl _) rfl (by show Bool.rec false true (ES y)=true;rw[h1]) (by show xs.length+1<=_;exact hl) fun v' h' b1 s2 hv tp=>?_
 refine k v' h' _ ⟨b1,fun i hi=>?_⟩ ⟨s2.floor.trans s1.floor,Nat.le_trans s1.next s2.next,fun id' h1' h2=>(s2.get id' (Nat.lt_of_lt_of_le h1' s1.next) h2).trans (s1.get id' h1' fun h=>h)⟩ (fun i hi=>?_) tp
 ·rcases hv i hi with h2|h2
  ·exact a.own i h2
  ·have:=s1.next;omega
 ·rcases hv i hi with h2|h2
  ·exact .inl h2
  ·exact .inr (Nat.le_trans s1.next h2)
/--string([]byte{..}) -/
theorem AL.str {b:Bool} {cs:List V} {bs:List UInt8} {len fin:Nat} {cap:Option Nat} (hc:cs=bs.map bv) (hne:bs≠[]) (e1:len=bs.length) (e2:fin=bs.length) (hl:bs.length<=1048576) (hf:B.val h.floor<=B.val h.next)
 (k:∀ h' u,AW AN h h'->WO P l (put n (sv bs) (put m u t)) h' K):AL P el cs (fun id=>.l id 0 0 len fin cap) h (.w m (.mk .none (.some (AX n)) b (.mk (Hi (.t (AX m))))::l) t K):=by
 subst hc;subst e1;subst e2
 refine AL.own (by rw[List.length_map];omega) hf fun h1' s1 n1 o1=>?_
 have hL:=o1.DT cap
 rw[List.length_map]at hL
 rw[T7,dC,Uw,Wn,AA,if_pos rfl,hL.bs hne]
 exact k _ _ s1
/--[]byte(text) -/
theorem SB.mk {c:List UInt8} (hf:B.val h.floor<=B.val h.next) (hl:c.length<=1048576)
 (k:∀ h',AW AN h h'->B.val h'.next=B.val h.next+1->GY h' (.l h.next 0 0 c.length c.length (Hz c.length)) (c.map bv)->N.go P (.l h.next 0 0 c.length c.length (Hz c.length)) h'):SB P el (sv c) h N:=by
 obtain⟨h',a1,a2,a3,a4,a5,a6⟩:=Q4 el hf hl
 have:=fun k=>a1 (.c (sv c)) F.zero (fun _ _ _ _=>false) k rfl
 refine DZ (v:=.l h.next 0 0 c.length c.length (Hz c.length)) (h':=h') (fun k=>?_) (k h' a2 a3 a5)
 have e:=this k
 simp only[Ip,AV]at e
 exact e
end
section
variable {P:Program} {t:F} {h:H} {N:Nx} {x a:O} {id:B} {n K size:Nat} {kd:IntKind} {z:Int}
theorem Ws:OR P (CV size x (some a) none) t h N=H2 P (Fv size) (oV x t) (oV a t) h N:=Bc fun cf k=>XR ..
theorem X0:OR P (CV size x none (some a)) t h N=H2 P (Fp size) (oV x t) (oV a t) h N:=Bc fun cf k=>Wr ..
def Jf (size:Nat) (v w z:V) (k:V->Bool):Bool:=vL v (fun _=>vI w fun _ n=>A6 n fun a=>vI z fun _ m=>A6 m fun b=>As (Nat.beq a 0) fun _=>As (Nat.beq b 0) fun _=>k .l0) fun id g off len fin cap=>vI w fun _ n=>A6 n fun a=>vI z fun _ m=>A6 m fun b=>As (Nat.ble a b) fun _=>
 Option.rec (fun id g off len fin a b k=>DS size id g off len fin a b fun v=>k v) (fun c id g off len fin a b k=>A4 (BU c) (fun _=>As (Nat.beq b 0) fun _=>k (.l id g off 0 off (some c))) (fun _=>BY size id g off len fin c a b fun v=>k v)) cap id g off len fin a b k
theorem X4 {cf:Bs} {k:V->H->Bool} (size:Nat) (b:O):CV size x (some a) (some b) cf t h k=Jf size (oV x t) (oV a t) (oV b t) fun v=>k v h:=by
 unfold Jf
 simp only[CV,AV,BW]
 congr 1
 funext id g off len fin cap
 congr 1;funext _ n;congr 1;funext a;congr 1;funext _ m;congr 1;funext b;congr 1;funext _
 cases cap with
 |none=>rfl
 |some c=>
  show A4 (BU c) _ _=A4 (BU c) _ _
  cases BU c<;>rfl
theorem Xy (b:O):OR P (CV size x (some a) (some b)) t h N=H3 P (Jf size) (oV x t) (oV a t) (oV b t) h N:=Bc fun cf k=>X4 ..
theorem OD {g off fin:Nat} (hK:n<18446744073709551616) (h0:0<=z) (hn:z<n):H2 P (MQ n size) (.p id g off fin) (.i kd z) h N=N.go P (.l id g (off+z.toNat*size) (n-z.toNat) fin (some (n-z.toNat))) h:=Ak fun k=>by
 show A6 z (fun p=>As (Nat.ble p n) fun _=>BY size id g off n fin n p n k)=_
 rw[DA h0,rQ (by omega),EE hK (Nat.le_refl _) (by omega)]
theorem X8 (hKM:K<18446744073709551616) (h0:0<=z) (hn:z<=K):H2 P (Fv 1) (.l id 0 0 K K (some K)) (.i kd z) h N=N.go P (S1 id K z.toNat) h:=Ak fun k=>by
 obtain⟨n,rfl⟩:=Int.eq_ofNat_of_zero_le h0
 exact T5 hKM (by omega) k
theorem WU (hKM:K<18446744073709551616) (h0:0<=z) (hn:z<=K) (hK:0<K):H2 P (Fp 1) (.l id 0 0 K K (some K)) (.i kd z) h N=N.go P (.l id 0 0 z.toNat K (some K)) h:=Ak fun k=>by
 obtain⟨n,rfl⟩:=Int.eq_ofNat_of_zero_le h0
 exact TZ hKM (by omega) hK k
end
def CL (P:Program) (f:FuncId) (vs:List V) (h:H) (N:Nx):Prop:=∃ Q,A3 P f vs h Q/\∀ v h',Q v h'->N.go P v h'
theorem CL.mk {P:Program} {f:FuncId} {vs:List V} {h:H} {N:Nx} {Q:V->H->Prop} (a:A3 P f vs h Q) (k:∀ v h',Q v h'->N.go P v h'):CL P f vs h N:=⟨Q,a,k⟩
/--.. that leaves memory alone -/
theorem CL.pure {P:Program} {f:FuncId} {vs:List V} {h:H} {N:Nx} {e:V} (a:A3 P f vs h fun y h'=>y=e/\h'=h) (k:N.go P e h):CL P f vs h N:=⟨_,a,fun v h' hq=>by rw[hq.1,hq.2];exact k⟩
/--.. that makes blocks of its own alone -/
theorem CL.stay {P:Program} {f:FuncId} {vs:List V} {h:H} {N:Nx} {e:V} (a:A3 P f vs h fun y h'=>y=e/\AW AN h h') (k:∀ h',AW AN h h'->N.go P e h'):CL P f vs h N:=⟨_,a,fun v h' hq=>by rw[hq.1];exact k h' hq.2⟩
theorem YM {P:Program} {t:F} {h:H} {N:Nx} {f:FuncId} {args:List O}:OR P (AY f args) t h N=CL P f (args.map fun o=>oV o t) h N:=by
 apply propext;constructor
 ·rintro⟨v,h',⟨cf,c1,c2⟩,k⟩
  have c3:∀ k,cf f (args.map fun o=>oV o t) h k=k v h':=fun k=>by rw[<-c2 k];show _=C5 args t (fun vs=>cf f vs h k);rw[EM]
  obtain⟨v',h'',e,r1,r2,r3⟩:=c1 f _ h (fun _ _=>true) (c3 _)
  obtain⟨rfl,rfl⟩:=Vk fun k=>(c3 k).symm.trans (e k)
  refine⟨fun v h=>v=v'/\h=h'',⟨v',h'',⟨r1,r2,r3⟩,rfl,rfl⟩,?_⟩
  rintro _ _ ⟨rfl,rfl⟩
  exact k
 ·rintro⟨Q,a,k⟩
  obtain⟨v,h',c1,c2⟩:=Ik (S:=fun _ _ _ v h'=>Q v h') a
  exact⟨v,h',⟨_,KU P _,fun k=>by show C5 args t _=_;rw[EM,c1]⟩,k v h' c2⟩
theorem iI {P:Program} {t:F} {h:H} {N:Nx} {f:FuncId} {cap:List O}:OR P (Qx f cap) t h N=N.go P (.f f (cap.map fun o=>oV o t)) h:=(Bc (g:=fun k=>k (.f f (cap.map fun o=>oV o t))) fun cf k=>by show C5 cap t _=_;rw[EM]).trans (Ak fun _=>rfl)
/--a call of a function value -/
def CLF (P:Program) (x:V) (vs:List V) (h:H) (N:Nx):Prop:=∃ f cs,x=.f f cs/\CL P f (vs++cs) h N
theorem nQ {P:Program} {f:FuncId} {cs vs:List V} {h:H} {N:Nx}:CLF P (.f f cs) vs h N=CL P f (vs++cs) h N:=propext ⟨fun⟨_,_,e,a⟩=>by cases e;exact a,fun a=>⟨_,_,rfl,a⟩⟩
theorem Tx {P:Program} {t:F} {h:H} {N:Nx} {x:O} {args:List O}:OR P (Bm x args) t h N=CLF P (oV x t) (args.map fun o=>oV o t) h N:=by
 have key:∀ f cs,oV x t=.f f cs->OR P (Bm x args) t h N=CL P f ((args.map fun o=>oV o t)++cs) h N:=fun f cs hx=>by
  have e:∀ cf k,Bm x args cf t h k=cf f ((args.map fun o=>oV o t)++cs) h k:=fun cf k=>by show oE x t _=_;rw[AV];show C5 args t _=_;rw[EM,hx,zU,NC]
  apply propext;constructor
  ·rintro⟨v,h',⟨cf,c1,c2⟩,k⟩
   have c3:∀ k,cf f ((args.map fun o=>oV o t)++cs) h k=k v h':=fun k=>(e cf k).symm.trans (c2 k)
   obtain⟨v',h'',e,r1,r2,r3⟩:=c1 f _ h (fun _ _=>true) (c3 _)
   obtain⟨rfl,rfl⟩:=Vk fun k=>(c3 k).symm.trans (e k)
   refine⟨fun v h=>v=v'/\h=h'',⟨v',h'',⟨r1,r2,r3⟩,rfl,rfl⟩,?_⟩
   rintro _ _ ⟨rfl,rfl⟩
   exact k
  ·rintro⟨Q,a,k⟩
   obtain⟨v,h',c1,c2⟩:=Ik (S:=fun _ _ _ v h'=>Q v h') a
   exact⟨v,h',⟨_,KU P _,fun k=>(e _ k).trans (c1 k)⟩,k v h' c2⟩
 apply propext;constructor
 ·intro a
  have a':=a
  obtain⟨v,h',⟨cf,c1,c2⟩,k⟩:=a'
  have:=c2 fun _ _=>true
  have h2:(oE x t fun y=>C5 args t fun vs=>vF y fun f cs=>cf f (app vs cs) h fun _ _=>true)=true:=this
  rw[AV]at h2
  have h2:(C5 args t fun vs=>vF (oV x t) fun f cs=>cf f (app vs cs) h fun _ _=>true)=true:=h2
  rw[EM]at h2
  obtain⟨f,cs,hx,_⟩:=YW h2
  exact⟨f,cs,hx,by rw[<-key f cs hx];exact a⟩
 ·rintro⟨f,cs,hx,a⟩
  rw[key f cs hx];exact a
def CD (v:V) (A B:Prop):Prop:=∃ q,v=.b q/\(q=true->A)/\(q=false->B)
theorem Ok.cd {P:Program} {nt:Nat} {o:O} {a b:CC} {t:F} {h:H} {K:X->F->H->Prop} (c:CD (oV o t) (Ok P nt a t h K) (Ok P nt b t h K)):Ok P nt (.cond o a b) t h K:=by
 obtain⟨q,hq,ha,hb⟩:=c
 exact Ok.cond hq ha hb
theorem ACl {A B:Prop}:CD (.b true) A B=A:=propext ⟨fun⟨q,hq,ha,_⟩=>by cases hq;exact ha rfl,fun a=>⟨true,rfl,fun _=>a,fun h=>by cases h⟩⟩
theorem ADb {A B:Prop}:CD (.b false) A B=B:=propext ⟨fun⟨q,hq,_,hb⟩=>by cases hq;exact hb rfl,fun b=>⟨false,rfl,fun h=>(by cases h),fun _=>b⟩⟩
theorem AD {q:Bool} {A B:Prop} (a:q=true->A) (b:q=false->B):CD (.b q) A B:=⟨q,rfl,a,b⟩
/--behind the first part:b,then K -/
def Sq (P:Program) (nt:Nat) (b:CC) (K:X->F->H->Prop):X->F->H->Prop
 |.normal,t,h=>Ok P nt b t h K
 |x,t,h=>K x t h
/--the next round -/
def ja (Inv:Nat->F->H->Prop) (m:Nat) (t:F) (h:H):Prop:=∃ m',m'<m/\Inv m' t h
def LpK (Inv:Nat->F->H->Prop) (m:Nat) (K:X->F->H->Prop):X->F->H->Prop
 |.normal,t,h=>ja Inv m t h
 |x,t,h=>K x t h
section
variable {P:Program} {nt:Nat} {a b:CC} {t:F} {h:H} {K:X->F->H->Prop} {Inv:Nat->F->H->Prop} {m j id:Nat}
theorem Ok.sq (k:Ok P nt a t h (Sq P nt b K)):Ok P nt (.seq a b) t h K:=Ok.seq (k.mono fun x t h=>by cases x<;>exact fun h=>h)
theorem ACw:Sq P nt b K .normal t h=Ok P nt b t h K:=rfl
theorem ACv:Sq P nt b K (.exit j) t h=K (.exit j) t h:=rfl
theorem ADH:Sq P nt b K .ret t h=K .ret t h:=rfl
theorem ADC:LpK Inv m K .normal t h=ja Inv m t h:=rfl
theorem ADI:LpK Inv m K (.exit j) t h=K (.exit j) t h:=rfl
theorem ADS:LpK Inv m K .ret t h=K .ret t h:=rfl
def IsI (I Inv:Nat->F->H->Prop):Prop:=I=Inv
/--a loop:the invariant,with a measure that falls -/
theorem Ok.lp (Inv:Nat->F->H->Prop) (m:Nat) (i:Inv m t h) (round:∀ I:Nat->F->H->Prop,IsI I Inv->∀ m t h,Inv m t h->Ok P nt a t h (LpK I m K)):Ok P nt (.loop a) t h K:=
 Ok.loop Inv (fun m t h hi=>(round Inv rfl m t h hi).mono fun x t h=>by cases x<;>exact fun h=>h) m t h i
theorem Ai {I:Nat->F->H->Prop} (e:IsI I Inv) (m':Nat) (hm:m'<m) (k:Inv m' t h):ja I m t h:=by have e':I=Inv:=e;subst e';exact⟨m',hm,k⟩
end
def RG (rs:List Rs) (Q:V->H->Prop):X->F->H->Prop:=fun x t' h'=>match x with
 |.exit _=>False
 |_=>∃ us,(∀ k:List V->Bool,Fa rs t' h' k=k us)/\Q (one us) h'
theorem Aw {P:Program} {f:FuncId} {nt:Nat} {cc:CC} {rs:List Rs} {vs:List V} {h:H} {Q:V->H->Prop} (hc:AZ P f=⟨nt,cc,rs⟩) (hbad:cc≠.bad) (hl1:vs.length<=nt) (hl2:vs.length<=512)
 (ok:∀ Q',Q'=Q->Ok P nt cc (Ah vs 0 F.zero) h (RG rs Q')):A3 P f vs h Q:=jk hc hbad hl1 hl2 (ok Q rfl)
section
variable {Q:V->H->Prop} {t:F} {h:H} {n m p q:Nat}
theorem LC {rs:List Rs} {us:List V} (e:∀ k:List V->Bool,Fa rs t h k=k us):RG rs Q .ret t h=Q (one us) h:=
 propext ⟨fun⟨vs,e',k⟩=>by have:=mw fun k=>(e k).symm.trans (e' k);subst this;exact k,fun k=>⟨us,e,k⟩⟩
theorem tz {rs:List Rs}:RG rs Q .normal t h=RG rs Q .ret t h:=rfl
theorem ze:RG [] Q .ret t h=Q (.tu []) h:=LC (us:=[]) fun k=>rfl
theorem uN:RG [Rs.tmp (AX n)] Q .ret t h=Q (get n t) h:=LC (us:=[_]) fun k=>ur ..
theorem AAN:RG [Rs.tmp (AX n),Rs.tmp (AX m)] Q .ret t h=Q (.tu [get n t,get m t]) h:=LC (us:=[_,_]) fun k=>yH ..
theorem ABC:RG [Rs.tmp (AX n),Rs.tmp (AX m),Rs.tmp (AX p)] Q .ret t h=Q (.tu [get n t,get m t,get p t]) h:=LC (us:=[_,_,_]) fun k=>ACO ..
theorem xW:RG [Rs.tmp (AX n),Rs.tmp (AX m),Rs.tmp (AX p),Rs.tmp (AX q)] Q .ret t h=Q (.tu [get n t,get m t,get p t,get q t]) h:=LC (us:=[_,_,_,_]) fun k=>by
 show Bt (Bx (AX n) t) (fun v=>Bt (Bx (AX m) t) fun u=>Bt (Bx (AX p) t) fun w=>Bt (Bx (AX q) t) fun z=>k [v,u,w,z])=_
 rw[BH,BH,BH,BH];rfl
end
/--results,the first out of a box -/
def RA (Q:V->H->Prop) (size:Nat) (v:V) (us:List V) (h:H):Prop:=∃ vs,(∀ k:List V->Bool,(vP v fun id g off fin=>Br h id g off fin size k)=k vs)/\Q (one (.a vs::us)) h
section
variable {Q:V->H->Prop} {t:F} {h:H} {n m p q size:Nat}
theorem Te {rs:List Rs} {us:List V} (e:∀ (k:List V->Bool),(rsK (Rs.Jm (AX n) size) t h fun w=>Fa rs t h fun vs=>k (w::vs))=vP (get n t) fun id g off fin=>Br h id g off fin size fun vs=>k (.a vs::us)):RG (Rs.Jm (AX n) size::rs) Q .ret t h=RA Q size (get n t) us h:=by
 refine propext ⟨fun⟨ws,e',k⟩=>?_,fun⟨vs,e',k⟩=>⟨.a vs::us,fun k=>?_,k⟩⟩
 ·have e2:=fun k=>(e k).symm.trans (e' k)
  have e3:=e2 (fun zs=>true)
  obtain⟨id,g,off,fin,hp⟩:∃ id g off fin,get n t=.p id g off fin:=by
   revert e3
   cases get n t<;>intro e3<;>first|exact⟨_,_,_,_,rfl⟩|exact Bool.noConfusion e3
  rw[hp]at e2⊢
  have e4:∀ k:List V->Bool,Br h id g off fin size (fun vs=>k (.a vs::us))=k ws:=e2
  obtain⟨vs,hv,_⟩:=EY (h:=h) (id:=id) (g:=g) (off:=off) (fin:=fin) (n:=size) (k:=fun _=>true) (e4 fun _=>true)
  have:ws=.a vs::us:=mw fun k=>by rw[<-e4 k,hv]
  subst this
  exact⟨vs,hv,k⟩
 ·have:=e' fun vs=>k (.a vs::us)
  rw[<-this];exact e k
theorem dT:RG [Rs.Jm (AX n) size] Q .ret t h=RA Q size (get n t) [] h:=Te fun k=>rfl
theorem me:RG [Rs.Jm (AX n) size,Rs.tmp (AX m)] Q .ret t h=RA Q size (get n t) [get m t] h:=Te fun k=>by
 show(vP (get n t) fun id g off fin=>Br h id g off fin size fun vs=>Bt (get m t) fun v=>k [.a vs,v])=_
 simp only[BH]
theorem de:RG [Rs.Jm (AX n) size,Rs.tmp (AX m),Rs.tmp (AX p)] Q .ret t h=RA Q size (get n t) [get m t,get p t] h:=Te fun k=>by
 show(vP (get n t) fun id g off fin=>Br h id g off fin size fun vs=>Bt (get m t) fun v=>Bt (get p t) fun u=>k [.a vs,v,u])=_
 simp only[BH]
theorem CE.ra {id:B} {xs us:List V} {fin:Nat} (o:CE h id xs) (hs:xs.length=size) (h1:1<=size) (hf:size<=fin):RA Q size (.p id 0 0 fin) us h=Q (one (.a xs::us)) h:=by
 have e:∀ k:List V->Bool,Br h id 0 0 fin size k=k xs:=fun k=>C2 o.row hs (by intro e;subst e;simp at hs;omega) (by omega) k
 refine propext ⟨fun⟨vs,e',k⟩=>?_,fun k=>⟨xs,e,k⟩⟩
 have:vs=xs:=mw fun k=>(e k).symm.trans (e' k)
 subst this;exact k
end
theorem z8:one []=.tu []:=rfl
theorem wrap_u8 {n:Int} (h1:0<=n) (h2:n<=255):IntKind.u8.wrap n=n:=by
 simp only[IntKind.wrap,IntKind.bits,IntKind.signed];simp;omega
theorem wrap_u16 {n:Int} (h1:0<=n) (h2:n<=65535):IntKind.u16.wrap n=n:=by
 simp only[IntKind.wrap,IntKind.bits,IntKind.signed];simp;omega
theorem wrap_u32 {n:Int} (h1:0<=n) (h2:n<=4294967295):IntKind.u32.wrap n=n:=by
 simp only[IntKind.wrap,IntKind.bits,IntKind.signed];simp;omega
theorem wrap_u64 {n:Int} (h1:0<=n) (h2:n<=18446744073709551615):IntKind.u64.wrap n=n:=by
 simp only[IntKind.wrap,IntKind.bits,IntKind.signed];simp;omega
theorem wrap_i32 {n:Int} (h1: -2147483648<=n) (h2:n<=2147483647):IntKind.i32.wrap n=n:=by
 simp only[IntKind.wrap,IntKind.bits,IntKind.signed];simp;omega
theorem Nw {n:Int}:IntKind.u8.wrap n=n%256:=by
 simp only[IntKind.wrap,IntKind.bits,IntKind.signed];simp
theorem SQ (c:UInt8):IntKind.i64.wrap (c.toNat:Int)=(c.toNat:Int):=wrap_i64 (by omega) (by have:=c.toNat_lt;omega)
theorem Vg (c:UInt8):IntKind.u8.wrap (c.toNat:Int)=(c.toNat:Int):=wrap_u8 (by omega) (by have:=c.toNat_lt;omega)
theorem Sc (c:UInt8):IntKind.u16.wrap (c.toNat:Int)=(c.toNat:Int):=wrap_u16 (by omega) (by have:=c.toNat_lt;omega)
theorem Sj (c:UInt8):IntKind.u32.wrap (c.toNat:Int)=(c.toNat:Int):=wrap_u32 (by omega) (by have:=c.toNat_lt;omega)
theorem RQ (c:UInt8):IntKind.u64.wrap (c.toNat:Int)=(c.toNat:Int):=wrap_u64 (by omega) (by have:=c.toNat_lt;omega)
theorem VD:IntKind.bits .i64=64:=rfl
theorem VW:IntKind.bits .u64=64:=rfl
theorem TO:IntKind.bits .u32=32:=rfl
theorem Ud:IntKind.bits .u16=16:=rfl
theorem WM:IntKind.bits .u8=8:=rfl
theorem Vf:IntKind.bits .i32=32:=rfl
end Go.Ev
set_option maxRecDepth 10000
namespace Go.Ev
open Go
section
variable {P:Program} {h:H} {N:Nx} {a b:Int}
theorem P0 (ha:0<=a) (ha2:a<=9223372036854775807) (hb:0<=b) (hb2:b<=9223372036854775807):H2 P (DK Oe) (.i .i64 a) (.i .i64 b) h N=N.go P (.i .i64 ((a.toNat&&&b.toNat:Nat):Int)) h:=K6 (m:=9223372036854775807) rfl ha ha2 hb hb2
theorem Rv (ha:0<=a) (ha2:a<=255) (hb:0<=b) (hb2:b<=255):H2 P (DK Oe) (.i .u8 a) (.i .u8 b) h N=N.go P (.i .u8 ((a.toNat&&&b.toNat:Nat):Int)) h:=K6 (m:=255) rfl ha ha2 hb hb2
theorem PT (ha:0<=a) (ha2:a<=65535) (hb:0<=b) (hb2:b<=65535):H2 P (DK Oe) (.i .u16 a) (.i .u16 b) h N=N.go P (.i .u16 ((a.toNat&&&b.toNat:Nat):Int)) h:=K6 (m:=65535) rfl ha ha2 hb hb2
theorem Pw (ha:0<=a) (ha2:a<=4294967295) (hb:0<=b) (hb2:b<=4294967295):H2 P (DK Oe) (.i .u32 a) (.i .u32 b) h N=N.go P (.i .u32 ((a.toNat&&&b.toNat:Nat):Int)) h:=K6 (m:=4294967295) rfl ha ha2 hb hb2
theorem P2 (ha:0<=a) (ha2:a<=18446744073709551615) (hb:0<=b) (hb2:b<=18446744073709551615):H2 P (DK Oe) (.i .u64 a) (.i .u64 b) h N=N.go P (.i .u64 ((a.toNat&&&b.toNat:Nat):Int)) h:=K6 (m:=18446744073709551615) rfl ha ha2 hb hb2
theorem SV (ha:0<=a) (ha2:a<=9223372036854775807) (hb:0<=b) (hb2:b<=9223372036854775807):H2 P (DK XI) (.i .i64 a) (.i .i64 b) h N=N.go P (.i .i64 ((a.toNat|||b.toNat:Nat):Int)) h:=Ni (m:=9223372036854775807) rfl ha ha2 hb hb2
theorem Tq (ha:0<=a) (ha2:a<=255) (hb:0<=b) (hb2:b<=255):H2 P (DK XI) (.i .u8 a) (.i .u8 b) h N=N.go P (.i .u8 ((a.toNat|||b.toNat:Nat):Int)) h:=Ni (m:=255) rfl ha ha2 hb hb2
theorem RW (ha:0<=a) (ha2:a<=65535) (hb:0<=b) (hb2:b<=65535):H2 P (DK XI) (.i .u16 a) (.i .u16 b) h N=N.go P (.i .u16 ((a.toNat|||b.toNat:Nat):Int)) h:=Ni (m:=65535) rfl ha ha2 hb hb2
theorem Q6 (ha:0<=a) (ha2:a<=4294967295) (hb:0<=b) (hb2:b<=4294967295):H2 P (DK XI) (.i .u32 a) (.i .u32 b) h N=N.go P (.i .u32 ((a.toNat|||b.toNat:Nat):Int)) h:=Ni (m:=4294967295) rfl ha ha2 hb hb2
theorem Rn (ha:0<=a) (ha2:a<=18446744073709551615) (hb:0<=b) (hb2:b<=18446744073709551615):H2 P (DK XI) (.i .u64 a) (.i .u64 b) h N=N.go P (.i .u64 ((a.toNat|||b.toNat:Nat):Int)) h:=Ni (m:=18446744073709551615) rfl ha ha2 hb hb2
theorem Py (ha:0<=a) (ha2:a<=9223372036854775807) (hb:0<=b) (hb2:b<=9223372036854775807):H2 P (DK LX) (.i .i64 a) (.i .i64 b) h N=N.go P (.i .i64 ((a.toNat ^^^ b.toNat:Nat):Int)) h:=Kt (m:=9223372036854775807) rfl ha ha2 hb hb2
theorem Re (ha:0<=a) (ha2:a<=255) (hb:0<=b) (hb2:b<=255):H2 P (DK LX) (.i .u8 a) (.i .u8 b) h N=N.go P (.i .u8 ((a.toNat ^^^ b.toNat:Nat):Int)) h:=Kt (m:=255) rfl ha ha2 hb hb2
theorem PX (ha:0<=a) (ha2:a<=65535) (hb:0<=b) (hb2:b<=65535):H2 P (DK LX) (.i .u16 a) (.i .u16 b) h N=N.go P (.i .u16 ((a.toNat ^^^ b.toNat:Nat):Int)) h:=Kt (m:=65535) rfl ha ha2 hb hb2
theorem PW (ha:0<=a) (ha2:a<=4294967295) (hb:0<=b) (hb2:b<=4294967295):H2 P (DK LX) (.i .u32 a) (.i .u32 b) h N=N.go P (.i .u32 ((a.toNat ^^^ b.toNat:Nat):Int)) h:=Kt (m:=4294967295) rfl ha ha2 hb hb2
theorem PF (ha:0<=a) (ha2:a<=18446744073709551615) (hb:0<=b) (hb2:b<=18446744073709551615):H2 P (DK LX) (.i .u64 a) (.i .u64 b) h N=N.go P (.i .u64 ((a.toNat ^^^ b.toNat:Nat):Int)) h:=Kt (m:=18446744073709551615) rfl ha ha2 hb hb2
theorem Pd (ha:0<=a) (ha2:a<=9223372036854775807) (hb:0<=b) (hb2:b<=9223372036854775807):H2 P (DK Ps) (.i .i64 a) (.i .i64 b) h N=N.go P (.i .i64 ((a.toNat ^^^ (a.toNat&&&b.toNat):Nat):Int)) h:=KX (m:=9223372036854775807) rfl ha ha2 hb hb2
theorem Ro (ha:0<=a) (ha2:a<=255) (hb:0<=b) (hb2:b<=255):H2 P (DK Ps) (.i .u8 a) (.i .u8 b) h N=N.go P (.i .u8 ((a.toNat ^^^ (a.toNat&&&b.toNat):Nat):Int)) h:=KX (m:=255) rfl ha ha2 hb hb2
theorem Pm (ha:0<=a) (ha2:a<=65535) (hb:0<=b) (hb2:b<=65535):H2 P (DK Ps) (.i .u16 a) (.i .u16 b) h N=N.go P (.i .u16 ((a.toNat ^^^ (a.toNat&&&b.toNat):Nat):Int)) h:=KX (m:=65535) rfl ha ha2 hb hb2
theorem PM (ha:0<=a) (ha2:a<=4294967295) (hb:0<=b) (hb2:b<=4294967295):H2 P (DK Ps) (.i .u32 a) (.i .u32 b) h N=N.go P (.i .u32 ((a.toNat ^^^ (a.toNat&&&b.toNat):Nat):Int)) h:=KX (m:=4294967295) rfl ha ha2 hb hb2
theorem O6 (ha:0<=a) (ha2:a<=18446744073709551615) (hb:0<=b) (hb2:b<=18446744073709551615):H2 P (DK Ps) (.i .u64 a) (.i .u64 b) h N=N.go P (.i .u64 ((a.toNat ^^^ (a.toNat&&&b.toNat):Nat):Int)) h:=KX (m:=18446744073709551615) rfl ha ha2 hb hb2
end
theorem Wl (x y:V):cond true x y=x:=rfl
theorem XO (x y:V):cond false x y=y:=rfl
theorem kj (f:O->V) (o:O) (os:List O):List.map f (o::os)=f o::List.map f os:=rfl
theorem aX (f:O->V):List.map f []=[]:=rfl
theorem fK (a:V) (l:List V):(a::l).length=l.length+1:=rfl
theorem kp:([]:List V).length=0:=rfl
theorem Xc (l:List V):l.take 0=[]:=rfl
theorem X6 (n:Nat) (a:V) (l:List V):(a::l).take (n+1)=a::l.take n:=rfl
theorem Xb (l:List V):l.drop 0=l:=rfl
theorem Xp (n:Nat) (a:V) (l:List V):(a::l).drop (n+1)=l.drop n:=rfl
theorem mz (l:List V):[]++l=l:=rfl
theorem jv (a:V) (l m:List V):(a::l)++m=a::(l++m):=rfl
theorem XY (a:V) (l:List V) (d:V):(a::l).getD 0 d=a:=rfl
theorem WZ (n:Nat) (a:V) (l:List V) (d:V):(a::l).getD (n+1) d=l.getD n d:=by simp[List.getD]
theorem cZ (a b:V) (l:List V):(a::l).set 0 b=b::l:=rfl
theorem lW (n:Nat) (a b:V) (l:List V):(a::l).set (n+1) b=a::l.set n b:=rfl
theorem cx (b:Bool):(b==b)=true:=by cases b<;>rfl
theorem mi (b:Bool):(b !=b)=false:=by cases b<;>rfl
def AJ:=And.intro @xt (And.intro @zZ (And.intro @uz (And.intro @AAh (And.intro @tg (And.intro @NH (And.intro @kJ (And.intro @dC (And.intro @ADV (And.intro @ADc (And.intro @tl (And.intro @ACy (And.intro @ACh (And.intro @ACq (And.intro @ADN (And.intro @AAl (And.intro @yh (And.intro @T7 (And.intro @Yn (And.intro @WI (And.intro @pc (And.intro @SY (And.intro @wK (And.intro @yp (And.intro @ACW (And.intro @sE (And.intro @xk (And.intro @xc (And.intro @EG (And.intro @Xi (And.intro @Xz (And.intro @mN (And.intro @UR (And.intro @j6 (And.intro @YK (And.intro @kc (And.intro @lX (And.intro @XL (And.intro @jD (And.intro @Wh (And.intro @jG (And.intro @Z2 (And.intro @nj (And.intro @iJ (And.intro @TF (And.intro @Ra (And.intro @My (And.intro @NX (And.intro @bT (And.intro @SJ (And.intro @SR (And.intro @Rl (And.intro @SP (And.intro @Xe (And.intro @Xm (And.intro @gK (And.intro @nG (And.intro @bq (And.intro @VU (And.intro @or_nil (And.intro @Nq (And.intro @WV (And.intro @Sv (And.intro @Uw (And.intro @Uq (And.intro @YM (And.intro @iI (And.intro @Tx (And.intro @nQ (And.intro @Su (And.intro @jc (And.intro @La (And.intro @S6 (And.intro @M0 (And.intro @or_append (And.intro @PI (And.intro @YF (And.intro @UM (And.intro @fE (And.intro @Ws (And.intro @X0 (And.intro @Xy (And.intro @iw (And.intro @iC (And.intro @mJ (And.intro @mD (And.intro @aa (And.intro @aI (And.intro @Z9 (And.intro @jy (And.intro @nV (And.intro @lH (And.intro @jq (And.intro @Zz (And.intro @nR (And.intro @mO (And.intro @bz (And.intro @Zj (And.intro @gF (And.intro @jN (And.intro @fx (And.intro @Xh (And.intro @XH (And.intro @XS (And.intro @WJ (And.intro @WX (And.intro @cy (And.intro @bc (And.intro @Wg (And.intro @Wo (And.intro @XD (And.intro @Tw (And.intro @Sd (And.intro @Mg (And.intro @Nf (And.intro @ZT (And.intro @qy (And.intro @SL (And.intro @QH (And.intro @Vm (And.intro @YI (And.intro @MD (And.intro @Rr (And.intro @j0 (And.intro @jL (And.intro @XK (And.intro @Y6 (And.intro @ao (And.intro @iM (And.intro @bC (And.intro @jn (And.intro @Zf (And.intro @cB (And.intro @ZE (And.intro @Uy (And.intro @Ub (And.intro @Va (And.intro @UO (And.intro @TS (And.intro @ACk (And.intro @ADi (And.intro @ABD (And.intro @vR (And.intro @pE (And.intro @ADA (And.intro @ADJ (And.intro @ACx (And.intro @ADD (And.intro @ADQ (And.intro @zJ (And.intro @ACz (And.intro @z7 (And.intro @Yd (And.intro @ADX (And.intro @ADT (And.intro @AC3 (And.intro @AAz (And.intro @ADh (And.intro @ADB (And.intro @ACt (And.intro @xU (And.intro @ADF (And.intro @X8 (And.intro @WU (And.intro @OD (And.intro @Y2 (And.intro @uf (And.intro @tY (And.intro @u7 (And.intro @P0 (And.intro @Rv (And.intro @PT (And.intro @Pw (And.intro @P2 (And.intro @SV (And.intro @Tq (And.intro @RW (And.intro @Q6 (And.intro @Rn (And.intro @Py (And.intro @Re (And.intro @PX (And.intro @PW (And.intro @PF (And.intro @Pd (And.intro @Ro (And.intro @Pm (And.intro @PM (And.intro @O6 (And.intro @ACl (And.intro @ADb (And.intro @tz (And.intro @ze (And.intro @uN (And.intro @AAN (And.intro @ABC (And.intro @xW (And.intro @dT (And.intro @me (And.intro @de (And.intro @z8 (And.intro @AAU (And.intro @pt (And.intro @AAo (And.intro @ACw (And.intro @ACv (And.intro @ADH (And.intro @ADC (And.intro @ADI (And.intro @ADS (And.intro @AAx (And.intro @zj (And.intro @qv (And.intro @Wn (And.intro @ACp (And.intro @SQ (And.intro @Vg (And.intro @Sc (And.intro @Sj (And.intro @RQ (And.intro @wrap_i64 (And.intro @wrap_u8 (And.intro @wrap_u16 (And.intro @wrap_u32 (And.intro @wrap_u64 (And.intro @wrap_i32 (And.intro @VD (And.intro @VW (And.intro @TO (And.intro @Ud (And.intro @WM (And.intro @Vf (And.intro @dY (And.intro @Vt (And.intro @kj (And.intro @aX (And.intro @Wl (And.intro @XO (And.intro @Bool.not_true (And.intro @Bool.not_false (And.intro @Bool.not_not (And.intro @decide_true (And.intro @decide_false (And.intro @Int.ofNat_eq_natCast (And.intro @Int.cast_ofNat_Int (And.intro @and_self (And.intro @Int.toNat_natCast (And.intro @cx (And.intro @mi (And.intro @Bool.false_xor (And.intro @Bool.true_xor (And.intro @fK (And.intro @kp (And.intro @Xc (And.intro @X6 (And.intro @Xb (And.intro @Xp (And.intro @mz (And.intro @jv (And.intro @XY (And.intro @WZ (And.intro @cZ (And.intro @lW (And.intro @Nat.min_eq_left (And.intro @Nat.zero_add (And.intro @Nat.add_zero (And.intro @Nat.mul_one (@Nat.zero_mul)))))))))))))))))))))))))))))))))))))))))))))))))))))))))))))))))))))))))))))))))))))))))))))))))))))))))))))))))))))))))))))))))))))))))))))))))))))))))))))))))))))))))))))))))))))))))))))))))))))))))))))))))))))))))))))))))))))))))))))))))))))))))))))))))))))))))))
def AT:=And.intro @Bool.not_eq_true' (@Bool.not_eq_false')
def AI:=And.intro @List.length_append.{0} (And.intro @List.length_cons.{0} (And.intro @List.length_nil.{0} (And.intro @List.length_take.{0} (And.intro @List.length_drop.{0} (And.intro @List.length_map.{0,0} (@List.length_set.{0}))))))
def AR:=And.intro @Int.not_lt (And.intro @Int.not_le (And.intro @Nat.not_lt (And.intro @Nat.not_le (And.intro @decide_eq_true_eq (And.intro @decide_eq_false_iff_not (And.intro @Bool.not_eq_true (And.intro @Bool.not_eq_false (And.intro @Bool.not_true (And.intro @Bool.not_false (And.intro @Bool.not_eq_eq_eq_not (@Decidable.not_not)))))))))))
/--the next step of code,by its form -/
class St (p:Prop) (q:outParam Prop):Prop where
 h:q->p
section
variable {P:Program} {nt:Nat} {t:F} {h:H} {K:X->F->H->Prop} {a b:CC} {l:List CO} {id:Nat} {o:O}
instance:St (Ok P nt (.seq a b) t h K) (Ok P nt a t h (Sq P nt b K)):=⟨Ok.sq⟩
instance:St (Ok P nt (.block id a) t h K) (Ok P nt a t h (Out id K)):=⟨Ok.block⟩
instance:St (Ok P nt (.region l) t h K) (WO P l t h (K .normal)):=⟨Ok.rg⟩
instance:St (Ok P nt (.cond o a b) t h K) (CD (oV o t) (Ok P nt a t h K) (Ok P nt b t h K)):=⟨Ok.cd⟩
instance:St (Ok P nt .skip t h K) (K .normal t h):=⟨Ok.skip⟩
instance:St (Ok P nt (.exit id) t h K) (K (.exit id) t h):=⟨Ok.exit⟩
instance:St (Ok P nt .ret t h K) (K .ret t h):=⟨Ok.ret⟩
end
end Go.Ev
namespace Go.Ev
open Go
/--a block of the call's own,made of a text's bytes or of cells -/
def bo (h:H) (id:B) (xs:List V):Prop:=∃ Ap,h.heap.get id=some Ap/\Ap.cur=0/\Ap.min=0/\Ap.fr<=1/\B.val h.floor<=B.val id/\B.val id<B.val h.next/\∀ i y,xs[i]? =some y->Ap.cells.BP i=some y
theorem bo.row {h:H} {id:B} {xs:List V} (o:bo h id xs):Row h id 0 0 xs:=by
 obtain⟨Ap,h1,h2,h3,h4,h5,h6,h7⟩:=o
 refine⟨fun _=>⟨Ap,h1,by omega⟩,fun i y hy=>?_⟩
 unfold Ev.cell Gg
 rw[h1]
 show(if Ap.min<=0 then Ap.cells.BP (0+i)else none)=_
 rw[if_pos (by omega),Nat.zero_add]
 exact h7 i y hy
section
variable {P:Program} {h:H} {N:Nx} {id:B} {xs:List V} {j fin el:Nat} {x y:V}
/--[]byte(text),to be written into -/
theorem SB.own {c:List UInt8} (hf:B.val h.floor<=B.val h.next) (hl:c.length<=1048576)
 (k:∀ h',AW AN h h'->B.val h'.next=B.val h.next+1->bo h' h.next (c.map bv)->N.go P (.l h.next 0 0 c.length c.length (Hz c.length)) h'):SB P el (sv c) h N:=by
 obtain⟨h',a1,a2,a3,a4,a5,cs,a6,a7⟩:=Q4 el hf hl
 have:=fun k=>a1 (.c (sv c)) F.zero (fun _ _ _ _=>false) k rfl
 refine DZ (v:=.l h.next 0 0 c.length c.length (Hz c.length)) (h':=h') (fun k=>?_) (k h' a2 a3 ⟨_,a6,rfl,rfl,by show 1<=1;omega,by rw[a2.floor];exact hf,by omega,a7⟩)
 have e:=this k
 simp only[Ip,AV]at e
 exact e
end
/--the i-th row of a matrix -/
def rowOf (h:H) (v:V) (i:Nat):V:=(cell h (GV v) (lg v) (Ct v+i)).getD .u
/--a matrix that was there when the call began -/
structure MA (h0:H) (v:V) (M:List (List Bool)) (g:H):Prop where
 mx:Mx h0 v M
 st:AW AN h0 g
section
variable {P:Program} {N:Nx} {h0 g h':H} {v:V} {M:List (List Bool)} {i j:Nat}
theorem MA.grow (a:MA h0 v M g) (s:AW AN g h'):MA h0 v M h':=⟨a.mx,a.st.trans s⟩
theorem MA.mg (a:MA h0 v M g):Mx g v M:=a.mx.grow a.st
theorem Mx.rowOf (a:Mx h0 v M) (hi:i<M.length):Bl h0 (rowOf h0 v i) (M.getD i []):=by
 obtain⟨rows,r1,r2,r3⟩:=a
 have hr:rows[i]? =some rows[i]:=by simp
 have:Go.Ev.rowOf h0 v i=rows[i]:=by
  unfold Go.Ev.rowOf
  rcases r1 with⟨rfl,e⟩|⟨id,g,off,fin,cap,rfl,h2,h3,h4⟩
  ·subst e;simp at r2;omega
  ·have:=h4.2 i _ hr
   show(cell h0 id g (off+i)).getD .u=_
   rw[this];rfl
 rw[this]
 exact r3 i _ hr
theorem MA.row (a:MA h0 v M g) (hi:i<M.length):Bl g (rowOf h0 v i) (M.getD i []):=(a.mx.rowOf hi).grow a.st
theorem MA.ld (a:MA h0 v M g) (hi:i<M.length):L1 P (GV v) (lg v) (Ct v+i) (Cv v) g N=N.go P (rowOf h0 v i) g:=by
 obtain⟨rows,r1,r2,r3⟩:=a.mx
 have hr:rows[i]? =some rows[i]:=by simp
 refine Ak fun k=>?_
 have e:Go.Ev.rowOf h0 v i=rows[i]:=by
  unfold Go.Ev.rowOf
  rcases r1 with⟨rfl,e⟩|⟨id,g,off,fin,cap,rfl,h2,h3,h4⟩
  ·subst e;simp at r2;omega
  ·have:=h4.2 i _ hr
   show(cell h0 id g (off+i)).getD .u=_
   rw[this];rfl
 rw[Fm (r1.grow a.st) hr,e]
end
theorem Row.ln {P:Program} {h:H} {N:Nx} {id:B} {g off fin size:Nat} {xs:List V} (r:Row h id g 0 xs) (hi:off+size<=xs.length) (h1:1<=size) (hf:off+size<=fin):LN P id g off fin size h N=N.go P (.a ((xs.drop off).take size)) h:=Ak fun k=>by
 have hne:(xs.drop off).take size≠[]:=by
  intro e
  have:=congrArg List.length e
  rw[List.length_take,List.length_drop]at this
  simp at this;omega
 refine C2 (vs:=(xs.drop off).take size) ⟨fun _=>r.1 (by intro e;subst e;simp at hi;omega),fun i y hy=>?_⟩ (by rw[List.length_take,List.length_drop];omega) hne hf _
 rw[List.getElem?_take]at hy
 split at hy
 ·rw[List.getElem?_drop]at hy
  have:=r.2 (off+i) y hy
  rwa [Nat.zero_add]at this
 ·cases hy
def Ti (ne:Bool) (x y:V) (k:V->Bool):Bool:=PY x (fun _=>PY y (fun _=>k (.b (!ne))) fun _ _ _ _=>k (.b ne)) (Js ne y k)
def Vu (x:V) (k:V->Bool):Bool:=vL x (fun _=>k .p0) fun id g off len fin _=>As (Nat.ble 1 len) fun _=>k (.p id g off fin)
def PU (P:Program) (x:V) (h:H) (N:Nx):Prop:=HV P (fun k=>vP x fun id g off fin=>DI h id g off fin fun _=>k (.p id g off fin)) h N
def UP (P:Program) (u size:Nat) (x:V) (h:H) (N:Nx):Prop:=HV P (fun k=>vP x fun id g off fin=>As (Nat.beq off 0) fun _=>As (Nat.ble size fin) fun _=>SM h id g u fun _=>k (.p id g off fin)) h N
section
variable {P:Program} {t:F} {h:H} {N:Nx} {x y:O} {ne:Bool} {id id':B} {g off fin g' off' fin':Nat} {u size:Nat}
theorem PK:OR P (FY ne x y) t h N=H2 P (Ti ne) (oV x t) (oV y t) h N:=Bc fun cf k=>kU ..
theorem Og:H2 P (Ti ne) .p0 .p0 h N=N.go P (.b (!ne)) h:=Ak fun k=>rfl
theorem Ng:H2 P (Ti ne) .p0 (.p id g off fin) h N=N.go P (.b ne) h:=Ak fun k=>rfl
theorem KR:H2 P (Ti ne) (.p id g off fin) .p0 h N=N.go P (.b ne) h:=Ak fun k=>by
 show Js ne .p0 k id g off fin=_
 exact Wa ne k id g off fin
theorem Ow:H2 P (Ti ne) (.p id g off fin) (.p id g off fin') h N=N.go P (.b (!ne)) h:=Ak fun k=>by
 show Js ne (.p id g off fin') k id g off fin=_
 rw[RE];cases ne<;>rfl
theorem UU:OR P (Ei x) t h N=H1 P Vu (oV x t) h N:=Bc fun cf k=>Ui ..
theorem iB:OR P (K8 x) t h N=PU P (oV x t) h N:=Bc fun cf k=>cb ..
theorem dk:OR P (Kq u size x) t h N=UP P u size (oV x t) h N:=Bc fun cf k=>di ..
theorem FT.pu {xs:List V} {el:Nat} (o:FT h id el xs) (hi:off<xs.length) (hf:off<fin):PU P (.p id 0 off fin) h N=N.go P (.p id 0 off fin) h:=Ak fun k=>by
 show DI h id 0 off fin (fun _=>k (.p id 0 off fin))=_
 have:=o.own.row.2 off (xs.getD off .u) (by simp[hi])
 rw[Nat.zero_add]at this
 rw[GN this hf]
theorem FT.up {xs:List V} {el:Nat} (o:FT h id el xs) (hf:size<=fin):UP P el size (.p id 0 0 fin) h N=N.go P (.p id 0 0 fin) h:=Ak fun k=>by
 have e1:Nat.ble size fin=true:=by rw[Nat.ble_eq];exact hf
 show As (Nat.beq 0 0) (fun _=>As (Nat.ble size fin) fun _=>SM h id 0 el fun _=>k (.p id 0 0 fin))=_
 have e2:Nat.beq 0 0=true:=rfl
 rw[e2,AH,e1,AH,Wc o]
end
section
variable {P:Program} {h:H} {N:Nx} {id:B} {xs:List V} {j fin el:Nat} {x y:V}
theorem ST.Vq (o:FT h id el xs) (hc:cells x=[y]) (h1:ES y=true) (hj:j<fin) (hfit:j<2 ^ 37) (k:∀ h',FT h' id el (xs.set j y)->AW (fun i=>i=id) h h'->N.go P (.tu []) h'):ST P 1 (.p id 0 j fin) x h N:=by
 obtain⟨h',a1,a2,a3⟩:=Pu o hj hfit h1
 refine DZ (v:=.tu []) (h':=h') (fun k=>?_) (k h' a2 a3)
 show As (Nat.beq (cells x).length 1) (fun _=>store h id 0 j fin (cells x) fun h=>k (.tu []) h)=_
 rw[hc]
 show store h id 0 j fin [y] (fun h=>k (.tu []) h)=_
 rw[a1]
/--append(v,text...) -/
theorem AS.buf {v:V} {a c:List UInt8} (hb:FU h el 1 v (a.map bv)) (hf:B.val h.floor<=B.val h.next) (hl:a.length+c.length<=1048576)
 (k:∀ v' h',FU h' el 1 v' ((a++c).map bv)->AW (Af v) h h'->(∀ i,Af v' i->Af v i\/B.val h.next<=B.val i)->O0 h' v'->N.go P v' h'):AS P el v (sv c) h N:=by
 obtain⟨v',h',a1,a2,a3,a4,a5⟩:=Kr (vs:=c.map bv) (n:=c.length) hb hf (Nat.le_refl _) (by simp) (JU c) (by simpa using hl)
 refine DZ (v:=v') (h':=h') (fun k=>?_) (k v' h' (by rw[List.map_append];exact a2) a3 a4 a5)
 show LM c.length (pk c) [] (fun vs=>Ci el 1 v c.length vs h k)=_
 rw[KH _ _ _ _ rfl,List.append_nil,a1]
theorem Rz {v:V} (b:FU h el 1 v xs):cells v=[v]/\ES v=true/\E5 v=true:=by rcases b with⟨rfl,_⟩|⟨_,_,_,_,rfl,_⟩<;>exact⟨rfl,rfl,rfl⟩
end
def US (P:Program) (e:Nat) (x y:V) (h:H) (N:Nx):Prop:=HM P (fun k=>vI y fun kd n=>As (CT kd .i64) fun _=>A6 n fun n=>PY x (fun _=>As (Nat.beq n 0) fun _=>k (.s 0 0) h) fun id g off fin=>KQ e n h k id g off fin) N
theorem US.of {P:Program} {e:Nat} {x y v:V} {h h':H} {N:Nx} (hk:∀ k:V->H->Bool,(vI y fun kd n=>As (CT kd .i64) fun _=>A6 n fun n=>PY x (fun _=>As (Nat.beq n 0) fun _=>k (.s 0 0) h) fun id g off fin=>KQ e n h k id g off fin)=k v h') (k:N.go P v h'):US P e x y h N:=DZ hk k
theorem QF {P:Program} {e:Nat} {x y:O} {t:F} {h:H} {N:Nx}:OR P (Ea e x y) t h N=US P e (oV x t) (oV y t) h N:=F3 fun cf k=>by simp only[Ea,AV]
end Go.Ev
namespace Go.Ev
open Go
section
variable {h:H}
/--all cells of a block at once -/
theorem ST.kA {P:Program} {N:Nx} {id:B} {xs vs:List V} {x:V} {size fin:Nat} (o:CE h id xs) (hc:cells x=vs) (hs:vs.length=size) (h1:Bk vs=true) (hj:vs.length<=fin) (hfit:vs.length<2 ^ 37)
 (k:∀ h',CE h' id vs->AW (fun i=>i=id) h h'->N.go P (.tu []) h'):ST P size (.p id 0 0 fin) x h N:=by
 obtain⟨Ap,a1,a2,a3,a4,a5,a6,a7⟩:=o
 obtain⟨next,floor,heap⟩:=h
 obtain⟨cur,min,sz,cs,bel,fr⟩:=Ap
 simp only at a2 a3 a4 a7
 subst a2;subst a3;subst a4
 obtain⟨tr,t1,t2,t3⟩:=Bn vs 0 cs (by omega)
 obtain⟨hp,s1,s2,s3⟩:=Bw id (⟨0,0,sz,tr,bel,0⟩:Gi) heap
 have e1:B.Jz floor id=true:=by cases floor<;>first|rfl|(show Nat.ble _ _=true;rw[Nat.ble_eq];exact a5)
 have e2:Nat.ble (Nat.add 0 vs.length) fin=true:=by rw[Nat.ble_eq];show 0+vs.length<=fin;omega
 have e4:Hc 0 0=true:=rfl
 have e5:Nat.beq 0 0=true:=rfl
 have e6:Nat.ble 0 0=true:=rfl
 have e7:Nat.beq vs.length size=true:=by rw[hs];simp
 have a1':heap.get id=some ⟨0,0,sz,cs,bel,0⟩:=a1
 refine DZ (v:=.tu []) (h':=⟨next,floor,hp⟩) (fun q=>?_) (k _ ⟨_,s2,rfl,rfl,rfl,a5,a6,fun i z hz=>by have:=t2 i z hz;rwa [Nat.zero_add]at this⟩ ⟨rfl,Nat.le_refl _,fun i _ hi=>s3 i hi⟩)
 show As (Nat.beq (cells x).length size) (fun _=>store ⟨next,floor,heap⟩ id 0 0 fin (cells x) fun h=>q (.tu []) h)=_
 rw[hc,e7,AH]
 simp only[store,CH,a1',Ao,BB,e5,e6,e1,e2,h1,e4,AH]
 rw[t1,s1]
end
theorem ST.all {P:Program} {h:H} {N:Nx} {id:B} {xs vs:List V} {size fin:Nat} (o:CE h id xs) (hs:vs.length=size) (h1:Bk vs=true) (hj:vs.length<=fin) (hfit:vs.length<2 ^ 37)
 (k:∀ h',CE h' id vs->AW (fun i=>i=id) h h'->N.go P (.tu []) h'):ST P size (.p id 0 0 fin) (.a vs) h N:=ST.kA o rfl hs h1 hj hfit k
theorem CE.ra4 {h:H} {Q:V->H->Prop} {id:B} {a b c d:V} {us:List V} (o:CE h id [a,b,c,d]):RA Q 4 (.p id 0 0 4) us h=Q (one (.a [a,b,c,d]::us)) h:=o.ra rfl (by omega) (by omega)
theorem Li (h:H):B.val (Au h).floor<=B.val (Au h).next:=by cases h;exact Nat.le_refl _
/--a call in a region that Ax -/
theorem CL.MP {P:Program} {f:FuncId} {vs:List V} {h:H} {e:V} {m:Nat} {l:List CO} {t:F} {K:F->H->Prop} (a:A3 P f vs (Au h) fun y h'=>y=e/\AW AN (Au h) h')
 (k:∀ h',AW AN h h'->DO P l (put m e t) h' K):CL P f vs (Au h) (.u m l t h K):=⟨_,a,fun v h' hq=>by rw[hq.1,SY];exact k _ hq.2.Iq⟩
/--a row of structs of n cells each -/
def Ss {α:Type} (n:Nat) (c:α->List V) (h:H) (v:V) (L:List α):Prop:=
 (v=.l0/\L=[])\/∃ id g off fin cap,v=.l id g off L.length fin cap/\off+L.length*n<=fin/\B.val id<B.val h.next/\Row h id g off (L.flatMap c)
section
variable {α:Type} [Inhabited α] {n:Nat} {c:α->List V}
theorem C3 (hc:∀ e,(c e).length=n):∀ (L:List α),(L.flatMap c).length=L.length*n
 |[]=>by simp
 |a::L=>by rw[List.flatMap_cons,List.length_append,hc,C3 hc L,List.length_cons,Nat.add_mul];omega
theorem YV (hc:∀ e,(c e).length=n):∀ {L:List α} {i:Nat},i<L.length->((L.flatMap c).drop (i*n)).take n=c (L.getD i default)
 |[],i,h=>by simp at h
 |a::L,0,h=>by
  rw[List.flatMap_cons,Nat.zero_mul,List.drop_zero,List.take_append_of_le_length (by rw[hc];exact Nat.le_refl _),List.take_of_length_le (by rw[hc];exact Nat.le_refl _)];rfl
 |a::L,i+1,h=>by
  have e:(i+1)*n=(c a).length+i*n:=by rw[hc,Nat.add_mul];omega
  rw[List.flatMap_cons,e,<-List.drop_drop,List.drop_left,YV hc (by simpa using h)]
  simp[List.getD]
theorem Kf (hc:∀ e,(c e).length=n) {L:List α} {i d:Nat} (hi:i<L.length) (hd:d<n):(L.flatMap c)[i*n+d]? =some ((c (L.getD i default)).getD d .u):=by
 have e:(((L.flatMap c).drop (i*n)).take n)[d]? =(c (L.getD i default))[d]? :=by rw[YV hc hi]
 rw[List.getElem?_take,if_pos hd,List.getElem?_drop]at e
 rw[e]
 have:d<(c (L.getD i default)).length:=by rw[hc];exact hd
 have e3:∀ (x:List V),d<x.length->x[d]? =some (x.getD d .u):=fun x hx=>by simp[List.getD,hx]
 exact e3 _ this
theorem Jv (hc:∀ e,(c e).length=n):∀ (L:List α) (k:Nat),(L.take k).flatMap c=(L.flatMap c).take (k*n)
 |[],k=>by simp
 |a::L,0=>by simp
 |a::L,k+1=>by
  have e:(k+1)*n=(c a).length+k*n:=by rw[hc,Nat.add_mul];omega
  have e2:((c a)++L.flatMap c).take ((c a).length+k*n)=c a++(L.flatMap c).take (k*n):=by
   rw[List.take_append,Nat.add_sub_cancel_left,List.take_of_length_le (Nat.le_add_right _ _)]
  rw[List.take_succ_cons,List.flatMap_cons,List.flatMap_cons,Jv hc L k,e,e2]
theorem Qu (hc:∀ e,(c e).length=n):∀ (L:List α) (k:Nat),(L.drop k).flatMap c=(L.flatMap c).drop (k*n)
 |[],k=>by simp
 |a::L,0=>by simp
 |a::L,k+1=>by
  rw[List.drop_succ_cons,List.flatMap_cons,Qu hc L k,show(k+1)*n=(c a).length+k*n by rw[hc,Nat.add_mul];omega,<-List.drop_drop,List.drop_left]
variable {P:Program} {h h' g':H} {N:Nx} {v:V} {L:List α} {i d:Nat}
theorem Ss.ln (a:Ss n c h v L):H1 P NR v g' N=N.go P (.i .i64 (L.length:Int)) g':=by
 rcases a with⟨rfl,rfl⟩|⟨id,g,off,fin,cap,rfl,_⟩
 ·exact QH
 ·exact Vm
theorem Ss.ix (a:Ss n c h v L) (hi:i<L.length):IX P n v i g' N=N.go P (.p (GV v) (lg v) (Ct v+i*n) (Cv v)) g':=by
 rcases a with⟨rfl,rfl⟩|⟨id,g,off,fin,cap,rfl,_⟩
 ·simp at hi
 ·exact qy hi
theorem Ss.ld (a:Ss n c h v L) (hc:∀ e,(c e).length=n) (hi:i<L.length) (hd:d<n):L1 P (GV v) (lg v) (Ct v+i*n+d) (Cv v) h N=N.go P ((c (L.getD i default)).getD d .u) h:=by
 rcases a with⟨rfl,rfl⟩|⟨id,g,off,fin,cap,rfl,hf,hl,r⟩
 ·simp at hi
 ·refine Ak fun k=>?_
  have:=r.2 (i*n+d) _ (Kf hc hi hd)
  rw[<-Nat.add_assoc]at this
  have h1:(i+1)*n<=L.length*n:=Nat.mul_le_mul_right n hi
  rw[Nat.add_mul]at h1
  exact GN this (by show off+i*n+d<fin;omega) k
theorem Ss.ldA (a:Ss n c h v L) (hc:∀ e,(c e).length=n) (hn:1<=n) (hi:i<L.length):LN P (GV v) (lg v) (Ct v+i*n) (Cv v) n h N=N.go P (.a (c (L.getD i default))) h:=by
 rcases a with⟨rfl,rfl⟩|⟨id,g,off,fin,cap,rfl,hf,hl,r⟩
 ·simp at hi
 ·refine Ak fun k=>?_
  have h1:(i+1)*n<=L.length*n:=Nat.mul_le_mul_right n hi
  rw[Nat.add_mul]at h1
  have hlen:=hc (L.getD i default)
  refine C2 (vs:=c (L.getD i default)) ⟨fun _=>r.1 ?_,fun j y hy=>?_⟩ hlen (by intro e;rw[e]at hlen;simp at hlen;omega) (by show off+i*n+n<=fin;omega) fun vs=>k (.a vs)
  ·intro e
   have h2:=C3 hc L
   rw[e]at h2
   have h3:L.length*n=0:=h2.symm
   omega
  ·have hj:j<n:=by rw[<-hlen];exact(List.getElem?_eq_some_iff.1 hy).1
   have e:=Kf hc hi hj
   rw[List.getD,hy]at e
   have:=r.2 (i*n+j) _ e
   rw[<-Nat.add_assoc]at this
   exact this
theorem Ss.grow (a:Ss n c h v L) (s:AW AN h h'):Ss n c h' v L:=by
 rcases a with⟨rfl,rfl⟩|⟨id,g,off,fin,cap,rfl,hf,hl,r⟩
 ·exact .inl ⟨rfl,rfl⟩
 ·exact .inr ⟨id,g,off,fin,cap,rfl,hf,Nat.lt_of_lt_of_le hl s.next,r.grow s hl⟩
theorem Ss.stay {p:B->Prop} (a:Ss n c h v L) (s:AW p h h') (hp:∀ id,Af v id->¬p id):Ss n c h' v L:=by
 rcases a with⟨rfl,rfl⟩|⟨id,g,off,fin,cap,rfl,hf,hl,r⟩
 ·exact .inl ⟨rfl,rfl⟩
 ·exact .inr ⟨id,g,off,fin,cap,rfl,hf,Nat.lt_of_lt_of_le hl s.next,r.stay s hl (hp id ⟨_,_,_,_,_,rfl⟩)⟩
theorem Ss.nil:Ss n c h .l0 ([]:List α):=.inl ⟨rfl,rfl⟩
/--of a literal -/
theorem Ss.lit {id:B} {xs:List V} {cap:Option Nat} {len fin:Nat} (o:CE h id xs) (e:xs=L.flatMap c) (hc:∀ e,(c e).length=n) (hl:len=L.length) (hf:L.length*n<=fin):Ss n c h (.l id 0 0 len fin cap) L:=by
 subst hl;subst e
 have r:=o.row
 obtain⟨Ap,h1,h2,h3,h4,h5,h6,h7⟩:=o
 exact .inr ⟨id,0,0,fin,cap,rfl,by omega,h6,r⟩
/--of a row that grew -/
theorem Ss.buf {el:Nat} {xs:List V} (b:FU h el n v xs) (e:xs=L.flatMap c) (hc:∀ e,(c e).length=n) (hn:1<=n):Ss n c h v L:=by
 subst e
 rcases b with⟨rfl,he⟩|⟨id,g,m,Ap,rfl,h1,h2,h3,h4,h5,h6,h7,h8,h9,h10⟩
 ·refine .inl ⟨rfl,?_⟩
  cases L with
  |nil=>rfl
  |cons a L=>
   have:=C3 hc (a::L)
   rw[he]at this
   have h3:(L.length+1)*n=0:=this.symm
   rw[Nat.add_mul]at h3;omega
 ·have hm:m=L.length:=by
   rw[C3 hc]at h2
   exact(Nat.eq_of_mul_eq_mul_right (by omega) h2).symm
  subst hm
  refine .inr ⟨id,g,0,(L.flatMap c).length,none,rfl,by rw[C3 hc];omega,h4,fun _=>⟨Ap,h5,h6.1⟩,fun i y hy=>?_⟩
  unfold Ev.cell Gg
  rw[h5]
  show(if Ap.min<=g then Ap.cells.BP (0+i)else none)=_
  rw[if_pos h6.1,Nat.zero_add]
  exact h10 i y hy
/--a slice whose end is where it should be -/
def oG (n:Nat) (v:V):Prop:=v=.l0\/∃ id g off m fin cap,v=.l id g off m fin cap/\match cap with
 |some c=>m<=c/\(18446744073709551616<=c->m=0)
 |none=>fin=off+m*n
theorem VV {n off k L:Nat}:match Gz n k L with
 |some c=>k<=c/\(18446744073709551616<=c->k=0)
 |none=>off+k*n=off+k*n:=by
 cases k with
 |zero=>(cases L with|zero=>exact rfl|succ L=>exact⟨Nat.zero_le _,fun _=>rfl⟩)
 |succ k=>exact rfl
theorem K4 {id:B} {g off k:Nat} (hc:∀ e,(c e).length=n) (r:Row h id g off (L.flatMap c)):Row h id g off ((L.take k).flatMap c):=by
 rw[Jv hc]
 refine⟨fun hne=>r.1 fun e=>hne (by rw[e];simp),fun i y hy=>r.2 i y ?_⟩
 rw[List.getElem?_take]at hy
 split at hy
 ·exact hy
 ·cases hy
theorem O3 {id:B} {g off k:Nat} (hc:∀ e,(c e).length=n) (r:Row h id g off (L.flatMap c)):Row h id g (off+k*n) ((L.drop k).flatMap c):=by
 rw[Qu hc]
 refine⟨fun hne=>r.1 fun e=>hne (by rw[e];simp),fun i y hy=>?_⟩
 rw[List.getElem?_drop]at hy
 have:=r.2 _ y hy
 rwa [<-Nat.add_assoc]at this
theorem Ss.hi {kd:IntKind} {k:Nat} (a:Ss n c h v L) (hc:∀ e,(c e).length=n) (w:oG n v) (hk:k<=L.length):∃ u,Ss n c h u (L.take k)/\oG n u/\∀ (g:H) (N:Nx),H2 P (Fp n) v (.i kd (k:Int)) g N=N.go P u g:=by
 have e0:Nat.ble 0 k=true:=by rw[Nat.ble_eq];omega
 have hkn:k*n<=L.length*n:=Nat.mul_le_mul_right n hk
 have htk:(L.take k).length=k:=by rw[List.length_take];omega
 rcases a with⟨rfl,rfl⟩|⟨id,g,off,fin,cap,rfl,h2,h3,r⟩
 ·have:k=0:=by simpa using hk
  subst this
  exact⟨.l0,.inl ⟨rfl,by simp⟩,.inl rfl,fun g N=>Ak fun k=>rfl⟩
 rcases w with e|⟨id',g',off',n',fin',cap',e,hw⟩
 ·cases e
 cases e
 cases cap with
 |none=>
  have hw:fin=off+L.length*n:=hw
  refine⟨.l id g off k (off+k*n) (Gz n k L.length),.inr ⟨id,g,off,off+k*n,Gz n k L.length,by rw[htk],by rw[htk];exact Nat.le_refl _,h3,K4 hc r⟩,.inr ⟨_,_,_,_,_,_,rfl,VV⟩,fun g0 N=>Ak fun q=>?_⟩
  have e1:Nat.ble k L.length=true:=by rw[Nat.ble_eq];exact hk
  have e2:Nat.beq fin (Nat.add off (Nat.mul L.length n))=true:=by rw[hw];exact Nat.beq_refl _
  unfold Fp
  simp only[DL,Cx,Bb,e0,AH]
  show DS n id g off L.length fin 0 k q=_
  unfold DS
  rw[e1,AH,e2,AH,A5,A5,A5]
  show q (.l id g (off+0*n) (k-0) (off+k*n) (Gz n k L.length))=_
  simp
 |some cc=>
  have hw2:18446744073709551616<=cc->L.length=0:=hw.2
  have hw:L.length<=cc:=hw.1
  have e1:Nat.ble k cc=true:=by rw[Nat.ble_eq];omega
  cases hfc:BU cc with
  |true=>
   have hcc:=HD hfc
   have hx:=hw2 hcc
   have hk0:k=0:=by omega
   subst hk0
   refine⟨.l id g off 0 off (some cc),.inr ⟨id,g,off,off,some cc,by simp,by simp,h3,K4 hc r⟩,.inr ⟨_,_,_,_,_,_,rfl,Nat.zero_le _,fun _=>rfl⟩,fun g0 N=>Ak fun q=>?_⟩
   unfold Fp
   simp only[DL,Cx,Bb,e0,AH]
   show A4 (BU cc) (fun _=>As (Nat.beq 0 0) fun _=>q (.l id g off 0 off (some cc))) _=_
   rw[hfc];rfl
  |false=>
  have hcM:=HZ hfc
  cases cc with
  |zero=>
   have hx:L.length=0:=by omega
   have hk0:k=0:=by omega
   subst hk0
   refine⟨.l id g off 0 fin (some 0),.inr ⟨id,g,off,fin,some 0,by simp,by simp;omega,h3,K4 hc r⟩,.inr ⟨_,_,_,_,_,_,rfl,Nat.le_refl _,fun _=>rfl⟩,fun g0 N=>Ak fun q=>?_⟩
   unfold Fp
   simp only[DL,Cx,Bb,e0,AH]
   rfl
  |succ cc=>
   refine⟨.l id g off k fin (some (cc+1)),.inr ⟨id,g,off,fin,some (cc+1),by rw[htk],by rw[htk];omega,h3,K4 hc r⟩,.inr ⟨_,_,_,_,_,_,rfl,by show k<=cc+1;omega,fun h=>absurd hcM (Nat.not_lt.2 h)⟩,fun g0 N=>Ak fun q=>?_⟩
   unfold Fp
   simp only[DL,Cx,Bb,e0,AH]
   show A4 (BU (cc+1)) _ (fun _=>BY n id g off L.length fin (cc+1) 0 k fun v=>q v)=_
   rw[hfc,BF,EE hcM (by omega) (by omega)]
   simp
theorem Ss.M8 {kd kd':IntKind} {j k:Nat} (a:Ss n c h v L) (hc:∀ e,(c e).length=n) (w:oG n v) (hj:j<=k) (hk:k<=L.length):∃ u,Ss n c h u ((L.take k).drop j)/\oG n u/\∀ (g:H) (N:Nx),H3 P (Jf n) v (.i kd (j:Int)) (.i kd' (k:Int)) g N=N.go P u g:=by
 have e0:Nat.ble j k=true:=by rw[Nat.ble_eq];omega
 have hkn:k*n<=L.length*n:=Nat.mul_le_mul_right n hk
 have hjn:j*n+(k-j)*n=k*n:=by rw[<-Nat.add_mul];congr 1;omega
 have htk:((L.take k).drop j).length=k-j:=by rw[List.length_drop,List.length_take];omega
 rcases a with⟨rfl,rfl⟩|⟨id,g,off,fin,cap,rfl,h2,h3,r⟩
 ·obtain rfl:k=0:=by simpa using hk
  obtain rfl:j=0:=by omega
  exact⟨.l0,.inl ⟨rfl,by simp⟩,.inl rfl,fun g N=>Ak fun k=>rfl⟩
 rcases w with e|⟨id',g',off',n',fin',cap',e,hw⟩
 ·cases e
 cases e
 have hr:=O3 hc (K4 (k:=k) hc r) (k:=j)
 cases cap with
 |none=>
  have hw:fin=off+L.length*n:=hw
  refine⟨.l id g (off+j*n) (k-j) (off+k*n) (Gz n k L.length),.inr ⟨id,g,off+j*n,off+k*n,Gz n k L.length,by rw[htk],by rw[htk];omega,h3,hr⟩,.inr ⟨_,_,_,_,_,_,rfl,?_⟩,fun g0 N=>Ak fun q=>?_⟩
  ·cases hk0:k with
   |zero=>(cases L.length with|zero=>(show _=_;rw[hk0]at hjn;omega)|succ l=>exact⟨by omega,fun _=>by omega⟩)
   |succ m=>(show _=_;rw[<-hk0];omega)
  have e1:Nat.ble k L.length=true:=by rw[Nat.ble_eq];exact hk
  have e2:Nat.beq fin (Nat.add off (Nat.mul L.length n))=true:=by rw[hw];exact Nat.beq_refl _
  unfold Jf
  simp only[DL,Cx,Bb,e0,AH]
  show DS n id g off L.length fin j k q=_
  unfold DS
  rw[e1,AH,e2,AH,A5,A5,A5]
  rfl
 |some cc=>
  have hw2:18446744073709551616<=cc->L.length=0:=hw.2
  have hw:L.length<=cc:=hw.1
  cases hfc:BU cc with
  |true=>
   have hcc:=HD hfc
   have hx:=hw2 hcc
   obtain rfl:k=0:=by omega
   obtain rfl:j=0:=by omega
   refine⟨.l id g off 0 off (some cc),.inr ⟨id,g,off,off,some cc,by simp,by simp,h3,?_⟩,.inr ⟨_,_,_,_,_,_,rfl,Nat.zero_le _,fun _=>rfl⟩,fun g0 N=>Ak fun q=>?_⟩
   ·simpa using hr
   unfold Jf
   simp only[DL,Cx,Bb,e0,AH]
   show A4 (BU cc) (fun _=>As (Nat.beq 0 0) fun _=>q (.l id g off 0 off (some cc))) _=_
   rw[hfc];rfl
  |false=>
  have hcM:=HZ hfc
  by_cases hjc:j=cc
  ·have hx:k=j:=by omega
   refine⟨.l id g off 0 fin (some 0),.inr ⟨id,g,off,fin,some 0,by rw[htk,hx];simp,by rw[htk,hx];simp;omega,h3,?_⟩,.inr ⟨_,_,_,_,_,_,rfl,Nat.le_refl _,fun _=>rfl⟩,fun g0 N=>Ak fun q=>?_⟩
   ·rw[List.drop_eq_nil_of_le (by rw[List.length_take];omega)]
    exact⟨fun hne=>absurd rfl hne,fun i v hv=>by simp at hv⟩
   ·unfold Jf
    simp only[DL,Cx,Bb,e0,AH]
    show A4 (BU cc) _ (fun _=>BY n id g off L.length fin cc j k fun v=>q v)=_
    rw[hfc,BF]
    have eM:Nat.ble (Nat.succ cc) 18446744073709551616=true:=by rw[Nat.ble_eq];exact hcM
    have e1:Nat.ble k cc=true:=by rw[Nat.ble_eq];omega
    unfold BY
    rw[eM,AH]
    have e2:Nat.beq j cc=true:=by rw[hjc];exact Nat.beq_refl _
    rw[e1,AH,e2];rfl
  ·refine⟨.l id g (off+j*n) (k-j) fin (some (cc-j)),.inr ⟨id,g,off+j*n,fin,some (cc-j),by rw[htk],by rw[htk];omega,h3,hr⟩,.inr ⟨_,_,_,_,_,_,rfl,by show k-j<=cc-j;omega,fun h=>absurd hcM (by omega)⟩,fun g0 N=>Ak fun q=>?_⟩
   unfold Jf
   simp only[DL,Cx,Bb,e0,AH]
   show A4 (BU cc) _ (fun _=>BY n id g off L.length fin cc j k fun v=>q v)=_
   rw[hfc,BF,EE hcM (by omega) (by omega)]
theorem Ss.lo {kd:IntKind} {k:Nat} (a:Ss n c h v L) (hc:∀ e,(c e).length=n) (w:oG n v) (hk:k<=L.length):∃ u,Ss n c h u (L.drop k)/\oG n u/\∀ (g:H) (N:Nx),H2 P (Fv n) v (.i kd (k:Int)) g N=N.go P u g:=by
 have e0:Nat.ble k L.length=true:=by rw[Nat.ble_eq];omega
 have hkn:k*n+(L.length-k)*n=L.length*n:=by rw[<-Nat.add_mul];congr 1;omega
 have htk:(L.drop k).length=L.length-k:=List.length_drop
 rcases a with⟨rfl,rfl⟩|⟨id,g,off,fin,cap,rfl,h2,h3,r⟩
 ·have:k=0:=by simpa using hk
  subst this
  exact⟨.l0,.inl ⟨rfl,by simp⟩,.inl rfl,fun g N=>Ak fun k=>rfl⟩
 rcases w with e|⟨id',g',off',n',fin',cap',e,hw⟩
 ·cases e
 cases e
 cases cap with
 |none=>
  have hw:fin=off+L.length*n:=hw
  refine⟨.l id g (off+k*n) (L.length-k) (off+L.length*n) none,.inr ⟨id,g,off+k*n,off+L.length*n,none,by rw[htk],by rw[htk];omega,h3,O3 hc r⟩,.inr ⟨_,_,_,_,_,_,rfl,by show off+L.length*n=off+k*n+(L.length-k)*n;omega⟩,fun g0 N=>Ak fun q=>?_⟩
  have e1:Nat.ble L.length L.length=true:=by rw[Nat.ble_eq];exact Nat.le_refl _
  have e2:Nat.beq fin (Nat.add off (Nat.mul L.length n))=true:=by rw[hw];exact Nat.beq_refl _
  unfold Fv
  simp only[DL,Cx,Bb,e0,AH]
  show DS n id g off L.length fin k L.length q=_
  unfold DS
  rw[e1,AH,e2,AH,A5,A5,A5,I6]
  rfl
 |some cc=>
  have hw2:18446744073709551616<=cc->L.length=0:=hw.2
  have hw:L.length<=cc:=hw.1
  have e1:Nat.ble L.length cc=true:=by rw[Nat.ble_eq];omega
  cases hfc:BU cc with
  |true=>
   have hcc:=HD hfc
   have hx:=hw2 hcc
   have hk0:k=0:=by omega
   subst hk0
   refine⟨.l id g off 0 off (some cc),.inr ⟨id,g,off,off,some cc,by rw[htk,hx],by rw[htk,hx];simp,h3,?_⟩,.inr ⟨_,_,_,_,_,_,rfl,Nat.zero_le _,fun _=>rfl⟩,fun g0 N=>Ak fun q=>?_⟩
   ·rw[List.drop_eq_nil_of_le (by omega)]
    exact⟨fun hne=>absurd rfl hne,fun i v hv=>by simp at hv⟩
   ·unfold Fv
    simp only[DL,Cx,Bb,e0,AH]
    show A4 (BU cc) (fun _=>As (Nat.beq L.length 0) fun _=>q (.l id g off 0 off (some cc))) _=_
    rw[hfc,hx];rfl
  |false=>
  have hcM:=HZ hfc
  have eM:Nat.ble (Nat.succ cc) 18446744073709551616=true:=by rw[Nat.ble_eq];exact hcM
  by_cases hkc:k=cc
  ·have hx:L.length=k:=by omega
   refine⟨.l id g off 0 fin (some 0),.inr ⟨id,g,off,fin,some 0,by rw[htk,hx];simp,by rw[htk,hx];simp;omega,h3,?_⟩,.inr ⟨_,_,_,_,_,_,rfl,Nat.le_refl _,fun _=>rfl⟩,fun g0 N=>Ak fun q=>?_⟩
   ·rw[List.drop_eq_nil_of_le (by omega)]
    exact⟨fun hne=>absurd rfl hne,fun i v hv=>by simp at hv⟩
   ·unfold Fv
    simp only[DL,Cx,Bb,e0,AH]
    show A4 (BU cc) _ (fun _=>BY n id g off L.length fin cc k L.length fun v=>q v)=_
    rw[hfc,BF]
    unfold BY
    rw[eM,AH]
    have e2:Nat.beq k cc=true:=by rw[hkc];exact Nat.beq_refl _
    rw[e1,AH,e2];rfl
  ·refine⟨.l id g (off+k*n) (L.length-k) fin (some (cc-k)),.inr ⟨id,g,off+k*n,fin,some (cc-k),by rw[htk],by rw[htk];omega,h3,O3 hc r⟩,.inr ⟨_,_,_,_,_,_,rfl,by show L.length-k<=cc-k;omega,fun h=>absurd hcM (by omega)⟩,fun g0 N=>Ak fun q=>?_⟩
   unfold Fv
   simp only[DL,Cx,Bb,e0,AH]
   show A4 (BU cc) _ (fun _=>BY n id g off L.length fin cc k L.length fun v=>q v)=_
   rw[hfc,BF,EE hcM (by omega) (by omega)]
/--the cells that are appended -/
theorem PA (a:Ss n c h v L) (hc:∀ e,(c e).length=n) (hn:1<=n) (k:Nat->List V->Bool):Dd n v h k=k L.length (L.flatMap c):=by
 rcases a with⟨rfl,rfl⟩|⟨id,g,off,fin,cap,rfl,hf,hl,r⟩
 ·rfl
 ·have hlen:=C3 hc L
  cases hm:L.length with
  |zero=>
   have:L=[]:=List.eq_nil_of_length_eq_zero hm
   subst this;rfl
  |succ m=>
   rw[hm]at hlen hf
   show Br h id g off fin (Nat.mul (m+1) n) (fun vs=>k (m+1) vs)=_
   have hne:L.flatMap c≠[]:=by
    intro e;rw[e]at hlen
    have h3:(m+1)*n=0:=hlen.symm
    rw[Nat.add_mul]at h3;omega
   rw[show Nat.mul (m+1) n=(L.flatMap c).length by rw[hlen];rfl,C2 r rfl hne (by rw[hlen];omega)]
/--append([]T{e},l...) -/
theorem AP.lit {id:B} {cs:List V} {el:Nat} (o:CE h id cs) (hcs:cs.length=n) (hn:1<=n) (hc:∀ e,(c e).length=n) (a:Ss n c h v L) (hf:B.val h.floor<=B.val h.next) (hb:(1+L.length)*n<=1048576)
 (k0:L=[]->N.go P (.l id 0 0 1 n (some 1)) h)
 (k1:∀ v' h',L≠[]->FU h' el n v' (cs++L.flatMap c)->O0 h' v'->AW AN h h'->(∀ i,Af v' i->B.val h.next<=B.val i)->N.go P v' h'):AP P el n (.l id 0 0 1 n (some 1)) v h N:=by
 have hlen:=C3 hc L
 cases hm:L.length with
 |zero=>
  have:L=[]:=List.eq_nil_of_length_eq_zero hm
  subst this
  refine DZ (v:=.l id 0 0 1 n (some 1)) (h':=h) (fun k=>?_) (k0 rfl)
  rw[PA a hc hn];rfl
 |succ m=>
  have hne:L≠[]:=by intro e;rw[e]at hm;simp at hm
  have hb1:1+L.length<=1048576:=by
   have:=Nat.mul_le_mul_left (1+L.length) hn
   omega
  have AT:(1+L.length)*n=n+L.length*n:=by rw[Nat.add_mul];omega
  obtain⟨h',a1,a2,a3,Ap,b1,b2,b3,b4,b5,b6,b7⟩:=Di el (cs++L.flatMap c) h (by rw[List.length_append];omega)
  refine DZ (v:=.l h.next 0 0 (1+L.length) ((1+L.length)*n) none) (h':=h') (fun k=>?_) (k1 _ h' hne ?_ ?_ a2 ?_)
  ·rw[PA a hc hn]
   show A4 (Nat.ble (Nat.add 1 L.length) 1) (fun _=>Gc id 0 0 1 n 1 n L.length (L.flatMap c) h k) (fun _=>EB el id 0 0 1 n n L.length (L.flatMap c) h k)=_
   have e1:Nat.ble (Nat.add 1 L.length) 1=false:=by
    cases hx:Nat.ble (Nat.add 1 L.length) 1 with
    |false=>rfl
    |true=>have:=Nat.le_of_ble_eq_true hx;have h2:1+L.length<=1:=this;omega
   rw[e1]
   show EB el id 0 0 1 n n L.length (L.flatMap c) h k=_
   unfold EB
   have e2:Nat.ble (Nat.add 1 L.length) 1048576=true:=by rw[Nat.ble_eq];exact hb1
   rw[e2,AH,show Nat.mul 1 n=cs.length by rw[hcs];show 1*n=n;omega,L6 (by omega),C2 o.row rfl (by intro e;rw[e]at hcs;simp at hcs;omega) (by omega),Ds,a1,A5,A5]
   rfl
  ·refine .inr ⟨h.next,0,1+L.length,Ap,by rw[List.length_append,hlen,hcs,<-AT],by omega,by rw[List.length_append,hlen,hcs,<-AT],by rw[a2.floor];exact hf,by omega,b1,⟨by omega,by omega⟩,b4,b5,b6,b7⟩
  ·intro id' g off m' fin cap e
   cases e
   exact⟨Ap,b1,b3⟩
  ·rintro i ⟨g,off,m',fin,cap,e⟩
   cases e;exact Nat.le_refl _
end
end Go.Ev
namespace Go.Ev
open Go Go.RowKit Go.WideShapes Go.ChangeShapes Go.ChangeAt Go.Deep
section
variable {H':Type} {enc:TypeId×Value->H'} {P:Program}
inductive Kd where
 |i (k:IntKind)
 |s
 |b
def Kd.ok (P:Program) (k:Kd) (t:TypeId):Prop:=match k with
 |.i k=>P.underlying t=some (.int k)
 |.s=>P.underlying t=some .string
 |.b=>P.underlying t=some .bool
def VA (P:Program) (l:List Field):Nat->List Kd->Prop
 |_,[]=>True
 |n,k::ks=>(∃ f,l[n]? =some f/\f.offset=n/\P.cellsOf f.type=1/\k.ok P f.type)/\VA P l (n+1) ks
/--a struct whose fields are numbers,texts,bools -/
structure Uc (P:Program) (t:TypeId) (fs:Array Field) (ks:List Kd):Prop where
 ut:P.underlying t=some (.struct fs)
 sz:P.cellsOf t=ks.length
 fld:VA P fs.toList 0 ks
def Kd.fit (k:Kd) (c:Value):Prop:=match k with
 |.i k=>∃ n,c=.int k n/\(Lit.int k n).wf=true
 |.s=>∃ s:ByteArray,c=.string s/\s.size<=maxLen
 |.b=>∃ q,c=.bool q
def Fits:List Kd->List Value->Prop
 |[],cs=>cs=[]
 |k::ks,cs=>∃ c r,cs=c::r/\k.fit c/\Fits ks r
theorem R9 {W:World} {t:TypeId} {fs:Array Field} {ks:List Kd} {fuel:Nat} {cs:List Value} {x:DataW H'×List MemPlace} (F:Uc P t fs ks) (hd:DataW.trod enc P W 0 (fun _=>true) true fuel t cs=some x):Fits ks cs:=by
 have hf:cs.length=ks.length/\∀ (i:Nat) f,fs.toList[i]? =some f->∃ n y,DataW.trod enc P W 0 (fun _=>true) true n f.type ((cs.drop f.offset).take (P.cellsOf f.type))=some y:=by
  cases fuel with
  |zero=>simp[DataW.trod]at hd
  |succ n=>
   unfold DataW.trod at hd
   rw[F.ut]at hd
   simp only at hd
   split at hd
   ·rename_i hl
    refine⟨hl.trans F.sz,fun i f hf=>?_⟩
    rw[Option.map_eq_some_iff]at hd
    obtain⟨xs,hx,_⟩:=hd
    have:=mapM_some_get hx i f hf
    have hlen:=mapM_some_length hx
    have hi:i<xs.length:=by rw[hlen];exact(List.getElem?_eq_some_iff.1 hf).1
    exact⟨n,xs[i],by rw[this];simp⟩
   ·cases hd
 obtain⟨hl,hf⟩:=hf
 have go:∀ (ks:List Kd) (n:Nat),VA P fs.toList n ks->cs.length=n+ks.length->Fits ks (cs.drop n):=by
  intro ks
  induction ks with
  |nil=>intro n _ e;exact List.drop_eq_nil_of_le (by rw[e];exact Nat.le_refl _)
  |cons k ks ih=>
   rintro n ⟨⟨f,g,o,c,u⟩,hr⟩ e
   have hlt:n<cs.length:=by rw[e,List.length_cons];omega
   have hc:cs.drop n=cs[n]::cs.drop (n+1):=List.drop_eq_getElem_cons hlt
   obtain⟨m,y,h⟩:=hf n f g
   rw[o,c,hc]at h
   refine⟨cs[n],cs.drop (n+1),hc,?_,ih (n+1) hr (by rw[e,List.length_cons];omega)⟩
   cases k with
   |i kd=>
    obtain⟨z,e1,_,z1⟩:=DataW.trod_int u h
    exact⟨z,(List.cons.inj e1).1,z1⟩
   |s=>
    obtain⟨z,e1,_,z1⟩:=DataW.trod_string u h
    exact⟨z,(List.cons.inj e1).1,z1⟩
   |b=>
    obtain⟨z,e1,_⟩:=DataW.trod_bool u h
    exact⟨z,(List.cons.inj e1).1⟩
 have:=go ks 0 F.fld (by rw[hl,Nat.zero_add])
 rwa [List.drop_zero]at this
theorem OQ (W:World) (k:IntKind) (n:Int):C6 W (.int k n)=.i k n:=by unfold C6;rfl
/--a row of structs:c tells a struct's cells -/
theorem QM {α:Type} [Inhabited α] {c:α->List V} {n:Nat} {Pr:α->Prop} (hc:∀ a,(c a).length=n) (hn:1<=n) {W:World} {h:H} (s:Start W h) (h0:0<W.heap.size) {t e:TypeId} {fuel:Nat} {cs:List Value} {x:DataW H'×List MemPlace}
 (ht:P.underlying t=some (.slice e)) (sz:P.cellsOf e=n) (cell:∀ (fuel:Nat) (cs:List Value) (x:DataW H'×List MemPlace),DataW.trod enc P W 0 (fun _=>true) true fuel e cs=some x->∃ a,cs.map (C6 W)=c a/\Pr a)
 (hd:DataW.trod enc P W 0 (fun _=>true) true fuel t cs=some x):∃ sv L,cs=[sv]/\Ss n c h (C6 W sv) L/\L.length<=9223372036854775807/\∀ a∈L,Pr a:=by
 rcases open_slice ht hd with⟨rfl,_⟩|⟨a,len,cap,m,nn,D,Pl,rfl,hb,hl,hm,hmm,_,hx⟩
 ·exact⟨_,[],rfl,.inl ⟨rfl,rfl⟩,by simp,fun e he=>by cases he⟩
 simp only[if_true]at hmm
 rw[sz]at hx
 have hx':∀ i,i<len->∃ E:α×List Value,E.2.map (C6 W)=c E.1/\Pr E.1/\(∀ d y,E.2[d]? =some y->W.cell? ⟨a.block,a.off+i*n+d,none⟩=some y)/\(0<len->a.spot=none):=by
  intro i hi
  obtain⟨cs',h1,h2⟩:=hx i (by omega)
  obtain⟨z,e1,e2⟩:=cell _ _ _ h2
  have hlen':cs'.length=n:=by have:=congrArg List.length e1;rwa [List.length_map,hc]at this
  obtain⟨_,_,h3⟩:=World.cells?_some h1
  refine⟨(z,cs'),e1,e2,fun d y hy=>?_,fun _=>?_⟩
  ·have hd:d<n:=by have:d<cs'.length:=(List.getElem?_eq_some_iff.1 hy).1;omega
   have hy:cs'[d]? =some y:=hy
   have h4:=h3 d hd
   rw[hy]at h4
   have h5:=Ot h4
   have e1:(a.add (i*n)).block=a.block:=by unfold Addr.add;split<;>rfl
   have e2:(a.add (i*n)).off=a.off+i*n:=by
    unfold Addr.add;split
    ·rename_i hz;rw[hz];rfl
    ·rfl
   rw[e1,e2]at h5
   exact h5
  ·obtain⟨cs0,g1,g2⟩:=hx 0 (by omega)
   obtain⟨z0,e3,_⟩:=cell _ _ _ g2
   have hl0:cs0.length=n:=by have:=congrArg List.length e3;rwa [List.length_map,hc]at this
   obtain⟨_,_,g3⟩:=World.cells?_some g1
   have g4:=g3 0 (by omega)
   rw[List.getElem?_eq_getElem (by omega)]at g4
   have g5:=World.cell?_spot g4
   unfold Addr.add at g5
   simpa using g5
 haveI:Inhabited (α×List Value):=⟨(default,[])⟩
 obtain⟨E,hE⟩:=choose_lt (α:=α×List Value) (p:=fun i r=>r.2.map (C6 W)=c r.1/\Pr r.1/\(∀ d y,r.2[d]? =some y->W.cell? ⟨a.block,a.off+i*n+d,none⟩=some y)/\(0<len->a.spot=none)) hx'
 have hL:((List.range len).map fun i=>(E i).1).length=len:=by simp
 refine⟨_,(List.range len).map fun i=>(E i).1,rfl,?_,by rw[hL];exact Lm (by omega),fun e he=>?_⟩
 ·obtain⟨b,off,spot⟩:=a
  cases len with
  |zero=>
   have e:C6 W (.slice (some ⟨b,off,spot⟩) 0 cap)=.l (nb 0) 0 0 0 0 none:=by unfold C6;simp only[if_pos h0]
   rw[e]
   exact .inr ⟨nb 0,0,0,0,none,rfl,by simp,(s.Ap 0 h0).1,fun hne=>absurd rfl hne,fun i v hv=>by simp at hv⟩
  |succ m=>
   have hs':spot=none:=(hE 0 (by omega)).2.2.2 (by omega)
   subst hs'
   have hcell:∀ i,i<m+1->∀ d y,(E i).2[d]? =some y->b<W.heap.size/\off+i*n+d<KA W b/\(∃ Ap,h.heap.get (nb b)=some Ap/\Ap.min<=0)/\Ev.cell h (nb b) 0 (off+i*n+d)=some (C6 W y):=
    fun i hi d y hy=>s.cell ((hE i hi).2.2.1 d y hy)
   have hEl:∀ i,i<m+1->(E i).2.length=n:=fun i hi=>by have:=congrArg List.length (hE i hi).1;rwa [List.length_map,hc]at this
   obtain⟨d1,d2,d3,d4⟩:=hcell m (by omega) (n-1) _ (List.getElem?_eq_getElem (by rw[hEl m (by omega)];omega))
   have e:C6 W (.slice (some ⟨b,off,none⟩) (m+1) cap)=.l (nb b) 0 off (m+1) (KA W b) (some cap):=by unfold C6;simp only[if_pos (⟨d1,hl,Nat.lt_of_le_of_lt hm Lo⟩:b<W.heap.size/\m+1<=cap/\cap<18446744073709551616)]
   rw[e]
   have hmul:(m+1)*n=m*n+n:=by rw[Nat.add_mul,Nat.one_mul]
   refine .inr ⟨nb b,0,off,KA W b,some cap,by rw[hL],by rw[hL,hmul];omega,(s.Ap b d1).1,fun _=>d3,fun j v hv=>?_⟩
   have hj:j<(((List.range (m+1)).map fun i=>(E i).1).flatMap c).length:=(List.getElem?_eq_some_iff.1 hv).1
   rw[C3 hc,hL]at hj
   obtain⟨i,d,rfl,hd,hi⟩:∃ i d,j=i*n+d/\d<n/\i<m+1:=⟨j/n,j%n,by rw[Nat.mul_comm];exact(Nat.div_add_mod j n).symm,Nat.mod_lt _ (by omega),Nat.div_lt_of_lt_mul (by rw[Nat.mul_comm];exact hj)⟩
   rw[Kf hc (by rw[hL];exact hi) hd]at hv
   have hG:((List.range (m+1)).map fun i=>(E i).1).getD i default=(E i).1:=by simp[List.getD,hi]
   have hy:(E i).2[d]? =some ((E i).2[d]'(by rw[hEl i hi];exact hd)):=List.getElem?_eq_getElem _
   generalize (E i).2[d]'(by rw[hEl i hi];exact hd)=y at hy
   rw[hG,<-(hE i hi).1]at hv
   have:((E i).2.map (C6 W)).getD d .u=C6 W y:=by simp[List.getD,hy]
   rw[this]at hv
   cases hv
   rw[<-Nat.add_assoc]
   exact(hcell i hi d y hy).2.2.2
 ·obtain⟨i,hi,rfl⟩:=List.mem_map.1 he
  rw[List.mem_range]at hi
  exact(hE i hi).2.1
end
end Go.Ev
set_option maxRecDepth 1000000
namespace Go.Proofs.Ytobfgempjekjpaa
open Go Go.Ev
abbrev vo:CC:=(CC.seq (CC.region [(wB 2 (AB (O.c V.l0)))]) CC.ret)
abbrev ABi:CC:=(CC.cond (tm 4) vo CC.skip)
abbrev yc:CC:=(CC.seq (CC.region [(wB 3 (AB (tm 0))),(wB 4 (Jn Wz Bool.false (tm 3) (O.c V.l0)))]) ABi)
abbrev qW:CC:=(CC.seq (CC.region [(wB 5 (A8 57 0 [] [])),(wB 6 (AB (tm 0))),(wB 7 (BZ 57 5 (tm 5) (tm 6))),(wB 2 (AB (tm 7)))]) CC.ret)
abbrev oP:CC:=(CC.seq yc qW)
abbrev b48:CC:=(CC.seq (CC.region [(wB 2 (AB (O.c V.l0)))]) oP)
theorem c48:AZ Try.prog 48=⟨8,b48,[(Rs.tmp (AX 2))]⟩:=by kernel_rfl
abbrev sR:CC:=(CC.seq (CC.region [(wB 13 (AB (tm 0))),(wB 4 (AB (tm 13)))]) CC.ret)
abbrev xA:CC:=(CC.cond (tm 12) sR CC.skip)
abbrev pV:CC:=(CC.seq (CC.region [(wB 11 (AB (tm 5))),(wB 12 (AM Cl (tm 11) (O.c (V.i IntKind.i64 (Int.negSucc 0)))))]) xA)
abbrev wh:CC:=(CC.cond (tm 19) CC.skip (CC.exit 0))
abbrev xl:CC:=(CC.seq (CC.region [(wB 16 (AB (tm 6))),(wB 17 (AB (tm 0))),(wB 18 (BN (tm 17))),(wB 19 (AM Bg (tm 16) (tm 18)))]) wh)
abbrev y5:CC:=(CC.region [(wB 34 (AB (tm 5))),(wB 35 (AM BE (tm 34) (oN 1))),(wB 5 (AB (tm 35)))])
abbrev uc:CC:=(CC.seq (CC.region [(wB 30 (AB (tm 0))),(wB 31 (AB (tm 5))),(wB 32 (Aa 5 (tm 7))),(wB 33 (AG 5 (tm 30) (tm 31))),(CO.mk G.none D.none Bool.true (CR.mk (Ad 5 (tm 33) (tm 32))))]) y5)
abbrev xV:CC:=(CC.cond (tm 29) uc CC.skip)
abbrev wS:CC:=(CC.seq (CC.region [(wB 26 (AB (tm 1))),(wB 27 (Aa 5 (tm 7))),(wB 28 (Bm (tm 26) [(tm 27)])),(wB 29 (CS (tm 28)))]) xV)
abbrev AAR:CC:=(CC.seq (CC.region [(wB 22 (AB (tm 0))),(wB 23 (AB (tm 6))),(wB 24 (AG 5 (tm 22) (tm 23))),(wB 25 (Aa 5 (tm 24))),(wB 7 (Bj 57 [(V.i IntKind.i64 (Int.ofNat 0)),(V.i IntKind.i64 (Int.ofNat 0)),(V.s 0 0),(V.s 0 0),(V.i IntKind.i64 (Int.ofNat 0))])),(CO.mk G.none D.none Bool.true (CR.mk (Ad 5 (tm 7) (tm 25))))]) wS)
abbrev dD:CC:=(CC.block 1 AAR)
abbrev kW:CC:=(CC.region [(wB 20 (AB (tm 6))),(wB 21 (AM BE (tm 20) (oN 1))),(wB 6 (AB (tm 21)))])
abbrev dz:CC:=(CC.seq dD kW)
abbrev u5:CC:=(CC.seq xl dz)
abbrev bN:CC:=(CC.loop u5)
abbrev lU:CC:=(CC.block 0 bN)
abbrev ah:CC:=(CC.seq (CC.region [(wB 14 (AB (tm 5))),(wB 15 (AM BE (tm 14) (oN 1))),(wB 6 (AB (tm 15)))]) lU)
abbrev iE:CC:=(CC.seq (CC.region [(wB 39 (AB (tm 0))),(wB 40 (AB (tm 5))),(wB 41 (CV 5 (tm 39) none (some (tm 40)))),(wB 4 (AB (tm 41)))]) CC.ret)
abbrev hP:CC:=(CC.seq (CC.region [(wB 36 (AB (tm 0))),(wB 37 (AB (tm 5))),(wB 38 (CV 5 (tm 36) (some (tm 37)) none)),(CO.mk G.none D.none Bool.true (CR.mk (EN [(V.i IntKind.i64 (Int.ofNat 0)),(V.i IntKind.i64 (Int.ofNat 0)),(V.s 0 0),(V.s 0 0),(V.i IntKind.i64 (Int.ofNat 0))] (tm 38))))]) iE)
abbrev dS:CC:=(CC.seq ah hP)
abbrev mQ:CC:=(CC.seq pV dS)
abbrev aO:CC:=(CC.seq (CC.region [(wB 8 (AB (tm 0))),(wB 9 (AB (tm 1))),(wB 10 (AY 72 [(tm 8),(tm 9)])),(wB 5 (AB (tm 10)))]) mQ)
abbrev b59:CC:=(CC.seq (CC.region [(wB 4 (AB (O.c V.l0)))]) aO)
theorem c59:AZ Try.prog 59=⟨42,b59,[(Rs.tmp (AX 4))]⟩:=by kernel_rfl
abbrev tN:CC:=(CC.seq (CC.region [(wB 5 (AB (tm 0))),(wB 6 (AB (tm 1))),(wB 7 (AY 72 [(tm 5),(tm 6)])),(wB 8 (AM Dp (tm 7) (oN 0))),(wB 4 (AB (tm 8)))]) CC.ret)
abbrev b57:CC:=(CC.seq (CC.region [(wB 4 (AB (O.c (V.b Bool.false))))]) tN)
theorem c57:AZ Try.prog 57=⟨9,b57,[(Rs.tmp (AX 4))]⟩:=by kernel_rfl
abbrev pD:CC:=(CC.cond (tm 9) CC.skip (CC.exit 0))
abbrev ABL:CC:=(CC.seq (CC.region [(wB 17 (AB (tm 5))),(wB 4 (AB (tm 17)))]) CC.ret)
abbrev ACc:CC:=(CC.cond (tm 16) ABL CC.skip)
abbrev xi:CC:=(CC.seq (CC.region [(wB 11 (AB (tm 1))),(wB 12 (AB (tm 0))),(wB 13 (AB (tm 5))),(wB 14 (AG 5 (tm 12) (tm 13))),(wB 15 (Aa 5 (tm 14))),(wB 16 (Bm (tm 11) [(tm 15)]))]) ACc)
abbrev zp:CC:=(CC.seq (CC.region [(wB 10 (AB (tm 8))),(wB 5 (AB (tm 10)))]) xi)
abbrev xm:CC:=(CC.block 1 zp)
abbrev yv:CC:=(CC.region [(wB 18 (AM BE (tm 8) (oN 1))),(wB 8 (AB (tm 18)))])
abbrev vz:CC:=(CC.seq xm yv)
abbrev v9:CC:=(CC.seq pD vz)
abbrev yg:CC:=(CC.seq (CC.region [(wB 9 (AM Bg (tm 8) (tm 7)))]) v9)
abbrev xL:CC:=(CC.loop yg)
abbrev bQ:CC:=(CC.block 0 xL)
abbrev jT:CC:=(CC.seq (CC.region [(wB 6 (AB (tm 0))),(wB 7 (BN (tm 6))),(wB 8 (AB (oN 0)))]) bQ)
abbrev nd:CC:=(CC.seq (CC.region [(wB 4 (AB (O.c (V.i IntKind.i64 (Int.negSucc 0)))))]) CC.ret)
abbrev cL:CC:=(CC.seq jT nd)
abbrev b72:CC:=(CC.seq (CC.region [(wB 4 (AB (oN 0)))]) cL)
theorem c72:AZ Try.prog 72=⟨19,b72,[(Rs.tmp (AX 4))]⟩:=by kernel_rfl
abbrev vk:CC:=(CC.seq (CC.region [(wB 5 (AB (tm 0))),(wB 6 (AB (tm 1))),(wB 7 (AY 73 [(tm 5),(tm 6)])),(wB 8 (AM Dp (tm 7) (oN 0))),(wB 4 (AB (tm 8)))]) CC.ret)
abbrev b61:CC:=(CC.seq (CC.region [(wB 4 (AB (O.c (V.b Bool.false))))]) vk)
theorem c61:AZ Try.prog 61=⟨9,b61,[(Rs.tmp (AX 4))]⟩:=by kernel_rfl
abbrev rh:CC:=(CC.cond (tm 9) CC.skip (CC.exit 0))
abbrev qm:CC:=(CC.seq (CC.region [(wB 17 (AB (tm 5))),(wB 4 (AB (tm 17)))]) CC.ret)
abbrev ABR:CC:=(CC.cond (tm 16) qm CC.skip)
abbrev yi:CC:=(CC.seq (CC.region [(wB 11 (AB (tm 1))),(wB 12 (AB (tm 0))),(wB 13 (AB (tm 5))),(wB 14 (AG 1 (tm 12) (tm 13))),(wB 15 (AK (tm 14))),(wB 16 (AM Cl (tm 11) (tm 15)))]) ABR)
abbrev uu:CC:=(CC.seq (CC.region [(wB 10 (AB (tm 8))),(wB 5 (AB (tm 10)))]) yi)
abbrev sV:CC:=(CC.block 1 uu)
abbrev AAr:CC:=(CC.region [(wB 18 (AM BE (tm 8) (oN 1))),(wB 8 (AB (tm 18)))])
abbrev yD:CC:=(CC.seq sV AAr)
abbrev wD:CC:=(CC.seq rh yD)
abbrev ABl:CC:=(CC.seq (CC.region [(wB 9 (AM Bg (tm 8) (tm 7)))]) wD)
abbrev uF:CC:=(CC.loop ABl)
abbrev cq:CC:=(CC.block 0 uF)
abbrev fg:CC:=(CC.seq (CC.region [(wB 6 (AB (tm 0))),(wB 7 (BN (tm 6))),(wB 8 (AB (oN 0)))]) cq)
abbrev hZ:CC:=(CC.seq (CC.region [(wB 4 (AB (O.c (V.i IntKind.i64 (Int.negSucc 0)))))]) CC.ret)
abbrev ff:CC:=(CC.seq fg hZ)
abbrev b73:CC:=(CC.seq (CC.region [(wB 4 (AB (oN 0)))]) ff)
theorem c73:AZ Try.prog 73=⟨19,b73,[(Rs.tmp (AX 4))]⟩:=by kernel_rfl
abbrev pR:CC:=(CC.seq (CC.region [(wB 3 (AB (tm 0))),(wB 4 (AY 74 [(tm 3)])),(wB 2 (AB (tm 4)))]) CC.ret)
abbrev b62:CC:=(CC.seq (CC.region [(wB 2 (AB (O.c (V.s 0 0))))]) pR)
theorem c62:AZ Try.prog 62=⟨5,b62,[(Rs.tmp (AX 2))]⟩:=by kernel_rfl
abbrev AAw:CC:=(CC.seq (CC.region [(wB 2 (AB (O.c (V.s 0 0))))]) CC.ret)
abbrev uv:CC:=(CC.cond (tm 6) AAw CC.skip)
abbrev zB:CC:=(CC.seq (CC.region [(wB 4 (AB (tm 0))),(wB 5 (Bp (tm 4))),(wB 6 (AM Cl (tm 5) (oN 0)))]) uv)
abbrev pj:CC:=(CC.seq (CC.region [(wB 13 (AB (tm 3))),(wB 14 (AG 1 (tm 13) (oN 0))),(wB 15 (AB (tm 3))),(wB 16 (BN (tm 15))),(wB 17 (Ea 5 (tm 14) (tm 16))),(wB 2 (AB (tm 17)))]) CC.ret)
abbrev zW:CC:=(CC.seq (CC.region [(wB 10 (AB (tm 3))),(wB 11 (AB (tm 0))),(wB 12 (HJ (tm 10) (tm 11)))]) pj)
abbrev wQ:CC:=(CC.seq (CC.region [(wB 7 (AB (tm 0))),(wB 8 (Bp (tm 7))),(wB 9 (Dh 5 [(V.i IntKind.u8 (Int.ofNat 0))] (tm 8) (tm 8))),(wB 3 (AB (tm 9)))]) zW)
abbrev AAH:CC:=(CC.seq zB wQ)
abbrev b74:CC:=(CC.seq (CC.region [(wB 2 (AB (O.c (V.s 0 0))))]) AAH)
theorem c74:AZ Try.prog 74=⟨18,b74,[(Rs.tmp (AX 2))]⟩:=by kernel_rfl
abbrev pz:CC:=(CC.seq (CC.region [(wB 1 (De [V.l0,(V.i IntKind.i64 (Int.ofNat 0)),(V.i IntKind.i64 (Int.ofNat 0)),(V.i IntKind.i64 (Int.ofNat 0))] [(Pt.mk 1 1 (oN 1)),(Pt.mk 3 1 (oN 1))])),(wB 2 (Cd 79 (tm 1))),(wB 0 (AB (tm 2)))]) CC.ret)
abbrev b17:CC:=(CC.seq (CC.region [(wB 0 (AB (O.c V.p0)))]) pz)
theorem c17:AZ Try.prog 17=⟨3,b17,[(Rs.tmp (AX 0))]⟩:=by kernel_rfl
abbrev uo:CC:=(CC.seq (CC.region [(wB 4 (AB (oN 10)))]) CC.ret)
abbrev xH:CC:=(CC.seq (CC.region [(wB 4 (AB (oN 18)))]) CC.ret)
abbrev sW:CC:=(CC.seq (CC.region [(wB 4 (AB (oN 16)))]) CC.ret)
abbrev AAJ:CC:=(CC.cond (tm 17) sW CC.skip)
abbrev wF:CC:=(CC.seq (CC.region [(wB 18 (AB (tm 0))),(wB 19 (Aa 4 (tm 3))),(wB 20 (AY 43 [(tm 18),(tm 19)])),(wB 17 (AB (tm 20)))]) AAJ)
abbrev pC:CC:=(CC.cond (tm 11) xH wF)
abbrev yz:CC:=(CC.seq (CC.region [(wB 12 (AB (tm 0))),(wB 13 (AF 0 (tm 3))),(wB 14 (AK (tm 13))),(wB 15 (AY 42 [(tm 12),(tm 14)])),(wB 16 (CS (tm 15))),(wB 11 (AB (tm 16)))]) pC)
abbrev uJ:CC:=(CC.cond (tm 7) uo yz)
abbrev ve:CC:=(CC.seq (CC.region [(wB 8 (Aa 4 (tm 3))),(wB 9 (AY 31 [(tm 8)])),(wB 10 (CS (tm 9))),(wB 7 (AB (tm 10)))]) uJ)
abbrev rW:CC:=(CC.block 0 ve)
abbrev aM:CC:=(CC.seq (CC.region [(wB 4 (AB (oN 16)))]) CC.ret)
abbrev lZ:CC:=(CC.seq (CC.region [(wB 4 (AB (oN 25)))]) CC.ret)
abbrev dO:CC:=(CC.cond (tm 27) lZ CC.skip)
abbrev nF:CC:=(CC.seq (CC.region [(wB 28 (AB (tm 5))),(wB 29 (BN (tm 28))),(wB 30 (AM Cs (tm 29) (oN 40))),(wB 27 (AB (tm 30)))]) dO)
abbrev mT:CC:=(CC.cond (tm 24) aM nF)
abbrev lF:CC:=(CC.seq (CC.region [(wB 25 (AB (tm 5))),(wB 26 (AY 45 [(tm 25)])),(wB 24 (AB (tm 26)))]) mT)
abbrev kq:CC:=(CC.block 1 lF)
abbrev Z8:CC:=(CC.region [(wB 61 (AB (tm 0))),(wB 62 (AF 1 (tm 3))),(wB 63 (AK (tm 62))),(wB 64 (AB (tm 6))),(wB 65 (AG 5 (tm 63) (tm 64))),(wB 66 (AF 0 (tm 65))),(wB 67 (AK (tm 66))),(wB 68 (AM BE (tm 67) (oN 1))),(wB 69 (AO (tm 61))),(wB 70 (AF 3 (tm 69))),(CO.mk G.none D.none Bool.true (CR.mk (Ad 1 (tm 70) (tm 68))))])
abbrev Y3:CC:=(CC.cond (tm 60) Z8 CC.skip)
abbrev eU:CC:=(CC.seq (CC.region [(wB 59 (AB (tm 6))),(wB 60 (AM Dp (tm 59) (oN 0)))]) Y3)
abbrev ko:CC:=(CC.seq (CC.region [(wB 55 (AF 1 (tm 3))),(wB 56 (AK (tm 55))),(wB 57 (BN (tm 56))),(wB 58 (AM Bi (tm 57) (oN 1))),(wB 6 (AB (tm 58)))]) eU)
abbrev aL:CC:=(CC.seq (CC.region [(wB 4 (AB (oN 0)))]) CC.ret)
abbrev fq:CC:=(CC.seq ko aL)
abbrev bU:CC:=(CC.seq (CC.Ax [(uB 35 (AB (tm 0))),(uB 36 (AB (tm 0))),(uB 37 (AB (tm 0))),(uB 38 (AO (tm 37))),(uB 39 (AF 1 (tm 38))),(uB 40 (AK (tm 39))),(uB 41 (AF 2 (tm 3))),(uB 42 (AK (tm 41))),(uB 43 (FM (tm 40) (tm 42))),(uB 44 (AB (tm 0))),(uB 45 (AO (tm 44))),(uB 46 (AF 2 (tm 45))),(uB 47 (AK (tm 46))),(uB 48 (AF 3 (tm 3))),(uB 49 (AK (tm 48))),(uB 50 (FM (tm 47) (tm 49))),(uB 51 (AO (tm 35))),(uB 52 (AF 1 (tm 51))),(CO.mk G.none D.none Bool.false (CR.mk (Ad 1 (tm 52) (tm 43)))),(wB 53 (AO (tm 36))),(uB 54 (AF 2 (tm 53))),(CO.mk G.none D.none Bool.true (CR.mk (Ad 1 (tm 54) (tm 50))))] (some ([18,21],[(3,[0]),(5,[0]),(7,[0]),(10,[0]),(12,[0]),(14,[0,19]),(16,[0]),(19,[19])]))) fq)
abbrev ia:CC:=(CC.seq (CC.region [(wB 31 (AB (tm 0))),(wB 32 (AB (tm 5))),(wB 33 (AO (tm 31))),(wB 34 (AF 0 (tm 33))),(CO.mk G.none D.none Bool.true (CR.mk (Ad 1 (tm 34) (tm 32))))]) bU)
abbrev kf:CC:=(CC.seq kq ia)
abbrev dE:CC:=(CC.seq (CC.region [(wB 21 (AB (tm 0))),(wB 22 (Aa 4 (tm 3))),(wB 23 (AY 44 [(tm 21),(tm 22)])),(wB 5 (AB (tm 23)))]) kf)
abbrev fW:CC:=(CC.seq rW dE)
abbrev b18:CC:=(CC.seq (CC.region [(wB 3 (Cd 35 (tm 1))),(wB 4 (AB (oN 0)))]) fW)
theorem c18:AZ Try.prog 18=⟨71,b18,[(Rs.tmp (AX 4))]⟩:=by kernel_rfl
abbrev qO:CC:=(CC.seq (CC.region [(wB 3 (AB (tm 0))),(wB 4 (AO (tm 3))),(wB 5 (AF 0 (tm 4))),(wB 6 (AK (tm 5))),(wB 7 (AY 48 [(tm 6)])),(wB 2 (AB (tm 7)))]) CC.ret)
abbrev b26:CC:=(CC.seq (CC.region [(wB 2 (AB (O.c V.l0)))]) qO)
theorem c26:AZ Try.prog 26=⟨8,b26,[(Rs.tmp (AX 2))]⟩:=by kernel_rfl
abbrev r9:CC:=(CC.cond (tm 14) CC.skip (CC.exit 0))
abbrev xd:CC:=(CC.region [(wB 21 (AB (tm 5))),(wB 22 (Aa 5 (tm 7))),(wB 23 (A8 57 1 [(V.i IntKind.i64 (Int.ofNat 0)),(V.i IntKind.i64 (Int.ofNat 0)),(V.s 0 0),(V.s 0 0),(V.i IntKind.i64 (Int.ofNat 0))] [(Pt.mk 0 5 (tm 22))])),(wB 24 (BZ 57 5 (tm 21) (tm 23))),(wB 5 (AB (tm 24)))])
abbrev tE:CC:=(CC.cond (tm 20) xd CC.skip)
abbrev pd:CC:=(CC.seq (CC.region [(wB 17 (AF 1 (tm 7))),(wB 18 (AK (tm 17))),(wB 19 (AB (tm 1))),(wB 20 (AM Cl (tm 18) (tm 19)))]) tE)
abbrev om:CC:=(CC.seq (CC.region [(wB 15 (AG 5 (tm 11) (tm 13))),(wB 16 (Aa 5 (tm 15))),(wB 7 (Bj 57 [(V.i IntKind.i64 (Int.ofNat 0)),(V.i IntKind.i64 (Int.ofNat 0)),(V.s 0 0),(V.s 0 0),(V.i IntKind.i64 (Int.ofNat 0))])),(CO.mk G.none D.none Bool.true (CR.mk (Ad 5 (tm 7) (tm 16))))]) pd)
abbrev ABV:CC:=(CC.block 1 om)
abbrev ABE:CC:=(CC.region [(wB 25 (AM BE (tm 13) (oN 1))),(wB 13 (AB (tm 25)))])
abbrev xb:CC:=(CC.seq ABV ABE)
abbrev wx:CC:=(CC.seq r9 xb)
abbrev si:CC:=(CC.seq (CC.region [(wB 14 (AM Bg (tm 13) (tm 12)))]) wx)
abbrev yT:CC:=(CC.loop si)
abbrev nJ:CC:=(CC.block 0 yT)
abbrev gN:CC:=(CC.seq (CC.region [(wB 8 (AB (tm 0))),(wB 9 (AO (tm 8))),(wB 10 (AF 0 (tm 9))),(wB 11 (AK (tm 10))),(wB 12 (BN (tm 11))),(wB 13 (AB (oN 0)))]) nJ)
abbrev ZC:CC:=(CC.seq (CC.region [(wB 26 (AB (tm 5))),(wB 4 (AB (tm 26)))]) CC.ret)
abbrev cK:CC:=(CC.seq gN ZC)
abbrev dR:CC:=(CC.seq (CC.region [(wB 5 (AB (O.c V.l0)))]) cK)
abbrev b25:CC:=(CC.seq (CC.region [(wB 4 (AB (O.c V.l0)))]) dR)
theorem c25:AZ Try.prog 25=⟨27,b25,[(Rs.tmp (AX 4))]⟩:=by kernel_rfl
abbrev zR:CC:=(CC.seq (CC.region [(wB 3 (AB (tm 0))),(wB 4 (AO (tm 3))),(wB 5 (AF 1 (tm 4))),(wB 6 (AK (tm 5))),(wB 2 (AB (tm 6)))]) CC.ret)
abbrev b28:CC:=(CC.seq (CC.region [(wB 2 (AB (oN 0)))]) zR)
theorem c28:AZ Try.prog 28=⟨7,b28,[(Rs.tmp (AX 2))]⟩:=by kernel_rfl
abbrev vm:CC:=(CC.seq (CC.region [(wB 3 (AB (tm 0))),(wB 4 (AO (tm 3))),(wB 5 (AF 2 (tm 4))),(wB 6 (AK (tm 5))),(wB 2 (AB (tm 6)))]) CC.ret)
abbrev b29:CC:=(CC.seq (CC.region [(wB 2 (AB (oN 0)))]) vm)
theorem c29:AZ Try.prog 29=⟨7,b29,[(Rs.tmp (AX 2))]⟩:=by kernel_rfl
abbrev qq:CC:=(CC.seq (CC.region [(wB 3 (AB (tm 0))),(wB 4 (AO (tm 3))),(wB 5 (AF 3 (tm 4))),(wB 6 (AK (tm 5))),(wB 2 (AB (tm 6)))]) CC.ret)
abbrev b27:CC:=(CC.seq (CC.region [(wB 2 (AB (oN 0)))]) qq)
theorem c27:AZ Try.prog 27=⟨7,b27,[(Rs.tmp (AX 2))]⟩:=by kernel_rfl
abbrev sm:CC:=(CC.seq (CC.Ax [(uB 3 (AB (tm 0))),(uB 4 (AY 26 [(tm 3)])),(uB 5 (AB (tm 0))),(uB 6 (AO (tm 5))),(uB 7 (AF 1 (tm 6))),(uB 8 (AK (tm 7))),(uB 9 (AB (tm 0))),(uB 10 (AO (tm 9))),(uB 11 (AF 2 (tm 10))),(uB 12 (AK (tm 11))),(uB 13 (AB (tm 0))),(uB 14 (AO (tm 13))),(uB 15 (AF 3 (tm 14))),(uB 16 (AK (tm 15))),(uB 17 (De [V.l0,(V.i IntKind.i64 (Int.ofNat 0)),(V.i IntKind.i64 (Int.ofNat 0)),(V.i IntKind.i64 (Int.ofNat 0))] [(Pt.mk 0 1 (tm 4)),(Pt.mk 1 1 (tm 8)),(Pt.mk 2 1 (tm 12)),(Pt.mk 3 1 (tm 16))])),(wB 18 (Cd 79 (tm 17))),(uB 2 (AB (tm 18)))] (some ([1,15],[(3,[0,2]),(5,[0,2]),(7,[0,2]),(9,[0,2]),(11,[0,2]),(13,[0,2])]))) CC.ret)
abbrev b30:CC:=(CC.seq (CC.region [(wB 2 (AB (O.c V.p0)))]) sm)
theorem c30:AZ Try.prog 30=⟨19,b30,[(Rs.tmp (AX 2))]⟩:=by kernel_rfl
abbrev tC:CC:=(CC.seq (CC.region [(wB 2 (AB (O.c (V.b Bool.false))))]) CC.ret)
abbrev tq:CC:=(CC.cond (tm 14) tC CC.skip)
abbrev wV:CC:=(CC.seq (CC.region [(wB 5 (AF 0 (tm 1))),(wB 6 (AK (tm 5))),(wB 7 (BN (tm 6))),(wB 8 (AM Cs (tm 7) (oN 40))),(wB 9 (AB (tm 8))),(wG 9 false 10 (AF 1 (tm 1))),(wG 9 false 11 (AK (tm 10))),(wG 9 false 12 (BN (tm 11))),(wG 9 false 13 (AM Cs (tm 12) (oN 40))),(wB 14 (Al (tm 9) (O.c (V.b Bool.true)) (tm 13)))]) tq)
abbrev ABr:CC:=(CC.cond (tm 19) CC.skip (CC.exit 0))
abbrev xP:CC:=(CC.seq (CC.region [(wB 2 (AB (O.c (V.b Bool.false))))]) CC.ret)
abbrev AAv:CC:=(CC.cond (tm 25) xP CC.skip)
abbrev ui:CC:=(CC.seq (CC.region [(wB 23 (Aa 5 (tm 4))),(wB 24 (AY 49 [(tm 23)])),(wB 25 (CS (tm 24)))]) AAv)
abbrev vC:CC:=(CC.seq (CC.region [(wB 2 (AB (O.c (V.b Bool.false))))]) CC.ret)
abbrev zh:CC:=(CC.cond (tm 39) vC CC.skip)
abbrev yE:CC:=(CC.seq (CC.Ax [(uB 26 (AB (tm 3))),(uB 27 (AM Cs (tm 26) (oN 0))),(uB 28 (AB (tm 27))),(uG 28 true 29 (AF 1 (tm 1))),(uG 28 true 30 (AK (tm 29))),(uG 28 true 31 (AB (tm 3))),(uG 28 true 32 (AM Bi (tm 31) (oN 1))),(uG 28 true 33 (AG 5 (tm 30) (tm 32))),(uG 28 true 34 (AF 0 (tm 33))),(uG 28 true 35 (AK (tm 34))),(uG 28 true 36 (AF 0 (tm 4))),(uG 28 true 37 (AK (tm 36))),(uG 28 true 38 (AM Dp (tm 35) (tm 37))),(uB 39 (Al (tm 28) (tm 38) (O.c (V.b Bool.false))))] none) zh)
abbrev cT:CC:=(CC.seq ui yE)
abbrev da:CC:=(CC.seq (CC.region [(wB 20 (AB (tm 18))),(wB 21 (AG 5 (tm 16) (tm 18))),(wB 22 (Aa 5 (tm 21))),(wB 4 (Bj 57 [(V.i IntKind.i64 (Int.ofNat 0)),(V.i IntKind.i64 (Int.ofNat 0)),(V.s 0 0),(V.s 0 0),(V.i IntKind.i64 (Int.ofNat 0))])),(wB 3 (AB (tm 20))),(CO.mk G.none D.none Bool.true (CR.mk (Ad 5 (tm 4) (tm 22))))]) cT)
abbrev mX:CC:=(CC.block 1 da)
abbrev cg:CC:=(CC.region [(wB 40 (AM BE (tm 18) (oN 1))),(wB 18 (AB (tm 40)))])
abbrev dF:CC:=(CC.seq mX cg)
abbrev dH:CC:=(CC.seq ABr dF)
abbrev qG:CC:=(CC.seq (CC.region [(wB 19 (AM Bg (tm 18) (tm 17)))]) dH)
abbrev kS:CC:=(CC.loop qG)
abbrev fH:CC:=(CC.block 0 kS)
abbrev gW:CC:=(CC.seq (CC.region [(wB 15 (AF 1 (tm 1))),(wB 16 (AK (tm 15))),(wB 17 (BN (tm 16))),(wB 18 (AB (oN 0)))]) fH)
abbrev mA:CC:=(CC.seq (CC.region [(wB 41 (AF 2 (tm 1))),(wB 42 (AK (tm 41))),(wB 43 (AY 50 [(oN 0),(tm 42),(oN 1000000)])),(wB 44 (AB (tm 43))),(wG 44 true 45 (AF 3 (tm 1))),(wG 44 true 46 (AK (tm 45))),(wG 44 true 47 (AY 50 [(oN 0),(tm 46),(oN 1000000)])),(wB 48 (Al (tm 44) (tm 47) (O.c (V.b Bool.false)))),(wB 2 (AB (tm 48)))]) CC.ret)
abbrev iN:CC:=(CC.seq gW mA)
abbrev cE:CC:=(CC.seq wV iN)
abbrev b31:CC:=(CC.seq (CC.region [(wB 1 (Cd 35 (tm 0))),(wB 2 (AB (O.c (V.b Bool.false))))]) cE)
theorem c31:AZ Try.prog 31=⟨49,b31,[(Rs.tmp (AX 2))]⟩:=by kernel_rfl
abbrev ABx:CC:=(CC.seq (CC.region [(wB 3 (AF 0 (tm 1))),(wB 4 (AK (tm 3))),(wB 5 (AY 50 [(oN 1),(tm 4),(oN 1000000)])),(wB 6 (AB (tm 5))),(wG 6 true 7 (AF 1 (tm 1))),(wG 6 true 8 (AK (tm 7))),(wG 6 true 9 (AY 50 [(oN 0),(tm 8),(oN 1)])),(wB 10 (Al (tm 6) (tm 9) (O.c (V.b Bool.false)))),(wB 11 (AB (tm 10))),(wG 11 true 12 (AF 2 (tm 1))),(wG 11 true 13 (AK (tm 12))),(wG 11 true 14 (AY 65 [(tm 13)])),(wB 15 (Al (tm 11) (tm 14) (O.c (V.b Bool.false)))),(wB 16 (AB (tm 15))),(wG 16 true 17 (AF 3 (tm 1))),(wG 16 true 18 (AK (tm 17))),(wG 16 true 19 (AY 65 [(tm 18)])),(wB 20 (Al (tm 16) (tm 19) (O.c (V.b Bool.false)))),(wB 21 (AB (tm 20))),(wG 21 true 22 (AF 2 (tm 1))),(wG 21 true 23 (AK (tm 22))),(wG 21 true 24 (AF 3 (tm 1))),(wG 21 true 25 (AK (tm 24))),(wG 21 true 26 (CZ (fun a b c d=>G5 a b c d||F6 a b c d) (tm 23) (tm 25))),(wB 27 (Al (tm 21) (tm 26) (O.c (V.b Bool.false)))),(wB 28 (AB (tm 27))),(wG 28 true 29 (AF 4 (tm 1))),(wG 28 true 30 (AK (tm 29))),(wG 28 true 31 (AM Dp (tm 30) (oN 1))),(wB 32 (Al (tm 28) (tm 31) (O.c (V.b Bool.false)))),(wB 2 (AB (tm 32)))]) CC.ret)
abbrev b49:CC:=(CC.seq (CC.region [(wB 1 (Cd 57 (tm 0))),(wB 2 (AB (O.c (V.b Bool.false))))]) ABx)
theorem c49:AZ Try.prog 49=⟨33,b49,[(Rs.tmp (AX 2))]⟩:=by kernel_rfl
abbrev oS:CC:=(CC.seq (CC.region [(wB 7 (AB (tm 0))),(wB 8 (AB (tm 1))),(wB 9 (AM FO (tm 7) (tm 8))),(wB 10 (AB (tm 9))),(wG 10 true 11 (AB (tm 1))),(wG 10 true 12 (AB (tm 2))),(wG 10 true 13 (AM FO (tm 11) (tm 12))),(wB 14 (Al (tm 10) (tm 13) (O.c (V.b Bool.false)))),(wB 6 (AB (tm 14)))]) CC.ret)
abbrev b50:CC:=(CC.seq (CC.region [(wB 6 (AB (O.c (V.b Bool.false))))]) oS)
theorem c50:AZ Try.prog 50=⟨15,b50,[(Rs.tmp (AX 6))]⟩:=by kernel_rfl
abbrev xX:CC:=(CC.seq (CC.region [(wB 3 (AB (tm 0))),(wB 4 (Bp (tm 3))),(wB 5 (AY 50 [(oN 1),(tm 4),(oN 13)])),(wB 2 (AB (tm 5)))]) CC.ret)
abbrev b65:CC:=(CC.seq (CC.region [(wB 2 (AB (O.c (V.b Bool.false))))]) xX)
theorem c65:AZ Try.prog 65=⟨6,b65,[(Rs.tmp (AX 2))]⟩:=by kernel_rfl
abbrev za:CC:=(CC.cond (tm 10) CC.skip (CC.exit 0))
abbrev xK:CC:=(CC.seq (CC.region [(wB 4 (AB (O.c (V.b Bool.false))))]) CC.ret)
abbrev uE:CC:=(CC.cond (tm 19) xK CC.skip)
abbrev sn:CC:=(CC.seq (CC.region [(wB 13 (AB (tm 0))),(wB 14 (AO (tm 13))),(wB 15 (AF 0 (tm 14))),(wB 16 (AK (tm 15))),(wB 17 (Qx 58 [(tm 6)])),(wB 18 (AY 57 [(tm 16),(tm 17)])),(wB 19 (CS (tm 18)))]) uE)
abbrev tT:CC:=(CC.seq (CC.region [(wB 11 (AG 1 (tm 7) (tm 9))),(wB 12 (AK (tm 11))),(wB 6 (Bj 3 [(V.i IntKind.i64 (Int.ofNat 0))])),(CO.mk G.none D.none Bool.true (CR.mk (Ad 1 (tm 6) (tm 12))))]) sn)
abbrev rE:CC:=(CC.block 1 tT)
abbrev pO:CC:=(CC.region [(wB 20 (AM BE (tm 9) (oN 1))),(wB 9 (AB (tm 20)))])
abbrev ABZ:CC:=(CC.seq rE pO)
abbrev wN:CC:=(CC.seq za ABZ)
abbrev ABm:CC:=(CC.seq (CC.region [(wB 10 (AM Bg (tm 9) (tm 8)))]) wN)
abbrev vh:CC:=(CC.loop ABm)
abbrev lu:CC:=(CC.block 0 vh)
abbrev Y4:CC:=(CC.seq (CC.region [(wB 7 (AB (tm 1))),(wB 8 (BN (tm 7))),(wB 9 (AB (oN 0)))]) lu)
abbrev cY:CC:=(CC.seq (CC.region [(wB 4 (AB (O.c (V.b Bool.true))))]) CC.ret)
abbrev fM:CC:=(CC.seq Y4 cY)
abbrev b42:CC:=(CC.seq (CC.region [(wB 4 (AB (O.c (V.b Bool.false))))]) fM)
theorem c42:AZ Try.prog 42=⟨21,b42,[(Rs.tmp (AX 4))]⟩:=by kernel_rfl
abbrev yu:CC:=(CC.seq (CC.region [(wB 4 (AF 0 (tm 2))),(wB 5 (AK (tm 4))),(wB 6 (AK (tm 1))),(wB 7 (AM Cl (tm 5) (tm 6))),(wB 3 (AB (tm 7)))]) CC.ret)
abbrev b58:CC:=(CC.seq (CC.region [(wB 2 (Cd 57 (tm 0))),(wB 3 (AB (O.c (V.b Bool.false))))]) yu)
theorem c58:AZ Try.prog 58=⟨8,b58,[(Rs.tmp (AX 3))]⟩:=by kernel_rfl
abbrev ua:CC:=(CC.seq (CC.region [(wB 4 (AB (O.c (V.b Bool.true))))]) CC.ret)
abbrev AAq:CC:=(CC.seq (CC.region [(wB 4 (AB (O.c (V.b Bool.true))))]) CC.ret)
abbrev AAs:CC:=(CC.seq (CC.Ax [(uB 5 (AF 3 (tm 3))),(wB 6 (AK (tm 5))),(uB 7 (AM Cs (tm 6) (oN 0))),(uB 8 (AB (tm 7))),(uG 8 true 9 (AF 3 (tm 3))),(uG 8 true 10 (AK (tm 9))),(uG 8 true 11 (AB (tm 0))),(uG 8 true 12 (AO (tm 11))),(uG 8 true 13 (AF 2 (tm 12))),(uG 8 true 14 (AK (tm 13))),(uG 8 true 15 (AM Bg (tm 10) (tm 14))),(uB 16 (Al (tm 8) (tm 15) (O.c (V.b Bool.false)))),(uB 4 (AB (tm 16)))] none) CC.ret)
abbrev z6:CC:=(CC.cond (tm 34) AAq AAs)
abbrev ug:CC:=(CC.seq (CC.Ax [(uB 35 (AF 2 (tm 3))),(wB 36 (AK (tm 35))),(uB 37 (AM Cs (tm 36) (oN 0))),(uB 38 (AB (tm 37))),(uG 38 true 39 (AF 2 (tm 3))),(uG 38 true 40 (AK (tm 39))),(uG 38 true 41 (AB (tm 0))),(uG 38 true 42 (AO (tm 41))),(uG 38 true 43 (AF 1 (tm 42))),(uG 38 true 44 (AK (tm 43))),(uG 38 true 45 (AM Bg (tm 40) (tm 44))),(uB 46 (Al (tm 38) (tm 45) (O.c (V.b Bool.false)))),(uB 34 (AB (tm 46)))] none) z6)
abbrev pL:CC:=(CC.cond (tm 17) ua ug)
abbrev qb:CC:=(CC.seq (CC.Ax [(uB 18 (AF 1 (tm 3))),(wB 19 (AK (tm 18))),(uB 20 (BN (tm 19))),(uB 21 (AM Cs (tm 20) (oN 0))),(uB 22 (AB (tm 21))),(uG 22 true 23 (AF 1 (tm 3))),(uG 22 true 24 (AK (tm 23))),(uG 22 true 25 (AG 5 (tm 24) (oN 0))),(uG 22 true 26 (AF 0 (tm 25))),(uG 22 true 27 (AK (tm 26))),(uG 22 true 28 (AB (tm 0))),(uG 22 true 29 (AO (tm 28))),(uG 22 true 30 (AF 3 (tm 29))),(uG 22 true 31 (AK (tm 30))),(uG 22 true 32 (AM Bg (tm 27) (tm 31))),(uB 33 (Al (tm 22) (tm 32) (O.c (V.b Bool.false)))),(uB 17 (AB (tm 33)))] none) pL)
abbrev sL:CC:=(CC.block 0 qb)
abbrev b43:CC:=(CC.seq (CC.region [(wB 3 (Cd 35 (tm 1))),(wB 4 (AB (O.c (V.b Bool.false))))]) sL)
theorem c43:AZ Try.prog 43=⟨47,b43,[(Rs.tmp (AX 4))]⟩:=by kernel_rfl
abbrev yC:CC:=(CC.cond (tm 16) CC.skip (CC.exit 0))
abbrev sT:CC:=(CC.region [(wB 27 (AB (tm 5))),(wB 28 (Aa 5 (tm 7))),(wB 29 (A8 57 1 [(V.i IntKind.i64 (Int.ofNat 0)),(V.i IntKind.i64 (Int.ofNat 0)),(V.s 0 0),(V.s 0 0),(V.i IntKind.i64 (Int.ofNat 0))] [(Pt.mk 0 5 (tm 28))])),(wB 30 (BZ 57 5 (tm 27) (tm 29))),(wB 5 (AB (tm 30)))])
abbrev yV:CC:=(CC.seq (CC.Ax [(uB 19 (AF 2 (tm 7))),(uB 20 (AK (tm 19))),(uB 21 (AY 62 [(tm 20)])),(uB 22 (AF 3 (tm 7))),(uB 23 (AK (tm 22))),(wB 24 (AY 62 [(tm 23)])),(uB 25 (AF 2 (tm 7))),(CO.mk G.none D.none Bool.true (CR.mk (Ad 1 (tm 25) (tm 21)))),(uB 26 (AF 3 (tm 7))),(CO.mk G.none D.none Bool.true (CR.mk (Ad 1 (tm 26) (tm 24))))] (some ([2,5,7,9],[(1,[0]),(4,[0,3])]))) sT)
abbrev uP:CC:=(CC.seq (CC.region [(wB 17 (AG 5 (tm 13) (tm 15))),(wB 18 (Aa 5 (tm 17))),(wB 7 (Bj 57 [(V.i IntKind.i64 (Int.ofNat 0)),(V.i IntKind.i64 (Int.ofNat 0)),(V.s 0 0),(V.s 0 0),(V.i IntKind.i64 (Int.ofNat 0))])),(CO.mk G.none D.none Bool.true (CR.mk (Ad 5 (tm 7) (tm 18))))]) yV)
abbrev oZ:CC:=(CC.block 1 uP)
abbrev pN:CC:=(CC.region [(wB 31 (AM BE (tm 15) (oN 1))),(wB 15 (AB (tm 31)))])
abbrev yG:CC:=(CC.seq oZ pN)
abbrev ACT:CC:=(CC.seq yC yG)
abbrev AAy:CC:=(CC.seq (CC.region [(wB 16 (AM Bg (tm 15) (tm 14)))]) ACT)
abbrev AAL:CC:=(CC.loop AAy)
abbrev ABn:CC:=(CC.block 0 AAL)
abbrev Zr:CC:=(CC.seq (CC.region [(wB 12 (AF 1 (tm 3))),(wB 13 (AK (tm 12))),(wB 14 (BN (tm 13))),(wB 15 (AB (oN 0)))]) ABn)
abbrev jb:CC:=(CC.seq (CC.region [(wB 34 (AB (tm 5))),(wB 4 (AB (tm 34)))]) CC.ret)
abbrev gU:CC:=(CC.seq (CC.region [(wB 32 (AB (tm 5))),(wB 33 (AY 63 [(tm 32),(O.c (V.f 64 []))]))]) jb)
abbrev cM:CC:=(CC.seq Zr gU)
abbrev iz:CC:=(CC.seq (CC.region [(wB 8 (AB (tm 0))),(wB 9 (AY 26 [(tm 8)])),(wB 10 (Qx 60 [(tm 3)])),(wB 11 (AY 59 [(tm 9),(tm 10)])),(wB 5 (AB (tm 11)))]) cM)
abbrev b44:CC:=(CC.seq (CC.region [(wB 3 (Cd 35 (tm 1))),(wB 4 (AB (O.c V.l0)))]) iz)
theorem c44:AZ Try.prog 44=⟨35,b44,[(Rs.tmp (AX 4))]⟩:=by kernel_rfl
abbrev y6:CC:=(CC.seq (CC.region [(wB 4 (AF 0 (tm 1))),(wB 5 (AK (tm 4))),(wB 6 (AF 0 (tm 2))),(wB 7 (AK (tm 6))),(wB 8 (AY 61 [(tm 5),(tm 7)])),(wB 3 (AB (tm 8)))]) CC.ret)
abbrev b60:CC:=(CC.seq (CC.region [(wB 2 (Cd 57 (tm 0))),(wB 3 (AB (O.c (V.b Bool.false))))]) y6)
theorem c60:AZ Try.prog 60=⟨9,b60,[(Rs.tmp (AX 3))]⟩:=by kernel_rfl
abbrev tV:CC:=(CC.cond (tm 8) CC.skip (CC.exit 0))
abbrev yQ:CC:=(CC.seq (CC.region [(wB 2 (AB (O.c (V.b Bool.true))))]) CC.ret)
abbrev yx:CC:=(CC.cond (tm 33) yQ CC.skip)
abbrev xB:CC:=(CC.seq (CC.Ax [(uB 12 (AB (tm 3))),(uB 13 (AM Cs (tm 12) (oN 0))),(uB 14 (AB (tm 13))),(uG 14 true 15 (AB (tm 0))),(uG 14 true 16 (AB (tm 3))),(uG 14 true 17 (AM Bi (tm 16) (oN 1))),(uG 14 true 18 (AG 5 (tm 15) (tm 17))),(uG 14 true 19 (AF 1 (tm 18))),(wG 14 true 20 (AK (tm 19))),(uG 14 true 21 (AM Cl (tm 20) (oN 1))),(uB 22 (Al (tm 14) (tm 21) (O.c (V.b Bool.false)))),(uB 23 (AB (tm 22))),(uG 23 true 24 (AF 2 (tm 4))),(uG 23 true 25 (AK (tm 24))),(uG 23 true 26 (AB (tm 0))),(uG 23 true 27 (AB (tm 3))),(uG 23 true 28 (AM Bi (tm 27) (oN 1))),(uG 23 true 29 (AG 5 (tm 26) (tm 28))),(uG 23 true 30 (AF 3 (tm 29))),(uG 23 true 31 (AK (tm 30))),(uG 23 true 32 (CZ (fun a b c d=>G5 a b c d||F6 a b c d) (tm 25) (tm 31))),(uB 33 (Al (tm 23) (tm 32) (O.c (V.b Bool.false))))] none) yx)
abbrev AB2:CC:=(CC.seq (CC.region [(wB 9 (AB (tm 7))),(wB 10 (AG 5 (tm 5) (tm 7))),(wB 11 (Aa 5 (tm 10))),(wB 4 (Bj 57 [(V.i IntKind.i64 (Int.ofNat 0)),(V.i IntKind.i64 (Int.ofNat 0)),(V.s 0 0),(V.s 0 0),(V.i IntKind.i64 (Int.ofNat 0))])),(wB 3 (AB (tm 9))),(CO.mk G.none D.none Bool.true (CR.mk (Ad 5 (tm 4) (tm 11))))]) xB)
abbrev sB:CC:=(CC.block 1 AB2)
abbrev AB5:CC:=(CC.region [(wB 34 (AM BE (tm 7) (oN 1))),(wB 7 (AB (tm 34)))])
abbrev yM:CC:=(CC.seq sB AB5)
abbrev pM:CC:=(CC.seq tV yM)
abbrev AAG:CC:=(CC.seq (CC.region [(wB 8 (AM Bg (tm 7) (tm 6)))]) pM)
abbrev zN:CC:=(CC.loop AAG)
abbrev mn:CC:=(CC.block 0 zN)
abbrev bf:CC:=(CC.seq (CC.region [(wB 5 (AB (tm 0))),(wB 6 (BN (tm 5))),(wB 7 (AB (oN 0)))]) mn)
abbrev cu:CC:=(CC.seq (CC.region [(wB 2 (AB (O.c (V.b Bool.false))))]) CC.ret)
abbrev Z3:CC:=(CC.seq bf cu)
abbrev b45:CC:=(CC.seq (CC.region [(wB 2 (AB (O.c (V.b Bool.false))))]) Z3)
theorem c45:AZ Try.prog 45=⟨35,b45,[(Rs.tmp (AX 2))]⟩:=by kernel_rfl
end Go.Proofs.Ytobfgempjekjpaa
set_option maxRecDepth 1000000
namespace Go.Proofs.Ytobfgempjekjpaa
open Go Go.Ev
abbrev z9:CC:=(CC.cond (tm 14) CC.skip (CC.exit 0))
abbrev vU:CC:=(CC.seq (CC.region [(wB 12 (AB (tm 8))),(wB 13 (AB (tm 2))),(wB 14 (AM Bg (tm 12) (tm 13)))]) z9)
abbrev zo:CC:=(CC.cond (tm 34) CC.skip (CC.exit 2))
abbrev yX:CC:=(CC.seq (CC.Ax [(uB 18 (AB (tm 9))),(uB 19 (AB (tm 1))),(uB 20 (AM Cs (tm 18) (tm 19))),(uB 21 (AB (tm 20))),(uG 21 true 22 (AB (tm 3))),(uG 21 true 23 (AB (tm 0))),(uG 21 true 24 (AB (tm 9))),(uG 21 true 25 (AG 5 (tm 23) (tm 24))),(uG 21 true 26 (Aa 5 (tm 25))),(uG 21 true 27 (AB (tm 0))),(uG 21 true 28 (AB (tm 9))),(uG 21 true 29 (AM Bi (tm 28) (oN 1))),(uG 21 true 30 (AG 5 (tm 27) (tm 29))),(uG 21 true 31 (Aa 5 (tm 30))),(wG 21 true 32 (Bm (tm 22) [(tm 26),(tm 31)])),(uG 21 true 33 (AM Bg (tm 32) (oN 0))),(uB 34 (Al (tm 21) (tm 33) (O.c (V.b Bool.false))))] none) zo)
abbrev AA0:CC:=(CC.Ax [(uB 37 (AB (tm 0))),(uB 38 (AB (tm 9))),(uB 39 (AB (tm 0))),(uB 40 (AB (tm 9))),(uB 41 (AM Bi (tm 40) (oN 1))),(uB 42 (AB (tm 0))),(uB 43 (AB (tm 9))),(uB 44 (AM Bi (tm 43) (oN 1))),(uB 45 (AG 5 (tm 42) (tm 44))),(uB 46 (Aa 5 (tm 45))),(uB 47 (AB (tm 0))),(uB 48 (AB (tm 9))),(uB 49 (AG 5 (tm 47) (tm 48))),(uB 50 (Aa 5 (tm 49))),(uB 51 (AG 5 (tm 37) (tm 38))),(CO.mk G.none D.none Bool.true (CR.mk (Ad 5 (tm 51) (tm 46)))),(uB 52 (AG 5 (tm 39) (tm 41))),(CO.mk G.none D.none Bool.true (CR.mk (Ad 5 (tm 52) (tm 50))))] none)
abbrev AAM:CC:=(CC.block 3 AA0)
abbrev qV:CC:=(CC.region [(wB 35 (AB (tm 9))),(wB 36 (AM Bi (tm 35) (oN 1))),(wB 9 (AB (tm 36)))])
abbrev yP:CC:=(CC.seq AAM qV)
abbrev xO:CC:=(CC.seq yX yP)
abbrev uM:CC:=(CC.loop xO)
abbrev uR:CC:=(CC.block 2 uM)
abbrev dM:CC:=(CC.seq (CC.region [(wB 17 (AB (tm 8))),(wB 9 (AB (tm 17)))]) uR)
abbrev fP:CC:=(CC.block 1 dM)
abbrev fp:CC:=(CC.region [(wB 15 (AB (tm 8))),(wB 16 (AM BE (tm 15) (oN 1))),(wB 8 (AB (tm 16)))])
abbrev lY:CC:=(CC.seq fP fp)
abbrev yN:CC:=(CC.seq vU lY)
abbrev bn:CC:=(CC.loop yN)
abbrev ZB:CC:=(CC.block 0 bn)
abbrev b81:CC:=(CC.seq (CC.region [(wB 10 (AB (tm 1))),(wB 11 (AM BE (tm 10) (oN 1))),(wB 8 (AB (tm 11)))]) ZB)
theorem c81:AZ Try.prog 81=⟨53,b81,[]⟩:=by kernel_rfl
abbrev xT:CC:=(CC.cond (tm 18) (CC.exit 0) CC.skip)
abbrev qf:CC:=(CC.seq (CC.region [(wB 16 (AB (tm 11))),(wB 17 (AB (tm 2))),(wB 18 (AM Dp (tm 16) (tm 17)))]) xT)
abbrev wC:CC:=(CC.region [(wB 41 (AB (tm 11))),(wB 42 (AM BE (tm 41) (oN 1))),(wB 11 (AB (tm 42)))])
abbrev pw:CC:=(CC.cond (tm 40) wC CC.skip)
abbrev vw:CC:=(CC.seq (CC.Ax [(uB 19 (AB (tm 11))),(uB 20 (AM BE (tm 19) (oN 1))),(uB 21 (AB (tm 2))),(uB 22 (AM Bg (tm 20) (tm 21))),(uB 23 (AB (tm 22))),(uG 23 true 24 (AB (tm 4))),(uG 23 true 25 (AB (tm 0))),(uG 23 true 26 (AB (tm 3))),(uG 23 true 27 (AB (tm 11))),(uG 23 true 28 (AM BE (tm 26) (tm 27))),(uG 23 true 29 (AG 5 (tm 25) (tm 28))),(uG 23 true 30 (Aa 5 (tm 29))),(uG 23 true 31 (AB (tm 0))),(uG 23 true 32 (AB (tm 3))),(uG 23 true 33 (AB (tm 11))),(uG 23 true 34 (AM BE (tm 32) (tm 33))),(uG 23 true 35 (AM BE (tm 34) (oN 1))),(uG 23 true 36 (AG 5 (tm 31) (tm 35))),(uG 23 true 37 (Aa 5 (tm 36))),(wG 23 true 38 (Bm (tm 24) [(tm 30),(tm 37)])),(uG 23 true 39 (AM Bg (tm 38) (oN 0))),(uB 40 (Al (tm 23) (tm 39) (O.c (V.b Bool.false))))] none) pw)
abbrev vJ:CC:=(CC.cond (tm 58) CC.ret CC.skip)
abbrev AAd:CC:=(CC.seq (CC.Ax [(uB 43 (AB (tm 4))),(uB 44 (AB (tm 0))),(uB 45 (AB (tm 3))),(uB 46 (AB (tm 10))),(uB 47 (AM BE (tm 45) (tm 46))),(uB 48 (AG 5 (tm 44) (tm 47))),(uB 49 (Aa 5 (tm 48))),(uB 50 (AB (tm 0))),(uB 51 (AB (tm 3))),(uB 52 (AB (tm 11))),(uB 53 (AM BE (tm 51) (tm 52))),(uB 54 (AG 5 (tm 50) (tm 53))),(uB 55 (Aa 5 (tm 54))),(wB 56 (Bm (tm 43) [(tm 49),(tm 55)])),(uB 57 (AM Bg (tm 56) (oN 0))),(uB 58 (CS (tm 57)))] none) vJ)
abbrev yk:CC:=(CC.region [(wB 81 (AB (tm 11))),(wB 10 (AB (tm 81)))])
abbrev rP:CC:=(CC.seq (CC.Ax [(uB 59 (AB (tm 0))),(uB 60 (AB (tm 3))),(uB 61 (AB (tm 10))),(uB 62 (AM BE (tm 60) (tm 61))),(uB 63 (AB (tm 0))),(uB 64 (AB (tm 3))),(uB 65 (AB (tm 11))),(uB 66 (AM BE (tm 64) (tm 65))),(uB 67 (AB (tm 0))),(uB 68 (AB (tm 3))),(uB 69 (AB (tm 11))),(uB 70 (AM BE (tm 68) (tm 69))),(uB 71 (AG 5 (tm 67) (tm 70))),(uB 72 (Aa 5 (tm 71))),(uB 73 (AB (tm 0))),(uB 74 (AB (tm 3))),(uB 75 (AB (tm 10))),(uB 76 (AM BE (tm 74) (tm 75))),(uB 77 (AG 5 (tm 73) (tm 76))),(uB 78 (Aa 5 (tm 77))),(uB 79 (AG 5 (tm 59) (tm 62))),(CO.mk G.none D.none Bool.true (CR.mk (Ad 5 (tm 79) (tm 72)))),(uB 80 (AG 5 (tm 63) (tm 66))),(CO.mk G.none D.none Bool.true (CR.mk (Ad 5 (tm 80) (tm 78))))] none) yk)
abbrev YY:CC:=(CC.seq AAd rP)
abbrev nk:CC:=(CC.seq vw YY)
abbrev Zx:CC:=(CC.seq qf nk)
abbrev ij:CC:=(CC.seq (CC.region [(wB 13 (AB (tm 10))),(wB 14 (AM Mh (oN 2) (tm 13))),(wB 15 (AM BE (tm 14) (oN 1))),(wB 11 (AB (tm 15)))]) Zx)
abbrev uQ:CC:=(CC.block 1 ij)
abbrev eG:CC:=(CC.loop uQ)
abbrev kL:CC:=(CC.block 0 eG)
abbrev b93:CC:=(CC.seq (CC.region [(wB 12 (AB (tm 1))),(wB 10 (AB (tm 12)))]) kL)
theorem c93:AZ Try.prog 93=⟨82,b93,[]⟩:=by kernel_rfl
abbrev oc:CC:=(CC.cond (tm 21) CC.skip (CC.exit 0))
abbrev AA7:CC:=(CC.seq (CC.region [(wB 20 (AB (tm 11))),(wB 21 (AM Dp (tm 20) (oN 0)))]) oc)
abbrev qX:CC:=(CC.region [(wB 24 (AB (tm 0))),(wB 25 (AB (tm 11))),(wB 26 (AB (tm 10))),(wB 27 (AB (tm 8))),(wB 28 (AB (tm 3))),(wB 29 (AY 93 [(tm 24),(tm 25),(tm 26),(tm 27),(tm 28)]))])
abbrev pF:CC:=(CC.block 1 qX)
abbrev yU:CC:=(CC.region [(wB 22 (AB (tm 11))),(wB 23 (AM Bi (tm 22) (oN 1))),(wB 11 (AB (tm 23)))])
abbrev ox:CC:=(CC.seq pF yU)
abbrev qH:CC:=(CC.seq AA7 ox)
abbrev qZ:CC:=(CC.loop qH)
abbrev uT:CC:=(CC.block 0 qZ)
abbrev zX:CC:=(CC.seq (CC.region [(wB 17 (AB (tm 10))),(wB 18 (AM Bi (tm 17) (oN 1))),(wB 19 (AM Lb (tm 18) (oN 2))),(wB 11 (AB (tm 19)))]) uT)
abbrev pY:CC:=(CC.cond (tm 33) CC.skip (CC.exit 2))
abbrev ZF:CC:=(CC.seq (CC.region [(wB 32 (AB (tm 12))),(wB 33 (AM Dp (tm 32) (oN 0)))]) pY)
abbrev lJ:CC:=(CC.region [(wB 54 (AB (tm 0))),(wB 55 (AB (tm 9))),(wB 56 (AB (tm 12))),(wB 57 (AB (tm 8))),(wB 58 (AB (tm 3))),(wB 59 (AY 93 [(tm 54),(tm 55),(tm 56),(tm 57),(tm 58)]))])
abbrev cQ:CC:=(CC.seq (CC.Ax [(uB 36 (AB (tm 0))),(uB 37 (AB (tm 8))),(uB 38 (AB (tm 0))),(uB 39 (AB (tm 8))),(uB 40 (AB (tm 12))),(uB 41 (AM BE (tm 39) (tm 40))),(uB 42 (AB (tm 0))),(uB 43 (AB (tm 8))),(uB 44 (AB (tm 12))),(uB 45 (AM BE (tm 43) (tm 44))),(uB 46 (AG 5 (tm 42) (tm 45))),(uB 47 (Aa 5 (tm 46))),(uB 48 (AB (tm 0))),(uB 49 (AB (tm 8))),(uB 50 (AG 5 (tm 48) (tm 49))),(uB 51 (Aa 5 (tm 50))),(uB 52 (AG 5 (tm 36) (tm 37))),(CO.mk G.none D.none Bool.true (CR.mk (Ad 5 (tm 52) (tm 47)))),(uB 53 (AG 5 (tm 38) (tm 41))),(CO.mk G.none D.none Bool.true (CR.mk (Ad 5 (tm 53) (tm 51))))] none) lJ)
abbrev ny:CC:=(CC.block 3 cQ)
abbrev mv:CC:=(CC.region [(wB 34 (AB (tm 12))),(wB 35 (AM Bi (tm 34) (oN 1))),(wB 12 (AB (tm 35)))])
abbrev lT:CC:=(CC.seq ny mv)
abbrev AAQ:CC:=(CC.seq ZF lT)
abbrev Zb:CC:=(CC.loop AAQ)
abbrev eC:CC:=(CC.block 2 Zb)
abbrev hY:CC:=(CC.seq (CC.region [(wB 30 (AB (tm 10))),(wB 31 (AM Bi (tm 30) (oN 1))),(wB 12 (AB (tm 31)))]) eC)
abbrev Zy:CC:=(CC.seq zX hY)
abbrev hH:CC:=(CC.seq (CC.region [(wB 14 (AB (tm 2))),(wB 15 (AB (tm 1))),(wB 16 (AM Bi (tm 14) (tm 15))),(wB 10 (AB (tm 16)))]) Zy)
abbrev Zc:CC:=(CC.seq (CC.region [(wB 9 (AB (oN 0)))]) hH)
abbrev b82:CC:=(CC.seq (CC.region [(wB 13 (AB (tm 1))),(wB 8 (AB (tm 13)))]) Zc)
theorem c82:AZ Try.prog 82=⟨60,b82,[]⟩:=by kernel_rfl
abbrev AA9:CC:=(CC.seq (CC.region [(wB 26 (AB (tm 0))),(wB 27 (AB (tm 1))),(wB 28 (AB (tm 2))),(wB 29 (AB (tm 4))),(wB 30 (AY 81 [(tm 26),(tm 27),(tm 28),(tm 29)]))]) CC.ret)
abbrev xS:CC:=(CC.cond (tm 25) AA9 CC.skip)
abbrev ta:CC:=(CC.seq (CC.region [(wB 24 (AB (tm 12))),(wB 25 (AM FO (tm 24) (oN 12)))]) xS)
abbrev ABw:CC:=(CC.seq (CC.region [(wB 33 (AB (tm 0))),(wB 34 (AB (tm 1))),(wB 35 (AB (tm 2))),(wB 36 (AB (tm 4))),(wB 37 (AY 82 [(tm 33),(tm 34),(tm 35),(tm 36)]))]) CC.ret)
abbrev tI:CC:=(CC.cond (tm 32) ABw CC.skip)
abbrev oz:CC:=(CC.seq (CC.region [(wB 31 (AB (tm 3))),(wB 32 (AM Cl (tm 31) (oN 0)))]) tI)
abbrev yt:CC:=(CC.region [(wB 45 (AB (tm 3))),(wB 46 (AM Bi (tm 45) (oN 1))),(wB 3 (AB (tm 46)))])
abbrev AAb:CC:=(CC.seq (CC.region [(wB 40 (AB (tm 0))),(wB 41 (AB (tm 1))),(wB 42 (AB (tm 2))),(wB 43 (AB (tm 4))),(wB 44 (AY 83 [(tm 40),(tm 41),(tm 42),(tm 43)]))]) yt)
abbrev uO:CC:=(CC.cond (tm 39) AAb CC.skip)
abbrev ACK:CC:=(CC.seq (CC.region [(wB 38 (AB (tm 10))),(wB 39 (CS (tm 38)))]) uO)
abbrev kl:CC:=(CC.seq (CC.region [(wB 62 (AB (tm 2))),(wB 63 (AM Bi (tm 62) (oN 1))),(wB 64 (AB (tm 13))),(wB 65 (AB (tm 1))),(wB 66 (AM Bi (tm 64) (tm 65))),(wB 67 (AM Bi (tm 63) (tm 66))),(wB 13 (AB (tm 67)))]) (CC.region [(wB 14 (AB (oN 1)))]))
abbrev Zq:CC:=(CC.seq (CC.region [(wB 57 (AB (tm 0))),(wB 58 (AB (tm 1))),(wB 59 (AB (tm 2))),(wB 60 (AB (tm 4))),(wB 61 (AY 85 [(tm 57),(tm 58),(tm 59),(tm 60)]))]) kl)
abbrev aN:CC:=(CC.cond (tm 56) Zq CC.skip)
abbrev mj:CC:=(CC.seq (CC.region [(wB 55 (AB (tm 14))),(wB 56 (AM Cl (tm 55) (oN 2)))]) aN)
abbrev jW:CC:=(CC.cond (tm 80) CC.ret CC.skip)
abbrev kY:CC:=(CC.seq (CC.region [(wB 76 (AB (tm 0))),(wB 77 (AB (tm 1))),(wB 78 (AB (tm 2))),(wB 79 (AB (tm 4))),(wB 80 (AY 86 [(tm 76),(tm 77),(tm 78),(tm 79)]))]) jW)
abbrev Ze:CC:=(CC.cond (tm 75) kY CC.skip)
abbrev fY:CC:=(CC.seq (CC.region [(wB 68 (AB (tm 10))),(wB 69 (AB (tm 68))),(wG 69 true 70 (AB (tm 11))),(wB 71 (Al (tm 69) (tm 70) (O.c (V.b Bool.false)))),(wB 72 (AB (tm 71))),(wG 72 true 73 (AB (tm 14))),(wG 72 true 74 (AM Cl (tm 73) (oN 1))),(wB 75 (Al (tm 72) (tm 74) (O.c (V.b Bool.false))))]) Ze)
abbrev aS:CC:=(CC.seq (CC.region [(wB 104 (AB (tm 15))),(wB 1 (AB (tm 104)))]) (CC.exit 1))
abbrev eO:CC:=(CC.seq (CC.region [(wB 98 (AB (tm 0))),(wB 99 (AB (tm 1))),(wB 100 (AB (tm 2))),(wB 101 (AB (tm 13))),(wB 102 (AB (tm 4))),(wB 103 (AY 87 [(tm 98),(tm 99),(tm 100),(tm 101),(tm 102)])),(wB 15 (AB (tm 103)))]) aS)
abbrev fy:CC:=(CC.cond (tm 97) eO CC.skip)
abbrev br:CC:=(CC.seq (CC.Ax [(uB 81 (AB (tm 1))),(uB 82 (AM Cs (tm 81) (oN 0))),(uB 83 (AB (tm 82))),(uG 83 true 84 (AB (tm 4))),(uG 83 true 85 (AB (tm 0))),(uG 83 true 86 (AB (tm 1))),(uG 83 true 87 (AM Bi (tm 86) (oN 1))),(uG 83 true 88 (AG 5 (tm 85) (tm 87))),(uG 83 true 89 (Aa 5 (tm 88))),(uG 83 true 90 (AB (tm 0))),(uG 83 true 91 (AB (tm 13))),(uG 83 true 92 (AG 5 (tm 90) (tm 91))),(uG 83 true 93 (Aa 5 (tm 92))),(wG 83 true 94 (Bm (tm 84) [(tm 89),(tm 93)])),(uG 83 true 95 (AM Bg (tm 94) (oN 0))),(uG 83 true 96 (CS (tm 95))),(uB 97 (Al (tm 83) (tm 96) (O.c (V.b Bool.false))))] none) fy)
abbrev eH:CC:=(CC.region [(wB 135 (AB (tm 16))),(wB 136 (AM BE (tm 135) (oN 1))),(wB 1 (AB (tm 136)))])
abbrev nP:CC:=(CC.seq (CC.region [(wB 129 (AB (tm 0))),(wB 130 (AB (tm 1))),(wB 131 (AB (tm 16))),(wB 132 (AB (tm 3))),(wB 133 (AB (tm 4))),(wB 134 (AY 75 [(tm 129),(tm 130),(tm 131),(tm 132),(tm 133)]))]) eH)
abbrev aZ:CC:=(CC.seq (CC.region [(wB 126 (AB (tm 18))),(wB 127 (AB (tm 20))),(wB 128 (AM Dp (tm 126) (tm 127))),(wB 10 (AB (tm 128)))]) nP)
abbrev eX:CC:=(CC.region [(wB 147 (AB (tm 16))),(wB 2 (AB (tm 147)))])
abbrev ke:CC:=(CC.seq (CC.region [(wB 140 (AB (tm 0))),(wB 141 (AB (tm 16))),(wB 142 (AM BE (tm 141) (oN 1))),(wB 143 (AB (tm 2))),(wB 144 (AB (tm 3))),(wB 145 (AB (tm 4))),(wB 146 (AY 75 [(tm 140),(tm 142),(tm 143),(tm 144),(tm 145)]))]) eX)
abbrev aG:CC:=(CC.seq (CC.region [(wB 137 (AB (tm 19))),(wB 138 (AB (tm 20))),(wB 139 (AM Dp (tm 137) (tm 138))),(wB 10 (AB (tm 139)))]) ke)
abbrev Y9:CC:=(CC.cond (tm 125) aZ aG)
abbrev gX:CC:=(CC.seq (CC.region [(wB 123 (AB (tm 18))),(wB 124 (AB (tm 19))),(wB 125 (AM Bg (tm 123) (tm 124)))]) Y9)
abbrev mP:CC:=(CC.seq (CC.region [(wB 121 (AB (tm 12))),(wB 122 (AM Lb (tm 121) (oN 8))),(wB 20 (AB (tm 122)))]) gX)
abbrev bO:CC:=(CC.seq (CC.region [(wB 115 (AB (tm 16))),(wB 116 (AB (tm 1))),(wB 117 (AM Bi (tm 115) (tm 116))),(wB 118 (AB (tm 2))),(wB 119 (AB (tm 16))),(wB 120 (AM Bi (tm 118) (tm 119))),(wB 18 (AB (tm 117))),(wB 19 (AB (tm 120)))]) mP)
abbrev az:CC:=(CC.seq (CC.region [(wB 114 (AB (tm 17))),(wB 11 (AB (tm 114)))]) bO)
abbrev Tj:CC:=(CC.seq (CC.region [(wB 106 (AB (tm 0))),(wB 107 (AB (tm 1))),(wB 108 (AB (tm 2))),(wB 109 (AB (tm 13))),(wB 110 (AB (tm 4))),(wB 111 (AY 88 [(tm 106),(tm 107),(tm 108),(tm 109),(tm 110)])),(wB 105 (AB (tm 111))),(wB 112 (Am 0 (tm 105))),(wB 113 (Am 1 (tm 105))),(wB 16 (AB (tm 112))),(wB 17 (AB (tm 113)))]) az)
abbrev U6:CC:=(CC.seq br Tj)
abbrev VS:CC:=(CC.seq fY U6)
abbrev fI:CC:=(CC.seq mj VS)
abbrev Uh:CC:=(CC.seq (CC.region [(wB 48 (AB (tm 0))),(wB 49 (AB (tm 1))),(wB 50 (AB (tm 2))),(wB 51 (AB (tm 4))),(wB 52 (AY 84 [(tm 48),(tm 49),(tm 50),(tm 51)])),(wB 47 (AB (tm 52))),(wB 53 (Am 0 (tm 47))),(wB 54 (Am 1 (tm 47))),(wB 13 (AB (tm 53))),(wB 14 (AB (tm 54)))]) fI)
abbrev mh:CC:=(CC.seq ACK Uh)
abbrev lv:CC:=(CC.seq oz mh)
abbrev im:CC:=(CC.seq ta lv)
abbrev bE:CC:=(CC.seq (CC.region [(wB 21 (AB (tm 2))),(wB 22 (AB (tm 1))),(wB 23 (AM Bi (tm 21) (tm 22))),(wB 12 (AB (tm 23)))]) im)
abbrev pT:CC:=(CC.block 1 bE)
abbrev gd:CC:=(CC.loop pT)
abbrev ZK:CC:=(CC.block 0 gd)
abbrev cp:CC:=(CC.seq (CC.region [(wB 11 (AB (O.c (V.b Bool.true))))]) ZK)
abbrev b75:CC:=(CC.seq (CC.region [(wB 10 (AB (O.c (V.b Bool.true))))]) cp)
theorem c75:AZ Try.prog 75=⟨148,b75,[]⟩:=by kernel_rfl
abbrev rU:CC:=(CC.cond (tm 47) CC.skip (CC.exit 0))
abbrev rH:CC:=(CC.seq (CC.Ax [(uB 32 (AB (tm 12))),(uB 33 (AB (tm 13))),(uB 34 (AM FO (tm 32) (tm 33))),(uB 35 (AB (tm 34))),(uG 35 true 36 (AB (tm 4))),(uG 35 true 37 (AB (tm 0))),(uG 35 true 38 (AB (tm 12))),(uG 35 true 39 (AG 5 (tm 37) (tm 38))),(uG 35 true 40 (Aa 5 (tm 39))),(uG 35 true 41 (AB (tm 0))),(uG 35 true 42 (AB (tm 1))),(uG 35 true 43 (AG 5 (tm 41) (tm 42))),(uG 35 true 44 (Aa 5 (tm 43))),(wG 35 true 45 (Bm (tm 36) [(tm 40),(tm 44)])),(uG 35 true 46 (AM Bg (tm 45) (oN 0))),(uB 47 (Al (tm 35) (tm 46) (O.c (V.b Bool.false))))] none) rU)
abbrev wI:CC:=(CC.region [(wB 48 (AB (tm 12))),(wB 49 (AM BE (tm 48) (oN 1))),(wB 12 (AB (tm 49)))])
abbrev ABt:CC:=(CC.block 1 wI)
abbrev zI:CC:=(CC.seq rH ABt)
abbrev AAT:CC:=(CC.loop zI)
abbrev vf:CC:=(CC.block 0 AAT)
abbrev vl:CC:=(CC.cond (tm 66) CC.skip (CC.exit 2))
abbrev tD:CC:=(CC.seq (CC.Ax [(uB 50 (AB (tm 12))),(uB 51 (AB (tm 13))),(uB 52 (AM FO (tm 50) (tm 51))),(uB 53 (AB (tm 52))),(uG 53 true 54 (AB (tm 4))),(uG 53 true 55 (AB (tm 0))),(uG 53 true 56 (AB (tm 13))),(uG 53 true 57 (AG 5 (tm 55) (tm 56))),(uG 53 true 58 (Aa 5 (tm 57))),(uG 53 true 59 (AB (tm 0))),(uG 53 true 60 (AB (tm 1))),(uG 53 true 61 (AG 5 (tm 59) (tm 60))),(uG 53 true 62 (Aa 5 (tm 61))),(wG 53 true 63 (Bm (tm 54) [(tm 58),(tm 62)])),(uG 53 true 64 (AM Bg (tm 63) (oN 0))),(uG 53 true 65 (CS (tm 64))),(uB 66 (Al (tm 53) (tm 65) (O.c (V.b Bool.false))))] none) vl)
abbrev wa:CC:=(CC.region [(wB 67 (AB (tm 13))),(wB 68 (AM Bi (tm 67) (oN 1))),(wB 13 (AB (tm 68)))])
abbrev uK:CC:=(CC.block 3 wa)
abbrev rI:CC:=(CC.seq tD uK)
abbrev jY:CC:=(CC.loop rI)
abbrev ZU:CC:=(CC.block 2 jY)
abbrev kF:CC:=(CC.seq (CC.region [(wB 86 (AB (tm 13))),(wB 10 (AB (tm 86))),(wB 11 (AB (O.c (V.b Bool.true))))]) CC.ret)
abbrev Yw:CC:=(CC.seq (CC.Ax [(uB 72 (AB (tm 0))),(uB 73 (AB (tm 13))),(uB 74 (AB (tm 0))),(uB 75 (AB (tm 1))),(uB 76 (AB (tm 0))),(uB 77 (AB (tm 1))),(uB 78 (AG 5 (tm 76) (tm 77))),(uB 79 (Aa 5 (tm 78))),(uB 80 (AB (tm 0))),(uB 81 (AB (tm 13))),(uB 82 (AG 5 (tm 80) (tm 81))),(uB 83 (Aa 5 (tm 82))),(uB 84 (AG 5 (tm 72) (tm 73))),(CO.mk G.none D.none Bool.true (CR.mk (Ad 5 (tm 84) (tm 79)))),(uB 85 (AG 5 (tm 74) (tm 75))),(CO.mk G.none D.none Bool.true (CR.mk (Ad 5 (tm 85) (tm 83))))] none) kF)
abbrev lK:CC:=(CC.cond (tm 71) Yw CC.skip)
abbrev cn:CC:=(CC.seq (CC.region [(wB 69 (AB (tm 12))),(wB 70 (AB (tm 13))),(wB 71 (AM Cs (tm 69) (tm 70)))]) lK)
abbrev gz:CC:=(CC.cond (tm 120) CC.skip (CC.exit 6))
abbrev hT:CC:=(CC.seq (CC.Ax [(uB 105 (AB (tm 12))),(uB 106 (AB (tm 13))),(uB 107 (AM FO (tm 105) (tm 106))),(uB 108 (AB (tm 107))),(uG 108 true 109 (AB (tm 4))),(uG 108 true 110 (AB (tm 0))),(uG 108 true 111 (AB (tm 12))),(uG 108 true 112 (AG 5 (tm 110) (tm 111))),(uG 108 true 113 (Aa 5 (tm 112))),(uG 108 true 114 (AB (tm 0))),(uG 108 true 115 (AB (tm 1))),(uG 108 true 116 (AG 5 (tm 114) (tm 115))),(uG 108 true 117 (Aa 5 (tm 116))),(wG 108 true 118 (Bm (tm 109) [(tm 113),(tm 117)])),(uG 108 true 119 (AM Bg (tm 118) (oN 0))),(uB 120 (Al (tm 108) (tm 119) (O.c (V.b Bool.false))))] none) gz)
abbrev aC:CC:=(CC.region [(wB 121 (AB (tm 12))),(wB 122 (AM BE (tm 121) (oN 1))),(wB 12 (AB (tm 122)))])
abbrev ki:CC:=(CC.block 7 aC)
abbrev yl:CC:=(CC.seq hT ki)
abbrev nK:CC:=(CC.loop yl)
abbrev ab:CC:=(CC.block 6 nK)
abbrev ep:CC:=(CC.cond (tm 139) CC.skip (CC.exit 8))
abbrev aA:CC:=(CC.seq (CC.Ax [(uB 123 (AB (tm 12))),(uB 124 (AB (tm 13))),(uB 125 (AM FO (tm 123) (tm 124))),(uB 126 (AB (tm 125))),(uG 126 true 127 (AB (tm 4))),(uG 126 true 128 (AB (tm 0))),(uG 126 true 129 (AB (tm 13))),(uG 126 true 130 (AG 5 (tm 128) (tm 129))),(uG 126 true 131 (Aa 5 (tm 130))),(uG 126 true 132 (AB (tm 0))),(uG 126 true 133 (AB (tm 1))),(uG 126 true 134 (AG 5 (tm 132) (tm 133))),(uG 126 true 135 (Aa 5 (tm 134))),(wG 126 true 136 (Bm (tm 127) [(tm 131),(tm 135)])),(uG 126 true 137 (AM Bg (tm 136) (oN 0))),(uG 126 true 138 (CS (tm 137))),(uB 139 (Al (tm 126) (tm 138) (O.c (V.b Bool.false))))] none) ep)
abbrev jU:CC:=(CC.region [(wB 140 (AB (tm 13))),(wB 141 (AM Bi (tm 140) (oN 1))),(wB 13 (AB (tm 141)))])
abbrev fR:CC:=(CC.block 9 jU)
abbrev ACQ:CC:=(CC.seq aA fR)
abbrev nX:CC:=(CC.loop ACQ)
abbrev fT:CC:=(CC.block 8 nX)
abbrev Zp:CC:=(CC.cond (tm 144) (CC.exit 4) CC.skip)
abbrev lE:CC:=(CC.seq (CC.region [(wB 142 (AB (tm 12))),(wB 143 (AB (tm 13))),(wB 144 (AM Cs (tm 142) (tm 143)))]) Zp)
abbrev bK:CC:=(CC.region [(wB 161 (AB (tm 13))),(wB 162 (AM Bi (tm 161) (oN 1))),(wB 13 (AB (tm 162)))])
abbrev kR:CC:=(CC.seq (CC.region [(wB 159 (AB (tm 12))),(wB 160 (AM BE (tm 159) (oN 1))),(wB 12 (AB (tm 160)))]) bK)
abbrev kz:CC:=(CC.seq (CC.Ax [(uB 145 (AB (tm 0))),(uB 146 (AB (tm 12))),(uB 147 (AB (tm 0))),(uB 148 (AB (tm 13))),(uB 149 (AB (tm 0))),(uB 150 (AB (tm 13))),(uB 151 (AG 5 (tm 149) (tm 150))),(uB 152 (Aa 5 (tm 151))),(uB 153 (AB (tm 0))),(uB 154 (AB (tm 12))),(uB 155 (AG 5 (tm 153) (tm 154))),(uB 156 (Aa 5 (tm 155))),(uB 157 (AG 5 (tm 145) (tm 146))),(CO.mk G.none D.none Bool.true (CR.mk (Ad 5 (tm 157) (tm 152)))),(uB 158 (AG 5 (tm 147) (tm 148))),(CO.mk G.none D.none Bool.true (CR.mk (Ad 5 (tm 158) (tm 156))))] none) kR)
abbrev lO:CC:=(CC.seq lE kz)
abbrev jh:CC:=(CC.seq fT lO)
abbrev Yx:CC:=(CC.seq ab jh)
abbrev vp:CC:=(CC.block 5 Yx)
abbrev mH:CC:=(CC.loop vp)
abbrev mM:CC:=(CC.block 4 mH)
abbrev Zt:CC:=(CC.seq (CC.region [(wB 177 (AB (tm 13))),(wB 10 (AB (tm 177))),(wB 11 (AB (O.c (V.b Bool.false))))]) CC.ret)
abbrev nW:CC:=(CC.seq (CC.Ax [(uB 163 (AB (tm 0))),(uB 164 (AB (tm 13))),(uB 165 (AB (tm 0))),(uB 166 (AB (tm 1))),(uB 167 (AB (tm 0))),(uB 168 (AB (tm 1))),(uB 169 (AG 5 (tm 167) (tm 168))),(uB 170 (Aa 5 (tm 169))),(uB 171 (AB (tm 0))),(uB 172 (AB (tm 13))),(uB 173 (AG 5 (tm 171) (tm 172))),(uB 174 (Aa 5 (tm 173))),(uB 175 (AG 5 (tm 163) (tm 164))),(CO.mk G.none D.none Bool.true (CR.mk (Ad 5 (tm 175) (tm 170)))),(uB 176 (AG 5 (tm 165) (tm 166))),(CO.mk G.none D.none Bool.true (CR.mk (Ad 5 (tm 176) (tm 174))))] none) Zt)
abbrev np:CC:=(CC.seq mM nW)
abbrev gq:CC:=(CC.seq (CC.region [(wB 103 (AB (tm 13))),(wB 104 (AM Bi (tm 103) (oN 1))),(wB 13 (AB (tm 104)))]) np)
abbrev aY:CC:=(CC.seq (CC.region [(wB 101 (AB (tm 12))),(wB 102 (AM BE (tm 101) (oN 1))),(wB 12 (AB (tm 102)))]) gq)
abbrev mG:CC:=(CC.seq (CC.Ax [(uB 87 (AB (tm 0))),(uB 88 (AB (tm 12))),(uB 89 (AB (tm 0))),(uB 90 (AB (tm 13))),(uB 91 (AB (tm 0))),(uB 92 (AB (tm 13))),(uB 93 (AG 5 (tm 91) (tm 92))),(uB 94 (Aa 5 (tm 93))),(uB 95 (AB (tm 0))),(uB 96 (AB (tm 12))),(uB 97 (AG 5 (tm 95) (tm 96))),(uB 98 (Aa 5 (tm 97))),(uB 99 (AG 5 (tm 87) (tm 88))),(CO.mk G.none D.none Bool.true (CR.mk (Ad 5 (tm 99) (tm 94)))),(uB 100 (AG 5 (tm 89) (tm 90))),(CO.mk G.none D.none Bool.true (CR.mk (Ad 5 (tm 100) (tm 98))))] none) aY)
abbrev aW:CC:=(CC.seq cn mG)
abbrev oC:CC:=(CC.seq ZU aW)
abbrev gZ:CC:=(CC.seq vf oC)
abbrev fa:CC:=(CC.seq (CC.region [(wB 28 (AB (tm 1))),(wB 29 (AM BE (tm 28) (oN 1))),(wB 30 (AB (tm 2))),(wB 31 (AM Bi (tm 30) (oN 1))),(wB 12 (AB (tm 29))),(wB 13 (AB (tm 31)))]) gZ)
abbrev aj:CC:=(CC.seq (CC.Ax [(uB 14 (AB (tm 0))),(uB 15 (AB (tm 1))),(uB 16 (AB (tm 0))),(uB 17 (AB (tm 3))),(uB 18 (AB (tm 0))),(uB 19 (AB (tm 3))),(uB 20 (AG 5 (tm 18) (tm 19))),(uB 21 (Aa 5 (tm 20))),(uB 22 (AB (tm 0))),(uB 23 (AB (tm 1))),(uB 24 (AG 5 (tm 22) (tm 23))),(uB 25 (Aa 5 (tm 24))),(uB 26 (AG 5 (tm 14) (tm 15))),(CO.mk G.none D.none Bool.true (CR.mk (Ad 5 (tm 26) (tm 21)))),(uB 27 (AG 5 (tm 16) (tm 17))),(CO.mk G.none D.none Bool.true (CR.mk (Ad 5 (tm 27) (tm 25))))] none) fa)
abbrev b88:CC:=(CC.seq (CC.region [(wB 10 (AB (oN 0))),(wB 11 (AB (O.c (V.b Bool.false))))]) aj)
theorem c88:AZ Try.prog 88=⟨178,b88,[(Rs.tmp (AX 10)),(Rs.tmp (AX 11))]⟩:=by kernel_rfl
abbrev pU:CC:=(CC.cond (tm 47) CC.skip (CC.exit 2))
abbrev ABX:CC:=(CC.seq (CC.Ax [(uB 31 (AB (tm 11))),(uB 32 (AB (tm 12))),(uB 33 (AM FO (tm 31) (tm 32))),(uB 34 (AB (tm 33))),(uG 34 true 35 (AB (tm 4))),(uG 34 true 36 (AB (tm 0))),(uG 34 true 37 (AB (tm 1))),(uG 34 true 38 (AG 5 (tm 36) (tm 37))),(uG 34 true 39 (Aa 5 (tm 38))),(uG 34 true 40 (AB (tm 0))),(uG 34 true 41 (AB (tm 11))),(uG 34 true 42 (AG 5 (tm 40) (tm 41))),(uG 34 true 43 (Aa 5 (tm 42))),(wG 34 true 44 (Bm (tm 35) [(tm 39),(tm 43)])),(uG 34 true 45 (AM Bg (tm 44) (oN 0))),(uG 34 true 46 (CS (tm 45))),(uB 47 (Al (tm 34) (tm 46) (O.c (V.b Bool.false))))] none) pU)
abbrev uD:CC:=(CC.region [(wB 48 (AB (tm 11))),(wB 49 (AM BE (tm 48) (oN 1))),(wB 11 (AB (tm 49)))])
abbrev ABM:CC:=(CC.block 3 uD)
abbrev ACb:CC:=(CC.seq ABX ABM)
abbrev sc:CC:=(CC.loop ACb)
abbrev ABJ:CC:=(CC.block 2 sc)
abbrev vg:CC:=(CC.cond (tm 65) CC.skip (CC.exit 4))
abbrev tP:CC:=(CC.seq (CC.Ax [(uB 50 (AB (tm 11))),(uB 51 (AB (tm 12))),(uB 52 (AM FO (tm 50) (tm 51))),(uB 53 (AB (tm 52))),(uG 53 true 54 (AB (tm 4))),(uG 53 true 55 (AB (tm 0))),(uG 53 true 56 (AB (tm 1))),(uG 53 true 57 (AG 5 (tm 55) (tm 56))),(uG 53 true 58 (Aa 5 (tm 57))),(uG 53 true 59 (AB (tm 0))),(uG 53 true 60 (AB (tm 12))),(uG 53 true 61 (AG 5 (tm 59) (tm 60))),(uG 53 true 62 (Aa 5 (tm 61))),(wG 53 true 63 (Bm (tm 54) [(tm 58),(tm 62)])),(uG 53 true 64 (AM Bg (tm 63) (oN 0))),(uB 65 (Al (tm 53) (tm 64) (O.c (V.b Bool.false))))] none) vg)
abbrev wE:CC:=(CC.region [(wB 66 (AB (tm 12))),(wB 67 (AM Bi (tm 66) (oN 1))),(wB 12 (AB (tm 67)))])
abbrev yF:CC:=(CC.block 5 wE)
abbrev pG:CC:=(CC.seq tP yF)
abbrev iA:CC:=(CC.loop pG)
abbrev bY:CC:=(CC.block 4 iA)
abbrev ig:CC:=(CC.cond (tm 70) (CC.exit 0) CC.skip)
abbrev nC:CC:=(CC.seq (CC.region [(wB 68 (AB (tm 11))),(wB 69 (AB (tm 12))),(wB 70 (AM Cs (tm 68) (tm 69)))]) ig)
abbrev kZ:CC:=(CC.region [(wB 87 (AB (tm 12))),(wB 88 (AM Bi (tm 87) (oN 1))),(wB 12 (AB (tm 88)))])
abbrev eD:CC:=(CC.seq (CC.region [(wB 85 (AB (tm 11))),(wB 86 (AM BE (tm 85) (oN 1))),(wB 11 (AB (tm 86)))]) kZ)
abbrev nf:CC:=(CC.seq (CC.Ax [(uB 71 (AB (tm 0))),(uB 72 (AB (tm 11))),(uB 73 (AB (tm 0))),(uB 74 (AB (tm 12))),(uB 75 (AB (tm 0))),(uB 76 (AB (tm 12))),(uB 77 (AG 5 (tm 75) (tm 76))),(uB 78 (Aa 5 (tm 77))),(uB 79 (AB (tm 0))),(uB 80 (AB (tm 11))),(uB 81 (AG 5 (tm 79) (tm 80))),(uB 82 (Aa 5 (tm 81))),(uB 83 (AG 5 (tm 71) (tm 72))),(CO.mk G.none D.none Bool.true (CR.mk (Ad 5 (tm 83) (tm 78)))),(uB 84 (AG 5 (tm 73) (tm 74))),(CO.mk G.none D.none Bool.true (CR.mk (Ad 5 (tm 84) (tm 82))))] none) eD)
abbrev lG:CC:=(CC.seq nC nf)
abbrev fD:CC:=(CC.seq bY lG)
abbrev ZX:CC:=(CC.seq ABJ fD)
abbrev qI:CC:=(CC.block 1 ZX)
abbrev bp:CC:=(CC.loop qI)
abbrev fh:CC:=(CC.block 0 bp)
abbrev nq:CC:=(CC.seq (CC.region [(wB 89 (AB (tm 11))),(wB 10 (AB (tm 89)))]) CC.ret)
abbrev bR:CC:=(CC.seq fh nq)
abbrev Z6:CC:=(CC.seq (CC.region [(wB 27 (AB (tm 1))),(wB 28 (AM BE (tm 27) (oN 1))),(wB 29 (AB (tm 2))),(wB 30 (AM Bi (tm 29) (oN 1))),(wB 11 (AB (tm 28))),(wB 12 (AB (tm 30)))]) bR)
abbrev cP:CC:=(CC.seq (CC.Ax [(uB 13 (AB (tm 0))),(uB 14 (AB (tm 1))),(uB 15 (AB (tm 0))),(uB 16 (AB (tm 3))),(uB 17 (AB (tm 0))),(uB 18 (AB (tm 3))),(uB 19 (AG 5 (tm 17) (tm 18))),(uB 20 (Aa 5 (tm 19))),(uB 21 (AB (tm 0))),(uB 22 (AB (tm 1))),(uB 23 (AG 5 (tm 21) (tm 22))),(uB 24 (Aa 5 (tm 23))),(uB 25 (AG 5 (tm 13) (tm 14))),(CO.mk G.none D.none Bool.true (CR.mk (Ad 5 (tm 25) (tm 20)))),(uB 26 (AG 5 (tm 15) (tm 16))),(CO.mk G.none D.none Bool.true (CR.mk (Ad 5 (tm 26) (tm 24))))] none) Z6)
abbrev b87:CC:=(CC.seq (CC.region [(wB 10 (AB (oN 0)))]) cP)
theorem c87:AZ Try.prog 87=⟨90,b87,[(Rs.tmp (AX 10))]⟩:=by kernel_rfl
abbrev ABG:CC:=(CC.cond (tm 16) CC.skip (CC.exit 0))
abbrev sX:CC:=(CC.seq (CC.region [(wB 15 (AB (tm 10))),(wB 16 (AM Bg (tm 15) (oN 5)))]) ABG)
abbrev oq:CC:=(CC.cond (tm 36) CC.skip (CC.exit 2))
abbrev wg:CC:=(CC.seq (CC.Ax [(uB 19 (AB (tm 9))),(uB 20 (AB (tm 2))),(uB 21 (AM Bg (tm 19) (tm 20))),(uB 22 (AB (tm 21))),(uG 22 true 23 (AB (tm 3))),(uG 22 true 24 (AB (tm 0))),(uG 22 true 25 (AB (tm 9))),(uG 22 true 26 (AG 5 (tm 24) (tm 25))),(uG 22 true 27 (Aa 5 (tm 26))),(uG 22 true 28 (AB (tm 0))),(uG 22 true 29 (AB (tm 9))),(uG 22 true 30 (AM Bi (tm 29) (oN 1))),(uG 22 true 31 (AG 5 (tm 28) (tm 30))),(uG 22 true 32 (Aa 5 (tm 31))),(wG 22 true 33 (Bm (tm 23) [(tm 27),(tm 32)])),(uG 22 true 34 (AM Bg (tm 33) (oN 0))),(uG 22 true 35 (CS (tm 34))),(uB 36 (Al (tm 22) (tm 35) (O.c (V.b Bool.false))))] none) oq)
abbrev ot:CC:=(CC.region [(wB 37 (AB (tm 9))),(wB 38 (AM BE (tm 37) (oN 1))),(wB 9 (AB (tm 38)))])
abbrev vE:CC:=(CC.block 3 ot)
abbrev qU:CC:=(CC.seq wg vE)
abbrev ABT:CC:=(CC.loop qU)
abbrev AAD:CC:=(CC.block 2 ABT)
abbrev ABa:CC:=(CC.seq (CC.region [(wB 8 (AB (O.c (V.b Bool.true))))]) CC.ret)
abbrev rK:CC:=(CC.cond (tm 41) ABa CC.skip)
abbrev nh:CC:=(CC.seq (CC.region [(wB 39 (AB (tm 9))),(wB 40 (AB (tm 2))),(wB 41 (AM Cl (tm 39) (tm 40)))]) rK)
abbrev jj:CC:=(CC.seq (CC.region [(wB 8 (AB (O.c (V.b Bool.false))))]) CC.ret)
abbrev du:CC:=(CC.cond (tm 45) jj CC.skip)
abbrev ZM:CC:=(CC.seq (CC.region [(wB 42 (AB (tm 2))),(wB 43 (AB (tm 1))),(wB 44 (AM Bi (tm 42) (tm 43))),(wB 45 (AM Bg (tm 44) (oN 50)))]) du)
abbrev ma:CC:=(CC.cond (tm 69) CC.skip (CC.exit 4))
abbrev iZ:CC:=(CC.seq (CC.region [(wB 68 (AB (tm 11))),(wB 69 (AM Dp (tm 68) (oN 1)))]) ma)
abbrev cR:CC:=(CC.cond (tm 84) (CC.exit 4) CC.skip)
abbrev iR:CC:=(CC.seq (CC.Ax [(uB 72 (AB (tm 3))),(uB 73 (AB (tm 0))),(uB 74 (AB (tm 11))),(uB 75 (AG 5 (tm 73) (tm 74))),(uB 76 (Aa 5 (tm 75))),(uB 77 (AB (tm 0))),(uB 78 (AB (tm 11))),(uB 79 (AM Bi (tm 78) (oN 1))),(uB 80 (AG 5 (tm 77) (tm 79))),(uB 81 (Aa 5 (tm 80))),(wB 82 (Bm (tm 72) [(tm 76),(tm 81)])),(uB 83 (AM Bg (tm 82) (oN 0))),(uB 84 (CS (tm 83)))] none) cR)
abbrev ZN:CC:=(CC.Ax [(uB 85 (AB (tm 0))),(uB 86 (AB (tm 11))),(uB 87 (AB (tm 0))),(uB 88 (AB (tm 11))),(uB 89 (AM Bi (tm 88) (oN 1))),(uB 90 (AB (tm 0))),(uB 91 (AB (tm 11))),(uB 92 (AM Bi (tm 91) (oN 1))),(uB 93 (AG 5 (tm 90) (tm 92))),(uB 94 (Aa 5 (tm 93))),(uB 95 (AB (tm 0))),(uB 96 (AB (tm 11))),(uB 97 (AG 5 (tm 95) (tm 96))),(uB 98 (Aa 5 (tm 97))),(uB 99 (AG 5 (tm 85) (tm 86))),(CO.mk G.none D.none Bool.true (CR.mk (Ad 5 (tm 99) (tm 94)))),(uB 100 (AG 5 (tm 87) (tm 89))),(CO.mk G.none D.none Bool.true (CR.mk (Ad 5 (tm 100) (tm 98))))] none)
abbrev fm:CC:=(CC.seq iR ZN)
abbrev aK:CC:=(CC.block 5 fm)
abbrev lD:CC:=(CC.region [(wB 70 (AB (tm 11))),(wB 71 (AM Bi (tm 70) (oN 1))),(wB 11 (AB (tm 71)))])
abbrev nT:CC:=(CC.seq aK lD)
abbrev tv:CC:=(CC.seq iZ nT)
abbrev kg:CC:=(CC.loop tv)
abbrev Y7:CC:=(CC.block 4 kg)
abbrev ai:CC:=(CC.seq (CC.region [(wB 66 (AB (tm 9))),(wB 67 (AM Bi (tm 66) (oN 1))),(wB 11 (AB (tm 67)))]) Y7)
abbrev gQ:CC:=(CC.cond (tm 65) ai CC.skip)
abbrev ax:CC:=(CC.seq (CC.region [(wB 62 (AB (tm 9))),(wB 63 (AB (tm 1))),(wB 64 (AM Bi (tm 62) (tm 63))),(wB 65 (AM Dp (tm 64) (oN 2)))]) gQ)
abbrev dB:CC:=(CC.cond (tm 109) CC.skip (CC.exit 6))
abbrev gS:CC:=(CC.seq (CC.region [(wB 107 (AB (tm 12))),(wB 108 (AB (tm 2))),(wB 109 (AM Bg (tm 107) (tm 108)))]) dB)
abbrev ZY:CC:=(CC.cond (tm 124) (CC.exit 6) CC.skip)
abbrev lQ:CC:=(CC.seq (CC.Ax [(uB 112 (AB (tm 3))),(uB 113 (AB (tm 0))),(uB 114 (AB (tm 12))),(uB 115 (AG 5 (tm 113) (tm 114))),(uB 116 (Aa 5 (tm 115))),(uB 117 (AB (tm 0))),(uB 118 (AB (tm 12))),(uB 119 (AM Bi (tm 118) (oN 1))),(uB 120 (AG 5 (tm 117) (tm 119))),(uB 121 (Aa 5 (tm 120))),(wB 122 (Bm (tm 112) [(tm 116),(tm 121)])),(uB 123 (AM Bg (tm 122) (oN 0))),(uB 124 (CS (tm 123)))] none) ZY)
abbrev fS:CC:=(CC.Ax [(uB 125 (AB (tm 0))),(uB 126 (AB (tm 12))),(uB 127 (AB (tm 0))),(uB 128 (AB (tm 12))),(uB 129 (AM Bi (tm 128) (oN 1))),(uB 130 (AB (tm 0))),(uB 131 (AB (tm 12))),(uB 132 (AM Bi (tm 131) (oN 1))),(uB 133 (AG 5 (tm 130) (tm 132))),(uB 134 (Aa 5 (tm 133))),(uB 135 (AB (tm 0))),(uB 136 (AB (tm 12))),(uB 137 (AG 5 (tm 135) (tm 136))),(uB 138 (Aa 5 (tm 137))),(uB 139 (AG 5 (tm 125) (tm 126))),(CO.mk G.none D.none Bool.true (CR.mk (Ad 5 (tm 139) (tm 134)))),(uB 140 (AG 5 (tm 127) (tm 129))),(CO.mk G.none D.none Bool.true (CR.mk (Ad 5 (tm 140) (tm 138))))] none)
abbrev ZD:CC:=(CC.seq lQ fS)
abbrev eS:CC:=(CC.block 7 ZD)
abbrev bk:CC:=(CC.region [(wB 110 (AB (tm 12))),(wB 111 (AM BE (tm 110) (oN 1))),(wB 12 (AB (tm 111)))])
abbrev gV:CC:=(CC.seq eS bk)
abbrev yJ:CC:=(CC.seq gS gV)
abbrev cm:CC:=(CC.loop yJ)
abbrev nr:CC:=(CC.block 6 cm)
abbrev iK:CC:=(CC.seq (CC.region [(wB 105 (AB (tm 9))),(wB 106 (AM BE (tm 105) (oN 1))),(wB 12 (AB (tm 106)))]) nr)
abbrev ca:CC:=(CC.cond (tm 104) iK CC.skip)
abbrev UJ:CC:=(CC.seq (CC.region [(wB 101 (AB (tm 2))),(wB 102 (AB (tm 9))),(wB 103 (AM Bi (tm 101) (tm 102))),(wB 104 (AM Dp (tm 103) (oN 2)))]) ca)
abbrev eB:CC:=(CC.seq ax UJ)
abbrev cO:CC:=(CC.seq (CC.Ax [(uB 46 (AB (tm 0))),(uB 47 (AB (tm 9))),(uB 48 (AB (tm 0))),(uB 49 (AB (tm 9))),(uB 50 (AM Bi (tm 49) (oN 1))),(uB 51 (AB (tm 0))),(uB 52 (AB (tm 9))),(uB 53 (AM Bi (tm 52) (oN 1))),(uB 54 (AG 5 (tm 51) (tm 53))),(uB 55 (Aa 5 (tm 54))),(uB 56 (AB (tm 0))),(uB 57 (AB (tm 9))),(uB 58 (AG 5 (tm 56) (tm 57))),(uB 59 (Aa 5 (tm 58))),(uB 60 (AG 5 (tm 46) (tm 47))),(CO.mk G.none D.none Bool.true (CR.mk (Ad 5 (tm 60) (tm 55)))),(uB 61 (AG 5 (tm 48) (tm 50))),(CO.mk G.none D.none Bool.true (CR.mk (Ad 5 (tm 61) (tm 59))))] none) eB)
abbrev ZH:CC:=(CC.seq ZM cO)
abbrev dn:CC:=(CC.seq nh ZH)
abbrev Zw:CC:=(CC.seq AAD dn)
abbrev ae:CC:=(CC.block 1 Zw)
abbrev jB:CC:=(CC.region [(wB 17 (AB (tm 10))),(wB 18 (AM BE (tm 17) (oN 1))),(wB 10 (AB (tm 18)))])
abbrev gu:CC:=(CC.seq ae jB)
abbrev qw:CC:=(CC.seq sX gu)
abbrev jx:CC:=(CC.loop qw)
abbrev lB:CC:=(CC.block 0 jx)
abbrev dW:CC:=(CC.seq (CC.region [(wB 10 (AB (oN 0)))]) lB)
abbrev fG:CC:=(CC.seq (CC.region [(wB 8 (AB (O.c (V.b Bool.false))))]) CC.ret)
abbrev dP:CC:=(CC.seq dW fG)
abbrev fL:CC:=(CC.seq (CC.region [(wB 13 (AB (tm 1))),(wB 14 (AM BE (tm 13) (oN 1))),(wB 9 (AB (tm 14)))]) dP)
abbrev b86:CC:=(CC.seq (CC.region [(wB 8 (AB (O.c (V.b Bool.false))))]) fL)
theorem c86:AZ Try.prog 86=⟨141,b86,[(Rs.tmp (AX 8))]⟩:=by kernel_rfl
abbrev zx:CC:=(CC.cond (tm 35) CC.skip (CC.exit 0))
abbrev AAt:CC:=(CC.seq (CC.region [(wB 28 (AB (tm 11))),(wB 29 (AB (tm 1))),(wB 30 (AB (tm 8))),(wB 31 (AM Lb (tm 30) (oN 4))),(wB 32 (AM Mh (tm 31) (oN 2))),(wB 33 (AM BE (tm 29) (tm 32))),(wB 34 (AM BE (tm 33) (oN 1))),(wB 35 (AM FO (tm 28) (tm 34)))]) zx)
abbrev oU:CC:=(CC.region [(wB 46 (AB (tm 12))),(wB 47 (AB (tm 8))),(wB 48 (AM Bi (tm 46) (tm 47))),(wB 12 (AB (tm 48)))])
abbrev AAV:CC:=(CC.cond (tm 45) oU CC.skip)
abbrev oM:CC:=(CC.seq (CC.region [(wB 43 (AB (tm 12))),(wB 44 (AB (tm 8))),(wB 45 (AM Dp (tm 43) (tm 44)))]) AAV)
abbrev AAB:CC:=(CC.Ax [(uB 49 (AB (tm 0))),(uB 50 (AB (tm 11))),(uB 51 (AB (tm 0))),(uB 52 (AB (tm 1))),(uB 53 (AB (tm 12))),(uB 54 (AM BE (tm 52) (tm 53))),(uB 55 (AB (tm 0))),(uB 56 (AB (tm 1))),(uB 57 (AB (tm 12))),(uB 58 (AM BE (tm 56) (tm 57))),(uB 59 (AG 5 (tm 55) (tm 58))),(uB 60 (Aa 5 (tm 59))),(uB 61 (AB (tm 0))),(uB 62 (AB (tm 11))),(uB 63 (AG 5 (tm 61) (tm 62))),(uB 64 (Aa 5 (tm 63))),(uB 65 (AG 5 (tm 49) (tm 50))),(CO.mk G.none D.none Bool.true (CR.mk (Ad 5 (tm 65) (tm 60)))),(uB 66 (AG 5 (tm 51) (tm 54))),(CO.mk G.none D.none Bool.true (CR.mk (Ad 5 (tm 66) (tm 64))))] none)
abbrev AAp:CC:=(CC.seq oM AAB)
abbrev wA:CC:=(CC.seq (CC.region [(wB 38 (AY 95 [(tm 9)])),(wB 39 (AB (tm 10))),(wB 40 (AM Bi (tm 39) (O.c (V.i IntKind.u64 (Int.ofNat 1))))),(wB 41 (AM Oe (tm 38) (tm 40))),(wB 42 (CB IntKind.i64 (tm 41))),(wB 12 (AB (tm 42)))]) AAp)
abbrev qP:CC:=(CC.block 1 wA)
abbrev ya:CC:=(CC.region [(wB 36 (AB (tm 11))),(wB 37 (AM BE (tm 36) (oN 1))),(wB 11 (AB (tm 37)))])
abbrev lk:CC:=(CC.seq qP ya)
abbrev qT:CC:=(CC.seq AAt lk)
abbrev kK:CC:=(CC.loop qT)
abbrev cw:CC:=(CC.block 0 kK)
abbrev cH:CC:=(CC.seq (CC.region [(wB 22 (AB (tm 1))),(wB 23 (AB (tm 8))),(wB 24 (AM Lb (tm 23) (oN 4))),(wB 25 (AM Mh (tm 24) (oN 2))),(wB 26 (AM BE (tm 22) (tm 25))),(wB 27 (AM Bi (tm 26) (oN 1))),(wB 11 (AB (tm 27)))]) cw)
abbrev iq:CC:=(CC.seq (CC.region [(wB 20 (AB (tm 8))),(wB 21 (AY 94 [(tm 20)])),(wB 10 (AB (tm 21)))]) cH)
abbrev ml:CC:=(CC.seq (CC.region [(wB 18 (AB (tm 8))),(wB 19 (CB IntKind.u64 (tm 18))),(wB 9 (Bj 128 [(V.i IntKind.u64 (Int.ofNat 0))])),(CO.mk G.none D.none Bool.true (CR.mk (Ad 1 (tm 9) (tm 19))))]) iq)
abbrev dv:CC:=(CC.cond (tm 17) ml CC.skip)
abbrev dL:CC:=(CC.seq (CC.region [(wB 16 (AB (tm 8))),(wB 17 (AM Dp (tm 16) (oN 8)))]) dv)
abbrev b83:CC:=(CC.seq (CC.region [(wB 13 (AB (tm 2))),(wB 14 (AB (tm 1))),(wB 15 (AM Bi (tm 13) (tm 14))),(wB 8 (AB (tm 15)))]) dL)
theorem c83:AZ Try.prog 83=⟨67,b83,[]⟩:=by kernel_rfl
abbrev zk:CC:=(CC.region [(wB 45 (AB (tm 0))),(wB 46 (AB (tm 14))),(wB 47 (AB (tm 3))),(wB 48 (AY 96 [(tm 45),(tm 46),(tm 11),(tm 47)])),(wB 14 (AB (tm 48)))])
abbrev rF:CC:=(CC.seq (CC.region [(wB 41 (AB (tm 0))),(wB 42 (AB (tm 13))),(wB 43 (AB (tm 3))),(wB 44 (AY 96 [(tm 41),(tm 42),(tm 11),(tm 43)])),(wB 13 (AB (tm 44)))]) zk)
abbrev xj:CC:=(CC.seq (CC.region [(wB 37 (AB (tm 0))),(wB 38 (AB (tm 12))),(wB 39 (AB (tm 3))),(wB 40 (AY 96 [(tm 37),(tm 38),(tm 11),(tm 39)])),(wB 12 (AB (tm 40)))]) rF)
abbrev uA:CC:=(CC.cond (tm 36) xj CC.skip)
abbrev ACg:CC:=(CC.seq (CC.region [(wB 35 (AB (tm 10))),(wB 36 (AM Dp (tm 35) (oN 50)))]) uA)
abbrev sF:CC:=(CC.region [(wB 49 (AB (tm 0))),(wB 50 (AB (tm 12))),(wB 51 (AB (tm 13))),(wB 52 (AB (tm 14))),(wB 53 (AB (tm 3))),(wB 54 (AY 97 [(tm 49),(tm 50),(tm 51),(tm 52),(tm 11),(tm 53)])),(wB 13 (AB (tm 54)))])
abbrev ABg:CC:=(CC.seq ACg sF)
abbrev qS:CC:=(CC.cond (tm 34) ABg CC.skip)
abbrev tk:CC:=(CC.seq (CC.region [(wB 33 (AB (tm 10))),(wB 34 (AM Dp (tm 33) (oN 8)))]) qS)
abbrev vN:CC:=(CC.seq (CC.region [(wB 59 (AB (tm 13))),(wB 8 (AB (tm 59))),(wB 9 (AB (oN 1)))]) CC.ret)
abbrev bG:CC:=(CC.seq (CC.region [(wB 62 (AB (tm 13))),(wB 8 (AB (tm 62))),(wB 9 (AB (oN 2)))]) CC.ret)
abbrev df:CC:=(CC.seq (CC.region [(wB 56 (AB (tm 13))),(wB 8 (AB (tm 56))),(wB 9 (AB (oN 0)))]) CC.ret)
abbrev bW:CC:=(CC.cond (tm 60) bG df)
abbrev ku:CC:=(CC.seq (CC.region [(wB 61 (AM Cl (tm 55) (oN 12))),(wB 60 (AB (tm 61)))]) bW)
abbrev Zg:CC:=(CC.cond (tm 57) vN ku)
abbrev m9:CC:=(CC.seq (CC.region [(wB 58 (AM Cl (tm 55) (oN 0))),(wB 57 (AB (tm 58)))]) Zg)
abbrev nA:CC:=(CC.block 0 m9)
abbrev au:CC:=(CC.seq (CC.region [(wB 55 (AK (tm 11)))]) nA)
abbrev lA:CC:=(CC.seq tk au)
abbrev aH:CC:=(CC.seq (CC.region [(wB 28 (AB (tm 1))),(wB 29 (AB (tm 10))),(wB 30 (AM Lb (tm 29) (oN 4))),(wB 31 (AM Mh (tm 30) (oN 3))),(wB 32 (AM BE (tm 28) (tm 31))),(wB 14 (AB (tm 32)))]) lA)
abbrev mY:CC:=(CC.seq (CC.region [(wB 23 (AB (tm 1))),(wB 24 (AB (tm 10))),(wB 25 (AM Lb (tm 24) (oN 4))),(wB 26 (AM Mh (tm 25) (oN 2))),(wB 27 (AM BE (tm 23) (tm 26))),(wB 13 (AB (tm 27)))]) aH)
abbrev gk:CC:=(CC.seq (CC.region [(wB 18 (AB (tm 1))),(wB 19 (AB (tm 10))),(wB 20 (AM Lb (tm 19) (oN 4))),(wB 21 (AM Mh (tm 20) (oN 1))),(wB 22 (AM BE (tm 18) (tm 21))),(wB 12 (AB (tm 22)))]) mY)
abbrev ni:CC:=(CC.seq (CC.region [(wB 11 (Bj 3 [(V.i IntKind.i64 (Int.ofNat 0))]))]) gk)
abbrev gJ:CC:=(CC.seq (CC.region [(wB 15 (AB (tm 2))),(wB 16 (AB (tm 1))),(wB 17 (AM Bi (tm 15) (tm 16))),(wB 10 (AB (tm 17)))]) ni)
abbrev b84:CC:=(CC.seq (CC.region [(wB 8 (AB (oN 0))),(wB 9 (AB (oN 0)))]) gJ)
theorem c84:AZ Try.prog 84=⟨63,b84,[(Rs.tmp (AX 8)),(Rs.tmp (AX 9))]⟩:=by kernel_rfl
abbrev AA1:CC:=(CC.seq (CC.region [(wB 28 (AB (tm 2))),(wB 29 (AB (tm 1))),(wB 10 (AB (tm 28))),(wB 11 (AB (tm 29)))]) CC.ret)
abbrev zf:CC:=(CC.seq (CC.region [(wB 23 (AB (tm 3))),(wB 24 (AO (tm 23))),(wB 25 (AK (tm 24))),(wB 26 (AM BE (tm 25) (oN 1))),(wB 27 (AO (tm 23))),(CO.mk G.none D.none Bool.true (CR.mk (Ad 1 (tm 27) (tm 26))))]) AA1)
abbrev xD:CC:=(CC.cond (tm 22) zf CC.skip)
abbrev uI:CC:=(CC.seq (CC.Ax [(uB 12 (AB (tm 4))),(uB 13 (AB (tm 0))),(uB 14 (AB (tm 2))),(uB 15 (AG 5 (tm 13) (tm 14))),(uB 16 (Aa 5 (tm 15))),(uB 17 (AB (tm 0))),(uB 18 (AB (tm 1))),(uB 19 (AG 5 (tm 17) (tm 18))),(uB 20 (Aa 5 (tm 19))),(wB 21 (Bm (tm 12) [(tm 16),(tm 20)])),(uB 22 (AM Bg (tm 21) (oN 0)))] none) xD)
abbrev rM:CC:=(CC.seq (CC.region [(wB 30 (AB (tm 1))),(wB 31 (AB (tm 2))),(wB 10 (AB (tm 30))),(wB 11 (AB (tm 31)))]) CC.ret)
abbrev uS:CC:=(CC.seq uI rM)
abbrev b99:CC:=(CC.seq (CC.region [(wB 10 (AB (oN 0))),(wB 11 (AB (oN 0)))]) uS)
theorem c99:AZ Try.prog 99=⟨32,b99,[(Rs.tmp (AX 10)),(Rs.tmp (AX 11))]⟩:=by kernel_rfl
abbrev ph:CC:=(CC.seq (CC.region [(wB 40 (AB (tm 2))),(wB 12 (AB (tm 40)))]) CC.ret)
abbrev wv:CC:=(CC.seq (CC.region [(wB 32 (AB (tm 0))),(wB 33 (AB (tm 1))),(wB 34 (AB (tm 2))),(wB 35 (AB (tm 4))),(wB 36 (AB (tm 5))),(wB 37 (AY 99 [(tm 32),(tm 33),(tm 34),(tm 35),(tm 36)])),(wB 31 (AB (tm 37))),(wB 38 (Am 0 (tm 31))),(wB 39 (Am 1 (tm 31))),(wB 1 (AB (tm 38))),(wB 2 (AB (tm 39)))]) ph)
abbrev qM:CC:=(CC.seq (CC.region [(wB 23 (AB (tm 0))),(wB 24 (AB (tm 2))),(wB 25 (AB (tm 3))),(wB 26 (AB (tm 4))),(wB 27 (AB (tm 5))),(wB 28 (AY 99 [(tm 23),(tm 24),(tm 25),(tm 26),(tm 27)])),(wB 22 (AB (tm 28))),(wB 29 (Am 0 (tm 22))),(wB 30 (Am 1 (tm 22))),(wB 2 (AB (tm 29))),(wB 3 (AB (tm 30)))]) wv)
abbrev ACN:CC:=(CC.seq (CC.region [(wB 14 (AB (tm 0))),(wB 15 (AB (tm 1))),(wB 16 (AB (tm 2))),(wB 17 (AB (tm 4))),(wB 18 (AB (tm 5))),(wB 19 (AY 99 [(tm 14),(tm 15),(tm 16),(tm 17),(tm 18)])),(wB 13 (AB (tm 19))),(wB 20 (Am 0 (tm 13))),(wB 21 (Am 1 (tm 13))),(wB 1 (AB (tm 20))),(wB 2 (AB (tm 21)))]) qM)
abbrev b97:CC:=(CC.seq (CC.region [(wB 12 (AB (oN 0)))]) ACN)
theorem c97:AZ Try.prog 97=⟨41,b97,[(Rs.tmp (AX 12))]⟩:=by kernel_rfl
abbrev oe:CC:=(CC.seq (CC.region [(wB 9 (AB (tm 0))),(wB 10 (AB (tm 1))),(wB 11 (AM Bi (tm 10) (oN 1))),(wB 12 (AB (tm 1))),(wB 13 (AB (tm 1))),(wB 14 (AM BE (tm 13) (oN 1))),(wB 15 (AB (tm 2))),(wB 16 (AB (tm 3))),(wB 17 (AY 97 [(tm 9),(tm 11),(tm 12),(tm 14),(tm 15),(tm 16)])),(wB 8 (AB (tm 17)))]) CC.ret)
abbrev b96:CC:=(CC.seq (CC.region [(wB 8 (AB (oN 0)))]) oe)
theorem c96:AZ Try.prog 96=⟨18,b96,[(Rs.tmp (AX 8))]⟩:=by kernel_rfl
abbrev uH:CC:=(CC.cond (tm 15) CC.skip (CC.exit 0))
abbrev sj:CC:=(CC.seq (CC.region [(wB 13 (AB (tm 8))),(wB 14 (AB (tm 9))),(wB 15 (AM Bg (tm 13) (tm 14)))]) uH)
abbrev qY:CC:=(CC.region [(wB 32 (AB (tm 9))),(wB 33 (AM Bi (tm 32) (oN 1))),(wB 9 (AB (tm 33)))])
abbrev wu:CC:=(CC.seq (CC.region [(wB 30 (AB (tm 8))),(wB 31 (AM BE (tm 30) (oN 1))),(wB 8 (AB (tm 31)))]) qY)
abbrev zQ:CC:=(CC.seq (CC.Ax [(uB 16 (AB (tm 0))),(uB 17 (AB (tm 8))),(uB 18 (AB (tm 0))),(uB 19 (AB (tm 9))),(uB 20 (AB (tm 0))),(uB 21 (AB (tm 9))),(uB 22 (AG 5 (tm 20) (tm 21))),(uB 23 (Aa 5 (tm 22))),(uB 24 (AB (tm 0))),(uB 25 (AB (tm 8))),(uB 26 (AG 5 (tm 24) (tm 25))),(uB 27 (Aa 5 (tm 26))),(uB 28 (AG 5 (tm 16) (tm 17))),(CO.mk G.none D.none Bool.true (CR.mk (Ad 5 (tm 28) (tm 23)))),(uB 29 (AG 5 (tm 18) (tm 19))),(CO.mk G.none D.none Bool.true (CR.mk (Ad 5 (tm 29) (tm 27))))] none) wu)
abbrev wL:CC:=(CC.block 1 zQ)
abbrev ABQ:CC:=(CC.seq sj wL)
abbrev oO:CC:=(CC.loop ABQ)
abbrev qn:CC:=(CC.block 0 oO)
abbrev ABF:CC:=(CC.seq (CC.region [(wB 11 (AB (tm 2))),(wB 12 (AM Bi (tm 11) (oN 1))),(wB 9 (AB (tm 12)))]) qn)
abbrev b85:CC:=(CC.seq (CC.region [(wB 10 (AB (tm 1))),(wB 8 (AB (tm 10)))]) ABF)
theorem c85:AZ Try.prog 85=⟨34,b85,[]⟩:=by kernel_rfl
abbrev ACY:CC:=(CC.seq (CC.region [(wB 30 (AB (tm 0))),(wB 31 (AO (tm 30))),(wB 32 (AK (tm 31))),(wB 2 (AB (tm 32)))]) CC.ret)
abbrev zD:CC:=(CC.seq (CC.Ax [(uB 21 (AB (tm 0))),(uB 22 (AO (tm 21))),(uB 23 (AK (tm 22))),(uB 24 (AB (tm 0))),(uB 25 (AO (tm 24))),(uB 26 (AK (tm 25))),(uB 27 (B0 K2 (tm 26) (O.c (V.i IntKind.u64 (Int.ofNat 17))))),(uB 28 (AM LX (tm 23) (tm 27))),(wB 29 (AO (tm 21))),(CO.mk G.none D.none Bool.true (CR.mk (Ad 1 (tm 29) (tm 28))))] none) ACY)
abbrev vX:CC:=(CC.seq (CC.Ax [(uB 12 (AB (tm 0))),(uB 13 (AO (tm 12))),(uB 14 (AK (tm 13))),(uB 15 (AB (tm 0))),(uB 16 (AO (tm 15))),(uB 17 (AK (tm 16))),(uB 18 (B0 JO (tm 17) (O.c (V.i IntKind.u64 (Int.ofNat 7))))),(uB 19 (AM LX (tm 14) (tm 18))),(wB 20 (AO (tm 12))),(CO.mk G.none D.none Bool.true (CR.mk (Ad 1 (tm 20) (tm 19))))] none) zD)
abbrev vW:CC:=(CC.seq (CC.Ax [(uB 3 (AB (tm 0))),(uB 4 (AO (tm 3))),(uB 5 (AK (tm 4))),(uB 6 (AB (tm 0))),(uB 7 (AO (tm 6))),(uB 8 (AK (tm 7))),(uB 9 (B0 K2 (tm 8) (O.c (V.i IntKind.u64 (Int.ofNat 13))))),(uB 10 (AM LX (tm 5) (tm 9))),(wB 11 (AO (tm 3))),(CO.mk G.none D.none Bool.true (CR.mk (Ad 1 (tm 11) (tm 10))))] none) vX)
abbrev b95:CC:=(CC.seq (CC.region [(wB 2 (AB (O.c (V.i IntKind.u64 (Int.ofNat 0)))))]) vW)
theorem c95:AZ Try.prog 95=⟨33,b95,[(Rs.tmp (AX 2))]⟩:=by kernel_rfl
abbrev xe:CC:=(CC.seq (CC.region [(wB 3 (AB (tm 0))),(wB 4 (CB IntKind.u64 (tm 3))),(wB 5 (AY 76 [(tm 4)])),(wB 6 (B0 K2 (O.c (V.i IntKind.u64 (Int.ofNat 1))) (tm 5))),(wB 2 (AB (tm 6)))]) CC.ret)
abbrev b94:CC:=(CC.seq (CC.region [(wB 2 (AB (O.c (V.i IntKind.u64 (Int.ofNat 0)))))]) xe)
theorem c94:AZ Try.prog 94=⟨7,b94,[(Rs.tmp (AX 2))]⟩:=by kernel_rfl
abbrev rO:CC:=(CC.seq (CC.region [(wB 3 (AB (tm 0))),(wB 4 (CB IntKind.u32 (tm 3))),(wB 5 (AY 89 [(tm 4)])),(wB 2 (AB (tm 5)))]) CC.ret)
abbrev vb:CC:=(CC.cond (O.c (V.b Bool.false)) rO CC.skip)
abbrev sK:CC:=(CC.seq (CC.region [(wB 6 (AB (tm 0))),(wB 7 (AY 90 [(tm 6)])),(wB 2 (AB (tm 7)))]) CC.ret)
abbrev oY:CC:=(CC.seq vb sK)
abbrev b76:CC:=(CC.seq (CC.region [(wB 2 (AB (oN 0)))]) oY)
theorem c76:AZ Try.prog 76=⟨8,b76,[(Rs.tmp (AX 2))]⟩:=by kernel_rfl
abbrev tG:CC:=(CC.seq (CC.region [(wB 5 (AB (tm 0))),(wB 6 (B0 JO (tm 5) (O.c (V.i IntKind.u64 (Int.ofNat 32))))),(wB 0 (AB (tm 6)))]) (CC.region [(wB 2 (AB (oN 32)))]))
abbrev zt:CC:=(CC.cond (tm 4) tG CC.skip)
abbrev AB7:CC:=(CC.seq (CC.region [(wB 3 (AB (tm 0))),(wB 4 (AM Dp (tm 3) (O.c (V.i IntKind.u64 (Int.ofNat 4294967296)))))]) zt)
abbrev re:CC:=(CC.region [(wB 11 (AB (tm 2))),(wB 12 (AM BE (tm 11) (oN 16))),(wB 2 (AB (tm 12)))])
abbrev zT:CC:=(CC.seq (CC.region [(wB 9 (AB (tm 0))),(wB 10 (B0 JO (tm 9) (O.c (V.i IntKind.u64 (Int.ofNat 16))))),(wB 0 (AB (tm 10)))]) re)
abbrev ri:CC:=(CC.cond (tm 8) zT CC.skip)
abbrev ABp:CC:=(CC.seq (CC.region [(wB 7 (AB (tm 0))),(wB 8 (AM Dp (tm 7) (O.c (V.i IntKind.u64 (Int.ofNat 65536)))))]) ri)
abbrev wT:CC:=(CC.region [(wB 17 (AB (tm 2))),(wB 18 (AM BE (tm 17) (oN 8))),(wB 2 (AB (tm 18)))])
abbrev tc:CC:=(CC.seq (CC.region [(wB 15 (AB (tm 0))),(wB 16 (B0 JO (tm 15) (O.c (V.i IntKind.u64 (Int.ofNat 8))))),(wB 0 (AB (tm 16)))]) wT)
abbrev AB1:CC:=(CC.cond (tm 14) tc CC.skip)
abbrev aV:CC:=(CC.seq (CC.region [(wB 13 (AB (tm 0))),(wB 14 (AM Dp (tm 13) (O.c (V.i IntKind.u64 (Int.ofNat 256)))))]) AB1)
abbrev bj:CC:=(CC.seq (CC.region [(wB 19 (AB (tm 2))),(wB 20 (AB (tm 0))),(wB 21 (CB IntKind.u8 (tm 20))),(wB 22 (DU (O.c (V.s 256 496986003408712215933005303621146343841837811690876167382323004466384420695090407243345123874780946046625255262057845613767806773758184921447759720770971536008171983842311960805720366577116933250839345203839274948261284255908394484732272583221484877694546905335834403051067785895034095251181560891789708940188598129052595634438001880866652824740680664595948164050600812232986714152902334120417949232733424961741260388658846598210939813666227264727603044226856020347194099943897342244906131705541414413428559898943151040826816076322978570758226444464494629814583418847495712557856038296917933182380796641777551368)) (tm 21))),(wB 23 (CB IntKind.i64 (tm 22))),(wB 24 (AM BE (tm 19) (tm 23))),(wB 2 (AB (tm 24)))]) CC.ret)
abbrev dV:CC:=(CC.seq aV bj)
abbrev jr:CC:=(CC.seq ABp dV)
abbrev fX:CC:=(CC.seq AB7 jr)
abbrev b90:CC:=(CC.seq (CC.region [(wB 2 (AB (oN 0)))]) fX)
theorem c90:AZ Try.prog 90=⟨25,b90,[(Rs.tmp (AX 2))]⟩:=by kernel_rfl
abbrev uV:CC:=(CC.region [(wB 7 (AB (tm 0))),(wB 8 (AB (tm 4))),(wB 9 (AB (tm 4))),(wB 10 (CB IntKind.u64 (tm 9))),(wB 11 (AY 76 [(tm 10)])),(wB 12 (AB (tm 1))),(wB 13 (AY 75 [(tm 7),(oN 0),(tm 8),(tm 11),(tm 12)]))])
abbrev b63:CC:=(CC.seq (CC.region [(wB 5 (AB (tm 0))),(wB 6 (BN (tm 5))),(wB 4 (AB (tm 6)))]) uV)
theorem c63:AZ Try.prog 63=⟨14,b63,[]⟩:=by kernel_rfl
abbrev vO:CC:=(CC.seq (CC.region [(wB 4 (AB (oN 0)))]) CC.ret)
abbrev xQ:CC:=(CC.cond (tm 12) vO CC.skip)
abbrev qR:CC:=(CC.seq (CC.region [(wB 12 (AB (tm 6)))]) xQ)
abbrev wW:CC:=(CC.seq (CC.region [(wB 4 (AB (O.c (V.i IntKind.i64 (Int.negSucc 0)))))]) CC.ret)
abbrev yW:CC:=(CC.seq qR wW)
abbrev ACR:CC:=(CC.cond (tm 11) yW CC.skip)
abbrev tF:CC:=(CC.seq (CC.region [(wB 11 (AB (tm 5)))]) ACR)
abbrev r8:CC:=(CC.seq (CC.region [(wB 4 (AB (oN 1)))]) CC.ret)
abbrev sY:CC:=(CC.cond (tm 13) r8 CC.skip)
abbrev zC:CC:=(CC.seq (CC.region [(wB 13 (AB (tm 6)))]) sY)
abbrev cC:CC:=(CC.seq (CC.region [(wB 4 (AB (O.c (V.i IntKind.i64 (Int.negSucc 0)))))]) CC.ret)
abbrev jz:CC:=(CC.cond (tm 16) cC CC.skip)
abbrev jK:CC:=(CC.seq (CC.region [(wB 14 (AB (tm 0))),(wB 15 (AB (tm 1))),(wB 16 (AM Bg (tm 14) (tm 15)))]) jz)
abbrev jm:CC:=(CC.seq (CC.region [(wB 4 (AB (oN 1)))]) CC.ret)
abbrev mE:CC:=(CC.cond (tm 19) jm CC.skip)
abbrev Zh:CC:=(CC.seq (CC.region [(wB 17 (AB (tm 0))),(wB 18 (AB (tm 1))),(wB 19 (AM Cs (tm 17) (tm 18)))]) mE)
abbrev l8:CC:=(CC.seq (CC.region [(wB 4 (AB (oN 0)))]) CC.ret)
abbrev cD:CC:=(CC.seq Zh l8)
abbrev ct:CC:=(CC.seq jK cD)
abbrev ju:CC:=(CC.seq zC ct)
abbrev bh:CC:=(CC.seq tF ju)
abbrev eY:CC:=(CC.seq (CC.region [(wB 9 (AB (tm 1))),(wB 10 (AY 91 [(tm 9)])),(wB 6 (AB (tm 10)))]) bh)
abbrev Z0:CC:=(CC.seq (CC.region [(wB 7 (AB (tm 0))),(wB 8 (AY 91 [(tm 7)])),(wB 5 (AB (tm 8)))]) eY)
abbrev b77:CC:=(CC.seq (CC.region [(wB 4 (AB (oN 0)))]) Z0)
theorem c77:AZ Try.prog 77=⟨20,b77,[(Rs.tmp (AX 4))]⟩:=by kernel_rfl
abbrev w4:CC:=(CC.seq (CC.region [(wB 3 (AB (tm 0))),(wB 4 (AB (tm 0))),(wB 5 (AM H6 (tm 3) (tm 4))),(wB 2 (AB (tm 5)))]) CC.ret)
abbrev b91:CC:=(CC.seq (CC.region [(wB 2 (AB (O.c (V.b Bool.false))))]) w4)
theorem c91:AZ Try.prog 91=⟨6,b91,[(Rs.tmp (AX 2))]⟩:=by kernel_rfl
abbrev tJ:CC:=(CC.seq (CC.region [(wB 5 (AB (tm 0))),(wB 6 (AB (tm 1))),(wB 7 (AY 92 [(tm 5),(tm 6)])),(wB 4 (AB (tm 7)))]) CC.ret)
abbrev b78:CC:=(CC.seq (CC.region [(wB 4 (AB (oN 0)))]) tJ)
theorem c78:AZ Try.prog 78=⟨8,b78,[(Rs.tmp (AX 4))]⟩:=by kernel_rfl
abbrev tW:CC:=(CC.seq (CC.region [(wB 5 (AB (tm 0))),(wB 6 (AB (tm 1))),(wB 7 (Gu (tm 5) (tm 6))),(wB 4 (AB (tm 7)))]) CC.ret)
abbrev b92:CC:=(CC.seq (CC.region [(wB 4 (AB (oN 0)))]) tW)
theorem c92:AZ Try.prog 92=⟨8,b92,[(Rs.tmp (AX 4))]⟩:=by kernel_rfl
abbrev pK:CC:=(CC.seq (CC.region [(wB 16 (AF 1 (tm 2))),(wB 17 (AK (tm 16))),(wB 18 (AF 1 (tm 3))),(wB 19 (AK (tm 18))),(wB 20 (AY 77 [(tm 17),(tm 19)])),(wB 4 (AB (tm 20)))]) CC.ret)
abbrev wY:CC:=(CC.seq (CC.region [(wB 25 (AF 0 (tm 3))),(wB 26 (AK (tm 25))),(wB 27 (AF 0 (tm 2))),(wB 28 (AK (tm 27))),(wB 29 (AY 77 [(tm 26),(tm 28)])),(wB 4 (AB (tm 29)))]) CC.ret)
abbrev rX:CC:=(CC.seq (CC.region [(wB 5 (AF 2 (tm 2))),(wB 6 (AK (tm 5))),(wB 7 (AF 2 (tm 3))),(wB 8 (AK (tm 7))),(wB 9 (AY 78 [(tm 6),(tm 8)])),(wB 4 (AB (tm 9)))]) CC.ret)
abbrev wm:CC:=(CC.cond (tm 21) wY rX)
abbrev xf:CC:=(CC.seq (CC.region [(wB 22 (AF 1 (tm 2))),(wB 23 (AK (tm 22))),(wB 24 (AM Cl (tm 23) (oN 0))),(wB 21 (AB (tm 24)))]) wm)
abbrev qz:CC:=(CC.cond (tm 10) pK xf)
abbrev qN:CC:=(CC.seq (CC.region [(wB 11 (AF 1 (tm 2))),(wB 12 (AK (tm 11))),(wB 13 (AF 1 (tm 3))),(wB 14 (AK (tm 13))),(wB 15 (AM H6 (tm 12) (tm 14))),(wB 10 (AB (tm 15)))]) qz)
abbrev oT:CC:=(CC.block 0 qN)
abbrev b64:CC:=(CC.seq (CC.region [(wB 2 (Cd 57 (tm 0))),(wB 3 (Cd 57 (tm 1))),(wB 4 (AB (oN 0)))]) oT)
theorem c64:AZ Try.prog 64=⟨30,b64,[(Rs.tmp (AX 4))]⟩:=by kernel_rfl
end Go.Proofs.Ytobfgempjekjpaa
namespace Go.Ev
open Go
/--places a and b change places -/
def He (p:Nat->Nat) (a b:Nat):Nat->Nat:=fun k=>if k=b then p a else if k=a then p b else p k
/--swaps within places a to b -/
inductive D3 (a b:Nat):(Nat->Nat)->(Nat->Nat)->Prop
 |refl (p:Nat->Nat):D3 a b p p
 |swap {p q:Nat->Nat} (i j:Nat):D3 a b p q->a<=i->i<b->a<=j->j<b->D3 a b p (He q i j)
section
variable {R:Nat->Nat->Bool} {p q r:Nat->Nat} {a b c d i j k m n x y:Nat}
theorem PR:He p a b b=p a:=if_pos rfl
theorem Jt:He p a b a=p b:=by unfold He;split<;>simp_all
theorem Ej (h1:x≠a) (h2:x≠b):He p a b x=p x:=by unfold He;rw[if_neg h2,if_neg h1]
theorem D3.trans (h1:D3 a b p q) (h2:D3 a b q r):D3 a b p r:=by
 induction h2 with
 |refl=>exact h1
 |swap i j _ h3 h4 h5 h6 ih=>exact .swap i j ih h3 h4 h5 h6
theorem D3.wide (h:D3 a b p q) (ha:c<=a) (hb:b<=d):D3 c d p q:=by
 induction h with
 |refl=>exact .refl _
 |swap i j _ h3 h4 h5 h6 ih=>exact .swap i j ih (by omega) (by omega) (by omega) (by omega)
theorem D3.one (h1:a<=i) (h2:i<b) (h3:a<=j) (h4:j<b):D3 a b p (He p i j):=.swap i j (.refl _) h1 h2 h3 h4
theorem D3.out (h:D3 a b p q):k<a\/b<=k->q k=p k:=by
 intro hk
 induction h with
 |refl=>rfl
 |swap i j _ h3 h4 h5 h6 ih=>rw[Ej (by omega) (by omega)];exact ih
theorem D3.all {P:Nat->Prop} (h:D3 a b p q) (h1:∀ k,a<=k->k<b->P (p k)):∀ k,a<=k->k<b->P (q k):=by
 induction h with
 |refl=>exact h1
 |swap i j _ h3 h4 h5 h6 ih=>
  intro k k1 k2
  unfold He
  split
  ·exact ih i h3 h4
  ·split
   ·exact ih j h5 h6
   ·exact ih k k1 k2
def By {α:Type} [Inhabited α] (L:List α) (p:Nat->Nat) (n:Nat):List α:=(List.range n).map fun i=>L.getD (p i) default
section
variable {α:Type} [Inhabited α] {L:List α}
theorem Ca:(By L p n).length=n:=by simp[By]
theorem CJ (h:x<n):(By L p n).getD x default=L.getD (p x) default:=by simp[By,List.getD,h]
theorem Qy:((By L p n).set a (L.getD (p b) default)).set b (L.getD (p a) default)=By L (He p a b) n:=by
 refine List.ext_getElem (by simp[By]) fun i h1 h2=>?_
 simp only[By,List.getElem_set,List.getElem_map,List.getElem_range,He]
 by_cases e:b=i
 ·subst e;simp
 ·rw[if_neg e,if_neg (Ne.symm e)]
  by_cases e2:a=i
  ·subst e2;simp
  ·rw[if_neg e2,if_neg (Ne.symm e2)]
theorem VC:By L (fun i=>i) L.length=L:=by
 refine List.ext_getElem (by simp[By]) fun i h1 h2=>?_
 simp[By,List.getD,h2]
theorem XB:∀ {l:List α} {i j:Nat},i<l.length->j<l.length->((l.set i (l.getD j default)).set j (l.getD i default)).Perm l:=by
 intro l i j hi hj
 have e:=@List.set_set_perm α l i j hi hj
 have g1:l.getD j default=l[j]:=by simp[List.getD,hj]
 have g2:l.getD i default=l[i]:=by simp[List.getD,hi]
 rw[g1,g2];exact e
theorem D3.perm (h:D3 a b p q) (hb:b<=n):(By L q n).Perm (By L p n):=by
 induction h with
 |refl=>exact List.Perm.refl _
 |swap i j _ h3 h4 h5 h6 ih=>
  rw[<-Qy]
  refine List.Perm.trans ?_ ih
  rename_i q _
  have:=XB (l:=By L q n) (i:=i) (j:=j) (by rw[Ca];omega) (by rw[Ca];omega)
  rw[CJ (by omega),CJ (by omega)]at this
  exact this
end
structure Ord (R:Nat->Nat->Bool):Prop where
 Ob:∀ {x y},R x y=true->R y x=false
 nt:∀ {x y z},R x y=false->R y z=false->R x z=false
theorem Ord.Xn (o:Ord R):R x x=false:=by
 cases h:R x x with
 |false=>rfl
 |true=>rw[<-h];exact o.Ob h
/--places a to b in order -/
def Hf (R:Nat->Nat->Bool) (p:Nat->Nat) (a b:Nat):Prop:=∀ i j,a<=i->i<j->j<b->R (p j) (p i)=false
/--what is ahead of a isn't above any from a to b -/
def P7 (R:Nat->Nat->Bool) (p:Nat->Nat) (a b:Nat):Prop:=∀ i j,i<a->a<=j->j<b->R (p j) (p i)=false
theorem P7.sw (h:P7 R p a b) (s:D3 a b p q):P7 R q a b:=fun i j h1 h2 h3=>by
 rw[s.out (.inl h1)]
 exact s.all (P:=fun x=>R x (p i)=false) (fun k k1 k2=>h i k h1 k1 k2) j h2 h3
theorem NQ (h:Hf R p a b) (h1:∀ k,a<=k->k<b->q k=p k):Hf R q a b:=fun i j hi hij hj=>by
 rw[h1 i hi (by omega),h1 j (by omega) hj];exact h i j hi hij hj
/--in order up to i,but for place j,which comes ahead of those behind it -/
def RL (R:Nat->Nat->Bool) (p:Nat->Nat) (a i j:Nat):Prop:=(∀ x y,a<=x->x<y->y<=i->x≠j->y≠j->R (p y) (p x)=false)/\∀ y,j<y->y<=i->R (p y) (p j)=false
theorem Qh (h:Hf R p a i):RL R p a i i:=⟨fun x y h1 h2 h3 h4 h5=>h x y h1 h2 (by omega),fun y h1 h2=>by omega⟩
theorem QA (o:Ord R) (M:RL R p a i (n+1)) (h0:a<=n) (hj:n+1<=i) (hlt:R (p (n+1)) (p n)=true):RL R (He p (n+1) n) a i n:=by
 have hlt:=o.Ob hlt
 constructor
 ·intro x y hx hxy hy hx1 hy1
  by_cases e1:y=n+1
  ·rw[e1,Jt,Ej (by omega) hx1]
   exact M.1 x n hx (by omega) (by omega) (by omega) (by omega)
  ·rw[Ej e1 hy1]
   by_cases e2:x=n+1
   ·rw[e2,Jt];exact M.1 n y h0 (by omega) hy (by omega) e1
   ·rw[Ej e2 hx1];exact M.1 x y hx hxy hy e2 e1
 ·intro y h1 h2
  rw[PR]
  by_cases e:y=n+1
  ·rw[e,Jt];exact hlt
  ·rw[Ej e (by omega)];exact M.2 y (by omega) h2
theorem KL (o:Ord R) (M:RL R p a i j) (hj:j<=i) (h:j=a\/R (p j) (p (j-1))=false) (ha:a<=j):Hf R p a (i+1):=by
 intro x y hx hxy hy
 by_cases e1:x=j
 ·rw[e1];exact M.2 y (by omega) (by omega)
 ·by_cases e2:y=j
  ·rw[e2]at hxy⊢
   have h:=h.resolve_left (by omega)
   by_cases e3:x=j-1
   ·rw[e3];exact h
   ·exact o.nt h (M.1 x (j-1) hx (by omega) (by omega) e1 (by omega))
  ·exact M.1 x y hx hxy (by omega) e1 e2
def V5 (R:Nat->Nat->Bool) (p:Nat->Nat) (a lo hi:Nat):Prop:=∀ k c,lo<=k->(c=2*k+1\/c=2*k+2)->c<hi->R (p (a+k)) (p (a+c))=false
/--but for root,whose children aren't above its parent -/
def Tb (R:Nat->Nat->Bool) (p:Nat->Nat) (a lo hi root:Nat):Prop:=
 (∀ k c,lo<=k->k≠root->(c=2*k+1\/c=2*k+2)->c<hi->R (p (a+k)) (p (a+c))=false)/\
 ∀ k c,lo<=k->(root=2*k+1\/root=2*k+2)->(c=2*root+1\/c=2*root+2)->c<hi->R (p (a+k)) (p (a+c))=false
theorem YE {lo hi:Nat} (h:V5 R p a (lo+1) hi):Tb R p a lo hi lo:=⟨fun k c h1 h2 h3 h4=>h k c (by omega) h3 h4,fun k c h1 h2=>by omega⟩
theorem Tr {lo hi root ch:Nat} (o:Ord R) (h:Tb R p a lo hi root) (hl:lo<=root) (hc:ch=2*root+1\/ch=2*root+2) (hch:ch<hi) (hmax:∀ c,(c=2*root+1\/c=2*root+2)->c<hi->R (p (a+ch)) (p (a+c))=false) (hlt:R (p (a+root)) (p (a+ch))=true):Tb R (He p (a+root) (a+ch)) a lo hi ch:=by
 have hlt:=o.Ob hlt
 constructor
 ·intro k c h1 h2 h3 h4
  by_cases e1:k=root
  ·rw[e1,Jt]
   by_cases e2:c=ch
   ·rw[e2,PR];exact hlt
   ·rw[Ej (by omega) (by omega)];exact hmax c (by omega) h4
  ·rw[show He p (a+root) (a+ch) (a+k)=p (a+k)from Ej (by omega) (by omega)]
   by_cases e2:c=root
   ·rw[e2,Jt];exact h.2 k ch h1 (by omega) hc hch
   ·rw[Ej (by omega) (by omega)];exact h.1 k c h1 e1 h3 h4
 ·intro k c h1 h2 h3 h4
  obtain rfl:k=root:=by omega
  rw[Jt,Ej (by omega) (by omega)]
  exact h.1 ch c (by omega) (by omega) h3 h4
theorem NZ {lo hi root:Nat} (h:Tb R p a lo hi root) (h1:∀ c,(c=2*root+1\/c=2*root+2)->c<hi->R (p (a+root)) (p (a+c))=false):V5 R p a lo hi:=fun k c k1 k2 k3=>by
 by_cases e:k=root
 ·subst e;exact h1 c k2 k3
 ·exact h.1 k c k1 e k2 k3
theorem YS {hi:Nat} (o:Ord R) (h:V5 R p a 0 hi):∀ k,k<hi->R (p a) (p (a+k))=false:=by
 intro k
 induction k using Nat.strongRecOn with
 |_ k ih=>
  intro hk
  by_cases e:k=0
  ·subst e;exact o.Xn
  ·exact o.nt (ih ((k-1)/2) (by omega) (by omega)) (h ((k-1)/2) k (Nat.zero_le _) (by omega) hk)
theorem WE {lo hi:Nat} (h:hi<=2*lo+1):V5 R p a lo hi:=fun k c h1 h2 h3=>by omega
def Fin (R:Nat->Nat->Bool) (p:Nat->Nat) (a0 b0 a b:Nat):Prop:=∀ q,D3 a b p q->Hf R q a b->Hf R q a0 b0
theorem KS {a0 b0:Nat} (h:Fin R p a0 b0 a b) (s:D3 a b p q):Fin R q a0 b0 a b:=fun r s2=>h r (s.trans s2)
/--behind those that are as the pivot -/
theorem iH {a0 b0 e:Nat} (o:Ord R) (h:Fin R p a0 b0 a b) (hm:a<=m) (hb:m<=b) (h0:∀ k,a<=k->k<b->R (p k) e=false) (h1:∀ k,a<=k->k<m->R e (p k)=false):Fin R p a0 b0 m b:=fun q s hs=>by
 refine h q (s.wide hm (Nat.le_refl _)) fun i j i1 i2 i3=>?_
 by_cases d1:m<=i
 ·exact hs i j d1 i2 i3
 ·rw[s.out (.inl (by omega:i<m))]
  have:R (q j) e=false:=(s.wide hm (Nat.le_refl _)).all (P:=fun x=>R x e=false) h0 j (by omega) i3
  exact o.nt this (h1 i i1 (by omega))
theorem gA {e:Nat} (o:Ord R) (h:P7 R p a b) (hm:a<=m) (h1:∀ k,a<=k->k<m->R e (p k)=false) (h2:∀ k,m<=k->k<b->R e (p k)=true):P7 R p m b:=fun i j i1 i2 i3=>by
 by_cases d:i<a
 ·exact h i j d (by omega) i3
 ·exact o.nt (o.Ob (h2 j i2 i3)) (h1 i (by omega) i1)
/--around the pivot,at m -/
structure Sn (R:Nat->Nat->Bool) (p:Nat->Nat) (a b m:Nat):Prop where
 am:a<=m
 mb:m<b
 lt:∀ k,a<=k->k<m->R (p k) (p m)=true
 ge:∀ k,m<k->k<b->R (p k) (p m)=false
theorem Qk (o:Ord R) (P:Sn R p a b m) (h1:Hf R p a m) (h2:Hf R p (m+1) b):Hf R p a b:=fun i j i1 i2 i3=>by
 by_cases d1:j<m
 ·exact h1 i j i1 i2 d1
 ·by_cases d2:j=m
  ·subst d2;exact o.Ob (P.lt i i1 i2)
  ·by_cases d3:m<i
   ·exact h2 i j d3 i2 i3
   ·by_cases d4:i=m
    ·subst d4;exact P.ge j (by omega) i3
    ·exact o.nt (P.ge j (by omega) i3) (o.Ob (P.lt i i1 (by omega)))
theorem Sn.left (P:Sn R p a b m) (s:D3 a m p q):Sn R q a b m:=⟨P.am,P.mb,fun k k1 k2=>by
 rw[s.out (.inr (Nat.le_refl _))];exact s.all (P:=fun x=>R x (p m)=true) (fun k k1 k2=>P.lt k k1 k2) k k1 k2,fun k k1 k2=>by
 rw[s.out (.inr (Nat.le_refl _)),s.out (.inr (by omega))];exact P.ge k k1 k2⟩
theorem Sn.right (P:Sn R p a b m) (s:D3 (m+1) b p q):Sn R q a b m:=⟨P.am,P.mb,fun k k1 k2=>by
 rw[s.out (.inl (by omega)),s.out (.inl (by omega))];exact P.lt k k1 k2,fun k k1 k2=>by
 rw[show q m=p m from s.out (.inl (by omega))];exact s.all (P:=fun x=>R x (p m)=false) (fun k k1 k2=>P.ge k (by omega) k2) k (by omega) k2⟩
theorem Nj (h:P7 R p a b) (hm:m<=b):P7 R p a m:=fun i j i1 i2 i3=>h i j i1 i2 (by omega)
theorem Lz (o:Ord R) (h:P7 R p a b) (P:Sn R p a b m):P7 R p (m+1) b:=fun i j i1 i2 i3=>by
 by_cases d1:i<a
 ·exact h i j d1 (by have:=P.am;omega) i3
 ·by_cases d2:i=m
  ·subst d2;exact P.ge j (by omega) i3
  ·exact o.nt (P.ge j (by omega) i3) (o.Ob (P.lt i (by omega) (by omega)))
theorem Q7 {a0 b0:Nat} (o:Ord R) (h:Fin R p a0 b0 a b) (P:Sn R p a b m) (hs:Hf R p a m):Fin R p a0 b0 (m+1) b:=fun q s h2=>by
 have:=P.am;have:=P.mb
 exact h q (s.wide (by omega) (Nat.le_refl _)) (Qk o (P.right s) (NQ hs fun k k1 k2=>s.out (.inl (by omega))) h2)
theorem Um {a0 b0:Nat} (o:Ord R) (h:Fin R p a0 b0 a b) (P:Sn R p a b m) (hs:Hf R p (m+1) b):Fin R p a0 b0 a m:=fun q s h2=>by
 have:=P.am;have:=P.mb
 exact h q (s.wide (Nat.le_refl _) (by omega)) (Qk o (P.left s) h2 (NQ hs fun k k1 k2=>s.out (.inr (by omega))))
end
end Go.Ev
namespace Go.Ev
open Go
/--less of a block's cells -/
theorem CE.pre {h:H} {id:B} {xs ys:List V} (o:CE h id (xs++ys)):CE h id xs:=by
 obtain⟨Ap,h1,h2,h3,h4,h5,h6,h7⟩:=o
 refine⟨Ap,h1,h2,h3,h4,h5,h6,fun i y hy=>h7 i y ?_⟩
 have hi:=(List.getElem?_eq_some_iff.1 hy).1
 rw[List.getElem?_append_left hi];exact hy
theorem CE.none {h:H} {id:B} {xs:List V} (o:CE h id xs):CE h id []:=CE.pre (xs:=[]) (ys:=xs) o
/--cells stored behind those that are known -/
theorem SC {h:H} {id:B} {xs vs:List V} {fin:Nat} (o:CE h id xs) (hj:xs.length+vs.length<=fin) (hfit:fin<2 ^ 37) (h1:Bk vs=true):∃ h',(∀ k,store h id 0 xs.length fin vs k=k h')/\CE h' id (xs++vs)/\AW (fun i=>i=id) h h':=by
 obtain⟨Ap,a1,a2,a3,a4,a5,a6,a7⟩:=o
 obtain⟨next,floor,heap⟩:=h
 obtain⟨cur,min,sz,cells,bel,fr⟩:=Ap
 simp only at a2 a3 a4 a7
 subst a2;subst a3;subst a4
 obtain⟨tr,t1,t2,t3⟩:=Bn vs xs.length cells (by omega)
 obtain⟨hp,s1,s2,s3⟩:=Bw id (⟨0,0,sz,tr,bel,0⟩:Gi) heap
 have e1:B.Jz floor id=true:=by cases floor<;>first|rfl|(show Nat.ble _ _=true;rw[Nat.ble_eq];exact a5)
 have e2:Nat.ble (Nat.add xs.length vs.length) fin=true:=by rw[Nat.ble_eq];exact hj
 have e4:Hc 0 xs.length=true:=rfl
 have e5:Nat.beq 0 0=true:=rfl
 have e6:Nat.ble 0 0=true:=rfl
 have a1':heap.get id=some ⟨0,0,sz,cells,bel,0⟩:=a1
 refine⟨⟨next,floor,hp⟩,fun k=>?_,⟨_,s2,rfl,rfl,rfl,a5,a6,fun i z hz=>?_⟩,⟨rfl,Nat.le_refl _,fun i _ hi=>s3 i hi⟩⟩
 ·simp only[store,CH,a1',Ao,BB,e5,e6,e1,e2,h1,e4,AH]
  rw[t1,s1]
 ·show tr.BP i=some z
  by_cases hi:i<xs.length
  ·rw[List.getElem?_append_left hi]at hz
   rw[t3 i (by omega)];exact a7 i z hz
  ·rw[List.getElem?_append_right (by omega)]at hz
   have:=t2 _ z hz
   rwa [show xs.length+(i-xs.length)=i by omega]at this
section
variable {P:Program} {h:H} {N:Nx} {id:B} {el size DN len c:Nat} {x:V} {xs vs:List V}
/--in place:there is room -/
theorem AP.made (o:CE h id xs) (hlen:xs.length=len*size) (hx:∀ k:Nat->List V->Bool,Dd size x h k=k DN vs) (hn:vs.length=DN*size) (h1:Bk vs=true) (hc:len+DN<=c) (hfit:c*size<2 ^ 37) (hcb:c<18446744073709551616)
 (k:∀ h',CE h' id (xs++vs)->AW (fun i=>i=id) h h'->N.go P (.l id 0 0 (len+DN) (c*size) (some c)) h'):AP P el size (.l id 0 0 len (c*size) (some c)) x h N:=by
 have hle:Nat.ble (Nat.add len DN) c=true:=by rw[Nat.ble_eq];exact hc
 have hmul:=Nat.mul_le_mul_right size hc
 rw[Nat.add_mul]at hmul
 cases DN with
 |zero=>
  have hv:vs=[]:=List.eq_nil_of_length_eq_zero (by rw[hn,Nat.zero_mul])
  subst hv
  refine DZ (v:=.l id 0 0 (len+0) (c*size) (some c)) (h':=h) (fun q=>?_) (k h (by rw[List.append_nil];exact o) ⟨rfl,Nat.le_refl _,fun _ _ _=>rfl⟩)
  rw[hx]
  show A4 (BU c) _ (fun _=>A4 (Nat.ble (Nat.add len 0) c) (fun _=>Gc id 0 0 len (c*size) c size 0 [] h q) _)=_
  rw[Fu hcb,BF,hle];rfl
 |succ m=>
  obtain⟨h',a1,a2,a3⟩:=SC o (vs:=vs) (fin:=c*size) (by omega) hfit h1
  refine DZ (v:=.l id 0 0 (len+(m+1)) (c*size) (some c)) (h':=h') (fun q=>?_) (k h' a2 a3)
  rw[hx]
  show A4 (BU c) _ (fun _=>A4 (Nat.ble (Nat.add len (m+1)) c) (fun _=>Gc id 0 0 len (c*size) c size (m+1) vs h q) _)=_
  rw[Fu hcb,BF,hle]
  show store h id 0 (Nat.add 0 (Nat.mul len size)) (c*size) vs (fun h=>fN (Nat.add len (m+1)) fun l'=>q (.l id 0 0 l' (c*size) (some c)) h)=_
  rw[show Nat.add 0 (Nat.mul len size)=xs.length by rw[hlen];show 0+len*size=_;omega,a1,A5]
  rfl
/--append(S{},s...):a new block,or the empty one -/
theorem AP.e1 {g off fin:Nat} (hx:∀ k:Nat->List V->Bool,Dd size x h k=k DN vs) (hf:B.val h.floor<=B.val h.next) (hn:vs.length=DN*size) (hl:DN<=1048576) (hl2:vs.length<2 ^ 38)
 (k0:DN=0->N.go P (.l id g off 0 fin (some 0)) h)
 (k:∀ h',1<=DN->AW AN h h'->B.val h'.next=B.val h.next+1->FU h' el size (.l h.next 0 0 DN vs.length none) vs->O0 h' (.l h.next 0 0 DN vs.length none)->N.go P (.l h.next 0 0 DN vs.length none) h'):AP P el size (.l id g off 0 fin (some 0)) x h N:=by
 cases DN with
 |zero=>
  have hv:vs=[]:=List.eq_nil_of_length_eq_zero (by rw[hn,Nat.zero_mul])
  subst hv
  exact DZ (v:=.l id g off 0 fin (some 0)) (h':=h) (fun q=>by rw[hx];rfl) (k0 rfl)
 |succ m=>
 obtain⟨h',a1,a2,a3,Ap,b1,b2,b3,b4,b5,b6,b7⟩:=Di el vs h hl2
 have hble:Nat.ble (Nat.add 0 (m+1)) 1048576=true:=by rw[Nat.ble_eq];show 0+(m+1)<=_;omega
 have hno:Nat.ble (Nat.add 0 (m+1)) 0=false:=by
  cases hx:Nat.ble (Nat.add 0 (m+1)) 0 with
  |false=>rfl
  |true=>have:=Nat.le_of_ble_eq_true hx;have h2:0+(m+1)<=0:=this;omega
 refine DZ (v:=.l h.next 0 0 (m+1) vs.length none) (h':=h') (fun q=>?_) (k h' (by omega) a2 a3 (.inr ⟨h.next,0,m+1,Ap,rfl,by omega,hn,by rw[a2.floor];exact hf,by omega,b1,⟨by omega,by omega⟩,b4,b5,b6,b7⟩) ?_)
 ·rw[hx]
  show A4 (BU 0) (fun _=>Ch (W9 (Nat.ble 1 0) (Nat.beq 0 (Nat.add 18446744073709551615 size))) el id g off 0 fin size (m+1) vs h q) (fun _=>A4 (Nat.ble (Nat.add 0 (m+1)) 0) (fun _=>Gc id g off 0 fin 0 size (m+1) vs h q) fun _=>EB el id g off 0 fin size (m+1) vs h q)=_
  rw[Fu (by omega),BF,hno,BF]
  unfold EB
  rw[hble,AH]
  show alloc el (app [] vs) h (fun id h=>fN (Nat.add 0 (m+1)) fun l'=>fN (Nat.mul l' size) fun fin'=>q (.l id 0 0 l' fin' none) h)=_
  rw[Ds,List.nil_append,a1,A5,A5]
  show q (.l h.next 0 0 (0+(m+1)) ((0+(m+1))*size) none) h'=_
  rw[Nat.zero_add,<-hn]
 ·intro id' g off n fin cap e
  cases e
  exact⟨Ap,b1,b3⟩
end
end Go.Ev
end
