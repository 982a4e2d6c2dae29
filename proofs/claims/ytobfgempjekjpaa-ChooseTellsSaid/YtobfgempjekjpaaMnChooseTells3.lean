/- The law ChooseTells, part 3: what its proof uses, closely written. No condition. -/
import Derived.Test.YtobfgempjekjpaaMnChooseTells2
import Derived.Test.YtobfgempjekjpaaProg
noncomputable section
set_option linter.all false
namespace Go.Ev
open Go
/--v is a slice of the call's own,that only it appends to:its cells are xs ('size' an element) -/
def FN (h:H) (el size:Nat) (v:V) (xs:List V):Prop:=
 (v=.l0/\xs=[])\/∃ id g n Ao,v=.l id g 0 n xs.length none/\1<=n/\xs.length=n*size/\B.val h.floor<=B.val id/\B.val id<B.val h.next/\h.heap.get id=some Ao/\(Ao.min<=g/\g<=Ao.cur)/\Ao.size=xs.length/\Ao.el=el/\Ao.fr=0/\
   ∀ i y,xs[i]? =some y->Ao.cells.BN i=some y
/--the block that a slice lies in -/
def Al (v:V):B->Prop:=fun id=>∃ g off n fin cap,v=.l id g off n fin cap
theorem FN.nil (h:H) (el size:Nat):FN h el size .l0 []:=.inl ⟨rfl,rfl⟩
theorem FN.CT {h:H} {el:Nat} {v:V} {xs:List V} (b:FN h el 1 v xs):F5 h v xs:=by
 rcases b with⟨rfl,rfl⟩|⟨id,g,n,Ao,rfl,h1,h2,h3,h4,h5,h6,h7,h8,h9,h10⟩
 ·exact .inl ⟨rfl,rfl⟩
 ·refine .inr ⟨id,g,0,xs.length,none,by rw[h2,Nat.mul_one],by omega,h4,fun _=>⟨Ao,h5,h6.1⟩,fun i y hy=>?_⟩
  unfold Ev.cell GZ
  rw[h5]
  show(if Ao.min<=g then Ao.cells.BN (0+i)else none)=_
  rw[if_pos h6.1,Nat.zero_add]
  exact h10 i y hy
theorem FN.stay {p:B->Prop} {h h':H} {el size:Nat} {v:V} {xs:List V} (b:FN h el size v xs) (s:AU p h h') (hp:∀ id,Al v id->¬p id):FN h' el size v xs:=by
 rcases b with⟨rfl,rfl⟩|⟨id,g,n,Ao,rfl,h1,h2,h3,h4,h5,h6⟩
 ·exact .inl ⟨rfl,rfl⟩
 ·exact .inr ⟨id,g,n,Ao,rfl,h1,h2,by rw[s.floor];exact h3,Nat.lt_of_lt_of_le h4 s.next,(s.get id h4 (hp id ⟨_,_,_,_,_,rfl⟩)).trans h5,h6⟩
theorem FN.grow {h h':H} {el size:Nat} {v:V} {xs:List V} (b:FN h el size v xs) (s:AU AO h h'):FN h' el size v xs:=b.stay s fun _ _ h=>h
/--it was made here,behind h0 -/
theorem FN.own {h:H} {el size:Nat} {v:V} {xs:List V} (b:FN h el size v xs) {id:B} (i:Al v id):B.val h.floor<=B.val id/\B.val id<B.val h.next:=by
 rcases b with⟨rfl,rfl⟩|⟨id',g,n,Ao,rfl,h1,h2,h3,h4,_⟩
 ·obtain⟨_,_,_,_,_,e⟩:=i;cases e
 ·obtain⟨_,_,_,_,_,e⟩:=i;cases e;exact⟨h3,h4⟩
theorem KH {h:H} {el size n:Nat} {v:V} {xs vs:List V} (b:FN h el size v xs) (hf:B.val h.floor<=B.val h.next) (hsz:1<=size) (hn:vs.length=n*size) (h1:CB vs=true) (hb:xs.length+vs.length<=1048576):
 ∃ v' h',(∀ k,CU el size v n vs h k=k v' h')/\FN h' el size v' (xs++vs)/\AU (Al v) h h'/\∀ id,Al v' id->Al v id\/B.val h.next<=B.val id:=by
 have hle:n<=vs.length:=by rw[hn];exact Nat.le_mul_of_pos_right _ hsz
 rcases b with⟨rfl,rfl⟩|⟨id,g,m,Ao,rfl,b1,b2,b3,b4,b5,b6,b7,b8,b9,b10⟩
 ·cases n with
  |zero=>
   have:vs=[]:=List.eq_nil_of_length_eq_zero (by simpa using hn)
   subst this
   exact⟨.l0,h,fun k=>rfl,FN.nil h el size,AU.refl _ h,fun id i=>.inl i⟩
  |succ n=>
   obtain⟨h',a1,a2,a3,Ao,c1,c2,c3,c4,c5,c6,c7⟩:=DY el vs h (by omega)
   have hble:Nat.ble (n+1) 1048576=true:=by rw[Nat.ble_eq];simp at hb;omega
   refine⟨.l h.next 0 0 (n+1) vs.length none,h',fun k=>?_,.inr ⟨h.next,0,n+1,Ao,rfl,by omega,hn,by rw[a2.floor];exact hf,by omega,c1,⟨by omega,by omega⟩,c4,c5,c6,c7⟩,a2.mono fun _ _ h=>h.elim,fun id i=>?_⟩
   ·show(At (Nat.ble (n+1) 1048576) fun _=>alloc el vs h fun id h=>k (.l id 0 0 (n+1) vs.length none) h)=_
    rw[hble,AH,a1]
   ·obtain⟨_,_,_,_,_,e⟩:=i;cases e;exact .inr (Nat.le_refl _)
 ·obtain⟨next,floor,heap⟩:=h
  obtain⟨cur,min,sz,cells,bel,fr⟩:=Ao
  simp only at b6 b7 b8 b9 b10
  obtain⟨tr,t1,t2,t3⟩:=Bt vs sz cells (by omega)
  obtain⟨hp,s1,s2,s3⟩:=Bu id (⟨Nat.succ cur,min,Nat.add sz (Nat.mul n size),tr,bel,fr⟩:Gi) heap
  have e1:Nat.ble min g=true:=by rw[Nat.ble_eq];exact b6.1
  have e2:B.Kb floor id=true:=by
   cases floor<;>first|rfl|(show Nat.ble _ _=true;rw[Nat.ble_eq];exact b3)
  have e3:Nat.add 0 (Nat.mul m size)=sz:=by
   show 0+m*size=sz
   omega
  have e3':Nat.ble sz sz=true:=by rw[Nat.ble_eq];exact Nat.le_refl _
  have e4:Nat.beq xs.length sz=true:=by rw[b7];simp
  have e4':Nat.beq sz sz=true:=Nat.beq_refl _
  have e9:La size (Nat.add m n)=none:=KJ (by show 1<=m+n;omega)
  have e5:Nat.ble 1 m=true:=by rw[Nat.ble_eq];exact b1
  have hm:m<=xs.length:=by rw[b2];exact Nat.le_mul_of_pos_right _ hsz
  have e6:Nat.ble (Nat.add m n) 1048576=true:=by rw[Nat.ble_eq];show m+n<=1048576;omega
  have e7:HF fr sz=true:=by rw[b9];rfl
  have e8:Nat.beq bel el=true:=by rw[b8];simp
  refine⟨.l id (Nat.succ cur) 0 (m+n) (sz+n*size) none,⟨next,floor,hp⟩,fun k=>?_,.inr ⟨id,Nat.succ cur,m+n,_,?_,by omega,?_,b3,b4,s2,?_,?_,b8,b9,fun i y hy=>?_⟩,⟨rfl,Nat.le_refl _,fun id' _ hne=>s3 id' fun e=>hne (by subst e;exact⟨_,_,_,_,_,rfl⟩)⟩,fun id' i=>?_⟩
  ·show CV (Nat.ble 1 m) el id g 0 m xs.length size n vs ⟨next,floor,heap⟩ k=_
   have b5':heap.get id=some ⟨cur,min,sz,cells,bel,fr⟩:=b5
   simp only[CV,CN,b5',Aq,BH,A5,e3,e1,e2,e3',e4,e4',RC,e5,e6,h1,e7,e8,e9,AH]
   rw[t1,s1];rfl
  ·show V.l id (Nat.succ cur) 0 (m+n) (sz+n*size) none=V.l id (Nat.succ cur) 0 (m+n) (xs++vs).length none
   rw[List.length_append,hn,b7]
  ·rw[List.length_append,hn,b2,Nat.add_mul]
  ·exact⟨by show min<=cur+1;omega,Nat.le_refl _⟩
  ·show Nat.add sz (Nat.mul n size)=(xs++vs).length
   rw[List.length_append,hn,b7];rfl
  ·show tr.BN i=some y
   by_cases hi:i<xs.length
   ·rw[t3 i (.inl (by omega))]
    refine b10 i y ?_
    rwa [List.getElem?_append_left hi]at hy
   ·have hi':i-xs.length<vs.length:=by
     have:=(List.getElem?_eq_some_iff.1 hy).1
     simp at this;omega
    rw[List.getElem?_append_right (by omega)]at hy
    have:=t2 (i-xs.length) y hy
    rwa [show sz+(i-xs.length)=i by omega]at this
  ·obtain⟨_,_,_,_,_,e⟩:=i;cases e;exact .inl ⟨_,_,_,_,_,rfl⟩
/--a block of the call's own,with the cells xs (and perhaps more behind them) -/
def DA (h:H) (id:B) (xs:List V):Prop:=∃ Ao,h.heap.get id=some Ao/\Ao.cur=0/\Ao.min=0/\Ao.fr=0/\B.val h.floor<=B.val id/\B.val id<B.val h.next/\∀ i y,xs[i]? =some y->Ao.cells.BN i=some y
theorem DA.stay {p:B->Prop} {h h':H} {id:B} {xs:List V} (o:DA h id xs) (s:AU p h h') (hp:¬p id):DA h' id xs:=by
 obtain⟨Ao,h1,h2,h3,h4,h5,h6,h7⟩:=o
 exact⟨Ao,(s.get id h6 hp).trans h1,h2,h3,h4,by rw[s.floor];exact h5,Nat.lt_of_lt_of_le h6 s.next,h7⟩
theorem DA.row {h:H} {id:B} {xs:List V} (o:DA h id xs):Row h id 0 0 xs:=by
 obtain⟨Ao,h1,h2,h3,h4,h5,h6,h7⟩:=o
 refine⟨fun _=>⟨Ao,h1,by omega⟩,fun i y hy=>?_⟩
 unfold Ev.cell GZ
 rw[h1]
 show(if Ao.min<=0 then Ao.cells.BN (0+i)else none)=_
 rw[if_pos (by omega),Nat.zero_add]
 exact h7 i y hy
theorem DA.CT {h:H} {id:B} {xs:List V} (o:DA h id xs) (cap:Option Nat):F5 h (.l id 0 0 xs.length xs.length cap) xs:=by
 have r:=o.row
 obtain⟨Ao,h1,h2,h3,h4,h5,h6,h7⟩:=o
 exact .inr ⟨id,0,0,_,cap,rfl,by omega,h6,r⟩
/--at one place written -/
theorem ID {h:H} {id:B} {xs:List V} {j fin:Nat} {y:V} (o:DA h id xs) (hj:j<fin) (hfit:j<2 ^ 37) (h1:Fa y=true):∃ h',(∀ k,store h id 0 j fin [y] k=k h')/\DA h' id (xs.set j y)/\AU (fun i=>i=id) h h':=by
 obtain⟨Ao,a1,a2,a3,a4,a5,a6,a7⟩:=o
 obtain⟨next,floor,heap⟩:=h
 obtain⟨cur,min,sz,cells,bel,fr⟩:=Ao
 simp only at a2 a3 a4 a7
 subst a2;subst a3;subst a4
 obtain⟨tr,t1,t2,t3⟩:=Bt [y] j cells (by simp;omega)
 obtain⟨hp,s1,s2,s3⟩:=Bu id (⟨0,0,sz,tr,bel,0⟩:Gi) heap
 have e1:B.Kb floor id=true:=by cases floor<;>first|rfl|(show Nat.ble _ _=true;rw[Nat.ble_eq];exact a5)
 have e2:Nat.ble (Nat.add j 1) fin=true:=by rw[Nat.ble_eq];exact hj
 have e3:CB [y]=true:=by show Bool.rec false true (Fa y)=true;rw[h1]
 have e4:HF 0 j=true:=rfl
 have e5:Nat.beq 0 0=true:=rfl
 have e6:Nat.ble 0 0=true:=rfl
 have a1':heap.get id=some ⟨0,0,sz,cells,bel,0⟩:=a1
 refine⟨⟨next,floor,hp⟩,fun k=>?_,⟨_,s2,rfl,rfl,rfl,a5,a6,fun i z hz=>?_⟩,⟨rfl,Nat.le_refl _,fun i _ hi=>s3 i hi⟩⟩
 ·simp only[store,CN,a1',Aq,BH,List.length_singleton,e5,e6,e1,e2,e3,e4,AH]
  rw[t1,s1]
 ·show tr.BN i=some z
  rw[List.getElem?_set]at hz
  split at hz
  ·rename_i hij
   subst hij
   split at hz
   ·cases hz
    exact t2 0 y rfl
   ·cases hz
  ·rename_i hij
   rw[t3 i (by simp;omega)]
   exact a7 i z hz
theorem Ir (el:Nat) (cs:List V) (h:H) (hl:cs.length<2 ^ 37) (hf:B.val h.floor<=B.val h.next):∃ h',(∀ k,alloc el cs h k=k h.next h')/\AU AO h h'/\DA h' h.next cs/\B.val h'.next=B.val h.next+1:=by
 obtain⟨h',a1,a2,a3,Ao,b1,b2,b3,b4,b5,b6,b7⟩:=DY el cs h (by omega)
 exact⟨h',a1,a2,⟨Ao,b1,b3,b2,b6,by rw[a2.floor];exact hf,by omega,b7⟩,a3⟩
theorem ML (h:H):Bx h (Av h)=h:=by cases h;rfl
theorem AU.F3 {p:B->Prop} {h h1:H} (s:AU p (Av h) h1):AU p h (Bx h h1):=by
 obtain⟨n,f,hp⟩:=h
 obtain⟨n1,f1,hp1⟩:=h1
 exact⟨rfl,s.next,s.get⟩
theorem DA.F3 {h h1:H} {id:B} {xs:List V} (o:DA h1 id xs) (hf:B.val h.floor<=B.val id):DA (Bx h h1) id xs:=by
 obtain⟨n,f,hp⟩:=h
 obtain⟨n1,f1,hp1⟩:=h1
 obtain⟨Ao,a1,a2,a3,a4,a5,a6,a7⟩:=o
 exact⟨Ao,a1,a2,a3,a4,hf,a6,a7⟩
theorem Rv (cf:Bn) (t:F) (h:H) (k:V->H->Bool) (kd:IntKind) (x:O):Be kd x cf t h k=T4 (oV x t) (fun _ n=>k (.i kd (kd.wrap n)) h) fun _ m r hi=>At (Nat.ble hi (BQ kd)) fun _=>k (.r kd m r hi) h:=by simp only[Be,AQ,CK]
theorem jb (cf:Bn) (t:F) (h:H) (k:V->H->Bool) (x y:O):E2 x y cf t h k=vI (oV y t) fun kd' b=>T4 (oV x t) (fun kd a=>At (CE kd kd') fun _=>Pb kd a b fun v=>k v h) fun kd m r _=>VQ kd' b (fun v=>k v h) kd m r:=by simp only[E2,AQ,Au]
section
variable {P:Program} {S:Spec} {l:List CO} {t:F} {h:H} {K:F->H->Prop}
theorem Fs.pure {n:Nat} {r:CG} {v:V} (e:∀ k,r (GH P S) t (Av h) k=k v (Av h)) (k:Fs P S l (put n v t) h K):Fs P S (.mk .none (.some (AT n)) false (.mk r)::l) t h K:=
 Fs.op e (by rw[ML];exact k)
theorem Ma {o x:O} {id:B} {j fin:Nat} {y:V} {h':H} (e1:oV o t=.p id 0 j fin) (e2:cells (oV x t)=[y]) (hs:∀ k:H->Bool,store h id 0 j fin [y] k=k h') (cf:Bn) (k:V->H->Bool):Af 1 o x cf t h k=k (.tu []) h':=by
 simp only[Af,AQ,Au,e1,Hu,e2]
 have:Nat.beq [y].length 1=true:=rfl
 rw[this,AH,hs]
theorem FH.store {b:Bool} {o x:O} {id:B} {j fin:Nat} {y:V} {xs:List V} (e1:oV o t=.p id 0 j fin) (e2:cells (oV x t)=[y]) (ho:DA h id xs) (hj:j<fin) (hfit:j<2 ^ 37) (h1:Fa y=true)
 (k:∀ h',DA h' id (xs.set j y)->AU (fun i=>i=id) h h'->FH P S l t h' K):FH P S (.mk .none .none b (.mk (Af 1 o x))::l) t h K:=by
 obtain⟨h',a1,a2,a3⟩:=ID ho hj hfit h1
 exact FH.op0 (fun k=>Ma e1 e2 a1 _ k) (k h' a2 a3)
theorem Fs.ABE {r:CG} {v:V} {h1:H} (e:∀ k,r (GH P S) t h k=k v h1) (k:Fs P S l t h1 K):Fs P S (.mk .none .none true (.mk r)::l) t h K:=by
 obtain⟨t',h',a1,a2⟩:=k
 refine⟨t',h',fun k=>?_,a2⟩
 show r (GH P S) t h (fun v h=>DE (GH P S) l t h k)=_
 rw[e,a1]
theorem Fs.store {o x:O} {id:B} {j fin:Nat} {y:V} {xs:List V} (e1:oV o t=.p id 0 j fin) (e2:cells (oV x t)=[y]) (ho:DA h id xs) (hj:j<fin) (hfit:j<2 ^ 37) (h1:Fa y=true)
 (k:∀ h',DA h' id (xs.set j y)->AU (fun i=>i=id) h h'->Fs P S l t h' K):Fs P S (.mk .none .none true (.mk (Af 1 o x))::l) t h K:=by
 obtain⟨h',a1,a2,a3⟩:=ID ho hj hfit h1
 exact Fs.ABE (fun k=>Ma e1 e2 a1 _ k) (k h' a2 a3)
/--a literal of one element -/
theorem Fs.kj {n el:Nat} {o:O} {y:V} (e1:oV o t=y) (h1:FF y=true) (h2:cells y=[y]) (hf:B.val h.floor<=B.val h.next)
 (k:∀ h' id,AU AO h h'->id=h.next->B.val h'.next=B.val h.next+1->DA h' id [y]->Fs P S l (put n (.l id 0 0 1 1 (some 1)) t) h' K) {z:V}:Fs P S (.mk .none (.some (AT n)) false (.mk (Aj el 1 [z] [Pt.mk 0 1 o]))::l) t h K:=by
 obtain⟨h',a1,a2,a3,a4⟩:=Ir el [y] (Av h) (by show 1<2 ^ 37;decide) (by rw[DI,Dp];exact Nat.le_refl _)
 rw[Dp]at a1 a3 a4
 refine Fs.op (v:=.l h.next 0 0 1 1 (some 1)) (h1:=h') (fun k=>?_) (k _ h.next a2.F3 rfl (by obtain⟨n,f,hp⟩:=h;obtain⟨n1,f1,hp1⟩:=h';exact a4) (a3.F3 hf))
 show oK o t (F6 0 1 (fun t cs k=>k cs) t [z] fun cs=>alloc el cs (Av h) fun id h=>k (.l id 0 0 1 cs.length (some 1)) h)=_
 rw[Au,e1]
 unfold F6
 rw[h1,AH,h2]
 show alloc el [y] (Av h) (fun id h=>k (.l id 0 0 1 1 (some 1)) h)=_
 rw[a1]
/--append of a literal of one element to an own slice -/
theorem O4 {el n:Nat} {s x:O} {id:B} {y:V} {v':V} {h':H} {v:V} (e1:oV s t=v) (e2:oV x t=.l id 0 0 1 1 (some 1)) (hr:Row h id 0 0 [y]) (ha:∀ k:V->H->Bool,CU el 1 v 1 [y] h k=k v' h') (cf:Bn) (k:V->H->Bool):
 BL el 1 s x cf t h k=k v' h':=by
 simp only[BL,Au,e1,e2]
 show Bk h id 0 0 1 (Nat.mul 1 1) (fun vs=>CU el 1 v 1 vs h k)=_
 have:Nat.mul 1 1=1:=rfl
 rw[this,DB (n:=1) (vs:=[y]) hr rfl (by simp) (by omega),ha]
theorem Fs.oh {n el:Nat} {s x:O} {id:B} {y v:V} {xs:List V} (e1:oV s t=v) (e2:oV x t=.l id 0 0 1 1 (some 1)) (hr:Row h id 0 0 [y]) (hb:FN h el 1 v xs) (hf:B.val h.floor<=B.val h.next) (h1:Fa y=true) (hl:xs.length+1<=1048576)
 (k:∀ v' h',FN h' el 1 v' (xs++[y])->AU (Al v) h h'->(∀ i,Al v' i->Al v i\/B.val h.next<=B.val i)->Fa v'=true->Fs P S l (put n v' t) h' K):Fs P S (.mk .none (.some (AT n)) true (.mk (BL el 1 s x))::l) t h K:=by
 obtain⟨v',h',a1,a2,a3,a4⟩:=KH (vs:=[y]) (n:=1) hb hf (Nat.le_refl _) rfl (by show Bool.rec false true (Fa y)=true;rw[h1]) hl
 refine Fs.HA (fun k=>O4 (n:=n) e1 e2 hr a1 _ k) (k v' h' a2 a3 a4 ?_)
 rcases a2 with⟨rfl,_⟩|⟨_,_,_,_,rfl,_⟩<;>rfl
end
theorem Ok.LS {P:Program} {nt:Nat} {a b:CC} {t:F} {h:H} {K:X->F->H->Prop} (Q:F->H->Prop) (k1:Ok P nt a t h (Za Q K)) (k2:∀ t h,Q t h->Ok P nt b t h K):Ok P nt (.seq a b) t h K:=
 Ok.seq (k1.mono fun x t h hq=>by
  cases x with
  |normal=>exact k2 t h hq
  |exit id=>exact hq
  |ret=>exact hq)
theorem AU.fl {h h':H} {p:B->Prop} (s:AU p h h') (hf:B.val h.floor<=B.val h.next):B.val h'.floor<=B.val h'.next:=by rw[s.floor];exact Nat.le_trans hf s.next
section
variable {P:Program} {S:Spec} {l:List CO} {t:F} {h:H} {K:F->H->Prop}
end
end Go.Ev
namespace Go.Ev
open Go
section
variable {P:Program} {S:Spec} {l:List CO} {t:F} {h:H} {K:F->H->Prop}
/--a literal of one element -/
theorem FH.kj {n el:Nat} {b:Bool} {o:O} {y z:V} (e1:oV o t=y) (h1:FF y=true) (h2:cells y=[y]) (hf:B.val h.floor<=B.val h.next)
 (k:∀ h' id,AU AO h h'->id=h.next->B.val h'.next=B.val h.next+1->DA h' id [y]->FH P S l (put n (.l id 0 0 1 1 (some 1)) t) h' K):FH P S (.mk .none (.some (AT n)) b (.mk (Aj el 1 [z] [Pt.mk 0 1 o]))::l) t h K:=by
 obtain⟨h',a1,a2,a3,a4⟩:=Ir el [y] h (by show 1<2 ^ 37;decide) hf
 refine FH.op (v:=.l h.next 0 0 1 1 (some 1)) (h1:=h') (fun k=>?_) (k _ h.next a2 rfl a4 a3)
 show oK o t (F6 0 1 (fun t cs k=>k cs) t [z] fun cs=>alloc el cs h fun id h=>k (.l id 0 0 1 cs.length (some 1)) h)=_
 rw[Au,e1]
 unfold F6
 rw[h1,AH,h2]
 show alloc el [y] h (fun id h=>k (.l id 0 0 1 1 (some 1)) h)=_
 rw[a1]
theorem FH.oh {n el:Nat} {b:Bool} {s x:O} {id:B} {y v:V} {xs:List V} (e1:oV s t=v) (e2:oV x t=.l id 0 0 1 1 (some 1)) (hr:Row h id 0 0 [y]) (hb:FN h el 1 v xs) (hf:B.val h.floor<=B.val h.next) (h1:Fa y=true) (hl:xs.length+1<=1048576)
 (k:∀ v' h',FN h' el 1 v' (xs++[y])->AU (Al v) h h'->(∀ i,Al v' i->Al v i\/B.val h.next<=B.val i)->FH P S l (put n v' t) h' K):FH P S (.mk .none (.some (AT n)) b (.mk (BL el 1 s x))::l) t h K:=by
 obtain⟨v',h',a1,a2,a3,a4⟩:=KH (vs:=[y]) (n:=1) hb hf (Nat.le_refl _) rfl (by show Bool.rec false true (Fa y)=true;rw[h1]) hl
 exact FH.op (fun k=>O4 (n:=n) e1 e2 hr a1 _ k) (k v' h' a2 a3 a4)
end
theorem AU.Br {p:B->Prop} {a b c:H} (x:AU AO a b) (y:AU p b c) (h:∀ id,p id->B.val a.next<=B.val id):AU AO a c:=
 ⟨y.floor.trans x.floor,Nat.le_trans x.next y.next,fun id h1 _=>(y.get id (Nat.lt_of_lt_of_le h1 x.next) fun hp=>absurd (h id hp) (Nat.not_le.2 h1)).trans (x.get id h1 fun h=>h)⟩
/--a slice of ints -/
def Il (h:H) (v:V) (xs:List Int):Prop:=F5 h v (xs.map (V.i .i64))
theorem Il.grow {h h':H} {v:V} {xs:List Int} (a:Il h v xs) (s:AU AO h h'):Il h' v xs:=F5.grow a s
theorem Il.len {h0:H} {v:V} {xs:List Int} (a:Il h0 v xs) (k:Nat->Bool):QE v k=k xs.length:=by rw[F5.len a];simp
theorem Il.idx {h0:H} {v:V} {xs:List Int} {i:Nat} (a:Il h0 v xs) (hi:i<xs.length) (k:V->Bool):Mm 1 v i k=k (.p (Ft v) (lg v) (Ci v+i) (Cm v)):=F5.idx a (by simpa using hi) k
theorem Il.rd {h:H} {v:V} {xs:List Int} {i:Nat} (a:Il h v xs) (hi:i<xs.length) (k:V->Bool):DT h (Ft v) (lg v) (Ci v+i) (Cm v) k=k (.i .i64 (xs.getD i 0)):=
 Fb a (by simp[hi]) k
/--.. of the call's own,behind 'lo' -/
structure Ib (h:H) (lo el:Nat) (v:V) (xs:List Int):Prop where
 buf:FN h el 1 v (xs.map (V.i .i64))
 own:∀ i,Al v i->lo<=B.val i
theorem Ib.nil (h:H) (lo el:Nat):Ib h lo el .l0 []:=⟨FN.nil h el 1,fun i hi=>by obtain⟨_,_,_,_,_,e⟩:=hi;cases e⟩
theorem Ib.grow {h h':H} {lo el:Nat} {v:V} {xs:List Int} (a:Ib h lo el v xs) (s:AU AO h h'):Ib h' lo el v xs:=⟨a.buf.grow s,a.own⟩
/--append(v,y)with its literal -/
theorem FH.push {P:Program} {S:Spec} {l:List CO} {t:F} {h:H} {K:F->H->Prop} {n m el lo:Nat} {b b':Bool} {s o:O} {z v:V} {y:Int} {xs:List Int} (hnm:n<512) (hs:s≠.t (AT m)) (e1:oV s t=v) (e2:oV o t=.i .i64 y) (a:Ib h lo el v xs) (hf:B.val h.floor<=B.val h.next) (hlo:lo<=B.val h.next) (hl:xs.length+1<=1048576) (hm:m<512) (e3:∀ u,oV s (put m u t)=v)
 (k:∀ v' h' u,Ib h' lo el v' (xs++[y])->AU (Al v) h h'->FH P S l (put n v' (put m u t)) h' K):
 FH P S (.mk .none (.some (AT m)) b (.mk (Aj el 1 [z] [Pt.mk 0 1 o]))::.mk .none (.some (AT n)) b' (.mk (BL el 1 s (.t (AT m))))::l) t h K:=by
 refine FH.kj e2 rfl rfl hf fun h1 id s1 e n1 o1=>?_
 refine FH.oh (e3 _) (by rw[ZF,PI _ _ _ _ hm hm,if_pos rfl]) o1.row (a.buf.grow s1) (s1.fl hf) rfl (by simpa using hl) fun v' h' b1 s2 hv=>?_
 refine k v' h' _ ⟨by simpa using b1,fun i hi=>?_⟩ ?_
 ·rcases hv i hi with h2|h2
  ·exact a.own i h2
  ·have:=s1.next;omega
 ·refine⟨s2.floor.trans s1.floor,Nat.le_trans s1.next s2.next,fun id' h1' h2=>(s2.get id' (Nat.lt_of_lt_of_le h1' s1.next) h2).trans (s1.get id' h1' fun h=>h)⟩
end Go.Ev
namespace Go.Ev
open Go
theorem NS (z:V):∀ n,Db [z] n=List.replicate n z
 |0=>rfl
 |n+1=>by
  show z::Db [z] n=_
  rw[NS z n,List.replicate_succ]
section
variable {P:Program} {S:Spec} {l:List CO} {t:F} {h:H} {K:F->H->Prop}
end
end Go.Ev
namespace Go.Ev
open Go
/--a text,as a value -/
def sv (l:List UInt8):V:=.s l.length (pk l)
theorem Xq:V.s 0 0=sv []:=rfl
theorem Cw (l:List UInt8) (k:Nat->Nat->Bool):vS (sv l) k=k l.length (pk l):=rfl
theorem Cv {z:Int} (h:0<=z) (k:Nat->Bool):A6 z k=k z.toNat:=by
 obtain⟨n,rfl⟩:=Int.eq_ofNat_of_zero_le h
 rfl
/--a byte,as a value -/
def bv (c:UInt8):V:=.i .u8 (c.toNat:Int)
theorem qf (u v w:V):one [u,v,w]=.tu [u,v,w]:=rfl
theorem vc (n m o:Nat) (t:F) (h:H) (k:List V->Bool):FE [Rs.tmp (AT n),Rs.tmp (AT m),Rs.tmp (AT o)] t h k=k [get n t,get m t,get o t]:=by
 show Bh (Bm (AT n) t) (fun v=>Bh (Bm (AT m) t) fun u=>Bh (Bm (AT o) t) fun w=>k [v,u,w])=_
 rw[BG,BG,BG];rfl
section
variable (cf:Bn) (t:F) (h:H) (k:V->H->Bool) (o x y:O)
def Su (a b:V) (k:V->Bool):Bool:=vS a fun la na=>vS b fun lb nb=>At (Nat.ble (Nat.add la lb) 1048576) fun _=>k (.s (Nat.add la lb) (Nat.add (Nat.mul na (Nat.pow 256 lb)) nb))
theorem Pk:E0 x y cf t h k=Su (oV x t) (oV y t) fun v=>k v h:=by simp only[E0,AQ,A5];rfl
theorem Up {a b:List UInt8} (hl:a.length+b.length<=1048576) (k:V->Bool):Su (sv a) (sv b) k=k (sv (a++b)):=by
 have h1:Nat.ble (Nat.add a.length b.length) 1048576=true:=by rw[Nat.ble_eq];exact hl
 unfold Su
 rw[Cw,Cw,h1,AH]
 unfold sv
 rw[List.length_append,Gj];rfl
def Pc (v:V) (i:Nat) (k:V->Bool):Bool:=vS v fun l n=>At (Nat.ble (Nat.succ i) l) fun _=>k (.i .u8 (.ofNat (Nat.mod (Nat.div n (Nat.pow 256 (Nat.sub (Nat.sub l 1) i))) 256)))
theorem Pp:Eg x y cf t h k=vI (oV y t) fun _ n=>A6 n fun n=>Pc (oV x t) n fun v=>k v h:=by
 have no:∀ u:V,(vI u fun _ n=>A6 n fun _=>false)=false:=by
  intro u
  cases u<;>first|rfl|(rename_i kd n;cases n<;>rfl)
 simp only[Eg,AQ]
 generalize oV x t=v
 generalize oV y t=u
 have hn:∀ w:V,(∀ k,vS w k=false)->(vI u fun _ n=>A6 n fun n=>Pc w n fun p=>k p h)=false:=by
  intro w hw
  have:(fun(_:IntKind) (n:Int)=>A6 n fun n=>Pc w n fun p=>k p h)=fun _ n=>A6 n fun _=>false:=by
   funext _ n;congr 1;funext n;exact hw _
  rw[this];exact no u
 cases v with
 |s l n=>simp only[Hd,A5];rfl
 |_=>rw[hn _ fun _=>rfl];rfl
theorem UD {l:List UInt8} {i:Nat} (hi:i<l.length) (k:V->Bool):Pc (sv l) i k=k (.i .u8 ((l.getD i 0).toNat:Int)):=by
 have h1:Nat.ble (Nat.succ i) l.length=true:=by rw[Nat.ble_eq];exact hi
 unfold Pc
 rw[Cw,h1,AH]
 have e:l.getD i 0=l[i]:=by simp[List.getD,hi]
 have:=Qw l hi
 rw[e,this]
 rfl
def QW (v:V) (a b:Nat) (k:V->Bool):Bool:=vS v fun l n=>At (Nat.ble a b) fun _=>At (Nat.ble b l) fun _=>k (.s (Nat.sub b a) (Nat.mod (Nat.div n (Nat.pow 256 (Nat.sub l b))) (Nat.pow 256 (Nat.sub b a))))
def Mr (v:V) (a:Nat) (k:V->Bool):Bool:=vS v fun l n=>At (Nat.ble a l) fun _=>k (.s (Nat.sub l a) (Nat.mod (Nat.div n (Nat.pow 256 (Nat.sub l l))) (Nat.pow 256 (Nat.sub l a))))
theorem zw (u:V):(vI u fun _ n=>A6 n fun _=>false)=false:=by
 cases u<;>first|rfl|(rename_i kd n;cases n<;>rfl)
theorem fH (a b:O):Ck x (some a) (some b) cf t h k=vI (oV a t) fun _ p=>A6 p fun p=>vI (oV b t) fun _ q=>A6 q fun q=>QW (oV x t) p q fun v=>k v h:=by
 simp only[Ck,AQ]
 have hb:∀ (o:O) (d:Nat) (k:Nat->Bool),BW (some o) d t k=vI (oV o t) fun _ n=>A6 n k:=fun o d k=>by show oE o t _=_;rw[AQ]
 simp only[hb,A5]
 generalize oV x t=v
 have hn:∀ w:V,(∀ k,vS w k=false)->(vI (oV a t) fun _ p=>A6 p fun p=>vI (oV b t) fun _ q=>A6 q fun q=>QW w p q fun v=>k v h)=false:=by
  intro w hw
  have e2:∀ p q,QW w p q (fun v=>k v h)=false:=fun p q=>hw _
  simp only[e2,zw]
 cases v with
 |s l n=>simp only[Hd];rfl
 |_=>rw[hn _ fun _=>rfl];rfl
theorem cY (b:O):Ck x none (some b) cf t h k=vI (oV b t) fun _ q=>A6 q fun q=>QW (oV x t) 0 q fun v=>k v h:=by
 simp only[Ck,AQ]
 have hb:∀ (o:O) (d:Nat) (k:Nat->Bool),BW (some o) d t k=vI (oV o t) fun _ n=>A6 n k:=fun o d k=>by show oE o t _=_;rw[AQ]
 have h0:∀ (d:Nat) (k:Nat->Bool),BW none d t k=k d:=fun _ _=>rfl
 simp only[hb,h0,A5]
 generalize oV x t=v
 have hn:∀ w:V,(∀ k,vS w k=false)->(vI (oV b t) fun _ q=>A6 q fun q=>QW w 0 q fun v=>k v h)=false:=by
  intro w hw
  have e2:∀ p q,QW w p q (fun v=>k v h)=false:=fun p q=>hw _
  simp only[e2,zw]
 cases v with
 |s l n=>simp only[Hd];rfl
 |_=>rw[hn _ fun _=>rfl];rfl
theorem ZP (a:O):Ck x (some a) none cf t h k=vI (oV a t) fun _ p=>A6 p fun p=>Mr (oV x t) p fun v=>k v h:=by
 simp only[Ck,AQ]
 have hb:∀ (o:O) (d:Nat) (k:Nat->Bool),BW (some o) d t k=vI (oV o t) fun _ n=>A6 n k:=fun o d k=>by show oE o t _=_;rw[AQ]
 have h0:∀ (d:Nat) (k:Nat->Bool),BW none d t k=k d:=fun _ _=>rfl
 simp only[hb,h0,A5]
 generalize oV x t=v
 have hn:∀ w:V,(∀ k,vS w k=false)->(vI (oV a t) fun _ q=>A6 q fun q=>Mr w q fun v=>k v h)=false:=by
  intro w hw
  have e2:∀ q,Mr w q (fun v=>k v h)=false:=fun q=>hw _
  simp only[e2,zw]
 cases v with
 |s l n=>
  simp only[Hd]
  have:∀ p,Mr (.s l n) p (fun v=>k v h)=At (Nat.ble p l) fun _=>k (.s (Nat.sub l p) (Nat.mod (Nat.div n (Nat.pow 256 (Nat.sub l l))) (Nat.pow 256 (Nat.sub l p)))) h:=fun _=>rfl
  simp only[this]
  have e:∀ p,(At (Nat.ble p l) fun _=>At (Nat.ble l l) fun _=>k (.s (Nat.sub l p) (Nat.mod (Nat.div n (Nat.pow 256 (Nat.sub l l))) (Nat.pow 256 (Nat.sub l p)))) h)=At (Nat.ble p l) fun _=>k (.s (Nat.sub l p) (Nat.mod (Nat.div n (Nat.pow 256 (Nat.sub l l))) (Nat.pow 256 (Nat.sub l p)))) h:=fun p=>by
   have:Nat.ble l l=true:=by rw[Nat.ble_eq];exact Nat.le_refl _
   rw[this];rfl
  simp only[e]
 |_=>rw[hn _ fun _=>rfl];rfl
theorem OT {l:List UInt8} {a b:Nat} (h1:a<=b) (h2:b<=l.length) (k:V->Bool):QW (sv l) a b k=k (sv ((l.take b).drop a)):=by
 have e1:Nat.ble a b=true:=by rw[Nat.ble_eq];exact h1
 have e2:Nat.ble b l.length=true:=by rw[Nat.ble_eq];exact h2
 unfold QW
 rw[Cw,e1,AH,e2,AH]
 unfold sv
 rw[MM l h1 h2,List.length_drop,List.length_take,Nat.min_eq_left h2];rfl
theorem Vg {l:List UInt8} {a:Nat} (h1:a<=l.length) (k:V->Bool):Mr (sv l) a k=k (sv (l.drop a)):=by
 have:=OT h1 (Nat.le_refl _) k
 rw[List.take_length]at this
 rw[<-this]
 have e1:Nat.ble a l.length=true:=by rw[Nat.ble_eq];exact h1
 have e2:Nat.ble l.length l.length=true:=by rw[Nat.ble_eq];exact Nat.le_refl _
 unfold QW Mr
 rw[Cw,Cw,e1,AH,AH,e2,AH]
def NL (f:Nat->Nat->Nat->Nat->Bool) (a b:V) (k:V->Bool):Bool:=vS a fun la na=>vS b fun lb nb=>k (.b (f la na lb nb))
theorem Tv (f:Nat->Nat->Nat->Nat->Bool):BZ f x y cf t h k=NL f (oV x t) (oV y t) fun v=>k v h:=by simp only[BZ,AQ,Cg];rfl
theorem HR (a b:List UInt8):EX a.length (pk a) b.length (pk b)=decide (a=b):=by
 have e:∀ {x y:Bool},(x=true↔y=true)->x=y:=by intro x y h;cases x<;>cases y<;>simp_all
 apply e
 rw[decide_eq_true_iff]
 have:=Rx a b
 unfold EX
 rw[<-this]
 exact beq_iff_eq
def oe (a b:V) (k:V->Bool):Bool:=vS a fun la na=>vS b fun lb nb=>k (.i .i64 (JI (EX la na lb nb) (EF la na lb nb)))
theorem VV:GX x y cf t h k=oe (oV x t) (oV y t) fun v=>k v h:=by simp only[GX,AQ,V4];rfl
theorem gu (a b:List UInt8) (k:V->Bool):oe (sv a) (sv b) k=k (.i .i64 (JI (decide (a=b)) (Op.bytesLess a b))):=by
 unfold oe;rw[Cw,Cw,HR,Bs]
theorem eg (a b:List UInt8) (k:V->Bool):NL EX (sv a) (sv b) k=k (.b (decide (a=b))):=by
 unfold NL;rw[Cw,Cw,HR]
theorem aV (a b:List UInt8) (k:V->Bool):NL (fun a b c d=>!EX a b c d) (sv a) (sv b) k=k (.b (!decide (a=b))):=by
 unfold NL;rw[Cw,Cw];simp only[HR]
theorem ak (a b:List UInt8) (k:V->Bool):NL EF (sv a) (sv b) k=k (.b (Op.bytesLess a b)):=by
 unfold NL;rw[Cw,Cw,Bs]
theorem Qo (f:IntKind->Int->Nat->(V->Bool)->Bool):Ch f x y cf t h k=vI (oV x t) fun kd a=>vI (oV y t) fun _ b=>A6 b fun n=>f kd a (min n kd.bits) fun v=>k v h:=by simp only[Ch,AQ]
theorem xA (kd:IntKind) (a:Int) (n:Nat) (k:V->Bool):MK kd a n k=k (.i kd (kd.wrap (a*((2 ^ n:Nat):Int)))):=CK _ _ _
theorem QY (len size:Nat):CW len size o x cf t h k=vP (oV o t) fun id g off fin=>vI (oV x t) fun _ n=>A6 n fun n=>At (Nat.ble (Nat.succ n) len) fun _=>k (.p id g (off+n*size) fin) h:=by
 simp only[CW,AQ,A5];rfl
theorem po {i n:Nat} (h:i<n) (k:Unit->Bool):At (Nat.ble (Nat.succ i) n) k=k ():=by
 have:Nat.ble (Nat.succ i) n=true:=by rw[Nat.ble_eq];exact h
 rw[this];rfl
theorem M1 (n size:Nat) (a:O):DS n size x (some a) none cf t h k=vP (oV x t) fun id g off fin=>vI (oV a t) fun _ p=>A6 p fun p=>At (Nat.ble p n) fun _=>BY size id g off n fin n p n fun v=>k v h:=by
 simp only[DS,AQ]
 have hb:∀ (o:O) (d:Nat) (k:Nat->Bool),BW (some o) d t k=vI (oV o t) fun _ n=>A6 n k:=fun o d k=>by show oE o t _=_;rw[AQ]
 have h0:∀ (d:Nat) (k:Nat->Bool),BW none d t k=k d:=fun _ _=>rfl
 simp only[hb,h0]
theorem D0 {size:Nat} {id:B} {g off len fin c a b:Nat} (hcM:c<18446744073709551616) (h1:b<=c) (h2:a<c) (k:V->Bool):BY size id g off len fin c a b k=k (.l id g (off+a*size) (b-a) fin (some (c-a))):=by
 have e1:Nat.ble b c=true:=by rw[Nat.ble_eq];exact h1
 have e2:Nat.beq a c=false:=by
  cases hx:Nat.beq a c with
  |false=>rfl
  |true=>have:=Nat.eq_of_beq_eq_true hx;omega
 have e0:Nat.ble (Nat.succ c) 18446744073709551616=true:=by rw[Nat.ble_eq];exact hcM
 unfold BY
 rw[e0,AH,e1,AH,e2]
 show fN (Nat.sub b a) _=_
 rw[A5,A5,A5];rfl
theorem mo {a b:Nat} (h:a<=b) (k:Unit->Bool):At (Nat.ble a b) k=k ():=by
 have:Nat.ble a b=true:=by rw[Nat.ble_eq];exact h
 rw[this];rfl
def SG (h:H) (v:V) (k:V->Bool):Bool:=vL v (fun _=>k (.s 0 0)) fun id g off len fin _=>KC len len h id g off fin fun vs=>G7 vs 0 fun n=>k (.s len n)
theorem aK:E7 x cf t h k=SG h (oV x t) fun v=>k v h:=by simp only[E7,AQ];rfl
theorem MF:∀ (l:List UInt8) (acc:Nat) (k:Nat->Bool),G7 (l.map bv) acc k=k (acc*256 ^ l.length+pk l)
 |[],acc,k=>by show fN acc k=_;rw[A5];simp[pk]
 |c::l,acc,k=>by
  show I8 (bv c) (fun c=>fN (Nat.add (Nat.mul acc 256) c) fun acc=>G7 (l.map bv) acc k)=_
  have hb:∀ k',I8 (bv c) k'=k' c.toNat:=fun k'=>by
   have h2:Nat.ble c.toNat 255=true:=by rw[Nat.ble_eq];have:=c.toNat_lt;omega
   unfold I8 bv
   rw[Cz,BT,AH]
   show A6 (Int.ofNat c.toNat) _=_
   rw[BA,h2,AH]
  rw[hb,A5,MF l]
  congr 1
  show(acc*256+c.toNat)*256 ^ l.length+pk l=acc*256 ^ (l.length+1)+(c.toNat*256 ^ l.length+pk l)
  rw[Nat.add_mul,Nat.pow_succ,Nat.mul_assoc,Nat.mul_comm 256,Nat.add_assoc]
theorem UW {h:H} {v:V} {l:List UInt8} (a:F5 h v (l.map bv)) (hne:l≠[]) (k:V->Bool):SG h v k=k (sv l):=by
 rcases a with⟨rfl,e⟩|⟨id,g,off,fin,cap,rfl,h2,h3,h4⟩
 ·simp at e;exact absurd e hne
 ·show KC (l.map bv).length (l.map bv).length h id g off fin (fun vs=>G7 vs 0 fun n=>k (.s (l.map bv).length n))=_
  rw[Ks (by rw[List.length_map];exact List.length_pos_iff.2 hne),DB h4 rfl (by simpa using hne) h2,MF]
  unfold sv
  simp
end
section
variable {P:Program} {S:Spec} {l:List CO} {t:F} {h:H} {K:F->H->Prop}
end
end Go.Ev
namespace Go.Ev
open Go Go.RowKit Go.WideShapes Go.ChangeShapes Go.ChangeAt
section
variable {H:Type} {enc:TypeId×Value->H}
theorem G6 {P:Program} (hl:laidOutB P=true) {W W':World} (hb:Below W.heap.size W W') (sp:Nat->Bool):∀ (ts:List TypeId) (vs:List Value) (ds:List (DataW H)) (ps:List MemPlace),
 ts.all (fun t=>P.readableRec t&&decide (t<P.types.size))=true->DataW.TrodAll enc P W 0 (fun _=>true) true ts vs ds ps->(∀ x∈ps,x.block<W.heap.size)->(∀ x∈ps,sp x.block=true)->DataW.TrodAll enc P W' 0 sp true ts vs ds ps
 |[],[],[],ps,_,h,_,_=>h
 |t::ts,v::vs,d::ds,ps,ht,h,hlt,hsp=>by
  obtain⟨p,q,h1,h2,rfl⟩:=h
  simp only[List.all_cons,Bool.and_eq_true]at ht
  refine⟨p,q,?_,G6 hl hb sp ts vs ds q (by simpa using ht.2) h2 (fun x hx=>hlt x (by simp[hx])) (fun x hx=>hsp x (by simp[hx])),rfl⟩
  exact WideElems.Trod_stays hl ht.1.1 (of_decide_eq_true ht.1.2) h1 (fun x hx=>hb.same (hlt x (by simp[hx]))) (fun x hx=>hsp x (by simp[hx]))
 |[],[],_::_,_,_,h,_,_=>h.elim
 |[],_::_,_,_,_,h,_,_=>by cases h
 |_::_,[],_,_,_,h,_,_=>by cases h
 |_::_,_::_,[],_,_,h,_,_=>by cases h
theorem OH {C:Checked} {os:Os} {f:FuncId} {fn:Func} {s:ChangeSpec} {conds:List PathCond} {tb:TypeId}
 (own:ownKnob C.prog.godebug=none) (started:os.Started) (noInit:C.prog.inits.idxOf? f=none) (hfn:C.prog.funcs[f]? =some fn)
 (witness:∃ (w:World) (tape:Tape) (i:Input),w.os=os/\(w.forCall tape i).Shaped C.prog/\i.vars=[]/\Input.okWide C.prog (w.forCall tape i) .any w.heap.size f i/\
   s.pre6 enc C.prog fn conds false (w.forCall tape i).memory i.args/\({}:Assume).holds C.prog (lone (Frame.enter C.prog f i.args .normal) [] (w.forCall tape i)))
 (hv:s.vars=[]) (hs:∀ ds:List (DataW H),ds.length=fn.params.toList.length->s.fn H ds={results:=[.lit (.bool true)],args:=ds})
 (hl:laidOutB C.prog=true) (hr:fn.params.toList.all (fun t=>C.prog.readableRec t&&decide (t<C.prog.types.size))=true)
 (hres:fn.resultTypes=#[tb]) (hb:C.prog.underlying tb=some .bool)
 (run:∀ (W:World) (base:Nat) (args:Array Value) (ds:List (DataW H)) (p:List MemPlace),(∀ (j:Nat) t v,fn.params[j]? =some t->args[j]? =some v->Value.okWide C.prog W .any base t v)->W.ShapedOpen C.prog->DataW.TrodAll enc C.prog W 0 (fun _=>true) true fn.params.toList args.toList ds p->
   Calls C.prog f args W fun e w'=>e=.returned (.bool true)/\Below W.heap.size W w'):
 ReturnsInHanded {} C os f .any (s.pre6 enc C.prog fn conds false) (s.post enc C.prog fn false true false false):=by
 refine returnsInHanded_of_change_shaped own started noInit hfn witness ?_
 intro W base args ds gs before hval0 hW hcnd _ hopen _
 have hval:∀ (j:Nat) t v,fn.params[j]? =some t->args[j]? =some v->Value.okWide C.prog W .any base t v:=hval0
 have hW':=hW
 obtain⟨p,q,hA,hV,rfl,hfz,hnd⟩:=hW
 rw[hv]at hV
 obtain⟨rfl,rfl⟩:=trodVars_none hV
 have hlen:∀ (ts:List TypeId) (vs:List Value) (ds:List (DataW H)) (ps:List MemPlace),DataW.TrodAll enc C.prog W 0 (fun _=>true) true ts vs ds ps->ds.length=ts.length:=by
  intro ts
  induction ts with
  |nil=>intro vs ds ps h;cases vs<;>cases ds<;>first|rfl|cases h
  |cons t ts ih=>
   intro vs ds ps h
   cases vs with
   |nil=>cases h
   |cons v vs=>
    cases ds with
    |nil=>cases h
    |cons d ds=>obtain⟨p,q,h1,h2,rfl⟩:=h;simp[ih vs ds q h2]
 have hd:=hlen _ _ _ _ hA
 have hspec:s.fn H (ds++[])={results:=[.lit (.bool true)],args:=ds}:=by rw[List.append_nil];exact hs ds hd
 refine(run W base args ds p hval hopen hA).mono fun e W' ⟨he,hg⟩=>?_
 subst he
 simp only[List.append_nil]at hW'
 have hlt:∀ x∈p,x.block<W.heap.size:=fun x hx=>by simpa using hW'.lt x (by simpa using hx)
 refine⟨_,rfl,P9 (pa:=p) (pv:=[]) hg (by simpa using hW') (fun b sp hd=>?_) (fun sp hsp=>?_) (fun sp hsp=>?_) rfl (ok_one hres rfl (okWide_bool_mk hb _))⟩
 ·rw[hspec,hres]
  exact trodAll_cons_mk (shut_bool hb _) trodAll_mk0
 ·rw[hspec]
  exact G6 hl hg sp _ _ _ _ hr hA hlt (fun x hx=>hsp x (by simpa using hx))
 ·rw[hspec,hv];rfl
end
/--what a call's contract at the state that it begins in says of the call -/
theorem N2 {P:Program} {f:FuncId} {W:World} {h:H} (s:Start W h) {vs:List V} {args:Array Value} (ha:BJ (Li W) vs args.toList) (k:BF P f vs h fun y _=>y=.b true):Calls P f args W fun e w'=>e=.returned (.bool true)/\Below W.heap.size W w':=by
 obtain⟨y,h',⟨_,_,r⟩,rfl⟩:=k
 have:=(r (Li W) W W args.toList ha s.rel).2
 rw[show args.toList.toArray=args by simp]at this
 refine this.mono fun e w' he=>?_
 obtain⟨x,rfl,ρ',_,x2,x3⟩:=he
 have x2':x=.bool true:=x2
 rw[x2']
 exact⟨rfl,x3.same.below⟩
end Go.Ev
namespace Go.Ev
open Go Go.RowKit Go.WideShapes Go.ChangeShapes Go.ChangeAt Go.Deep
theorem NU {W:World} {a:Addr} {i:Nat} {x:Value} (h:W.cell? (a.add i)=some x):W.cell? ⟨a.block,a.off+i,none⟩=some x:=by
 have hsp:=World.cell?_spot h
 have e:a.add i=⟨a.block,a.off+i,none⟩:=by
  unfold Addr.add at hsp⊢
  split
  ·rename_i hi
   rw[if_pos hi]at hsp
   subst hi
   obtain⟨b,o,sp⟩:=a
   have:sp=none:=hsp
   rw[this];rfl
  ·rfl
 rw[<-e];exact h
section
variable {H':Type} {enc:TypeId×Value->H'} {P:Program}
/--a slice of one-cell elements:its elements' values -/
theorem LQ:maxLen<18446744073709551616:=by decide
/--a slice whose elements are of one cell -/
theorem fP {W:World} {h:H} (s:Start W h) (h0:0<W.heap.size) {t e:TypeId} {fuel:Nat} {cs:List Value} {x:DataW H'×List MemPlace} (ht:P.underlying t=some (.slice e)) (hc:P.cellsOf e=1)
 (hd:DataW.trod enc P W 0 (fun _=>true) true fuel t cs=some x):∃ (sv:Value) (xs:List Value),cs=[sv]/\F5 h (Cs W sv) (xs.map (Cs W))/\xs.length<=maxLen/\
   ∀ (i:Nat) (y:Value),xs[i]? =some y->∃ n d p,DataW.trod enc P W 0 (fun _=>true) true n e [y]=some (d,p):=by
 rcases open_slice1 ht hc hd with⟨rfl,_⟩|⟨a,len,cap,m,n,V,D,Pl,rfl,hb,hl,hm,hmm,_,hx⟩
 ·exact⟨_,[],rfl,.inl ⟨rfl,rfl⟩,Nat.zero_le _,fun i y hy=>by simp at hy⟩
 ·simp only[if_true]at hmm
  have hget:∀ i y,((List.range len).map V)[i]? =some y->i<len/\y=V i:=by
   intro i y hy
   have hi:i<len:=by have:=(List.getElem?_eq_some_iff.1 hy).1;simpa using this
   simp[hi]at hy
   exact⟨hi,hy.symm⟩
  refine⟨_,(List.range len).map V,rfl,?_,by simp;omega,fun i y hy=>?_⟩
  ·refine s.CT h0 (fun hne=>?_) hl (Nat.lt_of_le_of_lt hm LQ) _ (by simp) fun i y hy=>?_
   ·have:=World.cell?_spot (hx 0 (by omega)).1
    unfold Addr.add at this
    simpa using this
   ·obtain⟨hi,rfl⟩:=hget i y hy
    exact NU (hx i (by omega)).1
  ·obtain⟨hi,rfl⟩:=hget i y hy
   exact⟨_,_,_,(hx i (by omega)).2⟩
end
end Go.Ev
namespace Go.Ev
open Go Go.RowKit Go.WideShapes Go.ChangeShapes Go.ChangeAt Go.Deep
theorem H7 (W:World) (s:ByteArray):Cs W (.string s)=sv s.data.toList:=by
 unfold Cs sv
 simp
theorem Lu {s:ByteArray} (h:s.size<=maxLen):s.data.toList.length<=9223372036854775807:=by
 have:s.data.toList.length=s.size:=by simp
 unfold maxLen at h
 omega
theorem LG {n:Nat} (h:n<=maxLen):n<=9223372036854775807:=by unfold maxLen at h;omega
section
variable {H':Type} {enc:TypeId×Value->H'} {P:Program}
/--a slice of numbers of one kind -/
def Kl (h:H) (kd:IntKind) (v:V) (L:List Int):Prop:=F5 h v (L.map (V.i kd))
theorem mz {W:World} {h:H} {kd:IntKind} (s:Start W h) (h0:0<W.heap.size) {t e:TypeId} {fuel:Nat} {cs:List Value} {x:DataW H'×List MemPlace} (ht:P.underlying t=some (.slice e)) (hc:P.cellsOf e=1) (he:P.underlying e=some (.int kd))
 (hd:DataW.trod enc P W 0 (fun _=>true) true fuel t cs=some x):∃ sv L,cs=[sv]/\Kl h kd (Cs W sv) L/\L.length<=9223372036854775807/\∀ n∈L,(Lit.int kd n).wf=true:=by
 obtain⟨sv,xs,rfl,l1,l2,l3⟩:=fP s h0 ht hc hd
 have hb:∀ y∈xs,∃ n:Int,y=.int kd n/\(Lit.int kd n).wf=true:=by
  intro y hy
  obtain⟨i,hi⟩:=List.mem_iff_getElem?.1 hy
  obtain⟨n,d,p,hdy⟩:=l3 i y hi
  obtain⟨b,hb,_,hs⟩:=DataW.trod_int he hdy
  exact⟨b,by simpa using hb,hs⟩
 have hR:∃ R:List Int,xs=R.map (Value.int kd)/\∀ n∈R,(Lit.int kd n).wf=true:=by
  clear l1 l2 l3 hd
  induction xs with
  |nil=>exact⟨[],rfl,fun b hb=>by cases hb⟩
  |cons y ys ih=>
   obtain⟨b,rfl,hs⟩:=hb y (by simp)
   obtain⟨R,rfl,hR⟩:=ih fun z hz=>hb z (by simp[hz])
   exact⟨b::R,rfl,fun c hc=>by
    rcases List.mem_cons.1 hc with rfl|hc
    ·exact hs
    ·exact hR c hc⟩
 obtain⟨R,rfl,hR⟩:=hR
 refine⟨sv,R,rfl,?_,LG (by simpa using l2),hR⟩
 unfold Kl
 have:(R.map (Value.int kd)).map (Cs W)=R.map (V.i kd):=by simp[Cs]
 rwa [this]at l1
end
end Go.Ev
namespace Go.Ev
open Go
/--what one operation makes of a state -/
def HK (P:Program) (r:CR) (t:F) (h:H) (v:V) (h':H):Prop:=∃ cf,Fg P cf/\∀ k,runK r cf t h k=k v h'
def C3 (P:Program) (o:CO) (t:F) (h:H) (t1:F) (h1:H):Prop:=match o with
 |.mk g d _ r=>∃ b,(∀ k,CZ g t k=k b)/\((b=true/\∃ v,HK P r t h v h1/\∀ k,Dd d v t k=k t1)\/(b=false/\h1=h/\∀ k,Dd d (.tu []) t k=k t1))
def LX (P:Program):List CO->F->H->F->H->Prop
 |[],t,h,t',h'=>t'=t/\h'=h
 |o::l,t,h,t',h'=>∃ t1 h1,C3 P o t h t1 h1/\LX P l t1 h1 t' h'
def S0 (P:Program) (o:CO) (t:F) (h:H) (t1:F) (h1:H):Prop:=match o with
 |.mk g d true r=>C3 P (.mk g d true r) t h t1 h1
 |.mk g d false r=>∃ b,(∀ k,CZ g t k=k b)/\((b=true/\∃ v h2,HK P r t (Av h) v h2/\h1=Bx h h2/\∀ k,Dd d v t k=k t1)\/(b=false/\h1=h/\∀ k,Dd d (.tu []) t k=k t1))
def MT (P:Program):List CO->F->H->F->H->Prop
 |[],t,h,t',h'=>t'=t/\h'=h
 |o::l,t,h,t',h'=>∃ t1 h1,S0 P o t h t1 h1/\MT P l t1 h1 t' h'
theorem Jn (P:Program):Fg P (GH P fun _ _ _ _ _=>True):=J8 P _
theorem QT {P:Program} {o:CO} {t:F} {h:H} {t1:F} {h1:H} (a:C3 P o t h t1 h1):∃ cf,Fg P cf/\∀ (ih:F->H->(F->H->Bool)->Bool) k,Lw o cf ih t h k=ih t1 h1 k:=by
 obtain⟨g,d,HA,r⟩:=o
 obtain⟨b,g1,g2⟩:=a
 rcases g2 with⟨rfl,v,⟨cf,c1,c2⟩,p⟩|⟨rfl,rfl,p⟩
 ·refine⟨cf,c1,fun ih k=>?_⟩
  show CZ g t (fun b=>KE b r d cf ih t h k)=_
  rw[g1]
  show runK r cf t h (fun v h=>Dd d v t fun t=>ih t h k)=_
  rw[c2,p]
 ·refine⟨_,Jn P,fun ih k=>?_⟩
  show CZ g t (fun b=>KE b r d _ ih t h1 k)=_
  rw[g1]
  show Dd d (.tu []) t (fun t=>ih t h1 k)=_
  rw[p]
theorem LJ {P:Program} {o:CO} {t:F} {h:H} {t1:F} {h1:H} (a:S0 P o t h t1 h1):∃ cf,Fg P cf/\∀ (ih:F->H->(F->H->Bool)->Bool) k,Tb o cf ih t h k=ih t1 h1 k:=by
 obtain⟨g,d,HA,r⟩:=o
 cases HA with
 |true=>
  obtain⟨b,g1,g2⟩:=a
  rcases g2 with⟨rfl,v,⟨cf,c1,c2⟩,p⟩|⟨rfl,rfl,p⟩
  ·refine⟨cf,c1,fun ih k=>?_⟩
   show CZ g t (fun b=>IS b true r d cf ih t h k)=_
   rw[g1]
   show runK r cf t h (fun v h=>Dd d v t fun t=>ih t h k)=_
   rw[c2,p]
  ·refine⟨_,Jn P,fun ih k=>?_⟩
   show CZ g t (fun b=>IS b true r d _ ih t h1 k)=_
   rw[g1]
   show Dd d (.tu []) t (fun t=>ih t h1 k)=_
   rw[p]
 |false=>
  obtain⟨b,g1,g2⟩:=a
  rcases g2 with⟨rfl,v,h2,⟨cf,c1,c2⟩,rfl,p⟩|⟨rfl,rfl,p⟩
  ·refine⟨cf,c1,fun ih k=>?_⟩
   show CZ g t (fun b=>IS b false r d cf ih t h k)=_
   rw[g1]
   show runK r cf t (Av h) (fun v h2=>Dd d v t fun t=>ih t (Bx h h2) k)=_
   rw[c2,p]
  ·refine⟨_,Jn P,fun ih k=>?_⟩
   show CZ g t (fun b=>IS b false r d _ ih t h1 k)=_
   rw[g1]
   show Dd d (.tu []) t (fun t=>ih t h1 k)=_
   rw[p]
theorem MC {t1 t2:F} {h1 h2:H} (e:∀ k:F->H->Bool,k t1 h1=k t2 h2):t2=t1/\h2=h1:=by
 have:=e fun t h=>@decide (t=t1/\h=h1) (Classical.propDecidable _)
 simp at this
 exact this
theorem QV {P:Program} {nt:Nat} {ops:Array Oper} (bars:Nat->Bool):∀ (l:List Oper) (n:Nat),ops.toList.drop n=l->∀ (t:F) (h:H) (t':F) (h':H),
 LX P (Ac bars P nt ops.toList (Ad P) n l) t h t' h'->Ax h h'/\B.val h.next<=B.val h'.next/\
  ∀ ρ a w w0 (Q:Exit->Act->World->Prop),CS ρ nt t a->A8 ρ h w w0->(∀ ρ' a' w',Ext h.floor ρ ρ'->CS ρ' nt t' a'->A8 ρ' h' w' w0->Q .normal a' w')->
   wpOps P ops Q (List.range' n l.length) a w:=by
 intro l
 induction l with
 |nil=>
  intro n hl t h t' h' hk
  obtain⟨rfl,rfl⟩:=hk
  exact⟨Ax.refl _,Nat.le_refl _,fun ρ a w w0 Q A R hq=>hq ρ a w (Ext.refl _ ρ) A R⟩
 |cons o l ih=>
  intro n hl t h t' h' hk
  obtain⟨t1,h1,hk1,hk2⟩:=hk
  obtain⟨cf,hcf,e⟩:=QT hk1
  obtain⟨t1',h1',a1,a2,a3,a4⟩:=WB hcf (ops:=ops) (ih:=fun t h k=>k t h) (k:=fun _ _=>true) (e _ _)
  obtain⟨rfl,rfl⟩:=MC (fun k=>(e (fun t h k=>k t h) k).symm.trans (a1 k))
  have hl':ops.toList.drop (n+1)=l:=by rw[<-List.drop_drop,hl];rfl
  obtain⟨b2,b3,b4⟩:=ih (n+1) hl' _ _ _ _ hk2
  refine⟨Ax.trans a2 a3 b2,Nat.le_trans a3 b3,fun ρ a w w0 Q A R hq=>?_⟩
  have hn:ops[n]? =some o:=by
   have:ops.toList[n]? =some o:=by
    have:=congrArg (fun l=>l[0]?) hl
    simpa using this
   simpa using this
  rw[List.length_cons,List.range'_succ,wpOps_cons]
  unfold wpOp
  simp only[hn]
  have:=a4 ρ a w w0 (wpOps P ops Q (List.range' (n+1) l.length)) Q A R fun ρ' a' w' l1 A' R'=>b4 ρ' a' w' w0 Q A' R' fun ρ'' a'' w'' l2 A'' R''=>hq ρ'' a'' w'' (Ext.trans l1 (by rw[<-a2.1];exact l2)) A'' R''
  split
  ·rename_i hw;simp only[hw,if_true]at this;exact .inl this
  ·rename_i hw;simp only[hw]at this;exact this
theorem QZ {P:Program} {nt:Nat} {ops:Array Oper} (bars:Nat->Bool):∀ (l:List Oper) (n:Nat),ops.toList.drop n=l->∀ (t:F) (h:H) (t':F) (h':H),
 MT P (Ac bars P nt ops.toList (Ad P) n l) t h t' h'->
 ∃ (Ts:Nat->F) (Hs:Nat->H),Ts n=t/\Hs n=h/\(Ts (n+l.length)=t'/\Hs (n+l.length)=h')/\
  ∀ (i:Nat) o,n<=i->ops[i]? =some o->BI P nt ops i o (bars i) (Ts i) (Ts (i+1)) (Hs i) (Hs (i+1)):=by
 intro l
 induction l with
 |nil=>
  intro n hl t h t' h' hk
  obtain⟨rfl,rfl⟩:=hk
  refine⟨fun _=>t',fun _=>h',rfl,rfl,⟨rfl,rfl⟩,fun i o hni hi=>?_⟩
  have:ops.toList[i]? =none:=by
   rw[List.getElem?_eq_none]
   have:=congrArg List.length hl
   simp at this
   simp;omega
  rw[show ops[i]? =ops.toList[i]? by simp,this]at hi
  cases hi
 |cons o l ih=>
  intro n hl t h t' h' hk
  have hn:ops[n]? =some o:=by
   have:ops.toList[n]? =some o:=by
    have:=congrArg (fun l=>l[0]?) hl
    simpa using this
   simpa using this
  obtain⟨t1,h1,hk1,hk2⟩:=hk
  obtain⟨cf,hcf,e⟩:=LJ hk1
  obtain⟨t1',h1',a1,a2⟩:=JT hcf hn (ih:=fun t h k=>k t h) (k:=fun _ _=>true) (e _ _)
  obtain⟨rfl,rfl⟩:=MC (fun k=>(e (fun t h k=>k t h) k).symm.trans (a1 k))
  have hl':ops.toList.drop (n+1)=l:=by rw[<-List.drop_drop,hl];rfl
  obtain⟨Ts,Hs,b1,b2,b3,b4⟩:=ih (n+1) hl' _ _ _ _ hk2
  refine⟨fun i=>if i=n then t else Ts i,fun i=>if i=n then h else Hs i,by simp,by simp,?_,fun i oi hni hi=>?_⟩
  ·have e1:n+(o::l).length=n+1+l.length:=by simp;omega
   rw[e1]
   simp only[show ¬n+1+l.length=n by omega,if_false]
   exact b3
  ·by_cases hin:i=n
   ·subst hin
    rw[hn]at hi
    cases hi
    simp only[if_true,show ¬i+1=i by omega,if_false,b1,b2]
    exact a2
   ·simp only[hin,if_false,show ¬i+1=n by omega]
    exact b4 i oi (by omega) hi
theorem Qb {P:Program} (hm:P.follows .mixedOrders=true) {nt:Nat} {ops:Array Oper} (hd:Bi ops.toList=true) {t:F} {h:H} {t':F} {h':H}
 (hk:MT P (Ac (CA P ops.toList (CI ops.toList [])) P nt ops.toList (Ad P) 0 ops.toList) t h t' h'):
 Ax h h'/\B.val h.next<=B.val h'.next/\
  ∀ ρ a w w0 (id:Nat) (Q:Exit->Act->World->Prop),CS ρ nt t a->A8 ρ h w w0->(∀ ρ' a' w',Ext h.floor ρ ρ'->CS ρ' nt t' a'->A8 ρ' h' w' w0->Q .normal a' w')->(Code.region id ops true).wp P Q a w:=by
 obtain⟨Ts,Hs,b1,b2,b3,b4⟩:=QZ _ ops.toList 0 (by simp) t h t' h' hk
 have hst:∀ (i:Nat) o,ops[i]? =some o->BI P nt ops i o (CA P ops.toList (CI ops.toList []) i) (Ts i) (Ts (i+1)) (Hs i) (Hs (i+1)):=fun i o hi=>b4 i o (Nat.zero_le _) hi
 have hlen:0+ops.toList.length=ops.size:=by simp
 rw[hlen]at b3
 obtain⟨c1,c2⟩:=b3
 refine⟨by rw[<-b2,<-c2];exact NF hd hst (Nat.le_refl _),by rw[<-b2,<-c2];exact B1 hst (Nat.zero_le _) (Nat.le_refl _),fun ρ a w w0 id Q A R hQ=>?_⟩
 refine wp_region_any hm ?_
 have hR1:A8 ρ h {w with drawn:=w.drawn+1} w0:=R.dr _
 obtain⟨M,m1,m2,m3,m4⟩:=KA (P:=P) (nt:=nt) (Ts:=Ts) (Hs:=Hs) hd hst 0 ops.size (by omega)
 have hno:∀ j,¬Cd (Array.replicate ops.size false) j:=by
  intro j;unfold Cd
  by_cases hj:j<ops.size<;>simp[hj]
 refine Rz hd hst (ρ0:=ρ) (w0:=w0) (fun ρ' a' w' h1 h2 h3=>hQ ρ' a' w' (by rw[<-b2];exact h1) (by rw[<-c1];exact h2) (by rw[<-c2];exact h3)) ops.size _ a _ ρ 0 M (by simp) (by unfold left;exact Nat.le_trans (List.length_filter_le _ _) (by simp)) (fun j o hj hin=>absurd hin (hno j)) ?_
 refine⟨A.size,A.defers,Ext.refl _ _,fun q h5=>⟨0,Nat.zero_le _,.inl rfl,fun j o hj hdj=>⟨fun h=>by omega,fun h=>absurd h (hno j)⟩,?_⟩,Nat.zero_le _,m2,fun j o hj h1 h2=>by omega,fun j o hj h1 h2=>hno j,m3,m4,
  fun i g L hL=>?_,fun i g L hL j o hj hnj hbd=>?_,fun m h1 h2=>?_⟩
 ·rw[b1,b2]
  exact A1.up (fun i g L hL=>BC.Cl hL (R.ids _ _ _ hL)) _ _ (A.slot q h5)
 ·have:=R.ids _ _ _ hL
  rw[<-b2]at this
  exact Nat.lt_of_lt_of_le this (B1 hst (Nat.zero_le _) m2)
 ·have:=R.ids _ _ _ hL
  rw[<-b2]at this
  have hjN:j<ops.size:=(Array.getElem?_eq_some_iff.1 hj).1
  have:=B1 hst (m:=0) (n:=j) (Nat.zero_le _) (by omega)
  omega
 ·have hmN:m<=ops.size:=by omega
  rw[<-b2]at hR1
  have hR2:A8 ρ (Hs m) {w with drawn:=w.drawn+1} w0:=hR1.TO (fun i g L hL=>Hn hst m2 m3 (Nat.le_refl _) h1 h2 (hR1.ids _ _ _ hL)) (B1 hst h1 hmN) (Gh hst hmN)
  exact hR2.congr fun i g=>by
   cases hL:ρ i g with
   |none=>unfold BC.below;rw[hL];split<;>rfl
   |some L=>exact BC.Cl hL (hR2.ids _ _ _ hL)
def WO (P:Program) (l:List CO) (t:F) (h:H) (K:F->H->Prop):Prop:=∃ t' h',LX P l t h t' h'/\K t' h'
def DO (P:Program) (l:List CO) (t:F) (h:H) (K:F->H->Prop):Prop:=∃ t' h',MT P l t h t' h'/\K t' h'
section
variable {P:Program} {nt:Nat} {t:F} {h:H} {K:X->F->H->Prop}
theorem Ok.rg {l:List CO} (a:WO P l t h (K .normal)):Ok P nt (.region l) t h K:=by
 obtain⟨t',h',e,k⟩:=a
 refine⟨.normal,t',h',BR _ fun c e' hs=>?_,k⟩
 cases c with
 |region id os draw=>
  have e1:Ar P nt os.toList draw=.region l:=e'
  unfold Ar at e1
  split at e1
  ·cases e1
   obtain⟨a2,a3,a4⟩:=QV (fun _=>true) os.toList 0 (by simp) t h t' h' e
   refine⟨a2,a3,fun ρ a w w0 Q A R hQ=>wp_region ?_⟩
   have:=a4 ρ a w w0 Q A R hQ
   rwa [show List.range' 0 os.toList.length=List.range os.size by rw[List.range_eq_range'];simp]at this
  ·split at e1<;>cases e1
 |scope d=>exact absurd rfl (hs d)
 |_=>cases e'
theorem Ok.dw (hm:P.follows .mixedOrders=true) {l:List CO} {ch:Option (List Nat×List (Nat×List Nat))} (a:DO P l t h (K .normal)):Ok P nt (.Az l ch) t h K:=by
 obtain⟨t',h',e,k⟩:=a
 refine⟨.normal,t',h',BR _ fun c e' hs=>?_,k⟩
 cases c with
 |region id os draw=>
  have e1:Ar P nt os.toList draw=.Az l ch:=e'
  unfold Ar at e1
  split at e1
  ·cases e1
  ·split at e1
   ·rename_i hd
    cases e1
    obtain⟨a2,a3,a4⟩:=Qb hm hd e
    exact⟨a2,a3,fun ρ a w w0 Q A R hQ=>a4 ρ a w w0 id Q A R hQ⟩
   ·cases e1
 |scope d=>exact absurd rfl (hs d)
 |_=>cases e'
end
end Go.Ev
namespace Go.Ev
open Go
/--operations,shortly -/
def wB (n:Nat) (r:CG):CO:=.mk .none (.some (AT n)) true (.mk r)
def uB (n:Nat) (r:CG):CO:=.mk .none (.some (AT n)) false (.mk r)
def wG (g:Nat) (w:Bool) (n:Nat) (r:CG):CO:=.mk (.some (AT g) w) (.some (AT n)) true (.mk r)
def uG (g:Nat) (w:Bool) (n:Nat) (r:CG):CO:=.mk (.some (AT g) w) (.some (AT n)) false (.mk r)
def oN (n:Nat):O:=.c (.i .i64 (.ofNat n))
theorem sQ (n:Nat) (r:CG):wB n r=.mk .none (.some (AT n)) true (.mk r):=rfl
theorem sJ (n:Nat) (r:CG):uB n r=.mk .none (.some (AT n)) false (.mk r):=rfl
theorem uz (g:Nat) (w:Bool) (n:Nat) (r:CG):wG g w n r=.mk (.some (AT g) w) (.some (AT n)) true (.mk r):=rfl
theorem sX (g:Nat) (w:Bool) (n:Nat) (r:CG):uG g w n r=.mk (.some (AT g) w) (.some (AT n)) false (.mk r):=rfl
theorem sn (n:Nat):oN n=.c (.i .i64 (.ofNat n)):=rfl
/--what stands behind an operation -/
inductive Nx where
 |w (n:Nat) (l:List CO) (t:F) (K:F->H->Prop)
 |w0 (l:List CO) (t:F) (K:F->H->Prop)
 |d (n:Nat) (l:List CO) (t:F) (K:F->H->Prop)
 |d0 (l:List CO) (t:F) (K:F->H->Prop)
 |u (n:Nat) (l:List CO) (t:F) (h:H) (K:F->H->Prop)
 |u0 (l:List CO) (t:F) (h:H) (K:F->H->Prop)
def Nx.go (P:Program):Nx->V->H->Prop
 |.w n l t K,v,h=>WO P l (put n v t) h K
 |.w0 l t K,_,h=>WO P l t h K
 |.d n l t K,v,h=>DO P l (put n v t) h K
 |.d0 l t K,_,h=>DO P l t h K
 |.u n l t h0 K,v,h=>DO P l (put n v t) (Bx h0 h) K
 |.u0 l t h0 K,_,h=>DO P l t (Bx h0 h) K
/--the operation r,then N -/
def OR (P:Program) (r:CG) (t:F) (h:H) (N:Nx):Prop:=∃ v h',HK P (.mk r) t h v h'/\N.go P v h'
/--a guard,then r and N,or N alone -/
def GD (P:Program) (q:V) (w:Bool) (r:CG) (t:F) (h:H) (N:Nx):Prop:=∃ b,(∀ k,vG q w k=k b)/\((b=true/\OR P r t h N)\/(b=false/\N.go P (.tu []) h))
theorem Me {b c:Bool} (e:∀ k:Bool->Bool,k b=k c):c=b:=(e id).symm
theorem ABX {v u:V} (e:∀ k:V->Bool,k v=k u):u=v:=by
 have:=e fun x=>@decide (x=v) (Classical.propDecidable _)
 simp at this
 exact this
theorem Hc {v u:F} (e:∀ k:F->Bool,k v=k u):u=v:=by
 have:=e fun x=>@decide (x=v) (Classical.propDecidable _)
 simp at this
 exact this
theorem dn {v u:List V} (e:∀ k:List V->Bool,k v=k u):u=v:=by
 have:=e fun x=>@decide (x=v) (Classical.propDecidable _)
 simp at this
 exact this
theorem Rm {v u:V} {h g:H} (e:∀ k:V->H->Bool,k v h=k u g):u=v/\g=h:=by
 have:=e fun x y=>@decide (x=v/\y=h) (Classical.propDecidable _)
 simp at this
 exact⟨this.1,this.2⟩
section
variable {P:Program} {l:List CO} {t:F} {h:H} {K:F->H->Prop} {r:CG} {n g:Nat} {w b:Bool}
theorem OJ:WO P [] t h K=K t h:=propext ⟨fun⟨_,_,⟨e1,e2⟩,k⟩=>by subst e1;subst e2;exact k,fun k=>⟨t,h,⟨rfl,rfl⟩,k⟩⟩
theorem eS:DO P [] t h K=K t h:=propext ⟨fun⟨_,_,⟨e1,e2⟩,k⟩=>by subst e1;subst e2;exact k,fun k=>⟨t,h,⟨rfl,rfl⟩,k⟩⟩
theorem Fl {v:V} (k:F->Bool):Dd (.some (AT n)) v t k=k (put n v t):=El n v t k
theorem ru:WO P (.mk .none (.some (AT n)) b (.mk r)::l) t h K=OR P r t h (.w n l t K):=by
 apply propext;constructor
 ·rintro⟨t',h',⟨t1,h1,⟨q,g1,g2⟩,e⟩,k⟩
  have hq:=Me (b:=true) (c:=q) fun k=>g1 k
  subst hq
  rcases g2 with⟨_,v,rr,p⟩|⟨e',_⟩
  ·have:=Hc fun k=>(Fl k).symm.trans (p k)
   subst this
   exact⟨v,h1,rr,t',h',e,k⟩
  ·cases e'
 ·rintro⟨v,h1,rr,t',h',e,k⟩
  exact⟨t',h',⟨_,h1,⟨true,fun _=>rfl,.inl ⟨rfl,v,rr,fun k=>Fl k⟩⟩,e⟩,k⟩
theorem z7:WO P (.mk .none .none b (.mk r)::l) t h K=OR P r t h (.w0 l t K):=by
 apply propext;constructor
 ·rintro⟨t',h',⟨t1,h1,⟨q,g1,g2⟩,e⟩,k⟩
  have hq:=Me (b:=true) (c:=q) fun k=>g1 k
  subst hq
  rcases g2 with⟨_,v,rr,p⟩|⟨e',_⟩
  ·have:=Hc fun k=>p k
   subst this
   exact⟨v,h1,rr,t',h',e,k⟩
  ·cases e'
 ·rintro⟨v,h1,rr,t',h',e,k⟩
  exact⟨t',h',⟨_,h1,⟨true,fun _=>rfl,.inl ⟨rfl,v,rr,fun k=>rfl⟩⟩,e⟩,k⟩
theorem AAo:WO P (.mk (.some (AT g) w) (.some (AT n)) b (.mk r)::l) t h K=GD P (get g t) w r t h (.w n l t K):=by
 apply propext;constructor
 ·rintro⟨t',h',⟨t1,h1,⟨q,g1,g2⟩,e⟩,k⟩
  refine⟨q,g1,?_⟩
  rcases g2 with⟨rfl,v,rr,p⟩|⟨rfl,rfl,p⟩
  ·have:=Hc fun k=>(Fl k).symm.trans (p k)
   subst this
   exact .inl ⟨rfl,v,h1,rr,t',h',e,k⟩
  ·have:=Hc fun k=>(Fl k).symm.trans (p k)
   subst this
   exact .inr ⟨rfl,t',h',e,k⟩
 ·rintro⟨q,g1,⟨rfl,v,h1,rr,t',h',e,k⟩|⟨rfl,t',h',e,k⟩⟩
  ·exact⟨t',h',⟨_,h1,⟨true,g1,.inl ⟨rfl,v,rr,fun k=>Fl k⟩⟩,e⟩,k⟩
  ·exact⟨t',h',⟨_,h,⟨false,g1,.inr ⟨rfl,rfl,fun k=>Fl k⟩⟩,e⟩,k⟩
theorem nu:WO P (.mk (.some (AT g) w) .none b (.mk r)::l) t h K=GD P (get g t) w r t h (.w0 l t K):=by
 apply propext;constructor
 ·rintro⟨t',h',⟨t1,h1,⟨q,g1,g2⟩,e⟩,k⟩
  refine⟨q,g1,?_⟩
  rcases g2 with⟨rfl,v,rr,p⟩|⟨rfl,rfl,p⟩
  ·have:=Hc fun k=>p k
   subst this
   exact .inl ⟨rfl,v,h1,rr,t',h',e,k⟩
  ·have:=Hc fun k=>p k
   subst this
   exact .inr ⟨rfl,t',h',e,k⟩
 ·rintro⟨q,g1,⟨rfl,v,h1,rr,t',h',e,k⟩|⟨rfl,t',h',e,k⟩⟩
  ·exact⟨t',h',⟨_,h1,⟨true,g1,.inl ⟨rfl,v,rr,fun k=>rfl⟩⟩,e⟩,k⟩
  ·exact⟨t',h',⟨_,h,⟨false,g1,.inr ⟨rfl,rfl,fun k=>rfl⟩⟩,e⟩,k⟩
theorem AAg:DO P (.mk .none (.some (AT n)) true (.mk r)::l) t h K=OR P r t h (.d n l t K):=by
 apply propext;constructor
 ·rintro⟨t',h',⟨t1,h1,⟨q,g1,g2⟩,e⟩,k⟩
  have hq:=Me (b:=true) (c:=q) fun k=>g1 k
  subst hq
  rcases g2 with⟨_,v,rr,p⟩|⟨e',_⟩
  ·have:=Hc fun k=>(Fl k).symm.trans (p k)
   subst this
   exact⟨v,h1,rr,t',h',e,k⟩
  ·cases e'
 ·rintro⟨v,h1,rr,t',h',e,k⟩
  exact⟨t',h',⟨_,h1,⟨true,fun _=>rfl,.inl ⟨rfl,v,rr,fun k=>Fl k⟩⟩,e⟩,k⟩
theorem ABH:DO P (.mk .none .none true (.mk r)::l) t h K=OR P r t h (.d0 l t K):=by
 apply propext;constructor
 ·rintro⟨t',h',⟨t1,h1,⟨q,g1,g2⟩,e⟩,k⟩
  have hq:=Me (b:=true) (c:=q) fun k=>g1 k
  subst hq
  rcases g2 with⟨_,v,rr,p⟩|⟨e',_⟩
  ·have:=Hc fun k=>p k
   subst this
   exact⟨v,h1,rr,t',h',e,k⟩
  ·cases e'
 ·rintro⟨v,h1,rr,t',h',e,k⟩
  exact⟨t',h',⟨_,h1,⟨true,fun _=>rfl,.inl ⟨rfl,v,rr,fun k=>rfl⟩⟩,e⟩,k⟩
theorem AA9:DO P (.mk (.some (AT g) w) (.some (AT n)) true (.mk r)::l) t h K=GD P (get g t) w r t h (.d n l t K):=by
 apply propext;constructor
 ·rintro⟨t',h',⟨t1,h1,⟨q,g1,g2⟩,e⟩,k⟩
  refine⟨q,g1,?_⟩
  rcases g2 with⟨rfl,v,rr,p⟩|⟨rfl,rfl,p⟩
  ·have:=Hc fun k=>(Fl k).symm.trans (p k)
   subst this
   exact .inl ⟨rfl,v,h1,rr,t',h',e,k⟩
  ·have:=Hc fun k=>(Fl k).symm.trans (p k)
   subst this
   exact .inr ⟨rfl,t',h',e,k⟩
 ·rintro⟨q,g1,⟨rfl,v,h1,rr,t',h',e,k⟩|⟨rfl,t',h',e,k⟩⟩
  ·exact⟨t',h',⟨_,h1,⟨true,g1,.inl ⟨rfl,v,rr,fun k=>Fl k⟩⟩,e⟩,k⟩
  ·exact⟨t',h',⟨_,h,⟨false,g1,.inr ⟨rfl,rfl,fun k=>Fl k⟩⟩,e⟩,k⟩
theorem ABG:DO P (.mk .none (.some (AT n)) false (.mk r)::l) t h K=OR P r t (Av h) (.u n l t h K):=by
 apply propext;constructor
 ·rintro⟨t',h',⟨t1,h1,⟨q,g1,g2⟩,e⟩,k⟩
  have hq:=Me (b:=true) (c:=q) fun k=>g1 k
  subst hq
  rcases g2 with⟨_,v,h2,rr,rfl,p⟩|⟨e',_⟩
  ·have:=Hc fun k=>(Fl k).symm.trans (p k)
   subst this
   exact⟨v,h2,rr,t',h',e,k⟩
  ·cases e'
 ·rintro⟨v,h2,rr,t',h',e,k⟩
  exact⟨t',h',⟨_,_,⟨true,fun _=>rfl,.inl ⟨rfl,v,h2,rr,rfl,fun k=>Fl k⟩⟩,e⟩,k⟩
theorem ux:DO P (.mk .none .none false (.mk r)::l) t h K=OR P r t (Av h) (.u0 l t h K):=by
 apply propext;constructor
 ·rintro⟨t',h',⟨t1,h1,⟨q,g1,g2⟩,e⟩,k⟩
  have hq:=Me (b:=true) (c:=q) fun k=>g1 k
  subst hq
  rcases g2 with⟨_,v,h2,rr,rfl,p⟩|⟨e',_⟩
  ·have:=Hc fun k=>p k
   subst this
   exact⟨v,h2,rr,t',h',e,k⟩
  ·cases e'
 ·rintro⟨v,h2,rr,t',h',e,k⟩
  exact⟨t',h',⟨_,_,⟨true,fun _=>rfl,.inl ⟨rfl,v,h2,rr,rfl,fun k=>rfl⟩⟩,e⟩,k⟩
theorem D6 (h:H):Bx h (Av h)=h:=by cases h;rfl
theorem lL:DO P (.mk (.some (AT g) w) (.some (AT n)) false (.mk r)::l) t h K=GD P (get g t) w r t (Av h) (.u n l t h K):=by
 apply propext;constructor
 ·rintro⟨t',h',⟨t1,h1,⟨q,g1,g2⟩,e⟩,k⟩
  refine⟨q,g1,?_⟩
  rcases g2 with⟨rfl,v,h2,rr,rfl,p⟩|⟨rfl,rfl,p⟩
  ·have:=Hc fun k=>(Fl k).symm.trans (p k)
   subst this
   exact .inl ⟨rfl,v,h2,rr,t',h',e,k⟩
  ·have:=Hc fun k=>(Fl k).symm.trans (p k)
   subst this
   exact .inr ⟨rfl,t',h',by rw[D6];exact e,k⟩
 ·rintro⟨q,g1,⟨rfl,v,h2,rr,t',h',e,k⟩|⟨rfl,t',h',e,k⟩⟩
  ·exact⟨t',h',⟨_,_,⟨true,g1,.inl ⟨rfl,v,h2,rr,rfl,fun k=>Fl k⟩⟩,e⟩,k⟩
  ·rw[D6]at e
   exact⟨t',h',⟨_,h,⟨false,g1,.inr ⟨rfl,rfl,fun k=>Fl k⟩⟩,e⟩,k⟩
end
section
variable {P:Program} {l:List CO} {t:F} {h h0:H} {K:F->H->Prop} {n:Nat} {v:V}
theorem dC:(Nx.w n l t K).go P v h=WO P l (put n v t) h K:=rfl
theorem WN:(Nx.w0 l t K).go P v h=WO P l t h K:=rfl
theorem Ul:(Nx.d n l t K).go P v h=DO P l (put n v t) h K:=rfl
theorem ng:(Nx.d0 l t K).go P v h=DO P l t h K:=rfl
theorem Ng:(Nx.u n l t h0 K).go P v h=DO P l (put n v t) (Bx h0 h) K:=rfl
theorem vW:(Nx.u0 l t h0 K).go P v h=DO P l t (Bx h0 h) K:=rfl
end
section
variable {P:Program} {r:CG} {t:F} {h:H} {N:Nx} {w q:Bool}
theorem Ol:GD P (.b q) w r t h N=if q=w then OR P r t h N else N.go P (.tu []) h:=by
 have e1:∀ f,vG (.b q) w f=f (xor (xor q w) true):=fun _=>rfl
 apply propext;constructor
 ·rintro⟨b,g1,g2⟩
  have:=Me fun k=>(e1 k).symm.trans (g1 k)
  subst this
  rcases g2 with⟨e,k⟩|⟨e,k⟩
  ·rw[if_pos (by cases q<;>cases w<;>simp_all)];exact k
  ·rw[if_neg (by cases q<;>cases w<;>simp_all)];exact k
 ·intro k
  refine⟨_,e1,?_⟩
  split at k
  ·rename_i e;exact .inl ⟨by cases q<;>cases w<;>simp_all,k⟩
  ·rename_i e;exact .inr ⟨by cases q<;>cases w<;>simp_all,k⟩
theorem lE:GD P (.b true) true r t h N=OR P r t h N:=by rw[Ol];rfl
theorem pM:GD P (.b false) false r t h N=OR P r t h N:=by rw[Ol];rfl
theorem yk:GD P (.b true) false r t h N=N.go P (.tu []) h:=by rw[Ol];rfl
theorem jn:GD P (.b false) true r t h N=N.go P (.tu []) h:=by rw[Ol];rfl
theorem yH:GD P (.tu []) w r t h N=N.go P (.tu []) h:=by
 have e1:∀ f,vG (.tu []) w f=f false:=fun _=>rfl
 apply propext;constructor
 ·rintro⟨b,g1,g2⟩
  have:=Me fun k=>(e1 k).symm.trans (g1 k)
  subst this
  rcases g2 with⟨e,k⟩|⟨e,k⟩
  ·cases e
  ·exact k
 ·intro k;exact⟨_,e1,.inr ⟨rfl,k⟩⟩
/--a guard that isn't decided -/
theorem AD (a:q=true->GD P (.b true) w r t h N) (b:q=false->GD P (.b false) w r t h N):GD P (.b q) w r t h N:=by
 cases q with
 |true=>exact a rfl
 |false=>exact b rfl
end
def HV (P:Program) (g:(V->Bool)->Bool) (h:H) (N:Nx):Prop:=∃ v,(∀ k,g k=k v)/\N.go P v h
def H1 (P:Program) (g:V->(V->Bool)->Bool) (x:V) (h:H) (N:Nx):Prop:=HV P (g x) h N
def H2 (P:Program) (g:V->V->(V->Bool)->Bool) (x y:V) (h:H) (N:Nx):Prop:=HV P (g x y) h N
def H3 (P:Program) (g:V->V->V->(V->Bool)->Bool) (x y z:V) (h:H) (N:Nx):Prop:=HV P (g x y z) h N
theorem Bc {P:Program} {r:CG} {t:F} {h:H} {N:Nx} {g:(V->Bool)->Bool} (e:∀ cf k,r cf t h k=g fun v=>k v h):OR P r t h N=HV P g h N:=by
 apply propext;constructor
 ·rintro⟨v,h',⟨cf,c1,c2⟩,k⟩
  have hh:h'=h:=by
   have h1:=c2 fun _ x=>@decide (x=h) (Classical.propDecidable _)
   have h2:=c2 fun _ _=>true
   have e1:=e cf fun _ x=>@decide (x=h) (Classical.propDecidable _)
   have e2:=e cf fun _ _=>true
   have:(fun(v:V)=>(fun _ x=>@decide (x=h) (Classical.propDecidable _)) v h)=fun(v:V)=>(fun _ _=>true) v h:=by funext v;simp
   rw[this,<-e2]at e1
   have h1':r cf t h (fun _ x=>@decide (x=h) (Classical.propDecidable _))=@decide (h'=h) (Classical.propDecidable _):=h1
   have h2':r cf t h (fun _ _=>true)=true:=h2
   rw[e1,h2']at h1'
   simpa using h1'.symm
  subst hh
  exact⟨v,fun k0=>by rw[<-e cf fun v _=>k0 v];exact c2 _,k⟩
 ·rintro⟨v,g1,k⟩
  exact⟨v,h,⟨_,Jn P,fun k=>by show r _ t h k=_;rw[e,g1]⟩,k⟩
theorem Am {P:Program} {h:H} {N:Nx} {g:(V->Bool)->Bool} {v:V} (e:∀ k,g k=k v):HV P g h N=N.go P v h:=
 propext ⟨fun⟨u,g1,k⟩=>by have:=ABX fun k=>(e k).symm.trans (g1 k);subst this;exact k,fun k=>⟨v,e,k⟩⟩
def C9 (f:E5) (x y:V) (k:V->Bool):Bool:=vI x fun kd a=>vI y fun kd' b=>At (CE kd kd') fun _=>f kd a b k
def Nm (f:IntKind->Int->Nat->(V->Bool)->Bool) (x y:V) (k:V->Bool):Bool:=vI x fun kd a=>vI y fun _ b=>A6 b fun n=>f kd a (min n kd.bits) k
def pX (x y:V) (k:V->Bool):Bool:=vI y fun kd' b=>T4 x (fun kd a=>At (CE kd kd') fun _=>Pb kd a b k) fun kd m r _=>VQ kd' b k kd m r
def RT (ne:Bool) (x y:V) (k:V->Bool):Bool:=vB x fun a=>vB y fun b=>k (.b (xor ne (xor (xor a b) true)))
def lK (x:V) (k:V->Bool):Bool:=vB x fun a=>k (.b (!a))
def n7 (x:V) (k:V->Bool):Bool:=vI x fun kd n=>FC (Int.neg n) kd (BQ kd) k
def WQ (kd:IntKind) (x:V) (k:V->Bool):Bool:=T4 x (fun _ n=>k (.i kd (kd.wrap n))) fun _ m r hi=>At (Nat.ble hi (BQ kd)) fun _=>k (.r kd m r hi)
def SY (j:Nat) (x:V) (k:V->Bool):Bool:=vT x fun vs=>CJ (vs[j]?) k
def V8 (x:V) (k:V->Bool):Bool:=vS x fun n _=>k (.i .i64 (.ofNat n))
def Lv (x:V) (k:V->Bool):Bool:=QE x fun n=>k (.i .i64 (n:Int))
def yL (x y:V) (k:V->Bool):Bool:=vI x fun kd a=>vI y fun kd' b=>At (CE kd kd') fun _=>k (.i kd (min a b))
def RM (f:Nat->Nat->Nat->Nat->Bool) (x y:V) (k:V->Bool):Bool:=vS x fun la na=>vS y fun lb nb=>A3 (f la na lb nb) (fun _=>k (.s la na)) (fun _=>k (.s lb nb))
def uM (x y:V) (k:V->Bool):Bool:=vI x fun kd a=>vI y fun kd' b=>At (CE kd kd') fun _=>k (.i kd (max a b))
def V5 (c x y:V) (k:V->Bool):Bool:=vB c fun q=>k (cond q x y)
def OS (d:Nat) (x:V) (k:V->Bool):Bool:=vA x fun cs=>CJ (cs[d]?) k
def PB (d size:Nat) (x:V) (k:V->Bool):Bool:=vA x fun cs=>k (.a ((cs.drop d).take size))
def KS (d:Nat) (x:V) (k:V->Bool):Bool:=vP x fun id g off fin=>k (.p id g (off+d) fin)
def Ku (x:V) (k:V->Bool):Bool:=vP x fun id g off fin=>k (.p id g off fin)
def Qs (size:Nat) (x y:V) (k:V->Bool):Bool:=vI y fun _ n=>A6 n fun n=>Mm size x n k
def Kx (len size:Nat) (x y:V) (k:V->Bool):Bool:=vP x fun id g off fin=>vI y fun _ n=>A6 n fun n=>At (Nat.ble (Nat.succ n) len) fun _=>k (.p id g (off+n*size) fin)
def MO (x y:V) (k:V->Bool):Bool:=vI y fun _ n=>A6 n fun n=>Pc x n k
def On (len size:Nat) (x y:V) (k:V->Bool):Bool:=vA x fun cs=>vI y fun _ n=>A6 n fun n=>At (Nat.ble (Nat.succ n) len) fun _=>CJ (cs[Nat.mul n size]?) k
def m9 (x a b:V) (k:V->Bool):Bool:=vI a fun _ p=>A6 p fun p=>vI b fun _ q=>A6 q fun q=>QW x p q k
def oS (x b:V) (k:V->Bool):Bool:=vI b fun _ q=>A6 q fun q=>QW x 0 q k
def zG (x a:V) (k:V->Bool):Bool:=vI a fun _ p=>A6 p fun p=>Mr x p k
def RD (x:V) (k:V->Bool):Bool:=vS x fun l n=>k (.s l n)
def SU (f:V->(Bool->Bool)->Bool) (ne:Bool) (x y:V) (k:V->Bool):Bool:=f x fun a=>f y fun b=>At (a||b) fun _=>k (.b (xor ne (a&&b)))
def LI (n size:Nat) (x a:V) (k:V->Bool):Bool:=vP x fun id g off fin=>vI a fun _ p=>A6 p fun p=>At (Nat.ble p n) fun _=>BY size id g off n fin n p n k
section
variable {P:Program} {t:F} {h:H} {N:Nx} (o x y c:O)
theorem VZ:OR P (AA o) t h N=N.go P (oV o t) h:=(Bc (g:=fun k=>k (oV o t)) fun cf k=>Ug ..).trans (Am fun _=>rfl)
theorem Tj:OR P (Ag c x y) t h N=H3 P V5 (oV c t) (oV x t) (oV y t) h N:=Bc fun cf k=>Ut ..
theorem eE (f:E5):OR P (AM f x y) t h N=H2 P (C9 f) (oV x t) (oV y t) h N:=Bc fun cf k=>bG ..
theorem Sa (f:IntKind->Int->Nat->(V->Bool)->Bool):OR P (Ch f x y) t h N=H2 P (Nm f) (oV x t) (oV y t) h N:=Bc fun cf k=>Qo ..
theorem hX:OR P (E2 x y) t h N=H2 P pX (oV x t) (oV y t) h N:=Bc fun cf k=>jb ..
theorem Uy (ne:Bool):OR P (F4 ne x y) t h N=H2 P (RT ne) (oV x t) (oV y t) h N:=Bc fun cf k=>VK ..
theorem XY:OR P (Bz x) t h N=H1 P lK (oV x t) h N:=Bc fun cf k=>Wk ..
theorem aC:OR P (MY x) t h N=H1 P n7 (oV x t) h N:=Bc fun cf k=>by simp only[MY,AQ];rfl
theorem UG (kd:IntKind):OR P (Be kd x) t h N=H1 P (WQ kd) (oV x t) h N:=Bc fun cf k=>Rv ..
theorem aM (j:Nat):OR P (A2 j x) t h N=H1 P (SY j) (oV x t) h N:=Bc fun cf k=>N4 ..
theorem Uc:OR P (CY x) t h N=H1 P V8 (oV x t) h N:=Bc fun cf k=>Tt ..
theorem gB:OR P (A9 x) t h N=H1 P Lv (oV x t) h N:=Bc fun cf k=>aN ..
theorem eG:OR P (Iu x y) t h N=H2 P yL (oV x t) (oV y t) h N:=Bc fun cf k=>Yr ..
theorem fK (f:Nat->Nat->Nat->Nat->Bool):OR P (GF f x y) t h N=H2 P (RM f) (oV x t) (oV y t) h N:=Bc fun cf k=>by simp only[GF,AQ];rfl
theorem YG:OR P (ES x y) t h N=H2 P uM (oV x t) (oV y t) h N:=Bc fun cf k=>Wc ..
theorem Qu (d:Nat):OR P (Gp d o) t h N=H1 P (OS d) (oV o t) h N:=Bc fun cf k=>SO ..
theorem QK (d size:Nat):OR P (FY d size o) t h N=H1 P (PB d size) (oV o t) h N:=Bc fun cf k=>QB ..
theorem MI (d:Nat):OR P (AF d o) t h N=H1 P (KS d) (oV o t) h N:=Bc fun cf k=>Lc ..
theorem Mh:OR P (AZ o) t h N=H1 P Ku (oV o t) h N:=Bc fun cf k=>Mj ..
theorem bf (size:Nat):OR P (AG size o x) t h N=H2 P (Qs size) (oV o t) (oV x t) h N:=Bc fun cf k=>Xg ..
theorem P4 (len size:Nat):OR P (CW len size o x) t h N=H2 P (Kx len size) (oV o t) (oV x t) h N:=Bc fun cf k=>QY ..
theorem Pe:OR P (Eg x y) t h N=H2 P MO (oV x t) (oV y t) h N:=Bc fun cf k=>Pp ..
theorem P1 (len size:Nat):OR P (GQ len size x y) t h N=H2 P (On len size) (oV x t) (oV y t) h N:=Bc fun cf k=>by simp only[GQ,AQ,BG];rfl
theorem QH:OR P (E0 x y) t h N=H2 P Su (oV x t) (oV y t) h N:=Bc fun cf k=>Pk ..
theorem Tw (f:Nat->Nat->Nat->Nat->Bool):OR P (BZ f x y) t h N=H2 P (NL f) (oV x t) (oV y t) h N:=Bc fun cf k=>Tv ..
theorem Vo:OR P (GX x y) t h N=H2 P oe (oV x t) (oV y t) h N:=Bc fun cf k=>VV ..
theorem bp (a b:O):OR P (Ck x (some a) (some b)) t h N=H3 P m9 (oV x t) (oV a t) (oV b t) h N:=Bc fun cf k=>fH ..
theorem X9 (b:O):OR P (Ck x none (some b)) t h N=H2 P oS (oV x t) (oV b t) h N:=Bc fun cf k=>cY ..
theorem eK (a:O):OR P (Ck x (some a) none) t h N=H2 P zG (oV x t) (oV a t) h N:=Bc fun cf k=>ZP ..
theorem SI:OR P (Gs x) t h N=H1 P RD (oV x t) h N:=Bc fun cf k=>by simp only[Gs,AQ];rfl
theorem or_nil (f:V->(Bool->Bool)->Bool) (ne:Bool):OR P (JA f ne x y) t h N=H2 P (SU f ne) (oV x t) (oV y t) h N:=Bc fun cf k=>by simp only[JA,AQ,Cg];rfl
theorem M7 (n size:Nat) (a:O):OR P (DS n size x (some a) none) t h N=H2 P (LI n size) (oV x t) (oV a t) h N:=Bc fun cf k=>M1 ..
end
end Go.Ev
namespace Go.Ev
open Go
/--a block of the call's own,with its elements' type -/
def JE (h:H) (id:B) (el:Nat) (xs:List V):Prop:=∃ Ao,h.heap.get id=some Ao/\Ao.cur=0/\Ao.min=0/\Ao.fr=0/\Ao.el=el/\B.val h.floor<=B.val id/\B.val id<B.val h.next/\∀ i y,xs[i]? =some y->Ao.cells.BN i=some y
theorem JE.own {h:H} {id:B} {el:Nat} {xs:List V} (o:JE h id el xs):DA h id xs:=by
 obtain⟨Ao,h1,h2,h3,h4,h5,h6,h7,h8⟩:=o
 exact⟨Ao,h1,h2,h3,h4,h6,h7,h8⟩
theorem JE.stay {p:B->Prop} {h h':H} {id:B} {el:Nat} {xs:List V} (o:JE h id el xs) (s:AU p h h') (hp:¬p id):JE h' id el xs:=by
 obtain⟨Ao,h1,h2,h3,h4,h5,h6,h7,h8⟩:=o
 exact⟨Ao,(s.get id h7 hp).trans h1,h2,h3,h4,h5,by rw[s.floor];exact h6,Nat.lt_of_lt_of_le h7 s.next,h8⟩
theorem JE.lt {h:H} {id:B} {el:Nat} {xs:List V} (o:JE h id el xs):B.val id<B.val h.next:=by obtain⟨_,_,_,_,_,_,_,h7,_⟩:=o;exact h7
section
variable {P:Program} {S:Spec} {l:List CO} {t:F} {h:H} {K:F->H->Prop}
end
section
variable (cf:Bn) (t:F) (h:H) (k:V->H->Bool) (x y:O)
end
theorem KG:∀ (m:Nat) (l:List UInt8) (acc:List V) (k:List V->Bool),l.length=m->KB m (pk l) acc k=k (l.map bv++acc):=by
 intro m
 induction m with
 |zero=>
  intro l acc k h
  have:l=[]:=List.eq_nil_of_length_eq_zero h
  subst this;rfl
 |succ m ih=>
  intro l acc k h
  have hne:l≠[]:=by intro h0;subst h0;simp at h
  obtain⟨l',b,rfl⟩:∃ l' b,l=l'++[b]:=⟨l.dropLast,l.getLast hne,(List.dropLast_concat_getLast hne).symm⟩
  have hs:=Hp l' [b]
  have hb:pk [b]=b.toNat:=by simp[pk]
  simp only[List.length_cons,List.length_nil,Nat.zero_add,Nat.pow_one,hb]at hs
  show fN (Nat.mod (pk (l'++[b])) 256) (fun c=>fN (Nat.div (pk (l'++[b])) 256) fun n=>KB m n (.i .u8 (.ofNat c)::acc) k)=_
  rw[A5,A5]
  have e1:Nat.mod (pk (l'++[b])) 256=b.toNat:=hs.2
  have e2:Nat.div (pk (l'++[b])) 256=pk l':=hs.1
  rw[e1,e2,ih l' _ k (by simpa using h)]
  simp[bv]
theorem IF:∀ l:List UInt8,CB (l.map bv)=true
 |[]=>rfl
 |_::l=>IF l
section
variable {P:Program} {S:Spec} {l:List CO} {t:F} {h:H} {K:F->H->Prop}
end
/--a Builder of the call's own,behind 'lo',in the blocks U,with the bytes a -/
structure Sb (h:H) (lo elB el8:Nat) (id:B) (U:B->Prop) (a:List UInt8):Prop where
 made:∃ adr w,JE h id elB [adr,w]/\(adr=.p0\/adr=.p id 0 0 2)/\FN h el8 1 w (a.map bv)/\(∀ i,Al w i->U i)/\¬Al w id
 self:U id
 lo:∀ i,U i->lo<=B.val i/\B.val i<B.val h.next
theorem Sb.stay {h h':H} {lo elB el8:Nat} {id:B} {U p:B->Prop} {a:List UInt8} (s:Sb h lo elB el8 id U a) (st:AU p h h') (hp:∀ i,U i->¬p i):Sb h' lo elB el8 id U a:=by
 obtain⟨⟨adr,w,o,ha,b,hw,hn⟩,hs,hlo⟩:=s
 exact⟨⟨adr,w,o.stay st (hp _ hs),ha,b.stay st fun i hi=>hp i (hw i hi),hw,hn⟩,hs,fun i hi=>⟨(hlo i hi).1,Nat.lt_of_lt_of_le (hlo i hi).2 st.next⟩⟩
/--a slice of one-cell elements of the call's own,behind 'lo' -/
structure Vb (h:H) (lo el:Nat) (v:V) (xs:List V):Prop where
 buf:FN h el 1 v xs
 own:∀ i,Al v i->lo<=B.val i
theorem Vb.CT {h:H} {lo el:Nat} {v:V} {xs:List V} (a:Vb h lo el v xs):F5 h v xs:=a.buf.CT
theorem Vb.nil (h:H) (lo el:Nat):Vb h lo el .l0 []:=⟨FN.nil h el 1,fun i hi=>by obtain⟨_,_,_,_,_,e⟩:=hi;cases e⟩
theorem Vb.stay {p:B->Prop} {h h':H} {lo el:Nat} {v:V} {xs:List V} (a:Vb h lo el v xs) (s:AU p h h') (hp:∀ i,Al v i->¬p i):Vb h' lo el v xs:=⟨a.buf.stay s hp,a.own⟩
theorem Vb.grow {h h':H} {lo el:Nat} {v:V} {xs:List V} (a:Vb h lo el v xs) (s:AU AO h h'):Vb h' lo el v xs:=⟨a.buf.grow s,a.own⟩
/--a new slice of bytes,in a block of the call's own that begins at 0;its end is marked,so that it is no FN -/
theorem Ot (el:Nat) {l:List UInt8} {h:H} (hf:B.val h.floor<=B.val h.next) (hl:l.length<=1048576):
 ∃ h',(∀ (x:O) (t:F) (cf:Bn) (k:V->H->Bool),oV x t=sv l->Hl el x cf t h k=k (.l h.next 0 0 l.length l.length (HC l.length)) h')/\AU AO h h'/\B.val h'.next=B.val h.next+1/\
  Row h' h.next 0 0 (l.map bv)/\F5 h' (.l h.next 0 0 l.length l.length (HC l.length)) (l.map bv)/\
  ∃ cells,h'.heap.get h.next=some ⟨0,0,l.length,cells,el,1⟩/\∀ i y,(l.map bv)[i]? =some y->cells.BN i=some y:=by
 obtain⟨⟨nx,fl,heap⟩,a1,a2,a3,⟨cur,min,sz,cells,bel,fr⟩,b1,b2,b3,b4,b5,b6,b7⟩:=DY el (l.map bv) h (by simp;omega)
 simp only at b2 b3 b4 b5 b6 b7
 subst b2;subst b3;subst b5;subst b6
 rw[List.length_map]at b4
 subst b4
 obtain⟨hp,s1,s2,s3⟩:=Bu h.next (⟨0,0,l.length,cells,bel,1⟩:Gi) heap
 have hfl:fl=h.floor:=a2.floor
 have g3:B.Kb fl h.next=true:=by
  rw[hfl]
  cases hfx:h.floor<;>first|rfl|(rw[hfx]at hf;show Nat.ble _ _=true;rw[Nat.ble_eq];exact hf)
 have g5:Nat.ble l.length 1048576=true:=by rw[Nat.ble_eq];exact hl
 have b1':heap.get h.next=some ⟨0,0,l.length,cells,bel,0⟩:=b1
 have hrow:Row ⟨nx,fl,hp⟩ h.next 0 0 (l.map bv):=by
  refine⟨fun _=>⟨_,s2,Nat.le_refl _⟩,fun i y hy=>?_⟩
  unfold Ev.cell GZ
  show(match hp.get h.next with|some b=>if b.min<=0 then b.cells.BN (0+i)else none|none=>none)=_
  rw[s2]
  simp only[Nat.le_refl,if_true,Nat.zero_add]
  exact b7 i y hy
 refine⟨⟨nx,fl,hp⟩,fun x t cf k e=>?_,⟨a2.floor,a2.next,fun id h1 h2=>(s3 id fun e=>by rw[e]at h1;exact absurd h1 (Nat.lt_irrefl _)).trans (a2.get id h1 h2)⟩,a3,hrow,
  .inr ⟨h.next,0,0,l.length,HC l.length,by rw[List.length_map],by rw[List.length_map];omega,by show B.val h.next<B.val nx;have:B.val nx=B.val h.next+1:=a3;omega,hrow⟩,cells,s2,b7⟩
 simp only[Hl,AQ,e]
 show At (Nat.ble l.length 1048576) (fun _=>KB l.length (pk l) [] fun vs=>alloc bel vs h fun id h=>Jk h id fun h=>k (.l id 0 0 l.length l.length (HC l.length)) h)=_
 rw[g5,AH,KG _ _ _ _ rfl,List.append_nil,a1]
 simp only[Jk,CN,b1',Aq,BH,g3,AH]
 have g0:Nat.beq 0 0=true:=rfl
 rw[g0,AH]
 exact s1 _
section
variable {P:Program} {S:Spec} {l:List CO} {t:F} {h:H} {K:F->H->Prop}
end
/--v is the newest slice of its block -/
def NY (h:H) (v:V):Prop:=∀ id g off n fin cap,v=.l id g off n fin cap->∃ Ao,h.heap.get id=some Ao/\Ao.cur=g
theorem NY.nil (h:H):NY h .l0:=fun _ _ _ _ _ _ e=>by cases e
theorem NY.stay {p:B->Prop} {h h':H} {v:V} (a:NY h v) (s:AU p h h') (hl:∀ id,Al v id->B.val id<B.val h.next) (hp:∀ id,Al v id->¬p id):NY h' v:=fun id g off n fin cap e=>by
 obtain⟨Ao,h1,h2⟩:=a id g off n fin cap e
 have i:Al v id:=⟨_,_,_,_,_,e⟩
 exact⟨Ao,(s.get id (hl id i) (hp id i)).trans h1,h2⟩
theorem KY {h:H} {el size n:Nat} {v:V} {xs vs:List V} (b:FN h el size v xs) (hf:B.val h.floor<=B.val h.next) (hsz:1<=size) (hn:vs.length=n*size) (h1:CB vs=true) (hb:xs.length+vs.length<=1048576):
 ∃ v' h',(∀ k,CU el size v n vs h k=k v' h')/\FN h' el size v' (xs++vs)/\AU (Al v) h h'/\(∀ id,Al v' id->Al v id\/B.val h.next<=B.val id)/\NY h' v':=by
 have hle:n<=vs.length:=by rw[hn];exact Nat.le_mul_of_pos_right _ hsz
 rcases b with⟨rfl,rfl⟩|⟨id,g,m,Ao,rfl,b1,b2,b3,b4,b5,b6,b7,b8,b9,b10⟩
 ·cases n with
  |zero=>
   have:vs=[]:=List.eq_nil_of_length_eq_zero (by simpa using hn)
   subst this
   exact⟨.l0,h,fun k=>rfl,FN.nil h el size,AU.refl _ h,fun id i=>.inl i,fun _ _ _ _ _ _ e=>by cases e⟩
  |succ n=>
   obtain⟨h',a1,a2,a3,Ao,c1,c2,c3,c4,c5,c6,c7⟩:=DY el vs h (by omega)
   have hble:Nat.ble (n+1) 1048576=true:=by rw[Nat.ble_eq];simp at hb;omega
   refine⟨.l h.next 0 0 (n+1) vs.length none,h',fun k=>?_,.inr ⟨h.next,0,n+1,Ao,rfl,by omega,hn,by rw[a2.floor];exact hf,by omega,c1,⟨by omega,by omega⟩,c4,c5,c6,c7⟩,a2.mono fun _ _ h=>h.elim,fun id i=>?_,fun _ _ _ _ _ _ e=>by cases e;exact⟨Ao,c1,c3⟩⟩
   ·show(At (Nat.ble (n+1) 1048576) fun _=>alloc el vs h fun id h=>k (.l id 0 0 (n+1) vs.length none) h)=_
    rw[hble,AH,a1]
   ·obtain⟨_,_,_,_,_,e⟩:=i;cases e;exact .inr (Nat.le_refl _)
 ·obtain⟨next,floor,heap⟩:=h
  obtain⟨cur,min,sz,cells,bel,fr⟩:=Ao
  simp only at b6 b7 b8 b9 b10
  obtain⟨tr,t1,t2,t3⟩:=Bt vs sz cells (by omega)
  obtain⟨hp,s1,s2,s3⟩:=Bu id (⟨Nat.succ cur,min,Nat.add sz (Nat.mul n size),tr,bel,fr⟩:Gi) heap
  have e1:Nat.ble min g=true:=by rw[Nat.ble_eq];exact b6.1
  have e2:B.Kb floor id=true:=by
   cases floor<;>first|rfl|(show Nat.ble _ _=true;rw[Nat.ble_eq];exact b3)
  have e3:Nat.add 0 (Nat.mul m size)=sz:=by
   show 0+m*size=sz
   omega
  have e3':Nat.ble sz sz=true:=by rw[Nat.ble_eq];exact Nat.le_refl _
  have e4:Nat.beq xs.length sz=true:=by rw[b7];simp
  have e4':Nat.beq sz sz=true:=Nat.beq_refl _
  have e9:La size (Nat.add m n)=none:=KJ (by show 1<=m+n;omega)
  have e5:Nat.ble 1 m=true:=by rw[Nat.ble_eq];exact b1
  have hm:m<=xs.length:=by rw[b2];exact Nat.le_mul_of_pos_right _ hsz
  have e6:Nat.ble (Nat.add m n) 1048576=true:=by rw[Nat.ble_eq];show m+n<=1048576;omega
  have e7:HF fr sz=true:=by rw[b9];rfl
  have e8:Nat.beq bel el=true:=by rw[b8];simp
  refine⟨.l id (Nat.succ cur) 0 (m+n) (sz+n*size) none,⟨next,floor,hp⟩,fun k=>?_,.inr ⟨id,Nat.succ cur,m+n,_,?_,by omega,?_,b3,b4,s2,?_,?_,b8,b9,fun i y hy=>?_⟩,⟨rfl,Nat.le_refl _,fun id' _ hne=>s3 id' fun e=>hne (by subst e;exact⟨_,_,_,_,_,rfl⟩)⟩,fun id' i=>?_,fun _ _ _ _ _ _ e=>by cases e;exact⟨_,s2,rfl⟩⟩
  ·show CV (Nat.ble 1 m) el id g 0 m xs.length size n vs ⟨next,floor,heap⟩ k=_
   have b5':heap.get id=some ⟨cur,min,sz,cells,bel,fr⟩:=b5
   simp only[CV,CN,b5',Aq,BH,A5,e3,e1,e2,e3',e4,e4',RC,e5,e6,h1,e7,e8,e9,AH]
   rw[t1,s1];rfl
  ·show V.l id (Nat.succ cur) 0 (m+n) (sz+n*size) none=V.l id (Nat.succ cur) 0 (m+n) (xs++vs).length none
   rw[List.length_append,hn,b7]
  ·rw[List.length_append,hn,b2,Nat.add_mul]
  ·exact⟨by show min<=cur+1;omega,Nat.le_refl _⟩
  ·show Nat.add sz (Nat.mul n size)=(xs++vs).length
   rw[List.length_append,hn,b7];rfl
  ·show tr.BN i=some y
   by_cases hi:i<xs.length
   ·rw[t3 i (.inl (by omega))]
    refine b10 i y ?_
    rwa [List.getElem?_append_left hi]at hy
   ·have hi':i-xs.length<vs.length:=by
     have:=(List.getElem?_eq_some_iff.1 hy).1
     simp at this;omega
    rw[List.getElem?_append_right (by omega)]at hy
    have:=t2 (i-xs.length) y hy
    rwa [show sz+(i-xs.length)=i by omega]at this
  ·obtain⟨_,_,_,_,_,e⟩:=i;cases e;exact .inl ⟨_,_,_,_,_,rfl⟩
/--at one place written -/
theorem QC {h:H} {el:Nat} {v:V} {xs:List V} {j:Nat} {y:V} (b:FN h el 1 v xs) (tp:NY h v) (hj:j<xs.length) (hfit:j<2 ^ 37) (h1:Fa y=true):
 ∃ h',(∀ k,store h (Ft v) (lg v) (Ci v+j) (Cm v) [y] k=k h')/\FN h' el 1 v (xs.set j y)/\NY h' v/\AU (Al v) h h':=by
 rcases b with⟨rfl,rfl⟩|⟨id,g,m,Ao,rfl,b1,b2,b3,b4,b5,b6,b7,b8,b9,b10⟩
 ·exact absurd hj (Nat.not_lt_zero _)
 obtain⟨blk',b5',hcur⟩:=tp id g 0 m xs.length none rfl
 have hbb:blk'=Ao:=by rw[b5]at b5';exact(Option.some.inj b5').symm
 subst hbb
 obtain⟨next,floor,heap⟩:=h
 obtain⟨cur,min,sz,cells,bel,fr⟩:=blk'
 simp only at b6 b7 b8 b9 b10 hcur
 subst hcur;subst b9
 obtain⟨tr,t1,t2,t3⟩:=Bt [y] j cells (by simp;omega)
 obtain⟨hp,s1,s2,s3⟩:=Bu id (⟨cur,cur,sz,tr,bel,0⟩:Gi) heap
 have e1:B.Kb floor id=true:=by cases floor<;>first|rfl|(show Nat.ble _ _=true;rw[Nat.ble_eq];exact b3)
 have e2:Nat.ble (Nat.add j 1) xs.length=true:=by rw[Nat.ble_eq];exact hj
 have e3:CB [y]=true:=by show Bool.rec false true (Fa y)=true;rw[h1]
 have e4:HF 0 j=true:=rfl
 have e5:Nat.beq cur cur=true:=Nat.beq_refl cur
 have e6:Nat.ble min cur=true:=by rw[Nat.ble_eq];exact b6.1
 have b5'':heap.get id=some ⟨cur,min,sz,cells,bel,0⟩:=b5
 refine⟨⟨next,floor,hp⟩,fun k=>?_,.inr ⟨id,cur,m,_,by rw[List.length_set],b1,by rw[List.length_set];exact b2,b3,b4,s2,⟨Nat.le_refl _,Nat.le_refl _⟩,by rw[List.length_set];exact b7,b8,rfl,fun i z hz=>?_⟩,fun _ _ _ _ _ _ e=>by cases e;exact⟨_,s2,rfl⟩,⟨rfl,Nat.le_refl _,fun i _ hi=>s3 i fun e=>hi (by subst e;exact⟨_,_,_,_,_,rfl⟩)⟩⟩
 ·show store ⟨next,floor,heap⟩ id cur (0+j) xs.length [y] k=_
  rw[Nat.zero_add]
  simp only[store,CN,b5'',Aq,BH,List.length_singleton,e5,e6,e1,e2,e3,e4,AH]
  rw[t1,s1]
 ·show tr.BN i=some z
  rw[List.getElem?_set]at hz
  split at hz
  ·rename_i hij
   subst hij
   first
   |(rw[if_pos hj]at hz;cases hz;exact t2 0 y rfl)
   |(cases hz;exact t2 0 y rfl)
  ·rename_i hij
   rw[t3 i (by simp;omega)]
   exact b10 i z hz
section
variable {P:Program} {S:Spec} {l:List CO} {t:F} {h:H} {K:F->H->Prop}
end
def FB (size:Nat) (v w:V) (k:V->Bool):Bool:=vL v (fun _=>vI w fun _ n=>A6 n fun a=>At (Nat.beq a 0) fun _=>At (Nat.beq 0 0) fun _=>k .l0) fun id g off len fin cap=>vI w fun _ n=>A6 n fun a=>At (Nat.ble a len) fun _=>
 Option.rec (fun id g off len fin a b k=>DG size id g off len fin a b fun v=>k v) (fun c id g off len fin a b k=>A3 (BP c) (fun _=>At (Nat.beq b 0) fun _=>k (.l id g off 0 off (some c))) (fun _=>BY size id g off len fin c a b fun v=>k v)) cap id g off len fin a len k
def FR (size:Nat) (v w:V) (k:V->Bool):Bool:=vL v (fun _=>vI w fun _ n=>A6 n fun b=>At (Nat.beq 0 0) fun _=>At (Nat.beq b 0) fun _=>k .l0) fun id g off len fin cap=>vI w fun _ n=>A6 n fun b=>At (Nat.ble 0 b) fun _=>
 Option.rec (fun id g off len fin a b k=>DG size id g off len fin a b fun v=>k v) (fun c id g off len fin a b k=>A3 (BP c) (fun _=>At (Nat.beq b 0) fun _=>k (.l id g off 0 off (some c))) (fun _=>BY size id g off len fin c a b fun v=>k v)) cap id g off len fin 0 b k
section
variable {cf:Bn} {t:F} {h:H} {k:V->H->Bool} {x a:O}
theorem Tf (size:Nat):B2 size x (some a) none cf t h k=FB size (oV x t) (oV a t) fun v=>k v h:=by
 unfold FB
 simp only[B2,AQ,BW]
 congr 1
 funext id g off len fin cap
 congr 1;funext _ n;congr 1;funext a;congr 1;funext _
 cases cap with
 |none=>rfl
 |some c=>
  show A3 (BP c) _ _=A3 (BP c) _ _
  cases BP c<;>rfl
theorem To (size:Nat):B2 size x none (some a) cf t h k=FR size (oV x t) (oV a t) fun v=>k v h:=by
 unfold FR
 simp only[B2,AQ,BW]
 congr 1
 funext id g off len fin cap
 congr 1;funext _ n;congr 1;funext a;congr 1;funext _
 cases cap with
 |none=>rfl
 |some c=>
  show A3 (BP c) _ _=A3 (BP c) _ _
  cases BP c<;>rfl
end
/--the part behind n of a row that is made -/
def RV (id:B) (K n:Nat):V:=if n=K then .l id 0 0 0 K (some 0)else .l id 0 n (K-n) K (some (K-n))
theorem RO {id:B} {K n:Nat} {kd:IntKind} (hKM:K<18446744073709551616) (hn:n<=K) (k:V->Bool):FB 1 (.l id 0 0 K K (some K)) (.i kd (n:Int)) k=k (RV id K n):=by
 have e1:Nat.ble n K=true:=by rw[Nat.ble_eq];exact hn
 have e2:Nat.ble K K=true:=by rw[Nat.ble_eq];exact Nat.le_refl _
 unfold FB RV
 simp only[C4,Cz,Bd,e1,AH]
 by_cases e:n=K
 ·subst e
  rw[if_pos rfl]
  show A3 (BP n) _ (fun _=>BY 1 id 0 0 n n n n n fun v=>k v)=_
  rw[FK hKM,BE]
  have e0:Nat.ble (Nat.succ n) 18446744073709551616=true:=by rw[Nat.ble_eq];exact hKM
  have e3:Nat.beq n n=true:=Nat.beq_refl n
  unfold BY
  rw[e0,AH,e2,AH,e3]
  rfl
 ·rw[if_neg e]
  show A3 (BP K) _ (fun _=>BY 1 id 0 0 K K K n K fun v=>k v)=_
  rw[FK hKM,BE,D0 hKM (Nat.le_refl _) (by omega),Nat.zero_add,Nat.mul_one]
theorem R9 {id:B} {K n:Nat} {kd:IntKind} (hKM:K<18446744073709551616) (hn:n<=K) (hK:0<K) (k:V->Bool):FR 1 (.l id 0 0 K K (some K)) (.i kd (n:Int)) k=k (.l id 0 0 n K (some K)):=by
 have e1:Nat.ble 0 n=true:=by rw[Nat.ble_eq];exact Nat.zero_le _
 unfold FR
 simp only[C4,Cz,Bd,e1,AH]
 show A3 (BP K) _ (fun _=>BY 1 id 0 0 K K K 0 n fun v=>k v)=_
 rw[FK hKM,BE,D0 hKM hn hK]
 simp only[Nat.zero_mul,Nat.add_zero,Nat.sub_zero]
end Go.Ev
namespace Go.Ev
open Go
/--frames -/
def dW (n m:Nat) (v:V) (t:F):V:=get n (put m v t)
theorem AB (n m:Nat) (v:V) (t:F):get n (put m v t)=if n=m then v else if n<512/\m<512 then get n t else dW n m v t:=by
 by_cases h:n<512/\m<512
 ·rw[PI n m v t h.1 h.2,if_pos h]
 ·rw[if_neg h]
  by_cases e:n=m
  ·subst e
   rw[if_pos rfl]
   exact(Classical.choose_spec (Fq (AT n) v t)).2.1
  ·rw[if_neg e];rfl
section
variable {P:Program} {h:H} {N:Nx} {kd:IntKind} {a b:Int}
theorem ar:H2 P (C9 A4) (.i kd a) (.i kd b) h N=N.go P (.i kd (kd.wrap (a+b))) h:=Am fun k=>by show At (CE kd kd) _=_;rw[BT,AH,vK]
theorem Xr:H2 P (C9 Bp) (.i kd a) (.i kd b) h N=N.go P (.i kd (kd.wrap (a-b))) h:=Am fun k=>by show At (CE kd kd) _=_;rw[BT,AH,pn]
theorem gU:H2 P (C9 HP) (.i kd a) (.i kd b) h N=N.go P (.i kd (kd.wrap (a*b))) h:=Am fun k=>by show At (CE kd kd) _=_;rw[BT,AH,kz]
theorem YV:H2 P (C9 BV) (.i kd a) (.i kd b) h N=N.go P (.b (decide (a<b))) h:=Am fun k=>by show At (CE kd kd) _=_;rw[BT,AH,pj]
theorem fV:H2 P (C9 Cj) (.i kd a) (.i kd b) h N=N.go P (.b (decide (b<a))) h:=Am fun k=>by show At (CE kd kd) _=_;rw[BT,AH,oy]
theorem Wd:H2 P (C9 Ds) (.i kd a) (.i kd b) h N=N.go P (.b (decide (a<=b))) h:=Am fun k=>by show At (CE kd kd) _=_;rw[BT,AH,v7]
theorem dv:H2 P (C9 Dc) (.i kd a) (.i kd b) h N=N.go P (.b (decide (b<=a))) h:=Am fun k=>by show At (CE kd kd) _=_;rw[BT,AH,nX]
theorem c8:H2 P (C9 DR) (.i kd a) (.i kd b) h N=N.go P (.b (decide (a=b))) h:=Am fun k=>by show At (CE kd kd) _=_;rw[BT,AH,xK]
theorem cT:H2 P (C9 Ip) (.i kd a) (.i kd b) h N=N.go P (.b (!decide (a=b))) h:=Am fun k=>by show At (CE kd kd) _=_;rw[BT,AH,m8]
theorem ik (ha:0<=a) (hb:0<b):H2 P (C9 Kk) (.i kd a) (.i kd b) h N=N.go P (.i kd (kd.wrap (a/b))) h:=Am fun k=>by
 show At (CE kd kd) _=_
 rw[BT,AH]
 have e:Jv b 0=false:=by rw[EN];simp;omega
 unfold Kk
 rw[e]
 show FC (Int.tdiv a b) kd (BQ kd) k=_
 rw[CK,Int.tdiv_eq_ediv_of_nonneg ha]
theorem XF (ha:0<=a) (hb:0<b):H2 P pX (.i kd a) (.i kd b) h N=N.go P (.i kd (a%b)) h:=Am fun k=>by
 show At (CE kd kd) (fun _=>Pb kd a b k)=_
 rw[BT,AH]
 have e:Jv b 0=false:=by rw[EN];simp;omega
 unfold Pb
 rw[e]
 show Ew (Int.tmod a b) (fun n=>k (.i kd n))=_
 rw[Ed,Int.tmod_eq_emod_of_nonneg ha]
theorem J1 {m:Nat} (hm:BQ kd=m) (ha:0<=a) (ha2:a<=m) (hb:0<=b) (hb2:b<=m):H2 P (C9 Mt) (.i kd a) (.i kd b) h N=N.go P (.i kd ((a.toNat&&&b.toNat:Nat):Int)) h:=Am fun k=>by
 show At (CE kd kd) _=_
 rw[BT,AH]
 obtain⟨x,rfl⟩:=Int.eq_ofNat_of_zero_le ha
 obtain⟨y,rfl⟩:=Int.eq_ofNat_of_zero_le hb
 have e1:Nat.ble x (BQ kd)=true:=by rw[Nat.ble_eq];omega
 have e2:Nat.ble y (BQ kd)=true:=by rw[Nat.ble_eq];omega
 show A6 (Int.ofNat x) (fun a=>A6 (Int.ofNat y) _)=_
 rw[BA,BA,e1,AH,e2,AH,A5];rfl
theorem M8 {m:Nat} (hm:BQ kd=m) (ha:0<=a) (ha2:a<=m) (hb:0<=b) (hb2:b<=m):H2 P (C9 fI) (.i kd a) (.i kd b) h N=N.go P (.i kd ((a.toNat|||b.toNat:Nat):Int)) h:=Am fun k=>by
 show At (CE kd kd) _=_
 rw[BT,AH]
 obtain⟨x,rfl⟩:=Int.eq_ofNat_of_zero_le ha
 obtain⟨y,rfl⟩:=Int.eq_ofNat_of_zero_le hb
 have e1:Nat.ble x (BQ kd)=true:=by rw[Nat.ble_eq];omega
 have e2:Nat.ble y (BQ kd)=true:=by rw[Nat.ble_eq];omega
 show A6 (Int.ofNat x) (fun a=>A6 (Int.ofNat y) _)=_
 rw[BA,BA,e1,AH,e2,AH,A5];rfl
theorem KQ {m:Nat} (hm:BQ kd=m) (ha:0<=a) (ha2:a<=m) (hb:0<=b) (hb2:b<=m):H2 P (C9 Kg) (.i kd a) (.i kd b) h N=N.go P (.i kd ((a.toNat ^^^ b.toNat:Nat):Int)) h:=Am fun k=>by
 show At (CE kd kd) _=_
 rw[BT,AH]
 obtain⟨x,rfl⟩:=Int.eq_ofNat_of_zero_le ha
 obtain⟨y,rfl⟩:=Int.eq_ofNat_of_zero_le hb
 have e1:Nat.ble x (BQ kd)=true:=by rw[Nat.ble_eq];omega
 have e2:Nat.ble y (BQ kd)=true:=by rw[Nat.ble_eq];omega
 show A6 (Int.ofNat x) (fun a=>A6 (Int.ofNat y) _)=_
 rw[BA,BA,e1,AH,e2,AH,A5];rfl
theorem Je {m:Nat} (hm:BQ kd=m) (ha:0<=a) (ha2:a<=m) (hb:0<=b) (hb2:b<=m):H2 P (C9 OO) (.i kd a) (.i kd b) h N=N.go P (.i kd ((a.toNat ^^^ (a.toNat&&&b.toNat):Nat):Int)) h:=Am fun k=>by
 show At (CE kd kd) _=_
 rw[BT,AH]
 obtain⟨x,rfl⟩:=Int.eq_ofNat_of_zero_le ha
 obtain⟨y,rfl⟩:=Int.eq_ofNat_of_zero_le hb
 have e1:Nat.ble x (BQ kd)=true:=by rw[Nat.ble_eq];omega
 have e2:Nat.ble y (BQ kd)=true:=by rw[Nat.ble_eq];omega
 show A6 (Int.ofNat x) (fun a=>A6 (Int.ofNat y) _)=_
 rw[BA,BA,e1,AH,e2,AH,A5];rfl
theorem X1 {kd':IntKind} (hb:0<=b):H2 P (Nm MK) (.i kd a) (.i kd' b) h N=N.go P (.i kd (kd.wrap (a*((2 ^ (min b.toNat kd.bits):Nat):Int)))) h:=Am fun k=>by
 show A6 b _=_
 rw[Cv hb,xA]
theorem bc {kd':IntKind} (hb:0<=b):H2 P (Nm MR) (.i kd a) (.i kd' b) h N=N.go P (.i kd (a/((2 ^ (min b.toNat kd.bits):Nat):Int))) h:=Am fun k=>by
 show A6 b _=_
 rw[Cv hb]
 show Ew (Int.fdiv a ((2 ^ _:Nat):Int)) (fun n=>k (.i kd n))=_
 rw[Ed,Int.fdiv_eq_ediv_of_nonneg _ (Int.natCast_nonneg _)]
theorem iy {x y:Bool}:H2 P (RT false) (.b x) (.b y) h N=N.go P (.b (x==y)) h:=Am fun k=>by cases x<;>cases y<;>rfl
theorem Xh {x y:Bool}:H2 P (RT true) (.b x) (.b y) h N=N.go P (.b (x !=y)) h:=Am fun k=>by cases x<;>cases y<;>rfl
theorem cL {x:Bool}:H1 P lK (.b x) h N=N.go P (.b (!x)) h:=Am fun k=>rfl
theorem dD:H1 P n7 (.i kd a) h N=N.go P (.i kd (kd.wrap (-a))) h:=Am fun k=>CK _ _ _
theorem UC {kd':IntKind}:H1 P (WQ kd) (.i kd' a) h N=N.go P (.i kd (kd.wrap a)) h:=Am fun k=>rfl
theorem Tr {v:V} {vs:List V}:H1 P (SY 0) (.tu (v::vs)) h N=N.go P v h:=Am fun k=>rfl
theorem UM {u v:V} {vs:List V}:H1 P (SY 1) (.tu (u::v::vs)) h N=N.go P v h:=Am fun k=>rfl
theorem UN {u w v:V} {vs:List V}:H1 P (SY 2) (.tu (u::w::v::vs)) h N=N.go P v h:=Am fun k=>rfl
theorem Ur {u w z v:V} {vs:List V}:H1 P (SY 3) (.tu (u::w::z::v::vs)) h N=N.go P v h:=Am fun k=>rfl
theorem X5:H2 P yL (.i kd a) (.i kd b) h N=N.go P (.i kd (min a b)) h:=Am fun k=>by show At (CE kd kd) _=_;rw[BT,AH]
theorem cS:H2 P uM (.i kd a) (.i kd b) h N=N.go P (.i kd (max a b)) h:=Am fun k=>by show At (CE kd kd) _=_;rw[BT,AH]
theorem UB {q:Bool} {x y:V}:H3 P V5 (.b q) x y h N=N.go P (cond q x y) h:=Am fun k=>rfl
def FDJ (P:Program) (d:Nat) (cs:List V) (h:H) (N:Nx):Prop:=H1 P (OS d) (.a cs) h N
theorem SD {d:Nat} {cs:List V}:H1 P (OS d) (.a cs) h N=if d<cs.length then N.go P (cs.getD d .u) h else FDJ P d cs h N:=by
 split
 ·rename_i hd
  exact Am fun k=>by
   show CJ (cs[d]?) k=_
   rw[show cs[d]? =some (cs.getD d .u)by simp[hd]];rfl
 ·rfl
theorem PW {d size:Nat} {cs:List V}:H1 P (PB d size) (.a cs) h N=N.go P (.a ((cs.drop d).take size)) h:=Am fun k=>rfl
theorem Lb {d:Nat} {id:B} {g off fin:Nat}:H1 P (KS d) (.p id g off fin) h N=N.go P (.p id g (off+d) fin) h:=Am fun k=>rfl
theorem NR {id:B} {g off fin:Nat}:H1 P Ku (.p id g off fin) h N=N.go P (.p id g off fin) h:=Am fun k=>rfl
/--an element's place -/
def IX (P:Program) (size:Nat) (v:V) (i:Nat) (h:H) (N:Nx):Prop:=HV P (Mm size v i) h N
theorem YM {size:Nat} {v:V} (ha:0<=a):H2 P (Qs size) v (.i kd a) h N=IX P size v a.toNat h N:=by
 unfold H2 IX
 congr 1
 funext k
 show A6 a _=_
 rw[Cv ha]
theorem rq {size i:Nat} {id:B} {g off len fin:Nat} {cap:Option Nat} (hi:i<len):IX P size (.l id g off len fin cap) i h N=N.go P (.p id g (off+i*size) fin) h:=Am fun k=>by
 show At (Nat.ble (i+1) len) (fun _=>k (.p id g (off+i*size) fin))=_
 have:Nat.ble (i+1) len=true:=by rw[Nat.ble_eq];exact hi
 rw[this,AH]
theorem Qd {len size:Nat} {id:B} {g off fin:Nat} (ha:0<=a) (hl:a<len):H2 P (Kx len size) (.p id g off fin) (.i kd a) h N=N.go P (.p id g (off+a.toNat*size) fin) h:=Am fun k=>by
 show A6 a _=_
 rw[Cv ha,po (by omega)]
theorem PR:H1 P Lv .l0 h N=N.go P (.i .i64 0) h:=Am fun k=>rfl
theorem Rp {id:B} {g off len fin:Nat} {cap:Option Nat}:H1 P Lv (.l id g off len fin cap) h N=N.go P (.i .i64 (len:Int)) h:=Am fun k=>rfl
theorem Tp {l:List UInt8}:H1 P V8 (sv l) h N=N.go P (.i .i64 (l.length:Int)) h:=Am fun k=>rfl
theorem Ko {l:List UInt8} (ha:0<=a) (hl:a<l.length):H2 P MO (sv l) (.i kd a) h N=N.go P (.i .u8 ((l.getD a.toNat 0).toNat:Int)) h:=Am fun k=>by
 show A6 a _=_
 rw[Cv ha,UD (by omega)]
theorem P7 {len size:Nat} {cs:List V} (ha:0<=a) (hl:a<len) (hc:a.toNat*size<cs.length):H2 P (On len size) (.a cs) (.i kd a) h N=N.go P (cs.getD (a.toNat*size) .u) h:=Am fun k=>by
 show A6 a _=_
 have:Nat.ble (a.toNat+1) len=true:=by rw[Nat.ble_eq];omega
 rw[Cv ha]
 show At (Nat.ble (a.toNat+1) len) (fun _=>CJ (cs[a.toNat*size]?) k)=_
 rw[this,AH,show cs[a.toNat*size]? =some (cs.getD (a.toNat*size) .u)by simp[hc]];rfl
theorem ja {x y:List UInt8} (hl:x.length+y.length<=1048576):H2 P Su (sv x) (sv y) h N=N.go P (sv (x++y)) h:=Am fun k=>Up hl k
theorem Zf {x y:List UInt8}:H2 P (NL EX) (sv x) (sv y) h N=N.go P (.b (decide (x=y))) h:=Am fun k=>eg x y k
theorem Xn {x y:List UInt8}:H2 P (NL fun a b c d=>!EX a b c d) (sv x) (sv y) h N=N.go P (.b (!decide (x=y))) h:=Am fun k=>aV x y k
theorem VC {x y:List UInt8}:H2 P oe (sv x) (sv y) h N=N.go P (.i .i64 (JI (decide (x=y)) (Op.bytesLess x y))) h:=Am fun k=>gu x y k
theorem Uz {x y:List UInt8}:H2 P (RM fun a b c d=>EF a b c d||EX a b c d) (sv x) (sv y) h N=N.go P (sv (bif Op.bytesLess x y||decide (x=y)then x else y)) h:=Am fun k=>by
 have e:(EF x.length (pk x) y.length (pk y)||EX x.length (pk x) y.length (pk y))=(Op.bytesLess x y||decide (x=y)):=by rw[HR,Bs]
 rw[<-e];unfold RM;rw[Cw,Cw]
 show A3 (EF x.length (pk x) y.length (pk y)||EX x.length (pk x) y.length (pk y)) _ _=_
 generalize (EF x.length (pk x) y.length (pk y)||EX x.length (pk x) y.length (pk y))=b
 cases b<;>rfl
theorem Vf {x y:List UInt8}:H2 P (RM fun a b c d=>!EF a b c d) (sv x) (sv y) h N=N.go P (sv (bif Op.bytesLess x y then y else x)) h:=Am fun k=>by
 rw[Bs];unfold RM;rw[Cw,Cw]
 show A3 (!EF x.length (pk x) y.length (pk y)) _ _=_
 generalize EF x.length (pk x) y.length (pk y)=b
 cases b<;>rfl
theorem bV {x y:List UInt8}:H2 P (NL EF) (sv x) (sv y) h N=N.go P (.b (Op.bytesLess x y)) h:=Am fun k=>ak x y k
theorem gV {x y:List UInt8}:H2 P (NL fun a b c d=>!EF a b c d) (sv x) (sv y) h N=N.go P (.b (!Op.bytesLess x y)) h:=Am fun k=>by
 unfold NL;rw[Cw,Cw,Bs]
theorem Zm {x y:List UInt8}:H2 P (NL fun a b c d=>EF a b c d||EX a b c d) (sv x) (sv y) h N=N.go P (.b (Op.bytesLess x y||decide (x=y))) h:=Am fun k=>by
 unfold NL;rw[Cw,Cw];show k (.b (EF x.length (pk x) y.length (pk y)||EX x.length (pk x) y.length (pk y)))=_;rw[HR,Bs]
theorem Zc {x y:List UInt8}:H2 P (NL fun a b c d=>!(EF a b c d||EX a b c d)) (sv x) (sv y) h N=N.go P (.b (!(Op.bytesLess x y||decide (x=y)))) h:=Am fun k=>by
 unfold NL;rw[Cw,Cw];show k (.b (!(EF x.length (pk x) y.length (pk y)||EX x.length (pk x) y.length (pk y))))=_;rw[HR,Bs]
theorem WT {l:List UInt8} {kd':IntKind} (ha:0<=a) (hab:a<=b) (hb:b<=l.length):H3 P m9 (sv l) (.i kd a) (.i kd' b) h N=N.go P (sv ((l.take b.toNat).drop a.toNat)) h:=Am fun k=>by
 show A6 a (fun p=>A6 b fun q=>QW (sv l) p q k)=_
 rw[Cv ha,Cv (by omega),OT (by omega) (by omega)]
theorem aA {l:List UInt8} (ha:0<=a) (hb:a<=l.length):H2 P oS (sv l) (.i kd a) h N=N.go P (sv (l.take a.toNat)) h:=Am fun k=>by
 show A6 a (fun q=>QW (sv l) 0 q k)=_
 rw[Cv ha,OT (by omega) (by omega),List.drop_zero]
theorem XZ {l:List UInt8} (ha:0<=a) (hb:a<=l.length):H2 P zG (sv l) (.i kd a) h N=N.go P (sv (l.drop a.toNat)) h:=Am fun k=>by
 show A6 a (fun p=>Mr (sv l) p k)=_
 rw[Cv ha,Vg (by omega)]
theorem Rq {l:List UInt8}:H1 P RD (sv l) h N=N.go P (sv l) h:=Am fun k=>rfl
theorem SS {ne:Bool}:H2 P (SU U8 ne) .l0 .l0 h N=N.go P (.b (!ne)) h:=Am fun k=>by cases ne<;>rfl
theorem S6 {ne:Bool} {id:B} {g off len fin:Nat} {cap:Option Nat}:H2 P (SU U8 ne) (.l id g off len fin cap) .l0 h N=N.go P (.b ne) h:=Am fun k=>by cases ne<;>rfl
theorem Qm {ne:Bool}:H2 P (SU vPN ne) .p0 .p0 h N=N.go P (.b (!ne)) h:=Am fun k=>by cases ne<;>rfl
theorem Rn {ne:Bool} {id:B} {g off fin:Nat}:H2 P (SU vPN ne) (.p id g off fin) .p0 h N=N.go P (.b ne) h:=Am fun k=>by cases ne<;>rfl
end
def uE (x:V) (k:V->Bool):Bool:=vI x fun _ n=>A6 n fun n=>At (Nat.ble n 127) fun _=>k (.s 1 n)
theorem cP {P:Program} {t:F} {h:H} {N:Nx} (x:O):OR P (LF x) t h N=H1 P uE (oV x t) h N:=Bc fun cf k=>by simp only[LF,AQ];rfl
theorem Qq {k:Nat} (h:k<256):V.s 1 k=sv [UInt8.ofNat k]:=by
 unfold sv
 have:(UInt8.ofNat k).toNat=k:=by simp;omega
 simp[pk,this]
theorem Zy {P:Program} {h:H} {N:Nx} {kd:IntKind} {a:Int} (ha:0<=a) (hb:a<=127):H1 P uE (.i kd a) h N=N.go P (sv [UInt8.ofNat a.toNat]) h:=Am fun k=>by
 show A6 a _=_
 have e:Nat.ble a.toNat 127=true:=by rw[Nat.ble_eq];omega
 rw[Cv ha,e,AH,Qq (by omega)]
def LD (P:Program) (v:V) (h:H) (N:Nx):Prop:=HV P (fun k=>vP v fun id g off fin=>DT h id g off fin k) h N
def LA (P:Program) (size:Nat) (v:V) (h:H) (N:Nx):Prop:=HV P (fun k=>vP v fun id g off fin=>Bk h id g off fin size fun vs=>k (.a vs)) h N
def L1 (P:Program) (id:B) (g off fin:Nat) (h:H) (N:Nx):Prop:=HV P (DT h id g off fin) h N
def LN (P:Program) (id:B) (g off fin size:Nat) (h:H) (N:Nx):Prop:=HV P (fun k=>Bk h id g off fin size fun vs=>k (.a vs)) h N
def BS (P:Program) (v:V) (h:H) (N:Nx):Prop:=HV P (SG h v) h N
section
variable {P:Program} {t:F} {h:H} {N:Nx} {o x:O} {id:B} {g off fin size:Nat}
theorem Vc:OR P (AK o) t h N=LD P (oV o t) h N:=Bc fun cf k=>VD ..
theorem SL:OR P (AR size o) t h N=LA P size (oV o t) h N:=Bc fun cf k=>RS ..
theorem jH:OR P (E7 x) t h N=BS P (oV x t) h N:=Bc fun cf k=>aK ..
theorem AAO:LD P (.p id g off fin) h N=L1 P id g off fin h N:=rfl
theorem ABP:LA P size (.p id g off fin) h N=LN P id g off fin size h N:=rfl
theorem Xl {h:H} (k:V->Bool):DT (Av h) id g off fin k=DT h id g off fin k:=by cases h;rfl
section
variable {n:Nat} {l:List CO} {K:F->H->Prop} {v:V}
theorem mN:L1 P id g off fin (Av h) (.u n l t h K)=L1 P id g off fin h (.d n l t K):=by
 unfold L1 HV
 simp only[Xl,Ng,Ul,D6]
theorem pw:LN P id g off fin size (Av h) (.u n l t h K)=LN P id g off fin size h (.d n l t K):=by
 have e:∀ k:List V->Bool,Bk (Av h) id g off fin size k=Bk h id g off fin size k:=fun k=>by cases h;rfl
 unfold LN HV
 simp only[e,Ng,Ul,D6]
theorem pI:BS P v (Av h) (.u n l t h K)=BS P v h (.d n l t K):=by
 have e:SG (Av h) v=SG h v:=by cases h;rfl
 unfold BS HV
 simp only[e,Ng,Ul,D6]
end
theorem Row.l1 {xs:List V} (r:Row h id g 0 xs) (hi:off<xs.length) (hf:off<fin):L1 P id g off fin h N=N.go P (xs.getD off .u) h:=Am fun k=>
 HQ (by have:=r.2 off (xs.getD off .u) (by simp[hi]);rwa [Nat.zero_add]at this) hf k
theorem F5.ln {h0:H} {v:V} {xs:List V} (a:F5 h0 v xs):H1 P Lv v h N=N.go P (.i .i64 (xs.length:Int)) h:=Am fun k=>by unfold Lv;rw[a.len]
theorem F5.ld {v:V} {xs:List V} {i:Nat} (a:F5 h v xs) (hi:i<xs.length):L1 P (Ft v) (lg v) (Ci v+i) (Cm v) h N=N.go P (xs.getD i .u) h:=Am fun k=>Fb a (by simp[hi]) k
theorem Il.ln {h0:H} {v:V} {xs:List Int} (a:Il h0 v xs):H1 P Lv v h N=N.go P (.i .i64 (xs.length:Int)) h:=by rw[F5.ln a,List.length_map]
theorem Il.ix {h0:H} {v:V} {xs:List Int} {i:Nat} (a:Il h0 v xs) (hi:i<xs.length):IX P 1 v i h N=N.go P (.p (Ft v) (lg v) (Ci v+i) (Cm v)) h:=Am fun k=>a.idx hi k
theorem Il.ld {v:V} {xs:List Int} {i:Nat} (a:Il h v xs) (hi:i<xs.length):L1 P (Ft v) (lg v) (Ci v+i) (Cm v) h N=N.go P (.i .i64 (xs.getD i 0)) h:=Am fun k=>a.rd hi k
theorem Bl.ld {v:V} {xs:List Bool} {i:Nat} (a:Bl h v xs) (hi:i<xs.length):L1 P (Ft v) (lg v) (Ci v+i) (Cm v) h N=N.go P (.b (xs.getD i false)) h:=Am fun k=>a.rd hi k
/--a slice of texts -/
def Tl (h:H) (v:V) (xs:List (List UInt8)):Prop:=F5 h v (xs.map sv)
theorem Tl.grow {h h':H} {v:V} {xs:List (List UInt8)} (a:Tl h v xs) (s:AU AO h h'):Tl h' v xs:=F5.grow a s
theorem Tl.ld {v:V} {xs:List (List UInt8)} {i:Nat} (a:Tl h v xs) (hi:i<xs.length):L1 P (Ft v) (lg v) (Ci v+i) (Cm v) h N=N.go P (sv (xs.getD i [])) h:=Am fun k=>Fb a (by simp[hi]) k
theorem F5.bs {v:V} {l:List UInt8} (a:F5 h v (l.map bv)) (hne:l≠[]):BS P v h N=N.go P (sv l) h:=Am fun k=>UW a hne k
end
def MP (ks:List KD) (ne:Bool) (x y:V) (k:V->Bool):Bool:=vA x fun xs=>vA y fun ys=>MW ks xs ys fun r=>k (.b (xor ne r))
section
variable {P:Program} {t:F} {h:H} {N:Nx} {ks:List KD} {ne:Bool} {kd:IntKind}
theorem X3 {x y:O}:OR P (Iy ks ne x y) t h N=H2 P (MP ks ne) (oV x t) (oV y t) h N:=Bc fun cf k=>by simp only[Iy,AQ,Cg];rfl
theorem I9 {a b:List UInt8} {xs ys:List V} {k:Bool->Bool}:MW (.s::ks) (sv a::xs) (sv b::ys) k=if a=b then MW ks xs ys k else k false:=by
 show A3 (EX a.length (pk a) b.length (pk b)) (fun _=>(fun r=>A3 r (fun _=>MW ks xs ys k) (fun _=>k false)) true) (fun _=>(fun r=>A3 r (fun _=>MW ks xs ys k) (fun _=>k false)) false)=_
 rw[HR]
 by_cases e:a=b
 ·rw[if_pos e,decide_eq_true e];rfl
 ·rw[if_neg e,decide_eq_false e];rfl
theorem Of {a b:Int} {xs ys:List V} {k:Bool->Bool}:MW (.i::ks) (.i kd a::xs) (.i kd b::ys) k=if a=b then MW ks xs ys k else k false:=by
 show At (CE kd kd) (fun _=>A3 (Jv a b) (fun _=>(fun r=>A3 r (fun _=>MW ks xs ys k) (fun _=>k false)) true) (fun _=>(fun r=>A3 r (fun _=>MW ks xs ys k) (fun _=>k false)) false))=_
 rw[BT,AH,EN]
 by_cases e:a=b
 ·rw[if_pos e,show(a==b)=true by simpa using e];rfl
 ·rw[if_neg e,show(a==b)=false by simpa using e];rfl
theorem V6 {a b:Bool} {xs ys:List V} {k:Bool->Bool}:MW (.b::ks) (.b a::xs) (.b b::ys) k=if a=b then MW ks xs ys k else k false:=by
 cases a<;>cases b<;>rfl
theorem OY {xs ys:List V} {k:Bool->Bool}:MW [] xs ys k=k true:=rfl
/--an entry -/
theorem j8 {a b v w:List UInt8} {n m:Int} {d e:Bool}:H2 P (MP [.s,.i,.b,.s] ne) (.a [sv a,.i kd n,.b d,sv v]) (.a [sv b,.i kd m,.b e,sv w]) h N=N.go P (.b (xor ne (decide (a=b/\n=m/\d=e/\v=w)))) h:=Am fun k=>by
 unfold MP;rw[JF,JF]
 rw[I9,Of,V6,I9,OY]
 by_cases h1:a=b<;>by_cases h2:n=m<;>by_cases h3:d=e<;>by_cases h4:v=w<;>simp[h1,h2,h3,h4]
/--a write -/
theorem oI {a b v w:List UInt8} {d e:Bool}:H2 P (MP [.s,.b,.s] ne) (.a [sv a,.b d,sv v]) (.a [sv b,.b e,sv w]) h N=N.go P (.b (xor ne (decide (a=b/\d=e/\v=w)))) h:=Am fun k=>by
 unfold MP;rw[JF,JF]
 rw[I9,V6,I9,OY]
 by_cases h1:a=b<;>by_cases h3:d=e<;>by_cases h4:v=w<;>simp[h1,h3,h4]
/--a pair -/
theorem qJ {a b v w:List UInt8}:H2 P (MP [.s,.s] ne) (.a [sv a,sv v]) (.a [sv b,sv w]) h N=N.go P (.b (xor ne (decide (a=b/\v=w)))) h:=Am fun k=>by
 unfold MP;rw[JF,JF]
 rw[I9,I9,OY]
 by_cases h1:a=b<;>by_cases h4:v=w<;>simp[h1,h4]
end
/--what comes with another memory -/
def HM (P:Program) (g:(V->H->Bool)->Bool) (N:Nx):Prop:=∃ v h',(∀ k,g k=k v h')/\N.go P v h'
theorem FQ {P:Program} {r:CG} {t:F} {h:H} {N:Nx} {g:(V->H->Bool)->Bool} (e:∀ cf k,r cf t h k=g k):OR P r t h N=HM P g N:=
 propext ⟨fun⟨v,h',⟨cf,_,c2⟩,k⟩=>⟨v,h',fun k=>(e cf k).symm.trans (c2 k),k⟩,fun⟨v,h',c,k⟩=>⟨v,h',⟨_,Jn P,fun k=>(e _ k).trans (c k)⟩,k⟩⟩
theorem Da {P:Program} {g:(V->H->Bool)->Bool} {N:Nx} {v:V} {h':H} (e:∀ k,g k=k v h') (k:N.go P v h'):HM P g N:=⟨v,h',e,k⟩
/--a new block of these cells;'mk' of its name is what comes -/
def AL (P:Program) (el:Nat) (cs:List V) (mk:B->V) (h:H) (N:Nx):Prop:=HM P (fun k=>alloc el cs h fun id h'=>k (mk id) h') N
theorem AL.own {P:Program} {el:Nat} {cs:List V} {mk:B->V} {h:H} {N:Nx} (hl:cs.length<2 ^ 37) (hf:B.val h.floor<=B.val h.next)
 (k:∀ h',AU AO h h'->B.val h'.next=B.val h.next+1->DA h' h.next cs->N.go P (mk h.next) h'):AL P el cs mk h N:=by
 obtain⟨h',a1,a2,a3,a4⟩:=Ir el cs h hl hf
 exact Da (fun k=>a1 _) (k h' a2 a4 a3)
theorem AL.AAu {P:Program} {el:Nat} {cs:List V} {mk:B->V} {h:H} {N:Nx} (hl:cs.length<2 ^ 37) (hf:B.val h.floor<=B.val h.next)
 (k:∀ h',AU AO h h'->B.val h'.next=B.val h.next+1->JE h' h.next el cs->N.go P (mk h.next) h'):AL P el cs mk h N:=by
 obtain⟨h',a1,a2,a3,Ao,b1,b2,b3,b4,b5,b6,b7⟩:=DY el cs h (by omega)
 exact Da (fun k=>a1 _) (k h' a2 a3 ⟨Ao,b1,b3,b2,b6,b5,by rw[a2.floor];exact hf,by omega,b7⟩)
/--a list of cells,filled:then 'f' of them -/
def FL (P:Program) (ps:List Pt) (t:F) (cs:List V) (el:Option (Nat×Nat)) (h:H) (N:Nx):Prop:=match el with
 |none=>HM P (fun k=>ER ps t cs fun ds=>k (.a ds) h) N
 |some (el,len)=>HM P (fun k=>ER ps t cs fun ds=>alloc el ds h fun id h'=>k (.l id 0 0 len ds.length (some len)) h') N
def FP (P:Program) (off size:Nat) (v:V) (ps:List Pt) (t:F) (cs:List V) (el:Option (Nat×Nat)) (h:H) (N:Nx):Prop:=match el with
 |none=>HM P (fun k=>F6 off size (ER ps) t cs (fun ds=>k (.a ds) h) v) N
 |some (el,len)=>HM P (fun k=>F6 off size (ER ps) t cs (fun ds=>alloc el ds h fun id h'=>k (.l id 0 0 len ds.length (some len)) h') v) N
/--a block of one value -/
def BX (P:Program) (el:Nat) (v:V) (h:H) (N:Nx):Prop:=HM P (fun k=>At (FF v) fun _=>alloc el (cells v) h fun id h=>k (.p id 0 0 (cells v).length) h) N
def ST (P:Program) (size:Nat) (p x:V) (h:H) (N:Nx):Prop:=HM P (fun k=>vP p fun id g off fin=>At (Nat.beq (cells x).length size) fun _=>store h id g off fin (cells x) fun h=>k (.tu []) h) N
def MS (P:Program) (el:Nat) (z:List V) (l c:V) (h:H) (N:Nx):Prop:=HM P (fun k=>vI l fun _ l=>A6 l fun l=>vI c fun _ c=>A6 c fun c=>At (Nat.ble l c) fun _=>At (Nat.ble c 1048576) fun _=>alloc el (Db z c) h fun id h=>k (.l id 0 0 l (Nat.mul c z.length) (some c)) h) N
def AP (P:Program) (el size:Nat) (s x:V) (h:H) (N:Nx):Prop:=HM P (fun k=>DL size x h fun n vs=>CU el size s n vs h k) N
def AS (P:Program) (el:Nat) (s x:V) (h:H) (N:Nx):Prop:=HM P (fun k=>Ee x fun n vs=>CU el 1 s n vs h k) N
def CP (P:Program) (size:Nat) (x y:V) (h:H) (N:Nx):Prop:=HM P (fun k=>vL x (fun _=>PK y (k (.i .i64 (.ofNat 0)) h)) fun id g off len fin _=>KX size y h k id g off len fin) N
def SB (P:Program) (el:Nat) (x:V) (h:H) (N:Nx):Prop:=HM P (fun k=>vS x fun l n=>At (Nat.ble l 1048576) fun _=>KB l n [] fun vs=>alloc el vs h fun id h=>Jk h id fun h=>k (.l id 0 0 l l (HC l)) h) N
section
variable {P:Program} {t:F} {h:H} {N:Nx} {o x y l c s:O} {el len size:Nat} {z:List V} {ps:List Pt}
theorem TF:OR P (Bw el z) t h N=AL P el z (fun id=>.p id 0 0 z.length) h N:=FQ fun cf k=>rfl
theorem fY:OR P (Cf el o) t h N=BX P el (oV o t) h N:=FQ fun cf k=>by simp only[Cf,Au]
theorem Kf:OR P (Aj el len z ps) t h N=FL P ps t z (some (el,len)) h N:=FQ fun cf k=>rfl
theorem RU:OR P (Cx z ps) t h N=FL P ps t z none h N:=FQ fun cf k=>rfl
theorem TN:OR P (Af size o x) t h N=ST P size (oV o t) (oV x t) h N:=FQ fun cf k=>by simp only[Af,AQ,Au]
theorem LU:OR P (DV el z l c) t h N=MS P el z (oV l t) (oV c t) h N:=FQ fun cf k=>by
 have no:∀ u:V,(vI u fun _ n=>A6 n fun _=>false)=false:=zw
 simp only[DV,AQ]
theorem or_append:OR P (BL el size s x) t h N=AP P el size (oV s t) (oV x t) h N:=FQ fun cf k=>by simp only[BL,Au]
theorem N3:OR P (FJ el s x) t h N=AS P el (oV s t) (oV x t) h N:=FQ fun cf k=>by simp only[FJ,Au]
/--the whole of a text,copied into bytes -/
def zy (P:Program) (x y:V) (h:H) (N:Nx):Prop:=HM P (fun k=>vL x (fun _=>false) fun id g off len fin _=>HS len (fun _=>false) fun _=>Gv y h k id g off len fin) N
theorem RR {P:Program} {x y:O} {t:F} {h:H} {N:Nx}:OR P (Gw x y) t h N=zy P (oV x t) (oV y t) h N:=FQ fun cf k=>by simp only[Gw,Au]
theorem U5:OR P (Ep size x y) t h N=CP P size (oV x t) (oV y t) h N:=FQ fun cf k=>by simp only[Ep,Au]
theorem iA:OR P (Hl el x) t h N=SB P el (oV x t) h N:=FQ fun cf k=>by simp only[Hl,AQ]
theorem AAG:FL P [] t z none h N=N.go P (.a z) h:=propext ⟨fun⟨v,h',e,k⟩=>by obtain⟨rfl,rfl⟩:=Rm e;exact k,fun k=>⟨_,_,fun _=>rfl,k⟩⟩
theorem ABB:FL P [] t z (some (el,len)) h N=AL P el z (fun id=>.l id 0 0 len z.length (some len)) h N:=rfl
theorem AAz {e:Option (Nat×Nat)} {off size:Nat}:FL P (Pt.mk off size o::ps) t z e h N=FP P off size (oV o t) ps t z e h N:=by
 have e0:∀ k,ER (⟨off,size,o⟩::ps) t z k=F6 off size (ER ps) t z k (oV o t):=fun k=>by show oK o t _=_;rw[Au];rfl
 unfold FL FP
 simp only[e0]
theorem WG {e:Option (Nat×Nat)} {off size:Nat} {v:V} {cs:List V} (hk:FF v=true) (hc:cells v=cs) (hs:cs.length=size) (hb:off+size<=z.length):FP P off size v ps t z e h N=FL P ps t (z.take off++(cs++z.drop (off+size))) e h N:=by
 have e0:∀ k,F6 off size (ER ps) t z k v=ER ps t (z.take off++(cs++z.drop (off+size))) k:=fun k=>by
  have h1:Nat.beq (cells v).length size=true:=by rw[hc,hs];exact Nat.beq_refl _
  have h2:Nat.ble (Nat.add off size) z.length=true:=by rw[Nat.ble_eq];exact hb
  unfold F6
  rw[hk,AH,h1,AH,h2,AH,hc]
  unfold putAt
  rw[De,De,hs]
 unfold FP FL
 simp only[e0]
section
variable {e:Option (Nat×Nat)} {off:Nat}
def Vx (P:Program) (off size:Nat) (v:V) (ps:List Pt) (t:F) (cs:List V) (el:Option (Nat×Nat)) (h:H) (N:Nx):Prop:=FP P off size v ps t cs el h N
theorem Km {size:Nat} {v:V} {cs:List V} (hk:FF v=true) (hc:cells v=cs) (hs:cs.length=size):FP P off size v ps t z e h N=if off+size<=z.length then FL P ps t (z.take off++(cs++z.drop (off+size))) e h N else Vx P off size v ps t z e h N:=by
 split
 ·rename_i hb;exact WG hk hc hs hb
 ·rfl
theorem AAd {kd:IntKind} {a:Int}:FP P off 1 (.i kd a) ps t z e h N=if off+1<=z.length then FL P ps t (z.take off++(.i kd a::z.drop (off+1))) e h N else Vx P off 1 (.i kd a) ps t z e h N:=Km (cs:=[.i kd a]) rfl rfl rfl
theorem ABI {q:Bool}:FP P off 1 (.b q) ps t z e h N=if off+1<=z.length then FL P ps t (z.take off++(.b q::z.drop (off+1))) e h N else Vx P off 1 (.b q) ps t z e h N:=Km (cs:=[.b q]) rfl rfl rfl
theorem xE {s:List UInt8}:FP P off 1 (sv s) ps t z e h N=if off+1<=z.length then FL P ps t (z.take off++(sv s::z.drop (off+1))) e h N else Vx P off 1 (sv s) ps t z e h N:=Km (cs:=[sv s]) rfl rfl rfl
theorem ABW {id:B} {g o fin:Nat}:FP P off 1 (.p id g o fin) ps t z e h N=if off+1<=z.length then FL P ps t (z.take off++(.p id g o fin::z.drop (off+1))) e h N else Vx P off 1 (.p id g o fin) ps t z e h N:=Km (cs:=[.p id g o fin]) rfl rfl rfl
theorem AAZ {id:B} {g o len fin:Nat} {cap:Option Nat}:FP P off 1 (.l id g o len fin cap) ps t z e h N=if off+1<=z.length then FL P ps t (z.take off++(.l id g o len fin cap::z.drop (off+1))) e h N else Vx P off 1 (.l id g o len fin cap) ps t z e h N:=Km (cs:=[.l id g o len fin cap]) rfl rfl rfl
theorem nJ:FP P off 1 .l0 ps t z e h N=if off+1<=z.length then FL P ps t (z.take off++(.l0::z.drop (off+1))) e h N else Vx P off 1 .l0 ps t z e h N:=Km (cs:=[.l0]) rfl rfl rfl
theorem AAQ {size:Nat} {cs:List V}:FP P off size (.a cs) ps t z e h N=if cs.length=size/\off+size<=z.length then FL P ps t (z.take off++(cs++z.drop (off+size))) e h N else Vx P off size (.a cs) ps t z e h N:=by
 split
 ·rename_i hb;exact WG rfl rfl hb.1 hb.2
 ·rfl
end
theorem AAY {kd:IntKind} {a:Int}:BX P el (.i kd a) h N=AL P el [.i kd a] (fun id=>.p id 0 0 1) h N:=rfl
theorem AAB {q:Bool}:BX P el (.b q) h N=AL P el [.b q] (fun id=>.p id 0 0 1) h N:=rfl
theorem uN {s:List UInt8}:BX P el (sv s) h N=AL P el [sv s] (fun id=>.p id 0 0 1) h N:=rfl
theorem AAm {cs:List V}:BX P el (.a cs) h N=AL P el cs (fun id=>.p id 0 0 cs.length) h N:=rfl
theorem ABC {id:B} {g o fin:Nat}:BX P el (.p id g o fin) h N=AL P el [.p id g o fin] (fun id=>.p id 0 0 1) h N:=rfl
theorem AAR {id:B} {g o len fin:Nat} {cap:Option Nat}:BX P el (.l id g o len fin cap) h N=AL P el [.l id g o len fin cap] (fun id=>.p id 0 0 1) h N:=rfl
theorem rT:BX P el .l0 h N=AL P el [.l0] (fun id=>.p id 0 0 1) h N:=rfl
theorem AAn {kd kd':IntKind} {a b:Int} (h1:0<=a) (h2:a<=b) (h3:b<=1048576):MS P el z (.i kd a) (.i kd' b) h N=AL P el (Db z b.toNat) (fun id=>.l id 0 0 a.toNat (b.toNat*z.length) (some b.toNat)) h N:=by
 have e1:Nat.ble a.toNat b.toNat=true:=by rw[Nat.ble_eq];omega
 have e2:Nat.ble b.toNat 1048576=true:=by rw[Nat.ble_eq];omega
 have e:∀ k:V->H->Bool,(vI (.i kd a) fun _ l=>A6 l fun l=>vI (.i kd' b) fun _ c=>A6 c fun c=>At (Nat.ble l c) fun _=>At (Nat.ble c 1048576) fun _=>alloc el (Db z c) h fun id h=>k (.l id 0 0 l (Nat.mul c z.length) (some c)) h)=
  alloc el (Db z b.toNat) h fun id h=>k (.l id 0 0 a.toNat (b.toNat*z.length) (some b.toNat)) h:=fun k=>by
  simp only[Cz,Cv h1,Cv (Int.le_trans h1 h2),e1,e2,AH];rfl
 unfold MS AL
 simp only[e]
end
section
variable {P:Program} {h:H} {N:Nx} {id:B} {xs:List V} {j fin:Nat} {x y:V}
/--at one place written -/
theorem ST.own (o:DA h id xs) (hc:cells x=[y]) (h1:Fa y=true) (hj:j<fin) (hfit:j<2 ^ 37) (k:∀ h',DA h' id (xs.set j y)->AU (fun i=>i=id) h h'->N.go P (.tu []) h'):ST P 1 (.p id 0 j fin) x h N:=by
 obtain⟨h',a1,a2,a3⟩:=ID o hj hfit h1
 refine Da (v:=.tu []) (h':=h') (fun k=>?_) (k h' a2 a3)
 show At (Nat.beq (cells x).length 1) (fun _=>store h id 0 j fin (cells x) fun h=>k (.tu []) h)=_
 rw[hc]
 show store h id 0 j fin [y] (fun h=>k (.tu []) h)=_
 rw[a1]
theorem ST.buf {el:Nat} {v:V} (b:FN h el 1 v xs) (tp:NY h v) (hc:cells x=[y]) (h1:Fa y=true) (hj:j<xs.length) (hfit:j<2 ^ 37) (k:∀ h',FN h' el 1 v (xs.set j y)->NY h' v->AU (Al v) h h'->N.go P (.tu []) h'):ST P 1 (.p (Ft v) (lg v) (Ci v+j) (Cm v)) x h N:=by
 obtain⟨h',a1,a2,a3,a4⟩:=QC b tp hj hfit h1
 refine Da (v:=.tu []) (h':=h') (fun k=>?_) (k h' a2 a3 a4)
 show At (Nat.beq (cells x).length 1) (fun _=>store h _ _ _ _ (cells x) fun h=>k (.tu []) h)=_
 rw[hc]
 show store h _ _ _ _ [y] (fun h=>k (.tu []) h)=_
 rw[a1]
end
section
variable {P:Program} {t:F} {h:H} {K:F->H->Prop} {l:List CO} {N:Nx} {el n m lo:Nat} {s:O} {v y:V} {xs:List V} {id:B}
theorem AP.buf {size ED:Nat} {x:V} {vs:List V} (b:FN h el size v xs) (hx:∀ k:Nat->List V->Bool,DL size x h k=k ED vs) (hf:B.val h.floor<=B.val h.next) (hsz:1<=size) (hn:vs.length=ED*size) (h1:CB vs=true) (hb:xs.length+vs.length<=1048576)
 (k:∀ v' h',FN h' el size v' (xs++vs)->AU (Al v) h h'->(∀ i,Al v' i->Al v i\/B.val h.next<=B.val i)->NY h' v'->N.go P v' h'):AP P el size v x h N:=by
 obtain⟨v',h',a1,a2,a3,a4,a5⟩:=KY b hf hsz hn h1 hb
 exact Da (v:=v') (h':=h') (fun k=>by rw[hx,a1]) (k v' h' a2 a3 a4 a5)
theorem O3 {size:Nat} {fin ED:Nat} {cap:Option Nat} {vs:List V} (r:Row h id 0 0 vs) (hn:vs.length=ED*size) (hc:1<=ED) (hs:1<=size) (hfin:vs.length<=fin) (k:Nat->List V->Bool):DL size (.l id 0 0 ED fin cap) h k=k ED vs:=by
 obtain⟨c,rfl⟩:∃ c,ED=c+1:=⟨ED-1,by omega⟩
 have hne:vs≠[]:=by
  intro e;subst e
  have:=Nat.mul_le_mul hc hs
  simp at hn;omega
 show Bk h id 0 0 fin (Nat.mul (c+1) size) (fun vs=>k (c+1) vs)=_
 rw[show Nat.mul (c+1) size=vs.length by rw[hn];rfl,DB r rfl hne (by omega)]
/--append(v,y):its literal,and it -/
theorem AL.push {b:Bool} (a:Vb h lo el v xs) (e3:∀ u,oV s (put m u t)=v) (hc:cells y=[y]) (h1:Fa y=true) (hf:B.val h.floor<=B.val h.next) (hlo:lo<=B.val h.next) (hl:xs.length+1<=1048576)
 (k:∀ v' h' u,Vb h' lo el v' (xs++[y])->AU (Al v) h h'->(∀ i,Al v' i->Al v i\/B.val h.next<=B.val i)->NY h' v'->WO P l (put n v' (put m u t)) h' K):
 AL P el [y] (fun id=>.l id 0 0 1 [y].length (some 1)) h (.w m (.mk .none (.some (AT n)) b (.mk (BL el 1 s (.t (AT m))))::l) t K):=by
 refine AL.own (by show 1<2 ^ 37;decide) hf fun h1' s1 n1 o1=>?_
 rw[dC,ru,or_append,e3,ZF,AB,if_pos rfl]
 refine AP.buf (vs:=[y]) (ED:=1) (a.buf.grow s1) (O3 o1.row rfl (Nat.le_refl _) (Nat.le_refl _) (Nat.le_refl _)) (s1.fl hf) (Nat.le_refl _) rfl (by show Bool.rec false true (Fa y)=true;rw[h1]) (by show xs.length+1<=_;exact hl) fun v' h' b1 s2 hv tp=>?_
 refine k v' h' _ ⟨b1,fun i hi=>?_⟩ ⟨s2.floor.trans s1.floor,Nat.le_trans s1.next s2.next,fun id' h1' h2=>(s2.get id' (Nat.lt_of_lt_of_le h1' s1.next) h2).trans (s1.get id' h1' fun h=>h)⟩ (fun i hi=>?_) tp
 ·rcases hv i hi with h2|h2
  ·exact a.own i h2
  ·have:=s1.next;omega
 ·rcases hv i hi with h2|h2
  ·exact .inl h2
  ·exact .inr (Nat.le_trans s1.next h2)
/--[]byte(text) -/
theorem SB.mk {c:List UInt8} (hf:B.val h.floor<=B.val h.next) (hl:c.length<=1048576)
 (k:∀ h',AU AO h h'->B.val h'.next=B.val h.next+1->F5 h' (.l h.next 0 0 c.length c.length (HC c.length)) (c.map bv)->N.go P (.l h.next 0 0 c.length c.length (HC c.length)) h'):SB P el (sv c) h N:=by
 obtain⟨h',a1,a2,a3,a4,a5,a6⟩:=Ot el hf hl
 have:=fun k=>a1 (.c (sv c)) F.zero (fun _ _ _ _=>false) k rfl
 refine Da (v:=.l h.next 0 0 c.length c.length (HC c.length)) (h':=h') (fun k=>?_) (k h' a2 a3 a5)
 have e:=this k
 simp only[Hl,AQ]at e
 exact e
end
section
variable {P:Program} {t:F} {h:H} {N:Nx} {x a:O} {id:B} {n K size:Nat} {kd:IntKind} {z:Int}
theorem Te:OR P (B2 size x (some a) none) t h N=H2 P (FB size) (oV x t) (oV a t) h N:=Bc fun cf k=>Tf ..
theorem Uq:OR P (B2 size x none (some a)) t h N=H2 P (FR size) (oV x t) (oV a t) h N:=Bc fun cf k=>To ..
def Iz (size:Nat) (v w z:V) (k:V->Bool):Bool:=vL v (fun _=>vI w fun _ n=>A6 n fun a=>vI z fun _ m=>A6 m fun b=>At (Nat.beq a 0) fun _=>At (Nat.beq b 0) fun _=>k .l0) fun id g off len fin cap=>vI w fun _ n=>A6 n fun a=>vI z fun _ m=>A6 m fun b=>At (Nat.ble a b) fun _=>
 Option.rec (fun id g off len fin a b k=>DG size id g off len fin a b fun v=>k v) (fun c id g off len fin a b k=>A3 (BP c) (fun _=>At (Nat.beq b 0) fun _=>k (.l id g off 0 off (some c))) (fun _=>BY size id g off len fin c a b fun v=>k v)) cap id g off len fin a b k
theorem VH {cf:Bn} {k:V->H->Bool} (size:Nat) (b:O):B2 size x (some a) (some b) cf t h k=Iz size (oV x t) (oV a t) (oV b t) fun v=>k v h:=by
 unfold Iz
 simp only[B2,AQ,BW]
 congr 1
 funext id g off len fin cap
 congr 1;funext _ n;congr 1;funext a;congr 1;funext _ m;congr 1;funext b;congr 1;funext _
 cases cap with
 |none=>rfl
 |some c=>
  show A3 (BP c) _ _=A3 (BP c) _ _
  cases BP c<;>rfl
theorem UH (b:O):OR P (B2 size x (some a) (some b)) t h N=H3 P (Iz size) (oV x t) (oV a t) (oV b t) h N:=Bc fun cf k=>VH ..
theorem ND {g off fin:Nat} (hK:n<18446744073709551616) (h0:0<=z) (hn:z<n):H2 P (LI n size) (.p id g off fin) (.i kd z) h N=N.go P (.l id g (off+z.toNat*size) (n-z.toNat) fin (some (n-z.toNat))) h:=Am fun k=>by
 show A6 z (fun p=>At (Nat.ble p n) fun _=>BY size id g off n fin n p n k)=_
 rw[Cv h0,mo (by omega),D0 hK (Nat.le_refl _) (by omega)]
theorem VO (hKM:K<18446744073709551616) (h0:0<=z) (hn:z<=K):H2 P (FB 1) (.l id 0 0 K K (some K)) (.i kd z) h N=N.go P (RV id K z.toNat) h:=Am fun k=>by
 obtain⟨n,rfl⟩:=Int.eq_ofNat_of_zero_le h0
 exact RO hKM (by omega) k
theorem VA (hKM:K<18446744073709551616) (h0:0<=z) (hn:z<=K) (hK:0<K):H2 P (FR 1) (.l id 0 0 K K (some K)) (.i kd z) h N=N.go P (.l id 0 0 z.toNat K (some K)) h:=Am fun k=>by
 obtain⟨n,rfl⟩:=Int.eq_ofNat_of_zero_le h0
 exact R9 hKM (by omega) hK k
end
def CL (P:Program) (f:FuncId) (vs:List V) (h:H) (N:Nx):Prop:=∃ Q,BF P f vs h Q/\∀ v h',Q v h'->N.go P v h'
theorem CL.mk {P:Program} {f:FuncId} {vs:List V} {h:H} {N:Nx} {Q:V->H->Prop} (a:BF P f vs h Q) (k:∀ v h',Q v h'->N.go P v h'):CL P f vs h N:=⟨Q,a,k⟩
/--.. that leaves memory alone -/
theorem CL.pure {P:Program} {f:FuncId} {vs:List V} {h:H} {N:Nx} {e:V} (a:BF P f vs h fun y h'=>y=e/\h'=h) (k:N.go P e h):CL P f vs h N:=⟨_,a,fun v h' hq=>by rw[hq.1,hq.2];exact k⟩
/--.. that makes blocks of its own alone -/
theorem CL.stay {P:Program} {f:FuncId} {vs:List V} {h:H} {N:Nx} {e:V} (a:BF P f vs h fun y h'=>y=e/\AU AO h h') (k:∀ h',AU AO h h'->N.go P e h'):CL P f vs h N:=⟨_,a,fun v h' hq=>by rw[hq.1];exact k h' hq.2⟩
theorem VE {P:Program} {t:F} {h:H} {N:Nx} {f:FuncId} {args:List O}:OR P (Ab f args) t h N=CL P f (args.map fun o=>oV o t) h N:=by
 apply propext;constructor
 ·rintro⟨v,h',⟨cf,c1,c2⟩,k⟩
  have c3:∀ k,cf f (args.map fun o=>oV o t) h k=k v h':=fun k=>by rw[<-c2 k];show _=Cr args t (fun vs=>cf f vs h k);rw[D4]
  obtain⟨v',h'',e,r1,r2,r3⟩:=c1 f _ h (fun _ _=>true) (c3 _)
  obtain⟨rfl,rfl⟩:=Rm fun k=>(c3 k).symm.trans (e k)
  refine⟨fun v h=>v=v'/\h=h'',⟨v',h'',⟨r1,r2,r3⟩,rfl,rfl⟩,?_⟩
  rintro _ _ ⟨rfl,rfl⟩
  exact k
 ·rintro⟨Q,a,k⟩
  obtain⟨v,h',c1,c2⟩:=H8 (S:=fun _ _ _ v h'=>Q v h') a
  exact⟨v,h',⟨_,J8 P _,fun k=>by show Cr args t _=_;rw[D4,c1]⟩,k v h' c2⟩
theorem ck {P:Program} {t:F} {h:H} {N:Nx} {f:FuncId} {cap:List O}:OR P (OX f cap) t h N=N.go P (.f f (cap.map fun o=>oV o t)) h:=(Bc (g:=fun k=>k (.f f (cap.map fun o=>oV o t))) fun cf k=>by show Cr cap t _=_;rw[D4]).trans (Am fun _=>rfl)
/--a call of a function value -/
def CLF (P:Program) (x:V) (vs:List V) (h:H) (N:Nx):Prop:=∃ f cs,x=.f f cs/\CL P f (vs++cs) h N
theorem XI {P:Program} {f:FuncId} {cs vs:List V} {h:H} {N:Nx}:CLF P (.f f cs) vs h N=CL P f (vs++cs) h N:=propext ⟨fun⟨_,_,e,a⟩=>by cases e;exact a,fun a=>⟨_,_,rfl,a⟩⟩
theorem RN {P:Program} {t:F} {h:H} {N:Nx} {x:O} {args:List O}:OR P (Bg x args) t h N=CLF P (oV x t) (args.map fun o=>oV o t) h N:=by
 have key:∀ f cs,oV x t=.f f cs->OR P (Bg x args) t h N=CL P f ((args.map fun o=>oV o t)++cs) h N:=fun f cs hx=>by
  have e:∀ cf k,Bg x args cf t h k=cf f ((args.map fun o=>oV o t)++cs) h k:=fun cf k=>by show oE x t _=_;rw[AQ];show Cr args t _=_;rw[D4,hx,ma,Lt]
  apply propext;constructor
  ·rintro⟨v,h',⟨cf,c1,c2⟩,k⟩
   have c3:∀ k,cf f ((args.map fun o=>oV o t)++cs) h k=k v h':=fun k=>(e cf k).symm.trans (c2 k)
   obtain⟨v',h'',e,r1,r2,r3⟩:=c1 f _ h (fun _ _=>true) (c3 _)
   obtain⟨rfl,rfl⟩:=Rm fun k=>(c3 k).symm.trans (e k)
   refine⟨fun v h=>v=v'/\h=h'',⟨v',h'',⟨r1,r2,r3⟩,rfl,rfl⟩,?_⟩
   rintro _ _ ⟨rfl,rfl⟩
   exact k
  ·rintro⟨Q,a,k⟩
   obtain⟨v,h',c1,c2⟩:=H8 (S:=fun _ _ _ v h'=>Q v h') a
   exact⟨v,h',⟨_,J8 P _,fun k=>(e _ k).trans (c1 k)⟩,k v h' c2⟩
 apply propext;constructor
 ·intro a
  have a':=a
  obtain⟨v,h',⟨cf,c1,c2⟩,k⟩:=a'
  have:=c2 fun _ _=>true
  have h2:(oE x t fun y=>Cr args t fun vs=>vF y fun f cs=>cf f (app vs cs) h fun _ _=>true)=true:=this
  rw[AQ]at h2
  have h2:(Cr args t fun vs=>vF (oV x t) fun f cs=>cf f (app vs cs) h fun _ _=>true)=true:=h2
  rw[D4]at h2
  obtain⟨f,cs,hx,_⟩:=WK h2
  exact⟨f,cs,hx,by rw[<-key f cs hx];exact a⟩
 ·rintro⟨f,cs,hx,a⟩
  rw[key f cs hx];exact a
def CD (v:V) (A B:Prop):Prop:=∃ q,v=.b q/\(q=true->A)/\(q=false->B)
theorem Ok.cd {P:Program} {nt:Nat} {o:O} {a b:CC} {t:F} {h:H} {K:X->F->H->Prop} (c:CD (oV o t) (Ok P nt a t h K) (Ok P nt b t h K)):Ok P nt (.cond o a b) t h K:=by
 obtain⟨q,hq,ha,hb⟩:=c
 exact Ok.cond hq ha hb
theorem AAM {A B:Prop}:CD (.b true) A B=A:=propext ⟨fun⟨q,hq,ha,_⟩=>by cases hq;exact ha rfl,fun a=>⟨true,rfl,fun _=>a,fun h=>by cases h⟩⟩
theorem AAA {A B:Prop}:CD (.b false) A B=B:=propext ⟨fun⟨q,hq,_,hb⟩=>by cases hq;exact hb rfl,fun b=>⟨false,rfl,fun h=>(by cases h),fun _=>b⟩⟩
theorem AE {q:Bool} {A B:Prop} (a:q=true->A) (b:q=false->B):CD (.b q) A B:=⟨q,rfl,a,b⟩
/--behind the first part:b,then K -/
def Sq (P:Program) (nt:Nat) (b:CC) (K:X->F->H->Prop):X->F->H->Prop
 |.normal,t,h=>Ok P nt b t h K
 |x,t,h=>K x t h
/--the next round -/
def ij (Inv:Nat->F->H->Prop) (m:Nat) (t:F) (h:H):Prop:=∃ m',m'<m/\Inv m' t h
def zx (Inv:Nat->F->H->Prop) (m:Nat) (K:X->F->H->Prop):X->F->H->Prop
 |.normal,t,h=>ij Inv m t h
 |x,t,h=>K x t h
section
variable {P:Program} {nt:Nat} {a b:CC} {t:F} {h:H} {K:X->F->H->Prop} {Inv:Nat->F->H->Prop} {m j id:Nat}
theorem Ok.sq (k:Ok P nt a t h (Sq P nt b K)):Ok P nt (.seq a b) t h K:=Ok.seq (k.mono fun x t h=>by cases x<;>exact fun h=>h)
theorem ABM:Sq P nt b K .normal t h=Ok P nt b t h K:=rfl
theorem AAj:Sq P nt b K (.exit j) t h=K (.exit j) t h:=rfl
theorem AA3:Sq P nt b K .ret t h=K .ret t h:=rfl
theorem AAs:zx Inv m K .normal t h=ij Inv m t h:=rfl
theorem ABJ:zx Inv m K (.exit j) t h=K (.exit j) t h:=rfl
theorem z9:zx Inv m K .ret t h=K .ret t h:=rfl
def IsI (I Inv:Nat->F->H->Prop):Prop:=I=Inv
/--a loop:the invariant,with a measure that falls -/
theorem Ok.lp (Inv:Nat->F->H->Prop) (m:Nat) (i:Inv m t h) (round:∀ I:Nat->F->H->Prop,IsI I Inv->∀ m t h,Inv m t h->Ok P nt a t h (zx I m K)):Ok P nt (.loop a) t h K:=
 Ok.loop Inv (fun m t h hi=>(round Inv rfl m t h hi).mono fun x t h=>by cases x<;>exact fun h=>h) m t h i
theorem Ah {I:Nat->F->H->Prop} (e:IsI I Inv) (m':Nat) (hm:m'<m) (k:Inv m' t h):ij I m t h:=by have e':I=Inv:=e;subst e';exact⟨m',hm,k⟩
end
def QI (rs:List Rs) (Q:V->H->Prop):X->F->H->Prop:=fun x t' h'=>match x with
 |.exit _=>False
 |_=>∃ us,(∀ k:List V->Bool,FE rs t' h' k=k us)/\Q (one us) h'
theorem BB {P:Program} {f:FuncId} {nt:Nat} {cc:CC} {rs:List Rs} {vs:List V} {h:H} {Q:V->H->Prop} (hc:AY P f=⟨nt,cc,rs⟩) (hbad:cc≠.bad) (hl1:vs.length<=nt) (hl2:vs.length<=512)
 (ok:∀ Q',Q'=Q->Ok P nt cc (Ap vs 0 F.zero) h (QI rs Q')):BF P f vs h Q:=eP hc hbad hl1 hl2 (ok Q rfl)
section
variable {Q:V->H->Prop} {t:F} {h:H} {n m p q:Nat}
theorem KL {rs:List Rs} {us:List V} (e:∀ k:List V->Bool,FE rs t h k=k us):QI rs Q .ret t h=Q (one us) h:=
 propext ⟨fun⟨vs,e',k⟩=>by have:=dn fun k=>(e k).symm.trans (e' k);subst this;exact k,fun k=>⟨us,e,k⟩⟩
theorem uS {rs:List Rs}:QI rs Q .normal t h=QI rs Q .ret t h:=rfl
theorem wP:QI [] Q .ret t h=Q (.tu []) h:=KL (us:=[]) fun k=>rfl
theorem um:QI [Rs.tmp (AT n)] Q .ret t h=Q (get n t) h:=KL (us:=[_]) fun k=>wU ..
theorem wK:QI [Rs.tmp (AT n),Rs.tmp (AT m)] Q .ret t h=Q (.tu [get n t,get m t]) h:=KL (us:=[_,_]) fun k=>yR ..
theorem kG:QI [Rs.tmp (AT n),Rs.tmp (AT m),Rs.tmp (AT p)] Q .ret t h=Q (.tu [get n t,get m t,get p t]) h:=KL (us:=[_,_,_]) fun k=>vc ..
theorem qy:QI [Rs.tmp (AT n),Rs.tmp (AT m),Rs.tmp (AT p),Rs.tmp (AT q)] Q .ret t h=Q (.tu [get n t,get m t,get p t,get q t]) h:=KL (us:=[_,_,_,_]) fun k=>by
 show Bh (Bm (AT n) t) (fun v=>Bh (Bm (AT m) t) fun u=>Bh (Bm (AT p) t) fun w=>Bh (Bm (AT q) t) fun z=>k [v,u,w,z])=_
 rw[BG,BG,BG,BG];rfl
end
/--results,the first out of a box -/
def RA (Q:V->H->Prop) (size:Nat) (v:V) (us:List V) (h:H):Prop:=∃ vs,(∀ k:List V->Bool,(vP v fun id g off fin=>Bk h id g off fin size k)=k vs)/\Q (one (.a vs::us)) h
section
variable {Q:V->H->Prop} {t:F} {h:H} {n m p q size:Nat}
theorem TY {rs:List Rs} {us:List V} (e:∀ (k:List V->Bool),(tJ (Rs.K0 (AT n) size) t h fun w=>FE rs t h fun vs=>k (w::vs))=vP (get n t) fun id g off fin=>Bk h id g off fin size fun vs=>k (.a vs::us)):QI (Rs.K0 (AT n) size::rs) Q .ret t h=RA Q size (get n t) us h:=by
 refine propext ⟨fun⟨ws,e',k⟩=>?_,fun⟨vs,e',k⟩=>⟨.a vs::us,fun k=>?_,k⟩⟩
 ·have e2:=fun k=>(e k).symm.trans (e' k)
  have e3:=e2 (fun zs=>true)
  obtain⟨id,g,off,fin,hp⟩:∃ id g off fin,get n t=.p id g off fin:=by
   revert e3
   cases get n t<;>intro e3<;>first|exact⟨_,_,_,_,rfl⟩|exact Bool.noConfusion e3
  rw[hp]at e2⊢
  have e4:∀ k:List V->Bool,Bk h id g off fin size (fun vs=>k (.a vs::us))=k ws:=e2
  obtain⟨vs,hv,_⟩:=EI (h:=h) (id:=id) (g:=g) (off:=off) (fin:=fin) (n:=size) (k:=fun _=>true) (e4 fun _=>true)
  have:ws=.a vs::us:=dn fun k=>by rw[<-e4 k,hv]
  subst this
  exact⟨vs,hv,k⟩
 ·have:=e' fun vs=>k (.a vs::us)
  rw[<-this];exact e k
theorem dF:QI [Rs.K0 (AT n) size] Q .ret t h=RA Q size (get n t) [] h:=TY fun k=>rfl
theorem iY:QI [Rs.K0 (AT n) size,Rs.tmp (AT m)] Q .ret t h=RA Q size (get n t) [get m t] h:=TY fun k=>by
 show(vP (get n t) fun id g off fin=>Bk h id g off fin size fun vs=>Bh (get m t) fun v=>k [.a vs,v])=_
 simp only[BG]
theorem iC:QI [Rs.K0 (AT n) size,Rs.tmp (AT m),Rs.tmp (AT p)] Q .ret t h=RA Q size (get n t) [get m t,get p t] h:=TY fun k=>by
 show(vP (get n t) fun id g off fin=>Bk h id g off fin size fun vs=>Bh (get m t) fun v=>Bh (get p t) fun u=>k [.a vs,v,u])=_
 simp only[BG]
theorem DA.ra {id:B} {xs us:List V} {fin:Nat} (o:DA h id xs) (hs:xs.length=size) (h1:1<=size) (hf:size<=fin):RA Q size (.p id 0 0 fin) us h=Q (one (.a xs::us)) h:=by
 have e:∀ k:List V->Bool,Bk h id 0 0 fin size k=k xs:=fun k=>DB o.row hs (by intro e;subst e;simp at hs;omega) (by omega) k
 refine propext ⟨fun⟨vs,e',k⟩=>?_,fun k=>⟨xs,e,k⟩⟩
 have:vs=xs:=dn fun k=>(e k).symm.trans (e' k)
 subst this;exact k
end
theorem zZ:one []=.tu []:=rfl
theorem wrap_u8 {n:Int} (h1:0<=n) (h2:n<=255):IntKind.u8.wrap n=n:=by
 simp only[IntKind.wrap,IntKind.bits,IntKind.signed];simp;omega
theorem wrap_u16 {n:Int} (h1:0<=n) (h2:n<=65535):IntKind.u16.wrap n=n:=by
 simp only[IntKind.wrap,IntKind.bits,IntKind.signed];simp;omega
theorem wrap_u32 {n:Int} (h1:0<=n) (h2:n<=4294967295):IntKind.u32.wrap n=n:=by
 simp only[IntKind.wrap,IntKind.bits,IntKind.signed];simp;omega
theorem wrap_u64 {n:Int} (h1:0<=n) (h2:n<=18446744073709551615):IntKind.u64.wrap n=n:=by
 simp only[IntKind.wrap,IntKind.bits,IntKind.signed];simp;omega
theorem wrap_i32 {n:Int} (h1: -2147483648<=n) (h2:n<=2147483647):IntKind.i32.wrap n=n:=by
 simp only[IntKind.wrap,IntKind.bits,IntKind.signed];simp;omega
theorem P0 (c:UInt8):IntKind.i64.wrap (c.toNat:Int)=(c.toNat:Int):=wrap_i64 (by omega) (by have:=c.toNat_lt;omega)
theorem Re (c:UInt8):IntKind.u8.wrap (c.toNat:Int)=(c.toNat:Int):=wrap_u8 (by omega) (by have:=c.toNat_lt;omega)
theorem PX (c:UInt8):IntKind.u16.wrap (c.toNat:Int)=(c.toNat:Int):=wrap_u16 (by omega) (by have:=c.toNat_lt;omega)
theorem P5 (c:UInt8):IntKind.u32.wrap (c.toNat:Int)=(c.toNat:Int):=wrap_u32 (by omega) (by have:=c.toNat_lt;omega)
theorem PZ (c:UInt8):IntKind.u64.wrap (c.toNat:Int)=(c.toNat:Int):=wrap_u64 (by omega) (by have:=c.toNat_lt;omega)
theorem R0:IntKind.bits .i64=64:=rfl
theorem RI:IntKind.bits .u64=64:=rfl
theorem Rl:IntKind.bits .u32=32:=rfl
theorem Rh:IntKind.bits .u16=16:=rfl
theorem Ua:IntKind.bits .u8=8:=rfl
theorem TW:IntKind.bits .i32=32:=rfl
end Go.Ev
set_option maxRecDepth 10000
namespace Go.Ev
open Go
section
variable {P:Program} {h:H} {N:Nx} {a b:Int}
theorem OD (ha:0<=a) (ha2:a<=9223372036854775807) (hb:0<=b) (hb2:b<=9223372036854775807):H2 P (C9 Mt) (.i .i64 a) (.i .i64 b) h N=N.go P (.i .i64 ((a.toNat&&&b.toNat:Nat):Int)) h:=J1 (m:=9223372036854775807) rfl ha ha2 hb hb2
theorem Pw (ha:0<=a) (ha2:a<=255) (hb:0<=b) (hb2:b<=255):H2 P (C9 Mt) (.i .u8 a) (.i .u8 b) h N=N.go P (.i .u8 ((a.toNat&&&b.toNat:Nat):Int)) h:=J1 (m:=255) rfl ha ha2 hb hb2
theorem Nk (ha:0<=a) (ha2:a<=65535) (hb:0<=b) (hb2:b<=65535):H2 P (C9 Mt) (.i .u16 a) (.i .u16 b) h N=N.go P (.i .u16 ((a.toNat&&&b.toNat:Nat):Int)) h:=J1 (m:=65535) rfl ha ha2 hb hb2
theorem OP (ha:0<=a) (ha2:a<=4294967295) (hb:0<=b) (hb2:b<=4294967295):H2 P (C9 Mt) (.i .u32 a) (.i .u32 b) h N=N.go P (.i .u32 ((a.toNat&&&b.toNat:Nat):Int)) h:=J1 (m:=4294967295) rfl ha ha2 hb hb2
theorem Nr (ha:0<=a) (ha2:a<=18446744073709551615) (hb:0<=b) (hb2:b<=18446744073709551615):H2 P (C9 Mt) (.i .u64 a) (.i .u64 b) h N=N.go P (.i .u64 ((a.toNat&&&b.toNat:Nat):Int)) h:=J1 (m:=18446744073709551615) rfl ha ha2 hb hb2
theorem Ps (ha:0<=a) (ha2:a<=9223372036854775807) (hb:0<=b) (hb2:b<=9223372036854775807):H2 P (C9 fI) (.i .i64 a) (.i .i64 b) h N=N.go P (.i .i64 ((a.toNat|||b.toNat:Nat):Int)) h:=M8 (m:=9223372036854775807) rfl ha ha2 hb hb2
theorem Qj (ha:0<=a) (ha2:a<=255) (hb:0<=b) (hb2:b<=255):H2 P (C9 fI) (.i .u8 a) (.i .u8 b) h N=N.go P (.i .u8 ((a.toNat|||b.toNat:Nat):Int)) h:=M8 (m:=255) rfl ha ha2 hb hb2
theorem Pa (ha:0<=a) (ha2:a<=65535) (hb:0<=b) (hb2:b<=65535):H2 P (C9 fI) (.i .u16 a) (.i .u16 b) h N=N.go P (.i .u16 ((a.toNat|||b.toNat:Nat):Int)) h:=M8 (m:=65535) rfl ha ha2 hb hb2
theorem P8 (ha:0<=a) (ha2:a<=4294967295) (hb:0<=b) (hb2:b<=4294967295):H2 P (C9 fI) (.i .u32 a) (.i .u32 b) h N=N.go P (.i .u32 ((a.toNat|||b.toNat:Nat):Int)) h:=M8 (m:=4294967295) rfl ha ha2 hb hb2
theorem QM (ha:0<=a) (ha2:a<=18446744073709551615) (hb:0<=b) (hb2:b<=18446744073709551615):H2 P (C9 fI) (.i .u64 a) (.i .u64 b) h N=N.go P (.i .u64 ((a.toNat|||b.toNat:Nat):Int)) h:=M8 (m:=18446744073709551615) rfl ha ha2 hb hb2
theorem Nf (ha:0<=a) (ha2:a<=9223372036854775807) (hb:0<=b) (hb2:b<=9223372036854775807):H2 P (C9 Kg) (.i .i64 a) (.i .i64 b) h N=N.go P (.i .i64 ((a.toNat ^^^ b.toNat:Nat):Int)) h:=KQ (m:=9223372036854775807) rfl ha ha2 hb hb2
theorem Pv (ha:0<=a) (ha2:a<=255) (hb:0<=b) (hb2:b<=255):H2 P (C9 Kg) (.i .u8 a) (.i .u8 b) h N=N.go P (.i .u8 ((a.toNat ^^^ b.toNat:Nat):Int)) h:=KQ (m:=255) rfl ha ha2 hb hb2
theorem OU (ha:0<=a) (ha2:a<=65535) (hb:0<=b) (hb2:b<=65535):H2 P (C9 Kg) (.i .u16 a) (.i .u16 b) h N=N.go P (.i .u16 ((a.toNat ^^^ b.toNat:Nat):Int)) h:=KQ (m:=65535) rfl ha ha2 hb hb2
theorem Nl (ha:0<=a) (ha2:a<=4294967295) (hb:0<=b) (hb2:b<=4294967295):H2 P (C9 Kg) (.i .u32 a) (.i .u32 b) h N=N.go P (.i .u32 ((a.toNat ^^^ b.toNat:Nat):Int)) h:=KQ (m:=4294967295) rfl ha ha2 hb hb2
theorem No (ha:0<=a) (ha2:a<=18446744073709551615) (hb:0<=b) (hb2:b<=18446744073709551615):H2 P (C9 Kg) (.i .u64 a) (.i .u64 b) h N=N.go P (.i .u64 ((a.toNat ^^^ b.toNat:Nat):Int)) h:=KQ (m:=18446744073709551615) rfl ha ha2 hb hb2
theorem OG (ha:0<=a) (ha2:a<=9223372036854775807) (hb:0<=b) (hb2:b<=9223372036854775807):H2 P (C9 OO) (.i .i64 a) (.i .i64 b) h N=N.go P (.i .i64 ((a.toNat ^^^ (a.toNat&&&b.toNat):Nat):Int)) h:=Je (m:=9223372036854775807) rfl ha ha2 hb hb2
theorem QA (ha:0<=a) (ha2:a<=255) (hb:0<=b) (hb2:b<=255):H2 P (C9 OO) (.i .u8 a) (.i .u8 b) h N=N.go P (.i .u8 ((a.toNat ^^^ (a.toNat&&&b.toNat):Nat):Int)) h:=Je (m:=255) rfl ha ha2 hb hb2
theorem OB (ha:0<=a) (ha2:a<=65535) (hb:0<=b) (hb2:b<=65535):H2 P (C9 OO) (.i .u16 a) (.i .u16 b) h N=N.go P (.i .u16 ((a.toNat ^^^ (a.toNat&&&b.toNat):Nat):Int)) h:=Je (m:=65535) rfl ha ha2 hb hb2
theorem N7 (ha:0<=a) (ha2:a<=4294967295) (hb:0<=b) (hb2:b<=4294967295):H2 P (C9 OO) (.i .u32 a) (.i .u32 b) h N=N.go P (.i .u32 ((a.toNat ^^^ (a.toNat&&&b.toNat):Nat):Int)) h:=Je (m:=4294967295) rfl ha ha2 hb hb2
theorem OC (ha:0<=a) (ha2:a<=18446744073709551615) (hb:0<=b) (hb2:b<=18446744073709551615):H2 P (C9 OO) (.i .u64 a) (.i .u64 b) h N=N.go P (.i .u64 ((a.toNat ^^^ (a.toNat&&&b.toNat):Nat):Int)) h:=Je (m:=18446744073709551615) rfl ha ha2 hb hb2
end
theorem Vr (x y:V):cond true x y=x:=rfl
theorem T8 (x y:V):cond false x y=y:=rfl
theorem iv (f:O->V) (o:O) (os:List O):List.map f (o::os)=f o::List.map f os:=rfl
theorem fu (f:O->V):List.map f []=[]:=rfl
theorem fg (a:V) (l:List V):(a::l).length=l.length+1:=rfl
theorem iF:([]:List V).length=0:=rfl
theorem VW (l:List V):l.take 0=[]:=rfl
theorem Uw (n:Nat) (a:V) (l:List V):(a::l).take (n+1)=a::l.take n:=rfl
theorem Tm (l:List V):l.drop 0=l:=rfl
theorem Vi (n:Nat) (a:V) (l:List V):(a::l).drop (n+1)=l.drop n:=rfl
theorem jX (l:List V):[]++l=l:=rfl
theorem iW (a:V) (l m:List V):(a::l)++m=a::(l++m):=rfl
theorem UQ (a:V) (l:List V) (d:V):(a::l).getD 0 d=a:=rfl
theorem U7 (n:Nat) (a:V) (l:List V) (d:V):(a::l).getD (n+1) d=l.getD n d:=by simp[List.getD]
theorem gK (a b:V) (l:List V):(a::l).set 0 b=b::l:=rfl
theorem fG (n:Nat) (a b:V) (l:List V):(a::l).set (n+1) b=a::l.set n b:=rfl
theorem jE (b:Bool):(b==b)=true:=by cases b<;>rfl
theorem dV (b:Bool):(b !=b)=false:=by cases b<;>rfl
def AJ:=And.intro @sQ (And.intro @sJ (And.intro @uz (And.intro @sX (And.intro @sn (And.intro @OJ (And.intro @eS (And.intro @ru (And.intro @z7 (And.intro @AAo (And.intro @nu (And.intro @AAg (And.intro @ABH (And.intro @AA9 (And.intro @ABG (And.intro @ux (And.intro @lL (And.intro @dC (And.intro @WN (And.intro @Ul (And.intro @ng (And.intro @Ng (And.intro @vW (And.intro @lE (And.intro @pM (And.intro @yk (And.intro @jn (And.intro @yH (And.intro @D6 (And.intro @VZ (And.intro @Tj (And.intro @eE (And.intro @Sa (And.intro @hX (And.intro @Uy (And.intro @XY (And.intro @aC (And.intro @UG (And.intro @aM (And.intro @Uc (And.intro @gB (And.intro @eG (And.intro @YG (And.intro @fK (And.intro @Qu (And.intro @QK (And.intro @MI (And.intro @Mh (And.intro @bf (And.intro @P4 (And.intro @Pe (And.intro @P1 (And.intro @QH (And.intro @Tw (And.intro @Vo (And.intro @bp (And.intro @X9 (And.intro @eK (And.intro @SI (And.intro @or_nil (And.intro @M7 (And.intro @Vc (And.intro @SL (And.intro @jH (And.intro @RU (And.intro @VE (And.intro @ck (And.intro @RN (And.intro @XI (And.intro @TF (And.intro @fY (And.intro @Kf (And.intro @TN (And.intro @LU (And.intro @or_append (And.intro @N3 (And.intro @U5 (And.intro @RR (And.intro @iA (And.intro @Te (And.intro @Uq (And.intro @UH (And.intro @cP (And.intro @X3 (And.intro @ar (And.intro @Xr (And.intro @gU (And.intro @YV (And.intro @fV (And.intro @Wd (And.intro @dv (And.intro @c8 (And.intro @cT (And.intro @ik (And.intro @XF (And.intro @X1 (And.intro @bc (And.intro @iy (And.intro @Xh (And.intro @cL (And.intro @dD (And.intro @UC (And.intro @Tr (And.intro @UM (And.intro @UN (And.intro @Ur (And.intro @X5 (And.intro @cS (And.intro @Uz (And.intro @Vf (And.intro @UB (And.intro @SD (And.intro @PW (And.intro @Lb (And.intro @NR (And.intro @YM (And.intro @rq (And.intro @Qd (And.intro @PR (And.intro @Rp (And.intro @Tp (And.intro @Ko (And.intro @P7 (And.intro @ja (And.intro @Zf (And.intro @VC (And.intro @Xn (And.intro @bV (And.intro @gV (And.intro @Zm (And.intro @Zc (And.intro @WT (And.intro @aA (And.intro @XZ (And.intro @Rq (And.intro @SS (And.intro @S6 (And.intro @Qm (And.intro @Rn (And.intro @AAO (And.intro @ABP (And.intro @mN (And.intro @pw (And.intro @pI (And.intro @AAG (And.intro @ABB (And.intro @AAz (And.intro @AAd (And.intro @ABI (And.intro @xE (And.intro @ABW (And.intro @AAZ (And.intro @nJ (And.intro @AAQ (And.intro @AAY (And.intro @AAB (And.intro @uN (And.intro @AAm (And.intro @ABC (And.intro @AAR (And.intro @rT (And.intro @AAn (And.intro @VO (And.intro @VA (And.intro @ND (And.intro @Zy (And.intro @j8 (And.intro @oI (And.intro @qJ (And.intro @OD (And.intro @Pw (And.intro @Nk (And.intro @OP (And.intro @Nr (And.intro @Ps (And.intro @Qj (And.intro @Pa (And.intro @P8 (And.intro @QM (And.intro @Nf (And.intro @Pv (And.intro @OU (And.intro @Nl (And.intro @No (And.intro @OG (And.intro @QA (And.intro @OB (And.intro @N7 (And.intro @OC (And.intro @AAM (And.intro @AAA (And.intro @uS (And.intro @wP (And.intro @um (And.intro @wK (And.intro @kG (And.intro @qy (And.intro @dF (And.intro @iY (And.intro @iC (And.intro @zZ (And.intro @nv (And.intro @qq (And.intro @qf (And.intro @ABM (And.intro @AAj (And.intro @AA3 (And.intro @AAs (And.intro @ABJ (And.intro @z9 (And.intro @qe (And.intro @uZ (And.intro @jv (And.intro @ZF (And.intro @AAT (And.intro @P0 (And.intro @Re (And.intro @PX (And.intro @P5 (And.intro @PZ (And.intro @wrap_i64 (And.intro @wrap_u8 (And.intro @wrap_u16 (And.intro @wrap_u32 (And.intro @wrap_u64 (And.intro @wrap_i32 (And.intro @R0 (And.intro @RI (And.intro @Rl (And.intro @Rh (And.intro @Ua (And.intro @TW (And.intro @Xq (And.intro @Qq (And.intro @iv (And.intro @fu (And.intro @Vr (And.intro @T8 (And.intro @Bool.not_true (And.intro @Bool.not_false (And.intro @Bool.not_not (And.intro @decide_true (And.intro @decide_false (And.intro @Int.ofNat_eq_natCast (And.intro @Int.cast_ofNat_Int (And.intro @and_self (And.intro @Int.toNat_natCast (And.intro @jE (And.intro @dV (And.intro @Bool.false_xor (And.intro @Bool.true_xor (And.intro @fg (And.intro @iF (And.intro @VW (And.intro @Uw (And.intro @Tm (And.intro @Vi (And.intro @jX (And.intro @iW (And.intro @UQ (And.intro @U7 (And.intro @gK (And.intro @fG (And.intro @Nat.min_eq_left (And.intro @Nat.zero_add (And.intro @Nat.add_zero (And.intro @Nat.mul_one (@Nat.zero_mul)))))))))))))))))))))))))))))))))))))))))))))))))))))))))))))))))))))))))))))))))))))))))))))))))))))))))))))))))))))))))))))))))))))))))))))))))))))))))))))))))))))))))))))))))))))))))))))))))))))))))))))))))))))))))))))))))))))))))))))))))))))))))))))))))))))))))))
def AX:=And.intro @Bool.not_eq_true' (@Bool.not_eq_false')
def AI:=And.intro @List.length_append.{0} (And.intro @List.length_cons.{0} (And.intro @List.length_nil.{0} (And.intro @List.length_take.{0} (And.intro @List.length_drop.{0} (And.intro @List.length_map.{0,0} (@List.length_set.{0}))))))
def AV:=And.intro @Int.not_lt (And.intro @Int.not_le (And.intro @Nat.not_lt (And.intro @Nat.not_le (And.intro @decide_eq_true_eq (And.intro @decide_eq_false_iff_not (And.intro @Bool.not_eq_true (And.intro @Bool.not_eq_false (And.intro @Bool.not_true (And.intro @Bool.not_false (And.intro @Bool.not_eq_eq_eq_not (@Decidable.not_not)))))))))))
/--the next step of code,by its form -/
class St (p:Prop) (q:outParam Prop):Prop where
 h:q->p
section
variable {P:Program} {nt:Nat} {t:F} {h:H} {K:X->F->H->Prop} {a b:CC} {l:List CO} {id:Nat} {o:O}
instance:St (Ok P nt (.seq a b) t h K) (Ok P nt a t h (Sq P nt b K)):=⟨Ok.sq⟩
instance:St (Ok P nt (.block id a) t h K) (Ok P nt a t h (Out id K)):=⟨Ok.block⟩
instance:St (Ok P nt (.region l) t h K) (WO P l t h (K .normal)):=⟨Ok.rg⟩
instance:St (Ok P nt (.cond o a b) t h K) (CD (oV o t) (Ok P nt a t h K) (Ok P nt b t h K)):=⟨Ok.cd⟩
instance:St (Ok P nt .skip t h K) (K .normal t h):=⟨Ok.skip⟩
instance:St (Ok P nt (.exit id) t h K) (K (.exit id) t h):=⟨Ok.exit⟩
instance:St (Ok P nt .ret t h K) (K .ret t h):=⟨Ok.ret⟩
end
end Go.Ev
namespace Go.Ev
open Go
/--a block of the call's own,made of a text's bytes or of cells -/
def TB (h:H) (id:B) (xs:List V):Prop:=∃ Ao,h.heap.get id=some Ao/\Ao.cur=0/\Ao.min=0/\Ao.fr<=1/\B.val h.floor<=B.val id/\B.val id<B.val h.next/\∀ i y,xs[i]? =some y->Ao.cells.BN i=some y
theorem TB.row {h:H} {id:B} {xs:List V} (o:TB h id xs):Row h id 0 0 xs:=by
 obtain⟨Ao,h1,h2,h3,h4,h5,h6,h7⟩:=o
 refine⟨fun _=>⟨Ao,h1,by omega⟩,fun i y hy=>?_⟩
 unfold Ev.cell GZ
 rw[h1]
 show(if Ao.min<=0 then Ao.cells.BN (0+i)else none)=_
 rw[if_pos (by omega),Nat.zero_add]
 exact h7 i y hy
theorem TB.CT {h:H} {id:B} {xs:List V} (o:TB h id xs) (cap:Option Nat):F5 h (.l id 0 0 xs.length xs.length cap) xs:=by
 have r:=o.row
 obtain⟨Ao,h1,h2,h3,h4,h5,h6,h7⟩:=o
 exact .inr ⟨id,0,0,_,cap,rfl,by omega,h6,r⟩
section
variable {P:Program} {h:H} {N:Nx} {id:B} {xs:List V} {j fin el:Nat} {x y:V}
/--[]byte(text),to be written into -/
theorem SB.own {c:List UInt8} (hf:B.val h.floor<=B.val h.next) (hl:c.length<=1048576)
 (k:∀ h',AU AO h h'->B.val h'.next=B.val h.next+1->TB h' h.next (c.map bv)->N.go P (.l h.next 0 0 c.length c.length (HC c.length)) h'):SB P el (sv c) h N:=by
 obtain⟨h',a1,a2,a3,a4,a5,cs,a6,a7⟩:=Ot el hf hl
 have:=fun k=>a1 (.c (sv c)) F.zero (fun _ _ _ _=>false) k rfl
 refine Da (v:=.l h.next 0 0 c.length c.length (HC c.length)) (h':=h') (fun k=>?_) (k h' a2 a3 ⟨_,a6,rfl,rfl,by show 1<=1;omega,by rw[a2.floor];exact hf,by omega,a7⟩)
 have e:=this k
 simp only[Hl,AQ]at e
 exact e
end
/--the i-th row of a matrix -/
def rowOf (h:H) (v:V) (i:Nat):V:=(cell h (Ft v) (lg v) (Ci v+i)).getD .u
/--a matrix that was there when the call began -/
structure MA (h0:H) (v:V) (M:List (List Bool)) (g:H):Prop where
 mx:Mx h0 v M
 st:AU AO h0 g
section
variable {P:Program} {N:Nx} {h0 g h':H} {v:V} {M:List (List Bool)} {i j:Nat}
theorem MA.grow (a:MA h0 v M g) (s:AU AO g h'):MA h0 v M h':=⟨a.mx,a.st.trans s⟩
theorem MA.mg (a:MA h0 v M g):Mx g v M:=a.mx.grow a.st
theorem Mx.rowOf (a:Mx h0 v M) (hi:i<M.length):Bl h0 (rowOf h0 v i) (M.getD i []):=by
 obtain⟨rows,r1,r2,r3⟩:=a
 have hr:rows[i]? =some rows[i]:=by simp
 have:Go.Ev.rowOf h0 v i=rows[i]:=by
  unfold Go.Ev.rowOf
  rcases r1 with⟨rfl,e⟩|⟨id,g,off,fin,cap,rfl,h2,h3,h4⟩
  ·subst e;simp at r2;omega
  ·have:=h4.2 i _ hr
   show(cell h0 id g (off+i)).getD .u=_
   rw[this];rfl
 rw[this]
 exact r3 i _ hr
theorem MA.row (a:MA h0 v M g) (hi:i<M.length):Bl g (rowOf h0 v i) (M.getD i []):=(a.mx.rowOf hi).grow a.st
theorem MA.ld (a:MA h0 v M g) (hi:i<M.length):L1 P (Ft v) (lg v) (Ci v+i) (Cm v) g N=N.go P (rowOf h0 v i) g:=by
 obtain⟨rows,r1,r2,r3⟩:=a.mx
 have hr:rows[i]? =some rows[i]:=by simp
 refine Am fun k=>?_
 have e:Go.Ev.rowOf h0 v i=rows[i]:=by
  unfold Go.Ev.rowOf
  rcases r1 with⟨rfl,e⟩|⟨id,g,off,fin,cap,rfl,h2,h3,h4⟩
  ·subst e;simp at r2;omega
  ·have:=h4.2 i _ hr
   show(cell h0 id g (off+i)).getD .u=_
   rw[this];rfl
 rw[Fb (r1.grow a.st) hr,e]
end
theorem Row.ln {P:Program} {h:H} {N:Nx} {id:B} {g off fin size:Nat} {xs:List V} (r:Row h id g 0 xs) (hi:off+size<=xs.length) (h1:1<=size) (hf:off+size<=fin):LN P id g off fin size h N=N.go P (.a ((xs.drop off).take size)) h:=Am fun k=>by
 have hne:(xs.drop off).take size≠[]:=by
  intro e
  have:=congrArg List.length e
  rw[List.length_take,List.length_drop]at this
  simp at this;omega
 refine DB (vs:=(xs.drop off).take size) ⟨fun _=>r.1 (by intro e;subst e;simp at hi;omega),fun i y hy=>?_⟩ (by rw[List.length_take,List.length_drop];omega) hne hf _
 rw[List.getElem?_take]at hy
 split at hy
 ·rw[List.getElem?_drop]at hy
  have:=r.2 (off+i) y hy
  rwa [Nat.zero_add]at this
 ·cases hy
def UP (P:Program) (u size:Nat) (x:V) (h:H) (N:Nx):Prop:=HV P (fun k=>vP x fun id g off fin=>At (Nat.beq off 0) fun _=>At (Nat.ble size fin) fun _=>WJ h id g u fun _=>k (.p id g off fin)) h N
section
variable {P:Program} {t:F} {h:H} {N:Nx} {x y:O} {ne:Bool} {id id':B} {g off fin g' off' fin':Nat} {u size:Nat}
end
section
variable {P:Program} {h:H} {N:Nx} {id:B} {xs:List V} {j fin el:Nat} {x y:V}
/--append(v,text...) -/
theorem AS.buf {v:V} {a c:List UInt8} (hb:FN h el 1 v (a.map bv)) (hf:B.val h.floor<=B.val h.next) (hl:a.length+c.length<=1048576)
 (k:∀ v' h',FN h' el 1 v' ((a++c).map bv)->AU (Al v) h h'->(∀ i,Al v' i->Al v i\/B.val h.next<=B.val i)->NY h' v'->N.go P v' h'):AS P el v (sv c) h N:=by
 obtain⟨v',h',a1,a2,a3,a4,a5⟩:=KY (vs:=c.map bv) (n:=c.length) hb hf (Nat.le_refl _) (by simp) (IF c) (by simpa using hl)
 refine Da (v:=v') (h':=h') (fun k=>?_) (k v' h' (by rw[List.map_append];exact a2) a3 a4 a5)
 show KB c.length (pk c) [] (fun vs=>CU el 1 v c.length vs h k)=_
 rw[KG _ _ _ _ rfl,List.append_nil,a1]
end
def US (P:Program) (e:Nat) (x y:V) (h:H) (N:Nx):Prop:=HM P (fun k=>vI y fun kd n=>At (CE kd .i64) fun _=>A6 n fun n=>SV x (fun _=>At (Nat.beq n 0) fun _=>k (.s 0 0) h) fun id g off fin=>Kq e n h k id g off fin) N
theorem US.of {P:Program} {e:Nat} {x y v:V} {h h':H} {N:Nx} (hk:∀ k:V->H->Bool,(vI y fun kd n=>At (CE kd .i64) fun _=>A6 n fun n=>SV x (fun _=>At (Nat.beq n 0) fun _=>k (.s 0 0) h) fun id g off fin=>Kq e n h k id g off fin)=k v h') (k:N.go P v h'):US P e x y h N:=Da hk k
theorem UA {P:Program} {e:Nat} {x y:O} {t:F} {h:H} {N:Nx}:OR P (HL e x y) t h N=US P e (oV x t) (oV y t) h N:=FQ fun cf k=>by simp only[HL,AQ]
end Go.Ev
namespace Go.Ev
open Go
section
variable {h:H}
/--all cells of a block at once -/
theorem ST.cm {P:Program} {N:Nx} {id:B} {xs vs:List V} {x:V} {size fin:Nat} (o:DA h id xs) (hc:cells x=vs) (hs:vs.length=size) (h1:CB vs=true) (hj:vs.length<=fin) (hfit:vs.length<2 ^ 37)
 (k:∀ h',DA h' id vs->AU (fun i=>i=id) h h'->N.go P (.tu []) h'):ST P size (.p id 0 0 fin) x h N:=by
 obtain⟨Ao,a1,a2,a3,a4,a5,a6,a7⟩:=o
 obtain⟨next,floor,heap⟩:=h
 obtain⟨cur,min,sz,cs,bel,fr⟩:=Ao
 simp only at a2 a3 a4 a7
 subst a2;subst a3;subst a4
 obtain⟨tr,t1,t2,t3⟩:=Bt vs 0 cs (by omega)
 obtain⟨hp,s1,s2,s3⟩:=Bu id (⟨0,0,sz,tr,bel,0⟩:Gi) heap
 have e1:B.Kb floor id=true:=by cases floor<;>first|rfl|(show Nat.ble _ _=true;rw[Nat.ble_eq];exact a5)
 have e2:Nat.ble (Nat.add 0 vs.length) fin=true:=by rw[Nat.ble_eq];show 0+vs.length<=fin;omega
 have e4:HF 0 0=true:=rfl
 have e5:Nat.beq 0 0=true:=rfl
 have e6:Nat.ble 0 0=true:=rfl
 have e7:Nat.beq vs.length size=true:=by rw[hs];simp
 have a1':heap.get id=some ⟨0,0,sz,cs,bel,0⟩:=a1
 refine Da (v:=.tu []) (h':=⟨next,floor,hp⟩) (fun q=>?_) (k _ ⟨_,s2,rfl,rfl,rfl,a5,a6,fun i z hz=>by have:=t2 i z hz;rwa [Nat.zero_add]at this⟩ ⟨rfl,Nat.le_refl _,fun i _ hi=>s3 i hi⟩)
 show At (Nat.beq (cells x).length size) (fun _=>store ⟨next,floor,heap⟩ id 0 0 fin (cells x) fun h=>q (.tu []) h)=_
 rw[hc,e7,AH]
 simp only[store,CN,a1',Aq,BH,e5,e6,e1,e2,h1,e4,AH]
 rw[t1,s1]
end
theorem ST.all {P:Program} {h:H} {N:Nx} {id:B} {xs vs:List V} {size fin:Nat} (o:DA h id xs) (hs:vs.length=size) (h1:CB vs=true) (hj:vs.length<=fin) (hfit:vs.length<2 ^ 37)
 (k:∀ h',DA h' id vs->AU (fun i=>i=id) h h'->N.go P (.tu []) h'):ST P size (.p id 0 0 fin) (.a vs) h N:=ST.cm o rfl hs h1 hj hfit k
theorem Qn (h:H):B.val (Av h).floor<=B.val (Av h).next:=by cases h;exact Nat.le_refl _
/--a call in a region that Az -/
theorem CL.ta {P:Program} {f:FuncId} {vs:List V} {h:H} {e:V} {m:Nat} {l:List CO} {t:F} {K:F->H->Prop} (a:BF P f vs (Av h) fun y h'=>y=e/\AU AO (Av h) h')
 (k:∀ h',AU AO h h'->DO P l (put m e t) h' K):CL P f vs (Av h) (.u m l t h K):=⟨_,a,fun v h' hq=>by rw[hq.1,Ng];exact k _ hq.2.F3⟩
/--a new block in a region that Az -/
theorem AL.AAK {P:Program} {t:F} {h:H} {K:F->H->Prop} {l:List CO} {el m:Nat} {cs:List V} {mk:B->V} (hl:cs.length<2 ^ 37) (hf:B.val h.floor<=B.val h.next)
 (k:∀ h',AU AO h h'->DA h' h.next cs->DO P l (put m (mk h.next) t) h' K):AL P el cs mk (Av h) (.u m l t h K):=by
 have hn:(Av h).next=h.next:=by cases h;rfl
 refine AL.own hl (Qn _) fun h1' s1 n1 o1=>?_
 rw[hn]at o1⊢
 rw[Ng]
 exact k _ s1.F3 (o1.F3 hf)
/--a row of structs of n cells each -/
def Ss {α:Type} (n:Nat) (c:α->List V) (h:H) (v:V) (L:List α):Prop:=
 (v=.l0/\L=[])\/∃ id g off fin cap,v=.l id g off L.length fin cap/\off+L.length*n<=fin/\B.val id<B.val h.next/\Row h id g off (L.flatMap c)
section
variable {α:Type} [Inhabited α] {n:Nat} {c:α->List V}
theorem Ct (hc:∀ e,(c e).length=n):∀ (L:List α),(L.flatMap c).length=L.length*n
 |[]=>by simp
 |a::L=>by rw[List.flatMap_cons,List.length_append,hc,Ct hc L,List.length_cons,Nat.add_mul];omega
theorem Vz (hc:∀ e,(c e).length=n):∀ {L:List α} {i:Nat},i<L.length->((L.flatMap c).drop (i*n)).take n=c (L.getD i default)
 |[],i,h=>by simp at h
 |a::L,0,h=>by
  rw[List.flatMap_cons,Nat.zero_mul,List.drop_zero,List.take_append_of_le_length (by rw[hc];exact Nat.le_refl _),List.take_of_length_le (by rw[hc];exact Nat.le_refl _)];rfl
 |a::L,i+1,h=>by
  have e:(i+1)*n=(c a).length+i*n:=by rw[hc,Nat.add_mul];omega
  rw[List.flatMap_cons,e,<-List.drop_drop,List.drop_left,Vz hc (by simpa using h)]
  simp[List.getD]
theorem Jm (hc:∀ e,(c e).length=n) {L:List α} {i d:Nat} (hi:i<L.length) (hd:d<n):(L.flatMap c)[i*n+d]? =some ((c (L.getD i default)).getD d .u):=by
 have e:(((L.flatMap c).drop (i*n)).take n)[d]? =(c (L.getD i default))[d]? :=by rw[Vz hc hi]
 rw[List.getElem?_take,if_pos hd,List.getElem?_drop]at e
 rw[e]
 have:d<(c (L.getD i default)).length:=by rw[hc];exact hd
 have e3:∀ (x:List V),d<x.length->x[d]? =some (x.getD d .u):=fun x hx=>by simp[List.getD,hx]
 exact e3 _ this
theorem JV (hc:∀ e,(c e).length=n):∀ (L:List α) (k:Nat),(L.take k).flatMap c=(L.flatMap c).take (k*n)
 |[],k=>by simp
 |a::L,0=>by simp
 |a::L,k+1=>by
  have e:(k+1)*n=(c a).length+k*n:=by rw[hc,Nat.add_mul];omega
  have e2:((c a)++L.flatMap c).take ((c a).length+k*n)=c a++(L.flatMap c).take (k*n):=by
   rw[List.take_append,Nat.add_sub_cancel_left,List.take_of_length_le (Nat.le_add_right _ _)]
  rw[List.take_succ_cons,List.flatMap_cons,List.flatMap_cons,JV hc L k,e,e2]
theorem Ov (hc:∀ e,(c e).length=n):∀ (L:List α) (k:Nat),(L.drop k).flatMap c=(L.flatMap c).drop (k*n)
 |[],k=>by simp
 |a::L,0=>by simp
 |a::L,k+1=>by
  rw[List.drop_succ_cons,List.flatMap_cons,Ov hc L k,show(k+1)*n=(c a).length+k*n by rw[hc,Nat.add_mul];omega,<-List.drop_drop,List.drop_left]
variable {P:Program} {h h' g':H} {N:Nx} {v:V} {L:List α} {i d:Nat}
theorem Ss.ln (a:Ss n c h v L):H1 P Lv v g' N=N.go P (.i .i64 (L.length:Int)) g':=by
 rcases a with⟨rfl,rfl⟩|⟨id,g,off,fin,cap,rfl,_⟩
 ·exact PR
 ·exact Rp
theorem Ss.ix (a:Ss n c h v L) (hi:i<L.length):IX P n v i g' N=N.go P (.p (Ft v) (lg v) (Ci v+i*n) (Cm v)) g':=by
 rcases a with⟨rfl,rfl⟩|⟨id,g,off,fin,cap,rfl,_⟩
 ·simp at hi
 ·exact rq hi
theorem Ss.ld (a:Ss n c h v L) (hc:∀ e,(c e).length=n) (hi:i<L.length) (hd:d<n):L1 P (Ft v) (lg v) (Ci v+i*n+d) (Cm v) h N=N.go P ((c (L.getD i default)).getD d .u) h:=by
 rcases a with⟨rfl,rfl⟩|⟨id,g,off,fin,cap,rfl,hf,hl,r⟩
 ·simp at hi
 ·refine Am fun k=>?_
  have:=r.2 (i*n+d) _ (Jm hc hi hd)
  rw[<-Nat.add_assoc]at this
  have h1:(i+1)*n<=L.length*n:=Nat.mul_le_mul_right n hi
  rw[Nat.add_mul]at h1
  exact HQ this (by show off+i*n+d<fin;omega) k
theorem Ss.ldA (a:Ss n c h v L) (hc:∀ e,(c e).length=n) (hn:1<=n) (hi:i<L.length):LN P (Ft v) (lg v) (Ci v+i*n) (Cm v) n h N=N.go P (.a (c (L.getD i default))) h:=by
 rcases a with⟨rfl,rfl⟩|⟨id,g,off,fin,cap,rfl,hf,hl,r⟩
 ·simp at hi
 ·refine Am fun k=>?_
  have h1:(i+1)*n<=L.length*n:=Nat.mul_le_mul_right n hi
  rw[Nat.add_mul]at h1
  have hlen:=hc (L.getD i default)
  refine DB (vs:=c (L.getD i default)) ⟨fun _=>r.1 ?_,fun j y hy=>?_⟩ hlen (by intro e;rw[e]at hlen;simp at hlen;omega) (by show off+i*n+n<=fin;omega) fun vs=>k (.a vs)
  ·intro e
   have h2:=Ct hc L
   rw[e]at h2
   have h3:L.length*n=0:=h2.symm
   omega
  ·have hj:j<n:=by rw[<-hlen];exact(List.getElem?_eq_some_iff.1 hy).1
   have e:=Jm hc hi hj
   rw[List.getD,hy]at e
   have:=r.2 (i*n+j) _ e
   rw[<-Nat.add_assoc]at this
   exact this
theorem Ss.grow (a:Ss n c h v L) (s:AU AO h h'):Ss n c h' v L:=by
 rcases a with⟨rfl,rfl⟩|⟨id,g,off,fin,cap,rfl,hf,hl,r⟩
 ·exact .inl ⟨rfl,rfl⟩
 ·exact .inr ⟨id,g,off,fin,cap,rfl,hf,Nat.lt_of_lt_of_le hl s.next,r.grow s hl⟩
theorem Ss.stay {p:B->Prop} (a:Ss n c h v L) (s:AU p h h') (hp:∀ id,Al v id->¬p id):Ss n c h' v L:=by
 rcases a with⟨rfl,rfl⟩|⟨id,g,off,fin,cap,rfl,hf,hl,r⟩
 ·exact .inl ⟨rfl,rfl⟩
 ·exact .inr ⟨id,g,off,fin,cap,rfl,hf,Nat.lt_of_lt_of_le hl s.next,r.stay s hl (hp id ⟨_,_,_,_,_,rfl⟩)⟩
theorem Ss.nil:Ss n c h .l0 ([]:List α):=.inl ⟨rfl,rfl⟩
/--of a literal -/
theorem Ss.lit {id:B} {xs:List V} {cap:Option Nat} {len fin:Nat} (o:DA h id xs) (e:xs=L.flatMap c) (hc:∀ e,(c e).length=n) (hl:len=L.length) (hf:L.length*n<=fin):Ss n c h (.l id 0 0 len fin cap) L:=by
 subst hl;subst e
 have r:=o.row
 obtain⟨Ao,h1,h2,h3,h4,h5,h6,h7⟩:=o
 exact .inr ⟨id,0,0,fin,cap,rfl,by omega,h6,r⟩
/--of a row that grew -/
theorem Ss.buf {el:Nat} {xs:List V} (b:FN h el n v xs) (e:xs=L.flatMap c) (hc:∀ e,(c e).length=n) (hn:1<=n):Ss n c h v L:=by
 subst e
 rcases b with⟨rfl,he⟩|⟨id,g,m,Ao,rfl,h1,h2,h3,h4,h5,h6,h7,h8,h9,h10⟩
 ·refine .inl ⟨rfl,?_⟩
  cases L with
  |nil=>rfl
  |cons a L=>
   have:=Ct hc (a::L)
   rw[he]at this
   have h3:(L.length+1)*n=0:=this.symm
   rw[Nat.add_mul]at h3;omega
 ·have hm:m=L.length:=by
   rw[Ct hc]at h2
   exact(Nat.eq_of_mul_eq_mul_right (by omega) h2).symm
  subst hm
  refine .inr ⟨id,g,0,(L.flatMap c).length,none,rfl,by rw[Ct hc];omega,h4,fun _=>⟨Ao,h5,h6.1⟩,fun i y hy=>?_⟩
  unfold Ev.cell GZ
  rw[h5]
  show(if Ao.min<=g then Ao.cells.BN (0+i)else none)=_
  rw[if_pos h6.1,Nat.zero_add]
  exact h10 i y hy
/--a slice whose end is where it should be -/
def WH (n:Nat) (v:V):Prop:=v=.l0\/∃ id g off m fin cap,v=.l id g off m fin cap/\match cap with
 |some c=>m<=c/\(18446744073709551616<=c->m=0)
 |none=>fin=off+m*n
theorem Qi {n off k L:Nat}:match GV n k L with
 |some c=>k<=c/\(18446744073709551616<=c->k=0)
 |none=>off+k*n=off+k*n:=by
 cases k with
 |zero=>(cases L with|zero=>exact rfl|succ L=>exact⟨Nat.zero_le _,fun _=>rfl⟩)
 |succ k=>exact rfl
theorem Jf {id:B} {g off k:Nat} (hc:∀ e,(c e).length=n) (r:Row h id g off (L.flatMap c)):Row h id g off ((L.take k).flatMap c):=by
 rw[JV hc]
 refine⟨fun hne=>r.1 fun e=>hne (by rw[e];simp),fun i y hy=>r.2 i y ?_⟩
 rw[List.getElem?_take]at hy
 split at hy
 ·exact hy
 ·cases hy
theorem Nt {id:B} {g off k:Nat} (hc:∀ e,(c e).length=n) (r:Row h id g off (L.flatMap c)):Row h id g (off+k*n) ((L.drop k).flatMap c):=by
 rw[Ov hc]
 refine⟨fun hne=>r.1 fun e=>hne (by rw[e];simp),fun i y hy=>?_⟩
 rw[List.getElem?_drop]at hy
 have:=r.2 _ y hy
 rwa [<-Nat.add_assoc]at this
theorem Ss.hi {kd:IntKind} {k:Nat} (a:Ss n c h v L) (hc:∀ e,(c e).length=n) (w:WH n v) (hk:k<=L.length):∃ u,Ss n c h u (L.take k)/\WH n u/\∀ (g:H) (N:Nx),H2 P (FR n) v (.i kd (k:Int)) g N=N.go P u g:=by
 have e0:Nat.ble 0 k=true:=by rw[Nat.ble_eq];omega
 have hkn:k*n<=L.length*n:=Nat.mul_le_mul_right n hk
 have htk:(L.take k).length=k:=by rw[List.length_take];omega
 rcases a with⟨rfl,rfl⟩|⟨id,g,off,fin,cap,rfl,h2,h3,r⟩
 ·have:k=0:=by simpa using hk
  subst this
  exact⟨.l0,.inl ⟨rfl,by simp⟩,.inl rfl,fun g N=>Am fun k=>rfl⟩
 rcases w with e|⟨id',g',off',n',fin',cap',e,hw⟩
 ·cases e
 cases e
 cases cap with
 |none=>
  have hw:fin=off+L.length*n:=hw
  refine⟨.l id g off k (off+k*n) (GV n k L.length),.inr ⟨id,g,off,off+k*n,GV n k L.length,by rw[htk],by rw[htk];exact Nat.le_refl _,h3,Jf hc r⟩,.inr ⟨_,_,_,_,_,_,rfl,Qi⟩,fun g0 N=>Am fun q=>?_⟩
  have e1:Nat.ble k L.length=true:=by rw[Nat.ble_eq];exact hk
  have e2:Nat.beq fin (Nat.add off (Nat.mul L.length n))=true:=by rw[hw];exact Nat.beq_refl _
  unfold FR
  simp only[C4,Cz,Bd,e0,AH]
  show DG n id g off L.length fin 0 k q=_
  unfold DG
  rw[e1,AH,e2,AH,A5,A5,A5]
  show q (.l id g (off+0*n) (k-0) (off+k*n) (GV n k L.length))=_
  simp
 |some cc=>
  have hw2:18446744073709551616<=cc->L.length=0:=hw.2
  have hw:L.length<=cc:=hw.1
  have e1:Nat.ble k cc=true:=by rw[Nat.ble_eq];omega
  cases hfc:BP cc with
  |true=>
   have hcc:=Gn hfc
   have hx:=hw2 hcc
   have hk0:k=0:=by omega
   subst hk0
   refine⟨.l id g off 0 off (some cc),.inr ⟨id,g,off,off,some cc,by simp,by simp,h3,Jf hc r⟩,.inr ⟨_,_,_,_,_,_,rfl,Nat.zero_le _,fun _=>rfl⟩,fun g0 N=>Am fun q=>?_⟩
   unfold FR
   simp only[C4,Cz,Bd,e0,AH]
   show A3 (BP cc) (fun _=>At (Nat.beq 0 0) fun _=>q (.l id g off 0 off (some cc))) _=_
   rw[hfc];rfl
  |false=>
  have hcM:=Gz hfc
  cases cc with
  |zero=>
   have hx:L.length=0:=by omega
   have hk0:k=0:=by omega
   subst hk0
   refine⟨.l id g off 0 fin (some 0),.inr ⟨id,g,off,fin,some 0,by simp,by simp;omega,h3,Jf hc r⟩,.inr ⟨_,_,_,_,_,_,rfl,Nat.le_refl _,fun _=>rfl⟩,fun g0 N=>Am fun q=>?_⟩
   unfold FR
   simp only[C4,Cz,Bd,e0,AH]
   rfl
  |succ cc=>
   refine⟨.l id g off k fin (some (cc+1)),.inr ⟨id,g,off,fin,some (cc+1),by rw[htk],by rw[htk];omega,h3,Jf hc r⟩,.inr ⟨_,_,_,_,_,_,rfl,by show k<=cc+1;omega,fun h=>absurd hcM (Nat.not_lt.2 h)⟩,fun g0 N=>Am fun q=>?_⟩
   unfold FR
   simp only[C4,Cz,Bd,e0,AH]
   show A3 (BP (cc+1)) _ (fun _=>BY n id g off L.length fin (cc+1) 0 k fun v=>q v)=_
   rw[hfc,BE,D0 hcM (by omega) (by omega)]
   simp
theorem Ss.LS {kd kd':IntKind} {j k:Nat} (a:Ss n c h v L) (hc:∀ e,(c e).length=n) (w:WH n v) (hj:j<=k) (hk:k<=L.length):∃ u,Ss n c h u ((L.take k).drop j)/\WH n u/\∀ (g:H) (N:Nx),H3 P (Iz n) v (.i kd (j:Int)) (.i kd' (k:Int)) g N=N.go P u g:=by
 have e0:Nat.ble j k=true:=by rw[Nat.ble_eq];omega
 have hkn:k*n<=L.length*n:=Nat.mul_le_mul_right n hk
 have hjn:j*n+(k-j)*n=k*n:=by rw[<-Nat.add_mul];congr 1;omega
 have htk:((L.take k).drop j).length=k-j:=by rw[List.length_drop,List.length_take];omega
 rcases a with⟨rfl,rfl⟩|⟨id,g,off,fin,cap,rfl,h2,h3,r⟩
 ·obtain rfl:k=0:=by simpa using hk
  obtain rfl:j=0:=by omega
  exact⟨.l0,.inl ⟨rfl,by simp⟩,.inl rfl,fun g N=>Am fun k=>rfl⟩
 rcases w with e|⟨id',g',off',n',fin',cap',e,hw⟩
 ·cases e
 cases e
 have hr:=Nt hc (Jf (k:=k) hc r) (k:=j)
 cases cap with
 |none=>
  have hw:fin=off+L.length*n:=hw
  refine⟨.l id g (off+j*n) (k-j) (off+k*n) (GV n k L.length),.inr ⟨id,g,off+j*n,off+k*n,GV n k L.length,by rw[htk],by rw[htk];omega,h3,hr⟩,.inr ⟨_,_,_,_,_,_,rfl,?_⟩,fun g0 N=>Am fun q=>?_⟩
  ·cases hk0:k with
   |zero=>(cases L.length with|zero=>(show _=_;rw[hk0]at hjn;omega)|succ l=>exact⟨by omega,fun _=>by omega⟩)
   |succ m=>(show _=_;rw[<-hk0];omega)
  have e1:Nat.ble k L.length=true:=by rw[Nat.ble_eq];exact hk
  have e2:Nat.beq fin (Nat.add off (Nat.mul L.length n))=true:=by rw[hw];exact Nat.beq_refl _
  unfold Iz
  simp only[C4,Cz,Bd,e0,AH]
  show DG n id g off L.length fin j k q=_
  unfold DG
  rw[e1,AH,e2,AH,A5,A5,A5]
  rfl
 |some cc=>
  have hw2:18446744073709551616<=cc->L.length=0:=hw.2
  have hw:L.length<=cc:=hw.1
  cases hfc:BP cc with
  |true=>
   have hcc:=Gn hfc
   have hx:=hw2 hcc
   obtain rfl:k=0:=by omega
   obtain rfl:j=0:=by omega
   refine⟨.l id g off 0 off (some cc),.inr ⟨id,g,off,off,some cc,by simp,by simp,h3,?_⟩,.inr ⟨_,_,_,_,_,_,rfl,Nat.zero_le _,fun _=>rfl⟩,fun g0 N=>Am fun q=>?_⟩
   ·simpa using hr
   unfold Iz
   simp only[C4,Cz,Bd,e0,AH]
   show A3 (BP cc) (fun _=>At (Nat.beq 0 0) fun _=>q (.l id g off 0 off (some cc))) _=_
   rw[hfc];rfl
  |false=>
  have hcM:=Gz hfc
  by_cases hjc:j=cc
  ·have hx:k=j:=by omega
   refine⟨.l id g off 0 fin (some 0),.inr ⟨id,g,off,fin,some 0,by rw[htk,hx];simp,by rw[htk,hx];simp;omega,h3,?_⟩,.inr ⟨_,_,_,_,_,_,rfl,Nat.le_refl _,fun _=>rfl⟩,fun g0 N=>Am fun q=>?_⟩
   ·rw[List.drop_eq_nil_of_le (by rw[List.length_take];omega)]
    exact⟨fun hne=>absurd rfl hne,fun i v hv=>by simp at hv⟩
   ·unfold Iz
    simp only[C4,Cz,Bd,e0,AH]
    show A3 (BP cc) _ (fun _=>BY n id g off L.length fin cc j k fun v=>q v)=_
    rw[hfc,BE]
    have eM:Nat.ble (Nat.succ cc) 18446744073709551616=true:=by rw[Nat.ble_eq];exact hcM
    have e1:Nat.ble k cc=true:=by rw[Nat.ble_eq];omega
    unfold BY
    rw[eM,AH]
    have e2:Nat.beq j cc=true:=by rw[hjc];exact Nat.beq_refl _
    rw[e1,AH,e2];rfl
  ·refine⟨.l id g (off+j*n) (k-j) fin (some (cc-j)),.inr ⟨id,g,off+j*n,fin,some (cc-j),by rw[htk],by rw[htk];omega,h3,hr⟩,.inr ⟨_,_,_,_,_,_,rfl,by show k-j<=cc-j;omega,fun h=>absurd hcM (by omega)⟩,fun g0 N=>Am fun q=>?_⟩
   unfold Iz
   simp only[C4,Cz,Bd,e0,AH]
   show A3 (BP cc) _ (fun _=>BY n id g off L.length fin cc j k fun v=>q v)=_
   rw[hfc,BE,D0 hcM (by omega) (by omega)]
theorem Ss.lo {kd:IntKind} {k:Nat} (a:Ss n c h v L) (hc:∀ e,(c e).length=n) (w:WH n v) (hk:k<=L.length):∃ u,Ss n c h u (L.drop k)/\WH n u/\∀ (g:H) (N:Nx),H2 P (FB n) v (.i kd (k:Int)) g N=N.go P u g:=by
 have e0:Nat.ble k L.length=true:=by rw[Nat.ble_eq];omega
 have hkn:k*n+(L.length-k)*n=L.length*n:=by rw[<-Nat.add_mul];congr 1;omega
 have htk:(L.drop k).length=L.length-k:=List.length_drop
 rcases a with⟨rfl,rfl⟩|⟨id,g,off,fin,cap,rfl,h2,h3,r⟩
 ·have:k=0:=by simpa using hk
  subst this
  exact⟨.l0,.inl ⟨rfl,by simp⟩,.inl rfl,fun g N=>Am fun k=>rfl⟩
 rcases w with e|⟨id',g',off',n',fin',cap',e,hw⟩
 ·cases e
 cases e
 cases cap with
 |none=>
  have hw:fin=off+L.length*n:=hw
  refine⟨.l id g (off+k*n) (L.length-k) (off+L.length*n) none,.inr ⟨id,g,off+k*n,off+L.length*n,none,by rw[htk],by rw[htk];omega,h3,Nt hc r⟩,.inr ⟨_,_,_,_,_,_,rfl,by show off+L.length*n=off+k*n+(L.length-k)*n;omega⟩,fun g0 N=>Am fun q=>?_⟩
  have e1:Nat.ble L.length L.length=true:=by rw[Nat.ble_eq];exact Nat.le_refl _
  have e2:Nat.beq fin (Nat.add off (Nat.mul L.length n))=true:=by rw[hw];exact Nat.beq_refl _
  unfold FB
  simp only[C4,Cz,Bd,e0,AH]
  show DG n id g off L.length fin k L.length q=_
  unfold DG
  rw[e1,AH,e2,AH,A5,A5,A5,IT]
  rfl
 |some cc=>
  have hw2:18446744073709551616<=cc->L.length=0:=hw.2
  have hw:L.length<=cc:=hw.1
  have e1:Nat.ble L.length cc=true:=by rw[Nat.ble_eq];omega
  cases hfc:BP cc with
  |true=>
   have hcc:=Gn hfc
   have hx:=hw2 hcc
   have hk0:k=0:=by omega
   subst hk0
   refine⟨.l id g off 0 off (some cc),.inr ⟨id,g,off,off,some cc,by rw[htk,hx],by rw[htk,hx];simp,h3,?_⟩,.inr ⟨_,_,_,_,_,_,rfl,Nat.zero_le _,fun _=>rfl⟩,fun g0 N=>Am fun q=>?_⟩
   ·rw[List.drop_eq_nil_of_le (by omega)]
    exact⟨fun hne=>absurd rfl hne,fun i v hv=>by simp at hv⟩
   ·unfold FB
    simp only[C4,Cz,Bd,e0,AH]
    show A3 (BP cc) (fun _=>At (Nat.beq L.length 0) fun _=>q (.l id g off 0 off (some cc))) _=_
    rw[hfc,hx];rfl
  |false=>
  have hcM:=Gz hfc
  have eM:Nat.ble (Nat.succ cc) 18446744073709551616=true:=by rw[Nat.ble_eq];exact hcM
  by_cases hkc:k=cc
  ·have hx:L.length=k:=by omega
   refine⟨.l id g off 0 fin (some 0),.inr ⟨id,g,off,fin,some 0,by rw[htk,hx];simp,by rw[htk,hx];simp;omega,h3,?_⟩,.inr ⟨_,_,_,_,_,_,rfl,Nat.le_refl _,fun _=>rfl⟩,fun g0 N=>Am fun q=>?_⟩
   ·rw[List.drop_eq_nil_of_le (by omega)]
    exact⟨fun hne=>absurd rfl hne,fun i v hv=>by simp at hv⟩
   ·unfold FB
    simp only[C4,Cz,Bd,e0,AH]
    show A3 (BP cc) _ (fun _=>BY n id g off L.length fin cc k L.length fun v=>q v)=_
    rw[hfc,BE]
    unfold BY
    rw[eM,AH]
    have e2:Nat.beq k cc=true:=by rw[hkc];exact Nat.beq_refl _
    rw[e1,AH,e2];rfl
  ·refine⟨.l id g (off+k*n) (L.length-k) fin (some (cc-k)),.inr ⟨id,g,off+k*n,fin,some (cc-k),by rw[htk],by rw[htk];omega,h3,Nt hc r⟩,.inr ⟨_,_,_,_,_,_,rfl,by show L.length-k<=cc-k;omega,fun h=>absurd hcM (by omega)⟩,fun g0 N=>Am fun q=>?_⟩
   unfold FB
   simp only[C4,Cz,Bd,e0,AH]
   show A3 (BP cc) _ (fun _=>BY n id g off L.length fin cc k L.length fun v=>q v)=_
   rw[hfc,BE,D0 hcM (by omega) (by omega)]
/--the cells that are appended -/
theorem KF (a:Ss n c h v L) (hc:∀ e,(c e).length=n) (hn:1<=n) (k:Nat->List V->Bool):DL n v h k=k L.length (L.flatMap c):=by
 rcases a with⟨rfl,rfl⟩|⟨id,g,off,fin,cap,rfl,hf,hl,r⟩
 ·rfl
 ·have hlen:=Ct hc L
  cases hm:L.length with
  |zero=>
   have:L=[]:=List.eq_nil_of_length_eq_zero hm
   subst this;rfl
  |succ m=>
   rw[hm]at hlen hf
   show Bk h id g off fin (Nat.mul (m+1) n) (fun vs=>k (m+1) vs)=_
   have hne:L.flatMap c≠[]:=by
    intro e;rw[e]at hlen
    have h3:(m+1)*n=0:=hlen.symm
    rw[Nat.add_mul]at h3;omega
   rw[show Nat.mul (m+1) n=(L.flatMap c).length by rw[hlen];rfl,DB r rfl hne (by rw[hlen];omega)]
/--append([]T{e},l...) -/
theorem AP.lit {id:B} {cs:List V} {el:Nat} (o:DA h id cs) (hcs:cs.length=n) (hn:1<=n) (hc:∀ e,(c e).length=n) (a:Ss n c h v L) (hf:B.val h.floor<=B.val h.next) (hb:(1+L.length)*n<=1048576)
 (k0:L=[]->N.go P (.l id 0 0 1 n (some 1)) h)
 (k1:∀ v' h',L≠[]->FN h' el n v' (cs++L.flatMap c)->NY h' v'->AU AO h h'->(∀ i,Al v' i->B.val h.next<=B.val i)->N.go P v' h'):AP P el n (.l id 0 0 1 n (some 1)) v h N:=by
 have hlen:=Ct hc L
 cases hm:L.length with
 |zero=>
  have:L=[]:=List.eq_nil_of_length_eq_zero hm
  subst this
  refine Da (v:=.l id 0 0 1 n (some 1)) (h':=h) (fun k=>?_) (k0 rfl)
  rw[KF a hc hn];rfl
 |succ m=>
  have hne:L≠[]:=by intro e;rw[e]at hm;simp at hm
  have hb1:1+L.length<=1048576:=by
   have:=Nat.mul_le_mul_left (1+L.length) hn
   omega
  have AX:(1+L.length)*n=n+L.length*n:=by rw[Nat.add_mul];omega
  obtain⟨h',a1,a2,a3,Ao,b1,b2,b3,b4,b5,b6,b7⟩:=DY el (cs++L.flatMap c) h (by rw[List.length_append];omega)
  refine Da (v:=.l h.next 0 0 (1+L.length) ((1+L.length)*n) none) (h':=h') (fun k=>?_) (k1 _ h' hne ?_ ?_ a2 ?_)
  ·rw[KF a hc hn]
   show A3 (Nat.ble (Nat.add 1 L.length) 1) (fun _=>GA id 0 0 1 n 1 n L.length (L.flatMap c) h k) (fun _=>D8 el id 0 0 1 n n L.length (L.flatMap c) h k)=_
   have e1:Nat.ble (Nat.add 1 L.length) 1=false:=by
    cases hx:Nat.ble (Nat.add 1 L.length) 1 with
    |false=>rfl
    |true=>have:=Nat.le_of_ble_eq_true hx;have h2:1+L.length<=1:=this;omega
   rw[e1]
   show D8 el id 0 0 1 n n L.length (L.flatMap c) h k=_
   unfold D8
   have e2:Nat.ble (Nat.add 1 L.length) 1048576=true:=by rw[Nat.ble_eq];exact hb1
   rw[e2,AH,show Nat.mul 1 n=cs.length by rw[hcs];show 1*n=n;omega,Ks (by omega),DB o.row rfl (by intro e;rw[e]at hcs;simp at hcs;omega) (by omega),De,a1,A5,A5]
   rfl
  ·refine .inr ⟨h.next,0,1+L.length,Ao,by rw[List.length_append,hlen,hcs,<-AX],by omega,by rw[List.length_append,hlen,hcs,<-AX],by rw[a2.floor];exact hf,by omega,b1,⟨by omega,by omega⟩,b4,b5,b6,b7⟩
  ·intro id' g off m' fin cap e
   cases e
   exact⟨Ao,b1,b3⟩
  ·rintro i ⟨g,off,m',fin,cap,e⟩
   cases e;exact Nat.le_refl _
end
end Go.Ev
namespace Go.Ev
open Go Go.RowKit Go.WideShapes Go.ChangeShapes Go.ChangeAt Go.Deep
section
variable {H':Type} {enc:TypeId×Value->H'} {P:Program}
inductive Kd where
 |i (k:IntKind)
 |s
 |b
def Kd.ok (P:Program) (k:Kd) (t:TypeId):Prop:=match k with
 |.i k=>P.underlying t=some (.int k)
 |.s=>P.underlying t=some .string
 |.b=>P.underlying t=some .bool
def Sd (P:Program) (l:List Field):Nat->List Kd->Prop
 |_,[]=>True
 |n,k::ks=>(∃ f,l[n]? =some f/\f.offset=n/\P.cellsOf f.type=1/\k.ok P f.type)/\Sd P l (n+1) ks
/--a struct whose fields are numbers,texts,bools -/
structure RL (P:Program) (t:TypeId) (fs:Array Field) (ks:List Kd):Prop where
 ut:P.underlying t=some (.struct fs)
 sz:P.cellsOf t=ks.length
 fld:Sd P fs.toList 0 ks
def Kd.fit (k:Kd) (c:Value):Prop:=match k with
 |.i k=>∃ n,c=.int k n/\(Lit.int k n).wf=true
 |.s=>∃ s:ByteArray,c=.string s/\s.size<=maxLen
 |.b=>∃ q,c=.bool q
def Fits:List Kd->List Value->Prop
 |[],cs=>cs=[]
 |k::ks,cs=>∃ c r,cs=c::r/\k.fit c/\Fits ks r
theorem Ph {W:World} {t:TypeId} {fs:Array Field} {ks:List Kd} {fuel:Nat} {cs:List Value} {x:DataW H'×List MemPlace} (F:RL P t fs ks) (hd:DataW.trod enc P W 0 (fun _=>true) true fuel t cs=some x):Fits ks cs:=by
 have hf:cs.length=ks.length/\∀ (i:Nat) f,fs.toList[i]? =some f->∃ n y,DataW.trod enc P W 0 (fun _=>true) true n f.type ((cs.drop f.offset).take (P.cellsOf f.type))=some y:=by
  cases fuel with
  |zero=>simp[DataW.trod]at hd
  |succ n=>
   unfold DataW.trod at hd
   rw[F.ut]at hd
   simp only at hd
   split at hd
   ·rename_i hl
    refine⟨hl.trans F.sz,fun i f hf=>?_⟩
    rw[Option.map_eq_some_iff]at hd
    obtain⟨xs,hx,_⟩:=hd
    have:=mapM_some_get hx i f hf
    have hlen:=mapM_some_length hx
    have hi:i<xs.length:=by rw[hlen];exact(List.getElem?_eq_some_iff.1 hf).1
    exact⟨n,xs[i],by rw[this];simp⟩
   ·cases hd
 obtain⟨hl,hf⟩:=hf
 have go:∀ (ks:List Kd) (n:Nat),Sd P fs.toList n ks->cs.length=n+ks.length->Fits ks (cs.drop n):=by
  intro ks
  induction ks with
  |nil=>intro n _ e;exact List.drop_eq_nil_of_le (by rw[e];exact Nat.le_refl _)
  |cons k ks ih=>
   rintro n ⟨⟨f,g,o,c,u⟩,hr⟩ e
   have hlt:n<cs.length:=by rw[e,List.length_cons];omega
   have hc:cs.drop n=cs[n]::cs.drop (n+1):=List.drop_eq_getElem_cons hlt
   obtain⟨m,y,h⟩:=hf n f g
   rw[o,c,hc]at h
   refine⟨cs[n],cs.drop (n+1),hc,?_,ih (n+1) hr (by rw[e,List.length_cons];omega)⟩
   cases k with
   |i kd=>
    obtain⟨z,e1,_,z1⟩:=DataW.trod_int u h
    exact⟨z,(List.cons.inj e1).1,z1⟩
   |s=>
    obtain⟨z,e1,_,z1⟩:=DataW.trod_string u h
    exact⟨z,(List.cons.inj e1).1,z1⟩
   |b=>
    obtain⟨z,e1,_⟩:=DataW.trod_bool u h
    exact⟨z,(List.cons.inj e1).1⟩
 have:=go ks 0 F.fld (by rw[hl,Nat.zero_add])
 rwa [List.drop_zero]at this
theorem Mc (W:World) (k:IntKind) (n:Int):Cs W (.int k n)=.i k n:=by unfold Cs;rfl
/--a row of structs:c tells a struct's cells -/
theorem O1 {α:Type} [Inhabited α] {c:α->List V} {n:Nat} {Pr:α->Prop} (hc:∀ a,(c a).length=n) (hn:1<=n) {W:World} {h:H} (s:Start W h) (h0:0<W.heap.size) {t e:TypeId} {fuel:Nat} {cs:List Value} {x:DataW H'×List MemPlace}
 (ht:P.underlying t=some (.slice e)) (sz:P.cellsOf e=n) (cell:∀ (fuel:Nat) (cs:List Value) (x:DataW H'×List MemPlace),DataW.trod enc P W 0 (fun _=>true) true fuel e cs=some x->∃ a,cs.map (Cs W)=c a/\Pr a)
 (hd:DataW.trod enc P W 0 (fun _=>true) true fuel t cs=some x):∃ sv L,cs=[sv]/\Ss n c h (Cs W sv) L/\L.length<=9223372036854775807/\∀ a∈L,Pr a:=by
 rcases open_slice ht hd with⟨rfl,_⟩|⟨a,len,cap,m,nn,D,Pl,rfl,hb,hl,hm,hmm,_,hx⟩
 ·exact⟨_,[],rfl,.inl ⟨rfl,rfl⟩,by simp,fun e he=>by cases he⟩
 simp only[if_true]at hmm
 rw[sz]at hx
 have hx':∀ i,i<len->∃ E:α×List Value,E.2.map (Cs W)=c E.1/\Pr E.1/\(∀ d y,E.2[d]? =some y->W.cell? ⟨a.block,a.off+i*n+d,none⟩=some y)/\(0<len->a.spot=none):=by
  intro i hi
  obtain⟨cs',h1,h2⟩:=hx i (by omega)
  obtain⟨z,e1,e2⟩:=cell _ _ _ h2
  have hlen':cs'.length=n:=by have:=congrArg List.length e1;rwa [List.length_map,hc]at this
  obtain⟨_,_,h3⟩:=World.cells?_some h1
  refine⟨(z,cs'),e1,e2,fun d y hy=>?_,fun _=>?_⟩
  ·have hd:d<n:=by have:d<cs'.length:=(List.getElem?_eq_some_iff.1 hy).1;omega
   have hy:cs'[d]? =some y:=hy
   have h4:=h3 d hd
   rw[hy]at h4
   have h5:=NU h4
   have e1:(a.add (i*n)).block=a.block:=by unfold Addr.add;split<;>rfl
   have e2:(a.add (i*n)).off=a.off+i*n:=by
    unfold Addr.add;split
    ·rename_i hz;rw[hz];rfl
    ·rfl
   rw[e1,e2]at h5
   exact h5
  ·obtain⟨cs0,g1,g2⟩:=hx 0 (by omega)
   obtain⟨z0,e3,_⟩:=cell _ _ _ g2
   have hl0:cs0.length=n:=by have:=congrArg List.length e3;rwa [List.length_map,hc]at this
   obtain⟨_,_,g3⟩:=World.cells?_some g1
   have g4:=g3 0 (by omega)
   rw[List.getElem?_eq_getElem (by omega)]at g4
   have g5:=World.cell?_spot g4
   unfold Addr.add at g5
   simpa using g5
 haveI:Inhabited (α×List Value):=⟨(default,[])⟩
 obtain⟨E,hE⟩:=choose_lt (α:=α×List Value) (p:=fun i r=>r.2.map (Cs W)=c r.1/\Pr r.1/\(∀ d y,r.2[d]? =some y->W.cell? ⟨a.block,a.off+i*n+d,none⟩=some y)/\(0<len->a.spot=none)) hx'
 have hL:((List.range len).map fun i=>(E i).1).length=len:=by simp
 refine⟨_,(List.range len).map fun i=>(E i).1,rfl,?_,by rw[hL];exact LG (by omega),fun e he=>?_⟩
 ·obtain⟨b,off,spot⟩:=a
  cases len with
  |zero=>
   have e:Cs W (.slice (some ⟨b,off,spot⟩) 0 cap)=.l (nb 0) 0 0 0 0 none:=by unfold Cs;simp only[if_pos h0]
   rw[e]
   exact .inr ⟨nb 0,0,0,0,none,rfl,by simp,(s.Ao 0 h0).1,fun hne=>absurd rfl hne,fun i v hv=>by simp at hv⟩
  |succ m=>
   have hs':spot=none:=(hE 0 (by omega)).2.2.2 (by omega)
   subst hs'
   have hcell:∀ i,i<m+1->∀ d y,(E i).2[d]? =some y->b<W.heap.size/\off+i*n+d<JX W b/\(∃ Ao,h.heap.get (nb b)=some Ao/\Ao.min<=0)/\Ev.cell h (nb b) 0 (off+i*n+d)=some (Cs W y):=
    fun i hi d y hy=>s.cell ((hE i hi).2.2.1 d y hy)
   have hEl:∀ i,i<m+1->(E i).2.length=n:=fun i hi=>by have:=congrArg List.length (hE i hi).1;rwa [List.length_map,hc]at this
   obtain⟨d1,d2,d3,d4⟩:=hcell m (by omega) (n-1) _ (List.getElem?_eq_getElem (by rw[hEl m (by omega)];omega))
   have e:Cs W (.slice (some ⟨b,off,none⟩) (m+1) cap)=.l (nb b) 0 off (m+1) (JX W b) (some cap):=by unfold Cs;simp only[if_pos (⟨d1,hl,Nat.lt_of_le_of_lt hm LQ⟩:b<W.heap.size/\m+1<=cap/\cap<18446744073709551616)]
   rw[e]
   have hmul:(m+1)*n=m*n+n:=by rw[Nat.add_mul,Nat.one_mul]
   refine .inr ⟨nb b,0,off,JX W b,some cap,by rw[hL],by rw[hL,hmul];omega,(s.Ao b d1).1,fun _=>d3,fun j v hv=>?_⟩
   have hj:j<(((List.range (m+1)).map fun i=>(E i).1).flatMap c).length:=(List.getElem?_eq_some_iff.1 hv).1
   rw[Ct hc,hL]at hj
   obtain⟨i,d,rfl,hd,hi⟩:∃ i d,j=i*n+d/\d<n/\i<m+1:=⟨j/n,j%n,by rw[Nat.mul_comm];exact(Nat.div_add_mod j n).symm,Nat.mod_lt _ (by omega),Nat.div_lt_of_lt_mul (by rw[Nat.mul_comm];exact hj)⟩
   rw[Jm hc (by rw[hL];exact hi) hd]at hv
   have hG:((List.range (m+1)).map fun i=>(E i).1).getD i default=(E i).1:=by simp[List.getD,hi]
   have hy:(E i).2[d]? =some ((E i).2[d]'(by rw[hEl i hi];exact hd)):=List.getElem?_eq_getElem _
   generalize (E i).2[d]'(by rw[hEl i hi];exact hd)=y at hy
   rw[hG,<-(hE i hi).1]at hv
   have:((E i).2.map (Cs W)).getD d .u=Cs W y:=by simp[List.getD,hy]
   rw[this]at hv
   cases hv
   rw[<-Nat.add_assoc]
   exact(hcell i hi d y hy).2.2.2
 ·obtain⟨i,hi,rfl⟩:=List.mem_map.1 he
  rw[List.mem_range]at hi
  exact(hE i hi).2.1
end
end Go.Ev
set_option maxRecDepth 1000000
namespace Go.Proofs.Ytobfgempjekjpaa
open Go Go.Ev
abbrev pA:CC:=(CC.seq (CC.region [(wB 2 (AA (O.c V.l0)))]) CC.ret)
abbrev mr:CC:=(CC.cond (tm 4) pA CC.skip)
abbrev uT:CC:=(CC.seq (CC.region [(wB 3 (AA (tm 0))),(wB 4 (JA U8 Bool.false (tm 3) (O.c V.l0)))]) mr)
abbrev wo:CC:=(CC.seq (CC.region [(wB 5 (Aj 57 0 [] [])),(wB 6 (AA (tm 0))),(wB 7 (BL 57 5 (tm 5) (tm 6))),(wB 2 (AA (tm 7)))]) CC.ret)
abbrev td:CC:=(CC.seq uT wo)
abbrev b48:CC:=(CC.seq (CC.region [(wB 2 (AA (O.c V.l0)))]) td)
theorem c48:AY Try.prog 48=⟨8,b48,[(Rs.tmp (AT 2))]⟩:=by kernel_rfl
abbrev yC:CC:=(CC.seq (CC.region [(wB 13 (AA (tm 0))),(wB 4 (AA (tm 13)))]) CC.ret)
abbrev xT:CC:=(CC.cond (tm 12) yC CC.skip)
abbrev yb:CC:=(CC.seq (CC.region [(wB 11 (AA (tm 5))),(wB 12 (AM DR (tm 11) (O.c (V.i IntKind.i64 (Int.negSucc 0)))))]) xT)
abbrev uc:CC:=(CC.cond (tm 19) CC.skip (CC.exit 0))
abbrev zU:CC:=(CC.seq (CC.region [(wB 16 (AA (tm 6))),(wB 17 (AA (tm 0))),(wB 18 (A9 (tm 17))),(wB 19 (AM BV (tm 16) (tm 18)))]) uc)
abbrev x6:CC:=(CC.region [(wB 34 (AA (tm 5))),(wB 35 (AM A4 (tm 34) (oN 1))),(wB 5 (AA (tm 35)))])
abbrev oQ:CC:=(CC.seq (CC.region [(wB 30 (AA (tm 0))),(wB 31 (AA (tm 5))),(wB 32 (AR 5 (tm 7))),(wB 33 (AG 5 (tm 30) (tm 31))),(CO.mk G.none D.none Bool.true (CR.mk (Af 5 (tm 33) (tm 32))))]) x6)
abbrev sA:CC:=(CC.cond (tm 29) oQ CC.skip)
abbrev jj:CC:=(CC.seq (CC.region [(wB 26 (AA (tm 1))),(wB 27 (AR 5 (tm 7))),(wB 28 (Bg (tm 26) [(tm 27)])),(wB 29 (Bz (tm 28)))]) sA)
abbrev yP:CC:=(CC.seq (CC.region [(wB 22 (AA (tm 0))),(wB 23 (AA (tm 6))),(wB 24 (AG 5 (tm 22) (tm 23))),(wB 25 (AR 5 (tm 24))),(wB 7 (Bw 57 [(V.i IntKind.i64 (Int.ofNat 0)),(V.i IntKind.i64 (Int.ofNat 0)),(V.s 0 0),(V.s 0 0),(V.i IntKind.i64 (Int.ofNat 0))])),(CO.mk G.none D.none Bool.true (CR.mk (Af 5 (tm 7) (tm 25))))]) jj)
abbrev cB:CC:=(CC.block 1 yP)
abbrev XV:CC:=(CC.region [(wB 20 (AA (tm 6))),(wB 21 (AM A4 (tm 20) (oN 1))),(wB 6 (AA (tm 21)))])
abbrev eA:CC:=(CC.seq cB XV)
abbrev wX:CC:=(CC.seq zU eA)
abbrev Zz:CC:=(CC.loop wX)
abbrev gA:CC:=(CC.block 0 Zz)
abbrev aa:CC:=(CC.seq (CC.region [(wB 14 (AA (tm 5))),(wB 15 (AM A4 (tm 14) (oN 1))),(wB 6 (AA (tm 15)))]) gA)
abbrev fe:CC:=(CC.seq (CC.region [(wB 39 (AA (tm 0))),(wB 40 (AA (tm 5))),(wB 41 (B2 5 (tm 39) none (some (tm 40)))),(wB 4 (AA (tm 41)))]) CC.ret)
abbrev dU:CC:=(CC.seq (CC.region [(wB 36 (AA (tm 0))),(wB 37 (AA (tm 5))),(wB 38 (B2 5 (tm 36) (some (tm 37)) none)),(CO.mk G.none D.none Bool.true (CR.mk (EC [(V.i IntKind.i64 (Int.ofNat 0)),(V.i IntKind.i64 (Int.ofNat 0)),(V.s 0 0),(V.s 0 0),(V.i IntKind.i64 (Int.ofNat 0))] (tm 38))))]) fe)
abbrev gC:CC:=(CC.seq aa dU)
abbrev Xf:CC:=(CC.seq yb gC)
abbrev aX:CC:=(CC.seq (CC.region [(wB 8 (AA (tm 0))),(wB 9 (AA (tm 1))),(wB 10 (Ab 72 [(tm 8),(tm 9)])),(wB 5 (AA (tm 10)))]) Xf)
abbrev b59:CC:=(CC.seq (CC.region [(wB 4 (AA (O.c V.l0)))]) aX)
theorem c59:AY Try.prog 59=⟨42,b59,[(Rs.tmp (AT 4))]⟩:=by kernel_rfl
abbrev wV:CC:=(CC.seq (CC.region [(wB 5 (AA (tm 0))),(wB 6 (AA (tm 1))),(wB 7 (Ab 72 [(tm 5),(tm 6)])),(wB 8 (AM Dc (tm 7) (oN 0))),(wB 4 (AA (tm 8)))]) CC.ret)
abbrev b57:CC:=(CC.seq (CC.region [(wB 4 (AA (O.c (V.b Bool.false))))]) wV)
theorem c57:AY Try.prog 57=⟨9,b57,[(Rs.tmp (AT 4))]⟩:=by kernel_rfl
abbrev sP:CC:=(CC.cond (tm 9) CC.skip (CC.exit 0))
abbrev tK:CC:=(CC.seq (CC.region [(wB 17 (AA (tm 5))),(wB 4 (AA (tm 17)))]) CC.ret)
abbrev ku:CC:=(CC.cond (tm 16) tK CC.skip)
abbrev zK:CC:=(CC.seq (CC.region [(wB 11 (AA (tm 1))),(wB 12 (AA (tm 0))),(wB 13 (AA (tm 5))),(wB 14 (AG 5 (tm 12) (tm 13))),(wB 15 (AR 5 (tm 14))),(wB 16 (Bg (tm 11) [(tm 15)]))]) ku)
abbrev rV:CC:=(CC.seq (CC.region [(wB 10 (AA (tm 8))),(wB 5 (AA (tm 10)))]) zK)
abbrev mR:CC:=(CC.block 1 rV)
abbrev pE:CC:=(CC.region [(wB 18 (AM A4 (tm 8) (oN 1))),(wB 8 (AA (tm 18)))])
abbrev kD:CC:=(CC.seq mR pE)
abbrev sL:CC:=(CC.seq sP kD)
abbrev mL:CC:=(CC.seq (CC.region [(wB 9 (AM BV (tm 8) (tm 7)))]) sL)
abbrev wZ:CC:=(CC.loop mL)
abbrev Xs:CC:=(CC.block 0 wZ)
abbrev YC:CC:=(CC.seq (CC.region [(wB 6 (AA (tm 0))),(wB 7 (A9 (tm 6))),(wB 8 (AA (oN 0)))]) Xs)
abbrev gM:CC:=(CC.seq (CC.region [(wB 4 (AA (O.c (V.i IntKind.i64 (Int.negSucc 0)))))]) CC.ret)
abbrev fi:CC:=(CC.seq YC gM)
abbrev b72:CC:=(CC.seq (CC.region [(wB 4 (AA (oN 0)))]) fi)
theorem c72:AY Try.prog 72=⟨19,b72,[(Rs.tmp (AT 4))]⟩:=by kernel_rfl
abbrev uo:CC:=(CC.seq (CC.region [(wB 5 (AA (tm 0))),(wB 6 (AA (tm 1))),(wB 7 (Ab 73 [(tm 5),(tm 6)])),(wB 8 (AM Dc (tm 7) (oN 0))),(wB 4 (AA (tm 8)))]) CC.ret)
abbrev b61:CC:=(CC.seq (CC.region [(wB 4 (AA (O.c (V.b Bool.false))))]) uo)
theorem c61:AY Try.prog 61=⟨9,b61,[(Rs.tmp (AT 4))]⟩:=by kernel_rfl
abbrev u9:CC:=(CC.cond (tm 9) CC.skip (CC.exit 0))
abbrev pC:CC:=(CC.seq (CC.region [(wB 17 (AA (tm 5))),(wB 4 (AA (tm 17)))]) CC.ret)
abbrev jt:CC:=(CC.cond (tm 16) pC CC.skip)
abbrev zL:CC:=(CC.seq (CC.region [(wB 11 (AA (tm 1))),(wB 12 (AA (tm 0))),(wB 13 (AA (tm 5))),(wB 14 (AG 1 (tm 12) (tm 13))),(wB 15 (AK (tm 14))),(wB 16 (AM DR (tm 11) (tm 15)))]) jt)
abbrev vv:CC:=(CC.seq (CC.region [(wB 10 (AA (tm 8))),(wB 5 (AA (tm 10)))]) zL)
abbrev qn:CC:=(CC.block 1 vv)
abbrev rC:CC:=(CC.region [(wB 18 (AM A4 (tm 8) (oN 1))),(wB 8 (AA (tm 18)))])
abbrev xp:CC:=(CC.seq qn rC)
abbrev xq:CC:=(CC.seq u9 xp)
abbrev wD:CC:=(CC.seq (CC.region [(wB 9 (AM BV (tm 8) (tm 7)))]) xq)
abbrev lZ:CC:=(CC.loop wD)
abbrev cF:CC:=(CC.block 0 lZ)
abbrev eB:CC:=(CC.seq (CC.region [(wB 6 (AA (tm 0))),(wB 7 (A9 (tm 6))),(wB 8 (AA (oN 0)))]) cF)
abbrev eU:CC:=(CC.seq (CC.region [(wB 4 (AA (O.c (V.i IntKind.i64 (Int.negSucc 0)))))]) CC.ret)
abbrev eR:CC:=(CC.seq eB eU)
abbrev b73:CC:=(CC.seq (CC.region [(wB 4 (AA (oN 0)))]) eR)
theorem c73:AY Try.prog 73=⟨19,b73,[(Rs.tmp (AT 4))]⟩:=by kernel_rfl
abbrev pQ:CC:=(CC.seq (CC.region [(wB 3 (AA (tm 0))),(wB 4 (Ab 74 [(tm 3)])),(wB 2 (AA (tm 4)))]) CC.ret)
abbrev b62:CC:=(CC.seq (CC.region [(wB 2 (AA (O.c (V.s 0 0))))]) pQ)
theorem c62:AY Try.prog 62=⟨5,b62,[(Rs.tmp (AT 2))]⟩:=by kernel_rfl
abbrev nM:CC:=(CC.seq (CC.region [(wB 2 (AA (O.c (V.s 0 0))))]) CC.ret)
abbrev l8:CC:=(CC.cond (tm 6) nM CC.skip)
abbrev oG:CC:=(CC.seq (CC.region [(wB 4 (AA (tm 0))),(wB 5 (CY (tm 4))),(wB 6 (AM DR (tm 5) (oN 0)))]) l8)
abbrev jm:CC:=(CC.seq (CC.region [(wB 13 (AA (tm 3))),(wB 14 (AG 1 (tm 13) (oN 0))),(wB 15 (AA (tm 3))),(wB 16 (A9 (tm 15))),(wB 17 (HL 5 (tm 14) (tm 16))),(wB 2 (AA (tm 17)))]) CC.ret)
abbrev sU:CC:=(CC.seq (CC.region [(wB 10 (AA (tm 3))),(wB 11 (AA (tm 0))),(wB 12 (Gw (tm 10) (tm 11)))]) jm)
abbrev wE:CC:=(CC.seq (CC.region [(wB 7 (AA (tm 0))),(wB 8 (CY (tm 7))),(wB 9 (DV 5 [(V.i IntKind.u8 (Int.ofNat 0))] (tm 8) (tm 8))),(wB 3 (AA (tm 9)))]) sU)
abbrev vE:CC:=(CC.seq oG wE)
abbrev b74:CC:=(CC.seq (CC.region [(wB 2 (AA (O.c (V.s 0 0))))]) vE)
theorem c74:AY Try.prog 74=⟨18,b74,[(Rs.tmp (AT 2))]⟩:=by kernel_rfl
abbrev om:CC:=(CC.seq (CC.region [(wB 1 (Cx [V.l0,(V.i IntKind.i64 (Int.ofNat 0)),(V.i IntKind.i64 (Int.ofNat 0)),(V.i IntKind.i64 (Int.ofNat 0))] [(Pt.mk 1 1 (oN 1)),(Pt.mk 3 1 (oN 1))])),(wB 2 (Cf 79 (tm 1))),(wB 0 (AA (tm 2)))]) CC.ret)
abbrev b17:CC:=(CC.seq (CC.region [(wB 0 (AA (O.c V.p0)))]) om)
theorem c17:AY Try.prog 17=⟨3,b17,[(Rs.tmp (AT 0))]⟩:=by kernel_rfl
abbrev xU:CC:=(CC.seq (CC.region [(wB 4 (AA (oN 10)))]) CC.ret)
abbrev kI:CC:=(CC.seq (CC.region [(wB 4 (AA (oN 18)))]) CC.ret)
abbrev rK:CC:=(CC.seq (CC.region [(wB 4 (AA (oN 16)))]) CC.ret)
abbrev me:CC:=(CC.cond (tm 17) rK CC.skip)
abbrev mZ:CC:=(CC.seq (CC.region [(wB 18 (AA (tm 0))),(wB 19 (AR 4 (tm 3))),(wB 20 (Ab 43 [(tm 18),(tm 19)])),(wB 17 (AA (tm 20)))]) me)
abbrev yG:CC:=(CC.cond (tm 11) kI mZ)
abbrev xR:CC:=(CC.seq (CC.region [(wB 12 (AA (tm 0))),(wB 13 (AF 0 (tm 3))),(wB 14 (AK (tm 13))),(wB 15 (Ab 42 [(tm 12),(tm 14)])),(wB 16 (Bz (tm 15))),(wB 11 (AA (tm 16)))]) yG)
abbrev xX:CC:=(CC.cond (tm 7) xU xR)
abbrev pS:CC:=(CC.seq (CC.region [(wB 8 (AR 4 (tm 3))),(wB 9 (Ab 31 [(tm 8)])),(wB 10 (Bz (tm 9))),(wB 7 (AA (tm 10)))]) xX)
abbrev zM:CC:=(CC.block 0 pS)
abbrev X0:CC:=(CC.seq (CC.region [(wB 4 (AA (oN 16)))]) CC.ret)
abbrev fj:CC:=(CC.seq (CC.region [(wB 4 (AA (oN 25)))]) CC.ret)
abbrev ZS:CC:=(CC.cond (tm 27) fj CC.skip)
abbrev Wv:CC:=(CC.seq (CC.region [(wB 28 (AA (tm 5))),(wB 29 (A9 (tm 28))),(wB 30 (AM Cj (tm 29) (oN 40))),(wB 27 (AA (tm 30)))]) ZS)
abbrev Wz:CC:=(CC.cond (tm 24) X0 Wv)
abbrev gm:CC:=(CC.seq (CC.region [(wB 25 (AA (tm 5))),(wB 26 (Ab 45 [(tm 25)])),(wB 24 (AA (tm 26)))]) Wz)
abbrev db:CC:=(CC.block 1 gm)
abbrev ft:CC:=(CC.region [(wB 61 (AA (tm 0))),(wB 62 (AF 1 (tm 3))),(wB 63 (AK (tm 62))),(wB 64 (AA (tm 6))),(wB 65 (AG 5 (tm 63) (tm 64))),(wB 66 (AF 0 (tm 65))),(wB 67 (AK (tm 66))),(wB 68 (AM A4 (tm 67) (oN 1))),(wB 69 (AZ (tm 61))),(wB 70 (AF 3 (tm 69))),(CO.mk G.none D.none Bool.true (CR.mk (Af 1 (tm 70) (tm 68))))])
abbrev jM:CC:=(CC.cond (tm 60) ft CC.skip)
abbrev WS:CC:=(CC.seq (CC.region [(wB 59 (AA (tm 6))),(wB 60 (AM Dc (tm 59) (oN 0)))]) jM)
abbrev XD:CC:=(CC.seq (CC.region [(wB 55 (AF 1 (tm 3))),(wB 56 (AK (tm 55))),(wB 57 (A9 (tm 56))),(wB 58 (AM Bp (tm 57) (oN 1))),(wB 6 (AA (tm 58)))]) WS)
abbrev hS:CC:=(CC.seq (CC.region [(wB 4 (AA (oN 0)))]) CC.ret)
abbrev Y6:CC:=(CC.seq XD hS)
abbrev cH:CC:=(CC.seq (CC.Az [(uB 35 (AA (tm 0))),(uB 36 (AA (tm 0))),(uB 37 (AA (tm 0))),(uB 38 (AZ (tm 37))),(uB 39 (AF 1 (tm 38))),(uB 40 (AK (tm 39))),(uB 41 (AF 2 (tm 3))),(uB 42 (AK (tm 41))),(uB 43 (ES (tm 40) (tm 42))),(uB 44 (AA (tm 0))),(uB 45 (AZ (tm 44))),(uB 46 (AF 2 (tm 45))),(uB 47 (AK (tm 46))),(uB 48 (AF 3 (tm 3))),(uB 49 (AK (tm 48))),(uB 50 (ES (tm 47) (tm 49))),(uB 51 (AZ (tm 35))),(uB 52 (AF 1 (tm 51))),(CO.mk G.none D.none Bool.false (CR.mk (Af 1 (tm 52) (tm 43)))),(wB 53 (AZ (tm 36))),(uB 54 (AF 2 (tm 53))),(CO.mk G.none D.none Bool.true (CR.mk (Af 1 (tm 54) (tm 50))))] (some ([18,21],[(3,[0]),(5,[0]),(7,[0]),(10,[0]),(12,[0]),(14,[0,19]),(16,[0]),(19,[19])]))) Y6)
abbrev Y9:CC:=(CC.seq (CC.region [(wB 31 (AA (tm 0))),(wB 32 (AA (tm 5))),(wB 33 (AZ (tm 31))),(wB 34 (AF 0 (tm 33))),(CO.mk G.none D.none Bool.true (CR.mk (Af 1 (tm 34) (tm 32))))]) cH)
abbrev cp:CC:=(CC.seq db Y9)
abbrev Xb:CC:=(CC.seq (CC.region [(wB 21 (AA (tm 0))),(wB 22 (AR 4 (tm 3))),(wB 23 (Ab 44 [(tm 21),(tm 22)])),(wB 5 (AA (tm 23)))]) cp)
abbrev cw:CC:=(CC.seq zM Xb)
abbrev b18:CC:=(CC.seq (CC.region [(wB 3 (Cf 35 (tm 1))),(wB 4 (AA (oN 0)))]) cw)
theorem c18:AY Try.prog 18=⟨71,b18,[(Rs.tmp (AT 4))]⟩:=by kernel_rfl
abbrev kV:CC:=(CC.seq (CC.region [(wB 3 (AA (tm 0))),(wB 4 (AZ (tm 3))),(wB 5 (AF 0 (tm 4))),(wB 6 (AK (tm 5))),(wB 7 (Ab 48 [(tm 6)])),(wB 2 (AA (tm 7)))]) CC.ret)
abbrev b26:CC:=(CC.seq (CC.region [(wB 2 (AA (O.c V.l0)))]) kV)
theorem c26:AY Try.prog 26=⟨8,b26,[(Rs.tmp (AT 2))]⟩:=by kernel_rfl
abbrev rX:CC:=(CC.cond (tm 14) CC.skip (CC.exit 0))
abbrev uR:CC:=(CC.region [(wB 21 (AA (tm 5))),(wB 22 (AR 5 (tm 7))),(wB 23 (Aj 57 1 [(V.i IntKind.i64 (Int.ofNat 0)),(V.i IntKind.i64 (Int.ofNat 0)),(V.s 0 0),(V.s 0 0),(V.i IntKind.i64 (Int.ofNat 0))] [(Pt.mk 0 5 (tm 22))])),(wB 24 (BL 57 5 (tm 21) (tm 23))),(wB 5 (AA (tm 24)))])
abbrev wM:CC:=(CC.cond (tm 20) uR CC.skip)
abbrev uA:CC:=(CC.seq (CC.region [(wB 17 (AF 1 (tm 7))),(wB 18 (AK (tm 17))),(wB 19 (AA (tm 1))),(wB 20 (AM DR (tm 18) (tm 19)))]) wM)
abbrev mY:CC:=(CC.seq (CC.region [(wB 15 (AG 5 (tm 11) (tm 13))),(wB 16 (AR 5 (tm 15))),(wB 7 (Bw 57 [(V.i IntKind.i64 (Int.ofNat 0)),(V.i IntKind.i64 (Int.ofNat 0)),(V.s 0 0),(V.s 0 0),(V.i IntKind.i64 (Int.ofNat 0))])),(CO.mk G.none D.none Bool.true (CR.mk (Af 5 (tm 7) (tm 16))))]) uA)
abbrev xH:CC:=(CC.block 1 mY)
abbrev vk:CC:=(CC.region [(wB 25 (AM A4 (tm 13) (oN 1))),(wB 13 (AA (tm 25)))])
abbrev vj:CC:=(CC.seq xH vk)
abbrev k9:CC:=(CC.seq rX vj)
abbrev rf:CC:=(CC.seq (CC.region [(wB 14 (AM BV (tm 13) (tm 12)))]) k9)
abbrev jr:CC:=(CC.loop rf)
abbrev bL:CC:=(CC.block 0 jr)
abbrev Wj:CC:=(CC.seq (CC.region [(wB 8 (AA (tm 0))),(wB 9 (AZ (tm 8))),(wB 10 (AF 0 (tm 9))),(wB 11 (AK (tm 10))),(wB 12 (A9 (tm 11))),(wB 13 (AA (oN 0)))]) bL)
abbrev ZZ:CC:=(CC.seq (CC.region [(wB 26 (AA (tm 5))),(wB 4 (AA (tm 26)))]) CC.ret)
abbrev ib:CC:=(CC.seq Wj ZZ)
abbrev iM:CC:=(CC.seq (CC.region [(wB 5 (AA (O.c V.l0)))]) ib)
abbrev b25:CC:=(CC.seq (CC.region [(wB 4 (AA (O.c V.l0)))]) iM)
theorem c25:AY Try.prog 25=⟨27,b25,[(Rs.tmp (AT 4))]⟩:=by kernel_rfl
abbrev lW:CC:=(CC.seq (CC.region [(wB 2 (AA (O.c (V.b Bool.false))))]) CC.ret)
abbrev r8:CC:=(CC.cond (tm 14) lW CC.skip)
abbrev wi:CC:=(CC.seq (CC.region [(wB 5 (AF 0 (tm 1))),(wB 6 (AK (tm 5))),(wB 7 (A9 (tm 6))),(wB 8 (AM Cj (tm 7) (oN 40))),(wB 9 (AA (tm 8))),(wG 9 false 10 (AF 1 (tm 1))),(wG 9 false 11 (AK (tm 10))),(wG 9 false 12 (A9 (tm 11))),(wG 9 false 13 (AM Cj (tm 12) (oN 40))),(wB 14 (Ag (tm 9) (O.c (V.b Bool.true)) (tm 13)))]) r8)
abbrev oM:CC:=(CC.cond (tm 19) CC.skip (CC.exit 0))
abbrev zp:CC:=(CC.seq (CC.region [(wB 2 (AA (O.c (V.b Bool.false))))]) CC.ret)
abbrev zS:CC:=(CC.cond (tm 25) zp CC.skip)
abbrev xf:CC:=(CC.seq (CC.region [(wB 23 (AR 5 (tm 4))),(wB 24 (Ab 49 [(tm 23)])),(wB 25 (Bz (tm 24)))]) zS)
abbrev lH:CC:=(CC.seq (CC.region [(wB 2 (AA (O.c (V.b Bool.false))))]) CC.ret)
abbrev lG:CC:=(CC.cond (tm 39) lH CC.skip)
abbrev uv:CC:=(CC.seq (CC.Az [(uB 26 (AA (tm 3))),(uB 27 (AM Cj (tm 26) (oN 0))),(uB 28 (AA (tm 27))),(uG 28 true 29 (AF 1 (tm 1))),(uG 28 true 30 (AK (tm 29))),(uG 28 true 31 (AA (tm 3))),(uG 28 true 32 (AM Bp (tm 31) (oN 1))),(uG 28 true 33 (AG 5 (tm 30) (tm 32))),(uG 28 true 34 (AF 0 (tm 33))),(uG 28 true 35 (AK (tm 34))),(uG 28 true 36 (AF 0 (tm 4))),(uG 28 true 37 (AK (tm 36))),(uG 28 true 38 (AM Dc (tm 35) (tm 37))),(uB 39 (Ag (tm 28) (tm 38) (O.c (V.b Bool.false))))] none) lG)
abbrev Zq:CC:=(CC.seq xf uv)
abbrev XK:CC:=(CC.seq (CC.region [(wB 20 (AA (tm 18))),(wB 21 (AG 5 (tm 16) (tm 18))),(wB 22 (AR 5 (tm 21))),(wB 4 (Bw 57 [(V.i IntKind.i64 (Int.ofNat 0)),(V.i IntKind.i64 (Int.ofNat 0)),(V.s 0 0),(V.s 0 0),(V.i IntKind.i64 (Int.ofNat 0))])),(wB 3 (AA (tm 20))),(CO.mk G.none D.none Bool.true (CR.mk (Af 5 (tm 4) (tm 22))))]) Zq)
abbrev gD:CC:=(CC.block 1 XK)
abbrev ZK:CC:=(CC.region [(wB 40 (AM A4 (tm 18) (oN 1))),(wB 18 (AA (tm 40)))])
abbrev iL:CC:=(CC.seq gD ZK)
abbrev hT:CC:=(CC.seq oM iL)
abbrev mE:CC:=(CC.seq (CC.region [(wB 19 (AM BV (tm 18) (tm 17)))]) hT)
abbrev ZV:CC:=(CC.loop mE)
abbrev YS:CC:=(CC.block 0 ZV)
abbrev dp:CC:=(CC.seq (CC.region [(wB 15 (AF 1 (tm 1))),(wB 16 (AK (tm 15))),(wB 17 (A9 (tm 16))),(wB 18 (AA (oN 0)))]) YS)
abbrev cb:CC:=(CC.seq (CC.region [(wB 41 (AF 2 (tm 1))),(wB 42 (AK (tm 41))),(wB 43 (Ab 50 [(oN 0),(tm 42),(oN 1000000)])),(wB 44 (AA (tm 43))),(wG 44 true 45 (AF 3 (tm 1))),(wG 44 true 46 (AK (tm 45))),(wG 44 true 47 (Ab 50 [(oN 0),(tm 46),(oN 1000000)])),(wB 48 (Ag (tm 44) (tm 47) (O.c (V.b Bool.false)))),(wB 2 (AA (tm 48)))]) CC.ret)
abbrev ig:CC:=(CC.seq dp cb)
abbrev im:CC:=(CC.seq wi ig)
abbrev b31:CC:=(CC.seq (CC.region [(wB 1 (Cf 35 (tm 0))),(wB 2 (AA (O.c (V.b Bool.false))))]) im)
theorem c31:AY Try.prog 31=⟨49,b31,[(Rs.tmp (AT 2))]⟩:=by kernel_rfl
abbrev yW:CC:=(CC.seq (CC.region [(wB 3 (AF 0 (tm 1))),(wB 4 (AK (tm 3))),(wB 5 (Ab 50 [(oN 1),(tm 4),(oN 1000000)])),(wB 6 (AA (tm 5))),(wG 6 true 7 (AF 1 (tm 1))),(wG 6 true 8 (AK (tm 7))),(wG 6 true 9 (Ab 50 [(oN 0),(tm 8),(oN 1)])),(wB 10 (Ag (tm 6) (tm 9) (O.c (V.b Bool.false)))),(wB 11 (AA (tm 10))),(wG 11 true 12 (AF 2 (tm 1))),(wG 11 true 13 (AK (tm 12))),(wG 11 true 14 (Ab 65 [(tm 13)])),(wB 15 (Ag (tm 11) (tm 14) (O.c (V.b Bool.false)))),(wB 16 (AA (tm 15))),(wG 16 true 17 (AF 3 (tm 1))),(wG 16 true 18 (AK (tm 17))),(wG 16 true 19 (Ab 65 [(tm 18)])),(wB 20 (Ag (tm 16) (tm 19) (O.c (V.b Bool.false)))),(wB 21 (AA (tm 20))),(wG 21 true 22 (AF 2 (tm 1))),(wG 21 true 23 (AK (tm 22))),(wG 21 true 24 (AF 3 (tm 1))),(wG 21 true 25 (AK (tm 24))),(wG 21 true 26 (BZ (fun a b c d=>EF a b c d||EX a b c d) (tm 23) (tm 25))),(wB 27 (Ag (tm 21) (tm 26) (O.c (V.b Bool.false)))),(wB 28 (AA (tm 27))),(wG 28 true 29 (AF 4 (tm 1))),(wG 28 true 30 (AK (tm 29))),(wG 28 true 31 (AM Dc (tm 30) (oN 1))),(wB 32 (Ag (tm 28) (tm 31) (O.c (V.b Bool.false)))),(wB 2 (AA (tm 32)))]) CC.ret)
abbrev b49:CC:=(CC.seq (CC.region [(wB 1 (Cf 57 (tm 0))),(wB 2 (AA (O.c (V.b Bool.false))))]) yW)
theorem c49:AY Try.prog 49=⟨33,b49,[(Rs.tmp (AT 2))]⟩:=by kernel_rfl
abbrev rL:CC:=(CC.seq (CC.region [(wB 7 (AA (tm 0))),(wB 8 (AA (tm 1))),(wB 9 (AM Ds (tm 7) (tm 8))),(wB 10 (AA (tm 9))),(wG 10 true 11 (AA (tm 1))),(wG 10 true 12 (AA (tm 2))),(wG 10 true 13 (AM Ds (tm 11) (tm 12))),(wB 14 (Ag (tm 10) (tm 13) (O.c (V.b Bool.false)))),(wB 6 (AA (tm 14)))]) CC.ret)
abbrev b50:CC:=(CC.seq (CC.region [(wB 6 (AA (O.c (V.b Bool.false))))]) rL)
theorem c50:AY Try.prog 50=⟨15,b50,[(Rs.tmp (AT 6))]⟩:=by kernel_rfl
abbrev oR:CC:=(CC.seq (CC.region [(wB 3 (AA (tm 0))),(wB 4 (CY (tm 3))),(wB 5 (Ab 50 [(oN 1),(tm 4),(oN 13)])),(wB 2 (AA (tm 5)))]) CC.ret)
abbrev b65:CC:=(CC.seq (CC.region [(wB 2 (AA (O.c (V.b Bool.false))))]) oR)
theorem c65:AY Try.prog 65=⟨6,b65,[(Rs.tmp (AT 2))]⟩:=by kernel_rfl
abbrev n9:CC:=(CC.cond (tm 10) CC.skip (CC.exit 0))
abbrev oD:CC:=(CC.seq (CC.region [(wB 4 (AA (O.c (V.b Bool.false))))]) CC.ret)
abbrev zP:CC:=(CC.cond (tm 19) oD CC.skip)
abbrev zC:CC:=(CC.seq (CC.region [(wB 13 (AA (tm 0))),(wB 14 (AZ (tm 13))),(wB 15 (AF 0 (tm 14))),(wB 16 (AK (tm 15))),(wB 17 (OX 58 [(tm 6)])),(wB 18 (Ab 57 [(tm 16),(tm 17)])),(wB 19 (Bz (tm 18)))]) zP)
abbrev mv:CC:=(CC.seq (CC.region [(wB 11 (AG 1 (tm 7) (tm 9))),(wB 12 (AK (tm 11))),(wB 6 (Bw 3 [(V.i IntKind.i64 (Int.ofNat 0))])),(CO.mk G.none D.none Bool.true (CR.mk (Af 1 (tm 6) (tm 12))))]) zC)
abbrev oH:CC:=(CC.block 1 mv)
abbrev zR:CC:=(CC.region [(wB 20 (AM A4 (tm 9) (oN 1))),(wB 9 (AA (tm 20)))])
abbrev xM:CC:=(CC.seq oH zR)
abbrev yF:CC:=(CC.seq n9 xM)
abbrev xg:CC:=(CC.seq (CC.region [(wB 10 (AM BV (tm 9) (tm 8)))]) yF)
abbrev xh:CC:=(CC.loop xg)
abbrev cx:CC:=(CC.block 0 xh)
abbrev jT:CC:=(CC.seq (CC.region [(wB 7 (AA (tm 1))),(wB 8 (A9 (tm 7))),(wB 9 (AA (oN 0)))]) cx)
abbrev XT:CC:=(CC.seq (CC.region [(wB 4 (AA (O.c (V.b Bool.true))))]) CC.ret)
abbrev bY:CC:=(CC.seq jT XT)
abbrev b42:CC:=(CC.seq (CC.region [(wB 4 (AA (O.c (V.b Bool.false))))]) bY)
theorem c42:AY Try.prog 42=⟨21,b42,[(Rs.tmp (AT 4))]⟩:=by kernel_rfl
abbrev sm:CC:=(CC.seq (CC.region [(wB 4 (AF 0 (tm 2))),(wB 5 (AK (tm 4))),(wB 6 (AK (tm 1))),(wB 7 (AM DR (tm 5) (tm 6))),(wB 3 (AA (tm 7)))]) CC.ret)
abbrev b58:CC:=(CC.seq (CC.region [(wB 2 (Cf 57 (tm 0))),(wB 3 (AA (O.c (V.b Bool.false))))]) sm)
theorem c58:AY Try.prog 58=⟨8,b58,[(Rs.tmp (AT 3))]⟩:=by kernel_rfl
abbrev wx:CC:=(CC.seq (CC.region [(wB 4 (AA (O.c (V.b Bool.true))))]) CC.ret)
abbrev pb:CC:=(CC.seq (CC.region [(wB 4 (AA (O.c (V.b Bool.true))))]) CC.ret)
abbrev nD:CC:=(CC.seq (CC.Az [(uB 5 (AF 3 (tm 3))),(wB 6 (AK (tm 5))),(uB 7 (AM Cj (tm 6) (oN 0))),(uB 8 (AA (tm 7))),(uG 8 true 9 (AF 3 (tm 3))),(uG 8 true 10 (AK (tm 9))),(uG 8 true 11 (AA (tm 0))),(uG 8 true 12 (AZ (tm 11))),(uG 8 true 13 (AF 2 (tm 12))),(uG 8 true 14 (AK (tm 13))),(uG 8 true 15 (AM BV (tm 10) (tm 14))),(uB 16 (Ag (tm 8) (tm 15) (O.c (V.b Bool.false)))),(uB 4 (AA (tm 16)))] none) CC.ret)
abbrev xk:CC:=(CC.cond (tm 34) pb nD)
abbrev u7:CC:=(CC.seq (CC.Az [(uB 35 (AF 2 (tm 3))),(wB 36 (AK (tm 35))),(uB 37 (AM Cj (tm 36) (oN 0))),(uB 38 (AA (tm 37))),(uG 38 true 39 (AF 2 (tm 3))),(uG 38 true 40 (AK (tm 39))),(uG 38 true 41 (AA (tm 0))),(uG 38 true 42 (AZ (tm 41))),(uG 38 true 43 (AF 1 (tm 42))),(uG 38 true 44 (AK (tm 43))),(uG 38 true 45 (AM BV (tm 40) (tm 44))),(uB 46 (Ag (tm 38) (tm 45) (O.c (V.b Bool.false)))),(uB 34 (AA (tm 46)))] none) xk)
abbrev tW:CC:=(CC.cond (tm 17) wx u7)
abbrev np:CC:=(CC.seq (CC.Az [(uB 18 (AF 1 (tm 3))),(wB 19 (AK (tm 18))),(uB 20 (A9 (tm 19))),(uB 21 (AM Cj (tm 20) (oN 0))),(uB 22 (AA (tm 21))),(uG 22 true 23 (AF 1 (tm 3))),(uG 22 true 24 (AK (tm 23))),(uG 22 true 25 (AG 5 (tm 24) (oN 0))),(uG 22 true 26 (AF 0 (tm 25))),(uG 22 true 27 (AK (tm 26))),(uG 22 true 28 (AA (tm 0))),(uG 22 true 29 (AZ (tm 28))),(uG 22 true 30 (AF 3 (tm 29))),(uG 22 true 31 (AK (tm 30))),(uG 22 true 32 (AM BV (tm 27) (tm 31))),(uB 33 (Ag (tm 22) (tm 32) (O.c (V.b Bool.false)))),(uB 17 (AA (tm 33)))] none) tW)
abbrev xV:CC:=(CC.block 0 np)
abbrev b43:CC:=(CC.seq (CC.region [(wB 3 (Cf 35 (tm 1))),(wB 4 (AA (O.c (V.b Bool.false))))]) xV)
theorem c43:AY Try.prog 43=⟨47,b43,[(Rs.tmp (AT 4))]⟩:=by kernel_rfl
abbrev pJ:CC:=(CC.cond (tm 16) CC.skip (CC.exit 0))
abbrev p6:CC:=(CC.region [(wB 27 (AA (tm 5))),(wB 28 (AR 5 (tm 7))),(wB 29 (Aj 57 1 [(V.i IntKind.i64 (Int.ofNat 0)),(V.i IntKind.i64 (Int.ofNat 0)),(V.s 0 0),(V.s 0 0),(V.i IntKind.i64 (Int.ofNat 0))] [(Pt.mk 0 5 (tm 28))])),(wB 30 (BL 57 5 (tm 27) (tm 29))),(wB 5 (AA (tm 30)))])
abbrev kW:CC:=(CC.seq (CC.Az [(uB 19 (AF 2 (tm 7))),(uB 20 (AK (tm 19))),(uB 21 (Ab 62 [(tm 20)])),(uB 22 (AF 3 (tm 7))),(uB 23 (AK (tm 22))),(wB 24 (Ab 62 [(tm 23)])),(uB 25 (AF 2 (tm 7))),(CO.mk G.none D.none Bool.true (CR.mk (Af 1 (tm 25) (tm 21)))),(uB 26 (AF 3 (tm 7))),(CO.mk G.none D.none Bool.true (CR.mk (Af 1 (tm 26) (tm 24))))] (some ([2,5,7,9],[(1,[0]),(4,[0,3])]))) p6)
abbrev pf:CC:=(CC.seq (CC.region [(wB 17 (AG 5 (tm 13) (tm 15))),(wB 18 (AR 5 (tm 17))),(wB 7 (Bw 57 [(V.i IntKind.i64 (Int.ofNat 0)),(V.i IntKind.i64 (Int.ofNat 0)),(V.s 0 0),(V.s 0 0),(V.i IntKind.i64 (Int.ofNat 0))])),(CO.mk G.none D.none Bool.true (CR.mk (Af 5 (tm 7) (tm 18))))]) kW)
abbrev qb:CC:=(CC.block 1 pf)
abbrev wW:CC:=(CC.region [(wB 31 (AM A4 (tm 15) (oN 1))),(wB 15 (AA (tm 31)))])
abbrev ym:CC:=(CC.seq qb wW)
abbrev uY:CC:=(CC.seq pJ ym)
abbrev kY:CC:=(CC.seq (CC.region [(wB 16 (AM BV (tm 15) (tm 14)))]) uY)
abbrev yI:CC:=(CC.loop kY)
abbrev wT:CC:=(CC.block 0 yI)
abbrev ZR:CC:=(CC.seq (CC.region [(wB 12 (AF 1 (tm 3))),(wB 13 (AK (tm 12))),(wB 14 (A9 (tm 13))),(wB 15 (AA (oN 0)))]) wT)
abbrev bo:CC:=(CC.seq (CC.region [(wB 34 (AA (tm 5))),(wB 4 (AA (tm 34)))]) CC.ret)
abbrev Yc:CC:=(CC.seq (CC.region [(wB 32 (AA (tm 5))),(wB 33 (Ab 63 [(tm 32),(O.c (V.f 64 []))]))]) bo)
abbrev gF:CC:=(CC.seq ZR Yc)
abbrev bk:CC:=(CC.seq (CC.region [(wB 8 (AA (tm 0))),(wB 9 (Ab 26 [(tm 8)])),(wB 10 (OX 60 [(tm 3)])),(wB 11 (Ab 59 [(tm 9),(tm 10)])),(wB 5 (AA (tm 11)))]) gF)
abbrev b44:CC:=(CC.seq (CC.region [(wB 3 (Cf 35 (tm 1))),(wB 4 (AA (O.c V.l0)))]) bk)
theorem c44:AY Try.prog 44=⟨35,b44,[(Rs.tmp (AT 4))]⟩:=by kernel_rfl
abbrev ze:CC:=(CC.seq (CC.region [(wB 4 (AF 0 (tm 1))),(wB 5 (AK (tm 4))),(wB 6 (AF 0 (tm 2))),(wB 7 (AK (tm 6))),(wB 8 (Ab 61 [(tm 5),(tm 7)])),(wB 3 (AA (tm 8)))]) CC.ret)
abbrev b60:CC:=(CC.seq (CC.region [(wB 2 (Cf 57 (tm 0))),(wB 3 (AA (O.c (V.b Bool.false))))]) ze)
theorem c60:AY Try.prog 60=⟨9,b60,[(Rs.tmp (AT 3))]⟩:=by kernel_rfl
abbrev nw:CC:=(CC.cond (tm 8) CC.skip (CC.exit 0))
abbrev vY:CC:=(CC.seq (CC.region [(wB 2 (AA (O.c (V.b Bool.true))))]) CC.ret)
abbrev kq:CC:=(CC.cond (tm 33) vY CC.skip)
abbrev kO:CC:=(CC.seq (CC.Az [(uB 12 (AA (tm 3))),(uB 13 (AM Cj (tm 12) (oN 0))),(uB 14 (AA (tm 13))),(uG 14 true 15 (AA (tm 0))),(uG 14 true 16 (AA (tm 3))),(uG 14 true 17 (AM Bp (tm 16) (oN 1))),(uG 14 true 18 (AG 5 (tm 15) (tm 17))),(uG 14 true 19 (AF 1 (tm 18))),(wG 14 true 20 (AK (tm 19))),(uG 14 true 21 (AM DR (tm 20) (oN 1))),(uB 22 (Ag (tm 14) (tm 21) (O.c (V.b Bool.false)))),(uB 23 (AA (tm 22))),(uG 23 true 24 (AF 2 (tm 4))),(uG 23 true 25 (AK (tm 24))),(uG 23 true 26 (AA (tm 0))),(uG 23 true 27 (AA (tm 3))),(uG 23 true 28 (AM Bp (tm 27) (oN 1))),(uG 23 true 29 (AG 5 (tm 26) (tm 28))),(uG 23 true 30 (AF 3 (tm 29))),(uG 23 true 31 (AK (tm 30))),(uG 23 true 32 (BZ (fun a b c d=>EF a b c d||EX a b c d) (tm 25) (tm 31))),(uB 33 (Ag (tm 23) (tm 32) (O.c (V.b Bool.false))))] none) kq)
abbrev qd:CC:=(CC.seq (CC.region [(wB 9 (AA (tm 7))),(wB 10 (AG 5 (tm 5) (tm 7))),(wB 11 (AR 5 (tm 10))),(wB 4 (Bw 57 [(V.i IntKind.i64 (Int.ofNat 0)),(V.i IntKind.i64 (Int.ofNat 0)),(V.s 0 0),(V.s 0 0),(V.i IntKind.i64 (Int.ofNat 0))])),(wB 3 (AA (tm 9))),(CO.mk G.none D.none Bool.true (CR.mk (Af 5 (tm 4) (tm 11))))]) kO)
abbrev mM:CC:=(CC.block 1 qd)
abbrev ko:CC:=(CC.region [(wB 34 (AM A4 (tm 7) (oN 1))),(wB 7 (AA (tm 34)))])
abbrev tH:CC:=(CC.seq mM ko)
abbrev pT:CC:=(CC.seq nw tH)
abbrev jk:CC:=(CC.seq (CC.region [(wB 8 (AM BV (tm 7) (tm 6)))]) pT)
abbrev y6:CC:=(CC.loop jk)
abbrev ZY:CC:=(CC.block 0 y6)
abbrev jC:CC:=(CC.seq (CC.region [(wB 5 (AA (tm 0))),(wB 6 (A9 (tm 5))),(wB 7 (AA (oN 0)))]) ZY)
abbrev bT:CC:=(CC.seq (CC.region [(wB 2 (AA (O.c (V.b Bool.false))))]) CC.ret)
abbrev Y1:CC:=(CC.seq jC bT)
abbrev b45:CC:=(CC.seq (CC.region [(wB 2 (AA (O.c (V.b Bool.false))))]) Y1)
theorem c45:AY Try.prog 45=⟨35,b45,[(Rs.tmp (AT 2))]⟩:=by kernel_rfl
end Go.Proofs.Ytobfgempjekjpaa
set_option maxRecDepth 1000000
namespace Go.Proofs.Ytobfgempjekjpaa
open Go Go.Ev
abbrev nz:CC:=(CC.cond (tm 14) CC.skip (CC.exit 0))
abbrev lO:CC:=(CC.seq (CC.region [(wB 12 (AA (tm 8))),(wB 13 (AA (tm 2))),(wB 14 (AM BV (tm 12) (tm 13)))]) nz)
abbrev kM:CC:=(CC.cond (tm 34) CC.skip (CC.exit 2))
abbrev qL:CC:=(CC.seq (CC.Az [(uB 18 (AA (tm 9))),(uB 19 (AA (tm 1))),(uB 20 (AM Cj (tm 18) (tm 19))),(uB 21 (AA (tm 20))),(uG 21 true 22 (AA (tm 3))),(uG 21 true 23 (AA (tm 0))),(uG 21 true 24 (AA (tm 9))),(uG 21 true 25 (AG 5 (tm 23) (tm 24))),(uG 21 true 26 (AR 5 (tm 25))),(uG 21 true 27 (AA (tm 0))),(uG 21 true 28 (AA (tm 9))),(uG 21 true 29 (AM Bp (tm 28) (oN 1))),(uG 21 true 30 (AG 5 (tm 27) (tm 29))),(uG 21 true 31 (AR 5 (tm 30))),(wG 21 true 32 (Bg (tm 22) [(tm 26),(tm 31)])),(uG 21 true 33 (AM BV (tm 32) (oN 0))),(uB 34 (Ag (tm 21) (tm 33) (O.c (V.b Bool.false))))] none) kM)
abbrev kX:CC:=(CC.Az [(uB 37 (AA (tm 0))),(uB 38 (AA (tm 9))),(uB 39 (AA (tm 0))),(uB 40 (AA (tm 9))),(uB 41 (AM Bp (tm 40) (oN 1))),(uB 42 (AA (tm 0))),(uB 43 (AA (tm 9))),(uB 44 (AM Bp (tm 43) (oN 1))),(uB 45 (AG 5 (tm 42) (tm 44))),(uB 46 (AR 5 (tm 45))),(uB 47 (AA (tm 0))),(uB 48 (AA (tm 9))),(uB 49 (AG 5 (tm 47) (tm 48))),(uB 50 (AR 5 (tm 49))),(uB 51 (AG 5 (tm 37) (tm 38))),(CO.mk G.none D.none Bool.true (CR.mk (Af 5 (tm 51) (tm 46)))),(uB 52 (AG 5 (tm 39) (tm 41))),(CO.mk G.none D.none Bool.true (CR.mk (Af 5 (tm 52) (tm 50))))] none)
abbrev zg:CC:=(CC.block 3 kX)
abbrev zo:CC:=(CC.region [(wB 35 (AA (tm 9))),(wB 36 (AM Bp (tm 35) (oN 1))),(wB 9 (AA (tm 36)))])
abbrev xS:CC:=(CC.seq zg zo)
abbrev v9:CC:=(CC.seq qL xS)
abbrev zi:CC:=(CC.loop v9)
abbrev mX:CC:=(CC.block 2 zi)
abbrev eV:CC:=(CC.seq (CC.region [(wB 17 (AA (tm 8))),(wB 9 (AA (tm 17)))]) mX)
abbrev bZ:CC:=(CC.block 1 eV)
abbrev fq:CC:=(CC.region [(wB 15 (AA (tm 8))),(wB 16 (AM A4 (tm 15) (oN 1))),(wB 8 (AA (tm 16)))])
abbrev az:CC:=(CC.seq bZ fq)
abbrev uj:CC:=(CC.seq lO az)
abbrev ZU:CC:=(CC.loop uj)
abbrev Wt:CC:=(CC.block 0 ZU)
abbrev b81:CC:=(CC.seq (CC.region [(wB 10 (AA (tm 1))),(wB 11 (AM A4 (tm 10) (oN 1))),(wB 8 (AA (tm 11)))]) Wt)
theorem c81:AY Try.prog 81=⟨53,b81,[]⟩:=by kernel_rfl
abbrev tP:CC:=(CC.cond (tm 18) (CC.exit 0) CC.skip)
abbrev uD:CC:=(CC.seq (CC.region [(wB 16 (AA (tm 11))),(wB 17 (AA (tm 2))),(wB 18 (AM Dc (tm 16) (tm 17)))]) tP)
abbrev wy:CC:=(CC.region [(wB 41 (AA (tm 11))),(wB 42 (AM A4 (tm 41) (oN 1))),(wB 11 (AA (tm 42)))])
abbrev uk:CC:=(CC.cond (tm 40) wy CC.skip)
abbrev uh:CC:=(CC.seq (CC.Az [(uB 19 (AA (tm 11))),(uB 20 (AM A4 (tm 19) (oN 1))),(uB 21 (AA (tm 2))),(uB 22 (AM BV (tm 20) (tm 21))),(uB 23 (AA (tm 22))),(uG 23 true 24 (AA (tm 4))),(uG 23 true 25 (AA (tm 0))),(uG 23 true 26 (AA (tm 3))),(uG 23 true 27 (AA (tm 11))),(uG 23 true 28 (AM A4 (tm 26) (tm 27))),(uG 23 true 29 (AG 5 (tm 25) (tm 28))),(uG 23 true 30 (AR 5 (tm 29))),(uG 23 true 31 (AA (tm 0))),(uG 23 true 32 (AA (tm 3))),(uG 23 true 33 (AA (tm 11))),(uG 23 true 34 (AM A4 (tm 32) (tm 33))),(uG 23 true 35 (AM A4 (tm 34) (oN 1))),(uG 23 true 36 (AG 5 (tm 31) (tm 35))),(uG 23 true 37 (AR 5 (tm 36))),(wG 23 true 38 (Bg (tm 24) [(tm 30),(tm 37)])),(uG 23 true 39 (AM BV (tm 38) (oN 0))),(uB 40 (Ag (tm 23) (tm 39) (O.c (V.b Bool.false))))] none) uk)
abbrev tB:CC:=(CC.cond (tm 58) CC.ret CC.skip)
abbrev vo:CC:=(CC.seq (CC.Az [(uB 43 (AA (tm 4))),(uB 44 (AA (tm 0))),(uB 45 (AA (tm 3))),(uB 46 (AA (tm 10))),(uB 47 (AM A4 (tm 45) (tm 46))),(uB 48 (AG 5 (tm 44) (tm 47))),(uB 49 (AR 5 (tm 48))),(uB 50 (AA (tm 0))),(uB 51 (AA (tm 3))),(uB 52 (AA (tm 11))),(uB 53 (AM A4 (tm 51) (tm 52))),(uB 54 (AG 5 (tm 50) (tm 53))),(uB 55 (AR 5 (tm 54))),(wB 56 (Bg (tm 43) [(tm 49),(tm 55)])),(uB 57 (AM BV (tm 56) (oN 0))),(uB 58 (Bz (tm 57)))] none) tB)
abbrev zt:CC:=(CC.region [(wB 81 (AA (tm 11))),(wB 10 (AA (tm 81)))])
abbrev kB:CC:=(CC.seq (CC.Az [(uB 59 (AA (tm 0))),(uB 60 (AA (tm 3))),(uB 61 (AA (tm 10))),(uB 62 (AM A4 (tm 60) (tm 61))),(uB 63 (AA (tm 0))),(uB 64 (AA (tm 3))),(uB 65 (AA (tm 11))),(uB 66 (AM A4 (tm 64) (tm 65))),(uB 67 (AA (tm 0))),(uB 68 (AA (tm 3))),(uB 69 (AA (tm 11))),(uB 70 (AM A4 (tm 68) (tm 69))),(uB 71 (AG 5 (tm 67) (tm 70))),(uB 72 (AR 5 (tm 71))),(uB 73 (AA (tm 0))),(uB 74 (AA (tm 3))),(uB 75 (AA (tm 10))),(uB 76 (AM A4 (tm 74) (tm 75))),(uB 77 (AG 5 (tm 73) (tm 76))),(uB 78 (AR 5 (tm 77))),(uB 79 (AG 5 (tm 59) (tm 62))),(CO.mk G.none D.none Bool.true (CR.mk (Af 5 (tm 79) (tm 72)))),(uB 80 (AG 5 (tm 63) (tm 66))),(CO.mk G.none D.none Bool.true (CR.mk (Af 5 (tm 80) (tm 78))))] none) zt)
abbrev WD:CC:=(CC.seq vo kB)
abbrev jJ:CC:=(CC.seq uh WD)
abbrev WZ:CC:=(CC.seq uD jJ)
abbrev YF:CC:=(CC.seq (CC.region [(wB 13 (AA (tm 10))),(wB 14 (AM HP (oN 2) (tm 13))),(wB 15 (AM A4 (tm 14) (oN 1))),(wB 11 (AA (tm 15)))]) WZ)
abbrev pN:CC:=(CC.block 1 YF)
abbrev fJ:CC:=(CC.loop pN)
abbrev Z3:CC:=(CC.block 0 fJ)
abbrev b93:CC:=(CC.seq (CC.region [(wB 12 (AA (tm 1))),(wB 10 (AA (tm 12)))]) Z3)
theorem c93:AY Try.prog 93=⟨82,b93,[]⟩:=by kernel_rfl
abbrev lh:CC:=(CC.cond (tm 21) CC.skip (CC.exit 0))
abbrev oc:CC:=(CC.seq (CC.region [(wB 20 (AA (tm 11))),(wB 21 (AM Dc (tm 20) (oN 0)))]) lh)
abbrev zN:CC:=(CC.region [(wB 24 (AA (tm 0))),(wB 25 (AA (tm 11))),(wB 26 (AA (tm 10))),(wB 27 (AA (tm 8))),(wB 28 (AA (tm 3))),(wB 29 (Ab 93 [(tm 24),(tm 25),(tm 26),(tm 27),(tm 28)]))])
abbrev sR:CC:=(CC.block 1 zN)
abbrev pK:CC:=(CC.region [(wB 22 (AA (tm 11))),(wB 23 (AM Bp (tm 22) (oN 1))),(wB 11 (AA (tm 23)))])
abbrev tc:CC:=(CC.seq sR pK)
abbrev ox:CC:=(CC.seq oc tc)
abbrev wJ:CC:=(CC.loop ox)
abbrev lz:CC:=(CC.block 0 wJ)
abbrev yT:CC:=(CC.seq (CC.region [(wB 17 (AA (tm 10))),(wB 18 (AM Bp (tm 17) (oN 1))),(wB 19 (AM Kk (tm 18) (oN 2))),(wB 11 (AA (tm 19)))]) lz)
abbrev zI:CC:=(CC.cond (tm 33) CC.skip (CC.exit 2))
abbrev XX:CC:=(CC.seq (CC.region [(wB 32 (AA (tm 12))),(wB 33 (AM Dc (tm 32) (oN 0)))]) zI)
abbrev dS:CC:=(CC.region [(wB 54 (AA (tm 0))),(wB 55 (AA (tm 9))),(wB 56 (AA (tm 12))),(wB 57 (AA (tm 8))),(wB 58 (AA (tm 3))),(wB 59 (Ab 93 [(tm 54),(tm 55),(tm 56),(tm 57),(tm 58)]))])
abbrev Zg:CC:=(CC.seq (CC.Az [(uB 36 (AA (tm 0))),(uB 37 (AA (tm 8))),(uB 38 (AA (tm 0))),(uB 39 (AA (tm 8))),(uB 40 (AA (tm 12))),(uB 41 (AM A4 (tm 39) (tm 40))),(uB 42 (AA (tm 0))),(uB 43 (AA (tm 8))),(uB 44 (AA (tm 12))),(uB 45 (AM A4 (tm 43) (tm 44))),(uB 46 (AG 5 (tm 42) (tm 45))),(uB 47 (AR 5 (tm 46))),(uB 48 (AA (tm 0))),(uB 49 (AA (tm 8))),(uB 50 (AG 5 (tm 48) (tm 49))),(uB 51 (AR 5 (tm 50))),(uB 52 (AG 5 (tm 36) (tm 37))),(CO.mk G.none D.none Bool.true (CR.mk (Af 5 (tm 52) (tm 47)))),(uB 53 (AG 5 (tm 38) (tm 41))),(CO.mk G.none D.none Bool.true (CR.mk (Af 5 (tm 53) (tm 51))))] none) dS)
abbrev cV:CC:=(CC.block 3 Zg)
abbrev iU:CC:=(CC.region [(wB 34 (AA (tm 12))),(wB 35 (AM Bp (tm 34) (oN 1))),(wB 12 (AA (tm 35)))])
abbrev bQ:CC:=(CC.seq cV iU)
abbrev zk:CC:=(CC.seq XX bQ)
abbrev jQ:CC:=(CC.loop zk)
abbrev dX:CC:=(CC.block 2 jQ)
abbrev ia:CC:=(CC.seq (CC.region [(wB 30 (AA (tm 10))),(wB 31 (AM Bp (tm 30) (oN 1))),(wB 12 (AA (tm 31)))]) dX)
abbrev aQ:CC:=(CC.seq yT ia)
abbrev ZN:CC:=(CC.seq (CC.region [(wB 14 (AA (tm 2))),(wB 15 (AA (tm 1))),(wB 16 (AM Bp (tm 14) (tm 15))),(wB 10 (AA (tm 16)))]) aQ)
abbrev YP:CC:=(CC.seq (CC.region [(wB 9 (AA (oN 0)))]) ZN)
abbrev b82:CC:=(CC.seq (CC.region [(wB 13 (AA (tm 1))),(wB 8 (AA (tm 13)))]) YP)
theorem c82:AY Try.prog 82=⟨60,b82,[]⟩:=by kernel_rfl
abbrev tf:CC:=(CC.seq (CC.region [(wB 26 (AA (tm 0))),(wB 27 (AA (tm 1))),(wB 28 (AA (tm 2))),(wB 29 (AA (tm 4))),(wB 30 (Ab 81 [(tm 26),(tm 27),(tm 28),(tm 29)]))]) CC.ret)
abbrev ud:CC:=(CC.cond (tm 25) tf CC.skip)
abbrev lk:CC:=(CC.seq (CC.region [(wB 24 (AA (tm 12))),(wB 25 (AM Ds (tm 24) (oN 12)))]) ud)
abbrev xG:CC:=(CC.seq (CC.region [(wB 33 (AA (tm 0))),(wB 34 (AA (tm 1))),(wB 35 (AA (tm 2))),(wB 36 (AA (tm 4))),(wB 37 (Ab 82 [(tm 33),(tm 34),(tm 35),(tm 36)]))]) CC.ret)
abbrev nd:CC:=(CC.cond (tm 32) xG CC.skip)
abbrev vf:CC:=(CC.seq (CC.region [(wB 31 (AA (tm 3))),(wB 32 (AM DR (tm 31) (oN 0)))]) nd)
abbrev pc:CC:=(CC.region [(wB 45 (AA (tm 3))),(wB 46 (AM Bp (tm 45) (oN 1))),(wB 3 (AA (tm 46)))])
abbrev lS:CC:=(CC.seq (CC.region [(wB 40 (AA (tm 0))),(wB 41 (AA (tm 1))),(wB 42 (AA (tm 2))),(wB 43 (AA (tm 4))),(wB 44 (Ab 83 [(tm 40),(tm 41),(tm 42),(tm 43)]))]) pc)
abbrev wz:CC:=(CC.cond (tm 39) lS CC.skip)
abbrev pW:CC:=(CC.seq (CC.region [(wB 38 (AA (tm 10))),(wB 39 (Bz (tm 38)))]) wz)
abbrev gQ:CC:=(CC.seq (CC.region [(wB 62 (AA (tm 2))),(wB 63 (AM Bp (tm 62) (oN 1))),(wB 64 (AA (tm 13))),(wB 65 (AA (tm 1))),(wB 66 (AM Bp (tm 64) (tm 65))),(wB 67 (AM Bp (tm 63) (tm 66))),(wB 13 (AA (tm 67)))]) (CC.region [(wB 14 (AA (oN 1)))]))
abbrev bW:CC:=(CC.seq (CC.region [(wB 57 (AA (tm 0))),(wB 58 (AA (tm 1))),(wB 59 (AA (tm 2))),(wB 60 (AA (tm 4))),(wB 61 (Ab 85 [(tm 57),(tm 58),(tm 59),(tm 60)]))]) gQ)
abbrev aO:CC:=(CC.cond (tm 56) bW CC.skip)
abbrev Xc:CC:=(CC.seq (CC.region [(wB 55 (AA (tm 14))),(wB 56 (AM DR (tm 55) (oN 2)))]) aO)
abbrev fM:CC:=(CC.cond (tm 80) CC.ret CC.skip)
abbrev YY:CC:=(CC.seq (CC.region [(wB 76 (AA (tm 0))),(wB 77 (AA (tm 1))),(wB 78 (AA (tm 2))),(wB 79 (AA (tm 4))),(wB 80 (Ab 86 [(tm 76),(tm 77),(tm 78),(tm 79)]))]) fM)
abbrev de:CC:=(CC.cond (tm 75) YY CC.skip)
abbrev Yw:CC:=(CC.seq (CC.region [(wB 68 (AA (tm 10))),(wB 69 (AA (tm 68))),(wG 69 true 70 (AA (tm 11))),(wB 71 (Ag (tm 69) (tm 70) (O.c (V.b Bool.false)))),(wB 72 (AA (tm 71))),(wG 72 true 73 (AA (tm 14))),(wG 72 true 74 (AM DR (tm 73) (oN 1))),(wB 75 (Ag (tm 72) (tm 74) (O.c (V.b Bool.false))))]) de)
abbrev YD:CC:=(CC.seq (CC.region [(wB 104 (AA (tm 15))),(wB 1 (AA (tm 104)))]) (CC.exit 1))
abbrev eX:CC:=(CC.seq (CC.region [(wB 98 (AA (tm 0))),(wB 99 (AA (tm 1))),(wB 100 (AA (tm 2))),(wB 101 (AA (tm 13))),(wB 102 (AA (tm 4))),(wB 103 (Ab 87 [(tm 98),(tm 99),(tm 100),(tm 101),(tm 102)])),(wB 15 (AA (tm 103)))]) YD)
abbrev bq:CC:=(CC.cond (tm 97) eX CC.skip)
abbrev Zi:CC:=(CC.seq (CC.Az [(uB 81 (AA (tm 1))),(uB 82 (AM Cj (tm 81) (oN 0))),(uB 83 (AA (tm 82))),(uG 83 true 84 (AA (tm 4))),(uG 83 true 85 (AA (tm 0))),(uG 83 true 86 (AA (tm 1))),(uG 83 true 87 (AM Bp (tm 86) (oN 1))),(uG 83 true 88 (AG 5 (tm 85) (tm 87))),(uG 83 true 89 (AR 5 (tm 88))),(uG 83 true 90 (AA (tm 0))),(uG 83 true 91 (AA (tm 13))),(uG 83 true 92 (AG 5 (tm 90) (tm 91))),(uG 83 true 93 (AR 5 (tm 92))),(wG 83 true 94 (Bg (tm 84) [(tm 89),(tm 93)])),(uG 83 true 95 (AM BV (tm 94) (oN 0))),(uG 83 true 96 (Bz (tm 95))),(uB 97 (Ag (tm 83) (tm 96) (O.c (V.b Bool.false))))] none) bq)
abbrev Yb:CC:=(CC.region [(wB 135 (AA (tm 16))),(wB 136 (AM A4 (tm 135) (oN 1))),(wB 1 (AA (tm 136)))])
abbrev aP:CC:=(CC.seq (CC.region [(wB 129 (AA (tm 0))),(wB 130 (AA (tm 1))),(wB 131 (AA (tm 16))),(wB 132 (AA (tm 3))),(wB 133 (AA (tm 4))),(wB 134 (Ab 75 [(tm 129),(tm 130),(tm 131),(tm 132),(tm 133)]))]) Yb)
abbrev ZQ:CC:=(CC.seq (CC.region [(wB 126 (AA (tm 18))),(wB 127 (AA (tm 20))),(wB 128 (AM Dc (tm 126) (tm 127))),(wB 10 (AA (tm 128)))]) aP)
abbrev XH:CC:=(CC.region [(wB 147 (AA (tm 16))),(wB 2 (AA (tm 147)))])
abbrev jY:CC:=(CC.seq (CC.region [(wB 140 (AA (tm 0))),(wB 141 (AA (tm 16))),(wB 142 (AM A4 (tm 141) (oN 1))),(wB 143 (AA (tm 2))),(wB 144 (AA (tm 3))),(wB 145 (AA (tm 4))),(wB 146 (Ab 75 [(tm 140),(tm 142),(tm 143),(tm 144),(tm 145)]))]) XH)
abbrev aG:CC:=(CC.seq (CC.region [(wB 137 (AA (tm 19))),(wB 138 (AA (tm 20))),(wB 139 (AM Dc (tm 137) (tm 138))),(wB 10 (AA (tm 139)))]) jY)
abbrev bC:CC:=(CC.cond (tm 125) ZQ aG)
abbrev fS:CC:=(CC.seq (CC.region [(wB 123 (AA (tm 18))),(wB 124 (AA (tm 19))),(wB 125 (AM BV (tm 123) (tm 124)))]) bC)
abbrev Z4:CC:=(CC.seq (CC.region [(wB 121 (AA (tm 12))),(wB 122 (AM Kk (tm 121) (oN 8))),(wB 20 (AA (tm 122)))]) fS)
abbrev cM:CC:=(CC.seq (CC.region [(wB 115 (AA (tm 16))),(wB 116 (AA (tm 1))),(wB 117 (AM Bp (tm 115) (tm 116))),(wB 118 (AA (tm 2))),(wB 119 (AA (tm 16))),(wB 120 (AM Bp (tm 118) (tm 119))),(wB 18 (AA (tm 117))),(wB 19 (AA (tm 120)))]) Z4)
abbrev jW:CC:=(CC.seq (CC.region [(wB 114 (AA (tm 17))),(wB 11 (AA (tm 114)))]) cM)
abbrev Qk:CC:=(CC.seq (CC.region [(wB 106 (AA (tm 0))),(wB 107 (AA (tm 1))),(wB 108 (AA (tm 2))),(wB 109 (AA (tm 13))),(wB 110 (AA (tm 4))),(wB 111 (Ab 88 [(tm 106),(tm 107),(tm 108),(tm 109),(tm 110)])),(wB 105 (AA (tm 111))),(wB 112 (A2 0 (tm 105))),(wB 113 (A2 1 (tm 105))),(wB 16 (AA (tm 112))),(wB 17 (AA (tm 113)))]) jW)
abbrev TP:CC:=(CC.seq Zi Qk)
abbrev S5:CC:=(CC.seq Yw TP)
abbrev aU:CC:=(CC.seq Xc S5)
abbrev Qx:CC:=(CC.seq (CC.region [(wB 48 (AA (tm 0))),(wB 49 (AA (tm 1))),(wB 50 (AA (tm 2))),(wB 51 (AA (tm 4))),(wB 52 (Ab 84 [(tm 48),(tm 49),(tm 50),(tm 51)])),(wB 47 (AA (tm 52))),(wB 53 (A2 0 (tm 47))),(wB 54 (A2 1 (tm 47))),(wB 13 (AA (tm 53))),(wB 14 (AA (tm 54)))]) aU)
abbrev du:CC:=(CC.seq pW Qx)
abbrev dL:CC:=(CC.seq vf du)
abbrev jN:CC:=(CC.seq lk dL)
abbrev da:CC:=(CC.seq (CC.region [(wB 21 (AA (tm 2))),(wB 22 (AA (tm 1))),(wB 23 (AM Bp (tm 21) (tm 22))),(wB 12 (AA (tm 23)))]) jN)
abbrev oL:CC:=(CC.block 1 da)
abbrev bR:CC:=(CC.loop oL)
abbrev Y4:CC:=(CC.block 0 bR)
abbrev iE:CC:=(CC.seq (CC.region [(wB 11 (AA (O.c (V.b Bool.true))))]) Y4)
abbrev b75:CC:=(CC.seq (CC.region [(wB 10 (AA (O.c (V.b Bool.true))))]) iE)
theorem c75:AY Try.prog 75=⟨148,b75,[]⟩:=by kernel_rfl
abbrev rD:CC:=(CC.cond (tm 47) CC.skip (CC.exit 0))
abbrev xL:CC:=(CC.seq (CC.Az [(uB 32 (AA (tm 12))),(uB 33 (AA (tm 13))),(uB 34 (AM Ds (tm 32) (tm 33))),(uB 35 (AA (tm 34))),(uG 35 true 36 (AA (tm 4))),(uG 35 true 37 (AA (tm 0))),(uG 35 true 38 (AA (tm 12))),(uG 35 true 39 (AG 5 (tm 37) (tm 38))),(uG 35 true 40 (AR 5 (tm 39))),(uG 35 true 41 (AA (tm 0))),(uG 35 true 42 (AA (tm 1))),(uG 35 true 43 (AG 5 (tm 41) (tm 42))),(uG 35 true 44 (AR 5 (tm 43))),(wG 35 true 45 (Bg (tm 36) [(tm 40),(tm 44)])),(uG 35 true 46 (AM BV (tm 45) (oN 0))),(uB 47 (Ag (tm 35) (tm 46) (O.c (V.b Bool.false))))] none) rD)
abbrev ni:CC:=(CC.region [(wB 48 (AA (tm 12))),(wB 49 (AM A4 (tm 48) (oN 1))),(wB 12 (AA (tm 49)))])
abbrev qZ:CC:=(CC.block 1 ni)
abbrev pL:CC:=(CC.seq xL qZ)
abbrev xc:CC:=(CC.loop pL)
abbrev ub:CC:=(CC.block 0 xc)
abbrev vg:CC:=(CC.cond (tm 66) CC.skip (CC.exit 2))
abbrev qt:CC:=(CC.seq (CC.Az [(uB 50 (AA (tm 12))),(uB 51 (AA (tm 13))),(uB 52 (AM Ds (tm 50) (tm 51))),(uB 53 (AA (tm 52))),(uG 53 true 54 (AA (tm 4))),(uG 53 true 55 (AA (tm 0))),(uG 53 true 56 (AA (tm 13))),(uG 53 true 57 (AG 5 (tm 55) (tm 56))),(uG 53 true 58 (AR 5 (tm 57))),(uG 53 true 59 (AA (tm 0))),(uG 53 true 60 (AA (tm 1))),(uG 53 true 61 (AG 5 (tm 59) (tm 60))),(uG 53 true 62 (AR 5 (tm 61))),(wG 53 true 63 (Bg (tm 54) [(tm 58),(tm 62)])),(uG 53 true 64 (AM BV (tm 63) (oN 0))),(uG 53 true 65 (Bz (tm 64))),(uB 66 (Ag (tm 53) (tm 65) (O.c (V.b Bool.false))))] none) vg)
abbrev mP:CC:=(CC.region [(wB 67 (AA (tm 13))),(wB 68 (AM Bp (tm 67) (oN 1))),(wB 13 (AA (tm 68)))])
abbrev mi:CC:=(CC.block 3 mP)
abbrev wq:CC:=(CC.seq qt mi)
abbrev eY:CC:=(CC.loop wq)
abbrev dR:CC:=(CC.block 2 eY)
abbrev gX:CC:=(CC.seq (CC.region [(wB 86 (AA (tm 13))),(wB 10 (AA (tm 86))),(wB 11 (AA (O.c (V.b Bool.true))))]) CC.ret)
abbrev Wu:CC:=(CC.seq (CC.Az [(uB 72 (AA (tm 0))),(uB 73 (AA (tm 13))),(uB 74 (AA (tm 0))),(uB 75 (AA (tm 1))),(uB 76 (AA (tm 0))),(uB 77 (AA (tm 1))),(uB 78 (AG 5 (tm 76) (tm 77))),(uB 79 (AR 5 (tm 78))),(uB 80 (AA (tm 0))),(uB 81 (AA (tm 13))),(uB 82 (AG 5 (tm 80) (tm 81))),(uB 83 (AR 5 (tm 82))),(uB 84 (AG 5 (tm 72) (tm 73))),(CO.mk G.none D.none Bool.true (CR.mk (Af 5 (tm 84) (tm 79)))),(uB 85 (AG 5 (tm 74) (tm 75))),(CO.mk G.none D.none Bool.true (CR.mk (Af 5 (tm 85) (tm 83))))] none) gX)
abbrev dH:CC:=(CC.cond (tm 71) Wu CC.skip)
abbrev eZ:CC:=(CC.seq (CC.region [(wB 69 (AA (tm 12))),(wB 70 (AA (tm 13))),(wB 71 (AM Cj (tm 69) (tm 70)))]) dH)
abbrev gP:CC:=(CC.cond (tm 120) CC.skip (CC.exit 6))
abbrev YK:CC:=(CC.seq (CC.Az [(uB 105 (AA (tm 12))),(uB 106 (AA (tm 13))),(uB 107 (AM Ds (tm 105) (tm 106))),(uB 108 (AA (tm 107))),(uG 108 true 109 (AA (tm 4))),(uG 108 true 110 (AA (tm 0))),(uG 108 true 111 (AA (tm 12))),(uG 108 true 112 (AG 5 (tm 110) (tm 111))),(uG 108 true 113 (AR 5 (tm 112))),(uG 108 true 114 (AA (tm 0))),(uG 108 true 115 (AA (tm 1))),(uG 108 true 116 (AG 5 (tm 114) (tm 115))),(uG 108 true 117 (AR 5 (tm 116))),(wG 108 true 118 (Bg (tm 109) [(tm 113),(tm 117)])),(uG 108 true 119 (AM BV (tm 118) (oN 0))),(uB 120 (Ag (tm 108) (tm 119) (O.c (V.b Bool.false))))] none) gP)
abbrev Zv:CC:=(CC.region [(wB 121 (AA (tm 12))),(wB 122 (AM A4 (tm 121) (oN 1))),(wB 12 (AA (tm 122)))])
abbrev Xx:CC:=(CC.block 7 Zv)
abbrev vD:CC:=(CC.seq YK Xx)
abbrev ZH:CC:=(CC.loop vD)
abbrev ao:CC:=(CC.block 6 ZH)
abbrev aH:CC:=(CC.cond (tm 139) CC.skip (CC.exit 8))
abbrev hP:CC:=(CC.seq (CC.Az [(uB 123 (AA (tm 12))),(uB 124 (AA (tm 13))),(uB 125 (AM Ds (tm 123) (tm 124))),(uB 126 (AA (tm 125))),(uG 126 true 127 (AA (tm 4))),(uG 126 true 128 (AA (tm 0))),(uG 126 true 129 (AA (tm 13))),(uG 126 true 130 (AG 5 (tm 128) (tm 129))),(uG 126 true 131 (AR 5 (tm 130))),(uG 126 true 132 (AA (tm 0))),(uG 126 true 133 (AA (tm 1))),(uG 126 true 134 (AG 5 (tm 132) (tm 133))),(uG 126 true 135 (AR 5 (tm 134))),(wG 126 true 136 (Bg (tm 127) [(tm 131),(tm 135)])),(uG 126 true 137 (AM BV (tm 136) (oN 0))),(uG 126 true 138 (Bz (tm 137))),(uB 139 (Ag (tm 126) (tm 138) (O.c (V.b Bool.false))))] none) aH)
abbrev gR:CC:=(CC.region [(wB 140 (AA (tm 13))),(wB 141 (AM Bp (tm 140) (oN 1))),(wB 13 (AA (tm 141)))])
abbrev gL:CC:=(CC.block 9 gR)
abbrev uU:CC:=(CC.seq hP gL)
abbrev Xi:CC:=(CC.loop uU)
abbrev hY:CC:=(CC.block 8 Xi)
abbrev ZO:CC:=(CC.cond (tm 144) (CC.exit 4) CC.skip)
abbrev Yt:CC:=(CC.seq (CC.region [(wB 142 (AA (tm 12))),(wB 143 (AA (tm 13))),(wB 144 (AM Cj (tm 142) (tm 143)))]) ZO)
abbrev iH:CC:=(CC.region [(wB 161 (AA (tm 13))),(wB 162 (AM Bp (tm 161) (oN 1))),(wB 13 (AA (tm 162)))])
abbrev WU:CC:=(CC.seq (CC.region [(wB 159 (AA (tm 12))),(wB 160 (AM A4 (tm 159) (oN 1))),(wB 12 (AA (tm 160)))]) iH)
abbrev gf:CC:=(CC.seq (CC.Az [(uB 145 (AA (tm 0))),(uB 146 (AA (tm 12))),(uB 147 (AA (tm 0))),(uB 148 (AA (tm 13))),(uB 149 (AA (tm 0))),(uB 150 (AA (tm 13))),(uB 151 (AG 5 (tm 149) (tm 150))),(uB 152 (AR 5 (tm 151))),(uB 153 (AA (tm 0))),(uB 154 (AA (tm 12))),(uB 155 (AG 5 (tm 153) (tm 154))),(uB 156 (AR 5 (tm 155))),(uB 157 (AG 5 (tm 145) (tm 146))),(CO.mk G.none D.none Bool.true (CR.mk (Af 5 (tm 157) (tm 152)))),(uB 158 (AG 5 (tm 147) (tm 148))),(CO.mk G.none D.none Bool.true (CR.mk (Af 5 (tm 158) (tm 156))))] none) WU)
abbrev ZW:CC:=(CC.seq Yt gf)
abbrev cy:CC:=(CC.seq hY ZW)
abbrev Xo:CC:=(CC.seq ao cy)
abbrev wA:CC:=(CC.block 5 Xo)
abbrev dg:CC:=(CC.loop wA)
abbrev Ww:CC:=(CC.block 4 dg)
abbrev Yo:CC:=(CC.seq (CC.region [(wB 177 (AA (tm 13))),(wB 10 (AA (tm 177))),(wB 11 (AA (O.c (V.b Bool.false))))]) CC.ret)
abbrev Yf:CC:=(CC.seq (CC.Az [(uB 163 (AA (tm 0))),(uB 164 (AA (tm 13))),(uB 165 (AA (tm 0))),(uB 166 (AA (tm 1))),(uB 167 (AA (tm 0))),(uB 168 (AA (tm 1))),(uB 169 (AG 5 (tm 167) (tm 168))),(uB 170 (AR 5 (tm 169))),(uB 171 (AA (tm 0))),(uB 172 (AA (tm 13))),(uB 173 (AG 5 (tm 171) (tm 172))),(uB 174 (AR 5 (tm 173))),(uB 175 (AG 5 (tm 163) (tm 164))),(CO.mk G.none D.none Bool.true (CR.mk (Af 5 (tm 175) (tm 170)))),(uB 176 (AG 5 (tm 165) (tm 166))),(CO.mk G.none D.none Bool.true (CR.mk (Af 5 (tm 176) (tm 174))))] none) Yo)
abbrev iN:CC:=(CC.seq Ww Yf)
abbrev fx:CC:=(CC.seq (CC.region [(wB 103 (AA (tm 13))),(wB 104 (AM Bp (tm 103) (oN 1))),(wB 13 (AA (tm 104)))]) iN)
abbrev Xv:CC:=(CC.seq (CC.region [(wB 101 (AA (tm 12))),(wB 102 (AM A4 (tm 101) (oN 1))),(wB 12 (AA (tm 102)))]) fx)
abbrev WV:CC:=(CC.seq (CC.Az [(uB 87 (AA (tm 0))),(uB 88 (AA (tm 12))),(uB 89 (AA (tm 0))),(uB 90 (AA (tm 13))),(uB 91 (AA (tm 0))),(uB 92 (AA (tm 13))),(uB 93 (AG 5 (tm 91) (tm 92))),(uB 94 (AR 5 (tm 93))),(uB 95 (AA (tm 0))),(uB 96 (AA (tm 12))),(uB 97 (AG 5 (tm 95) (tm 96))),(uB 98 (AR 5 (tm 97))),(uB 99 (AG 5 (tm 87) (tm 88))),(CO.mk G.none D.none Bool.true (CR.mk (Af 5 (tm 99) (tm 94)))),(uB 100 (AG 5 (tm 89) (tm 90))),(CO.mk G.none D.none Bool.true (CR.mk (Af 5 (tm 100) (tm 98))))] none) Xv)
abbrev iq:CC:=(CC.seq eZ WV)
abbrev fa:CC:=(CC.seq dR iq)
abbrev ax:CC:=(CC.seq ub fa)
abbrev Yj:CC:=(CC.seq (CC.region [(wB 28 (AA (tm 1))),(wB 29 (AM A4 (tm 28) (oN 1))),(wB 30 (AA (tm 2))),(wB 31 (AM Bp (tm 30) (oN 1))),(wB 12 (AA (tm 29))),(wB 13 (AA (tm 31)))]) ax)
abbrev WW:CC:=(CC.seq (CC.Az [(uB 14 (AA (tm 0))),(uB 15 (AA (tm 1))),(uB 16 (AA (tm 0))),(uB 17 (AA (tm 3))),(uB 18 (AA (tm 0))),(uB 19 (AA (tm 3))),(uB 20 (AG 5 (tm 18) (tm 19))),(uB 21 (AR 5 (tm 20))),(uB 22 (AA (tm 0))),(uB 23 (AA (tm 1))),(uB 24 (AG 5 (tm 22) (tm 23))),(uB 25 (AR 5 (tm 24))),(uB 26 (AG 5 (tm 14) (tm 15))),(CO.mk G.none D.none Bool.true (CR.mk (Af 5 (tm 26) (tm 21)))),(uB 27 (AG 5 (tm 16) (tm 17))),(CO.mk G.none D.none Bool.true (CR.mk (Af 5 (tm 27) (tm 25))))] none) Yj)
abbrev b88:CC:=(CC.seq (CC.region [(wB 10 (AA (oN 0))),(wB 11 (AA (O.c (V.b Bool.false))))]) WW)
theorem c88:AY Try.prog 88=⟨178,b88,[(Rs.tmp (AT 10)),(Rs.tmp (AT 11))]⟩:=by kernel_rfl
abbrev yS:CC:=(CC.cond (tm 47) CC.skip (CC.exit 2))
abbrev qP:CC:=(CC.seq (CC.Az [(uB 31 (AA (tm 11))),(uB 32 (AA (tm 12))),(uB 33 (AM Ds (tm 31) (tm 32))),(uB 34 (AA (tm 33))),(uG 34 true 35 (AA (tm 4))),(uG 34 true 36 (AA (tm 0))),(uG 34 true 37 (AA (tm 1))),(uG 34 true 38 (AG 5 (tm 36) (tm 37))),(uG 34 true 39 (AR 5 (tm 38))),(uG 34 true 40 (AA (tm 0))),(uG 34 true 41 (AA (tm 11))),(uG 34 true 42 (AG 5 (tm 40) (tm 41))),(uG 34 true 43 (AR 5 (tm 42))),(wG 34 true 44 (Bg (tm 35) [(tm 39),(tm 43)])),(uG 34 true 45 (AM BV (tm 44) (oN 0))),(uG 34 true 46 (Bz (tm 45))),(uB 47 (Ag (tm 34) (tm 46) (O.c (V.b Bool.false))))] none) yS)
abbrev qR:CC:=(CC.region [(wB 48 (AA (tm 11))),(wB 49 (AM A4 (tm 48) (oN 1))),(wB 11 (AA (tm 49)))])
abbrev wm:CC:=(CC.block 3 qR)
abbrev qa:CC:=(CC.seq qP wm)
abbrev xx:CC:=(CC.loop qa)
abbrev kF:CC:=(CC.block 2 xx)
abbrev nW:CC:=(CC.cond (tm 65) CC.skip (CC.exit 4))
abbrev lD:CC:=(CC.seq (CC.Az [(uB 50 (AA (tm 11))),(uB 51 (AA (tm 12))),(uB 52 (AM Ds (tm 50) (tm 51))),(uB 53 (AA (tm 52))),(uG 53 true 54 (AA (tm 4))),(uG 53 true 55 (AA (tm 0))),(uG 53 true 56 (AA (tm 1))),(uG 53 true 57 (AG 5 (tm 55) (tm 56))),(uG 53 true 58 (AR 5 (tm 57))),(uG 53 true 59 (AA (tm 0))),(uG 53 true 60 (AA (tm 12))),(uG 53 true 61 (AG 5 (tm 59) (tm 60))),(uG 53 true 62 (AR 5 (tm 61))),(wG 53 true 63 (Bg (tm 54) [(tm 58),(tm 62)])),(uG 53 true 64 (AM BV (tm 63) (oN 0))),(uB 65 (Ag (tm 53) (tm 64) (O.c (V.b Bool.false))))] none) nW)
abbrev mH:CC:=(CC.region [(wB 66 (AA (tm 12))),(wB 67 (AM Bp (tm 66) (oN 1))),(wB 12 (AA (tm 67)))])
abbrev nF:CC:=(CC.block 5 mH)
abbrev nj:CC:=(CC.seq lD nF)
abbrev Wh:CC:=(CC.loop nj)
abbrev YN:CC:=(CC.block 4 Wh)
abbrev ZC:CC:=(CC.cond (tm 70) (CC.exit 0) CC.skip)
abbrev cQ:CC:=(CC.seq (CC.region [(wB 68 (AA (tm 11))),(wB 69 (AA (tm 12))),(wB 70 (AM Cj (tm 68) (tm 69)))]) ZC)
abbrev fZ:CC:=(CC.region [(wB 87 (AA (tm 12))),(wB 88 (AM Bp (tm 87) (oN 1))),(wB 12 (AA (tm 88)))])
abbrev dY:CC:=(CC.seq (CC.region [(wB 85 (AA (tm 11))),(wB 86 (AM A4 (tm 85) (oN 1))),(wB 11 (AA (tm 86)))]) fZ)
abbrev cI:CC:=(CC.seq (CC.Az [(uB 71 (AA (tm 0))),(uB 72 (AA (tm 11))),(uB 73 (AA (tm 0))),(uB 74 (AA (tm 12))),(uB 75 (AA (tm 0))),(uB 76 (AA (tm 12))),(uB 77 (AG 5 (tm 75) (tm 76))),(uB 78 (AR 5 (tm 77))),(uB 79 (AA (tm 0))),(uB 80 (AA (tm 11))),(uB 81 (AG 5 (tm 79) (tm 80))),(uB 82 (AR 5 (tm 81))),(uB 83 (AG 5 (tm 71) (tm 72))),(CO.mk G.none D.none Bool.true (CR.mk (Af 5 (tm 83) (tm 78)))),(uB 84 (AG 5 (tm 73) (tm 74))),(CO.mk G.none D.none Bool.true (CR.mk (Af 5 (tm 84) (tm 82))))] none) dY)
abbrev gO:CC:=(CC.seq cQ cI)
abbrev bJ:CC:=(CC.seq YN gO)
abbrev Zn:CC:=(CC.seq kF bJ)
abbrev yh:CC:=(CC.block 1 Zn)
abbrev jc:CC:=(CC.loop yh)
abbrev WX:CC:=(CC.block 0 jc)
abbrev Z1:CC:=(CC.seq (CC.region [(wB 89 (AA (tm 11))),(wB 10 (AA (tm 89)))]) CC.ret)
abbrev aZ:CC:=(CC.seq WX Z1)
abbrev Zu:CC:=(CC.seq (CC.region [(wB 27 (AA (tm 1))),(wB 28 (AM A4 (tm 27) (oN 1))),(wB 29 (AA (tm 2))),(wB 30 (AM Bp (tm 29) (oN 1))),(wB 11 (AA (tm 28))),(wB 12 (AA (tm 30)))]) aZ)
abbrev Wx:CC:=(CC.seq (CC.Az [(uB 13 (AA (tm 0))),(uB 14 (AA (tm 1))),(uB 15 (AA (tm 0))),(uB 16 (AA (tm 3))),(uB 17 (AA (tm 0))),(uB 18 (AA (tm 3))),(uB 19 (AG 5 (tm 17) (tm 18))),(uB 20 (AR 5 (tm 19))),(uB 21 (AA (tm 0))),(uB 22 (AA (tm 1))),(uB 23 (AG 5 (tm 21) (tm 22))),(uB 24 (AR 5 (tm 23))),(uB 25 (AG 5 (tm 13) (tm 14))),(CO.mk G.none D.none Bool.true (CR.mk (Af 5 (tm 25) (tm 20)))),(uB 26 (AG 5 (tm 15) (tm 16))),(CO.mk G.none D.none Bool.true (CR.mk (Af 5 (tm 26) (tm 24))))] none) Zu)
abbrev b87:CC:=(CC.seq (CC.region [(wB 10 (AA (oN 0)))]) Wx)
theorem c87:AY Try.prog 87=⟨90,b87,[(Rs.tmp (AT 10))]⟩:=by kernel_rfl
abbrev v5:CC:=(CC.cond (tm 16) CC.skip (CC.exit 0))
abbrev n6:CC:=(CC.seq (CC.region [(wB 15 (AA (tm 10))),(wB 16 (AM BV (tm 15) (oN 5)))]) v5)
abbrev yd:CC:=(CC.cond (tm 36) CC.skip (CC.exit 2))
abbrev mI:CC:=(CC.seq (CC.Az [(uB 19 (AA (tm 9))),(uB 20 (AA (tm 2))),(uB 21 (AM BV (tm 19) (tm 20))),(uB 22 (AA (tm 21))),(uG 22 true 23 (AA (tm 3))),(uG 22 true 24 (AA (tm 0))),(uG 22 true 25 (AA (tm 9))),(uG 22 true 26 (AG 5 (tm 24) (tm 25))),(uG 22 true 27 (AR 5 (tm 26))),(uG 22 true 28 (AA (tm 0))),(uG 22 true 29 (AA (tm 9))),(uG 22 true 30 (AM Bp (tm 29) (oN 1))),(uG 22 true 31 (AG 5 (tm 28) (tm 30))),(uG 22 true 32 (AR 5 (tm 31))),(wG 22 true 33 (Bg (tm 23) [(tm 27),(tm 32)])),(uG 22 true 34 (AM BV (tm 33) (oN 0))),(uG 22 true 35 (Bz (tm 34))),(uB 36 (Ag (tm 22) (tm 35) (O.c (V.b Bool.false))))] none) yd)
abbrev kE:CC:=(CC.region [(wB 37 (AA (tm 9))),(wB 38 (AM A4 (tm 37) (oN 1))),(wB 9 (AA (tm 38)))])
abbrev tQ:CC:=(CC.block 3 kE)
abbrev qU:CC:=(CC.seq mI tQ)
abbrev zm:CC:=(CC.loop qU)
abbrev mB:CC:=(CC.block 2 zm)
abbrev zd:CC:=(CC.seq (CC.region [(wB 8 (AA (O.c (V.b Bool.true))))]) CC.ret)
abbrev va:CC:=(CC.cond (tm 41) zd CC.skip)
abbrev Ye:CC:=(CC.seq (CC.region [(wB 39 (AA (tm 9))),(wB 40 (AA (tm 2))),(wB 41 (AM DR (tm 39) (tm 40)))]) va)
abbrev Xe:CC:=(CC.seq (CC.region [(wB 8 (AA (O.c (V.b Bool.false))))]) CC.ret)
abbrev jB:CC:=(CC.cond (tm 45) Xe CC.skip)
abbrev bX:CC:=(CC.seq (CC.region [(wB 42 (AA (tm 2))),(wB 43 (AA (tm 1))),(wB 44 (AM Bp (tm 42) (tm 43))),(wB 45 (AM BV (tm 44) (oN 50)))]) jB)
abbrev fT:CC:=(CC.cond (tm 69) CC.skip (CC.exit 4))
abbrev fX:CC:=(CC.seq (CC.region [(wB 68 (AA (tm 11))),(wB 69 (AM Dc (tm 68) (oN 1)))]) fT)
abbrev ZE:CC:=(CC.cond (tm 84) (CC.exit 4) CC.skip)
abbrev Xd:CC:=(CC.seq (CC.Az [(uB 72 (AA (tm 3))),(uB 73 (AA (tm 0))),(uB 74 (AA (tm 11))),(uB 75 (AG 5 (tm 73) (tm 74))),(uB 76 (AR 5 (tm 75))),(uB 77 (AA (tm 0))),(uB 78 (AA (tm 11))),(uB 79 (AM Bp (tm 78) (oN 1))),(uB 80 (AG 5 (tm 77) (tm 79))),(uB 81 (AR 5 (tm 80))),(wB 82 (Bg (tm 72) [(tm 76),(tm 81)])),(uB 83 (AM BV (tm 82) (oN 0))),(uB 84 (Bz (tm 83)))] none) ZE)
abbrev Xy:CC:=(CC.Az [(uB 85 (AA (tm 0))),(uB 86 (AA (tm 11))),(uB 87 (AA (tm 0))),(uB 88 (AA (tm 11))),(uB 89 (AM Bp (tm 88) (oN 1))),(uB 90 (AA (tm 0))),(uB 91 (AA (tm 11))),(uB 92 (AM Bp (tm 91) (oN 1))),(uB 93 (AG 5 (tm 90) (tm 92))),(uB 94 (AR 5 (tm 93))),(uB 95 (AA (tm 0))),(uB 96 (AA (tm 11))),(uB 97 (AG 5 (tm 95) (tm 96))),(uB 98 (AR 5 (tm 97))),(uB 99 (AG 5 (tm 85) (tm 86))),(CO.mk G.none D.none Bool.true (CR.mk (Af 5 (tm 99) (tm 94)))),(uB 100 (AG 5 (tm 87) (tm 89))),(CO.mk G.none D.none Bool.true (CR.mk (Af 5 (tm 100) (tm 98))))] none)
abbrev Y7:CC:=(CC.seq Xd Xy)
abbrev fD:CC:=(CC.block 5 Y7)
abbrev hU:CC:=(CC.region [(wB 70 (AA (tm 11))),(wB 71 (AM Bp (tm 70) (oN 1))),(wB 11 (AA (tm 71)))])
abbrev fR:CC:=(CC.seq fD hU)
abbrev ou:CC:=(CC.seq fX fR)
abbrev iJ:CC:=(CC.loop ou)
abbrev YA:CC:=(CC.block 4 iJ)
abbrev ZD:CC:=(CC.seq (CC.region [(wB 66 (AA (tm 9))),(wB 67 (AM Bp (tm 66) (oN 1))),(wB 11 (AA (tm 67)))]) YA)
abbrev fc:CC:=(CC.cond (tm 65) ZD CC.skip)
abbrev jR:CC:=(CC.seq (CC.region [(wB 62 (AA (tm 9))),(wB 63 (AA (tm 1))),(wB 64 (AM Bp (tm 62) (tm 63))),(wB 65 (AM Dc (tm 64) (oN 2)))]) fc)
abbrev fo:CC:=(CC.cond (tm 109) CC.skip (CC.exit 6))
abbrev Xa:CC:=(CC.seq (CC.region [(wB 107 (AA (tm 12))),(wB 108 (AA (tm 2))),(wB 109 (AM BV (tm 107) (tm 108)))]) fo)
abbrev cC:CC:=(CC.cond (tm 124) (CC.exit 6) CC.skip)
abbrev jZ:CC:=(CC.seq (CC.Az [(uB 112 (AA (tm 3))),(uB 113 (AA (tm 0))),(uB 114 (AA (tm 12))),(uB 115 (AG 5 (tm 113) (tm 114))),(uB 116 (AR 5 (tm 115))),(uB 117 (AA (tm 0))),(uB 118 (AA (tm 12))),(uB 119 (AM Bp (tm 118) (oN 1))),(uB 120 (AG 5 (tm 117) (tm 119))),(uB 121 (AR 5 (tm 120))),(wB 122 (Bg (tm 112) [(tm 116),(tm 121)])),(uB 123 (AM BV (tm 122) (oN 0))),(uB 124 (Bz (tm 123)))] none) cC)
abbrev iR:CC:=(CC.Az [(uB 125 (AA (tm 0))),(uB 126 (AA (tm 12))),(uB 127 (AA (tm 0))),(uB 128 (AA (tm 12))),(uB 129 (AM Bp (tm 128) (oN 1))),(uB 130 (AA (tm 0))),(uB 131 (AA (tm 12))),(uB 132 (AM Bp (tm 131) (oN 1))),(uB 133 (AG 5 (tm 130) (tm 132))),(uB 134 (AR 5 (tm 133))),(uB 135 (AA (tm 0))),(uB 136 (AA (tm 12))),(uB 137 (AG 5 (tm 135) (tm 136))),(uB 138 (AR 5 (tm 137))),(uB 139 (AG 5 (tm 125) (tm 126))),(CO.mk G.none D.none Bool.true (CR.mk (Af 5 (tm 139) (tm 134)))),(uB 140 (AG 5 (tm 127) (tm 129))),(CO.mk G.none D.none Bool.true (CR.mk (Af 5 (tm 140) (tm 138))))] none)
abbrev df:CC:=(CC.seq jZ iR)
abbrev av:CC:=(CC.block 7 df)
abbrev bg:CC:=(CC.region [(wB 110 (AA (tm 12))),(wB 111 (AM A4 (tm 110) (oN 1))),(wB 12 (AA (tm 111)))])
abbrev bP:CC:=(CC.seq av bg)
abbrev rF:CC:=(CC.seq Xa bP)
abbrev iz:CC:=(CC.loop rF)
abbrev bd:CC:=(CC.block 6 iz)
abbrev ba:CC:=(CC.seq (CC.region [(wB 105 (AA (tm 9))),(wB 106 (AM A4 (tm 105) (oN 1))),(wB 12 (AA (tm 106)))]) bd)
abbrev Yv:CC:=(CC.cond (tm 104) ba CC.skip)
abbrev RH:CC:=(CC.seq (CC.region [(wB 101 (AA (tm 2))),(wB 102 (AA (tm 9))),(wB 103 (AM Bp (tm 101) (tm 102))),(wB 104 (AM Dc (tm 103) (oN 2)))]) Yv)
abbrev Xw:CC:=(CC.seq jR RH)
abbrev XU:CC:=(CC.seq (CC.Az [(uB 46 (AA (tm 0))),(uB 47 (AA (tm 9))),(uB 48 (AA (tm 0))),(uB 49 (AA (tm 9))),(uB 50 (AM Bp (tm 49) (oN 1))),(uB 51 (AA (tm 0))),(uB 52 (AA (tm 9))),(uB 53 (AM Bp (tm 52) (oN 1))),(uB 54 (AG 5 (tm 51) (tm 53))),(uB 55 (AR 5 (tm 54))),(uB 56 (AA (tm 0))),(uB 57 (AA (tm 9))),(uB 58 (AG 5 (tm 56) (tm 57))),(uB 59 (AR 5 (tm 58))),(uB 60 (AG 5 (tm 46) (tm 47))),(CO.mk G.none D.none Bool.true (CR.mk (Af 5 (tm 60) (tm 55)))),(uB 61 (AG 5 (tm 48) (tm 50))),(CO.mk G.none D.none Bool.true (CR.mk (Af 5 (tm 61) (tm 59))))] none) Xw)
abbrev gS:CC:=(CC.seq bX XU)
abbrev Y3:CC:=(CC.seq Ye gS)
abbrev cA:CC:=(CC.seq mB Y3)
abbrev bI:CC:=(CC.block 1 cA)
abbrev cN:CC:=(CC.region [(wB 17 (AA (tm 10))),(wB 18 (AM A4 (tm 17) (oN 1))),(wB 10 (AA (tm 18)))])
abbrev ZX:CC:=(CC.seq bI cN)
abbrev y4:CC:=(CC.seq n6 ZX)
abbrev gW:CC:=(CC.loop y4)
abbrev Xz:CC:=(CC.block 0 gW)
abbrev Yx:CC:=(CC.seq (CC.region [(wB 10 (AA (oN 0)))]) Xz)
abbrev aR:CC:=(CC.seq (CC.region [(wB 8 (AA (O.c (V.b Bool.false))))]) CC.ret)
abbrev Xj:CC:=(CC.seq Yx aR)
abbrev dK:CC:=(CC.seq (CC.region [(wB 13 (AA (tm 1))),(wB 14 (AM A4 (tm 13) (oN 1))),(wB 9 (AA (tm 14)))]) Xj)
abbrev b86:CC:=(CC.seq (CC.region [(wB 8 (AA (O.c (V.b Bool.false))))]) dK)
theorem c86:AY Try.prog 86=⟨141,b86,[(Rs.tmp (AT 8))]⟩:=by kernel_rfl
abbrev yf:CC:=(CC.cond (tm 35) CC.skip (CC.exit 0))
abbrev mA:CC:=(CC.seq (CC.region [(wB 28 (AA (tm 11))),(wB 29 (AA (tm 1))),(wB 30 (AA (tm 8))),(wB 31 (AM Kk (tm 30) (oN 4))),(wB 32 (AM HP (tm 31) (oN 2))),(wB 33 (AM A4 (tm 29) (tm 32))),(wB 34 (AM A4 (tm 33) (oN 1))),(wB 35 (AM Ds (tm 28) (tm 34)))]) yf)
abbrev kA:CC:=(CC.region [(wB 46 (AA (tm 12))),(wB 47 (AA (tm 8))),(wB 48 (AM Bp (tm 46) (tm 47))),(wB 12 (AA (tm 48)))])
abbrev ui:CC:=(CC.cond (tm 45) kA CC.skip)
abbrev qE:CC:=(CC.seq (CC.region [(wB 43 (AA (tm 12))),(wB 44 (AA (tm 8))),(wB 45 (AM Dc (tm 43) (tm 44)))]) ui)
abbrev zQ:CC:=(CC.Az [(uB 49 (AA (tm 0))),(uB 50 (AA (tm 11))),(uB 51 (AA (tm 0))),(uB 52 (AA (tm 1))),(uB 53 (AA (tm 12))),(uB 54 (AM A4 (tm 52) (tm 53))),(uB 55 (AA (tm 0))),(uB 56 (AA (tm 1))),(uB 57 (AA (tm 12))),(uB 58 (AM A4 (tm 56) (tm 57))),(uB 59 (AG 5 (tm 55) (tm 58))),(uB 60 (AR 5 (tm 59))),(uB 61 (AA (tm 0))),(uB 62 (AA (tm 11))),(uB 63 (AG 5 (tm 61) (tm 62))),(uB 64 (AR 5 (tm 63))),(uB 65 (AG 5 (tm 49) (tm 50))),(CO.mk G.none D.none Bool.true (CR.mk (Af 5 (tm 65) (tm 60)))),(uB 66 (AG 5 (tm 51) (tm 54))),(CO.mk G.none D.none Bool.true (CR.mk (Af 5 (tm 66) (tm 64))))] none)
abbrev zB:CC:=(CC.seq qE zQ)
abbrev rh:CC:=(CC.seq (CC.region [(wB 38 (Ab 95 [(tm 9)])),(wB 39 (AA (tm 10))),(wB 40 (AM Bp (tm 39) (O.c (V.i IntKind.u64 (Int.ofNat 1))))),(wB 41 (AM Mt (tm 38) (tm 40))),(wB 42 (Be IntKind.i64 (tm 41))),(wB 12 (AA (tm 42)))]) zB)
abbrev pV:CC:=(CC.block 1 rh)
abbrev oC:CC:=(CC.region [(wB 36 (AA (tm 11))),(wB 37 (AM A4 (tm 36) (oN 1))),(wB 11 (AA (tm 37)))])
abbrev hH:CC:=(CC.seq pV oC)
abbrev vi:CC:=(CC.seq mA hH)
abbrev bm:CC:=(CC.loop vi)
abbrev cq:CC:=(CC.block 0 bm)
abbrev hD:CC:=(CC.seq (CC.region [(wB 22 (AA (tm 1))),(wB 23 (AA (tm 8))),(wB 24 (AM Kk (tm 23) (oN 4))),(wB 25 (AM HP (tm 24) (oN 2))),(wB 26 (AM A4 (tm 22) (tm 25))),(wB 27 (AM Bp (tm 26) (oN 1))),(wB 11 (AA (tm 27)))]) cq)
abbrev eI:CC:=(CC.seq (CC.region [(wB 20 (AA (tm 8))),(wB 21 (Ab 94 [(tm 20)])),(wB 10 (AA (tm 21)))]) hD)
abbrev ZJ:CC:=(CC.seq (CC.region [(wB 18 (AA (tm 8))),(wB 19 (Be IntKind.u64 (tm 18))),(wB 9 (Bw 128 [(V.i IntKind.u64 (Int.ofNat 0))])),(CO.mk G.none D.none Bool.true (CR.mk (Af 1 (tm 9) (tm 19))))]) eI)
abbrev Zw:CC:=(CC.cond (tm 17) ZJ CC.skip)
abbrev Z2:CC:=(CC.seq (CC.region [(wB 16 (AA (tm 8))),(wB 17 (AM Dc (tm 16) (oN 8)))]) Zw)
abbrev b83:CC:=(CC.seq (CC.region [(wB 13 (AA (tm 2))),(wB 14 (AA (tm 1))),(wB 15 (AM Bp (tm 13) (tm 14))),(wB 8 (AA (tm 15)))]) Z2)
theorem c83:AY Try.prog 83=⟨67,b83,[]⟩:=by kernel_rfl
abbrev pB:CC:=(CC.region [(wB 45 (AA (tm 0))),(wB 46 (AA (tm 14))),(wB 47 (AA (tm 3))),(wB 48 (Ab 96 [(tm 45),(tm 46),(tm 11),(tm 47)])),(wB 14 (AA (tm 48)))])
abbrev xW:CC:=(CC.seq (CC.region [(wB 41 (AA (tm 0))),(wB 42 (AA (tm 13))),(wB 43 (AA (tm 3))),(wB 44 (Ab 96 [(tm 41),(tm 42),(tm 11),(tm 43)])),(wB 13 (AA (tm 44)))]) pB)
abbrev sc:CC:=(CC.seq (CC.region [(wB 37 (AA (tm 0))),(wB 38 (AA (tm 12))),(wB 39 (AA (tm 3))),(wB 40 (Ab 96 [(tm 37),(tm 38),(tm 11),(tm 39)])),(wB 12 (AA (tm 40)))]) xW)
abbrev uq:CC:=(CC.cond (tm 36) sc CC.skip)
abbrev kK:CC:=(CC.seq (CC.region [(wB 35 (AA (tm 10))),(wB 36 (AM Dc (tm 35) (oN 50)))]) uq)
abbrev jx:CC:=(CC.region [(wB 49 (AA (tm 0))),(wB 50 (AA (tm 12))),(wB 51 (AA (tm 13))),(wB 52 (AA (tm 14))),(wB 53 (AA (tm 3))),(wB 54 (Ab 97 [(tm 49),(tm 50),(tm 51),(tm 52),(tm 11),(tm 53)])),(wB 13 (AA (tm 54)))])
abbrev sf:CC:=(CC.seq kK jx)
abbrev tL:CC:=(CC.cond (tm 34) sf CC.skip)
abbrev mC:CC:=(CC.seq (CC.region [(wB 33 (AA (tm 10))),(wB 34 (AM Dc (tm 33) (oN 8)))]) tL)
abbrev j7:CC:=(CC.seq (CC.region [(wB 59 (AA (tm 13))),(wB 8 (AA (tm 59))),(wB 9 (AA (oN 1)))]) CC.ret)
abbrev gJ:CC:=(CC.seq (CC.region [(wB 62 (AA (tm 13))),(wB 8 (AA (tm 62))),(wB 9 (AA (oN 2)))]) CC.ret)
abbrev Zb:CC:=(CC.seq (CC.region [(wB 56 (AA (tm 13))),(wB 8 (AA (tm 56))),(wB 9 (AA (oN 0)))]) CC.ret)
abbrev Yd:CC:=(CC.cond (tm 60) gJ Zb)
abbrev X6:CC:=(CC.seq (CC.region [(wB 61 (AM DR (tm 55) (oN 12))),(wB 60 (AA (tm 61)))]) Yd)
abbrev Zj:CC:=(CC.cond (tm 57) j7 X6)
abbrev YJ:CC:=(CC.seq (CC.region [(wB 58 (AM DR (tm 55) (oN 0))),(wB 57 (AA (tm 58)))]) Zj)
abbrev ah:CC:=(CC.block 0 YJ)
abbrev YB:CC:=(CC.seq (CC.region [(wB 55 (AK (tm 11)))]) ah)
abbrev YZ:CC:=(CC.seq mC YB)
abbrev ZL:CC:=(CC.seq (CC.region [(wB 28 (AA (tm 1))),(wB 29 (AA (tm 10))),(wB 30 (AM Kk (tm 29) (oN 4))),(wB 31 (AM HP (tm 30) (oN 3))),(wB 32 (AM A4 (tm 28) (tm 31))),(wB 14 (AA (tm 32)))]) YZ)
abbrev eC:CC:=(CC.seq (CC.region [(wB 23 (AA (tm 1))),(wB 24 (AA (tm 10))),(wB 25 (AM Kk (tm 24) (oN 4))),(wB 26 (AM HP (tm 25) (oN 2))),(wB 27 (AM A4 (tm 23) (tm 26))),(wB 13 (AA (tm 27)))]) ZL)
abbrev gk:CC:=(CC.seq (CC.region [(wB 18 (AA (tm 1))),(wB 19 (AA (tm 10))),(wB 20 (AM Kk (tm 19) (oN 4))),(wB 21 (AM HP (tm 20) (oN 1))),(wB 22 (AM A4 (tm 18) (tm 21))),(wB 12 (AA (tm 22)))]) eC)
abbrev XP:CC:=(CC.seq (CC.region [(wB 11 (Bw 3 [(V.i IntKind.i64 (Int.ofNat 0))]))]) gk)
abbrev Zh:CC:=(CC.seq (CC.region [(wB 15 (AA (tm 2))),(wB 16 (AA (tm 1))),(wB 17 (AM Bp (tm 15) (tm 16))),(wB 10 (AA (tm 17)))]) XP)
abbrev b84:CC:=(CC.seq (CC.region [(wB 8 (AA (oN 0))),(wB 9 (AA (oN 0)))]) Zh)
theorem c84:AY Try.prog 84=⟨63,b84,[(Rs.tmp (AT 8)),(Rs.tmp (AT 9))]⟩:=by kernel_rfl
abbrev oW:CC:=(CC.seq (CC.region [(wB 28 (AA (tm 2))),(wB 29 (AA (tm 1))),(wB 10 (AA (tm 28))),(wB 11 (AA (tm 29)))]) CC.ret)
abbrev kP:CC:=(CC.seq (CC.region [(wB 23 (AA (tm 3))),(wB 24 (AZ (tm 23))),(wB 25 (AK (tm 24))),(wB 26 (AM A4 (tm 25) (oN 1))),(wB 27 (AZ (tm 23))),(CO.mk G.none D.none Bool.true (CR.mk (Af 1 (tm 27) (tm 26))))]) oW)
abbrev vz:CC:=(CC.cond (tm 22) kP CC.skip)
abbrev tZ:CC:=(CC.seq (CC.Az [(uB 12 (AA (tm 4))),(uB 13 (AA (tm 0))),(uB 14 (AA (tm 2))),(uB 15 (AG 5 (tm 13) (tm 14))),(uB 16 (AR 5 (tm 15))),(uB 17 (AA (tm 0))),(uB 18 (AA (tm 1))),(uB 19 (AG 5 (tm 17) (tm 18))),(uB 20 (AR 5 (tm 19))),(wB 21 (Bg (tm 12) [(tm 16),(tm 20)])),(uB 22 (AM BV (tm 21) (oN 0)))] none) vz)
abbrev yQ:CC:=(CC.seq (CC.region [(wB 30 (AA (tm 1))),(wB 31 (AA (tm 2))),(wB 10 (AA (tm 30))),(wB 11 (AA (tm 31)))]) CC.ret)
abbrev tq:CC:=(CC.seq tZ yQ)
abbrev b99:CC:=(CC.seq (CC.region [(wB 10 (AA (oN 0))),(wB 11 (AA (oN 0)))]) tq)
theorem c99:AY Try.prog 99=⟨32,b99,[(Rs.tmp (AT 10)),(Rs.tmp (AT 11))]⟩:=by kernel_rfl
abbrev lU:CC:=(CC.seq (CC.region [(wB 40 (AA (tm 2))),(wB 12 (AA (tm 40)))]) CC.ret)
abbrev ue:CC:=(CC.seq (CC.region [(wB 32 (AA (tm 0))),(wB 33 (AA (tm 1))),(wB 34 (AA (tm 2))),(wB 35 (AA (tm 4))),(wB 36 (AA (tm 5))),(wB 37 (Ab 99 [(tm 32),(tm 33),(tm 34),(tm 35),(tm 36)])),(wB 31 (AA (tm 37))),(wB 38 (A2 0 (tm 31))),(wB 39 (A2 1 (tm 31))),(wB 1 (AA (tm 38))),(wB 2 (AA (tm 39)))]) lU)
abbrev nH:CC:=(CC.seq (CC.region [(wB 23 (AA (tm 0))),(wB 24 (AA (tm 2))),(wB 25 (AA (tm 3))),(wB 26 (AA (tm 4))),(wB 27 (AA (tm 5))),(wB 28 (Ab 99 [(tm 23),(tm 24),(tm 25),(tm 26),(tm 27)])),(wB 22 (AA (tm 28))),(wB 29 (A2 0 (tm 22))),(wB 30 (A2 1 (tm 22))),(wB 2 (AA (tm 29))),(wB 3 (AA (tm 30)))]) ue)
abbrev mW:CC:=(CC.seq (CC.region [(wB 14 (AA (tm 0))),(wB 15 (AA (tm 1))),(wB 16 (AA (tm 2))),(wB 17 (AA (tm 4))),(wB 18 (AA (tm 5))),(wB 19 (Ab 99 [(tm 14),(tm 15),(tm 16),(tm 17),(tm 18)])),(wB 13 (AA (tm 19))),(wB 20 (A2 0 (tm 13))),(wB 21 (A2 1 (tm 13))),(wB 1 (AA (tm 20))),(wB 2 (AA (tm 21)))]) nH)
abbrev b97:CC:=(CC.seq (CC.region [(wB 12 (AA (oN 0)))]) mW)
theorem c97:AY Try.prog 97=⟨41,b97,[(Rs.tmp (AT 12))]⟩:=by kernel_rfl
abbrev zF:CC:=(CC.seq (CC.region [(wB 9 (AA (tm 0))),(wB 10 (AA (tm 1))),(wB 11 (AM Bp (tm 10) (oN 1))),(wB 12 (AA (tm 1))),(wB 13 (AA (tm 1))),(wB 14 (AM A4 (tm 13) (oN 1))),(wB 15 (AA (tm 2))),(wB 16 (AA (tm 3))),(wB 17 (Ab 97 [(tm 9),(tm 11),(tm 12),(tm 14),(tm 15),(tm 16)])),(wB 8 (AA (tm 17)))]) CC.ret)
abbrev b96:CC:=(CC.seq (CC.region [(wB 8 (AA (oN 0)))]) zF)
theorem c96:AY Try.prog 96=⟨18,b96,[(Rs.tmp (AT 8))]⟩:=by kernel_rfl
abbrev rZ:CC:=(CC.cond (tm 15) CC.skip (CC.exit 0))
abbrev xz:CC:=(CC.seq (CC.region [(wB 13 (AA (tm 8))),(wB 14 (AA (tm 9))),(wB 15 (AM BV (tm 13) (tm 14)))]) rZ)
abbrev oF:CC:=(CC.region [(wB 32 (AA (tm 9))),(wB 33 (AM Bp (tm 32) (oN 1))),(wB 9 (AA (tm 33)))])
abbrev wO:CC:=(CC.seq (CC.region [(wB 30 (AA (tm 8))),(wB 31 (AM A4 (tm 30) (oN 1))),(wB 8 (AA (tm 31)))]) oF)
abbrev mD:CC:=(CC.seq (CC.Az [(uB 16 (AA (tm 0))),(uB 17 (AA (tm 8))),(uB 18 (AA (tm 0))),(uB 19 (AA (tm 9))),(uB 20 (AA (tm 0))),(uB 21 (AA (tm 9))),(uB 22 (AG 5 (tm 20) (tm 21))),(uB 23 (AR 5 (tm 22))),(uB 24 (AA (tm 0))),(uB 25 (AA (tm 8))),(uB 26 (AG 5 (tm 24) (tm 25))),(uB 27 (AR 5 (tm 26))),(uB 28 (AG 5 (tm 16) (tm 17))),(CO.mk G.none D.none Bool.true (CR.mk (Af 5 (tm 28) (tm 23)))),(uB 29 (AG 5 (tm 18) (tm 19))),(CO.mk G.none D.none Bool.true (CR.mk (Af 5 (tm 29) (tm 27))))] none) wO)
abbrev vn:CC:=(CC.block 1 mD)
abbrev wR:CC:=(CC.seq xz vn)
abbrev zh:CC:=(CC.loop wR)
abbrev tG:CC:=(CC.block 0 zh)
abbrev qX:CC:=(CC.seq (CC.region [(wB 11 (AA (tm 2))),(wB 12 (AM Bp (tm 11) (oN 1))),(wB 9 (AA (tm 12)))]) tG)
abbrev b85:CC:=(CC.seq (CC.region [(wB 10 (AA (tm 1))),(wB 8 (AA (tm 10)))]) qX)
theorem c85:AY Try.prog 85=⟨34,b85,[]⟩:=by kernel_rfl
abbrev mQ:CC:=(CC.seq (CC.region [(wB 30 (AA (tm 0))),(wB 31 (AZ (tm 30))),(wB 32 (AK (tm 31))),(wB 2 (AA (tm 32)))]) CC.ret)
abbrev xD:CC:=(CC.seq (CC.Az [(uB 21 (AA (tm 0))),(uB 22 (AZ (tm 21))),(uB 23 (AK (tm 22))),(uB 24 (AA (tm 0))),(uB 25 (AZ (tm 24))),(uB 26 (AK (tm 25))),(uB 27 (Ch MK (tm 26) (O.c (V.i IntKind.u64 (Int.ofNat 17))))),(uB 28 (AM Kg (tm 23) (tm 27))),(wB 29 (AZ (tm 21))),(CO.mk G.none D.none Bool.true (CR.mk (Af 1 (tm 29) (tm 28))))] none) mQ)
abbrev nZ:CC:=(CC.seq (CC.Az [(uB 12 (AA (tm 0))),(uB 13 (AZ (tm 12))),(uB 14 (AK (tm 13))),(uB 15 (AA (tm 0))),(uB 16 (AZ (tm 15))),(uB 17 (AK (tm 16))),(uB 18 (Ch MR (tm 17) (O.c (V.i IntKind.u64 (Int.ofNat 7))))),(uB 19 (AM Kg (tm 14) (tm 18))),(wB 20 (AZ (tm 12))),(CO.mk G.none D.none Bool.true (CR.mk (Af 1 (tm 20) (tm 19))))] none) xD)
abbrev pG:CC:=(CC.seq (CC.Az [(uB 3 (AA (tm 0))),(uB 4 (AZ (tm 3))),(uB 5 (AK (tm 4))),(uB 6 (AA (tm 0))),(uB 7 (AZ (tm 6))),(uB 8 (AK (tm 7))),(uB 9 (Ch MK (tm 8) (O.c (V.i IntKind.u64 (Int.ofNat 13))))),(uB 10 (AM Kg (tm 5) (tm 9))),(wB 11 (AZ (tm 3))),(CO.mk G.none D.none Bool.true (CR.mk (Af 1 (tm 11) (tm 10))))] none) nZ)
abbrev b95:CC:=(CC.seq (CC.region [(wB 2 (AA (O.c (V.i IntKind.u64 (Int.ofNat 0)))))]) pG)
theorem c95:AY Try.prog 95=⟨33,b95,[(Rs.tmp (AT 2))]⟩:=by kernel_rfl
abbrev wH:CC:=(CC.seq (CC.region [(wB 3 (AA (tm 0))),(wB 4 (Be IntKind.u64 (tm 3))),(wB 5 (Ab 76 [(tm 4)])),(wB 6 (Ch MK (O.c (V.i IntKind.u64 (Int.ofNat 1))) (tm 5))),(wB 2 (AA (tm 6)))]) CC.ret)
abbrev b94:CC:=(CC.seq (CC.region [(wB 2 (AA (O.c (V.i IntKind.u64 (Int.ofNat 0)))))]) wH)
theorem c94:AY Try.prog 94=⟨7,b94,[(Rs.tmp (AT 2))]⟩:=by kernel_rfl
abbrev qW:CC:=(CC.seq (CC.region [(wB 3 (AA (tm 0))),(wB 4 (Be IntKind.u32 (tm 3))),(wB 5 (Ab 89 [(tm 4)])),(wB 2 (AA (tm 5)))]) CC.ret)
abbrev yi:CC:=(CC.cond (O.c (V.b Bool.false)) qW CC.skip)
abbrev qo:CC:=(CC.seq (CC.region [(wB 6 (AA (tm 0))),(wB 7 (Ab 90 [(tm 6)])),(wB 2 (AA (tm 7)))]) CC.ret)
abbrev qz:CC:=(CC.seq yi qo)
abbrev b76:CC:=(CC.seq (CC.region [(wB 2 (AA (oN 0)))]) qz)
theorem c76:AY Try.prog 76=⟨8,b76,[(Rs.tmp (AT 2))]⟩:=by kernel_rfl
abbrev yv:CC:=(CC.seq (CC.region [(wB 5 (AA (tm 0))),(wB 6 (Ch MR (tm 5) (O.c (V.i IntKind.u64 (Int.ofNat 32))))),(wB 0 (AA (tm 6)))]) (CC.region [(wB 2 (AA (oN 32)))]))
abbrev lC:CC:=(CC.cond (tm 4) yv CC.skip)
abbrev qm:CC:=(CC.seq (CC.region [(wB 3 (AA (tm 0))),(wB 4 (AM Dc (tm 3) (O.c (V.i IntKind.u64 (Int.ofNat 4294967296)))))]) lC)
abbrev wL:CC:=(CC.region [(wB 11 (AA (tm 2))),(wB 12 (AM A4 (tm 11) (oN 16))),(wB 2 (AA (tm 12)))])
abbrev ur:CC:=(CC.seq (CC.region [(wB 9 (AA (tm 0))),(wB 10 (Ch MR (tm 9) (O.c (V.i IntKind.u64 (Int.ofNat 16))))),(wB 0 (AA (tm 10)))]) wL)
abbrev nR:CC:=(CC.cond (tm 8) ur CC.skip)
abbrev ri:CC:=(CC.seq (CC.region [(wB 7 (AA (tm 0))),(wB 8 (AM Dc (tm 7) (O.c (V.i IntKind.u64 (Int.ofNat 65536)))))]) nR)
abbrev tN:CC:=(CC.region [(wB 17 (AA (tm 2))),(wB 18 (AM A4 (tm 17) (oN 8))),(wB 2 (AA (tm 18)))])
abbrev kc:CC:=(CC.seq (CC.region [(wB 15 (AA (tm 0))),(wB 16 (Ch MR (tm 15) (O.c (V.i IntKind.u64 (Int.ofNat 8))))),(wB 0 (AA (tm 16)))]) tN)
abbrev oP:CC:=(CC.cond (tm 14) kc CC.skip)
abbrev fW:CC:=(CC.seq (CC.region [(wB 13 (AA (tm 0))),(wB 14 (AM Dc (tm 13) (O.c (V.i IntKind.u64 (Int.ofNat 256)))))]) oP)
abbrev dB:CC:=(CC.seq (CC.region [(wB 19 (AA (tm 2))),(wB 20 (AA (tm 0))),(wB 21 (Be IntKind.u8 (tm 20))),(wB 22 (Eg (O.c (V.s 256 496986003408712215933005303621146343841837811690876167382323004466384420695090407243345123874780946046625255262057845613767806773758184921447759720770971536008171983842311960805720366577116933250839345203839274948261284255908394484732272583221484877694546905335834403051067785895034095251181560891789708940188598129052595634438001880866652824740680664595948164050600812232986714152902334120417949232733424961741260388658846598210939813666227264727603044226856020347194099943897342244906131705541414413428559898943151040826816076322978570758226444464494629814583418847495712557856038296917933182380796641777551368)) (tm 21))),(wB 23 (Be IntKind.i64 (tm 22))),(wB 24 (AM A4 (tm 19) (tm 23))),(wB 2 (AA (tm 24)))]) CC.ret)
abbrev jd:CC:=(CC.seq fW dB)
abbrev gI:CC:=(CC.seq ri jd)
abbrev dZ:CC:=(CC.seq qm gI)
abbrev b90:CC:=(CC.seq (CC.region [(wB 2 (AA (oN 0)))]) dZ)
theorem c90:AY Try.prog 90=⟨25,b90,[(Rs.tmp (AT 2))]⟩:=by kernel_rfl
abbrev yj:CC:=(CC.region [(wB 7 (AA (tm 0))),(wB 8 (AA (tm 4))),(wB 9 (AA (tm 4))),(wB 10 (Be IntKind.u64 (tm 9))),(wB 11 (Ab 76 [(tm 10)])),(wB 12 (AA (tm 1))),(wB 13 (Ab 75 [(tm 7),(oN 0),(tm 8),(tm 11),(tm 12)]))])
abbrev b63:CC:=(CC.seq (CC.region [(wB 5 (AA (tm 0))),(wB 6 (A9 (tm 5))),(wB 4 (AA (tm 6)))]) yj)
theorem c63:AY Try.prog 63=⟨14,b63,[]⟩:=by kernel_rfl
abbrev y8:CC:=(CC.seq (CC.region [(wB 4 (AA (oN 0)))]) CC.ret)
abbrev rS:CC:=(CC.cond (tm 12) y8 CC.skip)
abbrev pP:CC:=(CC.seq (CC.region [(wB 12 (AA (tm 6)))]) rS)
abbrev ph:CC:=(CC.seq (CC.region [(wB 4 (AA (O.c (V.i IntKind.i64 (Int.negSucc 0)))))]) CC.ret)
abbrev yA:CC:=(CC.seq pP ph)
abbrev xO:CC:=(CC.cond (tm 11) yA CC.skip)
abbrev uK:CC:=(CC.seq (CC.region [(wB 11 (AA (tm 5)))]) xO)
abbrev y9:CC:=(CC.seq (CC.region [(wB 4 (AA (oN 1)))]) CC.ret)
abbrev nE:CC:=(CC.cond (tm 13) y9 CC.skip)
abbrev uF:CC:=(CC.seq (CC.region [(wB 13 (AA (tm 6)))]) nE)
abbrev ZT:CC:=(CC.seq (CC.region [(wB 4 (AA (O.c (V.i IntKind.i64 (Int.negSucc 0)))))]) CC.ret)
abbrev eH:CC:=(CC.cond (tm 16) ZT CC.skip)
abbrev Wm:CC:=(CC.seq (CC.region [(wB 14 (AA (tm 0))),(wB 15 (AA (tm 1))),(wB 16 (AM BV (tm 14) (tm 15)))]) eH)
abbrev aI:CC:=(CC.seq (CC.region [(wB 4 (AA (oN 1)))]) CC.ret)
abbrev YO:CC:=(CC.cond (tm 19) aI CC.skip)
abbrev XM:CC:=(CC.seq (CC.region [(wB 17 (AA (tm 0))),(wB 18 (AA (tm 1))),(wB 19 (AM Cj (tm 17) (tm 18)))]) YO)
abbrev XL:CC:=(CC.seq (CC.region [(wB 4 (AA (oN 0)))]) CC.ret)
abbrev jF:CC:=(CC.seq XM XL)
abbrev fO:CC:=(CC.seq Wm jF)
abbrev iG:CC:=(CC.seq uF fO)
abbrev ie:CC:=(CC.seq uK iG)
abbrev jK:CC:=(CC.seq (CC.region [(wB 9 (AA (tm 1))),(wB 10 (Ab 91 [(tm 9)])),(wB 6 (AA (tm 10)))]) ie)
abbrev fp:CC:=(CC.seq (CC.region [(wB 7 (AA (tm 0))),(wB 8 (Ab 91 [(tm 7)])),(wB 5 (AA (tm 8)))]) jK)
abbrev b77:CC:=(CC.seq (CC.region [(wB 4 (AA (oN 0)))]) fp)
theorem c77:AY Try.prog 77=⟨20,b77,[(Rs.tmp (AT 4))]⟩:=by kernel_rfl
abbrev pY:CC:=(CC.seq (CC.region [(wB 3 (AA (tm 0))),(wB 4 (AA (tm 0))),(wB 5 (AM Ip (tm 3) (tm 4))),(wB 2 (AA (tm 5)))]) CC.ret)
abbrev b91:CC:=(CC.seq (CC.region [(wB 2 (AA (O.c (V.b Bool.false))))]) pY)
theorem c91:AY Try.prog 91=⟨6,b91,[(Rs.tmp (AT 2))]⟩:=by kernel_rfl
abbrev rO:CC:=(CC.seq (CC.region [(wB 5 (AA (tm 0))),(wB 6 (AA (tm 1))),(wB 7 (Ab 92 [(tm 5),(tm 6)])),(wB 4 (AA (tm 7)))]) CC.ret)
abbrev b78:CC:=(CC.seq (CC.region [(wB 4 (AA (oN 0)))]) rO)
theorem c78:AY Try.prog 78=⟨8,b78,[(Rs.tmp (AT 4))]⟩:=by kernel_rfl
abbrev sS:CC:=(CC.seq (CC.region [(wB 5 (AA (tm 0))),(wB 6 (AA (tm 1))),(wB 7 (GX (tm 5) (tm 6))),(wB 4 (AA (tm 7)))]) CC.ret)
abbrev b92:CC:=(CC.seq (CC.region [(wB 4 (AA (oN 0)))]) sS)
theorem c92:AY Try.prog 92=⟨8,b92,[(Rs.tmp (AT 4))]⟩:=by kernel_rfl
abbrev lJ:CC:=(CC.seq (CC.region [(wB 16 (AF 1 (tm 2))),(wB 17 (AK (tm 16))),(wB 18 (AF 1 (tm 3))),(wB 19 (AK (tm 18))),(wB 20 (Ab 77 [(tm 17),(tm 19)])),(wB 4 (AA (tm 20)))]) CC.ret)
abbrev tO:CC:=(CC.seq (CC.region [(wB 25 (AF 0 (tm 3))),(wB 26 (AK (tm 25))),(wB 27 (AF 0 (tm 2))),(wB 28 (AK (tm 27))),(wB 29 (Ab 77 [(tm 26),(tm 28)])),(wB 4 (AA (tm 29)))]) CC.ret)
abbrev xw:CC:=(CC.seq (CC.region [(wB 5 (AF 2 (tm 2))),(wB 6 (AK (tm 5))),(wB 7 (AF 2 (tm 3))),(wB 8 (AK (tm 7))),(wB 9 (Ab 78 [(tm 6),(tm 8)])),(wB 4 (AA (tm 9)))]) CC.ret)
abbrev vH:CC:=(CC.cond (tm 21) tO xw)
abbrev xt:CC:=(CC.seq (CC.region [(wB 22 (AF 1 (tm 2))),(wB 23 (AK (tm 22))),(wB 24 (AM DR (tm 23) (oN 0))),(wB 21 (AA (tm 24)))]) vH)
abbrev wF:CC:=(CC.cond (tm 10) lJ xt)
abbrev mq:CC:=(CC.seq (CC.region [(wB 11 (AF 1 (tm 2))),(wB 12 (AK (tm 11))),(wB 13 (AF 1 (tm 3))),(wB 14 (AK (tm 13))),(wB 15 (AM Ip (tm 12) (tm 14))),(wB 10 (AA (tm 15)))]) wF)
abbrev uV:CC:=(CC.block 0 mq)
abbrev b64:CC:=(CC.seq (CC.region [(wB 2 (Cf 57 (tm 0))),(wB 3 (Cf 57 (tm 1))),(wB 4 (AA (oN 0)))]) uV)
theorem c64:AY Try.prog 64=⟨30,b64,[(Rs.tmp (AT 4))]⟩:=by kernel_rfl
end Go.Proofs.Ytobfgempjekjpaa
namespace Go.Ev
open Go
/--places a and b change places -/
def G2 (p:Nat->Nat) (a b:Nat):Nat->Nat:=fun k=>if k=b then p a else if k=a then p b else p k
/--swaps within places a to b -/
inductive Dq (a b:Nat):(Nat->Nat)->(Nat->Nat)->Prop
 |refl (p:Nat->Nat):Dq a b p p
 |swap {p q:Nat->Nat} (i j:Nat):Dq a b p q->a<=i->i<b->a<=j->j<b->Dq a b p (G2 q i j)
section
variable {R:Nat->Nat->Bool} {p q r:Nat->Nat} {a b c d i j k m n x y:Nat}
theorem Nc:G2 p a b b=p a:=if_pos rfl
theorem JD:G2 p a b a=p b:=by unfold G2;split<;>simp_all
theorem EW (h1:x≠a) (h2:x≠b):G2 p a b x=p x:=by unfold G2;rw[if_neg h2,if_neg h1]
theorem Dq.trans (h1:Dq a b p q) (h2:Dq a b q r):Dq a b p r:=by
 induction h2 with
 |refl=>exact h1
 |swap i j _ h3 h4 h5 h6 ih=>exact .swap i j ih h3 h4 h5 h6
theorem Dq.wide (h:Dq a b p q) (ha:c<=a) (hb:b<=d):Dq c d p q:=by
 induction h with
 |refl=>exact .refl _
 |swap i j _ h3 h4 h5 h6 ih=>exact .swap i j ih (by omega) (by omega) (by omega) (by omega)
theorem Dq.one (h1:a<=i) (h2:i<b) (h3:a<=j) (h4:j<b):Dq a b p (G2 p i j):=.swap i j (.refl _) h1 h2 h3 h4
theorem Dq.out (h:Dq a b p q):k<a\/b<=k->q k=p k:=by
 intro hk
 induction h with
 |refl=>rfl
 |swap i j _ h3 h4 h5 h6 ih=>rw[EW (by omega) (by omega)];exact ih
theorem Dq.all {P:Nat->Prop} (h:Dq a b p q) (h1:∀ k,a<=k->k<b->P (p k)):∀ k,a<=k->k<b->P (q k):=by
 induction h with
 |refl=>exact h1
 |swap i j _ h3 h4 h5 h6 ih=>
  intro k k1 k2
  unfold G2
  split
  ·exact ih i h3 h4
  ·split
   ·exact ih j h5 h6
   ·exact ih k k1 k2
def Bo {α:Type} [Inhabited α] (L:List α) (p:Nat->Nat) (n:Nat):List α:=(List.range n).map fun i=>L.getD (p i) default
section
variable {α:Type} [Inhabited α] {L:List α}
theorem CM:(Bo L p n).length=n:=by simp[Bo]
theorem B0 (h:x<n):(Bo L p n).getD x default=L.getD (p x) default:=by simp[Bo,List.getD,h]
theorem PJ:((Bo L p n).set a (L.getD (p b) default)).set b (L.getD (p a) default)=Bo L (G2 p a b) n:=by
 refine List.ext_getElem (by simp[Bo]) fun i h1 h2=>?_
 simp only[Bo,List.getElem_set,List.getElem_map,List.getElem_range,G2]
 by_cases e:b=i
 ·subst e;simp
 ·rw[if_neg e,if_neg (Ne.symm e)]
  by_cases e2:a=i
  ·subst e2;simp
  ·rw[if_neg e2,if_neg (Ne.symm e2)]
theorem S1:Bo L (fun i=>i) L.length=L:=by
 refine List.ext_getElem (by simp[Bo]) fun i h1 h2=>?_
 simp[Bo,List.getD,h2]
theorem Vq:∀ {l:List α} {i j:Nat},i<l.length->j<l.length->((l.set i (l.getD j default)).set j (l.getD i default)).Perm l:=by
 intro l i j hi hj
 have e:=@List.set_set_perm α l i j hi hj
 have g1:l.getD j default=l[j]:=by simp[List.getD,hj]
 have g2:l.getD i default=l[i]:=by simp[List.getD,hi]
 rw[g1,g2];exact e
theorem Dq.perm (h:Dq a b p q) (hb:b<=n):(Bo L q n).Perm (Bo L p n):=by
 induction h with
 |refl=>exact List.Perm.refl _
 |swap i j _ h3 h4 h5 h6 ih=>
  rw[<-PJ]
  refine List.Perm.trans ?_ ih
  rename_i q _
  have:=Vq (l:=Bo L q n) (i:=i) (j:=j) (by rw[CM];omega) (by rw[CM];omega)
  rw[B0 (by omega),B0 (by omega)]at this
  exact this
end
structure Ord (R:Nat->Nat->Bool):Prop where
 Mk:∀ {x y},R x y=true->R y x=false
 nt:∀ {x y z},R x y=false->R y z=false->R x z=false
theorem Ord.Ub (o:Ord R):R x x=false:=by
 cases h:R x x with
 |false=>rfl
 |true=>rw[<-h];exact o.Mk h
/--places a to b in order -/
def G1 (R:Nat->Nat->Bool) (p:Nat->Nat) (a b:Nat):Prop:=∀ i j,a<=i->i<j->j<b->R (p j) (p i)=false
/--what is ahead of a isn't above any from a to b -/
def PH (R:Nat->Nat->Bool) (p:Nat->Nat) (a b:Nat):Prop:=∀ i j,i<a->a<=j->j<b->R (p j) (p i)=false
theorem PH.sw (h:PH R p a b) (s:Dq a b p q):PH R q a b:=fun i j h1 h2 h3=>by
 rw[s.out (.inl h1)]
 exact s.all (P:=fun x=>R x (p i)=false) (fun k k1 k2=>h i k h1 k1 k2) j h2 h3
theorem MG (h:G1 R p a b) (h1:∀ k,a<=k->k<b->q k=p k):G1 R q a b:=fun i j hi hij hj=>by
 rw[h1 i hi (by omega),h1 j (by omega) hj];exact h i j hi hij hj
/--in order up to i,but for place j,which comes ahead of those behind it -/
def Pm (R:Nat->Nat->Bool) (p:Nat->Nat) (a i j:Nat):Prop:=(∀ x y,a<=x->x<y->y<=i->x≠j->y≠j->R (p y) (p x)=false)/\∀ y,j<y->y<=i->R (p y) (p j)=false
theorem Oq (h:G1 R p a i):Pm R p a i i:=⟨fun x y h1 h2 h3 h4 h5=>h x y h1 h2 (by omega),fun y h1 h2=>by omega⟩
theorem PM (o:Ord R) (M:Pm R p a i (n+1)) (h0:a<=n) (hj:n+1<=i) (hlt:R (p (n+1)) (p n)=true):Pm R (G2 p (n+1) n) a i n:=by
 have hlt:=o.Mk hlt
 constructor
 ·intro x y hx hxy hy hx1 hy1
  by_cases e1:y=n+1
  ·rw[e1,JD,EW (by omega) hx1]
   exact M.1 x n hx (by omega) (by omega) (by omega) (by omega)
  ·rw[EW e1 hy1]
   by_cases e2:x=n+1
   ·rw[e2,JD];exact M.1 n y h0 (by omega) hy (by omega) e1
   ·rw[EW e2 hx1];exact M.1 x y hx hxy hy e2 e1
 ·intro y h1 h2
  rw[Nc]
  by_cases e:y=n+1
  ·rw[e,JD];exact hlt
  ·rw[EW e (by omega)];exact M.2 y (by omega) h2
theorem KU (o:Ord R) (M:Pm R p a i j) (hj:j<=i) (h:j=a\/R (p j) (p (j-1))=false) (ha:a<=j):G1 R p a (i+1):=by
 intro x y hx hxy hy
 by_cases e1:x=j
 ·rw[e1];exact M.2 y (by omega) (by omega)
 ·by_cases e2:y=j
  ·rw[e2]at hxy⊢
   have h:=h.resolve_left (by omega)
   by_cases e3:x=j-1
   ·rw[e3];exact h
   ·exact o.nt h (M.1 x (j-1) hx (by omega) (by omega) e1 (by omega))
  ·exact M.1 x y hx hxy (by omega) e1 e2
def TZ (R:Nat->Nat->Bool) (p:Nat->Nat) (a lo hi:Nat):Prop:=∀ k c,lo<=k->(c=2*k+1\/c=2*k+2)->c<hi->R (p (a+k)) (p (a+c))=false
/--but for root,whose children aren't above its parent -/
def SW (R:Nat->Nat->Bool) (p:Nat->Nat) (a lo hi root:Nat):Prop:=
 (∀ k c,lo<=k->k≠root->(c=2*k+1\/c=2*k+2)->c<hi->R (p (a+k)) (p (a+c))=false)/\
 ∀ k c,lo<=k->(root=2*k+1\/root=2*k+2)->(c=2*root+1\/c=2*root+2)->c<hi->R (p (a+k)) (p (a+c))=false
theorem UR {lo hi:Nat} (h:TZ R p a (lo+1) hi):SW R p a lo hi lo:=⟨fun k c h1 h2 h3 h4=>h k c (by omega) h3 h4,fun k c h1 h2=>by omega⟩
theorem Q4 {lo hi root ch:Nat} (o:Ord R) (h:SW R p a lo hi root) (hl:lo<=root) (hc:ch=2*root+1\/ch=2*root+2) (hch:ch<hi) (hmax:∀ c,(c=2*root+1\/c=2*root+2)->c<hi->R (p (a+ch)) (p (a+c))=false) (hlt:R (p (a+root)) (p (a+ch))=true):SW R (G2 p (a+root) (a+ch)) a lo hi ch:=by
 have hlt:=o.Mk hlt
 constructor
 ·intro k c h1 h2 h3 h4
  by_cases e1:k=root
  ·rw[e1,JD]
   by_cases e2:c=ch
   ·rw[e2,Nc];exact hlt
   ·rw[EW (by omega) (by omega)];exact hmax c (by omega) h4
  ·rw[show G2 p (a+root) (a+ch) (a+k)=p (a+k)from EW (by omega) (by omega)]
   by_cases e2:c=root
   ·rw[e2,JD];exact h.2 k ch h1 (by omega) hc hch
   ·rw[EW (by omega) (by omega)];exact h.1 k c h1 e1 h3 h4
 ·intro k c h1 h2 h3 h4
  obtain rfl:k=root:=by omega
  rw[JD,EW (by omega) (by omega)]
  exact h.1 ch c (by omega) (by omega) h3 h4
theorem Mu {lo hi root:Nat} (h:SW R p a lo hi root) (h1:∀ c,(c=2*root+1\/c=2*root+2)->c<hi->R (p (a+root)) (p (a+c))=false):TZ R p a lo hi:=fun k c k1 k2 k3=>by
 by_cases e:k=root
 ·subst e;exact h1 c k2 k3
 ·exact h.1 k c k1 e k2 k3
theorem Tk {hi:Nat} (o:Ord R) (h:TZ R p a 0 hi):∀ k,k<hi->R (p a) (p (a+k))=false:=by
 intro k
 induction k using Nat.strongRecOn with
 |_ k ih=>
  intro hk
  by_cases e:k=0
  ·subst e;exact o.Ub
  ·exact o.nt (ih ((k-1)/2) (by omega) (by omega)) (h ((k-1)/2) k (Nat.zero_le _) (by omega) hk)
theorem UY {lo hi:Nat} (h:hi<=2*lo+1):TZ R p a lo hi:=fun k c h1 h2 h3=>by omega
def Fin (R:Nat->Nat->Bool) (p:Nat->Nat) (a0 b0 a b:Nat):Prop:=∀ q,Dq a b p q->G1 R q a b->G1 R q a0 b0
theorem Jw {a0 b0:Nat} (h:Fin R p a0 b0 a b) (s:Dq a b p q):Fin R q a0 b0 a b:=fun r s2=>h r (s.trans s2)
/--behind those that are as the pivot -/
theorem jS {a0 b0 e:Nat} (o:Ord R) (h:Fin R p a0 b0 a b) (hm:a<=m) (hb:m<=b) (h0:∀ k,a<=k->k<b->R (p k) e=false) (h1:∀ k,a<=k->k<m->R e (p k)=false):Fin R p a0 b0 m b:=fun q s hs=>by
 refine h q (s.wide hm (Nat.le_refl _)) fun i j i1 i2 i3=>?_
 by_cases d1:m<=i
 ·exact hs i j d1 i2 i3
 ·rw[s.out (.inl (by omega:i<m))]
  have:R (q j) e=false:=(s.wide hm (Nat.le_refl _)).all (P:=fun x=>R x e=false) h0 j (by omega) i3
  exact o.nt this (h1 i i1 (by omega))
theorem bD {e:Nat} (o:Ord R) (h:PH R p a b) (hm:a<=m) (h1:∀ k,a<=k->k<m->R e (p k)=false) (h2:∀ k,m<=k->k<b->R e (p k)=true):PH R p m b:=fun i j i1 i2 i3=>by
 by_cases d:i<a
 ·exact h i j d (by omega) i3
 ·exact o.nt (o.Mk (h2 j i2 i3)) (h1 i (by omega) i1)
/--around the pivot,at m -/
structure Qf (R:Nat->Nat->Bool) (p:Nat->Nat) (a b m:Nat):Prop where
 am:a<=m
 mb:m<b
 lt:∀ k,a<=k->k<m->R (p k) (p m)=true
 ge:∀ k,m<k->k<b->R (p k) (p m)=false
theorem Oy (o:Ord R) (P:Qf R p a b m) (h1:G1 R p a m) (h2:G1 R p (m+1) b):G1 R p a b:=fun i j i1 i2 i3=>by
 by_cases d1:j<m
 ·exact h1 i j i1 i2 d1
 ·by_cases d2:j=m
  ·subst d2;exact o.Mk (P.lt i i1 i2)
  ·by_cases d3:m<i
   ·exact h2 i j d3 i2 i3
   ·by_cases d4:i=m
    ·subst d4;exact P.ge j (by omega) i3
    ·exact o.nt (P.ge j (by omega) i3) (o.Mk (P.lt i i1 (by omega)))
theorem Qf.left (P:Qf R p a b m) (s:Dq a m p q):Qf R q a b m:=⟨P.am,P.mb,fun k k1 k2=>by
 rw[s.out (.inr (Nat.le_refl _))];exact s.all (P:=fun x=>R x (p m)=true) (fun k k1 k2=>P.lt k k1 k2) k k1 k2,fun k k1 k2=>by
 rw[s.out (.inr (Nat.le_refl _)),s.out (.inr (by omega))];exact P.ge k k1 k2⟩
theorem Qf.right (P:Qf R p a b m) (s:Dq (m+1) b p q):Qf R q a b m:=⟨P.am,P.mb,fun k k1 k2=>by
 rw[s.out (.inl (by omega)),s.out (.inl (by omega))];exact P.lt k k1 k2,fun k k1 k2=>by
 rw[show q m=p m from s.out (.inl (by omega))];exact s.all (P:=fun x=>R x (p m)=false) (fun k k1 k2=>P.ge k (by omega) k2) k (by omega) k2⟩
theorem NA (h:PH R p a b) (hm:m<=b):PH R p a m:=fun i j i1 i2 i3=>h i j i1 i2 (by omega)
theorem K8 (o:Ord R) (h:PH R p a b) (P:Qf R p a b m):PH R p (m+1) b:=fun i j i1 i2 i3=>by
 by_cases d1:i<a
 ·exact h i j d1 (by have:=P.am;omega) i3
 ·by_cases d2:i=m
  ·subst d2;exact P.ge j (by omega) i3
  ·exact o.nt (P.ge j (by omega) i3) (o.Mk (P.lt i (by omega) (by omega)))
theorem Pg {a0 b0:Nat} (o:Ord R) (h:Fin R p a0 b0 a b) (P:Qf R p a b m) (hs:G1 R p a m):Fin R p a0 b0 (m+1) b:=fun q s h2=>by
 have:=P.am;have:=P.mb
 exact h q (s.wide (by omega) (Nat.le_refl _)) (Oy o (P.right s) (MG hs fun k k1 k2=>s.out (.inl (by omega))) h2)
theorem SX {a0 b0:Nat} (o:Ord R) (h:Fin R p a0 b0 a b) (P:Qf R p a b m) (hs:G1 R p (m+1) b):Fin R p a0 b0 a m:=fun q s h2=>by
 have:=P.am;have:=P.mb
 exact h q (s.wide (Nat.le_refl _) (by omega)) (Oy o (P.left s) h2 (MG hs fun k k1 k2=>s.out (.inr (by omega))))
end
end Go.Ev
namespace Go.Ev
open Go
/--less of a block's cells -/
theorem DA.pre {h:H} {id:B} {xs ys:List V} (o:DA h id (xs++ys)):DA h id xs:=by
 obtain⟨Ao,h1,h2,h3,h4,h5,h6,h7⟩:=o
 refine⟨Ao,h1,h2,h3,h4,h5,h6,fun i y hy=>h7 i y ?_⟩
 have hi:=(List.getElem?_eq_some_iff.1 hy).1
 rw[List.getElem?_append_left hi];exact hy
theorem DA.none {h:H} {id:B} {xs:List V} (o:DA h id xs):DA h id []:=DA.pre (xs:=[]) (ys:=xs) o
/--cells stored behind those that are known -/
theorem Pj {h:H} {id:B} {xs vs:List V} {fin:Nat} (o:DA h id xs) (hj:xs.length+vs.length<=fin) (hfit:fin<2 ^ 37) (h1:CB vs=true):∃ h',(∀ k,store h id 0 xs.length fin vs k=k h')/\DA h' id (xs++vs)/\AU (fun i=>i=id) h h':=by
 obtain⟨Ao,a1,a2,a3,a4,a5,a6,a7⟩:=o
 obtain⟨next,floor,heap⟩:=h
 obtain⟨cur,min,sz,cells,bel,fr⟩:=Ao
 simp only at a2 a3 a4 a7
 subst a2;subst a3;subst a4
 obtain⟨tr,t1,t2,t3⟩:=Bt vs xs.length cells (by omega)
 obtain⟨hp,s1,s2,s3⟩:=Bu id (⟨0,0,sz,tr,bel,0⟩:Gi) heap
 have e1:B.Kb floor id=true:=by cases floor<;>first|rfl|(show Nat.ble _ _=true;rw[Nat.ble_eq];exact a5)
 have e2:Nat.ble (Nat.add xs.length vs.length) fin=true:=by rw[Nat.ble_eq];exact hj
 have e4:HF 0 xs.length=true:=rfl
 have e5:Nat.beq 0 0=true:=rfl
 have e6:Nat.ble 0 0=true:=rfl
 have a1':heap.get id=some ⟨0,0,sz,cells,bel,0⟩:=a1
 refine⟨⟨next,floor,hp⟩,fun k=>?_,⟨_,s2,rfl,rfl,rfl,a5,a6,fun i z hz=>?_⟩,⟨rfl,Nat.le_refl _,fun i _ hi=>s3 i hi⟩⟩
 ·simp only[store,CN,a1',Aq,BH,e5,e6,e1,e2,h1,e4,AH]
  rw[t1,s1]
 ·show tr.BN i=some z
  by_cases hi:i<xs.length
  ·rw[List.getElem?_append_left hi]at hz
   rw[t3 i (by omega)];exact a7 i z hz
  ·rw[List.getElem?_append_right (by omega)]at hz
   have:=t2 _ z hz
   rwa [show xs.length+(i-xs.length)=i by omega]at this
section
variable {P:Program} {h:H} {N:Nx} {id:B} {el size ED len c:Nat} {x:V} {xs vs:List V}
/--in place:there is room -/
theorem AP.made (o:DA h id xs) (hlen:xs.length=len*size) (hx:∀ k:Nat->List V->Bool,DL size x h k=k ED vs) (hn:vs.length=ED*size) (h1:CB vs=true) (hc:len+ED<=c) (hfit:c*size<2 ^ 37) (hcb:c<18446744073709551616)
 (k:∀ h',DA h' id (xs++vs)->AU (fun i=>i=id) h h'->N.go P (.l id 0 0 (len+ED) (c*size) (some c)) h'):AP P el size (.l id 0 0 len (c*size) (some c)) x h N:=by
 have hle:Nat.ble (Nat.add len ED) c=true:=by rw[Nat.ble_eq];exact hc
 have hmul:=Nat.mul_le_mul_right size hc
 rw[Nat.add_mul]at hmul
 cases ED with
 |zero=>
  have hv:vs=[]:=List.eq_nil_of_length_eq_zero (by rw[hn,Nat.zero_mul])
  subst hv
  refine Da (v:=.l id 0 0 (len+0) (c*size) (some c)) (h':=h) (fun q=>?_) (k h (by rw[List.append_nil];exact o) ⟨rfl,Nat.le_refl _,fun _ _ _=>rfl⟩)
  rw[hx]
  show A3 (BP c) _ (fun _=>A3 (Nat.ble (Nat.add len 0) c) (fun _=>GA id 0 0 len (c*size) c size 0 [] h q) _)=_
  rw[FK hcb,BE,hle];rfl
 |succ m=>
  obtain⟨h',a1,a2,a3⟩:=Pj o (vs:=vs) (fin:=c*size) (by omega) hfit h1
  refine Da (v:=.l id 0 0 (len+(m+1)) (c*size) (some c)) (h':=h') (fun q=>?_) (k h' a2 a3)
  rw[hx]
  show A3 (BP c) _ (fun _=>A3 (Nat.ble (Nat.add len (m+1)) c) (fun _=>GA id 0 0 len (c*size) c size (m+1) vs h q) _)=_
  rw[FK hcb,BE,hle]
  show store h id 0 (Nat.add 0 (Nat.mul len size)) (c*size) vs (fun h=>fN (Nat.add len (m+1)) fun l'=>q (.l id 0 0 l' (c*size) (some c)) h)=_
  rw[show Nat.add 0 (Nat.mul len size)=xs.length by rw[hlen];show 0+len*size=_;omega,a1,A5]
  rfl
/--append(S{},s...):a new block,or the empty one -/
theorem AP.e1 {g off fin:Nat} (hx:∀ k:Nat->List V->Bool,DL size x h k=k ED vs) (hf:B.val h.floor<=B.val h.next) (hn:vs.length=ED*size) (hl:ED<=1048576) (hl2:vs.length<2 ^ 38)
 (k0:ED=0->N.go P (.l id g off 0 fin (some 0)) h)
 (k:∀ h',1<=ED->AU AO h h'->B.val h'.next=B.val h.next+1->FN h' el size (.l h.next 0 0 ED vs.length none) vs->NY h' (.l h.next 0 0 ED vs.length none)->N.go P (.l h.next 0 0 ED vs.length none) h'):AP P el size (.l id g off 0 fin (some 0)) x h N:=by
 cases ED with
 |zero=>
  have hv:vs=[]:=List.eq_nil_of_length_eq_zero (by rw[hn,Nat.zero_mul])
  subst hv
  exact Da (v:=.l id g off 0 fin (some 0)) (h':=h) (fun q=>by rw[hx];rfl) (k0 rfl)
 |succ m=>
 obtain⟨h',a1,a2,a3,Ao,b1,b2,b3,b4,b5,b6,b7⟩:=DY el vs h hl2
 have hble:Nat.ble (Nat.add 0 (m+1)) 1048576=true:=by rw[Nat.ble_eq];show 0+(m+1)<=_;omega
 have hno:Nat.ble (Nat.add 0 (m+1)) 0=false:=by
  cases hx:Nat.ble (Nat.add 0 (m+1)) 0 with
  |false=>rfl
  |true=>have:=Nat.le_of_ble_eq_true hx;have h2:0+(m+1)<=0:=this;omega
 refine Da (v:=.l h.next 0 0 (m+1) vs.length none) (h':=h') (fun q=>?_) (k h' (by omega) a2 a3 (.inr ⟨h.next,0,m+1,Ao,rfl,by omega,hn,by rw[a2.floor];exact hf,by omega,b1,⟨by omega,by omega⟩,b4,b5,b6,b7⟩) ?_)
 ·rw[hx]
  show A3 (BP 0) (fun _=>CV (Vn (Nat.ble 1 0) (Nat.beq 0 (Nat.add 18446744073709551615 size))) el id g off 0 fin size (m+1) vs h q) (fun _=>A3 (Nat.ble (Nat.add 0 (m+1)) 0) (fun _=>GA id g off 0 fin 0 size (m+1) vs h q) fun _=>D8 el id g off 0 fin size (m+1) vs h q)=_
  rw[FK (by omega),BE,hno,BE]
  unfold D8
  rw[hble,AH]
  show alloc el (app [] vs) h (fun id h=>fN (Nat.add 0 (m+1)) fun l'=>fN (Nat.mul l' size) fun fin'=>q (.l id 0 0 l' fin' none) h)=_
  rw[De,List.nil_append,a1,A5,A5]
  show q (.l h.next 0 0 (0+(m+1)) ((0+(m+1))*size) none) h'=_
  rw[Nat.zero_add,<-hn]
 ·intro id' g off n fin cap e
  cases e
  exact⟨Ao,b1,b3⟩
end
end Go.Ev
set_option maxRecDepth 100000
set_option maxHeartbeats 8000000
namespace Go.Ev
open Go
def GrI (h:H) (el n:Nat) (v:V) (m:Nat) (xs:List V):Prop:=∃ id g cap Ao,v=.l id g 0 m (m*n) cap/\xs.length=m*n/\((1<=m/\cap=none)\/(m=0/\cap=some (18446744073709551615+n)))/\
 B.val h.floor<=B.val id/\B.val id<B.val h.next/\h.heap.get id=some Ao/\Ao.min<=g/\Ao.cur=g/\m*n<=Ao.size/\Ao.el=el/\Ao.fr=0/\∀ i y,xs[i]? =some y->Ao.cells.BN i=some y
/--a row of one's own that is the newest of its block;or nothing -/
def Gr {α:Type} (el n:Nat) (c:α->List V) (h:H) (v:V) (L:List α):Prop:=
 (v=.l0/\L=[])\/(∃ id g off fin,v=.l id g off 0 fin (some 0)/\L=[]/\off<=fin/\B.val id<B.val h.next)\/GrI h el n v L.length (L.flatMap c)
section
variable {P:Program} {α:Type} [Inhabited α] {n el:Nat} {c:α->List V} {h h':H} {N:Nx} {v x:V} {L X:List α} {j k ED:Nat} {vs:List V}
theorem Gr.nil:Gr el n c h .l0 ([]:List α):=.inl ⟨rfl,rfl⟩
theorem Gr.AA1 {id:B} {g off fin:Nat} (h1:off<=fin) (h2:B.val id<B.val h.next):Gr el n c h (.l id g off 0 fin (some 0)) ([]:List α):=.inr (.inl ⟨_,_,_,_,rfl,rfl,h1,h2⟩)
theorem Gr.buf (b:FN h el n v (L.flatMap c)) (tp:NY h v) (hc:∀ e,(c e).length=n) (hn:1<=n):Gr el n c h v L:=by
 rcases b with⟨rfl,e⟩|⟨id,g,m,Ao,rfl,b1,b2,b3,b4,b5,b6,b7,b8,b9,b10⟩
 ·refine .inl ⟨rfl,?_⟩
  cases L with
  |nil=>rfl
  |cons a L=>have:=Ct hc (a::L);rw[e]at this;have h3:(L.length+1)*n=0:=this.symm;rw[Nat.add_mul]at h3;omega
 ·obtain⟨blk',b5',hcur⟩:=tp id g 0 m _ none rfl
  have hbb:blk'=Ao:=by rw[b5]at b5';exact(Option.some.inj b5').symm
  subst hbb
  have hm:m=L.length:=by
   rw[Ct hc]at b2
   exact(Nat.eq_of_mul_eq_mul_right (by omega) b2).symm
  subst hm
  exact .inr (.inr ⟨id,g,none,blk',by rw[b2],b2,.inl ⟨b1,rfl⟩,b3,b4,b5,b6.1,hcur,by omega,b8,b9,b10⟩)
theorem Gr.ss (a:Gr el n c h v L):Ss n c h v L:=by
 rcases a with⟨rfl,rfl⟩|⟨id,g,off,fin,rfl,rfl,h1,h2⟩|⟨id,g,cap,Ao,rfl,a1,a2,a3,a4,a5,a6,a7,a8,a9,a10,a11⟩
 ·exact .inl ⟨rfl,rfl⟩
 ·exact .inr ⟨id,g,off,fin,_,rfl,by simpa using h1,h2,fun e=>absurd rfl e,fun i y hy=>by simp at hy⟩
 ·refine .inr ⟨id,g,0,_,cap,rfl,by omega,a4,fun _=>⟨Ao,a5,a6⟩,fun i y hy=>?_⟩
  unfold Ev.cell GZ
  rw[a5]
  show(if Ao.min<=g then Ao.cells.BN (0+i)else none)=_
  rw[if_pos a6,Nat.zero_add]
  exact a11 i y hy
theorem Gr.lt (a:Gr el n c h v L):∀ q,Al v q->B.val q<B.val h.next:=by
 rcases a with⟨rfl,rfl⟩|⟨id,g,off,fin,rfl,rfl,h1,h2⟩|⟨id,g,cap,Ao,rfl,a1,a2,a3,a4,_⟩
 ·rintro q ⟨_,_,_,_,_,e⟩;cases e
 ·rintro q ⟨_,_,_,_,_,e⟩;cases e;exact h2
 ·rintro q ⟨_,_,_,_,_,e⟩;cases e;exact a4
theorem Gr.stay {p:B->Prop} (a:Gr el n c h v L) (s:AU p h h') (hp:∀ q,Al v q->¬p q):Gr el n c h' v L:=by
 rcases a with⟨rfl,rfl⟩|⟨id,g,off,fin,rfl,rfl,h1,h2⟩|⟨id,g,cap,Ao,rfl,a1,a2,a3,a4,a5,a6⟩
 ·exact .inl ⟨rfl,rfl⟩
 ·exact .inr (.inl ⟨id,g,off,fin,rfl,rfl,h1,Nat.lt_of_lt_of_le h2 s.next⟩)
 ·exact .inr (.inr ⟨id,g,cap,Ao,rfl,a1,a2,by rw[s.floor];exact a3,Nat.lt_of_lt_of_le a4 s.next,(s.get id a4 (hp id ⟨_,_,_,_,_,rfl⟩)).trans a5,a6⟩)
theorem Gr.grow (a:Gr el n c h v L) (s:AU AO h h'):Gr el n c h' v L:=a.stay s fun _ _ e=>e
/--a store into a block -/
theorem K1 {id:B} {g off fin:Nat} {Ao:Gi} (h0:h.heap.get id=some Ao) (h1:Ao.cur=g) (h2:Ao.min<=g) (h3:Ao.fr=0) (h4:B.val h.floor<=B.val id) (hj:off+vs.length<=fin) (hfit:off+vs.length<2 ^ 37) (ho:CB vs=true):
 ∃ h' tr,(∀ k,store h id g off fin vs k=k h')/\h'.heap.get id=some ⟨g,g,Ao.size,tr,Ao.el,0⟩/\(∀ i y,vs[i]? =some y->tr.BN (off+i)=some y)/\(∀ i,i<off\/off+vs.length<=i->tr.BN i=Ao.cells.BN i)/\AU (fun q=>q=id) h h'/\h'.next=h.next:=by
 obtain⟨next,floor,heap⟩:=h
 obtain⟨cur,min,sz,cells,bel,fr⟩:=Ao
 simp only at h1 h2 h3 h4
 subst h1;subst h3
 obtain⟨tr,t1,t2,t3⟩:=Bt vs off cells (by omega)
 obtain⟨hp,s1,s2,s3⟩:=Bu id (⟨cur,cur,sz,tr,bel,0⟩:Gi) heap
 have e1:B.Kb floor id=true:=by cases floor<;>first|rfl|(show Nat.ble _ _=true;rw[Nat.ble_eq];exact h4)
 have e2:Nat.ble (Nat.add off vs.length) fin=true:=by rw[Nat.ble_eq];exact hj
 have e4:HF 0 off=true:=rfl
 have e5:Nat.beq cur cur=true:=Nat.beq_refl cur
 have e6:Nat.ble min cur=true:=by rw[Nat.ble_eq];exact h2
 have h0':heap.get id=some ⟨cur,min,sz,cells,bel,0⟩:=h0
 refine⟨⟨next,floor,hp⟩,tr,fun k=>?_,s2,t2,fun i hi=>t3 i hi,⟨rfl,Nat.le_refl _,fun q _ hq=>s3 q hq⟩,rfl⟩
 simp only[store,CN,h0',Aq,BH,e5,e6,e1,e2,ho,e4,AH]
 rw[t1,s1]
/--l[j]=y -/
theorem ST.gr {y:α} (a:Gr el n c h v L) (hc:∀ e,(c e).length=n) (hn:1<=n) (hj:j<L.length) (hl:L.length*n<2 ^ 36) (h1:CB (c y)=true)
 (k:∀ h',Gr el n c h' v (L.set j y)->AU (Al v) h h'->N.go P (.tu []) h'):ST P n (.p (Ft v) (lg v) (Ci v+j*n) (Cm v)) (.a (c y)) h N:=by
 rcases a with⟨rfl,rfl⟩|⟨id,g,off,fin,rfl,rfl,_⟩|⟨id,g,cap,Ao,rfl,a1,a2,a3,a4,a5,a6,a7,a8,a9,a10,a11⟩
 ·simp at hj
 ·simp at hj
 have hjn:(j+1)*n<=L.length*n:=Nat.mul_le_mul_right n hj
 rw[Nat.add_mul]at hjn
 obtain⟨h',tr,b1,b2,b3,b4,b5,b6⟩:=K1 (off:=j*n) (fin:=L.length*n) (vs:=c y) a5 a7 a6 a10 a3 (by rw[hc];omega) (by rw[hc];omega) h1
 refine Da (v:=.tu []) (h':=h') (fun k=>?_) (k h' (.inr (.inr ⟨id,g,cap,_,by rw[List.length_set],by rw[Ct hc,List.length_set],by rw[List.length_set];exact a2,by rw[b5.floor];exact a3,by rw[b6];exact a4,b2,Nat.le_refl _,rfl,by rw[List.length_set];exact a8,a9,rfl,fun i z hz=>?_⟩)) (b5.mono fun q _ e=>by rw[e];exact⟨_,_,_,_,_,rfl⟩))
 ·show At (Nat.beq (c y).length n) (fun _=>store h id g (0+j*n) (L.length*n) (c y) fun h=>k (.tu []) h)=_
  rw[hc,Nat.beq_refl,AH,Nat.zero_add,b1]
 ·show tr.BN i=some z
  have hil:i<L.length*n:=by
   have h1:=(List.getElem?_eq_some_iff.1 hz).1
   rw[Ct hc,List.length_set]at h1;exact h1
  have hd:i%n<n:=Nat.mod_lt _ hn
  have hi:i=i/n*n+i%n:=by rw[Nat.mul_comm];exact(Nat.div_add_mod i n).symm
  have hq:i/n<L.length:=(Nat.div_lt_iff_lt_mul hn).2 hil
  generalize i/n=q at*
  generalize i%n=d at*
  subst hi
  rw[Jm hc (by rw[List.length_set];exact hq) hd]at hz
  by_cases e:q=j
  ·subst e
   have hdl:d<(c y).length:=by rw[hc];exact hd
   have:(L.set q y).getD q default=y:=by simp[List.getD,hq]
   rw[this]at hz
   rw[b3 d ((c y).getD d .u) (by simp[List.getD,hdl]),hz]
  ·have:(L.set j y).getD q default=L.getD q default:=by
    rw[List.getD_eq_getElem?_getD,List.getElem?_set_ne (fun h=>e h.symm),<-List.getD_eq_getElem?_getD]
   rw[this]at hz
   rw[b4]
   ·exact a11 _ _ (by rw[Jm hc hq hd];exact hz)
   ·rw[hc]
    rcases Nat.lt_or_gt_of_ne e with h|h
    ·have:(q+1)*n<=j*n:=Nat.mul_le_mul_right n h
     rw[Nat.add_mul]at this;omega
    ·have:(j+1)*n<=q*n:=Nat.mul_le_mul_right n h
     rw[Nat.add_mul]at this;omega
/--append -/
theorem AP.gr (a:Gr el n c h v L) (hc:∀ e,(c e).length=n) (hn:1<=n) (hx:∀ k:Nat->List V->Bool,DL n x h k=k X.length (X.flatMap c)) (h1:CB (X.flatMap c)=true) (hpos:1<=L.length+X.length) (hb:(L.length+X.length)*n<=1048576) (hf:B.val h.floor<=B.val h.next)
 (k:∀ v' h',Gr el n c h' v' (L++X)->AU (Al v) h h'->(∀ i,Al v' i->Al v i\/B.val h.next<=B.val i)->N.go P v' h'):AP P el n v x h N:=by
 have hXl:(X.flatMap c).length=X.length*n:=Ct hc X
 rw[Nat.add_mul]at hb
 have hXle:X.length<=X.length*n:=Nat.le_mul_of_pos_right _ hn
 have hLle:L.length<=L.length*n:=Nat.le_mul_of_pos_right _ hn
 rcases a with⟨rfl,rfl⟩|⟨id,g,off,fin,rfl,rfl,h2,h3⟩|⟨id,g,cap,Ao,rfl,a1,a2,a3,a4,a5,a6,a7,a8,a9,a10,a11⟩
 ·refine AP.buf (vs:=X.flatMap c) (ED:=X.length) (FN.nil h el n) hx hf hn hXl h1 (by rw[hXl,List.length_nil];omega) fun v' h' b s hv tp=>k v' h' (Gr.buf (by simpa using b) tp hc hn) s hv
 ·refine AP.e1 hx hf hXl (by omega) (by omega) (fun e=>by rw[List.length_nil]at hpos;omega) fun h' _ s nx b tp=>k _ h' (Gr.buf (by simpa using b) tp hc hn) (s.mono fun _ _ e=>e.elim) fun i hi=>?_
  obtain⟨_,_,_,_,_,e⟩:=hi;cases e;exact .inr (Nat.le_refl _)
 ·obtain⟨next,floor,heap⟩:=h
  obtain⟨cur,min,sz,cells,bel,fr⟩:=Ao
  simp only at a6 a7 a8 a9 a10
  subst a7;subst a10;subst a9
  obtain⟨tr,t1,t2,t3⟩:=Bt (X.flatMap c) (L.length*n) cells (by omega)
  obtain⟨min',hmin⟩:∃ m',Qt (Nat.beq (L.length*n) sz) min (Nat.succ cur)=m':=⟨_,rfl⟩
  have hmin2:min'<=cur+1:=by
   rw[<-hmin]
   cases Nat.beq (L.length*n) sz with
   |true=>show min<=cur+1;omega
   |false=>exact Nat.le_refl _
  obtain⟨hp,s1,s2,s3⟩:=Bu id (⟨Nat.succ cur,min',Nat.add (L.length*n) (Nat.mul X.length n),tr,bel,0⟩:Gi) heap
  have e1:Nat.ble min cur=true:=by rw[Nat.ble_eq];exact a6
  have e2:B.Kb floor id=true:=by cases floor<;>first|rfl|(show Nat.ble _ _=true;rw[Nat.ble_eq];exact a3)
  have e3:Nat.add 0 (Nat.mul L.length n)=L.length*n:=by show 0+L.length*n=_;omega
  have e3':Nat.ble (L.length*n) sz=true:=by rw[Nat.ble_eq];exact a8
  have e4:Nat.beq (L.length*n) (L.length*n)=true:=Nat.beq_refl _
  have e6:Nat.ble (Nat.add L.length X.length) 1048576=true:=by rw[Nat.ble_eq];show L.length+X.length<=1048576;omega
  have e7:HF 0 (L.length*n)=true:=rfl
  have e8:Nat.beq bel bel=true:=Nat.beq_refl _
  have e9:La n (Nat.add L.length X.length)=none:=KJ (by show 1<=L.length+X.length;omega)
  have b5':heap.get id=some ⟨cur,min,sz,cells,bel,0⟩:=a5
  have go:∀ z,z=true->∀ k,CV z bel id cur 0 L.length (L.length*n) n X.length (X.flatMap c) ⟨next,floor,heap⟩ k=k (.l id (Nat.succ cur) 0 (L.length+X.length) (L.length*n+X.length*n) none) ⟨next,floor,hp⟩:=fun z hz k=>by
   subst hz
   simp only[CV,CN,b5',Aq,BH,A5,e3,e1,e2,e3',e4,e6,h1,e7,e8,e9,AH,hmin]
   rw[t1,s1];rfl
  have go2:∀ q,CU bel n (.l id cur 0 L.length (L.length*n) cap) X.length (X.flatMap c) ⟨next,floor,heap⟩ q=q (.l id (Nat.succ cur) 0 (L.length+X.length) (L.length*n+X.length*n) none) ⟨next,floor,hp⟩:=fun q=>by
   rcases a2 with⟨a2,rfl⟩|⟨a2,rfl⟩
   ·exact go _ (by rw[Nat.ble_eq];exact a2) q
   ·show A3 (BP (18446744073709551615+n)) (fun _=>CV (Vn (Nat.ble 1 L.length) (Nat.beq (18446744073709551615+n) (Nat.add 18446744073709551615 n))) bel id cur 0 L.length (L.length*n) n X.length (X.flatMap c) ⟨next,floor,heap⟩ q) _=_
    have hfl:BP (18446744073709551615+n)=true:=by show Nat.ble _ _=true;rw[Nat.ble_eq];omega
    rw[hfl,DQ]
    refine go _ ?_ q
    rw[show Nat.beq (18446744073709551615+n) (Nat.add 18446744073709551615 n)=true from Nat.beq_refl _]
    cases Nat.ble 1 L.length<;>rfl
  refine Da (v:=.l id (Nat.succ cur) 0 (L.length+X.length) (L.length*n+X.length*n) none) (h':=⟨next,floor,hp⟩) (fun q=>by rw[hx,go2]) (k _ _ (.inr (.inr ⟨id,cur+1,none,_,?_,?_,.inl ⟨by rw[List.length_append];omega,rfl⟩,a3,a4,s2,hmin2,rfl,?_,rfl,rfl,fun i y hy=>?_⟩)) ⟨rfl,Nat.le_refl _,fun q _ hq=>s3 q fun e=>hq (by rw[e];exact⟨_,_,_,_,_,rfl⟩)⟩ fun i hi=>?_)
  ·rw[List.length_append,Nat.add_mul]
  ·rw[List.flatMap_append,List.length_append,List.length_append,a1,hXl,Nat.add_mul]
  ·show(L++X).length*n<=L.length*n+X.length*n
   rw[List.length_append,Nat.add_mul];exact Nat.le_refl _
  ·show tr.BN i=some y
   rw[List.flatMap_append]at hy
   by_cases hi:i<L.length*n
   ·rw[t3 i (.inl hi)]
    refine a11 i y ?_
    rwa [List.getElem?_append_left (by rw[a1];exact hi)]at hy
   ·rw[List.getElem?_append_right (by rw[a1];omega),a1]at hy
    have:=t2 (i-L.length*n) y hy
    rwa [show L.length*n+(i-L.length*n)=i by omega]at this
  ·obtain⟨_,_,_,_,_,e⟩:=hi;cases e;exact .inl ⟨_,_,_,_,_,rfl⟩
/--v[:k] -/
theorem Gr.hi (a:Gr el n c h v L) (hc:∀ e,(c e).length=n) (hk:k<=L.length) (hL:1<=L.length):∃ u,Gr el n c h u (L.take k)/\(∀ q,Al u q->Al v q)/\∀ (g:H) (N:Nx),H2 P (FR n) v (.i .i64 (k:Int)) g N=N.go P u g:=by
 rcases a with⟨rfl,rfl⟩|⟨id,g,off,fin,rfl,rfl,_⟩|⟨id,g,cap,Ao,rfl,a1,a2,a3,a4,a5,a6,a7,a8,a9,a10,a11⟩
 ·simp at hL
 ·simp at hL
 obtain⟨_,rfl⟩:1<=L.length/\cap=none:=by
  rcases a2 with h|h
  ·exact h
  ·omega
 have htk:(L.take k).length=k:=by rw[List.length_take];omega
 have hkn:k*n<=L.length*n:=Nat.mul_le_mul_right n hk
 refine⟨.l id g 0 k (k*n) (GV n k L.length),.inr (.inr ⟨id,g,GV n k L.length,Ao,by rw[htk],by rw[Ct hc],?_,a3,a4,a5,a6,a7,by rw[htk];omega,a9,a10,fun i y hy=>a11 i y ?_⟩),?_,fun g0 N=>Am fun q=>?_⟩
 ·rw[htk]
  cases k with
  |zero=>
   right
   refine⟨rfl,?_⟩
   obtain⟨m,hm⟩:∃ m,L.length=m+1:=⟨L.length-1,by omega⟩
   rw[hm];rfl
  |succ k=>left;exact⟨by omega,rfl⟩
 ·rw[JV hc,List.getElem?_take]at hy
  split at hy
  ·exact hy
  ·cases hy
 ·rintro q ⟨_,_,_,_,_,e⟩;cases e;exact⟨_,_,_,_,_,rfl⟩
 ·have e0:Nat.ble 0 k=true:=by rw[Nat.ble_eq];omega
  have e1:Nat.ble k L.length=true:=by rw[Nat.ble_eq];exact hk
  have e2:Nat.beq (L.length*n) (Nat.add 0 (Nat.mul L.length n))=true:=by
   rw[show Nat.add 0 (Nat.mul L.length n)=L.length*n by show 0+L.length*n=_;omega];exact Nat.beq_refl _
  unfold FR
  simp only[C4,Cz,Bd,e0,AH]
  show DG n id g 0 L.length (L.length*n) 0 k q=_
  unfold DG
  rw[e1,AH,e2,AH,A5,A5,A5]
  show q (.l id g (0+0*n) (k-0) (0+k*n) (GV n k L.length))=_
  simp
def CLR (P:Program) (z:List V) (x:V) (h:H) (N:Nx):Prop:=HM P (fun k=>vL x (fun _=>k (.tu []) h) fun id g off len fin _=>HS len (fun _=>k (.tu []) h) fun n=>store h id g off fin (Db z n) fun h=>k (.tu []) h) N
theorem Q9 {x:O} {z:List V} {t:F}:OR P (EC z x) t h N=CLR P z (oV x t) h N:=FQ fun cf k=>by simp only[EC,Au]
theorem IP (e:α):∀ m,Db (c e) m=(List.replicate m e).flatMap c
 |0=>rfl
 |m+1=>by rw[List.replicate_succ,List.flatMap_cons,<-IP e m];show app (c e) (Db (c e) m)=_;rw[De]
/--clear(v[k:]) -/
theorem Gr.clr {z:α} (a:Gr el n c h v L) (hc:∀ e,(c e).length=n) (hn:1<=n) (hk:k<L.length) (hl:L.length*n<2 ^ 36) (h1:∀ m,CB (Db (c z) m)=true):
 ∃ u,(∀ (g:H) (N:Nx),H2 P (FB n) v (.i .i64 (k:Int)) g N=N.go P u g)/\∀ N:Nx,(∀ h',Gr el n c h' v (L.take k++List.replicate (L.length-k) z)->AU (Al v) h h'->N.go P (.tu []) h')->CLR P (c z) u h N:=by
 rcases a with⟨rfl,rfl⟩|⟨id,g,off,fin,rfl,rfl,_⟩|⟨id,g,cap,Ao,rfl,a1,a2,a3,a4,a5,a6,a7,a8,a9,a10,a11⟩
 ·simp at hk
 ·simp at hk
 obtain⟨_,rfl⟩:1<=L.length/\cap=none:=by
  rcases a2 with h|h
  ·exact h
  ·omega
 have hkn:k*n+(L.length-k)*n=L.length*n:=by rw[<-Nat.add_mul];congr 1;omega
 refine⟨.l id g (k*n) (L.length-k) (L.length*n) none,fun g0 N=>Am fun q=>?_,fun N kk=>?_⟩
 ·have e0:Nat.ble k L.length=true:=by rw[Nat.ble_eq];omega
  have e1:Nat.ble L.length L.length=true:=by rw[Nat.ble_eq];exact Nat.le_refl _
  have e2:Nat.beq (L.length*n) (Nat.add 0 (Nat.mul L.length n))=true:=by
   rw[show Nat.add 0 (Nat.mul L.length n)=L.length*n by show 0+L.length*n=_;omega];exact Nat.beq_refl _
  unfold FB
  simp only[C4,Cz,Bd,e0,AH]
  show DG n id g 0 L.length (L.length*n) k L.length q=_
  unfold DG
  rw[e1,AH,e2,AH,A5,A5,A5,IT]
  show q (.l id g (0+k*n) (L.length-k) (0+L.length*n) none)=_
  simp
 ·have hrl:(Db (c z) (L.length-k)).length=(L.length-k)*n:=by rw[EG,hc]
  obtain⟨h',tr,b1,b2,b3,b4,b5,b6⟩:=K1 (off:=k*n) (fin:=L.length*n) (vs:=Db (c z) (L.length-k)) a5 a7 a6 a10 a3 (by rw[hrl];omega) (by rw[hrl];omega) (h1 _)
  have hlen:(L.take k++List.replicate (L.length-k) z).length=L.length:=by simp;omega
  refine Da (v:=.tu []) (h':=h') (fun q=>?_) (kk h' (.inr (.inr ⟨id,g,none,_,by rw[hlen],by rw[Ct hc],.inl ⟨by rw[hlen];omega,rfl⟩,by rw[b5.floor];exact a3,by rw[b6];exact a4,b2,Nat.le_refl _,rfl,by rw[hlen];exact a8,a9,rfl,fun i y hy=>?_⟩)) (b5.mono fun q _ e=>by rw[e];exact⟨_,_,_,_,_,rfl⟩))
  ·show HS (L.length-k) _ _=_
   obtain⟨m,hm⟩:∃ m,L.length-k=m+1:=⟨L.length-k-1,by omega⟩
   rw[hm]
   show store h id g (k*n) (L.length*n) (Db (c z) (m+1)) (fun h=>q (.tu []) h)=_
   rw[<-hm,b1]
  ·show tr.BN i=some y
   rw[List.flatMap_append,<-IP]at hy
   have hkl:((L.take k).flatMap c).length=k*n:=by rw[Ct hc,List.length_take];congr 1;omega
   by_cases hi:i<k*n
   ·rw[b4 i (.inl hi)]
    refine a11 i y ?_
    rw[List.getElem?_append_left (by rw[hkl];exact hi),JV hc,List.getElem?_take,if_pos hi]at hy
    exact hy
   ·rw[List.getElem?_append_right (by rw[hkl];omega),hkl]at hy
    have:=b3 (i-k*n) y hy
    rwa [show k*n+(i-k*n)=i by omega]at this
end
end Go.Ev
namespace Go.Ev
open Go
/--digits that are no number -/
def pO (l:List UInt8):Prop:=l.head? =some 0\/9223372036854775808<=pk l
instance (l:List UInt8):Decidable (pO l):=by unfold pO;exact inferInstance
end Go.Ev
namespace Go.Ev
open Go
structure je where
 key:List UInt8
 seq:Int
 del:Bool
 val:List UInt8
deriving DecidableEq
def AA4:je:=⟨[],0,false,[]⟩
instance:Inhabited je:=⟨AA4⟩
def sB (e:je):List V:=[sv e.key,.i .i64 e.seq,.b e.del,sv e.val]
theorem Hh (e:je):(sB e).length=4:=rfl
def Es (h:H) (v:V) (L:List je):Prop:=Ss 4 sB h v L
section
variable {P:Program} {h h' g':H} {N:Nx} {v:V} {L:List je} {i d:Nat}
theorem Es.l0 (a:Es h v L) (hi:i<L.length):L1 P (Ft v) (lg v) (Ci v+i*4) (Cm v) h N=N.go P (sv (L.getD i default).key) h:=Ss.ld (d:=0) a Hh hi (by omega)
theorem Es.l1 (a:Es h v L) (hi:i<L.length):L1 P (Ft v) (lg v) (Ci v+i*4+1) (Cm v) h N=N.go P (.i .i64 (L.getD i default).seq) h:=Ss.ld (d:=1) a Hh hi (by omega)
theorem Es.l2 (a:Es h v L) (hi:i<L.length):L1 P (Ft v) (lg v) (Ci v+i*4+2) (Cm v) h N=N.go P (.b (L.getD i default).del) h:=Ss.ld (d:=2) a Hh hi (by omega)
theorem Es.l3 (a:Es h v L) (hi:i<L.length):L1 P (Ft v) (lg v) (Ci v+i*4+3) (Cm v) h N=N.go P (sv (L.getD i default).val) h:=Ss.ld (d:=3) a Hh hi (by omega)
theorem Es.grow (a:Es h v L) (s:AU AO h h'):Es h' v L:=Ss.grow a s
end
section
variable {k v:List UInt8} {d:Bool}
end
theorem Dk {x y:UInt8} {a b:List UInt8}:Op.bytesLess (x::a) (y::b)=true↔x.toNat<y.toNat\/(x=y/\Op.bytesLess a b=true):=by
 simp only[Op.bytesLess,Bool.or_eq_true,Bool.and_eq_true,decide_eq_true_eq,beq_iff_eq,UInt8.lt_iff_toNat_lt]
theorem Ja:∀ l:List UInt8,Op.bytesLess l l=false
 |[]=>rfl
 |c::l=>by
  cases h:Op.bytesLess (c::l) (c::l)with
  |false=>rfl
  |true=>
   rcases Dk.1 h with h|⟨_,h⟩
   ·omega
   ·rw[Ja l]at h;cases h
theorem KI:∀ {a b c:List UInt8},Op.bytesLess a b=true->Op.bytesLess b c=true->Op.bytesLess a c=true
 |a,[],c,h,_=>by cases a<;>cases h
 |_,_::_,[],_,h=>by cases h
 |[],_::_,_::_,_,_=>rfl
 |x::a,y::b,z::c,h,g=>by
  rcases Dk.1 h with h1|⟨h1,h2⟩<;>rcases Dk.1 g with g1|⟨g1,g2⟩
  ·exact Dk.2 (.inl (by omega))
  ·exact Dk.2 (.inl (by rw[<-g1];exact h1))
  ·exact Dk.2 (.inl (by rw[h1];exact g1))
  ·exact Dk.2 (.inr ⟨h1.trans g1,KI h2 g2⟩)
theorem Ln {a b:List UInt8} (h:Op.bytesLess a b=true):Op.bytesLess b a=false:=by
 cases g:Op.bytesLess b a with
 |false=>rfl
 |true=>have:=KI h g;rw[Ja]at this;cases this
theorem Hx:∀ {a b:List UInt8},a≠b->Op.bytesLess a b=true\/Op.bytesLess b a=true
 |[],[],h=>absurd rfl h
 |[],_::_,_=>.inl rfl
 |_::_,[],_=>.inr rfl
 |x::a,y::b,h=>by
  by_cases e:x=y
  ·subst e
   rcases Hx (a:=a) (b:=b) (fun e=>h (by rw[e]))with g|g
   ·exact .inl (Dk.2 (.inr ⟨rfl,g⟩))
   ·exact .inr (Dk.2 (.inr ⟨rfl,g⟩))
  ·have:x.toNat≠y.toNat:=fun g=>e (UInt8.toNat_inj.1 g)
   rcases Nat.lt_or_ge x.toNat y.toNat with g|g
   ·exact .inl (Dk.2 (.inl g))
   ·exact .inr (Dk.2 (.inl (by omega)))
section
variable {s k v:List UInt8} {n m j:Nat} {q e:Int}
end
end Go.Ev
namespace Go.Ev
open Go
structure BU where
 id:Int
 A7:Int
 fst:List UInt8
 CT:List UInt8
 ED:Int
deriving DecidableEq
def Yh:BU:=⟨0,0,[],[],0⟩
instance:Inhabited BU:=⟨Yh⟩
def Lm (t:BU):List V:=[.i .i64 t.id,.i .i64 t.A7,sv t.fst,sv t.CT,.i .i64 t.ED]
theorem Ba (t:BU):(Lm t).length=5:=rfl
def Dr (h:H) (v:V) (L:List BU):Prop:=Ss 5 Lm h v L
section
variable {P:Program} {h h' g':H} {N:Nx} {v:V} {L:List BU} {i d:Nat}
theorem Dr.ln (a:Dr h v L):H1 P Lv v g' N=N.go P (.i .i64 (L.length:Int)) g':=Ss.ln a
theorem Dr.ix (a:Dr h v L) (hi:i<L.length):IX P 5 v i g' N=N.go P (.p (Ft v) (lg v) (Ci v+i*5) (Cm v)) g':=Ss.ix a hi
theorem Dr.l0 (a:Dr h v L) (hi:i<L.length):L1 P (Ft v) (lg v) (Ci v+i*5) (Cm v) h N=N.go P (.i .i64 (L.getD i default).id) h:=Ss.ld (d:=0) a Ba hi (by omega)
theorem Dr.l1 (a:Dr h v L) (hi:i<L.length):L1 P (Ft v) (lg v) (Ci v+i*5+1) (Cm v) h N=N.go P (.i .i64 (L.getD i default).A7) h:=Ss.ld (d:=1) a Ba hi (by omega)
theorem Dr.l2 (a:Dr h v L) (hi:i<L.length):L1 P (Ft v) (lg v) (Ci v+i*5+2) (Cm v) h N=N.go P (sv (L.getD i default).fst) h:=Ss.ld (d:=2) a Ba hi (by omega)
theorem Dr.l3 (a:Dr h v L) (hi:i<L.length):L1 P (Ft v) (lg v) (Ci v+i*5+3) (Cm v) h N=N.go P (sv (L.getD i default).CT) h:=Ss.ld (d:=3) a Ba hi (by omega)
theorem Dr.la (a:Dr h v L) (hi:i<L.length):LN P (Ft v) (lg v) (Ci v+i*5) (Cm v) 5 h N=N.go P (.a [.i .i64 (L.getD i default).id,.i .i64 (L.getD i default).A7,sv (L.getD i default).fst,sv (L.getD i default).CT,.i .i64 (L.getD i default).ED]) h:=Ss.ldA a Ba (by omega) hi
theorem Dr.grow (a:Dr h v L) (s:AU AO h h'):Dr h' v L:=Ss.grow a s
end
def My (a b:Int):Int:=if a<b then -1 else if b<a then 1 else 0
/--how two are held against each other -/
def Jq (a b:BU):Int:=if a.A7=b.A7 then (if a.A7=0 then My b.id a.id else JI (decide (a.fst=b.fst)) (Op.bytesLess a.fst b.fst))else My a.A7 b.A7
def GI (a b:BU):Bool:=if a.A7=b.A7 then (if a.A7=0 then decide (b.id<a.id)else Op.bytesLess a.fst b.fst)else decide (a.A7<b.A7)
theorem O9 {a b:Int}:(My a b<0)=(a<b):=by
 unfold My
 by_cases h1:a<b
 ·rw[if_pos h1];simp[h1]
 ·rw[if_neg h1]
  by_cases h2:b<a
  ·rw[if_pos h2];simp;omega
  ·rw[if_neg h2];simp;omega
theorem Z8 {a b:List UInt8} (h:Op.bytesLess a b=true):a≠b:=fun e=>by rw[e,Ja]at h;cases h
theorem Om {a b:BU}:(Jq a b<0)=(GI a b=true):=by
 unfold Jq GI
 by_cases h1:a.A7=b.A7
 ·rw[if_pos h1,if_pos h1]
  by_cases h2:a.A7=0
  ·rw[if_pos h2,if_pos h2,O9];simp
  ·rw[if_neg h2,if_neg h2]
   cases hb:Op.bytesLess a.fst b.fst with
   |true=>rw[decide_eq_false (Z8 hb)];exact propext ⟨fun _=>rfl,fun _=>by decide⟩
   |false=>
    by_cases e:a.fst=b.fst
    ·rw[decide_eq_true e];exact propext ⟨fun h=>absurd h (by decide),fun h=>by cases h⟩
    ·rw[decide_eq_false e];exact propext ⟨fun h=>absurd h (by decide),fun h=>by cases h⟩
 ·rw[if_neg h1,if_neg h1,O9];simp
theorem Wy {a b:BU} (h:GI a b=true):(Jq a b<0)=True:=by rw[Om,h];simp
theorem Xm {a b:BU} (h:GI a b=false):(Jq a b<0)=False:=by rw[Om,h];simp
theorem Ht {a b:BU} (h:GI a b=true):GI b a=false:=by
 unfold GI at*
 by_cases h1:a.A7=b.A7
 ·rw[if_pos h1]at h
  rw[if_pos h1.symm]
  by_cases h2:a.A7=0
  ·rw[if_pos h2]at h;rw[if_pos (by omega)];simp at h⊢;omega
  ·rw[if_neg h2]at h;rw[if_neg (by omega)];exact Ln h
 ·rw[if_neg h1]at h;rw[if_neg (Ne.symm h1)];simp at h⊢;omega
theorem Ra {a b c:List UInt8} (h1:Op.bytesLess a b=false) (h2:Op.bytesLess b c=false):Op.bytesLess a c=false:=by
 cases h:Op.bytesLess a c with
 |false=>rfl
 |true=>
  exfalso
  by_cases e1:a=b
  ·subst e1;rw[h]at h2;cases h2
  ·rcases Hx e1 with h3|h3
   ·rw[h3]at h1;cases h1
   ·by_cases e2:b=c
    ·subst e2;rw[h]at h1;cases h1
    ·rw[KI h3 h]at h2;cases h2
theorem Q7 {a b c:BU} (h1:GI a b=false) (h2:GI b c=false):GI a c=false:=by
 unfold GI at*
 by_cases e1:a.A7=b.A7
 ·rw[if_pos e1]at h1
  by_cases e2:b.A7=c.A7
  ·rw[if_pos e2]at h2;rw[if_pos (e1.trans e2)]
   by_cases e3:a.A7=0
   ·rw[if_pos e3]at h1⊢;rw[if_pos (by omega)]at h2;simp at h1 h2⊢;omega
   ·rw[if_neg e3]at h1⊢;rw[if_neg (by omega)]at h2;exact Ra h1 h2
  ·rw[if_neg e2]at h2;rw[if_neg (by omega)];simp at h2⊢;omega
 ·rw[if_neg e1]at h1
  by_cases e2:b.A7=c.A7
  ·rw[if_neg (by omega)];simp at h1⊢;omega
  ·rw[if_neg e2]at h2
   simp at h1 h2
   rw[if_neg (by omega)];simp;omega
/--of two of L,by their places -/
def Ce (L:List BU) (x y:Nat):Bool:=GI (L.getD x default) (L.getD y default)
theorem Dm (L:List BU):Ord (Ce L):=⟨fun h=>Ht h,fun h1 h2=>Q7 h1 h2⟩
theorem D3 {L:List BU} {x y:Nat} (h:Ce L x y=true):(Jq (L.getD x default) (L.getD y default)<0)=True:=Wy h
theorem D1 {L:List BU} {x y:Nat} (h:Ce L x y=false):(Jq (L.getD x default) (L.getD y default)<0)=False:=Xm h
end Go.Ev
namespace Go.Proofs.Ytobfgempjekjpaa
open Go Go.Ev
theorem eT:Try.prog.follows .mixedOrders=true:=by kernel_rfl
open Go.Ev in
instance {nt:Nat} {t:F} {h:H} {K:X->F->H->Prop} {l:List CO} {ch:Option (List Nat×List (Nat×List Nat))}:St (Ok Try.prog nt (.Az l ch) t h K) (DO Try.prog l t h (K .normal)):=⟨Ok.dw eT⟩
end Go.Proofs.Ytobfgempjekjpaa
end
