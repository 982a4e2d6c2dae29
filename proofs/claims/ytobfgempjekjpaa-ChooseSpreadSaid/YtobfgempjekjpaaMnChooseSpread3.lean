/- The law ChooseSpread, part 3: what its proof uses, closely written. No condition. -/
import Derived.Test.YtobfgempjekjpaaMnChooseSpread2
import Derived.Test.YtobfgempjekjpaaProg
noncomputable section
set_option linter.all false
namespace Go.Ev
open Go
section
variable {P:Program} {S:Spec} {l:List CO} {t:F} {h:H} {K:F->H->Prop}
/--a literal of one element -/
theorem FA.fi {n el:Nat} {b:Bool} {o:O} {y z:V} (e1:oV o t=y) (h1:E6 y=true) (h2:cells y=[y]) (hf:B.val h.floor<=B.val h.next)
 (k:∀ h' id,AT AQ h h'->id=h.next->B.val h'.next=B.val h.next+1->C7 h' id [y]->FA P S l (put n (.l id 0 0 1 1 (some 1)) t) h' K):FA P S (.mk .none (.some (AR n)) b (.mk (Aw el 1 [z] [Pt.mk 0 1 o]))::l) t h K:=by
 obtain⟨h',a1,a2,a3,a4⟩:=IH el [y] h (by show 1<2 ^ 37;decide) hf
 refine FA.op (v:=.l h.next 0 0 1 1 (some 1)) (h1:=h') (fun k=>?_) (k _ h.next a2 rfl a4 a3)
 show oK o t (F3 0 1 (fun t cs k=>k cs) t [z] fun cs=>alloc el cs h fun id h=>k (.l id 0 0 1 cs.length (some 1)) h)=_
 rw[Aq,e1]
 unfold F3
 rw[h1,AG,h2]
 show alloc el [y] h (fun id h=>k (.l id 0 0 1 1 (some 1)) h)=_
 rw[a1]
theorem FA.rM {n el:Nat} {b:Bool} {s x:O} {id:B} {y v:V} {xs:List V} (e1:oV s t=v) (e2:oV x t=.l id 0 0 1 1 (some 1)) (hr:Row h id 0 0 [y]) (hb:Fq h el 1 v xs) (hf:B.val h.floor<=B.val h.next) (h1:FD y=true) (hl:xs.length+1<=1048576)
 (k:∀ v' h',Fq h' el 1 v' (xs++[y])->AT (Ao v) h h'->(∀ i,Ao v' i->Ao v i\/B.val h.next<=B.val i)->FA P S l (put n v' t) h' K):FA P S (.mk .none (.some (AR n)) b (.mk (Bk el 1 s x))::l) t h K:=by
 obtain⟨v',h',a1,a2,a3,a4⟩:=JR (vs:=[y]) (n:=1) hb hf (Nat.le_refl _) rfl (by show Bool.rec false true (FD y)=true;rw[h1]) hl
 exact FA.op (fun k=>OV (n:=n) e1 e2 hr a1 _ k) (k v' h' a2 a3 a4)
end
theorem AT.CU {p:B->Prop} {a b c:H} (x:AT AQ a b) (y:AT p b c) (h:∀ id,p id->B.val a.next<=B.val id):AT AQ a c:=
 ⟨y.floor.trans x.floor,Nat.le_trans x.next y.next,fun id h1 _=>(y.get id (Nat.lt_of_lt_of_le h1 x.next) fun hp=>absurd (h id hp) (Nat.not_le.2 h1)).trans (x.get id h1 fun h=>h)⟩
/--a slice of ints -/
def Il (h:H) (v:V) (xs:List Int):Prop:=Gy h v (xs.map (V.i .i64))
theorem Il.grow {h h':H} {v:V} {xs:List Int} (a:Il h v xs) (s:AT AQ h h'):Il h' v xs:=Gy.grow a s
theorem Il.len {h0:H} {v:V} {xs:List Int} (a:Il h0 v xs) (k:Nat->Bool):Pd v k=k xs.length:=by rw[Gy.len a];simp
theorem Il.idx {h0:H} {v:V} {xs:List Int} {i:Nat} (a:Il h0 v xs) (hi:i<xs.length) (k:V->Bool):NF 1 v i k=k (.p (FV v) (lg v) (Ce v+i) (Cf v)):=Gy.idx a (by simpa using hi) k
theorem Il.rd {h:H} {v:V} {xs:List Int} {i:Nat} (a:Il h v xs) (hi:i<xs.length) (k:V->Bool):DN h (FV v) (lg v) (Ce v+i) (Cf v) k=k (.i .i64 (xs.getD i 0)):=
 FH a (by simp[hi]) k
/--.. of the call's own,behind 'lo' -/
structure Ib (h:H) (lo el:Nat) (v:V) (xs:List Int):Prop where
 buf:Fq h el 1 v (xs.map (V.i .i64))
 own:∀ i,Ao v i->lo<=B.val i
theorem Ib.nil (h:H) (lo el:Nat):Ib h lo el .l0 []:=⟨Fq.nil h el 1,fun i hi=>by obtain⟨_,_,_,_,_,e⟩:=hi;cases e⟩
theorem Ib.grow {h h':H} {lo el:Nat} {v:V} {xs:List Int} (a:Ib h lo el v xs) (s:AT AQ h h'):Ib h' lo el v xs:=⟨a.buf.grow s,a.own⟩
/--append(v,y)with its literal -/
theorem FA.push {P:Program} {S:Spec} {l:List CO} {t:F} {h:H} {K:F->H->Prop} {n m el lo:Nat} {b b':Bool} {s o:O} {z v:V} {y:Int} {xs:List Int} (hnm:n<512) (hs:s≠.t (AR m)) (e1:oV s t=v) (e2:oV o t=.i .i64 y) (a:Ib h lo el v xs) (hf:B.val h.floor<=B.val h.next) (hlo:lo<=B.val h.next) (hl:xs.length+1<=1048576) (hm:m<512) (e3:∀ u,oV s (put m u t)=v)
 (k:∀ v' h' u,Ib h' lo el v' (xs++[y])->AT (Ao v) h h'->FA P S l (put n v' (put m u t)) h' K):
 FA P S (.mk .none (.some (AR m)) b (.mk (Aw el 1 [z] [Pt.mk 0 1 o]))::.mk .none (.some (AR n)) b' (.mk (Bk el 1 s (.t (AR m))))::l) t h K:=by
 refine FA.fi e2 rfl rfl hf fun h1 id s1 e n1 o1=>?_
 refine FA.rM (e3 _) (by rw[UX,OX _ _ _ _ hm hm,if_pos rfl]) o1.row (a.buf.grow s1) (s1.fl hf) rfl (by simpa using hl) fun v' h' b1 s2 hv=>?_
 refine k v' h' _ ⟨by simpa using b1,fun i hi=>?_⟩ ?_
 ·rcases hv i hi with h2|h2
  ·exact a.own i h2
  ·have:=s1.next;omega
 ·refine⟨s2.floor.trans s1.floor,Nat.le_trans s1.next s2.next,fun id' h1' h2=>(s2.get id' (Nat.lt_of_lt_of_le h1' s1.next) h2).trans (s1.get id' h1' fun h=>h)⟩
end Go.Ev
namespace Go.Ev
open Go
theorem MJ (z:V):∀ n,DS [z] n=List.replicate n z
 |0=>rfl
 |n+1=>by
  show z::DS [z] n=_
  rw[MJ z n,List.replicate_succ]
section
variable {P:Program} {S:Spec} {l:List CO} {t:F} {h:H} {K:F->H->Prop}
end
end Go.Ev
namespace Go.Ev
open Go
/--a text,as a value -/
def sv (l:List UInt8):V:=.s l.length (pk l)
theorem WG:V.s 0 0=sv []:=rfl
theorem Cr (l:List UInt8) (k:Nat->Nat->Bool):vS (sv l) k=k l.length (pk l):=rfl
theorem Cn {z:Int} (h:0<=z) (k:Nat->Bool):A2 z k=k z.toNat:=by
 obtain⟨n,rfl⟩:=Int.eq_ofNat_of_zero_le h
 rfl
/--a byte,as a value -/
def bv (c:UInt8):V:=.i .u8 (c.toNat:Int)
theorem eV (u v w:V):one [u,v,w]=.tu [u,v,w]:=rfl
theorem mg (n m o:Nat) (t:F) (h:H) (k:List V->Bool):E5 [Rs.tmp (AR n),Rs.tmp (AR m),Rs.tmp (AR o)] t h k=k [get n t,get m t,get o t]:=by
 show Bd (Bm (AR n) t) (fun v=>Bd (Bm (AR m) t) fun u=>Bd (Bm (AR o) t) fun w=>k [v,u,w])=_
 rw[BD,BD,BD];rfl
section
variable (cf:Bg) (t:F) (h:H) (k:V->H->Bool) (o x y:O)
def S0 (a b:V) (k:V->Bool):Bool:=vS a fun la na=>vS b fun lb nb=>Ap (Nat.ble (Nat.add la lb) 1048576) fun _=>k (.s (Nat.add la lb) (Nat.add (Nat.mul na (Nat.pow 256 lb)) nb))
theorem PX:Ea x y cf t h k=S0 (oV x t) (oV y t) fun v=>k v h:=by simp only[Ea,AN,A1];rfl
theorem Uk {a b:List UInt8} (hl:a.length+b.length<=1048576) (k:V->Bool):S0 (sv a) (sv b) k=k (sv (a++b)):=by
 have h1:Nat.ble (Nat.add a.length b.length) 1048576=true:=by rw[Nat.ble_eq];exact hl
 unfold S0
 rw[Cr,Cr,h1,AG]
 unfold sv
 rw[List.length_append,GW];rfl
def Ps (v:V) (i:Nat) (k:V->Bool):Bool:=vS v fun l n=>Ap (Nat.ble (Nat.succ i) l) fun _=>k (.i .u8 (.ofNat (Nat.mod (Nat.div n (Nat.pow 256 (Nat.sub (Nat.sub l 1) i))) 256)))
theorem Pp:Ee x y cf t h k=vI (oV y t) fun _ n=>A2 n fun n=>Ps (oV x t) n fun v=>k v h:=by
 have no:∀ u:V,(vI u fun _ n=>A2 n fun _=>false)=false:=by
  intro u
  cases u<;>first|rfl|(rename_i kd n;cases n<;>rfl)
 simp only[Ee,AN]
 generalize oV x t=v
 generalize oV y t=u
 have hn:∀ w:V,(∀ k,vS w k=false)->(vI u fun _ n=>A2 n fun n=>Ps w n fun p=>k p h)=false:=by
  intro w hw
  have:(fun(_:IntKind) (n:Int)=>A2 n fun n=>Ps w n fun p=>k p h)=fun _ n=>A2 n fun _=>false:=by
   funext _ n;congr 1;funext n;exact hw _
  rw[this];exact no u
 cases v with
 |s l n=>simp only[Hk,A1];rfl
 |_=>rw[hn _ fun _=>rfl];rfl
theorem VO {l:List UInt8} {i:Nat} (hi:i<l.length) (k:V->Bool):Ps (sv l) i k=k (.i .u8 ((l.getD i 0).toNat:Int)):=by
 have h1:Nat.ble (Nat.succ i) l.length=true:=by rw[Nat.ble_eq];exact hi
 unfold Ps
 rw[Cr,h1,AG]
 have e:l.getD i 0=l[i]:=by simp[List.getD,hi]
 have:=QT l hi
 rw[e,this]
 rfl
def PN (v:V) (a b:Nat) (k:V->Bool):Bool:=vS v fun l n=>Ap (Nat.ble a b) fun _=>Ap (Nat.ble b l) fun _=>k (.s (Nat.sub b a) (Nat.mod (Nat.div n (Nat.pow 256 (Nat.sub l b))) (Nat.pow 256 (Nat.sub b a))))
def Ma (v:V) (a:Nat) (k:V->Bool):Bool:=vS v fun l n=>Ap (Nat.ble a l) fun _=>k (.s (Nat.sub l a) (Nat.mod (Nat.div n (Nat.pow 256 (Nat.sub l l))) (Nat.pow 256 (Nat.sub l a))))
theorem tv (u:V):(vI u fun _ n=>A2 n fun _=>false)=false:=by
 cases u<;>first|rfl|(rename_i kd n;cases n<;>rfl)
theorem Ww (a b:O):Ch x (some a) (some b) cf t h k=vI (oV a t) fun _ p=>A2 p fun p=>vI (oV b t) fun _ q=>A2 q fun q=>PN (oV x t) p q fun v=>k v h:=by
 simp only[Ch,AN]
 have hb:∀ (o:O) (d:Nat) (k:Nat->Bool),BR (some o) d t k=vI (oV o t) fun _ n=>A2 n k:=fun o d k=>by show oE o t _=_;rw[AN]
 simp only[hb,A1]
 generalize oV x t=v
 have hn:∀ w:V,(∀ k,vS w k=false)->(vI (oV a t) fun _ p=>A2 p fun p=>vI (oV b t) fun _ q=>A2 q fun q=>PN w p q fun v=>k v h)=false:=by
  intro w hw
  have e2:∀ p q,PN w p q (fun v=>k v h)=false:=fun p q=>hw _
  simp only[e2,tv]
 cases v with
 |s l n=>simp only[Hk];rfl
 |_=>rw[hn _ fun _=>rfl];rfl
theorem XP (b:O):Ch x none (some b) cf t h k=vI (oV b t) fun _ q=>A2 q fun q=>PN (oV x t) 0 q fun v=>k v h:=by
 simp only[Ch,AN]
 have hb:∀ (o:O) (d:Nat) (k:Nat->Bool),BR (some o) d t k=vI (oV o t) fun _ n=>A2 n k:=fun o d k=>by show oE o t _=_;rw[AN]
 have h0:∀ (d:Nat) (k:Nat->Bool),BR none d t k=k d:=fun _ _=>rfl
 simp only[hb,h0,A1]
 generalize oV x t=v
 have hn:∀ w:V,(∀ k,vS w k=false)->(vI (oV b t) fun _ q=>A2 q fun q=>PN w 0 q fun v=>k v h)=false:=by
  intro w hw
  have e2:∀ p q,PN w p q (fun v=>k v h)=false:=fun p q=>hw _
  simp only[e2,tv]
 cases v with
 |s l n=>simp only[Hk];rfl
 |_=>rw[hn _ fun _=>rfl];rfl
theorem db (a:O):Ch x (some a) none cf t h k=vI (oV a t) fun _ p=>A2 p fun p=>Ma (oV x t) p fun v=>k v h:=by
 simp only[Ch,AN]
 have hb:∀ (o:O) (d:Nat) (k:Nat->Bool),BR (some o) d t k=vI (oV o t) fun _ n=>A2 n k:=fun o d k=>by show oE o t _=_;rw[AN]
 have h0:∀ (d:Nat) (k:Nat->Bool),BR none d t k=k d:=fun _ _=>rfl
 simp only[hb,h0,A1]
 generalize oV x t=v
 have hn:∀ w:V,(∀ k,vS w k=false)->(vI (oV a t) fun _ q=>A2 q fun q=>Ma w q fun v=>k v h)=false:=by
  intro w hw
  have e2:∀ q,Ma w q (fun v=>k v h)=false:=fun q=>hw _
  simp only[e2,tv]
 cases v with
 |s l n=>
  simp only[Hk]
  have:∀ p,Ma (.s l n) p (fun v=>k v h)=Ap (Nat.ble p l) fun _=>k (.s (Nat.sub l p) (Nat.mod (Nat.div n (Nat.pow 256 (Nat.sub l l))) (Nat.pow 256 (Nat.sub l p)))) h:=fun _=>rfl
  simp only[this]
  have e:∀ p,(Ap (Nat.ble p l) fun _=>Ap (Nat.ble l l) fun _=>k (.s (Nat.sub l p) (Nat.mod (Nat.div n (Nat.pow 256 (Nat.sub l l))) (Nat.pow 256 (Nat.sub l p)))) h)=Ap (Nat.ble p l) fun _=>k (.s (Nat.sub l p) (Nat.mod (Nat.div n (Nat.pow 256 (Nat.sub l l))) (Nat.pow 256 (Nat.sub l p)))) h:=fun p=>by
   have:Nat.ble l l=true:=by rw[Nat.ble_eq];exact Nat.le_refl _
   rw[this];rfl
  simp only[e]
 |_=>rw[hn _ fun _=>rfl];rfl
theorem N9 {l:List UInt8} {a b:Nat} (h1:a<=b) (h2:b<=l.length) (k:V->Bool):PN (sv l) a b k=k (sv ((l.take b).drop a)):=by
 have e1:Nat.ble a b=true:=by rw[Nat.ble_eq];exact h1
 have e2:Nat.ble b l.length=true:=by rw[Nat.ble_eq];exact h2
 unfold PN
 rw[Cr,e1,AG,e2,AG]
 unfold sv
 rw[L6 l h1 h2,List.length_drop,List.length_take,Nat.min_eq_left h2];rfl
theorem VS {l:List UInt8} {a:Nat} (h1:a<=l.length) (k:V->Bool):Ma (sv l) a k=k (sv (l.drop a)):=by
 have:=N9 h1 (Nat.le_refl _) k
 rw[List.take_length]at this
 rw[<-this]
 have e1:Nat.ble a l.length=true:=by rw[Nat.ble_eq];exact h1
 have e2:Nat.ble l.length l.length=true:=by rw[Nat.ble_eq];exact Nat.le_refl _
 unfold PN Ma
 rw[Cr,Cr,e1,AG,AG,e2,AG]
def MO (f:Nat->Nat->Nat->Nat->Bool) (a b:V) (k:V->Bool):Bool:=vS a fun la na=>vS b fun lb nb=>k (.b (f la na lb nb))
theorem Ub (f:Nat->Nat->Nat->Nat->Bool):CV f x y cf t h k=MO f (oV x t) (oV y t) fun v=>k v h:=by simp only[CV,AN,Cb];rfl
theorem HA (a b:List UInt8):Fy a.length (pk a) b.length (pk b)=decide (a=b):=by
 have e:∀ {x y:Bool},(x=true↔y=true)->x=y:=by intro x y h;cases x<;>cases y<;>simp_all
 apply e
 rw[decide_eq_true_iff]
 have:=SG a b
 unfold Fy
 rw[<-this]
 exact beq_iff_eq
def n6 (a b:V) (k:V->Bool):Bool:=vS a fun la na=>vS b fun lb nb=>k (.i .i64 (I4 (Fy la na lb nb) (Fj la na lb nb)))
theorem T8:GF x y cf t h k=n6 (oV x t) (oV y t) fun v=>k v h:=by simp only[GF,AN,Vl];rfl
theorem YL (a b:List UInt8) (k:V->Bool):n6 (sv a) (sv b) k=k (.i .i64 (I4 (decide (a=b)) (Op.bytesLess a b))):=by
 unfold n6;rw[Cr,Cr,HA,Bo]
theorem YX (a b:List UInt8) (k:V->Bool):MO Fy (sv a) (sv b) k=k (.b (decide (a=b))):=by
 unfold MO;rw[Cr,Cr,HA]
theorem eB (a b:List UInt8) (k:V->Bool):MO (fun a b c d=>!Fy a b c d) (sv a) (sv b) k=k (.b (!decide (a=b))):=by
 unfold MO;rw[Cr,Cr];simp only[HA]
theorem eG (a b:List UInt8) (k:V->Bool):MO Fj (sv a) (sv b) k=k (.b (Op.bytesLess a b)):=by
 unfold MO;rw[Cr,Cr,Bo]
theorem RK (f:IntKind->Int->Nat->(V->Bool)->Bool):Cd f x y cf t h k=vI (oV x t) fun kd a=>vI (oV y t) fun _ b=>A2 b fun n=>f kd a (min n kd.bits) fun v=>k v h:=by simp only[Cd,AN]
theorem jz (kd:IntKind) (a:Int) (n:Nat) (k:V->Bool):Lu kd a n k=k (.i kd (kd.wrap (a*((2 ^ n:Nat):Int)))):=CH _ _ _
theorem Pw (len size:Nat):CT len size o x cf t h k=vP (oV o t) fun id g off fin=>vI (oV x t) fun _ n=>A2 n fun n=>Ap (Nat.ble (Nat.succ n) len) fun _=>k (.p id g (off+n*size) fin) h:=by
 simp only[CT,AN,A1];rfl
theorem lE {i n:Nat} (h:i<n) (k:Unit->Bool):Ap (Nat.ble (Nat.succ i) n) k=k ():=by
 have:Nat.ble (Nat.succ i) n=true:=by rw[Nat.ble_eq];exact h
 rw[this];rfl
theorem Me (n size:Nat) (a:O):DH n size x (some a) none cf t h k=vP (oV x t) fun id g off fin=>vI (oV a t) fun _ p=>A2 p fun p=>Ap (Nat.ble p n) fun _=>BT size id g off n fin n p n fun v=>k v h:=by
 simp only[DH,AN]
 have hb:∀ (o:O) (d:Nat) (k:Nat->Bool),BR (some o) d t k=vI (oV o t) fun _ n=>A2 n k:=fun o d k=>by show oE o t _=_;rw[AN]
 have h0:∀ (d:Nat) (k:Nat->Bool),BR none d t k=k d:=fun _ _=>rfl
 simp only[hb,h0]
theorem Dn {size:Nat} {id:B} {g off len fin c a b:Nat} (hcM:c<18446744073709551616) (h1:b<=c) (h2:a<c) (k:V->Bool):BT size id g off len fin c a b k=k (.l id g (off+a*size) (b-a) fin (some (c-a))):=by
 have e1:Nat.ble b c=true:=by rw[Nat.ble_eq];exact h1
 have e2:Nat.beq a c=false:=by
  cases hx:Nat.beq a c with
  |false=>rfl
  |true=>have:=Nat.eq_of_beq_eq_true hx;omega
 have e0:Nat.ble (Nat.succ c) 18446744073709551616=true:=by rw[Nat.ble_eq];exact hcM
 unfold BT
 rw[e0,AG,e1,AG,e2]
 show fN (Nat.sub b a) _=_
 rw[A1,A1,A1];rfl
theorem kz {a b:Nat} (h:a<=b) (k:Unit->Bool):Ap (Nat.ble a b) k=k ():=by
 have:Nat.ble a b=true:=by rw[Nat.ble_eq];exact h
 rw[this];rfl
def RS (h:H) (v:V) (k:V->Bool):Bool:=vL v (fun _=>k (.s 0 0)) fun id g off len fin _=>Jr len len h id g off fin fun vs=>G4 vs 0 fun n=>k (.s len n)
theorem bJ:EV x cf t h k=RS h (oV x t) fun v=>k v h:=by simp only[EV,AN];rfl
theorem K8:∀ (l:List UInt8) (acc:Nat) (k:Nat->Bool),G4 (l.map bv) acc k=k (acc*256 ^ l.length+pk l)
 |[],acc,k=>by show fN acc k=_;rw[A1];simp[pk]
 |c::l,acc,k=>by
  show It (bv c) (fun c=>fN (Nat.add (Nat.mul acc 256) c) fun acc=>G4 (l.map bv) acc k)=_
  have hb:∀ k',It (bv c) k'=k' c.toNat:=fun k'=>by
   have h2:Nat.ble c.toNat 255=true:=by rw[Nat.ble_eq];have:=c.toNat_lt;omega
   unfold It bv
   rw[Cs,BQ,AG]
   show A2 (Int.ofNat c.toNat) _=_
   rw[A6,h2,AG]
  rw[hb,A1,K8 l]
  congr 1
  show(acc*256+c.toNat)*256 ^ l.length+pk l=acc*256 ^ (l.length+1)+(c.toNat*256 ^ l.length+pk l)
  rw[Nat.add_mul,Nat.pow_succ,Nat.mul_assoc,Nat.mul_comm 256,Nat.add_assoc]
theorem Uz {h:H} {v:V} {l:List UInt8} (a:Gy h v (l.map bv)) (hne:l≠[]) (k:V->Bool):RS h v k=k (sv l):=by
 rcases a with⟨rfl,e⟩|⟨id,g,off,fin,cap,rfl,h2,h3,h4⟩
 ·simp at e;exact absurd e hne
 ·show Jr (l.map bv).length (l.map bv).length h id g off fin (fun vs=>G4 vs 0 fun n=>k (.s (l.map bv).length n))=_
  rw[Kq (by rw[List.length_map];exact List.length_pos_iff.2 hne),C4 h4 rfl (by simpa using hne) h2,K8]
  unfold sv
  simp
end
section
variable {P:Program} {S:Spec} {l:List CO} {t:F} {h:H} {K:F->H->Prop}
end
end Go.Ev
namespace Go.Ev
open Go Go.RowKit Go.WideShapes Go.ChangeShapes Go.ChangeAt
section
variable {H:Type} {enc:TypeId×Value->H}
theorem G0 {P:Program} (hl:laidOutB P=true) {W W':World} (hb:Below W.heap.size W W') (sp:Nat->Bool):∀ (ts:List TypeId) (vs:List Value) (ds:List (DataW H)) (ps:List MemPlace),
 ts.all (fun t=>P.readableRec t&&decide (t<P.types.size))=true->DataW.TrodAll enc P W 0 (fun _=>true) true ts vs ds ps->(∀ x∈ps,x.block<W.heap.size)->(∀ x∈ps,sp x.block=true)->DataW.TrodAll enc P W' 0 sp true ts vs ds ps
 |[],[],[],ps,_,h,_,_=>h
 |t::ts,v::vs,d::ds,ps,ht,h,hlt,hsp=>by
  obtain⟨p,q,h1,h2,rfl⟩:=h
  simp only[List.all_cons,Bool.and_eq_true]at ht
  refine⟨p,q,?_,G0 hl hb sp ts vs ds q (by simpa using ht.2) h2 (fun x hx=>hlt x (by simp[hx])) (fun x hx=>hsp x (by simp[hx])),rfl⟩
  exact WideElems.Trod_stays hl ht.1.1 (of_decide_eq_true ht.1.2) h1 (fun x hx=>hb.same (hlt x (by simp[hx]))) (fun x hx=>hsp x (by simp[hx]))
 |[],[],_::_,_,_,h,_,_=>h.elim
 |[],_::_,_,_,_,h,_,_=>by cases h
 |_::_,[],_,_,_,h,_,_=>by cases h
 |_::_,_::_,[],_,_,h,_,_=>by cases h
theorem Nc {C:Checked} {os:Os} {f:FuncId} {fn:Func} {s:ChangeSpec} {conds:List PathCond} {tb:TypeId}
 (own:ownKnob C.prog.godebug=none) (started:os.Started) (noInit:C.prog.inits.idxOf? f=none) (hfn:C.prog.funcs[f]? =some fn)
 (witness:∃ (w:World) (tape:Tape) (i:Input),w.os=os/\(w.forCall tape i).Shaped C.prog/\i.vars=[]/\Input.okWide C.prog (w.forCall tape i) .any w.heap.size f i/\
   s.pre6 enc C.prog fn conds false (w.forCall tape i).memory i.args/\({}:Assume).holds C.prog (lone (Frame.enter C.prog f i.args .normal) [] (w.forCall tape i)))
 (hv:s.vars=[]) (hs:∀ ds:List (DataW H),ds.length=fn.params.toList.length->s.fn H ds={results:=[.lit (.bool true)],args:=ds})
 (hl:laidOutB C.prog=true) (hr:fn.params.toList.all (fun t=>C.prog.readableRec t&&decide (t<C.prog.types.size))=true)
 (hres:fn.resultTypes=#[tb]) (hb:C.prog.underlying tb=some .bool)
 (run:∀ (W:World) (base:Nat) (args:Array Value) (ds:List (DataW H)) (p:List MemPlace),(∀ (j:Nat) t v,fn.params[j]? =some t->args[j]? =some v->Value.okWide C.prog W .any base t v)->W.ShapedOpen C.prog->DataW.TrodAll enc C.prog W 0 (fun _=>true) true fn.params.toList args.toList ds p->
   Calls C.prog f args W fun e w'=>e=.returned (.bool true)/\Below W.heap.size W w'):
 ReturnsInHanded {} C os f .any (s.pre6 enc C.prog fn conds false) (s.post enc C.prog fn false true false false):=by
 refine returnsInHanded_of_change_shaped own started noInit hfn witness ?_
 intro W base args ds gs before hval0 hW hcnd _ hopen _
 have hval:∀ (j:Nat) t v,fn.params[j]? =some t->args[j]? =some v->Value.okWide C.prog W .any base t v:=hval0
 have hW':=hW
 obtain⟨p,q,hA,hV,rfl,hfz,hnd⟩:=hW
 rw[hv]at hV
 obtain⟨rfl,rfl⟩:=trodVars_none hV
 have hlen:∀ (ts:List TypeId) (vs:List Value) (ds:List (DataW H)) (ps:List MemPlace),DataW.TrodAll enc C.prog W 0 (fun _=>true) true ts vs ds ps->ds.length=ts.length:=by
  intro ts
  induction ts with
  |nil=>intro vs ds ps h;cases vs<;>cases ds<;>first|rfl|cases h
  |cons t ts ih=>
   intro vs ds ps h
   cases vs with
   |nil=>cases h
   |cons v vs=>
    cases ds with
    |nil=>cases h
    |cons d ds=>obtain⟨p,q,h1,h2,rfl⟩:=h;simp[ih vs ds q h2]
 have hd:=hlen _ _ _ _ hA
 have hspec:s.fn H (ds++[])={results:=[.lit (.bool true)],args:=ds}:=by rw[List.append_nil];exact hs ds hd
 refine(run W base args ds p hval hopen hA).mono fun e W' ⟨he,hg⟩=>?_
 subst he
 simp only[List.append_nil]at hW'
 have hlt:∀ x∈p,x.block<W.heap.size:=fun x hx=>by simpa using hW'.lt x (by simpa using hx)
 refine⟨_,rfl,QI (pa:=p) (pv:=[]) hg (by simpa using hW') (fun b sp hd=>?_) (fun sp hsp=>?_) (fun sp hsp=>?_) rfl (ok_one hres rfl (okWide_bool_mk hb _))⟩
 ·rw[hspec,hres]
  exact trodAll_cons_mk (shut_bool hb _) trodAll_mk0
 ·rw[hspec]
  exact G0 hl hg sp _ _ _ _ hr hA hlt (fun x hx=>hsp x (by simpa using hx))
 ·rw[hspec,hv];rfl
end
/--what a call's contract at the state that it begins in says of the call -/
theorem OD {P:Program} {f:FuncId} {W:World} {h:H} (s:Start W h) {vs:List V} {args:Array Value} (ha:BF (LB W) vs args.toList) (k:BN P f vs h fun y _=>y=.b true):Calls P f args W fun e w'=>e=.returned (.bool true)/\Below W.heap.size W w':=by
 obtain⟨y,h',⟨_,_,r⟩,rfl⟩:=k
 have:=(r (LB W) W W args.toList ha s.rel).2
 rw[show args.toList.toArray=args by simp]at this
 refine this.mono fun e w' he=>?_
 obtain⟨x,rfl,ρ',_,x2,x3⟩:=he
 have x2':x=.bool true:=x2
 rw[x2']
 exact⟨rfl,x3.same.below⟩
end Go.Ev
namespace Go.Ev
open Go Go.RowKit Go.WideShapes Go.ChangeShapes Go.ChangeAt Go.Deep
theorem JE {a:Int} (h:(Lit.int .u8 a).wf=true):∃ c:UInt8,a=(c.toNat:Int):=by
 have h':=h
 simp only[Lit.wf,IntKind.has,IntKind.min,IntKind.max,IntKind.signed,IntKind.bits]at h'
 simp at h'
 refine⟨UInt8.ofNat a.toNat,?_⟩
 rw[UInt8.toNat_ofNat',Nat.mod_eq_of_lt (by omega)];omega
section
variable {H':Type} {enc:TypeId×Value->H'} {P:Program}
end
end Go.Ev
namespace Go.Ev
open Go
/--what one operation makes of a state -/
def HG (P:Program) (r:CR) (t:F) (h:H) (v:V) (h':H):Prop:=∃ cf,FU P cf/\∀ k,runK r cf t h k=k v h'
def C2 (P:Program) (o:CO) (t:F) (h:H) (t1:F) (h1:H):Prop:=match o with
 |.mk g d _ r=>∃ b,(∀ k,CW g t k=k b)/\((b=true/\∃ v,HG P r t h v h1/\∀ k,DT d v t k=k t1)\/(b=false/\h1=h/\∀ k,DT d (.tu []) t k=k t1))
def LW (P:Program):List CO->F->H->F->H->Prop
 |[],t,h,t',h'=>t'=t/\h'=h
 |o::l,t,h,t',h'=>∃ t1 h1,C2 P o t h t1 h1/\LW P l t1 h1 t' h'
def Su (P:Program) (o:CO) (t:F) (h:H) (t1:F) (h1:H):Prop:=match o with
 |.mk g d true r=>C2 P (.mk g d true r) t h t1 h1
 |.mk g d false r=>∃ b,(∀ k,CW g t k=k b)/\((b=true/\∃ v h2,HG P r t (A3 h) v h2/\h1=Bx h h2/\∀ k,DT d v t k=k t1)\/(b=false/\h1=h/\∀ k,DT d (.tu []) t k=k t1))
def LP (P:Program):List CO->F->H->F->H->Prop
 |[],t,h,t',h'=>t'=t/\h'=h
 |o::l,t,h,t',h'=>∃ t1 h1,Su P o t h t1 h1/\LP P l t1 h1 t' h'
theorem Je (P:Program):FU P (F5 P fun _ _ _ _ _=>True):=Jx P _
theorem P8 {P:Program} {o:CO} {t:F} {h:H} {t1:F} {h1:H} (a:C2 P o t h t1 h1):∃ cf,FU P cf/\∀ (ih:F->H->(F->H->Bool)->Bool) k,K4 o cf ih t h k=ih t1 h1 k:=by
 obtain⟨g,d,Gx,r⟩:=o
 obtain⟨b,g1,g2⟩:=a
 rcases g2 with⟨rfl,v,⟨cf,c1,c2⟩,p⟩|⟨rfl,rfl,p⟩
 ·refine⟨cf,c1,fun ih k=>?_⟩
  show CW g t (fun b=>JT b r d cf ih t h k)=_
  rw[g1]
  show runK r cf t h (fun v h=>DT d v t fun t=>ih t h k)=_
  rw[c2,p]
 ·refine⟨_,Je P,fun ih k=>?_⟩
  show CW g t (fun b=>JT b r d _ ih t h1 k)=_
  rw[g1]
  show DT d (.tu []) t (fun t=>ih t h1 k)=_
  rw[p]
theorem Ko {P:Program} {o:CO} {t:F} {h:H} {t1:F} {h1:H} (a:Su P o t h t1 h1):∃ cf,FU P cf/\∀ (ih:F->H->(F->H->Bool)->Bool) k,TH o cf ih t h k=ih t1 h1 k:=by
 obtain⟨g,d,Gx,r⟩:=o
 cases Gx with
 |true=>
  obtain⟨b,g1,g2⟩:=a
  rcases g2 with⟨rfl,v,⟨cf,c1,c2⟩,p⟩|⟨rfl,rfl,p⟩
  ·refine⟨cf,c1,fun ih k=>?_⟩
   show CW g t (fun b=>IF b true r d cf ih t h k)=_
   rw[g1]
   show runK r cf t h (fun v h=>DT d v t fun t=>ih t h k)=_
   rw[c2,p]
  ·refine⟨_,Je P,fun ih k=>?_⟩
   show CW g t (fun b=>IF b true r d _ ih t h1 k)=_
   rw[g1]
   show DT d (.tu []) t (fun t=>ih t h1 k)=_
   rw[p]
 |false=>
  obtain⟨b,g1,g2⟩:=a
  rcases g2 with⟨rfl,v,h2,⟨cf,c1,c2⟩,rfl,p⟩|⟨rfl,rfl,p⟩
  ·refine⟨cf,c1,fun ih k=>?_⟩
   show CW g t (fun b=>IF b false r d cf ih t h k)=_
   rw[g1]
   show runK r cf t (A3 h) (fun v h2=>DT d v t fun t=>ih t (Bx h h2) k)=_
   rw[c2,p]
  ·refine⟨_,Je P,fun ih k=>?_⟩
   show CW g t (fun b=>IF b false r d _ ih t h1 k)=_
   rw[g1]
   show DT d (.tu []) t (fun t=>ih t h1 k)=_
   rw[p]
theorem Ly {t1 t2:F} {h1 h2:H} (e:∀ k:F->H->Bool,k t1 h1=k t2 h2):t2=t1/\h2=h1:=by
 have:=e fun t h=>@decide (t=t1/\h=h1) (Classical.propDecidable _)
 simp at this
 exact this
theorem PI {P:Program} {nt:Nat} {ops:Array Oper} (bars:Nat->Bool):∀ (l:List Oper) (n:Nat),ops.toList.drop n=l->∀ (t:F) (h:H) (t':F) (h':H),
 LW P (AX bars P nt ops.toList (AZ P) n l) t h t' h'->At h h'/\B.val h.next<=B.val h'.next/\
  ∀ ρ a w w0 (Q:Exit->Act->World->Prop),CK ρ nt t a->A5 ρ h w w0->(∀ ρ' a' w',Ext h.floor ρ ρ'->CK ρ' nt t' a'->A5 ρ' h' w' w0->Q .normal a' w')->
   wpOps P ops Q (List.range' n l.length) a w:=by
 intro l
 induction l with
 |nil=>
  intro n hl t h t' h' hk
  obtain⟨rfl,rfl⟩:=hk
  exact⟨At.refl _,Nat.le_refl _,fun ρ a w w0 Q A R hq=>hq ρ a w (Ext.refl _ ρ) A R⟩
 |cons o l ih=>
  intro n hl t h t' h' hk
  obtain⟨t1,h1,hk1,hk2⟩:=hk
  obtain⟨cf,hcf,e⟩:=P8 hk1
  obtain⟨t1',h1',a1,a2,a3,a4⟩:=Vt hcf (ops:=ops) (ih:=fun t h k=>k t h) (k:=fun _ _=>true) (e _ _)
  obtain⟨rfl,rfl⟩:=Ly (fun k=>(e (fun t h k=>k t h) k).symm.trans (a1 k))
  have hl':ops.toList.drop (n+1)=l:=by rw[<-List.drop_drop,hl];rfl
  obtain⟨b2,b3,b4⟩:=ih (n+1) hl' _ _ _ _ hk2
  refine⟨At.trans a2 a3 b2,Nat.le_trans a3 b3,fun ρ a w w0 Q A R hq=>?_⟩
  have hn:ops[n]? =some o:=by
   have:ops.toList[n]? =some o:=by
    have:=congrArg (fun l=>l[0]?) hl
    simpa using this
   simpa using this
  rw[List.length_cons,List.range'_succ,wpOps_cons]
  unfold wpOp
  simp only[hn]
  have:=a4 ρ a w w0 (wpOps P ops Q (List.range' (n+1) l.length)) Q A R fun ρ' a' w' l1 A' R'=>b4 ρ' a' w' w0 Q A' R' fun ρ'' a'' w'' l2 A'' R''=>hq ρ'' a'' w'' (Ext.trans l1 (by rw[<-a2.1];exact l2)) A'' R''
  split
  ·rename_i hw;simp only[hw,if_true]at this;exact .inl this
  ·rename_i hw;simp only[hw]at this;exact this
theorem QD {P:Program} {nt:Nat} {ops:Array Oper} (bars:Nat->Bool):∀ (l:List Oper) (n:Nat),ops.toList.drop n=l->∀ (t:F) (h:H) (t':F) (h':H),
 LP P (AX bars P nt ops.toList (AZ P) n l) t h t' h'->
 ∃ (Ts:Nat->F) (Hs:Nat->H),Ts n=t/\Hs n=h/\(Ts (n+l.length)=t'/\Hs (n+l.length)=h')/\
  ∀ (i:Nat) o,n<=i->ops[i]? =some o->BE P nt ops i o (bars i) (Ts i) (Ts (i+1)) (Hs i) (Hs (i+1)):=by
 intro l
 induction l with
 |nil=>
  intro n hl t h t' h' hk
  obtain⟨rfl,rfl⟩:=hk
  refine⟨fun _=>t',fun _=>h',rfl,rfl,⟨rfl,rfl⟩,fun i o hni hi=>?_⟩
  have:ops.toList[i]? =none:=by
   rw[List.getElem?_eq_none]
   have:=congrArg List.length hl
   simp at this
   simp;omega
  rw[show ops[i]? =ops.toList[i]? by simp,this]at hi
  cases hi
 |cons o l ih=>
  intro n hl t h t' h' hk
  have hn:ops[n]? =some o:=by
   have:ops.toList[n]? =some o:=by
    have:=congrArg (fun l=>l[0]?) hl
    simpa using this
   simpa using this
  obtain⟨t1,h1,hk1,hk2⟩:=hk
  obtain⟨cf,hcf,e⟩:=Ko hk1
  obtain⟨t1',h1',a1,a2⟩:=JF hcf hn (ih:=fun t h k=>k t h) (k:=fun _ _=>true) (e _ _)
  obtain⟨rfl,rfl⟩:=Ly (fun k=>(e (fun t h k=>k t h) k).symm.trans (a1 k))
  have hl':ops.toList.drop (n+1)=l:=by rw[<-List.drop_drop,hl];rfl
  obtain⟨Ts,Hs,b1,b2,b3,b4⟩:=ih (n+1) hl' _ _ _ _ hk2
  refine⟨fun i=>if i=n then t else Ts i,fun i=>if i=n then h else Hs i,by simp,by simp,?_,fun i oi hni hi=>?_⟩
  ·have e1:n+(o::l).length=n+1+l.length:=by simp;omega
   rw[e1]
   simp only[show ¬n+1+l.length=n by omega,if_false]
   exact b3
  ·by_cases hin:i=n
   ·subst hin
    rw[hn]at hi
    cases hi
    simp only[if_true,show ¬i+1=i by omega,if_false,b1,b2]
    exact a2
   ·simp only[hin,if_false,show ¬i+1=n by omega]
    exact b4 i oi (by omega) hi
theorem PZ {P:Program} (hm:P.follows .mixedOrders=true) {nt:Nat} {ops:Array Oper} (hd:Be ops.toList=true) {t:F} {h:H} {t':F} {h':H}
 (hk:LP P (AX (Bz P ops.toList (CE ops.toList [])) P nt ops.toList (AZ P) 0 ops.toList) t h t' h'):
 At h h'/\B.val h.next<=B.val h'.next/\
  ∀ ρ a w w0 (id:Nat) (Q:Exit->Act->World->Prop),CK ρ nt t a->A5 ρ h w w0->(∀ ρ' a' w',Ext h.floor ρ ρ'->CK ρ' nt t' a'->A5 ρ' h' w' w0->Q .normal a' w')->(Code.region id ops true).wp P Q a w:=by
 obtain⟨Ts,Hs,b1,b2,b3,b4⟩:=QD _ ops.toList 0 (by simp) t h t' h' hk
 have hst:∀ (i:Nat) o,ops[i]? =some o->BE P nt ops i o (Bz P ops.toList (CE ops.toList []) i) (Ts i) (Ts (i+1)) (Hs i) (Hs (i+1)):=fun i o hi=>b4 i o (Nat.zero_le _) hi
 have hlen:0+ops.toList.length=ops.size:=by simp
 rw[hlen]at b3
 obtain⟨c1,c2⟩:=b3
 refine⟨by rw[<-b2,<-c2];exact Mz hd hst (Nat.le_refl _),by rw[<-b2,<-c2];exact By hst (Nat.zero_le _) (Nat.le_refl _),fun ρ a w w0 id Q A R hQ=>?_⟩
 refine wp_region_any hm ?_
 have hR1:A5 ρ h {w with drawn:=w.drawn+1} w0:=R.dr _
 obtain⟨M,m1,m2,m3,m4⟩:=Jb (P:=P) (nt:=nt) (Ts:=Ts) (Hs:=Hs) hd hst 0 ops.size (by omega)
 have hno:∀ j,¬Ca (Array.replicate ops.size false) j:=by
  intro j;unfold Ca
  by_cases hj:j<ops.size<;>simp[hj]
 refine RM hd hst (ρ0:=ρ) (w0:=w0) (fun ρ' a' w' h1 h2 h3=>hQ ρ' a' w' (by rw[<-b2];exact h1) (by rw[<-c1];exact h2) (by rw[<-c2];exact h3)) ops.size _ a _ ρ 0 M (by simp) (by unfold left;exact Nat.le_trans (List.length_filter_le _ _) (by simp)) (fun j o hj hin=>absurd hin (hno j)) ?_
 refine⟨A.size,A.defers,Ext.refl _ _,fun q h5=>⟨0,Nat.zero_le _,.inl rfl,fun j o hj hdj=>⟨fun h=>by omega,fun h=>absurd h (hno j)⟩,?_⟩,Nat.zero_le _,m2,fun j o hj h1 h2=>by omega,fun j o hj h1 h2=>hno j,m3,m4,
  fun i g L hL=>?_,fun i g L hL j o hj hnj hbd=>?_,fun m h1 h2=>?_⟩
 ·rw[b1,b2]
  exact Au.up (fun i g L hL=>A8.Cg hL (R.ids _ _ _ hL)) _ _ (A.slot q h5)
 ·have:=R.ids _ _ _ hL
  rw[<-b2]at this
  exact Nat.lt_of_lt_of_le this (By hst (Nat.zero_le _) m2)
 ·have:=R.ids _ _ _ hL
  rw[<-b2]at this
  have hjN:j<ops.size:=(Array.getElem?_eq_some_iff.1 hj).1
  have:=By hst (m:=0) (n:=j) (Nat.zero_le _) (by omega)
  omega
 ·have hmN:m<=ops.size:=by omega
  rw[<-b2]at hR1
  have hR2:A5 ρ (Hs m) {w with drawn:=w.drawn+1} w0:=hR1.SP (fun i g L hL=>HX hst m2 m3 (Nat.le_refl _) h1 h2 (hR1.ids _ _ _ hL)) (By hst h1 hmN) (GY hst hmN)
  exact hR2.congr fun i g=>by
   cases hL:ρ i g with
   |none=>unfold A8.below;rw[hL];split<;>rfl
   |some L=>exact A8.Cg hL (hR2.ids _ _ _ hL)
def WO (P:Program) (l:List CO) (t:F) (h:H) (K:F->H->Prop):Prop:=∃ t' h',LW P l t h t' h'/\K t' h'
def DO (P:Program) (l:List CO) (t:F) (h:H) (K:F->H->Prop):Prop:=∃ t' h',LP P l t h t' h'/\K t' h'
section
variable {P:Program} {nt:Nat} {t:F} {h:H} {K:X->F->H->Prop}
theorem Ok.rg {l:List CO} (a:WO P l t h (K .normal)):Ok P nt (.region l) t h K:=by
 obtain⟨t',h',e,k⟩:=a
 refine⟨.normal,t',h',BP _ fun c e' hs=>?_,k⟩
 cases c with
 |region id os draw=>
  have e1:Am P nt os.toList draw=.region l:=e'
  unfold Am at e1
  split at e1
  ·cases e1
   obtain⟨a2,a3,a4⟩:=PI (fun _=>true) os.toList 0 (by simp) t h t' h' e
   refine⟨a2,a3,fun ρ a w w0 Q A R hQ=>wp_region ?_⟩
   have:=a4 ρ a w w0 Q A R hQ
   rwa [show List.range' 0 os.toList.length=List.range os.size by rw[List.range_eq_range'];simp]at this
  ·split at e1<;>cases e1
 |scope d=>exact absurd rfl (hs d)
 |_=>cases e'
theorem Ok.dw (hm:P.follows .mixedOrders=true) {l:List CO} {ch:Option (List Nat×List (Nat×List Nat))} (a:DO P l t h (K .normal)):Ok P nt (.A7 l ch) t h K:=by
 obtain⟨t',h',e,k⟩:=a
 refine⟨.normal,t',h',BP _ fun c e' hs=>?_,k⟩
 cases c with
 |region id os draw=>
  have e1:Am P nt os.toList draw=.A7 l ch:=e'
  unfold Am at e1
  split at e1
  ·cases e1
  ·split at e1
   ·rename_i hd
    cases e1
    obtain⟨a2,a3,a4⟩:=PZ hm hd e
    exact⟨a2,a3,fun ρ a w w0 Q A R hQ=>a4 ρ a w w0 id Q A R hQ⟩
   ·cases e1
 |scope d=>exact absurd rfl (hs d)
 |_=>cases e'
end
end Go.Ev
namespace Go.Ev
open Go
/--operations,shortly -/
def wB (n:Nat) (r:CB):CO:=.mk .none (.some (AR n)) true (.mk r)
def uB (n:Nat) (r:CB):CO:=.mk .none (.some (AR n)) false (.mk r)
def wG (g:Nat) (w:Bool) (n:Nat) (r:CB):CO:=.mk (.some (AR g) w) (.some (AR n)) true (.mk r)
def uG (g:Nat) (w:Bool) (n:Nat) (r:CB):CO:=.mk (.some (AR g) w) (.some (AR n)) false (.mk r)
def oN (n:Nat):O:=.c (.i .i64 (.ofNat n))
theorem qT (n:Nat) (r:CB):wB n r=.mk .none (.some (AR n)) true (.mk r):=rfl
theorem fo (n:Nat) (r:CB):uB n r=.mk .none (.some (AR n)) false (.mk r):=rfl
theorem qu (g:Nat) (w:Bool) (n:Nat) (r:CB):wG g w n r=.mk (.some (AR g) w) (.some (AR n)) true (.mk r):=rfl
theorem fW (g:Nat) (w:Bool) (n:Nat) (r:CB):uG g w n r=.mk (.some (AR g) w) (.some (AR n)) false (.mk r):=rfl
theorem pQ (n:Nat):oN n=.c (.i .i64 (.ofNat n)):=rfl
/--what stands behind an operation -/
inductive Nx where
 |w (n:Nat) (l:List CO) (t:F) (K:F->H->Prop)
 |w0 (l:List CO) (t:F) (K:F->H->Prop)
 |d (n:Nat) (l:List CO) (t:F) (K:F->H->Prop)
 |d0 (l:List CO) (t:F) (K:F->H->Prop)
 |u (n:Nat) (l:List CO) (t:F) (h:H) (K:F->H->Prop)
 |u0 (l:List CO) (t:F) (h:H) (K:F->H->Prop)
def Nx.go (P:Program):Nx->V->H->Prop
 |.w n l t K,v,h=>WO P l (put n v t) h K
 |.w0 l t K,_,h=>WO P l t h K
 |.d n l t K,v,h=>DO P l (put n v t) h K
 |.d0 l t K,_,h=>DO P l t h K
 |.u n l t h0 K,v,h=>DO P l (put n v t) (Bx h0 h) K
 |.u0 l t h0 K,_,h=>DO P l t (Bx h0 h) K
/--the operation r,then N -/
def OR (P:Program) (r:CB) (t:F) (h:H) (N:Nx):Prop:=∃ v h',HG P (.mk r) t h v h'/\N.go P v h'
/--a guard,then r and N,or N alone -/
def GD (P:Program) (q:V) (w:Bool) (r:CB) (t:F) (h:H) (N:Nx):Prop:=∃ b,(∀ k,vG q w k=k b)/\((b=true/\OR P r t h N)\/(b=false/\N.go P (.tu []) h))
theorem MD {b c:Bool} (e:∀ k:Bool->Bool,k b=k c):c=b:=(e id).symm
theorem ui {v u:V} (e:∀ k:V->Bool,k v=k u):u=v:=by
 have:=e fun x=>@decide (x=v) (Classical.propDecidable _)
 simp at this
 exact this
theorem Hn {v u:F} (e:∀ k:F->Bool,k v=k u):u=v:=by
 have:=e fun x=>@decide (x=v) (Classical.propDecidable _)
 simp at this
 exact this
theorem ba {v u:List V} (e:∀ k:List V->Bool,k v=k u):u=v:=by
 have:=e fun x=>@decide (x=v) (Classical.propDecidable _)
 simp at this
 exact this
theorem Rq {v u:V} {h g:H} (e:∀ k:V->H->Bool,k v h=k u g):u=v/\g=h:=by
 have:=e fun x y=>@decide (x=v/\y=h) (Classical.propDecidable _)
 simp at this
 exact⟨this.1,this.2⟩
section
variable {P:Program} {l:List CO} {t:F} {h:H} {K:F->H->Prop} {r:CB} {n g:Nat} {w b:Bool}
theorem OC:WO P [] t h K=K t h:=propext ⟨fun⟨_,_,⟨e1,e2⟩,k⟩=>by subst e1;subst e2;exact k,fun k=>⟨t,h,⟨rfl,rfl⟩,k⟩⟩
theorem XE:DO P [] t h K=K t h:=propext ⟨fun⟨_,_,⟨e1,e2⟩,k⟩=>by subst e1;subst e2;exact k,fun k=>⟨t,h,⟨rfl,rfl⟩,k⟩⟩
theorem FT {v:V} (k:F->Bool):DT (.some (AR n)) v t k=k (put n v t):=Em n v t k
theorem cp:WO P (.mk .none (.some (AR n)) b (.mk r)::l) t h K=OR P r t h (.w n l t K):=by
 apply propext;constructor
 ·rintro⟨t',h',⟨t1,h1,⟨q,g1,g2⟩,e⟩,k⟩
  have hq:=MD (b:=true) (c:=q) fun k=>g1 k
  subst hq
  rcases g2 with⟨_,v,rr,p⟩|⟨e',_⟩
  ·have:=Hn fun k=>(FT k).symm.trans (p k)
   subst this
   exact⟨v,h1,rr,t',h',e,k⟩
  ·cases e'
 ·rintro⟨v,h1,rr,t',h',e,k⟩
  exact⟨t',h',⟨_,h1,⟨true,fun _=>rfl,.inl ⟨rfl,v,rr,fun k=>FT k⟩⟩,e⟩,k⟩
theorem uW:WO P (.mk .none .none b (.mk r)::l) t h K=OR P r t h (.w0 l t K):=by
 apply propext;constructor
 ·rintro⟨t',h',⟨t1,h1,⟨q,g1,g2⟩,e⟩,k⟩
  have hq:=MD (b:=true) (c:=q) fun k=>g1 k
  subst hq
  rcases g2 with⟨_,v,rr,p⟩|⟨e',_⟩
  ·have:=Hn fun k=>p k
   subst this
   exact⟨v,h1,rr,t',h',e,k⟩
  ·cases e'
 ·rintro⟨v,h1,rr,t',h',e,k⟩
  exact⟨t',h',⟨_,h1,⟨true,fun _=>rfl,.inl ⟨rfl,v,rr,fun k=>rfl⟩⟩,e⟩,k⟩
theorem uf:WO P (.mk (.some (AR g) w) (.some (AR n)) b (.mk r)::l) t h K=GD P (get g t) w r t h (.w n l t K):=by
 apply propext;constructor
 ·rintro⟨t',h',⟨t1,h1,⟨q,g1,g2⟩,e⟩,k⟩
  refine⟨q,g1,?_⟩
  rcases g2 with⟨rfl,v,rr,p⟩|⟨rfl,rfl,p⟩
  ·have:=Hn fun k=>(FT k).symm.trans (p k)
   subst this
   exact .inl ⟨rfl,v,h1,rr,t',h',e,k⟩
  ·have:=Hn fun k=>(FT k).symm.trans (p k)
   subst this
   exact .inr ⟨rfl,t',h',e,k⟩
 ·rintro⟨q,g1,⟨rfl,v,h1,rr,t',h',e,k⟩|⟨rfl,t',h',e,k⟩⟩
  ·exact⟨t',h',⟨_,h1,⟨true,g1,.inl ⟨rfl,v,rr,fun k=>FT k⟩⟩,e⟩,k⟩
  ·exact⟨t',h',⟨_,h,⟨false,g1,.inr ⟨rfl,rfl,fun k=>FT k⟩⟩,e⟩,k⟩
theorem pD:WO P (.mk (.some (AR g) w) .none b (.mk r)::l) t h K=GD P (get g t) w r t h (.w0 l t K):=by
 apply propext;constructor
 ·rintro⟨t',h',⟨t1,h1,⟨q,g1,g2⟩,e⟩,k⟩
  refine⟨q,g1,?_⟩
  rcases g2 with⟨rfl,v,rr,p⟩|⟨rfl,rfl,p⟩
  ·have:=Hn fun k=>p k
   subst this
   exact .inl ⟨rfl,v,h1,rr,t',h',e,k⟩
  ·have:=Hn fun k=>p k
   subst this
   exact .inr ⟨rfl,t',h',e,k⟩
 ·rintro⟨q,g1,⟨rfl,v,h1,rr,t',h',e,k⟩|⟨rfl,t',h',e,k⟩⟩
  ·exact⟨t',h',⟨_,h1,⟨true,g1,.inl ⟨rfl,v,rr,fun k=>rfl⟩⟩,e⟩,k⟩
  ·exact⟨t',h',⟨_,h,⟨false,g1,.inr ⟨rfl,rfl,fun k=>rfl⟩⟩,e⟩,k⟩
theorem uc:DO P (.mk .none (.some (AR n)) true (.mk r)::l) t h K=OR P r t h (.d n l t K):=by
 apply propext;constructor
 ·rintro⟨t',h',⟨t1,h1,⟨q,g1,g2⟩,e⟩,k⟩
  have hq:=MD (b:=true) (c:=q) fun k=>g1 k
  subst hq
  rcases g2 with⟨_,v,rr,p⟩|⟨e',_⟩
  ·have:=Hn fun k=>(FT k).symm.trans (p k)
   subst this
   exact⟨v,h1,rr,t',h',e,k⟩
  ·cases e'
 ·rintro⟨v,h1,rr,t',h',e,k⟩
  exact⟨t',h',⟨_,h1,⟨true,fun _=>rfl,.inl ⟨rfl,v,rr,fun k=>FT k⟩⟩,e⟩,k⟩
theorem uT:DO P (.mk .none .none true (.mk r)::l) t h K=OR P r t h (.d0 l t K):=by
 apply propext;constructor
 ·rintro⟨t',h',⟨t1,h1,⟨q,g1,g2⟩,e⟩,k⟩
  have hq:=MD (b:=true) (c:=q) fun k=>g1 k
  subst hq
  rcases g2 with⟨_,v,rr,p⟩|⟨e',_⟩
  ·have:=Hn fun k=>p k
   subst this
   exact⟨v,h1,rr,t',h',e,k⟩
  ·cases e'
 ·rintro⟨v,h1,rr,t',h',e,k⟩
  exact⟨t',h',⟨_,h1,⟨true,fun _=>rfl,.inl ⟨rfl,v,rr,fun k=>rfl⟩⟩,e⟩,k⟩
theorem wM:DO P (.mk (.some (AR g) w) (.some (AR n)) true (.mk r)::l) t h K=GD P (get g t) w r t h (.d n l t K):=by
 apply propext;constructor
 ·rintro⟨t',h',⟨t1,h1,⟨q,g1,g2⟩,e⟩,k⟩
  refine⟨q,g1,?_⟩
  rcases g2 with⟨rfl,v,rr,p⟩|⟨rfl,rfl,p⟩
  ·have:=Hn fun k=>(FT k).symm.trans (p k)
   subst this
   exact .inl ⟨rfl,v,h1,rr,t',h',e,k⟩
  ·have:=Hn fun k=>(FT k).symm.trans (p k)
   subst this
   exact .inr ⟨rfl,t',h',e,k⟩
 ·rintro⟨q,g1,⟨rfl,v,h1,rr,t',h',e,k⟩|⟨rfl,t',h',e,k⟩⟩
  ·exact⟨t',h',⟨_,h1,⟨true,g1,.inl ⟨rfl,v,rr,fun k=>FT k⟩⟩,e⟩,k⟩
  ·exact⟨t',h',⟨_,h,⟨false,g1,.inr ⟨rfl,rfl,fun k=>FT k⟩⟩,e⟩,k⟩
theorem uo:DO P (.mk .none (.some (AR n)) false (.mk r)::l) t h K=OR P r t (A3 h) (.u n l t h K):=by
 apply propext;constructor
 ·rintro⟨t',h',⟨t1,h1,⟨q,g1,g2⟩,e⟩,k⟩
  have hq:=MD (b:=true) (c:=q) fun k=>g1 k
  subst hq
  rcases g2 with⟨_,v,h2,rr,rfl,p⟩|⟨e',_⟩
  ·have:=Hn fun k=>(FT k).symm.trans (p k)
   subst this
   exact⟨v,h2,rr,t',h',e,k⟩
  ·cases e'
 ·rintro⟨v,h2,rr,t',h',e,k⟩
  exact⟨t',h',⟨_,_,⟨true,fun _=>rfl,.inl ⟨rfl,v,h2,rr,rfl,fun k=>FT k⟩⟩,e⟩,k⟩
theorem ke:DO P (.mk .none .none false (.mk r)::l) t h K=OR P r t (A3 h) (.u0 l t h K):=by
 apply propext;constructor
 ·rintro⟨t',h',⟨t1,h1,⟨q,g1,g2⟩,e⟩,k⟩
  have hq:=MD (b:=true) (c:=q) fun k=>g1 k
  subst hq
  rcases g2 with⟨_,v,h2,rr,rfl,p⟩|⟨e',_⟩
  ·have:=Hn fun k=>p k
   subst this
   exact⟨v,h2,rr,t',h',e,k⟩
  ·cases e'
 ·rintro⟨v,h2,rr,t',h',e,k⟩
  exact⟨t',h',⟨_,_,⟨true,fun _=>rfl,.inl ⟨rfl,v,h2,rr,rfl,fun k=>rfl⟩⟩,e⟩,k⟩
theorem Dv (h:H):Bx h (A3 h)=h:=by cases h;rfl
theorem nA:DO P (.mk (.some (AR g) w) (.some (AR n)) false (.mk r)::l) t h K=GD P (get g t) w r t (A3 h) (.u n l t h K):=by
 apply propext;constructor
 ·rintro⟨t',h',⟨t1,h1,⟨q,g1,g2⟩,e⟩,k⟩
  refine⟨q,g1,?_⟩
  rcases g2 with⟨rfl,v,h2,rr,rfl,p⟩|⟨rfl,rfl,p⟩
  ·have:=Hn fun k=>(FT k).symm.trans (p k)
   subst this
   exact .inl ⟨rfl,v,h2,rr,t',h',e,k⟩
  ·have:=Hn fun k=>(FT k).symm.trans (p k)
   subst this
   exact .inr ⟨rfl,t',h',by rw[Dv];exact e,k⟩
 ·rintro⟨q,g1,⟨rfl,v,h2,rr,t',h',e,k⟩|⟨rfl,t',h',e,k⟩⟩
  ·exact⟨t',h',⟨_,_,⟨true,g1,.inl ⟨rfl,v,h2,rr,rfl,fun k=>FT k⟩⟩,e⟩,k⟩
  ·rw[Dv]at e
   exact⟨t',h',⟨_,h,⟨false,g1,.inr ⟨rfl,rfl,fun k=>FT k⟩⟩,e⟩,k⟩
end
section
variable {P:Program} {l:List CO} {t:F} {h h0:H} {K:F->H->Prop} {n:Nat} {v:V}
theorem TL:(Nx.w n l t K).go P v h=WO P l (put n v t) h K:=rfl
theorem Vo:(Nx.w0 l t K).go P v h=WO P l t h K:=rfl
theorem T9:(Nx.d n l t K).go P v h=DO P l (put n v t) h K:=rfl
theorem ki:(Nx.d0 l t K).go P v h=DO P l t h K:=rfl
theorem QV:(Nx.u n l t h0 K).go P v h=DO P l (put n v t) (Bx h0 h) K:=rfl
theorem nq:(Nx.u0 l t h0 K).go P v h=DO P l t (Bx h0 h) K:=rfl
end
section
variable {P:Program} {r:CB} {t:F} {h:H} {N:Nx} {w q:Bool}
theorem OM:GD P (.b q) w r t h N=if q=w then OR P r t h N else N.go P (.tu []) h:=by
 have e1:∀ f,vG (.b q) w f=f (xor (xor q w) true):=fun _=>rfl
 apply propext;constructor
 ·rintro⟨b,g1,g2⟩
  have:=MD fun k=>(e1 k).symm.trans (g1 k)
  subst this
  rcases g2 with⟨e,k⟩|⟨e,k⟩
  ·rw[if_pos (by cases q<;>cases w<;>simp_all)];exact k
  ·rw[if_neg (by cases q<;>cases w<;>simp_all)];exact k
 ·intro k
  refine⟨_,e1,?_⟩
  split at k
  ·rename_i e;exact .inl ⟨by cases q<;>cases w<;>simp_all,k⟩
  ·rename_i e;exact .inr ⟨by cases q<;>cases w<;>simp_all,k⟩
theorem k9:GD P (.b true) true r t h N=OR P r t h N:=by rw[OM];rfl
theorem mF:GD P (.b false) false r t h N=OR P r t h N:=by rw[OM];rfl
theorem kJ:GD P (.b true) false r t h N=N.go P (.tu []) h:=by rw[OM];rfl
theorem oy:GD P (.b false) true r t h N=N.go P (.tu []) h:=by rw[OM];rfl
theorem sD:GD P (.tu []) w r t h N=N.go P (.tu []) h:=by
 have e1:∀ f,vG (.tu []) w f=f false:=fun _=>rfl
 apply propext;constructor
 ·rintro⟨b,g1,g2⟩
  have:=MD fun k=>(e1 k).symm.trans (g1 k)
  subst this
  rcases g2 with⟨e,k⟩|⟨e,k⟩
  ·cases e
  ·exact k
 ·intro k;exact⟨_,e1,.inr ⟨rfl,k⟩⟩
/--a guard that isn't decided -/
theorem AD (a:q=true->GD P (.b true) w r t h N) (b:q=false->GD P (.b false) w r t h N):GD P (.b q) w r t h N:=by
 cases q with
 |true=>exact a rfl
 |false=>exact b rfl
end
def HV (P:Program) (g:(V->Bool)->Bool) (h:H) (N:Nx):Prop:=∃ v,(∀ k,g k=k v)/\N.go P v h
def H1 (P:Program) (g:V->(V->Bool)->Bool) (x:V) (h:H) (N:Nx):Prop:=HV P (g x) h N
def H2 (P:Program) (g:V->V->(V->Bool)->Bool) (x y:V) (h:H) (N:Nx):Prop:=HV P (g x y) h N
def H3 (P:Program) (g:V->V->V->(V->Bool)->Bool) (x y z:V) (h:H) (N:Nx):Prop:=HV P (g x y z) h N
theorem BY {P:Program} {r:CB} {t:F} {h:H} {N:Nx} {g:(V->Bool)->Bool} (e:∀ cf k,r cf t h k=g fun v=>k v h):OR P r t h N=HV P g h N:=by
 apply propext;constructor
 ·rintro⟨v,h',⟨cf,c1,c2⟩,k⟩
  have hh:h'=h:=by
   have h1:=c2 fun _ x=>@decide (x=h) (Classical.propDecidable _)
   have h2:=c2 fun _ _=>true
   have e1:=e cf fun _ x=>@decide (x=h) (Classical.propDecidable _)
   have e2:=e cf fun _ _=>true
   have:(fun(v:V)=>(fun _ x=>@decide (x=h) (Classical.propDecidable _)) v h)=fun(v:V)=>(fun _ _=>true) v h:=by funext v;simp
   rw[this,<-e2]at e1
   have h1':r cf t h (fun _ x=>@decide (x=h) (Classical.propDecidable _))=@decide (h'=h) (Classical.propDecidable _):=h1
   have h2':r cf t h (fun _ _=>true)=true:=h2
   rw[e1,h2']at h1'
   simpa using h1'.symm
  subst hh
  exact⟨v,fun k0=>by rw[<-e cf fun v _=>k0 v];exact c2 _,k⟩
 ·rintro⟨v,g1,k⟩
  exact⟨v,h,⟨_,Je P,fun k=>by show r _ t h k=_;rw[e,g1]⟩,k⟩
theorem Ah {P:Program} {h:H} {N:Nx} {g:(V->Bool)->Bool} {v:V} (e:∀ k,g k=k v):HV P g h N=N.go P v h:=
 propext ⟨fun⟨u,g1,k⟩=>by have:=ui fun k=>(e k).symm.trans (g1 k);subst this;exact k,fun k=>⟨v,e,k⟩⟩
def Cz (f:Ey) (x y:V) (k:V->Bool):Bool:=vI x fun kd a=>vI y fun kd' b=>Ap (B9 kd kd') fun _=>f kd a b k
def NN (f:IntKind->Int->Nat->(V->Bool)->Bool) (x y:V) (k:V->Bool):Bool:=vI x fun kd a=>vI y fun _ b=>A2 b fun n=>f kd a (min n kd.bits) k
def qF (x y:V) (k:V->Bool):Bool:=vI y fun kd' b=>VA x (fun kd a=>Ap (B9 kd kd') fun _=>PB kd a b k) fun kd m r _=>UU kd' b k kd m r
def Rb (ne:Bool) (x y:V) (k:V->Bool):Bool:=vB x fun a=>vB y fun b=>k (.b (xor ne (xor (xor a b) true)))
def fR (x:V) (k:V->Bool):Bool:=vB x fun a=>k (.b (!a))
def fg (x:V) (k:V->Bool):Bool:=vI x fun kd n=>Ez (Int.neg n) kd (BO kd) k
def Vh (kd:IntKind) (x:V) (k:V->Bool):Bool:=VA x (fun _ n=>k (.i kd (kd.wrap n))) fun _ m r hi=>Ap (Nat.ble hi (BO kd)) fun _=>k (.r kd m r hi)
def Q0 (j:Nat) (x:V) (k:V->Bool):Bool:=vT x fun vs=>CI (vs[j]?) k
def Vj (x:V) (k:V->Bool):Bool:=vS x fun n _=>k (.i .i64 (.ofNat n))
def Ml (x:V) (k:V->Bool):Bool:=Pd x fun n=>k (.i .i64 (n:Int))
def jg (x y:V) (k:V->Bool):Bool:=vI x fun kd a=>vI y fun kd' b=>Ap (B9 kd kd') fun _=>k (.i kd (min a b))
def Sg (f:Nat->Nat->Nat->Nat->Bool) (x y:V) (k:V->Bool):Bool:=vS x fun la na=>vS y fun lb nb=>Ay (f la na lb nb) (fun _=>k (.s la na)) (fun _=>k (.s lb nb))
def qn (x y:V) (k:V->Bool):Bool:=vI x fun kd a=>vI y fun kd' b=>Ap (B9 kd kd') fun _=>k (.i kd (max a b))
def VZ (c x y:V) (k:V->Bool):Bool:=vB c fun q=>k (cond q x y)
def NW (d:Nat) (x:V) (k:V->Bool):Bool:=vA x fun cs=>CI (cs[d]?) k
def ON (d size:Nat) (x:V) (k:V->Bool):Bool:=vA x fun cs=>k (.a ((cs.drop d).take size))
def Jw (d:Nat) (x:V) (k:V->Bool):Bool:=vP x fun id g off fin=>k (.p id g (off+d) fin)
def Kx (x:V) (k:V->Bool):Bool:=vP x fun id g off fin=>k (.p id g off fin)
def Sx (size:Nat) (x y:V) (k:V->Bool):Bool:=vI y fun _ n=>A2 n fun n=>NF size x n k
def Kj (len size:Nat) (x y:V) (k:V->Bool):Bool:=vP x fun id g off fin=>vI y fun _ n=>A2 n fun n=>Ap (Nat.ble (Nat.succ n) len) fun _=>k (.p id g (off+n*size) fin)
def Lt (x y:V) (k:V->Bool):Bool:=vI y fun _ n=>A2 n fun n=>Ps x n k
def Ow (len size:Nat) (x y:V) (k:V->Bool):Bool:=vA x fun cs=>vI y fun _ n=>A2 n fun n=>Ap (Nat.ble (Nat.succ n) len) fun _=>CI (cs[Nat.mul n size]?) k
def lZ (x a b:V) (k:V->Bool):Bool:=vI a fun _ p=>A2 p fun p=>vI b fun _ q=>A2 q fun q=>PN x p q k
def pq (x b:V) (k:V->Bool):Bool:=vI b fun _ q=>A2 q fun q=>PN x 0 q k
def gV (x a:V) (k:V->Bool):Bool:=vI a fun _ p=>A2 p fun p=>Ma x p k
def R6 (x:V) (k:V->Bool):Bool:=vS x fun l n=>k (.s l n)
def Qu (f:V->(Bool->Bool)->Bool) (ne:Bool) (x y:V) (k:V->Bool):Bool:=f x fun a=>f y fun b=>Ap (a||b) fun _=>k (.b (xor ne (a&&b)))
def Kz (n size:Nat) (x a:V) (k:V->Bool):Bool:=vP x fun id g off fin=>vI a fun _ p=>A2 p fun p=>Ap (Nat.ble p n) fun _=>BT size id g off n fin n p n k
section
variable {P:Program} {t:F} {h:H} {N:Nx} (o x y c:O)
theorem TN:OR P (AA o) t h N=N.go P (oV o t) h:=(BY (g:=fun k=>k (oV o t)) fun cf k=>UJ ..).trans (Ah fun _=>rfl)
theorem Te:OR P (Az c x y) t h N=H3 P VZ (oV c t) (oV x t) (oV y t) h N:=BY fun cf k=>UN ..
theorem aW (f:Ey):OR P (AM f x y) t h N=H2 P (Cz f) (oV x t) (oV y t) h N:=BY fun cf k=>aY ..
theorem Ru (f:IntKind->Int->Nat->(V->Bool)->Bool):OR P (Cd f x y) t h N=H2 P (NN f) (oV x t) (oV y t) h N:=BY fun cf k=>RK ..
theorem Y9:OR P (EW x y) t h N=H2 P qF (oV x t) (oV y t) h N:=BY fun cf k=>We ..
theorem TS (ne:Bool):OR P (Fi ne x y) t h N=H2 P (Rb ne) (oV x t) (oV y t) h N:=BY fun cf k=>Tq ..
theorem Z6:OR P (Cc x) t h N=H1 P fR (oV x t) h N:=BY fun cf k=>dc ..
theorem X8:OR P (M0 x) t h N=H1 P fg (oV x t) h N:=BY fun cf k=>by simp only[M0,AN];rfl
theorem Tu (kd:IntKind):OR P (Bc kd x) t h N=H1 P (Vh kd) (oV x t) h N:=BY fun cf k=>Qf ..
theorem YS (j:Nat):OR P (Ax j x) t h N=H1 P (Q0 j) (oV x t) h N:=BY fun cf k=>NT ..
theorem Uc:OR P (DX x) t h N=H1 P Vj (oV x t) h N:=BY fun cf k=>T5 ..
theorem YI:OR P (Ba x) t h N=H1 P Ml (oV x t) h N:=BY fun cf k=>cn ..
theorem YW:OR P (Iv x y) t h N=H2 P jg (oV x t) (oV y t) h N:=BY fun cf k=>WI ..
theorem X4 (f:Nat->Nat->Nat->Nat->Bool):OR P (G3 f x y) t h N=H2 P (Sg f) (oV x t) (oV y t) h N:=BY fun cf k=>by simp only[G3,AN];rfl
theorem dL:OR P (Fs x y) t h N=H2 P qn (oV x t) (oV y t) h N:=BY fun cf k=>Zu ..
theorem Sm (d:Nat):OR P (Gh d o) t h N=H1 P (NW d) (oV o t) h N:=BY fun cf k=>SE ..
theorem Pj (d size:Nat):OR P (FI d size o) t h N=H1 P (ON d size) (oV o t) h N:=BY fun cf k=>Px ..
theorem Lk (d:Nat):OR P (AH d o) t h N=H1 P (Jw d) (oV o t) h N:=BY fun cf k=>LV ..
theorem Mr:OR P (Af o) t h N=H1 P Kx (oV o t) h N:=BY fun cf k=>MH ..
theorem cK (size:Nat):OR P (AF size o x) t h N=H2 P (Sx size) (oV o t) (oV x t) h N:=BY fun cf k=>W9 ..
theorem QG (len size:Nat):OR P (CT len size o x) t h N=H2 P (Kj len size) (oV o t) (oV x t) h N:=BY fun cf k=>Pw ..
theorem Pa:OR P (Ee x y) t h N=H2 P Lt (oV x t) (oV y t) h N:=BY fun cf k=>Pp ..
theorem P6 (len size:Nat):OR P (GO len size x y) t h N=H2 P (Ow len size) (oV x t) (oV y t) h N:=BY fun cf k=>by simp only[GO,AN,BD];rfl
theorem PW:OR P (Ea x y) t h N=H2 P S0 (oV x t) (oV y t) h N:=BY fun cf k=>PX ..
theorem VD (f:Nat->Nat->Nat->Nat->Bool):OR P (CV f x y) t h N=H2 P (MO f) (oV x t) (oV y t) h N:=BY fun cf k=>Ub ..
theorem VW:OR P (GF x y) t h N=H2 P n6 (oV x t) (oV y t) h N:=BY fun cf k=>T8 ..
theorem Xf (a b:O):OR P (Ch x (some a) (some b)) t h N=H3 P lZ (oV x t) (oV a t) (oV b t) h N:=BY fun cf k=>Ww ..
theorem cR (b:O):OR P (Ch x none (some b)) t h N=H2 P pq (oV x t) (oV b t) h N:=BY fun cf k=>XP ..
theorem WS (a:O):OR P (Ch x (some a) none) t h N=H2 P gV (oV x t) (oV a t) h N:=BY fun cf k=>db ..
theorem RX:OR P (Gc x) t h N=H1 P R6 (oV x t) h N:=BY fun cf k=>by simp only[Gc,AN];rfl
theorem or_nil (f:V->(Bool->Bool)->Bool) (ne:Bool):OR P (Is f ne x y) t h N=H2 P (Qu f ne) (oV x t) (oV y t) h N:=BY fun cf k=>by simp only[Is,AN,Cb];rfl
theorem M1 (n size:Nat) (a:O):OR P (DH n size x (some a) none) t h N=H2 P (Kz n size) (oV x t) (oV a t) h N:=BY fun cf k=>Me ..
end
end Go.Ev
namespace Go.Ev
open Go
/--a block of the call's own,with its elements' type -/
def Iy (h:H) (id:B) (el:Nat) (xs:List V):Prop:=∃ Aj,h.heap.get id=some Aj/\Aj.cur=0/\Aj.min=0/\Aj.fr=0/\Aj.el=el/\B.val h.floor<=B.val id/\B.val id<B.val h.next/\∀ i y,xs[i]? =some y->Aj.cells.BK i=some y
theorem Iy.own {h:H} {id:B} {el:Nat} {xs:List V} (o:Iy h id el xs):C7 h id xs:=by
 obtain⟨Aj,h1,h2,h3,h4,h5,h6,h7,h8⟩:=o
 exact⟨Aj,h1,h2,h3,h4,h6,h7,h8⟩
theorem Iy.stay {p:B->Prop} {h h':H} {id:B} {el:Nat} {xs:List V} (o:Iy h id el xs) (s:AT p h h') (hp:¬p id):Iy h' id el xs:=by
 obtain⟨Aj,h1,h2,h3,h4,h5,h6,h7,h8⟩:=o
 exact⟨Aj,(s.get id h7 hp).trans h1,h2,h3,h4,h5,by rw[s.floor];exact h6,Nat.lt_of_lt_of_le h7 s.next,h8⟩
theorem Iy.lt {h:H} {id:B} {el:Nat} {xs:List V} (o:Iy h id el xs):B.val id<B.val h.next:=by obtain⟨_,_,_,_,_,_,_,h7,_⟩:=o;exact h7
section
variable {P:Program} {S:Spec} {l:List CO} {t:F} {h:H} {K:F->H->Prop}
end
section
variable (cf:Bg) (t:F) (h:H) (k:V->H->Bool) (x y:O)
end
theorem KH:∀ (m:Nat) (l:List UInt8) (acc:List V) (k:List V->Bool),l.length=m->KG m (pk l) acc k=k (l.map bv++acc):=by
 intro m
 induction m with
 |zero=>
  intro l acc k h
  have:l=[]:=List.eq_nil_of_length_eq_zero h
  subst this;rfl
 |succ m ih=>
  intro l acc k h
  have hne:l≠[]:=by intro h0;subst h0;simp at h
  obtain⟨l',b,rfl⟩:∃ l' b,l=l'++[b]:=⟨l.dropLast,l.getLast hne,(List.dropLast_concat_getLast hne).symm⟩
  have hs:=H4 l' [b]
  have hb:pk [b]=b.toNat:=by simp[pk]
  simp only[List.length_cons,List.length_nil,Nat.zero_add,Nat.pow_one,hb]at hs
  show fN (Nat.mod (pk (l'++[b])) 256) (fun c=>fN (Nat.div (pk (l'++[b])) 256) fun n=>KG m n (.i .u8 (.ofNat c)::acc) k)=_
  rw[A1,A1]
  have e1:Nat.mod (pk (l'++[b])) 256=b.toNat:=hs.2
  have e2:Nat.div (pk (l'++[b])) 256=pk l':=hs.1
  rw[e1,e2,ih l' _ k (by simpa using h)]
  simp[bv]
theorem Ig:∀ l:List UInt8,B2 (l.map bv)=true
 |[]=>rfl
 |_::l=>Ig l
section
variable {P:Program} {S:Spec} {l:List CO} {t:F} {h:H} {K:F->H->Prop}
end
/--a Builder of the call's own,behind 'lo',in the blocks U,with the bytes a -/
structure Sb (h:H) (lo elB el8:Nat) (id:B) (U:B->Prop) (a:List UInt8):Prop where
 made:∃ adr w,Iy h id elB [adr,w]/\(adr=.p0\/adr=.p id 0 0 2)/\Fq h el8 1 w (a.map bv)/\(∀ i,Ao w i->U i)/\¬Ao w id
 self:U id
 lo:∀ i,U i->lo<=B.val i/\B.val i<B.val h.next
theorem Sb.stay {h h':H} {lo elB el8:Nat} {id:B} {U p:B->Prop} {a:List UInt8} (s:Sb h lo elB el8 id U a) (st:AT p h h') (hp:∀ i,U i->¬p i):Sb h' lo elB el8 id U a:=by
 obtain⟨⟨adr,w,o,ha,b,hw,hn⟩,hs,hlo⟩:=s
 exact⟨⟨adr,w,o.stay st (hp _ hs),ha,b.stay st fun i hi=>hp i (hw i hi),hw,hn⟩,hs,fun i hi=>⟨(hlo i hi).1,Nat.lt_of_lt_of_le (hlo i hi).2 st.next⟩⟩
/--a slice of one-cell elements of the call's own,behind 'lo' -/
structure Vb (h:H) (lo el:Nat) (v:V) (xs:List V):Prop where
 buf:Fq h el 1 v xs
 own:∀ i,Ao v i->lo<=B.val i
theorem Vb.nil (h:H) (lo el:Nat):Vb h lo el .l0 []:=⟨Fq.nil h el 1,fun i hi=>by obtain⟨_,_,_,_,_,e⟩:=hi;cases e⟩
theorem Vb.stay {p:B->Prop} {h h':H} {lo el:Nat} {v:V} {xs:List V} (a:Vb h lo el v xs) (s:AT p h h') (hp:∀ i,Ao v i->¬p i):Vb h' lo el v xs:=⟨a.buf.stay s hp,a.own⟩
theorem Vb.grow {h h':H} {lo el:Nat} {v:V} {xs:List V} (a:Vb h lo el v xs) (s:AT AQ h h'):Vb h' lo el v xs:=⟨a.buf.grow s,a.own⟩
/--a new slice of bytes,in a block of the call's own that begins at 0;its end is marked,so that it is no Fq -/
theorem OQ (el:Nat) {l:List UInt8} {h:H} (hf:B.val h.floor<=B.val h.next) (hl:l.length<=1048576):
 ∃ h',(∀ (x:O) (t:F) (cf:Bg) (k:V->H->Bool),oV x t=sv l->Hi el x cf t h k=k (.l h.next 0 0 l.length l.length (HB l.length)) h')/\AT AQ h h'/\B.val h'.next=B.val h.next+1/\
  Row h' h.next 0 0 (l.map bv)/\Gy h' (.l h.next 0 0 l.length l.length (HB l.length)) (l.map bv)/\
  ∃ cells,h'.heap.get h.next=some ⟨0,0,l.length,cells,el,1⟩/\∀ i y,(l.map bv)[i]? =some y->cells.BK i=some y:=by
 obtain⟨⟨nx,fl,heap⟩,a1,a2,a3,⟨cur,min,sz,cells,bel,fr⟩,b1,b2,b3,b4,b5,b6,b7⟩:=DI el (l.map bv) h (by simp;omega)
 simp only at b2 b3 b4 b5 b6 b7
 subst b2;subst b3;subst b5;subst b6
 rw[List.length_map]at b4
 subst b4
 obtain⟨hp,s1,s2,s3⟩:=Bs h.next (⟨0,0,l.length,cells,bel,1⟩:Gk) heap
 have hfl:fl=h.floor:=a2.floor
 have g3:B.KM fl h.next=true:=by
  rw[hfl]
  cases hfx:h.floor<;>first|rfl|(rw[hfx]at hf;show Nat.ble _ _=true;rw[Nat.ble_eq];exact hf)
 have g5:Nat.ble l.length 1048576=true:=by rw[Nat.ble_eq];exact hl
 have b1':heap.get h.next=some ⟨0,0,l.length,cells,bel,0⟩:=b1
 have hrow:Row ⟨nx,fl,hp⟩ h.next 0 0 (l.map bv):=by
  refine⟨fun _=>⟨_,s2,Nat.le_refl _⟩,fun i y hy=>?_⟩
  unfold Ev.cell Gv
  show(match hp.get h.next with|some b=>if b.min<=0 then b.cells.BK (0+i)else none|none=>none)=_
  rw[s2]
  simp only[Nat.le_refl,if_true,Nat.zero_add]
  exact b7 i y hy
 refine⟨⟨nx,fl,hp⟩,fun x t cf k e=>?_,⟨a2.floor,a2.next,fun id h1 h2=>(s3 id fun e=>by rw[e]at h1;exact absurd h1 (Nat.lt_irrefl _)).trans (a2.get id h1 h2)⟩,a3,hrow,
  .inr ⟨h.next,0,0,l.length,HB l.length,by rw[List.length_map],by rw[List.length_map];omega,by show B.val h.next<B.val nx;have:B.val nx=B.val h.next+1:=a3;omega,hrow⟩,cells,s2,b7⟩
 simp only[Hi,AN,e]
 show Ap (Nat.ble l.length 1048576) (fun _=>KG l.length (pk l) [] fun vs=>alloc bel vs h fun id h=>KL h id fun h=>k (.l id 0 0 l.length l.length (HB l.length)) h)=_
 rw[g5,AG,KH _ _ _ _ rfl,List.append_nil,a1]
 simp only[KL,CG,b1',Ak,BC,g3,AG]
 have g0:Nat.beq 0 0=true:=rfl
 rw[g0,AG]
 exact s1 _
section
variable {P:Program} {S:Spec} {l:List CO} {t:F} {h:H} {K:F->H->Prop}
end
/--v is the newest slice of its block -/
def NI (h:H) (v:V):Prop:=∀ id g off n fin cap,v=.l id g off n fin cap->∃ Aj,h.heap.get id=some Aj/\Aj.cur=g
theorem NI.nil (h:H):NI h .l0:=fun _ _ _ _ _ _ e=>by cases e
theorem NI.stay {p:B->Prop} {h h':H} {v:V} (a:NI h v) (s:AT p h h') (hl:∀ id,Ao v id->B.val id<B.val h.next) (hp:∀ id,Ao v id->¬p id):NI h' v:=fun id g off n fin cap e=>by
 obtain⟨Aj,h1,h2⟩:=a id g off n fin cap e
 have i:Ao v id:=⟨_,_,_,_,_,e⟩
 exact⟨Aj,(s.get id (hl id i) (hp id i)).trans h1,h2⟩
theorem Jl {h:H} {el size n:Nat} {v:V} {xs vs:List V} (b:Fq h el size v xs) (hf:B.val h.floor<=B.val h.next) (hsz:1<=size) (hn:vs.length=n*size) (h1:B2 vs=true) (hb:xs.length+vs.length<=1048576):
 ∃ v' h',(∀ k,CM el size v n vs h k=k v' h')/\Fq h' el size v' (xs++vs)/\AT (Ao v) h h'/\(∀ id,Ao v' id->Ao v id\/B.val h.next<=B.val id)/\NI h' v':=by
 have hle:n<=vs.length:=by rw[hn];exact Nat.le_mul_of_pos_right _ hsz
 rcases b with⟨rfl,rfl⟩|⟨id,g,m,Aj,rfl,b1,b2,b3,b4,b5,b6,b7,b8,b9,b10⟩
 ·cases n with
  |zero=>
   have:vs=[]:=List.eq_nil_of_length_eq_zero (by simpa using hn)
   subst this
   exact⟨.l0,h,fun k=>rfl,Fq.nil h el size,AT.refl _ h,fun id i=>.inl i,fun _ _ _ _ _ _ e=>by cases e⟩
  |succ n=>
   obtain⟨h',a1,a2,a3,Aj,c1,c2,c3,c4,c5,c6,c7⟩:=DI el vs h (by omega)
   have hble:Nat.ble (n+1) 1048576=true:=by rw[Nat.ble_eq];simp at hb;omega
   refine⟨.l h.next 0 0 (n+1) vs.length none,h',fun k=>?_,.inr ⟨h.next,0,n+1,Aj,rfl,by omega,hn,by rw[a2.floor];exact hf,by omega,c1,⟨by omega,by omega⟩,c4,c5,c6,c7⟩,a2.mono fun _ _ h=>h.elim,fun id i=>?_,fun _ _ _ _ _ _ e=>by cases e;exact⟨Aj,c1,c3⟩⟩
   ·show(Ap (Nat.ble (n+1) 1048576) fun _=>alloc el vs h fun id h=>k (.l id 0 0 (n+1) vs.length none) h)=_
    rw[hble,AG,a1]
   ·obtain⟨_,_,_,_,_,e⟩:=i;cases e;exact .inr (Nat.le_refl _)
 ·obtain⟨next,floor,heap⟩:=h
  obtain⟨cur,min,sz,cells,bel,fr⟩:=Aj
  simp only at b6 b7 b8 b9 b10
  obtain⟨tr,t1,t2,t3⟩:=Bp vs sz cells (by omega)
  obtain⟨hp,s1,s2,s3⟩:=Bs id (⟨Nat.succ cur,min,Nat.add sz (Nat.mul n size),tr,bel,fr⟩:Gk) heap
  have e1:Nat.ble min g=true:=by rw[Nat.ble_eq];exact b6.1
  have e2:B.KM floor id=true:=by
   cases floor<;>first|rfl|(show Nat.ble _ _=true;rw[Nat.ble_eq];exact b3)
  have e3:Nat.add 0 (Nat.mul m size)=sz:=by
   show 0+m*size=sz
   omega
  have e3':Nat.ble sz sz=true:=by rw[Nat.ble_eq];exact Nat.le_refl _
  have e4:Nat.beq xs.length sz=true:=by rw[b7];simp
  have e4':Nat.beq sz sz=true:=Nat.beq_refl _
  have e9:Lb size (Nat.add m n)=none:=J5 (by show 1<=m+n;omega)
  have e5:Nat.ble 1 m=true:=by rw[Nat.ble_eq];exact b1
  have hm:m<=xs.length:=by rw[b2];exact Nat.le_mul_of_pos_right _ hsz
  have e6:Nat.ble (Nat.add m n) 1048576=true:=by rw[Nat.ble_eq];show m+n<=1048576;omega
  have e7:G8 fr sz=true:=by rw[b9];rfl
  have e8:Nat.beq bel el=true:=by rw[b8];simp
  refine⟨.l id (Nat.succ cur) 0 (m+n) (sz+n*size) none,⟨next,floor,hp⟩,fun k=>?_,.inr ⟨id,Nat.succ cur,m+n,_,?_,by omega,?_,b3,b4,s2,?_,?_,b8,b9,fun i y hy=>?_⟩,⟨rfl,Nat.le_refl _,fun id' _ hne=>s3 id' fun e=>hne (by subst e;exact⟨_,_,_,_,_,rfl⟩)⟩,fun id' i=>?_,fun _ _ _ _ _ _ e=>by cases e;exact⟨_,s2,rfl⟩⟩
  ·show CN (Nat.ble 1 m) el id g 0 m xs.length size n vs ⟨next,floor,heap⟩ k=_
   have b5':heap.get id=some ⟨cur,min,sz,cells,bel,fr⟩:=b5
   simp only[CN,CG,b5',Ak,BC,A1,e3,e1,e2,e3',e4,e4',SF,e5,e6,h1,e7,e8,e9,AG]
   rw[t1,s1];rfl
  ·show V.l id (Nat.succ cur) 0 (m+n) (sz+n*size) none=V.l id (Nat.succ cur) 0 (m+n) (xs++vs).length none
   rw[List.length_append,hn,b7]
  ·rw[List.length_append,hn,b2,Nat.add_mul]
  ·exact⟨by show min<=cur+1;omega,Nat.le_refl _⟩
  ·show Nat.add sz (Nat.mul n size)=(xs++vs).length
   rw[List.length_append,hn,b7];rfl
  ·show tr.BK i=some y
   by_cases hi:i<xs.length
   ·rw[t3 i (.inl (by omega))]
    refine b10 i y ?_
    rwa [List.getElem?_append_left hi]at hy
   ·have hi':i-xs.length<vs.length:=by
     have:=(List.getElem?_eq_some_iff.1 hy).1
     simp at this;omega
    rw[List.getElem?_append_right (by omega)]at hy
    have:=t2 (i-xs.length) y hy
    rwa [show sz+(i-xs.length)=i by omega]at this
  ·obtain⟨_,_,_,_,_,e⟩:=i;cases e;exact .inl ⟨_,_,_,_,_,rfl⟩
/--at one place written -/
theorem QE {h:H} {el:Nat} {v:V} {xs:List V} {j:Nat} {y:V} (b:Fq h el 1 v xs) (tp:NI h v) (hj:j<xs.length) (hfit:j<2 ^ 37) (h1:FD y=true):
 ∃ h',(∀ k,store h (FV v) (lg v) (Ce v+j) (Cf v) [y] k=k h')/\Fq h' el 1 v (xs.set j y)/\NI h' v/\AT (Ao v) h h':=by
 rcases b with⟨rfl,rfl⟩|⟨id,g,m,Aj,rfl,b1,b2,b3,b4,b5,b6,b7,b8,b9,b10⟩
 ·exact absurd hj (Nat.not_lt_zero _)
 obtain⟨blk',b5',hcur⟩:=tp id g 0 m xs.length none rfl
 have hbb:blk'=Aj:=by rw[b5]at b5';exact(Option.some.inj b5').symm
 subst hbb
 obtain⟨next,floor,heap⟩:=h
 obtain⟨cur,min,sz,cells,bel,fr⟩:=blk'
 simp only at b6 b7 b8 b9 b10 hcur
 subst hcur;subst b9
 obtain⟨tr,t1,t2,t3⟩:=Bp [y] j cells (by simp;omega)
 obtain⟨hp,s1,s2,s3⟩:=Bs id (⟨cur,cur,sz,tr,bel,0⟩:Gk) heap
 have e1:B.KM floor id=true:=by cases floor<;>first|rfl|(show Nat.ble _ _=true;rw[Nat.ble_eq];exact b3)
 have e2:Nat.ble (Nat.add j 1) xs.length=true:=by rw[Nat.ble_eq];exact hj
 have e3:B2 [y]=true:=by show Bool.rec false true (FD y)=true;rw[h1]
 have e4:G8 0 j=true:=rfl
 have e5:Nat.beq cur cur=true:=Nat.beq_refl cur
 have e6:Nat.ble min cur=true:=by rw[Nat.ble_eq];exact b6.1
 have b5'':heap.get id=some ⟨cur,min,sz,cells,bel,0⟩:=b5
 refine⟨⟨next,floor,hp⟩,fun k=>?_,.inr ⟨id,cur,m,_,by rw[List.length_set],b1,by rw[List.length_set];exact b2,b3,b4,s2,⟨Nat.le_refl _,Nat.le_refl _⟩,by rw[List.length_set];exact b7,b8,rfl,fun i z hz=>?_⟩,fun _ _ _ _ _ _ e=>by cases e;exact⟨_,s2,rfl⟩,⟨rfl,Nat.le_refl _,fun i _ hi=>s3 i fun e=>hi (by subst e;exact⟨_,_,_,_,_,rfl⟩)⟩⟩
 ·show store ⟨next,floor,heap⟩ id cur (0+j) xs.length [y] k=_
  rw[Nat.zero_add]
  simp only[store,CG,b5'',Ak,BC,List.length_singleton,e5,e6,e1,e2,e3,e4,AG]
  rw[t1,s1]
 ·show tr.BK i=some z
  rw[List.getElem?_set]at hz
  split at hz
  ·rename_i hij
   subst hij
   first
   |(rw[if_pos hj]at hz;cases hz;exact t2 0 y rfl)
   |(cases hz;exact t2 0 y rfl)
  ·rename_i hij
   rw[t3 i (by simp;omega)]
   exact b10 i z hz
section
variable {P:Program} {S:Spec} {l:List CO} {t:F} {h:H} {K:F->H->Prop}
end
def E1 (size:Nat) (v w:V) (k:V->Bool):Bool:=vL v (fun _=>vI w fun _ n=>A2 n fun a=>Ap (Nat.beq a 0) fun _=>Ap (Nat.beq 0 0) fun _=>k .l0) fun id g off len fin cap=>vI w fun _ n=>A2 n fun a=>Ap (Nat.ble a len) fun _=>
 Option.rec (fun id g off len fin a b k=>C9 size id g off len fin a b fun v=>k v) (fun c id g off len fin a b k=>Ay (BM c) (fun _=>Ap (Nat.beq b 0) fun _=>k (.l id g off 0 off (some c))) (fun _=>BT size id g off len fin c a b fun v=>k v)) cap id g off len fin a len k
def FO (size:Nat) (v w:V) (k:V->Bool):Bool:=vL v (fun _=>vI w fun _ n=>A2 n fun b=>Ap (Nat.beq 0 0) fun _=>Ap (Nat.beq b 0) fun _=>k .l0) fun id g off len fin cap=>vI w fun _ n=>A2 n fun b=>Ap (Nat.ble 0 b) fun _=>
 Option.rec (fun id g off len fin a b k=>C9 size id g off len fin a b fun v=>k v) (fun c id g off len fin a b k=>Ay (BM c) (fun _=>Ap (Nat.beq b 0) fun _=>k (.l id g off 0 off (some c))) (fun _=>BT size id g off len fin c a b fun v=>k v)) cap id g off len fin 0 b k
section
variable {cf:Bg} {t:F} {h:H} {k:V->H->Bool} {x a:O}
theorem VF (size:Nat):Bw size x (some a) none cf t h k=E1 size (oV x t) (oV a t) fun v=>k v h:=by
 unfold E1
 simp only[Bw,AN,BR]
 congr 1
 funext id g off len fin cap
 congr 1;funext _ n;congr 1;funext a;congr 1;funext _
 cases cap with
 |none=>rfl
 |some c=>
  show Ay (BM c) _ _=Ay (BM c) _ _
  cases BM c<;>rfl
theorem Um (size:Nat):Bw size x none (some a) cf t h k=FO size (oV x t) (oV a t) fun v=>k v h:=by
 unfold FO
 simp only[Bw,AN,BR]
 congr 1
 funext id g off len fin cap
 congr 1;funext _ n;congr 1;funext a;congr 1;funext _
 cases cap with
 |none=>rfl
 |some c=>
  show Ay (BM c) _ _=Ay (BM c) _ _
  cases BM c<;>rfl
end
/--the part behind n of a row that is made -/
def Sd (id:B) (K n:Nat):V:=if n=K then .l id 0 0 0 K (some 0)else .l id 0 n (K-n) K (some (K-n))
theorem S7 {id:B} {K n:Nat} {kd:IntKind} (hKM:K<18446744073709551616) (hn:n<=K) (k:V->Bool):E1 1 (.l id 0 0 K K (some K)) (.i kd (n:Int)) k=k (Sd id K n):=by
 have e1:Nat.ble n K=true:=by rw[Nat.ble_eq];exact hn
 have e2:Nat.ble K K=true:=by rw[Nat.ble_eq];exact Nat.le_refl _
 unfold E1 Sd
 simp only[C0,Cs,BW,e1,AG]
 by_cases e:n=K
 ·subst e
  rw[if_pos rfl]
  show Ay (BM n) _ (fun _=>BT 1 id 0 0 n n n n n fun v=>k v)=_
  rw[FN hKM,BB]
  have e0:Nat.ble (Nat.succ n) 18446744073709551616=true:=by rw[Nat.ble_eq];exact hKM
  have e3:Nat.beq n n=true:=Nat.beq_refl n
  unfold BT
  rw[e0,AG,e2,AG,e3]
  rfl
 ·rw[if_neg e]
  show Ay (BM K) _ (fun _=>BT 1 id 0 0 K K K n K fun v=>k v)=_
  rw[FN hKM,BB,Dn hKM (Nat.le_refl _) (by omega),Nat.zero_add,Nat.mul_one]
theorem Sh {id:B} {K n:Nat} {kd:IntKind} (hKM:K<18446744073709551616) (hn:n<=K) (hK:0<K) (k:V->Bool):FO 1 (.l id 0 0 K K (some K)) (.i kd (n:Int)) k=k (.l id 0 0 n K (some K)):=by
 have e1:Nat.ble 0 n=true:=by rw[Nat.ble_eq];exact Nat.zero_le _
 unfold FO
 simp only[C0,Cs,BW,e1,AG]
 show Ay (BM K) _ (fun _=>BT 1 id 0 0 K K K 0 n fun v=>k v)=_
 rw[FN hKM,BB,Dn hKM hn hK]
 simp only[Nat.zero_mul,Nat.add_zero,Nat.sub_zero]
end Go.Ev
namespace Go.Ev
open Go
/--frames -/
def XL (n m:Nat) (v:V) (t:F):V:=get n (put m v t)
theorem AB (n m:Nat) (v:V) (t:F):get n (put m v t)=if n=m then v else if n<512/\m<512 then get n t else XL n m v t:=by
 by_cases h:n<512/\m<512
 ·rw[OX n m v t h.1 h.2,if_pos h]
 ·rw[if_neg h]
  by_cases e:n=m
  ·subst e
   rw[if_pos rfl]
   exact(Classical.choose_spec (Fl (AR n) v t)).2.1
  ·rw[if_neg e];rfl
section
variable {P:Program} {h:H} {N:Nx} {kd:IntKind} {a b:Int}
theorem c8:H2 P (Cz BA) (.i kd a) (.i kd b) h N=N.go P (.i kd (kd.wrap (a+b))) h:=Ah fun k=>by show Ap (B9 kd kd) _=_;rw[BQ,AG,qa]
theorem Zy:H2 P (Cz Bq) (.i kd a) (.i kd b) h N=N.go P (.i kd (kd.wrap (a-b))) h:=Ah fun k=>by show Ap (B9 kd kd) _=_;rw[BQ,AG,sF]
theorem aC:H2 P (Cz HL) (.i kd a) (.i kd b) h N=N.go P (.i kd (kd.wrap (a*b))) h:=Ah fun k=>by show Ap (B9 kd kd) _=_;rw[BQ,AG,mZ]
theorem ZH:H2 P (Cz Bu) (.i kd a) (.i kd b) h N=N.go P (.b (decide (a<b))) h:=Ah fun k=>by show Ap (B9 kd kd) _=_;rw[BQ,AG,nw]
theorem aO:H2 P (Cz D9) (.i kd a) (.i kd b) h N=N.go P (.b (decide (b<a))) h:=Ah fun k=>by show Ap (B9 kd kd) _=_;rw[BQ,AG,qK]
theorem ZO:H2 P (Cz E8) (.i kd a) (.i kd b) h N=N.go P (.b (decide (a<=b))) h:=Ah fun k=>by show Ap (B9 kd kd) _=_;rw[BQ,AG,mr]
theorem YA:H2 P (Cz EJ) (.i kd a) (.i kd b) h N=N.go P (.b (decide (b<=a))) h:=Ah fun k=>by show Ap (B9 kd kd) _=_;rw[BQ,AG,gq]
theorem Wk:H2 P (Cz En) (.i kd a) (.i kd b) h N=N.go P (.b (decide (a=b))) h:=Ah fun k=>by show Ap (B9 kd kd) _=_;rw[BQ,AG,ja]
theorem Zc:H2 P (Cz JQ) (.i kd a) (.i kd b) h N=N.go P (.b (!decide (a=b))) h:=Ah fun k=>by show Ap (B9 kd kd) _=_;rw[BQ,AG,mn]
theorem bT (ha:0<=a) (hb:0<b):H2 P (Cz KN) (.i kd a) (.i kd b) h N=N.go P (.i kd (kd.wrap (a/b))) h:=Ah fun k=>by
 show Ap (B9 kd kd) _=_
 rw[BQ,AG]
 have e:JU b 0=false:=by rw[EC];simp;omega
 unfold KN
 rw[e]
 show Ez (Int.tdiv a b) kd (BO kd) k=_
 rw[CH,Int.tdiv_eq_ediv_of_nonneg ha]
theorem de (ha:0<=a) (hb:0<b):H2 P qF (.i kd a) (.i kd b) h N=N.go P (.i kd (a%b)) h:=Ah fun k=>by
 show Ap (B9 kd kd) (fun _=>PB kd a b k)=_
 rw[BQ,AG]
 have e:JU b 0=false:=by rw[EC];simp;omega
 unfold PB
 rw[e]
 show Eb (Int.tmod a b) (fun n=>k (.i kd n))=_
 rw[ER,Int.tmod_eq_emod_of_nonneg ha]
theorem Jm {m:Nat} (hm:BO kd=m) (ha:0<=a) (ha2:a<=m) (hb:0<=b) (hb2:b<=m):H2 P (Cz MR) (.i kd a) (.i kd b) h N=N.go P (.i kd ((a.toNat&&&b.toNat:Nat):Int)) h:=Ah fun k=>by
 show Ap (B9 kd kd) _=_
 rw[BQ,AG]
 obtain⟨x,rfl⟩:=Int.eq_ofNat_of_zero_le ha
 obtain⟨y,rfl⟩:=Int.eq_ofNat_of_zero_le hb
 have e1:Nat.ble x (BO kd)=true:=by rw[Nat.ble_eq];omega
 have e2:Nat.ble y (BO kd)=true:=by rw[Nat.ble_eq];omega
 show A2 (Int.ofNat x) (fun a=>A2 (Int.ofNat y) _)=_
 rw[A6,A6,e1,AG,e2,AG,A1];rfl
theorem Mm {m:Nat} (hm:BO kd=m) (ha:0<=a) (ha2:a<=m) (hb:0<=b) (hb2:b<=m):H2 P (Cz di) (.i kd a) (.i kd b) h N=N.go P (.i kd ((a.toNat|||b.toNat:Nat):Int)) h:=Ah fun k=>by
 show Ap (B9 kd kd) _=_
 rw[BQ,AG]
 obtain⟨x,rfl⟩:=Int.eq_ofNat_of_zero_le ha
 obtain⟨y,rfl⟩:=Int.eq_ofNat_of_zero_le hb
 have e1:Nat.ble x (BO kd)=true:=by rw[Nat.ble_eq];omega
 have e2:Nat.ble y (BO kd)=true:=by rw[Nat.ble_eq];omega
 show A2 (Int.ofNat x) (fun a=>A2 (Int.ofNat y) _)=_
 rw[A6,A6,e1,AG,e2,AG,A1];rfl
theorem JZ {m:Nat} (hm:BO kd=m) (ha:0<=a) (ha2:a<=m) (hb:0<=b) (hb2:b<=m):H2 P (Cz KR) (.i kd a) (.i kd b) h N=N.go P (.i kd ((a.toNat ^^^ b.toNat:Nat):Int)) h:=Ah fun k=>by
 show Ap (B9 kd kd) _=_
 rw[BQ,AG]
 obtain⟨x,rfl⟩:=Int.eq_ofNat_of_zero_le ha
 obtain⟨y,rfl⟩:=Int.eq_ofNat_of_zero_le hb
 have e1:Nat.ble x (BO kd)=true:=by rw[Nat.ble_eq];omega
 have e2:Nat.ble y (BO kd)=true:=by rw[Nat.ble_eq];omega
 show A2 (Int.ofNat x) (fun a=>A2 (Int.ofNat y) _)=_
 rw[A6,A6,e1,AG,e2,AG,A1];rfl
theorem Ji {m:Nat} (hm:BO kd=m) (ha:0<=a) (ha2:a<=m) (hb:0<=b) (hb2:b<=m):H2 P (Cz Nv) (.i kd a) (.i kd b) h N=N.go P (.i kd ((a.toNat ^^^ (a.toNat&&&b.toNat):Nat):Int)) h:=Ah fun k=>by
 show Ap (B9 kd kd) _=_
 rw[BQ,AG]
 obtain⟨x,rfl⟩:=Int.eq_ofNat_of_zero_le ha
 obtain⟨y,rfl⟩:=Int.eq_ofNat_of_zero_le hb
 have e1:Nat.ble x (BO kd)=true:=by rw[Nat.ble_eq];omega
 have e2:Nat.ble y (BO kd)=true:=by rw[Nat.ble_eq];omega
 show A2 (Int.ofNat x) (fun a=>A2 (Int.ofNat y) _)=_
 rw[A6,A6,e1,AG,e2,AG,A1];rfl
theorem dM {kd':IntKind} (hb:0<=b):H2 P (NN Lu) (.i kd a) (.i kd' b) h N=N.go P (.i kd (kd.wrap (a*((2 ^ (min b.toNat kd.bits):Nat):Int)))) h:=Ah fun k=>by
 show A2 b _=_
 rw[Cn hb,jz]
theorem Ym {kd':IntKind} (hb:0<=b):H2 P (NN Le) (.i kd a) (.i kd' b) h N=N.go P (.i kd (a/((2 ^ (min b.toNat kd.bits):Nat):Int))) h:=Ah fun k=>by
 show A2 b _=_
 rw[Cn hb]
 show Eb (Int.fdiv a ((2 ^ _:Nat):Int)) (fun n=>k (.i kd n))=_
 rw[ER,Int.fdiv_eq_ediv_of_nonneg _ (Int.natCast_nonneg _)]
theorem Wy {x y:Bool}:H2 P (Rb false) (.b x) (.b y) h N=N.go P (.b (x==y)) h:=Ah fun k=>by cases x<;>cases y<;>rfl
theorem YJ {x y:Bool}:H2 P (Rb true) (.b x) (.b y) h N=N.go P (.b (x !=y)) h:=Ah fun k=>by cases x<;>cases y<;>rfl
theorem Xp {x:Bool}:H1 P fR (.b x) h N=N.go P (.b (!x)) h:=Ah fun k=>rfl
theorem Wz:H1 P fg (.i kd a) h N=N.go P (.i kd (kd.wrap (-a))) h:=Ah fun k=>CH _ _ _
theorem TQ {kd':IntKind}:H1 P (Vh kd) (.i kd' a) h N=N.go P (.i kd (kd.wrap a)) h:=Ah fun k=>rfl
theorem Tv {v:V} {vs:List V}:H1 P (Q0 0) (.tu (v::vs)) h N=N.go P v h:=Ah fun k=>rfl
theorem UF {u v:V} {vs:List V}:H1 P (Q0 1) (.tu (u::v::vs)) h N=N.go P v h:=Ah fun k=>rfl
theorem Uu {u w v:V} {vs:List V}:H1 P (Q0 2) (.tu (u::w::v::vs)) h N=N.go P v h:=Ah fun k=>rfl
theorem TT {u w z v:V} {vs:List V}:H1 P (Q0 3) (.tu (u::w::z::v::vs)) h N=N.go P v h:=Ah fun k=>rfl
theorem Z8:H2 P jg (.i kd a) (.i kd b) h N=N.go P (.i kd (min a b)) h:=Ah fun k=>by show Ap (B9 kd kd) _=_;rw[BQ,AG]
theorem Zq:H2 P qn (.i kd a) (.i kd b) h N=N.go P (.i kd (max a b)) h:=Ah fun k=>by show Ap (B9 kd kd) _=_;rw[BQ,AG]
theorem Uw {q:Bool} {x y:V}:H3 P VZ (.b q) x y h N=N.go P (cond q x y) h:=Ah fun k=>rfl
def yl (P:Program) (d:Nat) (cs:List V) (h:H) (N:Nx):Prop:=H1 P (NW d) (.a cs) h N
theorem SJ {d:Nat} {cs:List V}:H1 P (NW d) (.a cs) h N=if d<cs.length then N.go P (cs.getD d .u) h else yl P d cs h N:=by
 split
 ·rename_i hd
  exact Ah fun k=>by
   show CI (cs[d]?) k=_
   rw[show cs[d]? =some (cs.getD d .u)by simp[hd]];rfl
 ·rfl
theorem QC {d size:Nat} {cs:List V}:H1 P (ON d size) (.a cs) h N=N.go P (.a ((cs.drop d).take size)) h:=Ah fun k=>rfl
theorem LC {d:Nat} {id:B} {g off fin:Nat}:H1 P (Jw d) (.p id g off fin) h N=N.go P (.p id g (off+d) fin) h:=Ah fun k=>rfl
theorem MY {id:B} {g off fin:Nat}:H1 P Kx (.p id g off fin) h N=N.go P (.p id g off fin) h:=Ah fun k=>rfl
/--an element's place -/
def IX (P:Program) (size:Nat) (v:V) (i:Nat) (h:H) (N:Nx):Prop:=HV P (NF size v i) h N
theorem XN {size:Nat} {v:V} (ha:0<=a):H2 P (Sx size) v (.i kd a) h N=IX P size v a.toNat h N:=by
 unfold H2 IX
 congr 1
 funext k
 show A2 a _=_
 rw[Cn ha]
theorem ny {size i:Nat} {id:B} {g off len fin:Nat} {cap:Option Nat} (hi:i<len):IX P size (.l id g off len fin cap) i h N=N.go P (.p id g (off+i*size) fin) h:=Ah fun k=>by
 show Ap (Nat.ble (i+1) len) (fun _=>k (.p id g (off+i*size) fin))=_
 have:Nat.ble (i+1) len=true:=by rw[Nat.ble_eq];exact hi
 rw[this,AG]
theorem PE {len size:Nat} {id:B} {g off fin:Nat} (ha:0<=a) (hl:a<len):H2 P (Kj len size) (.p id g off fin) (.i kd a) h N=N.go P (.p id g (off+a.toNat*size) fin) h:=Ah fun k=>by
 show A2 a _=_
 rw[Cn ha,lE (by omega)]
theorem OJ:H1 P Ml .l0 h N=N.go P (.i .i64 0) h:=Ah fun k=>rfl
theorem Sk {id:B} {g off len fin:Nat} {cap:Option Nat}:H1 P Ml (.l id g off len fin cap) h N=N.go P (.i .i64 (len:Int)) h:=Ah fun k=>rfl
theorem VL {l:List UInt8}:H1 P Vj (sv l) h N=N.go P (.i .i64 (l.length:Int)) h:=Ah fun k=>rfl
theorem Kr {l:List UInt8} (ha:0<=a) (hl:a<l.length):H2 P Lt (sv l) (.i kd a) h N=N.go P (.i .u8 ((l.getD a.toNat 0).toNat:Int)) h:=Ah fun k=>by
 show A2 a _=_
 rw[Cn ha,VO (by omega)]
theorem P1 {len size:Nat} {cs:List V} (ha:0<=a) (hl:a<len) (hc:a.toNat*size<cs.length):H2 P (Ow len size) (.a cs) (.i kd a) h N=N.go P (cs.getD (a.toNat*size) .u) h:=Ah fun k=>by
 show A2 a _=_
 have:Nat.ble (a.toNat+1) len=true:=by rw[Nat.ble_eq];omega
 rw[Cn ha]
 show Ap (Nat.ble (a.toNat+1) len) (fun _=>CI (cs[a.toNat*size]?) k)=_
 rw[this,AG,show cs[a.toNat*size]? =some (cs.getD (a.toNat*size) .u)by simp[hc]];rfl
theorem ZL {x y:List UInt8} (hl:x.length+y.length<=1048576):H2 P S0 (sv x) (sv y) h N=N.go P (sv (x++y)) h:=Ah fun k=>Uk hl k
theorem Wa {x y:List UInt8}:H2 P (MO Fy) (sv x) (sv y) h N=N.go P (.b (decide (x=y))) h:=Ah fun k=>YX x y k
theorem dU {x y:List UInt8}:H2 P (MO fun a b c d=>!Fy a b c d) (sv x) (sv y) h N=N.go P (.b (!decide (x=y))) h:=Ah fun k=>eB x y k
theorem Uy {x y:List UInt8}:H2 P n6 (sv x) (sv y) h N=N.go P (.i .i64 (I4 (decide (x=y)) (Op.bytesLess x y))) h:=Ah fun k=>YL x y k
theorem UQ {x y:List UInt8}:H2 P (Sg fun a b c d=>Fj a b c d||Fy a b c d) (sv x) (sv y) h N=N.go P (sv (bif Op.bytesLess x y||decide (x=y)then x else y)) h:=Ah fun k=>by
 have e:(Fj x.length (pk x) y.length (pk y)||Fy x.length (pk x) y.length (pk y))=(Op.bytesLess x y||decide (x=y)):=by rw[HA,Bo]
 rw[<-e];unfold Sg;rw[Cr,Cr]
 show Ay (Fj x.length (pk x) y.length (pk y)||Fy x.length (pk x) y.length (pk y)) _ _=_
 generalize (Fj x.length (pk x) y.length (pk y)||Fy x.length (pk x) y.length (pk y))=b
 cases b<;>rfl
theorem Td {x y:List UInt8}:H2 P (Sg fun a b c d=>!Fj a b c d) (sv x) (sv y) h N=N.go P (sv (bif Op.bytesLess x y then y else x)) h:=Ah fun k=>by
 rw[Bo];unfold Sg;rw[Cr,Cr]
 show Ay (!Fj x.length (pk x) y.length (pk y)) _ _=_
 generalize Fj x.length (pk x) y.length (pk y)=b
 cases b<;>rfl
theorem Wc {x y:List UInt8}:H2 P (MO Fj) (sv x) (sv y) h N=N.go P (.b (Op.bytesLess x y)) h:=Ah fun k=>eG x y k
theorem V5 {x y:List UInt8}:H2 P (MO fun a b c d=>!Fj a b c d) (sv x) (sv y) h N=N.go P (.b (!Op.bytesLess x y)) h:=Ah fun k=>by
 unfold MO;rw[Cr,Cr,Bo]
theorem az {x y:List UInt8}:H2 P (MO fun a b c d=>Fj a b c d||Fy a b c d) (sv x) (sv y) h N=N.go P (.b (Op.bytesLess x y||decide (x=y))) h:=Ah fun k=>by
 unfold MO;rw[Cr,Cr];show k (.b (Fj x.length (pk x) y.length (pk y)||Fy x.length (pk x) y.length (pk y)))=_;rw[HA,Bo]
theorem Y6 {x y:List UInt8}:H2 P (MO fun a b c d=>!(Fj a b c d||Fy a b c d)) (sv x) (sv y) h N=N.go P (.b (!(Op.bytesLess x y||decide (x=y)))) h:=Ah fun k=>by
 unfold MO;rw[Cr,Cr];show k (.b (!(Fj x.length (pk x) y.length (pk y)||Fy x.length (pk x) y.length (pk y))))=_;rw[HA,Bo]
theorem Y0 {l:List UInt8} {kd':IntKind} (ha:0<=a) (hab:a<=b) (hb:b<=l.length):H3 P lZ (sv l) (.i kd a) (.i kd' b) h N=N.go P (sv ((l.take b.toNat).drop a.toNat)) h:=Ah fun k=>by
 show A2 a (fun p=>A2 b fun q=>PN (sv l) p q k)=_
 rw[Cn ha,Cn (by omega),N9 (by omega) (by omega)]
theorem cH {l:List UInt8} (ha:0<=a) (hb:a<=l.length):H2 P pq (sv l) (.i kd a) h N=N.go P (sv (l.take a.toNat)) h:=Ah fun k=>by
 show A2 a (fun q=>PN (sv l) 0 q k)=_
 rw[Cn ha,N9 (by omega) (by omega),List.drop_zero]
theorem Xq {l:List UInt8} (ha:0<=a) (hb:a<=l.length):H2 P gV (sv l) (.i kd a) h N=N.go P (sv (l.drop a.toNat)) h:=Ah fun k=>by
 show A2 a (fun p=>Ma (sv l) p k)=_
 rw[Cn ha,VS (by omega)]
theorem Qg {l:List UInt8}:H1 P R6 (sv l) h N=N.go P (sv l) h:=Ah fun k=>rfl
theorem S1 {ne:Bool}:H2 P (Qu Ul ne) .l0 .l0 h N=N.go P (.b (!ne)) h:=Ah fun k=>by cases ne<;>rfl
theorem S9 {ne:Bool} {id:B} {g off len fin:Nat} {cap:Option Nat}:H2 P (Qu Ul ne) (.l id g off len fin cap) .l0 h N=N.go P (.b ne) h:=Ah fun k=>by cases ne<;>rfl
theorem QP {ne:Bool}:H2 P (Qu wV ne) .p0 .p0 h N=N.go P (.b (!ne)) h:=Ah fun k=>by cases ne<;>rfl
theorem QZ {ne:Bool} {id:B} {g off fin:Nat}:H2 P (Qu wV ne) (.p id g off fin) .p0 h N=N.go P (.b ne) h:=Ah fun k=>by cases ne<;>rfl
end
def qZ (x:V) (k:V->Bool):Bool:=vI x fun _ n=>A2 n fun n=>Ap (Nat.ble n 127) fun _=>k (.s 1 n)
theorem ZP {P:Program} {t:F} {h:H} {N:Nx} (x:O):OR P (Ke x) t h N=H1 P qZ (oV x t) h N:=BY fun cf k=>by simp only[Ke,AN];rfl
theorem RY {k:Nat} (h:k<256):V.s 1 k=sv [UInt8.ofNat k]:=by
 unfold sv
 have:(UInt8.ofNat k).toNat=k:=by simp;omega
 simp[pk,this]
theorem ZA {P:Program} {h:H} {N:Nx} {kd:IntKind} {a:Int} (ha:0<=a) (hb:a<=127):H1 P qZ (.i kd a) h N=N.go P (sv [UInt8.ofNat a.toNat]) h:=Ah fun k=>by
 show A2 a _=_
 have e:Nat.ble a.toNat 127=true:=by rw[Nat.ble_eq];omega
 rw[Cn ha,e,AG,RY (by omega)]
def LD (P:Program) (v:V) (h:H) (N:Nx):Prop:=HV P (fun k=>vP v fun id g off fin=>DN h id g off fin k) h N
def LA (P:Program) (size:Nat) (v:V) (h:H) (N:Nx):Prop:=HV P (fun k=>vP v fun id g off fin=>Bi h id g off fin size fun vs=>k (.a vs)) h N
def L1 (P:Program) (id:B) (g off fin:Nat) (h:H) (N:Nx):Prop:=HV P (DN h id g off fin) h N
def LN (P:Program) (id:B) (g off fin size:Nat) (h:H) (N:Nx):Prop:=HV P (fun k=>Bi h id g off fin size fun vs=>k (.a vs)) h N
def BS (P:Program) (v:V) (h:H) (N:Nx):Prop:=HV P (RS h v) h N
section
variable {P:Program} {t:F} {h:H} {N:Nx} {o x:O} {id:B} {g off fin size:Nat}
theorem TY:OR P (AY o) t h N=LD P (oV o t) h N:=BY fun cf k=>U7 ..
theorem SK:OR P (AU size o) t h N=LA P size (oV o t) h N:=BY fun cf k=>Re ..
theorem RR:OR P (EV x) t h N=BS P (oV x t) h N:=BY fun cf k=>bJ ..
theorem uI:LD P (.p id g off fin) h N=L1 P id g off fin h N:=rfl
theorem wK:LA P size (.p id g off fin) h N=LN P id g off fin size h N:=rfl
theorem dR {h:H} (k:V->Bool):DN (A3 h) id g off fin k=DN h id g off fin k:=by cases h;rfl
section
variable {n:Nat} {l:List CO} {K:F->H->Prop} {v:V}
theorem gB:L1 P id g off fin (A3 h) (.u n l t h K)=L1 P id g off fin h (.d n l t K):=by
 unfold L1 HV
 simp only[dR,QV,T9,Dv]
theorem nM:LN P id g off fin size (A3 h) (.u n l t h K)=LN P id g off fin size h (.d n l t K):=by
 have e:∀ k:List V->Bool,Bi (A3 h) id g off fin size k=Bi h id g off fin size k:=fun k=>by cases h;rfl
 unfold LN HV
 simp only[e,QV,T9,Dv]
theorem eY:BS P v (A3 h) (.u n l t h K)=BS P v h (.d n l t K):=by
 have e:RS (A3 h) v=RS h v:=by cases h;rfl
 unfold BS HV
 simp only[e,QV,T9,Dv]
end
theorem Row.l1 {xs:List V} (r:Row h id g 0 xs) (hi:off<xs.length) (hf:off<fin):L1 P id g off fin h N=N.go P (xs.getD off .u) h:=Ah fun k=>
 HF (by have:=r.2 off (xs.getD off .u) (by simp[hi]);rwa [Nat.zero_add]at this) hf k
theorem Gy.ln {h0:H} {v:V} {xs:List V} (a:Gy h0 v xs):H1 P Ml v h N=N.go P (.i .i64 (xs.length:Int)) h:=Ah fun k=>by unfold Ml;rw[a.len]
theorem Gy.ld {v:V} {xs:List V} {i:Nat} (a:Gy h v xs) (hi:i<xs.length):L1 P (FV v) (lg v) (Ce v+i) (Cf v) h N=N.go P (xs.getD i .u) h:=Ah fun k=>FH a (by simp[hi]) k
theorem Il.ln {h0:H} {v:V} {xs:List Int} (a:Il h0 v xs):H1 P Ml v h N=N.go P (.i .i64 (xs.length:Int)) h:=by rw[Gy.ln a,List.length_map]
theorem Il.ix {h0:H} {v:V} {xs:List Int} {i:Nat} (a:Il h0 v xs) (hi:i<xs.length):IX P 1 v i h N=N.go P (.p (FV v) (lg v) (Ce v+i) (Cf v)) h:=Ah fun k=>a.idx hi k
theorem Il.ld {v:V} {xs:List Int} {i:Nat} (a:Il h v xs) (hi:i<xs.length):L1 P (FV v) (lg v) (Ce v+i) (Cf v) h N=N.go P (.i .i64 (xs.getD i 0)) h:=Ah fun k=>a.rd hi k
theorem Bl.ld {v:V} {xs:List Bool} {i:Nat} (a:Bl h v xs) (hi:i<xs.length):L1 P (FV v) (lg v) (Ce v+i) (Cf v) h N=N.go P (.b (xs.getD i false)) h:=Ah fun k=>a.rd hi k
/--a slice of texts -/
def Tl (h:H) (v:V) (xs:List (List UInt8)):Prop:=Gy h v (xs.map sv)
theorem Tl.grow {h h':H} {v:V} {xs:List (List UInt8)} (a:Tl h v xs) (s:AT AQ h h'):Tl h' v xs:=Gy.grow a s
theorem Tl.ld {v:V} {xs:List (List UInt8)} {i:Nat} (a:Tl h v xs) (hi:i<xs.length):L1 P (FV v) (lg v) (Ce v+i) (Cf v) h N=N.go P (sv (xs.getD i [])) h:=Ah fun k=>FH a (by simp[hi]) k
theorem Gy.bs {v:V} {l:List UInt8} (a:Gy h v (l.map bv)) (hne:l≠[]):BS P v h N=N.go P (sv l) h:=Ah fun k=>Uz a hne k
end
def Nm (ks:List KD) (ne:Bool) (x y:V) (k:V->Bool):Bool:=vA x fun xs=>vA y fun ys=>L8 ks xs ys fun r=>k (.b (xor ne r))
section
variable {P:Program} {t:F} {h:H} {N:Nx} {ks:List KD} {ne:Bool} {kd:IntKind}
theorem dI {x y:O}:OR P (Jp ks ne x y) t h N=H2 P (Nm ks ne) (oV x t) (oV y t) h N:=BY fun cf k=>by simp only[Jp,AN,Cb];rfl
theorem Kv {a b:List UInt8} {xs ys:List V} {k:Bool->Bool}:L8 (.s::ks) (sv a::xs) (sv b::ys) k=if a=b then L8 ks xs ys k else k false:=by
 show Ay (Fy a.length (pk a) b.length (pk b)) (fun _=>(fun r=>Ay r (fun _=>L8 ks xs ys k) (fun _=>k false)) true) (fun _=>(fun r=>Ay r (fun _=>L8 ks xs ys k) (fun _=>k false)) false)=_
 rw[HA]
 by_cases e:a=b
 ·rw[if_pos e,decide_eq_true e];rfl
 ·rw[if_neg e,decide_eq_false e];rfl
theorem kX {a b:Int} {xs ys:List V} {k:Bool->Bool}:L8 (.i::ks) (.i kd a::xs) (.i kd b::ys) k=if a=b then L8 ks xs ys k else k false:=by
 show Ap (B9 kd kd) (fun _=>Ay (JU a b) (fun _=>(fun r=>Ay r (fun _=>L8 ks xs ys k) (fun _=>k false)) true) (fun _=>(fun r=>Ay r (fun _=>L8 ks xs ys k) (fun _=>k false)) false))=_
 rw[BQ,AG,EC]
 by_cases e:a=b
 ·rw[if_pos e,show(a==b)=true by simpa using e];rfl
 ·rw[if_neg e,show(a==b)=false by simpa using e];rfl
theorem Vp {a b:Bool} {xs ys:List V} {k:Bool->Bool}:L8 (.b::ks) (.b a::xs) (.b b::ys) k=if a=b then L8 ks xs ys k else k false:=by
 cases a<;>cases b<;>rfl
theorem Qy {xs ys:List V} {k:Bool->Bool}:L8 [] xs ys k=k true:=rfl
/--an entry -/
theorem gM {a b v w:List UInt8} {n m:Int} {d e:Bool}:H2 P (Nm [.s,.i,.b,.s] ne) (.a [sv a,.i kd n,.b d,sv v]) (.a [sv b,.i kd m,.b e,sv w]) h N=N.go P (.b (xor ne (decide (a=b/\n=m/\d=e/\v=w)))) h:=Ah fun k=>by
 unfold Nm;rw[KQ,KQ]
 rw[Kv,kX,Vp,Kv,Qy]
 by_cases h1:a=b<;>by_cases h2:n=m<;>by_cases h3:d=e<;>by_cases h4:v=w<;>simp[h1,h2,h3,h4]
/--a write -/
theorem ot {a b v w:List UInt8} {d e:Bool}:H2 P (Nm [.s,.b,.s] ne) (.a [sv a,.b d,sv v]) (.a [sv b,.b e,sv w]) h N=N.go P (.b (xor ne (decide (a=b/\d=e/\v=w)))) h:=Ah fun k=>by
 unfold Nm;rw[KQ,KQ]
 rw[Kv,Vp,Kv,Qy]
 by_cases h1:a=b<;>by_cases h3:d=e<;>by_cases h4:v=w<;>simp[h1,h3,h4]
/--a pair -/
theorem fc {a b v w:List UInt8}:H2 P (Nm [.s,.s] ne) (.a [sv a,sv v]) (.a [sv b,sv w]) h N=N.go P (.b (xor ne (decide (a=b/\v=w)))) h:=Ah fun k=>by
 unfold Nm;rw[KQ,KQ]
 rw[Kv,Kv,Qy]
 by_cases h1:a=b<;>by_cases h4:v=w<;>simp[h1,h4]
end
/--what comes with another memory -/
def HM (P:Program) (g:(V->H->Bool)->Bool) (N:Nx):Prop:=∃ v h',(∀ k,g k=k v h')/\N.go P v h'
theorem FE {P:Program} {r:CB} {t:F} {h:H} {N:Nx} {g:(V->H->Bool)->Bool} (e:∀ cf k,r cf t h k=g k):OR P r t h N=HM P g N:=
 propext ⟨fun⟨v,h',⟨cf,_,c2⟩,k⟩=>⟨v,h',fun k=>(e cf k).symm.trans (c2 k),k⟩,fun⟨v,h',c,k⟩=>⟨v,h',⟨_,Je P,fun k=>(e _ k).trans (c k)⟩,k⟩⟩
theorem DJ {P:Program} {g:(V->H->Bool)->Bool} {N:Nx} {v:V} {h':H} (e:∀ k,g k=k v h') (k:N.go P v h'):HM P g N:=⟨v,h',e,k⟩
/--a new block of these cells;'mk' of its name is what comes -/
def AL (P:Program) (el:Nat) (cs:List V) (mk:B->V) (h:H) (N:Nx):Prop:=HM P (fun k=>alloc el cs h fun id h'=>k (mk id) h') N
theorem AL.own {P:Program} {el:Nat} {cs:List V} {mk:B->V} {h:H} {N:Nx} (hl:cs.length<2 ^ 37) (hf:B.val h.floor<=B.val h.next)
 (k:∀ h',AT AQ h h'->B.val h'.next=B.val h.next+1->C7 h' h.next cs->N.go P (mk h.next) h'):AL P el cs mk h N:=by
 obtain⟨h',a1,a2,a3,a4⟩:=IH el cs h hl hf
 exact DJ (fun k=>a1 _) (k h' a2 a4 a3)
theorem AL.uQ {P:Program} {el:Nat} {cs:List V} {mk:B->V} {h:H} {N:Nx} (hl:cs.length<2 ^ 37) (hf:B.val h.floor<=B.val h.next)
 (k:∀ h',AT AQ h h'->B.val h'.next=B.val h.next+1->Iy h' h.next el cs->N.go P (mk h.next) h'):AL P el cs mk h N:=by
 obtain⟨h',a1,a2,a3,Aj,b1,b2,b3,b4,b5,b6,b7⟩:=DI el cs h (by omega)
 exact DJ (fun k=>a1 _) (k h' a2 a3 ⟨Aj,b1,b3,b2,b6,b5,by rw[a2.floor];exact hf,by omega,b7⟩)
/--a list of cells,filled:then 'f' of them -/
def FL (P:Program) (ps:List Pt) (t:F) (cs:List V) (el:Option (Nat×Nat)) (h:H) (N:Nx):Prop:=match el with
 |none=>HM P (fun k=>EH ps t cs fun ds=>k (.a ds) h) N
 |some (el,len)=>HM P (fun k=>EH ps t cs fun ds=>alloc el ds h fun id h'=>k (.l id 0 0 len ds.length (some len)) h') N
def FP (P:Program) (off size:Nat) (v:V) (ps:List Pt) (t:F) (cs:List V) (el:Option (Nat×Nat)) (h:H) (N:Nx):Prop:=match el with
 |none=>HM P (fun k=>F3 off size (EH ps) t cs (fun ds=>k (.a ds) h) v) N
 |some (el,len)=>HM P (fun k=>F3 off size (EH ps) t cs (fun ds=>alloc el ds h fun id h'=>k (.l id 0 0 len ds.length (some len)) h') v) N
/--a block of one value -/
def BX (P:Program) (el:Nat) (v:V) (h:H) (N:Nx):Prop:=HM P (fun k=>Ap (E6 v) fun _=>alloc el (cells v) h fun id h=>k (.p id 0 0 (cells v).length) h) N
def ST (P:Program) (size:Nat) (p x:V) (h:H) (N:Nx):Prop:=HM P (fun k=>vP p fun id g off fin=>Ap (Nat.beq (cells x).length size) fun _=>store h id g off fin (cells x) fun h=>k (.tu []) h) N
def MS (P:Program) (el:Nat) (z:List V) (l c:V) (h:H) (N:Nx):Prop:=HM P (fun k=>vI l fun _ l=>A2 l fun l=>vI c fun _ c=>A2 c fun c=>Ap (Nat.ble l c) fun _=>Ap (Nat.ble c 1048576) fun _=>alloc el (DS z c) h fun id h=>k (.l id 0 0 l (Nat.mul c z.length) (some c)) h) N
def AP (P:Program) (el size:Nat) (s x:V) (h:H) (N:Nx):Prop:=HM P (fun k=>DC size x h fun n vs=>CM el size s n vs h k) N
def AS (P:Program) (el:Nat) (s x:V) (h:H) (N:Nx):Prop:=HM P (fun k=>EO x fun n vs=>CM el 1 s n vs h k) N
def CP (P:Program) (size:Nat) (x y:V) (h:H) (N:Nx):Prop:=HM P (fun k=>vL x (fun _=>Og y (k (.i .i64 (.ofNat 0)) h)) fun id g off len fin _=>JP size y h k id g off len fin) N
def SB (P:Program) (el:Nat) (x:V) (h:H) (N:Nx):Prop:=HM P (fun k=>vS x fun l n=>Ap (Nat.ble l 1048576) fun _=>KG l n [] fun vs=>alloc el vs h fun id h=>KL h id fun h=>k (.l id 0 0 l l (HB l)) h) N
section
variable {P:Program} {t:F} {h:H} {N:Nx} {o x y l c s:O} {el len size:Nat} {z:List V} {ps:List Pt}
theorem RF:OR P (CA el z) t h N=AL P el z (fun id=>.p id 0 0 z.length) h N:=FE fun cf k=>rfl
theorem aZ:OR P (DK el o) t h N=BX P el (oV o t) h N:=FE fun cf k=>by simp only[DK,Aq]
theorem KS:OR P (Aw el len z ps) t h N=FL P ps t z (some (el,len)) h N:=FE fun cf k=>rfl
theorem Ra:OR P (Cq z ps) t h N=FL P ps t z none h N:=FE fun cf k=>rfl
theorem SL:OR P (Ae size o x) t h N=ST P size (oV o t) (oV x t) h N:=FE fun cf k=>by simp only[Ae,AN,Aq]
theorem Lh:OR P (DM el z l c) t h N=MS P el z (oV l t) (oV c t) h N:=FE fun cf k=>by
 have no:∀ u:V,(vI u fun _ n=>A2 n fun _=>false)=false:=tv
 simp only[DM,AN]
theorem or_append:OR P (Bk el size s x) t h N=AP P el size (oV s t) (oV x t) h N:=FE fun cf k=>by simp only[Bk,Aq]
theorem NX:OR P (FF el s x) t h N=AS P el (oV s t) (oV x t) h N:=FE fun cf k=>by simp only[FF,Aq]
/--the whole of a text,copied into bytes -/
def uA (P:Program) (x y:V) (h:H) (N:Nx):Prop:=HM P (fun k=>vL x (fun _=>false) fun id g off len fin _=>HC len (fun _=>false) fun _=>Ga y h k id g off len fin) N
theorem RQ {P:Program} {x y:O} {t:F} {h:H} {N:Nx}:OR P (GX x y) t h N=uA P (oV x t) (oV y t) h N:=FE fun cf k=>by simp only[GX,Aq]
theorem Tg:OR P (EX size x y) t h N=CP P size (oV x t) (oV y t) h N:=FE fun cf k=>by simp only[EX,Aq]
theorem XM:OR P (Hi el x) t h N=SB P el (oV x t) h N:=FE fun cf k=>by simp only[Hi,AN]
theorem vj:FL P [] t z none h N=N.go P (.a z) h:=propext ⟨fun⟨v,h',e,k⟩=>by obtain⟨rfl,rfl⟩:=Rq e;exact k,fun k=>⟨_,_,fun _=>rfl,k⟩⟩
theorem wI:FL P [] t z (some (el,len)) h N=AL P el z (fun id=>.l id 0 0 len z.length (some len)) h N:=rfl
theorem uY {e:Option (Nat×Nat)} {off size:Nat}:FL P (Pt.mk off size o::ps) t z e h N=FP P off size (oV o t) ps t z e h N:=by
 have e0:∀ k,EH (⟨off,size,o⟩::ps) t z k=F3 off size (EH ps) t z k (oV o t):=fun k=>by show oK o t _=_;rw[Aq];rfl
 unfold FL FP
 simp only[e0]
theorem Vs {e:Option (Nat×Nat)} {off size:Nat} {v:V} {cs:List V} (hk:E6 v=true) (hc:cells v=cs) (hs:cs.length=size) (hb:off+size<=z.length):FP P off size v ps t z e h N=FL P ps t (z.take off++(cs++z.drop (off+size))) e h N:=by
 have e0:∀ k,F3 off size (EH ps) t z k v=EH ps t (z.take off++(cs++z.drop (off+size))) k:=fun k=>by
  have h1:Nat.beq (cells v).length size=true:=by rw[hc,hs];exact Nat.beq_refl _
  have h2:Nat.ble (Nat.add off size) z.length=true:=by rw[Nat.ble_eq];exact hb
  unfold F3
  rw[hk,AG,h1,AG,h2,AG,hc]
  unfold putAt
  rw[DZ,DZ,hs]
 unfold FP FL
 simp only[e0]
section
variable {e:Option (Nat×Nat)} {off:Nat}
def Tc (P:Program) (off size:Nat) (v:V) (ps:List Pt) (t:F) (cs:List V) (el:Option (Nat×Nat)) (h:H) (N:Nx):Prop:=FP P off size v ps t cs el h N
theorem Kk {size:Nat} {v:V} {cs:List V} (hk:E6 v=true) (hc:cells v=cs) (hs:cs.length=size):FP P off size v ps t z e h N=if off+size<=z.length then FL P ps t (z.take off++(cs++z.drop (off+size))) e h N else Tc P off size v ps t z e h N:=by
 split
 ·rename_i hb;exact Vs hk hc hs hb
 ·rfl
theorem ur {kd:IntKind} {a:Int}:FP P off 1 (.i kd a) ps t z e h N=if off+1<=z.length then FL P ps t (z.take off++(.i kd a::z.drop (off+1))) e h N else Tc P off 1 (.i kd a) ps t z e h N:=Kk (cs:=[.i kd a]) rfl rfl rfl
theorem vD {q:Bool}:FP P off 1 (.b q) ps t z e h N=if off+1<=z.length then FL P ps t (z.take off++(.b q::z.drop (off+1))) e h N else Tc P off 1 (.b q) ps t z e h N:=Kk (cs:=[.b q]) rfl rfl rfl
theorem fy {s:List UInt8}:FP P off 1 (sv s) ps t z e h N=if off+1<=z.length then FL P ps t (z.take off++(sv s::z.drop (off+1))) e h N else Tc P off 1 (sv s) ps t z e h N:=Kk (cs:=[sv s]) rfl rfl rfl
theorem uZ {id:B} {g o fin:Nat}:FP P off 1 (.p id g o fin) ps t z e h N=if off+1<=z.length then FL P ps t (z.take off++(.p id g o fin::z.drop (off+1))) e h N else Tc P off 1 (.p id g o fin) ps t z e h N:=Kk (cs:=[.p id g o fin]) rfl rfl rfl
theorem eh {id:B} {g o len fin:Nat} {cap:Option Nat}:FP P off 1 (.l id g o len fin cap) ps t z e h N=if off+1<=z.length then FL P ps t (z.take off++(.l id g o len fin cap::z.drop (off+1))) e h N else Tc P off 1 (.l id g o len fin cap) ps t z e h N:=Kk (cs:=[.l id g o len fin cap]) rfl rfl rfl
theorem Vi:FP P off 1 .l0 ps t z e h N=if off+1<=z.length then FL P ps t (z.take off++(.l0::z.drop (off+1))) e h N else Tc P off 1 .l0 ps t z e h N:=Kk (cs:=[.l0]) rfl rfl rfl
theorem ua {size:Nat} {cs:List V}:FP P off size (.a cs) ps t z e h N=if cs.length=size/\off+size<=z.length then FL P ps t (z.take off++(cs++z.drop (off+size))) e h N else Tc P off size (.a cs) ps t z e h N:=by
 split
 ·rename_i hb;exact Vs rfl rfl hb.1 hb.2
 ·rfl
end
theorem uP {kd:IntKind} {a:Int}:BX P el (.i kd a) h N=AL P el [.i kd a] (fun id=>.p id 0 0 1) h N:=rfl
theorem ve {q:Bool}:BX P el (.b q) h N=AL P el [.b q] (fun id=>.p id 0 0 1) h N:=rfl
theorem qA {s:List UInt8}:BX P el (sv s) h N=AL P el [sv s] (fun id=>.p id 0 0 1) h N:=rfl
theorem vu {cs:List V}:BX P el (.a cs) h N=AL P el cs (fun id=>.p id 0 0 cs.length) h N:=rfl
theorem uL {id:B} {g o fin:Nat}:BX P el (.p id g o fin) h N=AL P el [.p id g o fin] (fun id=>.p id 0 0 1) h N:=rfl
theorem um {id:B} {g o len fin:Nat} {cap:Option Nat}:BX P el (.l id g o len fin cap) h N=AL P el [.l id g o len fin cap] (fun id=>.p id 0 0 1) h N:=rfl
theorem iF:BX P el .l0 h N=AL P el [.l0] (fun id=>.p id 0 0 1) h N:=rfl
theorem uJ {kd kd':IntKind} {a b:Int} (h1:0<=a) (h2:a<=b) (h3:b<=1048576):MS P el z (.i kd a) (.i kd' b) h N=AL P el (DS z b.toNat) (fun id=>.l id 0 0 a.toNat (b.toNat*z.length) (some b.toNat)) h N:=by
 have e1:Nat.ble a.toNat b.toNat=true:=by rw[Nat.ble_eq];omega
 have e2:Nat.ble b.toNat 1048576=true:=by rw[Nat.ble_eq];omega
 have e:∀ k:V->H->Bool,(vI (.i kd a) fun _ l=>A2 l fun l=>vI (.i kd' b) fun _ c=>A2 c fun c=>Ap (Nat.ble l c) fun _=>Ap (Nat.ble c 1048576) fun _=>alloc el (DS z c) h fun id h=>k (.l id 0 0 l (Nat.mul c z.length) (some c)) h)=
  alloc el (DS z b.toNat) h fun id h=>k (.l id 0 0 a.toNat (b.toNat*z.length) (some b.toNat)) h:=fun k=>by
  simp only[Cs,Cn h1,Cn (Int.le_trans h1 h2),e1,e2,AG];rfl
 unfold MS AL
 simp only[e]
end
section
variable {P:Program} {h:H} {N:Nx} {id:B} {xs:List V} {j fin:Nat} {x y:V}
/--at one place written -/
theorem ST.own (o:C7 h id xs) (hc:cells x=[y]) (h1:FD y=true) (hj:j<fin) (hfit:j<2 ^ 37) (k:∀ h',C7 h' id (xs.set j y)->AT (fun i=>i=id) h h'->N.go P (.tu []) h'):ST P 1 (.p id 0 j fin) x h N:=by
 obtain⟨h',a1,a2,a3⟩:=IZ o hj hfit h1
 refine DJ (v:=.tu []) (h':=h') (fun k=>?_) (k h' a2 a3)
 show Ap (Nat.beq (cells x).length 1) (fun _=>store h id 0 j fin (cells x) fun h=>k (.tu []) h)=_
 rw[hc]
 show store h id 0 j fin [y] (fun h=>k (.tu []) h)=_
 rw[a1]
theorem ST.buf {el:Nat} {v:V} (b:Fq h el 1 v xs) (tp:NI h v) (hc:cells x=[y]) (h1:FD y=true) (hj:j<xs.length) (hfit:j<2 ^ 37) (k:∀ h',Fq h' el 1 v (xs.set j y)->NI h' v->AT (Ao v) h h'->N.go P (.tu []) h'):ST P 1 (.p (FV v) (lg v) (Ce v+j) (Cf v)) x h N:=by
 obtain⟨h',a1,a2,a3,a4⟩:=QE b tp hj hfit h1
 refine DJ (v:=.tu []) (h':=h') (fun k=>?_) (k h' a2 a3 a4)
 show Ap (Nat.beq (cells x).length 1) (fun _=>store h _ _ _ _ (cells x) fun h=>k (.tu []) h)=_
 rw[hc]
 show store h _ _ _ _ [y] (fun h=>k (.tu []) h)=_
 rw[a1]
end
section
variable {P:Program} {t:F} {h:H} {K:F->H->Prop} {l:List CO} {N:Nx} {el n m lo:Nat} {s:O} {v y:V} {xs:List V} {id:B}
theorem AP.buf {size Eh:Nat} {x:V} {vs:List V} (b:Fq h el size v xs) (hx:∀ k:Nat->List V->Bool,DC size x h k=k Eh vs) (hf:B.val h.floor<=B.val h.next) (hsz:1<=size) (hn:vs.length=Eh*size) (h1:B2 vs=true) (hb:xs.length+vs.length<=1048576)
 (k:∀ v' h',Fq h' el size v' (xs++vs)->AT (Ao v) h h'->(∀ i,Ao v' i->Ao v i\/B.val h.next<=B.val i)->NI h' v'->N.go P v' h'):AP P el size v x h N:=by
 obtain⟨v',h',a1,a2,a3,a4,a5⟩:=Jl b hf hsz hn h1 hb
 exact DJ (v:=v') (h':=h') (fun k=>by rw[hx,a1]) (k v' h' a2 a3 a4 a5)
theorem Oy {size:Nat} {fin Eh:Nat} {cap:Option Nat} {vs:List V} (r:Row h id 0 0 vs) (hn:vs.length=Eh*size) (hc:1<=Eh) (hs:1<=size) (hfin:vs.length<=fin) (k:Nat->List V->Bool):DC size (.l id 0 0 Eh fin cap) h k=k Eh vs:=by
 obtain⟨c,rfl⟩:∃ c,Eh=c+1:=⟨Eh-1,by omega⟩
 have hne:vs≠[]:=by
  intro e;subst e
  have:=Nat.mul_le_mul hc hs
  simp at hn;omega
 show Bi h id 0 0 fin (Nat.mul (c+1) size) (fun vs=>k (c+1) vs)=_
 rw[show Nat.mul (c+1) size=vs.length by rw[hn];rfl,C4 r rfl hne (by omega)]
/--append(v,y):its literal,and it -/
theorem AL.push {b:Bool} (a:Vb h lo el v xs) (e3:∀ u,oV s (put m u t)=v) (hc:cells y=[y]) (h1:FD y=true) (hf:B.val h.floor<=B.val h.next) (hlo:lo<=B.val h.next) (hl:xs.length+1<=1048576)
 (k:∀ v' h' u,Vb h' lo el v' (xs++[y])->AT (Ao v) h h'->(∀ i,Ao v' i->Ao v i\/B.val h.next<=B.val i)->NI h' v'->WO P l (put n v' (put m u t)) h' K):
 AL P el [y] (fun id=>.l id 0 0 1 [y].length (some 1)) h (.w m (.mk .none (.some (AR n)) b (.mk (Bk el 1 s (.t (AR m))))::l) t K):=by
 refine AL.own (by show 1<2 ^ 37;decide) hf fun h1' s1 n1 o1=>?_
 rw[TL,cp,or_append,e3,UX,AB,if_pos rfl]
 refine AP.buf (vs:=[y]) (Eh:=1) (a.buf.grow s1) (Oy o1.row rfl (Nat.le_refl _) (Nat.le_refl _) (Nat.le_refl _)) (s1.fl hf) (Nat.le_refl _) rfl (by show Bool.rec false true (FD y)=true;rw[h1]) (by show xs.length+1<=_;exact hl) fun v' h' b1 s2 hv tp=>?_
 refine k v' h' _ ⟨b1,fun i hi=>?_⟩ ⟨s2.floor.trans s1.floor,Nat.le_trans s1.next s2.next,fun id' h1' h2=>(s2.get id' (Nat.lt_of_lt_of_le h1' s1.next) h2).trans (s1.get id' h1' fun h=>h)⟩ (fun i hi=>?_) tp
 ·rcases hv i hi with h2|h2
  ·exact a.own i h2
  ·have:=s1.next;omega
 ·rcases hv i hi with h2|h2
  ·exact .inl h2
  ·exact .inr (Nat.le_trans s1.next h2)
/--string([]byte{..}) -/
theorem AL.str {b:Bool} {cs:List V} {bs:List UInt8} {len fin:Nat} {cap:Option Nat} (hc:cs=bs.map bv) (hne:bs≠[]) (e1:len=bs.length) (e2:fin=bs.length) (hl:bs.length<=1048576) (hf:B.val h.floor<=B.val h.next)
 (k:∀ h' u,AT AQ h h'->WO P l (put n (sv bs) (put m u t)) h' K):AL P el cs (fun id=>.l id 0 0 len fin cap) h (.w m (.mk .none (.some (AR n)) b (.mk (EV (.t (AR m))))::l) t K):=by
 subst hc;subst e1;subst e2
 refine AL.own (by rw[List.length_map];omega) hf fun h1' s1 n1 o1=>?_
 have hL:=o1.Ew cap
 rw[List.length_map]at hL
 rw[TL,cp,RR,UX,AB,if_pos rfl,hL.bs hne]
 exact k _ _ s1
/--[]byte(text) -/
theorem SB.mk {c:List UInt8} (hf:B.val h.floor<=B.val h.next) (hl:c.length<=1048576)
 (k:∀ h',AT AQ h h'->B.val h'.next=B.val h.next+1->Gy h' (.l h.next 0 0 c.length c.length (HB c.length)) (c.map bv)->N.go P (.l h.next 0 0 c.length c.length (HB c.length)) h'):SB P el (sv c) h N:=by
 obtain⟨h',a1,a2,a3,a4,a5,a6⟩:=OQ el hf hl
 have:=fun k=>a1 (.c (sv c)) F.zero (fun _ _ _ _=>false) k rfl
 refine DJ (v:=.l h.next 0 0 c.length c.length (HB c.length)) (h':=h') (fun k=>?_) (k h' a2 a3 a5)
 have e:=this k
 simp only[Hi,AN]at e
 exact e
end
section
variable {P:Program} {t:F} {h:H} {N:Nx} {x a:O} {id:B} {n K size:Nat} {kd:IntKind} {z:Int}
theorem Ur:OR P (Bw size x (some a) none) t h N=H2 P (E1 size) (oV x t) (oV a t) h N:=BY fun cf k=>VF ..
theorem Tx:OR P (Bw size x none (some a)) t h N=H2 P (FO size) (oV x t) (oV a t) h N:=BY fun cf k=>Um ..
def Io (size:Nat) (v w z:V) (k:V->Bool):Bool:=vL v (fun _=>vI w fun _ n=>A2 n fun a=>vI z fun _ m=>A2 m fun b=>Ap (Nat.beq a 0) fun _=>Ap (Nat.beq b 0) fun _=>k .l0) fun id g off len fin cap=>vI w fun _ n=>A2 n fun a=>vI z fun _ m=>A2 m fun b=>Ap (Nat.ble a b) fun _=>
 Option.rec (fun id g off len fin a b k=>C9 size id g off len fin a b fun v=>k v) (fun c id g off len fin a b k=>Ay (BM c) (fun _=>Ap (Nat.beq b 0) fun _=>k (.l id g off 0 off (some c))) (fun _=>BT size id g off len fin c a b fun v=>k v)) cap id g off len fin a b k
theorem VG {cf:Bg} {k:V->H->Bool} (size:Nat) (b:O):Bw size x (some a) (some b) cf t h k=Io size (oV x t) (oV a t) (oV b t) fun v=>k v h:=by
 unfold Io
 simp only[Bw,AN,BR]
 congr 1
 funext id g off len fin cap
 congr 1;funext _ n;congr 1;funext a;congr 1;funext _ m;congr 1;funext b;congr 1;funext _
 cases cap with
 |none=>rfl
 |some c=>
  show Ay (BM c) _ _=Ay (BM c) _ _
  cases BM c<;>rfl
theorem Ut (b:O):OR P (Bw size x (some a) (some b)) t h N=H3 P (Io size) (oV x t) (oV a t) (oV b t) h N:=BY fun cf k=>VG ..
theorem NB {g off fin:Nat} (hK:n<18446744073709551616) (h0:0<=z) (hn:z<n):H2 P (Kz n size) (.p id g off fin) (.i kd z) h N=N.go P (.l id g (off+z.toNat*size) (n-z.toNat) fin (some (n-z.toNat))) h:=Ah fun k=>by
 show A2 z (fun p=>Ap (Nat.ble p n) fun _=>BT size id g off n fin n p n k)=_
 rw[Cn h0,kz (by omega),Dn hK (Nat.le_refl _) (by omega)]
theorem Ug (hKM:K<18446744073709551616) (h0:0<=z) (hn:z<=K):H2 P (E1 1) (.l id 0 0 K K (some K)) (.i kd z) h N=N.go P (Sd id K z.toNat) h:=Ah fun k=>by
 obtain⟨n,rfl⟩:=Int.eq_ofNat_of_zero_le h0
 exact S7 hKM (by omega) k
theorem Uq (hKM:K<18446744073709551616) (h0:0<=z) (hn:z<=K) (hK:0<K):H2 P (FO 1) (.l id 0 0 K K (some K)) (.i kd z) h N=N.go P (.l id 0 0 z.toNat K (some K)) h:=Ah fun k=>by
 obtain⟨n,rfl⟩:=Int.eq_ofNat_of_zero_le h0
 exact Sh hKM (by omega) hK k
end
def CL (P:Program) (f:FuncId) (vs:List V) (h:H) (N:Nx):Prop:=∃ Q,BN P f vs h Q/\∀ v h',Q v h'->N.go P v h'
theorem CL.mk {P:Program} {f:FuncId} {vs:List V} {h:H} {N:Nx} {Q:V->H->Prop} (a:BN P f vs h Q) (k:∀ v h',Q v h'->N.go P v h'):CL P f vs h N:=⟨Q,a,k⟩
/--.. that leaves memory alone -/
theorem CL.pure {P:Program} {f:FuncId} {vs:List V} {h:H} {N:Nx} {e:V} (a:BN P f vs h fun y h'=>y=e/\h'=h) (k:N.go P e h):CL P f vs h N:=⟨_,a,fun v h' hq=>by rw[hq.1,hq.2];exact k⟩
/--.. that makes blocks of its own alone -/
theorem CL.stay {P:Program} {f:FuncId} {vs:List V} {h:H} {N:Nx} {e:V} (a:BN P f vs h fun y h'=>y=e/\AT AQ h h') (k:∀ h',AT AQ h h'->N.go P e h'):CL P f vs h N:=⟨_,a,fun v h' hq=>by rw[hq.1];exact k h' hq.2⟩
theorem UK {P:Program} {t:F} {h:H} {N:Nx} {f:FuncId} {args:List O}:OR P (AW f args) t h N=CL P f (args.map fun o=>oV o t) h N:=by
 apply propext;constructor
 ·rintro⟨v,h',⟨cf,c1,c2⟩,k⟩
  have c3:∀ k,cf f (args.map fun o=>oV o t) h k=k v h':=fun k=>by rw[<-c2 k];show _=Cm args t (fun vs=>cf f vs h k);rw[Dl]
  obtain⟨v',h'',e,r1,r2,r3⟩:=c1 f _ h (fun _ _=>true) (c3 _)
  obtain⟨rfl,rfl⟩:=Rq fun k=>(c3 k).symm.trans (e k)
  refine⟨fun v h=>v=v'/\h=h'',⟨v',h'',⟨r1,r2,r3⟩,rfl,rfl⟩,?_⟩
  rintro _ _ ⟨rfl,rfl⟩
  exact k
 ·rintro⟨Q,a,k⟩
  obtain⟨v,h',c1,c2⟩:=Ha (S:=fun _ _ _ v h'=>Q v h') a
  exact⟨v,h',⟨_,Jx P _,fun k=>by show Cm args t _=_;rw[Dl,c1]⟩,k v h' c2⟩
theorem bR {P:Program} {t:F} {h:H} {N:Nx} {f:FuncId} {cap:List O}:OR P (O1 f cap) t h N=N.go P (.f f (cap.map fun o=>oV o t)) h:=(BY (g:=fun k=>k (.f f (cap.map fun o=>oV o t))) fun cf k=>by show Cm cap t _=_;rw[Dl]).trans (Ah fun _=>rfl)
/--a call of a function value -/
def wh (P:Program) (x:V) (vs:List V) (h:H) (N:Nx):Prop:=∃ f cs,x=.f f cs/\CL P f (vs++cs) h N
theorem aq {P:Program} {f:FuncId} {cs vs:List V} {h:H} {N:Nx}:wh P (.f f cs) vs h N=CL P f (vs++cs) h N:=propext ⟨fun⟨_,_,e,a⟩=>by cases e;exact a,fun a=>⟨_,_,rfl,a⟩⟩
theorem S6 {P:Program} {t:F} {h:H} {N:Nx} {x:O} {args:List O}:OR P (BZ x args) t h N=wh P (oV x t) (args.map fun o=>oV o t) h N:=by
 have key:∀ f cs,oV x t=.f f cs->OR P (BZ x args) t h N=CL P f ((args.map fun o=>oV o t)++cs) h N:=fun f cs hx=>by
  have e:∀ cf k,BZ x args cf t h k=cf f ((args.map fun o=>oV o t)++cs) h k:=fun cf k=>by show oE x t _=_;rw[AN];show Cm args t _=_;rw[Dl,hx,qy,LY]
  apply propext;constructor
  ·rintro⟨v,h',⟨cf,c1,c2⟩,k⟩
   have c3:∀ k,cf f ((args.map fun o=>oV o t)++cs) h k=k v h':=fun k=>(e cf k).symm.trans (c2 k)
   obtain⟨v',h'',e,r1,r2,r3⟩:=c1 f _ h (fun _ _=>true) (c3 _)
   obtain⟨rfl,rfl⟩:=Rq fun k=>(c3 k).symm.trans (e k)
   refine⟨fun v h=>v=v'/\h=h'',⟨v',h'',⟨r1,r2,r3⟩,rfl,rfl⟩,?_⟩
   rintro _ _ ⟨rfl,rfl⟩
   exact k
  ·rintro⟨Q,a,k⟩
   obtain⟨v,h',c1,c2⟩:=Ha (S:=fun _ _ _ v h'=>Q v h') a
   exact⟨v,h',⟨_,Jx P _,fun k=>(e _ k).trans (c1 k)⟩,k v h' c2⟩
 apply propext;constructor
 ·intro a
  have a':=a
  obtain⟨v,h',⟨cf,c1,c2⟩,k⟩:=a'
  have:=c2 fun _ _=>true
  have h2:(oE x t fun y=>Cm args t fun vs=>vF y fun f cs=>cf f (app vs cs) h fun _ _=>true)=true:=this
  rw[AN]at h2
  have h2:(Cm args t fun vs=>vF (oV x t) fun f cs=>cf f (app vs cs) h fun _ _=>true)=true:=h2
  rw[Dl]at h2
  obtain⟨f,cs,hx,_⟩:=Vg h2
  exact⟨f,cs,hx,by rw[<-key f cs hx];exact a⟩
 ·rintro⟨f,cs,hx,a⟩
  rw[key f cs hx];exact a
def CD (v:V) (A B:Prop):Prop:=∃ q,v=.b q/\(q=true->A)/\(q=false->B)
theorem Ok.cd {P:Program} {nt:Nat} {o:O} {a b:CC} {t:F} {h:H} {K:X->F->H->Prop} (c:CD (oV o t) (Ok P nt a t h K) (Ok P nt b t h K)):Ok P nt (.cond o a b) t h K:=by
 obtain⟨q,hq,ha,hb⟩:=c
 exact Ok.cond hq ha hb
theorem uH {A B:Prop}:CD (.b true) A B=A:=propext ⟨fun⟨q,hq,ha,_⟩=>by cases hq;exact ha rfl,fun a=>⟨true,rfl,fun _=>a,fun h=>by cases h⟩⟩
theorem vY {A B:Prop}:CD (.b false) A B=B:=propext ⟨fun⟨q,hq,_,hb⟩=>by cases hq;exact hb rfl,fun b=>⟨false,rfl,fun h=>(by cases h),fun _=>b⟩⟩
theorem AE {q:Bool} {A B:Prop} (a:q=true->A) (b:q=false->B):CD (.b q) A B:=⟨q,rfl,a,b⟩
/--behind the first part:b,then K -/
def Sq (P:Program) (nt:Nat) (b:CC) (K:X->F->H->Prop):X->F->H->Prop
 |.normal,t,h=>Ok P nt b t h K
 |x,t,h=>K x t h
/--the next round -/
def X5 (Inv:Nat->F->H->Prop) (m:Nat) (t:F) (h:H):Prop:=∃ m',m'<m/\Inv m' t h
def uE (Inv:Nat->F->H->Prop) (m:Nat) (K:X->F->H->Prop):X->F->H->Prop
 |.normal,t,h=>X5 Inv m t h
 |x,t,h=>K x t h
section
variable {P:Program} {nt:Nat} {a b:CC} {t:F} {h:H} {K:X->F->H->Prop} {Inv:Nat->F->H->Prop} {m j id:Nat}
theorem Ok.sq (k:Ok P nt a t h (Sq P nt b K)):Ok P nt (.seq a b) t h K:=Ok.seq (k.mono fun x t h=>by cases x<;>exact fun h=>h)
theorem vV:Sq P nt b K .normal t h=Ok P nt b t h K:=rfl
theorem vk:Sq P nt b K (.exit j) t h=K (.exit j) t h:=rfl
theorem vl:Sq P nt b K .ret t h=K .ret t h:=rfl
theorem ug:uE Inv m K .normal t h=X5 Inv m t h:=rfl
theorem vC:uE Inv m K (.exit j) t h=K (.exit j) t h:=rfl
theorem vd:uE Inv m K .ret t h=K .ret t h:=rfl
def wa (I Inv:Nat->F->H->Prop):Prop:=I=Inv
/--a loop:the invariant,with a measure that falls -/
theorem Ok.lp (Inv:Nat->F->H->Prop) (m:Nat) (i:Inv m t h) (round:∀ I:Nat->F->H->Prop,wa I Inv->∀ m t h,Inv m t h->Ok P nt a t h (uE I m K)):Ok P nt (.loop a) t h K:=
 Ok.loop Inv (fun m t h hi=>(round Inv rfl m t h hi).mono fun x t h=>by cases x<;>exact fun h=>h) m t h i
theorem A4 {I:Nat->F->H->Prop} (e:wa I Inv) (m':Nat) (hm:m'<m) (k:Inv m' t h):X5 I m t h:=by have e':I=Inv:=e;subst e';exact⟨m',hm,k⟩
end
def Pv (rs:List Rs) (Q:V->H->Prop):X->F->H->Prop:=fun x t' h'=>match x with
 |.exit _=>False
 |_=>∃ us,(∀ k:List V->Bool,E5 rs t' h' k=k us)/\Q (one us) h'
theorem BJ {P:Program} {f:FuncId} {nt:Nat} {cc:CC} {rs:List Rs} {vs:List V} {h:H} {Q:V->H->Prop} (hc:AV P f=⟨nt,cc,rs⟩) (hbad:cc≠.bad) (hl1:vs.length<=nt) (hl2:vs.length<=512)
 (ok:∀ Q',Q'=Q->Ok P nt cc (Av vs 0 F.zero) h (Pv rs Q')):BN P f vs h Q:=dB hc hbad hl1 hl2 (ok Q rfl)
section
variable {Q:V->H->Prop} {t:F} {h:H} {n m p q:Nat}
theorem J9 {rs:List Rs} {us:List V} (e:∀ k:List V->Bool,E5 rs t h k=k us):Pv rs Q .ret t h=Q (one us) h:=
 propext ⟨fun⟨vs,e',k⟩=>by have:=ba fun k=>(e k).symm.trans (e' k);subst this;exact k,fun k=>⟨us,e,k⟩⟩
theorem il {rs:List Rs}:Pv rs Q .normal t h=Pv rs Q .ret t h:=rfl
theorem np:Pv [] Q .ret t h=Q (.tu []) h:=J9 (us:=[]) fun k=>rfl
theorem lN:Pv [Rs.tmp (AR n)] Q .ret t h=Q (get n t) h:=J9 (us:=[_]) fun k=>rf ..
theorem rE:Pv [Rs.tmp (AR n),Rs.tmp (AR m)] Q .ret t h=Q (.tu [get n t,get m t]) h:=J9 (us:=[_,_]) fun k=>oS ..
theorem qk:Pv [Rs.tmp (AR n),Rs.tmp (AR m),Rs.tmp (AR p)] Q .ret t h=Q (.tu [get n t,get m t,get p t]) h:=J9 (us:=[_,_,_]) fun k=>mg ..
theorem pI:Pv [Rs.tmp (AR n),Rs.tmp (AR m),Rs.tmp (AR p),Rs.tmp (AR q)] Q .ret t h=Q (.tu [get n t,get m t,get p t,get q t]) h:=J9 (us:=[_,_,_,_]) fun k=>by
 show Bd (Bm (AR n) t) (fun v=>Bd (Bm (AR m) t) fun u=>Bd (Bm (AR p) t) fun w=>Bd (Bm (AR q) t) fun z=>k [v,u,w,z])=_
 rw[BD,BD,BD,BD];rfl
end
/--results,the first out of a box -/
def RA (Q:V->H->Prop) (size:Nat) (v:V) (us:List V) (h:H):Prop:=∃ vs,(∀ k:List V->Bool,(vP v fun id g off fin=>Bi h id g off fin size k)=k vs)/\Q (one (.a vs::us)) h
section
variable {Q:V->H->Prop} {t:F} {h:H} {n m p q size:Nat}
theorem SI {rs:List Rs} {us:List V} (e:∀ (k:List V->Bool),(sn (Rs.KU (AR n) size) t h fun w=>E5 rs t h fun vs=>k (w::vs))=vP (get n t) fun id g off fin=>Bi h id g off fin size fun vs=>k (.a vs::us)):Pv (Rs.KU (AR n) size::rs) Q .ret t h=RA Q size (get n t) us h:=by
 refine propext ⟨fun⟨ws,e',k⟩=>?_,fun⟨vs,e',k⟩=>⟨.a vs::us,fun k=>?_,k⟩⟩
 ·have e2:=fun k=>(e k).symm.trans (e' k)
  have e3:=e2 (fun zs=>true)
  obtain⟨id,g,off,fin,hp⟩:∃ id g off fin,get n t=.p id g off fin:=by
   revert e3
   cases get n t<;>intro e3<;>first|exact⟨_,_,_,_,rfl⟩|exact Bool.noConfusion e3
  rw[hp]at e2⊢
  have e4:∀ k:List V->Bool,Bi h id g off fin size (fun vs=>k (.a vs::us))=k ws:=e2
  obtain⟨vs,hv,_⟩:=D5 (h:=h) (id:=id) (g:=g) (off:=off) (fin:=fin) (n:=size) (k:=fun _=>true) (e4 fun _=>true)
  have:ws=.a vs::us:=ba fun k=>by rw[<-e4 k,hv]
  subst this
  exact⟨vs,hv,k⟩
 ·have:=e' fun vs=>k (.a vs::us)
  rw[<-this];exact e k
theorem ao:Pv [Rs.KU (AR n) size] Q .ret t h=RA Q size (get n t) [] h:=SI fun k=>rfl
theorem aw:Pv [Rs.KU (AR n) size,Rs.tmp (AR m)] Q .ret t h=RA Q size (get n t) [get m t] h:=SI fun k=>by
 show(vP (get n t) fun id g off fin=>Bi h id g off fin size fun vs=>Bd (get m t) fun v=>k [.a vs,v])=_
 simp only[BD]
theorem XV:Pv [Rs.KU (AR n) size,Rs.tmp (AR m),Rs.tmp (AR p)] Q .ret t h=RA Q size (get n t) [get m t,get p t] h:=SI fun k=>by
 show(vP (get n t) fun id g off fin=>Bi h id g off fin size fun vs=>Bd (get m t) fun v=>Bd (get p t) fun u=>k [.a vs,v,u])=_
 simp only[BD]
theorem C7.ra {id:B} {xs us:List V} {fin:Nat} (o:C7 h id xs) (hs:xs.length=size) (h1:1<=size) (hf:size<=fin):RA Q size (.p id 0 0 fin) us h=Q (one (.a xs::us)) h:=by
 have e:∀ k:List V->Bool,Bi h id 0 0 fin size k=k xs:=fun k=>C4 o.row hs (by intro e;subst e;simp at hs;omega) (by omega) k
 refine propext ⟨fun⟨vs,e',k⟩=>?_,fun k=>⟨xs,e,k⟩⟩
 have:vs=xs:=ba fun k=>(e k).symm.trans (e' k)
 subst this;exact k
end
theorem sj:one []=.tu []:=rfl
theorem wrap_u8 {n:Int} (h1:0<=n) (h2:n<=255):IntKind.u8.wrap n=n:=by
 simp only[IntKind.wrap,IntKind.bits,IntKind.signed];simp;omega
theorem wrap_u16 {n:Int} (h1:0<=n) (h2:n<=65535):IntKind.u16.wrap n=n:=by
 simp only[IntKind.wrap,IntKind.bits,IntKind.signed];simp;omega
theorem wrap_u32 {n:Int} (h1:0<=n) (h2:n<=4294967295):IntKind.u32.wrap n=n:=by
 simp only[IntKind.wrap,IntKind.bits,IntKind.signed];simp;omega
theorem wrap_u64 {n:Int} (h1:0<=n) (h2:n<=18446744073709551615):IntKind.u64.wrap n=n:=by
 simp only[IntKind.wrap,IntKind.bits,IntKind.signed];simp;omega
theorem wrap_i32 {n:Int} (h1: -2147483648<=n) (h2:n<=2147483647):IntKind.i32.wrap n=n:=by
 simp only[IntKind.wrap,IntKind.bits,IntKind.signed];simp;omega
theorem Pq (c:UInt8):IntKind.i64.wrap (c.toNat:Int)=(c.toNat:Int):=wrap_i64 (by omega) (by have:=c.toNat_lt;omega)
theorem QS (c:UInt8):IntKind.u8.wrap (c.toNat:Int)=(c.toNat:Int):=wrap_u8 (by omega) (by have:=c.toNat_lt;omega)
theorem PH (c:UInt8):IntKind.u16.wrap (c.toNat:Int)=(c.toNat:Int):=wrap_u16 (by omega) (by have:=c.toNat_lt;omega)
theorem QK (c:UInt8):IntKind.u32.wrap (c.toNat:Int)=(c.toNat:Int):=wrap_u32 (by omega) (by have:=c.toNat_lt;omega)
theorem QH (c:UInt8):IntKind.u64.wrap (c.toNat:Int)=(c.toNat:Int):=wrap_u64 (by omega) (by have:=c.toNat_lt;omega)
theorem Qw:IntKind.bits .i64=64:=rfl
theorem Q5:IntKind.bits .u64=64:=rfl
theorem QW:IntKind.bits .u32=32:=rfl
theorem Rm:IntKind.bits .u16=16:=rfl
theorem Ua:IntKind.bits .u8=8:=rfl
theorem S4:IntKind.bits .i32=32:=rfl
end Go.Ev
set_option maxRecDepth 10000
namespace Go.Ev
open Go
section
variable {P:Program} {h:H} {N:Nx} {a b:Int}
theorem Nk (ha:0<=a) (ha2:a<=9223372036854775807) (hb:0<=b) (hb2:b<=9223372036854775807):H2 P (Cz MR) (.i .i64 a) (.i .i64 b) h N=N.go P (.i .i64 ((a.toNat&&&b.toNat:Nat):Int)) h:=Jm (m:=9223372036854775807) rfl ha ha2 hb hb2
theorem PS (ha:0<=a) (ha2:a<=255) (hb:0<=b) (hb2:b<=255):H2 P (Cz MR) (.i .u8 a) (.i .u8 b) h N=N.go P (.i .u8 ((a.toNat&&&b.toNat:Nat):Int)) h:=Jm (m:=255) rfl ha ha2 hb hb2
theorem Ny (ha:0<=a) (ha2:a<=65535) (hb:0<=b) (hb2:b<=65535):H2 P (Cz MR) (.i .u16 a) (.i .u16 b) h N=N.go P (.i .u16 ((a.toNat&&&b.toNat:Nat):Int)) h:=Jm (m:=65535) rfl ha ha2 hb hb2
theorem NP (ha:0<=a) (ha2:a<=4294967295) (hb:0<=b) (hb2:b<=4294967295):H2 P (Cz MR) (.i .u32 a) (.i .u32 b) h N=N.go P (.i .u32 ((a.toNat&&&b.toNat:Nat):Int)) h:=Jm (m:=4294967295) rfl ha ha2 hb hb2
theorem NL (ha:0<=a) (ha2:a<=18446744073709551615) (hb:0<=b) (hb2:b<=18446744073709551615):H2 P (Cz MR) (.i .u64 a) (.i .u64 b) h N=N.go P (.i .u64 ((a.toNat&&&b.toNat:Nat):Int)) h:=Jm (m:=18446744073709551615) rfl ha ha2 hb hb2
theorem Pr (ha:0<=a) (ha2:a<=9223372036854775807) (hb:0<=b) (hb2:b<=9223372036854775807):H2 P (Cz di) (.i .i64 a) (.i .i64 b) h N=N.go P (.i .i64 ((a.toNat|||b.toNat:Nat):Int)) h:=Mm (m:=9223372036854775807) rfl ha ha2 hb hb2
theorem Rh (ha:0<=a) (ha2:a<=255) (hb:0<=b) (hb2:b<=255):H2 P (Cz di) (.i .u8 a) (.i .u8 b) h N=N.go P (.i .u8 ((a.toNat|||b.toNat:Nat):Int)) h:=Mm (m:=255) rfl ha ha2 hb hb2
theorem P9 (ha:0<=a) (ha2:a<=65535) (hb:0<=b) (hb2:b<=65535):H2 P (Cz di) (.i .u16 a) (.i .u16 b) h N=N.go P (.i .u16 ((a.toNat|||b.toNat:Nat):Int)) h:=Mm (m:=65535) rfl ha ha2 hb hb2
theorem Pk (ha:0<=a) (ha2:a<=4294967295) (hb:0<=b) (hb2:b<=4294967295):H2 P (Cz di) (.i .u32 a) (.i .u32 b) h N=N.go P (.i .u32 ((a.toNat|||b.toNat:Nat):Int)) h:=Mm (m:=4294967295) rfl ha ha2 hb hb2
theorem QB (ha:0<=a) (ha2:a<=18446744073709551615) (hb:0<=b) (hb2:b<=18446744073709551615):H2 P (Cz di) (.i .u64 a) (.i .u64 b) h N=N.go P (.i .u64 ((a.toNat|||b.toNat:Nat):Int)) h:=Mm (m:=18446744073709551615) rfl ha ha2 hb hb2
theorem N2 (ha:0<=a) (ha2:a<=9223372036854775807) (hb:0<=b) (hb2:b<=9223372036854775807):H2 P (Cz KR) (.i .i64 a) (.i .i64 b) h N=N.go P (.i .i64 ((a.toNat ^^^ b.toNat:Nat):Int)) h:=JZ (m:=9223372036854775807) rfl ha ha2 hb hb2
theorem PJ (ha:0<=a) (ha2:a<=255) (hb:0<=b) (hb2:b<=255):H2 P (Cz KR) (.i .u8 a) (.i .u8 b) h N=N.go P (.i .u8 ((a.toNat ^^^ b.toNat:Nat):Int)) h:=JZ (m:=255) rfl ha ha2 hb hb2
theorem No (ha:0<=a) (ha2:a<=65535) (hb:0<=b) (hb2:b<=65535):H2 P (Cz KR) (.i .u16 a) (.i .u16 b) h N=N.go P (.i .u16 ((a.toNat ^^^ b.toNat:Nat):Int)) h:=JZ (m:=65535) rfl ha ha2 hb hb2
theorem Nn (ha:0<=a) (ha2:a<=4294967295) (hb:0<=b) (hb2:b<=4294967295):H2 P (Cz KR) (.i .u32 a) (.i .u32 b) h N=N.go P (.i .u32 ((a.toNat ^^^ b.toNat:Nat):Int)) h:=JZ (m:=4294967295) rfl ha ha2 hb hb2
theorem Ng (ha:0<=a) (ha2:a<=18446744073709551615) (hb:0<=b) (hb2:b<=18446744073709551615):H2 P (Cz KR) (.i .u64 a) (.i .u64 b) h N=N.go P (.i .u64 ((a.toNat ^^^ b.toNat:Nat):Int)) h:=JZ (m:=18446744073709551615) rfl ha ha2 hb hb2
theorem NS (ha:0<=a) (ha2:a<=9223372036854775807) (hb:0<=b) (hb2:b<=9223372036854775807):H2 P (Cz Nv) (.i .i64 a) (.i .i64 b) h N=N.go P (.i .i64 ((a.toNat ^^^ (a.toNat&&&b.toNat):Nat):Int)) h:=Ji (m:=9223372036854775807) rfl ha ha2 hb hb2
theorem Pu (ha:0<=a) (ha2:a<=255) (hb:0<=b) (hb2:b<=255):H2 P (Cz Nv) (.i .u8 a) (.i .u8 b) h N=N.go P (.i .u8 ((a.toNat ^^^ (a.toNat&&&b.toNat):Nat):Int)) h:=Ji (m:=255) rfl ha ha2 hb hb2
theorem NV (ha:0<=a) (ha2:a<=65535) (hb:0<=b) (hb2:b<=65535):H2 P (Cz Nv) (.i .u16 a) (.i .u16 b) h N=N.go P (.i .u16 ((a.toNat ^^^ (a.toNat&&&b.toNat):Nat):Int)) h:=Ji (m:=65535) rfl ha ha2 hb hb2
theorem Nr (ha:0<=a) (ha2:a<=4294967295) (hb:0<=b) (hb2:b<=4294967295):H2 P (Cz Nv) (.i .u32 a) (.i .u32 b) h N=N.go P (.i .u32 ((a.toNat ^^^ (a.toNat&&&b.toNat):Nat):Int)) h:=Ji (m:=4294967295) rfl ha ha2 hb hb2
theorem Ns (ha:0<=a) (ha2:a<=18446744073709551615) (hb:0<=b) (hb2:b<=18446744073709551615):H2 P (Cz Nv) (.i .u64 a) (.i .u64 b) h N=N.go P (.i .u64 ((a.toNat ^^^ (a.toNat&&&b.toNat):Nat):Int)) h:=Ji (m:=18446744073709551615) rfl ha ha2 hb hb2
end
theorem Tf (x y:V):cond true x y=x:=rfl
theorem TK (x y:V):cond false x y=y:=rfl
theorem ZW (f:O->V) (o:O) (os:List O):List.map f (o::os)=f o::List.map f os:=rfl
theorem eA (f:O->V):List.map f []=[]:=rfl
theorem ZT (a:V) (l:List V):(a::l).length=l.length+1:=rfl
theorem bV:([]:List V).length=0:=rfl
theorem Tm (l:List V):l.take 0=[]:=rfl
theorem TW (n:Nat) (a:V) (l:List V):(a::l).take (n+1)=a::l.take n:=rfl
theorem T4 (l:List V):l.drop 0=l:=rfl
theorem UH (n:Nat) (a:V) (l:List V):(a::l).drop (n+1)=l.drop n:=rfl
theorem eE (l:List V):[]++l=l:=rfl
theorem WL (a:V) (l m:List V):(a::l)++m=a::(l++m):=rfl
theorem Tn (a:V) (l:List V) (d:V):(a::l).getD 0 d=a:=rfl
theorem Un (n:Nat) (a:V) (l:List V) (d:V):(a::l).getD (n+1) d=l.getD n d:=by simp[List.getD]
theorem du (a b:V) (l:List V):(a::l).set 0 b=b::l:=rfl
theorem WR (n:Nat) (a b:V) (l:List V):(a::l).set (n+1) b=a::l.set n b:=rfl
theorem dF (b:Bool):(b==b)=true:=by cases b<;>rfl
theorem Xg (b:Bool):(b !=b)=false:=by cases b<;>rfl
def AI:=And.intro @qT (And.intro @fo (And.intro @qu (And.intro @fW (And.intro @pQ (And.intro @OC (And.intro @XE (And.intro @cp (And.intro @uW (And.intro @uf (And.intro @pD (And.intro @uc (And.intro @uT (And.intro @wM (And.intro @uo (And.intro @ke (And.intro @nA (And.intro @TL (And.intro @Vo (And.intro @T9 (And.intro @ki (And.intro @QV (And.intro @nq (And.intro @k9 (And.intro @mF (And.intro @kJ (And.intro @oy (And.intro @sD (And.intro @Dv (And.intro @TN (And.intro @Te (And.intro @aW (And.intro @Ru (And.intro @Y9 (And.intro @TS (And.intro @Z6 (And.intro @X8 (And.intro @Tu (And.intro @YS (And.intro @Uc (And.intro @YI (And.intro @YW (And.intro @dL (And.intro @X4 (And.intro @Sm (And.intro @Pj (And.intro @Lk (And.intro @Mr (And.intro @cK (And.intro @QG (And.intro @Pa (And.intro @P6 (And.intro @PW (And.intro @VD (And.intro @VW (And.intro @Xf (And.intro @cR (And.intro @WS (And.intro @RX (And.intro @or_nil (And.intro @M1 (And.intro @TY (And.intro @SK (And.intro @RR (And.intro @Ra (And.intro @UK (And.intro @bR (And.intro @S6 (And.intro @aq (And.intro @RF (And.intro @aZ (And.intro @KS (And.intro @SL (And.intro @Lh (And.intro @or_append (And.intro @NX (And.intro @Tg (And.intro @RQ (And.intro @XM (And.intro @Ur (And.intro @Tx (And.intro @Ut (And.intro @ZP (And.intro @dI (And.intro @c8 (And.intro @Zy (And.intro @aC (And.intro @ZH (And.intro @aO (And.intro @ZO (And.intro @YA (And.intro @Wk (And.intro @Zc (And.intro @bT (And.intro @de (And.intro @dM (And.intro @Ym (And.intro @Wy (And.intro @YJ (And.intro @Xp (And.intro @Wz (And.intro @TQ (And.intro @Tv (And.intro @UF (And.intro @Uu (And.intro @TT (And.intro @Z8 (And.intro @Zq (And.intro @UQ (And.intro @Td (And.intro @Uw (And.intro @SJ (And.intro @QC (And.intro @LC (And.intro @MY (And.intro @XN (And.intro @ny (And.intro @PE (And.intro @OJ (And.intro @Sk (And.intro @VL (And.intro @Kr (And.intro @P1 (And.intro @ZL (And.intro @Wa (And.intro @Uy (And.intro @dU (And.intro @Wc (And.intro @V5 (And.intro @az (And.intro @Y6 (And.intro @Y0 (And.intro @cH (And.intro @Xq (And.intro @Qg (And.intro @S1 (And.intro @S9 (And.intro @QP (And.intro @QZ (And.intro @uI (And.intro @wK (And.intro @gB (And.intro @nM (And.intro @eY (And.intro @vj (And.intro @wI (And.intro @uY (And.intro @ur (And.intro @vD (And.intro @fy (And.intro @uZ (And.intro @eh (And.intro @Vi (And.intro @ua (And.intro @uP (And.intro @ve (And.intro @qA (And.intro @vu (And.intro @uL (And.intro @um (And.intro @iF (And.intro @uJ (And.intro @Ug (And.intro @Uq (And.intro @NB (And.intro @ZA (And.intro @gM (And.intro @ot (And.intro @fc (And.intro @Nk (And.intro @PS (And.intro @Ny (And.intro @NP (And.intro @NL (And.intro @Pr (And.intro @Rh (And.intro @P9 (And.intro @Pk (And.intro @QB (And.intro @N2 (And.intro @PJ (And.intro @No (And.intro @Nn (And.intro @Ng (And.intro @NS (And.intro @Pu (And.intro @NV (And.intro @Nr (And.intro @Ns (And.intro @uH (And.intro @vY (And.intro @il (And.intro @np (And.intro @lN (And.intro @rE (And.intro @qk (And.intro @pI (And.intro @ao (And.intro @aw (And.intro @XV (And.intro @sj (And.intro @jB (And.intro @iR (And.intro @eV (And.intro @vV (And.intro @vk (And.intro @vl (And.intro @ug (And.intro @vC (And.intro @vd (And.intro @nZ (And.intro @fI (And.intro @iT (And.intro @UX (And.intro @wC (And.intro @Pq (And.intro @QS (And.intro @PH (And.intro @QK (And.intro @QH (And.intro @wrap_i64 (And.intro @wrap_u8 (And.intro @wrap_u16 (And.intro @wrap_u32 (And.intro @wrap_u64 (And.intro @wrap_i32 (And.intro @Qw (And.intro @Q5 (And.intro @QW (And.intro @Rm (And.intro @Ua (And.intro @S4 (And.intro @WG (And.intro @RY (And.intro @ZW (And.intro @eA (And.intro @Tf (And.intro @TK (And.intro @Bool.not_true (And.intro @Bool.not_false (And.intro @Bool.not_not (And.intro @decide_true (And.intro @decide_false (And.intro @Int.ofNat_eq_natCast (And.intro @Int.cast_ofNat_Int (And.intro @and_self (And.intro @Int.toNat_natCast (And.intro @dF (And.intro @Xg (And.intro @Bool.false_xor (And.intro @Bool.true_xor (And.intro @ZT (And.intro @bV (And.intro @Tm (And.intro @TW (And.intro @T4 (And.intro @UH (And.intro @eE (And.intro @WL (And.intro @Tn (And.intro @Un (And.intro @du (And.intro @WR (And.intro @Nat.min_eq_left (And.intro @Nat.zero_add (And.intro @Nat.add_zero (And.intro @Nat.mul_one (@Nat.zero_mul)))))))))))))))))))))))))))))))))))))))))))))))))))))))))))))))))))))))))))))))))))))))))))))))))))))))))))))))))))))))))))))))))))))))))))))))))))))))))))))))))))))))))))))))))))))))))))))))))))))))))))))))))))))))))))))))))))))))))))))))))))))))))))))))))))))))))))
def Ab:=And.intro @Bool.not_eq_true' (@Bool.not_eq_false')
def AJ:=And.intro @List.length_append.{0} (And.intro @List.length_cons.{0} (And.intro @List.length_nil.{0} (And.intro @List.length_take.{0} (And.intro @List.length_drop.{0} (And.intro @List.length_map.{0,0} (@List.length_set.{0}))))))
def Aa:=And.intro @Int.not_lt (And.intro @Int.not_le (And.intro @Nat.not_lt (And.intro @Nat.not_le (And.intro @decide_eq_true_eq (And.intro @decide_eq_false_iff_not (And.intro @Bool.not_eq_true (And.intro @Bool.not_eq_false (And.intro @Bool.not_true (And.intro @Bool.not_false (And.intro @Bool.not_eq_eq_eq_not (@Decidable.not_not)))))))))))
/--the next step of code,by its form -/
class St (p:Prop) (q:outParam Prop):Prop where
 h:q->p
section
variable {P:Program} {nt:Nat} {t:F} {h:H} {K:X->F->H->Prop} {a b:CC} {l:List CO} {id:Nat} {o:O}
instance:St (Ok P nt (.seq a b) t h K) (Ok P nt a t h (Sq P nt b K)):=⟨Ok.sq⟩
instance:St (Ok P nt (.block id a) t h K) (Ok P nt a t h (Out id K)):=⟨Ok.block⟩
instance:St (Ok P nt (.region l) t h K) (WO P l t h (K .normal)):=⟨Ok.rg⟩
instance:St (Ok P nt (.cond o a b) t h K) (CD (oV o t) (Ok P nt a t h K) (Ok P nt b t h K)):=⟨Ok.cd⟩
instance:St (Ok P nt .skip t h K) (K .normal t h):=⟨Ok.skip⟩
instance:St (Ok P nt (.exit id) t h K) (K (.exit id) t h):=⟨Ok.exit⟩
instance:St (Ok P nt .ret t h K) (K .ret t h):=⟨Ok.ret⟩
end
end Go.Ev
set_option maxRecDepth 1000000
namespace Go.Proofs.Ytobfgempjekjpaa
open Go Go.Ev
abbrev kA:CC:=(CC.seq (CC.region [(wB 2 (AA (O.c V.l0))),(wB 3 (AA (O.c (V.b Bool.false))))]) CC.ret)
abbrev jD:CC:=(CC.cond (tm 11) kA CC.skip)
abbrev tH:CC:=(CC.seq (CC.region [(wB 9 (AA (tm 4))),(wB 10 (Ba (tm 9))),(wB 11 (AM Bu (tm 10) (oN 2)))]) jD)
abbrev rX:CC:=(CC.seq (CC.region [(wB 17 (AA (tm 4))),(wB 18 (AA (tm 0))),(wB 19 (AW 25 [(tm 18),(oN 1)])),(wB 20 (AA (tm 5))),(wB 21 (AA (tm 6))),(wB 22 (AW 47 [(tm 19),(tm 20),(tm 21)])),(wB 23 (Bk 57 5 (tm 17) (tm 22))),(wB 2 (AA (tm 23))),(wB 3 (AA (O.c (V.b Bool.true))))]) CC.ret)
abbrev sY:CC:=(CC.seq (CC.region [(wB 13 (AA (tm 4))),(wB 14 (AW 46 [(tm 13)])),(wB 12 (AA (tm 14))),(wB 15 (Ax 0 (tm 12))),(wB 16 (Ax 1 (tm 12))),(wB 5 (AA (tm 15))),(wB 6 (AA (tm 16)))]) rX)
abbrev rK:CC:=(CC.seq tH sY)
abbrev pt:CC:=(CC.seq (CC.region [(wB 7 (AA (tm 0))),(wB 8 (AW 25 [(tm 7),(oN 0)])),(wB 4 (AA (tm 8)))]) rK)
abbrev xU:CC:=(CC.seq (CC.region [(wB 2 (AA (O.c V.l0))),(wB 3 (AA (O.c (V.b Bool.false))))]) pt)
theorem yY:AV Try.prog 19=⟨24,xU,[(Rs.tmp (AR 2)),(Rs.tmp (AR 3))]⟩:=by kernel_rfl
abbrev kV:CC:=(CC.seq (CC.region [(wB 5 (AA (tm 0))),(wB 6 (AW 26 [(tm 5)])),(wB 7 (AA (tm 1))),(wB 8 (AA (tm 1))),(wB 9 (AW 47 [(tm 6),(tm 7),(tm 8)])),(wB 4 (AA (tm 9)))]) CC.ret)
abbrev xV:CC:=(CC.seq (CC.region [(wB 4 (AA (O.c V.l0)))]) kV)
theorem wv:AV Try.prog 22=⟨10,xV,[(Rs.tmp (AR 4))]⟩:=by kernel_rfl
abbrev oq:CC:=(CC.cond (tm 20) CC.skip (CC.exit 0))
abbrev qe:CC:=(CC.A7 [(uB 23 (AA (tm 4))),(uB 24 (AH 2 (tm 7))),(uB 25 (AY (tm 24))),(uB 26 (G3 (fun a b c d=>Fj a b c d||Fy a b c d) (tm 23) (tm 25))),(uB 27 (AA (tm 5))),(uB 28 (AH 3 (tm 7))),(uB 29 (AY (tm 28))),(uB 30 (G3 (fun a b c d=>!Fj a b c d) (tm 27) (tm 29))),(uB 4 (AA (tm 26))),(uB 5 (AA (tm 30)))] none)
abbrev nG:CC:=(CC.seq (CC.region [(wB 21 (AF 5 (tm 17) (tm 19))),(wB 22 (AU 5 (tm 21))),(wB 7 (CA 57 [(V.i IntKind.i64 (Int.ofNat 0)),(V.i IntKind.i64 (Int.ofNat 0)),(V.s 0 0),(V.s 0 0),(V.i IntKind.i64 (Int.ofNat 0))])),(CO.mk G.none D.none Bool.true (CR.mk (Ae 5 (tm 7) (tm 22))))]) qe)
abbrev im:CC:=(CC.block 1 nG)
abbrev ou:CC:=(CC.region [(wB 31 (AM BA (tm 19) (oN 1))),(wB 19 (AA (tm 31)))])
abbrev mK:CC:=(CC.seq im ou)
abbrev ov:CC:=(CC.seq oq mK)
abbrev qv:CC:=(CC.seq (CC.region [(wB 20 (AM Bu (tm 19) (tm 18)))]) ov)
abbrev jL:CC:=(CC.loop qv)
abbrev qf:CC:=(CC.block 0 jL)
abbrev se:CC:=(CC.seq (CC.region [(wB 16 (AA (tm 0))),(wB 17 (Bw 5 (tm 16) (some (oN 1)) none)),(wB 18 (Ba (tm 17))),(wB 19 (AA (oN 0)))]) qf)
abbrev Wr:CC:=(CC.seq (CC.region [(wB 32 (AA (tm 4))),(wB 33 (AA (tm 5))),(wB 2 (AA (tm 32))),(wB 3 (AA (tm 33)))]) CC.ret)
abbrev au:CC:=(CC.seq se Wr)
abbrev V8:CC:=(CC.seq (CC.A7 [(uB 8 (AA (tm 0))),(uB 9 (AF 5 (tm 8) (oN 0))),(uB 10 (AH 2 (tm 9))),(uB 11 (AY (tm 10))),(uB 12 (AA (tm 0))),(uB 13 (AF 5 (tm 12) (oN 0))),(uB 14 (AH 3 (tm 13))),(uB 15 (AY (tm 14))),(uB 4 (AA (tm 11))),(uB 5 (AA (tm 15)))] none) au)
abbrev yB:CC:=(CC.seq (CC.region [(wB 2 (AA (O.c (V.s 0 0)))),(wB 3 (AA (O.c (V.s 0 0))))]) V8)
theorem xH:AV Try.prog 46=⟨34,yB,[(Rs.tmp (AR 2)),(Rs.tmp (AR 3))]⟩:=by kernel_rfl
abbrev hJ:CC:=(CC.cond (tm 13) CC.skip (CC.exit 0))
abbrev pS:CC:=(CC.cond (tm 21) (CC.exit 1) CC.skip)
abbrev nC:CC:=(CC.seq (CC.region [(wB 22 (AH 2 (tm 9))),(wB 23 (AY (tm 22))),(wB 24 (AA (tm 2))),(wB 25 (CV (fun a b c d=>! (Fj a b c d||Fy a b c d)) (tm 23) (tm 24))),(wB 21 (AA (tm 25)))]) pS)
abbrev sV:CC:=(CC.cond (tm 16) (CC.exit 1) nC)
abbrev gK:CC:=(CC.seq (CC.region [(wB 17 (AH 3 (tm 9))),(wB 18 (AY (tm 17))),(wB 19 (AA (tm 1))),(wB 20 (CV Fj (tm 18) (tm 19))),(wB 16 (AA (tm 20)))]) sV)
abbrev pU:CC:=(CC.block 2 gK)
abbrev jN:CC:=(CC.region [(wB 26 (AA (tm 7))),(wB 27 (AU 5 (tm 9))),(wB 28 (Aw 57 1 [(V.i IntKind.i64 (Int.ofNat 0)),(V.i IntKind.i64 (Int.ofNat 0)),(V.s 0 0),(V.s 0 0),(V.i IntKind.i64 (Int.ofNat 0))] [(Pt.mk 0 5 (tm 27))])),(wB 29 (Bk 57 5 (tm 26) (tm 28))),(wB 7 (AA (tm 29)))])
abbrev nP:CC:=(CC.seq pU jN)
abbrev lO:CC:=(CC.seq (CC.region [(wB 14 (AF 5 (tm 10) (tm 12))),(wB 15 (AU 5 (tm 14))),(wB 9 (CA 57 [(V.i IntKind.i64 (Int.ofNat 0)),(V.i IntKind.i64 (Int.ofNat 0)),(V.s 0 0),(V.s 0 0),(V.i IntKind.i64 (Int.ofNat 0))])),(CO.mk G.none D.none Bool.true (CR.mk (Ae 5 (tm 9) (tm 15))))]) nP)
abbrev eQ:CC:=(CC.block 1 lO)
abbrev cb:CC:=(CC.region [(wB 30 (AM BA (tm 12) (oN 1))),(wB 12 (AA (tm 30)))])
abbrev YZ:CC:=(CC.seq eQ cb)
abbrev YR:CC:=(CC.seq hJ YZ)
abbrev tN:CC:=(CC.seq (CC.region [(wB 13 (AM Bu (tm 12) (tm 11)))]) YR)
abbrev Xl:CC:=(CC.loop tN)
abbrev Zh:CC:=(CC.block 0 Xl)
abbrev Xs:CC:=(CC.seq (CC.region [(wB 10 (AA (tm 0))),(wB 11 (Ba (tm 10))),(wB 12 (AA (oN 0)))]) Zh)
abbrev Vy:CC:=(CC.seq (CC.region [(wB 31 (AA (tm 7))),(wB 6 (AA (tm 31)))]) CC.ret)
abbrev Wj:CC:=(CC.seq Xs Vy)
abbrev Z2:CC:=(CC.seq CC.skip Wj)
abbrev Z3:CC:=(CC.seq (CC.region [(wB 7 (AA (O.c V.l0)))]) Z2)
abbrev xM:CC:=(CC.seq (CC.region [(wB 6 (AA (O.c V.l0)))]) Z3)
theorem xB:AV Try.prog 47=⟨32,xM,[(Rs.tmp (AR 6))]⟩:=by kernel_rfl
end Go.Proofs.Ytobfgempjekjpaa
namespace Go.Ev
open Go
/--a block of the call's own,made of a text's bytes or of cells -/
def Yq (h:H) (id:B) (xs:List V):Prop:=∃ Aj,h.heap.get id=some Aj/\Aj.cur=0/\Aj.min=0/\Aj.fr<=1/\B.val h.floor<=B.val id/\B.val id<B.val h.next/\∀ i y,xs[i]? =some y->Aj.cells.BK i=some y
theorem Yq.row {h:H} {id:B} {xs:List V} (o:Yq h id xs):Row h id 0 0 xs:=by
 obtain⟨Aj,h1,h2,h3,h4,h5,h6,h7⟩:=o
 refine⟨fun _=>⟨Aj,h1,by omega⟩,fun i y hy=>?_⟩
 unfold Ev.cell Gv
 rw[h1]
 show(if Aj.min<=0 then Aj.cells.BK (0+i)else none)=_
 rw[if_pos (by omega),Nat.zero_add]
 exact h7 i y hy
section
variable {P:Program} {h:H} {N:Nx} {id:B} {xs:List V} {j fin el:Nat} {x y:V}
/--[]byte(text),to be written into -/
theorem SB.own {c:List UInt8} (hf:B.val h.floor<=B.val h.next) (hl:c.length<=1048576)
 (k:∀ h',AT AQ h h'->B.val h'.next=B.val h.next+1->Yq h' h.next (c.map bv)->N.go P (.l h.next 0 0 c.length c.length (HB c.length)) h'):SB P el (sv c) h N:=by
 obtain⟨h',a1,a2,a3,a4,a5,cs,a6,a7⟩:=OQ el hf hl
 have:=fun k=>a1 (.c (sv c)) F.zero (fun _ _ _ _=>false) k rfl
 refine DJ (v:=.l h.next 0 0 c.length c.length (HB c.length)) (h':=h') (fun k=>?_) (k h' a2 a3 ⟨_,a6,rfl,rfl,by show 1<=1;omega,by rw[a2.floor];exact hf,by omega,a7⟩)
 have e:=this k
 simp only[Hi,AN]at e
 exact e
end
/--the i-th row of a matrix -/
def rowOf (h:H) (v:V) (i:Nat):V:=(cell h (FV v) (lg v) (Ce v+i)).getD .u
/--a matrix that was there when the call began -/
structure MA (h0:H) (v:V) (M:List (List Bool)) (g:H):Prop where
 mx:Mx h0 v M
 st:AT AQ h0 g
section
variable {P:Program} {N:Nx} {h0 g h':H} {v:V} {M:List (List Bool)} {i j:Nat}
theorem MA.grow (a:MA h0 v M g) (s:AT AQ g h'):MA h0 v M h':=⟨a.mx,a.st.trans s⟩
theorem Mx.rowOf (a:Mx h0 v M) (hi:i<M.length):Bl h0 (rowOf h0 v i) (M.getD i []):=by
 obtain⟨rows,r1,r2,r3⟩:=a
 have hr:rows[i]? =some rows[i]:=by simp
 have:Go.Ev.rowOf h0 v i=rows[i]:=by
  unfold Go.Ev.rowOf
  rcases r1 with⟨rfl,e⟩|⟨id,g,off,fin,cap,rfl,h2,h3,h4⟩
  ·subst e;simp at r2;omega
  ·have:=h4.2 i _ hr
   show(cell h0 id g (off+i)).getD .u=_
   rw[this];rfl
 rw[this]
 exact r3 i _ hr
theorem MA.row (a:MA h0 v M g) (hi:i<M.length):Bl g (rowOf h0 v i) (M.getD i []):=(a.mx.rowOf hi).grow a.st
theorem MA.ld (a:MA h0 v M g) (hi:i<M.length):L1 P (FV v) (lg v) (Ce v+i) (Cf v) g N=N.go P (rowOf h0 v i) g:=by
 obtain⟨rows,r1,r2,r3⟩:=a.mx
 have hr:rows[i]? =some rows[i]:=by simp
 refine Ah fun k=>?_
 have e:Go.Ev.rowOf h0 v i=rows[i]:=by
  unfold Go.Ev.rowOf
  rcases r1 with⟨rfl,e⟩|⟨id,g,off,fin,cap,rfl,h2,h3,h4⟩
  ·subst e;simp at r2;omega
  ·have:=h4.2 i _ hr
   show(cell h0 id g (off+i)).getD .u=_
   rw[this];rfl
 rw[FH (r1.grow a.st) hr,e]
end
theorem Row.ln {P:Program} {h:H} {N:Nx} {id:B} {g off fin size:Nat} {xs:List V} (r:Row h id g 0 xs) (hi:off+size<=xs.length) (h1:1<=size) (hf:off+size<=fin):LN P id g off fin size h N=N.go P (.a ((xs.drop off).take size)) h:=Ah fun k=>by
 have hne:(xs.drop off).take size≠[]:=by
  intro e
  have:=congrArg List.length e
  rw[List.length_take,List.length_drop]at this
  simp at this;omega
 refine C4 (vs:=(xs.drop off).take size) ⟨fun _=>r.1 (by intro e;subst e;simp at hi;omega),fun i y hy=>?_⟩ (by rw[List.length_take,List.length_drop];omega) hne hf _
 rw[List.getElem?_take]at hy
 split at hy
 ·rw[List.getElem?_drop]at hy
  have:=r.2 (off+i) y hy
  rwa [Nat.zero_add]at this
 ·cases hy
def UP (P:Program) (u size:Nat) (x:V) (h:H) (N:Nx):Prop:=HV P (fun k=>vP x fun id g off fin=>Ap (Nat.beq off 0) fun _=>Ap (Nat.ble size fin) fun _=>Ve h id g u fun _=>k (.p id g off fin)) h N
section
variable {P:Program} {t:F} {h:H} {N:Nx} {x y:O} {ne:Bool} {id id':B} {g off fin g' off' fin':Nat} {u size:Nat}
end
section
variable {P:Program} {h:H} {N:Nx} {id:B} {xs:List V} {j fin el:Nat} {x y:V}
/--append(v,text...) -/
theorem AS.buf {v:V} {a c:List UInt8} (hb:Fq h el 1 v (a.map bv)) (hf:B.val h.floor<=B.val h.next) (hl:a.length+c.length<=1048576)
 (k:∀ v' h',Fq h' el 1 v' ((a++c).map bv)->AT (Ao v) h h'->(∀ i,Ao v' i->Ao v i\/B.val h.next<=B.val i)->NI h' v'->N.go P v' h'):AS P el v (sv c) h N:=by
 obtain⟨v',h',a1,a2,a3,a4,a5⟩:=Jl (vs:=c.map bv) (n:=c.length) hb hf (Nat.le_refl _) (by simp) (Ig c) (by simpa using hl)
 refine DJ (v:=v') (h':=h') (fun k=>?_) (k v' h' (by rw[List.map_append];exact a2) a3 a4 a5)
 show KG c.length (pk c) [] (fun vs=>CM el 1 v c.length vs h k)=_
 rw[KH _ _ _ _ rfl,List.append_nil,a1]
end
def US (P:Program) (e:Nat) (x y:V) (h:H) (N:Nx):Prop:=HM P (fun k=>vI y fun kd n=>Ap (B9 kd .i64) fun _=>A2 n fun n=>RP x (fun _=>Ap (Nat.beq n 0) fun _=>k (.s 0 0) h) fun id g off fin=>Kc e n h k id g off fin) N
theorem US.of {P:Program} {e:Nat} {x y v:V} {h h':H} {N:Nx} (hk:∀ k:V->H->Bool,(vI y fun kd n=>Ap (B9 kd .i64) fun _=>A2 n fun n=>RP x (fun _=>Ap (Nat.beq n 0) fun _=>k (.s 0 0) h) fun id g off fin=>Kc e n h k id g off fin)=k v h') (k:N.go P v h'):US P e x y h N:=DJ hk k
theorem VU {P:Program} {e:Nat} {x y:O} {t:F} {h:H} {N:Nx}:OR P (HI e x y) t h N=US P e (oV x t) (oV y t) h N:=FE fun cf k=>by simp only[HI,AN]
end Go.Ev
namespace Go.Ev
open Go
section
variable {h:H}
/--all cells of a block at once -/
theorem ST.Zi {P:Program} {N:Nx} {id:B} {xs vs:List V} {x:V} {size fin:Nat} (o:C7 h id xs) (hc:cells x=vs) (hs:vs.length=size) (h1:B2 vs=true) (hj:vs.length<=fin) (hfit:vs.length<2 ^ 37)
 (k:∀ h',C7 h' id vs->AT (fun i=>i=id) h h'->N.go P (.tu []) h'):ST P size (.p id 0 0 fin) x h N:=by
 obtain⟨Aj,a1,a2,a3,a4,a5,a6,a7⟩:=o
 obtain⟨next,floor,heap⟩:=h
 obtain⟨cur,min,sz,cs,bel,fr⟩:=Aj
 simp only at a2 a3 a4 a7
 subst a2;subst a3;subst a4
 obtain⟨tr,t1,t2,t3⟩:=Bp vs 0 cs (by omega)
 obtain⟨hp,s1,s2,s3⟩:=Bs id (⟨0,0,sz,tr,bel,0⟩:Gk) heap
 have e1:B.KM floor id=true:=by cases floor<;>first|rfl|(show Nat.ble _ _=true;rw[Nat.ble_eq];exact a5)
 have e2:Nat.ble (Nat.add 0 vs.length) fin=true:=by rw[Nat.ble_eq];show 0+vs.length<=fin;omega
 have e4:G8 0 0=true:=rfl
 have e5:Nat.beq 0 0=true:=rfl
 have e6:Nat.ble 0 0=true:=rfl
 have e7:Nat.beq vs.length size=true:=by rw[hs];simp
 have a1':heap.get id=some ⟨0,0,sz,cs,bel,0⟩:=a1
 refine DJ (v:=.tu []) (h':=⟨next,floor,hp⟩) (fun q=>?_) (k _ ⟨_,s2,rfl,rfl,rfl,a5,a6,fun i z hz=>by have:=t2 i z hz;rwa [Nat.zero_add]at this⟩ ⟨rfl,Nat.le_refl _,fun i _ hi=>s3 i hi⟩)
 show Ap (Nat.beq (cells x).length size) (fun _=>store ⟨next,floor,heap⟩ id 0 0 fin (cells x) fun h=>q (.tu []) h)=_
 rw[hc,e7,AG]
 simp only[store,CG,a1',Ak,BC,e5,e6,e1,e2,h1,e4,AG]
 rw[t1,s1]
end
theorem ST.all {P:Program} {h:H} {N:Nx} {id:B} {xs vs:List V} {size fin:Nat} (o:C7 h id xs) (hs:vs.length=size) (h1:B2 vs=true) (hj:vs.length<=fin) (hfit:vs.length<2 ^ 37)
 (k:∀ h',C7 h' id vs->AT (fun i=>i=id) h h'->N.go P (.tu []) h'):ST P size (.p id 0 0 fin) (.a vs) h N:=ST.Zi o rfl hs h1 hj hfit k
theorem qE (h:H):B.val (A3 h).floor<=B.val (A3 h).next:=by cases h;exact Nat.le_refl _
/--a call in a region that A7 -/
theorem CL.mR {P:Program} {f:FuncId} {vs:List V} {h:H} {e:V} {m:Nat} {l:List CO} {t:F} {K:F->H->Prop} (a:BN P f vs (A3 h) fun y h'=>y=e/\AT AQ (A3 h) h')
 (k:∀ h',AT AQ h h'->DO P l (put m e t) h' K):CL P f vs (A3 h) (.u m l t h K):=⟨_,a,fun v h' hq=>by rw[hq.1,QV];exact k _ hq.2.JD⟩
/--a row of structs of n cells each -/
def Ss {α:Type} (n:Nat) (c:α->List V) (h:H) (v:V) (L:List α):Prop:=
 (v=.l0/\L=[])\/∃ id g off fin cap,v=.l id g off L.length fin cap/\off+L.length*n<=fin/\B.val id<B.val h.next/\Row h id g off (L.flatMap c)
section
variable {α:Type} [Inhabited α] {n:Nat} {c:α->List V}
theorem Cw (hc:∀ e,(c e).length=n):∀ (L:List α),(L.flatMap c).length=L.length*n
 |[]=>by simp
 |a::L=>by rw[List.flatMap_cons,List.length_append,hc,Cw hc L,List.length_cons,Nat.add_mul];omega
theorem Vu (hc:∀ e,(c e).length=n):∀ {L:List α} {i:Nat},i<L.length->((L.flatMap c).drop (i*n)).take n=c (L.getD i default)
 |[],i,h=>by simp at h
 |a::L,0,h=>by
  rw[List.flatMap_cons,Nat.zero_mul,List.drop_zero,List.take_append_of_le_length (by rw[hc];exact Nat.le_refl _),List.take_of_length_le (by rw[hc];exact Nat.le_refl _)];rfl
 |a::L,i+1,h=>by
  have e:(i+1)*n=(c a).length+i*n:=by rw[hc,Nat.add_mul];omega
  rw[List.flatMap_cons,e,<-List.drop_drop,List.drop_left,Vu hc (by simpa using h)]
  simp[List.getD]
theorem K9 (hc:∀ e,(c e).length=n) {L:List α} {i d:Nat} (hi:i<L.length) (hd:d<n):(L.flatMap c)[i*n+d]? =some ((c (L.getD i default)).getD d .u):=by
 have e:(((L.flatMap c).drop (i*n)).take n)[d]? =(c (L.getD i default))[d]? :=by rw[Vu hc hi]
 rw[List.getElem?_take,if_pos hd,List.getElem?_drop]at e
 rw[e]
 have:d<(c (L.getD i default)).length:=by rw[hc];exact hd
 have e3:∀ (x:List V),d<x.length->x[d]? =some (x.getD d .u):=fun x hx=>by simp[List.getD,hx]
 exact e3 _ this
theorem JI (hc:∀ e,(c e).length=n):∀ (L:List α) (k:Nat),(L.take k).flatMap c=(L.flatMap c).take (k*n)
 |[],k=>by simp
 |a::L,0=>by simp
 |a::L,k+1=>by
  have e:(k+1)*n=(c a).length+k*n:=by rw[hc,Nat.add_mul];omega
  have e2:((c a)++L.flatMap c).take ((c a).length+k*n)=c a++(L.flatMap c).take (k*n):=by
   rw[List.take_append,Nat.add_sub_cancel_left,List.take_of_length_le (Nat.le_add_right _ _)]
  rw[List.take_succ_cons,List.flatMap_cons,List.flatMap_cons,JI hc L k,e,e2]
theorem OH (hc:∀ e,(c e).length=n):∀ (L:List α) (k:Nat),(L.drop k).flatMap c=(L.flatMap c).drop (k*n)
 |[],k=>by simp
 |a::L,0=>by simp
 |a::L,k+1=>by
  rw[List.drop_succ_cons,List.flatMap_cons,OH hc L k,show(k+1)*n=(c a).length+k*n by rw[hc,Nat.add_mul];omega,<-List.drop_drop,List.drop_left]
variable {P:Program} {h h' g':H} {N:Nx} {v:V} {L:List α} {i d:Nat}
theorem Ss.ln (a:Ss n c h v L):H1 P Ml v g' N=N.go P (.i .i64 (L.length:Int)) g':=by
 rcases a with⟨rfl,rfl⟩|⟨id,g,off,fin,cap,rfl,_⟩
 ·exact OJ
 ·exact Sk
theorem Ss.ix (a:Ss n c h v L) (hi:i<L.length):IX P n v i g' N=N.go P (.p (FV v) (lg v) (Ce v+i*n) (Cf v)) g':=by
 rcases a with⟨rfl,rfl⟩|⟨id,g,off,fin,cap,rfl,_⟩
 ·simp at hi
 ·exact ny hi
theorem Ss.ld (a:Ss n c h v L) (hc:∀ e,(c e).length=n) (hi:i<L.length) (hd:d<n):L1 P (FV v) (lg v) (Ce v+i*n+d) (Cf v) h N=N.go P ((c (L.getD i default)).getD d .u) h:=by
 rcases a with⟨rfl,rfl⟩|⟨id,g,off,fin,cap,rfl,hf,hl,r⟩
 ·simp at hi
 ·refine Ah fun k=>?_
  have:=r.2 (i*n+d) _ (K9 hc hi hd)
  rw[<-Nat.add_assoc]at this
  have h1:(i+1)*n<=L.length*n:=Nat.mul_le_mul_right n hi
  rw[Nat.add_mul]at h1
  exact HF this (by show off+i*n+d<fin;omega) k
theorem Ss.xa (a:Ss n c h v L) (hc:∀ e,(c e).length=n) (hn:1<=n) (hi:i<L.length):LN P (FV v) (lg v) (Ce v+i*n) (Cf v) n h N=N.go P (.a (c (L.getD i default))) h:=by
 rcases a with⟨rfl,rfl⟩|⟨id,g,off,fin,cap,rfl,hf,hl,r⟩
 ·simp at hi
 ·refine Ah fun k=>?_
  have h1:(i+1)*n<=L.length*n:=Nat.mul_le_mul_right n hi
  rw[Nat.add_mul]at h1
  have hlen:=hc (L.getD i default)
  refine C4 (vs:=c (L.getD i default)) ⟨fun _=>r.1 ?_,fun j y hy=>?_⟩ hlen (by intro e;rw[e]at hlen;simp at hlen;omega) (by show off+i*n+n<=fin;omega) fun vs=>k (.a vs)
  ·intro e
   have h2:=Cw hc L
   rw[e]at h2
   have h3:L.length*n=0:=h2.symm
   omega
  ·have hj:j<n:=by rw[<-hlen];exact(List.getElem?_eq_some_iff.1 hy).1
   have e:=K9 hc hi hj
   rw[List.getD,hy]at e
   have:=r.2 (i*n+j) _ e
   rw[<-Nat.add_assoc]at this
   exact this
theorem Ss.grow (a:Ss n c h v L) (s:AT AQ h h'):Ss n c h' v L:=by
 rcases a with⟨rfl,rfl⟩|⟨id,g,off,fin,cap,rfl,hf,hl,r⟩
 ·exact .inl ⟨rfl,rfl⟩
 ·exact .inr ⟨id,g,off,fin,cap,rfl,hf,Nat.lt_of_lt_of_le hl s.next,r.grow s hl⟩
theorem Ss.stay {p:B->Prop} (a:Ss n c h v L) (s:AT p h h') (hp:∀ id,Ao v id->¬p id):Ss n c h' v L:=by
 rcases a with⟨rfl,rfl⟩|⟨id,g,off,fin,cap,rfl,hf,hl,r⟩
 ·exact .inl ⟨rfl,rfl⟩
 ·exact .inr ⟨id,g,off,fin,cap,rfl,hf,Nat.lt_of_lt_of_le hl s.next,r.stay s hl (hp id ⟨_,_,_,_,_,rfl⟩)⟩
theorem Ss.nil:Ss n c h .l0 ([]:List α):=.inl ⟨rfl,rfl⟩
/--of a literal -/
theorem Ss.lit {id:B} {xs:List V} {cap:Option Nat} {len fin:Nat} (o:C7 h id xs) (e:xs=L.flatMap c) (hc:∀ e,(c e).length=n) (hl:len=L.length) (hf:L.length*n<=fin):Ss n c h (.l id 0 0 len fin cap) L:=by
 subst hl;subst e
 have r:=o.row
 obtain⟨Aj,h1,h2,h3,h4,h5,h6,h7⟩:=o
 exact .inr ⟨id,0,0,fin,cap,rfl,by omega,h6,r⟩
/--of a row that grew -/
theorem Ss.buf {el:Nat} {xs:List V} (b:Fq h el n v xs) (e:xs=L.flatMap c) (hc:∀ e,(c e).length=n) (hn:1<=n):Ss n c h v L:=by
 subst e
 rcases b with⟨rfl,he⟩|⟨id,g,m,Aj,rfl,h1,h2,h3,h4,h5,h6,h7,h8,h9,h10⟩
 ·refine .inl ⟨rfl,?_⟩
  cases L with
  |nil=>rfl
  |cons a L=>
   have:=Cw hc (a::L)
   rw[he]at this
   have h3:(L.length+1)*n=0:=this.symm
   rw[Nat.add_mul]at h3;omega
 ·have hm:m=L.length:=by
   rw[Cw hc]at h2
   exact(Nat.eq_of_mul_eq_mul_right (by omega) h2).symm
  subst hm
  refine .inr ⟨id,g,0,(L.flatMap c).length,none,rfl,by rw[Cw hc];omega,h4,fun _=>⟨Aj,h5,h6.1⟩,fun i y hy=>?_⟩
  unfold Ev.cell Gv
  rw[h5]
  show(if Aj.min<=g then Aj.cells.BK (0+i)else none)=_
  rw[if_pos h6.1,Nat.zero_add]
  exact h10 i y hy
/--a slice whose end is where it should be -/
def Vc (n:Nat) (v:V):Prop:=v=.l0\/∃ id g off m fin cap,v=.l id g off m fin cap/\match cap with
 |some c=>m<=c/\(18446744073709551616<=c->m=0)
 |none=>fin=off+m*n
theorem RT {n off k L:Nat}:match GN n k L with
 |some c=>k<=c/\(18446744073709551616<=c->k=0)
 |none=>off+k*n=off+k*n:=by
 cases k with
 |zero=>(cases L with|zero=>exact rfl|succ L=>exact⟨Nat.zero_le _,fun _=>rfl⟩)
 |succ k=>exact rfl
theorem Jy {id:B} {g off k:Nat} (hc:∀ e,(c e).length=n) (r:Row h id g off (L.flatMap c)):Row h id g off ((L.take k).flatMap c):=by
 rw[JI hc]
 refine⟨fun hne=>r.1 fun e=>hne (by rw[e];simp),fun i y hy=>r.2 i y ?_⟩
 rw[List.getElem?_take]at hy
 split at hy
 ·exact hy
 ·cases hy
theorem Nb {id:B} {g off k:Nat} (hc:∀ e,(c e).length=n) (r:Row h id g off (L.flatMap c)):Row h id g (off+k*n) ((L.drop k).flatMap c):=by
 rw[OH hc]
 refine⟨fun hne=>r.1 fun e=>hne (by rw[e];simp),fun i y hy=>?_⟩
 rw[List.getElem?_drop]at hy
 have:=r.2 _ y hy
 rwa [<-Nat.add_assoc]at this
theorem Ss.hi {kd:IntKind} {k:Nat} (a:Ss n c h v L) (hc:∀ e,(c e).length=n) (w:Vc n v) (hk:k<=L.length):∃ u,Ss n c h u (L.take k)/\Vc n u/\∀ (g:H) (N:Nx),H2 P (FO n) v (.i kd (k:Int)) g N=N.go P u g:=by
 have e0:Nat.ble 0 k=true:=by rw[Nat.ble_eq];omega
 have hkn:k*n<=L.length*n:=Nat.mul_le_mul_right n hk
 have htk:(L.take k).length=k:=by rw[List.length_take];omega
 rcases a with⟨rfl,rfl⟩|⟨id,g,off,fin,cap,rfl,h2,h3,r⟩
 ·have:k=0:=by simpa using hk
  subst this
  exact⟨.l0,.inl ⟨rfl,by simp⟩,.inl rfl,fun g N=>Ah fun k=>rfl⟩
 rcases w with e|⟨id',g',off',n',fin',cap',e,hw⟩
 ·cases e
 cases e
 cases cap with
 |none=>
  have hw:fin=off+L.length*n:=hw
  refine⟨.l id g off k (off+k*n) (GN n k L.length),.inr ⟨id,g,off,off+k*n,GN n k L.length,by rw[htk],by rw[htk];exact Nat.le_refl _,h3,Jy hc r⟩,.inr ⟨_,_,_,_,_,_,rfl,RT⟩,fun g0 N=>Ah fun q=>?_⟩
  have e1:Nat.ble k L.length=true:=by rw[Nat.ble_eq];exact hk
  have e2:Nat.beq fin (Nat.add off (Nat.mul L.length n))=true:=by rw[hw];exact Nat.beq_refl _
  unfold FO
  simp only[C0,Cs,BW,e0,AG]
  show C9 n id g off L.length fin 0 k q=_
  unfold C9
  rw[e1,AG,e2,AG,A1,A1,A1]
  show q (.l id g (off+0*n) (k-0) (off+k*n) (GN n k L.length))=_
  simp
 |some cc=>
  have hw2:18446744073709551616<=cc->L.length=0:=hw.2
  have hw:L.length<=cc:=hw.1
  have e1:Nat.ble k cc=true:=by rw[Nat.ble_eq];omega
  cases hfc:BM cc with
  |true=>
   have hcc:=GZ hfc
   have hx:=hw2 hcc
   have hk0:k=0:=by omega
   subst hk0
   refine⟨.l id g off 0 off (some cc),.inr ⟨id,g,off,off,some cc,by simp,by simp,h3,Jy hc r⟩,.inr ⟨_,_,_,_,_,_,rfl,Nat.zero_le _,fun _=>rfl⟩,fun g0 N=>Ah fun q=>?_⟩
   unfold FO
   simp only[C0,Cs,BW,e0,AG]
   show Ay (BM cc) (fun _=>Ap (Nat.beq 0 0) fun _=>q (.l id g off 0 off (some cc))) _=_
   rw[hfc];rfl
  |false=>
  have hcM:=Gd hfc
  cases cc with
  |zero=>
   have hx:L.length=0:=by omega
   have hk0:k=0:=by omega
   subst hk0
   refine⟨.l id g off 0 fin (some 0),.inr ⟨id,g,off,fin,some 0,by simp,by simp;omega,h3,Jy hc r⟩,.inr ⟨_,_,_,_,_,_,rfl,Nat.le_refl _,fun _=>rfl⟩,fun g0 N=>Ah fun q=>?_⟩
   unfold FO
   simp only[C0,Cs,BW,e0,AG]
   rfl
  |succ cc=>
   refine⟨.l id g off k fin (some (cc+1)),.inr ⟨id,g,off,fin,some (cc+1),by rw[htk],by rw[htk];omega,h3,Jy hc r⟩,.inr ⟨_,_,_,_,_,_,rfl,by show k<=cc+1;omega,fun h=>absurd hcM (Nat.not_lt.2 h)⟩,fun g0 N=>Ah fun q=>?_⟩
   unfold FO
   simp only[C0,Cs,BW,e0,AG]
   show Ay (BM (cc+1)) _ (fun _=>BT n id g off L.length fin (cc+1) 0 k fun v=>q v)=_
   rw[hfc,BB,Dn hcM (by omega) (by omega)]
   simp
theorem Ss.La {kd kd':IntKind} {j k:Nat} (a:Ss n c h v L) (hc:∀ e,(c e).length=n) (w:Vc n v) (hj:j<=k) (hk:k<=L.length):∃ u,Ss n c h u ((L.take k).drop j)/\Vc n u/\∀ (g:H) (N:Nx),H3 P (Io n) v (.i kd (j:Int)) (.i kd' (k:Int)) g N=N.go P u g:=by
 have e0:Nat.ble j k=true:=by rw[Nat.ble_eq];omega
 have hkn:k*n<=L.length*n:=Nat.mul_le_mul_right n hk
 have hjn:j*n+(k-j)*n=k*n:=by rw[<-Nat.add_mul];congr 1;omega
 have htk:((L.take k).drop j).length=k-j:=by rw[List.length_drop,List.length_take];omega
 rcases a with⟨rfl,rfl⟩|⟨id,g,off,fin,cap,rfl,h2,h3,r⟩
 ·obtain rfl:k=0:=by simpa using hk
  obtain rfl:j=0:=by omega
  exact⟨.l0,.inl ⟨rfl,by simp⟩,.inl rfl,fun g N=>Ah fun k=>rfl⟩
 rcases w with e|⟨id',g',off',n',fin',cap',e,hw⟩
 ·cases e
 cases e
 have hr:=Nb hc (Jy (k:=k) hc r) (k:=j)
 cases cap with
 |none=>
  have hw:fin=off+L.length*n:=hw
  refine⟨.l id g (off+j*n) (k-j) (off+k*n) (GN n k L.length),.inr ⟨id,g,off+j*n,off+k*n,GN n k L.length,by rw[htk],by rw[htk];omega,h3,hr⟩,.inr ⟨_,_,_,_,_,_,rfl,?_⟩,fun g0 N=>Ah fun q=>?_⟩
  ·cases hk0:k with
   |zero=>(cases L.length with|zero=>(show _=_;rw[hk0]at hjn;omega)|succ l=>exact⟨by omega,fun _=>by omega⟩)
   |succ m=>(show _=_;rw[<-hk0];omega)
  have e1:Nat.ble k L.length=true:=by rw[Nat.ble_eq];exact hk
  have e2:Nat.beq fin (Nat.add off (Nat.mul L.length n))=true:=by rw[hw];exact Nat.beq_refl _
  unfold Io
  simp only[C0,Cs,BW,e0,AG]
  show C9 n id g off L.length fin j k q=_
  unfold C9
  rw[e1,AG,e2,AG,A1,A1,A1]
  rfl
 |some cc=>
  have hw2:18446744073709551616<=cc->L.length=0:=hw.2
  have hw:L.length<=cc:=hw.1
  cases hfc:BM cc with
  |true=>
   have hcc:=GZ hfc
   have hx:=hw2 hcc
   obtain rfl:k=0:=by omega
   obtain rfl:j=0:=by omega
   refine⟨.l id g off 0 off (some cc),.inr ⟨id,g,off,off,some cc,by simp,by simp,h3,?_⟩,.inr ⟨_,_,_,_,_,_,rfl,Nat.zero_le _,fun _=>rfl⟩,fun g0 N=>Ah fun q=>?_⟩
   ·simpa using hr
   unfold Io
   simp only[C0,Cs,BW,e0,AG]
   show Ay (BM cc) (fun _=>Ap (Nat.beq 0 0) fun _=>q (.l id g off 0 off (some cc))) _=_
   rw[hfc];rfl
  |false=>
  have hcM:=Gd hfc
  by_cases hjc:j=cc
  ·have hx:k=j:=by omega
   refine⟨.l id g off 0 fin (some 0),.inr ⟨id,g,off,fin,some 0,by rw[htk,hx];simp,by rw[htk,hx];simp;omega,h3,?_⟩,.inr ⟨_,_,_,_,_,_,rfl,Nat.le_refl _,fun _=>rfl⟩,fun g0 N=>Ah fun q=>?_⟩
   ·rw[List.drop_eq_nil_of_le (by rw[List.length_take];omega)]
    exact⟨fun hne=>absurd rfl hne,fun i v hv=>by simp at hv⟩
   ·unfold Io
    simp only[C0,Cs,BW,e0,AG]
    show Ay (BM cc) _ (fun _=>BT n id g off L.length fin cc j k fun v=>q v)=_
    rw[hfc,BB]
    have eM:Nat.ble (Nat.succ cc) 18446744073709551616=true:=by rw[Nat.ble_eq];exact hcM
    have e1:Nat.ble k cc=true:=by rw[Nat.ble_eq];omega
    unfold BT
    rw[eM,AG]
    have e2:Nat.beq j cc=true:=by rw[hjc];exact Nat.beq_refl _
    rw[e1,AG,e2];rfl
  ·refine⟨.l id g (off+j*n) (k-j) fin (some (cc-j)),.inr ⟨id,g,off+j*n,fin,some (cc-j),by rw[htk],by rw[htk];omega,h3,hr⟩,.inr ⟨_,_,_,_,_,_,rfl,by show k-j<=cc-j;omega,fun h=>absurd hcM (by omega)⟩,fun g0 N=>Ah fun q=>?_⟩
   unfold Io
   simp only[C0,Cs,BW,e0,AG]
   show Ay (BM cc) _ (fun _=>BT n id g off L.length fin cc j k fun v=>q v)=_
   rw[hfc,BB,Dn hcM (by omega) (by omega)]
theorem Ss.lo {kd:IntKind} {k:Nat} (a:Ss n c h v L) (hc:∀ e,(c e).length=n) (w:Vc n v) (hk:k<=L.length):∃ u,Ss n c h u (L.drop k)/\Vc n u/\∀ (g:H) (N:Nx),H2 P (E1 n) v (.i kd (k:Int)) g N=N.go P u g:=by
 have e0:Nat.ble k L.length=true:=by rw[Nat.ble_eq];omega
 have hkn:k*n+(L.length-k)*n=L.length*n:=by rw[<-Nat.add_mul];congr 1;omega
 have htk:(L.drop k).length=L.length-k:=List.length_drop
 rcases a with⟨rfl,rfl⟩|⟨id,g,off,fin,cap,rfl,h2,h3,r⟩
 ·have:k=0:=by simpa using hk
  subst this
  exact⟨.l0,.inl ⟨rfl,by simp⟩,.inl rfl,fun g N=>Ah fun k=>rfl⟩
 rcases w with e|⟨id',g',off',n',fin',cap',e,hw⟩
 ·cases e
 cases e
 cases cap with
 |none=>
  have hw:fin=off+L.length*n:=hw
  refine⟨.l id g (off+k*n) (L.length-k) (off+L.length*n) none,.inr ⟨id,g,off+k*n,off+L.length*n,none,by rw[htk],by rw[htk];omega,h3,Nb hc r⟩,.inr ⟨_,_,_,_,_,_,rfl,by show off+L.length*n=off+k*n+(L.length-k)*n;omega⟩,fun g0 N=>Ah fun q=>?_⟩
  have e1:Nat.ble L.length L.length=true:=by rw[Nat.ble_eq];exact Nat.le_refl _
  have e2:Nat.beq fin (Nat.add off (Nat.mul L.length n))=true:=by rw[hw];exact Nat.beq_refl _
  unfold E1
  simp only[C0,Cs,BW,e0,AG]
  show C9 n id g off L.length fin k L.length q=_
  unfold C9
  rw[e1,AG,e2,AG,A1,A1,A1,H9]
  rfl
 |some cc=>
  have hw2:18446744073709551616<=cc->L.length=0:=hw.2
  have hw:L.length<=cc:=hw.1
  have e1:Nat.ble L.length cc=true:=by rw[Nat.ble_eq];omega
  cases hfc:BM cc with
  |true=>
   have hcc:=GZ hfc
   have hx:=hw2 hcc
   have hk0:k=0:=by omega
   subst hk0
   refine⟨.l id g off 0 off (some cc),.inr ⟨id,g,off,off,some cc,by rw[htk,hx],by rw[htk,hx];simp,h3,?_⟩,.inr ⟨_,_,_,_,_,_,rfl,Nat.zero_le _,fun _=>rfl⟩,fun g0 N=>Ah fun q=>?_⟩
   ·rw[List.drop_eq_nil_of_le (by omega)]
    exact⟨fun hne=>absurd rfl hne,fun i v hv=>by simp at hv⟩
   ·unfold E1
    simp only[C0,Cs,BW,e0,AG]
    show Ay (BM cc) (fun _=>Ap (Nat.beq L.length 0) fun _=>q (.l id g off 0 off (some cc))) _=_
    rw[hfc,hx];rfl
  |false=>
  have hcM:=Gd hfc
  have eM:Nat.ble (Nat.succ cc) 18446744073709551616=true:=by rw[Nat.ble_eq];exact hcM
  by_cases hkc:k=cc
  ·have hx:L.length=k:=by omega
   refine⟨.l id g off 0 fin (some 0),.inr ⟨id,g,off,fin,some 0,by rw[htk,hx];simp,by rw[htk,hx];simp;omega,h3,?_⟩,.inr ⟨_,_,_,_,_,_,rfl,Nat.le_refl _,fun _=>rfl⟩,fun g0 N=>Ah fun q=>?_⟩
   ·rw[List.drop_eq_nil_of_le (by omega)]
    exact⟨fun hne=>absurd rfl hne,fun i v hv=>by simp at hv⟩
   ·unfold E1
    simp only[C0,Cs,BW,e0,AG]
    show Ay (BM cc) _ (fun _=>BT n id g off L.length fin cc k L.length fun v=>q v)=_
    rw[hfc,BB]
    unfold BT
    rw[eM,AG]
    have e2:Nat.beq k cc=true:=by rw[hkc];exact Nat.beq_refl _
    rw[e1,AG,e2];rfl
  ·refine⟨.l id g (off+k*n) (L.length-k) fin (some (cc-k)),.inr ⟨id,g,off+k*n,fin,some (cc-k),by rw[htk],by rw[htk];omega,h3,Nb hc r⟩,.inr ⟨_,_,_,_,_,_,rfl,by show L.length-k<=cc-k;omega,fun h=>absurd hcM (by omega)⟩,fun g0 N=>Ah fun q=>?_⟩
   unfold E1
   simp only[C0,Cs,BW,e0,AG]
   show Ay (BM cc) _ (fun _=>BT n id g off L.length fin cc k L.length fun v=>q v)=_
   rw[hfc,BB,Dn hcM (by omega) (by omega)]
/--the cells that are appended -/
theorem LZ (a:Ss n c h v L) (hc:∀ e,(c e).length=n) (hn:1<=n) (k:Nat->List V->Bool):DC n v h k=k L.length (L.flatMap c):=by
 rcases a with⟨rfl,rfl⟩|⟨id,g,off,fin,cap,rfl,hf,hl,r⟩
 ·rfl
 ·have hlen:=Cw hc L
  cases hm:L.length with
  |zero=>
   have:L=[]:=List.eq_nil_of_length_eq_zero hm
   subst this;rfl
  |succ m=>
   rw[hm]at hlen hf
   show Bi h id g off fin (Nat.mul (m+1) n) (fun vs=>k (m+1) vs)=_
   have hne:L.flatMap c≠[]:=by
    intro e;rw[e]at hlen
    have h3:(m+1)*n=0:=hlen.symm
    rw[Nat.add_mul]at h3;omega
   rw[show Nat.mul (m+1) n=(L.flatMap c).length by rw[hlen];rfl,C4 r rfl hne (by rw[hlen];omega)]
/--append([]T{e},l...) -/
theorem AP.lit {id:B} {cs:List V} {el:Nat} (o:C7 h id cs) (hcs:cs.length=n) (hn:1<=n) (hc:∀ e,(c e).length=n) (a:Ss n c h v L) (hf:B.val h.floor<=B.val h.next) (hb:(1+L.length)*n<=1048576)
 (k0:L=[]->N.go P (.l id 0 0 1 n (some 1)) h)
 (k1:∀ v' h',L≠[]->Fq h' el n v' (cs++L.flatMap c)->NI h' v'->AT AQ h h'->(∀ i,Ao v' i->B.val h.next<=B.val i)->N.go P v' h'):AP P el n (.l id 0 0 1 n (some 1)) v h N:=by
 have hlen:=Cw hc L
 cases hm:L.length with
 |zero=>
  have:L=[]:=List.eq_nil_of_length_eq_zero hm
  subst this
  refine DJ (v:=.l id 0 0 1 n (some 1)) (h':=h) (fun k=>?_) (k0 rfl)
  rw[LZ a hc hn];rfl
 |succ m=>
  have hne:L≠[]:=by intro e;rw[e]at hm;simp at hm
  have hb1:1+L.length<=1048576:=by
   have:=Nat.mul_le_mul_left (1+L.length) hn
   omega
  have Ab:(1+L.length)*n=n+L.length*n:=by rw[Nat.add_mul];omega
  obtain⟨h',a1,a2,a3,Aj,b1,b2,b3,b4,b5,b6,b7⟩:=DI el (cs++L.flatMap c) h (by rw[List.length_append];omega)
  refine DJ (v:=.l h.next 0 0 (1+L.length) ((1+L.length)*n) none) (h':=h') (fun k=>?_) (k1 _ h' hne ?_ ?_ a2 ?_)
  ·rw[LZ a hc hn]
   show Ay (Nat.ble (Nat.add 1 L.length) 1) (fun _=>Fu id 0 0 1 n 1 n L.length (L.flatMap c) h k) (fun _=>Du el id 0 0 1 n n L.length (L.flatMap c) h k)=_
   have e1:Nat.ble (Nat.add 1 L.length) 1=false:=by
    cases hx:Nat.ble (Nat.add 1 L.length) 1 with
    |false=>rfl
    |true=>have:=Nat.le_of_ble_eq_true hx;have h2:1+L.length<=1:=this;omega
   rw[e1]
   show Du el id 0 0 1 n n L.length (L.flatMap c) h k=_
   unfold Du
   have e2:Nat.ble (Nat.add 1 L.length) 1048576=true:=by rw[Nat.ble_eq];exact hb1
   rw[e2,AG,show Nat.mul 1 n=cs.length by rw[hcs];show 1*n=n;omega,Kq (by omega),C4 o.row rfl (by intro e;rw[e]at hcs;simp at hcs;omega) (by omega),DZ,a1,A1,A1]
   rfl
  ·refine .inr ⟨h.next,0,1+L.length,Aj,by rw[List.length_append,hlen,hcs,<-Ab],by omega,by rw[List.length_append,hlen,hcs,<-Ab],by rw[a2.floor];exact hf,by omega,b1,⟨by omega,by omega⟩,b4,b5,b6,b7⟩
  ·intro id' g off m' fin cap e
   cases e
   exact⟨Aj,b1,b3⟩
  ·rintro i ⟨g,off,m',fin,cap,e⟩
   cases e;exact Nat.le_refl _
end
end Go.Ev
namespace Go.Ev
open Go
/--places a and b change places -/
def Gp (p:Nat->Nat) (a b:Nat):Nat->Nat:=fun k=>if k=b then p a else if k=a then p b else p k
/--swaps within places a to b -/
inductive Dg (a b:Nat):(Nat->Nat)->(Nat->Nat)->Prop
 |refl (p:Nat->Nat):Dg a b p p
 |swap {p q:Nat->Nat} (i j:Nat):Dg a b p q->a<=i->i<b->a<=j->j<b->Dg a b p (Gp q i j)
section
variable {R:Nat->Nat->Bool} {p q r:Nat->Nat} {a b c d i j k m n x y:Nat}
theorem NK:Gp p a b b=p a:=if_pos rfl
theorem I6:Gp p a b a=p b:=by unfold Gp;split<;>simp_all
theorem EK (h1:x≠a) (h2:x≠b):Gp p a b x=p x:=by unfold Gp;rw[if_neg h2,if_neg h1]
theorem Dg.trans (h1:Dg a b p q) (h2:Dg a b q r):Dg a b p r:=by
 induction h2 with
 |refl=>exact h1
 |swap i j _ h3 h4 h5 h6 ih=>exact .swap i j ih h3 h4 h5 h6
theorem Dg.wide (h:Dg a b p q) (ha:c<=a) (hb:b<=d):Dg c d p q:=by
 induction h with
 |refl=>exact .refl _
 |swap i j _ h3 h4 h5 h6 ih=>exact .swap i j ih (by omega) (by omega) (by omega) (by omega)
theorem Dg.one (h1:a<=i) (h2:i<b) (h3:a<=j) (h4:j<b):Dg a b p (Gp p i j):=.swap i j (.refl _) h1 h2 h3 h4
theorem Dg.out (h:Dg a b p q):k<a\/b<=k->q k=p k:=by
 intro hk
 induction h with
 |refl=>rfl
 |swap i j _ h3 h4 h5 h6 ih=>rw[EK (by omega) (by omega)];exact ih
theorem Dg.all {P:Nat->Prop} (h:Dg a b p q) (h1:∀ k,a<=k->k<b->P (p k)):∀ k,a<=k->k<b->P (q k):=by
 induction h with
 |refl=>exact h1
 |swap i j _ h3 h4 h5 h6 ih=>
  intro k k1 k2
  unfold Gp
  split
  ·exact ih i h3 h4
  ·split
   ·exact ih j h5 h6
   ·exact ih k k1 k2
def Bh {α:Type} [Inhabited α] (L:List α) (p:Nat->Nat) (n:Nat):List α:=(List.range n).map fun i=>L.getD (p i) default
section
variable {α:Type} [Inhabited α] {L:List α}
theorem CJ:(Bh L p n).length=n:=by simp[Bh]
theorem Bv (h:x<n):(Bh L p n).getD x default=L.getD (p x) default:=by simp[Bh,List.getD,h]
theorem Ou:((Bh L p n).set a (L.getD (p b) default)).set b (L.getD (p a) default)=Bh L (Gp p a b) n:=by
 refine List.ext_getElem (by simp[Bh]) fun i h1 h2=>?_
 simp only[Bh,List.getElem_set,List.getElem_map,List.getElem_range,Gp]
 by_cases e:b=i
 ·subst e;simp
 ·rw[if_neg e,if_neg (Ne.symm e)]
  by_cases e2:a=i
  ·subst e2;simp
  ·rw[if_neg e2,if_neg (Ne.symm e2)]
theorem Sr:Bh L (fun i=>i) L.length=L:=by
 refine List.ext_getElem (by simp[Bh]) fun i h1 h2=>?_
 simp[Bh,List.getD,h2]
theorem Uo:∀ {l:List α} {i j:Nat},i<l.length->j<l.length->((l.set i (l.getD j default)).set j (l.getD i default)).Perm l:=by
 intro l i j hi hj
 have e:=@List.set_set_perm α l i j hi hj
 have g1:l.getD j default=l[j]:=by simp[List.getD,hj]
 have g2:l.getD i default=l[i]:=by simp[List.getD,hi]
 rw[g1,g2];exact e
theorem Dg.perm (h:Dg a b p q) (hb:b<=n):(Bh L q n).Perm (Bh L p n):=by
 induction h with
 |refl=>exact List.Perm.refl _
 |swap i j _ h3 h4 h5 h6 ih=>
  rw[<-Ou]
  refine List.Perm.trans ?_ ih
  rename_i q _
  have:=Uo (l:=Bh L q n) (i:=i) (j:=j) (by rw[CJ];omega) (by rw[CJ];omega)
  rw[Bv (by omega),Bv (by omega)]at this
  exact this
end
structure Ord (R:Nat->Nat->Bool):Prop where
 Mi:∀ {x y},R x y=true->R y x=false
 nt:∀ {x y z},R x y=false->R y z=false->R x z=false
theorem Ord.UY (o:Ord R):R x x=false:=by
 cases h:R x x with
 |false=>rfl
 |true=>rw[<-h];exact o.Mi h
/--places a to b in order -/
def Gq (R:Nat->Nat->Bool) (p:Nat->Nat) (a b:Nat):Prop:=∀ i j,a<=i->i<j->j<b->R (p j) (p i)=false
/--what is ahead of a isn't above any from a to b -/
def O5 (R:Nat->Nat->Bool) (p:Nat->Nat) (a b:Nat):Prop:=∀ i j,i<a->a<=j->j<b->R (p j) (p i)=false
theorem O5.sw (h:O5 R p a b) (s:Dg a b p q):O5 R q a b:=fun i j h1 h2 h3=>by
 rw[s.out (.inl h1)]
 exact s.all (P:=fun x=>R x (p i)=false) (fun k k1 k2=>h i k h1 k1 k2) j h2 h3
theorem Ln (h:Gq R p a b) (h1:∀ k,a<=k->k<b->q k=p k):Gq R q a b:=fun i j hi hij hj=>by
 rw[h1 i hi (by omega),h1 j (by omega) hj];exact h i j hi hij hj
/--in order up to i,but for place j,which comes ahead of those behind it -/
def P0 (R:Nat->Nat->Bool) (p:Nat->Nat) (a i j:Nat):Prop:=(∀ x y,a<=x->x<y->y<=i->x≠j->y≠j->R (p y) (p x)=false)/\∀ y,j<y->y<=i->R (p y) (p j)=false
theorem O3 (h:Gq R p a i):P0 R p a i i:=⟨fun x y h1 h2 h3 h4 h5=>h x y h1 h2 (by omega),fun y h1 h2=>by omega⟩
theorem OG (o:Ord R) (M:P0 R p a i (n+1)) (h0:a<=n) (hj:n+1<=i) (hlt:R (p (n+1)) (p n)=true):P0 R (Gp p (n+1) n) a i n:=by
 have hlt:=o.Mi hlt
 constructor
 ·intro x y hx hxy hy hx1 hy1
  by_cases e1:y=n+1
  ·rw[e1,I6,EK (by omega) hx1]
   exact M.1 x n hx (by omega) (by omega) (by omega) (by omega)
  ·rw[EK e1 hy1]
   by_cases e2:x=n+1
   ·rw[e2,I6];exact M.1 n y h0 (by omega) hy (by omega) e1
   ·rw[EK e2 hx1];exact M.1 x y hx hxy hy e2 e1
 ·intro y h1 h2
  rw[NK]
  by_cases e:y=n+1
  ·rw[e,I6];exact hlt
  ·rw[EK e (by omega)];exact M.2 y (by omega) h2
theorem JN (o:Ord R) (M:P0 R p a i j) (hj:j<=i) (h:j=a\/R (p j) (p (j-1))=false) (ha:a<=j):Gq R p a (i+1):=by
 intro x y hx hxy hy
 by_cases e1:x=j
 ·rw[e1];exact M.2 y (by omega) (by omega)
 ·by_cases e2:y=j
  ·rw[e2]at hxy⊢
   have h:=h.resolve_left (by omega)
   by_cases e3:x=j-1
   ·rw[e3];exact h
   ·exact o.nt h (M.1 x (j-1) hx (by omega) (by omega) e1 (by omega))
  ·exact M.1 x y hx hxy (by omega) e1 e2
def TD (R:Nat->Nat->Bool) (p:Nat->Nat) (a lo hi:Nat):Prop:=∀ k c,lo<=k->(c=2*k+1\/c=2*k+2)->c<hi->R (p (a+k)) (p (a+c))=false
/--but for root,whose children aren't above its parent -/
def RD (R:Nat->Nat->Bool) (p:Nat->Nat) (a lo hi root:Nat):Prop:=
 (∀ k c,lo<=k->k≠root->(c=2*k+1\/c=2*k+2)->c<hi->R (p (a+k)) (p (a+c))=false)/\
 ∀ k c,lo<=k->(root=2*k+1\/root=2*k+2)->(c=2*root+1\/c=2*root+2)->c<hi->R (p (a+k)) (p (a+c))=false
theorem UE {lo hi:Nat} (h:TD R p a (lo+1) hi):RD R p a lo hi lo:=⟨fun k c h1 h2 h3 h4=>h k c (by omega) h3 h4,fun k c h1 h2=>by omega⟩
theorem Rx {lo hi root ch:Nat} (o:Ord R) (h:RD R p a lo hi root) (hl:lo<=root) (hc:ch=2*root+1\/ch=2*root+2) (hch:ch<hi) (hmax:∀ c,(c=2*root+1\/c=2*root+2)->c<hi->R (p (a+ch)) (p (a+c))=false) (hlt:R (p (a+root)) (p (a+ch))=true):RD R (Gp p (a+root) (a+ch)) a lo hi ch:=by
 have hlt:=o.Mi hlt
 constructor
 ·intro k c h1 h2 h3 h4
  by_cases e1:k=root
  ·rw[e1,I6]
   by_cases e2:c=ch
   ·rw[e2,NK];exact hlt
   ·rw[EK (by omega) (by omega)];exact hmax c (by omega) h4
  ·rw[show Gp p (a+root) (a+ch) (a+k)=p (a+k)from EK (by omega) (by omega)]
   by_cases e2:c=root
   ·rw[e2,I6];exact h.2 k ch h1 (by omega) hc hch
   ·rw[EK (by omega) (by omega)];exact h.1 k c h1 e1 h3 h4
 ·intro k c h1 h2 h3 h4
  obtain rfl:k=root:=by omega
  rw[I6,EK (by omega) (by omega)]
  exact h.1 ch c (by omega) (by omega) h3 h4
theorem Mu {lo hi root:Nat} (h:RD R p a lo hi root) (h1:∀ c,(c=2*root+1\/c=2*root+2)->c<hi->R (p (a+root)) (p (a+c))=false):TD R p a lo hi:=fun k c k1 k2 k3=>by
 by_cases e:k=root
 ·subst e;exact h1 c k2 k3
 ·exact h.1 k c k1 e k2 k3
theorem UT {hi:Nat} (o:Ord R) (h:TD R p a 0 hi):∀ k,k<hi->R (p a) (p (a+k))=false:=by
 intro k
 induction k using Nat.strongRecOn with
 |_ k ih=>
  intro hk
  by_cases e:k=0
  ·subst e;exact o.UY
  ·exact o.nt (ih ((k-1)/2) (by omega) (by omega)) (h ((k-1)/2) k (Nat.zero_le _) (by omega) hk)
theorem VT {lo hi:Nat} (h:hi<=2*lo+1):TD R p a lo hi:=fun k c h1 h2 h3=>by omega
def Fin (R:Nat->Nat->Bool) (p:Nat->Nat) (a0 b0 a b:Nat):Prop:=∀ q,Dg a b p q->Gq R q a b->Gq R q a0 b0
theorem Jd {a0 b0:Nat} (h:Fin R p a0 b0 a b) (s:Dg a b p q):Fin R q a0 b0 a b:=fun r s2=>h r (s.trans s2)
/--behind those that are as the pivot -/
theorem ZI {a0 b0 e:Nat} (o:Ord R) (h:Fin R p a0 b0 a b) (hm:a<=m) (hb:m<=b) (h0:∀ k,a<=k->k<b->R (p k) e=false) (h1:∀ k,a<=k->k<m->R e (p k)=false):Fin R p a0 b0 m b:=fun q s hs=>by
 refine h q (s.wide hm (Nat.le_refl _)) fun i j i1 i2 i3=>?_
 by_cases d1:m<=i
 ·exact hs i j d1 i2 i3
 ·rw[s.out (.inl (by omega:i<m))]
  have:R (q j) e=false:=(s.wide hm (Nat.le_refl _)).all (P:=fun x=>R x e=false) h0 j (by omega) i3
  exact o.nt this (h1 i i1 (by omega))
theorem cA {e:Nat} (o:Ord R) (h:O5 R p a b) (hm:a<=m) (h1:∀ k,a<=k->k<m->R e (p k)=false) (h2:∀ k,m<=k->k<b->R e (p k)=true):O5 R p m b:=fun i j i1 i2 i3=>by
 by_cases d:i<a
 ·exact h i j d (by omega) i3
 ·exact o.nt (o.Mi (h2 j i2 i3)) (h1 i (by omega) i1)
/--around the pivot,at m -/
structure QM (R:Nat->Nat->Bool) (p:Nat->Nat) (a b m:Nat):Prop where
 am:a<=m
 mb:m<b
 lt:∀ k,a<=k->k<m->R (p k) (p m)=true
 ge:∀ k,m<k->k<b->R (p k) (p m)=false
theorem PA (o:Ord R) (P:QM R p a b m) (h1:Gq R p a m) (h2:Gq R p (m+1) b):Gq R p a b:=fun i j i1 i2 i3=>by
 by_cases d1:j<m
 ·exact h1 i j i1 i2 d1
 ·by_cases d2:j=m
  ·subst d2;exact o.Mi (P.lt i i1 i2)
  ·by_cases d3:m<i
   ·exact h2 i j d3 i2 i3
   ·by_cases d4:i=m
    ·subst d4;exact P.ge j (by omega) i3
    ·exact o.nt (P.ge j (by omega) i3) (o.Mi (P.lt i i1 (by omega)))
theorem QM.left (P:QM R p a b m) (s:Dg a m p q):QM R q a b m:=⟨P.am,P.mb,fun k k1 k2=>by
 rw[s.out (.inr (Nat.le_refl _))];exact s.all (P:=fun x=>R x (p m)=true) (fun k k1 k2=>P.lt k k1 k2) k k1 k2,fun k k1 k2=>by
 rw[s.out (.inr (Nat.le_refl _)),s.out (.inr (by omega))];exact P.ge k k1 k2⟩
theorem QM.right (P:QM R p a b m) (s:Dg (m+1) b p q):QM R q a b m:=⟨P.am,P.mb,fun k k1 k2=>by
 rw[s.out (.inl (by omega)),s.out (.inl (by omega))];exact P.lt k k1 k2,fun k k1 k2=>by
 rw[show q m=p m from s.out (.inl (by omega))];exact s.all (P:=fun x=>R x (p m)=false) (fun k k1 k2=>P.ge k (by omega) k2) k (by omega) k2⟩
theorem MM (h:O5 R p a b) (hm:m<=b):O5 R p a m:=fun i j i1 i2 i3=>h i j i1 i2 (by omega)
theorem Kd (o:Ord R) (h:O5 R p a b) (P:QM R p a b m):O5 R p (m+1) b:=fun i j i1 i2 i3=>by
 by_cases d1:i<a
 ·exact h i j d1 (by have:=P.am;omega) i3
 ·by_cases d2:i=m
  ·subst d2;exact P.ge j (by omega) i3
  ·exact o.nt (P.ge j (by omega) i3) (o.Mi (P.lt i (by omega) (by omega)))
theorem QA {a0 b0:Nat} (o:Ord R) (h:Fin R p a0 b0 a b) (P:QM R p a b m) (hs:Gq R p a m):Fin R p a0 b0 (m+1) b:=fun q s h2=>by
 have:=P.am;have:=P.mb
 exact h q (s.wide (by omega) (Nat.le_refl _)) (PA o (P.right s) (Ln hs fun k k1 k2=>s.out (.inl (by omega))) h2)
theorem Qo {a0 b0:Nat} (o:Ord R) (h:Fin R p a0 b0 a b) (P:QM R p a b m) (hs:Gq R p (m+1) b):Fin R p a0 b0 a m:=fun q s h2=>by
 have:=P.am;have:=P.mb
 exact h q (s.wide (Nat.le_refl _) (by omega)) (PA o (P.left s) h2 (Ln hs fun k k1 k2=>s.out (.inr (by omega))))
end
end Go.Ev
namespace Go.Ev
open Go
/--less of a block's cells -/
theorem C7.pre {h:H} {id:B} {xs ys:List V} (o:C7 h id (xs++ys)):C7 h id xs:=by
 obtain⟨Aj,h1,h2,h3,h4,h5,h6,h7⟩:=o
 refine⟨Aj,h1,h2,h3,h4,h5,h6,fun i y hy=>h7 i y ?_⟩
 have hi:=(List.getElem?_eq_some_iff.1 hy).1
 rw[List.getElem?_append_left hi];exact hy
theorem C7.none {h:H} {id:B} {xs:List V} (o:C7 h id xs):C7 h id []:=C7.pre (xs:=[]) (ys:=xs) o
/--cells stored behind those that are known -/
theorem P5 {h:H} {id:B} {xs vs:List V} {fin:Nat} (o:C7 h id xs) (hj:xs.length+vs.length<=fin) (hfit:fin<2 ^ 37) (h1:B2 vs=true):∃ h',(∀ k,store h id 0 xs.length fin vs k=k h')/\C7 h' id (xs++vs)/\AT (fun i=>i=id) h h':=by
 obtain⟨Aj,a1,a2,a3,a4,a5,a6,a7⟩:=o
 obtain⟨next,floor,heap⟩:=h
 obtain⟨cur,min,sz,cells,bel,fr⟩:=Aj
 simp only at a2 a3 a4 a7
 subst a2;subst a3;subst a4
 obtain⟨tr,t1,t2,t3⟩:=Bp vs xs.length cells (by omega)
 obtain⟨hp,s1,s2,s3⟩:=Bs id (⟨0,0,sz,tr,bel,0⟩:Gk) heap
 have e1:B.KM floor id=true:=by cases floor<;>first|rfl|(show Nat.ble _ _=true;rw[Nat.ble_eq];exact a5)
 have e2:Nat.ble (Nat.add xs.length vs.length) fin=true:=by rw[Nat.ble_eq];exact hj
 have e4:G8 0 xs.length=true:=rfl
 have e5:Nat.beq 0 0=true:=rfl
 have e6:Nat.ble 0 0=true:=rfl
 have a1':heap.get id=some ⟨0,0,sz,cells,bel,0⟩:=a1
 refine⟨⟨next,floor,hp⟩,fun k=>?_,⟨_,s2,rfl,rfl,rfl,a5,a6,fun i z hz=>?_⟩,⟨rfl,Nat.le_refl _,fun i _ hi=>s3 i hi⟩⟩
 ·simp only[store,CG,a1',Ak,BC,e5,e6,e1,e2,h1,e4,AG]
  rw[t1,s1]
 ·show tr.BK i=some z
  by_cases hi:i<xs.length
  ·rw[List.getElem?_append_left hi]at hz
   rw[t3 i (by omega)];exact a7 i z hz
  ·rw[List.getElem?_append_right (by omega)]at hz
   have:=t2 _ z hz
   rwa [show xs.length+(i-xs.length)=i by omega]at this
section
variable {P:Program} {h:H} {N:Nx} {id:B} {el size Eh len c:Nat} {x:V} {xs vs:List V}
/--in place:there is room -/
theorem AP.made (o:C7 h id xs) (hlen:xs.length=len*size) (hx:∀ k:Nat->List V->Bool,DC size x h k=k Eh vs) (hn:vs.length=Eh*size) (h1:B2 vs=true) (hc:len+Eh<=c) (hfit:c*size<2 ^ 37) (hcb:c<18446744073709551616)
 (k:∀ h',C7 h' id (xs++vs)->AT (fun i=>i=id) h h'->N.go P (.l id 0 0 (len+Eh) (c*size) (some c)) h'):AP P el size (.l id 0 0 len (c*size) (some c)) x h N:=by
 have hle:Nat.ble (Nat.add len Eh) c=true:=by rw[Nat.ble_eq];exact hc
 have hmul:=Nat.mul_le_mul_right size hc
 rw[Nat.add_mul]at hmul
 cases Eh with
 |zero=>
  have hv:vs=[]:=List.eq_nil_of_length_eq_zero (by rw[hn,Nat.zero_mul])
  subst hv
  refine DJ (v:=.l id 0 0 (len+0) (c*size) (some c)) (h':=h) (fun q=>?_) (k h (by rw[List.append_nil];exact o) ⟨rfl,Nat.le_refl _,fun _ _ _=>rfl⟩)
  rw[hx]
  show Ay (BM c) _ (fun _=>Ay (Nat.ble (Nat.add len 0) c) (fun _=>Fu id 0 0 len (c*size) c size 0 [] h q) _)=_
  rw[FN hcb,BB,hle];rfl
 |succ m=>
  obtain⟨h',a1,a2,a3⟩:=P5 o (vs:=vs) (fin:=c*size) (by omega) hfit h1
  refine DJ (v:=.l id 0 0 (len+(m+1)) (c*size) (some c)) (h':=h') (fun q=>?_) (k h' a2 a3)
  rw[hx]
  show Ay (BM c) _ (fun _=>Ay (Nat.ble (Nat.add len (m+1)) c) (fun _=>Fu id 0 0 len (c*size) c size (m+1) vs h q) _)=_
  rw[FN hcb,BB,hle]
  show store h id 0 (Nat.add 0 (Nat.mul len size)) (c*size) vs (fun h=>fN (Nat.add len (m+1)) fun l'=>q (.l id 0 0 l' (c*size) (some c)) h)=_
  rw[show Nat.add 0 (Nat.mul len size)=xs.length by rw[hlen];show 0+len*size=_;omega,a1,A1]
  rfl
/--append(S{},s...):a new block,or the empty one -/
theorem AP.e1 {g off fin:Nat} (hx:∀ k:Nat->List V->Bool,DC size x h k=k Eh vs) (hf:B.val h.floor<=B.val h.next) (hn:vs.length=Eh*size) (hl:Eh<=1048576) (hl2:vs.length<2 ^ 38)
 (k0:Eh=0->N.go P (.l id g off 0 fin (some 0)) h)
 (k:∀ h',1<=Eh->AT AQ h h'->B.val h'.next=B.val h.next+1->Fq h' el size (.l h.next 0 0 Eh vs.length none) vs->NI h' (.l h.next 0 0 Eh vs.length none)->N.go P (.l h.next 0 0 Eh vs.length none) h'):AP P el size (.l id g off 0 fin (some 0)) x h N:=by
 cases Eh with
 |zero=>
  have hv:vs=[]:=List.eq_nil_of_length_eq_zero (by rw[hn,Nat.zero_mul])
  subst hv
  exact DJ (v:=.l id g off 0 fin (some 0)) (h':=h) (fun q=>by rw[hx];rfl) (k0 rfl)
 |succ m=>
 obtain⟨h',a1,a2,a3,Aj,b1,b2,b3,b4,b5,b6,b7⟩:=DI el vs h hl2
 have hble:Nat.ble (Nat.add 0 (m+1)) 1048576=true:=by rw[Nat.ble_eq];show 0+(m+1)<=_;omega
 have hno:Nat.ble (Nat.add 0 (m+1)) 0=false:=by
  cases hx:Nat.ble (Nat.add 0 (m+1)) 0 with
  |false=>rfl
  |true=>have:=Nat.le_of_ble_eq_true hx;have h2:0+(m+1)<=0:=this;omega
 refine DJ (v:=.l h.next 0 0 (m+1) vs.length none) (h':=h') (fun q=>?_) (k h' (by omega) a2 a3 (.inr ⟨h.next,0,m+1,Aj,rfl,by omega,hn,by rw[a2.floor];exact hf,by omega,b1,⟨by omega,by omega⟩,b4,b5,b6,b7⟩) ?_)
 ·rw[hx]
  show Ay (BM 0) (fun _=>CN (UM (Nat.ble 1 0) (Nat.beq 0 (Nat.add 18446744073709551615 size))) el id g off 0 fin size (m+1) vs h q) (fun _=>Ay (Nat.ble (Nat.add 0 (m+1)) 0) (fun _=>Fu id g off 0 fin 0 size (m+1) vs h q) fun _=>Du el id g off 0 fin size (m+1) vs h q)=_
  rw[FN (by omega),BB,hno,BB]
  unfold Du
  rw[hble,AG]
  show alloc el (app [] vs) h (fun id h=>fN (Nat.add 0 (m+1)) fun l'=>fN (Nat.mul l' size) fun fin'=>q (.l id 0 0 l' fin' none) h)=_
  rw[DZ,List.nil_append,a1,A1,A1]
  show q (.l h.next 0 0 (0+(m+1)) ((0+(m+1))*size) none) h'=_
  rw[Nat.zero_add,<-hn]
 ·intro id' g off n fin cap e
  cases e
  exact⟨Aj,b1,b3⟩
end
end Go.Ev
set_option maxRecDepth 100000
set_option maxHeartbeats 8000000
namespace Go.Ev
open Go
def wz (h:H) (el n:Nat) (v:V) (m:Nat) (xs:List V):Prop:=∃ id g cap Aj,v=.l id g 0 m (m*n) cap/\xs.length=m*n/\((1<=m/\cap=none)\/(m=0/\cap=some (18446744073709551615+n)))/\
 B.val h.floor<=B.val id/\B.val id<B.val h.next/\h.heap.get id=some Aj/\Aj.min<=g/\Aj.cur=g/\m*n<=Aj.size/\Aj.el=el/\Aj.fr=0/\∀ i y,xs[i]? =some y->Aj.cells.BK i=some y
/--a row of one's own that is the newest of its block;or nothing -/
def Gr {α:Type} (el n:Nat) (c:α->List V) (h:H) (v:V) (L:List α):Prop:=
 (v=.l0/\L=[])\/(∃ id g off fin,v=.l id g off 0 fin (some 0)/\L=[]/\off<=fin/\B.val id<B.val h.next)\/wz h el n v L.length (L.flatMap c)
section
variable {P:Program} {α:Type} [Inhabited α] {n el:Nat} {c:α->List V} {h h':H} {N:Nx} {v x:V} {L X:List α} {j k Eh:Nat} {vs:List V}
theorem Gr.nil:Gr el n c h .l0 ([]:List α):=.inl ⟨rfl,rfl⟩
theorem Gr.vE {id:B} {g off fin:Nat} (h1:off<=fin) (h2:B.val id<B.val h.next):Gr el n c h (.l id g off 0 fin (some 0)) ([]:List α):=.inr (.inl ⟨_,_,_,_,rfl,rfl,h1,h2⟩)
theorem Gr.buf (b:Fq h el n v (L.flatMap c)) (tp:NI h v) (hc:∀ e,(c e).length=n) (hn:1<=n):Gr el n c h v L:=by
 rcases b with⟨rfl,e⟩|⟨id,g,m,Aj,rfl,b1,b2,b3,b4,b5,b6,b7,b8,b9,b10⟩
 ·refine .inl ⟨rfl,?_⟩
  cases L with
  |nil=>rfl
  |cons a L=>have:=Cw hc (a::L);rw[e]at this;have h3:(L.length+1)*n=0:=this.symm;rw[Nat.add_mul]at h3;omega
 ·obtain⟨blk',b5',hcur⟩:=tp id g 0 m _ none rfl
  have hbb:blk'=Aj:=by rw[b5]at b5';exact(Option.some.inj b5').symm
  subst hbb
  have hm:m=L.length:=by
   rw[Cw hc]at b2
   exact(Nat.eq_of_mul_eq_mul_right (by omega) b2).symm
  subst hm
  exact .inr (.inr ⟨id,g,none,blk',by rw[b2],b2,.inl ⟨b1,rfl⟩,b3,b4,b5,b6.1,hcur,by omega,b8,b9,b10⟩)
theorem Gr.ss (a:Gr el n c h v L):Ss n c h v L:=by
 rcases a with⟨rfl,rfl⟩|⟨id,g,off,fin,rfl,rfl,h1,h2⟩|⟨id,g,cap,Aj,rfl,a1,a2,a3,a4,a5,a6,a7,a8,a9,a10,a11⟩
 ·exact .inl ⟨rfl,rfl⟩
 ·exact .inr ⟨id,g,off,fin,_,rfl,by simpa using h1,h2,fun e=>absurd rfl e,fun i y hy=>by simp at hy⟩
 ·refine .inr ⟨id,g,0,_,cap,rfl,by omega,a4,fun _=>⟨Aj,a5,a6⟩,fun i y hy=>?_⟩
  unfold Ev.cell Gv
  rw[a5]
  show(if Aj.min<=g then Aj.cells.BK (0+i)else none)=_
  rw[if_pos a6,Nat.zero_add]
  exact a11 i y hy
theorem Gr.lt (a:Gr el n c h v L):∀ q,Ao v q->B.val q<B.val h.next:=by
 rcases a with⟨rfl,rfl⟩|⟨id,g,off,fin,rfl,rfl,h1,h2⟩|⟨id,g,cap,Aj,rfl,a1,a2,a3,a4,_⟩
 ·rintro q ⟨_,_,_,_,_,e⟩;cases e
 ·rintro q ⟨_,_,_,_,_,e⟩;cases e;exact h2
 ·rintro q ⟨_,_,_,_,_,e⟩;cases e;exact a4
theorem Gr.stay {p:B->Prop} (a:Gr el n c h v L) (s:AT p h h') (hp:∀ q,Ao v q->¬p q):Gr el n c h' v L:=by
 rcases a with⟨rfl,rfl⟩|⟨id,g,off,fin,rfl,rfl,h1,h2⟩|⟨id,g,cap,Aj,rfl,a1,a2,a3,a4,a5,a6⟩
 ·exact .inl ⟨rfl,rfl⟩
 ·exact .inr (.inl ⟨id,g,off,fin,rfl,rfl,h1,Nat.lt_of_lt_of_le h2 s.next⟩)
 ·exact .inr (.inr ⟨id,g,cap,Aj,rfl,a1,a2,by rw[s.floor];exact a3,Nat.lt_of_lt_of_le a4 s.next,(s.get id a4 (hp id ⟨_,_,_,_,_,rfl⟩)).trans a5,a6⟩)
theorem Gr.grow (a:Gr el n c h v L) (s:AT AQ h h'):Gr el n c h' v L:=a.stay s fun _ _ e=>e
/--a store into a block -/
theorem K3 {id:B} {g off fin:Nat} {Aj:Gk} (h0:h.heap.get id=some Aj) (h1:Aj.cur=g) (h2:Aj.min<=g) (h3:Aj.fr=0) (h4:B.val h.floor<=B.val id) (hj:off+vs.length<=fin) (hfit:off+vs.length<2 ^ 37) (ho:B2 vs=true):
 ∃ h' tr,(∀ k,store h id g off fin vs k=k h')/\h'.heap.get id=some ⟨g,g,Aj.size,tr,Aj.el,0⟩/\(∀ i y,vs[i]? =some y->tr.BK (off+i)=some y)/\(∀ i,i<off\/off+vs.length<=i->tr.BK i=Aj.cells.BK i)/\AT (fun q=>q=id) h h'/\h'.next=h.next:=by
 obtain⟨next,floor,heap⟩:=h
 obtain⟨cur,min,sz,cells,bel,fr⟩:=Aj
 simp only at h1 h2 h3 h4
 subst h1;subst h3
 obtain⟨tr,t1,t2,t3⟩:=Bp vs off cells (by omega)
 obtain⟨hp,s1,s2,s3⟩:=Bs id (⟨cur,cur,sz,tr,bel,0⟩:Gk) heap
 have e1:B.KM floor id=true:=by cases floor<;>first|rfl|(show Nat.ble _ _=true;rw[Nat.ble_eq];exact h4)
 have e2:Nat.ble (Nat.add off vs.length) fin=true:=by rw[Nat.ble_eq];exact hj
 have e4:G8 0 off=true:=rfl
 have e5:Nat.beq cur cur=true:=Nat.beq_refl cur
 have e6:Nat.ble min cur=true:=by rw[Nat.ble_eq];exact h2
 have h0':heap.get id=some ⟨cur,min,sz,cells,bel,0⟩:=h0
 refine⟨⟨next,floor,hp⟩,tr,fun k=>?_,s2,t2,fun i hi=>t3 i hi,⟨rfl,Nat.le_refl _,fun q _ hq=>s3 q hq⟩,rfl⟩
 simp only[store,CG,h0',Ak,BC,e5,e6,e1,e2,ho,e4,AG]
 rw[t1,s1]
/--l[j]=y -/
theorem ST.gr {y:α} (a:Gr el n c h v L) (hc:∀ e,(c e).length=n) (hn:1<=n) (hj:j<L.length) (hl:L.length*n<2 ^ 36) (h1:B2 (c y)=true)
 (k:∀ h',Gr el n c h' v (L.set j y)->AT (Ao v) h h'->N.go P (.tu []) h'):ST P n (.p (FV v) (lg v) (Ce v+j*n) (Cf v)) (.a (c y)) h N:=by
 rcases a with⟨rfl,rfl⟩|⟨id,g,off,fin,rfl,rfl,_⟩|⟨id,g,cap,Aj,rfl,a1,a2,a3,a4,a5,a6,a7,a8,a9,a10,a11⟩
 ·simp at hj
 ·simp at hj
 have hjn:(j+1)*n<=L.length*n:=Nat.mul_le_mul_right n hj
 rw[Nat.add_mul]at hjn
 obtain⟨h',tr,b1,b2,b3,b4,b5,b6⟩:=K3 (off:=j*n) (fin:=L.length*n) (vs:=c y) a5 a7 a6 a10 a3 (by rw[hc];omega) (by rw[hc];omega) h1
 refine DJ (v:=.tu []) (h':=h') (fun k=>?_) (k h' (.inr (.inr ⟨id,g,cap,_,by rw[List.length_set],by rw[Cw hc,List.length_set],by rw[List.length_set];exact a2,by rw[b5.floor];exact a3,by rw[b6];exact a4,b2,Nat.le_refl _,rfl,by rw[List.length_set];exact a8,a9,rfl,fun i z hz=>?_⟩)) (b5.mono fun q _ e=>by rw[e];exact⟨_,_,_,_,_,rfl⟩))
 ·show Ap (Nat.beq (c y).length n) (fun _=>store h id g (0+j*n) (L.length*n) (c y) fun h=>k (.tu []) h)=_
  rw[hc,Nat.beq_refl,AG,Nat.zero_add,b1]
 ·show tr.BK i=some z
  have hil:i<L.length*n:=by
   have h1:=(List.getElem?_eq_some_iff.1 hz).1
   rw[Cw hc,List.length_set]at h1;exact h1
  have hd:i%n<n:=Nat.mod_lt _ hn
  have hi:i=i/n*n+i%n:=by rw[Nat.mul_comm];exact(Nat.div_add_mod i n).symm
  have hq:i/n<L.length:=(Nat.div_lt_iff_lt_mul hn).2 hil
  generalize i/n=q at*
  generalize i%n=d at*
  subst hi
  rw[K9 hc (by rw[List.length_set];exact hq) hd]at hz
  by_cases e:q=j
  ·subst e
   have hdl:d<(c y).length:=by rw[hc];exact hd
   have:(L.set q y).getD q default=y:=by simp[List.getD,hq]
   rw[this]at hz
   rw[b3 d ((c y).getD d .u) (by simp[List.getD,hdl]),hz]
  ·have:(L.set j y).getD q default=L.getD q default:=by
    rw[List.getD_eq_getElem?_getD,List.getElem?_set_ne (fun h=>e h.symm),<-List.getD_eq_getElem?_getD]
   rw[this]at hz
   rw[b4]
   ·exact a11 _ _ (by rw[K9 hc hq hd];exact hz)
   ·rw[hc]
    rcases Nat.lt_or_gt_of_ne e with h|h
    ·have:(q+1)*n<=j*n:=Nat.mul_le_mul_right n h
     rw[Nat.add_mul]at this;omega
    ·have:(j+1)*n<=q*n:=Nat.mul_le_mul_right n h
     rw[Nat.add_mul]at this;omega
/--append -/
theorem AP.gr (a:Gr el n c h v L) (hc:∀ e,(c e).length=n) (hn:1<=n) (hx:∀ k:Nat->List V->Bool,DC n x h k=k X.length (X.flatMap c)) (h1:B2 (X.flatMap c)=true) (hpos:1<=L.length+X.length) (hb:(L.length+X.length)*n<=1048576) (hf:B.val h.floor<=B.val h.next)
 (k:∀ v' h',Gr el n c h' v' (L++X)->AT (Ao v) h h'->(∀ i,Ao v' i->Ao v i\/B.val h.next<=B.val i)->N.go P v' h'):AP P el n v x h N:=by
 have hXl:(X.flatMap c).length=X.length*n:=Cw hc X
 rw[Nat.add_mul]at hb
 have hXle:X.length<=X.length*n:=Nat.le_mul_of_pos_right _ hn
 have hLle:L.length<=L.length*n:=Nat.le_mul_of_pos_right _ hn
 rcases a with⟨rfl,rfl⟩|⟨id,g,off,fin,rfl,rfl,h2,h3⟩|⟨id,g,cap,Aj,rfl,a1,a2,a3,a4,a5,a6,a7,a8,a9,a10,a11⟩
 ·refine AP.buf (vs:=X.flatMap c) (Eh:=X.length) (Fq.nil h el n) hx hf hn hXl h1 (by rw[hXl,List.length_nil];omega) fun v' h' b s hv tp=>k v' h' (Gr.buf (by simpa using b) tp hc hn) s hv
 ·refine AP.e1 hx hf hXl (by omega) (by omega) (fun e=>by rw[List.length_nil]at hpos;omega) fun h' _ s nx b tp=>k _ h' (Gr.buf (by simpa using b) tp hc hn) (s.mono fun _ _ e=>e.elim) fun i hi=>?_
  obtain⟨_,_,_,_,_,e⟩:=hi;cases e;exact .inr (Nat.le_refl _)
 ·obtain⟨next,floor,heap⟩:=h
  obtain⟨cur,min,sz,cells,bel,fr⟩:=Aj
  simp only at a6 a7 a8 a9 a10
  subst a7;subst a10;subst a9
  obtain⟨tr,t1,t2,t3⟩:=Bp (X.flatMap c) (L.length*n) cells (by omega)
  obtain⟨min',hmin⟩:∃ m',QN (Nat.beq (L.length*n) sz) min (Nat.succ cur)=m':=⟨_,rfl⟩
  have hmin2:min'<=cur+1:=by
   rw[<-hmin]
   cases Nat.beq (L.length*n) sz with
   |true=>show min<=cur+1;omega
   |false=>exact Nat.le_refl _
  obtain⟨hp,s1,s2,s3⟩:=Bs id (⟨Nat.succ cur,min',Nat.add (L.length*n) (Nat.mul X.length n),tr,bel,0⟩:Gk) heap
  have e1:Nat.ble min cur=true:=by rw[Nat.ble_eq];exact a6
  have e2:B.KM floor id=true:=by cases floor<;>first|rfl|(show Nat.ble _ _=true;rw[Nat.ble_eq];exact a3)
  have e3:Nat.add 0 (Nat.mul L.length n)=L.length*n:=by show 0+L.length*n=_;omega
  have e3':Nat.ble (L.length*n) sz=true:=by rw[Nat.ble_eq];exact a8
  have e4:Nat.beq (L.length*n) (L.length*n)=true:=Nat.beq_refl _
  have e6:Nat.ble (Nat.add L.length X.length) 1048576=true:=by rw[Nat.ble_eq];show L.length+X.length<=1048576;omega
  have e7:G8 0 (L.length*n)=true:=rfl
  have e8:Nat.beq bel bel=true:=Nat.beq_refl _
  have e9:Lb n (Nat.add L.length X.length)=none:=J5 (by show 1<=L.length+X.length;omega)
  have b5':heap.get id=some ⟨cur,min,sz,cells,bel,0⟩:=a5
  have go:∀ z,z=true->∀ k,CN z bel id cur 0 L.length (L.length*n) n X.length (X.flatMap c) ⟨next,floor,heap⟩ k=k (.l id (Nat.succ cur) 0 (L.length+X.length) (L.length*n+X.length*n) none) ⟨next,floor,hp⟩:=fun z hz k=>by
   subst hz
   simp only[CN,CG,b5',Ak,BC,A1,e3,e1,e2,e3',e4,e6,h1,e7,e8,e9,AG,hmin]
   rw[t1,s1];rfl
  have go2:∀ q,CM bel n (.l id cur 0 L.length (L.length*n) cap) X.length (X.flatMap c) ⟨next,floor,heap⟩ q=q (.l id (Nat.succ cur) 0 (L.length+X.length) (L.length*n+X.length*n) none) ⟨next,floor,hp⟩:=fun q=>by
   rcases a2 with⟨a2,rfl⟩|⟨a2,rfl⟩
   ·exact go _ (by rw[Nat.ble_eq];exact a2) q
   ·show Ay (BM (18446744073709551615+n)) (fun _=>CN (UM (Nat.ble 1 L.length) (Nat.beq (18446744073709551615+n) (Nat.add 18446744073709551615 n))) bel id cur 0 L.length (L.length*n) n X.length (X.flatMap c) ⟨next,floor,heap⟩ q) _=_
    have hfl:BM (18446744073709551615+n)=true:=by show Nat.ble _ _=true;rw[Nat.ble_eq];omega
    rw[hfl,DG]
    refine go _ ?_ q
    rw[show Nat.beq (18446744073709551615+n) (Nat.add 18446744073709551615 n)=true from Nat.beq_refl _]
    cases Nat.ble 1 L.length<;>rfl
  refine DJ (v:=.l id (Nat.succ cur) 0 (L.length+X.length) (L.length*n+X.length*n) none) (h':=⟨next,floor,hp⟩) (fun q=>by rw[hx,go2]) (k _ _ (.inr (.inr ⟨id,cur+1,none,_,?_,?_,.inl ⟨by rw[List.length_append];omega,rfl⟩,a3,a4,s2,hmin2,rfl,?_,rfl,rfl,fun i y hy=>?_⟩)) ⟨rfl,Nat.le_refl _,fun q _ hq=>s3 q fun e=>hq (by rw[e];exact⟨_,_,_,_,_,rfl⟩)⟩ fun i hi=>?_)
  ·rw[List.length_append,Nat.add_mul]
  ·rw[List.flatMap_append,List.length_append,List.length_append,a1,hXl,Nat.add_mul]
  ·show(L++X).length*n<=L.length*n+X.length*n
   rw[List.length_append,Nat.add_mul];exact Nat.le_refl _
  ·show tr.BK i=some y
   rw[List.flatMap_append]at hy
   by_cases hi:i<L.length*n
   ·rw[t3 i (.inl hi)]
    refine a11 i y ?_
    rwa [List.getElem?_append_left (by rw[a1];exact hi)]at hy
   ·rw[List.getElem?_append_right (by rw[a1];omega),a1]at hy
    have:=t2 (i-L.length*n) y hy
    rwa [show L.length*n+(i-L.length*n)=i by omega]at this
  ·obtain⟨_,_,_,_,_,e⟩:=hi;cases e;exact .inl ⟨_,_,_,_,_,rfl⟩
/--v[:k] -/
theorem Gr.hi (a:Gr el n c h v L) (hc:∀ e,(c e).length=n) (hk:k<=L.length) (hL:1<=L.length):∃ u,Gr el n c h u (L.take k)/\(∀ q,Ao u q->Ao v q)/\∀ (g:H) (N:Nx),H2 P (FO n) v (.i .i64 (k:Int)) g N=N.go P u g:=by
 rcases a with⟨rfl,rfl⟩|⟨id,g,off,fin,rfl,rfl,_⟩|⟨id,g,cap,Aj,rfl,a1,a2,a3,a4,a5,a6,a7,a8,a9,a10,a11⟩
 ·simp at hL
 ·simp at hL
 obtain⟨_,rfl⟩:1<=L.length/\cap=none:=by
  rcases a2 with h|h
  ·exact h
  ·omega
 have htk:(L.take k).length=k:=by rw[List.length_take];omega
 have hkn:k*n<=L.length*n:=Nat.mul_le_mul_right n hk
 refine⟨.l id g 0 k (k*n) (GN n k L.length),.inr (.inr ⟨id,g,GN n k L.length,Aj,by rw[htk],by rw[Cw hc],?_,a3,a4,a5,a6,a7,by rw[htk];omega,a9,a10,fun i y hy=>a11 i y ?_⟩),?_,fun g0 N=>Ah fun q=>?_⟩
 ·rw[htk]
  cases k with
  |zero=>
   right
   refine⟨rfl,?_⟩
   obtain⟨m,hm⟩:∃ m,L.length=m+1:=⟨L.length-1,by omega⟩
   rw[hm];rfl
  |succ k=>left;exact⟨by omega,rfl⟩
 ·rw[JI hc,List.getElem?_take]at hy
  split at hy
  ·exact hy
  ·cases hy
 ·rintro q ⟨_,_,_,_,_,e⟩;cases e;exact⟨_,_,_,_,_,rfl⟩
 ·have e0:Nat.ble 0 k=true:=by rw[Nat.ble_eq];omega
  have e1:Nat.ble k L.length=true:=by rw[Nat.ble_eq];exact hk
  have e2:Nat.beq (L.length*n) (Nat.add 0 (Nat.mul L.length n))=true:=by
   rw[show Nat.add 0 (Nat.mul L.length n)=L.length*n by show 0+L.length*n=_;omega];exact Nat.beq_refl _
  unfold FO
  simp only[C0,Cs,BW,e0,AG]
  show C9 n id g 0 L.length (L.length*n) 0 k q=_
  unfold C9
  rw[e1,AG,e2,AG,A1,A1,A1]
  show q (.l id g (0+0*n) (k-0) (0+k*n) (GN n k L.length))=_
  simp
def wX (P:Program) (z:List V) (x:V) (h:H) (N:Nx):Prop:=HM P (fun k=>vL x (fun _=>k (.tu []) h) fun id g off len fin _=>HC len (fun _=>k (.tu []) h) fun n=>store h id g off fin (DS z n) fun h=>k (.tu []) h) N
theorem QQ {x:O} {z:List V} {t:F}:OR P (Dy z x) t h N=wX P z (oV x t) h N:=FE fun cf k=>by simp only[Dy,Aq]
theorem IA (e:α):∀ m,DS (c e) m=(List.replicate m e).flatMap c
 |0=>rfl
 |m+1=>by rw[List.replicate_succ,List.flatMap_cons,<-IA e m];show app (c e) (DS (c e) m)=_;rw[DZ]
/--clear(v[k:]) -/
theorem Gr.xc {z:α} (a:Gr el n c h v L) (hc:∀ e,(c e).length=n) (hn:1<=n) (hk:k<L.length) (hl:L.length*n<2 ^ 36) (h1:∀ m,B2 (DS (c z) m)=true):
 ∃ u,(∀ (g:H) (N:Nx),H2 P (E1 n) v (.i .i64 (k:Int)) g N=N.go P u g)/\∀ N:Nx,(∀ h',Gr el n c h' v (L.take k++List.replicate (L.length-k) z)->AT (Ao v) h h'->N.go P (.tu []) h')->wX P (c z) u h N:=by
 rcases a with⟨rfl,rfl⟩|⟨id,g,off,fin,rfl,rfl,_⟩|⟨id,g,cap,Aj,rfl,a1,a2,a3,a4,a5,a6,a7,a8,a9,a10,a11⟩
 ·simp at hk
 ·simp at hk
 obtain⟨_,rfl⟩:1<=L.length/\cap=none:=by
  rcases a2 with h|h
  ·exact h
  ·omega
 have hkn:k*n+(L.length-k)*n=L.length*n:=by rw[<-Nat.add_mul];congr 1;omega
 refine⟨.l id g (k*n) (L.length-k) (L.length*n) none,fun g0 N=>Ah fun q=>?_,fun N kk=>?_⟩
 ·have e0:Nat.ble k L.length=true:=by rw[Nat.ble_eq];omega
  have e1:Nat.ble L.length L.length=true:=by rw[Nat.ble_eq];exact Nat.le_refl _
  have e2:Nat.beq (L.length*n) (Nat.add 0 (Nat.mul L.length n))=true:=by
   rw[show Nat.add 0 (Nat.mul L.length n)=L.length*n by show 0+L.length*n=_;omega];exact Nat.beq_refl _
  unfold E1
  simp only[C0,Cs,BW,e0,AG]
  show C9 n id g 0 L.length (L.length*n) k L.length q=_
  unfold C9
  rw[e1,AG,e2,AG,A1,A1,A1,H9]
  show q (.l id g (0+k*n) (L.length-k) (0+L.length*n) none)=_
  simp
 ·have hrl:(DS (c z) (L.length-k)).length=(L.length-k)*n:=by rw[D4,hc]
  obtain⟨h',tr,b1,b2,b3,b4,b5,b6⟩:=K3 (off:=k*n) (fin:=L.length*n) (vs:=DS (c z) (L.length-k)) a5 a7 a6 a10 a3 (by rw[hrl];omega) (by rw[hrl];omega) (h1 _)
  have hlen:(L.take k++List.replicate (L.length-k) z).length=L.length:=by simp;omega
  refine DJ (v:=.tu []) (h':=h') (fun q=>?_) (kk h' (.inr (.inr ⟨id,g,none,_,by rw[hlen],by rw[Cw hc],.inl ⟨by rw[hlen];omega,rfl⟩,by rw[b5.floor];exact a3,by rw[b6];exact a4,b2,Nat.le_refl _,rfl,by rw[hlen];exact a8,a9,rfl,fun i y hy=>?_⟩)) (b5.mono fun q _ e=>by rw[e];exact⟨_,_,_,_,_,rfl⟩))
  ·show HC (L.length-k) _ _=_
   obtain⟨m,hm⟩:∃ m,L.length-k=m+1:=⟨L.length-k-1,by omega⟩
   rw[hm]
   show store h id g (k*n) (L.length*n) (DS (c z) (m+1)) (fun h=>q (.tu []) h)=_
   rw[<-hm,b1]
  ·show tr.BK i=some y
   rw[List.flatMap_append,<-IA]at hy
   have hkl:((L.take k).flatMap c).length=k*n:=by rw[Cw hc,List.length_take];congr 1;omega
   by_cases hi:i<k*n
   ·rw[b4 i (.inl hi)]
    refine a11 i y ?_
    rw[List.getElem?_append_left (by rw[hkl];exact hi),JI hc,List.getElem?_take,if_pos hi]at hy
    exact hy
   ·rw[List.getElem?_append_right (by rw[hkl];omega),hkl]at hy
    have:=b3 (i-k*n) y hy
    rwa [show k*n+(i-k*n)=i by omega]at this
end
end Go.Ev
namespace Go.Ev
open Go
/--digits that are no number -/
def oG (l:List UInt8):Prop:=l.head? =some 0\/9223372036854775808<=pk l
instance (l:List UInt8):Decidable (oG l):=by unfold oG;exact inferInstance
end Go.Ev
namespace Go.Ev
open Go
structure eK where
 key:List UInt8
 seq:Int
 del:Bool
 val:List UInt8
deriving DecidableEq
def ue:eK:=⟨[],0,false,[]⟩
instance:Inhabited eK:=⟨ue⟩
def qx (e:eK):List V:=[sv e.key,.i .i64 e.seq,.b e.del,sv e.val]
theorem HU (e:eK):(qx e).length=4:=rfl
def Es (h:H) (v:V) (L:List eK):Prop:=Ss 4 qx h v L
section
variable {P:Program} {h h' g':H} {N:Nx} {v:V} {L:List eK} {i d:Nat}
theorem Es.l0 (a:Es h v L) (hi:i<L.length):L1 P (FV v) (lg v) (Ce v+i*4) (Cf v) h N=N.go P (sv (L.getD i default).key) h:=Ss.ld (d:=0) a HU hi (by omega)
theorem Es.l1 (a:Es h v L) (hi:i<L.length):L1 P (FV v) (lg v) (Ce v+i*4+1) (Cf v) h N=N.go P (.i .i64 (L.getD i default).seq) h:=Ss.ld (d:=1) a HU hi (by omega)
theorem Es.l2 (a:Es h v L) (hi:i<L.length):L1 P (FV v) (lg v) (Ce v+i*4+2) (Cf v) h N=N.go P (.b (L.getD i default).del) h:=Ss.ld (d:=2) a HU hi (by omega)
theorem Es.l3 (a:Es h v L) (hi:i<L.length):L1 P (FV v) (lg v) (Ce v+i*4+3) (Cf v) h N=N.go P (sv (L.getD i default).val) h:=Ss.ld (d:=3) a HU hi (by omega)
theorem Es.grow (a:Es h v L) (s:AT AQ h h'):Es h' v L:=Ss.grow a s
end
section
variable {k v:List UInt8} {d:Bool}
end
theorem Dc {x y:UInt8} {a b:List UInt8}:Op.bytesLess (x::a) (y::b)=true↔x.toNat<y.toNat\/(x=y/\Op.bytesLess a b=true):=by
 simp only[Op.bytesLess,Bool.or_eq_true,Bool.and_eq_true,decide_eq_true_eq,beq_iff_eq,UInt8.lt_iff_toNat_lt]
theorem J6:∀ l:List UInt8,Op.bytesLess l l=false
 |[]=>rfl
 |c::l=>by
  cases h:Op.bytesLess (c::l) (c::l)with
  |false=>rfl
  |true=>
   rcases Dc.1 h with h|⟨_,h⟩
   ·omega
   ·rw[J6 l]at h;cases h
theorem Jq:∀ {a b c:List UInt8},Op.bytesLess a b=true->Op.bytesLess b c=true->Op.bytesLess a c=true
 |a,[],c,h,_=>by cases a<;>cases h
 |_,_::_,[],_,h=>by cases h
 |[],_::_,_::_,_,_=>rfl
 |x::a,y::b,z::c,h,g=>by
  rcases Dc.1 h with h1|⟨h1,h2⟩<;>rcases Dc.1 g with g1|⟨g1,g2⟩
  ·exact Dc.2 (.inl (by omega))
  ·exact Dc.2 (.inl (by rw[<-g1];exact h1))
  ·exact Dc.2 (.inl (by rw[h1];exact g1))
  ·exact Dc.2 (.inr ⟨h1.trans g1,Jq h2 g2⟩)
theorem Ls {a b:List UInt8} (h:Op.bytesLess a b=true):Op.bytesLess b a=false:=by
 cases g:Op.bytesLess b a with
 |false=>rfl
 |true=>have:=Jq h g;rw[J6]at this;cases this
theorem Hp:∀ {a b:List UInt8},a≠b->Op.bytesLess a b=true\/Op.bytesLess b a=true
 |[],[],h=>absurd rfl h
 |[],_::_,_=>.inl rfl
 |_::_,[],_=>.inr rfl
 |x::a,y::b,h=>by
  by_cases e:x=y
  ·subst e
   rcases Hp (a:=a) (b:=b) (fun e=>h (by rw[e]))with g|g
   ·exact .inl (Dc.2 (.inr ⟨rfl,g⟩))
   ·exact .inr (Dc.2 (.inr ⟨rfl,g⟩))
  ·have:x.toNat≠y.toNat:=fun g=>e (UInt8.toNat_inj.1 g)
   rcases Nat.lt_or_ge x.toNat y.toNat with g|g
   ·exact .inl (Dc.2 (.inl g))
   ·exact .inr (Dc.2 (.inl (by omega)))
section
variable {s k v:List UInt8} {n m j:Nat} {q e:Int}
end
end Go.Ev
namespace Go.Ev
open Go
structure BU where
 id:Int
 BI:Int
 fst:List UInt8
 Ew:List UInt8
 Eh:Int
deriving DecidableEq
def dP:BU:=⟨0,0,[],[],0⟩
instance:Inhabited BU:=⟨dP⟩
def HW (t:BU):List V:=[.i .i64 t.id,.i .i64 t.BI,sv t.fst,sv t.Ew,.i .i64 t.Eh]
theorem Bj (t:BU):(HW t).length=5:=rfl
def Eu (h:H) (v:V) (L:List BU):Prop:=Ss 5 HW h v L
section
variable {P:Program} {h h' g':H} {N:Nx} {v:V} {L:List BU} {i d:Nat}
theorem Eu.ln (a:Eu h v L):H1 P Ml v g' N=N.go P (.i .i64 (L.length:Int)) g':=Ss.ln a
theorem Eu.ix (a:Eu h v L) (hi:i<L.length):IX P 5 v i g' N=N.go P (.p (FV v) (lg v) (Ce v+i*5) (Cf v)) g':=Ss.ix a hi
theorem Eu.l0 (a:Eu h v L) (hi:i<L.length):L1 P (FV v) (lg v) (Ce v+i*5) (Cf v) h N=N.go P (.i .i64 (L.getD i default).id) h:=Ss.ld (d:=0) a Bj hi (by omega)
theorem Eu.l1 (a:Eu h v L) (hi:i<L.length):L1 P (FV v) (lg v) (Ce v+i*5+1) (Cf v) h N=N.go P (.i .i64 (L.getD i default).BI) h:=Ss.ld (d:=1) a Bj hi (by omega)
theorem Eu.l2 (a:Eu h v L) (hi:i<L.length):L1 P (FV v) (lg v) (Ce v+i*5+2) (Cf v) h N=N.go P (sv (L.getD i default).fst) h:=Ss.ld (d:=2) a Bj hi (by omega)
theorem Eu.l3 (a:Eu h v L) (hi:i<L.length):L1 P (FV v) (lg v) (Ce v+i*5+3) (Cf v) h N=N.go P (sv (L.getD i default).Ew) h:=Ss.ld (d:=3) a Bj hi (by omega)
theorem Eu.la (a:Eu h v L) (hi:i<L.length):LN P (FV v) (lg v) (Ce v+i*5) (Cf v) 5 h N=N.go P (.a [.i .i64 (L.getD i default).id,.i .i64 (L.getD i default).BI,sv (L.getD i default).fst,sv (L.getD i default).Ew,.i .i64 (L.getD i default).Eh]) h:=Ss.xa a Bj (by omega) hi
theorem Eu.grow (a:Eu h v L) (s:AT AQ h h'):Eu h' v L:=Ss.grow a s
end
def ME (a b:Int):Int:=if a<b then -1 else if b<a then 1 else 0
/--how two are held against each other -/
def J7 (a b:BU):Int:=if a.BI=b.BI then (if a.BI=0 then ME b.id a.id else I4 (decide (a.fst=b.fst)) (Op.bytesLess a.fst b.fst))else ME a.BI b.BI
def G1 (a b:BU):Bool:=if a.BI=b.BI then (if a.BI=0 then decide (b.id<a.id)else Op.bytesLess a.fst b.fst)else decide (a.BI<b.BI)
theorem OI {a b:Int}:(ME a b<0)=(a<b):=by
 unfold ME
 by_cases h1:a<b
 ·rw[if_pos h1];simp[h1]
 ·rw[if_neg h1]
  by_cases h2:b<a
  ·rw[if_pos h2];simp;omega
  ·rw[if_neg h2];simp;omega
theorem cg {a b:List UInt8} (h:Op.bytesLess a b=true):a≠b:=fun e=>by rw[e,J6]at h;cases h
theorem OS {a b:BU}:(J7 a b<0)=(G1 a b=true):=by
 unfold J7 G1
 by_cases h1:a.BI=b.BI
 ·rw[if_pos h1,if_pos h1]
  by_cases h2:a.BI=0
  ·rw[if_pos h2,if_pos h2,OI];simp
  ·rw[if_neg h2,if_neg h2]
   cases hb:Op.bytesLess a.fst b.fst with
   |true=>rw[decide_eq_false (cg hb)];exact propext ⟨fun _=>rfl,fun _=>by decide⟩
   |false=>
    by_cases e:a.fst=b.fst
    ·rw[decide_eq_true e];exact propext ⟨fun h=>absurd h (by decide),fun h=>by cases h⟩
    ·rw[decide_eq_false e];exact propext ⟨fun h=>absurd h (by decide),fun h=>by cases h⟩
 ·rw[if_neg h1,if_neg h1,OI];simp
theorem aH {a b:BU} (h:G1 a b=true):(J7 a b<0)=True:=by rw[OS,h];simp
theorem Xe {a b:BU} (h:G1 a b=false):(J7 a b<0)=False:=by rw[OS,h];simp
theorem Hf {a b:BU} (h:G1 a b=true):G1 b a=false:=by
 unfold G1 at*
 by_cases h1:a.BI=b.BI
 ·rw[if_pos h1]at h
  rw[if_pos h1.symm]
  by_cases h2:a.BI=0
  ·rw[if_pos h2]at h;rw[if_pos (by omega)];simp at h⊢;omega
  ·rw[if_neg h2]at h;rw[if_neg (by omega)];exact Ls h
 ·rw[if_neg h1]at h;rw[if_neg (Ne.symm h1)];simp at h⊢;omega
theorem RU {a b c:List UInt8} (h1:Op.bytesLess a b=false) (h2:Op.bytesLess b c=false):Op.bytesLess a c=false:=by
 cases h:Op.bytesLess a c with
 |false=>rfl
 |true=>
  exfalso
  by_cases e1:a=b
  ·subst e1;rw[h]at h2;cases h2
  ·rcases Hp e1 with h3|h3
   ·rw[h3]at h1;cases h1
   ·by_cases e2:b=c
    ·subst e2;rw[h]at h1;cases h1
    ·rw[Jq h3 h]at h2;cases h2
theorem Rg {a b c:BU} (h1:G1 a b=false) (h2:G1 b c=false):G1 a c=false:=by
 unfold G1 at*
 by_cases e1:a.BI=b.BI
 ·rw[if_pos e1]at h1
  by_cases e2:b.BI=c.BI
  ·rw[if_pos e2]at h2;rw[if_pos (e1.trans e2)]
   by_cases e3:a.BI=0
   ·rw[if_pos e3]at h1⊢;rw[if_pos (by omega)]at h2;simp at h1 h2⊢;omega
   ·rw[if_neg e3]at h1⊢;rw[if_neg (by omega)]at h2;exact RU h1 h2
  ·rw[if_neg e2]at h2;rw[if_neg (by omega)];simp at h2⊢;omega
 ·rw[if_neg e1]at h1
  by_cases e2:b.BI=c.BI
  ·rw[if_neg (by omega)];simp at h1⊢;omega
  ·rw[if_neg e2]at h2
   simp at h1 h2
   rw[if_neg (by omega)];simp;omega
/--of two of L,by their places -/
def CZ (L:List BU) (x y:Nat):Bool:=G1 (L.getD x default) (L.getD y default)
theorem De (L:List BU):Ord (CZ L):=⟨fun h=>Hf h,fun h1 h2=>Rg h1 h2⟩
theorem Dr {L:List BU} {x y:Nat} (h:CZ L x y=true):(J7 (L.getD x default) (L.getD y default)<0)=True:=aH h
theorem Dt {L:List BU} {x y:Nat} (h:CZ L x y=false):(J7 (L.getD x default) (L.getD y default)<0)=False:=Xe h
end Go.Ev
namespace Go.Ev
open Go
structure Jk where
 gone:List Int
 Al:List BU
 log:Int
 seq:Int
instance:Inhabited Jk:=⟨⟨[],[],0,0⟩⟩
structure IM where
 L:List BU
 log:Int
 seq:Int
 next:Int
def cQ:IM:=⟨[],1,0,1⟩
def Fe (t:BU):Bool:=decide (1<=t.id/\t.id<=1000000/\(t.BI=0\/t.BI=1)/\(1<=t.fst.length/\t.fst.length<=13)/\(1<=t.Ew.length/\t.Ew.length<=13)/\Op.bytesLess t.Ew t.fst=false/\1<=t.Eh)
theorem D6 {t:BU}:Fe t=true↔(1<=t.id/\t.id<=1000000/\(t.BI=0\/t.BI=1)/\(1<=t.fst.length/\t.fst.length<=13)/\(1<=t.Ew.length/\t.Ew.length<=13)/\Op.bytesLess t.Ew t.fst=false/\1<=t.Eh):=by unfold Fe;exact decide_eq_true_iff
theorem R9 {a b:List UInt8}:(Op.bytesLess a b||decide (a=b))=!Op.bytesLess b a:=by
 by_cases e:a=b
 ·rw[e,J6];simp
 ·rw[decide_eq_false e,Bool.or_false]
  rcases Hp e with h|h
  ·rw[h,Ls h];rfl
  ·rw[h,Ls h];rfl
/--the i-th one is a table,its number above the one ahead -/
def NJ (L:List BU) (i:Nat):Bool:=Fe (L.getD i default)&&(decide (i=0)||decide ((L.getD (i-1) default).id<(L.getD i default).id))
def IT (L:List BU) (i:Nat):Bool:=(List.range i).all (NJ L)
theorem Ii (L:List BU) (i:Nat):IT L (i+1)=(IT L i&&NJ L i):=by unfold IT;rw[List.range_succ,List.all_append];simp
theorem Oq {L:List BU} {i:Nat} (h:IT L i=true) {j:Nat} (hj:j<i):NJ L j=true:=(List.all_eq_true.1 h) j (List.mem_range.2 hj)
theorem Uj {L:List BU} {i n:Nat} (hi:i<n) (h:NJ L i=false):IT L n=false:=List.all_eq_false.2 ⟨i,List.mem_range.2 hi,by rw[h];simp⟩
def KP (e:Jk):Bool:=decide (e.gone.length<=40)&&decide (e.Al.length<=40)&&IT e.Al e.Al.length&&decide (0<=e.log/\e.log<=1000000)&&decide (0<=e.seq/\e.seq<=1000000)
structure cw (e:Jk):Prop where
 yQ:e.gone.length<=40
 yU:e.Al.length<=40
 up:IT e.Al e.Al.length=true
 l0:0<=e.log
 l1:e.log<=1000000
 s0:0<=e.seq
 s1:e.seq<=1000000
theorem GV {e:Jk}:KP e=true↔cw e:=by
 unfold KP
 simp only[Bool.and_eq_true,decide_eq_true_eq]
 exact⟨fun⟨⟨⟨⟨a,b⟩,c⟩,d⟩,f⟩=>⟨a,b,c,d.1,d.2,f.1,f.2⟩,fun h=>⟨⟨⟨⟨h.yQ,h.yU⟩,h.up⟩,h.l0,h.l1⟩,h.s0,h.s1⟩⟩
theorem Dx {α:Type} [Inhabited α] {L:List α} {i:Nat} (h:i<L.length):L.getD i default∈L:=by
 rw[List.getD_eq_getElem?_getD,List.getElem?_eq_getElem h];exact List.getElem_mem h
theorem Hc {α:Type} [Inhabited α] {L:List α} {x:α} (h:x∈L):∃ i,i<L.length/\L.getD i default=x:=by
 obtain⟨i,hi,e⟩:=List.mem_iff_getElem.1 h
 exact⟨i,hi,by rw[List.getD_eq_getElem?_getD,List.getElem?_eq_getElem hi];exact e⟩
theorem cw.tb {e:Jk} (h:cw e):∀ t∈e.Al,Fe t=true:=fun t ht=>by
 obtain⟨i,hi,rfl⟩:=Hc ht
 have:=Oq h.up hi
 unfold NJ at this;rw[Bool.and_eq_true]at this;exact this.1
theorem cw.lt {e:Jk} (h:cw e):∀ j i,i<j->j<e.Al.length->(e.Al.getD i default).id<(e.Al.getD j default).id:=by
 intro j
 induction j with
 |zero=>intro i hi;omega
 |succ j ih=>
  intro i hi hj
  have:=Oq h.up hj
  unfold NJ at this
  rw[Bool.and_eq_true,Bool.or_eq_true]at this
  have h2:(e.Al.getD j default).id<(e.Al.getD (j+1) default).id:=by
   rcases this.2 with h|h
   ·simp at h
   ·simpa using h
  by_cases e1:i=j
  ·rw[e1];exact h2
  ·have:=ih i (by omega) (by omega);omega
def D1 (a b:BU):Bool:=decide (a.BI=1/\b.BI=1/\Op.bytesLess b.Ew a.fst=false/\Op.bytesLess a.Ew b.fst=false)
theorem HD {a b:BU}:D1 a b=D1 b a:=by
 unfold D1
 apply decide_eq_decide.2
 exact⟨fun⟨a,b,c,d⟩=>⟨b,a,d,c⟩,fun⟨a,b,c,d⟩=>⟨b,a,d,c⟩⟩
def DY (L:List BU):Prop:=L.Pairwise fun a b=>D1 a b=false
theorem DY.perm {L M:List BU} (p:L.Perm M):DY L↔DY M:=p.pairwise_iff fun h=>by rw[HD];exact h
/--in order,no two alike -/
def Vd (L:List BU):Prop:=L.Pairwise fun a b=>G1 a b=true
theorem Q6:∀ {L M:List BU},Vd L->Vd M->L.Perm M->L=M
 |[],M,_,_,p=>(List.Perm.nil_eq p)
 |a::L,[],_,_,p=>absurd p.length_eq (by simp)
 |a::L,b::M,hL,hM,p=>by
  have hL':=List.pairwise_cons.1 hL
  have hM':=List.pairwise_cons.1 hM
  have e:a=b:=by
   rcases List.mem_cons.1 (p.mem_iff.1 (List.mem_cons_self))with h|h
   ·exact h
   ·rcases List.mem_cons.1 (p.mem_iff.2 (List.mem_cons_self))with h2|h2
    ·exact h2.symm
    ·have h3:=hM'.1 a h
     have h4:=hL'.1 b h2
     rw[Hf h3]at h4;cases h4
  subst e
  rw[Q6 hL'.2 hM'.2 (List.Perm.cons_inv p)]
def Mp (g:List Int) (id:Int):Bool:=g.any fun x=>decide (x=id)
def B1 (L:List BU) (g:List Int):List BU:=L.filter fun t=>!Mp g t.id
def P4 (L:List BU) (g:List Int):Bool:=g.all fun id=>L.any fun t=>decide (t.id=id)
def Fv (S:IM) (e:Jk):Bool:=(decide (0<e.Al.length)&&decide ((e.Al.getD 0 default).id<S.next))||(decide (0<e.log)&&decide (e.log<S.log))||(decide (0<e.seq)&&decide (e.seq<S.seq))
def IC:List BU->BU->List BU
 |[],t=>[t]
 |u::L,t=>if G1 t u then t::u::L else u::IC L t
def F4:List BU->List BU->Option (List BU)
 |L,[]=>some L
 |L,t::C=>if L.any (fun u=>D1 u t)then none else F4 (IC L t) C
def U8 (S:IM) (e:Jk) (M:List BU):IM:=⟨M,max S.log e.log,max S.seq e.seq,if 0<e.Al.length then (e.Al.getD (e.Al.length-1) default).id+1 else S.next⟩
/--what the document asks -/
def LH (S:IM) (e:Jk):Int×IM:=
 if KP e=false then (10,S)else if P4 S.L e.gone=false then (18,S)else if Fv S e=true then (16,S)else
 match F4 (B1 S.L e.gone) e.Al with
 |none=>(16,S)
 |some M=>if 40<M.length then (25,S)else (0,U8 S e M)
/--what a sheet is -/
structure Wf (S:IM):Prop where
 tb:∀ t∈S.L,Fe t=true
 yF:Vd S.L
 nm:DY S.L
 nx:∀ t∈S.L,t.id<S.next
 n1:1<=S.next/\S.next<=1000001
 lg:0<=S.log/\S.log<=1000000
 sq:0<=S.seq/\S.seq<=1000000
 len:S.L.length<=40
theorem wY:Wf cQ:=⟨(fun t h=>by cases h),List.Pairwise.nil,List.Pairwise.nil,(fun t h=>by cases h),by decide,by decide,by decide,by decide⟩
theorem Hv:∀ (L:List BU) (t:BU),(IC L t).Perm (t::L)
 |[],t=>List.Perm.refl _
 |u::L,t=>by
  unfold IC
  split
  ·exact List.Perm.refl _
  ·exact((Hv L t).cons u).trans (List.Perm.swap t u L)
theorem Oa:∀ {L:List BU} {t:BU},Vd L->(∀ u∈L,G1 t u=true\/G1 u t=true)->Vd (IC L t)
 |[],t,_,_=>List.pairwise_singleton _ _
 |u::L,t,h,ht=>by
  have h':=List.pairwise_cons.1 h
  unfold IC
  split
  ·rename_i hb
   refine List.pairwise_cons.2 ⟨fun x hx=>?_,h⟩
   rcases List.mem_cons.1 hx with rfl|hx
   ·exact hb
   ·have h1:=h'.1 x hx
    cases h2:G1 t x with
    |true=>rfl
    |false=>
     rcases ht x (List.mem_cons_of_mem _ hx)with h3|h3
     ·rw[h3]at h2;cases h2
     ·have:=Rg (Hf hb) (Hf h3)
      rw[h1]at this;cases this
  ·rename_i hb
   refine List.pairwise_cons.2 ⟨fun x hx=>?_,Oa h'.2 fun v hv=>ht v (List.mem_cons_of_mem _ hv)⟩
   rcases List.mem_cons.1 ((Hv L t).mem_iff.1 hx)with rfl|hx
   ·rcases ht u List.mem_cons_self with h3|h3
    ·exact absurd h3 hb
    ·exact h3
   ·exact h'.1 x hx
/--two that don't meet are in order,this way or that -/
theorem lF {a b:BU} (ha:Fe a=true) (hb:Fe b=true) (hn:D1 a b=false) (hi:a.id≠b.id):G1 a b=true\/G1 b a=true:=by
 have ha:=D6.1 ha
 have hb:=D6.1 hb
 unfold G1
 by_cases e:a.BI=b.BI
 ·rw[if_pos e,if_pos e.symm]
  by_cases e0:a.BI=0
  ·rw[if_pos e0,if_pos (by omega)];simp;omega
  ·rw[if_neg e0,if_neg (by omega)]
   by_cases ef:a.fst=b.fst
   ·exfalso
    unfold D1 at hn
    have h1:=ha.2.2.2.2.2.1
    have h2:=hb.2.2.2.2.2.1
    rw[decide_eq_false_iff_not]at hn
    exact hn ⟨by omega,by omega,by rw[ef];exact h2,by rw[<-ef];exact h1⟩
   ·exact Hp ef
 ·rw[if_neg e,if_neg (Ne.symm e)];simp;omega
theorem Hh {L:List BU} {g:List Int} {t:BU} (h:t∈B1 L g):t∈L:=(List.mem_filter.1 h).1
theorem LS:∀ {C L:List BU},Vd L->DY L->(∀ t∈L,Fe t=true)->(∀ t∈C,Fe t=true)->(∀ t∈L,∀ u∈C,t.id≠u.id)->(C.Pairwise fun a b=>a.id≠b.id)->
 (F4 L C=none/\¬DY (L++C))\/∃ M,F4 L C=some M/\M.Perm (L++C)/\Vd M/\DY M
 |[],L,ha,hn,_,_,_,_=>.inr ⟨L,rfl,by rw[List.append_nil],ha,hn⟩
 |t::C,L,ha,hn,hL,hC,hd,hc=>by
  have hc':=List.pairwise_cons.1 hc
  unfold F4
  cases hm:L.any (fun u=>D1 u t)with
  |true=>
   left
   refine⟨by rw[if_pos rfl],fun h=>?_⟩
   obtain⟨u,hu,hut⟩:=List.any_eq_true.1 hm
   have:=(List.pairwise_append.1 h).2.2 u hu t List.mem_cons_self
   rw[hut]at this;cases this
  |false=>
   rw[if_neg (by simp)]
   have hmt:∀ u∈L,D1 u t=false:=fun u hu=>by
    have:=List.any_eq_false.1 hm u hu
    simpa using this
   have hp:=Hv L t
   have hmem:∀ x,x∈IC L t↔x=t\/x∈L:=fun x=>by rw[hp.mem_iff,List.mem_cons]
   have hpp:(IC L t++C).Perm (L++t::C):=(hp.append_right C).trans (List.perm_middle).symm
   have ih:=LS (C:=C) (L:=IC L t) (Oa ha fun u hu=>(lF (hC t List.mem_cons_self) (hL u hu) (by rw[HD];exact hmt u hu) fun e=>hd u hu t List.mem_cons_self e.symm))
    ((DY.perm hp).2 (List.pairwise_cons.2 ⟨fun u hu=>by rw[HD];exact hmt u hu,hn⟩))
    (fun x hx=>by rcases(hmem x).1 hx with rfl|h;exact hC _ List.mem_cons_self;exact hL x h)
    (fun x hx=>hC x (List.mem_cons_of_mem _ hx))
    (fun x hx u hu=>by rcases(hmem x).1 hx with rfl|h;exact hc'.1 u hu;exact hd x h u (List.mem_cons_of_mem _ hu)) hc'.2
   rcases ih with⟨h1,h2⟩|⟨M,h1,h2,h3,h4⟩
   ·exact .inl ⟨h1,fun h=>h2 ((DY.perm hpp).2 h)⟩
   ·exact .inr ⟨M,h1,h2.trans hpp,h3,h4⟩
/--two of a row that is in order meet,one behind the other -/
def Gt (M:List BU) (i:Nat):Bool:=decide (0<i)&&(decide ((M.getD (i-1) default).BI=1)&&!Op.bytesLess (M.getD (i-1) default).Ew (M.getD i default).fst)
def GH (M:List BU):Bool:=(List.range M.length).any (Gt M)
theorem Oo {a b:BU} (h:G1 b a=false):a.BI<=b.BI:=by
 unfold G1 at h
 by_cases e:b.BI=a.BI
 ·omega
 ·rw[if_neg e]at h;simp at h;exact h
theorem PY {M:List BU} (hs:∀ i j,i<j->j<M.length->G1 (M.getD j default) (M.getD i default)=false) (ht:∀ t∈M,Fe t=true):GH M=false↔DY M:=by
 have tb:∀ i,i<M.length->(1<=(M.getD i default).id/\(M.getD i default).id<=1000000/\((M.getD i default).BI=0\/(M.getD i default).BI=1)/\_):=fun i hi=>D6.1 (ht _ (Dx hi))
 constructor
 ·intro h
  refine List.pairwise_iff_getElem.2 fun i j hi hj hij=>?_
  have gi:M[i]=M.getD i default:=by rw[List.getD_eq_getElem?_getD,List.getElem?_eq_getElem hi];rfl
  have gj:M[j]=M.getD j default:=by rw[List.getD_eq_getElem?_getD,List.getElem?_eq_getElem hj];rfl
  rw[gi,gj]
  cases hm:D1 (M.getD i default) (M.getD j default)with
  |false=>rfl
  |true=>
   exfalso
   obtain⟨m1,m2,m3,m4⟩:=of_decide_eq_true hm
   have h1:Gt M (i+1)=true:=by
    unfold Gt
    have ti:(M.getD (i+1) default).BI=1:=by
     have:=Oo (hs i (i+1) (by omega) (by omega))
     have:=(tb (i+1) (by omega)).2.2.1
     omega
    have hf:Op.bytesLess (M.getD j default).fst (M.getD (i+1) default).fst=false:=by
     by_cases e:j=i+1
     ·rw[e];exact J6 _
     ·have:=hs (i+1) j (by omega) hj
      unfold G1 at this
      rw[if_pos (by omega),if_neg (by omega)]at this
      exact this
    rw[Nat.add_sub_cancel,decide_eq_true (Nat.succ_pos i),decide_eq_true m1,RU m4 hf];rfl
   have:=List.any_eq_false.1 h (i+1) (List.mem_range.2 (by omega))
   exact this h1
 ·intro h
  cases hm:GH M with
  |false=>rfl
  |true=>
   exfalso
   obtain⟨j,hj,ha⟩:=List.any_eq_true.1 hm
   have hj:=List.mem_range.1 hj
   unfold Gt at ha
   simp only[Bool.and_eq_true,decide_eq_true_eq,Bool.not_eq_true']at ha
   obtain⟨h0,h1,h2⟩:=ha
   have h3:=List.pairwise_iff_getElem.1 h (j-1) j (by omega) hj (by omega)
   have gi:M[j-1]=M.getD (j-1) default:=by rw[List.getD_eq_getElem?_getD,List.getElem?_eq_getElem (by omega)];rfl
   have gj:M[j]=M.getD j default:=by rw[List.getD_eq_getElem?_getD,List.getElem?_eq_getElem hj];rfl
   rw[gi,gj]at h3
   have hlt:=hs (j-1) j (by omega) hj
   have t1:=Oo hlt
   have tj:=(tb j hj).2.2.1
   have hff:Op.bytesLess (M.getD j default).fst (M.getD (j-1) default).fst=false:=by
    unfold G1 at hlt
    rw[if_pos (by omega),if_neg (by omega)]at hlt
    exact hlt
   have hl:=(D6.1 (ht _ (Dx hj))).2.2.2.2.2.1
   unfold D1 at h3
   rw[decide_eq_false_iff_not]at h3
   exact h3 ⟨h1,by omega,RU hl hff,h2⟩
theorem Mj {S:IM} {e:Jk} (w:Wf S) (he:cw e) (hp:Fv S e=false):(∀ t∈B1 S.L e.gone,∀ u∈e.Al,t.id≠u.id)/\(e.Al.Pairwise fun a b=>a.id≠b.id)/\∀ u∈e.Al,S.next<=u.id:=by
 have h0:∀ u∈e.Al,S.next<=u.id:=fun u hu=>by
  obtain⟨i,hi,rfl⟩:=Hc hu
  unfold Fv at hp
  simp only[Bool.or_eq_false_iff,Bool.and_eq_false_iff,decide_eq_false_iff_not]at hp
  have h1:S.next<=(e.Al.getD 0 default).id:=by
   rcases hp.1.1 with h|h
   ·omega
   ·omega
  by_cases e1:i=0
  ·rw[e1];exact h1
  ·have:=he.lt i 0 (by omega) hi;omega
 refine⟨fun t ht u hu e1=>?_,List.pairwise_iff_getElem.2 fun i j hi hj hij=>?_,h0⟩
 ·have:=w.nx t (Hh ht)
  have:=h0 u hu;omega
 ·have:=he.lt j i hij hj
  rw[List.getD_eq_getElem?_getD,List.getElem?_eq_getElem hi,List.getD_eq_getElem?_getD,List.getElem?_eq_getElem hj]at this
  exact Int.ne_of_lt this
theorem Oz {S:IM} (w:Wf S) (g:List Int):Vd (B1 S.L g)/\DY (B1 S.L g)/\∀ t∈B1 S.L g,Fe t=true:=⟨w.yF.filter _,w.nm.filter _,fun t ht=>w.tb t (Hh ht)⟩
/--what the program makes of it:all there are then,in order -/
theorem hH {S:IM} {e:Jk} (w:Wf S) (he:cw e) (hp:Fv S e=false) {M:List BU} (pm:M.Perm (B1 S.L e.gone++e.Al)) (hs:∀ i j,i<j->j<M.length->G1 (M.getD j default) (M.getD i default)=false):
 (GH M=true/\F4 (B1 S.L e.gone) e.Al=none)\/(GH M=false/\F4 (B1 S.L e.gone) e.Al=some M):=by
 obtain⟨i1,i2,i3⟩:=Mj w he hp
 obtain⟨l1,l2,l3⟩:=Oz w e.gone
 have tM:∀ t∈M,Fe t=true:=fun t ht=>by
  rcases List.mem_append.1 (pm.mem_iff.1 ht)with h|h
  ·exact l3 t h
  ·exact he.tb t h
 have hm:=PY hs tM
 rcases LS l1 l2 l3 he.tb i1 i2 with⟨h1,h2⟩|⟨M',h1,h2,h3,h4⟩
 ·left
  refine⟨?_,h1⟩
  cases hb:GH M with
  |true=>rfl
  |false=>exact absurd ((DY.perm pm).1 (hm.1 hb)) h2
 ·right
  have hMM:M.Perm M':=pm.trans h2.symm
  have nmM:DY M:=(DY.perm hMM).2 h4
  have e1:M=M':=by
   refine Q6 (List.pairwise_iff_getElem.2 fun i j hi hj hij=>?_) h3 hMM
   --of two that are in order and don't meet the first one is less
   have n1:=List.pairwise_iff_getElem.1 nmM i j hi hj hij
   have gi:M[i]=M.getD i default:=by rw[List.getD_eq_getElem?_getD,List.getElem?_eq_getElem hi];rfl
   have gj:M[j]=M.getD j default:=by rw[List.getD_eq_getElem?_getD,List.getElem?_eq_getElem hj];rfl
   have idn:(M'.Pairwise fun a b=>G1 a b=true\/G1 b a=true):=h3.imp fun h=>.inl h
   have idM:=(hMM.pairwise_iff (R:=fun a b=>G1 a b=true\/G1 b a=true) fun h=>h.symm).2 idn
   have o:=List.pairwise_iff_getElem.1 idM i j hi hj hij
   rcases o with o|o
   ·exact o
   ·have:=hs i j hij hj
    rw[gi,gj]at o
    rw[o]at this;cases this
  rw[e1]
  exact⟨by rw[<-e1];exact hm.2 nmM,h1⟩
theorem SQ {S:IM} {e:Jk} (w:Wf S):Wf (LH S e).2:=by
 unfold LH
 by_cases h1:KP e=false
 ·rw[if_pos h1];exact w
 rw[if_neg h1]
 by_cases h2:P4 S.L e.gone=false
 ·rw[if_pos h2];exact w
 rw[if_neg h2]
 by_cases h3:Fv S e=true
 ·rw[if_pos h3];exact w
 rw[if_neg h3]
 have he:=GV.1 (by simpa using h1)
 have hp:Fv S e=false:=by simpa using h3
 obtain⟨i1,i2,i3⟩:=Mj w he hp
 obtain⟨l1,l2,l3⟩:=Oz w e.gone
 rcases LS l1 l2 l3 he.tb i1 i2 with⟨h4,_⟩|⟨M,h4,h5,h6,h7⟩
 ·rw[h4];exact w
 ·rw[h4]
  by_cases h8:40<M.length
  ·show Wf (if 40<M.length then _ else _:Int×IM).2;rw[if_pos h8];exact w
  ·show Wf (if 40<M.length then _ else _:Int×IM).2
   rw[if_neg h8]
   have hmem:∀ t∈M,t∈B1 S.L e.gone\/t∈e.Al:=fun t ht=>List.mem_append.1 (h5.mem_iff.1 ht)
   have hn:=w.n1
   refine⟨fun t ht=>?_,h6,h7,fun t ht=>?_,?_,?_,?_,by show M.length<=40;omega⟩
   ·rcases hmem t ht with h|h
    ·exact l3 t h
    ·exact he.tb t h
   ·show t.id<(if 0<e.Al.length then _ else S.next)
    by_cases hc:0<e.Al.length
    ·rw[if_pos hc]
     have hlast:=Dx (L:=e.Al) (i:=e.Al.length-1) (by omega)
     rcases hmem t ht with h|h
     ·have:=w.nx t (Hh h)
      have:=i3 _ hlast;omega
     ·obtain⟨i,hi,rfl⟩:=Hc h
      by_cases e1:i=e.Al.length-1
      ·rw[e1];omega
      ·have:=he.lt (e.Al.length-1) i (by omega) (by omega);omega
    ·rw[if_neg hc]
     rcases hmem t ht with h|h
     ·exact w.nx t (Hh h)
     ·have:=List.length_pos_of_mem h;omega
   ·show 1<=(if 0<e.Al.length then _ else S.next)/\(if 0<e.Al.length then _ else S.next)<=1000001
    by_cases hc:0<e.Al.length
    ·rw[if_pos hc]
     have:=D6.1 (he.tb _ (Dx (L:=e.Al) (i:=e.Al.length-1) (by omega)))
     omega
    ·rw[if_neg hc];exact hn
   ·show 0<=max S.log e.log/\max S.log e.log<=1000000
    have:=w.lg;have:=he.l0;have:=he.l1;omega
   ·show 0<=max S.seq e.seq/\max S.seq e.seq<=1000000
    have:=w.sq;have:=he.s0;have:=he.s1;omega
end Go.Ev
namespace Go.Ev
open Go
def tZ (a b:List UInt8):List UInt8:=bif Op.bytesLess a b||decide (a=b)then a else b
def uD (a b:List UInt8):List UInt8:=bif Op.bytesLess a b then b else a
def fH (L:List BU) (i:Nat):List UInt8:=((L.drop 1).take i).foldl (fun a t=>tZ a t.fst) (L.getD 0 default).fst
def Mv (L:List BU) (i:Nat):List UInt8:=((L.drop 1).take i).foldl (fun a t=>uD a t.Ew) (L.getD 0 default).Ew
def uF (L:List BU):List UInt8:=fH L (L.length-1)
def tq (L:List BU):List UInt8:=Mv L (L.length-1)
theorem Q7 {L:List BU} {i:Nat} (h:i<L.length):L.take (i+1)=L.take i++[L.getD i default]:=by rw[List.take_succ];simp[List.getD,h]
theorem Ld {L:List BU} {i:Nat}:(L.drop 1).getD i default=L.getD (i+1) default:=by simp[List.getD,Nat.add_comm]
theorem tO {L:List BU} {i:Nat} (h:i+1<L.length):fH L (i+1)=tZ (fH L i) (L.getD (i+1) default).fst:=by
 unfold fH;rw[Q7 (by rw[List.length_drop];omega),List.foldl_append,Ld];rfl
theorem ff {L:List BU} {i:Nat} (h:i+1<L.length):Mv L (i+1)=uD (Mv L i) (L.getD (i+1) default).Ew:=by
 unfold Mv;rw[Q7 (by rw[List.length_drop];omega),List.foldl_append,Ld];rfl
/--what may have a key from a on up to b -/
def Gn (a b:List UInt8) (t:BU):Bool:=!Op.bytesLess t.Ew a&&!Op.bytesLess b t.fst
def D8 (k:Int) (L:List BU):List BU:=L.filter fun t=>decide (t.BI=k)
def OK (L:List BU):List BU:=(D8 1 L).filter (Gn (uF (D8 0 L)) (tq (D8 0 L)))
def GK (L:List BU):List BU:=if (D8 0 L).length<2 then []else D8 0 L++OK L
def Ku (L:List BU):Bool:=!decide ((D8 0 L).length<2)
theorem MP (k:Int) (L:List BU):(D8 k L).length<=L.length:=List.length_filter_le _ _
end Go.Ev
set_option maxRecDepth 1000000
namespace Go.Proofs.Ytobfgempjekjpaa
open Go Go.Ev
abbrev ia:CC:=(CC.seq (CC.region [(wB 2 (AA (O.c V.l0)))]) CC.ret)
abbrev rL:CC:=(CC.cond (tm 4) ia CC.skip)
abbrev je:CC:=(CC.seq (CC.region [(wB 3 (AA (tm 0))),(wB 4 (Is Ul Bool.false (tm 3) (O.c V.l0)))]) rL)
abbrev mH:CC:=(CC.seq (CC.region [(wB 5 (Aw 57 0 [] [])),(wB 6 (AA (tm 0))),(wB 7 (Bk 57 5 (tm 5) (tm 6))),(wB 2 (AA (tm 7)))]) CC.ret)
abbrev hG:CC:=(CC.seq je mH)
abbrev yN:CC:=(CC.seq (CC.region [(wB 2 (AA (O.c V.l0)))]) hG)
theorem we:AV Try.prog 48=⟨8,yN,[(Rs.tmp (AR 2))]⟩:=by kernel_rfl
abbrev kL:CC:=(CC.seq (CC.region [(wB 13 (AA (tm 0))),(wB 4 (AA (tm 13)))]) CC.ret)
abbrev rY:CC:=(CC.cond (tm 12) kL CC.skip)
abbrev nD:CC:=(CC.seq (CC.region [(wB 11 (AA (tm 5))),(wB 12 (AM En (tm 11) (O.c (V.i IntKind.i64 (Int.negSucc 0)))))]) rY)
abbrev mB:CC:=(CC.cond (tm 19) CC.skip (CC.exit 0))
abbrev jd:CC:=(CC.seq (CC.region [(wB 16 (AA (tm 6))),(wB 17 (AA (tm 0))),(wB 18 (Ba (tm 17))),(wB 19 (AM Bu (tm 16) (tm 18)))]) mB)
abbrev oh:CC:=(CC.region [(wB 34 (AA (tm 5))),(wB 35 (AM BA (tm 34) (oN 1))),(wB 5 (AA (tm 35)))])
abbrev jK:CC:=(CC.seq (CC.region [(wB 30 (AA (tm 0))),(wB 31 (AA (tm 5))),(wB 32 (AU 5 (tm 7))),(wB 33 (AF 5 (tm 30) (tm 31))),(CO.mk G.none D.none Bool.true (CR.mk (Ae 5 (tm 33) (tm 32))))]) oh)
abbrev lh:CC:=(CC.cond (tm 29) jK CC.skip)
abbrev kp:CC:=(CC.seq (CC.region [(wB 26 (AA (tm 1))),(wB 27 (AU 5 (tm 7))),(wB 28 (BZ (tm 26) [(tm 27)])),(wB 29 (Cc (tm 28)))]) lh)
abbrev lG:CC:=(CC.seq (CC.region [(wB 22 (AA (tm 0))),(wB 23 (AA (tm 6))),(wB 24 (AF 5 (tm 22) (tm 23))),(wB 25 (AU 5 (tm 24))),(wB 7 (CA 57 [(V.i IntKind.i64 (Int.ofNat 0)),(V.i IntKind.i64 (Int.ofNat 0)),(V.s 0 0),(V.s 0 0),(V.i IntKind.i64 (Int.ofNat 0))])),(CO.mk G.none D.none Bool.true (CR.mk (Ae 5 (tm 7) (tm 25))))]) kp)
abbrev Ze:CC:=(CC.block 1 lG)
abbrev Yy:CC:=(CC.region [(wB 20 (AA (tm 6))),(wB 21 (AM BA (tm 20) (oN 1))),(wB 6 (AA (tm 21)))])
abbrev XC:CC:=(CC.seq Ze Yy)
abbrev j6:CC:=(CC.seq jd XC)
abbrev V4:CC:=(CC.loop j6)
abbrev XU:CC:=(CC.block 0 V4)
abbrev Xd:CC:=(CC.seq (CC.region [(wB 14 (AA (tm 5))),(wB 15 (AM BA (tm 14) (oN 1))),(wB 6 (AA (tm 15)))]) XU)
abbrev Zj:CC:=(CC.seq (CC.region [(wB 39 (AA (tm 0))),(wB 40 (AA (tm 5))),(wB 41 (Bw 5 (tm 39) none (some (tm 40)))),(wB 4 (AA (tm 41)))]) CC.ret)
abbrev Wi:CC:=(CC.seq (CC.region [(wB 36 (AA (tm 0))),(wB 37 (AA (tm 5))),(wB 38 (Bw 5 (tm 36) (some (tm 37)) none)),(CO.mk G.none D.none Bool.true (CR.mk (Dy [(V.i IntKind.i64 (Int.ofNat 0)),(V.i IntKind.i64 (Int.ofNat 0)),(V.s 0 0),(V.s 0 0),(V.i IntKind.i64 (Int.ofNat 0))] (tm 38))))]) Zj)
abbrev Wl:CC:=(CC.seq Xd Wi)
abbrev cJ:CC:=(CC.seq nD Wl)
abbrev WJ:CC:=(CC.seq (CC.region [(wB 8 (AA (tm 0))),(wB 9 (AA (tm 1))),(wB 10 (AW 72 [(tm 8),(tm 9)])),(wB 5 (AA (tm 10)))]) cJ)
abbrev xq:CC:=(CC.seq (CC.region [(wB 4 (AA (O.c V.l0)))]) WJ)
theorem xP:AV Try.prog 59=⟨42,xq,[(Rs.tmp (AR 4))]⟩:=by kernel_rfl
abbrev qO:CC:=(CC.seq (CC.region [(wB 5 (AA (tm 0))),(wB 6 (AA (tm 1))),(wB 7 (AW 72 [(tm 5),(tm 6)])),(wB 8 (AM EJ (tm 7) (oN 0))),(wB 4 (AA (tm 8)))]) CC.ret)
abbrev yx:CC:=(CC.seq (CC.region [(wB 4 (AA (O.c (V.b Bool.false))))]) qO)
theorem xn:AV Try.prog 57=⟨9,yx,[(Rs.tmp (AR 4))]⟩:=by kernel_rfl
abbrev sW:CC:=(CC.cond (tm 9) CC.skip (CC.exit 0))
abbrev mV:CC:=(CC.seq (CC.region [(wB 17 (AA (tm 5))),(wB 4 (AA (tm 17)))]) CC.ret)
abbrev qQ:CC:=(CC.cond (tm 16) mV CC.skip)
abbrev sf:CC:=(CC.seq (CC.region [(wB 11 (AA (tm 1))),(wB 12 (AA (tm 0))),(wB 13 (AA (tm 5))),(wB 14 (AF 5 (tm 12) (tm 13))),(wB 15 (AU 5 (tm 14))),(wB 16 (BZ (tm 11) [(tm 15)]))]) qQ)
abbrev jx:CC:=(CC.seq (CC.region [(wB 10 (AA (tm 8))),(wB 5 (AA (tm 10)))]) sf)
abbrev nu:CC:=(CC.block 1 jx)
abbrev iZ:CC:=(CC.region [(wB 18 (AM BA (tm 8) (oN 1))),(wB 8 (AA (tm 18)))])
abbrev tY:CC:=(CC.seq nu iZ)
abbrev ij:CC:=(CC.seq sW tY)
abbrev iQ:CC:=(CC.seq (CC.region [(wB 9 (AM Bu (tm 8) (tm 7)))]) ij)
abbrev gP:CC:=(CC.loop iQ)
abbrev aN:CC:=(CC.block 0 gP)
abbrev dG:CC:=(CC.seq (CC.region [(wB 6 (AA (tm 0))),(wB 7 (Ba (tm 6))),(wB 8 (AA (oN 0)))]) aN)
abbrev Xx:CC:=(CC.seq (CC.region [(wB 4 (AA (O.c (V.i IntKind.i64 (Int.negSucc 0)))))]) CC.ret)
abbrev dv:CC:=(CC.seq dG Xx)
abbrev xk:CC:=(CC.seq (CC.region [(wB 4 (AA (oN 0)))]) dv)
theorem wm:AV Try.prog 72=⟨19,xk,[(Rs.tmp (AR 4))]⟩:=by kernel_rfl
abbrev sP:CC:=(CC.seq (CC.region [(wB 5 (AA (tm 0))),(wB 6 (AA (tm 1))),(wB 7 (AW 73 [(tm 5),(tm 6)])),(wB 8 (AM EJ (tm 7) (oN 0))),(wB 4 (AA (tm 8)))]) CC.ret)
abbrev yw:CC:=(CC.seq (CC.region [(wB 4 (AA (O.c (V.b Bool.false))))]) sP)
theorem xg:AV Try.prog 61=⟨9,yw,[(Rs.tmp (AR 4))]⟩:=by kernel_rfl
abbrev si:CC:=(CC.cond (tm 9) CC.skip (CC.exit 0))
abbrev re:CC:=(CC.seq (CC.region [(wB 17 (AA (tm 5))),(wB 4 (AA (tm 17)))]) CC.ret)
abbrev rD:CC:=(CC.cond (tm 16) re CC.skip)
abbrev nS:CC:=(CC.seq (CC.region [(wB 11 (AA (tm 1))),(wB 12 (AA (tm 0))),(wB 13 (AA (tm 5))),(wB 14 (AF 1 (tm 12) (tm 13))),(wB 15 (AY (tm 14))),(wB 16 (AM En (tm 11) (tm 15)))]) rD)
abbrev tS:CC:=(CC.seq (CC.region [(wB 10 (AA (tm 8))),(wB 5 (AA (tm 10)))]) nS)
abbrev sZ:CC:=(CC.block 1 tS)
abbrev lf:CC:=(CC.region [(wB 18 (AM BA (tm 8) (oN 1))),(wB 8 (AA (tm 18)))])
abbrev rC:CC:=(CC.seq sZ lf)
abbrev mW:CC:=(CC.seq si rC)
abbrev hS:CC:=(CC.seq (CC.region [(wB 9 (AM Bu (tm 8) (tm 7)))]) mW)
abbrev tG:CC:=(CC.loop hS)
abbrev ZU:CC:=(CC.block 0 tG)
abbrev cE:CC:=(CC.seq (CC.region [(wB 6 (AA (tm 0))),(wB 7 (Ba (tm 6))),(wB 8 (AA (oN 0)))]) ZU)
abbrev Wn:CC:=(CC.seq (CC.region [(wB 4 (AA (O.c (V.i IntKind.i64 (Int.negSucc 0)))))]) CC.ret)
abbrev bd:CC:=(CC.seq cE Wn)
abbrev xZ:CC:=(CC.seq (CC.region [(wB 4 (AA (oN 0)))]) bd)
theorem yM:AV Try.prog 73=⟨19,xZ,[(Rs.tmp (AR 4))]⟩:=by kernel_rfl
abbrev qm:CC:=(CC.seq (CC.region [(wB 3 (AA (tm 0))),(wB 4 (AW 74 [(tm 3)])),(wB 2 (AA (tm 4)))]) CC.ret)
abbrev xy:CC:=(CC.seq (CC.region [(wB 2 (AA (O.c (V.s 0 0))))]) qm)
theorem xE:AV Try.prog 62=⟨5,xy,[(Rs.tmp (AR 2))]⟩:=by kernel_rfl
abbrev oX:CC:=(CC.seq (CC.region [(wB 2 (AA (O.c (V.s 0 0))))]) CC.ret)
abbrev lM:CC:=(CC.cond (tm 6) oX CC.skip)
abbrev ni:CC:=(CC.seq (CC.region [(wB 4 (AA (tm 0))),(wB 5 (DX (tm 4))),(wB 6 (AM En (tm 5) (oN 0)))]) lM)
abbrev jm:CC:=(CC.seq (CC.region [(wB 13 (AA (tm 3))),(wB 14 (AF 1 (tm 13) (oN 0))),(wB 15 (AA (tm 3))),(wB 16 (Ba (tm 15))),(wB 17 (HI 5 (tm 14) (tm 16))),(wB 2 (AA (tm 17)))]) CC.ret)
abbrev pf:CC:=(CC.seq (CC.region [(wB 10 (AA (tm 3))),(wB 11 (AA (tm 0))),(wB 12 (GX (tm 10) (tm 11)))]) jm)
abbrev lV:CC:=(CC.seq (CC.region [(wB 7 (AA (tm 0))),(wB 8 (DX (tm 7))),(wB 9 (DM 5 [(V.i IntKind.u8 (Int.ofNat 0))] (tm 8) (tm 8))),(wB 3 (AA (tm 9)))]) pf)
abbrev fG:CC:=(CC.seq ni lV)
abbrev wq:CC:=(CC.seq (CC.region [(wB 2 (AA (O.c (V.s 0 0))))]) fG)
theorem yH:AV Try.prog 74=⟨18,wq,[(Rs.tmp (AR 2))]⟩:=by kernel_rfl
abbrev ew:CC:=(CC.seq (CC.region [(wB 1 (Cq [V.l0,(V.i IntKind.i64 (Int.ofNat 0)),(V.i IntKind.i64 (Int.ofNat 0)),(V.i IntKind.i64 (Int.ofNat 0))] [(Pt.mk 1 1 (oN 1)),(Pt.mk 3 1 (oN 1))])),(wB 2 (DK 79 (tm 1))),(wB 0 (AA (tm 2)))]) CC.ret)
abbrev xN:CC:=(CC.seq (CC.region [(wB 0 (AA (O.c V.p0)))]) ew)
theorem xo:AV Try.prog 17=⟨3,xN,[(Rs.tmp (AR 0))]⟩:=by kernel_rfl
abbrev gD:CC:=(CC.seq (CC.region [(wB 4 (AA (oN 10)))]) CC.ret)
abbrev fO:CC:=(CC.seq (CC.region [(wB 4 (AA (oN 18)))]) CC.ret)
abbrev rV:CC:=(CC.seq (CC.region [(wB 4 (AA (oN 16)))]) CC.ret)
abbrev r8:CC:=(CC.cond (tm 17) rV CC.skip)
abbrev lz:CC:=(CC.seq (CC.region [(wB 18 (AA (tm 0))),(wB 19 (AU 4 (tm 3))),(wB 20 (AW 43 [(tm 18),(tm 19)])),(wB 17 (AA (tm 20)))]) r8)
abbrev jS:CC:=(CC.cond (tm 11) fO lz)
abbrev kI:CC:=(CC.seq (CC.region [(wB 12 (AA (tm 0))),(wB 13 (AH 0 (tm 3))),(wB 14 (AY (tm 13))),(wB 15 (AW 42 [(tm 12),(tm 14)])),(wB 16 (Cc (tm 15))),(wB 11 (AA (tm 16)))]) jS)
abbrev fM:CC:=(CC.cond (tm 7) gD kI)
abbrev gX:CC:=(CC.seq (CC.region [(wB 8 (AU 4 (tm 3))),(wB 9 (AW 31 [(tm 8)])),(wB 10 (Cc (tm 9))),(wB 7 (AA (tm 10)))]) fM)
abbrev pV:CC:=(CC.block 0 gX)
abbrev XH:CC:=(CC.seq (CC.region [(wB 4 (AA (oN 16)))]) CC.ret)
abbrev dV:CC:=(CC.seq (CC.region [(wB 4 (AA (oN 25)))]) CC.ret)
abbrev ZE:CC:=(CC.cond (tm 27) dV CC.skip)
abbrev br:CC:=(CC.seq (CC.region [(wB 28 (AA (tm 5))),(wB 29 (Ba (tm 28))),(wB 30 (AM D9 (tm 29) (oN 40))),(wB 27 (AA (tm 30)))]) ZE)
abbrev cW:CC:=(CC.cond (tm 24) XH br)
abbrev ak:CC:=(CC.seq (CC.region [(wB 25 (AA (tm 5))),(wB 26 (AW 45 [(tm 25)])),(wB 24 (AA (tm 26)))]) cW)
abbrev Zm:CC:=(CC.block 1 ak)
abbrev X9:CC:=(CC.region [(wB 61 (AA (tm 0))),(wB 62 (AH 1 (tm 3))),(wB 63 (AY (tm 62))),(wB 64 (AA (tm 6))),(wB 65 (AF 5 (tm 63) (tm 64))),(wB 66 (AH 0 (tm 65))),(wB 67 (AY (tm 66))),(wB 68 (AM BA (tm 67) (oN 1))),(wB 69 (Af (tm 61))),(wB 70 (AH 3 (tm 69))),(CO.mk G.none D.none Bool.true (CR.mk (Ae 1 (tm 70) (tm 68))))])
abbrev ZZ:CC:=(CC.cond (tm 60) X9 CC.skip)
abbrev ZX:CC:=(CC.seq (CC.region [(wB 59 (AA (tm 6))),(wB 60 (AM EJ (tm 59) (oN 0)))]) ZZ)
abbrev cU:CC:=(CC.seq (CC.region [(wB 55 (AH 1 (tm 3))),(wB 56 (AY (tm 55))),(wB 57 (Ba (tm 56))),(wB 58 (AM Bq (tm 57) (oN 1))),(wB 6 (AA (tm 58)))]) ZX)
abbrev ck:CC:=(CC.seq (CC.region [(wB 4 (AA (oN 0)))]) CC.ret)
abbrev dO:CC:=(CC.seq cU ck)
abbrev ct:CC:=(CC.seq (CC.A7 [(uB 35 (AA (tm 0))),(uB 36 (AA (tm 0))),(uB 37 (AA (tm 0))),(uB 38 (Af (tm 37))),(uB 39 (AH 1 (tm 38))),(uB 40 (AY (tm 39))),(uB 41 (AH 2 (tm 3))),(uB 42 (AY (tm 41))),(uB 43 (Fs (tm 40) (tm 42))),(uB 44 (AA (tm 0))),(uB 45 (Af (tm 44))),(uB 46 (AH 2 (tm 45))),(uB 47 (AY (tm 46))),(uB 48 (AH 3 (tm 3))),(uB 49 (AY (tm 48))),(uB 50 (Fs (tm 47) (tm 49))),(uB 51 (Af (tm 35))),(uB 52 (AH 1 (tm 51))),(CO.mk G.none D.none Bool.false (CR.mk (Ae 1 (tm 52) (tm 43)))),(wB 53 (Af (tm 36))),(uB 54 (AH 2 (tm 53))),(CO.mk G.none D.none Bool.true (CR.mk (Ae 1 (tm 54) (tm 50))))] (some ([18,21],[(3,[0]),(5,[0]),(7,[0]),(10,[0]),(12,[0]),(14,[0,19]),(16,[0]),(19,[19])]))) dO)
abbrev dk:CC:=(CC.seq (CC.region [(wB 31 (AA (tm 0))),(wB 32 (AA (tm 5))),(wB 33 (Af (tm 31))),(wB 34 (AH 0 (tm 33))),(CO.mk G.none D.none Bool.true (CR.mk (Ae 1 (tm 34) (tm 32))))]) ct)
abbrev Xz:CC:=(CC.seq Zm dk)
abbrev Yh:CC:=(CC.seq (CC.region [(wB 21 (AA (tm 0))),(wB 22 (AU 4 (tm 3))),(wB 23 (AW 44 [(tm 21),(tm 22)])),(wB 5 (AA (tm 23)))]) Xz)
abbrev Zw:CC:=(CC.seq pV Yh)
abbrev yq:CC:=(CC.seq (CC.region [(wB 3 (DK 35 (tm 1))),(wB 4 (AA (oN 0)))]) Zw)
theorem y0:AV Try.prog 18=⟨71,yq,[(Rs.tmp (AR 4))]⟩:=by kernel_rfl
abbrev mI:CC:=(CC.seq (CC.region [(wB 3 (AA (tm 0))),(wB 4 (Af (tm 3))),(wB 5 (AH 0 (tm 4))),(wB 6 (AY (tm 5))),(wB 7 (AW 48 [(tm 6)])),(wB 2 (AA (tm 7)))]) CC.ret)
abbrev xK:CC:=(CC.seq (CC.region [(wB 2 (AA (O.c V.l0)))]) mI)
theorem wk:AV Try.prog 26=⟨8,xK,[(Rs.tmp (AR 2))]⟩:=by kernel_rfl
abbrev qq:CC:=(CC.cond (tm 14) CC.skip (CC.exit 0))
abbrev ri:CC:=(CC.region [(wB 21 (AA (tm 5))),(wB 22 (AU 5 (tm 7))),(wB 23 (Aw 57 1 [(V.i IntKind.i64 (Int.ofNat 0)),(V.i IntKind.i64 (Int.ofNat 0)),(V.s 0 0),(V.s 0 0),(V.i IntKind.i64 (Int.ofNat 0))] [(Pt.mk 0 5 (tm 22))])),(wB 24 (Bk 57 5 (tm 21) (tm 23))),(wB 5 (AA (tm 24)))])
abbrev ry:CC:=(CC.cond (tm 20) ri CC.skip)
abbrev jo:CC:=(CC.seq (CC.region [(wB 17 (AH 1 (tm 7))),(wB 18 (AY (tm 17))),(wB 19 (AA (tm 1))),(wB 20 (AM En (tm 18) (tm 19)))]) ry)
abbrev o0:CC:=(CC.seq (CC.region [(wB 15 (AF 5 (tm 11) (tm 13))),(wB 16 (AU 5 (tm 15))),(wB 7 (CA 57 [(V.i IntKind.i64 (Int.ofNat 0)),(V.i IntKind.i64 (Int.ofNat 0)),(V.s 0 0),(V.s 0 0),(V.i IntKind.i64 (Int.ofNat 0))])),(CO.mk G.none D.none Bool.true (CR.mk (Ae 5 (tm 7) (tm 16))))]) jo)
abbrev iV:CC:=(CC.block 1 o0)
abbrev gY:CC:=(CC.region [(wB 25 (AM BA (tm 13) (oN 1))),(wB 13 (AA (tm 25)))])
abbrev lB:CC:=(CC.seq iV gY)
abbrev oA:CC:=(CC.seq qq lB)
abbrev pO:CC:=(CC.seq (CC.region [(wB 14 (AM Bu (tm 13) (tm 12)))]) oA)
abbrev l8:CC:=(CC.loop pO)
abbrev XX:CC:=(CC.block 0 l8)
abbrev WM:CC:=(CC.seq (CC.region [(wB 8 (AA (tm 0))),(wB 9 (Af (tm 8))),(wB 10 (AH 0 (tm 9))),(wB 11 (AY (tm 10))),(wB 12 (Ba (tm 11))),(wB 13 (AA (oN 0)))]) XX)
abbrev cD:CC:=(CC.seq (CC.region [(wB 26 (AA (tm 5))),(wB 4 (AA (tm 26)))]) CC.ret)
abbrev cz:CC:=(CC.seq WM cD)
abbrev YT:CC:=(CC.seq (CC.region [(wB 5 (AA (O.c V.l0)))]) cz)
abbrev yy:CC:=(CC.seq (CC.region [(wB 4 (AA (O.c V.l0)))]) YT)
theorem yV:AV Try.prog 25=⟨27,yy,[(Rs.tmp (AR 4))]⟩:=by kernel_rfl
abbrev jl:CC:=(CC.seq (CC.region [(wB 2 (AA (O.c (V.b Bool.false))))]) CC.ret)
abbrev iC:CC:=(CC.cond (tm 14) jl CC.skip)
abbrev rP:CC:=(CC.seq (CC.region [(wB 5 (AH 0 (tm 1))),(wB 6 (AY (tm 5))),(wB 7 (Ba (tm 6))),(wB 8 (AM D9 (tm 7) (oN 40))),(wB 9 (AA (tm 8))),(wG 9 false 10 (AH 1 (tm 1))),(wG 9 false 11 (AY (tm 10))),(wG 9 false 12 (Ba (tm 11))),(wG 9 false 13 (AM D9 (tm 12) (oN 40))),(wB 14 (Az (tm 9) (O.c (V.b Bool.true)) (tm 13)))]) iC)
abbrev tT:CC:=(CC.cond (tm 19) CC.skip (CC.exit 0))
abbrev lu:CC:=(CC.seq (CC.region [(wB 2 (AA (O.c (V.b Bool.false))))]) CC.ret)
abbrev sU:CC:=(CC.cond (tm 25) lu CC.skip)
abbrev jM:CC:=(CC.seq (CC.region [(wB 23 (AU 5 (tm 4))),(wB 24 (AW 49 [(tm 23)])),(wB 25 (Cc (tm 24)))]) sU)
abbrev kj:CC:=(CC.seq (CC.region [(wB 2 (AA (O.c (V.b Bool.false))))]) CC.ret)
abbrev n4:CC:=(CC.cond (tm 39) kj CC.skip)
abbrev qg:CC:=(CC.seq (CC.A7 [(uB 26 (AA (tm 3))),(uB 27 (AM D9 (tm 26) (oN 0))),(uB 28 (AA (tm 27))),(uG 28 true 29 (AH 1 (tm 1))),(uG 28 true 30 (AY (tm 29))),(uG 28 true 31 (AA (tm 3))),(uG 28 true 32 (AM Bq (tm 31) (oN 1))),(uG 28 true 33 (AF 5 (tm 30) (tm 32))),(uG 28 true 34 (AH 0 (tm 33))),(uG 28 true 35 (AY (tm 34))),(uG 28 true 36 (AH 0 (tm 4))),(uG 28 true 37 (AY (tm 36))),(uG 28 true 38 (AM EJ (tm 35) (tm 37))),(uB 39 (Az (tm 28) (tm 38) (O.c (V.b Bool.false))))] none) n4)
abbrev X2:CC:=(CC.seq jM qg)
abbrev bm:CC:=(CC.seq (CC.region [(wB 20 (AA (tm 18))),(wB 21 (AF 5 (tm 16) (tm 18))),(wB 22 (AU 5 (tm 21))),(wB 4 (CA 57 [(V.i IntKind.i64 (Int.ofNat 0)),(V.i IntKind.i64 (Int.ofNat 0)),(V.s 0 0),(V.s 0 0),(V.i IntKind.i64 (Int.ofNat 0))])),(wB 3 (AA (tm 20))),(CO.mk G.none D.none Bool.true (CR.mk (Ae 5 (tm 4) (tm 22))))]) X2)
abbrev XQ:CC:=(CC.block 1 bm)
abbrev cY:CC:=(CC.region [(wB 40 (AM BA (tm 18) (oN 1))),(wB 18 (AA (tm 40)))])
abbrev cj:CC:=(CC.seq XQ cY)
abbrev da:CC:=(CC.seq tT cj)
abbrev kH:CC:=(CC.seq (CC.region [(wB 19 (AM Bu (tm 18) (tm 17)))]) da)
abbrev Wm:CC:=(CC.loop kH)
abbrev dC:CC:=(CC.block 0 Wm)
abbrev c0:CC:=(CC.seq (CC.region [(wB 15 (AH 1 (tm 1))),(wB 16 (AY (tm 15))),(wB 17 (Ba (tm 16))),(wB 18 (AA (oN 0)))]) dC)
abbrev WT:CC:=(CC.seq (CC.region [(wB 41 (AH 2 (tm 1))),(wB 42 (AY (tm 41))),(wB 43 (AW 50 [(oN 0),(tm 42),(oN 1000000)])),(wB 44 (AA (tm 43))),(wG 44 true 45 (AH 3 (tm 1))),(wG 44 true 46 (AY (tm 45))),(wG 44 true 47 (AW 50 [(oN 0),(tm 46),(oN 1000000)])),(wB 48 (Az (tm 44) (tm 47) (O.c (V.b Bool.false)))),(wB 2 (AA (tm 48)))]) CC.ret)
abbrev av:CC:=(CC.seq c0 WT)
abbrev Zg:CC:=(CC.seq rP av)
abbrev yf:CC:=(CC.seq (CC.region [(wB 1 (DK 35 (tm 0))),(wB 2 (AA (O.c (V.b Bool.false))))]) Zg)
theorem xm:AV Try.prog 31=⟨49,yf,[(Rs.tmp (AR 2))]⟩:=by kernel_rfl
abbrev iH:CC:=(CC.seq (CC.region [(wB 3 (AH 0 (tm 1))),(wB 4 (AY (tm 3))),(wB 5 (AW 50 [(oN 1),(tm 4),(oN 1000000)])),(wB 6 (AA (tm 5))),(wG 6 true 7 (AH 1 (tm 1))),(wG 6 true 8 (AY (tm 7))),(wG 6 true 9 (AW 50 [(oN 0),(tm 8),(oN 1)])),(wB 10 (Az (tm 6) (tm 9) (O.c (V.b Bool.false)))),(wB 11 (AA (tm 10))),(wG 11 true 12 (AH 2 (tm 1))),(wG 11 true 13 (AY (tm 12))),(wG 11 true 14 (AW 65 [(tm 13)])),(wB 15 (Az (tm 11) (tm 14) (O.c (V.b Bool.false)))),(wB 16 (AA (tm 15))),(wG 16 true 17 (AH 3 (tm 1))),(wG 16 true 18 (AY (tm 17))),(wG 16 true 19 (AW 65 [(tm 18)])),(wB 20 (Az (tm 16) (tm 19) (O.c (V.b Bool.false)))),(wB 21 (AA (tm 20))),(wG 21 true 22 (AH 2 (tm 1))),(wG 21 true 23 (AY (tm 22))),(wG 21 true 24 (AH 3 (tm 1))),(wG 21 true 25 (AY (tm 24))),(wG 21 true 26 (CV (fun a b c d=>Fj a b c d||Fy a b c d) (tm 23) (tm 25))),(wB 27 (Az (tm 21) (tm 26) (O.c (V.b Bool.false)))),(wB 28 (AA (tm 27))),(wG 28 true 29 (AH 4 (tm 1))),(wG 28 true 30 (AY (tm 29))),(wG 28 true 31 (AM EJ (tm 30) (oN 1))),(wB 32 (Az (tm 28) (tm 31) (O.c (V.b Bool.false)))),(wB 2 (AA (tm 32)))]) CC.ret)
abbrev yd:CC:=(CC.seq (CC.region [(wB 1 (DK 57 (tm 0))),(wB 2 (AA (O.c (V.b Bool.false))))]) iH)
theorem xw:AV Try.prog 49=⟨33,yd,[(Rs.tmp (AR 2))]⟩:=by kernel_rfl
abbrev ig:CC:=(CC.seq (CC.region [(wB 7 (AA (tm 0))),(wB 8 (AA (tm 1))),(wB 9 (AM E8 (tm 7) (tm 8))),(wB 10 (AA (tm 9))),(wG 10 true 11 (AA (tm 1))),(wG 10 true 12 (AA (tm 2))),(wG 10 true 13 (AM E8 (tm 11) (tm 12))),(wB 14 (Az (tm 10) (tm 13) (O.c (V.b Bool.false)))),(wB 6 (AA (tm 14)))]) CC.ret)
abbrev w5:CC:=(CC.seq (CC.region [(wB 6 (AA (O.c (V.b Bool.false))))]) ig)
theorem yS:AV Try.prog 50=⟨15,w5,[(Rs.tmp (AR 6))]⟩:=by kernel_rfl
abbrev fQ:CC:=(CC.seq (CC.region [(wB 3 (AA (tm 0))),(wB 4 (DX (tm 3))),(wB 5 (AW 50 [(oN 1),(tm 4),(oN 13)])),(wB 2 (AA (tm 5)))]) CC.ret)
abbrev yP:CC:=(CC.seq (CC.region [(wB 2 (AA (O.c (V.b Bool.false))))]) fQ)
theorem y4:AV Try.prog 65=⟨6,yP,[(Rs.tmp (AR 2))]⟩:=by kernel_rfl
abbrev gC:CC:=(CC.cond (tm 10) CC.skip (CC.exit 0))
abbrev gF:CC:=(CC.seq (CC.region [(wB 4 (AA (O.c (V.b Bool.false))))]) CC.ret)
abbrev mh:CC:=(CC.cond (tm 19) gF CC.skip)
abbrev pw:CC:=(CC.seq (CC.region [(wB 13 (AA (tm 0))),(wB 14 (Af (tm 13))),(wB 15 (AH 0 (tm 14))),(wB 16 (AY (tm 15))),(wB 17 (O1 58 [(tm 6)])),(wB 18 (AW 57 [(tm 16),(tm 17)])),(wB 19 (Cc (tm 18)))]) mh)
abbrev nh:CC:=(CC.seq (CC.region [(wB 11 (AF 1 (tm 7) (tm 9))),(wB 12 (AY (tm 11))),(wB 6 (CA 3 [(V.i IntKind.i64 (Int.ofNat 0))])),(CO.mk G.none D.none Bool.true (CR.mk (Ae 1 (tm 6) (tm 12))))]) pw)
abbrev gp:CC:=(CC.block 1 nh)
abbrev fS:CC:=(CC.region [(wB 20 (AM BA (tm 9) (oN 1))),(wB 9 (AA (tm 20)))])
abbrev fT:CC:=(CC.seq gp fS)
abbrev ju:CC:=(CC.seq gC fT)
abbrev j8:CC:=(CC.seq (CC.region [(wB 10 (AM Bu (tm 9) (tm 8)))]) ju)
abbrev jY:CC:=(CC.loop j8)
abbrev aJ:CC:=(CC.block 0 jY)
abbrev bw:CC:=(CC.seq (CC.region [(wB 7 (AA (tm 1))),(wB 8 (Ba (tm 7))),(wB 9 (AA (oN 0)))]) aJ)
abbrev WB:CC:=(CC.seq (CC.region [(wB 4 (AA (O.c (V.b Bool.true))))]) CC.ret)
abbrev Xn:CC:=(CC.seq bw WB)
abbrev xp:CC:=(CC.seq (CC.region [(wB 4 (AA (O.c (V.b Bool.false))))]) Xn)
theorem wy:AV Try.prog 42=⟨21,xp,[(Rs.tmp (AR 4))]⟩:=by kernel_rfl
abbrev oO:CC:=(CC.seq (CC.region [(wB 4 (AH 0 (tm 2))),(wB 5 (AY (tm 4))),(wB 6 (AY (tm 1))),(wB 7 (AM En (tm 5) (tm 6))),(wB 3 (AA (tm 7)))]) CC.ret)
abbrev x7:CC:=(CC.seq (CC.region [(wB 2 (DK 57 (tm 0))),(wB 3 (AA (O.c (V.b Bool.false))))]) oO)
theorem yu:AV Try.prog 58=⟨8,x7,[(Rs.tmp (AR 3))]⟩:=by kernel_rfl
abbrev ep:CC:=(CC.seq (CC.region [(wB 4 (AA (O.c (V.b Bool.true))))]) CC.ret)
abbrev mA:CC:=(CC.seq (CC.region [(wB 4 (AA (O.c (V.b Bool.true))))]) CC.ret)
abbrev kN:CC:=(CC.seq (CC.A7 [(uB 5 (AH 3 (tm 3))),(wB 6 (AY (tm 5))),(uB 7 (AM D9 (tm 6) (oN 0))),(uB 8 (AA (tm 7))),(uG 8 true 9 (AH 3 (tm 3))),(uG 8 true 10 (AY (tm 9))),(uG 8 true 11 (AA (tm 0))),(uG 8 true 12 (Af (tm 11))),(uG 8 true 13 (AH 2 (tm 12))),(uG 8 true 14 (AY (tm 13))),(uG 8 true 15 (AM Bu (tm 10) (tm 14))),(uB 16 (Az (tm 8) (tm 15) (O.c (V.b Bool.false)))),(uB 4 (AA (tm 16)))] none) CC.ret)
abbrev lT:CC:=(CC.cond (tm 34) mA kN)
abbrev tW:CC:=(CC.seq (CC.A7 [(uB 35 (AH 2 (tm 3))),(wB 36 (AY (tm 35))),(uB 37 (AM D9 (tm 36) (oN 0))),(uB 38 (AA (tm 37))),(uG 38 true 39 (AH 2 (tm 3))),(uG 38 true 40 (AY (tm 39))),(uG 38 true 41 (AA (tm 0))),(uG 38 true 42 (Af (tm 41))),(uG 38 true 43 (AH 1 (tm 42))),(uG 38 true 44 (AY (tm 43))),(uG 38 true 45 (AM Bu (tm 40) (tm 44))),(uB 46 (Az (tm 38) (tm 45) (O.c (V.b Bool.false)))),(uB 34 (AA (tm 46)))] none) lT)
abbrev gu:CC:=(CC.cond (tm 17) ep tW)
abbrev po:CC:=(CC.seq (CC.A7 [(uB 18 (AH 1 (tm 3))),(wB 19 (AY (tm 18))),(uB 20 (Ba (tm 19))),(uB 21 (AM D9 (tm 20) (oN 0))),(uB 22 (AA (tm 21))),(uG 22 true 23 (AH 1 (tm 3))),(uG 22 true 24 (AY (tm 23))),(uG 22 true 25 (AF 5 (tm 24) (oN 0))),(uG 22 true 26 (AH 0 (tm 25))),(uG 22 true 27 (AY (tm 26))),(uG 22 true 28 (AA (tm 0))),(uG 22 true 29 (Af (tm 28))),(uG 22 true 30 (AH 3 (tm 29))),(uG 22 true 31 (AY (tm 30))),(uG 22 true 32 (AM Bu (tm 27) (tm 31))),(uB 33 (Az (tm 22) (tm 32) (O.c (V.b Bool.false)))),(uB 17 (AA (tm 33)))] none) gu)
abbrev gI:CC:=(CC.block 0 po)
abbrev ye:CC:=(CC.seq (CC.region [(wB 3 (DK 35 (tm 1))),(wB 4 (AA (O.c (V.b Bool.false))))]) gI)
theorem yK:AV Try.prog 43=⟨47,ye,[(Rs.tmp (AR 4))]⟩:=by kernel_rfl
abbrev lJ:CC:=(CC.cond (tm 16) CC.skip (CC.exit 0))
abbrev jW:CC:=(CC.region [(wB 27 (AA (tm 5))),(wB 28 (AU 5 (tm 7))),(wB 29 (Aw 57 1 [(V.i IntKind.i64 (Int.ofNat 0)),(V.i IntKind.i64 (Int.ofNat 0)),(V.s 0 0),(V.s 0 0),(V.i IntKind.i64 (Int.ofNat 0))] [(Pt.mk 0 5 (tm 28))])),(wB 30 (Bk 57 5 (tm 27) (tm 29))),(wB 5 (AA (tm 30)))])
abbrev fv:CC:=(CC.seq (CC.A7 [(uB 19 (AH 2 (tm 7))),(uB 20 (AY (tm 19))),(uB 21 (AW 62 [(tm 20)])),(uB 22 (AH 3 (tm 7))),(uB 23 (AY (tm 22))),(wB 24 (AW 62 [(tm 23)])),(uB 25 (AH 2 (tm 7))),(CO.mk G.none D.none Bool.true (CR.mk (Ae 1 (tm 25) (tm 21)))),(uB 26 (AH 3 (tm 7))),(CO.mk G.none D.none Bool.true (CR.mk (Ae 1 (tm 26) (tm 24))))] (some ([2,5,7,9],[(1,[0]),(4,[0,3])]))) jW)
abbrev mC:CC:=(CC.seq (CC.region [(wB 17 (AF 5 (tm 13) (tm 15))),(wB 18 (AU 5 (tm 17))),(wB 7 (CA 57 [(V.i IntKind.i64 (Int.ofNat 0)),(V.i IntKind.i64 (Int.ofNat 0)),(V.s 0 0),(V.s 0 0),(V.i IntKind.i64 (Int.ofNat 0))])),(CO.mk G.none D.none Bool.true (CR.mk (Ae 5 (tm 7) (tm 18))))]) fv)
abbrev tX:CC:=(CC.block 1 mC)
abbrev iM:CC:=(CC.region [(wB 31 (AM BA (tm 15) (oN 1))),(wB 15 (AA (tm 31)))])
abbrev lj:CC:=(CC.seq tX iM)
abbrev qB:CC:=(CC.seq lJ lj)
abbrev iJ:CC:=(CC.seq (CC.region [(wB 16 (AM Bu (tm 15) (tm 14)))]) qB)
abbrev nX:CC:=(CC.loop iJ)
abbrev sT:CC:=(CC.block 0 nX)
abbrev XK:CC:=(CC.seq (CC.region [(wB 12 (AH 1 (tm 3))),(wB 13 (AY (tm 12))),(wB 14 (Ba (tm 13))),(wB 15 (AA (oN 0)))]) sT)
abbrev WD:CC:=(CC.seq (CC.region [(wB 34 (AA (tm 5))),(wB 4 (AA (tm 34)))]) CC.ret)
abbrev aQ:CC:=(CC.seq (CC.region [(wB 32 (AA (tm 5))),(wB 33 (AW 63 [(tm 32),(O.c (V.f 64 []))]))]) WD)
abbrev Z9:CC:=(CC.seq XK aQ)
abbrev bS:CC:=(CC.seq (CC.region [(wB 8 (AA (tm 0))),(wB 9 (AW 26 [(tm 8)])),(wB 10 (O1 60 [(tm 3)])),(wB 11 (AW 59 [(tm 9),(tm 10)])),(wB 5 (AA (tm 11)))]) Z9)
abbrev w6:CC:=(CC.seq (CC.region [(wB 3 (DK 35 (tm 1))),(wB 4 (AA (O.c V.l0)))]) bS)
theorem yb:AV Try.prog 44=⟨35,w6,[(Rs.tmp (AR 4))]⟩:=by kernel_rfl
abbrev oc:CC:=(CC.seq (CC.region [(wB 4 (AH 0 (tm 1))),(wB 5 (AY (tm 4))),(wB 6 (AH 0 (tm 2))),(wB 7 (AY (tm 6))),(wB 8 (AW 61 [(tm 5),(tm 7)])),(wB 3 (AA (tm 8)))]) CC.ret)
abbrev xX:CC:=(CC.seq (CC.region [(wB 2 (DK 57 (tm 0))),(wB 3 (AA (O.c (V.b Bool.false))))]) oc)
theorem xI:AV Try.prog 60=⟨9,xX,[(Rs.tmp (AR 3))]⟩:=by kernel_rfl
abbrev jt:CC:=(CC.cond (tm 8) CC.skip (CC.exit 0))
abbrev sc:CC:=(CC.seq (CC.region [(wB 2 (AA (O.c (V.b Bool.true))))]) CC.ret)
abbrev qV:CC:=(CC.cond (tm 33) sc CC.skip)
abbrev iK:CC:=(CC.seq (CC.A7 [(uB 12 (AA (tm 3))),(uB 13 (AM D9 (tm 12) (oN 0))),(uB 14 (AA (tm 13))),(uG 14 true 15 (AA (tm 0))),(uG 14 true 16 (AA (tm 3))),(uG 14 true 17 (AM Bq (tm 16) (oN 1))),(uG 14 true 18 (AF 5 (tm 15) (tm 17))),(uG 14 true 19 (AH 1 (tm 18))),(wG 14 true 20 (AY (tm 19))),(uG 14 true 21 (AM En (tm 20) (oN 1))),(uB 22 (Az (tm 14) (tm 21) (O.c (V.b Bool.false)))),(uB 23 (AA (tm 22))),(uG 23 true 24 (AH 2 (tm 4))),(uG 23 true 25 (AY (tm 24))),(uG 23 true 26 (AA (tm 0))),(uG 23 true 27 (AA (tm 3))),(uG 23 true 28 (AM Bq (tm 27) (oN 1))),(uG 23 true 29 (AF 5 (tm 26) (tm 28))),(uG 23 true 30 (AH 3 (tm 29))),(uG 23 true 31 (AY (tm 30))),(uG 23 true 32 (CV (fun a b c d=>Fj a b c d||Fy a b c d) (tm 25) (tm 31))),(uB 33 (Az (tm 23) (tm 32) (O.c (V.b Bool.false))))] none) qV)
abbrev iB:CC:=(CC.seq (CC.region [(wB 9 (AA (tm 7))),(wB 10 (AF 5 (tm 5) (tm 7))),(wB 11 (AU 5 (tm 10))),(wB 4 (CA 57 [(V.i IntKind.i64 (Int.ofNat 0)),(V.i IntKind.i64 (Int.ofNat 0)),(V.s 0 0),(V.s 0 0),(V.i IntKind.i64 (Int.ofNat 0))])),(wB 3 (AA (tm 9))),(CO.mk G.none D.none Bool.true (CR.mk (Ae 5 (tm 4) (tm 11))))]) iK)
abbrev jE:CC:=(CC.block 1 iB)
abbrev iw:CC:=(CC.region [(wB 34 (AM BA (tm 7) (oN 1))),(wB 7 (AA (tm 34)))])
abbrev nH:CC:=(CC.seq jE iw)
abbrev eN:CC:=(CC.seq jt nH)
abbrev iI:CC:=(CC.seq (CC.region [(wB 8 (AM Bu (tm 7) (tm 6)))]) eN)
abbrev rn:CC:=(CC.loop iI)
abbrev dj:CC:=(CC.block 0 rn)
abbrev dS:CC:=(CC.seq (CC.region [(wB 5 (AA (tm 0))),(wB 6 (Ba (tm 5))),(wB 7 (AA (oN 0)))]) dj)
abbrev Wu:CC:=(CC.seq (CC.region [(wB 2 (AA (O.c (V.b Bool.false))))]) CC.ret)
abbrev aB:CC:=(CC.seq dS Wu)
abbrev xJ:CC:=(CC.seq (CC.region [(wB 2 (AA (O.c (V.b Bool.false))))]) aB)
theorem yZ:AV Try.prog 45=⟨35,xJ,[(Rs.tmp (AR 2))]⟩:=by kernel_rfl
end Go.Proofs.Ytobfgempjekjpaa
set_option maxRecDepth 1000000
namespace Go.Proofs.Ytobfgempjekjpaa
open Go Go.Ev
abbrev sh:CC:=(CC.cond (tm 14) CC.skip (CC.exit 0))
abbrev qt:CC:=(CC.seq (CC.region [(wB 12 (AA (tm 8))),(wB 13 (AA (tm 2))),(wB 14 (AM Bu (tm 12) (tm 13)))]) sh)
abbrev fA:CC:=(CC.cond (tm 34) CC.skip (CC.exit 2))
abbrev lD:CC:=(CC.seq (CC.A7 [(uB 18 (AA (tm 9))),(uB 19 (AA (tm 1))),(uB 20 (AM D9 (tm 18) (tm 19))),(uB 21 (AA (tm 20))),(uG 21 true 22 (AA (tm 3))),(uG 21 true 23 (AA (tm 0))),(uG 21 true 24 (AA (tm 9))),(uG 21 true 25 (AF 5 (tm 23) (tm 24))),(uG 21 true 26 (AU 5 (tm 25))),(uG 21 true 27 (AA (tm 0))),(uG 21 true 28 (AA (tm 9))),(uG 21 true 29 (AM Bq (tm 28) (oN 1))),(uG 21 true 30 (AF 5 (tm 27) (tm 29))),(uG 21 true 31 (AU 5 (tm 30))),(wG 21 true 32 (BZ (tm 22) [(tm 26),(tm 31)])),(uG 21 true 33 (AM Bu (tm 32) (oN 0))),(uB 34 (Az (tm 21) (tm 33) (O.c (V.b Bool.false))))] none) fA)
abbrev kY:CC:=(CC.A7 [(uB 37 (AA (tm 0))),(uB 38 (AA (tm 9))),(uB 39 (AA (tm 0))),(uB 40 (AA (tm 9))),(uB 41 (AM Bq (tm 40) (oN 1))),(uB 42 (AA (tm 0))),(uB 43 (AA (tm 9))),(uB 44 (AM Bq (tm 43) (oN 1))),(uB 45 (AF 5 (tm 42) (tm 44))),(uB 46 (AU 5 (tm 45))),(uB 47 (AA (tm 0))),(uB 48 (AA (tm 9))),(uB 49 (AF 5 (tm 47) (tm 48))),(uB 50 (AU 5 (tm 49))),(uB 51 (AF 5 (tm 37) (tm 38))),(CO.mk G.none D.none Bool.true (CR.mk (Ae 5 (tm 51) (tm 46)))),(uB 52 (AF 5 (tm 39) (tm 41))),(CO.mk G.none D.none Bool.true (CR.mk (Ae 5 (tm 52) (tm 50))))] none)
abbrev ft:CC:=(CC.block 3 kY)
abbrev kM:CC:=(CC.region [(wB 35 (AA (tm 9))),(wB 36 (AM Bq (tm 35) (oN 1))),(wB 9 (AA (tm 36)))])
abbrev pF:CC:=(CC.seq ft kM)
abbrev kG:CC:=(CC.seq lD pF)
abbrev pN:CC:=(CC.loop kG)
abbrev oP:CC:=(CC.block 2 pN)
abbrev Za:CC:=(CC.seq (CC.region [(wB 17 (AA (tm 8))),(wB 9 (AA (tm 17)))]) oP)
abbrev WX:CC:=(CC.block 1 Za)
abbrev YG:CC:=(CC.region [(wB 15 (AA (tm 8))),(wB 16 (AM BA (tm 15) (oN 1))),(wB 8 (AA (tm 16)))])
abbrev Y2:CC:=(CC.seq WX YG)
abbrev ml:CC:=(CC.seq qt Y2)
abbrev X3:CC:=(CC.loop ml)
abbrev Yo:CC:=(CC.block 0 X3)
abbrev xF:CC:=(CC.seq (CC.region [(wB 10 (AA (tm 1))),(wB 11 (AM BA (tm 10) (oN 1))),(wB 8 (AA (tm 11)))]) Yo)
theorem yk:AV Try.prog 81=⟨53,xF,[]⟩:=by kernel_rfl
abbrev sG:CC:=(CC.cond (tm 18) (CC.exit 0) CC.skip)
abbrev iN:CC:=(CC.seq (CC.region [(wB 16 (AA (tm 11))),(wB 17 (AA (tm 2))),(wB 18 (AM EJ (tm 16) (tm 17)))]) sG)
abbrev fF:CC:=(CC.region [(wB 41 (AA (tm 11))),(wB 42 (AM BA (tm 41) (oN 1))),(wB 11 (AA (tm 42)))])
abbrev oD:CC:=(CC.cond (tm 40) fF CC.skip)
abbrev qz:CC:=(CC.seq (CC.A7 [(uB 19 (AA (tm 11))),(uB 20 (AM BA (tm 19) (oN 1))),(uB 21 (AA (tm 2))),(uB 22 (AM Bu (tm 20) (tm 21))),(uB 23 (AA (tm 22))),(uG 23 true 24 (AA (tm 4))),(uG 23 true 25 (AA (tm 0))),(uG 23 true 26 (AA (tm 3))),(uG 23 true 27 (AA (tm 11))),(uG 23 true 28 (AM BA (tm 26) (tm 27))),(uG 23 true 29 (AF 5 (tm 25) (tm 28))),(uG 23 true 30 (AU 5 (tm 29))),(uG 23 true 31 (AA (tm 0))),(uG 23 true 32 (AA (tm 3))),(uG 23 true 33 (AA (tm 11))),(uG 23 true 34 (AM BA (tm 32) (tm 33))),(uG 23 true 35 (AM BA (tm 34) (oN 1))),(uG 23 true 36 (AF 5 (tm 31) (tm 35))),(uG 23 true 37 (AU 5 (tm 36))),(wG 23 true 38 (BZ (tm 24) [(tm 30),(tm 37)])),(uG 23 true 39 (AM Bu (tm 38) (oN 0))),(uB 40 (Az (tm 23) (tm 39) (O.c (V.b Bool.false))))] none) oD)
abbrev ll:CC:=(CC.cond (tm 58) CC.ret CC.skip)
abbrev sN:CC:=(CC.seq (CC.A7 [(uB 43 (AA (tm 4))),(uB 44 (AA (tm 0))),(uB 45 (AA (tm 3))),(uB 46 (AA (tm 10))),(uB 47 (AM BA (tm 45) (tm 46))),(uB 48 (AF 5 (tm 44) (tm 47))),(uB 49 (AU 5 (tm 48))),(uB 50 (AA (tm 0))),(uB 51 (AA (tm 3))),(uB 52 (AA (tm 11))),(uB 53 (AM BA (tm 51) (tm 52))),(uB 54 (AF 5 (tm 50) (tm 53))),(uB 55 (AU 5 (tm 54))),(wB 56 (BZ (tm 43) [(tm 49),(tm 55)])),(uB 57 (AM Bu (tm 56) (oN 0))),(uB 58 (Cc (tm 57)))] none) ll)
abbrev nL:CC:=(CC.region [(wB 81 (AA (tm 11))),(wB 10 (AA (tm 81)))])
abbrev oJ:CC:=(CC.seq (CC.A7 [(uB 59 (AA (tm 0))),(uB 60 (AA (tm 3))),(uB 61 (AA (tm 10))),(uB 62 (AM BA (tm 60) (tm 61))),(uB 63 (AA (tm 0))),(uB 64 (AA (tm 3))),(uB 65 (AA (tm 11))),(uB 66 (AM BA (tm 64) (tm 65))),(uB 67 (AA (tm 0))),(uB 68 (AA (tm 3))),(uB 69 (AA (tm 11))),(uB 70 (AM BA (tm 68) (tm 69))),(uB 71 (AF 5 (tm 67) (tm 70))),(uB 72 (AU 5 (tm 71))),(uB 73 (AA (tm 0))),(uB 74 (AA (tm 3))),(uB 75 (AA (tm 10))),(uB 76 (AM BA (tm 74) (tm 75))),(uB 77 (AF 5 (tm 73) (tm 76))),(uB 78 (AU 5 (tm 77))),(uB 79 (AF 5 (tm 59) (tm 62))),(CO.mk G.none D.none Bool.true (CR.mk (Ae 5 (tm 79) (tm 72)))),(uB 80 (AF 5 (tm 63) (tm 66))),(CO.mk G.none D.none Bool.true (CR.mk (Ae 5 (tm 80) (tm 78))))] none) nL)
abbrev Vk:CC:=(CC.seq sN oJ)
abbrev Z5:CC:=(CC.seq qz Vk)
abbrev XO:CC:=(CC.seq iN Z5)
abbrev Zr:CC:=(CC.seq (CC.region [(wB 13 (AA (tm 10))),(wB 14 (AM HL (oN 2) (tm 13))),(wB 15 (AM BA (tm 14) (oN 1))),(wB 11 (AA (tm 15)))]) XO)
abbrev kf:CC:=(CC.block 1 Zr)
abbrev Vv:CC:=(CC.loop kf)
abbrev Yu:CC:=(CC.block 0 Vv)
abbrev yi:CC:=(CC.seq (CC.region [(wB 12 (AA (tm 1))),(wB 10 (AA (tm 12)))]) Yu)
theorem xW:AV Try.prog 93=⟨82,yi,[]⟩:=by kernel_rfl
abbrev gL:CC:=(CC.cond (tm 21) CC.skip (CC.exit 0))
abbrev fu:CC:=(CC.seq (CC.region [(wB 20 (AA (tm 11))),(wB 21 (AM EJ (tm 20) (oN 0)))]) gL)
abbrev oR:CC:=(CC.region [(wB 24 (AA (tm 0))),(wB 25 (AA (tm 11))),(wB 26 (AA (tm 10))),(wB 27 (AA (tm 8))),(wB 28 (AA (tm 3))),(wB 29 (AW 93 [(tm 24),(tm 25),(tm 26),(tm 27),(tm 28)]))])
abbrev lK:CC:=(CC.block 1 oR)
abbrev qP:CC:=(CC.region [(wB 22 (AA (tm 11))),(wB 23 (AM Bq (tm 22) (oN 1))),(wB 11 (AA (tm 23)))])
abbrev pK:CC:=(CC.seq lK qP)
abbrev jZ:CC:=(CC.seq fu pK)
abbrev pW:CC:=(CC.loop jZ)
abbrev tD:CC:=(CC.block 0 pW)
abbrev rQ:CC:=(CC.seq (CC.region [(wB 17 (AA (tm 10))),(wB 18 (AM Bq (tm 17) (oN 1))),(wB 19 (AM KN (tm 18) (oN 2))),(wB 11 (AA (tm 19)))]) tD)
abbrev nN:CC:=(CC.cond (tm 33) CC.skip (CC.exit 2))
abbrev YM:CC:=(CC.seq (CC.region [(wB 32 (AA (tm 12))),(wB 33 (AM EJ (tm 32) (oN 0)))]) nN)
abbrev Zx:CC:=(CC.region [(wB 54 (AA (tm 0))),(wB 55 (AA (tm 9))),(wB 56 (AA (tm 12))),(wB 57 (AA (tm 8))),(wB 58 (AA (tm 3))),(wB 59 (AW 93 [(tm 54),(tm 55),(tm 56),(tm 57),(tm 58)]))])
abbrev aT:CC:=(CC.seq (CC.A7 [(uB 36 (AA (tm 0))),(uB 37 (AA (tm 8))),(uB 38 (AA (tm 0))),(uB 39 (AA (tm 8))),(uB 40 (AA (tm 12))),(uB 41 (AM BA (tm 39) (tm 40))),(uB 42 (AA (tm 0))),(uB 43 (AA (tm 8))),(uB 44 (AA (tm 12))),(uB 45 (AM BA (tm 43) (tm 44))),(uB 46 (AF 5 (tm 42) (tm 45))),(uB 47 (AU 5 (tm 46))),(uB 48 (AA (tm 0))),(uB 49 (AA (tm 8))),(uB 50 (AF 5 (tm 48) (tm 49))),(uB 51 (AU 5 (tm 50))),(uB 52 (AF 5 (tm 36) (tm 37))),(CO.mk G.none D.none Bool.true (CR.mk (Ae 5 (tm 52) (tm 47)))),(uB 53 (AF 5 (tm 38) (tm 41))),(CO.mk G.none D.none Bool.true (CR.mk (Ae 5 (tm 53) (tm 51))))] none) Zx)
abbrev dZ:CC:=(CC.block 3 aT)
abbrev WW:CC:=(CC.region [(wB 34 (AA (tm 12))),(wB 35 (AM Bq (tm 34) (oN 1))),(wB 12 (AA (tm 35)))])
abbrev YQ:CC:=(CC.seq dZ WW)
abbrev sL:CC:=(CC.seq YM YQ)
abbrev aF:CC:=(CC.loop sL)
abbrev Ya:CC:=(CC.block 2 aF)
abbrev ZK:CC:=(CC.seq (CC.region [(wB 30 (AA (tm 10))),(wB 31 (AM Bq (tm 30) (oN 1))),(wB 12 (AA (tm 31)))]) Ya)
abbrev XW:CC:=(CC.seq rQ ZK)
abbrev YK:CC:=(CC.seq (CC.region [(wB 14 (AA (tm 2))),(wB 15 (AA (tm 1))),(wB 16 (AM Bq (tm 14) (tm 15))),(wB 10 (AA (tm 16)))]) XW)
abbrev Z1:CC:=(CC.seq (CC.region [(wB 9 (AA (oN 0)))]) YK)
abbrev wo:CC:=(CC.seq (CC.region [(wB 13 (AA (tm 1))),(wB 8 (AA (tm 13)))]) Z1)
theorem wx:AV Try.prog 82=⟨60,wo,[]⟩:=by kernel_rfl
abbrev iO:CC:=(CC.seq (CC.region [(wB 26 (AA (tm 0))),(wB 27 (AA (tm 1))),(wB 28 (AA (tm 2))),(wB 29 (AA (tm 4))),(wB 30 (AW 81 [(tm 26),(tm 27),(tm 28),(tm 29)]))]) CC.ret)
abbrev ir:CC:=(CC.cond (tm 25) iO CC.skip)
abbrev nk:CC:=(CC.seq (CC.region [(wB 24 (AA (tm 12))),(wB 25 (AM E8 (tm 24) (oN 12)))]) ir)
abbrev jU:CC:=(CC.seq (CC.region [(wB 33 (AA (tm 0))),(wB 34 (AA (tm 1))),(wB 35 (AA (tm 2))),(wB 36 (AA (tm 4))),(wB 37 (AW 82 [(tm 33),(tm 34),(tm 35),(tm 36)]))]) CC.ret)
abbrev kq:CC:=(CC.cond (tm 32) jU CC.skip)
abbrev kQ:CC:=(CC.seq (CC.region [(wB 31 (AA (tm 3))),(wB 32 (AM En (tm 31) (oN 0)))]) kq)
abbrev nR:CC:=(CC.region [(wB 45 (AA (tm 3))),(wB 46 (AM Bq (tm 45) (oN 1))),(wB 3 (AA (tm 46)))])
abbrev mY:CC:=(CC.seq (CC.region [(wB 40 (AA (tm 0))),(wB 41 (AA (tm 1))),(wB 42 (AA (tm 2))),(wB 43 (AA (tm 4))),(wB 44 (AW 83 [(tm 40),(tm 41),(tm 42),(tm 43)]))]) nR)
abbrev qC:CC:=(CC.cond (tm 39) mY CC.skip)
abbrev qh:CC:=(CC.seq (CC.region [(wB 38 (AA (tm 10))),(wB 39 (Cc (tm 38)))]) qC)
abbrev cZ:CC:=(CC.seq (CC.region [(wB 62 (AA (tm 2))),(wB 63 (AM Bq (tm 62) (oN 1))),(wB 64 (AA (tm 13))),(wB 65 (AA (tm 1))),(wB 66 (AM Bq (tm 64) (tm 65))),(wB 67 (AM Bq (tm 63) (tm 66))),(wB 13 (AA (tm 67)))]) (CC.region [(wB 14 (AA (oN 1)))]))
abbrev dQ:CC:=(CC.seq (CC.region [(wB 57 (AA (tm 0))),(wB 58 (AA (tm 1))),(wB 59 (AA (tm 2))),(wB 60 (AA (tm 4))),(wB 61 (AW 85 [(tm 57),(tm 58),(tm 59),(tm 60)]))]) cZ)
abbrev dA:CC:=(CC.cond (tm 56) dQ CC.skip)
abbrev aI:CC:=(CC.seq (CC.region [(wB 55 (AA (tm 14))),(wB 56 (AM En (tm 55) (oN 2)))]) dA)
abbrev dn:CC:=(CC.cond (tm 80) CC.ret CC.skip)
abbrev XB:CC:=(CC.seq (CC.region [(wB 76 (AA (tm 0))),(wB 77 (AA (tm 1))),(wB 78 (AA (tm 2))),(wB 79 (AA (tm 4))),(wB 80 (AW 86 [(tm 76),(tm 77),(tm 78),(tm 79)]))]) dn)
abbrev Wt:CC:=(CC.cond (tm 75) XB CC.skip)
abbrev cI:CC:=(CC.seq (CC.region [(wB 68 (AA (tm 10))),(wB 69 (AA (tm 68))),(wG 69 true 70 (AA (tm 11))),(wB 71 (Az (tm 69) (tm 70) (O.c (V.b Bool.false)))),(wB 72 (AA (tm 71))),(wG 72 true 73 (AA (tm 14))),(wG 72 true 74 (AM En (tm 73) (oN 1))),(wB 75 (Az (tm 72) (tm 74) (O.c (V.b Bool.false))))]) Wt)
abbrev ZF:CC:=(CC.seq (CC.region [(wB 104 (AA (tm 15))),(wB 1 (AA (tm 104)))]) (CC.exit 1))
abbrev cL:CC:=(CC.seq (CC.region [(wB 98 (AA (tm 0))),(wB 99 (AA (tm 1))),(wB 100 (AA (tm 2))),(wB 101 (AA (tm 13))),(wB 102 (AA (tm 4))),(wB 103 (AW 87 [(tm 98),(tm 99),(tm 100),(tm 101),(tm 102)])),(wB 15 (AA (tm 103)))]) ZF)
abbrev ZS:CC:=(CC.cond (tm 97) cL CC.skip)
abbrev Yf:CC:=(CC.seq (CC.A7 [(uB 81 (AA (tm 1))),(uB 82 (AM D9 (tm 81) (oN 0))),(uB 83 (AA (tm 82))),(uG 83 true 84 (AA (tm 4))),(uG 83 true 85 (AA (tm 0))),(uG 83 true 86 (AA (tm 1))),(uG 83 true 87 (AM Bq (tm 86) (oN 1))),(uG 83 true 88 (AF 5 (tm 85) (tm 87))),(uG 83 true 89 (AU 5 (tm 88))),(uG 83 true 90 (AA (tm 0))),(uG 83 true 91 (AA (tm 13))),(uG 83 true 92 (AF 5 (tm 90) (tm 91))),(uG 83 true 93 (AU 5 (tm 92))),(wG 83 true 94 (BZ (tm 84) [(tm 89),(tm 93)])),(uG 83 true 95 (AM Bu (tm 94) (oN 0))),(uG 83 true 96 (Cc (tm 95))),(uB 97 (Az (tm 83) (tm 96) (O.c (V.b Bool.false))))] none) ZS)
abbrev X7:CC:=(CC.region [(wB 135 (AA (tm 16))),(wB 136 (AM BA (tm 135) (oN 1))),(wB 1 (AA (tm 136)))])
abbrev Zf:CC:=(CC.seq (CC.region [(wB 129 (AA (tm 0))),(wB 130 (AA (tm 1))),(wB 131 (AA (tm 16))),(wB 132 (AA (tm 3))),(wB 133 (AA (tm 4))),(wB 134 (AW 75 [(tm 129),(tm 130),(tm 131),(tm 132),(tm 133)]))]) X7)
abbrev Zb:CC:=(CC.seq (CC.region [(wB 126 (AA (tm 18))),(wB 127 (AA (tm 20))),(wB 128 (AM EJ (tm 126) (tm 127))),(wB 10 (AA (tm 128)))]) Zf)
abbrev Yp:CC:=(CC.region [(wB 147 (AA (tm 16))),(wB 2 (AA (tm 147)))])
abbrev Ye:CC:=(CC.seq (CC.region [(wB 140 (AA (tm 0))),(wB 141 (AA (tm 16))),(wB 142 (AM BA (tm 141) (oN 1))),(wB 143 (AA (tm 2))),(wB 144 (AA (tm 3))),(wB 145 (AA (tm 4))),(wB 146 (AW 75 [(tm 140),(tm 142),(tm 143),(tm 144),(tm 145)]))]) Yp)
abbrev bO:CC:=(CC.seq (CC.region [(wB 137 (AA (tm 19))),(wB 138 (AA (tm 20))),(wB 139 (AM EJ (tm 137) (tm 138))),(wB 10 (AA (tm 139)))]) Ye)
abbrev Xa:CC:=(CC.cond (tm 125) Zb bO)
abbrev ag:CC:=(CC.seq (CC.region [(wB 123 (AA (tm 18))),(wB 124 (AA (tm 19))),(wB 125 (AM Bu (tm 123) (tm 124)))]) Xa)
abbrev Xr:CC:=(CC.seq (CC.region [(wB 121 (AA (tm 12))),(wB 122 (AM KN (tm 121) (oN 8))),(wB 20 (AA (tm 122)))]) ag)
abbrev Xt:CC:=(CC.seq (CC.region [(wB 115 (AA (tm 16))),(wB 116 (AA (tm 1))),(wB 117 (AM Bq (tm 115) (tm 116))),(wB 118 (AA (tm 2))),(wB 119 (AA (tm 16))),(wB 120 (AM Bq (tm 118) (tm 119))),(wB 18 (AA (tm 117))),(wB 19 (AA (tm 120)))]) Xr)
abbrev aK:CC:=(CC.seq (CC.region [(wB 114 (AA (tm 17))),(wB 11 (AA (tm 114)))]) Xt)
abbrev RB:CC:=(CC.seq (CC.region [(wB 106 (AA (tm 0))),(wB 107 (AA (tm 1))),(wB 108 (AA (tm 2))),(wB 109 (AA (tm 13))),(wB 110 (AA (tm 4))),(wB 111 (AW 88 [(tm 106),(tm 107),(tm 108),(tm 109),(tm 110)])),(wB 105 (AA (tm 111))),(wB 112 (Ax 0 (tm 105))),(wB 113 (Ax 1 (tm 105))),(wB 16 (AA (tm 112))),(wB 17 (AA (tm 113)))]) aK)
abbrev SR:CC:=(CC.seq Yf RB)
abbrev SO:CC:=(CC.seq cI SR)
abbrev Wb:CC:=(CC.seq aI SO)
abbrev Rc:CC:=(CC.seq (CC.region [(wB 48 (AA (tm 0))),(wB 49 (AA (tm 1))),(wB 50 (AA (tm 2))),(wB 51 (AA (tm 4))),(wB 52 (AW 84 [(tm 48),(tm 49),(tm 50),(tm 51)])),(wB 47 (AA (tm 52))),(wB 53 (Ax 0 (tm 47))),(wB 54 (Ax 1 (tm 47))),(wB 13 (AA (tm 53))),(wB 14 (AA (tm 54)))]) Wb)
abbrev Zp:CC:=(CC.seq qh Rc)
abbrev Xc:CC:=(CC.seq kQ Zp)
abbrev aX:CC:=(CC.seq nk Xc)
abbrev Wd:CC:=(CC.seq (CC.region [(wB 21 (AA (tm 2))),(wB 22 (AA (tm 1))),(wB 23 (AM Bq (tm 21) (tm 22))),(wB 12 (AA (tm 23)))]) aX)
abbrev ql:CC:=(CC.block 1 Wd)
abbrev bK:CC:=(CC.loop ql)
abbrev Yi:CC:=(CC.block 0 bK)
abbrev XA:CC:=(CC.seq (CC.region [(wB 11 (AA (O.c (V.b Bool.true))))]) Yi)
abbrev xe:CC:=(CC.seq (CC.region [(wB 10 (AA (O.c (V.b Bool.true))))]) XA)
theorem ya:AV Try.prog 75=⟨148,xe,[]⟩:=by kernel_rfl
abbrev lY:CC:=(CC.cond (tm 47) CC.skip (CC.exit 0))
abbrev ee:CC:=(CC.seq (CC.A7 [(uB 32 (AA (tm 12))),(uB 33 (AA (tm 13))),(uB 34 (AM E8 (tm 32) (tm 33))),(uB 35 (AA (tm 34))),(uG 35 true 36 (AA (tm 4))),(uG 35 true 37 (AA (tm 0))),(uG 35 true 38 (AA (tm 12))),(uG 35 true 39 (AF 5 (tm 37) (tm 38))),(uG 35 true 40 (AU 5 (tm 39))),(uG 35 true 41 (AA (tm 0))),(uG 35 true 42 (AA (tm 1))),(uG 35 true 43 (AF 5 (tm 41) (tm 42))),(uG 35 true 44 (AU 5 (tm 43))),(wG 35 true 45 (BZ (tm 36) [(tm 40),(tm 44)])),(uG 35 true 46 (AM Bu (tm 45) (oN 0))),(uB 47 (Az (tm 35) (tm 46) (O.c (V.b Bool.false))))] none) lY)
abbrev gE:CC:=(CC.region [(wB 48 (AA (tm 12))),(wB 49 (AM BA (tm 48) (oN 1))),(wB 12 (AA (tm 49)))])
abbrev eZ:CC:=(CC.block 1 gE)
abbrev fP:CC:=(CC.seq ee eZ)
abbrev rv:CC:=(CC.loop fP)
abbrev fm:CC:=(CC.block 0 rv)
abbrev iq:CC:=(CC.cond (tm 66) CC.skip (CC.exit 2))
abbrev qd:CC:=(CC.seq (CC.A7 [(uB 50 (AA (tm 12))),(uB 51 (AA (tm 13))),(uB 52 (AM E8 (tm 50) (tm 51))),(uB 53 (AA (tm 52))),(uG 53 true 54 (AA (tm 4))),(uG 53 true 55 (AA (tm 0))),(uG 53 true 56 (AA (tm 13))),(uG 53 true 57 (AF 5 (tm 55) (tm 56))),(uG 53 true 58 (AU 5 (tm 57))),(uG 53 true 59 (AA (tm 0))),(uG 53 true 60 (AA (tm 1))),(uG 53 true 61 (AF 5 (tm 59) (tm 60))),(uG 53 true 62 (AU 5 (tm 61))),(wG 53 true 63 (BZ (tm 54) [(tm 58),(tm 62)])),(uG 53 true 64 (AM Bu (tm 63) (oN 0))),(uG 53 true 65 (Cc (tm 64))),(uB 66 (Az (tm 53) (tm 65) (O.c (V.b Bool.false))))] none) iq)
abbrev ib:CC:=(CC.region [(wB 67 (AA (tm 13))),(wB 68 (AM Bq (tm 67) (oN 1))),(wB 13 (AA (tm 68)))])
abbrev gZ:CC:=(CC.block 3 ib)
abbrev kT:CC:=(CC.seq qd gZ)
abbrev Z4:CC:=(CC.loop kT)
abbrev eH:CC:=(CC.block 2 Z4)
abbrev cS:CC:=(CC.seq (CC.region [(wB 86 (AA (tm 13))),(wB 10 (AA (tm 86))),(wB 11 (AA (O.c (V.b Bool.true))))]) CC.ret)
abbrev bI:CC:=(CC.seq (CC.A7 [(uB 72 (AA (tm 0))),(uB 73 (AA (tm 13))),(uB 74 (AA (tm 0))),(uB 75 (AA (tm 1))),(uB 76 (AA (tm 0))),(uB 77 (AA (tm 1))),(uB 78 (AF 5 (tm 76) (tm 77))),(uB 79 (AU 5 (tm 78))),(uB 80 (AA (tm 0))),(uB 81 (AA (tm 13))),(uB 82 (AF 5 (tm 80) (tm 81))),(uB 83 (AU 5 (tm 82))),(uB 84 (AF 5 (tm 72) (tm 73))),(CO.mk G.none D.none Bool.true (CR.mk (Ae 5 (tm 84) (tm 79)))),(uB 85 (AF 5 (tm 74) (tm 75))),(CO.mk G.none D.none Bool.true (CR.mk (Ae 5 (tm 85) (tm 83))))] none) cS)
abbrev ZJ:CC:=(CC.cond (tm 71) bI CC.skip)
abbrev YP:CC:=(CC.seq (CC.region [(wB 69 (AA (tm 12))),(wB 70 (AA (tm 13))),(wB 71 (AM D9 (tm 69) (tm 70)))]) ZJ)
abbrev XY:CC:=(CC.cond (tm 120) CC.skip (CC.exit 6))
abbrev WN:CC:=(CC.seq (CC.A7 [(uB 105 (AA (tm 12))),(uB 106 (AA (tm 13))),(uB 107 (AM E8 (tm 105) (tm 106))),(uB 108 (AA (tm 107))),(uG 108 true 109 (AA (tm 4))),(uG 108 true 110 (AA (tm 0))),(uG 108 true 111 (AA (tm 12))),(uG 108 true 112 (AF 5 (tm 110) (tm 111))),(uG 108 true 113 (AU 5 (tm 112))),(uG 108 true 114 (AA (tm 0))),(uG 108 true 115 (AA (tm 1))),(uG 108 true 116 (AF 5 (tm 114) (tm 115))),(uG 108 true 117 (AU 5 (tm 116))),(wG 108 true 118 (BZ (tm 109) [(tm 113),(tm 117)])),(uG 108 true 119 (AM Bu (tm 118) (oN 0))),(uB 120 (Az (tm 108) (tm 119) (O.c (V.b Bool.false))))] none) XY)
abbrev dT:CC:=(CC.region [(wB 121 (AA (tm 12))),(wB 122 (AM BA (tm 121) (oN 1))),(wB 12 (AA (tm 122)))])
abbrev YO:CC:=(CC.block 7 dT)
abbrev hO:CC:=(CC.seq WN YO)
abbrev Xk:CC:=(CC.loop hO)
abbrev cx:CC:=(CC.block 6 Xk)
abbrev Zs:CC:=(CC.cond (tm 139) CC.skip (CC.exit 8))
abbrev bZ:CC:=(CC.seq (CC.A7 [(uB 123 (AA (tm 12))),(uB 124 (AA (tm 13))),(uB 125 (AM E8 (tm 123) (tm 124))),(uB 126 (AA (tm 125))),(uG 126 true 127 (AA (tm 4))),(uG 126 true 128 (AA (tm 0))),(uG 126 true 129 (AA (tm 13))),(uG 126 true 130 (AF 5 (tm 128) (tm 129))),(uG 126 true 131 (AU 5 (tm 130))),(uG 126 true 132 (AA (tm 0))),(uG 126 true 133 (AA (tm 1))),(uG 126 true 134 (AF 5 (tm 132) (tm 133))),(uG 126 true 135 (AU 5 (tm 134))),(wG 126 true 136 (BZ (tm 127) [(tm 131),(tm 135)])),(uG 126 true 137 (AM Bu (tm 136) (oN 0))),(uG 126 true 138 (Cc (tm 137))),(uB 139 (Az (tm 126) (tm 138) (O.c (V.b Bool.false))))] none) Zs)
abbrev YC:CC:=(CC.region [(wB 140 (AA (tm 13))),(wB 141 (AM Bq (tm 140) (oN 1))),(wB 13 (AA (tm 141)))])
abbrev Xi:CC:=(CC.block 9 YC)
abbrev qX:CC:=(CC.seq bZ Xi)
abbrev dN:CC:=(CC.loop qX)
abbrev WY:CC:=(CC.block 8 dN)
abbrev cC:CC:=(CC.cond (tm 144) (CC.exit 4) CC.skip)
abbrev dp:CC:=(CC.seq (CC.region [(wB 142 (AA (tm 12))),(wB 143 (AA (tm 13))),(wB 144 (AM D9 (tm 142) (tm 143)))]) cC)
abbrev Xo:CC:=(CC.region [(wB 161 (AA (tm 13))),(wB 162 (AM Bq (tm 161) (oN 1))),(wB 13 (AA (tm 162)))])
abbrev X6:CC:=(CC.seq (CC.region [(wB 159 (AA (tm 12))),(wB 160 (AM BA (tm 159) (oN 1))),(wB 12 (AA (tm 160)))]) Xo)
abbrev Wq:CC:=(CC.seq (CC.A7 [(uB 145 (AA (tm 0))),(uB 146 (AA (tm 12))),(uB 147 (AA (tm 0))),(uB 148 (AA (tm 13))),(uB 149 (AA (tm 0))),(uB 150 (AA (tm 13))),(uB 151 (AF 5 (tm 149) (tm 150))),(uB 152 (AU 5 (tm 151))),(uB 153 (AA (tm 0))),(uB 154 (AA (tm 12))),(uB 155 (AF 5 (tm 153) (tm 154))),(uB 156 (AU 5 (tm 155))),(uB 157 (AF 5 (tm 145) (tm 146))),(CO.mk G.none D.none Bool.true (CR.mk (Ae 5 (tm 157) (tm 152)))),(uB 158 (AF 5 (tm 147) (tm 148))),(CO.mk G.none D.none Bool.true (CR.mk (Ae 5 (tm 158) (tm 156))))] none) X6)
abbrev XF:CC:=(CC.seq dp Wq)
abbrev X1:CC:=(CC.seq WY XF)
abbrev ZB:CC:=(CC.seq cx X1)
abbrev iu:CC:=(CC.block 5 ZB)
abbrev aR:CC:=(CC.loop iu)
abbrev YV:CC:=(CC.block 4 aR)
abbrev WE:CC:=(CC.seq (CC.region [(wB 177 (AA (tm 13))),(wB 10 (AA (tm 177))),(wB 11 (AA (O.c (V.b Bool.false))))]) CC.ret)
abbrev Yz:CC:=(CC.seq (CC.A7 [(uB 163 (AA (tm 0))),(uB 164 (AA (tm 13))),(uB 165 (AA (tm 0))),(uB 166 (AA (tm 1))),(uB 167 (AA (tm 0))),(uB 168 (AA (tm 1))),(uB 169 (AF 5 (tm 167) (tm 168))),(uB 170 (AU 5 (tm 169))),(uB 171 (AA (tm 0))),(uB 172 (AA (tm 13))),(uB 173 (AF 5 (tm 171) (tm 172))),(uB 174 (AU 5 (tm 173))),(uB 175 (AF 5 (tm 163) (tm 164))),(CO.mk G.none D.none Bool.true (CR.mk (Ae 5 (tm 175) (tm 170)))),(uB 176 (AF 5 (tm 165) (tm 166))),(CO.mk G.none D.none Bool.true (CR.mk (Ae 5 (tm 176) (tm 174))))] none) WE)
abbrev cq:CC:=(CC.seq YV Yz)
abbrev WU:CC:=(CC.seq (CC.region [(wB 103 (AA (tm 13))),(wB 104 (AM Bq (tm 103) (oN 1))),(wB 13 (AA (tm 104)))]) cq)
abbrev V9:CC:=(CC.seq (CC.region [(wB 101 (AA (tm 12))),(wB 102 (AM BA (tm 101) (oN 1))),(wB 12 (AA (tm 102)))]) WU)
abbrev Xj:CC:=(CC.seq (CC.A7 [(uB 87 (AA (tm 0))),(uB 88 (AA (tm 12))),(uB 89 (AA (tm 0))),(uB 90 (AA (tm 13))),(uB 91 (AA (tm 0))),(uB 92 (AA (tm 13))),(uB 93 (AF 5 (tm 91) (tm 92))),(uB 94 (AU 5 (tm 93))),(uB 95 (AA (tm 0))),(uB 96 (AA (tm 12))),(uB 97 (AF 5 (tm 95) (tm 96))),(uB 98 (AU 5 (tm 97))),(uB 99 (AF 5 (tm 87) (tm 88))),(CO.mk G.none D.none Bool.true (CR.mk (Ae 5 (tm 99) (tm 94)))),(uB 100 (AF 5 (tm 89) (tm 90))),(CO.mk G.none D.none Bool.true (CR.mk (Ae 5 (tm 100) (tm 98))))] none) V9)
abbrev WZ:CC:=(CC.seq YP Xj)
abbrev bk:CC:=(CC.seq eH WZ)
abbrev Zd:CC:=(CC.seq fm bk)
abbrev Y7:CC:=(CC.seq (CC.region [(wB 28 (AA (tm 1))),(wB 29 (AM BA (tm 28) (oN 1))),(wB 30 (AA (tm 2))),(wB 31 (AM Bq (tm 30) (oN 1))),(wB 12 (AA (tm 29))),(wB 13 (AA (tm 31)))]) Zd)
abbrev YB:CC:=(CC.seq (CC.A7 [(uB 14 (AA (tm 0))),(uB 15 (AA (tm 1))),(uB 16 (AA (tm 0))),(uB 17 (AA (tm 3))),(uB 18 (AA (tm 0))),(uB 19 (AA (tm 3))),(uB 20 (AF 5 (tm 18) (tm 19))),(uB 21 (AU 5 (tm 20))),(uB 22 (AA (tm 0))),(uB 23 (AA (tm 1))),(uB 24 (AF 5 (tm 22) (tm 23))),(uB 25 (AU 5 (tm 24))),(uB 26 (AF 5 (tm 14) (tm 15))),(CO.mk G.none D.none Bool.true (CR.mk (Ae 5 (tm 26) (tm 21)))),(uB 27 (AF 5 (tm 16) (tm 17))),(CO.mk G.none D.none Bool.true (CR.mk (Ae 5 (tm 27) (tm 25))))] none) Y7)
abbrev yh:CC:=(CC.seq (CC.region [(wB 10 (AA (oN 0))),(wB 11 (AA (O.c (V.b Bool.false))))]) YB)
theorem xL:AV Try.prog 88=⟨178,yh,[(Rs.tmp (AR 10)),(Rs.tmp (AR 11))]⟩:=by kernel_rfl
abbrev gQ:CC:=(CC.cond (tm 47) CC.skip (CC.exit 2))
abbrev rJ:CC:=(CC.seq (CC.A7 [(uB 31 (AA (tm 11))),(uB 32 (AA (tm 12))),(uB 33 (AM E8 (tm 31) (tm 32))),(uB 34 (AA (tm 33))),(uG 34 true 35 (AA (tm 4))),(uG 34 true 36 (AA (tm 0))),(uG 34 true 37 (AA (tm 1))),(uG 34 true 38 (AF 5 (tm 36) (tm 37))),(uG 34 true 39 (AU 5 (tm 38))),(uG 34 true 40 (AA (tm 0))),(uG 34 true 41 (AA (tm 11))),(uG 34 true 42 (AF 5 (tm 40) (tm 41))),(uG 34 true 43 (AU 5 (tm 42))),(wG 34 true 44 (BZ (tm 35) [(tm 39),(tm 43)])),(uG 34 true 45 (AM Bu (tm 44) (oN 0))),(uG 34 true 46 (Cc (tm 45))),(uB 47 (Az (tm 34) (tm 46) (O.c (V.b Bool.false))))] none) gQ)
abbrev mM:CC:=(CC.region [(wB 48 (AA (tm 11))),(wB 49 (AM BA (tm 48) (oN 1))),(wB 11 (AA (tm 49)))])
abbrev jX:CC:=(CC.block 3 mM)
abbrev mQ:CC:=(CC.seq rJ jX)
abbrev kU:CC:=(CC.loop mQ)
abbrev jr:CC:=(CC.block 2 kU)
abbrev qI:CC:=(CC.cond (tm 65) CC.skip (CC.exit 4))
abbrev gS:CC:=(CC.seq (CC.A7 [(uB 50 (AA (tm 11))),(uB 51 (AA (tm 12))),(uB 52 (AM E8 (tm 50) (tm 51))),(uB 53 (AA (tm 52))),(uG 53 true 54 (AA (tm 4))),(uG 53 true 55 (AA (tm 0))),(uG 53 true 56 (AA (tm 1))),(uG 53 true 57 (AF 5 (tm 55) (tm 56))),(uG 53 true 58 (AU 5 (tm 57))),(uG 53 true 59 (AA (tm 0))),(uG 53 true 60 (AA (tm 12))),(uG 53 true 61 (AF 5 (tm 59) (tm 60))),(uG 53 true 62 (AU 5 (tm 61))),(wG 53 true 63 (BZ (tm 54) [(tm 58),(tm 62)])),(uG 53 true 64 (AM Bu (tm 63) (oN 0))),(uB 65 (Az (tm 53) (tm 64) (O.c (V.b Bool.false))))] none) qI)
abbrev iE:CC:=(CC.region [(wB 66 (AA (tm 12))),(wB 67 (AM Bq (tm 66) (oN 1))),(wB 12 (AA (tm 67)))])
abbrev jR:CC:=(CC.block 5 iE)
abbrev p9:CC:=(CC.seq gS jR)
abbrev Wp:CC:=(CC.loop p9)
abbrev dY:CC:=(CC.block 4 Wp)
abbrev XZ:CC:=(CC.cond (tm 70) (CC.exit 0) CC.skip)
abbrev bh:CC:=(CC.seq (CC.region [(wB 68 (AA (tm 11))),(wB 69 (AA (tm 12))),(wB 70 (AM D9 (tm 68) (tm 69)))]) XZ)
abbrev cF:CC:=(CC.region [(wB 87 (AA (tm 12))),(wB 88 (AM Bq (tm 87) (oN 1))),(wB 12 (AA (tm 88)))])
abbrev Wg:CC:=(CC.seq (CC.region [(wB 85 (AA (tm 11))),(wB 86 (AM BA (tm 85) (oN 1))),(wB 11 (AA (tm 86)))]) cF)
abbrev Yc:CC:=(CC.seq (CC.A7 [(uB 71 (AA (tm 0))),(uB 72 (AA (tm 11))),(uB 73 (AA (tm 0))),(uB 74 (AA (tm 12))),(uB 75 (AA (tm 0))),(uB 76 (AA (tm 12))),(uB 77 (AF 5 (tm 75) (tm 76))),(uB 78 (AU 5 (tm 77))),(uB 79 (AA (tm 0))),(uB 80 (AA (tm 11))),(uB 81 (AF 5 (tm 79) (tm 80))),(uB 82 (AU 5 (tm 81))),(uB 83 (AF 5 (tm 71) (tm 72))),(CO.mk G.none D.none Bool.true (CR.mk (Ae 5 (tm 83) (tm 78)))),(uB 84 (AF 5 (tm 73) (tm 74))),(CO.mk G.none D.none Bool.true (CR.mk (Ae 5 (tm 84) (tm 82))))] none) Wg)
abbrev ar:CC:=(CC.seq bh Yc)
abbrev Yn:CC:=(CC.seq dY ar)
abbrev WQ:CC:=(CC.seq jr Yn)
abbrev mL:CC:=(CC.block 1 WQ)
abbrev XD:CC:=(CC.loop mL)
abbrev dg:CC:=(CC.block 0 XD)
abbrev Yw:CC:=(CC.seq (CC.region [(wB 89 (AA (tm 11))),(wB 10 (AA (tm 89)))]) CC.ret)
abbrev Vw:CC:=(CC.seq dg Yw)
abbrev Yx:CC:=(CC.seq (CC.region [(wB 27 (AA (tm 1))),(wB 28 (AM BA (tm 27) (oN 1))),(wB 29 (AA (tm 2))),(wB 30 (AM Bq (tm 29) (oN 1))),(wB 11 (AA (tm 28))),(wB 12 (AA (tm 30)))]) Vw)
abbrev ca:CC:=(CC.seq (CC.A7 [(uB 13 (AA (tm 0))),(uB 14 (AA (tm 1))),(uB 15 (AA (tm 0))),(uB 16 (AA (tm 3))),(uB 17 (AA (tm 0))),(uB 18 (AA (tm 3))),(uB 19 (AF 5 (tm 17) (tm 18))),(uB 20 (AU 5 (tm 19))),(uB 21 (AA (tm 0))),(uB 22 (AA (tm 1))),(uB 23 (AF 5 (tm 21) (tm 22))),(uB 24 (AU 5 (tm 23))),(uB 25 (AF 5 (tm 13) (tm 14))),(CO.mk G.none D.none Bool.true (CR.mk (Ae 5 (tm 25) (tm 20)))),(uB 26 (AF 5 (tm 15) (tm 16))),(CO.mk G.none D.none Bool.true (CR.mk (Ae 5 (tm 26) (tm 24))))] none) Yx)
abbrev yI:CC:=(CC.seq (CC.region [(wB 10 (AA (oN 0)))]) ca)
theorem xd:AV Try.prog 87=⟨90,yI,[(Rs.tmp (AR 10))]⟩:=by kernel_rfl
abbrev sE:CC:=(CC.cond (tm 16) CC.skip (CC.exit 0))
abbrev lA:CC:=(CC.seq (CC.region [(wB 15 (AA (tm 10))),(wB 16 (AM Bu (tm 15) (oN 5)))]) sE)
abbrev pR:CC:=(CC.cond (tm 36) CC.skip (CC.exit 2))
abbrev kS:CC:=(CC.seq (CC.A7 [(uB 19 (AA (tm 9))),(uB 20 (AA (tm 2))),(uB 21 (AM Bu (tm 19) (tm 20))),(uB 22 (AA (tm 21))),(uG 22 true 23 (AA (tm 3))),(uG 22 true 24 (AA (tm 0))),(uG 22 true 25 (AA (tm 9))),(uG 22 true 26 (AF 5 (tm 24) (tm 25))),(uG 22 true 27 (AU 5 (tm 26))),(uG 22 true 28 (AA (tm 0))),(uG 22 true 29 (AA (tm 9))),(uG 22 true 30 (AM Bq (tm 29) (oN 1))),(uG 22 true 31 (AF 5 (tm 28) (tm 30))),(uG 22 true 32 (AU 5 (tm 31))),(wG 22 true 33 (BZ (tm 23) [(tm 27),(tm 32)])),(uG 22 true 34 (AM Bu (tm 33) (oN 0))),(uG 22 true 35 (Cc (tm 34))),(uB 36 (Az (tm 22) (tm 35) (O.c (V.b Bool.false))))] none) pR)
abbrev sS:CC:=(CC.region [(wB 37 (AA (tm 9))),(wB 38 (AM BA (tm 37) (oN 1))),(wB 9 (AA (tm 38)))])
abbrev iG:CC:=(CC.block 3 sS)
abbrev qL:CC:=(CC.seq kS iG)
abbrev gO:CC:=(CC.loop qL)
abbrev p7:CC:=(CC.block 2 gO)
abbrev gW:CC:=(CC.seq (CC.region [(wB 8 (AA (O.c (V.b Bool.true))))]) CC.ret)
abbrev tQ:CC:=(CC.cond (tm 41) gW CC.skip)
abbrev cX:CC:=(CC.seq (CC.region [(wB 39 (AA (tm 9))),(wB 40 (AA (tm 2))),(wB 41 (AM En (tm 39) (tm 40)))]) tQ)
abbrev Zt:CC:=(CC.seq (CC.region [(wB 8 (AA (O.c (V.b Bool.false))))]) CC.ret)
abbrev WK:CC:=(CC.cond (tm 45) Zt CC.skip)
abbrev dK:CC:=(CC.seq (CC.region [(wB 42 (AA (tm 2))),(wB 43 (AA (tm 1))),(wB 44 (AM Bq (tm 42) (tm 43))),(wB 45 (AM Bu (tm 44) (oN 50)))]) WK)
abbrev Yg:CC:=(CC.cond (tm 69) CC.skip (CC.exit 4))
abbrev XT:CC:=(CC.seq (CC.region [(wB 68 (AA (tm 11))),(wB 69 (AM EJ (tm 68) (oN 1)))]) Yg)
abbrev eD:CC:=(CC.cond (tm 84) (CC.exit 4) CC.skip)
abbrev Yt:CC:=(CC.seq (CC.A7 [(uB 72 (AA (tm 3))),(uB 73 (AA (tm 0))),(uB 74 (AA (tm 11))),(uB 75 (AF 5 (tm 73) (tm 74))),(uB 76 (AU 5 (tm 75))),(uB 77 (AA (tm 0))),(uB 78 (AA (tm 11))),(uB 79 (AM Bq (tm 78) (oN 1))),(uB 80 (AF 5 (tm 77) (tm 79))),(uB 81 (AU 5 (tm 80))),(wB 82 (BZ (tm 72) [(tm 76),(tm 81)])),(uB 83 (AM Bu (tm 82) (oN 0))),(uB 84 (Cc (tm 83)))] none) eD)
abbrev aj:CC:=(CC.A7 [(uB 85 (AA (tm 0))),(uB 86 (AA (tm 11))),(uB 87 (AA (tm 0))),(uB 88 (AA (tm 11))),(uB 89 (AM Bq (tm 88) (oN 1))),(uB 90 (AA (tm 0))),(uB 91 (AA (tm 11))),(uB 92 (AM Bq (tm 91) (oN 1))),(uB 93 (AF 5 (tm 90) (tm 92))),(uB 94 (AU 5 (tm 93))),(uB 95 (AA (tm 0))),(uB 96 (AA (tm 11))),(uB 97 (AF 5 (tm 95) (tm 96))),(uB 98 (AU 5 (tm 97))),(uB 99 (AF 5 (tm 85) (tm 86))),(CO.mk G.none D.none Bool.true (CR.mk (Ae 5 (tm 99) (tm 94)))),(uB 100 (AF 5 (tm 87) (tm 89))),(CO.mk G.none D.none Bool.true (CR.mk (Ae 5 (tm 100) (tm 98))))] none)
abbrev Zk:CC:=(CC.seq Yt aj)
abbrev WV:CC:=(CC.block 5 Zk)
abbrev aM:CC:=(CC.region [(wB 70 (AA (tm 11))),(wB 71 (AM Bq (tm 70) (oN 1))),(wB 11 (AA (tm 71)))])
abbrev ZC:CC:=(CC.seq WV aM)
abbrev hU:CC:=(CC.seq XT ZC)
abbrev aD:CC:=(CC.loop hU)
abbrev bW:CC:=(CC.block 4 aD)
abbrev aP:CC:=(CC.seq (CC.region [(wB 66 (AA (tm 9))),(wB 67 (AM Bq (tm 66) (oN 1))),(wB 11 (AA (tm 67)))]) bW)
abbrev cN:CC:=(CC.cond (tm 65) aP CC.skip)
abbrev bF:CC:=(CC.seq (CC.region [(wB 62 (AA (tm 9))),(wB 63 (AA (tm 1))),(wB 64 (AM Bq (tm 62) (tm 63))),(wB 65 (AM EJ (tm 64) (oN 2)))]) cN)
abbrev dW:CC:=(CC.cond (tm 109) CC.skip (CC.exit 6))
abbrev aS:CC:=(CC.seq (CC.region [(wB 107 (AA (tm 12))),(wB 108 (AA (tm 2))),(wB 109 (AM Bu (tm 107) (tm 108)))]) dW)
abbrev Xb:CC:=(CC.cond (tm 124) (CC.exit 6) CC.skip)
abbrev Ys:CC:=(CC.seq (CC.A7 [(uB 112 (AA (tm 3))),(uB 113 (AA (tm 0))),(uB 114 (AA (tm 12))),(uB 115 (AF 5 (tm 113) (tm 114))),(uB 116 (AU 5 (tm 115))),(uB 117 (AA (tm 0))),(uB 118 (AA (tm 12))),(uB 119 (AM Bq (tm 118) (oN 1))),(uB 120 (AF 5 (tm 117) (tm 119))),(uB 121 (AU 5 (tm 120))),(wB 122 (BZ (tm 112) [(tm 116),(tm 121)])),(uB 123 (AM Bu (tm 122) (oN 0))),(uB 124 (Cc (tm 123)))] none) Xb)
abbrev aa:CC:=(CC.A7 [(uB 125 (AA (tm 0))),(uB 126 (AA (tm 12))),(uB 127 (AA (tm 0))),(uB 128 (AA (tm 12))),(uB 129 (AM Bq (tm 128) (oN 1))),(uB 130 (AA (tm 0))),(uB 131 (AA (tm 12))),(uB 132 (AM Bq (tm 131) (oN 1))),(uB 133 (AF 5 (tm 130) (tm 132))),(uB 134 (AU 5 (tm 133))),(uB 135 (AA (tm 0))),(uB 136 (AA (tm 12))),(uB 137 (AF 5 (tm 135) (tm 136))),(uB 138 (AU 5 (tm 137))),(uB 139 (AF 5 (tm 125) (tm 126))),(CO.mk G.none D.none Bool.true (CR.mk (Ae 5 (tm 139) (tm 134)))),(uB 140 (AF 5 (tm 127) (tm 129))),(CO.mk G.none D.none Bool.true (CR.mk (Ae 5 (tm 140) (tm 138))))] none)
abbrev Y8:CC:=(CC.seq Ys aa)
abbrev dD:CC:=(CC.block 7 Y8)
abbrev cB:CC:=(CC.region [(wB 110 (AA (tm 12))),(wB 111 (AM BA (tm 110) (oN 1))),(wB 12 (AA (tm 111)))])
abbrev YD:CC:=(CC.seq dD cB)
abbrev nV:CC:=(CC.seq aS YD)
abbrev Z7:CC:=(CC.loop nV)
abbrev Wo:CC:=(CC.block 6 Z7)
abbrev bj:CC:=(CC.seq (CC.region [(wB 105 (AA (tm 9))),(wB 106 (AM BA (tm 105) (oN 1))),(wB 12 (AA (tm 106)))]) Wo)
abbrev Yj:CC:=(CC.cond (tm 104) bj CC.skip)
abbrev Sp:CC:=(CC.seq (CC.region [(wB 101 (AA (tm 2))),(wB 102 (AA (tm 9))),(wB 103 (AM Bq (tm 101) (tm 102))),(wB 104 (AM EJ (tm 103) (oN 2)))]) Yj)
abbrev Xh:CC:=(CC.seq bF Sp)
abbrev V7:CC:=(CC.seq (CC.A7 [(uB 46 (AA (tm 0))),(uB 47 (AA (tm 9))),(uB 48 (AA (tm 0))),(uB 49 (AA (tm 9))),(uB 50 (AM Bq (tm 49) (oN 1))),(uB 51 (AA (tm 0))),(uB 52 (AA (tm 9))),(uB 53 (AM Bq (tm 52) (oN 1))),(uB 54 (AF 5 (tm 51) (tm 53))),(uB 55 (AU 5 (tm 54))),(uB 56 (AA (tm 0))),(uB 57 (AA (tm 9))),(uB 58 (AF 5 (tm 56) (tm 57))),(uB 59 (AU 5 (tm 58))),(uB 60 (AF 5 (tm 46) (tm 47))),(CO.mk G.none D.none Bool.true (CR.mk (Ae 5 (tm 60) (tm 55)))),(uB 61 (AF 5 (tm 48) (tm 50))),(CO.mk G.none D.none Bool.true (CR.mk (Ae 5 (tm 61) (tm 59))))] none) Xh)
abbrev Zl:CC:=(CC.seq dK V7)
abbrev W8:CC:=(CC.seq cX Zl)
abbrev ZD:CC:=(CC.seq p7 W8)
abbrev cT:CC:=(CC.block 1 ZD)
abbrev YN:CC:=(CC.region [(wB 17 (AA (tm 10))),(wB 18 (AM BA (tm 17) (oN 1))),(wB 10 (AA (tm 18)))])
abbrev YU:CC:=(CC.seq cT YN)
abbrev sJ:CC:=(CC.seq lA YU)
abbrev Xw:CC:=(CC.loop sJ)
abbrev ZQ:CC:=(CC.block 0 Xw)
abbrev dH:CC:=(CC.seq (CC.region [(wB 10 (AA (oN 0)))]) ZQ)
abbrev XR:CC:=(CC.seq (CC.region [(wB 8 (AA (O.c (V.b Bool.false))))]) CC.ret)
abbrev ah:CC:=(CC.seq dH XR)
abbrev bN:CC:=(CC.seq (CC.region [(wB 13 (AA (tm 1))),(wB 14 (AM BA (tm 13) (oN 1))),(wB 9 (AA (tm 14)))]) ah)
abbrev yJ:CC:=(CC.seq (CC.region [(wB 8 (AA (O.c (V.b Bool.false))))]) bN)
theorem xY:AV Try.prog 86=⟨141,yJ,[(Rs.tmp (AR 8))]⟩:=by kernel_rfl
abbrev nK:CC:=(CC.cond (tm 35) CC.skip (CC.exit 0))
abbrev qM:CC:=(CC.seq (CC.region [(wB 28 (AA (tm 11))),(wB 29 (AA (tm 1))),(wB 30 (AA (tm 8))),(wB 31 (AM KN (tm 30) (oN 4))),(wB 32 (AM HL (tm 31) (oN 2))),(wB 33 (AM BA (tm 29) (tm 32))),(wB 34 (AM BA (tm 33) (oN 1))),(wB 35 (AM E8 (tm 28) (tm 34)))]) nK)
abbrev nE:CC:=(CC.region [(wB 46 (AA (tm 12))),(wB 47 (AA (tm 8))),(wB 48 (AM Bq (tm 46) (tm 47))),(wB 12 (AA (tm 48)))])
abbrev iS:CC:=(CC.cond (tm 45) nE CC.skip)
abbrev sr:CC:=(CC.seq (CC.region [(wB 43 (AA (tm 12))),(wB 44 (AA (tm 8))),(wB 45 (AM EJ (tm 43) (tm 44)))]) iS)
abbrev pZ:CC:=(CC.A7 [(uB 49 (AA (tm 0))),(uB 50 (AA (tm 11))),(uB 51 (AA (tm 0))),(uB 52 (AA (tm 1))),(uB 53 (AA (tm 12))),(uB 54 (AM BA (tm 52) (tm 53))),(uB 55 (AA (tm 0))),(uB 56 (AA (tm 1))),(uB 57 (AA (tm 12))),(uB 58 (AM BA (tm 56) (tm 57))),(uB 59 (AF 5 (tm 55) (tm 58))),(uB 60 (AU 5 (tm 59))),(uB 61 (AA (tm 0))),(uB 62 (AA (tm 11))),(uB 63 (AF 5 (tm 61) (tm 62))),(uB 64 (AU 5 (tm 63))),(uB 65 (AF 5 (tm 49) (tm 50))),(CO.mk G.none D.none Bool.true (CR.mk (Ae 5 (tm 65) (tm 60)))),(uB 66 (AF 5 (tm 51) (tm 54))),(CO.mk G.none D.none Bool.true (CR.mk (Ae 5 (tm 66) (tm 64))))] none)
abbrev nY:CC:=(CC.seq sr pZ)
abbrev mS:CC:=(CC.seq (CC.region [(wB 38 (AW 95 [(tm 9)])),(wB 39 (AA (tm 10))),(wB 40 (AM Bq (tm 39) (O.c (V.i IntKind.u64 (Int.ofNat 1))))),(wB 41 (AM MR (tm 38) (tm 40))),(wB 42 (Bc IntKind.i64 (tm 41))),(wB 12 (AA (tm 42)))]) nY)
abbrev pJ:CC:=(CC.block 1 mS)
abbrev tA:CC:=(CC.region [(wB 36 (AA (tm 11))),(wB 37 (AM BA (tm 36) (oN 1))),(wB 11 (AA (tm 37)))])
abbrev ZM:CC:=(CC.seq pJ tA)
abbrev oW:CC:=(CC.seq qM ZM)
abbrev Y1:CC:=(CC.loop oW)
abbrev ai:CC:=(CC.block 0 Y1)
abbrev ay:CC:=(CC.seq (CC.region [(wB 22 (AA (tm 1))),(wB 23 (AA (tm 8))),(wB 24 (AM KN (tm 23) (oN 4))),(wB 25 (AM HL (tm 24) (oN 2))),(wB 26 (AM BA (tm 22) (tm 25))),(wB 27 (AM Bq (tm 26) (oN 1))),(wB 11 (AA (tm 27)))]) ai)
abbrev Vx:CC:=(CC.seq (CC.region [(wB 20 (AA (tm 8))),(wB 21 (AW 94 [(tm 20)])),(wB 10 (AA (tm 21)))]) ay)
abbrev cy:CC:=(CC.seq (CC.region [(wB 18 (AA (tm 8))),(wB 19 (Bc IntKind.u64 (tm 18))),(wB 9 (CA 128 [(V.i IntKind.u64 (Int.ofNat 0))])),(CO.mk G.none D.none Bool.true (CR.mk (Ae 1 (tm 9) (tm 19))))]) Vx)
abbrev cO:CC:=(CC.cond (tm 17) cy CC.skip)
abbrev WC:CC:=(CC.seq (CC.region [(wB 16 (AA (tm 8))),(wB 17 (AM EJ (tm 16) (oN 8)))]) cO)
abbrev yo:CC:=(CC.seq (CC.region [(wB 13 (AA (tm 2))),(wB 14 (AA (tm 1))),(wB 15 (AM Bq (tm 13) (tm 14))),(wB 8 (AA (tm 15)))]) WC)
theorem wi:AV Try.prog 83=⟨67,yo,[]⟩:=by kernel_rfl
abbrev fU:CC:=(CC.region [(wB 45 (AA (tm 0))),(wB 46 (AA (tm 14))),(wB 47 (AA (tm 3))),(wB 48 (AW 96 [(tm 45),(tm 46),(tm 11),(tm 47)])),(wB 14 (AA (tm 48)))])
abbrev rZ:CC:=(CC.seq (CC.region [(wB 41 (AA (tm 0))),(wB 42 (AA (tm 13))),(wB 43 (AA (tm 3))),(wB 44 (AW 96 [(tm 41),(tm 42),(tm 11),(tm 43)])),(wB 13 (AA (tm 44)))]) fU)
abbrev pb:CC:=(CC.seq (CC.region [(wB 37 (AA (tm 0))),(wB 38 (AA (tm 12))),(wB 39 (AA (tm 3))),(wB 40 (AW 96 [(tm 37),(tm 38),(tm 11),(tm 39)])),(wB 12 (AA (tm 40)))]) rZ)
abbrev eS:CC:=(CC.cond (tm 36) pb CC.skip)
abbrev qJ:CC:=(CC.seq (CC.region [(wB 35 (AA (tm 10))),(wB 36 (AM EJ (tm 35) (oN 50)))]) eS)
abbrev eR:CC:=(CC.region [(wB 49 (AA (tm 0))),(wB 50 (AA (tm 12))),(wB 51 (AA (tm 13))),(wB 52 (AA (tm 14))),(wB 53 (AA (tm 3))),(wB 54 (AW 97 [(tm 49),(tm 50),(tm 51),(tm 52),(tm 11),(tm 53)])),(wB 13 (AA (tm 54)))])
abbrev lR:CC:=(CC.seq qJ eR)
abbrev iU:CC:=(CC.cond (tm 34) lR CC.skip)
abbrev oL:CC:=(CC.seq (CC.region [(wB 33 (AA (tm 10))),(wB 34 (AM EJ (tm 33) (oN 8)))]) iU)
abbrev rk:CC:=(CC.seq (CC.region [(wB 59 (AA (tm 13))),(wB 8 (AA (tm 59))),(wB 9 (AA (oN 1)))]) CC.ret)
abbrev YY:CC:=(CC.seq (CC.region [(wB 62 (AA (tm 13))),(wB 8 (AA (tm 62))),(wB 9 (AA (oN 2)))]) CC.ret)
abbrev Xm:CC:=(CC.seq (CC.region [(wB 56 (AA (tm 13))),(wB 8 (AA (tm 56))),(wB 9 (AA (oN 0)))]) CC.ret)
abbrev cm:CC:=(CC.cond (tm 60) YY Xm)
abbrev eF:CC:=(CC.seq (CC.region [(wB 61 (AM En (tm 55) (oN 12))),(wB 60 (AA (tm 61)))]) cm)
abbrev cu:CC:=(CC.cond (tm 57) rk eF)
abbrev XS:CC:=(CC.seq (CC.region [(wB 58 (AM En (tm 55) (oN 0))),(wB 57 (AA (tm 58)))]) cu)
abbrev YE:CC:=(CC.block 0 XS)
abbrev cM:CC:=(CC.seq (CC.region [(wB 55 (AY (tm 11)))]) YE)
abbrev Zz:CC:=(CC.seq oL cM)
abbrev bE:CC:=(CC.seq (CC.region [(wB 28 (AA (tm 1))),(wB 29 (AA (tm 10))),(wB 30 (AM KN (tm 29) (oN 4))),(wB 31 (AM HL (tm 30) (oN 3))),(wB 32 (AM BA (tm 28) (tm 31))),(wB 14 (AA (tm 32)))]) Zz)
abbrev XI:CC:=(CC.seq (CC.region [(wB 23 (AA (tm 1))),(wB 24 (AA (tm 10))),(wB 25 (AM KN (tm 24) (oN 4))),(wB 26 (AM HL (tm 25) (oN 2))),(wB 27 (AM BA (tm 23) (tm 26))),(wB 13 (AA (tm 27)))]) bE)
abbrev aU:CC:=(CC.seq (CC.region [(wB 18 (AA (tm 1))),(wB 19 (AA (tm 10))),(wB 20 (AM KN (tm 19) (oN 4))),(wB 21 (AM HL (tm 20) (oN 1))),(wB 22 (AM BA (tm 18) (tm 21))),(wB 12 (AA (tm 22)))]) XI)
abbrev Y5:CC:=(CC.seq (CC.region [(wB 11 (CA 3 [(V.i IntKind.i64 (Int.ofNat 0))]))]) aU)
abbrev ae:CC:=(CC.seq (CC.region [(wB 15 (AA (tm 2))),(wB 16 (AA (tm 1))),(wB 17 (AM Bq (tm 15) (tm 16))),(wB 10 (AA (tm 17)))]) Y5)
abbrev xR:CC:=(CC.seq (CC.region [(wB 8 (AA (oN 0))),(wB 9 (AA (oN 0)))]) ae)
theorem yA:AV Try.prog 84=⟨63,xR,[(Rs.tmp (AR 8)),(Rs.tmp (AR 9))]⟩:=by kernel_rfl
abbrev jh:CC:=(CC.seq (CC.region [(wB 28 (AA (tm 2))),(wB 29 (AA (tm 1))),(wB 10 (AA (tm 28))),(wB 11 (AA (tm 29)))]) CC.ret)
abbrev oH:CC:=(CC.seq (CC.region [(wB 23 (AA (tm 3))),(wB 24 (Af (tm 23))),(wB 25 (AY (tm 24))),(wB 26 (AM BA (tm 25) (oN 1))),(wB 27 (Af (tm 23))),(CO.mk G.none D.none Bool.true (CR.mk (Ae 1 (tm 27) (tm 26))))]) jh)
abbrev nJ:CC:=(CC.cond (tm 22) oH CC.skip)
abbrev kZ:CC:=(CC.seq (CC.A7 [(uB 12 (AA (tm 4))),(uB 13 (AA (tm 0))),(uB 14 (AA (tm 2))),(uB 15 (AF 5 (tm 13) (tm 14))),(uB 16 (AU 5 (tm 15))),(uB 17 (AA (tm 0))),(uB 18 (AA (tm 1))),(uB 19 (AF 5 (tm 17) (tm 18))),(uB 20 (AU 5 (tm 19))),(wB 21 (BZ (tm 12) [(tm 16),(tm 20)])),(uB 22 (AM Bu (tm 21) (oN 0)))] none) nJ)
abbrev jb:CC:=(CC.seq (CC.region [(wB 30 (AA (tm 1))),(wB 31 (AA (tm 2))),(wB 10 (AA (tm 30))),(wB 11 (AA (tm 31)))]) CC.ret)
abbrev ko:CC:=(CC.seq kZ jb)
abbrev xt:CC:=(CC.seq (CC.region [(wB 10 (AA (oN 0))),(wB 11 (AA (oN 0)))]) ko)
theorem yv:AV Try.prog 99=⟨32,xt,[(Rs.tmp (AR 10)),(Rs.tmp (AR 11))]⟩:=by kernel_rfl
abbrev oC:CC:=(CC.seq (CC.region [(wB 40 (AA (tm 2))),(wB 12 (AA (tm 40)))]) CC.ret)
abbrev kK:CC:=(CC.seq (CC.region [(wB 32 (AA (tm 0))),(wB 33 (AA (tm 1))),(wB 34 (AA (tm 2))),(wB 35 (AA (tm 4))),(wB 36 (AA (tm 5))),(wB 37 (AW 99 [(tm 32),(tm 33),(tm 34),(tm 35),(tm 36)])),(wB 31 (AA (tm 37))),(wB 38 (Ax 0 (tm 31))),(wB 39 (Ax 1 (tm 31))),(wB 1 (AA (tm 38))),(wB 2 (AA (tm 39)))]) oC)
abbrev ik:CC:=(CC.seq (CC.region [(wB 23 (AA (tm 0))),(wB 24 (AA (tm 2))),(wB 25 (AA (tm 3))),(wB 26 (AA (tm 4))),(wB 27 (AA (tm 5))),(wB 28 (AW 99 [(tm 23),(tm 24),(tm 25),(tm 26),(tm 27)])),(wB 22 (AA (tm 28))),(wB 29 (Ax 0 (tm 22))),(wB 30 (Ax 1 (tm 22))),(wB 2 (AA (tm 29))),(wB 3 (AA (tm 30)))]) kK)
abbrev jH:CC:=(CC.seq (CC.region [(wB 14 (AA (tm 0))),(wB 15 (AA (tm 1))),(wB 16 (AA (tm 2))),(wB 17 (AA (tm 4))),(wB 18 (AA (tm 5))),(wB 19 (AW 99 [(tm 14),(tm 15),(tm 16),(tm 17),(tm 18)])),(wB 13 (AA (tm 19))),(wB 20 (Ax 0 (tm 13))),(wB 21 (Ax 1 (tm 13))),(wB 1 (AA (tm 20))),(wB 2 (AA (tm 21)))]) ik)
abbrev xO:CC:=(CC.seq (CC.region [(wB 12 (AA (oN 0)))]) jH)
theorem yp:AV Try.prog 97=⟨41,xO,[(Rs.tmp (AR 12))]⟩:=by kernel_rfl
abbrev mo:CC:=(CC.seq (CC.region [(wB 9 (AA (tm 0))),(wB 10 (AA (tm 1))),(wB 11 (AM Bq (tm 10) (oN 1))),(wB 12 (AA (tm 1))),(wB 13 (AA (tm 1))),(wB 14 (AM BA (tm 13) (oN 1))),(wB 15 (AA (tm 2))),(wB 16 (AA (tm 3))),(wB 17 (AW 97 [(tm 9),(tm 11),(tm 12),(tm 14),(tm 15),(tm 16)])),(wB 8 (AA (tm 17)))]) CC.ret)
abbrev xz:CC:=(CC.seq (CC.region [(wB 8 (AA (oN 0)))]) mo)
theorem yj:AV Try.prog 96=⟨18,xz,[(Rs.tmp (AR 8))]⟩:=by kernel_rfl
abbrev j9:CC:=(CC.cond (tm 15) CC.skip (CC.exit 0))
abbrev m9:CC:=(CC.seq (CC.region [(wB 13 (AA (tm 8))),(wB 14 (AA (tm 9))),(wB 15 (AM Bu (tm 13) (tm 14)))]) j9)
abbrev ox:CC:=(CC.region [(wB 32 (AA (tm 9))),(wB 33 (AM Bq (tm 32) (oN 1))),(wB 9 (AA (tm 33)))])
abbrev gR:CC:=(CC.seq (CC.region [(wB 30 (AA (tm 8))),(wB 31 (AM BA (tm 30) (oN 1))),(wB 8 (AA (tm 31)))]) ox)
abbrev qc:CC:=(CC.seq (CC.A7 [(uB 16 (AA (tm 0))),(uB 17 (AA (tm 8))),(uB 18 (AA (tm 0))),(uB 19 (AA (tm 9))),(uB 20 (AA (tm 0))),(uB 21 (AA (tm 9))),(uB 22 (AF 5 (tm 20) (tm 21))),(uB 23 (AU 5 (tm 22))),(uB 24 (AA (tm 0))),(uB 25 (AA (tm 8))),(uB 26 (AF 5 (tm 24) (tm 25))),(uB 27 (AU 5 (tm 26))),(uB 28 (AF 5 (tm 16) (tm 17))),(CO.mk G.none D.none Bool.true (CR.mk (Ae 5 (tm 28) (tm 23)))),(uB 29 (AF 5 (tm 18) (tm 19))),(CO.mk G.none D.none Bool.true (CR.mk (Ae 5 (tm 29) (tm 27))))] none) gR)
abbrev ma:CC:=(CC.block 1 qc)
abbrev mu:CC:=(CC.seq m9 ma)
abbrev fk:CC:=(CC.loop mu)
abbrev pB:CC:=(CC.block 0 fk)
abbrev gz:CC:=(CC.seq (CC.region [(wB 11 (AA (tm 2))),(wB 12 (AM Bq (tm 11) (oN 1))),(wB 9 (AA (tm 12)))]) pB)
abbrev yX:CC:=(CC.seq (CC.region [(wB 10 (AA (tm 1))),(wB 8 (AA (tm 10)))]) gz)
theorem yG:AV Try.prog 85=⟨34,yX,[]⟩:=by kernel_rfl
abbrev mN:CC:=(CC.seq (CC.region [(wB 30 (AA (tm 0))),(wB 31 (Af (tm 30))),(wB 32 (AY (tm 31))),(wB 2 (AA (tm 32)))]) CC.ret)
abbrev mi:CC:=(CC.seq (CC.A7 [(uB 21 (AA (tm 0))),(uB 22 (Af (tm 21))),(uB 23 (AY (tm 22))),(uB 24 (AA (tm 0))),(uB 25 (Af (tm 24))),(uB 26 (AY (tm 25))),(uB 27 (Cd Lu (tm 26) (O.c (V.i IntKind.u64 (Int.ofNat 17))))),(uB 28 (AM KR (tm 23) (tm 27))),(wB 29 (Af (tm 21))),(CO.mk G.none D.none Bool.true (CR.mk (Ae 1 (tm 29) (tm 28))))] none) mN)
abbrev nU:CC:=(CC.seq (CC.A7 [(uB 12 (AA (tm 0))),(uB 13 (Af (tm 12))),(uB 14 (AY (tm 13))),(uB 15 (AA (tm 0))),(uB 16 (Af (tm 15))),(uB 17 (AY (tm 16))),(uB 18 (Cd Le (tm 17) (O.c (V.i IntKind.u64 (Int.ofNat 7))))),(uB 19 (AM KR (tm 14) (tm 18))),(wB 20 (Af (tm 12))),(CO.mk G.none D.none Bool.true (CR.mk (Ae 1 (tm 20) (tm 19))))] none) mi)
abbrev oU:CC:=(CC.seq (CC.A7 [(uB 3 (AA (tm 0))),(uB 4 (Af (tm 3))),(uB 5 (AY (tm 4))),(uB 6 (AA (tm 0))),(uB 7 (Af (tm 6))),(uB 8 (AY (tm 7))),(uB 9 (Cd Lu (tm 8) (O.c (V.i IntKind.u64 (Int.ofNat 13))))),(uB 10 (AM KR (tm 5) (tm 9))),(wB 11 (Af (tm 3))),(CO.mk G.none D.none Bool.true (CR.mk (Ae 1 (tm 11) (tm 10))))] none) nU)
abbrev yn:CC:=(CC.seq (CC.region [(wB 2 (AA (O.c (V.i IntKind.u64 (Int.ofNat 0)))))]) oU)
theorem xx:AV Try.prog 95=⟨33,yn,[(Rs.tmp (AR 2))]⟩:=by kernel_rfl
abbrev kc:CC:=(CC.seq (CC.region [(wB 3 (AA (tm 0))),(wB 4 (Bc IntKind.u64 (tm 3))),(wB 5 (AW 76 [(tm 4)])),(wB 6 (Cd Lu (O.c (V.i IntKind.u64 (Int.ofNat 1))) (tm 5))),(wB 2 (AA (tm 6)))]) CC.ret)
abbrev xh:CC:=(CC.seq (CC.region [(wB 2 (AA (O.c (V.i IntKind.u64 (Int.ofNat 0)))))]) kc)
theorem yO:AV Try.prog 94=⟨7,xh,[(Rs.tmp (AR 2))]⟩:=by kernel_rfl
abbrev kP:CC:=(CC.seq (CC.region [(wB 3 (AA (tm 0))),(wB 4 (Bc IntKind.u32 (tm 3))),(wB 5 (AW 89 [(tm 4)])),(wB 2 (AA (tm 5)))]) CC.ret)
abbrev mv:CC:=(CC.cond (O.c (V.b Bool.false)) kP CC.skip)
abbrev jF:CC:=(CC.seq (CC.region [(wB 6 (AA (tm 0))),(wB 7 (AW 90 [(tm 6)])),(wB 2 (AA (tm 7)))]) CC.ret)
abbrev m8:CC:=(CC.seq mv jF)
abbrev xu:CC:=(CC.seq (CC.region [(wB 2 (AA (oN 0)))]) m8)
theorem xD:AV Try.prog 76=⟨8,xu,[(Rs.tmp (AR 2))]⟩:=by kernel_rfl
abbrev rH:CC:=(CC.seq (CC.region [(wB 5 (AA (tm 0))),(wB 6 (Cd Le (tm 5) (O.c (V.i IntKind.u64 (Int.ofNat 32))))),(wB 0 (AA (tm 6)))]) (CC.region [(wB 2 (AA (oN 32)))]))
abbrev lW:CC:=(CC.cond (tm 4) rH CC.skip)
abbrev sR:CC:=(CC.seq (CC.region [(wB 3 (AA (tm 0))),(wB 4 (AM EJ (tm 3) (O.c (V.i IntKind.u64 (Int.ofNat 4294967296)))))]) lW)
abbrev sK:CC:=(CC.region [(wB 11 (AA (tm 2))),(wB 12 (AM BA (tm 11) (oN 16))),(wB 2 (AA (tm 12)))])
abbrev eP:CC:=(CC.seq (CC.region [(wB 9 (AA (tm 0))),(wB 10 (Cd Le (tm 9) (O.c (V.i IntKind.u64 (Int.ofNat 16))))),(wB 0 (AA (tm 10)))]) sK)
abbrev mU:CC:=(CC.cond (tm 8) eP CC.skip)
abbrev rj:CC:=(CC.seq (CC.region [(wB 7 (AA (tm 0))),(wB 8 (AM EJ (tm 7) (O.c (V.i IntKind.u64 (Int.ofNat 65536)))))]) mU)
abbrev nQ:CC:=(CC.region [(wB 17 (AA (tm 2))),(wB 18 (AM BA (tm 17) (oN 8))),(wB 2 (AA (tm 18)))])
abbrev fa:CC:=(CC.seq (CC.region [(wB 15 (AA (tm 0))),(wB 16 (Cd Le (tm 15) (O.c (V.i IntKind.u64 (Int.ofNat 8))))),(wB 0 (AA (tm 16)))]) nQ)
abbrev om:CC:=(CC.cond (tm 14) fa CC.skip)
abbrev bz:CC:=(CC.seq (CC.region [(wB 13 (AA (tm 0))),(wB 14 (AM EJ (tm 13) (O.c (V.i IntKind.u64 (Int.ofNat 256)))))]) om)
abbrev ZY:CC:=(CC.seq (CC.region [(wB 19 (AA (tm 2))),(wB 20 (AA (tm 0))),(wB 21 (Bc IntKind.u8 (tm 20))),(wB 22 (Ee (O.c (V.s 256 496986003408712215933005303621146343841837811690876167382323004466384420695090407243345123874780946046625255262057845613767806773758184921447759720770971536008171983842311960805720366577116933250839345203839274948261284255908394484732272583221484877694546905335834403051067785895034095251181560891789708940188598129052595634438001880866652824740680664595948164050600812232986714152902334120417949232733424961741260388658846598210939813666227264727603044226856020347194099943897342244906131705541414413428559898943151040826816076322978570758226444464494629814583418847495712557856038296917933182380796641777551368)) (tm 21))),(wB 23 (Bc IntKind.i64 (tm 22))),(wB 24 (AM BA (tm 19) (tm 23))),(wB 2 (AA (tm 24)))]) CC.ret)
abbrev ZG:CC:=(CC.seq bz ZY)
abbrev dE:CC:=(CC.seq rj ZG)
abbrev Yb:CC:=(CC.seq sR dE)
abbrev xf:CC:=(CC.seq (CC.region [(wB 2 (AA (oN 0)))]) Yb)
theorem yE:AV Try.prog 90=⟨25,xf,[(Rs.tmp (AR 2))]⟩:=by kernel_rfl
abbrev oI:CC:=(CC.region [(wB 7 (AA (tm 0))),(wB 8 (AA (tm 4))),(wB 9 (AA (tm 4))),(wB 10 (Bc IntKind.u64 (tm 9))),(wB 11 (AW 76 [(tm 10)])),(wB 12 (AA (tm 1))),(wB 13 (AW 75 [(tm 7),(oN 0),(tm 8),(tm 11),(tm 12)]))])
abbrev yL:CC:=(CC.seq (CC.region [(wB 5 (AA (tm 0))),(wB 6 (Ba (tm 5))),(wB 4 (AA (tm 6)))]) oI)
theorem yD:AV Try.prog 63=⟨14,yL,[]⟩:=by kernel_rfl
abbrev mG:CC:=(CC.seq (CC.region [(wB 4 (AA (oN 0)))]) CC.ret)
abbrev sB:CC:=(CC.cond (tm 12) mG CC.skip)
abbrev pA:CC:=(CC.seq (CC.region [(wB 12 (AA (tm 6)))]) sB)
abbrev fw:CC:=(CC.seq (CC.region [(wB 4 (AA (O.c (V.i IntKind.i64 (Int.negSucc 0)))))]) CC.ret)
abbrev kg:CC:=(CC.seq pA fw)
abbrev pE:CC:=(CC.cond (tm 11) kg CC.skip)
abbrev eW:CC:=(CC.seq (CC.region [(wB 11 (AA (tm 5)))]) pE)
abbrev jy:CC:=(CC.seq (CC.region [(wB 4 (AA (oN 1)))]) CC.ret)
abbrev tJ:CC:=(CC.cond (tm 13) jy CC.skip)
abbrev pP:CC:=(CC.seq (CC.region [(wB 13 (AA (tm 6)))]) tJ)
abbrev XJ:CC:=(CC.seq (CC.region [(wB 4 (AA (O.c (V.i IntKind.i64 (Int.negSucc 0)))))]) CC.ret)
abbrev af:CC:=(CC.cond (tm 16) XJ CC.skip)
abbrev bc:CC:=(CC.seq (CC.region [(wB 14 (AA (tm 0))),(wB 15 (AA (tm 1))),(wB 16 (AM Bu (tm 14) (tm 15)))]) af)
abbrev Zv:CC:=(CC.seq (CC.region [(wB 4 (AA (oN 1)))]) CC.ret)
abbrev Y3:CC:=(CC.cond (tm 19) Zv CC.skip)
abbrev Yl:CC:=(CC.seq (CC.region [(wB 17 (AA (tm 0))),(wB 18 (AA (tm 1))),(wB 19 (AM D9 (tm 17) (tm 18)))]) Y3)
abbrev Wh:CC:=(CC.seq (CC.region [(wB 4 (AA (oN 0)))]) CC.ret)
abbrev cP:CC:=(CC.seq Yl Wh)
abbrev dz:CC:=(CC.seq bc cP)
abbrev aL:CC:=(CC.seq pP dz)
abbrev cV:CC:=(CC.seq eW aL)
abbrev Yd:CC:=(CC.seq (CC.region [(wB 9 (AA (tm 1))),(wB 10 (AW 91 [(tm 9)])),(wB 6 (AA (tm 10)))]) cV)
abbrev aV:CC:=(CC.seq (CC.region [(wB 7 (AA (tm 0))),(wB 8 (AW 91 [(tm 7)])),(wB 5 (AA (tm 8)))]) Yd)
abbrev yT:CC:=(CC.seq (CC.region [(wB 4 (AA (oN 0)))]) aV)
theorem xj:AV Try.prog 77=⟨20,yT,[(Rs.tmp (AR 4))]⟩:=by kernel_rfl
abbrev pY:CC:=(CC.seq (CC.region [(wB 3 (AA (tm 0))),(wB 4 (AA (tm 0))),(wB 5 (AM JQ (tm 3) (tm 4))),(wB 2 (AA (tm 5)))]) CC.ret)
abbrev xA:CC:=(CC.seq (CC.region [(wB 2 (AA (O.c (V.b Bool.false))))]) pY)
theorem yz:AV Try.prog 91=⟨6,xA,[(Rs.tmp (AR 2))]⟩:=by kernel_rfl
abbrev nT:CC:=(CC.seq (CC.region [(wB 5 (AA (tm 0))),(wB 6 (AA (tm 1))),(wB 7 (AW 92 [(tm 5),(tm 6)])),(wB 4 (AA (tm 7)))]) CC.ret)
abbrev xb:CC:=(CC.seq (CC.region [(wB 4 (AA (oN 0)))]) nT)
theorem yR:AV Try.prog 78=⟨8,xb,[(Rs.tmp (AR 4))]⟩:=by kernel_rfl
abbrev mP:CC:=(CC.seq (CC.region [(wB 5 (AA (tm 0))),(wB 6 (AA (tm 1))),(wB 7 (GF (tm 5) (tm 6))),(wB 4 (AA (tm 7)))]) CC.ret)
abbrev yt:CC:=(CC.seq (CC.region [(wB 4 (AA (oN 0)))]) mP)
theorem xi:AV Try.prog 92=⟨8,yt,[(Rs.tmp (AR 4))]⟩:=by kernel_rfl
abbrev pH:CC:=(CC.seq (CC.region [(wB 16 (AH 1 (tm 2))),(wB 17 (AY (tm 16))),(wB 18 (AH 1 (tm 3))),(wB 19 (AY (tm 18))),(wB 20 (AW 77 [(tm 17),(tm 19)])),(wB 4 (AA (tm 20)))]) CC.ret)
abbrev su:CC:=(CC.seq (CC.region [(wB 25 (AH 0 (tm 3))),(wB 26 (AY (tm 25))),(wB 27 (AH 0 (tm 2))),(wB 28 (AY (tm 27))),(wB 29 (AW 77 [(tm 26),(tm 28)])),(wB 4 (AA (tm 29)))]) CC.ret)
abbrev oQ:CC:=(CC.seq (CC.region [(wB 5 (AH 2 (tm 2))),(wB 6 (AY (tm 5))),(wB 7 (AH 2 (tm 3))),(wB 8 (AY (tm 7))),(wB 9 (AW 78 [(tm 6),(tm 8)])),(wB 4 (AA (tm 9)))]) CC.ret)
abbrev gU:CC:=(CC.cond (tm 21) su oQ)
abbrev qR:CC:=(CC.seq (CC.region [(wB 22 (AH 1 (tm 2))),(wB 23 (AY (tm 22))),(wB 24 (AM En (tm 23) (oN 0))),(wB 21 (AA (tm 24)))]) gU)
abbrev iz:CC:=(CC.cond (tm 10) pH qR)
abbrev nf:CC:=(CC.seq (CC.region [(wB 11 (AH 1 (tm 2))),(wB 12 (AY (tm 11))),(wB 13 (AH 1 (tm 3))),(wB 14 (AY (tm 13))),(wB 15 (AM JQ (tm 12) (tm 14))),(wB 10 (AA (tm 15)))]) iz)
abbrev ky:CC:=(CC.block 0 nf)
abbrev x6:CC:=(CC.seq (CC.region [(wB 2 (DK 57 (tm 0))),(wB 3 (DK 57 (tm 1))),(wB 4 (AA (oN 0)))]) ky)
theorem yc:AV Try.prog 64=⟨30,x6,[(Rs.tmp (AR 4))]⟩:=by kernel_rfl
end Go.Proofs.Ytobfgempjekjpaa
namespace Go.Proofs.Ytobfgempjekjpaa
open Go Go.Ev
theorem lv:Try.prog.follows .mixedOrders=true:=by kernel_rfl
open Go.Ev in
instance {nt:Nat} {t:F} {h:H} {K:X->F->H->Prop} {l:List CO} {ch:Option (List Nat×List (Nat×List Nat))}:St (Ok Try.prog nt (.A7 l ch) t h K) (DO Try.prog l t h (K .normal)):=⟨Ok.dw lv⟩
end Go.Proofs.Ytobfgempjekjpaa
end
